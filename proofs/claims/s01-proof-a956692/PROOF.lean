import PyProof.Rows.All
import Wide.All
import OpenK.AllK
import Wide.FinOn
import PyProof.EqAt
import PyProof.EqKinds
import PyProof.TupleCall
import KE.BitLaws
import Open.SpecLaws
import KE.OsHead
import KE.OsGo
import PyProof.Rows.SetFrom
import PyProof.FactsAll.set_1
import PyProof.CollectWalk
import PyProof.Rows.SortShellAny
import PyProof.ForAny
import PyProof.StationsW
import PyProof.RulesAs
import PyProof.ExcInit
import PyProof.InstStoreFacts
import PyProof.ExcBaseAll.ValueError
import PyProof.ExcArgsOwn
import PyProof.InstLoad
import PySem.Challenge.RW_runwishes_s01_answers
set_option autoImplicit false
set_option Elab.async false
set_option linter.all false
set_option maxRecDepth 100000
set_option maxHeartbeats 0
set_option compiler.extract_closed false
open Array renaming getElem?_eq_getElem->pD,length_toList->pE,getElem?_eq_some_iff->A1,getElem?_eq_none->Fo,getElem?_toList->Fp,mem_toList_iff->Qj,all_toList->Y1,any_toList->Y2,toList->Y3,toList_push->Y4
open Bool renaming and_eq_true->cH,false_ne_true->eX,eq_iff_iff->gJ,noConfusion->kW,false_and->pF,true_and->tm,not_eq_true'->vh,and_true->A2,false_eq_true->Fq,or_eq_true->Fs,and_eq_true_iff->Ql,not_false->Y6,or_false->Y7
open Char renaming toNat->Qn
open Except renaming ok->pG
open False renaming elim->fN
open ForInStep renaming yield->Fw
open Int renaming toNat_natCast->md
open List renaming length_map->bC,getElem?_map->bU,mem_cons->bX,length_cons->cy,getElem?_eq_getElem->cV,range->cW,length_append->cY,mem_map->dI,getElem?_eq_some_iff->dQ,map_cons->dY,mem_cons_of_mem->el,mem_cons_self->eB,size_toArray->eC,mem_singleton->eY,map_append->fz,map_map->gm,all_cons->ip,append_assoc->iL,length_drop->iM,length_take->iN,length_nil->je,mem_of_getElem?->jf,not_mem_nil->jg,replicate->jh,append_nil->jI,mem_append->jJ,take_length->jK,drop_zero->j9,length_pos_iff->ka,all_eq_true->k7,take_succ->me,cons_append->nh,nil_append->ni,getElem?_eq_none->ow,length->ox,length_dropLast->oy,map_drop->oz,drop_drop->pH,lookup_cons->qI,mem_append_right->qJ,sum_cons->qK,drop_eq_getElem_cons->tu,getElem?_append_left->tw,getElem?_range->tD,lookup->tE,map_take->tF,mem_filterMap->tG,any_cons->vp,drop_length->vq,find?_cons->vr,foldl_cons->vt,nodup_cons->vv,pairwise_cons->vw,range_succ_eq_map->vx,set_set->vy,zipWith->vz,flatten_cons->x8,getD_eq_getElem?_getD->x9,getElem?_append_right->ya,getElem?_drop->yb,length_eq_zero_iff->yc,length_filterMap_le->yd,map_nil->yf,mem_of_mem_drop->yg,replicate_succ->yh,take_of_length_le->yi,all_map->A8,contains_iff_mem->Ba,drop_left->Bb,ext_getElem?->Bc,flatMap_append->Bd,foldl_append->Be,length_range->Bf,length_set->Bg,mem_range->Bh,reverse_cons->Bi,takeWhile_cons->Bj,all_nil->Fz,any_eq_true->FE,filterMap_append->FF,filterMap_map->FG,filter_append->FH,flatMap_cons->FJ,getElem?_cons_zero->FK,getElem?_dropLast->FL,getElem_of_mem->FN,length_filter_le->FQ,length_reverse->FR,length_singleton->FT,map->FV,map_reverse->FW,mem_flatMap->FX,sum_append->FY,take_left->FZ,any_map->Qt,dropLast_eq_take->Qu,dropWhile_cons->Qv,filterMap_cons->Qw,filterMap_cons_some->Qx,foldl->Qy,getElem?_set_ne->Qz,getElem?_set_self->QA,getElem?_take->QB,getElem_mem->QC,getLast?_eq_getElem?->QD,getLast?_eq_some_getLast->QE,getLast?_map->QF,isEmpty_eq_false_iff->QG,length_flatMap->QH,mem_append_left->QI,mem_filter->QJ,mem_of_mem_take->QK,nodup_nil->QL,of_mem_zip->QM,pairwise_map->QN,takeWhile_append_dropWhile->QO,take_append_drop->QP,take_succ_cons->QQ,toList_toArray->QR,any_eq_false->Zd,contains_cons->Ze,count_append->Zf,count_cons->Zg,dropLast_concat->Zh,dropLast_concat_getLast->Zi,drop_succ_cons->Zj,drop_take->Zk,exists_cons_of_ne_nil->Zl,filter_cons_of_neg->Zm,filter_cons_of_pos->Zn,filter_nil->Zo,find?_isSome->Zp,foldl_map->Zq,forIn_nil->Zr,getElem?_cons_succ->Zs,getElem?_replicate->Zt,getElem_drop->Zu,getLast?_cons_cons->Zv,head?_cons->Zw,head?_drop->Zx,isEmpty_cons->Zy,length_eraseIdx_of_lt->Zz,length_erase_of_mem->ZA,length_take_le->ZC,map_dropLast->ZD,map_inj_right->ZE,mem_erase_of_ne->ZF,mem_iff_getElem?->ZG,nodup_append->ZH,pairwise_lt_range->ZI,range_succ->ZJ,reverse_append->ZK,reverse_reverse->ZL,sum_reverse->ZM,take_sublist->ZN,take_zero->ZO
open List.cons renaming inj->A9
open Nat renaming le_refl->cA,zero_le->dJ,ne_of_lt->dR,le_trans->fA,lt_of_lt_of_le->g7,lt_irrefl->mh,le_of_lt->qM,lt_succ_of_lt->tH,ne_of_gt->vA,le_of_eq->yj,lt_succ_self->yk,toDigits->yl,le_succ->Bk,mul_le_mul_right->Bl,not_lt_zero->Bm,zero_add->Bn,add_zero->F7,le_of_succ_le->F8,pow_le_pow_right->F9,pow_succ->Ga,add_comm->QV,digitChar->QW,mod_lt->QX,min_eq_left->ZU,toDigits_of_lt_base->ZV
open Option renaming map_some->pJ,isSome_map->Gd,getD_none->ZX,isSome_some->ZY,map_eq_some_iff->ZZ
open Option.some renaming inj->g8,injEq->ym
open Or renaming inl->aF,inr->oA
open PyFlat renaming call->gK,calls->qN,row->qO,rows->Bp,told->Bq,played->Gf
open PyProof.Rows renaming firstMet->gL,envOfC->ir,size_push'->oB,AllBare->qP,Call_->tJ,IntsAre->tK,callWith_type1->tL,seqObj->vC,Subscript_->Q0,boot_range->Q1,firstMet_succ->Q2,subscriptTail->Q3,callWith_builtin1->Z2,firstMet_length_le->Z3,iadd_int->Z4,subscriptTail_builtinR->Z5
open PyProof.Rows.F renaming plain_set_update_loop->QZ,entry_set_update_loop->Z1
open PySem renaming Addr->aa,Value->af,Str->ah,Shared->ao,wpAny_bind->aB,wpAny->aE,Heap->aG,Obj->aM,World->aQ,Program->aV,Stmt->aW,FuncData->bu,Expr->bw,wpAny_pure->bz,Around->bO,Pos->b4,starEach->b5,mainGlobals->cX,boot_len->dv,Env->dM,Scope->e9,rawInt->f9,backTo->gq,cellsFrom->gr,Sem->gM,compareOp->hJ,Tok->ji,pyNext->jj,sizeLine_eq->jk,wpAny_mono->jl,NameKind->jL,DictEntry->ke,mem_of_lookup->ki,sysModules->kj,typeLookup->lE,attributeBase->mn,compEnvC->mq,codeAny->nj,cLine->oE,wpAny_call_entry->oF,bootBuiltins->pO,scanBound->pP,wpAny_holding->pQ,wpAny_truthy_bool->pR,Model->qT,Params->qU,PyData->qV,atKey->qX,bindC->qY,bindL->qZ,builtinLookup_eq_fast->rb,excClassObj->rf,setField->rh,typeIs_str->rj,typeLookup_type->rk,wpAny_loadPart_at->rm,wpAny_newObj_type->rp,CmpOp->tM,Result->tO,pushCells->tS,pyIter->tT,setNext->tU,valueAt->tV,BindsTo->vD,Paired->vF,behindInMarks->vK,binaryOp->vM,fromIndex->vN,nsFind->vO,relayAll->vP,sliceBounds->vQ,swapsWith->vS,wpAny_Name->vT,wpAny_passesOwn->vU,wpAny_setState_of->vV,GenState->yr,backToKw->yy,call_meets->yz,callerA->yA,codeAny_builtin->yB,codeAny_mono->yC,getItem->yD,getMethod->yE,keywordEach->yF,newExc->yG,notedBy->yH,setEntries->yI,standAt->yJ,wpAny_Call_Name_kw->yK,wpAny_askSetting->yL,wpAny_attempt->yM,wpAny_callSpecial?_slot->yN,wpAny_fieldsOf->yO,wpAny_loadName_local->yP,wpAny_setField_rec->yQ,Keyword->Bu,Operator->Bw,bindArgs->BG,getAttr->BH,isSubtype_type->BI,isTrue->BJ,noteFrame->BK,plainId_quiet->BL,tupleKind->BM,typeOf->BN,wpAny_execs_nil->BO,wpAny_field->BP,wpAny_isInstance->BQ,wpAny_rule->BR,wpAny_setField->BS,wpAny_standAt->BU,wpAny_typeLookup_exc->BV,IsRangeIter->Gq,callWith->GD,drawOrder->GF,fieldsOf->GG,firstArgMember->GH,foldedSetIterable->GI,letOwnedTupleGo->GJ,pushCells_keeps->GK,raiseNew->GL,setsByText->GN,wpAny_call->GO,wpAny_execs_cons->GP,wpAny_of_eq->GQ,wpAny_pyIter_slot->GR,wpAny_specialOf->GS,wpAny_typeNameOfWhole_keyiter->GU,wpAny_typeNameOf_keyiter->GV,StoreFacts->Rm,Within->RC,builtinsNs->RE,checkBuiltinCall->RF,codeAny_call_builtin->RG,intKind_is->RH,intText?->RI,isSubtype_stop->RJ,plainObj_wpAny_Assign_Attribute->RL,recursionLimit->RN,seqIndex_of->RO,tupleKind_room_in1->RP,typeIs_int->RQ,wpAny_dictEntries->RR,wpAny_dictEpoch->RS,wpAny_pyIter_list->RT,wpAny_seqItems->RU,wpAny_typeOf->RV,wpAny_updateSeq->RW,codeAny_call_function->aaP,codeAny_extend_loopS->aaQ,evalArgs_none->aaR,wpAny_isOneOf_keyiter->aaS,wpAny_isSubtype_exc->aaT,wpAny_isTrue_Compare1->aaU,wpAny_loadName_cell->aaV,wpAny_newFunctionEnv_cells->aaW,wpAny_pyIter_range->aaX,wpAny_pyIter_rangeiter->aaY,wpAny_pyNext_range_end->aaZ,wpAny_raiseNew_none->aa0
open PySem.Around renaming under_plainId->Br,under->Q4
open PySem.Builtin renaming bitAnd->Q6
open PySem.Builtin.Dict renaming showsAll->Z6
open PySem.Builtin.Dict_items renaming ownsTuple->Z7
open PySem.Builtin.Frozenset renaming newClass->apP,sizeOf->apQ,updateFrom->apR
open PySem.Builtin.List renaming listExtendWith->yo,listSameRef->Gg,listTooLong->Gh,listItems->Z8,listLengthHint->Z9
open PySem.Builtin.Range renaming rangeSize->Q5
open PySem.Builtin.Str renaming strSliceIndices->qQ,occurrences->aaa
open PySem.Calls renaming spliced_cons->qR,spliced_nil->vE,callWith_builtin->yp,evalArgs_plain->Gi,Name_function_global->aab
open PySem.Challenge renaming rw_runwishes_s01_answers->pK,pw_runwishes_s01_answers->apS
open PySem.Code renaming isFrame->Q7
open PySem.Data renaming seq->Gj
open PySem.EntryCells renaming newEntry->aac
open PySem.Expr renaming Call->Q8
open PySem.F renaming plainAttrs_list->g9,slot_list_append->lj,type_list_append->mi,called_set->tN,slot_dict_keyiterator_next->yq,slot_list_extend->Bs,slot_str_isdigit->Gk,type_list_extend->Gm,type_str_isdigit->Gn,plainAttrs_str->Q9,slot_list_pop->Ra,slot_str_find->Rb,args_dict_keyiterator_next_1->aad,entry_dict_keyiterator_next->aae,plain_extend_loop->aaf,plain_list_iadd->aag,slot_dict_get->aah,slot_dict_getitem->aai,slot_dict_iter->aaj,slot_dict_keyiterator_iter->aak,slot_str_partition->aal,slot_str_startswith->aam,store_ValueError->aan,type_list_pop->aao,type_str_find->aap
open PySem.Heap renaming lt_size->cj,get?_push_of_some->cD,get?_push_size->dZ,size_push->kf,SameBut->oC,get?_update_other->pL,get?_update_self->qS,get?_none_of_le->aar,get?_update_ne->aas
open PySem.Heap.Ns1 renaming of_empty->aaq
open PySem.Heap.SameBut renaming update->Gp
open PySem.IsRange renaming new->Rc
open PySem.ItemsOf renaming nil->aat
open PySem.NameKind renaming free->yt,cell->Rf
open PySem.Obj renaming mapSeq->mj,mapFields->pM,data_mapFields->Bv,isFreed_of_fields->Gr,putSet->Rh,cls_mapFields->aau
open PySem.Paired renaming length->yu,snoc->aav
open PySem.PassesOwn renaming never->kg,leaving->Gs
open PySem.PyData renaming eqv->Bx,bool->aaw
open PySem.SeqAt renaming shaped->Ri
open PySem.SeqAt.EqAt renaming int_str->aax,str_int->aay
open PySem.SetTable renaming below->kh,grown->vG,has->By,Probe->aaz,sizeAbove->aaA,slot->aaB
open PySem.SetTable.below renaming go->Rj
open PySem.SetTable.probe renaming go->Rk
open PySem.Shared renaming TypeIs->Gu
open PySem.Str renaming ofString->bB,empty->hG,join->Ro,length->Rp
open PySem.StrLaws renaming sliceText->yw,At->aaC
open PySem.Txt renaming partition->jM,isalpha->Bz,isdigit->BA,islower->BB,join->BC
open PySem.Unicode renaming isAlpha->Gv,isTitle->Gw,isUpper->Gx,isDigit->Rq,isLower->Rr
open PySem.Value renaming ref->dm,int->ll,type->ml,bool->tP,builtin->BD,isInt_shape->Rt,isStrOf->aaD
open PySem.Value.type renaming inj->aaE
open PySem.W renaming Frag->aK,nsIn->fB,WData->fG,findIn->lx,fnOf->ly,keepIn->lz,ns_none_of->mm,isFn->pN,emptyDict->qW,WellAll->tQ,instObj->tR,codeIn->vJ,mg_of->yx,plainGet->BF,callWith_K->Gz,hasDictIn->GA,lookIn->GB,makesIn->GC,methodObj->Rv,plainGet_of->Rx,plainOver->Ry,takerIn->RA,WRecords->aaF,WalkOS->aaG,callWith_K0->aaH,cellsFrom_some->aaI,codeRec_of->aaJ,handedIn->aaK,length_le_weightAllW->aaL,methodCall_KW->aaM,typeIn->aaN
open PySem.W.Codec renaming app->vH,encAll->vI,denoteAll->BE,withinAll->Ru
open PySem.W.WData renaming weightAll->Gy
open PySem.Walks renaming list->RB
open PySem.Within renaming cons->aaO
open PyVatrca renaming shape->eE,whole->GW,answers->aa1,answers_asked->aa2,calls->aa3
open Sum renaming inr->rA,inl->vW
open Sum.inl renaming inj->R0
open Sum.inr renaming inj->aa5
open UInt8 renaming toNat->fQ,ofNat->jN,toNat_inj->yR,ofNat_toNat->aa7
open Vatrca renaming Text->au,txt->aX,nextTok->bf,nat->bS,isSmall->bW,readBy->cu,signOf->cw,isName->cz,patternsOf->cG,Wish->cI,cutAt->cZ,numberOf->c7,truths->dg,isDigit->di,HASH->dA,PLUS->dB,readRest->dC,DOT->eK,CLOSE->fj,fromEnd->fk,tokensFrom->fm,Pattern->fH,patternOf->gb,patternText->gf,partOf->gu,numbers->gO,readOne->gP,Sign->iz,decimal->iA,rowsFrom->iP,Read->jn,bracketed->jo,endOf->jq,markedText->jr,turning->js,counted->jO,eventsFrom->jP,atomRead->km,eventOf->kn,isSign->ko,readRun->kq,patternIn->lF,readWish->lG,signsOf->lH,tokenAt->lI,withEvent->lJ,AT->mz,countFrom->mB,eventText->mC,putNumber->mD,withFresh->mE,doAdd->nq,doPut->nr,whereTrue->nt,BLANK->pS,fits->pT,isWord->pU,MOST_NUMBER->rB,timeAt->rC,Fault->tY,Tok->tZ,digitBehind->t4,dots->t5,spaced->t6,State->vX,doDrop->vZ,withWish->wc,answerOf->yT,prefixOf->yU,rangeText->yV,runText->yW,stepsFor->yX,valueOf->yY,MOST_EVENTS->BZ,freshName->B0,holdsAt->B1,readPart->B2,samples->B3,Event->G0,ahead->G1,Call->R3,MOST_LEVELS->R4,MOST_NODES->R5,MOST_PATTERNS->R6,MOST_WISH->R7,within->R8,MOST_NAME->aa8,OPEN->aa9,doLoad->abb,stuck->abc
open Vatrca.Pattern renaming mk->aba
open Vatrca.Range.mk renaming injEq->apT
open Vatrca.Wish renaming nodes->vY,allPatterns->yS
open VatrcaNeutral renaming callOf->eM,text?->fC,asked1->jQ,natural->jR,step->rD,whole60->B4,start->abd
namespace Vt
open Vatrca
theorem iQ{p:UInt8->Prop}(h:∀n:Fin 256,p (jN n.val))(c:UInt8):p c:=by
 have e:jN c.toNat=c:=by simp
 have q:=h ⟨c.toNat,c.toNat_lt⟩;rw[e]at q;exact q
noncomputable def cl(c:UInt8):UInt8:=if 32<=c/\c<=126/\c≠37 then c else 63
noncomputable def good(k:UInt8):Bool:=decide (32<=k)&&decide (k<=126)&&decide (k≠37)&&decide (k≠63)
theorem wo:∀c,bW (cl c)=bW c:=iQ (by decide+kernel)
theorem HW:∀c,di (cl c)=di c:=iQ (by decide+kernel)
theorem acg:∀c,ko (cl c)=ko c:=iQ (by decide+kernel)
theorem SJ:∀c,rangeByte (cl c)=rangeByte c:=iQ (by decide+kernel)
theorem EN:∀c,bW c=true->cl c=c:=iQ (by decide+kernel)
theorem S7:∀c,di c=true->cl c=c:=iQ (by decide+kernel)
theorem W8:∀c,rangeByte c=true->cl c=c:=iQ (by decide+kernel)
theorem aoc:∀c,ko c=true->cl c=c:=iQ (by decide+kernel)
theorem acf:∀c,cl c<128:=iQ (by decide+kernel)
theorem mI{k:UInt8}(hk:good k=true)(c:UInt8):cl c=k↔c=k:=by
 unfold good at hk;simp only[cH,decide_eq_true_eq]at hk;obtain⟨⟨⟨h1,h2⟩,h3⟩,h4⟩:=hk;unfold cl;split
 .exact Iff.rfl
 .rename_i h;constructor
  .intro e;exact absurd e.symm h4
  .intro e;subst e;exact absurd ⟨h1,h2,h3⟩ h
noncomputable def clean(t:au):au:=t.map cl
theorem Ci:clean []=[]:=rfl
theorem lL(c:UInt8)(r:au):clean (c::r)=cl c::clean r:=rfl
theorem y9(t:au):(clean t).length=t.length:=by simp[clean]
theorem HX(t:au):(clean t).isEmpty=t.isEmpty:=by cases t<;>rfl
theorem Cj{p:UInt8->Bool}(hp:∀c,p c=true->cl c=c):∀{t:au},t.all p=true->clean t=t
 |[],_=>rfl
 |c::r,h=>by
  rw[ip,cH]at h;rw[lL,hp c h.1,Cj hp h.2]
theorem SK{p:UInt8->Bool}(hp:∀c,p (cl c)=p c)(t:au):(clean t).all p=t.all p:=by
 induction t with
 |nil=>rfl
 |cons c r ih=>rw[lL,ip,ip,hp,ih]
theorem acn{p:UInt8->Bool}(hp:∀c,p (cl c)=p c)(t:au):(clean t).takeWhile p=clean (t.takeWhile p):=by
 induction t with
 |nil=>rfl
 |cons c r ih=>
  rw[lL,Bj,Bj,hp];split
  .rw[lL,ih]
  .rfl
theorem SM{p:UInt8->Bool}(hp:∀c,p (cl c)=p c)(t:au):(clean t).dropWhile p=clean (t.dropWhile p):=by
 induction t with
 |nil=>rfl
 |cons c r ih=>
  rw[lL,Qv,Qv,hp];split
  .exact ih
  .rfl
theorem all_takeWhile{p:UInt8->Bool}(t:au):(t.takeWhile p).all p=true:=by
 induction t with
 |nil=>rfl
 |cons c r ih=>
  rw[Bj];split
  .rename_i h;rw[ip,h,ih];rfl
  .rfl
theorem HY{p:UInt8->Bool}(hp:∀c,p (cl c)=p c)(hq:∀c,p c=true->cl c=c)(t:au):(clean t).takeWhile p=t.takeWhile p:=by
 rw[acn hp,Cj hq (all_takeWhile t)]
theorem aij(t:au):cz (clean t)=cz t:=by
 unfold cz;rw[y9,SK wo]
theorem Lp{t:au}(h:cz t=true):t.all bW=true:=by
 unfold cz at h;simp only[cH]at h;exact h.2
theorem SN{t:au}(h:cz t=true):clean t=t:=Cj EN (Lp h)
theorem Wc(t:au):c7 (clean t)=c7 t:=by
 by_cases h:t.all di=true
 .rw[Cj S7 h]
 .have h':¬(clean t).all di=true:=by rw[SK HW];exact h
  unfold c7;simp only[Bool.not_eq_true]at h h';rw[h,h'];simp
theorem Cp{k:UInt8}(hk:good k=true)(t:au):cZ k (clean t)=(cZ k t).map fun x=>(clean x.1,clean x.2):=by
 induction t with
 |nil=>rfl
 |cons c r ih=>
  rw[lL];unfold cZ;by_cases h:c=k
  .rw[if_pos h,if_pos ((mI hk c).mpr h)];rfl
  .rw[if_neg h,if_neg (fun e=>h ((mI hk c).mp e)),ih];cases cZ k r<;>rfl
theorem JU(t:au):kn (clean t)=kn t:=by
 unfold kn;rw[Cp (by decide)];cases cZ AT t with
 |none=>rfl
 |some x=>
  obtain⟨k,r⟩:=x;simp only[pJ];rw[Cp (by decide)];cases cZ dA r with
  |none=>rfl
  |some y=>
   obtain⟨s,q⟩:=y;simp only[pJ];rw[Cp (by decide)];cases cZ dB q with
   |none=>rfl
   |some z=>
    obtain⟨n,g⟩:=z;simp only[pJ];rw[Wc,Wc];cases c7 n with
    |none=>rfl
    |some a=>
     cases c7 g with
     |none=>rfl
     |some b=>
      simp only[aij];by_cases h:(cz k&&cz s)=true
      .rw[if_pos h,if_pos h];rw[cH]at h;rw[SN h.1,SN h.2]
      .rw[if_neg h,if_neg h]
theorem Mm{mark:UInt8}{own:UInt8->Bool}(hk:good mark=true)(hp:∀c,own (cl c)=own c)(hq:∀c,own c=true->cl c=c)(t:au):gu mark own (clean t)=((gu mark own t).1,clean (gu mark own t).2):=by
 cases t with
 |nil=>rfl
 |cons c r=>
  rw[lL];simp only[gu];by_cases h:c=mark
  .rw[if_pos h,if_pos ((mI hk c).mpr h)];rw[HY hp hq,SM hp]
  .rw[if_neg h,if_neg (fun e=>h ((mI hk c).mp e))];rfl
theorem Ww(t:au):lF (clean t)=lF t:=by
 unfold lF;simp only[HY wo EN,SM wo,Mm (mark:=AT) (by decide) wo EN,Mm (mark:=dA) (by decide) SJ W8,Mm (mark:=dB) (by decide) SJ W8,HX]
theorem acj(t:au):(clean t).getLast?=t.getLast?.map cl:=by
 unfold clean;rw[QF]
theorem aci(t:au):(clean t).dropLast=clean t.dropLast:=by
 unfold clean;rw[ZD]
theorem amf(t:au):gb (clean t)=gb t:=by
 cases t with
 |nil=>rfl
 |cons c r=>
  rw[lL];unfold gb;simp only;have e:(cl c=OPEN/\(clean r).getLast?=some fj)↔(c=OPEN/\r.getLast?=some fj):=by
   rw[mI (by decide),acj];constructor
   .rintro⟨h1,h2⟩;refine⟨h1,?_⟩;cases e:r.getLast? with
    |none=>rw[e]at h2;cases h2
    |some d=>
     rw[e,pJ]at h2;rw[(mI (k:=fj) (by decide) d).mp (g8 h2)]
   .rintro⟨h1,h2⟩;refine⟨h1,?_⟩;rw[h2,pJ,(mI (k:=fj) (by decide) fj).mpr rfl]
  by_cases h:c=OPEN/\r.getLast?=some fj
  .rw[if_pos h,if_pos (e.mpr h),aci,Ww]
  .rw[if_neg h,if_neg (fun q=>h (e.mp q))]
theorem ano(t:au):∀(p:Nat)(got:au),iP p (clean got) (clean t)=(iP p got t).map fun x=>(x.1,clean x.2):=by
 induction t with
 |nil=>
  intro p got;rw[Ci];unfold iP;rw[HX,y9];split
  .rfl
  .simp[clean]
 |cons c r ih=>
  intro p got;rw[lL];unfold iP;simp only[mI (k:=BLANK) (by decide),HX,y9];split
  .split
   .exact ih (p+1) []
   .rw[dY];have:=ih (p+1) [];rw[Ci]at this;rw[this];simp[clean]
  .exact ih (p+1) (c::got)
theorem aeu(l:List (Nat×au)):∀n,jP n (l.map fun x=>(x.1,clean x.2))=jP n l:=by
 induction l with
 |nil=>intro n;rfl
 |cons x r ih=>
  intro n;rw[dY];unfold jP;simp only[JU,ih]
theorem am5(t:au):kq (clean t)=kq t:=by
 unfold kq;have:=ano t 0 [];rw[Ci]at this;rw[this,aeu]
theorem ack(t:au):(clean t).head?=t.head?.map cl:=by cases t<;>rfl
theorem acm(t:au):di ((clean t).headD 0)=di (t.headD 0):=by
 cases t with
 |nil=>rfl
 |cons c r=>exact HW c
theorem ao9(t:au):lI (clean t)=lI t:=by
 cases t with
 |nil=>rfl
 |cons c r=>
  have h62:((clean r).head?=some 62)↔(r.head?=some 62):=by
   rw[ack];cases r with
   |nil=>exact Iff.rfl
   |cons d r=>simp only[Zw,pJ,ym];exact mI (by decide) d
  have hw:(clean (c::r)).takeWhile bW=(c::r).takeWhile bW:=HY wo EN _;rw[lL]at hw ⊢;unfold lI;simp only[acg,mI (k:=45) (by decide),mI (k:=OPEN) (by decide),wo,HW,hw,h62,acm,Cp (k:=fj) (by decide)];by_cases h1:ko c=true
  .rw[if_pos h1,if_pos h1,aoc c h1]
  .rw[if_neg h1,if_neg h1];by_cases h2:c=45
   .rw[if_pos h2,if_pos h2]
   .rw[if_neg h2,if_neg h2];by_cases h3:c=OPEN
    .rw[if_pos h3,if_pos h3];cases cZ fj r with
     |none=>rfl
     |some x=>
      obtain⟨a,b⟩:=x;simp only[pJ,Ww,y9]
    .rw[if_neg h3,if_neg h3];by_cases h4:bW c=true
     .rw[if_pos h4,if_pos h4]
     .rw[if_neg h4,if_neg h4];by_cases h5:di c=true
      .rw[if_pos h5,if_pos h5,S7 c h5]
      .rw[if_neg h5,if_neg h5]
theorem ach(n:Nat)(t:au):(clean t).drop n=clean (t.drop n):=by unfold clean;rw[oz]
theorem PQ:∀(k p:Nat)(t:au),fm k p (clean t)=fm k p t
 |_,_,[]=>by simp only[Ci]
 |0,_,_::_=>rfl
 |k+1,p,c::r=>by
  rw[lL];unfold fm;simp only[mI (k:=BLANK) (by decide)];split
  .exact PQ k (p+1) r
  .have e:=ao9 (c::r);rw[lL]at e;rw[e];cases lI (c::r)with
   |none=>rfl
   |some y=>
    obtain⟨x,n⟩:=y;have d:=ach n (c::r);rw[lL]at d;simp only[d,PQ k (p+n) _]
theorem am7(t:au):lG (clean t)=lG t:=by
 unfold lG;rw[y9,PQ]
theorem t7{c:UInt8}:∀{t a b:au},cZ c t=some (a,b)->t=a++c::b/\c∉a
 |[],_,_,h=>by cases h
 |d::r,a,b,h=>by
  unfold cZ at h;by_cases e:d=c
  .rw[if_pos e]at h;cases h;subst e;simp
  .rw[if_neg e]at h;cases q:cZ c r with
   |none=>rw[q]at h;cases h
   |some x=>
    rw[q]at h;cases h;obtain⟨h1,h2⟩:=t7 (a:=x.1) (b:=x.2) q;refine⟨by rw[nh,<-h1],?_⟩;intro m;rcases bX.mp m with m|m
    .exact e m.symm
    .exact h2 m
theorem Ic{c:UInt8}:∀{t:au},cZ c t=none->c∉t
 |[],_=>by simp
 |d::r,h=>by
  unfold cZ at h;by_cases e:d=c
  .rw[if_pos e]at h;cases h
  .rw[if_neg e]at h;cases q:cZ c r with
   |none=>
    have:=Ic q;intro m;rcases bX.mp m with m|m
    .exact e m.symm
    .exact this m
   |some x=>rw[q]at h;cases h
theorem Co{c:UInt8}:∀{a b:au},c∉a->cZ c (a++c::b)=some (a,b)
 |[],b,_=>by simp[cZ]
 |d::r,b,h=>by
  have h1:¬d=c:=fun e=>h (by rw[e];exact eB);have h2:c∉r:=fun m=>h (el _ m);rw[nh];unfold cZ;rw[if_neg h1,Co h2];rfl
theorem SW{c:UInt8}{t:au}(h:c∉t):cZ c t=none:=by
 cases q:cZ c t with
 |none=>rfl
 |some x=>exact absurd (by rw[(t7 q).1];simp) h
noncomputable def part(c:UInt8)(t:au):au×au×au:=match cZ c t with
 |some (a,b)=>(a,[c],b)
 |none=>(t,[],[])
theorem ama{c:UInt8}{a b:au}(h:c∉a):part c (a++c::b)=(a,[c],b):=by
 unfold part;rw[Co h]
theorem part_free{c:UInt8}{t:au}(h:c∉t):part c t=(t,[],[]):=by
 unfold part;rw[SW h]
theorem DQ(c:UInt8)(t:au):(c∉t/\part c t=(t,[],[]))\/∃a b,t=a++c::b/\c∉a/\part c t=(a,[c],b):=by
 unfold part;cases q:cZ c t with
 |none=>exact .inl ⟨Ic q,rfl⟩
 |some x=>exact .inr ⟨x.1,x.2,(t7 q).1,(t7 q).2,rfl⟩
noncomputable def Ds(t:au):Option G0:=let a:=part AT t
 let b:=part dA a.2.2
 let c:=part dB b.2.2
 if cz a.1=true/\cz b.1=true then match c7 c.1,c7 c.2.2 with
  |some x,some y=>some ⟨a.1,b.1,x,y⟩
  |_,_=>none
 else none
theorem Wd:c7 []=none:=rfl
theorem aik:cz []=false:=rfl
theorem aiY(t:au):Ds t=kn t:=by
 unfold Ds kn;unfold part;cases h1:cZ AT t with
 |none=>simp[aik,cZ]
 |some x=>
  obtain⟨k,r⟩:=x;simp only;cases h2:cZ dA r with
  |none=>simp[Wd,cZ]
  |some y=>
   obtain⟨s,q⟩:=y;simp only;cases h3:cZ dB q with
   |none=>
    simp only[Wd];split
    .cases c7 q<;>rfl
    .rfl
   |some z=>
    obtain⟨n,g⟩:=z;simp only;by_cases hn:cz k=true/\cz s=true
    .rw[if_pos hn];have oY:(cz k&&cz s)=true:=by rw[hn.1,hn.2];rfl
     simp only[oY,if_true];cases c7 n<;>cases c7 g<;>rfl
    .rw[if_neg hn];have oY:(cz k&&cz s)=false:=by
      cases hk:cz k with
      |false=>rfl
      |true=>cases hs:cz s with
       |false=>rfl
       |true=>exact absurd ⟨hk,hs⟩ hn
     simp only[oY];cases c7 n<;>cases c7 g<;>rfl
noncomputable def gQ:au->Option (au×au)
 |[]=>none
 |[_]=>none
 |c::d::r=>if c=eK/\d=eK then some ([],r)else(gQ (d::r)).map fun x=>(c::x.1,x.2)
noncomputable def sr(t:au):Option Range:=match gQ t with
 |none=>(c7 t).map fun n=>⟨n,n⟩
 |some (a,b)=>match jq 0 a,jq rB b with
  |some x,some y=>if y<x\/t=dots then none else some ⟨x,y⟩
  |_,_=>none
theorem L9{t:au}{n:Nat}(h:c7 t=some n):t.all di=true/\t≠[]:=by
 unfold c7 at h;split at h
 .rename_i q;simp only[cH,vh]at q;refine⟨q.1.1.2,?_⟩;rintro rfl;simp at q
 .cases h
theorem ad6{t:au}(h:t.all di=true):eK∉t:=fun m=>by
 have:=k7.mp h eK m;revert this;decide
theorem Ma{t:au}(h:eK∈t):c7 t=none:=by
 cases q:c7 t with
 |none=>rfl
 |some n=>exact absurd h (ad6 (L9 q).1)
theorem aei{n:Nat}{t:au}(h:eK∈t):jq n t=none:=by
 unfold jq;rw[if_neg,Ma h];intro e;cases t with
 |nil=>cases h
 |cons=>cases e
theorem SU:∀{t:au},eK∉t->gQ t=none
 |[],_=>rfl
 |[_],_=>rfl
 |c::d::r,h=>by
  unfold gQ;rw[if_neg (fun e=>h (by rw[e.1];exact eB)),SU (fun m=>h (el _ m))];rfl
theorem Cn:∀{t a b:au},gQ t=some (a,b)->t=a++eK::eK::b
 |[],_,_,h=>by cases h
 |[_],_,_,h=>by cases h
 |c::d::r,a,b,h=>by
  unfold gQ at h;by_cases e:c=eK/\d=eK
  .rw[if_pos e]at h;cases h;rw[e.1,e.2];rfl
  .rw[if_neg e]at h;cases q:gQ (d::r)with
   |none=>rw[q]at h;cases h
   |some x=>
    rw[q]at h;cases h;rw[nh,<-Cn (a:=x.1) (b:=x.2) q]
theorem SV:∀{a b:au},eK∉a->gQ (a++eK::eK::b)=some (a,b)
 |[],b,_=>by simp[gQ]
 |[c],b,h=>by
  have h1:¬c=eK:=fun e=>h (by rw[e];exact eB);simp[gQ,h1]
 |c::d::r,b,h=>by
  have h1:¬c=eK:=fun e=>h (by rw[e];exact eB);have ih:=SV (a:=d::r) (b:=b) (fun m=>h (el _ m));rw[nh]at ih;rw[nh,nh];unfold gQ;rw[if_neg (fun e=>h1 e.1),ih];rfl
theorem LH(t:au):sr t=rangeOf t:=by
 unfold rangeOf;cases h1:cZ eK t with
 |none=>
  unfold sr;rw[SU (Ic h1)]
 |some x=>
  obtain⟨a,r⟩:=x;obtain⟨e,hf⟩:=t7 h1;have hm:eK∈t:=by rw[e];simp
  cases r with
  |nil=>
   simp only;unfold sr;cases q:gQ t with
   |none=>simp only[Ma hm];rfl
   |some y=>
    obtain⟨a',b'⟩:=y;have e2:=Cn q;exfalso;rw[e]at e2;have c1:(a++[eK]).count eK=1:=by rw[Zf,List.count_eq_zero_of_not_mem hf];decide
    rw[e2,Zf,Zg,Zg]at c1;simp at c1;lia
  |cons d b=>
   simp only;by_cases hd:d=eK
   .subst hd;unfold sr;rw[e,SV hf];simp only[true_and];by_cases iT:(a.isEmpty&&b.isEmpty)=false
    .rw[if_pos iT];have bL:¬(a++eK::eK::b=dots):=by
      intro z;cases a with
      |nil=>
       have:b=[]:=by simpa[dots]using z
       subst this;cases iT
      |cons u v=>
       have h2:=congrArg ox z;simp[dots]at h2;lia
     cases jq 0 a with
     |none=>rfl
     |some x=>
      cases jq rB b with
      |none=>rfl
      |some y=>
       simp only[bL,or_false];by_cases wW:x<=y
       .rw[if_pos wW,if_neg (by lia)]
       .rw[if_neg wW,if_pos (by lia)]
    .rw[if_neg iT];have Ul:a=[]/\b=[]:=by
      cases a with
      |nil=>cases b with
       |nil=>exact⟨rfl,rfl⟩
       |cons=>exact absurd rfl iT
      |cons=>exact absurd rfl iT
     rw[Ul.1,Ul.2];rfl
   .rw[if_neg (fun z=>hd z.1)];unfold sr;cases q:gQ t with
    |none=>simp only[Ma hm];rfl
    |some y=>
     obtain⟨a',b'⟩:=y;have e2:=Cn q;have hma:eK∈a':=by
      apply Classical.byContradiction;intro j0;have h3:=Co (c:=eK) (a:=a') (b:=eK::b') j0;rw[<-e2,h1]at h3;cases h3;exact hd rfl
     simp only[aei hma]
theorem Ti{n x:Nat}{t:au}(h:jq n t=some x):t.all rangeByte=true:=by
 unfold jq at h;split at h
 .rename_i q;cases t with
  |nil=>rfl
  |cons=>cases q
 .have:=(L9 h).1;rw[k7]at this ⊢;intro c hc;unfold rangeByte;rw[this c hc];rfl
theorem W6{t:au}{r:Range}(h:rangeOf t=some r):t.all rangeByte=true:=by
 unfold rangeOf at h;cases h1:cZ eK t with
 |none=>
  rw[h1]at h;simp only at h;cases q:c7 t with
  |none=>rw[q]at h;cases h
  |some n=>
   have:=(L9 q).1;rw[k7]at this ⊢;intro c hc;unfold rangeByte;rw[this c hc];rfl
 |some x=>
  obtain⟨a,r⟩:=x;obtain⟨e,Z⟩:=t7 h1;rw[h1]at h;cases r with
  |nil=>cases h
  |cons d b=>
   simp only at h;split at h
   .rename_i hc;cases qa:jq 0 a with
    |none=>rw[qa]at h;cases h
    |some x=>
     cases qb:jq rB b with
     |none=>rw[qa,qb]at h;cases h
     |some y=>
      rw[e,hc.1,List.all_append,ip,ip,Ti qa,Ti qb];decide
   .cases h
noncomputable def marked(c:UInt8):Option au->au
 |some x=>c::x
 |none=>[]
noncomputable def build(k:au)(s n g:Option au):au:=k++(marked AT s++(marked dA n++marked dB g))
structure Parts(k:au)(s n g:Option au):Prop where
 k:k.all bW=true
 s:∀x,s=some x->x.all bW=true
 n:∀x,n=some x->x.all rangeByte=true
 g:∀x,g=some x->x.all rangeByte=true
noncomputable def worth(k:au)(s n g:Option au):Option fH:=match B2 readName (if k.isEmpty then none else some k),B2 readName s,B2 rangeOf n,B2 rangeOf g with
 |some a,some b,some c,some d=>some ⟨a,b,c,d⟩
 |_,_,_,_=>none
theorem PK{p:UInt8->Bool}:∀{a b:au},a.all p=true->(∀c r,b=c::r->p c=false)->(a++b).takeWhile p=a/\(a++b).dropWhile p=b
 |[],b,_,h=>by
  cases b with
  |nil=>exact⟨rfl,rfl⟩
  |cons c r=>
   have:=h c r rfl;simp[this]
 |c::a,b,ha,h=>by
  rw[ip,cH]at ha;have ih:=PK (a:=a) (b:=b) ha.2 h;rw[nh,Bj,Qv,if_pos ha.1,if_pos ha.1,ih.1,ih.2];exact⟨rfl,rfl⟩
theorem Mn{mark:UInt8}{own:UInt8->Bool}{s:Option au}{b:au}(hs:∀x,s=some x->x.all own=true)(hb:∀c r,b=c::r->own c=false/\c≠mark):gu mark own (marked mark s++b)=(s,b):=by
 cases s with
 |none=>
  show gu mark own b=_;cases b with
  |nil=>rfl
  |cons c r=>simp only[gu];rw[if_neg (hb c r rfl).2]
 |some x=>
  show gu mark own (mark::(x++b))=_;simp only[gu,if_true];have:=PK (hs x rfl) (fun c r e=>(hb c r e).1);rw[this.1,this.2]
theorem VI{m:UInt8}{s:Option au}{b:au}{c:UInt8}{r:au}(h:marked m s++b=c::r):c=m\/b=c::r:=by
 cases s with
 |none=>exact .inr h
 |some x=>exact .inl (A9 h).1.symm
theorem Wv{k:au}{s n g:Option au}(P:Parts k s n g):lF (build k s n g)=worth k s n g:=by
 have hg:∀c r,marked dB g=c::r->c=dB:=fun c r h=>by
  cases g with
  |none=>cases h
  |some x=>exact(A9 h).1.symm
 have hn:∀c r,marked dA n++marked dB g=c::r->c=dA\/c=dB:=fun c r h=>(VI h).imp id (hg c r);have hs:∀c r,marked AT s++(marked dA n++marked dB g)=c::r->c=AT\/c=dA\/c=dB:=fun c r h=>(VI h).imp id (hn c r);have e1:=PK (p:=bW) (b:=marked AT s++(marked dA n++marked dB g)) P.k (fun c r h=>by rcases hs c r h with e|e|e<;>(rw[e];decide));have e2:=Mn (mark:=AT) (own:=bW) (b:=marked dA n++marked dB g) P.s (fun c r h=>by rcases hn c r h with e|e<;>(rw[e];decide));have e3:=Mn (mark:=dA) (own:=rangeByte) (b:=marked dB g) P.n (fun c r h=>by rw[hg c r h];decide);have e4:=Mn (mark:=dB) (own:=rangeByte) (b:=[]) P.g (fun c r h=>by cases h);rw[jI]at e4;unfold lF build worth;simp only[e1.1,e1.2,e2,e3,e4];rfl
theorem Ml{mark:UInt8}{own:UInt8->Bool}(t:au):t=marked mark (gu mark own t).1++(gu mark own t).2/\∀x,(gu mark own t).1=some x->x.all own=true:=by
 cases t with
 |nil=>exact⟨rfl,fun x h=>by cases h⟩
 |cons c r=>
  simp only[gu];by_cases h:c=mark
  .rw[if_pos h];refine⟨?_,fun x e=>?_⟩
   .show c::r=mark::(r.takeWhile own++r.dropWhile own);rw[QO,h]
   .cases e;exact all_takeWhile r
  .rw[if_neg h];exact⟨rfl,fun x e=>by cases e⟩
theorem ame{t:au}{p:fH}(h:lF t=some p):∃k s n g,t=build k s n g/\Parts k s n g:=by
 unfold lF at h;simp only at h;split at h
 .cases h
 .rename_i hg;have b1:=Ml (mark:=AT) (own:=bW) (t.dropWhile bW);have b2:=Ml (mark:=dA) (own:=rangeByte) (gu AT bW (t.dropWhile bW)).2;have b3:=Ml (mark:=dB) (own:=rangeByte) (gu dA rangeByte (gu AT bW (t.dropWhile bW)).2).2;refine⟨_,_,_,_,?_,all_takeWhile t,b1.2,b2.2,b3.2⟩;have e:(gu dB rangeByte (gu dA rangeByte (gu AT bW (t.dropWhile bW)).2).2).2=[]:=by
   cases q:(gu dB rangeByte (gu dA rangeByte (gu AT bW (t.dropWhile bW)).2).2).2 with
   |nil=>rfl
   |cons=>rw[q]at hg;exact absurd rfl hg
  unfold build;have e3:=b3.1;rw[e,jI]at e3;rw[<-e3,<-b2.1,<-b1.1,QO]
noncomputable def nQ(t:au):Option fH:=let g:=part dB t
 let n:=part dA g.1
 let s:=part AT n.1
 if s.1≠[]/\cz s.1=false then none
 else if s.2.1≠[]/\cz s.2.2=false then none
 else if n.2.1≠[]/\rangeOf n.2.2=none then none
 else if g.2.1≠[]/\rangeOf g.2.2=none then none
 else some ⟨if s.1=[]then none else some s.1,if s.2.2=[]then none else some s.2.2,rangeOf n.2.2,rangeOf g.2.2⟩
theorem oa:rangeOf []=none:=rfl
theorem Mp{m:UInt8}{a:au}{s:Option au}(h:m∉a):part m (a++marked m s)=(a,if s.isSome then[m]else[],s.getD []):=by
 cases s with
 |none=>
  show part m (a++[])=_;rw[jI,part_free h];rfl
 |some x=>exact ama h
theorem DD{p:UInt8->Bool}{m:UInt8}{t:au}(hm:p m=false)(h:t.all p=true):m∉t:=fun q=>by
 have:=k7.mp h m q;rw[hm]at this;cases this
theorem L6{p:UInt8->Bool}{m c:UInt8}{s:Option au}(hm:p m=false)(hc:m≠c)(h:∀x,s=some x->x.all p=true):m∉marked c s:=by
 cases s with
 |none=>simp[marked]
 |some x=>
  intro q;rcases bX.mp q with q|q
  .exact hc q
  .exact DD hm (h x rfl) q
theorem VG{k:au}{s n g:Option au}(P:Parts k s n g):nQ (build k s n g)=worth k s n g:=by
 have f1:dB∉k++(marked AT s++marked dA n):=by
  intro q;rcases jJ.mp q with q|q
  .exact DD (p:=bW) (by decide) P.k q
  .rcases jJ.mp q with q|q
   .exact L6 (p:=bW) (by decide) (by decide) P.s q
   .exact L6 (p:=rangeByte) (by decide) (by decide) P.n q
 have f2:dA∉k++marked AT s:=by
  intro q;rcases jJ.mp q with q|q
  .exact DD (p:=bW) (by decide) P.k q
  .exact L6 (p:=bW) (by decide) (by decide) P.s q
 have f3:AT∉k:=DD (p:=bW) (by decide) P.k;have e1:build k s n g=(k++(marked AT s++marked dA n))++marked dB g:=by unfold build;simp only[iL]
 have e2:k++(marked AT s++marked dA n)=(k++marked AT s)++marked dA n:=by simp only[iL]
 unfold nQ;rw[e1,Mp f1];simp only;rw[e2,Mp f2];simp only;rw[Mp f3];simp only;unfold worth B2 readName;cases k with
 |nil=>
  cases s with
  |none=>
   cases n with
   |none=>
    cases g with
    |none=>rfl
    |some y=>cases h:rangeOf y<;>simp[h,oa]
   |some x=>
    cases hx:rangeOf x with
    |none=>simp[hx]
    |some a=>
     cases g with
     |none=>simp[hx,oa]
     |some y=>cases h:rangeOf y<;>simp[h,hx]
  |some z=>
   cases hz:cz z with
   |false=>simp[hz]
   |true=>
    have qo:z≠[]:=by rintro rfl;cases hz
    cases n with
    |none=>
     cases g with
     |none=>simp[hz,qo,oa]
     |some y=>cases h:rangeOf y<;>simp[h,hz,qo,oa]
    |some x=>
     cases hx:rangeOf x with
     |none=>simp[hx,hz]
     |some a=>
      cases g with
      |none=>simp[hx,hz,qo,oa]
      |some y=>cases h:rangeOf y<;>simp[h,hx,hz,qo]
 |cons c k=>
  cases hk:cz (c::k)with
  |false=>simp[hk]
  |true=>
   cases s with
   |none=>
    cases n with
    |none=>
     cases g with
     |none=>simp[hk,oa]
     |some y=>cases h:rangeOf y<;>simp[h,hk,oa]
    |some x=>
     cases hx:rangeOf x with
     |none=>simp[hx,hk]
     |some a=>
      cases g with
      |none=>simp[hx,hk,oa]
      |some y=>cases h:rangeOf y<;>simp[h,hx,hk]
   |some z=>
    cases hz:cz z with
    |false=>simp[hz,hk]
    |true=>
     have qo:z≠[]:=by rintro rfl;cases hz
     cases n with
     |none=>
      cases g with
      |none=>simp[hz,hk,qo,oa]
      |some y=>cases h:rangeOf y<;>simp[h,hz,hk,qo,oa]
     |some x=>
      cases hx:rangeOf x with
      |none=>simp[hx,hz,hk]
      |some a=>
       cases g with
       |none=>simp[hx,hz,hk,qo,oa]
       |some y=>cases h:rangeOf y<;>simp[h,hx,hz,hk,qo]
theorem Mo(m:UInt8)(t:au):∃s:Option au,t=(part m t).1++marked m s/\(part m t).2.1=(if s.isSome then[m]else[])/\(part m t).2.2=s.getD []:=by
 rcases DQ m t with⟨_,e⟩|⟨a,b,e1,_,e⟩
 .refine⟨none,?_,?_,?_⟩<;>rw[e]
  .exact(jI t).symm
  .rfl
  .rfl
 .refine⟨some b,?_,?_,?_⟩<;>rw[e]
  .exact e1
  .rfl
  .rfl
theorem Dq{α:Type}{c:Prop}[Decidable c]{x:Option α}{p:α}(h:(if c then none else x)=some p):¬c/\x=some p:=by
 by_cases hc:c
 .rw[if_pos hc]at h;cases h
 .rw[if_neg hc]at h;exact⟨hc,h⟩
theorem aiZ{t:au}{p:fH}(h:nQ t=some p):∃k s n g,t=build k s n g/\Parts k s n g:=by
 unfold nQ at h;simp only at h;obtain⟨g,a1,a2,a3⟩:=Mo dB t;obtain⟨n,b1,b2,b3⟩:=Mo dA (part dB t).1;obtain⟨s,c1,c2,c3⟩:=Mo AT (part dA (part dB t).1).1;rw[a2,a3,b2,b3,c2,c3]at h;obtain⟨q1,h⟩:=Dq h;obtain⟨q2,h⟩:=Dq h;obtain⟨q3,h⟩:=Dq h;obtain⟨q4,h⟩:=Dq h;refine⟨(part AT (part dA (part dB t).1).1).1,s,n,g,?_,?_,?_,?_,?_⟩
 .unfold build;rw[<-iL,<-c1,<-iL,<-b1,<-a1]
 .by_cases e:(part AT (part dA (part dB t).1).1).1=[]
  .rw[e];rfl
  .refine Lp ?_;cases z:cz (part AT (part dA (part dB t).1).1).1 with
   |true=>rfl
   |false=>exact absurd ⟨e,z⟩ q1
 .rintro x rfl;refine Lp ?_;cases z:cz x with
  |true=>rfl
  |false=>exact absurd ⟨by simp,z⟩ q2
 .rintro x rfl;cases z:rangeOf x with
  |none=>exact absurd ⟨by simp,z⟩ q3
  |some r=>exact W6 z
 .rintro x rfl;cases z:rangeOf x with
  |none=>exact absurd ⟨by simp,z⟩ q4
  |some r=>exact W6 z
theorem VH(t:au):nQ t=lF t:=by
 cases h:lF t with
 |some p=>
  obtain⟨k,s,n,g,rfl,P⟩:=ame h;rw[VG P,<-Wv P,h]
 |none=>
  cases h2:nQ t with
  |none=>rfl
  |some p=>
   obtain⟨k,s,n,g,rfl,P⟩:=aiZ h2;rw[VG P,<-Wv P,h]at h2;cases h2
theorem anm(p:Nat)(r:au):iP p [] (BLANK::r)=iP (p+1) [] r:=by
 rw[iP,if_pos rfl];rfl
theorem Xo:∀(a:au)(p:Nat)(got rest:au),BLANK∉a->iP p got (a++rest)=iP (p+a.length) (a.reverse++got) rest
 |[],p,got,rest,_=>rfl
 |c::a,p,got,rest,h=>by
  have h1:¬c=BLANK:=fun e=>h (by rw[e];exact eB);have h2:BLANK∉a:=fun m=>h (el _ m);rw[nh,iP,if_neg h1,Xo a _ _ _ h2,Bi,iL,cy];congr 1;lia
theorem anp{a rest:au}(p:Nat)(ha:a≠[])(hf:BLANK∉a)(hr:∀c r,rest=c::r->c=BLANK):iP p [] (a++rest)=(p,a)::iP (p+a.length) [] rest:=by
 rw[Xo a p [] rest hf,jI];have bL:a.reverse.isEmpty=false:=by
  cases a with
  |nil=>exact absurd rfl ha
  |cons c r=>simp
 cases rest with
 |nil=>
  rw[iP,bL];rw[iP];simp
 |cons c r=>
  have:=hr c r rfl;subst this;rw[anm,iP,if_pos rfl,bL];simp
noncomputable def behind{α:Type}(acc:List α):Except tY (List α)->Except tY (List α)
 | .ok l=> .ok (acc++l)
 | .error f=> .error f
theorem Ss{α:Type}(x:Except tY (List α)):behind [] x=x:=by cases x<;>rfl
theorem Tu{n:Nat}{x:Nat×au}{r:List (Nat×au)}(h:kn x.2=none):jP n (x::r)=.error ⟨1,x.1⟩:=by
 rw[jP,h]
theorem Tt{n:Nat}{x:Nat×au}{r:List (Nat×au)}{e:G0}(h:kn x.2=some e)(hn:BZ<=n):jP n (x::r)=.error ⟨2,x.1⟩:=by
 rw[jP,h];simp only;rw[if_pos hn]
theorem Tv{n:Nat}{x:Nat×au}{r:List (Nat×au)}{e:G0}(h:kn x.2=some e)(hn:¬BZ<=n):jP n (x::r)=behind [e] (jP (n+1) r):=by
 rw[jP,h];simp only;rw[if_neg hn];cases jP (n+1) r<;>rfl
theorem Sr{α:Type}(a b:List α)(x:Except tY (List α)):behind a (behind b x)=behind (a++b) x:=by
 cases x with
 |ok l=>show pG (a++(b++l))=pG (a++b++l);rw[iL]
 |error f=>rfl
inductive iO:tZ->au->Option fH->Prop where
 |sign {c:UInt8}:ko c=true->iO (.sign c) [c] none
 |arrow:iO .arrow [45,62] none
 |word {t:au}:t≠[]->t.all bW=true->iO (.word t) t none
 |digit {c:UInt8}:di c=true->iO (.digit (c.toNat-48)) [c] none
 |pat {p:fH} {t:au}:iO (.pat p) (OPEN::t) (some p)
 |finish:iO .finish [] none
noncomputable def su(t:au):Option (au×Option fH):=match t with
 |[]=>none
 |c::r=>
  if ko c=true then some ([c],none)
  else if c=45/\r.head?=some 62 then some ([45,62],none)
  else if c=OPEN then(match cZ fj (c::r)with
   |none=>none
   |some (a,_)=>(gb (a++[fj])).map fun p=>(a++[fj],some p))
  else if bW c=true then some ((c::r).takeWhile bW,none)
  else if di c=true/\di (r.headD 0)=false then some ([c],none)
  else none
structure aa6(t:au)(x:tZ)(n:Nat)(w:au)(p:Option fH):Prop where
 rel:iO x w p
 len:n=w.length
 pos:1<=n
 pre:∃r,t=w++r
theorem ai0{t:au}(h:su t=none):lI t=none:=by
 cases t with
 |nil=>rfl
 |cons c r=>
  simp only[su]at h;unfold lI;simp only;by_cases h1:ko c=true
  .rw[if_pos h1]at h;cases h
  .rw[if_neg h1]at h ⊢;by_cases h2:c=45
   .subst h2;by_cases h3:r.head?=some 62
    .rw[if_pos ⟨rfl,h3⟩]at h;cases h
    .rw[if_pos rfl,if_neg h3]
   .rw[if_neg (fun z=>h2 z.1)]at h;rw[if_neg h2];by_cases h3:c=OPEN
    .rw[if_pos h3]at h ⊢;subst h3;have e:cZ fj (OPEN::r)=(cZ fj r).map fun x=>(OPEN::x.1,x.2):=by
      rw[cZ,if_neg (by decide)]
     rw[e]at h;cases q:cZ fj r with
     |none=>rfl
     |some x=>
      obtain⟨a,b⟩:=x;rw[q]at h;simp only[pJ]at h ⊢;have e2:gb (OPEN::a++[fj])=lF a:=by
       rw[nh];simp only[gb];rw[if_pos ⟨trivial,by simp⟩,Zh]
      rw[e2]at h;cases z:lF a with
      |none=>rfl
      |some p=>rw[z]at h;cases h
    .rw[if_neg h3]at h ⊢;by_cases h4:bW c=true
     .rw[if_pos h4]at h;cases h
     .rw[if_neg h4]at h ⊢;by_cases h5:di c=true
      .rw[if_pos h5];by_cases h6:di (r.headD 0)=true
       .rw[if_pos h6]
       .rw[if_pos ⟨h5,by simpa using h6⟩]at h;cases h
      .rw[if_neg h5]
theorem ai1{t w:au}{p:Option fH}(h:su t=some (w,p)):∃x n,lI t=some (x,n)/\aa6 t x n w p:=by
 cases t with
 |nil=>cases h
 |cons c r=>
  simp only[su]at h;unfold lI;simp only;by_cases h1:ko c=true
  .rw[if_pos h1]at h ⊢;cases h;exact⟨_,_,rfl,.sign h1,rfl,cA 1,r,rfl⟩
  .rw[if_neg h1]at h ⊢;by_cases h2:c=45
   .subst h2;by_cases h3:r.head?=some 62
    .rw[if_pos ⟨rfl,h3⟩]at h;rw[if_pos rfl,if_pos h3];cases h;cases r with
     |nil=>cases h3
     |cons d r=>
      simp only[Zw,ym]at h3;subst h3;exact⟨_,_,rfl,.arrow,rfl,(by decide:1<=2),r,rfl⟩
    .rw[if_neg (fun z=>h3 z.2),if_neg (by decide),if_neg (by decide),if_neg (fun z=>by revert z;rintro⟨z,_⟩;revert z;decide)]at h;cases h
   .rw[if_neg (fun z=>h2 z.1)]at h;rw[if_neg h2];by_cases h3:c=OPEN
    .rw[if_pos h3]at h ⊢;subst h3;have e:cZ fj (OPEN::r)=(cZ fj r).map fun x=>(OPEN::x.1,x.2):=by
      rw[cZ,if_neg (by decide)]
     rw[e]at h;cases q:cZ fj r with
     |none=>rw[q]at h;cases h
     |some x=>
      obtain⟨a,b⟩:=x;rw[q]at h;simp only[pJ]at h ⊢;have e2:gb (OPEN::a++[fj])=lF a:=by
       rw[nh];simp only[gb];rw[if_pos ⟨trivial,by simp⟩,Zh]
      rw[e2]at h;cases z:lF a with
      |none=>rw[z]at h;cases h
      |some p=>
       rw[z]at h;cases h;refine⟨_,_,rfl,.pat,by simp,by lia,b,?_⟩;rw[(t7 q).1];simp
    .rw[if_neg h3]at h ⊢;by_cases h4:bW c=true
     .rw[if_pos h4]at h ⊢;cases h;have bL:(c::r).takeWhile bW≠[]:=by rw[Bj,if_pos h4];simp
      refine⟨_,_,rfl,.word bL (all_takeWhile _),rfl,ka.mpr bL,(c::r).dropWhile bW,QO.symm⟩
     .rw[if_neg h4]at h ⊢;by_cases h5:di c=true
      .rw[if_pos h5];by_cases h6:di (r.headD 0)=true
       .rw[if_neg (fun z=>by rw[h6]at z;cases z.2)]at h;cases h
       .rw[if_pos ⟨h5,by simpa using h6⟩]at h;cases h;rw[if_neg h6];exact⟨_,_,rfl,.digit h5,rfl,cA 1,r,rfl⟩
      .rw[if_neg (fun z=>h5 z.1)]at h;cases h
theorem PR(k p:Nat):fm k p []=.ok [⟨p,.finish⟩]:=by
 cases k<;>rfl
theorem YD(k p:Nat)(r:au):fm (k+1) p (BLANK::r)=fm k (p+1) r:=by
 rw[fm,if_pos rfl]
theorem PN{k p:Nat}{c:UInt8}{r:au}(hb:¬c=BLANK)(h:lI (c::r)=none):fm (k+1) p (c::r)=.error ⟨2,p⟩:=by
 rw[fm,if_neg hb,h]
theorem PU{k p n:Nat}{c:UInt8}{r:au}{x:tZ}(hb:¬c=BLANK)(h:lI (c::r)=some (x,n)):fm (k+1) p (c::r)=behind [⟨p,x⟩] (fm k (p+n) ((c::r).drop n)):=by
 rw[fm,if_neg hb,h];simp only;cases fm k (p+n) ((c::r).drop n)<;>rfl
noncomputable def parts:cI->List cI
 | .no a=>[a]
 | .next a=>[a]
 | .ever a=>[a]
 | .always a=>[a]
 | .soon _ a=>[a]
 | .both a b=>[a,b]
 | .either a b=>[a,b]
 | .implies a b=>[a,b]
 | .till a b=>[a,b]
 | .weak a b=>[a,b]
 |_=>[]
noncomputable def own:cI->Option fH
 | .pat p=>some p
 | .atleast _ p=>some p
 | .atmost _ p=>some p
 |_=>none
theorem xj(w:cI):w.nodes=1+((parts w).map vY).sum:=by
 cases w<;>simp[vY,parts]<;>lia
theorem xq(w:cI):w.allPatterns=(own w).toList++(parts w).flatMap yS:=by
 cases w<;>simp[yS,parts,own]
noncomputable def rG(s:List fH)(x:fH):List fH:=if s.contains x then s else s++[x]
theorem amg(w:cI):cG w=w.allPatterns.foldl rG []:=rfl
noncomputable def todo(found:List fH)(waiting:List cI):List fH:=(waiting.reverse.flatMap yS).foldl rG found
theorem ao5(w:cI):todo [] [w]=cG w:=by simp[todo,amg]
theorem ao4(found:List fH):todo found []=found:=rfl
theorem ao6(found:List fH)(waiting:List cI)(w:cI):todo found (waiting++[w])=todo ((own w).toList.foldl rG found) (waiting++(parts w).reverse):=by
 unfold todo;rw[ZK,ZK,ZL,Bd,Bd];simp only[Bi,List.reverse_nil,ni,FJ,List.flatMap_nil,jI];rw[xq w,Be,Be,Be]
noncomputable def weight(waiting:List cI):Nat:=(waiting.map vY).sum
theorem apD(waiting:List cI)(w:cI):weight (waiting++(parts w).reverse)<weight (waiting++[w]):=by
 unfold weight;rw[fz,fz,FY,FY,FW,ZM];have:=xj w;simp only[dY,yf,qK,List.sum_nil];lia
theorem digits_of(f:Nat->List Nat)(h1:∀n,n<10->f n=[48+n])(h2:∀n,10<=n->f n=f (n / 10)++[48+n%10]):∀k n,n<10^k->(digits k n).map fQ=if k=0 then[]else f n
 |0,_,_=>rfl
 |k+1,n,h=>by
  rw[if_neg (by lia),digits];by_cases hn:n<10
  .rw[if_pos hn,h1 n hn];simp;lia
  .rw[if_neg hn,h2 n (by lia),fz,digits_of f h1 h2 k (n / 10) (by rw[Ga]at h;lia)];have hk:k≠0:=by rintro rfl;simp at h;lia
   rw[if_neg hk];simp;lia
theorem S5(f:Nat->List Nat)(h1:∀n,n<10->f n=[48+n])(h2:∀n,10<=n->f n=f (n / 10)++[48+n%10])(n:Nat)(h:n<10^20):(decimal n).map fQ=f n:=digits_of f h1 h2 20 n h
section
variable{x:tZ}{w:au}{p:Option fH}
theorem X2:∀c,ko c=true->bW c=false:=iQ (by decide+kernel)
theorem adZ:∀c,di c=true->bW c=false:=iQ (by decide+kernel)
theorem XZ:∀c,ko c=true->di c=false:=iQ (by decide+kernel)
theorem aoo:∀c,bW c=true->di c=false:=iQ (by decide+kernel)
theorem nc(h:iO x w p){u:au}(hu:u.all bW=true)(hn:u≠[]):w=u↔x=.word u:=by
 constructor
 .rintro rfl;cases h with
  |sign hc=>simp only[ip,Fz,A2]at hu;rw[X2 _ hc]at hu;cases hu
  |arrow=>revert hu;decide
  |word _ _=>rfl
  |digit hc=>simp only[ip,Fz,A2]at hu;rw[adZ _ hc]at hu;cases hu
  |pat=>rw[ip]at hu;revert hu;simp[show bW OPEN=false from by decide]
  |finish=>exact absurd rfl hn
 .rintro rfl;cases h;rfl
theorem qD(h:iO x w p){c:UInt8}(hc:ko c=true):w=[c]↔x=.sign c:=by
 constructor
 .rintro rfl;cases h with
  |sign _=>rfl
  |word _ ha=>simp only[ip,Fz,A2]at ha;rw[X2 _ hc]at ha;cases ha
  |digit hd=>rw[XZ _ hc]at hd;cases hd
  |pat=>exact absurd hc (by decide)
 .rintro rfl;cases h;rfl
theorem YA(h:iO x w p):w=[45,62]↔x=.arrow:=by
 constructor
 .rintro rfl;cases h with
  |arrow=>rfl
  |word _ ha=>revert ha;decide
 .rintro rfl;cases h;rfl
theorem YB(h:iO x w p):w=[]↔x=.finish:=by
 constructor
 .rintro rfl;cases h with
  |word hn _=>exact absurd rfl hn
  |finish=>rfl
 .rintro rfl;cases h;rfl
noncomputable def wu(w:au):Bool:= !w.isEmpty&&w.all di
theorem ao7(h:iO x w p)(hd:wu w=true):∃c,di c=true/\w=[c]/\x=.digit (c.toNat-48):=by
 cases h with
 |sign hc=>simp only[wu,Zy,Y6,tm,ip,Fz,A2]at hd;rw[XZ _ hc]at hd;cases hd
 |arrow=>exact absurd hd (by decide)
 |word hn ha=>
  cases w with
  |nil=>exact absurd rfl hn
  |cons c r=>
   simp only[wu,Zy,Y6,tm,ip,cH]at hd ha;rw[aoo _ ha.1]at hd;cases hd.1
 |digit hc=>exact⟨_,hc,rfl,rfl⟩
 |pat=>simp[wu,show di OPEN=false from by decide]at hd
 |finish=>cases hd
theorem ao8(h:iO x w p)(hd:wu w=false):∀n,x≠.digit n:=by
 rintro n rfl;cases h with
 |digit hc=>simp[wu,hc]at hd
theorem YC(h:iO x w p):∀q,p=some q↔x=.pat q:=by
 intro q;constructor
 .rintro rfl;cases h;rfl
 .rintro rfl;cases h;rfl
end
noncomputable def kL(rule n:Nat):Nat:=8*n+5-rule
noncomputable def sA(n:Nat):Nat:=8*n+1
noncomputable def sy(n:Nat):Nat:=8*n
noncomputable def andThen(x:jn)(f:cI->List At->jn):jn:=match x with
 | .error e=> .error e
 | .ok (a,r)=>f a r
theorem Aw{k L rule:Nat}{ts:List At}(h:¬rule=4):cu (k+1) L rule ts=andThen (cu k L (rule+1) ts) fun a r=>dC k L rule a r:=by
 rw[cu,if_neg h];cases cu k L (rule+1) ts with
 |error e=>rfl
 |ok x=>rfl
theorem Xa{k L:Nat}{ts:List At}:cu (k+1) L 4 ts=gP k L ts:=by
 rw[cu,if_pos rfl]
noncomputable def level(L:Nat)(ts:List At)(f:Nat->jn):jn:=match L with
 |0=> .error ⟨4,here ts⟩
 |d+1=>f d
theorem Xd{k L:Nat}{a:cI}{ts:List At}(h:bf ts=.arrow):dC (k+1) L 0 a ts=level L ts fun d=>andThen (cu k d 0 (ts.drop 1)) fun b r=> .ok (.implies a b,r):=by
 rw[dC,if_pos rfl,if_pos h];unfold level deeper;cases L with
 |zero=>rfl
 |succ d=>
  simp only;cases cu k d 0 (ts.drop 1)<;>rfl
theorem Xe{k L:Nat}{a:cI}{ts:List At}(h:¬bf ts=.arrow):dC (k+1) L 0 a ts=.ok (a,ts):=by
 rw[dC,if_pos rfl,if_neg h]
theorem Xf{k L:Nat}{a:cI}{ts:List At}(h:bf ts=BAR):dC (k+1) L 1 a ts=andThen (cu k L 2 (ts.drop 1)) fun b r=>dC k L 1 (.either a b) r:=by
 rw[dC,if_neg (by decide),if_neg (by decide),if_pos rfl,if_pos h];cases cu k L 2 (ts.drop 1)<;>rfl
theorem Xg{k L:Nat}{a:cI}{ts:List At}(h:¬bf ts=BAR):dC (k+1) L 1 a ts=.ok (a,ts):=by
 rw[dC,if_neg (by decide),if_neg (by decide),if_pos rfl,if_neg h]
theorem Xb{k L:Nat}{a:cI}{ts:List At}(h:bf ts=AMP):dC (k+1) L 2 a ts=andThen (cu k L 3 (ts.drop 1)) fun b r=>dC k L 2 (.both a b) r:=by
 rw[dC,if_neg (by decide),if_neg (by decide),if_neg (show¬(2=1) by decide),if_pos h];cases cu k L 3 (ts.drop 1)<;>rfl
theorem Xc{k L:Nat}{a:cI}{ts:List At}(h:¬bf ts=AMP):dC (k+1) L 2 a ts=.ok (a,ts):=by
 rw[dC,if_neg (by decide),if_neg (by decide),if_neg (show¬(2=1) by decide),if_neg h]
theorem qt{s:String}{k:tZ}:pU s k=true↔k=.word (txt s):=by
 unfold pU;exact beq_iff_eq
theorem Xi{k L:Nat}{a:cI}{ts:List At}(h:bf ts=.word (txt "until")):dC (k+1) L 3 a ts=level L ts fun d=>andThen (cu k d 3 (ts.drop 1)) fun b r=> .ok (.till a b,r):=by
 have e:pU "until" (bf ts)=true:=qt.mpr h;rw[dC,if_neg (by decide),if_pos rfl,e];simp only[Bool.true_or,if_true];unfold level deeper;cases L with
 |zero=>rfl
 |succ d=>
  simp only;cases cu k d 3 (ts.drop 1)<;>rfl
theorem Xh{k L:Nat}{a:cI}{ts:List At}(h:bf ts=.word (txt "unless")):dC (k+1) L 3 a ts=level L ts fun d=>andThen (cu k d 3 (ts.drop 1)) fun b r=> .ok (.weak a b,r):=by
 have e:pU "unless" (bf ts)=true:=qt.mpr h;have e2:pU "until" (bf ts)=false:=by rw[h];decide
 rw[dC,if_neg (by decide),if_pos rfl,e,e2];simp only[Bool.or_true,if_true];unfold level deeper;cases L with
 |zero=>rfl
 |succ d=>
  simp only;cases cu k d 3 (ts.drop 1)<;>rfl
theorem Xj{k L:Nat}{a:cI}{ts:List At}(h1:¬bf ts=.word (txt "until"))(h2:¬bf ts=.word (txt "unless")):dC (k+1) L 3 a ts=.ok (a,ts):=by
 have e1:pU "until" (bf ts)=false:=by
  cases q:pU "until" (bf ts)with
  |false=>rfl
  |true=>exact absurd (qt.mp q) h1
 have e2:pU "unless" (bf ts)=false:=by
  cases q:pU "unless" (bf ts)with
  |false=>rfl
  |true=>exact absurd (qt.mp q) h2
 rw[dC,if_neg (by decide),if_pos rfl,e1,e2];simp
theorem qx{k L:Nat}{ts:List At}{make:cI->cI}(h:(bf ts=BANG/\make=.no)\/(bf ts=.word (txt "next")/\make=.next)\/(bf ts=.word (txt "ever")/\make=.ever)\/(bf ts=.word (txt "always")/\make=.always)):gP (k+1) L ts=level L ts fun d=>andThen (gP k d (ts.drop 1)) fun a r=> .ok (make a,r):=by
 have e:yU ts=.ok (some (make,ts.drop 1)):=by
  unfold yU pU;rcases h with⟨h,rfl⟩|⟨h,rfl⟩|⟨h,rfl⟩|⟨h,rfl⟩<;>rw[h]
  .rfl
  .rw[if_neg (by decide),if_pos (by decide)]
  .rw[if_neg (by decide),if_neg (by decide),if_pos (by decide)]
  .rw[if_neg (by decide),if_neg (by decide),if_neg (by decide),if_pos (by decide)]
 rw[gP,e];unfold level deeper;cases L with
 |zero=>rfl
 |succ d=>
  simp only;cases gP k d (ts.drop 1)<;>rfl
theorem MB{ts:List At}(h1:¬bf ts=BANG)(h2:¬bf ts=.word (txt "next"))(h3:¬bf ts=.word (txt "ever"))(h4:¬bf ts=.word (txt "always")):yU ts=.ok none:=by
 unfold yU;rw[if_neg h1,if_neg (fun q=>h2 (qt.mp q)),if_neg (fun q=>h3 (qt.mp q)),if_neg (fun q=>h4 (qt.mp q))]
noncomputable def gx(least:Nat)(ts:List At)(f:Nat->List At->jn):jn:=match t4 least ts with
 | .error e=> .error e
 | .ok (n,r)=>f n r
theorem Me{k L:Nat}{ts:List At}(h:bf ts=.word (txt "within")):gP (k+1) L ts=level L ts fun d=>gx 1 ts fun n r=>andThen (gP k d r) fun a q=> .ok (.soon n a,q):=by
 have e:yU ts=.ok none:=MB (by rw[h];decide) (by rw[h];decide) (by rw[h];decide) (by rw[h];decide);rw[gP,e];simp only;rw[if_pos (qt.mpr h)];unfold level deeper gx;cases L with
 |zero=>rfl
 |succ d=>
  simp only;cases t4 1 ts with
  |error f=>rfl
  |ok x=>
   simp only;cases gP k d x.2<;>rfl
theorem Wn{k L:Nat}{ts:List At}(h:bf ts=LEFT):gP (k+1) L ts=level L ts fun d=>andThen (cu k d 0 (ts.drop 1)) fun a r=>if bf r=RIGHT then .ok (a,r.drop 1)else stuck r:=by
 have e:yU ts=.ok none:=MB (by rw[h];decide) (by rw[h];decide) (by rw[h];decide) (by rw[h];decide);rw[gP,e];simp only;rw[if_neg (fun q=>by rw[h]at q;revert q;decide),if_pos h];unfold level deeper;cases L with
 |zero=>rfl
 |succ d=>
  simp only;cases cu k d 0 (ts.drop 1)<;>rfl
theorem Wm{k L:Nat}{ts:List At}(h1:¬bf ts=BANG)(h2:¬bf ts=.word (txt "next"))(h3:¬bf ts=.word (txt "ever"))(h4:¬bf ts=.word (txt "always"))(h5:¬bf ts=.word (txt "within"))(h6:¬bf ts=LEFT):gP (k+1) L ts=km ts:=by
 rw[gP,MB h1 h2 h3 h4];simp only;rw[if_neg (fun q=>h5 (qt.mp q)),if_neg h6]
theorem Sn{ts:List At}(h:bf ts=.word (txt "true")):km ts=.ok (.truth true,ts.drop 1):=by
 unfold km;rw[h];rfl
theorem Sk{ts:List At}(h:bf ts=.word (txt "false")):km ts=.ok (.truth false,ts.drop 1):=by
 unfold km;rw[h];simp only;rw[if_neg (by decide),if_pos trivial]
theorem Sl{ts:List At}{p:fH}(h:bf ts=.pat p):km ts=.ok (.pat p,ts.drop 1):=by
 unfold km;rw[h]
noncomputable def j6(make:fH->cI)(r:List At):jn:=match bf r with
 | .pat p=> .ok (make p,r.drop 1)
 |_=>stuck r
theorem Si{ts:List At}(h:bf ts=.word (txt "atleast")):km ts=gx 1 ts fun n r=>j6 (.atleast n) r:=by
 unfold km;rw[h];simp only;rw[if_neg (by decide),if_neg (by decide),if_pos trivial];unfold countRead gx j6;cases t4 1 ts<;>rfl
theorem Sj{ts:List At}(h:bf ts=.word (txt "atmost")):km ts=gx 0 ts fun n r=>j6 (.atmost n) r:=by
 unfold km;rw[h];simp only;rw[if_neg (by decide),if_neg (by decide),if_neg (by decide),if_pos trivial];unfold countRead gx j6;cases t4 0 ts<;>rfl
theorem Sm{ts:List At}(h1:¬bf ts=.word (txt "true"))(h2:¬bf ts=.word (txt "false"))(h3:¬bf ts=.word (txt "atleast"))(h4:¬bf ts=.word (txt "atmost"))(h5:∀p,¬bf ts=.pat p):km ts=stuck ts:=by
 unfold km;split
 .rename_i p e;exact absurd e (h5 p)
 .rename_i t e;rw[e]at h1 h2 h3 h4;rw[if_neg (fun q=>h1 (by rw[q])),if_neg (fun q=>h2 (by rw[q])),if_neg (fun q=>h3 (by rw[q])),if_neg (fun q=>h4 (by rw[q]))]
 .rfl
theorem JK{least n:Nat}{ts:List At}{f:Nat->List At->jn}(h:bf (ts.drop 1)=.digit n)(hn:least<=n):gx least ts f=f n (ts.drop 2):=by
 unfold gx t4;rw[h];simp only;rw[if_pos hn]
theorem JI{least n:Nat}{ts:List At}{f:Nat->List At->jn}(h:bf (ts.drop 1)=.digit n)(hn:¬least<=n):gx least ts f=.error ⟨3,here (ts.drop 1)⟩:=by
 unfold gx t4;rw[h];simp only;rw[if_neg hn];rfl
theorem JJ{least:Nat}{ts:List At}{f:Nat->List At->jn}(h:∀n,¬bf (ts.drop 1)=.digit n):gx least ts f=.error ⟨3,here (ts.drop 1)⟩:=by
 have e:t4 least ts=.error ⟨3,here (ts.drop 1)⟩:=by
  unfold t4;split
  .rename_i n e;exact absurd e (h n)
  .rfl
 unfold gx;rw[e]
theorem Wu{make:fH->cI}{r:List At}{p:fH}(h:bf r=.pat p):j6 make r=.ok (make p,r.drop 1):=by
 unfold j6;rw[h]
theorem Wt{make:fH->cI}{r:List At}(h:∀p,¬bf r=.pat p):j6 make r=.error ⟨3,here r⟩:=by
 unfold j6;split
 .rename_i p e;exact absurd e (h p)
 .rfl
noncomputable def Ea:cI->Nat
 | .implies _ _=>0
 | .either _ _=>1
 | .both _ _=>2
 | .till _ _=>3
 | .weak _ _=>3
 | .no _=>4
 | .next _=>4
 | .ever _=>4
 | .always _=>4
 | .soon _ _=>4
 |_=>5
theorem oJ{a k:Nat}(t:au):bracketed (decide (a<k)) t=if a<k then 40::(bracketed (decide (a<0)) t++[41])else bracketed (decide (a<0)) t:=by
 have e:bracketed (decide (a<0)) t=t:=by
  unfold bracketed;rw[decide_eq_false (Bm a)];rfl
 rw[e];by_cases h:a<k
 .rw[if_pos h,decide_eq_true h];rfl
 .rw[if_neg h,decide_eq_false h];rfl
theorem XX{k:Nat}(hk:k<=5)(w:cI):shownBy k w=if Ea w<k then 40::(shown w++[41])else shown w:=by
 have h5:¬5<k:=by lia
 unfold shown;cases w with
 |truth b=>exact(if_neg h5).symm
 |pat p=>exact(if_neg h5).symm
 |atleast n p=>exact(if_neg h5).symm
 |atmost n p=>exact(if_neg h5).symm
 |no a=>exact oJ _
 |both a b=>exact oJ _
 |either a b=>exact oJ _
 |implies a b=>exact oJ _
 |next a=>exact oJ _
 |ever a=>exact oJ _
 |always a=>exact oJ _
 |till a b=>exact oJ _
 |weak a b=>exact oJ _
 |soon n a=>exact oJ _
noncomputable def wordOf:cI->au
 | .truth b=>txt (if b then"true" else"false")
 | .pat _=>txt "pattern"
 | .no _=>[33]
 | .both _ _=>[38]
 | .either _ _=>[124]
 | .implies _ _=>[45,62]
 | .next _=>txt "next"
 | .ever _=>txt "ever"
 | .always _=>txt "always"
 | .till _ _=>txt "until"
 | .weak _ _=>txt "unless"
 | .soon _ _=>txt "within"
 | .atleast _ _=>txt "atleast"
 | .atmost _ _=>txt "atmost"
noncomputable def numOf:cI->Nat
 | .soon n _=>n
 | .atleast n _=>n
 | .atmost n _=>n
 |_=>0
theorem dE{α:Type}{c:Prop}[Decidable c]{a:c->α}{b:¬c->α}{z:α}(h:∀e,a e=z)(h':∀e,b e=z):dite c a b=z:=by
 by_cases e:c
 .rw[dif_pos e];exact h e
 .rw[dif_neg e];exact h' e
theorem iq{p c:Prop}[Decidable c](h:c->p)(h':¬c->p):p:=if e:c then h e else h' e
noncomputable def wq(c:List (List Int)):Prop:=GW c=c
theorem sk(n:Int)(u:List Int)(r:List (List Int))(h1:wq [[n]]:=by rfl)(h2:∀c,wq [[n],c]:=by exact fun Z=>rfl)(h3:∀c d r,wq ([n]::c::d::r):=by exact fun Z Z Z=>rfl)(h4:∀a,wq [[n,a]]:=by exact fun Z=>rfl)(h5:∀a c,wq [[n,a],c]:=by exact fun Z Z=>rfl)(h6:∀a c d r,wq ([n,a]::c::d::r):=by exact fun Z Z Z Z=>rfl)(h7:∀a b u r,wq ((n::a::b::u)::r):=by exact fun Z Z Z Z=>rfl):wq ((n::u)::r):=match u,r with
 |[],[]=>h1
 |[],[c]=>h2 c
 |[],c::d::r=>h3 c d r
 |[a],[]=>h4 a
 |[a],[c]=>h5 a c
 |[a],c::d::r=>h6 a c d r
 |a::b::u,r=>h7 a b u r
theorem apE(c:List (List Int)):GW c=c:=by
 rcases c with _|⟨_|⟨x,u⟩,r⟩
 .rfl
 .rfl
 .refine iq (fun e:x=0=>by subst e;exact sk 0 u r) fun h0=>iq (fun e:x=1=>by subst e;exact sk 1 u r) fun h1=>iq (fun e:x=2=>by subst e;exact sk 2 u r) fun h2=>iq (fun e:x=3=>by subst e;exact sk 3 u r) fun h3=>iq (fun e:x=4=>by subst e;exact sk 4 u r) fun h4=>iq (fun e:x=5=>by subst e;exact sk 5 u r) fun h5=>iq (fun e:x=6=>by subst e;exact sk 6 u r) fun h6=>iq (fun e:x=7=>by subst e;exact sk 7 u r) fun h7=>iq (fun e:x=8=>by subst e;exact sk 8 u r) fun h8=>iq (fun e:x=9=>by subst e;exact sk 9 u r) fun h9=>iq (fun e:x=10=>by subst e;exact sk 10 u r) fun CH=>iq (fun e:x=11=>by subst e;exact sk 11 u r) fun CI=>iq (fun e:x=12=>by subst e;exact sk 12 u r) fun CJ=>iq (fun e:x=13=>by subst e;exact sk 13 u r) fun CK=>iq (fun e:x=14=>by subst e;exact sk 14 u r) fun pZ=>?_;unfold GW PyVatrca.whole.match_1;exact dE (fun e=>absurd e h0) fun Z=>dE (fun e=>absurd e h1) fun Z=>dE (fun e=>absurd e h2) fun Z=>dE (fun e=>absurd e h3) fun Z=>dE (fun e=>absurd e h4) fun Z=>dE (fun e=>absurd e h5) fun Z=>dE (fun e=>absurd e h6) fun Z=>dE (fun e=>absurd e h7) fun Z=>dE (fun e=>absurd e h8) fun Z=>dE (fun e=>absurd e h9) fun Z=>dE (fun e=>absurd e CH) fun Z=>dE (fun e=>absurd e CI) fun Z=>dE (fun e=>absurd e CJ) fun Z=>dE (fun e=>absurd e CK) fun Z=>dE (fun e=>absurd e pZ) fun Z=>rfl
theorem aca(l:List Int):aa3 l=qN eE l.length l:=by
 unfold aa3;cases qN eE l.length l with
 |none=>rfl
 |some cs=>
  simp only;congr 1;have:GW=id:=by funext c;exact apE c
  rw[this,List.map_id]
noncomputable def da:cI->Prop
 | .soon n a=>n<=9/\da a
 | .atleast n _=>n<=9
 | .atmost n _=>n<=9
 | .no a=>da a
 | .next a=>da a
 | .ever a=>da a
 | .always a=>da a
 | .both a b=>da a/\da b
 | .either a b=>da a/\da b
 | .implies a b=>da a/\da b
 | .till a b=>da a/\da b
 | .weak a b=>da a/\da b
 |_=>True
theorem da.num{w:cI}(h:da w):numOf w<=9:=by
 cases w<;>first|exact dJ _|exact h.1|exact h
theorem da.part{w q:cI}(h:da w)(hq:q∈parts w):da q:=by
 cases w<;>simp[parts]at hq;all_goals first
  |(rcases hq with hq|hq<;>subst hq<;>first|exact h.1|exact h.2)
  |(subst hq;first|exact h.2|exact h)
noncomputable def Dg(ts:List At):Prop:=∀x∈ts,∀n,x.tok=.digit n->n<=9
theorem Dg.drop{ts:List At}(h:Dg ts)(n:Nat):Dg (ts.drop n):=fun x hx=>h x (yg hx)
theorem Dg.next{ts:List At}(h:Dg ts){n:Nat}(e:bf ts=.digit n):n<=9:=by
 cases ts with
 |nil=>cases e
 |cons x r=>exact h x (by simp) n e
theorem adY:∀c:UInt8,di c=true->c.toNat-48<=9:=iQ (by decide+kernel)
theorem apa{t:au}{x:tZ}{n m:Nat}(h:lI t=some (x,n))(hx:x=.digit m):m<=9:=by
 cases t with
 |nil=>cases h
 |cons c r=>
  unfold lI at h;simp only at h;by_cases h1:ko c=true
  .rw[if_pos h1]at h;cases h;cases hx
  rw[if_neg h1]at h;by_cases h2:c=45
  .rw[if_pos h2]at h;by_cases h3:r.head?=some 62
   .rw[if_pos h3]at h;cases h;cases hx
   .rw[if_neg h3]at h;cases h
  rw[if_neg h2]at h;by_cases h3:c=OPEN
  .rw[if_pos h3]at h;cases q:cZ fj r with
   |none=>rw[q]at h;cases h
   |some y=>
    rw[q]at h;simp only at h;cases z:lF y.1 with
    |none=>rw[z]at h;cases h
    |some p=>rw[z]at h;cases h;cases hx
  rw[if_neg h3]at h;by_cases h4:bW c=true
  .rw[if_pos h4]at h;cases h;cases hx
  rw[if_neg h4]at h;by_cases h5:di c=true
  .rw[if_pos h5]at h;by_cases h6:di (r.headD 0)=true
   .rw[if_pos h6]at h;cases h
   .rw[if_neg h6]at h;cases h;cases hx;exact adY c h5
  .rw[if_neg h5]at h;cases h
theorem PV:∀(k p:Nat)(t:au)(ts:List At),fm k p t=.ok ts->Dg ts
 |k,p,[],ts,h=>by
  rw[PR]at h;cases h;intro x hx n e;rw[eY.mp hx]at e;cases e
 |0,p,c::r,ts,h=>by
  rw[fm]at h;cases h
 |k+1,p,c::r,ts,h=>by
  by_cases hb:c=BLANK
  .subst hb;rw[YD]at h;exact PV k _ r ts h
  .cases e:lI (c::r)with
   |none=>rw[PN hb e]at h;cases h
   |some y=>
    obtain⟨x,n⟩:=y;rw[PU hb e]at h;cases e2:fm k (p+n) ((c::r).drop n)with
    |error f=>rw[e2]at h;cases h
    |ok us=>
     rw[e2]at h;cases h;intro y hy m hm;rcases bX.mp hy with hy|hy
     .subst hy;exact apa e hm
     .exact PV k _ _ us e2 y hy m hm
theorem pV{x:jn}{f:cI->List At->jn}{y:cI×List At}(h:andThen x f=.ok y):∃a r,x=.ok (a,r)/\f a r=.ok y:=by
 cases x with
 |error e=>cases h
 |ok z=>exact⟨z.1,z.2,rfl,h⟩
theorem w9{L:Nat}{ts:List At}{f:Nat->jn}{y:cI×List At}(h:level L ts f=.ok y):∃d,f d=.ok y:=by
 cases L with
 |zero=>cases h
 |succ d=>exact⟨d,h⟩
theorem JL{m:Nat}{ts:List At}{f:Nat->List At->jn}{y:cI×List At}(h:gx m ts f=.ok y):∃n,bf (ts.drop 1)=.digit n/\f n (ts.drop 2)=.ok y:=by
 by_cases q:∃n,bf (ts.drop 1)=.digit n
 .obtain⟨n,q⟩:=q;by_cases z:m<=n
  .rw[JK q z]at h;exact⟨n,q,h⟩
  .rw[JI q z]at h;cases h
 .rw[JJ fun n z=>q ⟨n,z⟩]at h;cases h
theorem DV{mk:fH->cI}{r:List At}{y:cI×List At}(h:j6 mk r=.ok y):∃p,y=(mk p,r.drop 1):=by
 by_cases q:∃p,bf r=.pat p
 .obtain⟨p,q⟩:=q;rw[Wu q]at h;cases h;exact⟨p,rfl⟩
 .rw[Wt fun p z=>q ⟨p,z⟩]at h;cases h
theorem aby{ts:List At}{u:cI}{r:List At}(hd:Dg ts)(h:km ts=.ok (u,r)):da u/\Dg r:=by
 by_cases h1:bf ts=.word (txt "true")
 .rw[Sn h1]at h;cases h;exact⟨trivial,hd.drop 1⟩
 by_cases h2:bf ts=.word (txt "false")
 .rw[Sk h2]at h;cases h;exact⟨trivial,hd.drop 1⟩
 by_cases h3:bf ts=.word (txt "atleast")
 .rw[Si h3]at h;obtain⟨n,e,h⟩:=JL h;obtain⟨p,h⟩:=DV h;cases h;exact⟨(hd.drop 1).next e,(hd.drop 2).drop 1⟩
 by_cases h4:bf ts=.word (txt "atmost")
 .rw[Sj h4]at h;obtain⟨n,e,h⟩:=JL h;obtain⟨p,h⟩:=DV h;cases h;exact⟨(hd.drop 1).next e,(hd.drop 2).drop 1⟩
 by_cases h5:∃p,bf ts=.pat p
 .obtain⟨p,h5⟩:=h5;rw[Sl h5]at h;cases h;exact⟨trivial,hd.drop 1⟩
 .rw[Sm h1 h2 h3 h4 fun p q=>h5 ⟨p,q⟩]at h;cases h
theorem am8:∀k:Nat,(∀L rule ts u r,rule<=4->Dg ts->cu k L rule ts=.ok (u,r)->da u/\Dg r)/\(∀L rule a ts u r,rule<4->da a->Dg ts->dC k L rule a ts=.ok (u,r)->da u/\Dg r)/\(∀L ts u r,Dg ts->gP k L ts=.ok (u,r)->da u/\Dg r):=by
 intro k;induction k with
 |zero=>
  refine⟨fun L rule ts u r Z Z h=>?_,fun L rule a ts u r Z Z Z h=>?_,fun L ts u r Z h=>?_⟩
  .rw[cu]at h;cases h
  .rw[dC]at h;cases h
  .rw[gP]at h;cases h
 |succ k ih=>
  obtain⟨i1,i2,i3⟩:=ih;refine⟨fun L rule ts u r hl hd h=>?_,fun L rule a ts u r hl ha hd h=>?_,fun L ts u r hd h=>?_⟩
  .by_cases h4:rule=4
   .subst h4;rw[Xa]at h;exact i3 _ _ _ _ hd h
   .rw[Aw h4]at h;obtain⟨a,r1,e1,h⟩:=pV h;obtain⟨g1,g2⟩:=i1 _ _ _ _ _ (by lia) hd e1;exact i2 _ _ _ _ _ _ (by lia) g1 g2 h
  .obtain rfl|rfl|rfl|rfl:rule=0\/rule=1\/rule=2\/rule=3:=by lia
   .by_cases z:bf ts=.arrow
    .rw[Xd z]at h;obtain⟨d,h⟩:=w9 h;obtain⟨b,r1,e1,h⟩:=pV h;obtain⟨g1,g2⟩:=i1 _ _ _ _ _ (by lia) (hd.drop 1) e1;cases h;exact⟨⟨ha,g1⟩,g2⟩
    .rw[Xe z]at h;cases h;exact⟨ha,hd⟩
   .by_cases z:bf ts=BAR
    .rw[Xf z]at h;obtain⟨b,r1,e1,h⟩:=pV h;obtain⟨g1,g2⟩:=i1 _ _ _ _ _ (by lia) (hd.drop 1) e1;exact i2 _ _ (.either a b) _ _ _ (by lia) ⟨ha,g1⟩ g2 h
    .rw[Xg z]at h;cases h;exact⟨ha,hd⟩
   .by_cases z:bf ts=AMP
    .rw[Xb z]at h;obtain⟨b,r1,e1,h⟩:=pV h;obtain⟨g1,g2⟩:=i1 _ _ _ _ _ (by lia) (hd.drop 1) e1;exact i2 _ _ (.both a b) _ _ _ (by lia) ⟨ha,g1⟩ g2 h
    .rw[Xc z]at h;cases h;exact⟨ha,hd⟩
   .by_cases z:bf ts=.word (txt "until")
    .rw[Xi z]at h;obtain⟨d,h⟩:=w9 h;obtain⟨b,r1,e1,h⟩:=pV h;obtain⟨g1,g2⟩:=i1 _ _ _ _ _ (by lia) (hd.drop 1) e1;cases h;exact⟨⟨ha,g1⟩,g2⟩
    .by_cases z2:bf ts=.word (txt "unless")
     .rw[Xh z2]at h;obtain⟨d,h⟩:=w9 h;obtain⟨b,r1,e1,h⟩:=pV h;obtain⟨g1,g2⟩:=i1 _ _ _ _ _ (by lia) (hd.drop 1) e1;cases h;exact⟨⟨ha,g1⟩,g2⟩
     .rw[Xj z z2]at h;cases h;exact⟨ha,hd⟩
  .by_cases z:∃make:cI->cI,(bf ts=BANG/\make=.no)\/(bf ts=.word (txt "next")/\make=.next)\/(bf ts=.word (txt "ever")/\make=.ever)\/(bf ts=.word (txt "always")/\make=.always)
   .obtain⟨make,z⟩:=z;rw[qx z]at h;obtain⟨d,h⟩:=w9 h;obtain⟨a,r1,e1,h⟩:=pV h;obtain⟨g1,g2⟩:=i3 _ _ _ _ (hd.drop 1) e1;cases h;rcases z with⟨_,rfl⟩|⟨_,rfl⟩|⟨_,rfl⟩|⟨_,rfl⟩<;>exact⟨g1,g2⟩
   .by_cases z5:bf ts=.word (txt "within")
    .rw[Me z5]at h;obtain⟨d,h⟩:=w9 h;obtain⟨n,en,h⟩:=JL h;obtain⟨a,r1,e1,h⟩:=pV h;obtain⟨g1,g2⟩:=i3 _ _ _ _ (hd.drop 2) e1;cases h;exact⟨⟨(hd.drop 1).next en,g1⟩,g2⟩
    .by_cases z6:bf ts=LEFT
     .rw[Wn z6]at h;obtain⟨d,h⟩:=w9 h;obtain⟨a,r1,e1,h⟩:=pV h;obtain⟨g1,g2⟩:=i1 _ _ _ _ _ (by lia) (hd.drop 1) e1;by_cases y:bf r1=RIGHT
      .rw[if_pos y]at h;cases h;exact⟨g1,g2.drop 1⟩
      .rw[if_neg y]at h;cases h
     .rw[Wm (fun q=>z ⟨.no,.inl ⟨q,rfl⟩⟩) (fun q=>z ⟨.next,.inr (.inl ⟨q,rfl⟩)⟩) (fun q=>z ⟨.ever,.inr (.inr (.inl ⟨q,rfl⟩))⟩) (fun q=>z ⟨.always,.inr (.inr (.inr ⟨q,rfl⟩))⟩) z5 z6]at h;exact aby hd h
theorem Ax{t:au}{u:cI}(h:lG t=.ok u):da u:=by
 unfold lG at h;by_cases z:R7<t.length
 .rw[if_pos z]at h;cases h
 rw[if_neg z]at h;cases e:fm (t.length+1) 0 t with
 |error f=>rw[e]at h;cases h
 |ok ts=>
  rw[e]at h;simp only at h;cases e2:wishOf (yX ts.length) ts with
  |error f=>rw[e2]at h;cases h
  |ok v=>
   rw[e2]at h;simp only at h;have:v=u:=by
    by_cases y:R5<v.nodes
    .rw[if_pos y]at h;cases h
    rw[if_neg y]at h;by_cases y2:R6<(cG v).length
    .rw[if_pos y2]at h;cases h
    .rw[if_neg y2]at h;cases h;rfl
   subst this;unfold wishOf at e2;cases e3:cu (yX ts.length) R4 0 ts with
   |error f=>rw[e3]at e2;cases e2
   |ok x=>
    obtain⟨v',r⟩:=x;rw[e3]at e2;simp only at e2;by_cases y:bf r=.finish
    .rw[if_pos y]at e2;cases e2;exact((am8 _).1 _ _ _ _ _ (by lia) (PV _ _ _ _ e) e3).1
    .rw[if_neg y]at e2;cases e2
end Vt
namespace XV
open PySem
open Sem (wp)
variable{M:qT}{A:bO}{E:af->ao->Prop}{s:ao}{base h:aG}{env:dM}{outer:List dM}{L e T N x:aa}{fl v:af}{prog:aV}{w:aQ}{g:Array yr}{d:Drawn}{t:Nat}{os:OsState}{nm q name:ah}{bs sub:List af}{sn:List ah}{ab:Bool}{col:Option Bool}{dd:Option aa}{k0 k1 k2 k3 k5:Option af}{newId sa owner:String}{mN mA:ah->Option af}{o:aM}
theorem adW(o:aM)(f:Array af->Array af):(o.mapFields f).dict=o.dict:=by
 unfold pM;split<;>rfl
structure Moved(fs xs:List aa)(h h':aG):Prop where
 keep:∀b o,b∉xs->b∉fs->h.get? b=some o->h'.get? b=some o
 slot:∀b o,b∉xs->h.get? b=some o->∃sl,h'.get? b=some {o with slots:=sl}
theorem Moved.trans{fs xs ys zs:List aa}{h h1 h2:aG}(a:Moved fs xs h h1)(b:Moved fs ys h1 h2)(hx:∀c∈xs,c∈zs)(hy:∀c∈ys,c∈zs\/h.get? c=none):Moved fs zs h h2:=by
 have aux:∀c o,c∉zs->h.get? c=some o->c∉xs/\c∉ys:=fun c o hc e=>⟨fun m=>hc (hx c m),fun m=>by
  rcases hy c m with z|z
  .exact hc z
  .rw[z]at e;cases e⟩
 refine⟨fun c o hc hf e=>?_,fun c o hc e=>?_⟩
 .exact b.keep c o (aux c o hc e).2 hf (a.keep c o (aux c o hc e).1 hf e)
 .obtain⟨sl,e1⟩:=a.slot c o (aux c o hc e).1 e;obtain⟨sl2,e2⟩:=b.slot c _ (aux c o hc e).2 e1;exact⟨sl2,e2⟩
noncomputable def vg(h:aG)(e:aa)(C:af)(dx:Option aa):Prop:=∃oe vs,h.get? e=some oe/\oe.cls=C/\oe.dict=dx/\oe.data=.fields vs/\vs[1]? =some .none
noncomputable def k6(h:aG)(e T:aa)(C:af)(dx:Option aa)(fl:af):Prop:=∃oe vs oT ts,h.get? e=some oe/\oe.cls=C/\oe.dict=dx/\oe.data=.fields vs/\vs[1]? =some (.ref T)/\T≠e/\h.get? T=some oT/\oT.data=.fields ts/\ts[3]? =some fl
section
variable{C:af}{dx:Option aa}
theorem V7{l:List dM}{b:aa}{o:aM}{vs:Array af}(hl:s.heap.FunFrames base l)(hb:s.heap.get? b=some o)(hd:o.data=.fields vs):b∉l.filterMap (·.frame):=fun hm=>by
 obtain⟨Z,o',iV,hn⟩:=hl.mem hm;rw[hb]at iV;cases iV;exact hn vs hd
theorem Tj{oe:aM}{vs:Array af}{head:af}{had:Bool}{Q:Unit->ao->Prop}(gW:A.frames=some (env::outer))(hl:s.heap.FunFrames base (env::outer))(hf:env.frame=some L)(he:s.heap.get? e=some oe)(hd:oe.data=.fields vs)(hsz:1<vs.size)(hC:oe.cls=C)(hD:oe.dict=dx)(h:∀h' T',Moved ((env::outer).filterMap (·.frame)) [e] s.heap h'->s.heap.get? T'=none->k6 h' e T' C dx (f9 L)->Q () {s with heap:=h'}):aE M A (do
   let fo<-frameOf env
   let at'<-entryPlaceOf L had
   let en<-aac head fo .none (f9 L) .none at'
   rh (.ref e) 1 en) Q E s:=by
 have hef:=V7 hl he hd;refine aB (wpAny_frameOf_fun gW hl hf fun g1 so=>?_);refine aB (wpAny_entryPlaceOf fun pl b0=>?_);unfold aac newFields;refine aB (rp ?_ (b0.sizeOk5 _ _ _ _ _));have e1:g1.get? e=some oe:=(so.2.1 e hef).trans he;generalize hN:({cls:=.type "traceback",dict:=none,data:=.fields ([head,.ref L,.none,f9 L,.none]++(if pl.isEmpty then jh 6 Value.none else pl)).toArray}:aM)=N;have e2:=cD N e1;have ne:g1.objs.size≠e:=vA (cj e1);refine BS e2 hd hsz (h _ g1.objs.size ⟨fun b o hb Kl q=>?_,fun b o hb q=>?_⟩ (aar (yj so.1.symm)) ?_)
 .have q1:g1.get? b=some o:=(so.2.1 b Kl).trans q;rw[pL _ _ (fun z=>hb (by rw[z];exact eY.mpr rfl))];exact cD _ q1
 .obtain⟨sl,q1⟩:=so.2.2 b o q;refine⟨sl,?_⟩;rw[pL _ _ (fun z=>hb (by rw[z];exact eY.mpr rfl))];exact cD _ q1
 .have d3:=Bv hd (·.setIfInBounds 1 (dm g1.objs.size));refine⟨_,_,N,([head,.ref L,.none,f9 L,.none]++(if pl.isEmpty then jh 6 Value.none else pl)).toArray,qS _ e2 (Gr d3),(aau _ _).trans hC,(adW _ _).trans hD,d3,by simp[hsz],ne,?_,by rw[<-hN],by simp⟩;rw[pL _ _ ne.symm];refine dZ g1 ?_;rw[<-hN];rfl
theorem land{Q:Unit->ao->Prop}(hx:k6 s.heap e T C dx fl)(h:∀h',Moved [] [T] s.heap h'->k6 h' e T C dx .none->Q () {s with heap:=h'}):aE M A (setFlight (.ref e) none) Q E s:=by
 obtain⟨oe,vs,oT,ts,he,hC,hD,hd,h1,ne,hT,rR,h3⟩:=hx;have zM:3<ts.size:=(A1.mp h3).1;unfold setFlight;refine aB (BP he hd h1 ?_);rw[if_pos (show(dm T !=Value.none)=true by simp)];have jC:∀b,b≠T->(s.heap.update T (pM (·.setIfInBounds 3 ((none:Option aa).elim Value.none fun f=>f9 f)))).get? b=s.heap.get? b:=fun b hb=>pL _ _ (Ne.symm hb);refine BS hT rR zM (h _ ⟨fun b o hb Z q=>?_,fun b o hb q=>⟨o.slots,?_⟩⟩ ?_)
 .rw[jC b (fun z=>hb (by rw[z];exact eY.mpr rfl))];exact q
 .rw[jC b (fun z=>hb (by rw[z];exact eY.mpr rfl))];exact q
 .have dT:=Bv rR (·.setIfInBounds 3 ((none:Option aa).elim Value.none fun f=>f9 f));exact⟨oe,vs,_,_,(jC e ne.symm).trans he,hC,hD,hd,h1,ne,qS _ hT (Gr dT),dT,by simp[zM]⟩
theorem aj9{Q:Unit->ao->Prop}(gW:A.frames=some (env::outer))(hl:s.heap.FunFrames base (env::outer))(hf:env.frame=some L)(hx:vg s.heap e C dx)(h:∀h' T',Moved ((env::outer).filterMap (·.frame)) [e] s.heap h'->s.heap.get? T'=none->k6 h' e T' C dx (f9 L)->Q () {s with heap:=h'}):aE M A (BK (.ref e) env) Q E s:=by
 obtain⟨oe,vs,he,hC,hD,hd,h1⟩:=hx;unfold BK;simp only[hf];refine aB (BP he hd h1 ?_);rw[if_neg (by decide)];exact Tj gW hl hf he hd (A1.mp h1).1 hC hD h
theorem V8{Q:Unit->ao->Prop}(gW:A.frames=some (env::outer))(hl:s.heap.FunFrames base (env::outer))(hf:env.frame=some L)(hx:k6 s.heap e T C dx .none)(h:∀h' T',Moved ((env::outer).filterMap (·.frame)) [e,T] s.heap h'->s.heap.get? T'=none->k6 h' e T' C dx (f9 L)->Q () {s with heap:=h'}):aE M A (BK (.ref e) env) Q E s:=by
 obtain⟨oe,vs,oT,ts,he,hC,hD,hd,h1,ne,hT,rR,h3⟩:=hx;have hTf:=V7 hl hT rR;unfold BK;simp only[hf];refine aB (BP he hd h1 ?_);rw[if_pos (show(dm T !=Value.none)=true by simp)];refine aB (BP hT rR h3 ?_);rw[if_neg (show¬((Value.none==f9 L)=true) by simp[f9])];have jC:∀b,b≠T->(s.heap.update T (pM (·.setIfInBounds 3 Value.none))).get? b=s.heap.get? b:=fun b hb=>pL _ _ (Ne.symm hb);have sz:(s.heap.update T (pM (·.setIfInBounds 3 Value.none))).objs.size=s.heap.objs.size:=Heap.size_after_update ..;refine aB (BS hT rR (A1.mp h3).1 ?_);have nT:∀b o,s.heap.get? b=some o->(∀us,o.data≠.fields us)->b≠T:=fun b o hb hn z=>by
  rw[z,hT]at hb;cases hb;exact hn ts rR
 refine Tj (s:={s with heap:=s.heap.update T (pM (·.setIfInBounds 3 Value.none))}) gW (hl.of_keeps fun b o hb hn=>⟨o,(jC b (nT b o hb hn)).trans hb,rfl⟩) hf ((jC e ne.symm).trans he) hd (A1.mp h1).1 hC hD fun h' T' mv hn pX=>?_;have oY:s.heap.get? T'=none:=by
  cases q:s.heap.get? T' with
  |none=>rfl
  |some o=>
   have lt:=cj q;by_cases z:T'=T
   .have dT:=Bv rR (·.setIfInBounds 3 Value.none);have:=qS (pM (·.setIfInBounds 3 Value.none)) hT (Gr dT);have jw:(s.heap.update T (pM (·.setIfInBounds 3 Value.none))).get? T'=none:=hn;rw[z,this]at jw;cases jw
   .have jw:(s.heap.update T (pM (·.setIfInBounds 3 Value.none))).get? T'=none:=hn;rw[jC T' z,q]at jw;cases jw
 refine h h' T' ⟨fun b o hb Kl q=>?_,fun b o hb q=>?_⟩ oY pX
 .have b1:b≠e:=fun z=>hb (by rw[z];simp);have b2:b≠T:=fun z=>hb (by rw[z];simp);exact mv.keep b o (by simp[b1]) Kl ((jC b b2).trans q)
 .have b1:b≠e:=fun z=>hb (by rw[z];simp);have b2:b≠T:=fun z=>hb (by rw[z];simp);exact mv.slot b o (by simp[b1]) ((jC b b2).trans q)
theorem aiJ{Q:Unit->ao->Prop}(gW:A.frames=some (env::outer))(hl:s.heap.FunFrames base (env::outer))(hf:env.frame=some L)(hx:vg s.heap e C dx)(h:∀h' T',Moved ((env::outer).filterMap (·.frame)) [e] s.heap h'->s.heap.get? T'=none->k6 h' e T' C dx .none->Q () {s with heap:=h'}):aE M A (leaving env (.ref e)) Q E s:=by
 unfold leaving;refine aB (aj9 gW hl hf hx fun h1 T1 m1 n1 f1=>?_);refine land (s:={s with heap:=h1}) f1 fun h2 m2 f2=>h h2 T1 (m1.trans ⟨fun b o hb Z q=>m2.keep b o hb (by simp) q,m2.slot⟩ (fun c hc=>hc) fun c hc=> .inr ?_) n1 f2;rw[eY.mp hc];exact n1
theorem aiK{Q:Unit->ao->Prop}(gW:A.frames=some (env::outer))(hl:s.heap.FunFrames base (env::outer))(hf:env.frame=some L)(hx:k6 s.heap e T C dx .none)(h:∀h' T',Moved ((env::outer).filterMap (·.frame)) [e,T] s.heap h'->s.heap.get? T'=none->k6 h' e T' C dx .none->Q () {s with heap:=h'}):aE M A (leaving env (.ref e)) Q E s:=by
 unfold leaving;refine aB (V8 gW hl hf hx fun h1 T1 m1 n1 f1=>?_);refine land (s:={s with heap:=h1}) f1 fun h2 m2 f2=>h h2 T1 (m1.trans ⟨fun b o hb Z q=>m2.keep b o hb (by simp) q,m2.slot⟩ (fun c hc=>hc) fun c hc=> .inr ?_) n1 f2;rw[eY.mp hc];exact n1
end
open Builtin Builtin.ObjectAttr
noncomputable abbrev jt:List af:=[.type "ValueError",.type "Exception",.type "BaseException",.type "object"]
theorem LX:mroOf (.type "ValueError")=pure jt:=by kernel_rfl
theorem Kc:Slot "ValueError" "__getattribute__" "BaseException.__getattribute__":=.of (owner:="BaseException") (n:="__getattribute__") (by rw[rk,rb];kernel_rfl) (by decide+kernel) (by decide+kernel) (by decide+kernel) (by first|exact .inl (by decide+kernel)|exact .inr (by decide+kernel)) (by rw[BI];kernel_rfl)
theorem ag0:lE (.type "ValueError") "__getattr__"=pure none:=by rw[rk,rb];kernel_rfl
section
variable{C dx:aa}
theorem apH{M:qT}{VX:af}{Q:Unit->ao->Prop}(hC:h.get? C=some (rf nm q C N bs jt true sn sub ab col dd k0 k1 k2 k3 k5 newId))(hx:h.get? x=some o)(hc:o.cls=.ref C)(hq:Q () ⟨h,g,d,t,os⟩):aE M A (RF "BaseException.__getattribute__" ⟨[.ref x,VX],[]⟩) Q E ⟨h,g,d,t,os⟩:=by
 have hk:builtinKind "BaseException.__getattribute__"=some .slot:=by decide+kernel
 have kJ:splitId "BaseException.__getattribute__"=some ("BaseException","__getattribute__"):=by decide+kernel
 have hB:(dm C::jt).contains (.type "BaseException")=true:=by rw[Ze];simp
 have ha:=F.args_bexc_ga (.ref x) VX;simp only[RF,hk,kJ];refine aB ?_;unfold isInstance;repeat (first|(with_reducible refine rm hx ?_;rw[hc])|(with_reducible refine aaT hC ?_;rw[hB])|wp_step)
 exact hq
theorem apI{tk:ji}{Q:Fin->ao->Prop}(hC:h.get? C=some (rf nm q C N bs jt true sn sub ab col dd k0 k1 k2 k3 k5 newId))(hn:h.Ns N mN)(j0:mN name=none)(hB:lE (.type "ValueError") name=pure none)(hx:h.get? x=some o)(hc:o.cls=.ref C)(ql:∀c,o.data≠.cls c)(zr:o.dict=some dx)(oZ:h.Ns dx mA)(hv:mA name=some v)(hq:Q (.done (.ret v)) ⟨h,g,d,t,os⟩):aE (model prog w) A (Builtin.«object.__getattribute__» ⟨[.ref x,.str name tk],[]⟩) Q E ⟨h,g,d,t,os⟩:=by
 unfold Builtin.«object.__getattribute__»;repeat (first|(with_reducible refine rm hx ?_;rw[hc])|(with_reducible refine BV hC hn LX hB ?_;rw[j0])|wp_step)
 split
 .rename_i c iB;exact absurd iB (ql c)
 unfold instanceDict;repeat (first|(with_reducible refine rm hx ?_;rw[hc])|with_reducible refine rm hC ?_|wp_step)
 rw[zr];repeat (first|(with_reducible refine wpAny_nsGet oZ ?_;rw[hv])|wp_step)
 exact hq
theorem x_load{expr:Bool}{Q:af->ao->Prop}(hC:h.get? C=some (rf nm q C N bs jt true sn sub ab col dd k0 k1 k2 k3 k5 newId))(hn:h.Ns N mN)(hg:mN "__getattribute__"=none)(hk:mN "__getattr__"=none)(j0:mN name=none)(hB:lE (.type "ValueError") name=pure none)(hx:h.get? x=some o)(hc:o.cls=.ref C)(ql:∀c,o.data≠.cls c)(zr:o.dict=some dx)(oZ:h.Ns dx mA)(hv:mA name=some v)(hh:handedOut v=pure v)(hq:Q v ⟨h,g,d,t+1,os⟩):aE (model prog w) A (BH (.ref x) name expr) Q E ⟨h,g,d,t,os⟩:=by
 have f3:=Kc.bind (.ref x);have z0:(expr&&onTheHeap (BD "BaseException.__getattribute__"))=false:=by cases expr<;>rfl
 have z1:(onTheHeap (dm C)&&BD "BaseException.__getattribute__"==BD "object.__getattribute__")=false:=by
  have:(BD "BaseException.__getattribute__"==BD "object.__getattribute__")=false:=by decide+kernel
  rw[this];rfl
 unfold BH getAttrBy getAttrByItsOwn callGetattribute hookBefore boundAndCalled;repeat (any_goals (first|assumption|(with_reducible refine rm hx ?_;rw[hc])|(with_reducible refine BV hC hn LX Kc.lookup ?_;rw[hg])|(with_reducible refine BV hC hn LX ag0 ?_;rw[hk])|wp_step))
 refine RG Kc.plain F.entry_bexc_ga (apH hC hx hc (apI hC hn j0 hB hx hc ql zr oZ hv ?_));repeat (any_goals (first|assumption|wp_step))
end
section
variable{C:aa}
structure Fv(h h':aG)(x:aa)(o:aM)(name:ah)(v:af):Prop where
 obj:h'.get? x=some {o with dict:=some h.objs.size}
 ns:h'.Ns1 h.objs.size (fun y=>if y=name then some v else none)
 keep:∀b ob,b≠x->h.get? b=some ob->h'.get? b=some ob
theorem afi{tk:ji}{Q:Fin->ao->Prop}(SF:Rm "ValueError" jt sa owner)(hC:h.get? C=some (rf nm q C N bs jt true sn sub ab col dd k0 k1 k2 k3 k5 newId))(hn:h.Ns N mN)(j0:mN name=none)(hB:lE (.type "ValueError") name=pure none)(hx:h.get? x=some o)(hc:o.cls=.ref C)(ql:∀c,o.data≠.cls c)(zq:o.dict=none)(hq:∀h' ot,Fv h h' x o name v->Q (.done (.ret .none)) ⟨h',g,d,ot,os⟩):aE (model prog w) A (Builtin.«object.__setattr__» ⟨[.ref x,.str name tk,v],[]⟩) Q E ⟨h,g,d,t,os⟩:=by
 have pas:=SF.passes (.ref x);unfold Builtin.«object.__setattr__»;repeat (first|rw[refuse_eq]|(rw[refuseLoop_ref,pas])|(with_reducible refine rm hx ?_;rw[hc])|with_reducible refine wpAny_mroOf_exc hC ?_|(with_reducible refine BV hC hn SF.mro hB ?_;rw[j0])|wp_step)
 rw[zq,if_neg (by simp[typeHasDict])];split
 .rename_i z;cases z
 split
 .rename_i c z;exact absurd z (ql c)
 have x1:(h.push {cls:=.type "dict",data:=.dict #[]}).get? x=some o:=cD _ hx;have xs:x≠h.objs.size:=dR (cj hx);refine aB (wpAny_alloc' (aB (wpAny_update' x1 (bz ?_))));generalize hU:((h.push {cls:=.type "dict",data:=.dict #[]}).update x fun o=>{cls:=o.cls,dict:=some h.objs.size,data:=o.data,slots:=o.slots})=U;have uS:U.get? h.objs.size=some {cls:=.type "dict",data:=.dict #[]}:=by
  rw[<-hU];exact(aas _ _ _ _ xs.symm).trans (Heap.get?_push_at rfl rfl)
 have uX:U.get? x=some {cls:=o.cls,dict:=some h.objs.size,data:=o.data,slots:=o.slots}:=by
  rw[<-hU];refine qS _ x1 ?_;have fr:=(Heap.get?_some_iff.mp hx).2;obtain⟨oc,od,odt,gX⟩:=o;cases odt<;>first|rfl|exact fr
 have uB:∀b ob,b≠x->h.get? b=some ob->U.get? b=some ob:=fun b ob hb z=>by
  rw[<-hU];exact(aas _ _ _ _ hb).trans (cD _ z)
 have uN:U.Ns h.objs.size (fun Z=>none):=⟨_,#[],_,uS,rfl,fun e he=>absurd he (by simp),fun Z=>rfl⟩;show aE _ _ (storeInDict h.objs.size (.str name tk) name v) _ _ _;unfold storeInDict newKeyGuard;refine aB (bz (aB (wpAny_nsSet1 (aaq uN) fun h' n' sb=>?_)));obtain⟨oD,esD,epD,KS,Kt,Ko⟩:=n'.count (aaO name v Within.nil);refine aB (wpAny_lookBehind KS (by rw[Kt];exact pastItsLine_dict (fA Ko (by rw[cy,je,jk];lia))) ?_);wp_walk;exact hq h' _ ⟨(sb.2 x xs).trans uX,n',fun b ob hb z=>(sb.2 b (dR (cj z))).trans (uB b ob hb z)⟩
theorem afh{tk:ji}{R:tO->ao->Prop}(SF:Rm "ValueError" jt sa owner)(hC:h.get? C=some (rf nm q C N bs jt true sn sub ab col dd k0 k1 k2 k3 k5 newId))(hn:h.Ns N mN)(j0:mN name=none)(hB:lE (.type "ValueError") name=pure none)(hx:h.get? x=some o)(hc:o.cls=.ref C)(ql:∀c,o.data≠.cls c)(zq:o.dict=none)(hq:∀h' ot,Fv h h' x o name v->R (.ok (.ret .none)) ⟨h',g,d,ot,os⟩):nj (model prog w) A (.call (.builtin sa) ⟨[.ref x,.str name tk,v],[]⟩) R ⟨h,g,d,t,os⟩:=RG SF.slot.plain SF.entry (wpAny_check_sa SF hC hx hc (afi SF hC hn j0 hB hx hc ql zq hq))
theorem afg{Q:Unit->ao->Prop}(SF:Rm "ValueError" jt sa owner)(hC:h.get? C=some (rf nm q C N bs jt true sn sub ab col dd k0 k1 k2 k3 k5 newId))(hn:h.Ns N mN)(oZ:mN "__setattr__"=none)(j0:mN name=none)(hB:lE (.type "ValueError") name=pure none)(hx:h.get? x=some o)(hc:o.cls=.ref C)(ql:∀c,o.data≠.cls c)(zq:o.dict=none)(hq:∀h' ot,Fv h h' x o name v->Q () ⟨h',g,d,ot,os⟩):aE (model prog w) A (setAttr (.ref x) name v) Q E ⟨h,g,d,t,os⟩:=by
 have f3:=SF.slot.bind (.ref x);unfold setAttr callSpecial? specialOf;repeat (any_goals (first|assumption|(with_reducible refine rm hx ?_;rw[hc])|(with_reducible refine BV hC hn SF.mro SF.slot.lookup ?_;rw[oZ])|wp_step))
 refine afh SF hC hn j0 hB hx hc ql zq fun h' ot f=>?_;repeat (any_goals (first|assumption|wp_step))
 exact hq h' ot f
end
theorem Vl:lE (.type "ValueError") "kind"=pure none:=by rw[rk,rb];kernel_rfl
theorem WR:lE (.type "ValueError") "place"=pure none:=by rw[rk,rb];kernel_rfl
end XV
namespace L2
open PySem PySem.Spec PyProof.Rows
abbrev Key:=Sum Int ah
def sj:Key->af->Bool
 | .inl k,v=>Value.isInt k v
 | .inr x,v=>aaD x v
def air(w:aQ):Key->Int
 | .inl k=>hashInt k
 | .inr x=>hashStr w x
theorem o6:∀{k:Key}{v:af},sj k v=true->(∃i t,k=vW i/\v=ll i t)\/(∃x t,k=rA x/\v=Value.str x t)
 | .inl i,v,h=>by
  obtain⟨t,e⟩:=Rt (k:=i) (v:=v) h;exact .inl ⟨i,t,rfl,e⟩
 | .inr x,v,h=>by
  obtain⟨t,e⟩:=Value.isStrOf_shape (x:=x) (v:=v) h;exact .inr ⟨x,t,rfl,e⟩
theorem ais(i:Int)(t:ji):sj (.inl i) (.int i t)=true:=by simp[sj,Value.isInt]
theorem ait(x:ah)(t:ji):sj (.inr x) (.str x t)=true:=by simp[sj,aaD]
theorem aiu(a b:Int):decide ((vW a:Key)=vW b)=(a==b):=by
 by_cases e:a=b
 .subst e;simp
 .have h:¬(vW a:Key)=vW b:=fun q=>e (R0 q);rw[decide_eq_false h];exact(beq_eq_false_iff_ne.mpr e).symm
theorem aix(a b:ah):decide ((rA a:Key)=rA b)=decide (a=b):=by
 by_cases e:a=b
 .subst e;simp
 .have h:¬(rA a:Key)=rA b:=fun q=>e (aa5 q);rw[decide_eq_false h,decide_eq_false e]
theorem aiv(a:Int)(b:ah):decide ((vW a:Key)=rA b)=false:=decide_eq_false (fun q=>nomatch q)
theorem aiw(a:ah)(b:Int):decide ((rA a:Key)=vW b)=false:=decide_eq_false (fun q=>nomatch q)
def ik(prog:aV)(w:aQ):PySem.KeyKind prog w Key where
 is:=sj;hash:=air w;inj:=fun v a b ha hb=>by
  rcases o6 ha with⟨i,t,rfl,rfl⟩|⟨x,t,rfl,rfl⟩
  .rcases o6 hb with⟨j,u,rfl,e⟩|⟨y,u,rfl,e⟩
   .injection e with e1 _;rw[e1]
   .exact nomatch e
  .rcases o6 hb with⟨j,u,rfl,e⟩|⟨y,u,rfl,e⟩
   .exact nomatch e
   .injection e with e1 _;rw[e1]
 byValue:=fun k v h=>by
  rcases o6 h with⟨i,t,rfl,rfl⟩|⟨x,t,rfl,rfl⟩<;>rfl
 pyHash:=fun hv h=>by
  rcases o6 hv with⟨i,t,rfl,rfl⟩|⟨x,t,rfl,rfl⟩
  .exact wpAny_pyHash_int h
  .exact wpAny_pyHash_str h
 eqBool:=fun hu hv h=>by
  rcases o6 hu with⟨i,t,rfl,rfl⟩|⟨x,t,rfl,rfl⟩
  .rcases o6 hv with⟨j,u,rfl,rfl⟩|⟨y,u,rfl,rfl⟩
   .rw[aiu]at h;exact wpAny_eqBool_int h
   .rw[aiv]at h;exact aax i t y u _ _ _ _ h
  .rcases o6 hv with⟨j,u,rfl,rfl⟩|⟨y,u,rfl,rfl⟩
   .rw[aiw]at h;exact aay x t j u _ _ _ _ h
   .rw[aix]at h;exact wpAny_eqBool_str h
 «strs»:=fun k x t v h=>by
  rcases o6 h with⟨i,u,rfl,e⟩|⟨y,u,rfl,e⟩
  .exact nomatch e
  .injection e with e1 _
   subst e1;cases v<;>rfl
theorem ai8(prog:aV)(w:aQ)(i:Int)(t:ji):(ik prog w).is (.inl i) (.int i t)=true:=ais i t
theorem LR(prog:aV)(w:aQ)(x:ah)(t:ji):(ik prog w).is (.inr x) (.str x t)=true:=ait x t
inductive V where
 |aO|bl (b:Bool)|int (i:Int)|str (x:ah)|iS (b:Array UInt8)|gh (b:UInt64)|ref (a:aa)|ty (n:String)
 deriving DecidableEq
def RelV:V->af->Prop
 | .aO,u=>u=Value.none
 | .bl b,u=>u=tP b
 | .int i,u=>∃t,u=ll i t
 | .str x,u=>∃t,u=Value.str x t
 | .iS b,u=>∃t,u=Value.bytes b t
 | .gh b,u=>∃t,u=Value.float b t
 | .ref a,u=>u=dm a
 | .ty n,u=>u=ml n
abbrev Vals:List V->List af->Prop:=vF RelV
theorem Vals.length{xs:List V}{us:List af}(r:Vals xs us):xs.length=us.length:=yu r
theorem Vals.get:∀{xs:List V}{us:List af}{i:Nat}{x:V},Vals xs us->xs[i]? =some x->∃u,us[i]? =some u/\RelV x u
 |_,_,_,_,.nil,e=>by simp at e
 |_,_,0,_,.cons r _,e=>by simp at e;subst e;exact⟨_,rfl,r⟩
 |_,_,i+1,x,.cons _ t,e=>by
  obtain⟨u,h1,h2⟩:=Vals.get (i:=i) (x:=x) t (by simpa using e);exact⟨u,by simpa using h1,h2⟩
theorem Vals.set{x:V}{u:af}(r:RelV x u):∀{xs:List V}{us:List af}(i:Nat),Vals xs us->Vals (xs.set i x) (us.set i u)
 |_,_,_,.nil=> .nil
 |_,_,0,.cons _ t=> .cons r t
 |_,_,i+1,.cons q t=> .cons q (Vals.set r i t)
theorem Vals.append:∀{xs ys:List V}{us ws:List af},Vals xs us->Vals ys ws->Vals (xs++ys) (us++ws)
 |_,_,_,_,.nil,s=>s
 |_,_,_,_,.cons r t,s=> .cons r (Vals.append t s)
theorem Vals.take:∀{xs:List V}{us:List af}(n:Nat),Vals xs us->Vals (xs.take n) (us.take n)
 |_,_,0,_=> .nil
 |_,_,_+1,.nil=> .nil
 |_,_,n+1,.cons r t=> .cons r (Vals.take n t)
theorem Vals.drop:∀{xs:List V}{us:List af}(n:Nat),Vals xs us->Vals (xs.drop n) (us.drop n)
 |_,_,0,r=>r
 |_,_,_+1,.nil=> .nil
 |_,_,n+1,.cons _ t=>Vals.drop n t
def fP:Option V->Option af->Prop
 |some v,some u=>RelV v u
 |none,none=>True
 |_,_=>False
def KV{κ:Type}:List (κ×V)->List (κ×af)->Prop:=vF fun(p:κ×V)(q:κ×af)=>p.1=q.1/\RelV p.2 q.2
def kV:Key->V
 | .inl i=> .int i
 | .inr x=> .str x
inductive HO where
 |lst (xs:List V)
 |tup (xs:List V)
 |dK (kvs:List (Key×V))|dT (kvs:List (List Key×V))
 |set (S:Int->Bool) (n:Nat)
 |ins (C dx:aa) (fs:List (ah×V))
 |own (x:aa)
 |xd (fs:List (ah×V))
 |met (f x:aa)
 |D9 (lo hi:Int)
 |cS (o:aM) (u:HO)
 |sV (ps:Array af)
 |ext (φ:aG->Prop)
abbrev Hp:=aa->Option HO
def upd(H:Hp)(a:aa)(o:HO):Hp:=fun b=>if b=a then some o else H b
theorem aD{H:Hp}{a:aa}{o:HO}:upd H a o a=some o:=by unfold upd;rw[if_pos rfl]
theorem ba{H:Hp}{a b:aa}{o:HO}(h:b≠a):upd H a o b=H b:=by unfold upd;rw[if_neg h]
theorem fE{H:Hp}{a:aa}{o u:HO}:upd (upd H a o) a u=upd H a u:=by
 funext b;unfold upd;split<;>rfl
theorem fe{H:Hp}{a b:aa}{o u:HO}(h:H a=some o)(h':H b=some u)(d:o≠u):a≠b:=by
 intro e;subst e;rw[h]at h';exact d (g8 h')
theorem cC{H:Hp}{a b:aa}{o:HO}(h:H a=some o)(h':H b=none):a≠b:=by
 intro e;subst e;rw[h]at h';cases h'
section
variable(P:aV)(w:aQ)
def eR(H:Hp)(h:aG)(a:aa):HO->Prop
 | .lst xs=>xs.length<=sizeLine/\∃(aC:List af)(n:Nat),Vals xs aC/\h.get? a=some {cls:=.type "list",data:=.seq aC.toArray n}
 | .tup xs=>xs.length<=sizeLine/\∃aC:List af,Vals xs aC/\IsTup h a aC.toArray
 | .dK kvs=>kvs.length<=sizeLine/\(a==kj)=false/\∃vs,KV kvs vs/\h.DictOf (ik P w) a vs
 | .dT kvs=>kvs.length<=sizeLine/\(a==kj)=false/\∃xs:List (List Key×aa×af),vF (fun(p:List Key×V)(q:List Key×aa×af)=>p.1=q.1/\H q.2.1=some (.tup (p.1.map kV))/\RelV p.2 q.2.2) kvs xs/\∃o es ep,h.get? a=some o/\o.ExactDict/\o.data=.dict es ep/\es.toList=xs.map (entryOfKey (BM (ik P w)))/\(xs.map (·.1)).Nodup
 | .set S n=>h.SetOf (intKind P w) a S n
 | .ins C dx fs=>H dx=some (.own a)/\fs.length<=1000/\dx≠a/\h.get? a=some (tR C dx)/\∃mA,h.Ns1 dx mA/\(∀f,fP (fs.lookup f) (mA f))/\RC mA (fs.map (·.1))
 | .own _=>∃o,h.get? a=some o
 | .xd fs=>∃mA,h.Ns1 a mA/\∀f,fP (fs.lookup f) (mA f)
 | .D9 lo hi=>∃t u v,h.get? a=some {cls:=.type "range",data:=.fields #[.int lo t,.int hi u,.int 1 v]}
 | .cS o u=>h.get? a=some o/\eR H h a u
 | .sV ps=>h.get? a=some {cls:=.none,data:=.fields ps}
 | .met f x=>h.get? a=some (Rv (.ref f) (.ref x))
 | .ext φ=>φ h/\(∃o,h.get? a=some o)/\∀h1 h2:aG,φ h1->(∀o,h1.get? a=some o->h2.get? a=some o)->φ h2
def c9(H:Hp)(h:aG):Prop:=∀a o,H a=some o->eR P w H h a o
end
section
variable{P:aV}{w:aQ}{H H':Hp}{h h':aG}{a:aa}{o:HO}
theorem eR.lt(x:eR P w H h a o):a<h.objs.size:=by
 cases o with
 |lst xs=>obtain⟨Z,Z,Z,Z,e⟩:=x;exact cj e
 |tup xs=>obtain⟨Z,Z,Z,p⟩:=x;exact p.lt
 |dK kvs=>obtain⟨Z,Z,Z,Z,o,Z,Z,e,Z⟩:=x;exact cj e
 |dT kvs=>obtain⟨Z,Z,Z,Z,o,Z,Z,e,Z⟩:=x;exact cj e
 |set S n=>obtain⟨o,Z,Z,Z,e,Z⟩:=x;exact cj e
 |ins C dx fs=>obtain⟨Z,Z,Z,e,Z⟩:=x;exact cj e
 |own y=>obtain⟨Z,e⟩:=x;exact cj e
 |xd fs=>obtain⟨Z,⟨Z,Z,Z,e,Z⟩,Z⟩:=x;exact cj e
 |D9 lo hi=>obtain⟨Z,Z,Z,e⟩:=x;exact cj e
 |cS ob u=>obtain⟨e,Z⟩:=x;exact cj e
 |sV ps=>exact cj (show h.get? a=some _ from x)
 |met f y=>exact cj (show h.get? a=some _ from x)
 |ext φ=>obtain⟨Z,⟨Z,e⟩,Z⟩:=x;exact cj e
theorem Paired.LP{α β:Type}{F G:α->β->Prop}:∀{l₁:List α}{l₂:List β},vF F l₁ l₂->(∀a b,F a b->G a b)->vF G l₁ l₂
 |_,_,.nil,_=> .nil
 |_,_,.cons r t,f=> .cons (f _ _ r) (Paired.LP t f)
theorem eR.oo(x:eR P w H h a o)(k:∀b u,(b=a\/H b=some (.own a))->h.get? b=some u->h'.get? b=some u)(ho:∀b,H b=some (.own a)->H' b=some (.own a))(ht:∀b xs,H b=some (.tup xs)->H' b=some (.tup xs)):eR P w H' h' a o:=by
 induction o with
 |lst xs=>obtain⟨z,aC,n,r,e⟩:=x;exact⟨z,aC,n,r,k _ _ (.inl rfl) e⟩
 |tup xs=>obtain⟨z,aC,r,ob,e,c⟩:=x;exact⟨z,aC,r,ob,k _ _ (.inl rfl) e,c⟩
 |dK kvs=>obtain⟨z,y,vs,r,ob,es,ep,e,c⟩:=x;exact⟨z,y,vs,r,ob,es,ep,k _ _ (.inl rfl) e,c⟩
 |dT kvs=>
  obtain⟨z,y,xs,r,ob,es,ep,e,c⟩:=x;exact⟨z,y,xs,Paired.LP r fun p q z=>⟨z.1,ht _ _ z.2.1,z.2.2⟩,ob,es,ep,k _ _ (.inl rfl) e,c⟩
 |set S n=>obtain⟨ob,es,ep,t,e,c⟩:=x;exact⟨ob,es,ep,t,k _ _ (.inl rfl) e,c⟩
 |ins C dx fs=>
  obtain⟨d,z,ne,e,mA,⟨od,es,ep,e2,c⟩,r⟩:=x;exact⟨ho _ d,z,ne,k _ _ (.inl rfl) e,mA,⟨od,es,ep,k _ _ (.inr d) e2,c⟩,r⟩
 |own y=>obtain⟨ob,e⟩:=x;exact⟨ob,k _ _ (.inl rfl) e⟩
 |xd fs=>obtain⟨mA,⟨od,es,ep,e,c⟩,r⟩:=x;exact⟨mA,⟨od,es,ep,k _ _ (.inl rfl) e,c⟩,r⟩
 |D9 lo hi=>obtain⟨t,u,v,e⟩:=x;exact⟨t,u,v,k _ _ (.inl rfl) e⟩
 |cS ob u ih=>obtain⟨e,q⟩:=x;exact⟨k _ _ (.inl rfl) e,ih q⟩
 |sV ps=>
  have e:h.get? a=some {cls:=.none,data:=.fields ps}:=x;show h'.get? a=some {cls:=.none,data:=.fields ps};exact k a _ (.inl rfl) e
 |met f y=>
  have e:h.get? a=some (Rv (.ref f) (.ref y)):=x;show h'.get? a=some (Rv (.ref f) (.ref y));exact k a _ (.inl rfl) e
 |ext φ=>obtain⟨p,⟨o,e⟩,st⟩:=x;exact⟨st _ _ p fun o q=>k _ _ (.inl rfl) q,⟨o,k _ _ (.inl rfl) e⟩,st⟩
theorem c9.lt(x:c9 P w H h)(e:H a=some o):a<h.objs.size:=(x a o e).lt
theorem c9.fresh(x:c9 P w H h)(e:h.objs.size<=a):H a=none:=by
 cases q:H a with
 |none=>rfl
 |some u=>exact absurd (g7 (x.lt q) e) (mh _)
theorem c9.kept(x:c9 P w H h)(k:∀b u,h.get? b=some u->h'.get? b=some u):c9 P w H h':=fun a o e=>(x a o e).oo (fun b u Z q=>k b u q) (fun Z q=>q) fun Z Z q=>q
theorem c9.laid(x:c9 P w H h)(k:∀b u,h.get? b=some u->h'.get? b=some u)(hp:h.objs.size<=a)(new:eR P w (upd H a o) h' a o):c9 P w (upd H a o) h':=fun b u e=>by
 have hn:=x.fresh hp;by_cases hb:b=a
 .subst hb;rw[aD]at e;cases e;exact new
 .rw[ba hb]at e;exact(x b u e).oo (fun c v Z q=>k c v q) (fun c q=>by rw[ba (cC q hn)];exact q) fun c xs q=>by rw[ba (cC q hn)];exact q
end
def Rd(H:Hp)(a:aa)(u:HO):Prop:=H a=some u\/∃o,H a=some (.cS o u)
theorem Rd.ok{P:aV}{w:aQ}{H:Hp}{h:aG}{a:aa}{u:HO}(r:Rd H a u)(x:c9 P w H h):eR P w H h a u:=by
 rcases r with r|⟨o,r⟩
 .exact x a u r
 .obtain⟨Z,q⟩:=x a _ r;exact q
def qL:Option HO->Prop
 |some (.lst _)=>True
 |some (.dK _)=>True
 |some (.dT _)=>True
 |some (.set _ _)=>True
 |some (.ins _ _ _)=>True
 |some (.ext _)=>True
 |_=>False
section
variable{P:aV}{w:aQ}{H:Hp}{h h':aG}{x e:aa}{o':HO}
theorem c9.write(ok:c9 P w H h)(mu:qL (H x))(he:e=x\/H e=some (.own x))(k:∀b u,b≠e->h.get? b=some u->h'.get? b=some u)(wL:∃u,h'.get? e=some u)(new:eR P w (upd H x o') h' x o'):c9 P w (upd H x o') h':=fun b u q=>by
 have V9:∀c y,H c=some (.own y)->c≠x:=fun c y r z=>by subst z;rw[r]at mu;exact mu
 have akb:∀c xs,H c=some (.tup xs)->c≠x:=fun c xs r z=>by subst z;rw[r]at mu;exact mu
 by_cases hb:b=x
 .subst hb;rw[aD]at q;cases q;exact new
 .rw[ba hb]at q;by_cases ui:b=e
  .have q':H b=some (.own x):=by
    rcases he with z|z
    .exact absurd (ui.trans z) hb
    .rw[ui];exact z
   rw[q]at q';cases q';obtain⟨v,hv⟩:=wL;exact⟨v,by rw[ui];exact hv⟩
  .refine(ok b u q).oo (fun c v hc r=>k c v ?_ r) (fun c r=>by rw[ba (V9 c b r)];exact r) fun c xs r=>by rw[ba (akb c xs r)];exact r
   rcases hc with rfl|hc
   .exact ui
   .rintro rfl;rcases he with z|z
    .exact V9 c b hc z
    .rw[hc]at z;cases z;exact hb rfl
end
structure Un(fs ex:List aa)(H H':Hp)(h h':aG):Prop where
 keep:∀b o,h.get? b=some o->H b=none->b∉fs->b∉ex->h'.get? b=some o
 slot:∀b o,h.get? b=some o->H b=none->b∈fs->b∉ex->∃sl,h'.get? b=some {o with slots:=sl}
 free:∀b o,h.get? b=some o->H b=none->b∉ex->H' b=none
 there:∀b o,h.get? b=some o->b∉ex->∃o',h'.get? b=some o'
 ng:∀b xs,H b=some (.tup xs)->H' b=some (.tup xs)
 kF:∀b o u,H b=some (.cS o u)->H' b=some (.cS o u)
 mY:∀b ps,H b=some (.sV ps)->∃more,H' b=some (.sV (ps++more))
section
variable{fs wD ex ex':List aa}{H H1 H2:Hp}{h h1 h2 h':aG}{a x e:aa}{o:HO}
theorem Un.any(u:Un fs ex H H1 h h1){b:aa}{ob:aM}(q:h.get? b=some ob)(n:H b=none)(hx:b∉ex):∃sl,h1.get? b=some {ob with slots:=sl}:=by
 by_cases hb:b∈fs
 .exact u.slot b ob q n hb hx
 .exact⟨ob.slots,u.keep b ob q n hb hx⟩
theorem Un.kept(k:∀b u,h.get? b=some u->h'.get? b=some u):Un fs ex H H h h':=⟨fun b ob q Z Z Z=>k b ob q,fun b ob q Z Z Z=>⟨ob.slots,k b ob q⟩,fun Z Z Z n Z=>n,fun b ob q Z=>⟨ob,k b ob q⟩,fun Z Z q=>q,fun Z Z Z q=>q,fun Z ps q=>⟨#[],by rw[q];simp⟩⟩
theorem Un.refl:Un fs ex H H h h:=Un.kept fun Z Z q=>q
theorem Un.laid(k:∀b u,h.get? b=some u->h'.get? b=some u)(hp:h.objs.size<=a)(hn:H a=none):Un fs ex H (upd H a o) h h' where
 keep:=fun b u q Z Z Z=>k b u q;slot:=fun b u q Z Z Z=>⟨u.slots,k b u q⟩;free:=fun b u q n Z=>by rw[ba (dR (g7 (cj q) hp))];exact n
 there:=fun b u q Z=>⟨u,k b u q⟩;ng:=fun b xs q=>by rw[ba (cC q hn)];exact q
 kF:=fun b u xs q=>by rw[ba (cC q hn)];exact q
 mY:=fun b ps q=>⟨#[],by rw[ba (cC q hn),q];simp⟩
theorem Un.write(mu:qL (H x))(he:e=x\/H e=some (.own x))(k:∀b u,b≠e->h.get? b=some u->h'.get? b=some u)(wL:∃u,h'.get? e=some u):Un fs ex H (upd H x o) h h':=by
 have hx:∀b,H b=none->b≠x:=fun b n z=>by subst z;rw[n]at mu;exact mu
 have hb:∀b,H b=none->b≠e:=fun b n z=>by
  subst z;rcases he with r|r
  .exact hx b n r
  .rw[n]at r;cases r
 have hm:∀b u,H b=some u->¬qL (some u)->b≠x:=fun b u q nm z=>by subst z;rw[q]at mu;exact nm mu
 refine⟨fun b u q n Z Z=>k b u (hb b n) q,fun b u q n Z Z=>⟨u.slots,k b u (hb b n) q⟩,fun b u q n Z=>by rw[ba (hx b n)];exact n,fun b u q Z=>?_,fun b xs q=>by rw[ba (hm b _ q fun z=>z)];exact q,fun b u xs q=>by rw[ba (hm b _ q fun z=>z)];exact q,fun b ps q=>⟨#[],by rw[ba (hm b _ q fun z=>z),q];simp⟩⟩;by_cases ui:b=e
 .subst ui;exact wL
 .exact⟨u,k b u ui q⟩
end
def E8(h:aG)(H:Hp):List aa:=(cW h.objs.size).filter fun a=>(H a).isSome
def qd(h:aG)(H:Hp):aG:=PySem.W.hideAll h (E8 h H)
theorem agp(h:aG)(H:Hp):(qd h H).objs.size=h.objs.size:=PySem.W.hideAll_size _ _
theorem ago{h:aG}{H:Hp}{b:aa}{o:aM}(e:h.get? b=some o)(n:H b=none):(qd h H).get? b=some o:=PySem.W.hideAll_get _ e fun hm=>by
 have q:(H b).isSome=true:=(QJ.mp hm).2;rw[n]at q;simp at q
theorem akh{h:aG}{H:Hp}{b:aa}{o:aM}(e:(qd h H).get? b=some o):h.get? b=some o/\H b=none:=by
 have e':h.get? b=some o:=PySem.W.of_hideAll (E8 h H) e;refine⟨e',?_⟩;cases q:H b with
 |none=>rfl
 |some x=>
  have hm:b∈E8 h H:=QJ.mpr ⟨Bh.mpr (cj e'),by simp[q]⟩;have z:(qd h H).get? b=none:=PySem.W.hideAll_none (E8 h H) hm;rw[z]at e;cases e
def abk(g h:aG)(L:aa):List (aa×aM):=(cW h.objs.size).filterMap fun a=>if a=L\/(g.get? a).isSome=true then none else(h.get? a).map fun o=>(a,o)
def rest(g h:aG)(L d:aa):List (aa×aM):=(abk g h L).filter fun p=>decide (p.1≠d)
structure Mod(K:aK)(mg:ah->Option af)(base:aG):Prop where
 w6:K.In base
 glob:base.Ns cX mg
 blt:∃mb,base.Ns RE mb/\∀x:ah,x≠"__name__"->mb x=pO x
 nolimit:base.NoLimit
structure Cx where
 prog:aV
 w:aQ
 K:aK
 mg:ah->Option af
 base:aG
 A:bO
 N:List ah
 gF:ao
 H_0:Hp
 env:dM
 outer:List dM
 stack:List dM
 ex:List aa
 fn:ah->Bool
 calm:Bool
 pn:List (aa×aM)
 xe:af->ao->Prop
def gy(l:List dM):List aa:=l.filterMap (·.frame)
abbrev Cx.fs(X:Cx):List aa:=gy X.outer
def we(sc:e9)(x:ah):Prop:=sc.names.lookup x=some .local\/sc.names.lookup x=some .cell\/sc.names.lookup x=some .free
def Loc(sc:e9)(x:ah):Prop:=sc.names.lookup x=some .local\/sc.names.lookup x=some .cell
def Look(env:dM)(h:aG)(m:ah->Option af)(x:ah)(u:af):Prop:=(env.kindOf x=some .local/\m x=some u)\/((env.kindOf x=some .cell\/env.kindOf x=some .free)/\∃c,env.cells.lookup x=some c/\h.IsCell c (some u))
structure Cx.Ok(X:Cx):Prop where
 mod:Mod X.K X.mg X.base
 kind:X.env.scope.kind=.function
 glob:X.env.globals=cX
 blt:X.env.builtins=RE
 above:X.gF.heap.objs.size<=X.env.locals
 inj:∀x y c,X.env.cells.lookup x=some c->X.env.cells.lookup y=some c->x=y
 has:∀x,(X.env.kindOf x=some .cell\/X.env.kindOf x=some .free)->∃c,X.env.cells.lookup x=some c
 rI:∀x c,X.fn x=true->X.env.cells.lookup x=some c->X.gF.heap.objs.size<=c
 hd:X.calm=true->X.A.handled=none
 frames:X.A.frames=some X.stack
 vd:X.stack=X.outer\/(X.stack=X.env::X.outer/\X.env.frame=some X.env.locals)
 uc:∀b∈X.ex,b≠X.env.locals/\∀x c,X.env.cells.lookup x=some c->c≠b
 bs:∀b o,X.base.get? b=some o->X.gF.heap.get? b=some o/\X.H_0 b=none
 mG:X.base.objs.size<=X.gF.heap.objs.size
 sC:∀b o,X.base.get? b=some o->b∉X.ex
 rL:∀b∈X.ex,b∉X.fs
 jW:X.gF.heap.FunFrames X.base X.outer
 oR:∀b∈X.fs,X.H_0 b=none
structure Inv(X:Cx)(pins:List (aa×aM))(σ:List (Option V))(H:Hp)(s:ao):Prop where
 ok:X.Ok
 os:s.os=X.gF.os
 bare:qP s.gens
 base:Un X.fs X.ex X.H_0 H X.gF.heap s.heap
 loc:∃m,s.heap.Ns X.env.locals m/\∀(i:Nat)(x:ah)(v:V),X.N[i]? =some x->σ[i]? =some (some v)->we X.env.scope x->∃u,RelV v u/\Look X.env s.heap m x u
 cell:∀x c,X.env.cells.lookup x=some c->∃v,s.heap.IsCell c v
 free:H X.env.locals=none
 ic:∀x c,X.env.cells.lookup x=some c->H c=none
 pin:∀p∈X.pn++pins,s.heap.get? p.1=some p.2/\H p.1=none/\p.1≠X.env.locals/\p.1∉X.fs/\∀v,p.2.data≠.cell v
 aT:c9 X.prog X.w H s.heap
 len:σ.length=X.N.length
section
variable{X:Cx}{pins:List (aa×aM)}{σ:List (Option V)}{H H':Hp}{s:ao}{h':aG}
theorem Cx.Ok.aj5(ok:X.Ok){b:aa}{o:aM}(e:X.base.get? b=some o):b∉X.fs:=fun hb=>by
 have:=(ok.jW.mem hb).1;rw[e]at this;cases this
theorem Inv.bs(I:Inv X pins σ H s):∀b o,X.base.get? b=some o->s.heap.get? b=some o/\H b=none:=fun b o e=>⟨I.base.keep b o (I.ok.bs b o e).1 (I.ok.bs b o e).2 (I.ok.aj5 e) (I.ok.sC b o e),I.base.free b o (I.ok.bs b o e).1 (I.ok.bs b o e).2 (I.ok.sC b o e)⟩
theorem Inv.bk(I:Inv X pins σ H s):∀b o,X.base.get? b=some o->s.heap.get? b=some o:=fun b o e=>(I.bs b o e).1
theorem Inv.mod(I:Inv X pins σ H s):Mod X.K X.mg X.base:=I.ok.mod
theorem Inv.fK(I:Inv X pins σ H s):X.K.In s.heap:=I.ok.mod.w6.keeps I.bk
theorem Inv.lt(I:Inv X pins σ H s):X.env.locals<s.heap.objs.size:=let ⟨_,hn,_⟩:=I.loc;hn.lt
theorem Inv.sz(I:Inv X pins σ H s):X.gF.heap.objs.size<=s.heap.objs.size:=fA I.ok.above (qM I.lt)
theorem Inv.aj7(I:Inv X pins σ H s){a:aa}(h:s.heap.objs.size<=a):a∉X.fs:=fun hb=>by
 obtain⟨Z,o,ho,Z⟩:=I.ok.jW.mem hb;exact absurd (g7 (cj ho) (fA I.sz h)) (mh _)
theorem Inv.rJ(I:Inv X pins σ H s):∀x c,X.env.cells.lookup x=some c->c≠X.env.locals:=fun x c e z=>by
 obtain⟨v,o,ho,hd⟩:=I.cell x c e;obtain⟨m,⟨o',es,ep,iV,Ks,Z⟩,Z⟩:=I.loc;rw[z,iV]at ho;cases ho;rw[Ks]at hd;cases hd
theorem Inv.jW(I:Inv X pins σ H s):s.heap.FunFrames X.base X.outer:=by
 have all:∀(l:List dM),(∀b∈gy l,b∈X.fs)->X.gF.heap.FunFrames X.base l->s.heap.FunFrames X.base l:=by
  intro l;induction l with
  |nil=>intro _ _;trivial
  |cons env r ih=>
   intro hs hl;obtain⟨hk,⟨L,o,hf,hn,ho,hd⟩,hr⟩:=hl;have hL:L∈X.fs:=hs L (by unfold gy;rw[Qw,hf];exact eB);obtain⟨sl,e⟩:=I.base.slot L o ho (I.ok.oR L hL) hL fun z=>I.ok.rL L z hL;exact⟨hk,⟨L,_,hf,hn,e,hd⟩,ih (fun b hb=>hs b (by unfold gy;rw[Qw,hf];exact el _ hb)) hr⟩
 exact all X.outer (fun Z hb=>hb) I.ok.jW
theorem Inv.stack(I:Inv X pins σ H s):s.heap.FunFrames X.base X.stack:=by
 rcases I.ok.vd with e|⟨e,hf⟩
 .rw[e];exact I.jW
 .rw[e];obtain⟨m,hn,Z⟩:=I.loc;refine .cons (by rw[I.ok.kind];decide) hf hn ?_ I.jW;exact aar (fA I.ok.mG I.ok.above)
theorem Inv.Pp(I:Inv X pins σ H s):∀b∈gy X.stack,b∈X.env.locals::X.fs:=fun b hb=>by
 rcases I.ok.vd with e|⟨e,hf⟩
 .rw[e]at hb;exact el _ hb
 .rw[e]at hb;unfold gy at hb;rw[Qw,hf]at hb;exact hb
theorem Inv.AX(I:Inv X pins σ H s):∀b∈gy X.stack,H b=none:=fun b hb=>by
 rcases bX.mp (I.Pp b hb)with e|hb
 .rw[e];exact I.free
 .obtain⟨Z,o,ho,Z⟩:=I.ok.jW.mem hb;exact I.base.free b o ho (I.ok.oR b hb) fun z=>I.ok.rL b z hb
theorem Inv.step{g':Array yr}{t':Nat}{d':Drawn}{ch:List aa}(I:Inv X pins σ H s)(kI:∀b∈ch,(b∈X.ex\/X.gF.heap.objs.size<=b)/\b≠X.env.locals/\(∀x c,X.env.cells.lookup x=some c->c≠b)/\∀p∈X.pn++pins,p.1≠b)(keep:∀b o,b≠X.env.locals->b∉X.fs->b∉ch->s.heap.get? b=some o->H b=none->h'.get? b=some o)(slot:∀b o,b≠X.env.locals->b∈X.fs->b∉ch->s.heap.get? b=some o->H b=none->∃sl,h'.get? b=some {o with slots:=sl})(free:∀b o,b∉ch->s.heap.get? b=some o->H b=none->H' b=none)(there:∀b o,b∉ch->s.heap.get? b=some o->∃o',h'.get? b=some o')(ng:∀b xs,H b=some (.tup xs)->H' b=some (.tup xs))(kF:∀b o u,H b=some (.cS o u)->H' b=some (.cS o u))(mY:∀b ps,H b=some (.sV ps)->∃more,H' b=some (.sV (ps++more)))(ns:∀m,s.heap.Ns X.env.locals m->h'.Ns X.env.locals m)(aT:c9 X.prog X.w H' h')(hg:qP g'):Inv X pins σ H' {s with heap:=h',gens:=g',drawn:=d',toks:=t'}:=by
 have VZ:∀b o,X.gF.heap.get? b=some o->b≠X.env.locals:=fun b o e=>dR (g7 (cj e) I.ok.above);have DA:∀b o,X.gF.heap.get? b=some o->b∉X.ex->b∉ch:=fun b o e hx hb=>by
  rcases(kI b hb).1 with z|z
  .exact hx z
  .exact absurd (g7 (cj e) z) (mh _)
 have cellK:∀x c,X.env.cells.lookup x=some c->∀v,s.heap.IsCell c v->h'.IsCell c v:=fun x c e v ⟨o,ho,hd⟩=>by
  have Af:c∉ch:=fun z=>(kI c z).2.2.1 x c e rfl;by_cases hc:c∈X.fs
  .obtain⟨sl,q⟩:=slot c o (I.rJ x c e) hc Af ho (I.ic x c e);exact⟨_,q,hd⟩
  .exact⟨o,keep c o (I.rJ x c e) hc Af ho (I.ic x c e),hd⟩
 refine⟨I.ok,I.os,hg,⟨fun b o e n hb hx=>?_,fun b o e n hb hx=>?_,fun b o e n hx=>?_,fun b o e hx=>?_,fun b xs e=>ng b xs (I.base.ng b xs e),fun b o xs e=>kF b o xs (I.base.kF b o xs e),fun b ps e=>?_⟩,?_,fun x c e=>?_,?_,fun x c e=>?_,fun p hp=>?_,aT,I.len⟩
 .exact keep b o (VZ b o e) hb (DA b o e hx) (I.base.keep b o e n hb hx) (I.base.free b o e n hx)
 .obtain⟨sl,e1⟩:=I.base.slot b o e n hb hx;obtain⟨Ov,e2⟩:=slot b _ (VZ b o e) hb (DA b o e hx) e1 (I.base.free b o e n hx);exact⟨Ov,e2⟩
 .obtain⟨o',e1⟩:=I.base.there b o e hx;exact free b o' (DA b o e hx) e1 (I.base.free b o e n hx)
 .obtain⟨o',e1⟩:=I.base.there b o e hx;exact there b o' (DA b o e hx) e1
 .obtain⟨m1,e1⟩:=I.base.mY b ps e;obtain⟨m2,e2⟩:=mY b _ e1;exact⟨m1++m2,by rw[e2,Array.append_assoc]⟩
 .obtain⟨m,hn,hl⟩:=I.loc;refine⟨m,ns m hn,fun i x v e1 e2 e3=>?_⟩;obtain⟨u,r,l⟩:=hl i x v e1 e2 e3;refine⟨u,r,?_⟩;rcases l with l|⟨k,c,e,z⟩
  .exact .inl l
  .exact .inr ⟨k,c,e,cellK x c e _ z⟩
 .obtain⟨v,z⟩:=I.cell x c e;exact⟨v,cellK x c e v z⟩
 .obtain⟨m,⟨o,Z,Z,ho,Z⟩,Z⟩:=I.loc;exact free _ o (fun z=>(kI _ z).2.1 rfl) ho I.free
 .obtain⟨v,o,ho,hd⟩:=I.cell x c e;exact free c o (fun z=>(kI c z).2.2.1 x c e rfl) ho (I.ic x c e)
 .obtain⟨e,n,ne,nf,d⟩:=I.pin p hp;have Af:p.1∉ch:=fun z=>(kI p.1 z).2.2.2 p hp rfl;exact⟨keep p.1 p.2 ne nf Af e n,free p.1 p.2 Af e n,ne,nf,d⟩
theorem Inv.un{t':Nat}(I:Inv X pins σ H s)(u:Un X.fs [] H H' s.heap h')(aT:c9 X.prog X.w H' h'):Inv X pins σ H' {s with heap:=h',toks:=t'}:=by
 obtain⟨m,⟨o,es,ep,ho,r⟩,Z⟩:=id I.loc;obtain⟨sl,hL⟩:=u.any ho I.free (by simp);exact I.step (g':=s.gens) (d':=s.drawn) (ch:=[]) (fun Z z=>nomatch z) (fun b o Z hb Z e n=>u.keep b o e n hb (by simp)) (fun b o Z hb Z e n=>u.slot b o e n hb (by simp)) (fun b o Z e n=>u.free b o e n (by simp)) (fun b o Z e=>u.there b o e (by simp)) u.ng u.kF u.mY (fun m' hm=>by
  obtain⟨o',gS,oM,iV,r'⟩:=hm;rw[ho]at iV;cases iV;exact⟨_,gS,oM,hL,r'⟩) aT I.bare
theorem Inv.call{g':Array yr}{t':Nat}{d':Drawn}{ch:List aa}(I:Inv X pins σ H s)(u:Un (gy X.stack) ch H H' s.heap h')(aT:c9 X.prog X.w H' h')(hg:qP g')(kI:∀b∈ch,(b∈X.ex\/X.gF.heap.objs.size<=b)/\b≠X.env.locals/\(∀x c,X.env.cells.lookup x=some c->c≠b)/\∀p∈X.pn++pins,p.1≠b):Inv X pins σ H' {s with heap:=h',gens:=g',drawn:=d',toks:=t'}:=by
 obtain⟨m,⟨o,es,ep,ho,r⟩,Z⟩:=id I.loc;obtain⟨sl,hL⟩:=u.any ho I.free fun z=>(kI _ z).2.1 rfl;exact I.step (ch:=ch) kI (fun b o hL hb hc e n=>u.keep b o e n (fun z=>(bX.mp (I.Pp b z)).elim hL hb) hc) (fun b o Z Z hc e n=>u.any e n hc) (fun b o hc e n=>u.free b o e n hc) (fun b o hc e=>u.there b o e hc) u.ng u.kF u.mY (fun m' hm=>by
  obtain⟨o',gS,oM,iV,r'⟩:=hm;rw[ho]at iV;cases iV;exact⟨_,gS,oM,hL,r'⟩) aT hg
theorem Inv.turned{t':Nat}{it:aa}(I:Inv X pins σ H s)(k:∀b o,b≠it->s.heap.get? b=some o->h'.get? b=some o)(hn:H it=none)(hL:it≠X.env.locals)(h1:it∈X.ex\/X.gF.heap.objs.size<=it)(h2:∀x c,X.env.cells.lookup x=some c->c≠it)(h3:∀p∈X.pn++pins,p.1≠it):Inv X pins σ H {s with heap:=h',toks:=t'}:=by
 have V4:∀b u,H b=some u->b≠it:=fun b u e z=>by rw[z,hn]at e;cases e
 refine I.step (g':=s.gens) (d':=s.drawn) (ch:=[it]) (fun b hb=>?_) (fun b o Z Z hc e Z=>k b o (fun z=>hc (by simp[z])) e) (fun b o Z Z hc e Z=>⟨o.slots,k b o (fun z=>hc (by simp[z])) e⟩) (fun Z Z Z Z n=>n) (fun b o hc e=>⟨o,k b o (fun z=>hc (by simp[z])) e⟩) (fun Z Z e=>e) (fun Z Z Z e=>e) (fun b ps e=>⟨#[],by rw[e];simp⟩) (fun m hm=>?_) (fun b u e=>?_) I.bare
 .have e:b=it:=by simpa using hb
  subst e;exact⟨h1,hL,h2,h3⟩
 .obtain⟨o,es,ep,ho,r⟩:=hm;exact⟨o,es,ep,k _ o (Ne.symm hL) ho,r⟩
 .refine(I.aT b u e).oo (fun c v hc q=>k c v ?_ q) (fun Z q=>q) fun Z Z q=>q;rcases hc with z|z
  .rw[z];exact V4 b u e
  .exact V4 c _ z
theorem Inv.tok(I:Inv X pins σ H s)(t:Nat):Inv X pins σ H {s with toks:=t}:=I.un (h':=s.heap) (t':=t) Un.refl I.aT
theorem Inv.kept{t':Nat}(I:Inv X pins σ H s)(k:∀b u,s.heap.get? b=some u->h'.get? b=some u):Inv X pins σ H {s with heap:=h',toks:=t'}:=I.un (Un.kept k) (I.aT.kept k)
theorem Inv.laid{a:aa}{o:HO}{t':Nat}(I:Inv X pins σ H s)(k:∀b u,s.heap.get? b=some u->h'.get? b=some u)(hp:s.heap.objs.size<=a)(new:eR X.prog X.w (upd H a o) h' a o):Inv X pins σ (upd H a o) {s with heap:=h',toks:=t'}:=I.un (Un.laid k hp (I.aT.fresh hp)) (I.aT.laid k hp new)
theorem Inv.write{x e:aa}{o:HO}{t':Nat}(I:Inv X pins σ H s)(mu:qL (H x))(he:e=x\/H e=some (.own x))(k:∀b u,b≠e->s.heap.get? b=some u->h'.get? b=some u)(wL:∃u,h'.get? e=some u)(new:eR X.prog X.w (upd H x o) h' x o):Inv X pins σ (upd H x o) {s with heap:=h',toks:=t'}:=I.un (Un.write mu he k wL) (I.aT.write mu he k wL new)
theorem Inv.weak{σ':List (Option V)}(I:Inv X pins σ H s)(hl:σ'.length=σ.length)(w:∀(i:Nat) v,σ'[i]? =some (some v)->σ[i]? =some (some v)):Inv X pins σ' H s:=⟨I.ok,I.os,I.bare,I.base,let ⟨m,hn,jY⟩:=I.loc;⟨m,hn,fun i x v e1 e2 e3=>jY i x v e1 (w i v e2) e3⟩,I.cell,I.free,I.ic,I.pin,I.aT,hl.trans I.len⟩
theorem Inv.WN{Mz:List (aa×aM)}(I:Inv X pins σ H s)(h:∀p∈Mz,s.heap.get? p.1=some p.2/\H p.1=none/\p.1≠X.env.locals/\p.1∉X.fs/\∀v,p.2.data≠.cell v):Inv X Mz σ H s:=⟨I.ok,I.os,I.bare,I.base,I.loc,I.cell,I.free,I.ic,fun p hp=>(jJ.mp hp).elim (fun z=>I.pin p (QI _ z)) (h p),I.aT,I.len⟩
theorem L5{N:List ah}(hN:N.Nodup){i j:Nat}{x:ah}(a:N[i]? =some x)(b:N[j]? =some x):i=j:=by
 obtain⟨h1,e1⟩:=dQ.mp a;obtain⟨h2,e2⟩:=dQ.mp b;exact(List.getElem_inj hN).mp (e1.trans e2.symm)
theorem Yg{M:qT}{A:bO}{E:af->ao->Prop}{i:Nat}{x:ah}{v:V}{u:af}{Q:Unit->ao->Prop}(I:Inv X pins σ H s)(hN:X.N.Nodup)(hi:X.N[i]? =some x)(hx:Loc X.env.scope x)(r:RelV v u)(h:∀s',Inv X pins (σ.set i (some v)) H s'->(∃a,oC a s.heap s'.heap/\(a=X.env.locals\/X.env.cells.lookup x=some a))->Q () s')(hf:X.fn x=true\/X.env.scope.names.lookup x=some .local:=by first|exact .inl rfl|exact .inr rfl|assumption):aE M A (storeName X.env x u) Q E s:=by
 obtain⟨m,hn,hl⟩:=id I.loc;have af5:(X.env.scope.kind==.class||(X.env.scope.kind==.module&&X.env.locals !=X.env.globals))=false:=by rw[I.ok.kind];rfl
 have hiσ:i<σ.length:=by rw[I.len];exact(dQ.mp hi).1
 have rJ:=I.rJ;have tracked:∀{a:aa}{h':aG},(∃o,s.heap.get? a=some o/\H a=none)->oC a s.heap h'->c9 X.prog X.w H h':=fun{a h'} ha hs b ob e=>by
  obtain⟨Z,Z,wM⟩:=ha;refine(I.aT b ob e).oo (fun c w' hc q=>(hs.2 c ?_).trans q) (fun Z q=>q) fun Z Z q=>q;rintro rfl;rcases hc with rfl|hc
  .rw[wM]at e;cases e
  .rw[wM]at hc;cases hc
 rcases hx with hk|hk
 .refine wpAny_storeName_local hk hn (fun h' oY hs=>?_) af5;obtain⟨oL,Z,Z,zH,Z⟩:=id hn;refine h _ ⟨I.ok,I.os,I.bare,⟨fun b o e n hb hx=>?_,fun b o e n hb hx=>?_,I.base.free,fun b o e hx=>?_,I.base.ng,I.base.kF,I.base.mY⟩,⟨_,oY,fun j y v' e1 e2 e3=>?_⟩,fun y c e=>?_,I.free,I.ic,fun p hp=>?_,tracked ⟨oL,zH,I.free⟩ hs,by simpa using I.len⟩ ⟨_,hs,.inl rfl⟩
  .exact(hs.2 b (dR (g7 (cj e) I.ok.above))).trans (I.base.keep b o e n hb hx)
  .obtain⟨sl,e1⟩:=I.base.slot b o e n hb hx;exact⟨sl,(hs.2 b (dR (g7 (cj e) I.ok.above))).trans e1⟩
  .obtain⟨o',e1⟩:=I.base.there b o e hx;exact⟨o',(hs.2 b (dR (g7 (cj e) I.ok.above))).trans e1⟩
  .by_cases hj:j=i
   .subst hj;rw[hi]at e1;cases e1;rw[QA hiσ]at e2;cases e2;exact⟨u,r,.inl ⟨hk,by simp⟩⟩
   .rw[Qz (Ne.symm hj)]at e2;obtain⟨u',r',q⟩:=hl j y v' e1 e2 e3;refine⟨u',r',?_⟩;rcases q with⟨k,e⟩|⟨k,c,e,z⟩
    .refine .inl ⟨k,?_⟩;have:y≠x:=fun e=>hj (L5 hN e1 (e▸hi));simp[this,e]
    .exact .inr ⟨k,c,e,z.sameBut hs (rJ y c e)⟩
  .obtain⟨w',z⟩:=I.cell y c e;exact⟨w',z.sameBut hs (rJ y c e)⟩
  .obtain⟨e,n,ne,nf,d⟩:=I.pin p hp;exact⟨(hs.2 p.1 ne).trans e,n,ne,nf,d⟩
 .have zw:X.fn x=true:=by
   rcases hf with z|z
   .exact z
   .rw[z]at hk;cases hk
  obtain⟨c,hc⟩:=I.ok.has x (.inl hk);obtain⟨w',z⟩:=I.cell x c hc;refine wpAny_storeName_cell I.ok.kind hk hc z (fun h' C2 hs=>?_);obtain⟨oc,UN,agY⟩:=id z;refine h {s with heap:=h'} ⟨I.ok,I.os,I.bare,⟨fun b o e n hb hx=>?_,fun b o e n hb hx=>?_,I.base.free,fun b o e hx=>?_,I.base.ng,I.base.kF,I.base.mY⟩,⟨m,hn.sameBut hs (Ne.symm (rJ x c hc)),fun j y v' e1 e2 e3=>?_⟩,fun y c' e=>?_,I.free,I.ic,fun p hp=>?_,tracked ⟨oc,UN,I.ic x c hc⟩ hs,by simpa using I.len⟩ ⟨c,hs,.inr hc⟩
  .exact(hs.2 b (dR (g7 (cj e) (I.ok.rI x c zw hc)))).trans (I.base.keep b o e n hb hx)
  .obtain⟨sl,e1⟩:=I.base.slot b o e n hb hx;exact⟨sl,(hs.2 b (dR (g7 (cj e) (I.ok.rI x c zw hc)))).trans e1⟩
  .obtain⟨o',e1⟩:=I.base.there b o e hx;exact⟨o',(hs.2 b (dR (g7 (cj e) (I.ok.rI x c zw hc)))).trans e1⟩
  .by_cases hj:j=i
   .subst hj;rw[hi]at e1;cases e1;rw[QA hiσ]at e2;cases e2;exact⟨u,r,.inr ⟨.inl hk,c,hc,C2⟩⟩
   .rw[Qz (Ne.symm hj)]at e2;obtain⟨u',r',q⟩:=hl j y v' e1 e2 e3;refine⟨u',r',?_⟩;rcases q with q|⟨k,c',e,z'⟩
    .exact .inl q
    .refine .inr ⟨k,c',e,z'.sameBut hs ?_⟩;rintro rfl;exact hj (L5 hN e1 (I.ok.inj _ _ _ e hc▸hi))
  .by_cases kH:c'=c
   .subst kH;exact⟨_,C2⟩
   .obtain⟨w2,z2⟩:=I.cell y c' e;exact⟨w2,z2.sameBut hs kH⟩
  .obtain⟨e,n,ne,nf,d⟩:=I.pin p hp;refine⟨(hs.2 p.1 ?_).trans e,n,ne,nf,d⟩;intro q;rw[q,UN]at e;have q':oc=p.2:=g8 e;exact d w' (by rw[<-q'];exact agY)
theorem E3{M:qT}{A:bO}{E:af->ao->Prop}{i:Nat}{x:ah}{v:V}{u:af}{Q:Unit->ao->Prop}(I:Inv X pins σ H s)(hN:X.N.Nodup)(hi:X.N[i]? =some x)(hx:Loc X.env.scope x)(r:RelV v u)(h:∀s',Inv X pins (σ.set i (some v)) H s'->Q () s')(hf:X.fn x=true\/X.env.scope.names.lookup x=some .local:=by first|exact .inl rfl|exact .inr rfl|assumption):aE M A (storeName X.env x u) Q E s:=Yg I hN hi hx r (fun s' I' Z=>h s' I') hf
theorem Inv.HQ{s':ao}{ch:List aa}(I:Inv X pins σ H s)(ho:s'.os=s.os)(u:Un (gy X.stack) ch H H' s.heap s'.heap)(aT:c9 X.prog X.w H' s'.heap)(hg:qP s'.gens)(kI:∀b∈ch,(b∈X.ex\/X.gF.heap.objs.size<=b)/\b≠X.env.locals/\(∀x c,X.env.cells.lookup x=some c->c≠b)/\∀p∈X.pn++pins,p.1≠b):Inv X pins σ H' s':=by
 obtain⟨h',g',d',t',o'⟩:=s';have e:o'=s.os:=ho;subst e;exact I.call (g':=g') (t':=t') (d':=d') u aT hg kI
end
abbrev XK:=af->Option aa->Hp->Prop
abbrev St:=List (Option V)
abbrev VK:=V->Hp->Prop
abbrev TE:=St->Hp->VK->Prop
abbrev TT:=St->Hp->(Bool->Hp->Prop)->Prop
abbrev TA:=St->Hp->(List V->Hp->Prop)->Prop
structure Ends where
 nx:St->Hp->Prop
 rt:VK
 bk:St->Hp->Prop:=fun Z Z=>False
 ct:St->Hp->Prop:=fun Z Z=>False
abbrev TS:=Ends->St->Hp->Prop
def EP(X:Cx)(pins:List (aa×aM))(σ:St)(Q:VK)(u:af)(s':ao):Prop:=∃v H',Inv X pins σ H' s'/\RelV v u/\Q v H'
def TP(X:Cx)(pins:List (aa×aM))(σ:St)(Q:Bool->Hp->Prop)(b:Bool)(s':ao):Prop:=∃H',Inv X pins σ H' s'/\Q b H'
def AP(X:Cx)(pins:List (aa×aM))(σ:St)(Q:List V->Hp->Prop)(us:List af)(s':ao):Prop:=∃vs H',Inv X pins σ H' s'/\Vals vs us/\Q vs H'
def SP(X:Cx)(pins:List (aa×aM))(D:Ends)(f:Flow)(s':ao):Prop:=match f with
 | .next=>∃σ' H',Inv X pins σ' H' s'/\D.nx σ' H'
 | .brk=>∃σ' H',Inv X pins σ' H' s'/\D.bk σ' H'
 | .cont=>∃σ' H',Inv X pins σ' H' s'/\D.ct σ' H'
 | .ret u=>∃v σ' H',Inv X pins σ' H' s'/\RelV v u/\D.rt v H'
def PE(X:Cx)(e:bw)(t:TE):Prop:=∀(pins:List (aa×aM))(s:ao)(σ:St)(H:Hp)(Q:VK),Inv X pins σ H s->t σ H Q->aE (model X.prog X.w) X.A (eval e X.env) (EP X pins σ Q) X.xe s
def PT(X:Cx)(e:bw)(t:TT):Prop:=∀(pins:List (aa×aM))(s:ao)(σ:St)(H:Hp)(Q:Bool->Hp->Prop),Inv X pins σ H s->t σ H Q->aE (model X.prog X.w) X.A (BJ e X.env (eval e X.env)) (TP X pins σ Q) X.xe s
def PW(X:Cx)(e:bw)(t:TT):Prop:=∀(whole:gM af)(pins:List (aa×aM))(s:ao)(σ:St)(H:Hp)(Q:Bool->Hp->Prop),Inv X pins σ H s->t σ H Q->aE (model X.prog X.w) X.A (BJ e X.env whole) (TP X pins σ Q) X.xe s
theorem PW.pt{X:Cx}{e:bw}{t:TT}(h:PW X e t):PT X e t:=h _
def PA(X:Cx)(es:List bw)(t:TA):Prop:=∀(pos:b4)(pins:List (aa×aM))(s:ao)(σ:St)(H:Hp)(Q:List V->Hp->Prop),Inv X pins σ H s->t σ H Q->aE (model X.prog X.w) X.A (spliced (gq pos (b5 es X.env))) (AP X pins σ Q) X.xe s
def PS(X:Cx)(st:aW)(t:TS):Prop:=∀(pins:List (aa×aM))(s:ao)(σ:St)(H:Hp)(D:Ends),Inv X pins σ H s->t D σ H->aE (model X.prog X.w) X.A (exec st X.env) (SP X pins D) X.xe s
def kc(X:Cx)(st:List aW)(t:TS):Prop:=∀(pins:List (aa×aM))(s:ao)(σ:St)(H:Hp)(D:Ends),Inv X pins σ H s->t D σ H->aE (model X.prog X.w) X.A (execs st X.env) (SP X pins D) X.xe s
theorem bo{α:Type}{t:gM α}{Q Q':α->ao->Prop}{M:qT}{A:bO}{E:af->ao->Prop}{s:ao}(h:aE M A t Q E s)(hQ:∀a s,Q a s->Q' a s):aE M A t Q' E s:=jl h hQ fun Z Z x=>x
section
variable{X:Cx}
def aS(i:Nat):TE:=fun σ H Q=>∃v,σ[i]? =some (some v)/\Q v H
def tC(v:V):TE:=fun Z H Q=>Q v H
theorem Mu{i:Nat}{x:ah}{pos:b4}(hN:X.N[i]? =some x)(hv:we X.env.scope x)(hd:(x==("__debug__":ah))=false:=by decide)(iB:(x==("__classdict__":ah))=false:=by decide):PE X (.Name x pos) (aS i):=by
 intro pins s σ H Q I h;obtain⟨v,e,h⟩:=h;obtain⟨m,hn,hl⟩:=I.loc;obtain⟨u,r,l⟩:=hl i x v hN e hv;have fin:EP X pins σ Q u s:=⟨v,H,I,r,h⟩;rcases l with⟨hk,hm⟩|⟨hk,c,hc,C3⟩
 .exact vT (yP I.ok.kind hk hn hm fin) hd
 .rcases hk with hk|hk
  .exact vT (aaV I.ok.kind hk hc C3 fin) hd
  .exact vT (wpAny_loadName_free I.ok.kind hk hc C3 fin iB) hd
theorem bc{i j pos}:PE X (.Constant (.int i) j pos) (tC (.int i)):=fun Z Z Z H Z I h=>wpAny_Constant_int ⟨.int i,H,I.tok _,⟨_,rfl⟩,h⟩
theorem Ao{b j pos}:PE X (.Constant (.bool b) j pos) (tC (.bl b)):=fun Z Z Z H Z I h=>Constant_bool ⟨.bl b,H,I,rfl,h⟩
theorem cT{j pos}:PE X (.Constant .none j pos) (tC .aO):=fun Z Z Z H Z I h=>Constant_none ⟨.aO,H,I,rfl,h⟩
theorem bH{x j pos}:PE X (.Constant (.str x) j pos) (tC (.str x)):=fun Z Z Z H Z I h=>Calls.Constant_str ⟨.str x,H,I.tok _,⟨_,rfl⟩,h⟩
def Gl(X:Cx)(x:ah):Prop:=X.env.kindOf x=some .globalImplicit
theorem w8{E:af->ao->Prop}{pins:List (aa×aM)}{s:ao}{σ:St}{H:Hp}{x:ah}{u:af}{pos:b4}{Q:af->ao->Prop}(I:Inv X pins σ H s)(hg:Gl X x)(hm:X.mg x=some u)(h:Q u s)(hd:(x==("__debug__":ah))=false:=by decide):aE (model X.prog X.w) X.A (eval (.Name x pos) X.env) Q E s:=aab I.ok.kind hg (Calls.loadGlobal_global (by rw[I.ok.glob];exact I.mod.glob.keeps I.bk) hm h) hd
theorem o7{E:af->ao->Prop}{pins:List (aa×aM)}{s:ao}{σ:St}{H:Hp}{x:ah}{u:af}{pos:b4}{Q:af->ao->Prop}(I:Inv X pins σ H s)(hg:Gl X x)(hm:X.mg x=none)(hv:pO x=some u)(h:Q u s)(hn:x≠"__name__":=by decide)(hd:(x==("__debug__":ah))=false:=by decide):aE (model X.prog X.w) X.A (eval (.Name x pos) X.env) Q E s:=by
 obtain⟨mb,h1,h2⟩:=I.mod.blt;exact aab I.ok.kind hg (Calls.loadGlobal_builtin (by rw[I.ok.glob];exact I.mod.glob.keeps I.bk) hm (by rw[I.ok.blt];exact h1.keeps I.bk) ((h2 x hn).trans hv) h) hd
theorem amm{x:ah}{v:V}{u:af}{pos:b4}(hg:Gl X x)(hm:X.mg x=some u)(r:RelV v u)(hd:(x==("__debug__":ah))=false:=by decide):PE X (.Name x pos) (tC v):=fun Z Z Z H Z I h=>w8 I hg hm ⟨v,H,I,r,h⟩ hd
variable{a b:bw}{ta tb:TE}{pos:b4}
def PC(X:Cx)(op:tM)(a b:bw)(t:TE):Prop:=∀(pins:List (aa×aM))(s:ao)(σ:St)(H:Hp)(Q:VK),Inv X pins σ H s->t σ H Q->aE (model X.prog X.w) X.A (eval a X.env) (fun v s₁=>aE (model X.prog X.w) X.A (eval b X.env) (fun u s₂=>aE (model X.prog X.w) X.A (hJ op v u) (EP X pins σ Q) X.xe s₂) X.xe s₁) X.xe s
theorem aj4(b:bw){op:tM}(h:op≠.In)(h2:op≠.NotIn):vK op b=false:=by
 have e1:(op==CmpOp.In)=false:=by cases op<;>first|rfl|exact absurd rfl h
 have e2:(op==CmpOp.NotIn)=false:=by cases op<;>first|rfl|exact absurd rfl h2
 cases b<;>simp[vK,e1,e2]
def tB(t:TE):TT:=fun σ H Q=>t σ H fun x H1=>∃c,x=.bl c/\Q c H1
theorem WU{op:tM}{t:TE}(h:PC X op a b t)(h1:vK op b=false:=by first|exact aj4 _ (by decide) (by decide)|rfl):PT X (.Compare a [op] [b] pos) (tB t):=by
 intro pins s σ H Q I hw;refine aaU (bo (h pins s σ H _ I hw) fun v s1 h1=>bo h1 fun u s2 h2=>bo h2 fun c s3 ⟨x,H1,I1,r1,q1⟩=>?_) h1;obtain⟨d,rfl,q⟩:=q1;cases r1;exact pR ⟨H1,I1,q⟩
theorem f6{e:bw}{t:TE}(h:PE X e t)(he:∀whole,BJ e X.env whole=(do let v<-whole;yJ e.pos;holding [v] (truthy v)):=by intro _;rfl):PT X e (tB t):=by
 intro pins s σ H Q I hw;refine isTrue_plain (bo (h pins s σ H _ I hw) fun v s1 ⟨x,H1,I1,r1,q1⟩=>?_) (he _);obtain⟨d,rfl,q⟩:=q1;cases r1;exact pR ⟨H1,I1,q⟩
variable{tA E5:TT}{rest:List bw}
def sS(t u:TT):TT:=fun σ H Q=>t σ H fun c H1=>if c=true then u σ H1 Q else Q false H1
def E6(t u:TT):TT:=fun σ H Q=>t σ H fun c H1=>if c=true then Q true H1 else u σ H1 Q
def Yt(t:TT):TT:=fun σ H Q=>t σ H fun c H1=>Q (!c) H1
theorem nY(ha:PT X a tA):PW X (.BoolOp .And [a] pos) tA:=by
 intro wh pins s σ H Q I h;refine isTrue_and (bo (ha pins s σ H Q I h) fun c s1 e=>?_);cases c with
 |true=>exact isTrue_and_nil e
 |false=>exact e
theorem sF(ha:PT X a tA):PW X (.BoolOp .Or [a] pos) tA:=by
 intro wh pins s σ H Q I h;refine isTrue_or (bo (ha pins s σ H Q I h) fun c s1 e=>?_);cases c with
 |false=>exact isTrue_or_nil e
 |true=>exact e
theorem nX(ha:PT X a tA)(hb:PW X (.BoolOp .And (b::rest) pos) E5):PW X (.BoolOp .And (a::b::rest) pos) (sS tA E5):=by
 intro wh pins s σ H Q I h;refine isTrue_and (bo (ha pins s σ H _ I h) fun c s1 ⟨H1,I1,q1⟩=>?_);cases c with
 |true=>exact hb wh pins s1 σ H1 Q I1 q1
 |false=>exact⟨H1,I1,q1⟩
theorem nZ(ha:PT X a tA)(hb:PW X (.BoolOp .Or (b::rest) pos) E5):PW X (.BoolOp .Or (a::b::rest) pos) (E6 tA E5):=by
 intro wh pins s σ H Q I h;refine isTrue_or (bo (ha pins s σ H _ I h) fun c s1 ⟨H1,I1,q1⟩=>?_);cases c with
 |true=>exact⟨H1,I1,q1⟩
 |false=>exact hb wh pins s1 σ H1 Q I1 q1
theorem jD(ha:PT X a tA):PT X (.UnaryOp .Not a pos) (Yt tA):=by
 intro pins s σ H Q I h;exact isTrue_not (ha pins s σ H (fun c H1=>Q (!c) H1) I h)
def Ym(ta tb:TE):TE:=fun σ H Q=>ta σ H fun x H1=>∃c,x=.bl c/\if c=true then tb σ H1 Q else Q (.bl false) H1
def PB(ta tb:TE):TE:=fun σ H Q=>ta σ H fun x H1=>∃c,x=.bl c/\if c=true then Q (.bl true) H1 else tb σ H1 Q
def Pz(ta:TE):TE:=fun σ H Q=>ta σ H fun x H1=>∃c,x=.bl c/\Q (.bl (!c)) H1
theorem nV{op}{t:TE}(h:PE X a t):PE X (.BoolOp op [a] pos) t:=fun pins s σ H Q I hw=>BoolOp_one (h pins s σ H Q I hw)
theorem xr(ha:PE X a ta)(hb:PE X (.BoolOp .And (b::rest) pos) tb):PE X (.BoolOp .And (a::b::rest) pos) (Ym ta tb):=by
 intro pins s σ H Q I h;refine BoolOp_and (bo (ha pins s σ H _ I h) fun v s1 ⟨x,H1,I1,r1,q1⟩=>?_);obtain⟨c,rfl,q1⟩:=q1;cases r1;refine pR ?_;cases c with
 |true=>exact hb pins s1 σ H1 Q I1 q1
 |false=>exact⟨.bl false,H1,I1,rfl,q1⟩
theorem Ap(ha:PE X a ta)(hb:PE X (.BoolOp .Or (b::rest) pos) tb):PE X (.BoolOp .Or (a::b::rest) pos) (PB ta tb):=by
 intro pins s σ H Q I h;refine BoolOp_or (bo (ha pins s σ H _ I h) fun v s1 ⟨x,H1,I1,r1,q1⟩=>?_);obtain⟨c,rfl,q1⟩:=q1;cases r1;refine pR ?_;cases c with
 |false=>exact hb pins s1 σ H1 Q I1 q1
 |true=>exact⟨.bl true,H1,I1,rfl,q1⟩
theorem WE(ha:PE X a ta):PE X (.UnaryOp .Not a pos) (Pz ta):=by
 intro pins s σ H Q I h;refine UnaryOp_ (bo (ha pins s σ H _ I h) fun v s1 ⟨x,H1,I1,r1,q1⟩=>?_);obtain⟨c,rfl,q1⟩:=q1;cases r1;exact not_of (pR ⟨.bl (!c),H1,I1,rfl,q1⟩)
def tIf(t:TT)(ta tb:TE):TE:=fun σ H Q=>t σ H fun c H1=>if c=true then ta σ H1 Q else tb σ H1 Q
theorem amn{c:bw}(hc:PT X c tA)(ha:PE X a ta)(hb:PE X b tb):PE X (.IfExp c a b pos) (tIf tA ta tb):=by
 intro pins s σ H Q I h;refine wpAny_IfExp (bo (hc pins s σ H _ I h) fun d s1 ⟨H1,I1,q1⟩=>?_);cases d with
 |true=>exact ha pins s1 σ H1 Q I1 q1
 |false=>exact hb pins s1 σ H1 Q I1 q1
end
def aH(K:aK)(H:Hp)(a:aa)(xs:List V):Prop:=Rd H a (.lst xs)\/∃(o:aM)(aC:Array af)(n:Nat),K.lookup a=some o/\o.cls=.type "list"/\o.dict=none/\o.data=.seq aC n/\aC.size<=sizeLine/\Vals xs aC.toList
def cN(K:aK)(H:Hp)(a:aa)(xs:List V):Prop:=Rd H a (.tup xs)\/∃(o:aM)(aC:Array af)(n:Nat),K.lookup a=some o/\o.cls=.type "tuple"/\o.data=.seq aC n/\aC.size<=sizeLine/\Vals xs aC.toList
def abh:af->Option V
 | .none=>some .aO
 | .bool b=>some (.bl b)
 | .int i _=>some (.int i)
 | .str x _=>some (.str x)
 | .bytes b _=>some (.iS b)
 | .float b _=>some (.gh b)
 | .ref a=>some (.ref a)
 | .type n=>some (.ty n)
 |_=>none
theorem RelV.abs{x:V}{u:af}(r:RelV x u):abh u=some x:=by
 cases x with
 |aO=>cases r;rfl
 |bl _=>cases r;rfl
 |int _=>obtain⟨t,rfl⟩:=r;rfl
 |str _=>obtain⟨t,rfl⟩:=r;rfl
 |iS _=>obtain⟨t,rfl⟩:=r;rfl
 |gh _=>obtain⟨t,rfl⟩:=r;rfl
 |ref _=>cases r;rfl
 |ty _=>cases r;rfl
theorem RelV.inj{x y:V}{u:af}(r:RelV x u)(q:RelV y u):x=y:=g8 (r.abs.symm.trans q.abs)
theorem Vals.inj:∀{xs ys:List V}{us:List af},Vals xs us->Vals ys us->xs=ys
 |_,_,_,.nil,.nil=>rfl
 |_,_,_,.cons r t,.cons r' t'=>by rw[r.inj r',Vals.inj t t']
section
variable{X:Cx}{pins:List (aa×aM)}{σ:St}{H:Hp}{s:ao}{a:aa}{xs ys:List V}
theorem aH.of{K:aK}(h:H a=some (.lst xs)):aH K H a xs:=.inl (.inl h)
theorem cN.of{K:aK}(h:H a=some (.tup xs)):cN K H a xs:=.inl (.inl h)
theorem Inv.list(I:Inv X pins σ H s)(h:aH X.K H a xs):∃aC:List af,Vals xs aC/\PlainL s.heap a aC.toArray/\xs.length<=sizeLine:=by
 rcases h with h|⟨o,aC,n,hk,hc,hd,hs,hz,r⟩
 .obtain⟨z,aC,n,r,e⟩:=h.ok I.aT;exact⟨aC,r,⟨_,n,e,rfl,rfl,rfl⟩,z⟩
 .refine⟨aC.toList,r,⟨o,n,I.fK a o hk,hc,hd,by simpa using hs⟩,?_⟩;have e:=r.length;simp only[pE]at e;lia
theorem Inv.tuple(I:Inv X pins σ H s)(h:cN X.K H a xs):∃aC:List af,Vals xs aC/\IsTup s.heap a aC.toArray/\xs.length<=sizeLine:=by
 rcases h with h|⟨o,aC,n,hk,hc,hs,hz,r⟩
 .obtain⟨z,aC,r,p⟩:=h.ok I.aT;exact⟨aC,r,p,z⟩
 .refine⟨aC.toList,r,⟨o,I.fK a o hk,hc,n,by simpa using hs⟩,?_⟩;have e:=r.length;simp only[pE]at e;lia
theorem Inv.aiR(I:Inv X pins σ H s)(h:aH X.K H a xs)(h':aH X.K H a ys):xs=ys:=by
 obtain⟨aC,r,⟨o,n,e,Z,Z,d⟩,Z⟩:=I.list h;obtain⟨its',r',⟨o',n',e',Z,Z,d'⟩,Z⟩:=I.list h';rw[e]at e';cases e';rw[d]at d';injection d' with d1 _
 have:aC=its':=by simpa using congrArg Y3 d1
 subst this;exact r.inj r'
end
abbrev Cx.gI(X:Cx)(E:af->ao->Prop):Cx:={X with xe:=E}
abbrev Cx.DE(X:Cx):Cx:=X.gI fun Z Z=>False
theorem Cx.Ok.gI{X:Cx}(ok:X.Ok)(E:af->ao->Prop):(X.gI E).Ok:=⟨ok.mod,ok.kind,ok.glob,ok.blt,ok.above,ok.inj,ok.has,ok.rI,ok.hd,ok.frames,ok.vd,ok.uc,ok.bs,ok.mG,ok.sC,ok.rL,ok.jW,ok.oR⟩
theorem Cx.Ok.sW{X:Cx}{E:af->ao->Prop}(ok:(X.gI E).Ok):X.Ok:=⟨ok.mod,ok.kind,ok.glob,ok.blt,ok.above,ok.inj,ok.has,ok.rI,ok.hd,ok.frames,ok.vd,ok.uc,ok.bs,ok.mG,ok.sC,ok.rL,ok.jW,ok.oR⟩
section
variable{X:Cx}{pins:List (aa×aM)}{σ:St}{H:Hp}{s:ao}{E:af->ao->Prop}
theorem Inv.gI(I:Inv X pins σ H s)(E:af->ao->Prop):Inv (X.gI E) pins σ H s:=⟨I.ok.gI E,I.os,I.bare,I.base,I.loc,I.cell,I.free,I.ic,I.pin,I.aT,I.len⟩
theorem Inv.sW(I:Inv (X.gI E) pins σ H s):Inv X pins σ H s:=⟨I.ok.sW,I.os,I.bare,I.base,I.loc,I.cell,I.free,I.ic,I.pin,I.aT,I.len⟩
theorem SP.sW{D:Ends}{f:Flow}{s':ao}(h:SP (X.gI E) pins D f s'):SP X pins D f s':=by
 cases f with
 |next=>obtain⟨σ',H',I,q⟩:=h;exact⟨σ',H',I.sW,q⟩
 |brk=>obtain⟨σ',H',I,q⟩:=h;exact⟨σ',H',I.sW,q⟩
 |cont=>obtain⟨σ',H',I,q⟩:=h;exact⟨σ',H',I.sW,q⟩
 |ret u=>obtain⟨v,σ',H',I,r,q⟩:=h;exact⟨v,σ',H',I.sW,r,q⟩
theorem kc.DE{st:List aW}{t:TS}(h:kc X.DE st t):kc X st t:=fun pins s σ H D I hw=>jl (h pins s σ H D (I.gI _) hw) (fun Z Z q=>q.sW) fun Z Z z=>fN z
end
section
variable{X:Cx}{st:aW}{rest:List aW}{t u:TS}{e:bw}{te:TE}{pos:b4}
def cP:TS:=fun D σ H=>D.nx σ H
def b9(t u:TS):TS:=fun D σ H=>t {D with nx:=u D} σ H
theorem bA:kc X [] cP:=fun Z Z σ H Z I h=>BO ⟨σ,H,I,h⟩
theorem aw(h1:PS X st t)(h2:kc X rest u):kc X (st::rest) (b9 t u):=by
 intro pins s σ H D I h;refine GP (bo (h1 pins s σ H {D with nx:=u D} I h) fun f s1 q=>?_);cases f with
 |next=>
  obtain⟨σ',H',I',q⟩:=q;exact h2 pins s1 σ' H' D I' q
 |ret v=>exact q
 |brk=>exact q
 |cont=>exact q
theorem aA(h1:PS X st t):kc X [st] t:=by
 intro pins s σ H D I h;refine GP (bo (h1 pins s σ H D I h) fun f s1 q=>?_);cases f with
 |next=>exact BO q
 |ret v=>exact q
 |brk=>exact q
 |cont=>exact q
def aoF:TS:=fun D σ H=>D.ct σ H
theorem WT:PS X (.Continue pos) aoF:=fun Z Z σ H Z I h=>wpAny_Continue ⟨σ,H,I,h⟩
theorem Inv.quiet{pins:List (aa×aM)}{σ:St}{H:Hp}{s:ao}(I:Inv X pins σ H s):interactive X.env=false:=by simp[interactive,I.ok.kind]
def dX(te:TE):TS:=fun D σ H=>te σ H fun Z H1=>D.nx σ H1
theorem ej(he:PE X e te)(hs:vS e none pos.line X.env=pure false:=by rfl):PS X (.Expr e pos) (dX te):=by
 intro pins s σ H D I h;exact wpAny_Expr_any (bo (he pins s σ H _ I h) fun v s1 ⟨x,H1,I1,r1,q1⟩=>⟨σ,H1,I1,q1⟩) I.quiet hs
def b8(te:TE):TS:=fun D σ H=>te σ H D.rt
theorem aI(he:PE X e te):PS X (.Return (some e) pos) (b8 te):=by
 intro pins s σ H D I h;exact wpAny_Return_some (bo (he pins s σ H _ I h) fun v s1 ⟨x,H1,I1,r1,q1⟩=>⟨x,σ,H1,I1,r1,q1⟩)
def cU(c:TT)(t u:TS):TS:=fun D σ H=>c σ H fun b H1=>if b=true then t D σ H1 else u D σ H1
theorem bx{c:bw}{a b:List aW}{tc:TT}(hc:PT X c tc)(ha:kc X a t)(hb:kc X b u):PS X (.If c a b pos) (cU tc t u):=by
 intro pins s σ H D I h;refine wpAny_If (bo (hc pins s σ H _ I h) fun d s1 ⟨H1,I1,q1⟩=>?_);cases d with
 |true=>exact ha pins s1 σ H1 D I1 q1
 |false=>exact hb pins s1 σ H1 D I1 q1
end
abbrev TG:=V->St->Hp->(St->Hp->Prop)->Prop
def PG(X:Cx)(target:bw)(t:TG):Prop:=∀(pins:List (aa×aM))(s:ao)(σ:St)(H:Hp)(v:V)(u:af)(Q:St->Hp->Prop),Inv X pins σ H s->RelV v u->t v σ H Q->aE (model X.prog X.w) X.A (assign target X.env u) (fun Z s'=>∃σ' H',Inv X pins σ' H' s'/\Q σ' H') X.xe s
abbrev GY:=V->V->V->Hp->(Hp->Prop)->Prop
def QY(X:Cx)(t:GY):Prop:=∀(pins:List (aa×aM))(s:ao)(σ:St)(H:Hp)(o i v:V)(ov iv u:af)(Q:Hp->Prop),Inv X pins σ H s->RelV o ov->RelV i iv->RelV v u->t o i v H Q->aE (model X.prog X.w) X.A (setItem ov iv u) (fun Z s'=>∃H',Inv X pins σ H' s'/\Q H') X.xe s
abbrev BY:=V->V->Hp->VK->Prop
def Bo(X:Cx)(op:Bw)(t:BY):Prop:=∀(pins:List (aa×aM))(s:ao)(σ:St)(H:Hp)(x y:V)(v u:af)(Q:VK),Inv X pins σ H s->RelV x v->RelV y u->t x y H Q->aE (model X.prog X.w) X.A (inplaceOp op v u) (EP X pins σ Q) X.xe s
section
variable{X:Cx}{pos:b4}
def b7(i:Nat):TG:=fun v σ H Q=>Q (σ.set i (some v)) H
theorem c8{i:Nat}{x:ah}(hN:X.N.Nodup)(hi:X.N[i]? =some x)(hx:Loc X.env.scope x)(hf:X.fn x=true\/X.env.scope.names.lookup x=some .local:=by first|exact .inl rfl|exact .inr rfl|assumption):PG X (.Name x pos) (b7 i):=by
 intro pins s σ H v u Q I r h;exact wpAny_assign_Name (E3 I hN hi hx r (fun s' I'=>⟨_,H,I',h⟩) hf)
def afu(to ti:TE)(t:GY):TG:=fun v σ H Q=>to σ H fun o H1=>ti σ H1 fun i H2=>t o i v H2 fun H3=>Q σ H3
theorem amw{o i:bw}{to ti:TE}{t:GY}(ho:PE X o to)(hi:PE X i ti)(hs:QY X t)(ha:∀v,assign (.Subscript o i pos) X.env v=(do
  let ov<-holding [v] (eval o X.env)
  let iv<-holding [v,ov] (eval i X.env)
  yJ pos;holding [v,ov,iv] (setItem ov iv v);release [v,ov,iv] []):=by intro _;rfl):PG X (.Subscript o i pos) (afu to ti t):=by
 intro pins s σ H v u Q I r h;rw[ha];refine aB (pQ (bo (ho pins s σ H _ I h) fun ov s1 ⟨x,H1,I1,r1,q1⟩=>?_));refine aB (pQ (bo (hi pins s1 σ H1 _ I1 q1) fun iv s2 ⟨y,H2,I2,r2,q2⟩=>?_));refine aB (BU (aB (pQ (bo (hs pins s2 σ H2 x y v ov iv u _ I2 r1 r2 r q2) fun Z s3 ⟨H3,I3,q3⟩=>?_))));exact wpAny_release ⟨σ,H3,I3,q3⟩
def cE(te:TE)(g:TG):TS:=fun D σ H=>te σ H fun x H1=>g x σ H1 D.nx
theorem amL{tg e:bw}{te:TE}{g:TG}(he:PE X e te)(hg:PG X tg g)(hs:swapsWithSole [tg] e pos.line X.env=pure false:=by rfl)(hw:swappedStores [tg] e X.env=pure none:=by rfl)(h1:(assignEach [tg] X.env).map (·.2)=[assign tg X.env]:=by rfl):PS X (.Assign [tg] e pos) (cE te g):=by
 intro pins s σ H D I h;refine wpAny_Assign_stores (bo (he pins s σ H _ I h) fun v s1 ⟨x,H1,I1,r1,q1⟩=>?_) hs hw;rw[h1];exact bo (hg pins s1 σ H1 x v _ I1 r1 q1) fun Z s2 q=>q
theorem aZ{i:Nat}{x:ah}{e:bw}{te:TE}{pos':b4}(hN:X.N.Nodup)(hi:X.N[i]? =some x)(hx:Loc X.env.scope x)(he:PE X e te)(hs:vS e (some (.Name x pos')) pos.line X.env=pure false:=by rfl)(hf:X.fn x=true\/X.env.scope.names.lookup x=some .local:=by first|exact .inl rfl|exact .inr rfl|assumption):PS X (.Assign [.Name x pos'] e pos) (cE te (b7 i)):=by
 intro pins s σ H D I h;refine wpAny_Assign_Name (bo (he pins s σ H _ I h) fun v s1 ⟨y,H1,I1,r1,q1⟩=>?_) hs;exact E3 I1 hN hi hx r1 (fun s2 I2=>⟨_,H1,I2,q1⟩) hf
def E4(i:Nat)(te:TE)(ti:BY):TS:=fun D σ H=>∃x,σ[i]? =some (some x)/\te σ H fun y H1=>ti x y H1 fun z H2=>D.nx (σ.set i (some z)) H2
theorem pj{i:Nat}{x:ah}{e:bw}{te:TE}{op:Bw}{ti:BY}{pos':b4}(hN:X.N.Nodup)(hi:X.N[i]? =some x)(hx:Loc X.env.scope x)(he:PE X e te)(ho:Bo X op ti)(hf:X.fn x=true\/X.env.scope.names.lookup x=some .local:=by first|exact .inl rfl|exact .inr rfl|assumption):PS X (.AugAssign (.Name x pos') op e pos) (E4 i te ti):=by
 intro pins s σ H D I h;obtain⟨v,e1,h⟩:=h;obtain⟨m,hn,hl⟩:=I.loc;have vis:we X.env.scope x:=by rcases hx with k|k;exact .inl k;exact .inr (.inl k)
 obtain⟨u,r,l⟩:=hl i x v hi e1 vis;refine wpAny_AugAssign_Name ?_;have go:aE (model X.prog X.w) X.A (eval e X.env) (fun w s₂=>aE (model X.prog X.w) X.A (inplaceOp op u w) (fun r s₃=>aE (model X.prog X.w) X.A (storeName X.env x r) (fun Z=>SP X pins D .next) X.xe s₃) X.xe s₂) X.xe s:=by
  refine bo (he pins s σ H _ I h) fun w s1 ⟨y,H1,I1,r1,q1⟩=>?_;refine bo (ho pins s1 σ H1 v y u w _ I1 r r1 q1) fun z s2 ⟨zv,H2,I2,r2,q2⟩=>?_;exact E3 I2 hN hi hx r2 (fun s3 I3=>⟨_,H2,I3,q2⟩) hf
 rcases l with⟨hk,hm⟩|⟨hk,c,hc,C3⟩
 .exact yP I.ok.kind hk hn hm go
 .rcases hk with hk|hk
  .exact aaV I.ok.kind hk hc C3 go
  .rcases hx with k|k
   .have:X.env.scope.names.lookup x=some .free:=hk;rw[k]at this;cases this
   .have:X.env.scope.names.lookup x=some .free:=hk;rw[k]at this;cases this
def ipI(f:Int->Int->Int):BY:=fun x y H Q=>∃i j,x=.int i/\y=.int j/\Q (.int (f i j)) H
theorem wY:Bo X .Add (ipI fun i j=>i+j):=by
 intro pins s σ H x y v u Q I r1 r2 h;obtain⟨i,j,e1,e2,q⟩:=h;subst e1;subst e2;obtain⟨t,rfl⟩:=r1;obtain⟨t',rfl⟩:=r2;exact Z4 ⟨.int _,H,I.tok _,⟨_,rfl⟩,q⟩
end
section
variable{X:Cx}{pos:b4}
def aoW(c:TT)(tb:TS):TS:=fun D σ H=>∃W:Nat->St->Hp->Prop,(∃m,W m σ H)/\∀m σ H,W m σ H->c σ H fun b H1=>if b=true then∃N:St->Hp->Prop,(∀σ' H',N σ' H'->∃m',m'<m/\W m' σ' H')/\tb {D with nx:=N,ct:=N,bk:=D.nx} σ H1 else D.nx σ H1
theorem uR{c:bw}{body:List aW}{tc:TT}{tb:TS}(hp:PassesOwn (model X.prog X.w) X.A X.env X.xe)(hc:PT X c tc)(hb:kc X body tb):PS X (.While c body [] pos) (aoW tc tb):=by
 intro pins s σ H D I h;obtain⟨W,⟨m0,w0⟩,turn⟩:=h;refine wpAny_While (codeAny_whileLoop (fun n s'=>∃σ' H',Inv X pins σ' H' s'/\W n σ' H') ?_ m0 ⟨σ,H,I,w0⟩);rintro n s1 ⟨σ1,H1,I1,w1⟩;refine vU hp (bo (hc pins s1 σ1 H1 _ I1 (turn n σ1 H1 w1)) fun b s2 ⟨H2,I2,q2⟩=>?_);cases b with
 |true=>
  obtain⟨N,hN,q2⟩:=q2;rw[if_pos rfl];refine vU hp (bo (hb pins s2 σ1 H2 _ I2 q2) fun f s3 q3=>?_);cases f with
  |next=>
   obtain⟨σ3,H3,I3,n3⟩:=q3;obtain⟨m',hm,w3⟩:=hN σ3 H3 n3;exact⟨m',hm,σ3,H3,I3,w3⟩
  |cont=>
   obtain⟨σ3,H3,I3,n3⟩:=q3;obtain⟨m',hm,w3⟩:=hN σ3 H3 n3;exact⟨m',hm,σ3,H3,I3,w3⟩
  |brk=>exact q3
  |ret v=>exact q3
 |false=>
  rw[if_neg eX];exact BO ⟨σ1,H2,I2,q2⟩
end
structure It where
 go:Nat->Hp->Prop
 tj:Nat->Hp->V->Hp->Prop
 stop:Nat->Hp->Prop
def ou(X:Cx)(pins:List (aa×aM))(H:Hp)(b:aa):Prop:=H b=none/\b≠X.env.locals/\b∉X.fs/\(b∈X.ex\/X.gF.heap.objs.size<=b)/\(∀x c,X.env.cells.lookup x=some c->c≠b)/\∀p∈X.pn++pins,p.1≠b
theorem Inv.CB{X:Cx}{pins:List (aa×aM)}{σ:St}{H H':Hp}{s:ao}{b:aa}(I:Inv X pins σ H s)(hb:s.heap.objs.size<=b)(hn:H' b=none):ou X pins H' b:=by
 refine⟨hn,vA (g7 I.lt hb),I.aj7 hb,.inr (fA I.sz hb),fun x c e z=>?_,fun p hp z=>?_⟩
 .obtain⟨v,q⟩:=I.cell x c e;exact absurd (g7 q.lt (by rw[z];exact hb)) (mh _)
 .exact absurd (g7 (cj (I.pin p hp).1) (by rw[z];exact hb)) (mh _)
structure Turn(P:aV)(w:aQ)(K:aK)(tg:bw)(J:It)(fp:List aa)(it:aa)(tn:Nat->aG->Prop):Prop where
 mem:it∈fp
 obj:∀i h,tn i h->∀b∈fp,∃o,h.get? b=some o/\∀v,o.data≠.cell v
 keep:∀i h h',tn i h->(∀b∈fp,∀o,h.get? b=some o->h'.get? b=some o)->tn i h'
 item:∀(X:Cx),X.prog=P->X.w=w->X.K=K->X.calm=true->∀(i:Nat)(pins:List (aa×aM))(s:ao)(σ:St)(H:Hp)(E:af->ao->Prop),Inv X pins σ H s->(∀b∈fp,ou X pins H b)->tn i s.heap->J.go i H->
  aE (model P w) X.A (jj (.ref it)) (fun r s1=>∃u,r=some u/\aE (model P w) X.A (GJ tg (.ref it) u) (fun Z s2=>∃x H',Inv X pins σ H' s2/\RelV x u/\J.tj i H x H'/\tn (i+1) s2.heap/\∀b∈fp,H' b=none) E s1) E s
 done:∀(X:Cx),X.prog=P->X.w=w->X.K=K->X.calm=true->∀(i:Nat)(pins:List (aa×aM))(s:ao)(σ:St)(H:Hp)(E:af->ao->Prop),Inv X pins σ H s->(∀b∈fp,ou X pins H b)->tn i s.heap->J.stop i H->
  aE (model P w) X.A (jj (.ref it)) (fun r s1=>r=none/\Inv X pins σ H s1) E s
 self:∀(A:bO)(i:Nat)(s:ao)(Q:af->ao->Prop)(E:af->ao->Prop),tn i s.heap->Q (.ref it) s->aE (model P w) A (tT (.ref it)) Q E s
abbrev TI:=St->Hp->(It->Hp->Prop)->Prop
def Ge(X:Cx)(pins:List (aa×aM))(σ:St)(tg:bw)(R:It->Hp->Prop)(Lq:af)(s2:ao):Prop:=∃(it:aa)(fp:List aa)(tn:Nat->aG->Prop)(J:It)(H':Hp),Lq=.ref it/\Inv X pins σ H' s2/\Turn X.prog X.w X.K tg J fp it tn/\tn 0 s2.heap/\(∀b∈fp,ou X pins H' b)/\R J H'
def PI(X:Cx)(tg iter:bw)(wi:TI):Prop:=∀(pins:List (aa×aM))(s:ao)(σ:St)(H:Hp)(R:It->Hp->Prop),Inv X pins σ H s->wi σ H R->aE (model X.prog X.w) X.A (eval iter X.env) (fun v s1=>aE (model X.prog X.w) X.A (tT v) (Ge X pins σ tg R) X.xe s1) X.xe s
theorem wG{M:qT}{A:bO}{E:af->ao->Prop}{s:ao}{tg:bw}{it:aa}{u:af}{o:aM}{n:String}{vs:Array af}{Q:Unit->ao->Prop}(ho:s.heap.get? it=some o)(hc:o.cls=.type n)(hd:o.data=.fields vs)(hn:["enumerate","zip","dict_itemiterator","dict_reverseitemiterator","odict_iterator","itertools.zip_longest","itertools.pairwise"].contains n=false)(hQ:Q () s):aE M A (GJ tg (.ref it) u) Q E s:=by
 unfold GJ;cases tg<;>first
  |exact bz hQ
  |(cases u<;>first
   |exact bz hQ
   |(refine aB (wpAny_load ho ?_);rw[hc,hd];show aE M A (if(["enumerate","zip","dict_itemiterator","dict_reverseitemiterator","odict_iterator","itertools.zip_longest","itertools.pairwise"].contains n&&vs[0]? ==some (f9 _))=true then _ else _) Q E s;rw[if_neg (by intro h;rw[hn,pF]at h;cases h)];exact bz hQ))
def qH(K:aK)(a:aa):It:=⟨fun i H=>∃xs x,aH K H a xs/\xs[i]? =some x,fun i H x H'=>H'=H/\∀xs,aH K H a xs->xs[i]? =some x,fun i H=>∃xs,aH K H a xs/\xs.length<=i⟩
def vm(lo:Int)(n:Nat):It:=⟨fun i Z=>i<n,fun i H x H'=>H'=H/\x=.int (lo+i),fun i Z=>n<=i⟩
theorem apf{P:aV}{w:aQ}{K:aK}{tg:bw}(a it:aa):Turn P w K tg (qH K a) [it] it (fun i h=>h.IsListIter it a i) where
 mem:=by simp
 obj:=fun i h st b hb=>by
  have e:b=it:=by simpa using hb
  subst e;obtain⟨o,e,c,d⟩:=st;exact⟨o,e,fun v z=>by rw[d]at z;cases z⟩
 keep:=fun i h h' st k=>st.at fun o e=>k it (by simp) o e;item:=by
  intro X hP hw hK hc i pins s σ H E I hf st hg;subst hP hw hK;obtain⟨xs,x,hq,hx⟩:=hg;obtain⟨aC,rv,p,hz⟩:=I.list hq;obtain⟨u,hu,ru⟩:=rv.get hx;obtain⟨f0,f1,f2,f3,f4,f5⟩:=hf it (by simp);refine wpAny_pyNext_list_item st p.isList (x:=u) (by simpa using hu) fun h' jb sb=>?_;have I1:Inv X pins σ H {s with heap:=h'}:=I.turned (t':=s.toks) (fun b o hb e=>(sb.2 b hb).trans e) f0 f1 f3 f4 f5;obtain⟨o,e,c,d⟩:=id jb;exact⟨u,rfl,wG (s:={s with heap:=h'}) e c d (by decide) ⟨x,H,I1,ru,⟨rfl,fun ys hy=>by rw[I.aiR hy hq];exact hx⟩,jb,fun b hb=>(hf b hb).1⟩⟩
 done:=by
  intro X hP hw hK hc i pins s σ H E I hf st hg;subst hP hw hK;obtain⟨xs,hq,hx⟩:=hg;obtain⟨aC,rv,p,hz⟩:=I.list hq;obtain⟨f0,f1,f2,f3,f4,f5⟩:=hf it (by simp);have hl:=rv.length;exact wpAny_pyNext_list_end (I.ok.hd hc) st p.isList (by simp;lia) fun h' eb=>⟨rfl,I.turned (t':=s.toks) (fun b o hb e=>eb b o hb e) f0 f1 f3 f4 f5⟩
 self:=fun Z Z Z Z Z st h=>wpAny_pyIter_listiter st h
theorem apg{P:aV}{w:aQ}{K:aK}{tg:bw}(it:aa)(lo:Int)(n:Nat):Turn P w K tg (vm lo n) [it] it (fun i h=>Gq h it (lo+(i:Nat)*1) ((n:Int) -(i:Nat)) 1) where
 mem:=by simp
 obj:=fun i h st b hb=>by
  have e:b=it:=by simpa using hb
  subst e;exact⟨_,st,fun v z=>by
   have z':Data.fields _=Data.cell v:=z;cases z'⟩
 keep:=fun i h h' st k=>k it (by simp) _ st;item:=by
  intro X hP hw hK hc i pins s σ H E I hf st hg;subst hP hw hK;obtain⟨f0,f1,f2,f3,f4,f5⟩:=hf it (by simp);have W:=Walks.range (prog:=X.prog) (w:=X.w) (I.ok.hd hc) it lo 1 n;refine W.item i s _ _ hg st fun v h' tk hv jb kk=>?_;obtain⟨t,rfl⟩:=hv;have I1:Inv X pins σ H {s with heap:=h',toks:=tk}:=I.turned (fun b o hb e=>kk b o (by simpa using hb) e) f0 f1 f3 f4 f5;refine⟨_,rfl,wG (s:={s with heap:=h',toks:=tk}) (n:="range_iterator") jb rfl rfl (by decide) ⟨.int (lo+i),H,I1,⟨t,?_⟩,⟨rfl,rfl⟩,jb,fun b hb=>(hf b hb).1⟩⟩;rw[Int.mul_one]
 done:=by
  intro X hP hw hK hc i pins s σ H E I hf st hg;subst hP hw hK;obtain⟨f0,f1,f2,f3,f4,f5⟩:=hf it (by simp);exact aaZ (I.ok.hd hc) st (by have:n<=i:=hg;lia) fun h' eb=>⟨rfl,I.turned (t':=s.toks) (fun b o hb e=>eb b o hb e) f0 f1 f3 f4 f5⟩
 self:=fun Z Z Z Z Z st h=>aaY st h
section
variable{X:Cx}{tg:bw}
def uG(K:aK)(tl:TE):TI:=fun σ H R=>tl σ H fun x H1=>∃a,x=.ref a/\(∃xs,aH K H1 a xs)/\R (qH K a) H1
theorem dP{l:bw}{tl:TE}(hl:PE X l tl):PI X tg l (uG X.K tl):=by
 intro pins s σ H R I h;refine bo (hl pins s σ H _ I h) fun v s1 ⟨x,H1,I1,r1,q1⟩=>?_;obtain⟨a,e,⟨xs,hq⟩,q⟩:=q1;subst e;cases r1;obtain⟨aC,rv,p,hz⟩:=I1.list hq;refine RT p.isList ?_;refine⟨s1.heap.objs.size,[s1.heap.objs.size],_,_,H1,rfl,I1.kept (t':=s1.toks) fun b o e=>cD _ e,apf a _,⟨_,dZ _ rfl,rfl,rfl⟩,fun b hb=>?_,q⟩;have e:b=s1.heap.objs.size:=by simpa using hb
 subst e;exact I1.CB (cA _) (I1.aT.fresh (cA _))
theorem am4{pins:List (aa×aM)}{σ:St}{H:Hp}{s:ao}{R:It->Hp->Prop}{E:af->ao->Prop}{lo hi:Int}{t u v:ji}{tk:Nat}(I:Inv X pins σ H s)(h1: -(2^62)<=lo)(h2:lo<2^62)(h3: -(2^62)<=hi)(h4:hi<2^62)(q:R (vm lo (hi-lo).toNat) H):aE (model X.prog X.w) X.A (tT (.ref s.heap.objs.size)) (Ge X pins σ tg R) E {s with heap:=s.heap.push {cls:=.type "range",data:=.fields #[.int lo t,.int hi u,.int 1 v]},toks:=tk}:=by
 refine aaX (Rc ..) (small_one h1 h2 h3 h4) ?_;have I1:Inv X pins σ H {s with heap:=s.heap.push {cls:=.type "range",data:=.fields #[.int lo t,.int hi u,.int 1 v]},toks:=tk}:=I.kept fun b o e=>cD _ e;refine⟨(s.heap.push {cls:=.type "range",data:=.fields #[.int lo t,.int hi u,.int 1 v]}).objs.size,[(s.heap.push {cls:=.type "range",data:=.fields #[.int lo t,.int hi u,.int 1 v]}).objs.size],_,_,H,rfl,I1.kept (t':=tk) fun b o e=>cD _ e,apg _ lo (hi-lo).toNat,?_,fun b hb=>?_,q⟩
 .have e1:lo+((0:Nat):Int)*1=lo:=by simp
  have e2:(((hi-lo).toNat:Nat):Int) -((0:Nat):Int)=Q5 lo hi 1:=by rw[rangeSize_one];split<;>lia
  show Gq _ _ (lo+((0:Nat):Int)*1) ((((hi-lo).toNat:Nat):Int) -((0:Nat):Int)) 1;rw[e1,e2];exact dZ _ rfl
 .have e:b=(s.heap.push {cls:=.type "range",data:=.fields #[.int lo t,.int hi u,.int 1 v]}).objs.size:=by simpa using hb
  subst e;exact I1.CB (cA _) (I1.aT.fresh (cA _))
def Lh(ta:TA):TI:=fun σ H R=>ta σ H fun vs H1=>∃j:Int,vs=[.int j]/\ -(2^62)<=j/\j<2^62/\R (vm 0 j.toNat) H1
theorem Mv{a:bw}{ta:TA}{p pos:b4}(hg:Gl X "range")(hm:X.mg "range"=none)(ha:PA X [a] ta)(hs:b5 [a] X.env=[(false,eval a X.env)]:=by rfl):PI X tg (.Call (.Name "range" p) [a] [] pos) (Lh ta):=by
 intro pins s σ H R I h;refine tJ (o7 I hg hm Q1 (tL (bo (ha pos pins s σ H _ I h) fun us s1 ⟨vs,H1,I1,r1,q1⟩=>?_) hs rfl));obtain⟨j,e,q1,q2,q⟩:=q1;subst e;cases r1 with
 |cons r rr=>
  cases rr;obtain⟨t,rfl⟩:=r;exact call_range_1 (am4 I1 (by lia) (by lia) q1 q2 (by simpa using q))
def aoJ(wi:TI)(g:TG)(tb:TS):TS:=fun D σ H=>wi σ H fun J H1=>∃W:Nat->Nat->St->Hp->Prop,(∃m,W 0 m σ H1)/\∀i m σ H,W i m σ H->(J.stop i H/\D.nx σ H)\/(J.go i H/\∃N:St->Hp->Prop,(∀σ' H',N σ' H'->∃m',m'<m/\W (i+1) m' σ' H')/\∀x H',J.tj i H x H'->g x σ H' fun σ2 H2=>tb {D with nx:=N,ct:=N,bk:=D.nx} σ2 H2)
def Au(fp:List aa)(h:aG):List (aa×aM):=fp.filterMap fun b=>(h.get? b).map fun o=>(b,o)
theorem LQ{fp:List aa}{h:aG}{b:aa}{o:aM}(hb:b∈fp)(e:h.get? b=some o):(b,o)∈Au fp h:=tG.mpr ⟨b,hb,by rw[e];rfl⟩
theorem aki{fp:List aa}{h:aG}{p:aa×aM}(hp:p∈Au fp h):p.1∈fp/\h.get? p.1=some p.2:=by
 obtain⟨b,hb,e⟩:=tG.mp hp;cases q:h.get? b with
 |none=>rw[q]at e;cases e
 |some o=>
  rw[q]at e;have e':(b,o)=p:=g8 e;subst e';exact⟨hb,q⟩
theorem Inv.pinned{pins:List (aa×aM)}{σ:St}{H:Hp}{s:ao}{fp:List aa}(I:Inv X pins σ H s)(hf:∀b∈fp,ou X pins H b)(ho:∀b∈fp,∃o,s.heap.get? b=some o/\∀v,o.data≠.cell v):Inv X (pins++Au fp s.heap) σ H s:=I.WN fun p hp=>(jJ.mp hp).elim (fun z=>I.pin p (qJ _ z)) fun z=>by
 obtain⟨hb,e⟩:=aki z;obtain⟨f0,f1,f2,Z⟩:=hf p.1 hb;obtain⟨o,e',d⟩:=ho p.1 hb;rw[e]at e';cases e';exact⟨e,f0,f1,f2,d⟩
theorem Inv.E9{pins pl:List (aa×aM)}{σ:St}{H:Hp}{s:ao}(I:Inv X (pins++pl) σ H s):Inv X pins σ H s:=I.WN fun p hp=>I.pin p (qJ _ (QI _ hp))
theorem mT{iter:bw}{body:List aW}{wi:TI}{g:TG}{tb:TS}{pos:b4}(hp:PassesOwn (model X.prog X.w) X.A X.env X.xe)(hc:X.calm=true)(hi:PI X tg iter wi)(hg:PG X tg g)(hb:kc X body tb)(hs:∀x,GI iter X.env x=pure x:=by intro _;rfl):PS X (.For tg iter body [] pos) (aoJ wi g tb):=by
 intro pins s σ H D I h;refine wpAny_For (bo (hi pins s σ H _ I h) fun v s1 h1=>bo h1 fun Lq s2 h2=>?_) hs;obtain⟨it,fp,tn,J,H2,e,I2,T,EZ,f2,W,⟨m0,w0⟩,turn⟩:=h2;subst e;have vc:∀{H':Hp},(∀b∈fp,H' b=none)->∀b∈fp,ou X pins H' b:=fun hn b hb=>⟨hn b hb,(f2 b hb).2⟩;refine codeAny_forLoop_any (fun n s'=>∃i σ' H',Inv X pins σ' H' s'/\tn i s'.heap/\(∀b∈fp,H' b=none)/\W i n σ' H') ?_ m0 ⟨0,σ,H2,I2,EZ,fun b hb=>(f2 b hb).1,w0⟩;rintro n s3 ⟨i,σ3,H3,I3,E1,T3,w3⟩;rcases turn i n σ3 H3 w3 with⟨stop,qn⟩|⟨go,N,hN,step⟩
 .refine vU hp (bo (T.done X rfl rfl rfl hc i pins s3 σ3 H3 X.xe I3 (vc T3) E1 stop) fun r s4 ⟨hr,I4⟩=>?_);subst hr;exact BO ⟨σ3,H3,I4,qn⟩
 .refine vU hp (bo (T.item X rfl rfl rfl hc i pins s3 σ3 H3 X.xe I3 (vc T3) E1 go) fun r s4 ⟨u,hr,h4⟩=>?_);subst hr;refine vU hp (bo h4 fun Z s5 ⟨x,H5,I5,r5,y5,xN,fr5⟩=>?_);have Za:=I5.pinned (vc fr5) (T.obj _ _ xN);refine vU hp (bo (hg _ s5 σ3 H5 x u _ Za r5 (step x H5 y5)) fun Z s6 ⟨σ6,H6,I6,q6⟩=>?_);refine vU hp (bo (hb _ s6 σ6 H6 _ I6 q6) fun f s7 q7=>?_);have again:∀{σ7:St}{H7:Hp},Inv X (pins++Au fp s5.heap) σ7 H7 s7->N σ7 H7->∃m,m<n/\∃i σ' H',Inv X pins σ' H' s7/\tn i s7.heap/\(∀b∈fp,H' b=none)/\W i m σ' H':=fun{σ7 H7} I7 n7=>by
   obtain⟨m',hm,w7⟩:=hN σ7 H7 n7;refine⟨m',hm,i+1,σ7,H7,I7.E9,T.keep _ _ _ xN fun b hb o e=>(I7.pin (b,o) (qJ _ (qJ _ (LQ hb e)))).1,fun b hb=>?_,w7⟩;obtain⟨o,e,d⟩:=T.obj _ _ xN b hb;exact(I7.pin (b,o) (qJ _ (qJ _ (LQ hb e)))).2.1
  cases f with
  |next=>obtain⟨σ7,H7,I7,n7⟩:=q7;exact again I7 n7
  |cont=>obtain⟨σ7,H7,I7,n7⟩:=q7;exact again I7 n7
  |brk=>obtain⟨σ7,H7,I7,q7⟩:=q7;exact⟨σ7,H7,I7.E9,q7⟩
  |ret v=>obtain⟨x7,σ7,H7,I7,r7,q7⟩:=q7;exact⟨x7,σ7,H7,I7.E9,r7,q7⟩
end
theorem oQ{K:aK}{a:aa}{xs:List V}{g:TG}{tb:TS}{D:Ends}{σ:St}{H:Hp}(Pv:Nat->St->Hp->Prop)(h0:Pv 0 σ H)(hl:∀i σ H,i<=xs.length->Pv i σ H->aH K H a xs)(hs:∀i x σ H,xs[i]? =some x->Pv i σ H->g x σ H fun σ2 H2=>tb {D with nx:=Pv (i+1),ct:=Pv (i+1),bk:=D.nx} σ2 H2)(hd:∀σ H,Pv xs.length σ H->D.nx σ H):∃W:Nat->Nat->St->Hp->Prop,(∃m,W 0 m σ H)/\∀i m σ H,W i m σ H->((qH K a).stop i H/\D.nx σ H)\/((qH K a).go i H/\∃N:St->Hp->Prop,(∀σ' H',N σ' H'->∃m',m'<m/\W (i+1) m' σ' H')/\∀x H',(qH K a).tj i H x H'->g x σ H' fun σ2 H2=>tb {D with nx:=N,ct:=N,bk:=D.nx} σ2 H2):=by
 refine⟨fun i m σ H=>m=xs.length-i/\i<=xs.length/\Pv i σ H,⟨xs.length,by simp,dJ _,h0⟩,?_⟩;rintro i m σ H ⟨rfl,hi,p⟩;have q:=hl i σ H hi p;by_cases bI:i<xs.length
 .refine .inr ⟨⟨xs,xs[i],q,by simp[bI]⟩,Pv (i+1),fun σ' H' p'=>⟨xs.length-(i+1),by lia,rfl,bI,p'⟩,fun x H' y=>?_⟩;obtain⟨e,y⟩:=y;subst e;exact hs i x σ _ (y xs q) p
 .have e:i=xs.length:=by lia
  subst e;exact .inl ⟨⟨xs,q,cA _⟩,hd σ H p⟩
abbrev R2:=V->V->Hp->VK->Prop
def eZ(X:Cx)(f:af->af->gM af)(r:R2):Prop:=∀(pins:List (aa×aM))(s:ao)(σ:St)(H:Hp)(x y:V)(v u:af)(Q:VK),Inv X pins σ H s->RelV x v->RelV y u->r x y H Q->aE (model X.prog X.w) X.A (f v u) (EP X pins σ Q) X.xe s
def GZ(X:Cx)(f:af->gM af)(r:V->Hp->VK->Prop):Prop:=∀(pins:List (aa×aM))(s:ao)(σ:St)(H:Hp)(x:V)(v:af)(Q:VK),Inv X pins σ H s->RelV x v->r x H Q->aE (model X.prog X.w) X.A (f v) (EP X pins σ Q) X.xe s
def ma(X:Cx)(f:af)(r:List V->Hp->VK->Prop):Prop:=∀(pins:List (aa×aM))(s:ao)(σ:St)(H:Hp)(xs:List V)(us:List af)(Q:VK),Inv X pins σ H s->Vals xs us->r xs H Q->aE (model X.prog X.w) X.A (call f us) (EP X pins σ Q) X.xe s
def bG(r:R2)(ta tb:TE):TE:=fun σ H Q=>ta σ H fun x H1=>tb σ H1 fun y H2=>r x y H2 Q
def tUn(r:V->Hp->VK->Prop)(ta:TE):TE:=fun σ H Q=>ta σ H fun x H1=>r x H1 Q
def j7(g:Int->Int->V):R2:=fun x y H Q=>∃i j,x=.int i/\y=.int j/\Q (g i j) H
def rU(g:Int->V):V->Hp->VK->Prop:=fun x H Q=>∃i,x=.int i/\Q (g i) H
section
variable{X:Cx}{a b c:bw}{ta tb tc:TE}{pos:b4}
theorem G7(ha:PE X a ta)(hb:PE X b tb){pins:List (aa×aM)}{s:ao}{σ:St}{H:Hp}{R:V->V->Hp->Prop}(I:Inv X pins σ H s)(h:ta σ H fun x H1=>tb σ H1 fun y H2=>R x y H2){Q:af->ao->Prop}{f:af->af->gM af}(hf:∀v u s2 x y H2,Inv X pins σ H2 s2->RelV x v->RelV y u->R x y H2->aE (model X.prog X.w) X.A (f v u) Q X.xe s2):aE (model X.prog X.w) X.A (eval a X.env) (fun v s₁=>aE (model X.prog X.w) X.A (eval b X.env) (fun u s₂=>aE (model X.prog X.w) X.A (f v u) Q X.xe s₂) X.xe s₁) X.xe s:=by
 refine bo (ha pins s σ H _ I h) fun v s1 ⟨x,H1,I1,r1,q1⟩=>?_;refine bo (hb pins s1 σ H1 _ I1 q1) fun u s2 ⟨y,H2,I2,r2,q2⟩=>?_;exact hf v u s2 x y H2 I2 r1 r2 q2
theorem dH{op:Bw}{r:R2}(ho:eZ X (vM op) r)(ha:PE X a ta)(hb:PE X b tb):PE X (.BinOp a op b pos) (bG r ta tb):=by
 intro pins s σ H Q I h;exact wpAny_BinOp (G7 ha hb I h fun v u s2 x y H2 I2 rx ry q=>ho pins s2 σ H2 x y v u Q I2 rx ry q)
theorem Ar{op:UnaryOp}{r:V->Hp->VK->Prop}(ho:GZ X (unaryOp op) r)(ha:PE X a ta):PE X (.UnaryOp op a pos) (tUn r ta):=by
 intro pins s σ H Q I h;exact UnaryOp_ (bo (ha pins s σ H _ I h) fun v s1 ⟨x,H1,I1,r1,q1⟩=>ho pins s1 σ H1 x v Q I1 r1 q1)
theorem Mf{f:af->af->gM af}{g:Int->Int->Int}(rule:∀(i j:Int)(t u:ji)(s:ao)(Q:af->ao->Prop)(E:af->ao->Prop),Q (.int (g i j) s.toks) {s with toks:=s.toks+1}->aE (model X.prog X.w) X.A (f (.int i t) (.int j u)) Q E s):eZ X f (j7 fun i j=> .int (g i j)):=by
 intro pins s σ H x y v u Q I rx ry h;obtain⟨i,j,rfl,rfl,q⟩:=h;obtain⟨t,rfl⟩:=rx;obtain⟨t',rfl⟩:=ry;exact rule i j t t' s _ _ ⟨.int (g i j),H,I.tok _,⟨_,rfl⟩,q⟩
theorem DK{f:af->af->gM af}{g:Int->Int->Bool}(rule:∀(i j:Int)(t u:ji)(s:ao)(Q:af->ao->Prop)(E:af->ao->Prop),Q (.bool (g i j)) s->aE (model X.prog X.w) X.A (f (.int i t) (.int j u)) Q E s):eZ X f (j7 fun i j=> .bl (g i j)):=by
 intro pins s σ H x y v u Q I rx ry h;obtain⟨i,j,rfl,rfl,q⟩:=h;obtain⟨t,rfl⟩:=rx;obtain⟨t',rfl⟩:=ry;exact rule i j t t' s _ _ ⟨.bl (g i j),H,I,rfl,q⟩
def A3(i j:Int):Prop:=(-(2^64)<i/\i<2^64)\/(-(2^64)<j/\j<2^64)
theorem A3.ok{i j:Int}(h:A3 i j):IntMulOk i j:=by
 rcases h with⟨h1,h2⟩|⟨h1,h2⟩
 .exact .of_left (intBits_le_64 h1 h2)
 .exact .of_right (intBits_le_64 h1 h2)
theorem mQ:eZ X (vM .Add) (j7 fun i j=> .int (i+j)):=Mf fun Z Z Z Z Z Z Z q=>add_int q
theorem Mh:eZ X (vM .Sub) (j7 fun i j=> .int (i-j)):=Mf fun Z Z Z Z Z Z Z q=>sub_int q
theorem Mg:eZ X (vM .BitAnd) (j7 fun i j=> .int (Q6 i j)):=Mf fun Z Z Z Z Z Z Z q=>and_int q
theorem unI{f:af->gM af}{g:Int->Int}(rule:∀(i:Int)(t:ji)(s:ao)(Q:af->ao->Prop)(E:af->ao->Prop),Q (.int (g i) s.toks) {s with toks:=s.toks+1}->aE (model X.prog X.w) X.A (f (.int i t)) Q E s):GZ X f (rU fun i=> .int (g i)):=by
 intro pins s σ H x v Q I rx h;obtain⟨i,rfl,q⟩:=h;obtain⟨t,rfl⟩:=rx;exact rule i t s _ _ ⟨.int (g i),H,I.tok _,⟨_,rfl⟩,q⟩
theorem AY:GZ X (unaryOp .USub) (rU fun i=> .int (-i)):=unI fun Z Z Z Z Z q=>neg_int q
end
def XT:V->V->Bool
 | .aO,.aO=>true| .aO,.int _=>true| .int _,.aO=>true| .aO,.bl _=>true| .bl _,.aO=>true| .aO,.str _=>true| .str _,.aO=>true
 | .int _,.int _=>true| .bl _,.bl _=>true| .str _,.str _=>true| .iS _,.iS _=>true
 | .int _,.str _=>true| .str _,.int _=>true| .bl _,.str _=>true| .str _,.bl _=>true
 |_,_=>false
def DY:R2:=fun x y H Q=>XT x y=true/\Q (.bl (decide (x=y))) H
def sG:R2:=fun x y H Q=>XT x y=true/\Q (.bl (!decide (x=y))) H
theorem S3{i j:Int}:decide (V.int i=V.int j)=(i==j):=by
 rw[gJ];simp
theorem S1{i j:Bool}:decide (V.bl i=V.bl j)=(i==j):=by
 rw[gJ];simp
theorem S4{i j:ah}:decide (V.str i=V.str j)=(i==j):=by
 rw[gJ];simp
theorem S2{i j:Array UInt8}:decide (V.iS i=V.iS j)=(i.toList==j.toList):=by
 rw[gJ];cases i;cases j;simp
section
variable{X:Cx}{a b c:bw}{ta tb tc:TE}{pos:b4}
theorem dS{pins:List (aa×aM)}{σ:St}{H:Hp}{s:ao}{Q:VK}{k k':Bool}(I:Inv X pins σ H s)(q:Q (.bl k) H)(e:k=k'):EP X pins σ Q (.bool k') s:=by
 subst e;exact⟨.bl k,H,I,rfl,q⟩
theorem cg:eZ X (hJ .Eq) DY:=by
 intro pins s σ H x y v u Q I rx ry h;obtain⟨hs,q⟩:=h;cases x with
 |aO=>
  cases rx;cases y with
  |aO=>cases ry;exact PySem.EqNone.eq_none_none (dS I q (by simp))
  |bl j=>cases ry;exact PySem.EqNone.eq_none_bool (dS I q (by simp))
  |int j=>obtain⟨t',rfl⟩:=ry;exact PySem.EqNone.eq_none_int (dS I q (by simp))
  |str j=>obtain⟨t',rfl⟩:=ry;exact PySem.EqNone.eq_none_str (dS I q (by simp))
  |_=>exact absurd (show false=true from hs) eX
 |bl i=>
  cases rx;cases y with
  |aO=>cases ry;exact PySem.EqNone.eq_bool_none (dS I q (by simp))
  |bl j=>cases ry;exact eq_bool (dS I q S1)
  |str j=>obtain⟨t',rfl⟩:=ry;exact PySem.EqMixed.eq_bool_str (dS I q (by simp))
  |_=>exact absurd (show false=true from hs) eX
 |int i=>
  obtain⟨t,rfl⟩:=rx;cases y with
  |aO=>cases ry;exact PySem.EqNone.eq_int_none (dS I q (by simp))
  |int j=>obtain⟨t',rfl⟩:=ry;exact eq_int (dS I q S3)
  |str j=>obtain⟨t',rfl⟩:=ry;exact PySem.EqMixed.eq_int_str (dS I q (by simp))
  |_=>exact absurd (show false=true from hs) eX
 |str i=>
  obtain⟨t,rfl⟩:=rx;cases y with
  |aO=>cases ry;exact PySem.EqNone.eq_str_none (dS I q (by simp))
  |bl j=>cases ry;exact PySem.EqMixed.eq_str_bool (dS I q (by simp))
  |int j=>obtain⟨t',rfl⟩:=ry;exact PySem.EqMixed.eq_str_int (dS I q (by simp))
  |str j=>obtain⟨t',rfl⟩:=ry;exact eq_str (dS I q S4)
  |_=>exact absurd (show false=true from hs) eX
 |iS i=>
  obtain⟨t,rfl⟩:=rx;cases y with
  |iS j=>obtain⟨t',rfl⟩:=ry;exact PySem.W.eq_bytes (dS I q S2)
  |_=>exact absurd (show false=true from hs) eX
 |_=>cases y<;>exact absurd (show false=true from hs) eX
theorem j5:eZ X (hJ .NotEq) sG:=by
 intro pins s σ H x y v u Q I rx ry h;obtain⟨hs,q⟩:=h;cases x with
 |aO=>
  cases rx;cases y with
  |aO=>cases ry;exact PySem.EqNone.ne_none_none (dS I q (by simp))
  |bl j=>cases ry;exact PySem.EqNone.ne_none_bool (dS I q (by simp))
  |int j=>obtain⟨t',rfl⟩:=ry;exact PySem.EqNone.ne_none_int (dS I q (by simp))
  |str j=>obtain⟨t',rfl⟩:=ry;exact PySem.EqNone.ne_none_str (dS I q (by simp))
  |_=>exact absurd (show false=true from hs) eX
 |bl i=>
  cases rx;cases y with
  |aO=>cases ry;exact PySem.EqNone.ne_bool_none (dS I q (by simp))
  |bl j=>cases ry;exact ne_bool (dS I q (congrArg not S1))
  |str j=>obtain⟨t',rfl⟩:=ry;exact PySem.EqMixed.ne_bool_str (dS I q (by simp))
  |_=>exact absurd (show false=true from hs) eX
 |int i=>
  obtain⟨t,rfl⟩:=rx;cases y with
  |aO=>cases ry;exact PySem.EqNone.ne_int_none (dS I q (by simp))
  |int j=>obtain⟨t',rfl⟩:=ry;exact ne_int (dS I q (congrArg not S3))
  |str j=>obtain⟨t',rfl⟩:=ry;exact PySem.EqMixed.ne_int_str (dS I q (by simp))
  |_=>exact absurd (show false=true from hs) eX
 |str i=>
  obtain⟨t,rfl⟩:=rx;cases y with
  |aO=>cases ry;exact PySem.EqNone.ne_str_none (dS I q (by simp))
  |bl j=>cases ry;exact PySem.EqMixed.ne_str_bool (dS I q (by simp))
  |int j=>obtain⟨t',rfl⟩:=ry;exact PySem.EqMixed.ne_str_int (dS I q (by simp))
  |str j=>obtain⟨t',rfl⟩:=ry;exact ne_str (dS I q (congrArg not S4))
  |_=>exact absurd (show false=true from hs) eX
 |iS i=>
  obtain⟨t,rfl⟩:=rx;cases y with
  |iS j=>obtain⟨t',rfl⟩:=ry;exact PySem.W.ne_bytes (dS I q (congrArg not S2))
  |_=>exact absurd (show false=true from hs) eX
 |_=>cases y<;>exact absurd (show false=true from hs) eX
theorem nU:eZ X (hJ .Lt) (j7 fun i j=> .bl (decide (i<j))):=DK fun Z Z Z Z Z Z Z q=>lt_int q
theorem sD:eZ X (hJ .LtE) (j7 fun i j=> .bl (decide (i<=j))):=DK fun Z Z Z Z Z Z Z q=>le_int q
theorem uO:eZ X (hJ .Gt) (j7 fun i j=> .bl (decide (j<i))):=DK fun Z Z Z Z Z Z Z q=>gt_int q
theorem alV:eZ X (hJ .GtE) (j7 fun i j=> .bl (decide (j<=i))):=DK fun Z Z Z Z Z Z Z q=>ge_int q
theorem j4:eZ X (hJ .Is) (fun x y H Q=>y=.aO/\Q (.bl (decide (x=.aO))) H):=by
 intro pins s σ H x y v u Q I rx ry h;obtain⟨rfl,q⟩:=h;cases ry;refine is_none_gen (dS I q ?_);cases x<;>first
  |(cases rx;rfl)
  |(obtain⟨t,rfl⟩:=rx;rfl)
theorem DN:eZ X (hJ .IsNot) (fun x y H Q=>y=.aO/\Q (.bl (!decide (x=.aO))) H):=by
 intro pins s σ H x y v u Q I rx ry h;obtain⟨rfl,q⟩:=h;cases ry;refine isnot_none_gen (dS I q ?_);cases x<;>first
  |(cases rx;rfl)
  |(obtain⟨t,rfl⟩:=rx;rfl)
theorem bp(b:bw){op:tM}(h:op≠.In:=by decide)(h2:op≠.NotIn:=by decide):vK op b=false:=by
 have e1:(op==CmpOp.In)=false:=by cases op<;>first|rfl|exact absurd rfl h
 have e2:(op==CmpOp.NotIn)=false:=by cases op<;>first|rfl|exact absurd rfl h2
 cases b<;>simp[vK,e1,e2]
theorem pf{op:tM}{r:R2}(ho:eZ X (hJ op) r)(ha:PE X a ta)(hb:PE X b tb)(hm:vK op b=false):PE X (.Compare a [op] [b] pos) (bG r ta tb):=by
 intro pins s σ H Q I h;exact wpAny_Compare1 (G7 ha hb I h fun v u s2 x y H2 I2 rx ry q=>ho pins s2 σ H2 x y v u Q I2 rx ry q) hm
def cb(t:TE):TT:=fun σ H Q=>t σ H fun x H'=>∃k,x=.bl k/\Q k H'
theorem bq{op:tM}{r:R2}(ho:eZ X (hJ op) r)(ha:PE X a ta)(hb:PE X b tb)(hm:vK op b=false):PT X (.Compare a [op] [b] pos) (cb (bG r ta tb)):=by
 intro pins s σ H Q I h;refine aaU (bo (ha pins s σ H _ I h) fun v s1 ⟨x,H1,I1,r1,q1⟩=>bo (hb pins s1 σ H1 _ I1 q1) fun u s2 ⟨y,H2,I2,r2,q2⟩=>bo (ho pins s2 σ H2 x y v u _ I2 r1 r2 q2) fun c s3 ⟨z,H3,I3,r3,k,e,q3⟩=>?_) hm;subst e;cases r3;exact pR ⟨H3,I3,q3⟩
def Yn(r r':R2)(ta tb tc:TE):TE:=fun σ H Q=>ta σ H fun x H1=>tb σ H1 fun y H2=>r x y H2 fun z H3=>∃k,z=.bl k/\(if k=true then tc σ H3 fun w' H4=>r' y w' H4 Q else Q (.bl false) H3)
theorem Mr{op uM:tM}{r r':R2}(ho:eZ X (hJ op) r)(iV:eZ X (hJ uM) r')(ha:PE X a ta)(hb:PE X b tb)(hc:PE X c tc)(hm:lastMarks [op,uM] [b,c]=false:=by with_unfolding_all rfl):PE X (.Compare a [op,uM] [b,c] pos) (Yn r r' ta tb tc):=by
 intro pins s σ H Q I h;refine Compare_chain (bo (ha pins s σ H _ I h) fun v s1 ⟨x,H1,I1,r1,q1⟩=>chain_link (bo (hb pins s1 σ H1 _ I1 q1) fun u s2 ⟨y,H2,I2,r2,q2⟩=>bo (ho pins s2 σ H2 x y v u _ I2 r1 r2 q2) fun d s3 ⟨z,H3,I3,r3,k,e,q3⟩=>?_)) hm;subst e;cases r3;refine pR ?_;cases k with
 |false=>exact ite_ff ⟨.bl false,H3,I3,rfl,q3⟩
 |true=>exact ite_tt (chain_last (bo (hc pins s3 σ H3 _ I3 q3) fun w' s4 ⟨z',H4,I4,r4,q4⟩=>iV pins s4 σ H4 y z' u w' Q I4 r2 r4 q4))
theorem amQ{op uM:tM}{r r':R2}(ho:eZ X (hJ op) r)(iV:eZ X (hJ uM) r')(ha:PE X a ta)(hb:PE X b tb)(hc:PE X c tc)(hm:lastMarks [op,uM] [b,c]=false:=by with_unfolding_all rfl):PT X (.Compare a [op,uM] [b,c] pos) (cb (Yn r r' ta tb tc)):=by
 intro pins s σ H Q I h;refine isTrue_chain (bo (ha pins s σ H _ I h) fun v s1 ⟨x,H1,I1,r1,q1⟩=>test_link (bo (hb pins s1 σ H1 _ I1 q1) fun u s2 ⟨y,H2,I2,r2,q2⟩=>bo (ho pins s2 σ H2 x y v u _ I2 r1 r2 q2) fun d s3 ⟨z,H3,I3,r3,k,e,q3⟩=>?_)) hm;subst e;cases r3;refine pR ?_;cases k with
 |false=>
  obtain⟨k',e',q'⟩:=q3;cases e';exact ite_ff ⟨H3,I3,q'⟩
 |true=>
  refine ite_tt (test_last (bo (hc pins s3 σ H3 _ I3 q3) fun w' s4 ⟨z',H4,I4,r4,q4⟩=>bo (iV pins s4 σ H4 y z' u w' _ I4 r2 r4 q4) fun d' s5 ⟨z2,H5,I5,r5,k2,e2,q5⟩=>?_));subst e2;cases r5;exact pR ⟨H5,I5,q5⟩
theorem xa:(sizeLine:Nat)<2^63:=by rw[jk];decide
theorem xl:eZ X (vM .Add) (fun x y H Q=>∃i j,x=.str i/\y=.str j/\i.length+j.length<=sizeLine/\Q (.str (i++j)) H):=by
 intro pins s σ H x y v u Q I rx ry h;obtain⟨i,j,rfl,rfl,hz,q⟩:=h;obtain⟨t,rfl⟩:=rx;obtain⟨t',rfl⟩:=ry;exact add_str (fun t' tk=>⟨.str (i++j),H,I.tok _,⟨_,rfl⟩,q⟩) hz
theorem vals1{x:V}{us:List af}(r:Vals [x] us):∃u,us=[u]/\RelV x u:=by
 cases r with
 |cons r1 r2=>cases r2;exact⟨_,rfl,r1⟩
theorem vals2{x y:V}{us:List af}(r:Vals [x,y] us):∃u w',us=[u,w']/\RelV x u/\RelV y w':=by
 cases r with
 |cons r1 r2=>
  cases r2 with
  |cons r3 r4=>cases r4;exact⟨_,_,rfl,r1,r3⟩
theorem ab6(hc:X.calm=true):ma X (.builtin "min") (fun xs H Q=>∃i j,xs=[.int i,.int j]/\Q (.int (if j<i then j else i)) H):=by
 intro pins s σ H xs us Q I r h;obtain⟨i,j,rfl,q⟩:=h;obtain⟨u,w',rfl,⟨t,rfl⟩,⟨t',rfl⟩⟩:=vals2 r;refine min_two_ints (I.ok.hd hc) fun h' tk k=>⟨_,H,I.kept k,?_,q⟩;by_cases hj:j<i
 .rw[if_pos hj,if_pos hj];exact⟨_,rfl⟩
 .rw[if_neg hj,if_neg hj];exact⟨_,rfl⟩
theorem ab8:ma X (.type "str") (fun xs H Q=>∃i,xs=[.int i]/\i.natAbs.log2<1920/\Q (.str (toString i)) H):=by
 intro pins s σ H xs us Q I r h;obtain⟨i,rfl,hz,q⟩:=h;obtain⟨u,rfl,t,rfl⟩:=vals1 r;exact PySem.P.str_of_int hz ⟨.str _,H,I.tok _,⟨_,rfl⟩,q⟩
theorem ab7:ma X (.builtin "ord") (fun xs H Q=>∃x,xs=[.str x]/\x.length=1/\Q (.int (x.cps.getD 0 0:Nat)) H):=by
 intro pins s σ H xs us Q I r h;obtain⟨x,rfl,hz,q⟩:=h;obtain⟨u,rfl,t,rfl⟩:=vals1 r;exact ord_of_one hz ⟨.int _,H,I.tok _,⟨_,rfl⟩,q⟩
end
structure tI(h:aG)(x dx C:aa)(mA:ah->Option af):Prop where
 obj:h.get? x=some (tR C dx)
 ns:h.Ns1 dx mA
 ne:dx≠x
theorem aiS{h:aG}{dx:aa}{mA:ah->Option af}(n:h.Ns1 dx mA):∃od,h.get? dx=some od/\∀name,GB name od=some (mA name):=by
 obtain⟨o,es,ep,ho,hd,hk,Z,hm⟩:=n;refine⟨o,ho,fun name=>?_⟩;have e:=hm name;unfold vO findBy at e;rw[<-Array.find?_toList]at e;unfold GB;rw[hd];dsimp only;split
 .rename_i y q;rw[q]at e;exact congrArg some e
 .rename_i q;rw[q]at e;have a:es.toList.any (·.refKey)=false:=by
   rw[Zd];intro y hy;obtain⟨z,t,qf⟩:=hk y (Qj.mp hy);simp[DictEntry.refKey,qf]
  have a':¬es.toList.any (·.refKey)=true:=by rw[a];exact eX
  rw[if_neg a'];exact congrArg some e
theorem tI.look{h:aG}{x dx C:aa}{mA:ah->Option af}(I:tI h x dx C mA):∃od,PySem.W.InstAt h x (tR C dx) C (some od)/\∀name,GB name od=some (mA name):=let ⟨od,ho,hl⟩:=aiS I.ns
 ⟨od,⟨I.obj,rfl,rfl,ho⟩,hl⟩
section
variable{prog:aV}{w:aQ}{A:bO}{E:af->ao->Prop}{s:ao}{K:aK}{x dx C f:aa}{mA:ah->Option af}{name:ah}{v:af}
theorem get_map{expr:Bool}{Q:af->ao->Prop}(X:K.In s.heap)(I:tI s.heap x dx C mA)(hg:BF K C name=true)(hh:GA K C=true)(ha:lx K (.ref C) name=some none)(hv:mA name=some v)(Di:aaK v=true)(h:Q v {s with toks:=s.toks+1}):aE (model prog w) A (BH (.ref x) name expr) Q E s:=by
 obtain⟨od,J,hl⟩:=I.look;exact PySem.W.get_value X J (Rx hg).1 (PySem.W.findObj_own hh ha rfl (by rw[hl,hv])) Di h
theorem afx{pl:gM Bool}{Q:af×List af->ao->Prop}(X:K.In s.heap)(I:tI s.heap x dx C mA)(hg:BF K C name=true)(hf:lx K (.ref C) name=some (some (.ref f)))(ht:pN K (.ref f)=true)(hv:mA name=none)(h:Q (.ref f,[.ref x]) s):aE (model prog w) A (yE (.ref x) name pl) Q E s:=by
 obtain⟨od,J,hl⟩:=I.look;exact PySem.W.method_fn X J (Rx hg).1 (Rx hg).2 hf (beq_iff_eq.mp ht) (by show(GB name od).map (·.isSome)=some false;rw[hl,hv];rfl) h
theorem an6{ns:List ah}{Q:Unit->ao->Prop}(X:K.In s.heap)(I:tI s.heap x dx C mA)(hs:lx K (.ref C) "__setattr__"=some (some (.builtin "object.__setattr__")))(hp:Ry K C=true)(ht:RA K C name=some none)(hh:GA K C=true)(hw:RC mA ns)(hsz:ns.length<=sizeLine)(h:∀h',tI h' x dx C (fun y=>if y=name then some v else mA y)->oC dx s.heap h'->Q () {s with heap:=h',toks:=s.toks+2}):aE (model prog w) A (setAttr (.ref x) name v) Q E s:=by
 obtain⟨od,J,hl⟩:=I.look;refine PySem.W.set_plain X J hs (PySem.W.osa_open (s:={s with toks:=s.toks+1}) (r:=none) X J hp ht fun b=>?_);obtain⟨cd,hc,Ks⟩:=PySem.W.any_some hh;have hx:s.heap.get? x=some ⟨.ref C,some dx,.plain,#[]⟩:=I.obj;refine aB (bz (aB (aB (wpAny_loadPart hx (aB (PySem.W.Looks.here (s:={s with toks:=s.toks+1}) (PySem.W.looks_clsIn X hc) ?_))))));rw[Ks];refine bz (a:=some dx) (aB (bz (aB ?_)));refine wpAny_nsSet1 (s:={s with toks:=s.toks+1}) I.ns fun h' jw lW=>?_;obtain⟨oD,esD,epD,KS,Kt,Ko⟩:=jw.count (aaO name v hw);refine aB (wpAny_lookBehind KS (by rw[Kt];exact pastItsLine_dict (fA Ko (by rw[cy];lia))) ?_);exact bz (h _ ⟨(lW.2 _ (Ne.symm I.ne)).trans I.obj,jw,I.ne⟩ lW)
theorem ai3{R:tO->ao->Prop}{vs:List af}{kw:List (ah×af)}(X:K.In s.heap)(hm:GC K C=true)(hi:lx K (.ref C) "__init__"=some (some (.ref f)))(hf:aaN K (.ref f)=some (.type "function"))(h:nj (model prog w) (A.under (.builtin "type.__call__" ⟨.ref C::vs,kw⟩)) (.call (.ref f) ⟨.ref (s.heap.objs.size+1)::vs,kw⟩) (PySem.W.InitBack (s.heap.objs.size+1) R) {s with heap:=(s.heap.push qW).push (tR C s.heap.objs.size)}):nj (model prog w) A (.call (.ref C) ⟨vs,kw⟩) R s:=by
 obtain⟨hh,g,d,t,os⟩:=s;exact PySem.W.make_core (PySem.W.makes_of X hm) (PySem.W.looks_findIn X hi) (fun self=>PySem.W.bind_fn X self hf) (.inl rfl) h
end
def fh(f:ah)(v:V):List (ah×V)->List (ah×V)
 |[]=>[(f,v)]
 |(g,x)::r=>if g=f then(g,v)::r else(g,x)::fh f v r
theorem VF(f g:ah)(v:V):∀fs:List (ah×V),(fh f v fs).lookup g=if g=f then some v else fs.lookup g
 |[]=>by
  show tE g [(f,v)]=_;by_cases h:g=f
  .have hb:(g==f)=true:=beq_iff_eq.mpr h;simp only[tE,hb,if_pos h]
  .have hb:(g==f)=false:=beq_eq_false_iff_ne.mpr h;simp only[tE,hb,if_neg h]
 |(k,x)::r=>by
  have ih:=VF f g v r;rw[show fh f v ((k,x)::r)=(if k=f then(k,v)::r else(k,x)::fh f v r)from rfl];by_cases hk:k=f
  .rw[if_pos hk];by_cases h:g=k
   .have hb:(g==k)=true:=beq_iff_eq.mpr h;simp only[tE,hb,if_pos (h.trans hk)]
   .have hb:(g==k)=false:=beq_eq_false_iff_ne.mpr h;simp only[tE,hb,if_neg (fun e:g=f=>h (e.trans hk.symm))]
  .rw[if_neg hk];by_cases h:g=k
   .have hb:(g==k)=true:=beq_iff_eq.mpr h;simp only[tE,hb,if_neg (fun e:g=f=>hk (h.symm.trans e))]
   .have hb:(g==k)=false:=beq_eq_false_iff_ne.mpr h;simp only[tE,hb];exact ih
theorem Lw(f:ah)(v:V):∀fs:List (ah×V),f∈(fh f v fs).map (·.1)/\∀g,g∈fs.map (·.1)->g∈(fh f v fs).map (·.1)
 |[]=>⟨by simp[fh],fun g h=>by simp at h⟩
 |(k,x)::r=>by
  obtain⟨i1,i2⟩:=Lw f v r;rw[show fh f v ((k,x)::r)=(if k=f then(k,v)::r else(k,x)::fh f v r)from rfl];by_cases hk:k=f
  .rw[if_pos hk];subst hk;exact⟨by simp,fun g h=>by simpa using h⟩
  .rw[if_neg hk];refine⟨?_,fun g h=>?_⟩
   .rw[dY];exact el _ i1
   .rw[dY]at h ⊢;rcases bX.mp h with e|e
    .exact bX.mpr (.inl e)
    .exact el _ (i2 g e)
theorem VB(f:ah)(v:V):∀fs:List (ah×V),(fh f v fs).length<=fs.length+1
 |[]=>by simp[fh]
 |(k,x)::r=>by
  have ih:=VB f v r;rw[show fh f v ((k,x)::r)=(if k=f then(k,v)::r else(k,x)::fh f v r)from rfl];by_cases hk:k=f
  .rw[if_pos hk,cy,cy];lia
  .rw[if_neg hk,cy,cy];lia
theorem fP.some_of{v:V}{o:Option af}(r:fP (some v) o):∃u,o=some u/\RelV v u:=by
 cases o with
 |none=>exact(show False from r).elim
 |some u=>exact⟨u,rfl,r⟩
theorem fP.none_of{o:Option af}(r:fP none o):o=none:=by
 cases o with
 |none=>rfl
 |some u=>exact(show False from r).elim
theorem Um{v:V}{u:af}(r:RelV v u):aaK u=true:=by
 cases v with
 |aO=>cases (show u=Value.none from r);rfl
 |bl b=>cases (show u=tP b from r);rfl
 |int i=>obtain⟨t,e⟩:=(show∃t,u=ll i t from r);cases e;rfl
 |str x=>obtain⟨t,e⟩:=(show∃t,u=Value.str x t from r);cases e;rfl
 |iS b=>obtain⟨t,e⟩:=(show∃t,u=Value.bytes b t from r);cases e;rfl
 |gh b=>obtain⟨t,e⟩:=(show∃t,u=Value.float b t from r);cases e;rfl
 |ref a=>cases (show u=dm a from r);rfl
 |ty n=>cases (show u=ml n from r);rfl
section
variable{P:aV}{w:aQ}{H H':Hp}{h h':aG}{a C dx:aa}{fs wD:List (ah×V)}
theorem Lm(aT:c9 P w H h)(e:H a=some (.ins C dx fs)):∃mA,tI h a dx C mA/\(∀f,fP (fs.lookup f) (mA f))/\RC mA (fs.map (·.1))/\fs.length<=1000/\H dx=some (.own a):=by
 obtain⟨d,z,ne,ob,mA,n,r,q⟩:=(show eR P w H h a (.ins C dx fs)from aT a _ e);exact⟨mA,⟨ob,n,ne⟩,r,q,z,d⟩
end
structure jG(K:aK)(C:aa):Prop where
 pg:BF K C hG=true
 hd:GA K C=true
 po:Ry K C=true
 sa:lx K (.ref C) "__setattr__"=some (some (.builtin "object.__setattr__"))
theorem jG.get{K:aK}{C:aa}(c:jG K C)(f:ah):BF K C f=true:=c.pg
def pI(K:aK)(C:aa)(f:ah):Prop:=lx K (.ref C) f=some none
theorem pI.aoY{K:aK}{C:aa}{f:ah}(n:pI K C f):RA K C f=some none:=by
 unfold RA;rw[show lx K (.ref C) f=some none from n];rfl
structure Meth(K:aK)(C:aa)(m:ah)(f:aa):Prop where
 at_:lx K (.ref C) m=some (some (.ref f))
 fn:pN K (.ref f)=true
 kp:lz K (.ref f)=true
section
variable{X:Cx}{pins:List (aa×aM)}{σ:St}{H:Hp}{s:ao}{a C dx:aa}{fs:List (ah×V)}{f:ah}{v:V}{A:bO}{E:af->ao->Prop}
theorem Uc{b:Bool}{Q:af->ao->Prop}(I:Inv X pins σ H s)(e:H a=some (.ins C dx fs))(c:jG X.K C)(n:pI X.K C f)(l:fs.lookup f=some v)(h:∀u s',Inv X pins σ H s'->RelV v u->Q u s'):aE (model X.prog X.w) A (BH (.ref a) f b) Q E s:=by
 obtain⟨mA,O,r,Z,Z,Z⟩:=Lm I.aT e;obtain⟨u,hu,ru⟩:=fP.some_of (v:=v) (o:=mA f) (by rw[<-l];exact r f);exact get_map I.fK O (c.get f) c.hd n hu (Um ru) (h u _ (I.tok _) ru)
theorem Ud{m:ah}{g:aa}{pl:gM Bool}{Q:af×List af->ao->Prop}(I:Inv X pins σ H s)(e:H a=some (.ins C dx fs))(c:jG X.K C)(k:Meth X.K C m g)(l:fs.lookup m=none)(h:Q (.ref g,[.ref a]) s):aE (model X.prog X.w) A (yE (.ref a) m pl) Q E s:=by
 obtain⟨mA,O,r,Z,Z,Z⟩:=Lm I.aT e;have hn:mA m=none:=fP.none_of (by rw[<-l];exact r m);exact afx I.fK O (c.get m) k.at_ k.fn hn h
theorem XW{y:V}{u:af}{Q:Unit->ao->Prop}(I:Inv X pins σ H s)(e:H a=some (.ins C dx fs))(c:jG X.K C)(n:pI X.K C f)(hl:fs.length<1000)(ry:RelV y u)(h:∀s',Inv X pins σ (upd H a (.ins C dx (fh f y fs))) s'->Q () s'):aE (model X.prog X.w) A (setAttr (.ref a) f u) Q E s:=by
 obtain⟨mA,O,r,wi,Z,ho⟩:=Lm I.aT e;have hz:(fs.map (·.1)).length<=sizeLine:=by rw[bC,jk];lia
 refine an6 I.fK O c.sa c.po n.aoY c.hd wi hz fun h' O' sb=>h _ ?_;have hd:∃o,h'.get? dx=some o:=let ⟨o,_,_,e',_⟩:=O'.ns;⟨o,e'⟩
 refine I.write (x:=a) (e:=dx) (by rw[e];exact True.intro) (.inr ho) (fun b q hb z=>(sb.2 b hb).trans z) hd ?_;refine⟨by rw[ba O.ne];exact ho,?_,O.ne,O'.obj,_,O'.ns,fun g=>?_,fun g hg=>?_⟩
 .have:=VB f y fs;lia
 .show fP ((fh f y fs).lookup g) (if g=f then some u else mA g);rw[VF];by_cases q:g=f
  .rw[if_pos q,if_pos q];exact ry
  .rw[if_neg q,if_neg q];exact r g
 .by_cases q:g=f
  .rw[q];exact(Lw f y fs).1
  .refine(Lw f y fs).2 g (wi g fun z=>hg ?_);show(if g=f then some u else mA g)=none;rw[if_neg q];exact z
theorem Inv.made(I:Inv X pins σ H s):Inv X pins σ (upd (upd H s.heap.objs.size (.own (s.heap.objs.size+1))) (s.heap.objs.size+1) (.ins C s.heap.objs.size [])) {s with heap:=(s.heap.push qW).push (tR C s.heap.objs.size)}:=by
 have e1:(s.heap.push qW).get? s.heap.objs.size=some qW:=dZ s.heap rfl;have e2:((s.heap.push qW).push (tR C s.heap.objs.size)).get? (s.heap.objs.size+1)=some (tR C s.heap.objs.size):=by
  have:=dZ (s.heap.push qW) (o:=tR C s.heap.objs.size) rfl;rwa[kf]at this
 have e3:(s.heap.push qW).Ns s.heap.objs.size (fun Z=>none):=⟨qW,#[],_,e1,rfl,(fun e he=>absurd he (by simp)),fun Z=>rfl⟩;have I1:=I.laid (a:=s.heap.objs.size) (o:=.own (s.heap.objs.size+1)) (h':=s.heap.push qW) (t':=s.toks) (fun b u q=>cD _ q) (cA _) ⟨_,e1⟩;refine I1.laid (a:=s.heap.objs.size+1) (o:=.ins C s.heap.objs.size []) (t':=s.toks) (fun b u q=>cD _ q) (yj (kf _ _)) ?_;have ne:s.heap.objs.size≠s.heap.objs.size+1:=dR (yk _);refine⟨by rw[ba ne,aD],dJ _,ne,e2,fun Z=>none,(aaq e3).at fun o q=>cD _ q,fun Z=>True.intro,fun y hy=>absurd rfl hy⟩
theorem So{prog:aV}{w:aQ}{env:dM}{e:bw}{f:ah}{pos:b4}{s:ao}{Q:af->ao->Prop}(hb:mn e f env (eval e env)=eval e env)(h:aE (model prog w) A (eval e env) (fun o s₁=>aE (model prog w) A (BH o f true) Q E s₁) E s):aE (model prog w) A (eval (.Attribute e f pos) env) Q E s:=Attribute_any_ h (by rw[arm_eval_Attribute,hb])
end
def iK(K:aK)(ta:TE)(f:ah):TE:=fun σ H Q=>ta σ H fun x H1=>∃a C dx fs v,x=.ref a/\H1 a=some (.ins C dx fs)/\jG K C/\pI K C f/\fs.lookup f=some v/\Q v H1
def Xr(K:aK)(ta tv:TE)(f:ah):TS:=fun D σ H=>tv σ H fun y H1=>ta σ H1 fun x H2=>∃a C dx fs,x=.ref a/\H2 a=some (.ins C dx fs)/\jG K C/\pI K C f/\fs.length<1000/\D.nx σ (upd H2 a (.ins C dx (fh f y fs)))
def Fx(X:Cx)(op:Bw)(rd:V->V->Hp->VK->Prop):Prop:=∀(pins:List (aa×aM))(s:ao)(σ:St)(H:Hp)(x y:V)(u v:af)(Q:VK),Inv X pins σ H s->RelV x u->RelV y v->rd x y H Q->aE (model X.prog X.w) X.A (inplaceOp op u v) (EP X pins σ Q) X.xe s
def anv(K:aK)(ta tv:TE)(rd:V->V->Hp->VK->Prop)(f:ah):TS:=fun D σ H=>ta σ H fun x H1=>∃a C dx fs v,x=.ref a/\H1 a=some (.ins C dx fs)/\jG K C/\pI K C f/\fs.lookup f=some v/\tv σ H1 fun y H2=>rd v y H2 fun z H3=>∃Cv wD,H3 a=some (.ins C Cv wD)/\wD.length<1000/\D.nx σ (upd H3 a (.ins C Cv (fh f z wD)))
section
variable{X:Cx}{o e value:bw}{f:ah}{pos pos' YE:b4}{ta tv:TE}
theorem aN(he:PE X e ta)(hb:mn e f X.env (eval e X.env)=eval e X.env):PE X (.Attribute e f pos) (iK X.K ta f):=by
 intro pins s σ H Q I h;refine So hb (bo (he pins s σ H _ I h) fun u s1 ⟨x,H1,I1,rx,a,C,dx,fs,v,ex,ea,c,n,l,q⟩=>?_);subst ex;obtain rfl:u=dm a:=rx;exact Uc I1 ea c n l fun u' s2 I2 ru=>⟨v,H1,I2,ru,q⟩
theorem fg(ha:PE X o ta)(hv:PE X value tv)(hs:vS value (some (.Attribute o f pos')) pos.line X.env=pure false):PS X (.Assign [.Attribute o f pos'] value pos) (Xr X.K ta tv f):=by
 intro pins s σ H D I h;refine RL (bo (hv pins s σ H _ I h) fun u s1 ⟨y,H1,I1,ry,q⟩=>bo (ha pins s1 σ H1 _ I1 q) fun ov s2 ⟨x,H2,I2,rx,a,C,dx,fs,ex,ea,c,n,l,q2⟩=>?_) hs;subst ex;obtain rfl:ov=dm a:=rx;exact XW I2 ea c n l ry fun s3 I3=>⟨σ,_,I3,q2⟩
theorem xu{op:Bw}{rd:V->V->Hp->VK->Prop}(ha:PE X o ta)(hv:PE X value tv)(hop:Fx X op rd):PS X (.AugAssign (.Attribute o f YE) op value pos) (anv X.K ta tv rd f):=by
 intro pins s σ H D I h;refine wpAny_AugAssign_AttributeAny (bo (ha pins s σ H _ I h) fun ov s1 ⟨x,H1,I1,rx,a,C,dx,fs,v,ex,ea,c,n,l,q⟩=>?_);subst ex;obtain rfl:ov=dm a:=rx;refine Uc I1 ea c n l fun u s2 I2 ru=>bo (hv pins s2 σ H1 _ I2 q) fun w3 s3 ⟨y,H2,I3,ry,q3⟩=>bo (hop pins s3 σ H2 v y u w3 _ I3 ru ry q3) fun w4 s4 ⟨z,H3,I4,rz,Cv,wD,ea',l',q4⟩=>?_;exact XW I4 ea' c n l' rz fun s5 I5=>⟨σ,_,I5,q4⟩
def amU:V->V->Hp->VK->Prop:=fun x y H Q=>∃i j,x=.int i/\y=.int j/\Q (.int (i+j)) H
def am1:V->V->Hp->VK->Prop:=fun x y H Q=>∃i j,x=.int i/\y=.int j/\Q (.int (i-j)) H
theorem zT:Fx X .Add amU:=by
 rintro pins s σ H x y u v Q I rx ry ⟨i,j,rfl,rfl,q⟩;obtain⟨t,rfl⟩:=(show∃t,u=ll i t from rx);obtain⟨t',rfl⟩:=(show∃t',v=ll j t' from ry);exact Z4 ⟨.int (i+j),H,I.tok _,⟨_,rfl⟩,q⟩
theorem aib:Fx X .Sub am1:=by
 rintro pins s σ H x y u v Q I rx ry ⟨i,j,rfl,rfl,q⟩;obtain⟨t,rfl⟩:=(show∃t,u=ll i t from rx);obtain⟨t',rfl⟩:=(show∃t',v=ll j t' from ry);exact PyProof.Rows.isub_int ⟨.int (i-j),H,I.tok _,⟨_,rfl⟩,q⟩
end
section
variable{X:Cx}{pins:List (aa×aM)}{σ:St}{H:Hp}{s:ao}{A:bO}{E:af->ao->Prop}{Q:af->ao->Prop}{c:af}{b:Bool}
end
structure bb(k:Nat)(A:bO):Prop where
 hd:A.handled=none
 dp:A.depth+3*k+5<RN
 un:A.units+16*k+200<oE
theorem bb.mono{j k:Nat}{A:bO}(r:bb k A)(h:j<=k):bb j A:=⟨r.hd,by have:=r.dp;lia,by have:=r.un;lia⟩
theorem bb.deeper{k:Nat}{A:bO}(r:bb (k+1) A)(env:dM):bb k (A.deeper env):=⟨r.hd,by have:=r.dp;show A.depth+1+3*k+5<_;lia,by have:=r.un;show A.units+3+16*k+200<_;lia⟩
theorem ai2{A:bO}{C:aa}{us:List af}{kw:List (ah×af)}:(A.under (.builtin "type.__call__" ⟨.ref C::us,kw⟩)).depth=A.depth+1:=by
 first|rfl|simp[Q4,Code.weight,Code.isCreation,Code.isGuard,Code.isCaller,Code.frames,Q7,guardIds]
theorem ai4{A:bO}{C:aa}{us:List af}{kw:List (ah×af)}:(A.under (.builtin "type.__call__" ⟨.ref C::us,kw⟩)).units=A.units+1:=by
 first|rfl|simp[Q4,Code.cUnits,Code.frames,Q7]
theorem bb.make{k:Nat}{A:bO}(r:bb (k+1) A)(C:aa)(us:List af)(kw:List (ah×af)):bb k (A.under (.builtin "type.__call__" ⟨.ref C::us,kw⟩)):=⟨r.hd,by have:=r.dp;rw[ai2];lia,by have:=r.un;rw[ai4];lia⟩
theorem bb.depth{k:Nat}{A:bO}(r:bb k A):A.depth<RN:=by have:=r.dp;lia
theorem bb.units{k:Nat}{A:bO}(r:bb k A):A.units+64<oE:=by have:=r.un;lia
def dk:TA:=fun Z H Q=>Q [] H
def bQ(ta:TE)(tr:TA):TA:=fun σ H Q=>ta σ H fun x H1=>tr σ H1 fun xs H2=>Q (x::xs) H2
section
variable{X:Cx}{e:bw}{es:List bw}{te:TE}{t:TA}{pos:b4}
theorem aj:PA X [] dk:=fun Z Z Z Z H Q I h=>vE ⟨[],H,I,.nil,h⟩
theorem ai(ha:PE X e te)(hr:PA X es t)(hs:b5 (e::es) X.env=(false,eval e X.env)::b5 es X.env:=by rfl):PA X (e::es) (bQ te t):=by
 intro pos pins s σ H Q I h;rw[hs];show aE _ _ (spliced ((false,eval e X.env)::gq pos (b5 es X.env))) _ _ s;refine qR (bo (ha pins s σ H _ I h) fun u s1 ⟨x,H1,I1,r1,q1⟩=>?_);exact bo (hr pos pins s1 σ H1 _ I1 q1) fun us s2 ⟨xs,H2,I2,r2,q2⟩=>⟨x::xs,H2,I2,.cons r1 r2,q2⟩
def Yu(t:TA):TE:=fun σ H Q=>t σ H fun xs H1=>xs.length<=sizeLine/\∀p,H1 p=none->Q (.ref p) (upd H1 p (.tup xs))
def Yp(t:TA):TE:=fun σ H Q=>t σ H fun xs H1=>xs.length<=sizeLine/\∀p,H1 p=none->Q (.ref p) (upd H1 p (.lst xs))
theorem Aq{x1}(h:PA X es t):PE X (.Tuple es x1 pos) (Yu t):=by
 intro pins s σ H Q I hq;refine wpAny_Tuple_spliced (bo (h pos pins s σ H _ I hq) fun us s1 ⟨xs,H1,I1,r,z,q⟩=>⟨by rw[<-r.length];exact z,?_⟩);have hf:H1 s1.heap.objs.size=none:=I1.aT.fresh (cA _);refine⟨.ref s1.heap.objs.size,upd H1 s1.heap.objs.size (.tup xs),I1.laid (t':=s1.toks) (fun b u e=>cD _ e) (cA _) ?_,rfl,q _ hf⟩;exact⟨z,us,r,⟨_,dZ _ rfl,rfl,_,rfl⟩⟩
theorem cv(h:PA X es t):PE X (.List es pos) (Yp t):=by
 intro pins s σ H Q I hq;refine wpAny_List_spliced (bo (h pos pins s σ H _ I hq) fun us s1 ⟨xs,H1,I1,r,z,q⟩=>⟨by rw[<-r.length];exact z,?_⟩);have hf:H1 s1.heap.objs.size=none:=I1.aT.fresh (cA _);refine⟨.ref s1.heap.objs.size,upd H1 s1.heap.objs.size (.lst xs),I1.laid (t':=s1.toks) (fun b u e=>cD _ e) (cA _) ?_,rfl,q _ hf⟩;exact⟨z,us,0,r,dZ _ rfl⟩
end
abbrev Sp:=List V->Hp->VK->XK->Prop
abbrev f7:=List dM->Hp->ao->XK->af->ao->Prop
structure tp(P:aV)(w:aQ)(K:aK)(mg:ah->Option af)(base:aG)(A:bO)(outer:List dM)(s:ao)(H:Hp):Prop where
 frames:A.frames=some outer
 mod:Mod K mg base
 bs:∀b o,base.get? b=some o->s.heap.get? b=some o/\H b=none
 mG:base.objs.size<=s.heap.objs.size
 jW:s.heap.FunFrames base outer
 oR:∀b∈gy outer,H b=none
 aT:c9 P w H s.heap
 bare:qP s.gens
def CE(outer:List dM)(P:aV)(w:aQ)(H:Hp)(s:ao)(Q:VK)(u:af)(s':ao):Prop:=∃v H',s'.os=s.os/\qP s'.gens/\Un (gy outer) [] H H' s.heap s'.heap/\c9 P w H' s'.heap/\RelV v u/\Q v H'
def CR(CX:f7)(outer:List dM)(P:aV)(w:aQ)(H:Hp)(s:ao)(Q:VK)(E:XK)(r:tO)(s':ao):Prop:=match r with
 | .ok (.ret u)=>CE outer P w H s Q u s'
 | .ok _=>False
 | .error e=>CX outer H s E e s'
structure bh(P:aV)(w:aQ)(K:aK)(mg:ah->Option af)(base:aG)(CX:f7)(k:Nat)(f:aa)(fd:bu)(ps:List ah)(sp:Sp):Prop where
 len:∀vs H Q E,sp vs H Q E->vs.length=ps.length
 run:∀(A:bO)(outer:List dM)(s:ao)(H:Hp)(args:Args)(us:List af)(vs:List V)(Q:VK)(E:XK),bb k A->tp P w K mg base A outer s H->vD s fd args (ps.zip us)->Vals vs us->sp vs H Q E->
  nj (model P w) A (.call (.ref f) args) (CR CX outer P w H s Q E) s
theorem bh.mono{P:aV}{w:aQ}{K:aK}{mg:ah->Option af}{base:aG}{CX:f7}{j k:Nat}{f:aa}{fd:bu}{ps:List ah}{sp:Sp}(F:bh P w K mg base CX j f fd ps sp)(h:j<=k):bh P w K mg base CX k f fd ps sp:=⟨F.len,fun A outer s H args us vs Q E hr=>F.run A outer s H args us vs Q E (hr.mono h)⟩
theorem tp.make{P:aV}{w:aQ}{K:aK}{mg:ah->Option af}{base:aG}{A:bO}{outer:List dM}{s:ao}{H:Hp}(e:tp P w K mg base A outer s H)(C:aa)(us:List af)(kw:List (ah×af)):tp P w K mg base (A.under (.builtin "type.__call__" ⟨.ref C::us,kw⟩)) outer s H:=⟨by first|exact e.frames|(simpa[Q4,Code.envs,Q7,pushEnvs]using e.frames),e.mod,e.bs,e.mG,e.jW,e.oR,e.aT,e.bare⟩
section
variable{X:Cx}{pins:List (aa×aM)}{σ:St}{H:Hp}{s s':ao}
theorem Inv.Tn(I:Inv X pins σ H s):tp X.prog X.w X.K X.mg X.base X.A X.stack s H:=⟨I.ok.frames,I.ok.mod,I.bs,fA I.ok.mG I.sz,I.stack,I.AX,I.aT,I.bare⟩
theorem Inv.after{Q:VK}{u:af}(I:Inv X pins σ H s)(h:CE X.stack X.prog X.w H s Q u s'):EP X pins σ Q u s':=by
 obtain⟨v,H',os,bare,un,aT,r,q⟩:=h;obtain⟨hh,g,d,t,Am⟩:=s';obtain rfl:Am=s.os:=os;exact⟨v,H',I.call (h':=hh) (g':=g) (d':=d) (t':=t) (ch:=[]) un aT bare (fun b z=>absurd z (by simp)),r,q⟩
end
def aoE(sp:Sp)(fT:List V)(E:XK)(t:TA):TE:=fun σ H Q=>t σ H fun vs H1=>sp (vs++fT) H1 Q E
def Yr(C:aa)(m:ah)(sp:Sp)(fT:List V)(E:XK)(ta:TE)(t:TA):TE:=fun σ H Q=>ta σ H fun x H1=>∃a dx fs,x=.ref a/\H1 a=some (.ins C dx fs)/\fs.lookup m=none/\t σ H1 fun vs H2=>sp (x::(vs++fT)) H2 Q E
def Yq(C:aa)(sp:Sp)(fT:List V)(E:XK)(t:TA):TE:=fun σ H Q=>t σ H fun vs H1=>∀x dx,H1 x=none->H1 dx=none->dx≠x->sp (.ref x::(vs++fT)) (upd (upd H1 dx (.own x)) x (.ins C dx [])) (fun v H2=>v=.aO/\Q (.ref x) H2) E
def Binds(K:aK)(fd:bu)(ps:List ah)(ds:List af):Prop:=∀(s:ao)(us:List af),K.In s.heap->(us++ds).length=ps.length->vD s fd ⟨us,[]⟩ (ps.zip (us++ds))
theorem Binds.all{K:aK}{fd:bu}{ps:List ah}(h:∀us:List af,us.length=ps.length->BG fd ⟨us,[]⟩=pure (ps.zip us)):Binds K fd ps []:=fun s us Z hl=>by
 rw[jI]at hl ⊢;exact .of_eq (h us hl)
def Passes(CX:f7)(X:Cx)(E:XK):Prop:=∀(pins:List (aa×aM))(σ:St)(H:Hp)(s:ao)(e:af)(s':ao),Inv X pins σ H s->CX X.stack H s E e s'->X.xe e s'
section
variable{X:Cx}{CX:f7}{k:Nat}{f C:aa}{fd:bu}{ps:List ah}{sp:Sp}{fT:List V}{ds:List af}{E:XK}{x m:ah}{p pos apos:b4}{e o:bw}{es:List bw}{ta:TE}{t:TA}
theorem MS{pins:List (aa×aM)}{σ:St}{H:Hp}{s:ao}{Q:VK}{us:List af}{vs:List V}(F:bh X.prog X.w X.K X.mg X.base CX k f fd ps sp)(hr:bb k X.A)(hb:Binds X.K fd ps ds)(hd:Vals fT ds)(hx:Passes CX X E)(I:Inv X pins σ H s)(r:Vals vs us)(h:sp (vs++fT) H Q E):aE (model X.prog X.w) X.A (call (.ref f) us) (EP X pins σ Q) X.xe s:=by
 have r2:Vals (vs++fT) (us++ds):=r.append hd;have hl:(us++ds).length=ps.length:=by rw[<-r2.length];exact F.len _ _ _ _ h
 refine GO (yC (F.run X.A X.stack s H ⟨us,[]⟩ (us++ds) (vs++fT) Q E hr I.Tn (hb s us I.fK hl) r2 h) fun r s' hq=>?_);cases r with
 |error e=>exact hx pins σ H s e s' I hq
 |ok fl=>
  cases fl with
  |ret u=>exact I.after hq
  |next=>exact fN hq
  |brk=>exact fN hq
  |cont=>exact fN hq
theorem amj(F:bh X.prog X.w X.K X.mg X.base CX k f fd ps sp)(hr:bb k X.A)(hg:Gl X x)(hm:X.mg x=some (.ref f))(hk:lz X.K (.ref f)=true)(hb:Binds X.K fd ps ds)(hd:Vals fT ds)(hx:Passes CX X E)(ha:PA X (e::es) t)(gU:(x==("__debug__":ah))=false:=by decide)(he:b5 (e::es) X.env=(false,eval e X.env)::b5 es X.env:=by rfl)(b0:(gq pos (b5 es X.env)).any (·.1)=false:=by rfl):PE X (.Call (.Name x p) (e::es) [] pos) (aoE sp fT E t):=by
 intro pins s σ H Q I h;refine yK (w8 I hg hm ?_ gU);refine Gz (h₀:=X.base) I.ok.mod.w6 hk (bo (ha pos pins s σ H _ I h) fun us s1 ⟨vs,H1,I1,r,q⟩=>⟨I1.fK,?_⟩) he b0;exact MS F hr hb hd hx I1 r q
theorem ams{pl:gM Bool}(he:PE X o ta)(c:jG X.K C)(hm:Meth X.K C m f)(F:bh X.prog X.w X.K X.mg X.base CX k f fd ps sp)(hr:bb k X.A)(hb:Binds X.K fd ps ds)(hd:Vals fT ds)(hx:Passes CX X E)(ha:PA X (e::es) t)(lX:b5 (e::es) X.env=(false,eval e X.env)::b5 es X.env:=by rfl)(b0:(gq pos (b5 es X.env)).any (·.1)=false:=by rfl)(ht:eval (.Call (.Attribute o m apos) (e::es) [] pos) X.env=(do
  let ov<-eval o X.env
  yJ apos.atName;let (f,first)<-holding [ov] (yE ov m pl)
  GD pos f first (gq pos (b5 (e::es) X.env)) (yy pos (yF [] X.env))):=by rfl):PE X (.Call (.Attribute o m apos) (e::es) [] pos) (Yr C m sp fT E ta t):=by
 intro pins s σ H Q I h;refine aaM (pl:=pl) (bo (he pins s σ H _ I h) fun u s1 ⟨x,H1,I1,rx,a,dx,fs,ex,ea,l,q⟩=>?_) ht;subst ex;obtain rfl:u=dm a:=rx;refine Ud I1 ea c hm l ?_;refine Gz (first:=[.ref a]) (h₀:=X.base) I.ok.mod.w6 hm.kp (bo (ha pos pins s1 σ H1 _ I1 q) fun us s2 ⟨vs,H2,I2,r,q2⟩=>⟨I2.fK,?_⟩) lX b0;exact MS (us:=.ref a::us) (vs:=.ref a::vs) F hr hb hd hx I2 (.cons rfl r) q2
theorem amt{pl:gM Bool}(he:PE X o ta)(c:jG X.K C)(hm:Meth X.K C m f)(F:bh X.prog X.w X.K X.mg X.base CX k f fd ps sp)(hr:bb k X.A)(hb:Binds X.K fd ps ds)(hd:Vals fT ds)(hx:Passes CX X E)(ht:eval (.Call (.Attribute o m apos) [] [] pos) X.env=(do
  let ov<-eval o X.env
  yJ apos.atName;let (f,first)<-holding [ov] (yE ov m pl)
  GD pos f first (gq pos (b5 [] X.env)) (yy pos (yF [] X.env))):=by rfl):PE X (.Call (.Attribute o m apos) [] [] pos) (Yr C m sp fT E ta dk):=by
 intro pins s σ H Q I h;refine aaM (pl:=pl) (bo (he pins s σ H _ I h) fun u s1 ⟨x,H1,I1,rx,a,dx,fs,ex,ea,l,q⟩=>?_) ht;subst ex;obtain rfl:u=dm a:=rx;refine Ud I1 ea c hm l ?_;exact aaH (first:=[.ref a]) I1.fK hm.kp (MS (us:=[.ref a]) (vs:=[.ref a]) F hr hb hd hx I1 (.cons rfl .nil) q)
structure Mk(K:aK)(C f:aa):Prop where
 makes:GC K C=true
 init:lx K (.ref C) "__init__"=some (some (.ref f))
 fn:pN K (.ref f)=true
 kp:lz K (.ref C)=true
theorem Xp{pins:List (aa×aM)}{σ:St}{H:Hp}{s:ao}{Q:VK}{us:List af}{vs:List V}(M:Mk X.K C f)(F:bh X.prog X.w X.K X.mg X.base CX k f fd ps sp)(hr:bb (k+1) X.A)(hb:Binds X.K fd ps ds)(hd:Vals fT ds)(hx:Passes CX X E)(I:Inv X pins σ H s)(r:Vals vs us)(h:∀x dx,H x=none->H dx=none->dx≠x->sp (.ref x::(vs++fT)) (upd (upd H dx (.own x)) x (.ins C dx [])) (fun v H2=>v=.aO/\Q (.ref x) H2) E):aE (model X.prog X.w) X.A (call (.ref C) us) (EP X pins σ Q) X.xe s:=by
 have hq:=h (s.heap.objs.size+1) s.heap.objs.size (I.aT.fresh (Bk _)) (I.aT.fresh (cA _)) (dR (yk _));have I2:=Inv.made (C:=C) I;have r2:Vals (V.ref (s.heap.objs.size+1)::(vs++fT)) (dm (s.heap.objs.size+1)::(us++ds)):=.cons rfl (r.append hd);have hl:(dm (s.heap.objs.size+1)::us++ds).length=ps.length:=by
  have e:=r2.length;rw[F.len _ _ _ _ hq]at e;exact e.symm
 refine GO (ai3 (f:=f) I.fK M.makes M.init (beq_iff_eq.mp M.fn) (yC (F.run _ X.stack _ _ ⟨dm (s.heap.objs.size+1)::us,[]⟩ (dm (s.heap.objs.size+1)::(us++ds)) _ _ E (hr.make C us []) (I2.Tn.make C us []) (hb _ (dm (s.heap.objs.size+1)::us) I2.fK hl) r2 hq) fun r s' rX=>?_));cases r with
 |error e=>exact hx pins σ _ _ e s' I2 rX
 |ok fl=>
  cases fl with
  |ret u=>
   obtain⟨v,H',I3,rv,ev,q3⟩:=I2.after rX;subst ev;exact⟨rv,⟨V.ref (s.heap.objs.size+1),H',I3,rfl,q3⟩⟩
  |next=>exact fN rX
  |brk=>exact fN rX
  |cont=>exact fN rX
theorem amq(M:Mk X.K C f)(F:bh X.prog X.w X.K X.mg X.base CX k f fd ps sp)(hr:bb (k+1) X.A)(hg:Gl X x)(hm:X.mg x=some (.ref C))(hb:Binds X.K fd ps ds)(hd:Vals fT ds)(hx:Passes CX X E)(ha:PA X (e::es) t)(gU:(x==("__debug__":ah))=false:=by decide)(he:b5 (e::es) X.env=(false,eval e X.env)::b5 es X.env:=by rfl)(b0:(gq pos (b5 es X.env)).any (·.1)=false:=by rfl):PE X (.Call (.Name x p) (e::es) [] pos) (Yq C sp fT E t):=by
 intro pins s σ H Q I h;refine yK (w8 I hg hm ?_ gU);refine Gz (h₀:=X.base) I.ok.mod.w6 M.kp (bo (ha pos pins s σ H _ I h) fun us s1 ⟨vs,H1,I1,r,q⟩=>⟨I1.fK,?_⟩) he b0;exact Xp M F hr hb hd hx I1 r q
theorem amr(M:Mk X.K C f)(F:bh X.prog X.w X.K X.mg X.base CX k f fd ps sp)(hr:bb (k+1) X.A)(hg:Gl X x)(hm:X.mg x=some (.ref C))(hb:Binds X.K fd ps ds)(hd:Vals fT ds)(hx:Passes CX X E)(gU:(x==("__debug__":ah))=false:=by decide):PE X (.Call (.Name x p) [] [] pos) (Yq C sp fT E dk):=by
 intro pins s σ H Q I h;refine yK (w8 I hg hm ?_ gU);exact aaH I.fK M.kp (Xp (us:=[]) M F hr hb hd hx I .nil h)
end
section
variable{X:Cx}{CX:f7}{k:Nat}{f C:aa}{fd:bu}{ps ks:List ah}{sp:Sp}{E:XK}{x m:ah}{p pos apos aqy:b4}{e o:bw}{es:List bw}{kws:List Bu}{te ta:TE}{t tk:TA}{nm:Option ah}
variable{g:List af->List af->List af}{gV:List V->List V->List V}
end
structure bE(N P:List ah)(sc:e9):Prop where
 kind:sc.kind=.function
 co:sc.isCoroutine=false
 gen:sc.isGenerator=false
 nd:N.Nodup
 pre:N.take P.length=P
 par:∀x∈P,sc.names.lookup x=some .local\/sc.names.lookup x=some .cell
 aj6:∀y∈sc.names,y.2≠.free
theorem bF{N P:List ah}{sc:e9}(a:sc.kind=.function:=by rfl)(b:sc.isCoroutine=false:=by rfl)(c:sc.isGenerator=false:=by rfl)(d:N.Nodup:=by decide+kernel)(e:N.take P.length=P:=by rfl)(f:∀x∈P,sc.names.lookup x=some .local\/sc.names.lookup x=some .cell:=by decide+kernel)(g:∀y∈sc.names,y.2≠.free:=by decide+kernel):bE N P sc:=⟨a,b,c,d,e,f,g⟩
theorem Sw{kindOf:ah->Option jL}{x:ah}:∀{binds:List (ah×af)}{m:ah->Option af},(∀v,(x,v)∉binds)->qZ kindOf binds m x=m x
 |[],_,_=>rfl
 |(n,v)::r,m,h=>by
  unfold qZ;rw[Sw fun w hw=>h w (el _ hw)];split
  .have:x≠n:=by rintro rfl;exact h v eB
   simp[this]
  .rfl
theorem Sv{kindOf:ah->Option jL}{x:ah}:∀{binds:List (ah×af)}{m:ah->Option af},(∀v,(x,v)∉binds)->qY kindOf binds m x=m x
 |[],_,_=>rfl
 |(n,v)::r,m,h=>by
  unfold qY;rw[Sv fun w hw=>h w (el _ hw)];split
  .rfl
  .have:x≠n:=by rintro rfl;exact h v eB
   simp[this]
theorem y1{kindOf:ah->Option jL}{x:ah}{v:af}:∀{P:List ah}{vs:List af}{i:Nat}{m:ah->Option af},P.Nodup->P[i]? =some x->vs[i]? =some v->kindOf x=some .local->qZ kindOf (P.zip vs) m x=some v
 |[],_,_,_,_,h,_,_=>by simp at h
 |_::_,[],_,_,_,_,h,_=>by simp at h
 |p::P,w::vs,0,m,nd,h1,h2,hk=>by
  simp at h1 h2;subst h1;subst h2;show qZ kindOf ((p,w)::P.zip vs) m p=_;unfold qZ;rw[Sw fun v hv=>(vv.mp nd).1 (QM hv).1,if_pos hk];simp
 |p::P,w::vs,i+1,m,nd,h1,h2,hk=>by
  show qZ kindOf ((p,w)::P.zip vs) m x=_;unfold qZ;exact y1 (i:=i) (vv.mp nd).2 (by simpa using h1) (by simpa using h2) hk
theorem Su{kindOf:ah->Option jL}{x:ah}{v:af}:∀{P:List ah}{vs:List af}{i:Nat}{m:ah->Option af},P.Nodup->P[i]? =some x->vs[i]? =some v->kindOf x≠some .local->qY kindOf (P.zip vs) m x=some v
 |[],_,_,_,_,h,_,_=>by simp at h
 |_::_,[],_,_,_,_,h,_=>by simp at h
 |p::P,w::vs,0,m,nd,h1,h2,hk=>by
  simp at h1 h2;subst h1;subst h2;show qY kindOf ((p,w)::P.zip vs) m p=_;unfold qY;rw[Sv fun v hv=>(vv.mp nd).1 (QM hv).1,if_neg hk];simp
 |p::P,w::vs,i+1,m,nd,h1,h2,hk=>by
  show qY kindOf ((p,w)::P.zip vs) m x=_;unfold qY;exact Su (i:=i) (vv.mp nd).2 (by simpa using h1) (by simpa using h2) hk
def start(N:List ah)(vs:List V):St:=vs.map some++jh (N.length-vs.length) none
def gR(CX:f7)(P:aV)(w:aQ)(K:aK)(mg:ah->Option af)(base:aG)(N:List ah)(qual:ah)(scope:e9)(f:aa)(cd:af)(A:bO)(outer:List dM)(s:ao)(H:Hp)(E:XK):Cx where
 prog:=P
 w:=w
 K:=K
 mg:=mg
 base:=base
 A:=A.deeper (ir qual scope s.heap.objs.size f cd)
 N:=N
 gF:=s
 H_0:=H
 env:=ir qual scope s.heap.objs.size f cd
 outer:=outer
 stack:=ir qual scope s.heap.objs.size f cd::outer
 ex:=[]
 calm:=true
 fn:=fun Z=>true
 pn:=[]
 xe:=fun e s'=>aE (model P w) (A.deeper (ir qual scope s.heap.objs.size f cd)) (leaving (ir qual scope s.heap.objs.size f cd) e) (fun Z qB=>CX outer H s E e qB) (fun e' qB=>CX outer H s E e' qB) s'
theorem Sy{sc:e9}{n:Nat}{x:ah}(h:sc.names.lookup x=some .cell):∃c,(gr n sc.names []).lookup x=some c:=by
 have q:=aaI sc.names n [] (.inl h);exact Option.isSome_iff_exists.mp q
theorem aif{CX:f7}{P:aV}{w:aQ}{K:aK}{mg:ah->Option af}{base:aG}{N ps:List ah}{qual:ah}{scope:e9}{f:aa}{cd:af}{A:bO}{outer:List dM}{s s1:ao}{H:Hp}{E:XK}{us:List af}{vs:List V}(S:bE N ps scope)(hd:A.handled=none)(e0:tp P w K mg base A outer s H)(hl:vs.length=ps.length)(r:Vals vs us)(x:InCallC s s.heap.objs.size (qZ (ir qual scope s.heap.objs.size f cd).kindOf (ps.zip us) fun Z=>none) (gr (s.heap.objs.size+1) scope.names []) (qY (ir qual scope s.heap.objs.size f cd).kindOf (ps.zip us) fun Z=>none) s1):Inv (gR CX P w K mg base N qual scope f cd A outer s H E) [] (start N vs) H s1:=by
 have b0:ps.length<=N.length:=by have:=congrArg ox S.pre;rw[iN]at this;lia
 obtain⟨h1,tk,rfl,hk⟩:=x.done;have xi:∀b:aa,b∉(gR CX P w K mg base N qual scope f cd A outer s H E).ex:=fun b z=>absurd (show b∈([]:List aa)from z) (by simp);refine⟨⟨e0.mod,S.kind,rfl,rfl,cA _,fun y z c h1 h2=>?_,fun y hy=>?_,fun y c Z h=>?_,fun Z=>hd,Around.frames_deeper e0.frames,.inr ⟨rfl,rfl⟩,fun b z=>absurd z (xi b),e0.bs,e0.mG,fun b Z Z=>xi b,fun b z=>absurd z (xi b),e0.jW,e0.oR⟩,rfl,e0.bare,Un.kept hk,⟨_,x.toInCall.ns,fun i y v h1 h2 h3=>?_⟩,fun y c h=>⟨_,x.cell y c h⟩,e0.aT.fresh (cA _),fun y c h=>?_,fun p hp=>absurd (show p∈([]:List (aa×aM))from hp) (by simp),e0.aT.kept hk,?_⟩
 .exact name_of_addr x.apart (ki h1) (ki h2)
 .have hy:scope.names.lookup y=some .cell\/scope.names.lookup y=some .free:=hy;rcases hy with hy|hy
  .exact Sy hy
  .exact absurd rfl (S.aj6 _ (ki hy))
 .exact qM (x.above y c (ki h))
 .have hi:i<vs.length:=by
   unfold start at h2;by_cases hi:i<vs.length
   .exact hi
   .rw[ya (by simpa using hi)]at h2;rw[Zt]at h2;split at h2<;>cases h2
  have ha:vs[i]? =some v:=by
   unfold start at h2;rw[tw (by simpa using hi),bU]at h2;cases e:vs[i]? with
   |none=>rw[e]at h2;cases h2
   |some a=>rw[e]at h2;cases h2;rfl
  obtain⟨u,hu,rv⟩:=r.get ha;have hp:ps[i]? =some y:=by
   rw[<-S.pre,List.getElem?_take_of_lt (by lia)];exact h1
  have VY:ps.Nodup:=by rw[<-S.pre];exact S.nd.sublist (ZN _ _)
  refine⟨u,rv,?_⟩;rcases S.par y (jf hp)with k|k
  .exact .inl ⟨k,y1 VY hp hu k⟩
  .obtain⟨c,e⟩:=Sy (n:=s.heap.objs.size+1) k;refine .inr ⟨.inl k,c,e,?_⟩;have q:=x.cell y c e;rw[Su VY hp hu (by show scope.names.lookup y≠_;rw[k];decide)]at q;exact q
 .exact e0.aT.fresh (qM (x.above y c (ki h)))
 .unfold start;show _=N.length;rw[cY,bC,List.length_replicate];lia
theorem TY{CX:f7}{P:aV}{w:aQ}{K:aK}{mg:ah->Option af}{base:aG}{k:Nat}{f:aa}{name qual:ah}{params:Arguments}{body:List aW}{scope:e9}{dV kV doc pm aJ ct oc:af}{an od:Option aa}{gX:Array (Option af)}{N ps:List ah}{sp:Sp}(lk:K.lookup f=some ⟨oc,od,.func (ly name qual params body scope dV kV doc pm an aJ ct),gX⟩)(iB:vJ K aJ qual=true)(S:bE N ps scope)(len:∀vs H Q E,sp vs H Q E->vs.length=ps.length)(zk:∀(A:bO)(outer:List dM)(s:ao)(H:Hp)(vs:List V)(Q:VK)(E:XK),bb k (A.deeper (ir qual scope s.heap.objs.size f aJ))->sp vs H Q E->∃t,kc (gR CX P w K mg base N qual scope f aJ A outer s H E) body t/\t {nx:=fun Z H'=>Q .aO H',rt:=Q} (start N vs) H):bh P w K mg base CX (k+1) f (ly name qual params body scope dV kV doc pm an aJ ct) ps sp:=by
 refine⟨len,fun A outer s H args us vs Q E hr e0 hb r kJ=>?_⟩;have hl:=len _ _ _ _ kJ;have KX:K.In s.heap:=e0.mod.w6.keeps fun b o e=>(e0.bs b o e).1;have lim:s.heap.NoLimit:=e0.mod.nolimit.keeps fun b o e=>(e0.bs b o e).1;have KG:∀y∈ps.zip us,scope.names.lookup y.1=some .local\/(scope.names.lookup y.1=some .cell/\((gr (s.heap.objs.size+1) scope.names []).lookup y.1).isSome=true):=fun⟨n,v⟩ hy=>by
  rcases S.par n (QM hy).1 with q|q
  .exact .inl q
  .exact .inr ⟨q,aaI _ _ _ (.inl q)⟩
 refine aaP hr.depth (KX _ _ lk) rfl S.co S.gen rfl (aaJ KX iB) (hb _ _ _ _ ?_);refine aaW S.kind KG fun env he s1 x=>?_;subst he;refine⟨lim.keeps x.toInCall.keep,codeAny_func ?_⟩;obtain⟨t,ht,hq⟩:=zk A outer s H vs Q E (hr.deeper _) kJ;have I:Inv (gR CX P w K mg base N qual scope f aJ A outer s H E) [] (start N vs) H s1:=aif S hr.hd e0 hl r x;refine jl (ht [] s1 (start N vs) H _ I hq) (fun fl s' hs=>?_) fun e s' hs=>hs;have fin:∀{σ':St}{H':Hp}{v:V}{u:af},Inv (gR CX P w K mg base N qual scope f aJ A outer s H E) [] σ' H' s'->RelV v u->Q v H'->CE outer P w H s Q u s':=fun{σ' H' v u} J rv q=>⟨v,H',J.os,J.bare,J.base,J.aT,rv,q⟩;cases fl with
 |ret u=>
  obtain⟨v,σ',H',J,rv,q⟩:=hs;exact fin J rv q
 |next=>
  obtain⟨σ',H',J,q⟩:=hs;exact fin (v:=V.aO) (u:=Value.none) J rfl q
 |brk=>
  obtain⟨Z,Z,Z,q⟩:=hs;exact fN q
 |cont=>
  obtain⟨Z,Z,Z,q⟩:=hs;exact fN q
section
variable{X:Cx}{x:ah}{p pos:b4}{e:bw}{es:List bw}{t:TA}{id T:String}{r:List V->Hp->VK->Prop}
def pB(r:List V->Hp->VK->Prop)(t:TA):TE:=fun σ H Q=>t σ H fun vs H1=>r vs H1 Q
theorem cK(hc:ma X (.builtin id) r)(hg:Gl X x)(hm:X.mg x=none)(hv:pO x=some (.builtin id))(ha:PA X (e::es) t)(hn:x≠"__name__":=by decide)(gU:(x==("__debug__":ah))=false:=by decide)(he:b5 (e::es) X.env=(false,eval e X.env)::b5 es X.env:=by rfl)(b0:(gq pos (b5 es X.env)).any (·.1)=false:=by rfl):PE X (.Call (.Name x p) (e::es) [] pos) (pB r t):=by
 intro pins s σ H Q I h;refine yK (o7 I hg hm hv ?_ hn gU);exact Z2 (bo (ha pos pins s σ H _ I h) fun us s1 ⟨vs,H1,I1,r1,q1⟩=>hc pins s1 σ H1 vs us Q I1 r1 q1) he b0
theorem DW(hc:ma X (.type T) r)(hg:Gl X x)(hm:X.mg x=none)(hv:pO x=some (.type T))(ha:PA X (e::es) t)(hn:x≠"__name__":=by decide)(gU:(x==("__debug__":ah))=false:=by decide)(he:b5 (e::es) X.env=(false,eval e X.env)::b5 es X.env:=by rfl)(b0:(gq pos (b5 es X.env)).any (·.1)=false:=by rfl):PE X (.Call (.Name x p) (e::es) [] pos) (pB r t):=by
 intro pins s σ H Q I h;refine yK (o7 I hg hm hv ?_ hn gU);exact tL (bo (ha pos pins s σ H _ I h) fun us s1 ⟨vs,H1,I1,r1,q1⟩=>hc pins s1 σ H1 vs us Q I1 r1 q1) he b0
end
end L2
namespace HT
open PySem PyProof.Rows
section
open PySem.SeqAt
open PySem.AutoSeq1 (wpAny_loadPart')
open PySem.MeetsSeq PySem.MeetsSeq2 PySem.MeetsSeq3
end
section
variable{prog:aV}{w:aQ}{A:bO}{E:af->ao->Prop}{s:ao}
def cq(n d:Nat):Option Int->Nat
 |none=>d
 |some v=>if v<0 then(v+(n:Int)).toNat else min v.toNat n
theorem Xt(n d:Nat):cq n d none=d:=rfl
theorem oh(n d k:Nat):cq n d (some (k:Int))=min k n:=by
 show(if(k:Int)<0 then((k:Int)+(n:Int)).toNat else min (k:Int).toNat n)=min k n;rw[if_neg (by lia),md]
theorem Xs(n d:Nat)(hd:d<=n)(o:Option Int):cq n d o<=n:=by
 cases o with
 |none=>exact hd
 |some v=>
  show(if v<0 then(v+(n:Int)).toNat else min v.toNat n)<=n;by_cases hv:v<0
  .rw[if_pos hv];lia
  .rw[if_neg hv];exact Nat.min_le_right _ _
end
end HT
namespace L2
open PySem PySem.Spec PyProof.Rows
abbrev TO:=St->Hp->(Option Int->Hp->Prop)->Prop
def PO(X:Cx)(e:Option bw)(t:TO):Prop:=∀(pins:List (aa×aM))(s:ao)(σ:St)(H:Hp)(Q:Option Int->Hp->Prop),Inv X pins σ H s->t σ H Q->aE (model X.prog X.w) X.A (evalPart e X.env) (fun u s'=>∃o H',Inv X pins σ H' s'/\IsPart u o/\Q o H') X.xe s
def Ys:TO:=fun Z H Q=>Q none H
def pC(t:TE):TO:=fun σ H Q=>t σ H fun x H1=>∃i,x=.int i/\Q (some i) H1
section
variable{X:Cx}{e:bw}{te:TE}{lo hi:Option bw}{tl th:TO}{pos p2:b4}
theorem MA:PO X none Ys:=by
 intro pins s σ H Q I h;rw[evalPart_none];exact bz ⟨none,H,I,.none,h⟩
theorem gE(h:PE X e te):PO X (some e) (pC te):=by
 intro pins s σ H Q I hw;rw[evalPart_some];refine bo (h pins s σ H _ I hw) fun u s1 ⟨x,H1,I1,r1,q1⟩=>?_;obtain⟨i,rfl,q⟩:=q1;obtain⟨t,rfl⟩:=r1;exact⟨some i,H1,I1,.int i t,q⟩
def GX(X:Cx)(r:V->Option Int->Option Int->Hp->VK->Prop):Prop:=∀(pins:List (aa×aM))(s:ao)(σ:St)(H:Hp)(x:V)(v vl vu:af)(lo hi:Option Int)(sl:aa)(Q:VK),Inv X pins σ H s->RelV x v->s.heap.IsSliceOf sl vl vu .none->IsPart vl lo->IsPart vu hi->r x lo hi H Q->∃T id,lE (.type T) "__getitem__"=pure (some (.builtin id))/\s.TypeIs v T/\aE (model X.prog X.w) X.A (yD v (.ref sl)) (EP X pins σ Q) X.xe s
def xQ(r:V->Option Int->Option Int->Hp->VK->Prop)(te:TE)(tl th:TO):TE:=fun σ H Q=>te σ H fun x H1=>tl σ H1 fun l H2=>th σ H2 fun u H3=>r x l u H3 Q
theorem mR{r:V->Option Int->Option Int->Hp->VK->Prop}(hr:GX X r)(he:PE X e te)(hl:PO X lo tl)(hu:PO X hi th):PE X (.Subscript e (.Slice lo hi none p2) pos) (xQ r te tl th):=by
 intro pins s σ H Q I h;refine Q0 (bo (he pins s σ H _ I h) fun v s1 ⟨x,H1,I1,r1,q1⟩=>?_);refine wpAny_Slice (bo (hl pins s1 σ H1 _ I1 q1) fun vl s2 ⟨l,H2,I2,pl,q2⟩=>bo (hu pins s2 σ H2 _ I2 q2) fun vu s3 ⟨u,H3,I3,pu,q3⟩=>?_);rw[evalPart_none];refine bz ?_;have I4:Inv X pins σ H3 {s3 with heap:=s3.heap.push {cls:=.type "slice",data:=.fields #[vl,vu,.none]}}:=I3.kept (t':=s3.toks) fun b ob q=>cD _ q;obtain⟨T,id,hT,ht,hg⟩:=hr pins {s3 with heap:=s3.heap.push {cls:=.type "slice",data:=.fields #[vl,vu,.none]}} σ H3 x v vl vu l u s3.heap.objs.size Q I4 r1 (Heap.IsSliceOf.new ..) pl pu q3;show aE (model X.prog X.w) X.A (Q3 e (.Slice lo hi none p2) v (.ref s3.heap.objs.size)) (EP X pins σ Q) X.xe {s3 with heap:=s3.heap.push {cls:=.type "slice",data:=.fields #[vl,vu,.none]}};exact tail_any (ops:=[.ref s3.heap.objs.size,v]) ht hT hg (by with_unfolding_all rfl)
def mJ(xs:List V)(lo hi:Option Int):List V:=(xs.drop (HT.cq xs.length 0 lo)).take (HT.cq xs.length xs.length hi-HT.cq xs.length 0 lo)
theorem acJ(xs:List V)(lo hi:Option Int):(mJ xs lo hi).length<=xs.length:=by
 unfold mJ;rw[iN,iM];lia
end
def lY(n:Nat)(i:Int):Option Nat:=if 0<=i then(if i<n then some i.toNat else none)else if-(n:Int)<=i then some (i+n).toNat else none
def kr{α:Type}(xs:List α)(i:Int):Option α:=(lY xs.length i).bind fun j=>xs[j]?
theorem Vh{n:Nat}{i:Int}{j:Nat}(h:lY n i=some j):seqIndex? i n=some j/\j<n/\ -(n:Int)<=i/\i<n:=by
 unfold lY at h;by_cases h0:0<=i
 .rw[if_pos h0]at h;by_cases h1:i<n
  .rw[if_pos h1]at h;have e:i.toNat=j:=g8 h;exact⟨by rw[RO h0 h1,e],by lia,by lia,h1⟩
  .rw[if_neg h1]at h;cases h
 .rw[if_neg h0]at h;by_cases h1: -(n:Int)<=i
  .rw[if_pos h1]at h;have e:(i+n).toNat=j:=g8 h;exact⟨by rw[seqIndex_neg (by lia) h1,e],by lia,h1,by lia⟩
  .rw[if_neg h1]at h;cases h
theorem G3{α:Type}{xs:List α}{i:Int}{v:α}(h:kr xs i=some v):∃j,seqIndex? i xs.length=some j/\xs[j]? =some v/\j<xs.length/\ -(xs.length:Int)<=i/\i<xs.length:=by
 unfold kr at h;cases e:lY xs.length i with
 |none=>rw[e]at h;cases h
 |some j=>
  rw[e]at h;obtain⟨h1,h2,h3,h4⟩:=Vh e;exact⟨j,h1,h,h2,h3,h4⟩
theorem bY{α:Type}{xs:List α}{j:Nat}{v:α}(h:xs[j]? =some v):kr xs (j:Int)=some v:=by
 have hj:j<xs.length:=(dQ.mp h).1;have e:lY xs.length (j:Int)=some j:=by
  unfold lY;rw[if_pos (by lia),if_pos (by lia)];simp
 unfold kr;rw[e];exact h
theorem G4{α:Type}(xs:List α)(v:α):kr (xs++[v]) (-1)=some v:=by
 have hl:(xs++[v]).length=xs.length+1:=by simp
 have e:lY (xs++[v]).length (-1)=some xs.length:=by
  unfold lY;rw[hl,if_neg (by decide),if_pos (by lia)];congr 1;lia
 unfold kr;rw[e];show(xs++[v])[xs.length]? =some v;simp
def Z0(b:bw):Prop:=∀o i,subscripted b false o i=operate [o,i] (yD o i)
def A6(X:Cx)(r:R2):Prop:=∀(value slice:bw)(pins:List (aa×aM))(s:ao)(σ:St)(H:Hp)(x y:V)(v u:af)(Q:VK),Inv X pins σ H s->RelV x v->RelV y u->r x y H Q->subscripted slice false v u=operate [v,u] (yD v u)->aE (model X.prog X.w) X.A (Q3 value slice v u) (EP X pins σ Q) X.xe s
def kb(X:Cx)(id:String)(r:V->List V->Hp->VK->Prop):Prop:=∀(pins:List (aa×aM))(s:ao)(σ:St)(H:Hp)(x:V)(xs:List V)(v:af)(us:List af)(Q:VK),Inv X pins σ H s->RelV x v->Vals xs us->r x xs H Q->aE (model X.prog X.w) X.A (call (.builtin id) (v::us)) (EP X pins σ Q) X.xe s
section
variable{X:Cx}{a b:bw}{ta tb:TE}{pos:b4}
theorem bZ{r:R2}(hr:A6 X r)(ha:PE X a ta)(hb:PE X b tb)(hs:Z0 b):PE X (.Subscript a b pos) (bG r ta tb):=by
 intro pins s σ H Q I h;exact Q0 (G7 ha hb I h fun v u s2 x y H2 I2 rx ry q=>hr a b pins s2 σ H2 x y v u Q I2 rx ry q (hs _ _))
def n9(K:aK):R2:=fun x y H Q=>∃p xs i v,x=.ref p/\y=.int i/\aH K H p xs/\kr xs i=some v/\Q v H
def uT(K:aK):R2:=fun x y H Q=>∃p xs i v,x=.ref p/\y=.int i/\cN K H p xs/\kr xs i=some v/\Q v H
def amW:R2:=fun x y H Q=>∃z i c,x=.str z/\y=.int i/\z.length<=sizeLine/\kr z.cps.toList i=some c/\Q (.str ⟨#[c]⟩) H
theorem fc:A6 X (n9 X.K):=by
 intro value slice pins s σ H x y v u Q I rx ry h hs;obtain⟨p,xs,i,z,rfl,rfl,hq,he,q⟩:=h;cases rx;obtain⟨t,rfl⟩:=ry;obtain⟨aC,r,pl,hz⟩:=I.list hq;obtain⟨j,h1,h2,h3,h4,h5⟩:=G3 he;obtain⟨w,ew,og⟩:=r.get h2;have hl:=r.length;have hn:=xa;have fin:EP X pins σ Q w s:=⟨z,H,I,og,q⟩;by_cases h0:0<=i
 .have hj:i.toNat=j:=by
   rw[RO h0 h5]at h1;exact g8 h1
  exact item_listR pl.isList h0 (by lia) (by rw[hj];simpa using ew) fin hs
 .have hj:(i+(aC.toArray.size:Int)).toNat=j:=by
   rw[seqIndex_neg (by lia) h4]at h1;rw[eC,<-hl];exact g8 h1
  exact Z5 (x:=w) pl.isList.typeIs slot_list_getitem.lookup (wpAny_getItem_list_neg (Q:=fun r s'=>r=w/\EP X pins σ Q r s') pl.isList (by lia) (by rw[eC]<;>lia) (by lia) (by rw[hj];simpa using ew) ⟨rfl,fin⟩) hs
theorem fD:A6 X (uT X.K):=by
 intro value slice pins s σ H x y v u Q I rx ry h hs;obtain⟨p,xs,i,z,rfl,rfl,hq,he,q⟩:=h;cases rx;obtain⟨t,rfl⟩:=ry;obtain⟨aC,r,pl,hz⟩:=I.tuple hq;obtain⟨j,h1,h2,h3,h4,h5⟩:=G3 he;obtain⟨w,ew,og⟩:=r.get h2;have hl:=r.length;have hn:=xa;have fin:EP X pins σ Q w s:=⟨z,H,I,og,q⟩;exact Z5 (x:=w) pl.typeIs slot_tuple_getitem.lookup (getItem_tuple (j:=j) (Q:=fun r s'=>r=w/\EP X pins σ Q r s') pl (by lia) (by lia) (by rw[eC,<-hl];exact h1) (by simpa using ew) ⟨rfl,fin⟩) hs
theorem sf:A6 X amW:=by
 intro value slice pins s σ H x y v u Q I rx ry h hs;obtain⟨z,i,c,rfl,rfl,hz,he,q⟩:=h;obtain⟨t,rfl⟩:=rx;obtain⟨t',rfl⟩:=ry;obtain⟨j,h1,h2,h3,h4,h5⟩:=G3 he;have hl:z.cps.toList.length=z.length:=by simp[Rp]
 rw[hl]at h1 h4 h5;have hn:=xa;exact tail_any (rj s z t) slot_str_getitem.lookup (getItem_str (c:=c) (by
  have e1:decide (i< -(2^63:Int))=false:=decide_eq_false (by lia);have e2:decide (i≥2^63)=false:=decide_eq_false (by lia);rw[e1,e2,Y7]) (by rw[h1];simpa using h2) ⟨.str ⟨#[c]⟩,H,I.tok _,⟨_,rfl⟩,q⟩) hs
theorem ai5(aC:List af)(n j:Nat)(u:af):mj (·.setIfInBounds j u) {cls:=.type "list",data:=.seq aC.toArray n}={cls:=.type "list",data:=.seq (aC.set j u).toArray n}:=by
 simp[mj]
theorem Inv.lst{pins:List (aa×aM)}{σ:St}{H:Hp}{s:ao}{p:aa}{xs:List V}(I:Inv X pins σ H s)(h:H p=some (.lst xs)):∃(aC:List af)(n:Nat),Vals xs aC/\s.heap.get? p=some {cls:=.type "list",data:=.seq aC.toArray n}/\xs.length<=sizeLine:=by
 obtain⟨z,aC,n,r,e⟩:=I.aT p _ h;exact⟨aC,n,r,e,z⟩
theorem Inv.aiU{pins:List (aa×aM)}{σ:St}{H:Hp}{s:ao}{p:aa}{xs ys:List V}{aC its':List af}{n n':Nat}{f:aM->aM}(I:Inv X pins σ H s)(h:H p=some (.lst xs))(ho:s.heap.get? p=some {cls:=.type "list",data:=.seq aC.toArray n})(hf:f {cls:=.type "list",data:=.seq aC.toArray n}={cls:=.type "list",data:=.seq its'.toArray n'})(r:Vals ys its')(hz:ys.length<=sizeLine)(t:Nat):Inv X pins σ (upd H p (.lst ys)) {s with heap:=s.heap.update p f,toks:=t}:=by
 have e:(s.heap.update p f).get? p=some {cls:=.type "list",data:=.seq its'.toArray n'}:=by
  rw[qS f ho (by rw[hf]<;>rfl),hf]
 refine I.write (x:=p) (e:=p) (by rw[h];trivial) (.inl rfl) (fun b u hb q=>(pL _ _ (Ne.symm hb)).trans q) ⟨_,e⟩ ?_;exact⟨hz,its',n',r,e⟩
def amZ:V->V->V->Hp->(Hp->Prop)->Prop:=fun o i v H Q=>∃p xs k j,o=.ref p/\i=.int k/\H p=some (.lst xs)/\lY xs.length k=some j/\Q (upd H p (.lst (xs.set j v)))
theorem set_list:QY X amZ:=by
 intro pins s σ H o i v ov iv u Q I ro ri rv h;obtain⟨p,xs,k,j,rfl,rfl,hp,hj,q⟩:=h;cases ro;obtain⟨t,rfl⟩:=ri;obtain⟨aC,n,r,ho,hz⟩:=I.lst hp;obtain⟨h1,h2,h3,h4⟩:=Vh hj;have hl:=r.length;have hn:=xa;have I':Inv X pins σ (upd H p (.lst (xs.set j v))) {s with heap:=s.heap.update p (mj (·.setIfInBounds j u))}:=I.aiU hp ho (ai5 aC n j u) (r.set rv j) (by rw[Bg];exact hz) s.toks;by_cases h0:0<=k
 .have hk:k.toNat=j:=by
   rw[RO h0 h4]at h1;exact g8 h1
  exact PySem.W.ki_setAt ho h0 (by lia) (by rw[eC,<-hl];exact h4) (by rw[hk];exact⟨_,I',q⟩)
 .have hk:(k+(aC.toArray.size:Int)).toNat=j:=by
   rw[seqIndex_neg (by lia) h3]at h1;rw[eC,<-hl];exact g8 h1
  exact PySem.W.ki_setBack ho (by lia) (by rw[eC,<-hl];exact h3) (by lia) (by rw[hk];exact⟨_,I',q⟩)
theorem aoj(lo hi:Option Int)(n:Nat):(vQ lo hi none n).1=((HT.cq n 0 lo:Nat):Int)/\(vQ lo hi none n).2.1=((HT.cq n n hi:Nat):Int)/\(vQ lo hi none n).2.2=1:=by
 refine⟨?_,?_,rfl⟩
 .cases lo with
  |none=>simp[vQ,HT.cq]
  |some i=>
   simp only[vQ,HT.cq,ZX,show(1:Int)>0 by decide,if_true];by_cases h:i<0
   .simp only[h,if_true]<;>lia
   .simp only[h,if_false]<;>lia
 .cases hi with
  |none=>simp[vQ,HT.cq]
  |some i=>
   simp only[vQ,HT.cq,ZX,show(1:Int)>0 by decide,if_true];by_cases h:i<0
   .simp only[h,if_true]<;>lia
   .simp only[h,if_false]<;>lia
theorem aoi(aC:List af)(lo hi:Option Int):slicePick aC.toArray lo hi none=((aC.drop (HT.cq aC.length 0 lo)).take (HT.cq aC.length aC.length hi-HT.cq aC.length 0 lo)).toArray:=by
 obtain⟨h1,h2,h3⟩:=aoj lo hi aC.toArray.size;unfold slicePick;rw[h1,h2,h3];simp only[sliceRange_one,pick_run,eC]<;>rfl
def xw(K:aK):V->Option Int->Option Int->Hp->VK->Prop:=fun x lo hi H Q=>∃a xs,x=.ref a/\aH K H a xs/\∀p,H p=none->Q (.ref p) (upd H p (.lst (mJ xs lo hi)))
theorem u7:GX X (xw X.K):=by
 intro pins s σ H x v vl vu lo hi sl Q I rx hs pl pu h;obtain⟨a,xs,rfl,hx,q⟩:=h;cases rx;obtain⟨aC,r,ht,hz⟩:=I.list hx;have hlen:=r.length;refine⟨"list",_,slot_list_getitem.lookup,ht.isList.typeIs,?_⟩;refine wpAny_getItem_list_slice ht.isList hs pl pu .none (by simp) ?_ (by rw[eC]<;>lia);rw[aoi,<-hlen];refine⟨.ref s.heap.objs.size,_,I.laid (t':=s.toks) (o:=.lst (mJ xs lo hi)) (fun b ob q=>cD _ q) (cA _) ?_,rfl,q _ (I.aT.fresh (cA _))⟩;exact⟨fA (acJ xs lo hi) hz,_,0,(r.drop (HT.cq xs.length 0 lo)).take (HT.cq xs.length xs.length hi-HT.cq xs.length 0 lo),dZ _ rfl⟩
def oP:V->Bool
 | .aO=>true
 | .bl _=>true
 | .int _=>true
 | .str _=>true
 |_=>false
def rK:V->V->Bool
 | .aO,.aO=>true
 | .bl a,.bl b=>a==b
 | .bl a,.int b=>(if a then 1 else 0)==b
 | .int a,.bl b=>a==(if b then 1 else 0)
 | .int a,.int b=>a==b
 | .str a,.str b=>a==b
 |_,_=>false
theorem aeo{A:bO}{s:ao}{y x:V}{u v:af}(ry:RelV y u)(rx:RelV x v)(fy:oP y=true)(fx:oP x=true):SeqAt.EqAt A s u v (rK y x):=by
 cases y with
 |aO=>
  cases ry;cases x with
  |aO=>cases rx;exact SeqAt.EqAt.same _
  |bl b=>cases rx;exact SeqAt.EqAt.none_bool b
  |int b=>obtain⟨t,rfl⟩:=rx;exact SeqAt.EqAt.none_int b t
  |str b=>obtain⟨t,rfl⟩:=rx;exact SeqAt.EqAt.none_str b t
  |_=>exact absurd (show false=true from fx) eX
 |bl a=>
  cases ry;cases x with
  |aO=>cases rx;exact SeqAt.EqAt.bool_none a
  |bl b=>cases rx;exact SeqAt.EqAt.bool_bool a b
  |int b=>obtain⟨t,rfl⟩:=rx;exact SeqAt.EqAt.bool_int a b t
  |str b=>obtain⟨t,rfl⟩:=rx;exact SeqAt.EqAt.bool_str a b t
  |_=>exact absurd (show false=true from fx) eX
 |int a=>
  obtain⟨t',rfl⟩:=ry;cases x with
  |aO=>cases rx;exact SeqAt.EqAt.int_none a t'
  |bl b=>cases rx;exact SeqAt.EqAt.int_bool a t' b
  |int b=>obtain⟨t,rfl⟩:=rx;exact SeqAt.EqAt.int_int a t' b t
  |str b=>obtain⟨t,rfl⟩:=rx;exact aax a t' b t
  |_=>exact absurd (show false=true from fx) eX
 |str a=>
  obtain⟨t',rfl⟩:=ry;cases x with
  |aO=>cases rx;exact SeqAt.EqAt.str_none a t'
  |bl b=>cases rx;exact SeqAt.EqAt.str_bool a t' b
  |int b=>obtain⟨t,rfl⟩:=rx;exact aay a t' b t
  |str b=>obtain⟨t,rfl⟩:=rx;exact SeqAt.EqAt.str_str a t' b t
  |_=>exact absurd (show false=true from fx) eX
 |_=>exact absurd (show false=true from fy) eX
def jV(x:V)(u:af):Bool:=match u with
 | .none=>rK .aO x
 | .bool b=>rK (.bl b) x
 | .int i _=>rK (.int i) x
 | .str z _=>rK (.str z) x
 |_=>false
theorem To{x y:V}{u:af}(r:RelV y u)(f:oP y=true):jV x u=rK y x:=by
 cases y with
 |aO=>cases r;rfl
 |bl b=>cases r;rfl
 |int i=>obtain⟨t,rfl⟩:=r;rfl
 |str z=>obtain⟨t,rfl⟩:=r;rfl
 |_=>exact absurd (show false=true from f) eX
theorem yZ{x:V}:∀{xs:List V}{us:List af},Vals xs us->xs.all oP=true->us.any (jV x)=xs.any fun y=>rK y x
 |_,_,.nil,_=>rfl
 |y::xs,u::us,.cons r t,f=>by
  rw[ip,cH]at f;rw[vp,vp,To r f.1,yZ t f.2]
theorem Aa{A:bO}{s:ao}{x:V}{v:af}(rx:RelV x v)(fx:oP x=true):∀{xs:List V}{us:List af},Vals xs us->xs.all oP=true->∀u∈us,SeqAt.EqAt A s u v (jV x u)
 |_,_,.nil,_=>fun u hu=>by cases hu
 |y::xs,u::us,.cons r t,f=>fun u' hu=>by
  rw[ip,cH]at f;rcases bX.mp hu with rfl|hu
  .rw[To r f.1];exact aeo r rx f.1 fx
  .exact Aa rx fx t f.2 u' hu
def iX(x:V)(xs:List V):Bool:=xs.any fun y=>rK y x
def DZ(K:aK)(neg:Bool):R2:=fun x y H Q=>∃p xs,y=.ref p/\(aH K H p xs\/cN K H p xs)/\oP x=true/\xs.all oP=true/\Q (.bl (if neg then !iX x xs else iX x xs)) H
theorem DM:eZ X (hJ .In) (DZ X.K false):=by
 intro pins s σ H x y v u Q I rx ry h;obtain⟨p,xs,rfl,hq,fx,fs,q⟩:=h;cases ry;rcases hq with hq|hq
 .obtain⟨aC,r,pl,hz⟩:=I.list hq;refine SeqAt.in_listAt (jV x) pl.isList (fun w hw=>Aa rx fx r fs w (by simpa using hw)) ⟨.bl _,H,I,rfl,?_⟩;rw[show aC.toArray.any (jV x)=aC.any (jV x) by simp,yZ r fs];exact q
 .obtain⟨aC,r,pl,hz⟩:=I.tuple hq;refine SeqAt.in_tupleAt (jV x) pl (fun w hw=>Aa rx fx r fs w (by simpa using hw)) ⟨.bl _,H,I,rfl,?_⟩;rw[show aC.toArray.any (jV x)=aC.any (jV x) by simp,yZ r fs];exact q
theorem Ak:eZ X (hJ .NotIn) (DZ X.K true):=by
 intro pins s σ H x y v u Q I rx ry h;obtain⟨p,xs,rfl,hq,fx,fs,q⟩:=h;cases ry;rcases hq with hq|hq
 .obtain⟨aC,r,pl,hz⟩:=I.list hq;refine SeqAt.notIn_listAt (jV x) pl.isList (fun w hw=>Aa rx fx r fs w (by simpa using hw)) ⟨.bl _,H,I,rfl,?_⟩;rw[show aC.toArray.any (jV x)=aC.any (jV x) by simp,yZ r fs];exact q
 .obtain⟨aC,r,pl,hz⟩:=I.tuple hq;refine SeqAt.notIn_tupleAt (jV x) pl (fun w hw=>Aa rx fx r fs w (by simpa using hw)) ⟨.bl _,H,I,rfl,?_⟩;rw[show aC.toArray.any (jV x)=aC.any (jV x) by simp,yZ r fs];exact q
theorem fR:ma X (.builtin "len") (fun xs H Q=>∃p ys,xs=[.ref p]/\(aH X.K H p ys\/cN X.K H p ys)/\Q (.int ys.length) H):=by
 intro pins s σ H xs us Q I r h;obtain⟨p,ys,rfl,hq,q⟩:=h;obtain⟨u,rfl,rx⟩:=vals1 r;cases rx;have hn:=xa;rcases hq with hq|hq
 .obtain⟨aC,r',pl,hz⟩:=I.list hq;have hlen:=r'.length;exact Calls.call_len_list pl.isList (by simp only[eC]<;>lia) ⟨.int ys.length,H,I.tok _,⟨s.toks+1,by rw[eC,hlen]⟩,q⟩
 .obtain⟨aC,r',pl,hz⟩:=I.tuple hq;have hlen:=r'.length;exact len_tuple pl (by simp only[eC]<;>lia) ⟨.int ys.length,H,I.tok _,⟨s.toks+1,by rw[eC,hlen]⟩,q⟩
theorem lK:ma X (.builtin "len") (fun xs H Q=>∃z,xs=[.str z]/\z.length<=sizeLine/\Q (.int z.length) H):=by
 intro pins s σ H xs us Q I r h;obtain⟨z,rfl,hz,q⟩:=h;obtain⟨u,rfl,t,rfl⟩:=vals1 r;have hn:=xa;exact len_str (by lia) ⟨.int z.length,H,I.tok _,⟨_,rfl⟩,q⟩
def P0(K:aK)(T:String)(x:V)(H:Hp):Prop:=match x with
 | .str _=>T="str"
 | .int _=>T="int"
 | .ref p=>(T="list"/\∃xs,aH K H p xs)\/(T="tuple"/\∃o,K.lookup p=some o/\o.cls=.type "tuple"/\o.dict=none)\/
  (T="dict"/\((∃kvs,H p=some (.dK kvs))\/∃kvs,H p=some (.dT kvs)))\/(T="set"/\∃S n,H p=some (.set S n))
 |_=>False
theorem YI{pins:List (aa×aM)}{σ:St}{H:Hp}{s:ao}{T:String}{x:V}{v:af}(I:Inv X pins σ H s)(r:RelV x v)(ty:P0 X.K T x H):s.TypeIs v T/\∀a,v=.ref a->∃ob,s.heap.get? a=some ob/\ob.dict=none:=by
 cases x with
 |str z=>
  obtain⟨t,rfl⟩:=r;cases (show T="str" from ty);exact⟨rj s z t,fun Z e=>nomatch e⟩
 |int i=>
  obtain⟨t,rfl⟩:=r;cases (show T="int" from ty);exact⟨RQ s i t,fun Z e=>nomatch e⟩
 |ref p=>
  cases r;rcases ty with⟨rfl,xs,hq⟩|⟨rfl,o,hk,hc,hd⟩|⟨rfl,hk⟩|⟨rfl,S,n,hk⟩
  .obtain⟨aC,Z,pl,Z⟩:=I.list hq;refine⟨pl.isList.typeIs,fun a e=>?_⟩;cases e;obtain⟨o,n,e,c,hd,Z⟩:=pl;exact⟨o,e,hd⟩
  .refine⟨⟨o,I.fK p o hk,hc⟩,fun a e=>?_⟩;cases e;exact⟨o,I.fK _ o hk,hd⟩
  .have z:∃o,s.heap.get? p=some o/\o.ExactDict:=by
    rcases hk with⟨kvs,hk⟩|⟨kvs,hk⟩
    .obtain⟨Z,Z,Z,Z,o,Z,Z,e,ex,Z⟩:=I.aT p _ hk;exact⟨o,e,ex⟩
    .obtain⟨Z,Z,Z,Z,o,Z,Z,e,ex,Z⟩:=I.aT p _ hk;exact⟨o,e,ex⟩
   obtain⟨o,e,ex⟩:=z;refine⟨⟨o,e,ex.1⟩,fun a e2=>?_⟩;cases e2;exact⟨o,e,ex.2.1⟩
  .obtain⟨o,Z,Z,Z,e,ex,Z⟩:=I.aT p _ hk;refine⟨⟨o,e,ex.1⟩,fun a e2=>?_⟩;cases e2;exact⟨o,e,ex.2.1⟩
 |_=>exact fN ty
def aoD(K:aK)(T:String)(r:V->List V->Hp->VK->Prop)(to:TE):TE:=fun σ H Q=>to σ H fun x H1=>P0 K T x H1/\r x [] H1 Q
def Px(K:aK)(T:String)(r:V->List V->Hp->VK->Prop)(to:TE)(t:TA):TE:=fun σ H Q=>to σ H fun x H1=>P0 K T x H1/\t σ H1 fun xs H2=>r x xs H2 Q
variable{o e:bw}{es:List bw}{to:TE}{t:TA}{name:ah}{apos fS:b4}{T id:String}{r:V->List V->Hp->VK->Prop}
theorem Wy(pa:PlainAttrs T)(slot:Slot T name id)(rZ:BN (.builtin id)=pure (.type "method_descriptor"))(hm:kb X id r)(ho:PE X o to)(lQ:mn o name X.env (eval o X.env)=eval o X.env:=by rfl)(lS:(apos.endLine==fS.line)=true:=by rfl):PE X (.Call (.Attribute o name apos) [] [] fS) (aoD X.K T r to):=by
 intro pins s σ H Q I h;refine wpAny_Call_method0_late lQ lS (bo (ho pins s σ H _ I h) fun v s1 ⟨x,H1,I1,r1,ty,q1⟩=>?_);obtain⟨h1,h2⟩:=YI I1 r1 ty;exact⟨T,id,pa,slot,rZ,h1,h2,yp rfl (aaR (hm pins s1 σ H1 x [] v [] Q I1 r1 .nil q1))⟩
theorem iG(pa:PlainAttrs T)(slot:Slot T name id)(rZ:BN (.builtin id)=pure (.type "method_descriptor"))(hm:kb X id r)(ho:PE X o to)(ha:PA X (e::es) t)(lQ:mn o name X.env (eval o X.env)=eval o X.env:=by rfl)(agd:((gq fS (b5 (e::es) X.env)).all (fun x=> !x.1)&&(yy fS (yF [] X.env)).all (fun x=>x.1.isSome)&&decide ((e::es).length+([]:List Bu).length+(if([]:List Bu).isEmpty then 0 else 1)<30))=true:=by rfl)(lS:(apos.endLine==fS.line)=true:=by rfl)(hs:b5 (e::es) X.env=(false,eval e X.env)::b5 es X.env:=by rfl)(ag7:(gq fS (b5 es X.env)).any (·.1)=false:=by rfl):PE X (.Call (.Attribute o name apos) (e::es) [] fS) (Px X.K T r to t):=by
 intro pins s σ H Q I h;refine wpAny_Call_method_late lQ agd lS rfl (bo (ho pins s σ H _ I h) fun v s1 ⟨x,H1,I1,r1,ty,q1⟩=>?_);obtain⟨h1,h2⟩:=YI I1 r1 ty;refine⟨T,id,pa,slot,rZ,h1,h2,?_⟩;have hA:=ha fS pins s1 σ H1 _ I1 q1;rw[hs]at hA ⊢;refine yp (by show(false||(gq fS (b5 es X.env)).any (·.1))=false;rw[ag7]<;>rfl) (Gi ?_);exact bo hA fun us s2 ⟨vs,H2,I2,r2,q2⟩=>hm pins s2 σ H2 x vs v us Q I2 r1 r2 q2
end
def F6(X:Cx)(id:String)(r:V->List V->Hp->VK->Prop):Prop:=∀(pins:List (aa×aM))(s:ao)(σ:St)(H:Hp)(x:V)(xs:List V)(v:af)(us:List af)(Q:VK),Inv X pins σ H s->RelV x v->Vals xs us->r x xs H Q->aE (model X.prog X.w) X.A (call (.builtin id) (v::us)) (EP X pins σ Q) X.xe s
theorem Vals.one:∀{x:V}{us:List af},Vals [x] us->∃u,us=[u]/\RelV x u
 |_,_,.cons r .nil=>⟨_,rfl,r⟩
theorem Vals.zero:∀{us:List af},Vals [] us->us=[]
 |_,.nil=>rfl
theorem Vals.dropLast{xs:List V}{us:List af}(h:Vals xs us):Vals xs.dropLast us.dropLast:=by
 induction h with
 |nil=>exact .nil
 |cons r t ih=>
  cases t with
  |nil=>exact .nil
  |cons q t'=>exact .cons r ih
theorem Vals.rep{xs:List V}{us:List af}(h:Vals xs us):∀k:Nat,Vals (jh k xs).flatten (jh k us).flatten
 |0=> .nil
 |k+1=>by
  rw[yh,yh,x8,x8];exact Vals.append h (Vals.rep h k)
theorem aep{α:Type}(l:List α):l.eraseIdx (l.length-1)=l.dropLast:=by
 induction l with
 |nil=>rfl
 |cons a r ih=>
  cases r with
  |nil=>rfl
  |cons b r=>
   have e:(a::b::r).length-1=((b::r).length-1)+1:=by
    have h1:(a::b::r).length=r.length+2:=rfl;have h2:(b::r).length=r.length+1:=rfl;lia
   rw[e,List.eraseIdx_cons_succ,ih];all_goals rfl
theorem foldl_rep(aC:List af):∀(k:Nat)(acc:List af),Qy (fun x1 x2=>x1++x2) acc.toArray (jh k aC.toArray)=(acc++(jh k aC).flatten).toArray
 |0,acc=>by simp
 |k+1,acc=>by
  have e:acc.toArray++aC.toArray=(acc++aC).toArray:=by simp
  have e2:(acc++aC)++(jh k aC).flatten=acc++(jh (k+1) aC).flatten:=by
   rw[yh,x8,iL]
  rw[<-e2,<-foldl_rep aC k (acc++aC),<-e,yh,vt]
section
variable{X:Cx}{pins:List (aa×aM)}{σ:St}{H:Hp}{s:ao}{l b:aa}{xs ys zs:List V}
theorem Inv.LF{aC its':List af}{n:Nat}{f:Array af->Array af}{t':Nat}(I:Inv X pins σ H s)(hH:H l=some (.lst xs))(e:s.heap.get? l=some {cls:=.type "list",data:=.seq aC.toArray n})(hf:f aC.toArray=its'.toArray)(hv:Vals ys its')(hz:ys.length<=sizeLine):Inv X pins σ (upd H l (.lst ys)) {s with heap:=s.heap.update l (mj f),toks:=t'}:=by
 have q:=PySem.IsL.update e f;rw[hf]at q;refine I.write (x:=l) (e:=l) (by rw[hH];exact trivial) (.inl rfl) (fun b' u hb hu=>(pL s.heap (mj f) (Ne.symm hb)).trans hu) ⟨_,q⟩ ?_;exact⟨hz,its',_,hv,q⟩
theorem Inv.VE{aC:List af}{t':Nat}(I:Inv X pins σ H s)(hv:Vals ys aC)(hz:ys.length<=sizeLine):Inv X pins σ (upd H s.heap.objs.size (.lst ys)) {s with heap:=s.heap.push {cls:=.type "list",data:=.seq aC.toArray},toks:=t'}:=I.laid (fun Z Z q=>cD _ q) (cA _) ⟨hz,aC,0,hv,dZ _ rfl⟩
theorem Inv.fresh(I:Inv X pins σ H s):H s.heap.objs.size=none:=I.aT.fresh (cA _)
theorem Inv.uK(I:Inv X pins σ H s)(hH:H l=some (.lst xs)):xs.length<=sizeLine/\∃(aC:List af)(n:Nat),Vals xs aC/\xs.length=aC.length/\s.heap.get? l=some {cls:=.type "list",data:=.seq aC.toArray n}:=by
 obtain⟨z,aC,n,r,e⟩:=I.aT l _ hH;exact⟨z,aC,n,r,r.length,e⟩
theorem V6{n:Nat}(h:n<=sizeLine):Gh n=false:=by
 unfold Gh;exact decide_eq_false (by lia)
end
section
variable{X:Cx}
def DX:V->List V->Hp->VK->Prop:=fun x vs H Q=>∃l xs y,x=.ref l/\vs=[y]/\H l=some (.lst xs)/\xs.length<sizeLine/\Q .aO (upd H l (.lst (xs++[y])))
theorem lZ:F6 X "list.append" DX:=by
 intro pins s σ H x vs v us Q I rx rv h;obtain⟨l,xs,y,rfl,rfl,hH,hz,q⟩:=h;cases rx;obtain⟨u,rfl,ru⟩:=rv.one;obtain⟨z,aC,n,r,hl,e⟩:=I.uK hH;refine yz lj ⟨_,e,rfl⟩ F.entry_list_append (F.args_list_append_2 _ _) (PySem.list_append l aC.toArray n u (by rw[eC];lia)) ⟨e,?_⟩;refine⟨.aO,_,I.LF (its':=aC++[u]) hH e (by simp) (r.append (.cons ru .nil)) ?_,rfl,q⟩;rw[cY,FT];lia
def W5:V->List V->Hp->VK->Prop:=fun x vs H Q=>∃l b xs zs,x=.ref l/\vs=[.ref b]/\H l=some (.lst xs)/\H b=some (.lst zs)/\xs.length+zs.length<=sizeLine/\Q .aO (upd H l (.lst (xs++zs)))
theorem Dv:F6 X "list.extend" W5:=by
 intro pins s σ H x vs v us Q I rx rv h;obtain⟨l,b,xs,zs,rfl,rfl,hH,hB,hz,q⟩:=h;cases rx;obtain⟨u,rfl,ru⟩:=rv.one;cases ru;obtain⟨z,aC,n,r,hl,e⟩:=I.uK hH;obtain⟨z2,uI,n2,r2,qh,e2⟩:=I.uK hB;have hsz:aC.toArray.size+uI.toArray.size<=sizeLine:=by rw[eC,eC];lia
 have KN:¬(!aC.toArray.isEmpty&&Gh (aC.toArray.size+uI.toArray.size))=true:=by
  rw[V6 hsz,Bool.and_false];exact eX
 refine yz Bs ⟨_,e,rfl⟩ F.entry_list_extend (F.args_list_extend_2 _ _) (AutoSeq1.list_extend_list_list_0 l aC.toArray n b uI.toArray n2 KN (by rw[eC];lia) (by lia)) ⟨e,e2,?_⟩;refine⟨.aO,_,I.LF (its':=aC++uI) hH e (by simp) (r.append r2) ?_,rfl,q⟩;rw[cY];lia
def amX:V->List V->Hp->VK->Prop:=fun x vs H Q=>∃l xs y,x=.ref l/\vs=[]/\H l=some (.lst xs)/\xs[xs.length-1]? =some y/\Q y (upd H l (.lst xs.dropLast))
theorem VP:F6 X "list.pop" amX:=by
 intro pins s σ H x vs v us Q I rx rv h;obtain⟨l,xs,y,rfl,rfl,hH,hy,q⟩:=h;cases rx;have hus:=rv.zero;subst hus;obtain⟨z,aC,n,r,hl,e⟩:=I.uK hH;obtain⟨u,hu,ru⟩:=r.get hy;have hy':aC.toArray[aC.toArray.size-1]? =some u:=by
  show aC.toArray[aC.length-1]? =some u;rw[<-Fp,<-hl];exact hu
 refine yz Ra ⟨_,e,rfl⟩ F.entry_list_pop (F.args_list_pop_1 _) (MeetsSeq.list_pop_last l aC.toArray n u hy' (by rw[eC];lia)) ⟨e,?_⟩;refine⟨y,_,I.LF (its':=aC.dropLast) hH e ?_ r.dropLast ?_,ru,q⟩
 .show aC.toArray.eraseIdxIfInBounds (aC.toArray.size-1)=aC.dropLast.toArray;rw[eC,List.eraseIdxIfInBounds_toArray,aep]
 .rw[oy];lia
def W4:R2:=fun x y H Q=>∃l b xs zs,x=.ref l/\y=.ref b/\H l=some (.lst xs)/\H b=some (.lst zs)/\xs.length+zs.length<=sizeLine/\∀p,H p=none->Q (.ref p) (upd H p (.lst (xs++zs)))
theorem pd:eZ X (vM .Add) W4:=by
 intro pins s σ H x y v u Q I rx ry h;obtain⟨l,b,xs,zs,rfl,rfl,hH,hB,hz,q⟩:=h;cases rx;cases ry;obtain⟨z,aC,n,r,hl,e⟩:=I.uK hH;obtain⟨z2,uI,n2,r2,qh,e2⟩:=I.uK hB;refine PySem.P.add_list e e2 ?_ (by rw[eC,eC];lia);have ea:aC.toArray++uI.toArray=(aC++uI).toArray:=by simp
 rw[ea];exact⟨.ref _,_,I.VE (t':=s.toks) (r.append r2) (by rw[cY];lia),rfl,q _ I.fresh⟩
def amY:R2:=fun x y H Q=>∃l k xs,x=.ref l/\y=.int k/\H l=some (.lst xs)/\ -(2^63)<=k/\k<2^63/\xs.length*k.toNat<=sizeLine/\∀p,H p=none->Q (.ref p) (upd H p (.lst (jh k.toNat xs).flatten))
theorem len_rep{α:Type}(xs:List α)(k:Nat):(jh k xs).flatten.length=k*xs.length:=by
 induction k with
 |zero=>simp
 |succ k ih=>rw[yh,x8,cY,ih,Nat.succ_mul,QV]
theorem alX:eZ X (vM .Mult) amY:=by
 intro pins s σ H x y v u Q I rx ry h;obtain⟨l,k,xs,rfl,rfl,hH,h1,h2,hz,q⟩:=h;cases rx;obtain⟨t,rfl⟩:=ry;obtain⟨z,aC,n,r,hl,e⟩:=I.uK hH;have hlen:aC.toArray.size*k.toNat<=sizeLine:=by rw[eC,<-hl];exact hz
 have af3:¬aC.toArray.size*k.toNat>(2^63-1) / 8:=by
  have:(sizeLine:Nat)<=(2^63-1) / 8:=by decide
  lia
 have age:¬(!Builtin.List.listFitsIndex k)=true:=by
  rw[fitsIndex_both h1 h2];exact eX
 have KN:¬Gh (aC.toArray.size*k.toNat)=true:=by
  rw[V6 hlen];exact eX
 have agT:Qy (fun x1 x2=>x1++x2) #[] (jh (if aC.toArray.isEmpty=true then 0 else k.toNat) aC.toArray)=(jh k.toNat aC).flatten.toArray:=by
  have f0:∀m:Nat,Qy (fun x1 x2=>x1++x2) #[] (jh m aC.toArray)=(jh m aC).flatten.toArray:=fun m=>by
   have:=foldl_rep aC m [];rw[ni]at this;exact this
  rw[f0];cases aC with
  |nil=>simp
  |cons a r'=>rw[if_neg (by simp)]
 refine wpAny_binaryOp_repeat_ref (T:="list") (U:="int") (by decide) ⟨_,e,rfl⟩ (fun s'=>RQ s' k t) noFill_list_mul F.fills_int_mul F.slot_int_rmul repeat_list F.slot_int_index.lookup (yz F.slot_int_rmul (RQ s k t) F.entry_int_rmul (F.args_int_rmul_2 _ _) (int___rmul___int_list k t l aC.toArray n) ⟨e,rfl,⟨_,e,rfl⟩,yz F.slot_list_mul ⟨_,e,rfl⟩ F.entry_list_mul (F.args_list_mul_2 _ _) (AutoListH.list___mul___list_int_3 l aC.toArray n k t age af3 KN) ⟨e,?_⟩⟩);rw[agT];exact⟨.ref _,_,I.VE (t':=s.toks) (r.rep k.toNat) (by rw[len_rep,Nat.mul_comm];exact hz),rfl,q _ I.fresh⟩
end
section
variable{prog:aV}{w:aQ}{A:bO}{E:af->ao->Prop}{s:ao}
set_option maxRecDepth 100000 in
end
section
variable{X:Cx}
end
theorem Vals.ints:∀{ns:List Int}{us:List af},Vals (ns.map V.int) us->tK us ns
 |[],us,h=>by
  rw[yf]at h;cases h;exact IntsAre.nil
 |n::ns,us,h=>by
  rw[dY]at h;cases h with
  |cons r t=>
   obtain⟨k,rfl⟩:=r;exact IntsAre.cons n k (Vals.ints t)
theorem YN:∀{us:List af}{ns:List Int},tK us ns->Vals (ns.map V.int) us
 |_,_,.nil=>by rw[yf];exact Paired.nil
 |_,_,.cons n t h=>by rw[dY];exact Paired.cons (show RelV (V.int n) (ll n t)from⟨t,rfl⟩) (YN h)
theorem Vals.G9:∀{bs:List Bool}{us:List af},Vals (bs.map V.bl) us->us=bs.map tP
 |[],us,h=>by
  rw[yf]at h;cases h;rfl
 |b::bs,us,h=>by
  rw[dY]at h;cases h with
  |cons r t=>
   cases r;rw[Vals.G9 t,dY]
theorem Vals.ML{a:aa}{us:List af}(r:Vals [V.ref a] us):us=[dm a]:=by
 cases r with
 |cons r t=>
  cases t;cases r;rfl
section
variable{prog:aV}{w:aQ}{A:bO}{E:af->ao->Prop}{s:ao}{l:aa}{aC:List af}{ns:List Int}{Q:af->ao->Prop}
theorem aoC(hh:A.handled=none)(hl:s.heap.IsList l aC.toArray)(hi:tK aC ns)(h:∀h' tk t',(∀b o,s.heap.get? b=some o->h'.get? b=some o)->Q (.int ns.sum t') {s with heap:=h',toks:=tk}):aE (model prog w) A (call (.builtin "sum") [.ref l]) Q E s:=by
 obtain⟨xs,e⟩:=hi.allInts.items;have hn:numsOf (intItems xs).toList=ns:=by rw[<-e];exact hi.numsOf
 rw[nums_intItems]at hn;rw[e]at hl;refine PySem.sum_intListG hh hl fun h' tk t' hk=>?_;have:=h h' tk t' hk;rw[preSum_eq,yi (by simp),hn];exact this
end
section
variable{X:Cx}
def am2(K:aK):List V->Hp->VK->Prop:=fun vs H Q=>∃(a:aa)(ns:List Int),vs=[V.ref a]/\aH K H a (ns.map V.int)/\Q (.int ns.sum) H
theorem SS(hc:X.calm=true):ma X (.builtin "sum") (am2 X.K):=by
 intro pins s σ H vs us Q I r h;obtain⟨a,ns,rfl,hs,q⟩:=h;obtain⟨aC,rv,hl,Z⟩:=I.list hs;rw[Vals.ML r];exact aoC (I.ok.hd hc) hl.isList rv.ints fun h' tk t' hk=>⟨.int _,H,I.kept hk,⟨_,rfl⟩,q⟩
end
section
variable{X:Cx}
end
section
variable{X:Cx}
end
theorem Ve{prog:aV}{w:aQ}{A:bO}{E:af->ao->Prop}{s:ao}{l:aa}{items:Array af}{Q:af->ao->Prop}(hl:s.heap.IsList l items)(h:∀s₂:ao,s₂={s with heap:=s.heap.push {cls:=.type "list_iterator",data:=.fields #[.ref l,.int 0 0]}}->(s₂.heap.IsListIter s.heap.objs.size l 0/\s₂.heap.IsList l items)->l≠s.heap.objs.size->Q (.ref s.heap.objs.size) s₂):aE (model prog w) A (tT (.ref l)) Q E s:=by
 have bI:l<s.heap.objs.size:=by obtain⟨Z,e,Z⟩:=hl;exact cj e
 exact RT hl (h _ rfl ⟨⟨_,dZ _ rfl,rfl,rfl⟩,hl.push _⟩ (dR bI))
theorem YF{prog:aV}{w:aQ}{A:bO}{bs:List Bool}{aC:List af}(e:aC=bs.map tP):TruthOf prog w A (fun i v=>aC.toArray[i]? =some v) (fun i=>bs.getD i false):=fun i v s Q E hv hq=>by
 have Di:aC[i]? =some v:=by simpa using hv
 rw[e,bU]at Di;obtain⟨b,hb,rfl⟩:=ZZ.mp Di;have hg:bs.getD i false=b:=by rw[x9,hb]<;>rfl
 have rX:Q (bs.getD i false) s:=hq;rw[hg]at rX;exact pR rX
theorem any_range:∀bs:List Bool,(cW bs.length).any (fun i=>bs.getD i false)=bs.any id
 |[]=>rfl
 |b::bs=>by
  rw[cy,vx,vp,Qt,vp,<-any_range bs];all_goals rfl
theorem all_range:∀bs:List Bool,(cW bs.length).all (fun i=>bs.getD i false)=bs.all id
 |[]=>rfl
 |b::bs=>by
  rw[cy,vx,ip,A8,ip,<-all_range bs];all_goals rfl
section
variable{X:Cx}
def MI(K:aK):List V->Hp->VK->Prop:=fun vs H Q=>∃(a:aa)(bs:List Bool),vs=[V.ref a]/\aH K H a (bs.map V.bl)/\Q (.bl (bs.any id)) H
def W3(K:aK):List V->Hp->VK->Prop:=fun vs H Q=>∃(a:aa)(bs:List Bool),vs=[V.ref a]/\aH K H a (bs.map V.bl)/\Q (.bl (bs.all id)) H
theorem Ib(hc:X.calm=true):ma X (.builtin "any") (MI X.K):=by
 intro pins s σ H vs us Q I r h;obtain⟨a,bs,rfl,hs,q⟩:=h;obtain⟨aC,rv,hl,Z⟩:=I.list hs;rw[Vals.ML r];have hb:=rv.G9;refine call_any_walk (Ve hl.isList fun s₂ e2 st bL=>?_);subst e2;refine⟨_,_,_,_,_,_,_,rfl,RB (A:=X.A.in1) (I.ok.hd hc) _ a bL aC.toArray,st,YF hb,fun h' tk hk=>?_⟩;refine⟨.bl _,H,I.kept fun b o eo=>hk b o (fun dF=>?_) (cD _ eo),?_,q⟩
 .rcases bX.mp dF with e1|dF
  .exact absurd (e1▸cj eo) (mh _)
  .cases dF
 .show tP _=tP _;rw[<-any_range,hb,eC,bC]
theorem acr(hc:X.calm=true):ma X (.builtin "all") (W3 X.K):=by
 intro pins s σ H vs us Q I r h;obtain⟨a,bs,rfl,hs,q⟩:=h;obtain⟨aC,rv,hl,Z⟩:=I.list hs;rw[Vals.ML r];have hb:=rv.G9;refine call_all_walk (Ve hl.isList fun s₂ e2 st bL=>?_);subst e2;refine⟨_,_,_,_,_,_,_,rfl,RB (A:=X.A.in1) (I.ok.hd hc) _ a bL aC.toArray,st,YF hb,fun h' tk hk=>?_⟩;refine⟨.bl _,H,I.kept fun b o eo=>hk b o (fun dF=>?_) (cD _ eo),?_,q⟩
 .rcases bX.mp dF with e1|dF
  .exact absurd (e1▸cj eo) (mh _)
  .cases dF
 .show tP _=tP _;rw[<-all_range,hb,eC,bC]
end
mutual
inductive Dp(K:aK)(H:Hp):V->qV->Prop
 |aO:Dp K H .aO .none
 |bl (b:Bool):Dp K H (.bl b) (.bool b)
 |int (i:Int):Dp K H (.int i) (.int i)
 |str (x:ah):Dp K H (.str x) (.str x)
 |lst {a:aa} {xs:List V} {ds:List qV}:aH K H a xs->vj K H xs ds->Dp K H (.ref a) (.list ds)
 |tup {a:aa} {xs:List V} {ds:List qV}:cN K H a xs->vj K H xs ds->Dp K H (.ref a) (.tuple ds)
inductive vj(K:aK)(H:Hp):List V->List qV->Prop
 |nil:vj K H [] []
 |cons {v:V} {vs:List V} {d:qV} {ds:List qV}:Dp K H v d->vj K H vs ds->vj K H (v::vs) (d::ds)
end
section
variable{X:Cx}{pins:List (aa×aM)}{σ:St}{H:Hp}{s:ao}
mutual
theorem Dp.reads(I:Inv X pins σ H s):∀(d:qV)(v:V)(u:af),Dp X.K H v d->RelV v u->∃as,Reads s.heap u d as
 | .none,_,_,h,r=>by
  cases h;cases r;exact⟨_,Reads.none⟩
 | .bool b,_,_,h,r=>by
  cases h;cases r;exact⟨_,Reads.bool b⟩
 | .int i,_,_,h,r=>by
  cases h;obtain⟨t,rfl⟩:=r;exact⟨_,Reads.int i t⟩
 | .str x,_,_,h,r=>by
  cases h;obtain⟨t,rfl⟩:=r;exact⟨_,Reads.str x t⟩
 | .list ds,_,_,h,r=>by
  cases h with
  |lst hs ha=>
   cases r;obtain⟨aC,rv,⟨o,n,ho,hc,Z,hd⟩,Z⟩:=I.list hs;obtain⟨as,hr⟩:=Dp.readsAll I ds _ aC ha rv;exact⟨_,Reads.list ho hc hd hr⟩
 | .tuple ds,_,_,h,r=>by
  cases h with
  |tup hs ha=>
   cases r;obtain⟨aC,rv,⟨o,ho,hc,n,hd⟩,Z⟩:=I.tuple hs;obtain⟨as,hr⟩:=Dp.readsAll I ds _ aC ha rv;exact⟨_,Reads.tuple ho hc hd hr⟩
 | .dict _,_,_,h,_=>by cases h
theorem Dp.readsAll(I:Inv X pins σ H s):∀(ds:List qV)(vs:List V)(us:List af),vj X.K H vs ds->Vals vs us->∃as,ReadsAll s.heap us ds as
 |[],_,_,h,r=>by
  cases h;cases r;exact⟨_,ReadsAll.nil⟩
 |d::ds,_,_,h,r=>by
  cases h with
  |cons h1 h2=>
   cases r with
   |cons r1 r2=>
    obtain⟨as,q1⟩:=Dp.reads I d _ _ h1 r1;obtain⟨bs,q2⟩:=Dp.readsAll I ds _ _ h2 r2;exact⟨_,ReadsAll.cons q1 q2⟩
end
end
section
variable{X:Cx}
def amV(K:aK):R2:=fun x y H Q=>∃d e,Dp K H x d/\Dp K H y e/\Ri d=true/\Ri e=true/\Q (.bl (Bx d e)) H
theorem Wo(hu:X.A.units+64<oE):eZ X (hJ .Eq) (amV X.K):=by
 intro pins s σ H x y v u Q I rx ry h;obtain⟨d,e,hd,he,sd,se,q⟩:=h;obtain⟨as,r1⟩:=Dp.reads I d x v hd rx;obtain⟨bs,r2⟩:=Dp.reads I e y u he ry;exact SeqAt.compareEq_shaped r1 r2 sd se hu ⟨.bl _,H,I,rfl,q⟩
end
abbrev Qm(h:aG)(c:aa)(v:Option af):Prop:=h.IsCell c v
def anb(scope sc:e9):e9:={scope with names:=scope.names.map fun(n,k)=>if(k==.free&&sc.kind==.function&&sc.names.lookup n==some .cell)then(n,.cell)else(n,k)}
def gw(cells:List (ah×aa)):List (ah×jL)->List (ah×aa)->List (ah×aa)
 |[],acc=>acc
 |(n,k)::r,acc=>if k==.free then gw cells r ((n,(cells.lookup n).getD 0)::acc)else gw cells r acc
theorem SQ(env:dM)(f:ah×jL->List (ah×aa)->gM (ForInStep (List (ah×aa))))(hf:∀n k c,f (n,k) c=if k==.free then(do let a<-cellOf env n;pure (.yield ((n,a)::c)))else pure (.yield c)):∀(names:List (ah×jL))(acc:List (ah×aa)),(∀y∈names,y.2=.free->∃c,env.cells.lookup y.1=some c)->forIn names acc f=pure (gw env.cells names acc)
 |[],acc,_=>by rw[Zr];rfl
 |(n,k)::r,acc,h=>by
  rw[List.forIn_cons,hf];have ih:=fun acc=>SQ env f hf r acc fun y hy=>h y (el _ hy);unfold gw;by_cases hk:(k==yt)=true
  .rw[if_pos hk,if_pos hk];obtain⟨c,hc⟩:=h (n,k) eB (by simpa using hk);have e:cellOf env n=pure c:=by unfold cellOf;rw[hc]
   rw[e];have e2:(env.cells.lookup n).getD 0=c:=by rw[hc];rfl
   rw[e2];exact ih _
  .rw[if_neg hk,if_neg hk];exact ih _
theorem aco{scope:e9}{env:dM}(h:∀y∈scope.names,y.2=.free->∃c,env.cells.lookup y.1=some c):closureFor scope env=pure (gw env.cells scope.names []):=by
 simp only[closureFor];rw[SQ env _ (fun n k c=>rfl) scope.names [] h];rfl
theorem mem_lookup{α:Type}:∀{l:List (ah×α)}{n:ah}{c:α},(n,c)∈l->∃c',l.lookup n=some c'
 |(k,v)::r,n,c,h=>by
  rw[qI];cases hb:n==k with
  |true=>exact⟨_,rfl⟩
  |false=>
   rcases bX.mp h with e|h
   .cases e;simp at hb
   .exact mem_lookup h
theorem Ck{cells:List (ah×aa)}:∀{names:List (ah×jL)}{acc:List (ah×aa)}{n:ah}{c:aa},(n,c)∈gw cells names acc->(n,c)∈acc\/((n,.free)∈names/\c=(cells.lookup n).getD 0)
 |[],_,_,_,h=> .inl h
 |(m,k)::r,acc,n,c,h=>by
  unfold gw at h;split at h
  .rename_i hk;have hk:k=.free:=by simpa using hk
   rcases Ck h with h|⟨h1,h2⟩
   .rcases bX.mp h with e|h
    .cases e;exact .inr ⟨hk▸eB,rfl⟩
    .exact .inl h
   .exact .inr ⟨el _ h1,h2⟩
  .rcases Ck h with h|⟨h1,h2⟩
   .exact .inl h
   .exact .inr ⟨el _ h1,h2⟩
theorem HZ{cells:List (ah×aa)}:∀{names:List (ah×jL)}{acc:List (ah×aa)}{p:ah×aa},p∈acc->p∈gw cells names acc
 |[],_,_,h=>h
 |(m,k)::r,acc,p,h=>by
  unfold gw;split
  .exact HZ (el _ h)
  .exact HZ h
theorem Ia{cells:List (ah×aa)}:∀{names:List (ah×jL)}{acc:List (ah×aa)}{n:ah},(n,.free)∈names->(n,(cells.lookup n).getD 0)∈gw cells names acc
 |(m,k)::r,acc,n,h=>by
  unfold gw;rcases bX.mp h with e|h
  .cases e;exact HZ eB
  .split
   .exact Ia h
   .exact Ia h
theorem y8:∀{names:List (ah×jL)}{h:aG}{acc:List (ah×aa)}{x:ah}{c:aa},(x,c)∈gr h.objs.size names acc->(x,c)∈acc\/((x,.cell)∈names/\h.objs.size<=c/\Qm (tS h names) c none)
 |[],_,_,_,_,h=> .inl h
 |(n,k)::r,h,acc,x,c,hm=>by
  unfold gr at hm;unfold tS;split at hm
  .rename_i hk;rw[if_pos hk];have hk:k=.cell:=by simpa using hk
   rw[<-kf h {cls:=.type "cell",data:=.cell none}]at hm;rcases y8 hm with hm|⟨h1,h2,h3⟩
   .rcases bX.mp hm with e|hm
    .cases e;exact .inr ⟨hk▸eB,cA _,_,GK r _ _ _ (dZ _ rfl),rfl⟩
    .exact .inl hm
   .rw[kf]at h2;exact .inr ⟨el _ h1,F8 h2,h3⟩
  .rename_i hk;rw[if_neg hk];rcases y8 hm with hm|⟨h1,h2,h3⟩
   .exact .inl hm
   .exact .inr ⟨el _ h1,h2,h3⟩
theorem Cg:∀{names:List (ah×jL)}{n:Nat}{acc:List (ah×aa)}{p:ah×aa},p∈acc->p∈gr n names acc
 |[],_,_,_,h=>h
 |(m,k)::r,n,acc,p,h=>by
  unfold gr;split
  .exact Cg (el _ h)
  .exact Cg h
theorem HU:∀{names:List (ah×jL)}{n:Nat}{acc:List (ah×aa)}{x:ah},(x,.cell)∈names->∃c,(x,c)∈gr n names acc
 |(m,k)::r,n,acc,x,h=>by
  unfold gr;rcases bX.mp h with e|h
  .cases e;exact⟨n,Cg eB⟩
  .split
   .exact HU h
   .exact HU h
theorem HV:∀{names:List (ah×jL)}{h:aG}{acc:List (ah×aa)}{x y:ah}{c:aa},(∀p∈acc,p.2<h.objs.size)->(∀x y c,(x,c)∈acc->(y,c)∈acc->x=y)->(x,c)∈gr h.objs.size names acc->(y,c)∈gr h.objs.size names acc->x=y
 |[],_,_,_,_,_,_,hi,h1,h2=>hi _ _ _ h1 h2
 |(n,k)::r,h,acc,x,y,c,hl,hi,h1,h2=>by
  unfold gr at h1 h2;split at h1
  .rename_i hk;rw[if_pos hk]at h2;rw[<-kf h {cls:=.type "cell",data:=.cell none}]at h1 h2;refine HV (h:=h.push _) (fun p hp=>?_) (fun x y c a b=>?_) h1 h2
   .rw[kf];rcases bX.mp hp with rfl|hp
    .exact yk _
    .exact tH (hl p hp)
   .rcases bX.mp a with e|a<;>rcases bX.mp b with e'|b
    .cases e;cases e';rfl
    .cases e;exact absurd (hl _ b) (mh _)
    .cases e';exact absurd (hl _ a) (mh _)
    .exact hi _ _ _ a b
  .rename_i hk;rw[if_neg hk]at h2;exact HV hl hi h1 h2
theorem ajZ{M:qT}{A:bO}{E:af->ao->Prop}{s:ao}{scope:e9}{globals:aa}{closure:List (ah×aa)}{qual:ah}{func:Option aa}{code:af}{around:dM}{builtins:aa}{Q:dM->ao->Prop}(h:Q (newEnv scope s.heap.objs.size globals (gr (s.heap.objs.size+1) scope.names closure) qual func code (some around) builtins) {s with heap:=tS (s.heap.push {cls:=.type "dict",data:=.dict #[]}) scope.names}):aE M A (newFunctionEnv scope globals closure [] qual func code (some around) builtins) Q E s:=by
 simp only[newFunctionEnv,ZY,if_true];refine aB (wpAny_alloc ?_);refine aB (wpAny_layCells _ (fun n k c=>rfl) scope.names closure _ _ ?_);rw[show({s with heap:=s.heap.push {cls:=.type "dict",data:=.dict #[]}}:ao).heap.objs.size=s.heap.objs.size+1 from kf ..];rw[Zr];exact aB (bz (bz h))
theorem LD{sc:e9}:∀{names:List (ah×jL)}{x:ah}{k:jL},(names.map fun(n,k)=>if(k==yt&&sc.kind==.function&&sc.names.lookup n==some .cell)then(n,Rf)else(n,k)).lookup x=some k->∃k',names.lookup x=some k'/\(k=k'\/(k'=.free/\k=.cell))
 |[],_,_,h=>by simp at h
 |(n,k₀)::r,x,k,h=>by
  have ih:=@LD sc r x k;have h':tE x ((if(k₀==yt&&sc.kind==.function&&sc.names.lookup n==some .cell)=true then(n,Rf)else(n,k₀))::(r.map _))=some k:=h;cases hx:x==n with
  |true=>
   simp only[qI,hx];by_cases hc:(k₀==yt&&sc.kind==.function&&sc.names.lookup n==some .cell)=true
   .rw[if_pos hc]at h';simp only[qI,hx]at h';cases h';simp only[cH,beq_iff_eq]at hc;exact⟨k₀,rfl,.inr ⟨hc.1.1,rfl⟩⟩
   .rw[if_neg hc]at h';simp only[qI,hx]at h';cases h';exact⟨_,rfl,.inl rfl⟩
  |false=>
   simp only[qI,hx];by_cases hc:(k₀==yt&&sc.kind==.function&&sc.names.lookup n==some .cell)=true
   .rw[if_pos hc]at h';simp only[qI,hx]at h';exact ih h'
   .rw[if_neg hc]at h';simp only[qI,hx]at h';exact ih h'
structure xY(N:List ah)(sc scope:e9)(own:List (ah×Nat)):Prop where
 kind:scope.kind=.function
 uniq:∀y∈scope.names,scope.names.lookup y.1=some y.2
 ix:∀p∈own,N[p.2]? =some p.1
 free:∀y∈scope.names,y.2=.free->sc.names.lookup y.1=some .cell\/sc.names.lookup y.1=some .free
 own:∀y∈scope.names,y.2=.local\/y.2=.cell->y.1∈own.map (·.1)\/y.1∉N
def wipe(σ:St):List Nat->St
 |[]=>σ
 |v::vs=>(wipe σ vs).set v none
theorem Qc(σ:St):∀vs:List Nat,(wipe σ vs).length=σ.length
 |[]=>rfl
 |v::vs=>by unfold wipe;rw[Bg,Qc σ vs]
theorem Qe{σ:St}{i:Nat}{x:V}:∀{vs:List Nat},(wipe σ vs)[i]? =some (some x)->σ[i]? =some (some x)/\i∉vs
 |[],h=>⟨h,by simp⟩
 |v::vs,h=>by
  unfold wipe at h;by_cases hi:v=i
  .subst hi;by_cases hv:v<(wipe σ vs).length
   .rw[QA hv]at h;cases h
   .rw[ow (by simpa using hv)]at h;cases h
  .rw[Qz hi]at h;obtain⟨h1,h2⟩:=Qe h;exact⟨h1,by simp only[bX,not_or];exact⟨fun e=>hi e.symm,h2⟩⟩
abbrev Cx.ia(X:Cx)(s:ao)(H:Hp)(scope:e9)(eG:dM)(fp:List aa):Cx:={X with gF:=s,H_0:=H,env:=eG,outer:=X.stack,ex:=fp,fn:=fun x=>scope.names.lookup x==some .cell,pn:=[],xe:=fun Z Z=>False}
section
variable{X:Cx}{pins:List (aa×aM)}{σ:St}{H:Hp}{s:ao}
theorem abM{scope:e9}{own:List (ah×Nat)}{fp:List aa}(I:Inv X pins σ H s)(ok:xY X.N X.env.scope scope own)(hN:X.N.Nodup)(rS:∀b∈fp,ou X pins H b/\b<s.heap.objs.size):Inv (X.ia s H scope (mq scope (gr (s.heap.objs.size+1) scope.names (gw X.env.cells scope.names [])) s.heap.objs.size X.env) fp) [] (wipe σ (own.map (·.2))) H {s with heap:=tS (s.heap.push {cls:=.type "dict",data:=.dict #[]}) scope.names}:=by
 have wM:∀y∈scope.names,y.2=.free->∃c,X.env.cells.lookup y.1=some c:=fun y hy e=>by
  rcases ok.free y hy e with k|k
  .exact I.ok.has _ (.inl k)
  .exact I.ok.has _ (.inr k)
 generalize zl:mq scope (gr (s.heap.objs.size+1) scope.names (gw X.env.cells scope.names [])) s.heap.objs.size X.env=eG;have kp:∀b o,s.heap.get? b=some o->(tS (s.heap.push {cls:=.type "dict",data:=.dict #[]}) scope.names).get? b=some o:=fun b o e=>GK _ _ _ _ (cD _ e);have hL:eG.locals=s.heap.objs.size:=by rw[<-zl];rfl
 have jv:eG.cells=gr (s.heap.objs.size+1) scope.names (gw X.env.cells scope.names []):=by rw[<-zl];rfl
 have uE:eG.scope=anb scope X.env.scope:=by rw[<-zl];rfl
 rw[<-kf s.heap {cls:=.type "dict",data:=.dict #[]}]at jv;have cm:∀{y c},(y,c)∈gw X.env.cells scope.names []->X.env.cells.lookup y=some c/\c<s.heap.objs.size:=fun{y c} hm=>by
  rcases Ck hm with hm|⟨h1,rfl⟩
  .cases hm
  .obtain⟨c,hc⟩:=wM _ h1 rfl;rw[hc];obtain⟨w,z⟩:=I.cell _ _ hc;exact⟨rfl,z.lt⟩
 have mem:∀{y c},eG.cells.lookup y=some c->(X.env.cells.lookup y=some c/\c<s.heap.objs.size)\/(s.heap.objs.size+1<=c/\Qm (tS (s.heap.push {cls:=.type "dict",data:=.dict #[]}) scope.names) c none):=fun{y c} e=>by
  rw[jv]at e;rcases y8 (ki e)with hm|⟨_,h2,h3⟩
  .exact .inl (cm hm)
  .rw[kf]at h2;exact .inr ⟨h2,h3⟩
 have look:∀{y},scope.names.lookup y=some .free->∃c,eG.cells.lookup y=some c/\X.env.cells.lookup y=some c:=fun{y} hl=>by
  have hy:(y,yt)∈scope.names:=ki hl;obtain⟨c',e'⟩:=mem_lookup (Cg (names:=scope.names) (n:=(s.heap.push {cls:=.type "dict",data:=.dict #[]}).objs.size) (Ia (cells:=X.env.cells) (acc:=[]) hy));rw[<-jv]at e';refine⟨c',e',?_⟩;rw[jv]at e';rcases y8 (ki e')with hm|⟨h1,_,_⟩
  .exact(cm hm).1
  .have:=ok.uniq _ h1;rw[hl]at this;cases this
 have okB:(X.ia s H scope eG fp).Ok:=by
  refine⟨I.ok.mod,by show eG.scope.kind=_;rw[uE];exact ok.kind,by show eG.globals=_;rw[<-zl];exact I.ok.glob,by show eG.builtins=_;rw[<-zl];exact I.ok.blt,by show s.heap.objs.size<=eG.locals;rw[hL];exact cA _,fun y z c e1 e2=>?_,fun y hy=>?_,fun y c z e=>?_,I.ok.hd,I.ok.frames,.inl rfl,fun b hb=>⟨?_,fun y c e z=>?_⟩,I.bs,fA I.ok.mG I.sz,fun b o e hb=>?_,fun b hb z=>?_,I.stack,I.AX⟩
  .have e1:eG.cells.lookup y=some c:=e1;have e2:eG.cells.lookup z=some c:=e2;rw[jv]at e1 e2;refine HV (fun p hp=>?_) (fun y z c a b=>I.ok.inj y z c (cm a).1 (cm b).1) (ki e1) (ki e2);rw[kf];exact tH (cm (y:=p.1) (c:=p.2) hp).2
  .show∃c,eG.cells.lookup y=some c;have key:∀k,eG.kindOf y=some k->(k=.cell\/k=.free)->∃c,eG.cells.lookup y=some c:=fun k hk zy=>by
    unfold Env.kindOf at hk;rw[uE]at hk;obtain⟨k',e,r⟩:=LD hk;have:k'=.cell\/k'=.free:=by
     rcases r with rfl|⟨rfl,_⟩
     .exact zy
     .exact .inr rfl
    rcases this with rfl|rfl
    .obtain⟨c,hm⟩:=HU (n:=(s.heap.push {cls:=.type "dict",data:=.dict #[]}).objs.size) (acc:=gw X.env.cells scope.names []) (ki e);obtain⟨c',e'⟩:=mem_lookup hm;exact⟨c',by rw[jv];exact e'⟩
    .obtain⟨c,h1,Z⟩:=look e;exact⟨c,h1⟩
   rcases hy with hy|hy
   .exact key _ hy (.inl rfl)
   .exact key _ hy (.inr rfl)
  .have z:(scope.names.lookup y==some Rf)=true:=z;have z:scope.names.lookup y=some .cell:=by simpa using z
   have e:eG.cells.lookup y=some c:=e;rw[jv]at e;rcases y8 (ki e)with hm|⟨_,h2,_⟩
   .rcases Ck hm with hm|⟨h1,_⟩
    .cases hm
    .have q:=ok.uniq _ h1;rw[z]at q;cases q
   .rw[kf]at h2;exact F8 h2
  .show b≠eG.locals;rw[hL];exact dR (rS b hb).2
  .have e:eG.cells.lookup y=some c:=e;rcases mem e with⟨h1,_⟩|⟨h1,_⟩
   .exact(rS b hb).1.2.2.2.2.1 y c h1 z
   .have h2:s.heap.objs.size+1<=b:=by rw[<-z];exact h1
    exact absurd (g7 (rS b hb).2 (F8 h2)) (mh _)
  .rcases(rS b hb).1.2.2.2.1 with z|z
   .exact I.ok.sC b o e z
   .exact absurd (g7 (cj e) (fA I.ok.mG z)) (mh _)
  .rcases bX.mp (I.Pp b z)with z|z
   .exact(rS b hb).1.2.1 z
   .exact(rS b hb).1.2.2.1 z
 refine⟨okB,rfl,I.bare,Un.kept kp,⟨fun Z=>none,?_,fun i y av e1 e2 e3=>?_⟩,fun y c e=>?_,?_,fun y c e=>?_,fun p hp=>?_,I.aT.kept kp,by rw[Qc];exact I.len⟩
 .show Heap.Ns _ eG.locals _;rw[hL];exact Heap.Ns.keeps (Heap.Ns.new ..) fun b o e=>GK _ _ _ _ e
 .obtain⟨e2,bL⟩:=Qe e2;have gW:scope.names.lookup y=some .free/\(eG.kindOf y=some .cell\/eG.kindOf y=some .free):=by
   have key:∀k,eG.scope.names.lookup y=some k->k=.local\/k=.cell\/k=.free->scope.names.lookup y=some .free/\(eG.kindOf y=some .cell\/eG.kindOf y=some .free):=fun k hk zy=>by
    have UA:=hk;rw[uE]at hk;obtain⟨k',e,r⟩:=LD hk;have no:¬(k'=.local\/k'=.cell):=fun hh=>by
     rcases ok.own _ (ki e) hh with e'|e'
     .obtain⟨p,hp,hpy⟩:=dI.mp e';have e3:=ok.ix p hp;have:p.1=y:=hpy;rw[this]at e3;exact bL (dI.mpr ⟨p,hp,L5 hN e3 e1⟩)
     .exact e' (jf e1)
    rcases r with rfl|⟨rfl,rfl⟩
    .rcases zy with rfl|rfl|rfl
     .exact absurd (.inl rfl) no
     .exact absurd (.inr rfl) no
     .exact⟨e,.inr UA⟩
    .exact⟨e,.inl UA⟩
   have e3:we eG.scope y:=e3;rcases e3 with e3|e3|e3
   .exact key _ e3 (.inl rfl)
   .exact key _ e3 (.inr (.inl rfl))
   .exact key _ e3 (.inr (.inr rfl))
  obtain⟨m,hn,hl⟩:=I.loc;have ahs:we X.env.scope y:=(ok.free _ (ki gW.1) rfl).elim (fun k=> .inr (.inl k)) (fun k=> .inr (.inr k));obtain⟨w,r,q⟩:=hl i y av e1 e2 ahs;refine⟨w,r,.inr ⟨gW.2,?_⟩⟩;obtain⟨c,h1,h2⟩:=look gW.1;rcases q with⟨k,_⟩|⟨_,c',e',z⟩
  .have k:X.env.scope.names.lookup y=some .local:=k;rcases ok.free _ (ki gW.1) rfl with k'|k'<;>rw[show X.env.scope.names.lookup y=_ from k']at k<;>cases k
  .rw[h2]at e';cases e';exact⟨c,h1,z.keeps kp⟩
 .have e:eG.cells.lookup y=some c:=e;rcases mem e with⟨h1,_⟩|⟨_,z⟩
  .obtain⟨w,z⟩:=I.cell y c h1;exact⟨w,z.keeps kp⟩
  .exact⟨_,z⟩
 .show H eG.locals=none;rw[hL];exact I.aT.fresh (cA _)
 .have e:eG.cells.lookup y=some c:=e;rcases mem e with⟨h1,_⟩|⟨h1,_⟩
  .exact I.ic y c h1
  .exact I.aT.fresh (F8 h1)
 .exact absurd (show p∈([]:List (aa×aM))++[]from hp) (by simp)
theorem abn{E:af->ao->Prop}{D:aa}{xs:List V}{y:V}{v:af}{Q:af->ao->Prop}(I:Inv X pins σ H s)(hD:H D=some (.lst xs))(hz:xs.length<sizeLine)(r:RelV y v)(h:∀s',Inv X pins σ (upd H D (.lst (xs++[y]))) s'->Q .none s'):aE (model X.prog X.w) X.A (call (.builtin "list.append") [.ref D,v]) Q E s:=by
 obtain⟨hz',aC,n,ri,e⟩:=I.aT D _ hD;have hl:=ri.length;refine append_at (hsz:=by rw[eC];lia) e fun h' sb iV=>?_;refine h {s with heap:=h'} (I.write (t':=s.toks) (by rw[hD];trivial) (.inl rfl) (fun b u hb q=>(sb.2 b hb).trans q) ⟨_,iV⟩ ⟨by rw[cY];exact hz,aC++[v],n+1,ri.append (.cons r .nil),?_⟩);rw[iV];simp
def yn(X:Cx)(ifs:List bw)(t:TT):Prop:=∀(pins:List (aa×aM))(s:ao)(σ:St)(H:Hp)(Q:Bool->Hp->Prop),Inv X pins σ H s->t σ H Q->aE (model X.prog X.w) X.A (forIn ifs true fun c r=>if r=true then do let ok<-BJ c X.env (eval c X.env);pure (Fw ok)else pure (Fw r)) (TP X pins σ Q) X.xe s
def qC:TT:=fun Z H Q=>Q true H
theorem ft:yn X [] qC:=fun Z Z Z H Z I h=>wpAny_tests_nil ⟨H,I,h⟩
theorem MD{c:bw}{t:TT}(h:PT X c t):yn X [c] t:=fun pins s σ H Q I hw=>wpAny_tests_one (h pins s σ H Q I hw)
end
theorem xR{α:Type}{t:gM α}{Q Q':α->ao->Prop}{M:qT}{A:bO}{E:af->ao->Prop}{s:ao}(h:aE M A t Q (fun Z Z=>False) s)(hQ:∀a s,Q a s->Q' a s):aE M A t Q' E s:=jl h hQ fun Z Z z=>fN z
theorem acq{prog:aV}{w:aQ}{A:bO}{R:tO->ao->Prop}{s:ao}{elt target iter:bw}{ifs:List bw}{scope:e9}{pos:b4}{it acc:af}{env:dM}(I:Nat->ao->Prop)(turn:∀n s,I n s->aE (model prog w) A (jj it) (fun r s₁=>match r with
   |none=>R (.ok .next) s₁
   |some v=>aE (model prog w) A (GJ target it v) (fun Z s₁'=>aE (model prog w) A (assign target env v) (fun Z s₂=>
    aE (model prog w) A (forIn ifs true fun c r=>if r=true then do let ok<-BJ c env (eval c env);pure (Fw ok)else pure (Fw r)) (fun ok s₃=>
     if ok=true then aE (model prog w) A (eval elt env) (fun x s₄=>
      aE (model prog w) A (call (.builtin "list.append") [acc,x]) (fun Z s₅=>∃m,m<n/\I m s₅) (yH (model prog w) A env fun e s'=>R (.error e) s') s₄) (yH (model prog w) A env fun e s'=>R (.error e) s') s₃
     else∃m,m<n/\I m s₃) (yH (model prog w) A env fun e s'=>R (.error e) s') s₂) (yH (model prog w) A env fun e s'=>R (.error e) s') s₁') (yH (model prog w) A env fun e s'=>R (.error e) s') s₁) (yH (model prog w) A env fun e s'=>R (.error e) s') s) (n:Nat) (h:I n s):nj (model prog w) A (.compLoop (.ListComp elt [⟨target,iter,ifs,0⟩] scope pos) 0 it acc env) R s:=by
 refine codeAny_loop rfl I (fun n s hI=>?_) n h;show aE _ A ((compTurn (.ListComp elt [⟨target,iter,ifs,0⟩] scope pos) 0 it acc env).onRaise (fun x=>do BK x env;theTreesLotGoes x)) _ _ s;refine wpAny_noted ?_;rw[compTurn_list];refine aB (BU (aB (jl (turn n s hI) (fun r s₁ h₁=>?_) fun Z Z h'=>h')));cases r with
 |none=>exact bz h₁
 |some v=>
  refine aB (jl h₁ (fun Z s₁' h₁'=>?_) fun Z Z h'=>h');refine aB (jl h₁' (fun Z s₂ h₂=>aB (jl h₂ (fun ok s₃ h₃=>?_) fun Z Z h'=>h')) fun Z Z h'=>h');cases ok with
  |false=>exact bz ⟨rfl,h₃⟩
  |true=>
   exact aB (aB (jl h₃ (fun x s₄ h₄=>aB (jl h₄ (fun Z s₅ h₅=>bz (bz ⟨rfl,h₅⟩)) fun Z Z h'=>h')) fun Z Z h'=>h'))
section
variable{X:Cx}
def kT(wi:TI)(g:TG)(tt:TT)(te:TE)(vs:List Nat):TE:=fun σ H Q=>wi σ H fun J H1=>∀D,H1 D=none->∃W:Nat->Nat->Hp->Prop,(∃m,W 0 m (upd H1 D (.lst [])))/\∀i m H,W i m H->(J.stop i H/\Q (.ref D) H)\/(J.go i H/\∃Nx:Hp->Prop,(∀H',Nx H'->∃m',m'<m/\W (i+1) m' H')/\∀x H',J.tj i H x H'->g x (wipe σ vs) H' fun σ2 H2=>wipe σ2 vs=wipe σ vs/\tt σ2 H2 fun b H3=>if b=true then te σ2 H3 fun y H4=>∃acc,H4 D=some (.lst acc)/\acc.length<sizeLine/\Nx (upd H4 D (.lst (acc++[y])))else Nx H3)
theorem Vx{pins:List (aa×aM)}{s:ao}{σ:St}{H:Hp}{Q:VK}{elt tg iter:bw}{ifs:List bw}{scope:e9}{own:List (ah×Nat)}{pos pos':b4}{wi:TI}{g:TG}{tt:TT}{te:TE}{use:Option (af->gM Unit)}{Qf:af->ao->Prop}(hc:X.calm=true)(hN:X.N.Nodup)(I:Inv X pins σ H s)(hi:PI X tg iter wi)(ok:xY X.N X.env.scope scope own)(hg:∀(s:ao)(H:Hp)(C:aa)(cl:List (ah×aa))(fp:List aa),PG (X.ia s H scope (mq scope cl C X.env) fp) tg g)(ht:∀(s:ao)(H:Hp)(C:aa)(cl:List (ah×aa))(fp:List aa),yn (X.ia s H scope (mq scope cl C X.env) fp) ifs tt)(he:∀(s:ao)(H:Hp)(C:aa)(cl:List (ah×aa))(fp:List aa),PE (X.ia s H scope (mq scope cl C X.env) fp) elt te)(hs:∀x,GI iter X.env x=pure x)(h:kT wi g tt te (own.map (·.2)) σ H Q)(hRR:∀D C s' m H',Inv X pins σ H' s'->Q (.ref D) H'->s'.heap.Ns C m->ou X pins H' C->compPost (model X.prog X.w) X.A X.xe use Qf (.ref D) C (.ok .next) s'):aE (model X.prog X.w) X.A (comprehension (.ListComp elt [⟨tg,iter,ifs,0⟩] scope pos) scope X.env pos' (newList []) false (eval iter X.env) use) Qf X.xe s:=by
 have wM:∀y∈scope.names,y.2=.free->∃c,X.env.cells.lookup y.1=some c:=fun y hy e=>by
  rcases ok.free y hy e with k|k
  .exact I.ok.has _ (.inl k)
  .exact I.ok.has _ (.inr k)
 refine wpAny_comprehension_free (use:=use) rfl hs (aco wM) ok.kind (fun y hy e=>by rw[ok.uniq y hy,e]) (bo (hi pins s σ H _ I h) fun xv s1 hx=>bo hx fun Lq s2 h2=>?_);obtain⟨it,fp,tn,J,H2,e,I2,T,EZ,f2,q⟩:=h2;subst e;refine rp (ajZ ?_) (by show 0<=sizeLine;decide);generalize hD:s2.heap.objs.size=D;have hDn:H2 D=none:=I2.aT.fresh (yj hD);obtain⟨W,⟨m0,w0⟩,turn⟩:=q D hDn;generalize zM:({s2 with heap:=s2.heap.push {cls:=.type "list",data:=.seq ([]:List af).toArray}}:ao)=s3;have I3:Inv X pins σ (upd H2 D (.lst [])) s3:=by
  rw[<-zM];refine I2.laid (t':=s2.toks) (fun b o e=>cD _ e) (yj hD) ⟨dJ _,[],0,.nil,?_⟩;rw[<-hD];exact dZ _ rfl
 have h3:s3.heap=s2.heap.push {cls:=.type "list",data:=.seq ([]:List af).toArray}:=by rw[<-zM]
 have sz:∀b∈fp,b<s2.heap.objs.size:=fun b hb=>by
  obtain⟨o,e,Z⟩:=T.obj _ _ EZ b hb;exact cj e
 have f3:∀b∈fp,ou X pins (upd H2 D (.lst [])) b/\b<s3.heap.objs.size:=fun b hb=>by
  have bI:=sz b hb;refine⟨⟨?_,(f2 b hb).2⟩,by rw[h3,kf];exact tH bI⟩;rw[ba (by rw[<-hD];exact dR bI)];exact(f2 b hb).1
 have E1:tn 0 s3.heap:=T.keep _ _ _ EZ fun b Z o e=>by rw[h3];exact cD _ e
 have I4:=abM I3 ok hN f3;have pg:=hg s3 (upd H2 D (.lst [])) s3.heap.objs.size (gr (s3.heap.objs.size+1) scope.names (gw X.env.cells scope.names [])) fp;have pt:=ht s3 (upd H2 D (.lst [])) s3.heap.objs.size (gr (s3.heap.objs.size+1) scope.names (gw X.env.cells scope.names [])) fp;have pe:=he s3 (upd H2 D (.lst [])) s3.heap.objs.size (gr (s3.heap.objs.size+1) scope.names (gw X.env.cells scope.names [])) fp;show nj _ _ (.compStart (.ListComp elt [⟨tg,iter,ifs,0⟩] scope pos) 0 (.ref it) (.ref D) (mq scope (gr (s3.heap.objs.size+1) scope.names (gw X.env.cells scope.names [])) s3.heap.objs.size X.env)) (compPost (model X.prog X.w) X.A X.xe use Qf (.ref D) s3.heap.objs.size) {s3 with heap:=tS (s3.heap.push {cls:=.type "dict",data:=.dict #[]}) scope.names};have V3:∀b∈fp,(upd H2 D (.lst [])) b=none:=fun b hb=>(f3 b hb).1.1;generalize hce:mq scope (gr (s3.heap.objs.size+1) scope.names (gw X.env.cells scope.names [])) s3.heap.objs.size X.env=ce at I4 pg pt pe ⊢;have cL:ce.locals=s3.heap.objs.size:=by subst hce;rfl
 generalize hH3:upd H2 D (.lst [])=H3 at I3 I4 pg pt pe w0 V3 f3;generalize K9:({s3 with heap:=tS (s3.heap.push {cls:=.type "dict",data:=.dict #[]}) scope.names}:ao)=s4 at I4 ⊢;have Ye:tn 0 s4.heap:=T.keep _ _ _ E1 fun b Z o e=>by rw[<-K9];exact GK _ _ _ _ (cD _ e)
 have vc:∀{σ':St}{H':Hp}{s':ao},Inv (X.ia s3 H3 scope ce fp) [] σ' H' s'->(∀b∈fp,H' b=none)->∀b∈fp,ou (X.ia s3 H3 scope ce fp) [] H' b:=fun{σ' H' s'} I' hn b hb=>⟨hn b hb,(I'.ok.uc b hb).1,I'.ok.rL b hb,.inl hb,fun x c e=>(I'.ok.uc b hb).2 x c e,fun p hp=>absurd (show p∈([]:List (aa×aM))++[]from hp) (by simp)⟩;have loop:nj (model X.prog X.w) X.A (.compLoop (.ListComp elt [⟨tg,iter,ifs,0⟩] scope pos) 0 (.ref it) (.ref D) ce) (compPost (model X.prog X.w) X.A X.xe use Qf (.ref D) s3.heap.objs.size) s4:=by
  refine acq (fun n s'=>∃i H',Inv (X.ia s3 H3 scope ce fp) [] (wipe σ (own.map (·.2))) H' s'/\tn i s'.heap/\(∀b∈fp,H' b=none)/\W i n H') ?_ m0 ⟨0,H3,I4,Ye,V3,w0⟩;rintro n s5 ⟨i,H5,I5,xN,n5,w5⟩;rcases turn i n H5 w5 with⟨stop,qq⟩|⟨go,Nx,hNx,step⟩
  .have td:=T.done (X.ia s3 H3 scope ce fp) rfl rfl rfl hc i [] s5 _ H5 (fun Z Z=>False) I5 (vc I5 n5) xN stop;refine xR td fun r s6 ⟨hr,I6⟩=>?_;subst hr;have I7:Inv X pins σ H5 s6:=I3.HQ (ch:=fp) I6.os I6.base I6.aT I6.bare fun b hb=>⟨(f3 b hb).1.2.2.2.1,(f3 b hb).1.2.1,(f3 b hb).1.2.2.2.2.1,(f3 b hb).1.2.2.2.2.2⟩;have nC:H5 s3.heap.objs.size=none:=by
    have z:H5 ce.locals=none:=I6.free;rw[cL]at z;exact z
   obtain⟨m,hn,Z⟩:=I6.loc;have hn:s6.heap.Ns ce.locals m:=hn;rw[cL]at hn;exact hRR D s3.heap.objs.size s6 m H5 I7 qq hn (I3.CB (cA _) nC)
  .have ti:=T.item (X.ia s3 H3 scope ce fp) rfl rfl rfl hc i [] s5 _ H5 (fun Z Z=>False) I5 (vc I5 n5) xN go;refine xR ti fun r s6 ⟨u,hr,h6⟩=>?_;subst hr;refine xR h6 fun Z s7 ⟨x,H7,I7,r7,y7,Po,n7⟩=>?_;have Zb:=I7.pinned (vc I7 n7) (T.obj _ _ Po);refine xR (pg _ s7 _ H7 x u _ Zb r7 (step x H7 y7)) fun Z s8 ⟨σ8,H8,I8,U2,q8⟩=>?_;refine xR (pt _ s8 σ8 H8 _ I8 q8) fun b s9 ⟨H9,I9,q9⟩=>?_;have fin:∀{s':ao}{H':Hp},Inv (X.ia s3 H3 scope ce fp) ([]++Au fp s7.heap) σ8 H' s'->Nx H'->∃m,m<n/\∃i H',Inv (X.ia s3 H3 scope ce fp) [] (wipe σ (own.map (·.2))) H' s'/\tn i s'.heap/\(∀b∈fp,H' b=none)/\W i m H':=fun{s' H'} I' nx=>by
    obtain⟨m',hm,w'⟩:=hNx H' nx;have WL:∀b∈fp,∀o,s7.heap.get? b=some o->s'.heap.get? b=some o/\H' b=none:=fun b hb o e=>let z:=I'.pin (b,o) (qJ _ (qJ _ (LQ hb e)));⟨z.1,z.2.1⟩
    have hl:(wipe σ (own.map (·.2))).length=σ8.length:=by rw[<-U2,Qc]
    refine⟨m',hm,i+1,H',(I'.E9 (pins:=[])).weak hl (fun j v e=>?_),T.keep _ _ _ Po fun b hb o e=>(WL b hb o e).1,fun b hb=>?_,w'⟩
    .rw[<-U2]at e;exact(Qe e).1
    .obtain⟨o,e,Z⟩:=T.obj _ _ Po b hb;exact(WL b hb o e).2
   cases b with
   |false=>
    simp only[Fq,if_false]at q9 ⊢;exact fin I9 q9
   |true=>
    simp only[if_true]at q9 ⊢;refine xR (pe _ s9 σ8 H9 _ I9 q9) fun z sI ⟨yv,H10,Y8,r10,acc,afH,ahF,nx⟩=>?_;exact abn (X:=X.ia s3 H3 scope ce fp) Y8 afH ahF r10 fun xy Y9=>fin Y9 nx
 exact codeAny_compStart_list loop (T.self X.A 0 _ _ _ Ye loop)
theorem fq{elt tg iter:bw}{ifs:List bw}{scope:e9}{own:List (ah×Nat)}{pos:b4}{wi:TI}{g:TG}{tt:TT}{te:TE}(hc:X.calm=true)(hN:X.N.Nodup)(hi:PI X tg iter wi)(ok:xY X.N X.env.scope scope own)(hg:∀(s:ao)(H:Hp)(C:aa)(cl:List (ah×aa))(fp:List aa),PG (X.ia s H scope (mq scope cl C X.env) fp) tg g)(ht:∀(s:ao)(H:Hp)(C:aa)(cl:List (ah×aa))(fp:List aa),yn (X.ia s H scope (mq scope cl C X.env) fp) ifs tt)(he:∀(s:ao)(H:Hp)(C:aa)(cl:List (ah×aa))(fp:List aa),PE (X.ia s H scope (mq scope cl C X.env) fp) elt te)(hs:∀x,GI iter X.env x=pure x:=by intro _;rfl):PE X (.ListComp elt [⟨tg,iter,ifs,0⟩] scope pos) (kT wi g tt te (own.map (·.2))):=by
 intro pins s σ H Q I h;rw[eval_ListComp];refine Vx hc hN I hi ok hg ht he hs h fun D C s' m H' I' q hn f=>⟨m,hn,fun pY sb=>?_⟩;obtain⟨f0,f1,f2,f3,f4,f5⟩:=f;exact⟨.ref D,H',I'.turned (t':=s'.toks) (fun b o hb e=>(sb.2 b hb).trans e) f0 f1 f3 f4 f5,rfl,q⟩
theorem MC{i:Nat}{y:ah}{py:b4}{elt tg iter:bw}{ifs:List bw}{scope:e9}{own:List (ah×Nat)}{pos Yd:b4}{wi:TI}{g:TG}{tt:TT}{te:TE}(hc:X.calm=true)(hN:X.N.Nodup)(hy:X.N[i]? =some y)(Lg:X.env.scope.names.lookup y=some .local)(hsw:vS (.ListComp elt [⟨tg,iter,ifs,0⟩] scope pos) (some (.Name y py)) Yd.line X.env=pure true)(hi:PI X tg iter wi)(ok:xY X.N X.env.scope scope own)(hg:∀(s:ao)(H:Hp)(C:aa)(cl:List (ah×aa))(fp:List aa),PG (X.ia s H scope (mq scope cl C X.env) fp) tg g)(ht:∀(s:ao)(H:Hp)(C:aa)(cl:List (ah×aa))(fp:List aa),yn (X.ia s H scope (mq scope cl C X.env) fp) ifs tt)(he:∀(s:ao)(H:Hp)(C:aa)(cl:List (ah×aa))(fp:List aa),PE (X.ia s H scope (mq scope cl C X.env) fp) elt te)(hs:∀x,GI iter X.env x=pure x:=by intro _;rfl):PS X (.Assign [.Name y py] (.ListComp elt [⟨tg,iter,ifs,0⟩] scope pos) Yd) (cE (kT wi g tt te (own.map (·.2))) (b7 i)):=by
 intro pins s σ H D I h;rw[exec_Assign_Name_used _ _ _ _ hsw];refine aB (BU (aB ?_));show aE _ X.A (do let _<-comprehension (.ListComp elt [⟨tg,iter,ifs,0⟩] scope pos) scope X.env (firstIterPos [⟨tg,iter,ifs,0⟩] pos) (newList []) false (eval iter X.env) (some (assign (.Name y py) X.env))) _ _ s;have h:kT wi g tt te (own.map (·.2)) σ H (fun x H1=>b7 i x σ H1 D.nx):=h;refine aB (bo (Vx (Qf:=fun Z s'=>SP X pins D .next s') hc hN I hi ok hg ht he hs h fun L C s' m H' I' q hn f=>?_) fun Z s' hq=>bz (bz hq));show aE _ _ (assign (.Name y py) X.env (.ref L)) _ _ _;refine wpAny_assign_Name (Yg (v:=V.ref L) I' hN hy (.inl Lg) rfl (fun s2 I2 ⟨a,sb,ha⟩=>?_) (.inr Lg));obtain⟨f0,f1,f2,f3,f4,f5⟩:=f;have haC:C≠a:=by
  rcases ha with z|z
  .rw[z];exact f1
  .exact fun e=>f4 y a z e.symm
 refine⟨m,hn.sameBut sb haC,fun h3 sb3=>?_⟩;exact⟨_,H',I2.turned (t':=s2.toks) (fun b o hb e=>(sb3.2 b hb).trans e) f0 f1 f3 f4 f5,q⟩
theorem Pu{elt:bw}{gs:List Comprehension}{scope:e9}{pos py:b4}{y:ah}{l:Nat}{env:dM}(hk:env.scope.kind=.function)(hy:env.scope.names.lookup y=some .local)(hl:(py.line==pos.line)=true)(ha:(scope.names.any fun(n,k)=>n==y&&(k==.local||k==.cell))=false):vS (.ListComp elt gs scope pos) (some (.Name y py)) l env=pure true:=by
 have ky:env.kindOf y=some .local:=hy;have hb:env.blockKind=.function:=by unfold Env.blockKind;rw[hk];rfl
 unfold vS;simp only[hb,ky,ha,show Expr.pos (.Name y py)=py from rfl,show Expr.pos (.ListComp elt gs scope pos)=pos from rfl,hl];rfl
end
theorem VA{lo:Int}{n:Nat}{g:TG}{tt:TT}{te:TE}{vs:List Nat}{σ:St}{H1:Hp}{D:aa}{Qd:Hp->Prop}(Pv:Nat->Hp->Prop)(h0:Pv 0 (upd H1 D (.lst [])))(hs:∀i H,i<n->Pv i H->g (.int (lo+i)) (wipe σ vs) H fun σ2 H2=>wipe σ2 vs=wipe σ vs/\tt σ2 H2 fun b H3=>if b=true then te σ2 H3 fun y H4=>∃acc,H4 D=some (.lst acc)/\acc.length<sizeLine/\Pv (i+1) (upd H4 D (.lst (acc++[y])))else Pv (i+1) H3)(hd:∀H,Pv n H->Qd H):∃W:Nat->Nat->Hp->Prop,(∃m,W 0 m (upd H1 D (.lst [])))/\∀i m H,W i m H->((vm lo n).stop i H/\Qd H)\/((vm lo n).go i H/\∃Nx:Hp->Prop,(∀H',Nx H'->∃m',m'<m/\W (i+1) m' H')/\∀x H',(vm lo n).tj i H x H'->g x (wipe σ vs) H' fun σ2 H2=>wipe σ2 vs=wipe σ vs/\tt σ2 H2 fun b H3=>if b=true then te σ2 H3 fun y H4=>∃acc,H4 D=some (.lst acc)/\acc.length<sizeLine/\Nx (upd H4 D (.lst (acc++[y])))else Nx H3):=by
 refine⟨fun i m H=>m=n-i/\i<=n/\Pv i H,⟨n,by simp,dJ _,h0⟩,?_⟩;rintro i m H ⟨rfl,hi,p⟩;by_cases bI:i<n
 .refine .inr ⟨bI,Pv (i+1),fun H' p'=>⟨n-(i+1),by lia,rfl,bI,p'⟩,fun x H' y=>?_⟩;obtain⟨e,y⟩:=y;subst e y;exact hs i _ bI p
 .have e:i=n:=by lia
  subst e;exact .inl ⟨cA _,hd H p⟩
theorem Ly{K:aK}{a:aa}{xs:List V}{g:TG}{tt:TT}{te:TE}{vs:List Nat}{σ:St}{H1:Hp}{D:aa}{Qd:Hp->Prop}(Pv:Nat->Hp->Prop)(h0:Pv 0 (upd H1 D (.lst [])))(hl:∀i H,i<=xs.length->Pv i H->aH K H a xs)(hs:∀i x H,xs[i]? =some x->Pv i H->g x (wipe σ vs) H fun σ2 H2=>wipe σ2 vs=wipe σ vs/\tt σ2 H2 fun b H3=>if b=true then te σ2 H3 fun y H4=>∃acc,H4 D=some (.lst acc)/\acc.length<sizeLine/\Pv (i+1) (upd H4 D (.lst (acc++[y])))else Pv (i+1) H3)(hd:∀H,Pv xs.length H->Qd H):∃W:Nat->Nat->Hp->Prop,(∃m,W 0 m (upd H1 D (.lst [])))/\∀i m H,W i m H->((qH K a).stop i H/\Qd H)\/((qH K a).go i H/\∃Nx:Hp->Prop,(∀H',Nx H'->∃m',m'<m/\W (i+1) m' H')/\∀x H',(qH K a).tj i H x H'->g x (wipe σ vs) H' fun σ2 H2=>wipe σ2 vs=wipe σ vs/\tt σ2 H2 fun b H3=>if b=true then te σ2 H3 fun y H4=>∃acc,H4 D=some (.lst acc)/\acc.length<sizeLine/\Nx (upd H4 D (.lst (acc++[y])))else Nx H3):=by
 refine⟨fun i m H=>m=xs.length-i/\i<=xs.length/\Pv i H,⟨xs.length,by simp,dJ _,h0⟩,?_⟩;rintro i m H ⟨rfl,hi,p⟩;have q:=hl i H hi p;by_cases bI:i<xs.length
 .refine .inr ⟨⟨xs,xs[i],q,by simp[bI]⟩,Pv (i+1),fun H' p'=>⟨xs.length-(i+1),by lia,rfl,bI,p'⟩,fun x H' y=>?_⟩;obtain⟨e,y⟩:=y;subst e;exact hs i x _ (y xs q) p
 .have e:i=xs.length:=by lia
  subst e;exact .inl ⟨⟨xs,q,cA _⟩,hd H p⟩
def ez(N:List ah)(sc scope:e9)(own:List (ah×Nat)):Bool:=(match scope.kind with| .function=>true|_=>false)&&(scope.names.all fun y=>decide (scope.names.lookup y.1=some y.2))&&(own.all fun p=>decide (N[p.2]? =some p.1))&&(scope.names.all fun y=>match y.2 with
 | .free=>(match sc.names.lookup y.1 with|some .cell=>true|some .free=>true|_=>false)
 | .local=>decide (y.1∈own.map (·.1))||decide (y.1∉N)
 | .cell=>decide (y.1∈own.map (·.1))||decide (y.1∉N)
 |_=>true)
theorem eN{N:List ah}{sc scope:e9}{own:List (ah×Nat)}(h:ez N sc scope own=true):xY N sc scope own:=by
 unfold ez at h;simp only[cH,k7,decide_eq_true_eq]at h;obtain⟨⟨⟨h1,h2⟩,h3⟩,h4⟩:=h;refine⟨?_,h2,h3,fun y hy e=>?_,fun y hy e=>?_⟩
 .split at h1
  .assumption
  .cases h1
 .have q:=h4 y hy;simp only[e]at q;split at q<;>first|exact .inl (by assumption)|exact .inr (by assumption)|cases q
 .have q:=h4 y hy;rcases e with e|e<;>(simp only[e,Fs,decide_eq_true_eq]at q;exact q)
section
variable{prog:aV}{w:aQ}{A:bO}{R:tO->ao->Prop}{s:ao}{elt t0 i0 t1 i1:bw}{aqw aqx:List bw}{scope:e9}{pos:b4}{it acc:af}{env:dM}
end
section
variable{X:Cx}
end
section
variable{κ:Type}[DecidableEq κ]
def fF(kvs:List (κ×V))(k:κ):Option V:=(kvs.find? fun kv=>decide (kv.1=k)).map (·.2)
def putK(kvs:List (κ×V))(k:κ)(v:V):List (κ×V):=if(kvs.any fun kv=>decide (kv.1=k))=true then kvs.map (fun kv=>if kv.1=k then(kv.1,v)else kv)else kvs++[(k,v)]
theorem P7{p:κ×V}{r:List (κ×V)}{k:κ}(e:p.1=k):fF (p::r) k=some p.2:=by simp[fF,vr,e]
theorem P6{p:κ×V}{r:List (κ×V)}{k:κ}(e:¬p.1=k):fF (p::r) k=fF r k:=by simp[fF,vr,e]
theorem P5(k:κ):∀kvs:List (κ×V),(kvs.any fun kv=>decide (kv.1=k))=(fF kvs k).isSome
 |[]=>rfl
 |p::r=>by
  rw[vp];by_cases e:p.1=k
  .simp only[P7 e,decide_eq_true e,Bool.true_or,ZY]
  .rw[P6 e,decide_eq_false e,Bool.false_or];exact P5 k r
theorem VC(kvs:List (κ×V))(k:κ)(v:V):(putK kvs k v).length<=kvs.length+1:=by
 unfold putK;split
 .rw[bC];lia
 .rw[cY,cy,je];lia
theorem WX{kvs:List (κ×V)}{k:κ}(v:V)(h:fF kvs k=none):putK kvs k v=kvs++[(k,v)]:=by
 unfold putK;rw[P5,h];exact if_neg (by decide)
theorem fP.Dm{o:Option V}{u:Option af}(r:fP o u):o.isSome=u.isSome:=by
 cases o with
 |none=>cases u with
  |none=>rfl
  |some _=>exact(show False from r).elim
 |some _=>cases u with
  |none=>exact(show False from r).elim
  |some _=>rfl
theorem fP.getD{o:Option V}{u:Option af}{d:V}{d':af}(r:fP o u)(rd:RelV d d'):RelV (o.getD d) (u.getD d'):=by
 cases o with
 |none=>cases u with
  |none=>exact rd
  |some _=>exact(show False from r).elim
 |some _=>cases u with
  |none=>exact(show False from r).elim
  |some _=>exact r
theorem KV.val{kvs:List (κ×V)}{vs:List (κ×af)}(r:KV kvs vs)(k:κ):fP (fF kvs k) (tV vs k):=by
 unfold KV at r;induction r with
 |nil=>exact True.intro
 | @cons p q ps qs h t ih=>
  obtain⟨h1,h2⟩:=h;by_cases e:p.1=k
  .have e':q.1=k:=h1.symm.trans e;have b:tV (q::qs) k=some q.2:=by simp[tV,vr,e']
   rw[P7 e,b];exact h2
  .have e':¬q.1=k:=fun z=>e (h1.trans z);have b:tV (q::qs) k=tV qs k:=by simp[tV,vr,e']
   rw[P6 e,b];exact ih
theorem KV.any{kvs:List (κ×V)}{vs:List (κ×af)}(r:KV kvs vs)(k:κ):(kvs.any fun kv=>decide (kv.1=k))=vs.any fun kv=>decide (kv.1=k):=by
 unfold KV at r;induction r with
 |nil=>rfl
 |cons h t ih=>rw[vp,vp,ih,h.1]
theorem KV.MN{kvs:List (κ×V)}{vs:List (κ×af)}(r:KV kvs vs)(k:κ){y:V}{u:af}(ry:RelV y u):KV (kvs.map fun kv=>if kv.1=k then(kv.1,y)else kv) (vs.map fun kv=>if kv.1=k then(kv.1,u)else kv):=by
 unfold KV at r ⊢;induction r with
 |nil=>exact .nil
 | @cons p q ps qs h t ih=>
  rw[dY,dY];refine .cons ?_ ih;obtain⟨h1,h2⟩:=h;by_cases e:p.1=k
  .rw[if_pos e,if_pos (h1.symm.trans e)];exact⟨h1,ry⟩
  .rw[if_neg e,if_neg (fun z=>e (h1.trans z))];exact⟨h1,h2⟩
theorem KV.put{kvs:List (κ×V)}{vs:List (κ×af)}(r:KV kvs vs)(k:κ){y:V}{u:af}(ry:RelV y u):KV (putK kvs k y) (stored vs k u):=by
 unfold putK stored;rw[r.any k];by_cases e:(vs.any fun kv=>decide (kv.1=k))=true
 .rw[if_pos e,if_pos e];exact r.MN k ry
 .rw[if_neg e,if_neg e];exact aav r ⟨rfl,ry⟩
theorem KV.length{kvs:List (κ×V)}{vs:List (κ×af)}(r:KV kvs vs):kvs.length=vs.length:=yu r
end
theorem uJ{P:aV}{w:aQ}{k:Key}{u:af}(r:RelV (kV k) u):(ik P w).is k u=true:=by
 cases k with
 |inl i=>obtain⟨t,e⟩:=(show∃t,u=ll i t from r);subst e;exact ai8 P w i t
 |inr x=>obtain⟨t,e⟩:=(show∃t,u=Value.str x t from r);subst e;exact LR P w x t
theorem Vd{P:aV}{w:aQ}:∀{ks:List Key}{us:List af},Vals (ks.map kV) us->ItemsAre (ik P w) ks us
 |[],_,r=>by rw[yf]at r;cases r;exact .nil
 |k::ks,_,r=>by
  rw[dY]at r;cases r with
  |cons h t=>exact .cons (uJ h) (Vd t)
abbrev KT(H:Hp):List (List Key×V)->List (List Key×aa×af)->Prop:=vF fun p q=>p.1=q.1/\H q.2.1=some (.tup (p.1.map kV))/\RelV p.2 q.2.2
theorem KT.val{H:Hp}{kvs:List (List Key×V)}{xs:List (List Key×aa×af)}(r:KT H kvs xs)(k:List Key):fP (fF kvs k) ((qX xs k).map (·.2)):=by
 induction r with
 |nil=>exact True.intro
 | @cons p q ps qs h t ih=>
  obtain⟨h1,Z,h2⟩:=h;by_cases e:p.1=k
  .have e':q.1=k:=h1.symm.trans e;have b:qX (q::qs) k=some q.2:=by simp[qX,vr,e']
   rw[P7 e,b];exact h2
  .have e':¬q.1=k:=fun z=>e (h1.trans z);have b:qX (q::qs) k=qX qs k:=by simp[qX,vr,e']
   rw[P6 e,b];exact ih
theorem KT.MN{H:Hp}{kvs:List (List Key×V)}{xs:List (List Key×aa×af)}(r:KT H kvs xs)(k:List Key){y:V}{u:af}(ry:RelV y u):KT H (kvs.map fun kv=>if kv.1=k then(kv.1,y)else kv) (xs.map (putAt k u)):=by
 induction r with
 |nil=>exact .nil
 | @cons p q ps qs h t ih=>
  rw[dY,dY];refine .cons ?_ ih;obtain⟨h1,h2,h3⟩:=h;unfold putAt;by_cases e:p.1=k
  .rw[if_pos e,if_pos (h1.symm.trans e)];exact⟨h1,h2,ry⟩
  .rw[if_neg e,if_neg (fun z=>e (h1.trans z))];exact⟨h1,h2,h3⟩
theorem KT.put{H:Hp}{kvs:List (List Key×V)}{xs:List (List Key×aa×af)}(r:KT H kvs xs)(k:List Key){b:aa}{y:V}{u:af}(hb:H b=some (.tup (k.map kV)))(ry:RelV y u):KT H (putK kvs k y) (storedH xs k b u):=by
 have e:(kvs.any fun kv=>decide (kv.1=k))=(qX xs k).isSome:=by
  rw[P5,(r.val k).Dm,Gd]
 unfold putK storedH;rw[e];by_cases q:(qX xs k).isSome=true
 .rw[if_pos q,if_pos q];exact r.MN k ry
 .rw[if_neg q,if_neg q];exact aav r ⟨rfl,hb,ry⟩
theorem KT.keeps{H H':Hp}{kvs:List (List Key×V)}{xs:List (List Key×aa×af)}(r:KT H kvs xs)(ht:∀b ys,H b=some (.tup ys)->H' b=some (.tup ys)):KT H' kvs xs:=Paired.LP r fun Z Z z=>⟨z.1,ht _ _ z.2.1,z.2.2⟩
section
variable{P:aV}{w:aQ}{H:Hp}{h:aG}{a:aa}
theorem W9{u:HO}(ok:c9 P w H h)(e:Rd H a u):eR P w H h a u:=e.ok ok
theorem zd{kvs:List (Key×V)}(ok:c9 P w H h)(e:Rd H a (.dK kvs)):kvs.length<=sizeLine/\(a==kj)=false/\∃vs,KV kvs vs/\h.DictOf (ik P w) a vs:=show eR P w H h a (.dK kvs)from W9 ok e
theorem ad2{kvs:List (Key×V)}(ok:c9 P w H h)(e:H a=some (.dK kvs)):kvs.length<=sizeLine/\(a==kj)=false/\∃vs,KV kvs vs/\h.DictOf (ik P w) a vs:=zd ok (.inl e)
theorem Dr{ks:List Key}(ok:c9 P w H h)(e:H a=some (.tup (ks.map kV))):(BM (ik P w)).is h ks a:=by
 obtain⟨Z,aC,r,o,h1,h2,n,h3⟩:=(show eR P w H h a (.tup (ks.map kV))from ok a _ e);exact⟨o,aC.toArray,n,h1,h2,h3,by simpa using Vd r⟩
theorem Ct{kvs:List (List Key×V)}(ok:c9 P w H h)(e:Rd H a (.dT kvs)):kvs.length<=sizeLine/\(a==kj)=false/\∃xs,KT H kvs xs/\h.DictOfH (BM (ik P w)) a xs:=by
 obtain⟨z,y,xs,r,o,es,ep,h1,h2,h3,h4,h5⟩:=(show eR P w H h a (.dT kvs)from W9 ok e);refine⟨z,y,xs,r,o,es,ep,h1,h2,h3,h4,fun x hx=>?_,h5⟩;have all:∀{l:List (List Key×V)}{m:List (List Key×aa×af)},KT H l m->∀x∈m,(BM (ik P w)).is h x.1 x.2.1:=by
  intro l m q;induction q with
  |nil=>intro x hx;exact nomatch hx
  | @cons p q ps qs hq t ih=>
   intro x hx;rcases bX.mp hx with e|hx
   .subst e;exact Dr ok (by rw[<-hq.1];exact hq.2.1)
   .exact ih x hx
 exact all r x hx
theorem ad8{kvs:List (List Key×V)}(ok:c9 P w H h)(e:H a=some (.dT kvs)):kvs.length<=sizeLine/\(a==kj)=false/\∃xs,KT H kvs xs/\h.DictOfH (BM (ik P w)) a xs:=Ct ok (.inl e)
end
def qG(H:Hp)(a:aa)(y:V)(r:Option V):Prop:=(∃kvs k,Rd H a (.dK kvs)/\y=kV k/\r=fF kvs k)\/∃kvs k b,Rd H a (.dT kvs)/\y=.ref b/\H b=some (.tup (k.map kV))/\r=fF kvs k
def vi(H:Hp)(a:aa)(y v:V)(H':Hp):Prop:=(∃kvs k,H a=some (.dK kvs)/\y=kV k/\kvs.length<sizeLine/\H'=upd H a (.dK (putK kvs k v)))\/∃kvs k b,H a=some (.dT kvs)/\y=.ref b/\H b=some (.tup (k.map kV))/\kvs.length<sizeLine/\H'=upd H a (.dT (putK kvs k v))
theorem qG.k{H:Hp}{a:aa}{kvs:List (Key×V)}{k:Key}(e:H a=some (.dK kvs)):qG H a (kV k) (fF kvs k):=.inl ⟨kvs,k,.inl e,rfl,rfl⟩
theorem vi.k{H:Hp}{a:aa}{kvs:List (Key×V)}{k:Key}{v:V}(e:H a=some (.dK kvs))(hl:kvs.length<sizeLine):vi H a (kV k) v (upd H a (.dK (putK kvs k v))):=.inl ⟨kvs,k,e,rfl,hl,rfl⟩
section
variable{X:Cx}{pins:List (aa×aM)}{σ:St}{H:Hp}{s:ao}{a:aa}{y v:V}{u r:af}{o:Option V}{A:bO}{E:af->ao->Prop}
theorem Inv.big(I:Inv X pins σ H s):kj<s.heap.objs.size:=by
 have h:cX<s.heap.objs.size:=(I.mod.glob.keeps I.bk).lt;exact Nat.lt_trans (by decide) h
theorem adR{Q:af->ao->Prop}(hu:A.units+1<oE)(I:Inv X pins σ H s)(g:qG H a y (some v))(ry:RelV y u)(h:∀w' s',Inv X pins σ H s'->RelV v w'->Q w' s'):aE (model X.prog X.w) A (yD (.ref a) u) Q E s:=by
 rcases g with⟨kvs,k,e,ey,l⟩|⟨kvs,k,b,e,ey,eb,l⟩
 .subst ey;obtain⟨z,hd,vs,rel,dd⟩:=zd I.aT e;obtain⟨w',hw,og⟩:=fP.some_of (v:=v) (o:=tV vs k) (by rw[l];exact rel.val k);exact wpAny_getItem_of (uJ ry) dd.mapOf hw (h w' _ (I.tok _) og)
 .subst ey;cases (show u=dm b from ry);obtain⟨z,hd,xs,rel,dd⟩:=Ct I.aT e;obtain⟨w',hw,og⟩:=fP.some_of (v:=v) (o:=(qX xs k).map (·.2)) (by rw[l];exact rel.val k);obtain⟨p,hp,fX⟩:=ZZ.mp hw;refine wpAny_getItem_heap (RP hu) (Dr I.aT eb) dd hp ?_;rw[fX];exact h w' _ (I.tok _) og
theorem adT{Q:af->ao->Prop}(hu:A.units+1<oE)(I:Inv X pins σ H s)(g:qG H a y o)(ry:RelV y u)(h:∀s',Inv X pins σ H s'->Q (.bool (!o.isSome)) s'):aE (model X.prog X.w) A (hJ .NotIn u (.ref a)) Q E s:=by
 rcases g with⟨kvs,k,e,ey,l⟩|⟨kvs,k,b,e,ey,eb,l⟩
 .subst ey;obtain⟨z,hd,vs,rel,dd⟩:=zd I.aT e;refine wpAny_notIn_of (uJ ry) hd dd.mapOf ?_;rw[<-(rel.val k).Dm,<-l];exact h _ (I.tok _)
 .subst ey;cases (show u=dm b from ry);obtain⟨z,hd,xs,rel,dd⟩:=Ct I.aT e;refine wpAny_notIn_heap (RP hu) (Dr I.aT eb) hd dd ?_;have q:=(rel.val k).Dm;rw[Gd]at q;rw[<-q,<-l];exact h _ (I.tok _)
theorem S0{h':aG}{t':Nat}{ob:HO}(I:Inv X pins σ H s)(mu:qL (H a))(hs:oC a s.heap h')(he:∃q,h'.get? a=some q)(new:eR X.prog X.w (upd H a ob) h' a ob):Inv X pins σ (upd H a ob) {s with heap:=h',toks:=t'}:=I.write (x:=a) (e:=a) mu (.inl rfl) (fun b q hb z=>(hs.2 b hb).trans z) he new
theorem ad1{P:aV}{w:aQ}{H':Hp}{h':aG}{kvs:List (Key×V)}{vs:List (Key×af)}(z:kvs.length<=sizeLine)(hd:(a==kj)=false)(rel:KV kvs vs)(dd:h'.DictOf (ik P w) a vs):eR P w H' h' a (.dK kvs):=⟨z,hd,vs,rel,dd⟩
theorem adU{H':Hp}{Q:Unit->ao->Prop}(hu:A.units+1<oE)(I:Inv X pins σ H s)(g:vi H a y v H')(ry:RelV y u)(rv:RelV v r)(h:∀s',Inv X pins σ H' s'->Q () s'):aE (model X.prog X.w) A (setItem (.ref a) u r) Q E s:=by
 rcases g with⟨kvs,k,e,ey,l,eH⟩|⟨kvs,k,b,e,ey,eb,l,eH⟩
 .subst ey eH;obtain⟨z,hd,vs,rel,dd⟩:=ad2 I.aT e;have hz:vs.length<=sizeLine:=by rw[<-rel.length];exact z
  have hl:(putK kvs k v).length<=sizeLine:=by have:=VC kvs k v;lia
  refine wpAny_setItem_pairs (hsz:=hz) (uJ ry) dd fun h' Cr hs=>h _ ?_;have he:∃q,h'.get? a=some q:=let ⟨q,_,_,hq,_⟩:=Cr;⟨q,hq⟩
  exact S0 I (by rw[e];exact True.intro) hs he (ad1 hl hd (rel.put k rv) Cr)
 .subst ey eH;cases (show u=dm b from ry);obtain⟨z,hd,xs,rel,dd⟩:=ad8 I.aT e;have hz:xs.length<=sizeLine:=by rw[<-yu rel];exact z
  have hl:(putK kvs k v).length<=sizeLine:=by have:=VC kvs k v;lia
  refine wpAny_setItem_heap (hsz:=hz) (RP hu) (Dr I.aT eb) dd fun h' Cr hs=>h _ ?_;obtain⟨q,es,ep,hq,h2,h3,h4,Z,h5⟩:=Cr;refine S0 I (by rw[e];exact True.intro) hs ⟨q,hq⟩ ⟨hl,hd,_,(rel.put k eb rv).keeps fun c ys ec=>?_,q,es,ep,hq,h2,h3,h4,h5⟩;rw[ba (fe ec e (fun z=>nomatch z))];exact ec
end
section
variable{X:Cx}{pins:List (aa×aM)}{σ:St}{H:Hp}{s:ao}{a:aa}{kvs:List (Key×V)}{k:Key}{u:af}{A:bO}{E:af->ao->Prop}
theorem adS{Q:af->ao->Prop}(I:Inv X pins σ H s)(e:Rd H a (.dK kvs))(h:∀t s',Inv X pins σ H s'->Q (.int kvs.length t) s'):aE (model X.prog X.w) A (call (.builtin "len") [.ref a]) Q E s:=by
 obtain⟨z,hd,vs,rel,dd⟩:=zd I.aT e;refine call_len_dict hd dd (by rw[<-rel.length];rw[jk]at z;lia) ?_;rw[<-rel.length];exact h _ _ (I.tok _)
end
def Gb(i:bw):Prop:=∀ov iv,subscripted i false ov iv=operate [ov,iv] (yD ov iv)
theorem Yj{prog:aV}{w:aQ}{A:bO}{E:af->ao->Prop}{s:ao}{env:dM}{value slice:bw}{pos:b4}{T id:String}{Q:af->ao->Prop}(hl:lE (.type T) "__getitem__"=pure (some (.builtin id)))(hs:Gb slice)(h:aE (model prog w) A (eval value env) (fun o s₁=>aE (model prog w) A (eval slice env) (fun i s₂=>s₂.TypeIs o T/\aE (model prog w) A (yD o i) Q E s₂) E s₁) E s):aE (model prog w) A (eval (.Subscript value slice pos) env) Q E s:=by
 refine Q0 (jl h (fun o s₁ h₁=>jl h₁ (fun i s₂ h₂=>?_) fun Z Z x=>x) fun Z Z x=>x);obtain⟨hT,h₂⟩:=h₂;unfold Q3;refine aB ?_;rw[getitemInPython_of_ne hT.not_modules];refine aB (GS hT hl ?_);have fin:aE (model prog w) A (subscripted slice false o i) (fun r s₃=>aE (model prog w) A (letTemporaryGo value o r>>=fun Z=>pure r) Q E s₃) E s₂:=by
  rw[hs o i];exact wpAny_operating (jl h₂ (fun r s₃ h₃=>aB (wpAny_letTemporaryGo (bz h₃))) fun Z Z x=>x)
 first
  |exact bz (aB fin)
  |exact aB (bz (aB fin))
  |exact aB fin
theorem adX{X:Cx}{pins:List (aa×aM)}{σ:St}{H:Hp}{s:ao}{a:aa}{y:V}{o:Option V}(I:Inv X pins σ H s)(g:qG H a y o):s.TypeIs (.ref a) "dict":=by
 rcases g with⟨kvs,k,e,_,_⟩|⟨kvs,k,b,e,_,_,_⟩
 .obtain⟨Z,Z,vs,Z,dd⟩:=zd I.aT e;exact dd.typeIs
 .obtain⟨Z,Z,xs,Z,dd⟩:=Ct I.aT e;exact dd.typeIs
def aoG(td ty:TE):TE:=fun σ H Q=>td σ H fun x H1=>ty σ H1 fun y H2=>∃a v,x=.ref a/\qG H2 a y (some v)/\Q v H2
def aoI(ty td:TE):TE:=fun σ H Q=>ty σ H fun y H1=>td σ H1 fun x H2=>∃a o,x=.ref a/\qG H2 a y o/\Q (.bl (!o.isSome)) H2
def ant(td ty tv:TE):TS:=fun D σ H=>tv σ H fun v H1=>td σ H1 fun x H2=>ty σ H2 fun y H3=>∃a H4,x=.ref a/\vi H3 a y v H4/\D.nx σ H4
section
variable{X:Cx}{o i e value:bw}{pos pos' YE:b4}{td ty tv:TE}
theorem amk(hu:X.A.units+1<oE)(ho:PE X o td)(hi:PE X i ty)(hs:Gb i):PE X (.Subscript o i pos) (aoG td ty):=by
 intro pins s σ H Q I h;refine Yj aai.lookup hs (bo (ho pins s σ H _ I h) fun u s1 ⟨x,H1,I1,rx,q1⟩=>bo (hi pins s1 σ H1 _ I1 q1) fun iv s2 ⟨y,H2,I2,ry,a,v,ex,g,q2⟩=>?_);subst ex;obtain rfl:u=dm a:=rx;exact⟨adX I2 g,adR hu I2 g ry fun w' s3 I3 og=>⟨v,H2,I3,og,q2⟩⟩
theorem amh(hu:X.A.units+1<oE)(hi:PE X i ty)(ho:PE X o td):PC X .NotIn i o (aoI ty td):=by
 intro pins s σ H Q I h;refine bo (hi pins s σ H _ I h) fun iv s1 ⟨y,H1,I1,ry,q1⟩=>bo (ho pins s1 σ H1 _ I1 q1) fun u s2 ⟨x,H2,I2,rx,a,ov,ex,g,q2⟩=>?_;subst ex;obtain rfl:u=dm a:=rx;exact adT hu I2 g ry fun s3 I3=>⟨.bl (!ov.isSome),H2,I3,rfl,q2⟩
theorem amM(hu:X.A.units+1<oE)(ho:PE X o td)(hi:PE X i ty)(hv:PE X value tv)(hs:vS value (some (.Subscript o i pos')) pos.line X.env=pure false):PS X (.Assign [.Subscript o i pos'] value pos) (ant td ty tv):=by
 intro pins s σ H D I h;refine wpAny_Assign_Subscript (bo (hv pins s σ H _ I h) fun r s1 ⟨v,H1,I1,rv,q1⟩=>bo (ho pins s1 σ H1 _ I1 q1) fun u s2 ⟨x,H2,I2,rx,q2⟩=>bo (hi pins s2 σ H2 _ I2 q2) fun iv s3 ⟨y,H3,I3,ry,a,H4,ex,g,q3⟩=>?_) hs;subst ex;obtain rfl:u=dm a:=rx;exact adU hu I3 g ry rv fun s4 I4=>⟨σ,H4,I4,q3⟩
end
theorem ad0{P:aV}{w:aQ}{H:Hp}(h:aG)(hb:kj<h.objs.size):eR P w H (h.push {cls:=.type "dict",data:=.dict #[]}) h.objs.size (.dK []):=⟨dJ _,beq_eq_false_iff_ne.mpr (Ne.symm (dR hb)),[],.nil,Heap.DictOf.new h⟩
def aoH:TE:=fun Z H Q=>∀p,H p=none->Q (.ref p) (upd H p (.dK []))
section
variable{X:Cx}{pos:b4}
theorem aml:PE X (.Dict [] [] pos) aoH:=fun pins s σ H Q I h=>wpAny_Dict_empty ⟨.ref s.heap.objs.size,_,I.laid (a:=s.heap.objs.size) (o:=.dK []) (t':=s.toks) (fun Z Z q=>cD _ q) (cA _) (ad0 s.heap I.big),rfl,h _ (I.aT.fresh (cA _))⟩
end
structure M2(X:Cx)(o:bw)(m:ah)(apos:b4)(e f:bw)(fS:b4):Prop where
 base:mn o m X.env (eval o X.env)=eval o X.env
 few:((gq fS (b5 [e,f] X.env)).all (fun x=> !x.1)&&(yy fS (yF [] X.env)).all (fun x=>x.1.isSome)&&decide (([e,f]:List bw).length+([]:List Bu).length+(if([]:List Bu).isEmpty then 0 else 1)<30))=true
 line:(apos.endLine==fS.line)=true
 trees:gq fS (b5 [e,f] X.env)=[(false,eval e X.env),(false,eval f X.env)]
section
variable{X:Cx}{pins:List (aa×aM)}{σ:St}{H:Hp}{s:ao}{a:aa}{y d:V}{u r:af}{o:Option V}{A:bO}{E:af->ao->Prop}
end
section
variable{X:Cx}{o e f:bw}{apos fS:b4}{td ty tx:TE}
end
section
variable{X:Cx}{pins:List (aa×aM)}{σ:St}{H:Hp}{s:ao}{a:aa}{kvs:List (Key×V)}{A:bO}{E:af->ao->Prop}
end
section
variable{X:Cx}{pins:List (aa×aM)}{σ:St}{H:Hp}{s:ao}{a:aa}{y:V}{u:af}{A:bO}{E:af->ao->Prop}
end
section
variable{prog:aV}{w:aQ}{A:bO}{E:af->ao->Prop}
end
section
variable{X:Cx}
end
theorem abN:pO "reversed"=some (.type "reversed"):=by decide+kernel
section
variable{X:Cx}{pins:List (aa×aM)}{σ:St}{H:Hp}{s:ao}{h':aG}
theorem Inv.lock{d:aa}{u:HO}(I:Inv X pins σ H s)(h:H d=some u)(mu:qL (some u)):∃od,Inv X pins σ (upd H d (.cS od u)) s:=by
 have x:=I.aT d u h;have ex:∃od,s.heap.get? d=some od:=by
  cases u with
  |lst xs=>obtain⟨Z,Z,Z,Z,e⟩:=x;exact⟨_,e⟩
  |dK kvs=>obtain⟨Z,Z,Z,Z,o,Z,Z,e,Z⟩:=x;exact⟨o,e⟩
  |dT kvs=>obtain⟨Z,Z,Z,Z,o,Z,Z,e,Z⟩:=x;exact⟨o,e⟩
  |set S n=>obtain⟨o,Z,Z,Z,e,Z⟩:=x;exact⟨o,e⟩
  |ins C dx fs=>obtain⟨Z,Z,Z,e,Z⟩:=x;exact⟨_,e⟩
  |ext φ=>obtain⟨Z,⟨Z,e⟩,Z⟩:=x;exact⟨_,e⟩
  |_=>exact fN mu
 obtain⟨od,e⟩:=ex;have new:eR X.prog X.w (upd H d (.cS od u)) s.heap d (.cS od u):=by
  refine⟨e,x.oo (fun b v Z q=>q) (fun b q=>?_) fun b xs q=>?_⟩
  .rw[ba (fun z=>by rw[z,h]at q;cases q;exact mu)];exact q
  .rw[ba (fun z=>by rw[z,h]at q;cases q;exact mu)];exact q
 exact⟨od,I.write (x:=d) (e:=d) (t':=s.toks) (h':=s.heap) (by rw[h];exact mu) (.inl rfl) (fun b v Z q=>q) ⟨od,e⟩ new⟩
theorem Inv.DB{d:aa}{u:HO}(I:Inv X pins σ H s)(h:H d=some u)(mu:qL (some u)):∀o' u',X.H_0 d≠some (.cS o' u'):=fun o' u' e=>by
 have q:=I.base.kF d o' u' e;rw[h]at q;cases q;exact mu
theorem Inv.unlock{d:aa}{od:aM}{u:HO}(I:Inv X pins σ H s)(h:H d=some (.cS od u))(hn:∀o' u',X.H_0 d≠some (.cS o' u')):Inv X pins σ (upd H d u) s:=by
 have xg:∀b o,H b=some o->(∀o' u',o≠.cS o' u')->b≠d:=fun b o e bL z=>by
  rw[z,h]at e;cases e;exact bL _ _ rfl
 have neN:∀b,H b=none->b≠d:=fun b e z=>by rw[z,h]at e;cases e
 refine⟨I.ok,I.os,I.bare,⟨I.base.keep,I.base.slot,fun b o e n hx=>?_,I.base.there,fun b xs e=>?_,fun b o x e=>?_,fun b ps e=>?_⟩,I.loc,I.cell,?_,fun x c e=>?_,fun p hp=>?_,fun b o e=>?_,I.len⟩
 .rw[ba (neN b (I.base.free b o e n hx))];exact I.base.free b o e n hx
 .have q:=I.base.ng b xs e;rw[ba (xg b _ q (fun Z Z z=>nomatch z))];exact q
 .have q:=I.base.kF b o x e;rw[ba (fun z=>by rw[z]at e;exact hn _ _ e)];exact q
 .obtain⟨m,q⟩:=I.base.mY b ps e;exact⟨m,by rw[ba (xg b _ q (fun Z Z z=>nomatch z))];exact q⟩
 .rw[ba (neN _ I.free)];exact I.free
 .rw[ba (neN c (I.ic x c e))];exact I.ic x c e
 .obtain⟨e,n,r⟩:=I.pin p hp;exact⟨e,by rw[ba (neN _ n)];exact n,r⟩
 .by_cases hb:b=d
  .rw[hb,aD]at e;cases e;rw[hb];obtain⟨Z,x⟩:=I.aT d _ h;exact x.oo (fun c v Z q=>q) (fun c q=>by rw[ba (xg c _ q (fun Z Z z=>nomatch z))];exact q) fun c xs q=>by rw[ba (xg c _ q (fun Z Z z=>nomatch z))];exact q
  .rw[ba hb]at e;exact(I.aT b o e).oo (fun c v Z q=>q) (fun c q=>by rw[ba (xg c _ q (fun Z Z z=>nomatch z))];exact q) fun c xs q=>by rw[ba (xg c _ q (fun Z Z z=>nomatch z))];exact q
end
def aoP(t:TS):TS:=fun D σ H=>∃d u,H d=some u/\qL (some u)/\∀od,t ⟨fun σ' H'=>H' d=some (.cS od u)/\D.nx σ' (upd H' d u),fun v H'=>H' d=some (.cS od u)/\D.rt v (upd H' d u),fun σ' H'=>H' d=some (.cS od u)/\D.bk σ' (upd H' d u),fun σ' H'=>H' d=some (.cS od u)/\D.ct σ' (upd H' d u)⟩ σ (upd H d (.cS od u))
section
variable{X:Cx}
theorem amN{st:aW}{t:TS}(h:PS X st t):PS X st (aoP t):=by
 intro pins s σ H D I hw;obtain⟨d,u,hd,mu,hw⟩:=hw;obtain⟨od,I1⟩:=I.lock hd mu;refine bo (h pins s σ _ _ I1 (hw od)) fun f s1 q=>?_;cases f with
 |next=>obtain⟨σ',H',I2,e,q⟩:=q;exact⟨σ',_,I2.unlock e (I.DB hd mu),q⟩
 |brk=>obtain⟨σ',H',I2,e,q⟩:=q;exact⟨σ',_,I2.unlock e (I.DB hd mu),q⟩
 |cont=>obtain⟨σ',H',I2,e,q⟩:=q;exact⟨σ',_,I2.unlock e (I.DB hd mu),q⟩
 |ret v=>obtain⟨x,σ',H',I2,r,e,q⟩:=q;exact⟨x,σ',_,I2.unlock e (I.DB hd mu),r,q⟩
theorem As{tg:bw}{pins:List (aa×aM)}{σ:St}{H:Hp}{s:ao}{R:It->Hp->Prop}{J:It}{tn:Nat->aG->Prop}{tk:Nat}(I:Inv X pins σ H s)(o:aM)(T:Turn X.prog X.w X.K tg J [s.heap.objs.size] s.heap.objs.size tn)(st:tn 0 (s.heap.push o))(q:R J H):Ge X pins σ tg R (.ref s.heap.objs.size) {s with heap:=s.heap.push o,toks:=tk}:=by
 refine⟨s.heap.objs.size,[s.heap.objs.size],tn,J,H,rfl,I.kept fun b ob e=>cD _ e,T,st,fun b hb=>?_,q⟩;have e:b=s.heap.objs.size:=by simpa using hb
 subst e;exact I.CB (cA _) (I.aT.fresh (cA _))
end
def x5(lo c:Int)(n:Nat):It:=⟨fun i Z=>i<n,fun i H x H'=>H'=H/\x=.int (lo+(i:Nat)*c),fun i Z=>n<=i⟩
theorem aph{P:aV}{w:aQ}{K:aK}{tg:bw}(it:aa)(lo c:Int)(n:Nat):Turn P w K tg (x5 lo c n) [it] it (fun i h=>Gq h it (lo+(i:Nat)*c) ((n:Int) -(i:Nat)) c) where
 mem:=by simp
 obj:=fun i h st b hb=>by
  have e:b=it:=by simpa using hb
  subst e;exact⟨_,st,fun v z=>nomatch z⟩
 keep:=fun i h h' st k=>k it (by simp) _ st;item:=by
  intro X hP hw hK hc i pins s σ H E I hf st hg;subst hP hw hK;obtain⟨f0,f1,f2,f3,f4,f5⟩:=hf it (by simp);have W:=Walks.range (prog:=X.prog) (w:=X.w) (I.ok.hd hc) it lo c n;refine W.item i s _ _ hg st fun v h' tk hv jb kk=>?_;obtain⟨t,rfl⟩:=hv;have I1:Inv X pins σ H {s with heap:=h',toks:=tk}:=I.turned (fun b o hb e=>kk b o (by simpa using hb) e) f0 f1 f3 f4 f5;exact⟨_,rfl,wG (s:={s with heap:=h',toks:=tk}) (n:="range_iterator") jb rfl rfl (by decide) ⟨.int (lo+(i:Nat)*c),H,I1,⟨t,rfl⟩,⟨rfl,rfl⟩,jb,fun b hb=>(hf b hb).1⟩⟩
 done:=by
  intro X hP hw hK hc i pins s σ H E I hf st hg;subst hP hw hK;obtain⟨f0,f1,f2,f3,f4,f5⟩:=hf it (by simp);exact aaZ (I.ok.hd hc) st (by have:n<=i:=hg;lia) fun h' eb=>⟨rfl,I.turned (t':=s.toks) (fun b o hb e=>eb b o hb e) f0 f1 f3 f4 f5⟩
 self:=fun A i s Q E st h=>aaY st h
def BW(i j c:Int)(n:Nat):Prop:=c≠0/\c.natAbs<1073741824/\Builtin.Range.small i j c=true/\Q5 i j c=n
theorem BW.neg{i j:Int}(ha: -(2^62)<=i)(ha':i<2^62)(hb: -(2^62)<=j)(kG:j<2^62):BW i j (-1) (i-j).toNat:=⟨by decide,by decide,PySem.W.small_down ha ha' hb kG,PySem.W.rangeSize_downNat i j⟩
def aia(ta:TA):TI:=fun σ H R=>ta σ H fun vs H1=>∃(i j c:Int)(n:Nat),vs=[.int i,.int j,.int c]/\BW i j c n/\R (x5 i c n) H1
section
variable{X:Cx}{tg:bw}
theorem amz{a b c:bw}{ta:TA}{p pos:b4}(hg:Gl X "range")(hm:X.mg "range"=none)(ha:PA X [a,b,c] ta)(hs:b5 [a,b,c] X.env=(false,eval a X.env)::b5 [b,c] X.env:=by rfl)(b0:(gq pos (b5 [b,c] X.env)).any (·.1)=false:=by rfl):PI X tg (.Call (.Name "range" p) [a,b,c] [] pos) (aia ta):=by
 intro pins s σ H R I h;refine tJ (o7 I hg hm Q1 (tL (bo (ha pos pins s σ H _ I h) fun us s1 ⟨vs,H1,I1,r1,q1⟩=>?_) hs b0));obtain⟨i,j,k,n,e,⟨c0,c1,c2,c3⟩,q⟩:=q1;subst e;cases r1 with
 |cons r rr=>
  cases rr with
  |cons r' rr=>
   cases rr with
   |cons r'' rr=>
    cases rr;obtain⟨t,rfl⟩:=r;obtain⟨t',rfl⟩:=r';obtain⟨Pw,rfl⟩:=r'';refine call_range_3 c0 ?_ (.inl (PyProof.noPylong_small c1));refine aaX (Rc ..) c2 ?_;have I2:Inv X pins σ H1 {s1 with heap:=s1.heap.push {cls:=.type "range",data:=.fields #[.int i t,.int j t',.int k Pw]}}:=I1.kept (t':=s1.toks) fun b o e=>cD _ e;refine As (tk:=s1.toks) I2 _ (aph _ i k n) ?_ q;have e1:i+((0:Nat):Int)*k=i:=by simp
    have e2:(n:Int) -((0:Nat):Int)=Q5 i j k:=by rw[c3];simp
    show Gq _ _ (i+((0:Nat):Int)*k) ((n:Int) -((0:Nat):Int)) k;rw[e1,e2];exact dZ _ rfl
end
theorem afo{lo c:Int}{n:Nat}{g:TG}{tb:TS}{D:Ends}{σ:St}{H:Hp}(Pv:Nat->St->Hp->Prop)(h0:Pv 0 σ H)(hs:∀i σ H,i<n->Pv i σ H->g (.int (lo+(i:Nat)*c)) σ H fun σ2 H2=>tb {D with nx:=Pv (i+1),ct:=Pv (i+1),bk:=D.nx} σ2 H2)(hd:∀σ H,Pv n σ H->D.nx σ H):∃W:Nat->Nat->St->Hp->Prop,(∃m,W 0 m σ H)/\∀i m σ H,W i m σ H->((x5 lo c n).stop i H/\D.nx σ H)\/((x5 lo c n).go i H/\∃N:St->Hp->Prop,(∀σ' H',N σ' H'->∃m',m'<m/\W (i+1) m' σ' H')/\∀x H',(x5 lo c n).tj i H x H'->g x σ H' fun σ2 H2=>tb {D with nx:=N,ct:=N,bk:=D.nx} σ2 H2):=by
 refine⟨fun i m σ H=>m=n-i/\i<=n/\Pv i σ H,⟨n,by simp,dJ _,h0⟩,?_⟩;rintro i m σ H ⟨rfl,hi,p⟩;by_cases bI:i<n
 .refine .inr ⟨bI,Pv (i+1),fun σ' H' p'=>⟨n-(i+1),by lia,rfl,bI,p'⟩,fun x H' y=>?_⟩;obtain⟨e,y⟩:=y;subst e y;exact hs i σ _ bI p
 .have e:i=n:=by lia
  subst e;exact .inl ⟨cA _,hd σ H p⟩
section
variable{X:Cx}{tg:bw}
end
def Qs(x:ah):It:=⟨fun i Z=>i<x.cps.size,fun i H v H'=>H'=H/\∃c,x.cps[i]? =some c/\v=.str ⟨#[c]⟩,fun i Z=>x.cps.size<=i⟩
theorem YH{P:aV}{w:aQ}{K:aK}{tg:bw}(it:aa)(x:ah)(t:ji)(ty:String)(rZ:ty="str_ascii_iterator"\/ty="str_iterator"):Turn P w K tg (Qs x) [it] it (fun i h=>h.IsStrIter it ty x t i) where
 mem:=by simp
 obj:=fun i h st b hb=>by
  have e:b=it:=by simpa using hb
  subst e;obtain⟨o,e,c,d⟩:=st;exact⟨o,e,fun v z=>by rw[d]at z;cases z⟩
 keep:=fun i h h' st k=>let ⟨o,ho,r⟩:=st;⟨o,k it (by simp) o ho,r⟩
 item:=by
  intro X hP hw hK hc i pins s σ H E I hf st hg;subst hP hw hK;obtain⟨f0,f1,f2,f3,f4,f5⟩:=hf it (by simp);have W:Walks X.prog X.w X.A it [it] [it] x.cps.size (SignAt x) (fun i h=>h.IsStrIter it ty x t i):=by
   rcases rZ with e|e
   .rw[e];exact Walks.strAscii (I.ok.hd hc) it x t
   .rw[e];exact Walks.strWide (I.ok.hd hc) it x t
  have KR:["enumerate","zip","dict_itemiterator","dict_reverseitemiterator","odict_iterator","itertools.zip_longest","itertools.pairwise"].contains ty=false:=by
   rcases rZ with e|e
   .rw[e];decide
   .rw[e];decide
  refine W.item i s _ _ hg st fun v h' tk hv jb kk=>?_;obtain⟨c,u,Kr,rfl⟩:=hv;have I1:Inv X pins σ H {s with heap:=h',toks:=tk}:=I.turned (fun b o hb e=>kk b o (by simpa using hb) e) f0 f1 f3 f4 f5;obtain⟨oi,e,cc,dd⟩:=id jb;exact⟨_,rfl,wG (s:={s with heap:=h',toks:=tk}) e cc dd KR ⟨.str ⟨#[c]⟩,H,I1,⟨u,rfl⟩,⟨rfl,c,Kr,rfl⟩,jb,fun b hb=>(hf b hb).1⟩⟩
 done:=by
  intro X hP hw hK hc i pins s σ H E I hf st hg;subst hP hw hK;obtain⟨f0,f1,f2,f3,f4,f5⟩:=hf it (by simp);have hx:x.cps[i]? =none:=Fo hg;rcases rZ with e|e
  .rw[e]at st;exact wpAny_pyNext_ascii_end (I.ok.hd hc) st hx fun h' eb=>⟨rfl,I.turned (t':=s.toks) (fun b o hb e=>eb b o hb e) f0 f1 f3 f4 f5⟩
  .rw[e]at st;exact wpAny_pyNext_wide_end (I.ok.hd hc) st hx fun h' eb=>⟨rfl,I.turned (t':=s.toks) (fun b o hb e=>eb b o hb e) f0 f1 f3 f4 f5⟩
 self:=fun A i s Q E st h=>by
  rcases rZ with e|e
  .rw[e]at st;exact wpAny_pyIter_striter_ascii st h
  .rw[e]at st;exact wpAny_pyIter_striter_wide st h
def Li(te:TE):TI:=fun σ H R=>te σ H fun v H1=>∃x,v=.str x/\R (Qs x) H1
theorem WJ{X:Cx}{tg e:bw}{te:TE}(he:PE X e te):PI X tg e (Li te):=by
 intro pins s σ H R I h;refine bo (he pins s σ H _ I h) fun v s1 ⟨y,H1,I1,r1,x,ex,q⟩=>?_;subst ex;obtain⟨t,rfl⟩:=r1;cases ha:x.cps.all (· <128)
 .exact wpAny_pyIter_wide ha (As (tk:=s1.toks) I1 _ (YH _ x t "str_iterator" (.inr rfl)) ⟨_,dZ _ rfl,rfl,rfl⟩ q)
 .exact wpAny_pyIter_ascii ha (As (tk:=s1.toks) I1 _ (YH _ x t "str_ascii_iterator" (.inl rfl)) ⟨_,dZ _ rfl,rfl,rfl⟩ q)
section
variable{prog:aV}{w:aQ}{A:bO}{E:af->ao->Prop}{s:ao}
theorem Vg{d:aa}{o:aM}{es:Array ke}{ep:Nat}{Q:af->ao->Prop}(hd:(d==kj)=false)(ho:s.heap.get? d=some o)(hc:o.ExactDict)(Us:o.data=.dict es ep)(hQ:Q (.ref s.heap.objs.size) {s with heap:=s.heap.push {cls:=.type "dict_keyiterator",data:=.fields #[.ref d,.int 0 0,.int es.size 0,.int ep 0]}}):aE (model prog w) A (tT (.ref d)) Q E s:=by
 have hT:s.TypeIs (.ref d) "dict":=⟨o,ho,hc.1⟩;refine GR hT aaj (oF aaj hT F.entry_dict_iter ?_ (F.args_dict_iter_1 _));unfold Builtin.«dict.__iter__»;refine aB ?_;unfold Builtin.Dict.dictSlotNone;refine aB (wpAny_notOrdered_dict hT ?_);show aE _ _ (pure (dm d)) _ _ s;refine bz ?_;show aE _ _ (Z6 d>>=_) _ _ s;unfold Z6;rw[if_neg (by rw[hd];exact eX)];refine aB (bz ?_);refine aB (RR ho Us ?_);refine aB (RS ho Us ?_);refine aB (rp (bz ⟨_,rfl,"dict_keyiterator",_,⟨_,dZ _ rfl,rfl⟩,yq.lookup,?_⟩));simpa[f9]using hQ
theorem aj3{it d:aa}{i n ep:Nat}{od:aM}{es:Array ke}{en:ke}{Q:Option af->ao->Prop}(hit:s.heap.IsKeyIter it d i n ep)(nJ:s.heap.get? d=some od)(uq:od.data=.dict es ep)(hsz:es.size=n)(hx:es[i]? =some en)(hQ:∀h',h'.IsKeyIter it d (i+1) n ep->oC it s.heap h'->Q (some en.key) {s with heap:=h'}):aE (model prog w) A (jj (.ref it)) Q E s:=by
 obtain⟨o,ho,hc,hd⟩:=id hit;unfold jj;refine aB (yM (yN (name:=bB "__next__") hit.typeIs yq (oF yq hit.typeIs aae ?_ (aad _))));refine aB (bz ?_);refine aB ?_;refine aB ?_;first|refine aB (GU hit.typeIs (bz ?_))|refine aB (GV hit.typeIs (bz ?_))
 refine aB (yO ho hd ?_);have KY:Z7 "dict_keyiterator"=false:=by decide
 simp only[KY,Fq,if_false];show aE _ _ (if(dm d==Value.none)=true then _ else _) _ _ s;rw[if_neg (show¬((dm d==Value.none)=true)from eX)];refine aB (bz ?_);refine aB (RR nJ uq ?_);rw[if_neg (by rw[hsz];simp)];refine aB (bz ?_);refine aB (RS nJ uq ?_);rw[if_neg (by simp)];refine bz ?_;obtain⟨wQ,dh⟩:=A1.mp hx;simp only[show¬((i:Int)<0)from by lia,if_false,md,pD wQ];refine aB ?_;first|refine aB (GU hit.typeIs (bz ?_))|refine aB (GV hit.typeIs (bz ?_))
 refine aB (aaS hit.typeIs ?_);show aE _ _ (rh (.ref it) 1 (f9 ((i:Int)+1))>>=_) _ _ s;refine aB (BS ho hd (by simp) ?_);have Uz:(s.heap.update it (pM (·.setIfInBounds 1 (f9 ((i:Int)+1))))).IsKeyIter it d (i+1) n ep:=⟨_,qS _ ho (Gr (Bv hd _)),(aau ..).trans hc,by rw[Bv hd];simp[f9]⟩;refine aB (pQ ?_);refine aB (aaS (s:={s with heap:=s.heap.update it (pM (·.setIfInBounds 1 (f9 ((i:Int)+1))))}) Uz.typeIs ?_);show aE _ _ (pure es[i].key) _ _ _;rw[dh];exact bz (bz ⟨_,rfl,bz (hQ _ Uz (Gp ..))⟩)
theorem V2{it d:aa}{i n ep:Nat}{od:aM}{es:Array ke}{Q:Option af->ao->Prop}(hh:A.handled=none)(hit:s.heap.IsKeyIter it d i n ep)(nJ:s.heap.get? d=some od)(uq:od.data=.dict es ep)(hsz:es.size=n)(Uy:n<=i)(hQ:∀h',Heap.ExtBut it s.heap h'->Q none {s with heap:=h'}):aE (model prog w) A (jj (.ref it)) Q E s:=by
 obtain⟨o,ho,hc,hd⟩:=id hit;unfold jj;refine aB (yM (yN (name:=bB "__next__") hit.typeIs yq (oF yq hit.typeIs aae ?_ (aad _))));refine aB (bz ?_);refine aB ?_;refine aB ?_;first|refine aB (GU hit.typeIs (bz ?_))|refine aB (GV hit.typeIs (bz ?_))
 refine aB (yO ho hd ?_);have KY:Z7 "dict_keyiterator"=false:=by decide
 simp only[KY,Fq,if_false];show aE _ _ (if(dm d==Value.none)=true then _ else _) _ _ s;rw[if_neg (show¬((dm d==Value.none)=true)from eX)];refine aB (bz ?_);refine aB (RR nJ uq ?_);rw[if_neg (by rw[hsz];simp)];refine aB (bz ?_);refine aB (RS nJ uq ?_);rw[if_neg (by simp)];refine bz ?_;have agi:es.size<=i:=by rw[hsz];exact Uy
 simp only[show¬((i:Int)<0)from by lia,if_false,md,Fo agi];refine aB ?_;first|refine aB (GU hit.typeIs (bz ?_))|refine aB (GV hit.typeIs (bz ?_))
 show aE _ _ (rh (.ref it) 0 .none>>=_) _ _ s;refine aB (BS ho hd (by simp) ?_);show aE _ _ (yG (.type "StopIteration") []>>=_) _ _ _;refine aB ?_;simp only[yG,newTuple];refine aB (rp ?_ (by size_fits));refine aB (m:=GH _ _) (GQ (a:=Value.none) (by first|rfl|(simp only[GH];rfl)) ?_);refine rp ?_ (by size_fits);simp only[GL];refine aB (wpAny_handled ?_);rw[show A.in1.handled=none from hh];refine aB (bz (wpAny_throw ?_));refine aB (BQ (T:="StopIteration") (b:=true) ⟨_,dZ _ rfl,rfl⟩ RJ ?_);exact bz (hQ _ (((Gp ..).extBut.push _).push _))
end
theorem aiy{κ:Type}{kvs:List (κ×V)}{vs:List (κ×af)}(h:KV kvs vs):∀{i:Nat}{k:κ}{v:V},kvs[i]? =some (k,v)->∃u,vs[i]? =some (k,u)/\RelV v u:=by
 unfold KV at h;induction h with
 |nil=>intro i k v e;simp at e
 | @cons a b l₁ l₂ r t ih=>
  intro i k v e;cases i with
  |zero=>
   simp only[FK,ym]at e;subst e;refine⟨b.2,?_,r.2⟩;simp only[FK];exact congrArg some (Prod.ext r.1.symm rfl)
  |succ j=>
   simp only[Zs]at e ⊢;exact ih e
theorem al3{α β:Type}{G:α->β->Prop}{l₁:List α}{l₂:List β}(h:vF G l₁ l₂):∀{i:Nat}{a:α},l₁[i]? =some a->∃b,l₂[i]? =some b/\G a b:=by
 induction h with
 |nil=>intro i a e;simp at e
 | @cons a b l₁ l₂ r t ih=>
  intro i a' e;cases i with
  |zero=>
   simp only[FK,ym]at e;subst e;exact⟨b,rfl,r⟩
  |succ j=>
   simp only[Zs]at e ⊢;exact ih e
theorem anc{k:Key}{u:af}(h:sj k u=true):RelV (kV k) u:=by
 rcases o6 h with⟨i,t,rfl,rfl⟩|⟨x,t,rfl,rfl⟩
 .exact⟨t,rfl⟩
 .exact⟨t,rfl⟩
section
variable{X:Cx}{pins:List (aa×aM)}{σ:St}{H:Hp}{s:ao}{d:aa}{o:aM}
theorem Inv.J9{kvs:List (Key×V)}(I:Inv X pins σ H s)(h:H d=some (.cS o (.dK kvs))):(d==kj)=false/\s.heap.get? d=some o/\o.ExactDict/\∃(es:Array ke)(ep:Nat)(vs:List (Key×af)),o.data=.dict es ep/\es.size=kvs.length/\KV kvs vs/\s.heap.DictAt (ik X.prog X.w) d vs ep:=by
 obtain⟨hd,z,hs,vs,kv,o',es,ep,ho,hx,gz,r⟩:=I.aT d _ h;rw[hd]at ho;cases ho;refine⟨hs,hd,hx,es,ep,vs,gz,?_,kv,o,es,hd,hx,gz,r⟩;have l1:=r.2.1.length;have l2:kvs.length=vs.length:=yu kv;rw[pE]at l1;lia
theorem Inv.Ka{kvs:List (List Key×V)}(I:Inv X pins σ H s)(h:H d=some (.cS o (.dT kvs))):(d==kj)=false/\s.heap.get? d=some o/\o.ExactDict/\∃(es:Array ke)(ep:Nat),o.data=.dict es ep/\es.size=kvs.length/\∀(i:Nat)(k:List Key)(v:V),kvs[i]? =some (k,v)->∃(en:ke)(q:aa),es[i]? =some en/\en.key=.ref q/\H q=some (.tup (k.map kV)):=by
 obtain⟨hd,z,hs,xs,pr,o',es,ep,ho,hx,gz,he,Z⟩:=I.aT d _ h;rw[hd]at ho;cases ho;refine⟨hs,hd,hx,es,ep,gz,?_,fun i k v e=>?_⟩
 .have l1:es.size=xs.length:=size_of_entries he;have l2:kvs.length=xs.length:=yu pr;lia
 .obtain⟨b,hb,e1,e2,Z⟩:=al3 pr e;have q:=entry_at he i;rw[hb]at q;exact⟨_,b.2.1,q,rfl,e2⟩
end
def x6(d:aa)(o:aM)(kvs:List (Key×V)):It:=⟨fun i H=>H d=some (.cS o (.dK kvs))/\i<kvs.length,fun i H x H'=>H'=H/\∃k v,kvs[i]? =some (k,v)/\x=kV k,fun i H=>H d=some (.cS o (.dK kvs))/\kvs.length<=i⟩
def Qr(d:aa)(o:aM)(kvs:List (List Key×V)):It:=⟨fun i H=>H d=some (.cS o (.dT kvs))/\i<kvs.length,fun i H x H'=>H'=H/\∃(k:List Key)(v:V)(q:aa),kvs[i]? =some (k,v)/\x=.ref q/\H q=some (.tup (k.map kV)),fun i H=>H d=some (.cS o (.dT kvs))/\kvs.length<=i⟩
theorem Cs{o:aM}{es gS:Array ke}{ep oM:Nat}(h:o.data=.dict es ep)(h':o.data=.dict gS oM):gS=es/\oM=ep:=by
 rw[h]at h';cases h';exact⟨rfl,rfl⟩
section
variable{P:aV}{w:aQ}{K:aK}{tg:bw}{d:aa}{o:aM}{es:Array ke}{ep:Nat}
theorem apd{kvs:List (Key×V)}(it:aa)(nJ:o.data=.dict es ep):Turn P w K tg (x6 d o kvs) [it] it (fun i h=>h.IsKeyIter it d i kvs.length ep) where
 mem:=by simp
 obj:=fun i h st b hb=>by
  have e:b=it:=by simpa using hb
  subst e;obtain⟨oi,e,c,dd⟩:=st;exact⟨oi,e,fun v z=>by rw[dd]at z;cases z⟩
 keep:=fun i h h' st k=>st.at fun oi e=>k it (by simp) oi e;item:=by
  intro X hP hw hK hc i pins s σ H E I hf st hg;subst hP hw hK;obtain⟨hd,hi⟩:=hg;obtain⟨f0,f1,f2,f3,f4,f5⟩:=hf it (by simp);obtain⟨hs,oW,hx,gS,oM,vs,gz,hsz,kv,hm⟩:=I.J9 hd;obtain⟨rfl,rfl⟩:=Cs nJ gz;obtain⟨⟨k,v⟩,zB⟩:∃p,kvs[i]? =some p:=⟨kvs[i],cV hi⟩;obtain⟨u,hu,ru⟩:=aiy kv zB;have hl:kvs.length=vs.length:=yu kv;rw[hl]at st;refine wpAny_pyNext_dict_item st hm hu fun key h' qf jb sb=>?_;have I1:Inv X pins σ H {s with heap:=h'}:=I.turned (t':=s.toks) (fun b ob hb e=>(sb.2 b hb).trans e) f0 f1 f3 f4 f5;obtain⟨oi,e,c,dd⟩:=id jb;refine⟨key,rfl,wG (s:={s with heap:=h'}) e c dd (by decide) ⟨kV k,H,I1,anc (show sj k key=true from qf),⟨rfl,k,v,zB,rfl⟩,?_,fun b hb=>(hf b hb).1⟩⟩;show h'.IsKeyIter it d (i+1) kvs.length _;rw[hl];exact jb
 done:=by
  intro X hP hw hK hc i pins s σ H E I hf st hg;subst hP hw hK;obtain⟨hd,hi⟩:=hg;obtain⟨f0,f1,f2,f3,f4,f5⟩:=hf it (by simp);obtain⟨hs,oW,hx,gS,oM,vs,gz,hsz,kv,hm⟩:=I.J9 hd;obtain⟨rfl,rfl⟩:=Cs nJ gz;exact V2 (I.ok.hd hc) st oW gz hsz hi fun h' eb=>⟨rfl,I.turned (t':=s.toks) (fun b ob hb e=>eb b ob hb e) f0 f1 f3 f4 f5⟩
 self:=fun A i s Q E st h=>wpAny_pyIter_keyiter st h
theorem ape{kvs:List (List Key×V)}(it:aa)(nJ:o.data=.dict es ep):Turn P w K tg (Qr d o kvs) [it] it (fun i h=>h.IsKeyIter it d i kvs.length ep) where
 mem:=by simp
 obj:=fun i h st b hb=>by
  have e:b=it:=by simpa using hb
  subst e;obtain⟨oi,e,c,dd⟩:=st;exact⟨oi,e,fun v z=>by rw[dd]at z;cases z⟩
 keep:=fun i h h' st k=>st.at fun oi e=>k it (by simp) oi e;item:=by
  intro X hP hw hK hc i pins s σ H E I hf st hg;subst hP hw hK;obtain⟨hd,hi⟩:=hg;obtain⟨f0,f1,f2,f3,f4,f5⟩:=hf it (by simp);obtain⟨hs,oW,hx,gS,oM,gz,hsz,ent⟩:=I.Ka hd;obtain⟨rfl,rfl⟩:=Cs nJ gz;obtain⟨⟨k,v⟩,zB⟩:∃p,kvs[i]? =some p:=⟨kvs[i],cV hi⟩;obtain⟨en,q,dh,qf,hq⟩:=ent i k v zB;refine aj3 st oW gz hsz dh fun h' jb sb=>?_;have I1:Inv X pins σ H {s with heap:=h'}:=I.turned (t':=s.toks) (fun b ob hb e=>(sb.2 b hb).trans e) f0 f1 f3 f4 f5;obtain⟨oi,e,c,dd⟩:=id jb;exact⟨en.key,rfl,wG (s:={s with heap:=h'}) e c dd (by decide) ⟨.ref q,H,I1,qf,⟨rfl,k,v,q,zB,rfl,hq⟩,jb,fun b hb=>(hf b hb).1⟩⟩
 done:=by
  intro X hP hw hK hc i pins s σ H E I hf st hg;subst hP hw hK;obtain⟨hd,hi⟩:=hg;obtain⟨f0,f1,f2,f3,f4,f5⟩:=hf it (by simp);obtain⟨hs,oW,hx,gS,oM,gz,hsz,ent⟩:=I.Ka hd;obtain⟨rfl,rfl⟩:=Cs nJ gz;exact V2 (I.ok.hd hc) st oW gz hsz hi fun h' eb=>⟨rfl,I.turned (t':=s.toks) (fun b ob hb e=>eb b ob hb e) f0 f1 f3 f4 f5⟩
 self:=fun A i s Q E st h=>by
  refine GR st.typeIs aak (oF aak st.typeIs F.entry_dict_keyiterator_iter ?_ (F.args_dict_keyiterator_iter_1 _));show aE _ _ (ret (.ref it)) _ _ s;exact bz ⟨_,rfl,"dict_keyiterator",_,st.typeIs,yq.lookup,h⟩
end
def ah9(td:TE):TI:=fun σ H R=>td σ H fun x H1=>∃d o,x=.ref d/\((∃kvs,H1 d=some (.cS o (.dK kvs))/\R (x6 d o kvs) H1)\/∃kvs,H1 d=some (.cS o (.dT kvs))/\R (Qr d o kvs) H1)
section
variable{X:Cx}{tg e:bw}{td:TE}{apos fS:b4}
theorem amy(he:PE X e td):PI X tg e (ah9 td):=by
 intro pins s σ H R I h;refine bo (he pins s σ H _ I h) fun u s1 ⟨x,H1,I1,rx,d,o,ex,q⟩=>?_;subst ex;obtain rfl:u=dm d:=rx;rcases q with⟨kvs,hd,q⟩|⟨kvs,hd,q⟩
 .obtain⟨hs,oW,hx,es,ep,vs,gz,hsz,kv,hm⟩:=I1.J9 hd;refine Vg hs oW hx gz (As (tk:=s1.toks) I1 _ (apd _ gz) ⟨_,dZ _ rfl,rfl,?_⟩ q);rw[hsz]<;>rfl
 .obtain⟨hs,oW,hx,es,ep,gz,hsz,ent⟩:=I1.Ka hd;refine Vg hs oW hx gz (As (tk:=s1.toks) I1 _ (ape _ gz) ⟨_,dZ _ rfl,rfl,?_⟩ q);rw[hsz]<;>rfl
end
section
namespace Y5
open PySem PyProof.Rows
end Y5
end
section
namespace TL
open PySem PySem.Builtin PySem.Builtin.Str PySem.StrLaws
abbrev tl(x:ah):List Nat:=x.cps.toList
theorem mP(x:ah):x.length=(tl x).length:=by simp[tl,Rp]
theorem oN{x y:ah}(h:tl x=tl y):x=y:=Str.ext' (Array.toList_inj.mp h)
theorem xS(x y:ah):tl (x++y)=tl x++tl y:=by
 show(x++y).cps.toList=_;rw[Str.cps_append,Array.toList_append]
theorem VM(x:ah):(⟨(tl x).toArray⟩:ah)=x:=oN rfl
def pre(S l:List Nat):Bool:=l.take S.length==S
def par(S:List Nat):List Nat->List Nat->Option (List Nat×List Nat)
 |_,[]=>none
 |acc,c::r=>if pre S (c::r)=true then some (acc,(c::r).drop S.length)else par S (acc++[c]) r
theorem Wr{S acc r:List Nat}{c:Nat}(h:pre S (c::r)=true):par S acc (c::r)=some (acc,(c::r).drop S.length):=by
 show(if pre S (c::r)=true then some (acc,(c::r).drop S.length)else par S (acc++[c]) r)=_;rw[if_pos h]
theorem Mj{S acc r:List Nat}{c:Nat}(h:pre S (c::r)=false):par S acc (c::r)=par S (acc++[c]) r:=by
 show(if pre S (c::r)=true then some (acc,(c::r).drop S.length)else par S (acc++[c]) r)=_;rw[if_neg (by rw[h];exact eX)]
theorem amG{S:List Nat}(hS:S≠[]):pre S []=false:=by
 cases S with
 |nil=>exact absurd rfl hS
 |cons s S=>rfl
theorem amH{s c:Nat}(S r:List Nat)(h:c≠s):pre (s::S) (c::r)=false:=by
 cases hp:pre (s::S) (c::r)with
 |false=>rfl
 |true=>
  have e:(c::r).take (s::S).length=s::S:=eq_of_beq hp;rw[cy,QQ]at e;injection e with e1 e2
  exact absurd e1 h
theorem amI(S r:List Nat):pre S (S++r)=true:=by
 show((S++r).take S.length==S)=true;have e:(S++r).take S.length=S:=FZ;rw[e]<;>exact beq_self_eq_true S
theorem afw{L:List Nat}{a:Nat}(h:a<L.length):∃c,L.drop a=c::L.drop (a+1):=⟨L[a],tu h⟩
theorem An(S L:List Nat):∀(m a:Nat)(acc:List Nat),a+m<=L.length->(∀k,a<=k->k<a+m->pre S (L.drop k)=false)->par S acc (L.drop a)=par S (acc++(L.drop a).take m) (L.drop (a+m))
 |0,a,acc,_,_=>by rw[ZO,jI,F7]
 |m+1,a,acc,h,hn=>by
  have bI:a<L.length:=by lia
  obtain⟨c,e⟩:=afw bI;have h0:=hn a (cA _) (by lia);have ih:=An S L m (a+1) (acc++[c]) (by lia) (fun k h1 h2=>hn k (by lia) (by lia));have e2:a+1+m=a+(m+1):=by lia
  rw[e2]at ih;rw[e]at h0;rw[e,Mj h0,ih,QQ,iL]<;>rfl
theorem S8(L:List Nat)(a b:Nat):(L.drop a).drop b=L.drop (a+b):=by
 first
  |rw[pH]
  |rw[pH,QV]
theorem Wq{S L:List Nat}(hS:S≠[]){c:Nat}{acc:List Nat}(h:pre S (L.drop c)=true):par S acc (L.drop c)=some (acc,L.drop (c+S.length)):=by
 rw[<-S8];cases e:L.drop c with
 |nil=>rw[e,amG hS]at h;cases h
 |cons d r=>
  rw[e]at h;rw[Wr h]
theorem Cc{x y:ah}(hy:tl y≠[])(i:Nat):At x y x.length i↔pre (tl y) ((tl x).drop i)=true:=by
 have hx:=mP x;have hl:=mP y;constructor
 .intro h;have h2:=h.2;rw[subAt_eq,hl]at h2;exact h2
 .intro h;have e:((tl x).drop i).take (tl y).length=tl y:=eq_of_beq h;have e1:=congrArg ox e;rw[iN,iM]at e1;have e2:0<(tl y).length:=ka.mpr hy;refine⟨by lia,?_⟩;rw[subAt_eq,hl];exact h
theorem V5{x y:ah}(hy:tl y≠[]){i:Nat}(h:¬At x y x.length i):pre (tl y) ((tl x).drop i)=false:=by
 cases hp:pre (tl y) ((tl x).drop i)with
 |false=>rfl
 |true=>exact absurd ((Cc hy i).mpr hp) h
theorem Yz(x:ah)(i j:Nat):tl (strSub x i j)=((tl x).drop i).take (j-i):=strSub_toList x i j
theorem ao3(x:ah)(i:Nat):tl (strSub x i x.length)=(tl x).drop i:=by
 rw[Yz,mP x];exact yi (by rw[iM]<;>lia)
theorem DT(x y:ah)(hy:tl y≠[]):jM x y=(match par (tl y) [] (tl x)with|some (a,b)=>(⟨a.toArray⟩,y,⟨b.toArray⟩)|none=>(x,hG,hG)):=by
 have hx:=mP x;have hl:=mP y;rcases PyProof.Rows.partition_whole x y with⟨e,hn⟩|⟨i,e,hi,hn⟩
 .have run:=An (tl y) (tl x) (tl x).length 0 [] (by lia) (fun k Z Z=>V5 hy (hn k));rw[j9,Bn,vq]at run;rw[e,run]<;>rfl
 .have hb:i+y.length<=x.length:=hi.1;have run:=An (tl y) (tl x) i 0 [] (by lia) (fun k Z k2=>V5 hy (hn k (by lia)));rw[j9,Bn,ni,Wq hy ((Cc hy i).mp hi)]at run;rw[e,run];have e1:strSub x 0 i=⟨((tl x).take i).toArray⟩:=oN (by rw[Yz,j9,Nat.sub_zero]);have e2:strSub x (i+y.length) x.length=⟨((tl x).drop (i+(tl y).length)).toArray⟩:=oN (by rw[ao3,hl]);rw[e1,e2]<;>rfl
theorem al6{S p rest acc:List Nat}(hS:S≠[])(h:∀i,i<p.length->pre S ((p++(S++rest)).drop i)=false):par S acc (p++(S++rest))=some (acc++p,rest):=by
 have run:=An S (p++(S++rest)) p.length 0 acc (by rw[cY];lia) (fun k Z k2=>h k (by lia));have ed:(p++(S++rest)).drop p.length=S++rest:=Bb;rw[j9,Bn,FZ]at run;rw[run,Wq hS (by rw[ed];exact amI S rest),<-S8,ed,Bb]
theorem al4{S p acc:List Nat}(h:∀i,i<p.length->pre S (p.drop i)=false):par S acc p=none:=by
 have run:=An S p p.length 0 acc (by lia) (fun k Z k2=>h k (by lia));rw[j9,Bn,vq]at run;exact run
theorem T4{s:Nat}{S p q:List Nat}(h:s∉p):∀i,i<p.length->pre (s::S) ((p++q).drop i)=false:=fun i hi=>by
 have bI:i<(p++q).length:=by rw[cY];lia
 have e:(p++q).drop i=(p++q)[i]::(p++q).drop (i+1):=tu bI;rw[e];refine amH _ _ fun z=>h ?_;have e1:(p++q)[i]=p[i]:=List.getElem_append_left hi;rw[<-z,e1];exact QC hi
theorem al7{s:Nat}{S p rest acc:List Nat}(h:s∉p):par (s::S) acc (p++(s::S++rest))=some (acc++p,rest):=al6 (by simp) (T4 h)
theorem al5{s:Nat}{S p acc:List Nat}(h:s∉p):par (s::S) acc p=none:=al4 fun i hi=>by
 have z:=T4 (S:=S) (q:=[]) h i hi;rw[jI]at z;exact z
def si(S:List Nat):List (List Nat)->List Nat
 |[]=>[]
 |[p]=>p
 |p::q::r=>p++(S++si S (q::r))
theorem PM(y:ah):∀parts:List ah,tl (Ro y parts)=si (tl y) (parts.map tl)
 |[]=>rfl
 |[_]=>rfl
 |x::z::r=>by
  show tl (x++y++Ro y (z::r))=tl x++(tl y++si (tl y) ((z::r).map tl));rw[xS,xS,PM y (z::r),iL]
theorem join_eq(y:ah)(parts:List ah):BC y parts=Ro y parts:=glued_eq_join y parts
theorem amb{y:ah}{s:Nat}{S:List Nat}(ey:tl y=s::S){a b:ah}(h:s∉tl a):jM (a++y++b) y=(a,y,b):=by
 rw[DT _ y (by rw[ey];simp),xS,xS,iL,ey,al7 h];show((⟨([]++tl a).toArray⟩:ah),y,(⟨(tl b).toArray⟩:ah))=_;rw[ni,VM,VM]
theorem amc{y:ah}{s:Nat}{S:List Nat}(ey:tl y=s::S){a:ah}(h:s∉tl a):jM a y=(a,hG,hG):=by
 rw[DT _ y (by rw[ey];simp),ey,al5 h]
def qv(n:Nat):List Nat:=(yl 10 n).map Qn
theorem Yy(n:Nat):tl (bB (toString ((n:Nat):Int)))=qv n:=PySem.W.KIN.signs_num n
theorem S6:∀d:Nat,d<10->(QW d).toNat=48+d:=by decide
theorem Wa{n:Nat}(h:n<10):qv n=[48+n]:=by
 unfold qv;rw[ZV h];show[(QW n).toNat]=_;rw[S6 n h]
theorem Wb{n:Nat}(h:10<=n):qv n=qv (n / 10)++[48+n%10]:=by
 have hm:n%10<10:=QX n (by decide);have t:yl 10 (n / 10)++yl 10 (n%10)=yl 10 (10*(n / 10)+n%10):=Nat.toDigits_append_toDigits (by decide) (by lia) hm;rw[Nat.div_add_mod]at t;show(yl 10 n).map Qn=_;rw[<-t,fz,ZV hm];show(yl 10 (n / 10)).map Qn++[(QW (n%10)).toNat]=_;rw[S6 _ hm]<;>rfl
theorem akc{n k:Nat}(hk:0<k)(h:n<10^k):(qv n).length<=k:=by
 have z:=PyProof.Rows.toString_length_le (v:=(n:Int)) (by lia) hk (by
  have e:((10:Int)^k)=((10^k:Nat):Int):=by
   first
    |exact(Int.natCast_pow 10 k).symm
    |simp
  rw[e];first|exact Int.ofNat_lt.mpr h|lia)
 rw[mP,Yy]at z;exact z
end TL
end
theorem Pq:∀{ys:List ah}{us:List af},Vals (ys.map V.str) us->StrsAre us ys
 |[],_,.nil=> .nil
 |y::ys,_,.cons r t=>by
  obtain⟨k,rfl⟩:=r;exact .cons y k (Pq t)
section
variable{X:Cx}{pins:List (aa×aM)}{σ:St}{H:Hp}{s:ao}{Q:VK}
theorem Vv{x y z:ah}{t u v:ji}{k:Nat}(I:Inv X pins σ H s)(h:∀p,H p=none->Q (.ref p) (upd H p (.tup [.str x,.str y,.str z]))):EP X pins σ Q (.ref s.heap.objs.size) {s with toks:=k,heap:=s.heap.push {cls:=.type "tuple",data:=.seq [Value.str x t,.str y u,.str z v].toArray}}:=by
 have hp:=I.aT.fresh (cA _);exact⟨.ref s.heap.objs.size,upd H s.heap.objs.size (.tup [.str x,.str y,.str z]),I.laid (fun b u q=>cD _ q) (cA _) ⟨by show 3<=sizeLine;decide,[Value.str x t,.str y u,.str z v],.cons ⟨t,rfl⟩ (.cons ⟨u,rfl⟩ (.cons ⟨v,rfl⟩ .nil)),_,dZ _ rfl,rfl,_,rfl⟩,rfl,h _ hp⟩
end
section
variable{X:Cx}
theorem ajf:kb X "str.partition" (fun x xs H Q=>∃a b,x=.str a/\xs=[.str b]/\(b.length==0)=false/\a.length<=sizeLine/\∀p,H p=none->Q (.ref p) (upd H p (.tup [.str (jM a b).1,.str (jM a b).2.1,.str (jM a b).2.2]))):=by
 intro pins s σ H x xs v us Q I rx rs h;obtain⟨a,b,rfl,rfl,hb,hz,h⟩:=h;obtain⟨t,rfl⟩:=rx;cases rs with
 |cons r1 rs=>
  cases rs;obtain⟨u,rfl⟩:=r1;refine yz aal (rj _ _ _) F.entry_str_partition (F.args_str_partition_2 _ _) (meets_str_partition a b t u hb hz) ?_;unfold jM at h;revert h;cases aaa a b 0 a.length 1 with
  |nil=>intro h;exact Vv I h
  |cons i r=>intro h;exact Vv I h
theorem aje:kb X "str.join" (fun x xs H Q=>∃a p,∃ys:List ah,x=.str a/\xs=[.ref p]/\(aH X.K H p (ys.map V.str)\/cN X.K H p (ys.map V.str))/\(ys.map (·.length)).sum+ys.length*a.length<=16777216/\Q (.str (BC a ys)) H):=by
 intro pins s σ H x xs v us Q I rx rs h;obtain⟨a,p,ys,rfl,rfl,hp,hz,h⟩:=h;obtain⟨t,rfl⟩:=rx;cases rs with
 |cons r1 rs=>
  cases rs;cases r1;rcases hp with hp|hp
  .obtain⟨aC,r,⟨o,n,ho,hc,Z,hd⟩,Z⟩:=I.list hp;exact PyProof.Rows.join_list (items:=aC.toArray) ⟨o,ho,hc,n,hd⟩ (by rw[QR];exact Pq r) hz fun t' k=>⟨.str _,H,I.tok k,⟨t',rfl⟩,h⟩
  .obtain⟨aC,r,ht,Z⟩:=I.tuple hp;exact PyProof.Rows.join_tuple (items:=aC.toArray) ht (by rw[QR];exact Pq r) hz fun t' k=>⟨.str _,H,I.tok k,⟨t',rfl⟩,h⟩
theorem xf{id:String}{C:ah->Prop}{g:ah->V}(rule:∀(a:ah)(t:ji)(s:ao)(Q:af->ao->Prop),C a->(∀(u:af)(k:Nat),RelV (g a) u->Q u {s with toks:=k})->aE (model X.prog X.w) X.A (call (.builtin id) [.str a t]) Q X.xe s):kb X id (fun x xs H Q=>∃a,x=.str a/\xs=[]/\C a/\Q (g a) H):=by
 intro pins s σ H x xs v us Q I rx rs h;obtain⟨a,rfl,rfl,hc,h⟩:=h;obtain⟨t,rfl⟩:=rx;cases rs;exact rule a t s _ hc fun u k r=>⟨g a,H,I.tok k,r,h⟩
theorem Dx:kb X "str.isdigit" (fun x xs H Q=>∃a,x=.str a/\xs=[]/\True/\Q (.bl (BA a)) H):=xf (C:=fun Z=>True) (g:=fun a=> .bl (BA a)) fun Z Z s Z Z h=>PySem.SC.isdigit (h _ s.toks rfl)
theorem ajc:kb X "str.isalpha" (fun x xs H Q=>∃a,x=.str a/\xs=[]/\True/\Q (.bl (Bz a)) H):=xf (C:=fun Z=>True) (g:=fun a=> .bl (Bz a)) fun Z Z s Z Z h=>PySem.SC.isalpha (h _ s.toks rfl)
theorem HR:ma X (.type "int") (fun xs H Q=>∃a n,xs=[.str a]/\RI a=some n/\a.length<=640/\Q (.int n) H):=by
 intro pins s σ H xs us Q I rs h;obtain⟨a,n,rfl,hn,hl,h⟩:=h;cases rs with
 |cons r1 rs=>
  cases rs;obtain⟨t,rfl⟩:=r1;exact PySem.W.KIN.call_text hn hl ⟨.int n,H,I.tok _,⟨_,rfl⟩,h⟩
end
section
variable{X:Cx}{o e:bw}{to te:TE}
def tM0(r:V->List V->Hp->VK->Prop)(to:TE):TE:=fun σ H Q=>to σ H fun x H1=>(∃a,x=.str a)/\r x [] H1 Q
def Py(r:V->List V->Hp->VK->Prop)(to te:TE):TE:=fun σ H Q=>to σ H fun x H1=>(∃a,x=.str a)/\te σ H1 fun y H2=>r x [y] H2 Q
theorem xt{id:String}{name:ah}{apos pos:b4}{r:V->List V->Hp->VK->Prop}(slot:Slot "str" name id)(ty:BN (.builtin id)=pure (.type "method_descriptor"))(rule:kb X id r)(ho:PE X o to)(lQ:mn o name X.env (eval o X.env)=eval o X.env:=by rfl)(lS:(apos.endLine==pos.line)=true:=by rfl):PE X (.Call (.Attribute o name apos) [] [] pos) (tM0 r to):=by
 intro pins s σ H Q I h;refine PySem.Call_method0 lQ lS (bo (ho pins s σ H _ I h) fun v s1 ⟨x,H1,I1,r1,q1⟩=>?_);obtain⟨⟨a,rfl⟩,q1⟩:=q1;obtain⟨t,rfl⟩:=_root_.id r1;exact⟨"str",_,Q9,slot,ty,rj _ _ _,(fun Z e=>nomatch e),yp rfl (aaR (rule pins s1 σ H1 _ [] _ [] Q I1 r1 .nil q1))⟩
theorem WD{id:String}{name:ah}{apos pos:b4}{r:V->List V->Hp->VK->Prop}(slot:Slot "str" name id)(ty:BN (.builtin id)=pure (.type "method_descriptor"))(rule:kb X id r)(ho:PE X o to)(he:PE X e te)(hs:b5 [e] X.env=[(false,eval e X.env)]:=by rfl)(lQ:mn o name X.env (eval o X.env)=eval o X.env:=by rfl)(lS:(apos.endLine==pos.line)=true:=by rfl):PE X (.Call (.Attribute o name apos) [e] [] pos) (Py r to te):=by
 intro pins s σ H Q I h;refine PySem.Call_method1 lQ hs lS (bo (ho pins s σ H _ I h) fun v s1 ⟨x,H1,I1,r1,q1⟩=>?_);obtain⟨⟨a,rfl⟩,q1⟩:=q1;obtain⟨t,rfl⟩:=_root_.id r1;refine⟨"str",_,Q9,slot,ty,rj _ _ _,(fun Z e=>nomatch e),yp rfl (Gi (qR ?_))⟩;exact bo (he pins s1 σ H1 _ I1 q1) fun u s2 ⟨y,H2,I2,r2,q2⟩=>vE (rule pins s2 σ H2 _ [y] _ [u] Q I2 r1 (.cons r2 .nil) q2)
theorem uQ{apos pos:b4}(ho:PE X o to)(he:PE X e te)(hs:b5 [e] X.env=[(false,eval e X.env)]:=by rfl)(lQ:mn o "partition" X.env (eval o X.env)=eval o X.env:=by rfl)(lS:(apos.endLine==pos.line)=true:=by rfl):PE X (.Call (.Attribute o "partition" apos) [e] [] pos) (Py (fun x xs H Q=>∃a b,x=.str a/\xs=[.str b]/\(b.length==0)=false/\a.length<=sizeLine/\∀p,H p=none->Q (.ref p) (upd H p (.tup [.str (jM a b).1,.str (jM a b).2.1,.str (jM a b).2.2]))) to te):=WD aal F.type_str_partition ajf ho he hs lQ lS
theorem Wz{apos pos:b4}(ho:PE X o to)(he:PE X e te)(hs:b5 [e] X.env=[(false,eval e X.env)]:=by rfl)(lQ:mn o "join" X.env (eval o X.env)=eval o X.env:=by rfl)(lS:(apos.endLine==pos.line)=true:=by rfl):PE X (.Call (.Attribute o "join" apos) [e] [] pos) (Py (fun x xs H Q=>∃a p,∃ys:List ah,x=.str a/\xs=[.ref p]/\(aH X.K H p (ys.map V.str)\/cN X.K H p (ys.map V.str))/\(ys.map (·.length)).sum+ys.length*a.length<=16777216/\Q (.str (BC a ys)) H) to te):=WD F.slot_str_join F.type_str_join aje ho he hs lQ lS
end
section
variable{X:Cx}
theorem alW:eZ X (hJ .In) (fun x y H Q=>∃(c:Nat)(z:ah),x=.str ⟨#[c]⟩/\y=.str z/\Q (.bl (decide (c∈z.cps.toList))) H):=by
 intro pins s σ H x y v u Q I rx ry h;obtain⟨c,z,rfl,rfl,q⟩:=h;obtain⟨t,rfl⟩:=rx;obtain⟨t',rfl⟩:=ry;exact PyProof.Rows.in_str (dS I q (PySem.StrLaws.found_one z c).symm)
end
theorem IsPart.raw{v:af}{o:Option Int}(p:IsPart v o):∃l:Option (Int×ji),v=partValue l/\l.map (·.1)=o:=by
 cases p with
 |none=>exact⟨none,rfl,rfl⟩
 |int i t=>exact⟨some (i,t),rfl,rfl⟩
def za(n d:Nat):Option Int->Int
 |none=>(d:Int)
 |some i=>max 0 (min (if i<0 then i+(n:Int)else i) (n:Int))
theorem SO(n d:Nat)(o:Option Int):za n d o=((HT.cq n d o:Nat):Int):=by
 cases o with
 |none=>rfl
 |some v=>
  show max (0:Int) (min (if v<0 then v+(n:Int)else v) (n:Int))=(((if v<0 then(v+(n:Int)).toNat else min v.toNat n):Nat):Int);by_cases hv:v<0
  .simp only[if_pos hv];lia
  .simp only[if_neg hv];lia
theorem aob(a b:Option Int)(n:Nat):qQ a b 1 n=sliceRange (za n 0 a) (za n n b) 1:=by
 have h1:((1:Int)>0)=True:=by simp
 cases a<;>cases b<;>first
  |rfl
  |(simp only[qQ,za,h1,if_true];rfl)
  |simp[qQ,za]
theorem aoa(a b:Option Int)(n:Nat):qQ a b 1 n=(cW (HT.cq n n b-HT.cq n 0 a)).map (fun k=>HT.cq n 0 a+k):=by
 rw[aob,SO,SO];generalize HT.cq n 0 a=p;generalize HT.cq n n b=q;simp only[sliceRange,show((1:Int)>0)=True from by simp,if_true];by_cases bI:(p:Int)<q
 .have e3:(((q:Int) -p+1-1) / 1).toNat=q-p:=by first|lia|(simp;done)|(simp;lia)
  simp only[bI,if_true,e3];refine List.map_congr_left fun k Z=>?_;lia
 .have:q-p=0:=by lia
  simp[bI,this]
def lM(z:ah)(lo hi:Option Int):ah:=⟨((z.cps.toList.drop (HT.cq z.length 0 lo)).take (HT.cq z.length z.length hi-HT.cq z.length 0 lo)).toArray⟩
theorem X5(z:ah)(lo hi:Option Int):yw z lo hi=lM z lo hi:=by
 have h1:HT.cq z.length 0 lo<=z.length:=HT.Xs _ _ (dJ _) _;have h2:HT.cq z.length z.length hi<=z.length:=HT.Xs _ _ (cA _) _;have hp:HT.cq z.length 0 lo<=max (HT.cq z.length 0 lo) (HT.cq z.length z.length hi):=Nat.le_max_left _ _;have hq:max (HT.cq z.length 0 lo) (HT.cq z.length z.length hi)<=z.length:=Nat.max_le.mpr ⟨h1,h2⟩;have hd:max (HT.cq z.length 0 lo) (HT.cq z.length z.length hi) -HT.cq z.length 0 lo=HT.cq z.length z.length hi-HT.cq z.length 0 lo:=by lia
 have e:qQ lo hi 1 z.length=qQ (some ((HT.cq z.length 0 lo:Nat):Int)) (some ((max (HT.cq z.length 0 lo) (HT.cq z.length z.length hi):Nat):Int)) 1 z.length:=by
  rw[PySem.StrLaws.strSliceIndices_plain hp hq,hd,aoa]
 have e2:yw z lo hi=yw z (some ((HT.cq z.length 0 lo:Nat):Int)) (some ((max (HT.cq z.length 0 lo) (HT.cq z.length z.length hi):Nat):Int)):=by
  unfold yw;rw[e]
 rw[e2,PySem.StrLaws.sliceText_nat z hp hq,hd];rfl
theorem acI(z:ah)(lo hi:Option Int):(lM z lo hi).length<=z.length:=by
 show(((z.cps.toList.drop (HT.cq z.length 0 lo)).take (HT.cq z.length z.length hi-HT.cq z.length 0 lo)).toArray).size<=z.cps.size;rw[eC,iN,iM,pE];lia
def am0:V->Option Int->Option Int->Hp->VK->Prop:=fun x lo hi H Q=>∃z,x=.str z/\z.length<=sizeLine/\Q (.str (lM z lo hi)) H
theorem AI{X:Cx}:GX X am0:=by
 intro pins s σ H x v vl vu lo hi sl Q I rx hs pl pu h;obtain⟨z,rfl,hz,q⟩:=h;obtain⟨t,rfl⟩:=rx;obtain⟨os,hos,zo,hds⟩:=hs;obtain⟨l,rfl,rfl⟩:=IsPart.raw pl;obtain⟨u,rfl,rfl⟩:=IsPart.raw pu;refine⟨"str",_,F.slot_str_getitem.lookup,rj _ _ _,?_⟩;refine wpAny_getItem_str_slice (l:=l) (u:=u) (st:=none) ⟨os,hos,zo,hds⟩ rfl ?_;have hl:(yw z (l.map (·.1)) (u.map (·.1))).length<=sizeLine:=by
  rw[X5];exact fA (acI z _ _) hz
 rw[<-X5]at q;unfold yw at q hl;show Made.post (if((1:Int)==1&&(qQ (l.map (·.1)) (u.map (·.1)) 1 z.length).length==z.length)=true then Made.val (.str z t)else Made.str ⟨((qQ (l.map (·.1)) (u.map (·.1)) 1 z.length).filterMap (z.cps[·]?)).toArray⟩) (EP X pins σ Q) s;by_cases c:((1:Int)==1&&(qQ (l.map (·.1)) (u.map (·.1)) 1 z.length).length==z.length)=true
 .rw[if_pos c]at q ⊢;exact⟨.str z,H,I,⟨t,rfl⟩,q⟩
 .rw[if_neg c]at q hl ⊢;exact⟨hl,.str _,H,I.tok _,⟨_,rfl⟩,q⟩
end L2
namespace Qk
open PySem PySem.W PySem.Calls PyProof.Rows
section
variable{prog:aV}{w:aQ}{A:bO}{E:af->ao->Prop}{s:ao}{K:aK}
theorem ab4{R:tO->ao->Prop}{name qual:ah}{params:Arguments}{body:List aW}{scope:e9}{dV kV doc pm aJ ct oc:af}{an od:Option aa}{gX:Array (Option af)}{f:aa}{args:Args}{binds:List (ah×af)}(X:K.In s.heap)(KH:s.heap.NoLimit)(ho:K.lookup f=some ⟨oc,od,.func (ly name qual params body scope dV kV doc pm an aJ ct),gX⟩)(iB:vJ K aJ qual=true)(zL:A.depth<RN)(Km:vD s (ly name qual params body scope dV kV doc pm an aJ ct) args binds)(KG:(binds.all fun y=>scope.names.lookup y.1==some .local||scope.names.lookup y.1==some .cell)=true)(h:∀s₁,InCallC s s.heap.objs.size (qZ (ir qual scope s.heap.objs.size f aJ).kindOf binds fun Z=>none) (gr (s.heap.objs.size+1) scope.names []) (qY (ir qual scope s.heap.objs.size f aJ).kindOf binds fun Z=>none) s₁->aE (model prog w) (A.deeper (ir qual scope s.heap.objs.size f aJ)) (execs body (ir qual scope s.heap.objs.size f aJ)) (fun fl s'=>R (.ok (.ret (match fl with| .ret v=>v|_=> .none))) s') (fun e s'=>aE (model prog w) (A.deeper (ir qual scope s.heap.objs.size f aJ)) (leaving (ir qual scope s.heap.objs.size f aJ) e) (fun Z qB=>R (.error e) qB) (fun e' qB=>R (.error e') qB) s') s₁)(hco:scope.isCoroutine=false)(agj:scope.isGenerator=false)(hk:scope.kind=.function):nj (model prog w) A (.call (.ref f) args) R s:=by
 refine aaP zL (X _ _ ho) rfl hco agj rfl (aaJ X iB) (Km _ _ _ _ ?_);refine aaW hk (kindsX KG _) fun env he s₁ x=>?_;subst he;exact⟨KH.keeps x.toInCall.keep,codeAny_func (h s₁ x)⟩
end
end Qk
namespace L2
open PySem PySem.Spec PyProof.Rows
def inClass(s:aW)(j:Nat):aW:=match s with
 | .ClassDef _ _ _ body _ _ _ _ _ _ _=>body.getD j (.Pass ⟨0,0,0,0⟩)
 |_=> .Pass ⟨0,0,0,0⟩
def oK(s:aW):Arguments:=match s with
 | .FunctionDef _ a _ _ _ _ _ _ _ _=>a
 |_=>{posonlyargs:=[],args:=[],vararg:=none,kwonlyargs:=[],kw_defaults:=[],kwarg:=none,defaults:=[]}
def lO(s:aW):List aW:=match s with
 | .FunctionDef _ _ b _ _ _ _ _ _ _=>b
 |_=>[]
def aP(s:aW):e9:=match s with
 | .FunctionDef _ _ _ _ _ _ sc _ _ _=>sc
 |_=>{kind:=.function,names:=[],isGenerator:=false,isCoroutine:=false}
abbrev az:f7:=fun Z Z Z Z Z Z=>False
abbrev E0:XK:=fun Z Z Z=>False
theorem aY{X:Cx}:Passes az X E0:=fun Z Z Z Z Z Z Z h=>h.elim
structure bt(K:aK)(x qual:ah)(st:aW)(f:aa)(fd:bu):Prop where
 ex:∃(oc:af)(od:Option aa)(kV doc pm:af)(an:Option aa)(aJ ct:af)(gX:Array (Option af)),
  fd=ly x qual (oK st) (lO st) (aP st) .none kV doc pm an aJ ct/\K.lookup f=some ⟨oc,od,.func fd,gX⟩/\vJ K aJ qual=true
 kp:lz K (.ref f)=true
section
variable{P:aV}{w:aQ}{K:aK}{mg:ah->Option af}{base:aG}
theorem bt.ok{x qual:ah}{st:aW}{f:aa}{fd:bu}{N ps:List ah}{k:Nat}{sp:Sp}(F:bt K x qual st f fd)(S:bE N ps (aP st))(len:∀vs H Q E,sp vs H Q E->vs.length=ps.length)(zk:∀(aJ:af)(A:bO)(outer:List dM)(s:ao)(H:Hp)(vs:List V)(Q:VK)(E:XK),bb k (A.deeper (ir qual (aP st) s.heap.objs.size f aJ))->sp vs H Q E->∃t,kc (gR az P w K mg base N qual (aP st) f aJ A outer s H E).DE (lO st) t/\t {nx:=fun Z H'=>Q .aO H',rt:=Q} (start N vs) H):bh P w K mg base az (k+1) f fd ps sp:=by
 obtain⟨oc,od,kV,doc,pm,an,aJ,ct,gX,rfl,lk,iB⟩:=F.ex;refine TY lk iB S len fun A outer s H vs Q E hr kJ=>?_;obtain⟨t,h,q⟩:=zk aJ A outer s H vs Q E hr kJ;exact⟨t,h.DE,q⟩
theorem bt.binds{x qual:ah}{st:aW}{f:aa}{fd:bu}{ps:List ah}(F:bt K x qual st f fd)(h:∀(kV doc pm:af)(an:Option aa)(aJ ct:af)(us:List af),us.length=ps.length->BG (ly x qual (oK st) (lO st) (aP st) .none kV doc pm an aJ ct) ⟨us,[]⟩=pure (ps.zip us)):Binds K fd ps []:=by
 obtain⟨oc,od,kV,doc,pm,an,aJ,ct,gX,rfl,lk,iB⟩:=F.ex;exact .all (h kV doc pm an aJ ct)
theorem Kb{x qual:ah}{st:aW}{f:aa}{oc:af}{od an:Option aa}{gX:Array (Option af)}{kV doc pm aJ ct:af}(l:K.lookup f=some ⟨oc,od,.func (ly x qual (oK st) (lO st) (aP st) .none kV doc pm an aJ ct),gX⟩)(c:vJ K aJ qual=true)(k:lz K (.ref f)=true):bt K x qual st f (ly x qual (oK st) (lO st) (aP st) .none kV doc pm an aJ ct):=⟨⟨oc,od,kV,doc,pm,an,aJ,ct,gX,rfl,l,c⟩,k⟩
end
section
variable{X:Cx}
theorem pv(i:Nat){x:ah}{pos:b4}(hN:X.N[i]? =some x:=by rfl)(hv:we X.env.scope x:=by first|exact aF rfl|exact oA (aF rfl)|exact oA (oA rfl))(hd:(x==("__debug__":ah))=false:=by decide)(iB:(x==("__classdict__":ah))=false:=by decide):PE X (.Name x pos) (aS i):=Mu hN hv hd iB
theorem ab5:ma X (.builtin "len") (fun xs H Q=>∃a kvs,xs=[V.ref a]/\H a=some (.dK kvs)/\Q (.int kvs.length) H):=by
 intro pins s σ H xs us Q I r h;obtain⟨a,kvs,rfl,ha,q⟩:=h;obtain⟨u,rfl,ru⟩:=vals1 r;cases ru;exact adS I (.inl ha) fun t s' I'=>⟨.int kvs.length,H,I',⟨t,rfl⟩,q⟩
end
theorem Dn{A B:Prop}(h:B):if false=true then A else B:=by
 rw[if_neg eX];exact h
theorem Vc{A B:Prop}(h:A):if true=true then A else B:=by
 rw[if_pos rfl];exact h
def aq(H H':Hp):Prop:=∀b o,H b=some o->H' b=some o
theorem aq.refl(H:Hp):aq H H:=fun Z Z h=>h
theorem aq.trans{H H1 H2:Hp}(a:aq H H1)(b:aq H1 H2):aq H H2:=fun c o h=>b c o (a c o h)
theorem aq.free{H H':Hp}(e:aq H H'){l:aa}(h:H' l=Option.none):H l=Option.none:=by
 cases q:H l with
 |none=>rfl
 |some o=>
  rw[e l o q]at h;cases h
section
variable{κ:Type}[DecidableEq κ]
end
end L2
namespace XV
open PySem PySem.Spec PyProof.Rows L2
variable{prog P:aV}{w:aQ}{A:bO}{s s0:ao}{K:aK}{H H' H0:Hp}{h h' base:aG}{a C:aa}{o:HO}{X:Cx}{pins:List (aa×aM)}{σ:L2.St}{mg:ah->Option af}{qual nm q:ah}{scope:e9}{cd:af}{outer:List dM}{M:qT}{env:dM}{bs sub:List af}{zp ab:Bool}{sn:List ah}{col:Option Bool}{dd:Option aa}{k0 k1 k2 k3 k5:Option af}{newId:String}
noncomputable def Yi(e:ke):Bool:=match e.key with
 | .str _ _=>true
 |_=>false
noncomputable def Ag:Option af->Bool
 |none=>true
 |some _=>false
noncomputable def MM(f:aa):Option af->Bool
 |some (.ref g)=>g==f
 |_=>false
noncomputable def L8(es:Array ke)(fI:aa)(fs:List ah):Bool:=es.toList.all Yi&&MM fI (vO es "__init__")&&Ag (vO es "__setattr__")&&Ag (vO es "__getattribute__")&&Ag (vO es "__getattr__")&&fs.all fun f=>Ag (vO es f)
noncomputable def Fj(K:aK)(C fI:aa)(fs:List ah):Prop:=∃dd nm bs N qn sn sub ab col k0 k1 k2 k3 k5 cn dn es ep sN,K.lookup C=some ⟨.type "type",dd,.cls ⟨nm,bs,[.ref C,.type "ValueError",.type "Exception",.type "BaseException",.type "object"],N,qn,true,sn,sub,ab,col,false⟩,#[k0,k1,k2,k3,some (.builtin "ValueError.__new__"),k5]⟩/\K.lookup N=some ⟨cn,dn,.dict es ep,sN⟩/\L8 es fI fs=true
theorem DC{o:Option af}(h:Ag o=true):o=none:=by
 cases o with
 |none=>rfl
 |some v=>cases h
theorem am9{f:aa}{o:Option af}(h:MM f o=true):o=some (.ref f):=by
 unfold MM at h;split at h
 .rename_i g;rw[beq_iff_eq]at h;rw[h]
 .cases h
structure wg(h:aG)(C fI:aa)(fs:List ah):Prop where
 ex:∃nm q N bs sn sub ab col dd k0 k1 k2 k3 k5 mN,h.get? C=some (rf nm q C N bs jt true sn sub ab col dd k0 k1 k2 k3 k5 "ValueError.__new__")/\h.Ns N mN/\
  mN "__init__"=some (.ref fI)/\mN "__setattr__"=none/\mN "__getattribute__"=none/\mN "__getattr__"=none/\∀f∈fs,mN f=none
theorem wg.of{K:aK}{h:aG}{C fI:aa}{fs:List ah}(X:K.In h)(q:Fj K C fI fs):wg h C fI fs:=by
 obtain⟨dd,nm,bs,N,qn,sn,sub,ab,col,k0,k1,k2,k3,k5,cn,dn,es,ep,sN,hC,hN,q⟩:=q;unfold L8 at q;simp only[cH]at q;obtain⟨⟨⟨⟨⟨q1,q2⟩,q3⟩,q4⟩,q5⟩,q6⟩:=q;refine⟨nm,qn,N,bs,sn,sub,ab,col,dd,k0,k1,k2,k3,k5,vO es,X _ _ hC,⟨_,es,ep,X _ _ hN,rfl,fun e he=>?_,fun Z=>rfl⟩,am9 q2,DC q3,DC q4,DC q5,fun f hf=>DC (k7.mp q6 f hf)⟩;have:=k7.mp q1 e (Qj.mpr he);unfold Yi at this;split at this
 .rename_i x t e1;exact⟨x,t,e1⟩
 .cases this
structure Fu(st:aW):Prop where
 sc:bE ["self","kind","place"] ["self","kind","place"] (aP st)
 l0:(aP st).names.lookup ("self":ah)=some .local
 l1:(aP st).names.lookup ("kind":ah)=some .local
 l2:(aP st).names.lookup ("place":ah)=some .local
 body:∃p1 p2 p3 p4 p5 p6 p7 p8,lO st=[.Assign [.Attribute (.Name "self" p1) "kind" p2] (.Name "kind" p3) p4,.Assign [.Attribute (.Name "self" p5) "place" p6] (.Name "place" p7) p8]
structure Qq(h h':aG)(e dx C:aa)(u1 u2:af):Prop where
 keep:∀b o,h.get? b=some o->h'.get? b=some o
 new:h.get? e=none
 LZ:h.get? dx=none
 ne:dx≠e
 bare:vg h' e (.ref C) (some dx)
 ns:h'.Ns1 dx (fun y=>if y="place" then some u2 else if y="kind" then some u1 else none)
theorem aka{h h':aG}{a:aa}{m:ah->Option af}(n:h.Ns a m)(k:∀o,h.get? a=some o->h'.get? a=some o):h'.Ns a m:=let ⟨o,es,ep,z,r⟩:=n;⟨o,es,ep,k o z,r⟩
section
variable{E:af->ao->Prop}
theorem apJ{st:aW}{fd:bu}{fI C:aa}{u1 u2:af}{Q:af->ao->Prop}(X:K.In s.heap)(lim:s.heap.NoLimit)(xc:Fj K C fI ["kind","place"])(r8:pN K (.ref fI)=true)(F:bt K "__init__" "TextFault.__init__" st fI fd)(FD:Fu st)(hb:Binds K fd ["self","kind","place"] [])(hr:bb 2 A)(hq:∀h' e dx tk,Qq s.heap h' e dx C u1 u2->Q (.ref e) {s with heap:=h',toks:=tk}):aE (model prog w) A (call (.ref C) [u1,u2]) Q E s:=by
 obtain⟨nm,q,N,bs,sn,sub,ab,col,dd,k0,k1,k2,k3,k5,mN,hC,hn,hi,UY,hga,hgg,wN⟩:=(wg.of X xc).ex;obtain⟨oc,od,kV,doc,pm,an,aJ,ct,gX,rfl,lk,iB⟩:=F.ex;have hfc:oc=.type "function":=by
  unfold pN aaN at r8;dsimp only at r8;rw[lk]at r8;exact g8 (eq_of_beq r8)
 obtain⟨h,g,d,t,os⟩:=s;have KC:=wN "kind" (by simp);have b0:=wN "place" (by simp);refine wpAny_call_exc_init PySem.F.excBase_ValueError hC hn hi (X _ _ lk) hfc (fun h1 e m1=>?_) (by show 2<=sizeLine;decide);have X1:K.In h1:=X.keeps m1.keeps;obtain⟨tt,Ut,Z,Z⟩:=m1.there;have e0:e≠C:=fun z=>by have:=m1.new;rw[z,hC]at this;cases this
 refine GO (Qk.ab4 (s:=⟨h1,g,d,t,os⟩) X1 (lim.keeps m1.keeps) lk iB (bb.make (k:=1) hr C _ _).depth (hb ⟨h1,g,d,t,os⟩ [.ref e,u1,u2] X1 rfl) ?_ (fun s1 x=>?_) FD.sc.co FD.sc.gen FD.sc.kind)
 .show([("self",dm e),("kind",u1),("place",u2)]:List (ah×af)).all _=true;simp[FD.l0,FD.l1,FD.l2]
 obtain⟨h2,tk,rfl,Vk⟩:=x.done;obtain⟨p1,p2,p3,p4,p5,p6,p7,p8,eb⟩:=FD.body;rw[eb];have L0:=x.toInCall.ns;have nd:(["self","kind","place"]:List ah).Nodup:=FD.sc.nd;have eL:h1.objs.size≠e:=vA (cj Ut);have m0:=y1 (kindOf:=(ir "TextFault.__init__" (aP st) h1.objs.size fI aJ).kindOf) (x:="self") (v:=dm e) (vs:=[.ref e,u1,u2]) (i:=0) (m:=fun Z=>none) nd rfl rfl FD.l0;have m1':=y1 (kindOf:=(ir "TextFault.__init__" (aP st) h1.objs.size fI aJ).kindOf) (x:="kind") (v:=u1) (vs:=[.ref e,u1,u2]) (i:=1) (m:=fun Z=>none) nd rfl rfl FD.l1;have m2':=y1 (kindOf:=(ir "TextFault.__init__" (aP st) h1.objs.size fI aJ).kindOf) (x:="place") (v:=u2) (vs:=[.ref e,u1,u2]) (i:=2) (m:=fun Z=>none) nd rfl rfl FD.l2;have wZ:∀b o,h.get? b=some o->h2.get? b=some o:=fun b o z=>Vk b o (m1.keeps b o z);have L7:∀{ha hb:aG},(∀b o,ha.get? b=some o->b=N->hb.get? b=some o)->ha.Ns N mN->hb.Ns N mN:=fun k ⟨o,es,ep,z,r⟩=>⟨o,es,ep,k _ _ z rfl,r⟩;refine GP (RL (vT (yP FD.sc.kind FD.l1 L0 m1' (vT (yP FD.sc.kind FD.l0 L0 m0 ?_)))));have Kw:=Vk _ _ Ut;refine afg aan (wZ _ _ hC) (L7 (fun b o z Z=>wZ b o z) hn) UY KC Vl Kw rfl (fun c z=>by cases z) rfl fun h3 tk3 f3=>?_;show aE _ _ (execs _ _) _ _ _;have ZW:N≠e:=fun z=>by
  obtain⟨o,es,ep,hN,Z⟩:=hn;have:=m1.new;rw[<-z,hN]at this;cases this
 have L1:=aka L0 (fun o z=>f3.keep _ o eL z);have hC3:=f3.keep _ _ (Ne.symm e0) (wZ _ _ hC);have hn3:h3.Ns N mN:=L7 (ha:=h2) (fun b o z q=>f3.keep b o (by rw[q];exact ZW) z) (L7 (fun b o z Z=>wZ b o z) hn);have I3:h3.Inst e C (fun y=>if y="kind" then some u1 else none):=⟨_,f3.obj,rfl,(fun c z=>by cases z),.inr ⟨_,rfl,(dR (cj Kw)).symm,f3.ns⟩⟩;refine GP (RL (vT (yP FD.sc.kind FD.l2 L1 m2' (vT (yP FD.sc.kind FD.l0 L1 m0 ?_)))));refine store_attr (ns:=["kind"]) aan hC3 hn3 UY b0 WR e0 I3 (fun h4 tk4 I4 k4 s4=>?_) (fun y hy=>?_) (by show 1<=sizeLine;decide)
 .show aE _ _ (execs [] _) _ _ _;refine BO ⟨rfl,?_⟩;obtain⟨o4,UK,c4,d4,sl4,zb⟩:=s4 _ f3.obj;have zb:=zb _ rfl;obtain⟨o5,ho5,c5,n5,q5⟩:=I4;obtain rfl:o4=o5:=g8 (UK.symm.trans ho5);have q6:h4.Ns1 h2.objs.size (fun y=>if y="place" then some u2 else if y="kind" then some u1 else none):=by
   rcases q5 with⟨z,_⟩|⟨dx,z,_,r⟩
   .rw[zb]at z;cases z
   .rw[zb]at z;cases z;exact r
  have k24:∀b o,b≠e->h2.get? b=some o->h4.get? b=some o:=fun b o hb z=>k4 b o hb (fun o0 dx z0 z1=>by
   rw[f3.obj]at z0;cases z0;cases z1;exact dR (cj z)) (f3.keep b o hb z)
  refine hq h4 e h2.objs.size tk4 ⟨fun b o z=>k24 b o (fun y=>by rw[y,m1.new]at z;cases z) (wZ b o z),m1.new,?_,(dR (cj Kw)).symm,⟨o4,_,UK,c5,zb,d4,rfl⟩,q6⟩;cases z:h.get? h2.objs.size with
  |none=>rfl
  |some o=>exact absurd (cj (wZ _ _ z)) (mh _)
 .by_cases z:y="kind"
  .rw[z];simp
  .exact absurd (if_neg z) hy
end
theorem T7{h h' base:aG}:∀{l:List dM},h.FunFrames base l->(∀b∈gy l,∀o,h.get? b=some o->∃sl,h'.get? b=some {o with slots:=sl})->h'.FunFrames base l
 |[],_,_=>trivial
 |env::r,⟨hk,⟨L,o,hf,hn,ho,hd⟩,hr⟩,k=>by
  obtain⟨sl,z⟩:=k L (tG.mpr ⟨env,eB,hf⟩) o ho;refine⟨hk,⟨L,_,hf,hn,z,hd⟩,T7 hr fun b hb=>k b ?_⟩;obtain⟨v,hv,e⟩:=tG.mp hb;exact tG.mpr ⟨v,el _ hv,e⟩
theorem akd(x:eR P w H h a o):∃ob,h.get? a=some ob:=by
 cases o with
 |lst xs=>obtain⟨Z,Z,Z,Z,e⟩:=x;exact⟨_,e⟩
 |tup xs=>obtain⟨Z,Z,Z,o,e,Z⟩:=x;exact⟨_,e⟩
 |dK kvs=>obtain⟨Z,Z,Z,Z,o,Z,Z,e,Z⟩:=x;exact⟨_,e⟩
 |dT kvs=>obtain⟨Z,Z,Z,Z,o,Z,Z,e,Z⟩:=x;exact⟨_,e⟩
 |set S n=>obtain⟨o,Z,Z,Z,e,Z⟩:=x;exact⟨_,e⟩
 |ins C dx fs=>obtain⟨Z,Z,Z,e,Z⟩:=x;exact⟨_,e⟩
 |own y=>exact x
 |xd fs=>obtain⟨Z,⟨Z,Z,Z,e,Z⟩,Z⟩:=x;exact⟨_,e⟩
 |D9 lo hi=>obtain⟨Z,Z,Z,e⟩:=x;exact⟨_,e⟩
 |cS ob u=>obtain⟨e,Z⟩:=x;exact⟨_,e⟩
 |sV ps=>exact⟨_,(show h.get? a=some _ from x)⟩
 |met f y=>exact⟨_,(show h.get? a=some _ from x)⟩
 |ext φ=>obtain⟨Z,e,Z⟩:=x;exact e
theorem wU(x:c9 P w H h)(e:h.get? a=none):H a=none:=by
 cases q:H a with
 |none=>rfl
 |some u=>
  obtain⟨ob,z⟩:=akd (x a u q);rw[e]at z;cases z
noncomputable def lb(e:aa)(C:af)(dx:aa):aG->Prop:=fun h=>∃oe vs,h.get? e=some oe/\oe.cls=C/\oe.dict=some dx/\oe.data=.fields vs
theorem WI{P:aV}{w:aQ}{H:Hp}{h:aG}{e dx:aa}{C:af}(x:lb e C dx h):eR P w H h e (.ext (lb e C dx)):=by
 refine⟨x,?_,fun h1 h2 ⟨oe,vs,e1,r⟩ k=>⟨oe,vs,k _ e1,r⟩⟩;obtain⟨oe,vs,e1,Z⟩:=x;exact⟨oe,e1⟩
theorem amx{h:aG}{e T dx:aa}{C fl:af}(x:k6 h e T C (some dx) fl):lb e C dx h:=by
 obtain⟨oe,vs,Z,Z,h1,h2,h3,h4,Z⟩:=x;exact⟨oe,vs,h1,h2,h3,h4⟩
noncomputable def XE(P:aV)(w:aQ):f7:=fun outer H s E v s'=>∃(e T C dx:aa)(H':Hp),v=.ref e/\s'.os=s.os/\qP s'.gens/\Un (gy outer) [] H H' s.heap s'.heap/\c9 P w H' s'.heap/\k6 s'.heap e T (.ref C) (some dx) .none/\s.heap.get? T=none/\H' T=none/\H' e=some (.ext (lb e (.ref C) dx))/\E (.ref C) (some dx) H'
theorem VN{P:aV}{w:aQ}{fs:List aa}{H:Hp}{h h':aG}{e T T' dx:aa}{C fl:af}{us:List aa}(aT:c9 P w H h)(mv:Moved fs [e,T] h h')(wN:∀b∈fs,H b=none)(hT:H T=none)(he:H e=some (.ext (lb e C dx)))(pX:k6 h' e T' C (some dx) fl):Un fs [T] H H h h'/\c9 P w H h':=by
 obtain⟨oe,vs,e1,r⟩:=amx pX;have ne:∀b,H b=none->b≠e:=fun b n z=>by rw[z,he]at n;cases n
 refine⟨⟨fun b o q n hb hx=>?_,fun b o q n hb hx=>?_,fun Z Z Z n Z=>n,fun b o q hx=>?_,fun Z Z q=>q,fun Z Z Z q=>q,fun b ps q=>⟨#[],by rw[q];simp⟩⟩,fun a o q=>?_⟩
 .exact mv.keep b o (by simp only[bX,jg,or_false]at hx ⊢;exact fun z=>z.elim (ne b n) hx) hb q
 .exact mv.slot b o (by simp only[bX,jg,or_false]at hx ⊢;exact fun z=>z.elim (ne b n) hx) q
 .by_cases z:b=e
  .exact⟨oe,by rw[z];exact e1⟩
  .obtain⟨sl,y⟩:=mv.slot b o (by simp only[bX,jg,or_false]at hx ⊢;exact fun q=>q.elim z hx) q;exact⟨_,y⟩
 .by_cases z:a=e
  .subst z;rw[he]at q;cases q;exact WI ⟨oe,vs,e1,r⟩
  .have out:∀b u,H b=some u->b≠e->b∉[e,T]/\b∉fs:=fun b u y ye=>by
    refine⟨fun m=>?_,fun m=>by rw[wN b m]at y;cases y⟩;simp only[bX,jg,or_false]at m;rcases m with m|m
    .exact ye m
    .rw[m,hT]at y;cases y
   refine(aT a o q).oo (fun b u hb y=>?_) (fun Z y=>y) fun Z Z y=>y;rcases hb with rfl|hb
   .exact mv.keep b u (out b o q z).1 (out b o q z).2 y
   .have be:b≠e:=fun m=>by rw[m,he]at hb;cases hb
    exact mv.keep b u (out b _ hb be).1 (out b _ hb be).2 y
theorem YM{fs:List aa}{H H':Hp}{h h1 h2:aG}{T:aa}(a:Un fs [] H H' h h1)(hT:h.get? T=none)(b:Un fs [T] H' H' h1 h2):Un fs [] H H' h h2 where
 keep:=fun c o q n hc Z=>b.keep c o (a.keep c o q n hc (by simp)) (a.free c o q n (by simp)) hc (by simp only[eY];intro z;rw[z,hT]at q;cases q);slot:=fun c o q n hc Z=>by
  obtain⟨sl,e1⟩:=a.slot c o q n hc (by simp);obtain⟨Ov,e2⟩:=b.slot c _ e1 (a.free c o q n (by simp)) hc (by simp only[eY];intro z;rw[z,hT]at q;cases q);exact⟨Ov,e2⟩
 free:=fun c o q n Z=>a.free c o q n (by simp);there:=fun c o q Z=>by
  obtain⟨o',e1⟩:=a.there c o q (by simp);exact b.there c o' e1 (by simp only[eY];intro z;rw[z,hT]at q;cases q)
 ng:=a.ng;kF:=a.kF;mY:=a.mY
theorem P4{H':Hp}{s':ao}(I:Inv X pins σ H s)(u:Un (gy X.stack) [] H H' s.heap s'.heap):s'.heap.FunFrames X.base X.stack/\∀b∈gy X.stack,H' b=none:=by
 have there:∀b∈gy X.stack,∃o,s.heap.get? b=some o:=fun b hb=>by
  obtain⟨Z,o,ho,Z⟩:=I.stack.mem hb;exact⟨o,ho⟩
 refine⟨T7 I.stack fun b hb o q=>u.slot b o q (I.AX b hb) hb (by simp),fun b hb=>?_⟩;obtain⟨o,ho⟩:=there b hb;exact u.free b o ho (I.AX b hb) (by simp)
theorem Ln{H':Hp}{s':ao}{pY:aG}{e T T' dx:aa}{C fl:af}{tk:Nat}(I:Inv X pins σ H s)(ho:s'.os=s.os)(hg:qP s'.gens)(u:Un (gy X.stack) [] H H' s.heap s'.heap)(aT:c9 X.prog X.w H' s'.heap)(hT:s.heap.get? T=none)(wI:H' T=none)(he:H' e=some (.ext (lb e C dx)))(mv:Moved (gy X.stack) [e,T] s'.heap pY)(pX:k6 pY e T' C (some dx) fl):Inv X pins σ H' {s' with heap:=pY,toks:=tk}:=by
 obtain⟨u2,KU⟩:=VN (us:=[]) aT mv (P4 I u).2 wI he pX;exact I.HQ (s':={s' with heap:=pY,toks:=tk}) (ch:=[]) ho (YM u hT u2) KU hg fun Z z=>nomatch z
theorem gone{b:aa}{H':Hp}{s':ao}{fs:List aa}(u:Un fs [] H H' s.heap s'.heap)(e:s'.heap.get? b=none):s.heap.get? b=none:=by
 cases q:s.heap.get? b with
 |none=>rfl
 |some o=>
  obtain⟨o',z⟩:=u.there b o q (by simp);rw[e]at z;cases z
section
variable{N:List ah}{f:aa}{E:XK}
theorem cO:Passes (XE P w) (gR (XE P w) P w K mg base N qual scope f cd A outer s H E) E:=by
 intro pins σ H1 s1 v s' I h;obtain⟨e,T,C,dx,H',rfl,ho,hg,u,aT,pX,hT,wI,he,hE⟩:=h;show aE _ _ (leaving _ (.ref e)) _ _ s';refine aiK (base:=base) I.ok.frames (P4 I u).1 rfl pX fun pY T2 mv n2 ue=>?_;have J:=Ln (tk:=s'.toks) I ho hg u aT hT wI he mv ue;refine⟨e,T2,C,dx,H',rfl,J.os,J.bare,J.base,J.aT,ue,?_,wU aT n2,he,hE⟩;cases q:s.heap.get? T2 with
 |none=>rfl
 |some o=>
  obtain⟨o',z⟩:=I.base.there T2 o q (by show T2∉([]:List aa);simp);rw[gone u n2]at z;cases z
end
section
variable{E:af->ao->Prop}
variable{N:aa}
theorem am3{s:ao}{m:gM af}{Q:Flow->ao->Prop}(hh:A.handled=none)(h:aE M A m (fun v s1=>∃e dx,v=.ref e/\(∃nm q N bs zp sn sub ab col dd k0 k1 k2 k3 k5 newId,s1.heap.get? C=some (rf nm q C N bs jt zp sn sub ab col dd k0 k1 k2 k3 k5 newId))/\vg s1.heap e (.ref C) dx/\E (.ref e) s1) E s):aE M A (raiseStmt env (some m) none) Q E s:=by
 have cB:(dm C::jt).contains (.type "BaseException")=true:=by rw[Ze];simp
 unfold raiseStmt;refine aB (jl h (fun v s1 h1=>?_) fun Z Z x=>x);obtain⟨e,dx,rfl,⟨nm,q,N,bs,zp,sn,sub,ab,col,dd,k0,k1,k2,k3,k5,newId,hC⟩,⟨oe,vs,he,hc,Z,hd,hf⟩,hE⟩:=h1;obtain⟨hp,g,d,tk,os⟩:=s1;repeat (first|(with_reducible refine rm he ?_;rw[hc])|with_reducible refine rm hC ?_|(with_reducible refine aaT hC ?_;rw[cB])|with_reducible refine BP he hd hf ?_|wp_step)
 exact aa0 hh hE
end
noncomputable def ff(k p:V):List (ah×V):=[("place",p),("kind",k)]
structure Flt(K:aK)(mg:ah->Option af)(C:aa):Prop where
 ex:∃st fI fd,Fj K C fI ["kind","place"]/\pN K (.ref fI)=true/\bt K "__init__" "TextFault.__init__" st fI fd/\Fu st/\Binds K fd ["self","kind","place"] []
 Ab:mg "TextFault"=some (.ref C)
 kp:lz K (.ref C)=true
noncomputable def aoS(C:aa)(E:XK)(t:TA):TS:=fun Z σ H=>t σ H fun vs H1=>∃k p,vs=[k,p]/\∀e dx,H1 e=none->H1 dx=none->dx≠e->E (.ref C) (some dx) (upd (upd H1 dx (.xd (ff k p))) e (.ext (lb e (.ref C) dx)))
section
variable{N:List ah}{f:aa}{E:XK}
theorem aid{X:Cx}{pins:List (aa×aM)}{σ:L2.St}{H:Hp}{s:ao}{h':aG}{e dx C:aa}{k p:V}{u1 u2:af}{tk:Nat}(I:Inv X pins σ H s)(F:Qq s.heap h' e dx C u1 u2)(r1:RelV k u1)(r2:RelV p u2):Inv X pins σ (upd (upd H dx (.xd (ff k p))) e (.ext (lb e (.ref C) dx))) {s with heap:=h',toks:=tk}:=by
 have ne:=wU I.aT F.new;have nd:=wU I.aT F.LZ;have Sh:∀b,b≠e->b≠dx->(upd (upd H dx (.xd (ff k p))) e (.ext (lb e (.ref C) dx))) b=H b:=fun b h1 h2=>(ba h1).trans (ba h2);have old:∀b o,s.heap.get? b=some o->b≠e/\b≠dx:=fun b o q=>⟨fun z=>by(rw[z,F.new]at q;cases q),fun z=>by(rw[z,F.LZ]at q;cases q)⟩;have Wk:∀b o,H b=some o->b≠e/\b≠dx:=fun b o q=>⟨fun z=>by(rw[z,ne]at q;cases q),fun z=>by(rw[z,nd]at q;cases q)⟩;have zY:∀b o,H b=some o->(upd (upd H dx (.xd (ff k p))) e (.ext (lb e (.ref C) dx))) b=some o:=fun b o q=>(Sh b (Wk b o q).1 (Wk b o q).2).trans q;refine I.un ⟨fun b o q Z Z Z=>F.keep b o q,fun b o q Z Z Z=>⟨o.slots,F.keep b o q⟩,fun b o q n Z=>(Sh b (old b o q).1 (old b o q).2).trans n,fun b o q Z=>⟨o,F.keep b o q⟩,fun b xs q=>zY b _ q,fun b o u q=>zY b _ q,fun b ps q=>⟨#[],by rw[zY b _ q];simp⟩⟩ (fun a o q=>?_);by_cases h1:a=e
 .subst h1;rw[aD]at q;cases q;obtain⟨oe,vs,x1,x2,x3,x4,Z⟩:=F.bare;exact WI ⟨oe,vs,x1,x2,x3,x4⟩
 .rw[ba h1]at q;by_cases h2:a=dx
  .subst h2;rw[aD]at q;cases q;refine⟨_,F.ns,fun y=>?_⟩;unfold ff;by_cases hy:y="place"
   .subst hy;exact r2
   .rw[if_neg hy,qI,show(y==("place":ah))=false from beq_eq_false_iff_ne.mpr hy];by_cases hz:y="kind"
    .subst hz;rw[if_pos rfl,List.lookup_cons_self];exact r1
    .rw[if_neg hz,qI,show(y==("kind":ah))=false from beq_eq_false_iff_ne.mpr hz];exact trivial
  .rw[ba h2]at q;exact(I.aT a o q).oo (fun b u Z y=>F.keep b u y) (fun b y=>zY b _ y) fun b xs y=>zY b _ y
theorem aiL{pins:List (aa×aM)}{σ:L2.St}{H:Hp}{s:ao}{e dx C:aa}(I:Inv (gR (XE P w) P w K mg base N qual scope f cd A outer s0 H0 E) pins σ H s)(hb:vg s.heap e (.ref C) (some dx))(he:H e=some (.ext (lb e (.ref C) dx)))(hE:E (.ref C) (some dx) H):(gR (XE P w) P w K mg base N qual scope f cd A outer s0 H0 E).xe (.ref e) s:=by
 show aE _ _ (leaving _ (.ref e)) _ _ s;refine aiJ (base:=base) I.ok.frames I.stack rfl hb fun pY T2 mv n2 ue=>?_;have hT:=wU I.aT n2;have mv2:Moved (gy (gR (XE P w) P w K mg base N qual scope f cd A outer s0 H0 E).stack) [e,T2] s.heap pY:=⟨fun b o x y z=>mv.keep b o (fun q=>x (by rw[eY.mp q];simp)) y z,fun b o x z=>mv.slot b o (fun q=>x (by rw[eY.mp q];simp)) z⟩;obtain⟨u2,KU⟩:=VN (us:=[]) I.aT mv2 I.AX hT he ue;have J:=I.HQ (s':={s with heap:=pY}) (ch:=[]) rfl (YM Un.refl n2 u2) KU I.bare fun Z z=>nomatch z
 refine⟨e,T2,C,dx,H,rfl,J.os,J.bare,J.base,J.aT,ue,?_,hT,he,hE⟩;cases q:s0.heap.get? T2 with
 |none=>rfl
 |some o=>
  obtain⟨o',z⟩:=I.base.there T2 o q (by show T2∉([]:List aa);simp);rw[n2]at z;cases z
theorem px{C:aa}{a b:bw}{t:TA}{np fS pos:b4}(T:Flt K mg C)(hr:bb 2 (gR (XE P w) P w K mg base N qual scope f cd A outer s0 H0 E).A)(hg:Gl (gR (XE P w) P w K mg base N qual scope f cd A outer s0 H0 E) "TextFault")(ha:PA (gR (XE P w) P w K mg base N qual scope f cd A outer s0 H0 E) [a,b] t)(he:b5 [a,b] (gR (XE P w) P w K mg base N qual scope f cd A outer s0 H0 E).env=(false,eval a (gR (XE P w) P w K mg base N qual scope f cd A outer s0 H0 E).env)::b5 [b] (gR (XE P w) P w K mg base N qual scope f cd A outer s0 H0 E).env:=by rfl)(b0:(gq fS (b5 [b] (gR (XE P w) P w K mg base N qual scope f cd A outer s0 H0 E).env)).any (·.1)=false:=by rfl):PS (gR (XE P w) P w K mg base N qual scope f cd A outer s0 H0 E) (.Raise (some (.Call (.Name "TextFault" np) [a,b] [] fS)) none pos) (aoS C E t):=by
 intro pins s σ H D I h;obtain⟨st,fI,fd,xc,r8,Fi,FD,hb⟩:=T.ex;rw[arm_exec_Raise];refine aB (BU ?_);refine am3 (C:=C) (I.ok.hd rfl) ?_;refine aB (jl (Q:=fun v s1=>∃e dx,v=.ref e/\(∃nm q N bs zp sn sub ab col dd k0 k1 k2 k3 k5 newId,s1.heap.get? C=some (rf nm q C N bs jt zp sn sub ab col dd k0 k1 k2 k3 k5 newId))/\vg s1.heap e (.ref C) dx/\(gR (XE P w) P w K mg base N qual scope f cd A outer s0 H0 E).xe (.ref e) s1) ?_ (fun v s₁ h₁=>aB (BU (bz h₁))) fun Z Z x=>x);refine yK (w8 I hg T.Ab ?_ (by decide));refine Gz (h₀:=base) I.ok.mod.w6 T.kp (bo (ha fS pins s σ H _ I h) fun us s1 ⟨vs,H1,I1,r,q⟩=>⟨I1.fK,?_⟩) he b0;obtain⟨k,p,rfl,q⟩:=q;obtain⟨u1,u2,rfl,r1,r2⟩:=vals2 r;refine apJ I1.fK (I1.ok.mod.nolimit.keeps I1.bk) xc r8 Fi FD hb hr fun h' e dx tk F=>?_;have J:=aid (tk:=tk) I1 F r1 r2;obtain⟨nm,q0,N0,bs,sn,sub,ab,col,dd,k0,k1,k2,k3,k5,mN,hC,Z⟩:=(wg.of J.fK xc).ex;exact⟨e,some dx,rfl,⟨nm,q0,N0,bs,_,sn,sub,ab,col,dd,k0,k1,k2,k3,k5,_,hC⟩,F.bare,aiL J F.bare aD (q e dx (wU I1.aT F.new) (wU I1.aT F.LZ) F.ne)⟩
end
theorem fL{P:aV}{w:aQ}{K:aK}{mg:ah->Option af}{base:aG}{x qual:ah}{st:aW}{f:aa}{fd:bu}{N ps:List ah}{k:Nat}{sp:Sp}(F:bt K x qual st f fd)(S:bE N ps (aP st))(len:∀vs H Q E,sp vs H Q E->vs.length=ps.length)(zk:∀(aJ:af)(A:bO)(outer:List dM)(s:ao)(H:Hp)(vs:List V)(Q:VK)(E:XK),bb k (A.deeper (ir qual (aP st) s.heap.objs.size f aJ))->sp vs H Q E->∃t,kc (gR (XE P w) P w K mg base N qual (aP st) f aJ A outer s H E) (lO st) t/\t {nx:=fun Z H'=>Q .aO H',rt:=Q} (start N vs) H):bh P w K mg base (XE P w) (k+1) f fd ps sp:=by
 obtain⟨oc,od,kV,doc,pm,an,aJ,ct,gX,rfl,lk,iB⟩:=F.ex;exact TY lk iB S len fun A outer s H vs Q E hr kJ=>zk aJ A outer s H vs Q E hr kJ
end XV
namespace LB
open PySem PySem.Spec PyProof.Rows L2
variable{X:Cx}{pos:b4}
theorem ajd:kb X "str.islower" (fun x xs H Q=>∃a,x=.str a/\xs=[]/\True/\Q (.bl (BB a)) H):=xf (C:=fun Z=>True) (g:=fun a=> .bl (BB a)) fun Z Z s Z Z h=>PySem.SC.islower (h _ s.toks rfl)
noncomputable def ud(x y:ah)(i:Int):Int:=match aaa x y (vN x.length i) x.length 1 with|k::_=>(k:Int)|[]=> -1
noncomputable def E2(x y:ah)(i:Int):Bool:=decide (vN x.length i+y.length<=x.length)&&Builtin.Str.subAt x y (vN x.length i)
theorem VO:kb X "str.find" (fun x xs H Q=>∃a b i,x=.str a/\xs=[.str b,.int i]/\Q (.int (ud a b i)) H):=by
 intro pins s σ H x xs v us Q I rx rs h;obtain⟨a,b,i,rfl,rfl,h⟩:=h;obtain⟨t,rfl⟩:=rx;obtain⟨u1,u2,rfl,⟨t1,rfl⟩,⟨t2,rfl⟩⟩:=vals2 rs;exact call_gives Rb (rj _ _ _) PySem.F.entry_str_find (PySem.F.args_str_find_3 _ _ _) (gives_str_find_from a b i t t1 t2) ⟨.int (ud a b i),H,I.tok _,⟨_,rfl⟩,h⟩
theorem ajg:kb X "str.startswith" (fun x xs H Q=>∃a b i,x=.str a/\xs=[.str b,.int i]/\Q (.bl (E2 a b i)) H):=by
 intro pins s σ H x xs v us Q I rx rs h;obtain⟨a,b,i,rfl,rfl,h⟩:=h;obtain⟨t,rfl⟩:=rx;obtain⟨u1,u2,rfl,⟨t1,rfl⟩,⟨t2,rfl⟩⟩:=vals2 rs;exact call_gives aam (rj _ _ _) PySem.F.entry_str_startswith (PySem.F.args_str_startswith_3 _ _ _) (gives_str_startswith_from a b i t t1 t2) ⟨.bl (E2 a b i),H,I.tok _,rfl,h⟩
noncomputable def tM2(r:V->List V->Hp->VK->Prop)(to te tf:TE):TE:=fun σ H Q=>to σ H fun x H1=>(∃a,x=.str a)/\te σ H1 fun y H2=>tf σ H2 fun z H3=>r x [y,z] H3 Q
theorem Ms{o e f:bw}{to te tf:TE}{id:String}{name:ah}{apos pos:b4}{r:V->List V->Hp->VK->Prop}(slot:Slot "str" name id)(ty:BN (.builtin id)=pure (.type "method_descriptor"))(rule:kb X id r)(ho:PE X o to)(he:PE X e te)(hf:PE X f tf)(hs:b5 [e,f] X.env=[(false,eval e X.env),(false,eval f X.env)]:=by rfl)(lQ:mn o name X.env (eval o X.env)=eval o X.env:=by rfl)(lS:(apos.endLine==pos.line)=true:=by rfl):PE X (.Call (.Attribute o name apos) [e,f] [] pos) (tM2 r to te tf):=by
 intro pins s σ H Q I h;refine PySem.Call_method2 lQ hs lS (bo (ho pins s σ H _ I h) fun v s1 ⟨x,H1,I1,r1,q1⟩=>?_);obtain⟨⟨a,rfl⟩,q1⟩:=q1;obtain⟨t,rfl⟩:=_root_.id r1;refine⟨"str",_,Q9,slot,ty,rj _ _ _,(fun Z e=>nomatch e),yp rfl (Gi (qR ?_))⟩;refine bo (he pins s1 σ H1 _ I1 q1) fun u s2 ⟨y,H2,I2,r2,q2⟩=>qR ?_;exact bo (hf pins s2 σ H2 _ I2 q2) fun u' s3 ⟨z,H3,I3,r3,q3⟩=>vE (rule pins s3 σ H3 _ [y,z] _ [u,u'] Q I3 r1 (.cons r2 (.cons r3 .nil)) q3)
noncomputable def fV:V->Option ah
 | .str x=>some x
 | .int i=>some (toString i)
 |_=>none
noncomputable def Wg:V->Prop
 | .str x=>x.length<=sizeLine
 | .int i=>i.natAbs.log2<1920
 |_=>False
noncomputable def sT(te:TE):TE:=fun σ H Q=>te σ H fun x H1=>Wg x/\∃y,fV x=some y/\Q (.str y) H1
theorem iH{e:bw}{te:TE}(he:PE X e te):PE X (.FormattedValue e (-1) none pos) (sT te):=by
 intro pins s σ H Q I h;refine FormattedValue_plain (bo (he pins s σ H _ I h) fun v s1 ⟨x,H1,I1,r1,ok,y,ey,q⟩=>?_);cases x with
 |str x=>
  obtain⟨t,rfl⟩:=r1;cases ey;exact formatField_str (fun t' tk=>⟨.str _,H1,I1.tok tk,⟨t',rfl⟩,q⟩) ok
 |int i=>
  obtain⟨t,rfl⟩:=r1;cases ey;exact formatField_int_small ok ⟨.str _,H1,I1.tok _,⟨_,rfl⟩,q⟩
 |aO=>exact ok.elim
 |bl _=>exact ok.elim
 |iS _=>exact ok.elim
 |gh _=>exact ok.elim
 |ref _=>exact ok.elim
 |ty _=>exact ok.elim
noncomputable def PJ(X:Cx)(es:List bw)(t:ah->L2.St->Hp->VK->Prop):Prop:=∀(out:ah)(pins:List (aa×aM))(s:ao)(σ:L2.St)(H:Hp)(Q:VK),Inv X pins σ H s->t out σ H Q->aE (model X.prog X.w) X.A (joinParts out (evalEach es X.env)) (EP X pins σ Q) X.xe s
noncomputable def zW:ah->L2.St->Hp->VK->Prop:=fun out Z H Q=>out.length<=sizeLine/\Q (.str out) H
noncomputable def j2(te:TE)(t:ah->L2.St->Hp->VK->Prop):ah->L2.St->Hp->VK->Prop:=fun out σ H Q=>te σ H fun x H1=>∃y,x=.str y/\(out++y).length<=sizeLine/\t (out++y) σ H1 Q
theorem qz:PJ X [] zW:=fun out pins s σ H Q I h=>joinParts_nil ⟨.str out,H,I.tok _,⟨_,rfl⟩,h.2⟩ h.1
theorem dW{e:bw}{es:List bw}{te:TE}{t:ah->L2.St->Hp->VK->Prop}(he:PE X e te)(hr:PJ X es t):PJ X (e::es) (j2 te t):=by
 intro out pins s σ H Q I h;refine joinParts_cons (bo (he pins s σ H _ I h) fun v s1 ⟨x,H1,I1,r1,y,ex,hz,q⟩=>?_);subst ex;obtain⟨t',rfl⟩:=r1;exact⟨hz,hr _ pins s1 σ H1 Q I1 q⟩
theorem qy{a b:bw}{es:List bw}{t:ah->L2.St->Hp->VK->Prop}(h:PJ X (a::b::es) t):PE X (.JoinedStr (a::b::es) pos) (t hG):=fun pins s σ H Q I q=>JoinedStr_many (h hG pins s σ H Q I q)
theorem Sx{hp:aG}:∀{bs:List Bool}{us:List af},Vals (bs.map V.bl) us->∃as,ReadsAll hp us (bs.map aaw) as
 |[],_,.nil=>⟨_,.nil⟩
 |b::bs,_,.cons r t=>by
  obtain⟨as,h⟩:=Sx (hp:=hp) t;cases r;exact⟨_,.cons (.bool b) h⟩
theorem SR:∀bs:List Bool,countIn (.bool true) (bs.map aaw)=((bs.countP id:Nat):Int)
 |[]=>rfl
 |b::bs=>by
  rw[dY,countIn,SR bs,List.countP_cons];cases b
  .simp[same]
  .simp[same];lia
theorem ajb:kb X "list.count" (fun x xs H Q=>∃(a:aa)(bs:List Bool),x=.ref a/\xs=[.bl true]/\aH X.K H a (bs.map V.bl)/\Q (.int ((bs.countP id:Nat):Int)) H):=by
 intro pins s σ H x xs v us Q I rx rs h;obtain⟨a,bs,rfl,rfl,hs,h⟩:=h;cases rx;obtain⟨u,rfl,ru⟩:=vals1 rs;cases ru;obtain⟨aC,rv,hl,Z⟩:=I.list hs;obtain⟨as,ra⟩:=Sx (hp:=s.heap) rv;refine count_list_bools hl.isList ra (by simp[Shape.has]) ?_;rw[SR];exact⟨.int _,H,I.tok _,⟨_,rfl⟩,h⟩
theorem P8:∀{xs:List V}{us:List af},xs.length=us.length->(∀(i:Nat) x u,xs[i]? =some x->us[i]? =some u->RelV x u)->Vals xs us
 |[],[],_,_=> .nil
 |x::xs,u::us,hl,h=> .cons (h 0 x u rfl rfl) (P8 (by simpa using hl) fun i y v e1 e2=>h (i+1) y v (by simpa using e1) (by simpa using e2))
 |[],_::_,hl,_=>by simp at hl
 |_::_,[],hl,_=>by simp at hl
noncomputable def tLR(ta:TA):TE:=fun σ H Q=>ta σ H fun vs H1=>∃j:Int,vs=[.int j]/\0<=j/\j<=2^24/\∀p,H1 p=none->Q (.ref p) (upd H1 p (.lst ((cW j.toNat).map fun i=>V.int (i:Nat))))
theorem WB{a:bw}{ta:TA}{p1 p2 q1 q2:b4}(hc:X.calm=true)(hg:Gl X "range")(hm:X.mg "range"=none)(zx:Gl X "list")(lT:X.mg "list"=none)(ha:PA X [a] ta)(hs:b5 [a] X.env=[(false,eval a X.env)]:=by rfl)(lW:b5 [Q8 (.Name "range" p1) [a] [] q1] X.env=[(false,eval (.Call (.Name "range" p1) [a] [] q1) X.env)]:=by rfl):PE X (.Call (.Name "list" p2) [.Call (.Name "range" p1) [a] [] q1] [] q2) (tLR ta):=by
 intro pins s σ H Q I h;refine tJ (o7 I zx lT (by decide+kernel:pO "list"=some (.type "list")) (tL ?_ lW rfl));rw[lW];refine qR ?_;refine tJ (o7 I hg hm Q1 (tL (bo (ha q1 pins s σ H _ I h) fun us s1 ⟨vs,H1,I1,r1,q1⟩=>?_) hs rfl));obtain⟨j,e,b1,b2,q⟩:=q1;subst e;obtain⟨u,rfl,t,rfl⟩:=vals1 r1;refine call_range_1 (vE ?_);have J:Inv X pins σ H1 {s1 with heap:=s1.heap.push {cls:=.type "range",data:=.fields #[.int 0 s1.toks,.int j t,.int 1 (s1.toks+1)]},toks:=s1.toks+1+1}:=I1.kept fun b o e=>cD _ e;refine call_list_range (n:=j.toNat) (I1.ok.hd hc) (Rc ..) (small_one (by lia) (by lia) (by lia) (by lia)) (by rw[rangeSize_one];split<;>lia) (by lia) fun h' tk jS c' hk fW nF=>?_;refine⟨.ref _,_,J.laid (t':=tk) hk (cA _) (show eR X.prog X.w _ h' _ (.lst ((cW j.toNat).map fun i=>V.int (i:Nat)))from⟨by simp;rw[jk];lia,jS.toList,c',P8 (by simp[nF.1]) fun i x u e1 e2=>?_,fW⟩),rfl,q _ (J.aT.fresh (cA _))⟩;obtain⟨t',rfl⟩:=nF.2 i u (by simpa using e2);rw[bU]at e1;cases e3:(cW j.toNat)[i]? with
 |none=>rw[e3]at e1;cases e1
 |some k=>
  rw[e3]at e1;cases e1;have e4:k=i:=by
   obtain⟨Z,e5⟩:=dQ.mp e3;simpa using e5.symm
  subst e4;exact⟨t',by simp⟩
end LB
namespace PySem
theorem F.aj8:lE (.type "list_reverseiterator") "__len__"=pure none:=by rw[rk,rb];kernel_rfl
theorem F.agr:lE (.type "list_reverseiterator") "__length_hint__"=pure (some (.builtin "list_reverseiterator.__length_hint__")):=by rw[rk,rb];kernel_rfl
section
variable{prog:aV}{w:aQ}{A:bO}{E:af->ao->Prop}{s:ao}
theorem aiB{R:tO->ao->Prop}{I l:aa}{items:Array af}(hh:A.handled=none)(bL:l≠I)(hit:s.heap.IsRevIter I l ((items.size:Int) -1))(hl:s.heap.IsList l items)(hlen:items.size<=2^24)(S:aa)(res:af)(c₀:Nat)(hS:s.heap.get? S=some {cls:=.type "list",data:=.seq #[] c₀})(CU:S≠l)(hR:∀h' tk jS c',(∀b o,b≠S->b≠I->s.heap.get? b=some o->h'.get? b=some o)->h'.get? S=some {cls:=.type "list",dict:=none,data:=.seq jS c',slots:=#[]}->ItemsOf (fun i v=>items[items.size-1-i]? =some v) jS items.size->R (.ok (.ret res)) {s with heap:=h',toks:=tk}):aE (model prog w) A.in1 (yo (.ref S) (.ref I) res) (fun fin s'=>match fin with| .done f=>R (.ok f) s'| .again c'=>c'.quiet=true/\nj (model prog w) A c' R s') (fun e s'=>R (.error e) s') s:=by
 have CS:S≠I:=fun e=>by
  obtain⟨o,ho,hc,hd⟩:=hit;rw[e,ho]at hS;cases hS;cases hd
 have p0:S∉[I,l]:=fun hm=>by
  rcases bX.mp hm with e|hm
  .exact CS e
  .exact CU (eY.mp hm)
 have W:=(Walks.listRev (prog:=prog) (w:=w) (A:=A.in1) hh I l bL items).toS;have ags:s.heap.IsRevIter I l ((items.size:Int) -1-((0:Nat):Int)):=by simpa using hit
 unfold yo;refine aB (RV (T:="list_reverseiterator") hit.typeIs ?_);have h1:Gg (.ref S) (.ref I)=false:=by simp[Gg,CS]
 rw[if_neg (by rw[h1];decide)];refine aB (wpAny_pyIter_revIter hit ?_);refine aB (pQ ?_);unfold Z9;refine aB (GS hit.typeIs F.aj8 ?_);show aE _ A.in1 (specialOf (dm I) (bB "__length_hint__")>>=_) _ _ _;refine aB (GS hit.typeIs F.agr ?_);(generalize uu:("list_reverseiterator.__length_hint__":String)=zS;(fail_if_success (clear uu zS));wp_delta;rw[show splitId zS=some ("list_reverseiterator","__length_hint__")from by subst uu;decide+kernel];subst uu);refine aB (BQ (b:=true) hit.typeIs (by rw[BI];kernel_rfl) ?_);refine bz ?_;rw[if_neg (by decide)];refine bz ⟨BL aaf _,aaQ W (by rw[jk];lia) S p0 res items.size 0 _ #[] c₀ rfl (dJ _) ⟨dJ _,ags,hl⟩ hS (aat _) fun s' jS c' hm fW nF=>?_⟩;rw[Moved.eq_with hm];refine hR s'.heap s'.toks jS c' (fun b o hb kG e=>hm.heap b o (fun dF=>?_) e) fW nF;rcases bX.mp dF with e'|dF
 .exact hb e'
 .exact kG (eY.mp dF)
theorem aiC{Q:af->ao->Prop}{I l:aa}{items:Array af}(hh:A.handled=none)(bL:l≠I)(hit:s.heap.IsRevIter I l ((items.size:Int) -1))(hl:s.heap.IsList l items)(hlen:items.size<=2^24)(hQ:∀h' tk jS c',(∀b o,b≠I->s.heap.get? b=some o->h'.get? b=some o)->h'.get? s.heap.objs.size=some {cls:=.type "list",dict:=none,data:=.seq jS c',slots:=#[]}->ItemsOf (fun i v=>items[items.size-1-i]? =some v) jS items.size->Q (.ref s.heap.objs.size) {s with heap:=h',toks:=tk}):aE (model prog w) A (call (.type "list") [.ref I]) Q E s:=by
 refine callType_codes (Q₁:=fun obj s₁=>obj=.ref s.heap.objs.size/\s₁={s with heap:=s.heap.push {cls:=.type "list",data:=.seq #[]}}) F.called_list (F.typeCall_list_1 _) F.entry_list_init (code_list_new _ ⟨rfl,rfl⟩) fun obj s₁ h₁=>?_;obtain⟨rfl,rfl⟩:=h₁;have hS:(s.heap.push {cls:=.type "list",data:=.seq #[]}).get? s.heap.objs.size=some {cls:=.type "list",data:=.seq #[]}:=dZ _ rfl;obtain⟨oI,hoI,hcI,hdI⟩:=id hit;obtain⟨ol,rV,jv,nl,qc⟩:=id hl;have CS:s.heap.objs.size≠I:=vA (cj hoI);have CU:s.heap.objs.size≠l:=vA (cj rV);refine⟨⟨_,hS,rfl⟩,F.args_list_init_2 _ _,?_⟩;show aE _ _ (do let old<-Z8 (.ref s.heap.objs.size);Builtin.List.listUpdate (.ref s.heap.objs.size) (fun Z=>#[]);letGo old.toList.reverse;yo (.ref s.heap.objs.size) (.ref I) .none) _ _ _;refine aB ?_;unfold Z8;refine aB (RU hS rfl (bz ?_));show aE _ _ (updateSeq s.heap.objs.size (fun Z=>#[])>>=fun Z=>letGo (#[]:Array af).toList.reverse>>=fun Z=>yo (.ref s.heap.objs.size) (.ref I) .none) _ _ _;refine aB (RW hS rfl ?_);have hS₂:=qS (mj (fun Z=>(#[]:Array af))) hS rfl;have jC:∀b o,b≠s.heap.objs.size->s.heap.get? b=some o->((s.heap.push {cls:=.type "list",data:=.seq #[]}).update s.heap.objs.size (mj (fun Z=>(#[]:Array af)))).get? b=some o:=fun b o hb e=>(pL _ _ (Ne.symm hb)).trans (cD _ e);refine aB (wpAny_letGo ?_);obtain⟨c1,hS₃⟩:∃c1,((s.heap.push {cls:=.type "list",data:=.seq #[]}).update s.heap.objs.size (mj (fun Z=>(#[]:Array af)))).get? s.heap.objs.size=some {cls:=.type "list",data:=.seq #[] c1}:=⟨_,hS₂⟩;refine aiB (s:={s with heap:=((s.heap.push {cls:=.type "list",data:=.seq #[]}).update s.heap.objs.size (mj (fun Z=>(#[]:Array af))))}) (A:=A.in1) hh bL (hit.at fun o e=>jC I o (Ne.symm CS) e) ⟨_,jC l _ (Ne.symm CU) rV,jv,nl,qc⟩ hlen s.heap.objs.size .none c1 hS₃ CU fun h' tk jS c' hk fW nF=>?_;exact⟨rfl,hQ h' tk jS c' (fun b o hb e=>hk b o (dR (cj e)) hb (jC b o (dR (cj e)) e)) fW nF⟩
end
end PySem
namespace LB
open PySem PySem.Spec PyProof.Rows L2
variable{X:Cx}
noncomputable def Yo(K:aK)(ta:TA):TE:=fun σ H Q=>ta σ H fun vs H1=>∃(a:aa)(xs:List V),vs=[.ref a]/\aH K H1 a xs/\∀p,H1 p=none->Q (.ref p) (upd H1 p (.lst xs.reverse))
theorem WC{a:bw}{ta:TA}{p1 p2 q1 q2:b4}(hc:X.calm=true)(hg:Gl X "reversed")(hm:X.mg "reversed"=none)(zx:Gl X "list")(lT:X.mg "list"=none)(ha:PA X [a] ta)(hs:b5 [a] X.env=[(false,eval a X.env)]:=by rfl)(lW:b5 [Q8 (.Name "reversed" p1) [a] [] q1] X.env=[(false,eval (.Call (.Name "reversed" p1) [a] [] q1) X.env)]:=by rfl):PE X (.Call (.Name "list" p2) [.Call (.Name "reversed" p1) [a] [] q1] [] q2) (Yo X.K ta):=by
 intro pins s σ H Q I h;refine tJ (o7 I zx lT (by decide+kernel:pO "list"=some (.type "list")) (tL ?_ lW rfl));rw[lW];refine qR ?_;refine tJ (o7 I hg hm abN (tL (bo (ha q1 pins s σ H _ I h) fun us s1 ⟨vs,H1,I1,r1,q1⟩=>?_) hs rfl));obtain⟨l,xs,e,hq,q⟩:=q1;subst e;obtain⟨u,rfl,ru⟩:=vals1 r1;cases ru;obtain⟨aC,rv,pl,hz⟩:=I1.list hq;have hlen:=rv.length;refine call_reversed_list pl.isList (vE ?_);obtain⟨ol,rV,jv,nl,qc⟩:=pl.isList;have hlI:l≠s1.heap.objs.size:=dR (cj rV);have J:Inv X pins σ H1 {s1 with heap:=s1.heap.push (revObj l ((aC.toArray.size:Int) -1))}:=I1.kept (t':=s1.toks) fun b o e=>cD _ e;have hn:=I1.aT.fresh (cA s1.heap.objs.size);refine aiC (items:=aC.toArray) (I1.ok.hd hc) hlI ⟨_,dZ _ rfl,rfl,rfl⟩ ⟨_,cD _ rV,jv,nl,qc⟩ (by rw[jk]at hz;simp only[eC];lia) fun h' tk jS c' hk fW nF=>?_;have keep:∀b o,s1.heap.get? b=some o->h'.get? b=some o:=fun b o e=>hk b o (dR (cj e)) (cD _ e);have hp:s1.heap.objs.size<=(s1.heap.push (revObj l ((aC.toArray.size:Int) -1))).objs.size:=by rw[oB];lia
 refine⟨.ref _,_,I1.laid (t':=tk) keep hp (show eR X.prog X.w _ h' _ (.lst xs.reverse)from⟨by rw[FR];exact hz,jS.toList,c',P8 (by have z:=nF.1;simp only[eC]at z;simp only[FR,pE,z,hlen]) fun i x u e1 e2=>?_,fW⟩),rfl,q _ (I1.aT.fresh hp)⟩;have hi:i<xs.length:=by
  have:=(dQ.mp e1).1;simpa using this
 have e3:=nF.2 i u (by simpa using e2);rw[List.getElem?_reverse hi]at e1;obtain⟨u',hu',r'⟩:=rv.get e1;have e4:aC[aC.length-1-i]? =some u:=by simpa using e3
 rw[<-hlen,hu']at e4;cases e4;exact r'
end LB
section
namespace L2
open PySem PySem.Spec PyProof.Rows
open PySem.W (WData Codec OpenSpec Well ReadsW ReadsAllW)
mutual
inductive Dw(K:aK)(H:Hp):V->fG->Prop
 |aO:Dw K H .aO .none
 |bl (b:Bool):Dw K H (.bl b) (.bool b)
 |int (i:Int):Dw K H (.int i) (.int i)
 |str (x:ah):Dw K H (.str x) (.str x)
 |iS (b:Array UInt8):Dw K H (.iS b) (.bytes b.toList)
 |lst {a:aa} {xs:List V} {ds:List fG}:aH K H a xs->kZ K H xs ds->Dw K H (.ref a) (.list ds)
 |tup {a:aa} {xs:List V} {ds:List fG}:cN K H a xs->kZ K H xs ds->Dw K H (.ref a) (.tuple ds)
inductive kZ(K:aK)(H:Hp):List V->List fG->Prop
 |nil:kZ K H [] []
 |cons {v:V} {vs:List V} {d:fG} {ds:List fG}:Dw K H v d->kZ K H vs ds->kZ K H (v::vs) (d::ds)
end
theorem S9{K:aK}{H:Hp}:∀ns:List Int,kZ K H (ns.map V.int) (ns.map WData.int)
 |[]=> .nil
 |n::r=> .cons (.int n) (S9 r)
theorem Vb{K:aK}{H:Hp}:∀(ns:List Int)(xs:List V),kZ K H xs (ns.map WData.int)->xs=ns.map V.int
 |[],xs,h=>by
  cases h;rfl
 |n::r,xs,h=>by
  cases h with
  |cons h1 h2=>
   cases h1;rw[Vb r _ h2]<;>rfl
section
variable{P:aV}{w:aQ}{K:aK}{H:Hp}{h:aG}{R:aaF}{cl:ah->Option aa}
theorem aot{a:aa}{xs:List V}(aT:c9 P w H h)(KX:K.In h)(q:aH K H a xs):∃(aC:List af)(o:aM)(n:Nat),Vals xs aC/\h.get? a=some o/\o.cls=.type "list"/\o.data=.seq aC.toArray n:=by
 rcases q with q|⟨o,aC,n,e,hc,_,hd,_,hv⟩
 .obtain⟨Z,aC,n,hv,e⟩:=(show eR P w H h a (.lst xs)from q.ok aT);exact⟨aC,_,n,hv,e,rfl,rfl⟩
 .exact⟨aC.toList,o,n,hv,KX _ _ e,hc,by simp[hd]⟩
theorem aou{a:aa}{xs:List V}(aT:c9 P w H h)(KX:K.In h)(q:cN K H a xs):∃(aC:List af)(o:aM)(n:Nat),Vals xs aC/\h.get? a=some o/\o.cls=.type "tuple"/\o.data=.seq aC.toArray n:=by
 rcases q with q|⟨o,aC,n,e,hc,hd,_,hv⟩
 .obtain⟨Z,aC,hv,o,e,hc,n,hd⟩:=(show eR P w H h a (.tup xs)from q.ok aT);exact⟨aC,o,n,hv,e,hc,hd⟩
 .exact⟨aC.toList,o,n,hv,KX _ _ e,hc,by simp[hd]⟩
mutual
theorem Dw.reads(aT:c9 P w H h)(KX:K.In h):∀(d:fG)(v:V)(u:af),Dw K H v d->RelV v u->∃as,ReadsW R cl h u d as
 | .none,_,_,x,r=>by
  cases x;cases r;exact⟨_,ReadsW.none⟩
 | .bool b,_,_,x,r=>by
  cases x;cases r;exact⟨_,ReadsW.bool b⟩
 | .int i,_,_,x,r=>by
  cases x;obtain⟨t,rfl⟩:=r;exact⟨_,ReadsW.int i t⟩
 | .str s,_,_,x,r=>by
  cases x;obtain⟨t,rfl⟩:=r;exact⟨_,ReadsW.str s t⟩
 | .bytes b,_,_,x,r=>by
  cases x;obtain⟨t,rfl⟩:=r;exact⟨_,ReadsW.bytes _ t⟩
 | .list ds,_,_,x,r=>by
  cases x with
  |lst hs ha=>
   cases r;obtain⟨aC,o,n,rv,ho,hc,hd⟩:=aot aT KX hs;obtain⟨as,hr⟩:=Dw.readsAll aT KX ds _ aC ha rv;exact⟨_,ReadsW.list ho hc hd hr⟩
 | .tuple ds,_,_,x,r=>by
  cases x with
  |tup hs ha=>
   cases r;obtain⟨aC,o,n,rv,ho,hc,hd⟩:=aou aT KX hs;obtain⟨as,hr⟩:=Dw.readsAll aT KX ds _ aC ha rv;exact⟨_,ReadsW.tuple ho hc hd hr⟩
 | .float _,_,_,x,_=>by cases x
 | .dict _,_,_,x,_=>by cases x
 | .bytearray _,_,_,x,_=>by cases x
 | .set _,_,_,x,_=>by cases x
 | .frozenset _,_,_,x,_=>by cases x
 | .obj _ _,_,_,x,_=>by cases x
theorem Dw.readsAll(aT:c9 P w H h)(KX:K.In h):∀(ds:List fG)(vs:List V)(us:List af),kZ K H vs ds->Vals vs us->∃as,ReadsAllW R cl h us ds as
 |[],_,_,x,r=>by
  cases x;cases r;exact⟨_,ReadsAllW.nil⟩
 |d::ds,_,_,x,r=>by
  cases x with
  |cons h1 h2=>
   cases r with
   |cons r1 r2=>
    obtain⟨as,q1⟩:=Dw.reads aT KX d _ _ h1 r1;obtain⟨bs,q2⟩:=Dw.readsAll aT KX ds _ _ h2 r2;exact⟨_,ReadsAllW.cons q1 q2⟩
end
end
mutual
def kP:fG->Bool
 | .none=>true
 | .bool _=>true
 | .int _=>true
 | .str _=>true
 | .bytes _=>true
 | .list xs=>mS xs
 | .tuple xs=>mS xs
 |_=>false
def mS:List fG->Bool
 |[]=>true
 |x::r=>kP x&&mS r
end
theorem WO{α:Type}{f:α->fG}(h:∀a,kP (f a)=true):∀l:List α,mS (l.map f)=true
 |[]=>rfl
 |x::r=>by
  show(kP (f x)&&mS (r.map f))=true;rw[h x,WO h r]<;>rfl
theorem sE:∀(c:Codec)(a:c.denote),kP (c.enc a)=true
 | .unit,_=>rfl
 | .bool,_=>rfl
 | .int _ _,_=>rfl
 | .nat _ _,_=>rfl
 | .u8,_=>rfl
 | .bytes _ _,_=>rfl
 | .text _ _ _ _,_=>rfl
 | .list _ _ c,a=>WO (fun x=>sE c x) a
 | .pair c d,a=>by
  show(kP (c.enc a.1)&&(kP (d.enc a.2)&&true))=true;rw[sE c a.1,sE d a.2]<;>rfl
 | .triple c d e,a=>by
  show(kP (c.enc a.1)&&(kP (d.enc a.2.1)&&(kP (e.enc a.2.2)&&true)))=true;rw[sE c a.1,sE d a.2.1,sE e a.2.2]<;>rfl
 | .option c,none=>rfl
 | .option c,some x=>sE c x
theorem WQ:∀(cs:List Codec)(a:BE cs),mS (vI cs a)=true
 |[],_=>rfl
 |c::cs,a=>by
  show(kP (c.enc a.1)&&mS (vI cs a.2))=true;rw[sE c a.1,WQ cs a.2]<;>rfl
theorem Qa:∀{xs:List fG}{d:fG},d∈xs->d.weight<=Gy xs
 |[],d,h=>absurd h (by simp)
 |x::r,d,h=>by
  show d.weight<=x.weight+1+Gy r;rcases bX.mp h with e|m
  .rw[e];lia
  .have z:=Qa m;lia
def toV:af->V
 | .none=> .aO
 | .bool b=> .bl b
 | .int i _=> .int i
 | .str x _=> .str x
 | .bytes b _=> .iS b
 | .ref a=> .ref a
 |_=> .aO
def k9(A:List aa):af->Prop
 | .none=>True
 | .bool _=>True
 | .int _ _=>True
 | .str _ _=>True
 | .bytes _ _=>True
 | .ref a=>a∈A
 |_=>False
theorem k9.mono{A B:List aa}(h:∀a∈A,a∈B):∀{u:af},k9 A u->k9 B u:=fun{u} x=>by
 cases u with
 |ref a=>exact h a x
 |none=>trivial
 |bool b=>trivial
 |int i t=>trivial
 |str s t=>trivial
 |bytes b t=>trivial
 |_=>exact fN x
theorem ane{A:List aa}{u:af}(x:k9 A u):RelV (toV u) u:=by
 cases u with
 |ref a=>rfl
 |none=>rfl
 |bool b=>rfl
 |int i t=>exact⟨t,rfl⟩
 |str s t=>exact⟨t,rfl⟩
 |bytes b t=>exact⟨t,rfl⟩
 |_=>exact fN x
theorem xW{A:List aa}:∀{vs:List af},(∀u∈vs,k9 A u)->Vals (vs.map toV) vs
 |[],_=> .nil
 |u::r,h=> .cons (ane (h u (eB ..))) (xW fun x hx=>h x (el _ hx))
def l9(h:aG)(A:List aa)(a:aa):Prop:=∃vs:List af,vs.length<=sizeLine/\(∀u∈vs,k9 A u)/\(h.get? a=some {cls:=.type "list",data:=.seq vs.toArray}\/h.get? a=some {cls:=.type "tuple",data:=.seq vs.toArray})
theorem l9.mono{h:aG}{A B:List aa}{a:aa}(k:∀a∈A,a∈B)(x:l9 h A a):l9 h B a:=by
 obtain⟨vs,h1,h2,h3⟩:=x;exact⟨vs,h1,fun u hu=>(h2 u hu).mono k,h3⟩
theorem Fb{P:qU}{h:aG}:∀{vs:List af}{ds:List fG},tQ P h vs ds->vs.length=ds.length
 |_,_,.nil=>rfl
 |_,_,.cons _ b=>by
  show _+1=_+1;rw[Fb b]
theorem YV{P:qU}{h:aG}{v:af}{ds:List fG}(x:Well P h v (.list ds)):∃(a:aa)(vs:List af),v=.ref a/\h.get? a=some {cls:=.type "list",data:=.seq vs.toArray}/\tQ P h vs ds:=by
 cases x with
 |list ho ee=>exact⟨_,_,rfl,ho,ee⟩
theorem YW{P:qU}{h:aG}{v:af}{ds:List fG}(x:Well P h v (.tuple ds)):∃(a:aa)(vs:List af),v=.ref a/\h.get? a=some {cls:=.type "tuple",data:=.seq vs.toArray}/\tQ P h vs ds:=by
 cases x with
 |tuple ho ee=>exact⟨_,_,rfl,ho,ee⟩
theorem YU{P:qU}{h:aG}{us:List af}{d:fG}{ds:List fG}(x:tQ P h us (d::ds)):∃(v:af)(vs:List af),us=v::vs/\Well P h v d/\tQ P h vs ds:=by
 cases x with
 |cons a b=>exact⟨_,_,rfl,a,b⟩
theorem VD{n:Nat}(h:n<=1048576):n<=sizeLine:=fA h (by decide)
section
variable{P:qU}{h:aG}
mutual
theorem abp:∀(d:fG)(v:af),Well P h v d->kP d=true->d.weight<=1048576->∃A:List aa,k9 A v/\∀a∈A,l9 h A a
 | .none,_,x,_,_=>by
  cases x;exact⟨[],trivial,fun a m=>absurd m (by simp)⟩
 | .bool b,_,x,_,_=>by
  cases x;exact⟨[],trivial,fun a m=>absurd m (by simp)⟩
 | .int i,_,x,_,_=>by
  cases x;exact⟨[],trivial,fun a m=>absurd m (by simp)⟩
 | .str s,_,x,_,_=>by
  cases x;exact⟨[],trivial,fun a m=>absurd m (by simp)⟩
 | .bytes b,_,x,_,_=>by
  cases x;exact⟨[],trivial,fun a m=>absurd m (by simp)⟩
 | .list ds,_,x,p,z=>by
  obtain⟨a,vs,rfl,ho,ee⟩:=YV x;have z2:Gy ds<=1048576:=z;obtain⟨A,h1,h2⟩:=B7 ds _ ee p fun d hd=>fA (Qa hd) z2;have k:∀b∈A,b∈a::A:=fun b hb=>el _ hb;refine⟨a::A,eB ..,fun b hb=>?_⟩;rcases bX.mp hb with e|m
  .rw[e];exact⟨vs,VD (by rw[Fb ee];exact fA (aaL ds) z2),fun u hu=>(h1 u hu).mono k,.inl ho⟩
  .exact(h2 b m).mono k
 | .tuple ds,_,x,p,z=>by
  obtain⟨a,vs,rfl,ho,ee⟩:=YW x;have z2:Gy ds<=1048576:=z;obtain⟨A,h1,h2⟩:=B7 ds _ ee p fun d hd=>fA (Qa hd) z2;have k:∀b∈A,b∈a::A:=fun b hb=>el _ hb;refine⟨a::A,eB ..,fun b hb=>?_⟩;rcases bX.mp hb with e|m
  .rw[e];exact⟨vs,VD (by rw[Fb ee];exact fA (aaL ds) z2),fun u hu=>(h1 u hu).mono k,.inr ho⟩
  .exact(h2 b m).mono k
 | .float _,_,_,p,_=>kW (show false=true from p)
 | .dict _,_,_,p,_=>kW (show false=true from p)
 | .bytearray _,_,_,p,_=>kW (show false=true from p)
 | .set _,_,_,p,_=>kW (show false=true from p)
 | .frozenset _,_,_,p,_=>kW (show false=true from p)
 | .obj _ _,_,_,p,_=>kW (show false=true from p)
theorem B7:∀(ds:List fG)(vs:List af),tQ P h vs ds->mS ds=true->(∀d∈ds,d.weight<=1048576)->∃A:List aa,(∀u∈vs,k9 A u)/\∀a∈A,l9 h A a
 |[],_,x,_,_=>by
  cases x;exact⟨[],fun u m=>absurd m (by simp),fun a m=>absurd m (by simp)⟩
 |d::ds,_,x,p,z=>by
  obtain⟨v,vs,rfl,x1,x2⟩:=YU x;have q:kP d=true/\mS ds=true:=Ql.mp p;obtain⟨A,a1,a2⟩:=abp d v x1 q.1 (z d (eB ..));obtain⟨B,b1,b2⟩:=B7 ds vs x2 q.2 fun e he=>z e (el _ he);have kA:∀b∈A,b∈A++B:=fun b hb=>jJ.mpr (.inl hb);have kB:∀b∈B,b∈A++B:=fun b hb=>jJ.mpr (.inr hb);refine⟨A++B,fun u hu=>?_,fun b hb=>?_⟩
  .rcases bX.mp hu with e|m
   .rw[e];exact a1.mono kA
   .exact(b1 u m).mono kB
  .rcases jJ.mp hb with m|m
   .exact(a2 b m).mono kA
   .exact(b2 b m).mono kB
end
end
def C6(o:aM):Option HO:=match o.data with
 | .seq vs _=>if(o.cls==ml "list")=true then some (.cS o (.lst (vs.toList.map toV)))else some (.cS o (.tup (vs.toList.map toV)))
 |_=>none
def hZ(K:aK)(h:aG)(A:List aa):Hp:=fun b=>if b∈A then(if(K.lookup b).isNone=true then(h.get? b).bind C6 else none)else none
def vB(H:Hp):Prop:=∀b,H b=none\/∃o u,H b=some (.cS o u)
theorem UL(vs:List af):C6 {cls:=.type "list",data:=.seq vs.toArray}=some (.cS {cls:=.type "list",data:=.seq vs.toArray} (.lst (vs.map toV))):=by
 show(if(ml "list"==ml "list")=true then some (HO.cS {cls:=.type "list",data:=.seq vs.toArray} (.lst (vs.toArray.toList.map toV)))else some (HO.cS {cls:=.type "list",data:=.seq vs.toArray} (.tup (vs.toArray.toList.map toV))))=_;rw[if_pos (beq_self_eq_true _)]
theorem UM(vs:List af):C6 {cls:=.type "tuple",data:=.seq vs.toArray}=some (.cS {cls:=.type "tuple",data:=.seq vs.toArray} (.tup (vs.map toV))):=by
 show(if(ml "tuple"==ml "list")=true then some (HO.cS {cls:=.type "tuple",data:=.seq vs.toArray} (.lst (vs.toArray.toList.map toV)))else some (HO.cS {cls:=.type "tuple",data:=.seq vs.toArray} (.tup (vs.toArray.toList.map toV))))=_;rw[if_neg (by decide)]
section
variable{P:aV}{w:aQ}{K:aK}{h:aG}{A:List aa}
theorem B8{b:aa}{o:aM}(hb:b∈A)(hk:K.lookup b=none)(e:h.get? b=some o):hZ K h A b=C6 o:=by
 unfold hZ;rw[if_pos hb,hk,if_pos (show(none:Option aM).isNone=true from rfl),e]<;>rfl
theorem akg{b:aa}{u:HO}(q:hZ K h A b=some u):b∈A/\K.lookup b=none:=by
 unfold hZ at q;by_cases hb:b∈A
 .rw[if_pos hb]at q;cases hk:K.lookup b with
  |none=>exact⟨hb,rfl⟩
  |some o=>
   rw[hk,if_neg (by simp)]at q;cases q
 .rw[if_neg hb]at q;cases q
theorem B9(ar:∀a∈A,l9 h A a){b:aa}{u:HO}(q:hZ K h A b=some u):K.lookup b=none/\∃vs:List af,vs.length<=sizeLine/\(∀u∈vs,k9 A u)/\((h.get? b=some {cls:=.type "list",data:=.seq vs.toArray}/\u=.cS {cls:=.type "list",data:=.seq vs.toArray} (.lst (vs.map toV)))\/(h.get? b=some {cls:=.type "tuple",data:=.seq vs.toArray}/\u=.cS {cls:=.type "tuple",data:=.seq vs.toArray} (.tup (vs.map toV)))):=by
 obtain⟨hb,hk⟩:=akg q;obtain⟨vs,h1,h2,h3⟩:=ar b hb;refine⟨hk,vs,h1,h2,?_⟩;rcases h3 with e|e
 .rw[B8 hb hk e,UL]at q;exact .inl ⟨e,(g8 q).symm⟩
 .rw[B8 hb hk e,UM]at q;exact .inr ⟨e,(g8 q).symm⟩
theorem abr(ar:∀a∈A,l9 h A a):vB (hZ K h A):=fun b=>by
 cases q:hZ K h A b with
 |none=>exact .inl rfl
 |some u=>
  obtain⟨Z,vs,Z,Z,⟨Z,e⟩|⟨Z,e⟩⟩:=B9 ar q
  .exact .inr ⟨_,_,by rw[e]⟩
  .exact .inr ⟨_,_,by rw[e]⟩
theorem abq(ar:∀a∈A,l9 h A a):c9 P w (hZ K h A) h:=fun b u q=>by
 obtain⟨Z,vs,h1,h2,⟨e,rfl⟩|⟨e,rfl⟩⟩:=B9 ar q
 .exact⟨e,by rw[bC];exact h1,vs,_,xW h2,e⟩
 .exact⟨e,by rw[bC];exact h1,vs,xW h2,_,e,rfl,_,rfl⟩
theorem EJ{c c':af}{vs us:List af}(e:(some {cls:=c,data:=.seq vs.toArray}:Option aM)=some {cls:=c',data:=.seq us.toArray}):c=c'/\vs=us:=by
 have e1:=g8 e;have e2:c=c':=congrArg Obj.cls e1;have e3:Gj vs.toArray=Gj us.toArray:=congrArg Obj.data e1;injection e3 with e4
 refine⟨e2,?_⟩;have e5:=congrArg Y3 e4;simpa using e5
theorem abt(KX:K.In h)(ar:∀a∈A,l9 h A a){a:aa}{vs:List af}(ha:a∈A)(e:h.get? a=some {cls:=.type "list",data:=.seq vs.toArray}):(∀u∈vs,k9 A u)/\aH K (hZ K h A) a (vs.map toV):=by
 obtain⟨us,h1,h2,h3⟩:=ar a ha;have hu:us=vs:=by
  rcases h3 with q|q
  .rw[e]at q;exact(EJ q).2.symm
  .rw[e]at q;exact absurd (aaE (EJ q).1) (by decide)
 subst hu;refine⟨h2,?_⟩;cases hk:K.lookup a with
 |none=>exact .inl (.inr ⟨_,by rw[B8 ha hk e,UL]⟩)
 |some o=>
  have e2:=KX a o hk;rw[e]at e2;obtain rfl:=g8 e2;exact .inr ⟨_,us.toArray,_,hk,rfl,rfl,rfl,by rw[eC];exact h1,by simpa using xW h2⟩
theorem abu(KX:K.In h)(ar:∀a∈A,l9 h A a){a:aa}{vs:List af}(ha:a∈A)(e:h.get? a=some {cls:=.type "tuple",data:=.seq vs.toArray}):(∀u∈vs,k9 A u)/\cN K (hZ K h A) a (vs.map toV):=by
 obtain⟨us,h1,h2,h3⟩:=ar a ha;have hu:us=vs:=by
  rcases h3 with q|q
  .rw[e]at q;exact absurd (aaE (EJ q).1) (by decide)
  .rw[e]at q;exact(EJ q).2.symm
 subst hu;refine⟨h2,?_⟩;cases hk:K.lookup a with
 |none=>exact .inl (.inr ⟨_,by rw[B8 ha hk e,UM]⟩)
 |some o=>
  have e2:=KX a o hk;rw[e]at e2;obtain rfl:=g8 e2;exact .inr ⟨_,us.toArray,_,hk,rfl,rfl,by rw[eC];exact h1,by simpa using xW h2⟩
mutual
theorem ad9{Pm:qU}(KX:K.In h)(ar:∀a∈A,l9 h A a):∀(d:fG)(v:af),Well Pm h v d->kP d=true->k9 A v->Dw K (hZ K h A) (toV v) d
 | .none,_,x,_,_=>by
  cases x;exact .aO
 | .bool b,_,x,_,_=>by
  cases x;exact .bl b
 | .int i,_,x,_,_=>by
  cases x;exact .int i
 | .str s,_,x,_,_=>by
  cases x;exact .str s
 | .bytes b,_,x,_,_=>by
  cases x;have z:=Dw.iS (K:=K) (H:=hZ K h A) b.toArray;exact z
 | .list ds,_,x,p,hu=>by
  obtain⟨a,vs,rfl,ho,ee⟩:=YV x;obtain⟨h2,hs⟩:=abt KX ar hu ho;exact .lst hs (Cu KX ar ds _ ee p h2)
 | .tuple ds,_,x,p,hu=>by
  obtain⟨a,vs,rfl,ho,ee⟩:=YW x;obtain⟨h2,hs⟩:=abu KX ar hu ho;exact .tup hs (Cu KX ar ds _ ee p h2)
 | .float _,_,_,p,_=>kW (show false=true from p)
 | .dict _,_,_,p,_=>kW (show false=true from p)
 | .bytearray _,_,_,p,_=>kW (show false=true from p)
 | .set _,_,_,p,_=>kW (show false=true from p)
 | .frozenset _,_,_,p,_=>kW (show false=true from p)
 | .obj _ _,_,_,p,_=>kW (show false=true from p)
theorem Cu{Pm:qU}(KX:K.In h)(ar:∀a∈A,l9 h A a):∀(ds:List fG)(vs:List af),tQ Pm h vs ds->mS ds=true->(∀u∈vs,k9 A u)->kZ K (hZ K h A) (vs.map toV) ds
 |[],_,x,_,_=>by
  cases x;exact .nil
 |d::ds,_,x,p,hu=>by
  obtain⟨v,vs,rfl,x1,x2⟩:=YU x;have q:kP d=true/\mS ds=true:=Ql.mp p;exact .cons (ad9 KX ar d v x1 q.1 (hu _ (eB ..))) (Cu KX ar ds vs x2 q.2 fun u m=>hu u (el _ m))
end
end
theorem aos{P:aV}{w:aQ}{K:aK}{mg mb:ah->Option af}{CX:f7}{k:Nat}{fa:aa}{fd:bu}{ps:List ah}{sp:Sp}{s₁:ao}{vals:List af}{ds:List fG}{R:aaF}{cl:ah->Option aa}{d0:fG}(KX:K.In s₁.heap)(oZ:s₁.heap.Ns cX mg)(hb:s₁.heap.Ns RE mb)(hbb:∀x:ah,x≠"__name__"->mb x=pO x)(KH:s₁.heap.NoLimit)(hg:s₁.gens=#[])(ig:tQ w.params s₁.heap vals ds)(b0:mS ds=true)(U4:∀d∈ds,d.weight<=1048576)(hr:bb k yA)(F:∀base:aG,K.In base->base.Ns cX mg->bh P w K mg base CX k fa fd ps sp)(Km:∀(s:ao)(us:List af),us.length=ps.length->vD s fd ⟨us,[]⟩ (ps.zip us))(hlen:ds.length=ps.length)(kJ:∀(H:Hp)(xs:List V),vB H->kZ K H xs ds->sp xs H (fun v H'=>Dw K H' v d0) fun Z Z Z=>False)(zi:∀H e s',CX [] H s₁ (fun Z Z Z=>False) e s'->False):nj (model P w) yA (.call (.ref fa) ⟨vals,[]⟩) (fun r s'=>∃u as,r=.ok (.ret u)/\ReadsW R cl s'.heap u d0 as/\OldK s₁.heap s'.heap/\s'.os=s₁.os/\qP s'.gens) s₁:=by
 obtain⟨A,ho,ar⟩:=B7 ds vals ig b0 U4;have hO:vB (hZ K s₁.heap A):=abr ar;have aT:c9 P w (hZ K s₁.heap A) s₁.heap:=abq ar;have hS:=Cu KX ar ds vals ig b0 ho;have hV:=xW ho;have hK:∀b u,hZ K s₁.heap A b=some u->K.lookup b=none:=fun b u q=>(B9 ar q).1;have xi:∀{b:aa}{o:aM}{es:Array ke}{ep:Nat},s₁.heap.get? b=some o->o.data=.dict es ep->hZ K s₁.heap A b=none:=fun{b o es ep} e d=>by
  cases q:hZ K s₁.heap A b with
  |none=>rfl
  |some u=>
   obtain⟨Z,vs,Z,Z,⟨e2,Z⟩|⟨e2,Z⟩⟩:=B9 ar q
   .rw[e2]at e;cases e;have d':Gj vs.toArray _=Data.dict es ep:=d;cases d'
   .rw[e2]at e;cases e;have d':Gj vs.toArray _=Data.dict es ep:=d;cases d'
 generalize hZ K s₁.heap A=H at hO aT hS hK xi;have Sq:∀{b:aa}{o:aM},s₁.heap.get? b=some o->H b=none->(qd s₁.heap H).get? b=some o:=fun e n=>ago e n;have DF:∀{b:aa}{m:ah->Option af},s₁.heap.Ns b m->(qd s₁.heap H).Ns b m:=fun{b m} ⟨o,es,ep,e,d,r⟩=>⟨o,es,ep,Sq e (xi e d),d,r⟩;have nK:∀b o,K.lookup b=some o->H b=none:=fun b o e=>by
  cases q:H b with
  |none=>rfl
  |some u=>
   rw[hK b u q]at e;cases e
 have Ui:K.In (qd s₁.heap H):=fun b o e=>Sq (KX b o e) (nK b o e);have hM:Mod K mg (qd s₁.heap H):=⟨Ui,DF oZ,⟨mb,DF hb,hbb⟩,let ⟨mc,h1,h2⟩:=KH;⟨mc,DF h1,h2⟩⟩;have e0:tp P w K mg (qd s₁.heap H) yA [] s₁ H:=⟨rfl,hM,fun b o e=>akh e,yj (agp _ _),trivial,fun b hb=>absurd (show b∈([]:List aa)from hb) (by simp),aT,.of_eq hg⟩;have hl:vals.length=ps.length:=by rw[Fb ig];exact hlen
 refine yC ((F _ Ui (DF oZ)).run yA [] s₁ H ⟨vals,[]⟩ vals (vals.map toV) _ _ hr e0 (Km s₁ vals hl) hV (kJ H _ hO hS)) fun r s' x=>?_;cases r with
 |error e=>exact(zi H e s' x).elim
 |ok fl=>
  cases fl with
  |next=>exact fN x
  |brk=>exact fN x
  |cont=>exact fN x
  |ret u=>
   obtain⟨v,H',os,bare,un,UO,r',q⟩:=x;have kept:∀b o,s₁.heap.get? b=some o->s'.heap.get? b=some o:=fun b o e=>by
    cases q2:H b with
    |none=>exact un.keep b o e q2 (by intro z;exact absurd (show b∈([]:List aa)from z) (by simp)) (by simp)
    |some u2=>
     rcases hO b with z|⟨ob,u3,z⟩
     .rw[q2]at z;cases z
     .have z2:=un.kF b ob _ z;obtain⟨e1,Z⟩:=aT b _ z;obtain⟨e2,Z⟩:=UO b _ z2;rw[e]at e1;cases e1;exact e2
   have Zc:K.In s'.heap:=fun b o e=>kept b o (KX b o e);obtain⟨as,bV⟩:=Dw.reads (R:=R) (cl:=cl) UO Zc d0 v u q r';exact⟨u,as,rfl,bV,OldK.of_keep kept,os,bare⟩
theorem aiA{ds:List fG}(h:WData.layableAll ds=true):∀d∈ds,d.weight<=1048576:=fun d hd=>(PySem.W.layableW_iff.mp (k7.mp h d hd)).2.2
theorem Th:∀(cs:List Codec)(a:BE cs),(vI cs a).length=cs.length
 |[],_=>rfl
 |c::cs,a=>by
  show(vI cs a.2).length+1=cs.length+1;rw[Th cs a.2]
theorem apy{r:OpenSpec}{k:Nat}{q:aV}{loose:List ah}{XP:(ah->Option af)->aG->Prop}{YP:aQ->aG->Prop}{d:DefRec}{K:qU->aK}{CX:aQ->f7}{ps:List ah}{sp:aQ->Sp}(Le:r.wellSaid=true)(wJ:d.params.defaults=[])(hlen:r.args.length=ps.length)(hr:bb k yA)(hY:∀(w:aQ)(h:aG),YP w h->(K w.params).In h)(F:∀(w:aQ)(mg:ah->Option af)(fa:aa)(h:aG),YP w h->(K w.params).In h->h.Ns cX mg->mg d.name=some (.ref fa)->∃fd:bu,(∀(s:ao)(us:List af),us.length=ps.length->vD s fd ⟨us,[]⟩ (ps.zip us))/\∀base:aG,(K w.params).In base->base.Ns cX mg->bh r.prog w (K w.params) mg base (CX w) k fa fd ps (sp w))(kJ:∀(w:aQ)(H:Hp)(xs:List V)(a:BE r.args),vB H->Ru r.args a=true->vH r.args r.asked a=true->kZ (K w.params) H xs (vI r.args a)->sp w xs H (fun v H'=>Dw (K w.params) H' v (r.ret.enc (vH r.args r.f a))) fun Z Z Z=>False)(zi:∀(w:aQ)(H:Hp)(s:ao)(e:af)(s':ao),CX w [] H s (fun Z Z Z=>False) e s'->False):aaG q loose XP YP r d [] (fun f vs=>PySem.call f vs):=by
 intro w gF s₁ mg mb G Y fa o pm cd doc dV kV ho hd iB hD KP hg args vals as C8 agA bV ig hlo;obtain⟨a,e1,e2⟩:=PySem.W.os_pre_some C8;obtain⟨e3,Dj⟩:=Codec.encAll_of_decAll r.args args a e1;subst e3;have KX:=hY w _ Y;obtain⟨fd,hb,hF⟩:=F w mg fa _ Y KX G.T.g KP;refine PySem.W.enter_call (yC (aos (R:=[]) (cl:=classAt gF.heap) (d0:=r.ret.enc (vH r.args r.f a)) KX G.T.g G.T.b G.T.builtins G.T.nolimit hg ig (WQ _ _) (aiA agA) hr hF hb (by rw[Th];exact hlen) (fun H xs hO hS=>kJ w H xs a hO Dj e2 hS) fun H e s'=>zi w H s₁ e s') fun r' s' hq=>?_);obtain⟨u,Cb,rfl,h1,h2,h3,h4⟩:=hq;exact⟨.inl ⟨u,_,Cb,rfl,fun Z=>rfl,h1,(OpenSpec.post_iff Le Dj _ _).mpr rfl,fun z=>kW (show false=true from z)⟩,h2,h3,h4⟩
theorem apz{r:OpenSpec}{k:Nat}{q:aV}{loose:List ah}{XP:(ah->Option af)->aG->Prop}{YP:aQ->aG->Prop}{d:DefRec}{K:qU->aK}{CX:f7}{ps:List ah}{sp:aK->Sp}(Le:r.wellSaid=true)(wJ:d.params.defaults=[])(hlen:r.args.length=ps.length)(hr:bb k yA)(hY:∀(w:aQ)(h:aG),YP w h->(K w.params).In h)(F:∀(w:aQ)(mg:ah->Option af)(fa:aa)(h:aG),YP w h->(K w.params).In h->h.Ns cX mg->mg d.name=some (.ref fa)->∃fd:bu,(∀(s:ao)(us:List af),us.length=ps.length->vD s fd ⟨us,[]⟩ (ps.zip us))/\∀base:aG,(K w.params).In base->base.Ns cX mg->bh r.prog w (K w.params) mg base CX k fa fd ps (sp (K w.params)))(kJ:∀(K:aK)(H:Hp)(xs:List V)(a:BE r.args),vB H->Ru r.args a=true->vH r.args r.asked a=true->kZ K H xs (vI r.args a)->sp K xs H (fun v H'=>Dw K H' v (r.ret.enc (vH r.args r.f a))) fun Z Z Z=>False)(zi:∀(H:Hp)(s:ao)(e:af)(s':ao),CX [] H s (fun Z Z Z=>False) e s'->False):aaG q loose XP YP r d [] (fun f vs=>PySem.call f vs):=apy (K:=K) (CX:=fun Z=>CX) (sp:=fun w=>sp (K w.params)) Le wJ hlen hr hY F (fun w H xs a h1 h2 h3 h4=>kJ (K w.params) H xs a h1 h2 h3 h4) fun Z H s e s'=>zi H s e s'
end L2
end
namespace Rw
set_option tactic.hygienic false
open PySem PySem.Spec PyProof.Rows L2 XV LB
variable{X:Cx}{pins ps:List (aa×aM)}{σ:L2.St}{H:Hp}{xe:af->ao->Prop}{A:bO}{C CR CP CT CW CF CE CC CL:aa}{o e f:bw}{ta td te:TE}{pos apos fS:b4}{P:aV}{w:aQ}{K:aK}{mg:ah->Option af}{base:aG}{kvs:List (ah×Int)}{t:ah->L2.St->Hp->VK->Prop}{Q:VK}
noncomputable abbrev bg:=G0
noncomputable abbrev cM:=fH
noncomputable abbrev eF:=Vatrca.Range
noncomputable abbrev bN:=cI
noncomputable def top(i:Nat):aW:=apS.main.body.getD i (.Pass ⟨0,0,0,0⟩)
noncomputable def S(t:au):ah:=⟨(t.map fQ).toArray⟩
theorem eS(t:au):(S t).cps.toList=t.map fQ:=by simp[S]
theorem bR(t:au):(S t).length=t.length:=by simp[S,Rp]
theorem gN(a b:au):S (a++b)=S a++S b:=by
 show(⟨_⟩:ah)=⟨_⟩;simp[S]
theorem iy{a b:au}(h:S a=S b):a=b:=by
 have e:a.map fQ=b.map fQ:=by rw[<-eS,<-eS,h]
 exact(ZE fun x y z=>yR.mp z).mp e
theorem aa4{a b:au}:S a=S b↔a=b:=⟨iy,fun h=>by rw[h]⟩
theorem kl{a b:au}:(V.str (S a)=V.str (S b))↔a=b:=⟨fun h=>iy (V.str.inj h),fun h=>by rw[h]⟩
theorem rq(t:au)(i:Nat):(S t).cps.toList[i]? =t[i]?.map fQ:=by rw[eS,bU]
noncomputable def bT(mg:ah->Option af)(x:ah)(v:V):Prop:=∃u,mg x=some u/\RelV v u
theorem bP{x:ah}{v:V}{pos:b4}(c:bT X.mg x v)(hg:Gl X x)(hd:(x==("__debug__":ah))=false:=by decide):PE X (.Name x pos) (tC v):=by
 obtain⟨u,hm,r⟩:=c;exact amm hg hm r hd
structure Fn(P:aV)(w:aQ)(K:aK)(mg:ah->Option af)(base:aG)(CX:f7)(k:Nat)(x:ah)(ps:List ah)(sp:Sp):Prop where
 ex:∃f fd,bh P w K mg base CX k f fd ps sp/\mg x=some (.ref f)/\lz K (.ref f)=true/\Binds K fd ps []
theorem Fn.mono{P:aV}{w:aQ}{K:aK}{mg:ah->Option af}{base:aG}{CX:f7}{j k:Nat}{x:ah}{ps:List ah}{sp:Sp}(F:Fn P w K mg base CX j x ps sp)(h:j<=k):Fn P w K mg base CX k x ps sp:=let ⟨f,fd,a,r⟩:=F.ex;⟨f,fd,a.mono h,r⟩
noncomputable def g0(sp:Sp)(E:XK)(t:TA):TE:=fun σ H Q=>t σ H fun vs H1=>sp vs H1 Q E
theorem aU{CX:f7}{k:Nat}{x:ah}{ps:List ah}{sp:Sp}{E:XK}{p pos:b4}{e:bw}{es:List bw}{t:TA}(F:Fn X.prog X.w X.K X.mg X.base CX k x ps sp)(hr:bb k X.A)(hg:Gl X x)(hx:Passes CX X E)(ha:PA X (e::es) t)(gU:(x==("__debug__":ah))=false:=by decide)(he:b5 (e::es) X.env=(false,eval e X.env)::b5 es X.env:=by rfl)(b0:(gq pos (b5 es X.env)).any (·.1)=false:=by rfl):PE X (.Call (.Name x p) (e::es) [] pos) (g0 sp E t):=by
 obtain⟨f,fd,a,hm,hk,hb⟩:=F.ex;have h:=amj (p:=p) (pos:=pos) a hr hg hm hk hb .nil hx ha gU he b0;intro pins s σ H Q I q;refine h pins s σ H Q I ?_;show t σ H fun vs H1=>sp (vs++[]) H1 Q E;simp only[jI];exact q
structure Cl(P:aV)(w:aQ)(K:aK)(mg:ah->Option af)(base:aG)(k:Nat)(x:ah)(C:aa)(ps:List ah)(sp:Sp):Prop where
 cls:jG K C
 Ab:mg x=some (.ref C)
 ex:∃f fd,Mk K C f/\bh P w K mg base az k f fd ps sp/\Binds K fd ps []
noncomputable def sU(C:aa)(sp:Sp)(t:TA):TE:=fun σ H Q=>t σ H fun vs H1=>∀x dx,H1 x=none->H1 dx=none->dx≠x->sp (.ref x::vs) (upd (upd H1 dx (.own x)) x (.ins C dx [])) (fun v H2=>v=.aO/\Q (.ref x) H2) E0
theorem gC{k:Nat}{x:ah}{C:aa}{ps:List ah}{sp:Sp}{p pos:b4}{e:bw}{es:List bw}{t:TA}(M:Cl X.prog X.w X.K X.mg X.base k x C ps sp)(hr:bb (k+1) X.A)(hg:Gl X x)(ha:PA X (e::es) t)(gU:(x==("__debug__":ah))=false:=by decide)(he:b5 (e::es) X.env=(false,eval e X.env)::b5 es X.env:=by rfl)(b0:(gq pos (b5 es X.env)).any (·.1)=false:=by rfl):PE X (.Call (.Name x p) (e::es) [] pos) (sU C sp t):=by
 obtain⟨f,fd,mk,a,hb⟩:=M.ex;have h:=amq (p:=p) (pos:=pos) mk a hr hg M.Ab hb .nil aY ha gU he b0;intro pins s σ H Q I q;refine h pins s σ H Q I ?_;show t σ H fun vs H1=>∀x dx,H1 x=none->H1 dx=none->dx≠x->sp (.ref x::(vs++[])) (upd (upd H1 dx (.own x)) x (.ins C dx [])) (fun v H2=>v=.aO/\Q (.ref x) H2) E0;simp only[jI];exact q
theorem amu{k:Nat}{x:ah}{C:aa}{ps:List ah}{sp:Sp}{p pos:b4}(M:Cl X.prog X.w X.K X.mg X.base k x C ps sp)(hr:bb (k+1) X.A)(hg:Gl X x)(gU:(x==("__debug__":ah))=false:=by decide):PE X (.Call (.Name x p) [] [] pos) (sU C sp dk):=by
 obtain⟨f,fd,mk,a,hb⟩:=M.ex;exact amr (p:=p) (pos:=pos) mk a hr hg M.Ab hb .nil aY gU
structure Mt(P:aV)(w:aQ)(K:aK)(mg:ah->Option af)(base:aG)(CX:f7)(k:Nat)(C:aa)(m:ah)(ps:List ah)(sp:Sp):Prop where
 ex:∃f fd,Meth K C m f/\bh P w K mg base CX k f fd ps sp/\Binds K fd ps []
noncomputable def xP(C:aa)(m:ah)(sp:Sp)(E:XK)(ta:TE)(t:TA):TE:=fun σ H Q=>ta σ H fun x H1=>∃a dx fs,x=.ref a/\H1 a=some (.ins C dx fs)/\fs.lookup m=none/\t σ H1 fun vs H2=>sp (x::vs) H2 Q E
theorem kO{CX:f7}{k:Nat}{C:aa}{m:ah}{ps:List ah}{sp:Sp}{E:XK}{apos pos:b4}{o e:bw}{es:List bw}{ta:TE}{t:TA}{pl:gM Bool}(M:Mt X.prog X.w X.K X.mg X.base CX k C m ps sp)(c:jG X.K C)(hr:bb k X.A)(hx:Passes CX X E)(he:PE X o ta)(ha:PA X (e::es) t)(lX:b5 (e::es) X.env=(false,eval e X.env)::b5 es X.env:=by rfl)(b0:(gq pos (b5 es X.env)).any (·.1)=false:=by rfl)(ht:eval (.Call (.Attribute o m apos) (e::es) [] pos) X.env=(do
  let ov<-eval o X.env
  yJ apos.atName;let (f,first)<-holding [ov] (yE ov m pl)
  GD pos f first (gq pos (b5 (e::es) X.env)) (yy pos (yF [] X.env))):=by rfl):PE X (.Call (.Attribute o m apos) (e::es) [] pos) (xP C m sp E ta t):=by
 obtain⟨f,fd,hm,a,hb⟩:=M.ex;have h:=ams (pl:=pl) he c hm a hr hb .nil hx ha lX b0 ht;intro pins s σ H Q I q;refine h pins s σ H Q I ?_;show ta σ H fun x H1=>∃a dx fs,x=.ref a/\H1 a=some (.ins C dx fs)/\fs.lookup m=none/\t σ H1 fun vs H2=>sp (x::(vs++[])) H2 Q E;simp only[jI];exact q
theorem gD{CX:f7}{k:Nat}{C:aa}{m:ah}{ps:List ah}{sp:Sp}{E:XK}{apos pos:b4}{o:bw}{ta:TE}{pl:gM Bool}(M:Mt X.prog X.w X.K X.mg X.base CX k C m ps sp)(c:jG X.K C)(hr:bb k X.A)(hx:Passes CX X E)(he:PE X o ta)(ht:eval (.Call (.Attribute o m apos) [] [] pos) X.env=(do
  let ov<-eval o X.env
  yJ apos.atName;let (f,first)<-holding [ov] (yE ov m pl)
  GD pos f first (gq pos (b5 [] X.env)) (yy pos (yF [] X.env))):=by rfl):PE X (.Call (.Attribute o m apos) [] [] pos) (xP C m sp E ta dk):=by
 obtain⟨f,fd,hm,a,hb⟩:=M.ex;exact amt (pl:=pl) he c hm a hr hb .nil hx ht
structure Ty(K:aK)(C:aa)(fs:List ah):Prop where
 cls:jG K C
 nf:∀f∈fs,pI K C f
noncomputable def eP(C:aa)(ns:List ah):Sp:=fun vs H Q Z=>∃(x dx:aa)(us:List V),vs=.ref x::us/\us.length=ns.length/\H x=some (.ins C dx [])/\Q .aO (upd H x (.ins C dx (ns.zip us)))
theorem fu{f:ah}{v:V}:∀{fs:List (ah×V)},(fs.all fun p=> !decide (p.1=f))=true->fh f v fs=fs++[(f,v)]
 |[],_=>rfl
 |(g,x)::r,h=>by
  rw[ip,cH]at h;have h1:¬g=f:=by simpa using h.1
  show(if g=f then(g,v)::r else(g,x)::fh f v r)=_;rw[if_neg h1,fu h.2];rfl
theorem ME{f g:ah}{v x:V}{r:List (ah×V)}(h:¬g=f):fh f v ((g,x)::r)=(g,x)::fh f v r:=if_neg h
structure Bt(mg:ah->Option af):Prop where
 len:mg "len"=none
 range:mg "range"=none
 sum:mg "sum"=none
 any:mg "any"=none
 all:mg "all"=none
 list:mg "list"=none
 reversed:mg "reversed"=none
 sorted:mg "sorted"=none
 set:mg "set"=none
 min:mg "min"=none
 ord:mg "ord"=none
 int:mg "int"=none
 str:mg "str"=none
theorem bj{H H':Hp}{p:aa}{o:HO}(s:aq H H')(h:H' p=none):aq H (upd H' p o):=fun b u e=>by rw[ba (cC (s _ _ e) h)];exact s _ _ e
theorem gH{H H':Hp}{p:aa}{o:HO}(s:aq H H')(h:H p=none):aq H (upd H' p o):=fun b u e=>by rw[ba (cC e h)];exact s _ _ e
theorem AJ{K:aK}{H H':Hp}{a:aa}{xs:List V}(e:aq H H')(h:aH K H a xs):aH K H' a xs:=by
 rcases h with(h|⟨o,h⟩)|h
 .exact .inl (.inl (e _ _ h))
 .exact .inl (.inr ⟨o,e _ _ h⟩)
 .exact .inr h
theorem bY{α:Type}{xs:List α}{j:Nat}{v:α}(h:xs[j]? =some v):kr xs (j:Int)=some v:=by
 have hl:=(dQ.mp h).1;unfold kr lY;rw[if_pos (by lia),if_pos (by lia)];simpa using h
theorem bD{p A B:Prop}[Decidable p](h1:p->A)(h2:¬p->B):if decide p=true then A else B:=by
 by_cases h:p
 .rw[if_pos (decide_eq_true h)];exact h1 h
 .rw[if_neg (by rw[decide_eq_false h];decide)];exact h2 h
theorem eO{p A B:Prop}[Decidable p](h1:¬p->A)(h2:p->B):if(!decide p)=true then A else B:=by
 by_cases h:p
 .rw[decide_eq_true h,if_neg (by decide)];exact h2 h
 .rw[decide_eq_false h,if_pos (by decide)];exact h1 h
theorem jA{b:Bool}{A B:Prop}(h1:b=true->A)(h2:b=false->B):if b=true then A else B:=by
 cases b
 .rw[if_neg (by decide)];exact h2 rfl
 .rw[if_pos rfl];exact h1 rfl
theorem mO{b:Bool}{A B:Prop}(h1:b=false->A)(h2:b=true->B):if(!b)=true then A else B:=by
 cases b
 .rw[if_pos (by decide)];exact h1 rfl
 .rw[if_neg (by decide)];exact h2 rfl
theorem Vz{K:aK}{a:aa}{xs ys:List V}{tl te:TE}{j:Nat}{σ:L2.St}{H:Hp}{Q:VK}(hl:aH K H a xs)(hz:xs.length<sizeLine)(hy:ys.length=xs.length)(h0:∀R:VK,R (.ref a) H->tl σ H R)(hs:∀(i:Nat)(x y:V)(H':Hp)(R:VK),xs[i]? =some x->ys[i]? =some y->aq H H'->(∀H4,aq H' H4->R y H4)->te ((σ.set j none).set j (some x)) H' R)(hq:∀D H',H D=none->aq H H'->H' D=some (.lst ys)->Q (.ref D) H'):kT (uG K tl) (b7 j) qC te [j] σ H Q:=by
 refine h0 _ ⟨a,rfl,⟨xs,hl⟩,fun D hD=>?_⟩;refine Ly (K:=K) (a:=a) (xs:=xs) (fun i H'=>aq H H'/\H' D=some (.lst (ys.take i))) ⟨bj (aq.refl _) hD,aD⟩ (fun i H' Z p=>AJ p.1 hl) (fun i x H' hx p=>?_) (fun H' p=>?_)
 .obtain⟨y,nP⟩:∃y,ys[i]? =some y:=⟨_,cV (by have:=(dQ.mp hx).1;lia)⟩;refine⟨by simp[wipe,vy],?_⟩;refine hs i x y H' _ hx nP p.1 fun H4 s4=>⟨_,s4 _ _ p.2,?_,?_,?_⟩
  .rw[iN];lia
  .exact gH (p.1.trans s4) hD
  .rw[aD,me,nP];rfl
 .refine hq D H' hD p.1 ?_;rw[p.2,<-hy,jK]
theorem jB{K:aK}{xs ys:List V}{tl te:TE}{j:Nat}{σ:L2.St}{H:Hp}{Q:VK}(hz:xs.length<sizeLine)(hy:ys.length=xs.length)(h0:∀R:VK,(∀a H1,aq H H1->aH K H1 a xs->R (.ref a) H1)->tl σ H R)(hs:∀(i:Nat)(x y:V)(H':Hp)(R:VK),xs[i]? =some x->ys[i]? =some y->aq H H'->(∀H4,aq H' H4->R y H4)->te ((σ.set j none).set j (some x)) H' R)(hq:∀D H',H D=none->aq H H'->H' D=some (.lst ys)->Q (.ref D) H'):kT (uG K tl) (b7 j) qC te [j] σ H Q:=by
 refine h0 _ fun a H1 s1 hl=>⟨a,rfl,⟨xs,hl⟩,fun D hD=>?_⟩;refine Ly (K:=K) (a:=a) (xs:=xs) (fun i H'=>aq H1 H'/\H' D=some (.lst (ys.take i))) ⟨bj (aq.refl _) hD,aD⟩ (fun i H' Z p=>AJ p.1 hl) (fun i x H' hx p=>?_) (fun H' p=>?_)
 .obtain⟨y,nP⟩:∃y,ys[i]? =some y:=⟨_,cV (by have:=(dQ.mp hx).1;lia)⟩;refine⟨by simp[wipe,vy],?_⟩;refine hs i x y H' _ hx nP (s1.trans p.1) fun H4 s4=>⟨_,s4 _ _ p.2,?_,?_,?_⟩
  .rw[iN];lia
  .exact gH (p.1.trans s4) hD
  .rw[aD,me,nP];rfl
 .refine hq D H' (s1.free hD) (s1.trans p.1) ?_;rw[p.2,<-hy,jK]
theorem aiG{t:au}{ys:List V}{tl te:TE}{j:Nat}{σ:L2.St}{H:Hp}{Q:VK}(hz:t.length<sizeLine)(hy:ys.length=t.length)(h0:∀R:VK,R (.str (S t)) H->tl σ H R)(hs:∀(i:Nat)(c:UInt8)(y:V)(H':Hp)(R:VK),t[i]? =some c->ys[i]? =some y->aq H H'->(∀H4,aq H' H4->R y H4)->te ((σ.set j none).set j (some (.str (S [c])))) H' R)(hq:∀D H',H D=none->aq H H'->H' D=some (.lst ys)->Q (.ref D) H'):kT (Li tl) (b7 j) qC te [j] σ H Q:=by
 refine h0 _ ⟨S t,rfl,fun D hD=>?_⟩;have hsz:(S t).cps.size=t.length:=by rw[<-bR];rfl
 refine⟨fun i m H'=>m=t.length-i/\i<=t.length/\aq H H'/\H' D=some (.lst (ys.take i)),⟨t.length,by simp,dJ _,bj (aq.refl _) hD,aD⟩,?_⟩;rintro i m H' ⟨rfl,hi,s1,e1⟩;by_cases bI:i<t.length
 .refine .inr ⟨by show i<(S t).cps.size;lia,fun H'=>aq H H'/\H' D=some (.lst (ys.take (i+1))),fun H' p'=>⟨t.length-(i+1),by lia,rfl,bI,p'⟩,fun x eJ y=>?_⟩;obtain⟨rfl,c',ec,rfl⟩:=y;obtain⟨c,hc⟩:∃c,t[i]? =some c:=⟨_,cV bI⟩;obtain⟨y,nP⟩:∃y,ys[i]? =some y:=⟨_,cV (by lia)⟩;have ze:(S t).cps.toList[i]? =some c':=by simpa using ec
  rw[rq,hc]at ze;cases ze;refine⟨by simp[wipe,vy],?_⟩;refine hs i c y eJ _ hc nP s1 fun H4 s4=>⟨_,s4 _ _ e1,?_,?_,?_⟩
  .rw[iN];lia
  .exact gH (s1.trans s4) hD
  .rw[aD,me,nP];rfl
 .have e:i=t.length:=by lia
  subst e;refine .inl ⟨by show(S t).cps.size<=t.length;lia,hq D H' hD s1 ?_⟩;rw[e1,<-hy,jK]
theorem big(n:Nat)(h:n<=1000000):n<=sizeLine:=by rw[jk];lia
theorem dN(n:Nat)(h:n<=1000000):n<sizeLine:=by rw[jk];lia
theorem le2{us:List V}(h:us.length=2):∃a b,us=[a,b]:=match us,h with|[a,b],_=>⟨a,b,rfl⟩
theorem le3{us:List V}(h:us.length=3):∃a b c,us=[a,b,c]:=match us,h with|[a,b,c],_=>⟨a,b,c,rfl⟩
theorem Lz{us:List V}(h:us.length=4):∃a b c d,us=[a,b,c,d]:=match us,h with|[a,b,c,d],_=>⟨a,b,c,d,rfl⟩
section
variable{s:ao}
theorem ak4{pn:List (aa×aM)}(ok:X.Ok):({X with pn:=pn,xe:=xe}:Cx).Ok:=⟨ok.mod,ok.kind,ok.glob,ok.blt,ok.above,ok.inj,ok.has,ok.rI,ok.hd,ok.frames,ok.vd,ok.uc,ok.bs,ok.mG,ok.sC,ok.rL,ok.jW,ok.oR⟩
theorem ak5{pn:List (aa×aM)}(ok:({X with pn:=pn,xe:=xe}:Cx).Ok):X.Ok:=⟨ok.mod,ok.kind,ok.glob,ok.blt,ok.above,ok.inj,ok.has,ok.rI,ok.hd,ok.frames,ok.vd,ok.uc,ok.bs,ok.mG,ok.sC,ok.rL,ok.jW,ok.oR⟩
theorem WM(I:Inv X pins σ H s):Inv ({X with pn:=X.pn++pins,xe:=xe}:Cx) [] σ H s:=⟨ak4 I.ok,I.os,I.bare,I.base,I.loc,I.cell,I.free,I.ic,fun p hp=>I.pin p (by simpa using hp),I.aT,I.len⟩
theorem My(I:Inv ({X with pn:=X.pn++pins,xe:=xe}:Cx) ps σ H s):Inv X pins σ H s:=⟨ak5 I.ok,I.os,I.bare,I.base,I.loc,I.cell,I.free,I.ic,fun p hp=>I.pin p (QI _ hp),I.aT,I.len⟩
noncomputable abbrev uH(X:Cx)(v:af):Cx:={X with A:=X.A.mark (some v),calm:=false,xe:=fun Z Z=>False}
theorem Yk{v:af}(I:Inv X pins σ H s):Inv (uH X v) pins σ H s:=⟨⟨I.ok.mod,I.ok.kind,I.ok.glob,I.ok.blt,I.ok.above,I.ok.inj,I.ok.has,I.ok.rI,fun z=>(nomatch z),I.ok.frames,I.ok.vd,I.ok.uc,I.ok.bs,I.ok.mG,I.ok.sC,I.ok.rL,I.ok.jW,I.ok.oR⟩,I.os,I.bare,I.base,I.loc,I.cell,I.free,I.ic,I.pin,I.aT,I.len⟩
theorem aoB{v:af}(ok:X.Ok)(I:Inv (uH X v) pins σ H s):Inv X pins σ H s:=⟨ok,I.os,I.bare,I.base,I.loc,I.cell,I.free,I.ic,I.pin,I.aT,I.len⟩
theorem aie{h':aG}{m':ah->Option af}{tk:Nat}(I:Inv X pins σ H s)(hn:h'.Ns X.env.locals m')(hs:oC X.env.locals s.heap h'):Inv X pins (jh X.N.length none) H {s with heap:=h',toks:=tk}:=by
 have bI:=I.ok.above;have base:∀b o,X.gF.heap.get? b=some o->b≠X.env.locals:=fun b o e z=>by
  have:=cj e;rw[z]at this;exact absurd this (Nat.not_lt.mpr bI)
 refine⟨I.ok,I.os,I.bare,⟨fun b o e n h1 h2=>?_,fun b o e n h1 h2=>?_,I.base.free,fun b o e h2=>?_,I.base.ng,I.base.kF,I.base.mY⟩,⟨m',hn,fun i x v Z e=>?_⟩,fun x c e=>?_,I.free,I.ic,fun p hp=>?_,fun a o e=>?_,by simp⟩
 .rw[hs.2 b (base b o e)];exact I.base.keep b o e n h1 h2
 .rw[hs.2 b (base b o e)];exact I.base.slot b o e n h1 h2
 .rw[hs.2 b (base b o e)];exact I.base.there b o e h2
 .rw[Zt]at e;split at e<;>cases e
 .obtain⟨v,o,ho,hd⟩:=I.cell x c e;exact⟨v,o,by rw[hs.2 c (I.rJ x c e)];exact ho,hd⟩
 .obtain⟨e,r⟩:=I.pin p hp;exact⟨by rw[hs.2 p.1 r.2.1];exact e,r⟩
 .have ne:∀b u,H b=some u->b≠X.env.locals:=fun b u q z=>by rw[z,I.free]at q;cases q
  refine(I.aT a o e).oo (fun b u hb q=>?_) (fun Z q=>q) fun Z Z q=>q;have nH:b≠X.env.locals:=by
   rcases hb with hb|hb
   .rw[hb];exact ne a o e
   .exact ne b _ hb
  rw[hs.2 b nH];exact q
end
noncomputable def tXF(C:aa)(ta:TE)(k:Bool):TE:=fun σ H Q=>ta σ H fun x H1=>∃e dx kk pp,x=.ref e/\H1 e=some (.ext (lb e (.ref C) dx))/\H1 dx=some (.xd (ff kk pp))/\Q (if k then kk else pp) H1
theorem WG{k:Bool}(T:Flt X.K X.mg C)(he:PE X o ta)(hb:mn o (if k then"kind" else"place") X.env (eval o X.env)=eval o X.env):PE X (.Attribute o (if k then"kind" else"place") pos) (tXF C ta k):=by
 intro pins s σ H Q I h;refine So hb (bo (he pins s σ H _ I h) fun u s1 ⟨x,H1,I1,rx,e,dx,kk,pp,ex,q1,q2,q⟩=>?_);subst ex;obtain rfl:u=dm e:=rx;obtain⟨st,fI,fd,xc,r8,Fi,FD,Kk⟩:=T.ex;obtain⟨nm,q0,N0,bs,sn,sub,ab,col,dd,k0,k1,k2,k3,k5,mN,hC,hN,Z,Z,hg,hk,wN⟩:=(wg.of I1.fK xc).ex;obtain⟨⟨oe,vs,e1,e2,e3,e4⟩,Z⟩:=I1.aT e _ q1;obtain⟨m,oZ,rel⟩:=I1.aT dx _ q2;have hv:∃u,m (if k then"kind" else"place")=some u/\RelV (if k then kk else pp) u:=by
  have:=rel (if k then"kind" else"place");cases k with
  |true=>exact fP.some_of (show fP (some kk) (m "kind")from this)
  |false=>exact fP.some_of (show fP (some pp) (m "place")from this)
 obtain⟨u,hu,ru⟩:=hv;have j0:mN (if k then"kind" else"place")=none:=by cases k<;>exact wN _ (by simp)
 have hB:lE (.type "ValueError") (if k then"kind" else"place")=pure none:=by
  cases k
  .exact WR
  .exact Vl
 obtain⟨hp,g,d,t,os⟩:=s1;exact x_load hC hN hg hk j0 hB e1 e2 (fun c z=>by rw[e4]at z;cases z) e3 oZ.ns hu (PySem.W.handedOut_of (Um ru)) ⟨_,H1,I1.tok _,ru,q⟩
noncomputable def aoU(CF:aa)(sp:Sp)(t:TA):TS:=fun D σ H=>t σ H fun vs H1=>sp vs H1 D.rt fun C JP H'=>C=.ref CF/\∃dx kk pp,JP=some dx/\H' dx=some (.xd (ff kk pp))/\∀p,H' p=none->D.rt (.ref p) (upd H' p (.lst [kk,pp]))
theorem LW{fs xs:List aa}{h h1 h2:aG}{T:aa}(a:Moved fs xs h h1)(b:Moved [] [T] h1 h2)(hT:h.get? T=none):Moved fs xs h h2:=a.trans ⟨fun b' o hb Z q=>b.keep b' o hb (by simp) q,b.slot⟩ (fun c hc=>hc) fun c hc=> .inr (by rw[eY.mp hc];exact hT)
theorem amO{X:Cx}{CF L:aa}{k i:Nat}{x:ah}{pss:List ah}{sp:Sp}{a:bw}{as:List bw}{t:TA}{p1 p2 p3 q1 q2 q3 q4 q5 q6 q7 pos amC:b4}(T:Flt X.K X.mg CF)(F:Fn X.prog X.w X.K X.mg X.base (XE X.prog X.w) k x pss sp)(lX:X.stack=X.env::X.outer)(hL:X.env.frame=some L)(hr:bb k X.A)(hg:Gl X x)(hgT:Gl X "TextFault")(hN:X.N.Nodup)(hi:X.N[i]? =some "fault")(KL:X.env.scope.names.lookup ("fault":ah)=some NameKind.local)(zA:X.env.kindOf "fault"=some NameKind.local)(zw:∀y,X.fn y=true)(ha:∀(pn:List (aa×aM))(xe:af->ao->Prop),PA ({X with pn:=pn,xe:=xe}:Cx) (a::as) t)(gU:(x==("__debug__":ah))=false:=by decide)(he:b5 (a::as) X.env=(false,eval a X.env)::b5 as X.env:=by rfl)(b0:(gq p2 (b5 as X.env)).any (·.1)=false:=by rfl)(nG:mn (.Name "fault" q2) "kind" X.env (eval (.Name "fault" q2) X.env)=eval (.Name "fault" q2) X.env:=by rfl)(Kj:mn (.Name "fault" q4) "place" X.env (eval (.Name "fault" q4) X.env)=eval (.Name "fault" q4) X.env:=by rfl):PS X (.Try [.Return (some (.Call (.Name x p1) (a::as) [] p2)) p3] [.ExceptHandler (some (.Name "TextFault" q1)) (some "fault") [.Return (some (.List [.Attribute (.Name "fault" q2) "kind" q3,.Attribute (.Name "fault" q4) "place" q5] q6)) q7] amC] [] [] pos) (aoU CF sp t):=by
 intro pins s σ H D I h;let E':XK:=fun C JP H'=>C=.ref CF/\∃dx kk pp,JP=some dx/\H' dx=some (.xd (ff kk pp))/\∀p,H' p=none->D.rt (.ref p) (upd H' p (.lst [kk,pp]))
 let Y:Cx:={X with pn:=X.pn++pins,xe:=fun Z Z=>False}
 let YZ:af->ao->Prop:=fun v s'=>∃σ' H1 s1,Inv Y [] σ' H1 s1/\XE X.prog X.w X.stack H1 s1 E' v s'
 have ag4:Passes (XE X.prog X.w) ({X with pn:=X.pn++pins,xe:=YZ}:Cx) E':=fun Mz σ' H' s1 v s' I' hx=>⟨σ',H',s1,WM (My (X:=X) I'),hx⟩;have body:=aA (aI (pos:=p3) (aU (X:=({X with pn:=X.pn++pins,xe:=YZ}:Cx)) (p:=p1) (pos:=p2) F hr hg ag4 (ha _ _) gU he b0));have:=body [] s σ H ⟨fun Z Z=>False,D.rt,fun Z Z=>False,fun Z Z=>False⟩ (WM I) h;refine wpAny_Try_except (jl this (fun fl s' hs=>?_) (fun v s' hx=>?_))
 .cases fl with
  |ret u=>obtain⟨v,σ',H',I',r,q⟩:=hs;exact⟨v,σ',H',My I',r,q⟩
  |next=>obtain⟨Z,Z,Z,q⟩:=hs;exact fN q
  |brk=>obtain⟨Z,Z,Z,q⟩:=hs;exact fN q
  |cont=>obtain⟨Z,Z,Z,q⟩:=hs;exact fN q
 .obtain⟨σ',H1,s1,IY,e,T0,C,dx,H',rfl,ho,Uw,u,aT,pX,hT,wI,C4,hC,Cv,kk,pp,zr,U6,kD⟩:=hx;cases hC;cases zr;have gW:X.A.frames=some (X.env::X.outer):=by rw[<-lX];exact I.ok.frames
  have agg:s'.heap.FunFrames X.base (X.env::X.outer):=by rw[<-lX];exact(P4 IY u).1
  refine V8 (base:=X.base) gW agg hL pX fun h2 T2 mv n2 ue=>?_;have mv:Moved (gy Y.stack) [e,T0] s'.heap h2:=by
   show Moved (gy X.stack) [e,T0] s'.heap h2;rw[lX];exact mv
  refine land (s:={s' with heap:=h2}) ue fun h3 m3 J8=>?_;have J:=Ln (tk:=s'.toks) IY ho Uw u aT hT wI C4 (LW mv m3 n2) J8;refine wpAny_handleBy_cons (codeAny_handlers_test ?_) (by intro z;cases z);have JS:=Yk (v:=.ref e) J;refine w8 (X:=uH Y (.ref e)) JS hgT T.Ab ?_ (by decide);obtain⟨st,fI,fd,xc,r8,Fi,FD,Kk⟩:=T.ex;obtain⟨nm,q0,N0,bs,sn,sub,ab,col,dd,k0,k1,k2,k3,k5,mN,hCo,Z⟩:=(wg.of JS.fK xc).ex;have afl:=J8;obtain⟨oe,vs,oT,ts,ge,gc,Z⟩:=afl;refine wpAny_excMatches_sub_self hCo ge gc (by simp[jt]) ?_;refine codeAny_handlers_suite_as (land (s:={s' with heap:=h3,toks:=s'.toks}) J8 fun h4 m4 afm=>?_);have J4:=Ln (tk:=s'.toks) IY ho Uw u aT hT wI C4 (LW (LW mv m3 n2) m4 n2) afm;refine E3 (X:=uH Y (.ref e)) (Yk (v:=.ref e) J4) hN hi (aF KL) (v:=.ref e) rfl (fun s5 I5=>?_) (.inl (zw _));have hlen:i<σ'.length:=by rw[J4.len];exact(dQ.mp hi).1
  have aoA:=aA (aI (X:=uH Y (.ref e)) (pos:=q7) (cv (pos:=q6) (ai (WG (X:=uH Y (.ref e)) (k:=true) (pos:=q3) T (Mu (i:=i) (pos:=q2) hi (.inl KL)) nG) (ai (WG (X:=uH Y (.ref e)) (k:=false) (pos:=q5) T (Mu (i:=i) (pos:=q4) hi (.inl KL)) Kj) aj))));have ahl:=aoA [] s5 (σ'.set i (some (.ref e))) H' ⟨fun Z Z=>False,D.rt,fun Z Z=>False,fun Z Z=>False⟩ I5 ⟨.ref e,by simp[hlen],e,dx,kk,pp,rfl,C4,U6,.ref e,by simp[hlen],e,dx,kk,pp,rfl,C4,U6,(by show 2<=sizeLine;decide),fun p hp=>kD p hp⟩;refine jl ahl (fun fl s6 hs=>?_) fun Z Z z=>fN z;cases fl with
  |next=>obtain⟨Z,Z,Z,q⟩:=hs;exact fN q
  |brk=>obtain⟨Z,Z,Z,q⟩:=hs;exact fN q
  |cont=>obtain⟨Z,Z,Z,q⟩:=hs;exact fN q
  |ret uv=>
   obtain⟨v,σ6,H6,I6,r,q⟩:=hs;obtain⟨m,hn,Z⟩:=I6.loc;refine wpAny_nameGoes zA hn (by rw[I.ok.kind];rfl) fun h7 m7 hn7 hs7=>?_;exact⟨v,_,H6,My (aie (aoB J.ok I6) hn7 hs7),r,q⟩
noncomputable abbrev M5:aW:=top 8
noncomputable def OE:Sp:=fun vs H Q Z=>∃c:UInt8,vs=[.int (c.toNat:Nat)]/\Q (.str (S [Vt.cl c])) H
noncomputable def signs:ah:=" !\"#$?&'()*+,-./0123456789:;<=>?@ABCDEFGHIJKLMNOPQRSTUVWXYZ[\\]^_`abcdefghijklmnopqrstuvwxyz{|}~"
theorem EM:signs.length=95:=by decide+kernel
theorem signs_at:∀n:_root_.Fin 256,32<=n.val->n.val<127->signs.cps.toList[n.val-32]? =some (Vt.cl (jN n.val)).toNat:=by decide+kernel
theorem Sz:∀c:UInt8,(c.toNat<32\/127<=c.toNat)->Vt.cl c=63:=Vt.iQ (by decide+kernel)
theorem Xz:bE ["byte","index"] ["byte"] (aP M5):=bF
theorem aky{f:aa}{fd:bu}(F:bt K "character_of" "character_of" M5 f fd)(B:Bt mg)(c1:bT mg "FIRST_BYTE" (.int 32))(c2:bT mg "CHARACTERS" (.str signs))(c3:bT mg "USELESS" (.str "?")):bh P w K mg base az 1 f fd ["byte"] OE:=by
 refine F.ok Xz (fun vs H Q E h=>?_) (fun aJ A outer s H vs Q E hr h=>?_)
 .obtain⟨c,rfl,Z⟩:=h;rfl
 .obtain⟨c,rfl,k⟩:=h;refine⟨_,aw (aZ (i:=1) Xz.nd rfl (aF rfl) (dH Mh (pv 0) (bP c1 rfl))) (aw (bx (amQ sD nU bc (pv 1) (cK lK (by rfl) B.len dv (ai (bP c2 rfl) aj))) (aA (aI (bZ sf (bP c2 rfl) (pv 1) (fun Z Z=>rfl)))) bA) (aA (aI (bP c3 rfl)))),?_⟩;refine⟨_,rfl,_,_,rfl,rfl,_,rfl,_,_,rfl,rfl,_,rfl,?_⟩;have hc:=c.toNat_lt;refine bD (fun h0=>?_) (fun h0=>?_)
  .refine⟨_,rfl,big _ (by rw[EM];decide),_,_,rfl,rfl,_,rfl,?_⟩;refine bD (fun h1=>?_) (fun h1=>?_)
   .rw[EM]at h1;have e:=signs_at ⟨c.toNat,by lia⟩ (by show 32<=c.toNat;lia) (by show c.toNat<127;lia);have e2:jN c.toNat=c:=aa7;refine⟨_,rfl,_,_,_,rfl,rfl,big _ (by rw[EM];decide),?_,k⟩;have e3:((c.toNat:Nat):Int) -32=((c.toNat-32:Nat):Int):=by lia
    show kr signs.cps.toList (((c.toNat:Nat):Int) -32)=some (Vt.cl c).toNat;rw[e3];refine bY ?_;rw[e];show some (Vt.cl (jN c.toNat)).toNat=_;rw[e2]
   .rw[EM]at h1;rw[Sz c (by lia)]at k;exact k
  .refine⟨_,rfl,?_⟩;refine Dn ?_;rw[Sz c (by lia)]at k;exact k
noncomputable def ek(t:au):Prop:=∀c∈t,c.toNat<128
theorem abw(t:au):ek (Vt.clean t):=fun c hc=>by
 obtain⟨d,Z,rfl⟩:=dI.mp hc;exact UInt8.lt_iff_toNat_lt.mp (Vt.acf d)
theorem iR{a b:au}(h:∀c∈a,c∈b)(hb:ek b):ek a:=fun c hc=>hb c (h c hc)
theorem apr:∀n:_root_.Fin 128,(Gv n.val&&Rr n.val&& !(Gx n.val||Gw n.val))=bW (jN n.val):=by decide+kernel
theorem apq:∀n:_root_.Fin 128,Gv n.val=true->(Gx n.val||Gw n.val)=false->bW (jN n.val)=true:=by decide+kernel
theorem YJ:∀n:_root_.Fin 128,Rq n.val=di (jN n.val):=by decide+kernel
theorem DH(c:UInt8):jN c.toNat=c:=aa7
theorem aiN{t:au}(h:ek t):(Bz (S t)&&BB (S t))=(!t.isEmpty&&t.all bW):=by
 have a1:Bz (S t)=(!t.isEmpty&&t.all fun c=>Gv c.toNat):=by
  unfold Bz;rw[bR,<-Y1,eS,A8];cases t<;>rfl
 have a2:BB (S t)=((t.any fun c=>Rr c.toNat)&& !(t.any fun c=>Gx c.toNat||Gw c.toNat)):=by
  unfold BB;rw[<-Y2,<-Y2,eS,Qt,Qt];rfl
 rw[a1,a2,gJ];simp only[cH,vh,k7,FE,Zd];constructor
 .rintro⟨⟨h1,h2⟩,h3,h4⟩;refine⟨h1,fun c hc=>?_⟩;have:=apq ⟨c.toNat,h c hc⟩ (h2 c hc) (by have:=h4 c hc;simpa using this);rw[<-DH c];exact this
 .rintro⟨h1,h2⟩;have key:∀c∈t,Gv c.toNat=true/\Rr c.toNat=true/\(Gx c.toNat||Gw c.toNat)=false:=fun c hc=>by
   have e:=apr ⟨c.toNat,h c hc⟩;have e2:=h2 c hc;rw[show jN (⟨c.toNat,h c hc⟩:_root_.Fin 128).val=c from DH c,e2]at e;simp only[cH,vh]at e;exact⟨e.1.1,e.1.2,e.2⟩
  cases t with
  |nil=>simp at h1
  |cons c r=>
   refine⟨⟨rfl,fun d hd=>(key d hd).1⟩,⟨c,by simp,(key c (by simp)).2.1⟩,fun d hd=>by have:=(key d hd).2.2;simpa using this⟩
theorem digits_eq{t:au}(h:ek t):BA (S t)=(!t.isEmpty&&t.all di):=by
 unfold BA;rw[bR,<-Y1,eS,A8];have e:t.all (Rq∘fQ)=t.all di:=by
  rw[gJ];simp only[k7];constructor
  .intro q c hc;have:=YJ ⟨c.toNat,h c hc⟩;rw[show jN (⟨c.toNat,h c hc⟩:_root_.Fin 128).val=c from DH c]at this;rw[<-this];exact q c hc
  .intro q c hc;have:=YJ ⟨c.toNat,h c hc⟩;rw[show jN (⟨c.toNat,h c hc⟩:_root_.Fin 128).val=c from DH c]at this;show Rq c.toNat=true;rw[this];exact q c hc
 rw[e];cases t<;>rfl
theorem digit_range:∀c:UInt8,di c=true->48<=c.toNat/\c.toNat<=57:=Vt.iQ (by decide+kernel)
theorem U9{t:au}(h1:t.all di=true)(h2:t≠[])(h3:t.length<=4000):RI (S t)=some ((yY t:Nat):Int):=by
 have e:=PySem.intText_digits (x:=S t) (by
  rw[eS];intro c hc;obtain⟨d,hd,rfl⟩:=dI.mp hc;exact digit_range d (k7.mp h1 d hd)) (by rw[eS];simpa using h2) (by rw[bR];lia)
 rw[e,eS];congr 2;unfold yY PySem.NumText.digitsVal;rw[Zq];congr 1;funext a c;rw[Nat.mul_comm]
noncomputable abbrev Ew:aW:=top 9
noncomputable def mH(t:au):List V:=t.map fun c=>V.int (c.toNat:Nat)
noncomputable def EY(K:aK):Sp:=fun vs H Q Z=>∃(a:aa)(t:au),vs=[.ref a]/\aH K H a (mH t)/\t.length<=100000/\∀H',aq H H'->Q (.str (S (Vt.clean t))) H'
theorem Og:bE ["row","byte"] ["row"] (aP Ew):=bF
theorem Vi:∀ps:List (List Nat),TL.si [] ps=ps.flatten
 |[]=>rfl
 |[p]=>by simp[TL.si]
 |p::q::r=>by
  show p++([]++TL.si [] (q::r))=_;rw[Vi (q::r)];simp
theorem aip(t:au):BC hG (t.map fun c=>S [Vt.cl c])=S (Vt.clean t):=by
 refine TL.oN ?_;rw[TL.join_eq,TL.PM,show TL.tl hG=[]from rfl,Vi,gm];show _=(S (Vt.clean t)).cps.toList;rw[eS];unfold Vt.clean;induction t with
 |nil=>rfl
 |cons c r ih=>rw[dY,x8,ih];rfl
theorem Yl:∀t:au,((t.map fun c=>S [Vt.cl c]).map (·.length)).sum=t.length
 |[]=>rfl
 |c::r=>by
  show 1+((r.map fun c=>S [Vt.cl c]).map (·.length)).sum=r.length+1;rw[Yl r];lia
theorem alD{f:aa}{fd:bu}(F:bt K "text_of" "text_of" Ew f fd)(B:Bt mg)(Fc:Fn P w K mg base az 1 "character_of" ["byte"] OE):bh P w K mg base az 2 f fd ["row"] (EY K):=by
 refine F.ok Og (fun vs H Q E h=>?_) (fun aJ A outer s H vs Q E hr h=>?_)
 .obtain⟨a,t,rfl,Z⟩:=h;rfl
 .obtain⟨a,t,rfl,hs,hl,k⟩:=h;refine⟨_,aA (aI (Wz bH (fq (own:=[("byte",1)]) rfl Og.nd (dP (pv 0)) (eN (by show ez ["row","byte"] (aP Ew) _ _=true;decide+kernel)) (fun s H C cl fp=>c8 (i:=1) Og.nd rfl (aF rfl)) (fun s H C cl fp=>ft) (fun s H C cl fp=>aU Fc hr rfl aY (ai (pv 1) aj))))),?_⟩;refine⟨⟨_,rfl⟩,?_⟩;refine Vz (ys:=t.map fun c=>V.str (S [Vt.cl c])) hs (by rw[mH,bC];exact dN _ (by lia)) (by simp[mH]) (fun R h=>⟨_,rfl,h⟩) (fun i x y H' R e1 e2 s1 hR=>?_) (fun D H' hD s1 e=>?_)
  .unfold mH at e1;rw[bU]at e1 e2;cases e3:t[i]? with
   |none=>rw[e3]at e1;cases e1
   |some c=>
    rw[e3]at e1 e2;cases e1;cases e2;exact⟨_,rfl,c,rfl,hR _ (aq.refl _)⟩
  .refine⟨_,D,t.map fun c=>S [Vt.cl c],rfl,rfl,.inl (aH.of (by rw[gm];exact e)),?_,?_⟩
   .rw[Yl,bC];show t.length+t.length*0<=_;lia
   .rw[show(bB "")=hG from rfl,aip];exact k H' s1
noncomputable abbrev Eh:aW:=top 10
noncomputable def AK:Sp:=fun vs H Q Z=>∃t:au,vs=[.str (S t)]/\t.length<=100000/\∀D H',H D=none->aq H H'->H' D=some (.lst (mH t))->Q (.ref D) H'
theorem N7:bE ["text","character"] ["text"] (aP Eh):=bF
theorem akv{f:aa}{fd:bu}(F:bt K "bytes_of" "bytes_of" Eh f fd)(B:Bt mg):bh P w K mg base az 1 f fd ["text"] AK:=by
 refine F.ok N7 (fun vs H Q E h=>?_) (fun aJ A outer s H vs Q E hr h=>?_)
 .obtain⟨t,rfl,Z⟩:=h;rfl
 .obtain⟨t,rfl,hl,k⟩:=h;refine⟨_,aA (aI (fq (own:=[("character",1)]) rfl N7.nd (WJ (pv 0)) (eN (by show ez ["text","character"] (aP Eh) _ _=true;decide+kernel)) (fun s H C cl fp=>c8 (i:=1) N7.nd rfl (aF rfl)) (fun s H C cl fp=>ft) (fun s H C cl fp=>cK ab7 (by rfl) B.ord (by decide+kernel) (ai (pv 1) aj)))),?_⟩;refine aiG (ys:=mH t) (dN _ (by lia)) (by simp[mH]) (fun R h=>⟨_,rfl,h⟩) (fun i c y H' R e1 e2 s1 hR=>?_) k;unfold mH at e2;rw[bU,e1]at e2;cases e2;exact⟨_,rfl,_,rfl,rfl,hR _ (aq.refl _)⟩
noncomputable abbrev Nl:aW:=top 11
noncomputable def AN:Sp:=fun vs H Q Z=>∃t:au,vs=[.str (S t)]/\ek t/\Q (.bl (!t.isEmpty&&t.all bW)) H
theorem anN:bE ["text"] ["text"] (aP Nl):=bF
theorem akP{f:aa}{fd:bu}(F:bt K "is_letters" "is_letters" Nl f fd):bh P w K mg base az 1 f fd ["text"] AN:=by
 refine F.ok anN (fun vs H Q E h=>?_) (fun aJ A outer s H vs Q E hr h=>?_)
 .obtain⟨t,rfl,Z⟩:=h;rfl
 .obtain⟨t,rfl,ha,k⟩:=h;refine⟨_,aA (aI (xr (xt PySem.F.slot_str_isalpha PySem.F.type_str_isalpha ajc (pv 0)) (nV (xt PySem.F.slot_str_islower PySem.F.type_str_islower ajd (pv 0))))),?_⟩;rw[<-aiN ha]at k;refine⟨_,rfl,⟨_,rfl⟩,_,rfl,rfl,trivial,_,rfl,?_⟩;refine jA (fun h1=>?_) (fun h1=>?_)
  .rw[h1,tm]at k;exact⟨_,rfl,⟨_,rfl⟩,_,rfl,rfl,trivial,k⟩
  .rw[h1,pF]at k;exact k
noncomputable abbrev Np:aW:=top 12
noncomputable def AO:Sp:=fun vs H Q Z=>∃t:au,vs=[.str (S t)]/\ek t/\t.length<=100000/\Q (.bl (cz t)) H
theorem anQ:bE ["text"] ["text"] (aP Np):=bF
theorem akS{f:aa}{fd:bu}(F:bt K "is_name" "is_name" Np f fd)(B:Bt mg)(c1:bT mg "LONGEST_NAME" (.int 8))(Fl:Fn P w K mg base az 1 "is_letters" ["text"] AN):bh P w K mg base az 2 f fd ["text"] AO:=by
 refine F.ok anQ (fun vs H Q E h=>?_) (fun aJ A outer s H vs Q E hr h=>?_)
 .obtain⟨t,rfl,Z⟩:=h;rfl
 .obtain⟨t,rfl,ha,hl,k⟩:=h;refine⟨_,aA (aI (xr (pf sD (cK lK (by rfl) B.len dv (ai (pv 0) aj)) (bP c1 rfl) (bp _)) (nV (aU Fl hr rfl aY (ai (pv 0) aj))))),?_⟩;have e:cz t=(decide (((S t).length:Int)<=8)&&(!t.isEmpty&&t.all bW)):=by
   unfold cz aa8;rw[bR,gJ];simp only[cH,decide_eq_true_eq,vh,QG];constructor
   .rintro⟨⟨h1,h2⟩,h3⟩;exact⟨by lia,by intro z;rw[z]at h1;simp at h1,h3⟩
   .rintro⟨h1,h2,h3⟩;exact⟨⟨ka.mpr h2,by lia⟩,h3⟩
  rw[e]at k;refine⟨_,rfl,_,rfl,big _ (by rw[bR];lia),_,_,rfl,rfl,_,rfl,?_⟩;refine jA (fun h1=>?_) (fun h1=>?_)
  .rw[h1,tm]at k;exact⟨_,rfl,t,rfl,ha,k⟩
  .rw[h1,pF]at k;exact k
noncomputable abbrev Nr:aW:=top 13
noncomputable def Dz:Option Nat->V
 |none=> .aO
 |some n=> .int (n:Nat)
noncomputable def AQ:Sp:=fun vs H Q Z=>∃t:au,vs=[.str (S t)]/\ek t/\t.length<=100000/\Q (Dz (c7 t)) H
theorem anS:bE ["text"] ["text"] (aP Nr):=bF
theorem akV{f:aa}{fd:bu}(F:bt K "read_number" "read_number" Nr f fd)(B:Bt mg)(c1:bT mg "MOST_DIGITS" (.int 3)):bh P w K mg base az 1 f fd ["text"] AQ:=by
 refine F.ok anS (fun vs H Q E h=>?_) (fun aJ A outer s H vs Q E hr h=>?_)
 .obtain⟨t,rfl,Z⟩:=h;rfl
 .obtain⟨t,rfl,ha,hl,k⟩:=h;refine⟨_,aw (bx (PW.pt (nZ (jD (f6 (xt Gk Gn Dx (pv 0)))) (sF (bq uO (cK lK (by rfl) B.len dv (ai (pv 0) aj)) (bP c1 rfl) (bp _))))) (aA (aI cT)) bA) (aw (bx (PW.pt (nX (bq uO (cK lK (by rfl) B.len dv (ai (pv 0) aj)) bc (bp _)) (nY (bq cg (bZ sf (pv 0) bc (fun Z Z=>rfl)) bH (bp _))))) (aA (aI cT)) bA) (aA (aI (DW HR (by rfl) B.int (by decide+kernel) (ai (pv 0) aj))))),?_⟩;have hz:(S t).length<=sizeLine:=big _ (by rw[bR];lia);refine⟨_,rfl,⟨_,rfl⟩,_,rfl,rfl,trivial,_,rfl,?_⟩;show if(!BA (S t))=true then _ else _
  rw[digits_eq ha];refine mO (fun h1=>?_) (fun h1=>?_)
  .have e:c7 t=none:=by
    unfold c7;rw[if_neg];rw[h1];simp
   rw[e]at k;exact k
  .refine⟨_,rfl,_,rfl,hz,_,_,rfl,rfl,_,rfl,?_⟩;show if decide ((3:Int)<((S t).length:Nat))=true then _ else _
   rw[bR];refine bD (fun h2=>?_) (fun h2=>?_)
   .have e:c7 t=none:=by
     unfold c7;rw[if_neg];have:¬t.length<=3:=by lia
     simp[this]
    rw[e]at k;exact k
   .refine⟨_,rfl,_,rfl,hz,_,_,rfl,rfl,_,rfl,?_⟩;show if decide ((1:Int)<((S t).length:Nat))=true then _ else _
    rw[bR];simp only[cH,vh,QG]at h1;have val:(t.length==1||t.head? !=some 48)=true->b8 (pB (fun xs H Q=>∃a n,xs=[V.str a]/\RI a=some n/\a.length<=640/\Q (V.int n) H) (bQ (aS 0) dk)) {nx:=fun Z H'=>Q .aO H',rt:=Q} (L2.start ["text"] [V.str (S t)]) H:=fun h4=>by
     have e:c7 t=some (yY t):=by
      unfold c7;rw[if_pos];simp only[cH,vh,QG,decide_eq_true_eq];exact⟨⟨h1,by lia⟩,h4⟩
     rw[e]at k;exact⟨_,rfl,_,_,rfl,U9 h1.2 h1.1 (by lia),by rw[bR];lia,k⟩
    refine bD (fun h3=>?_) (fun h3=>?_)
    .obtain⟨c,r,rfl⟩:∃c r,t=c::r:=Zl h1.1;refine⟨_,rfl,_,0,c.toNat,rfl,rfl,hz,?_,rfl,_,rfl,?_⟩
     .refine bY (j:=0) ?_;rw[rq];rfl
     .refine bD (fun h4=>?_) (fun h4=>?_)
      .have e5:c=48:=by
        have e6:(S [c])=S [48]:=V.str.inj h4;have:=iy e6;simpa using this
       have e:c7 (c::r)=none:=by
        unfold c7;rw[if_neg];have:¬(c::r).length=1:=by lia
        simp[e5,this];intro _ _ _ q;simp at this;exact absurd q this
       rw[e]at k;exact k
      .refine val ?_;have:c≠48:=fun z=>h4 (by rw[z];rfl);simp[this]
    .refine val ?_;have:t.length=1:=by
      have:=ka.mpr h1.1;lia
     simp[this]
theorem xm{c:UInt8}{y:ah}(hy:TL.tl y=[c.toNat])(t:au):jM (S t) y=(S (Vt.part c t).1,S (Vt.part c t).2.1,S (Vt.part c t).2.2):=by
 have ey:y=S [c]:=TL.oN (by rw[hy];rfl);have U8:∀a:au,c∉a->c.toNat∉TL.tl (S a):=fun a h m=>by
  rw[show TL.tl (S a)=a.map fQ from eS a]at m;obtain⟨d,hd,e⟩:=dI.mp m;exact h (yR.mp e▸hd)
 rcases Vt.DQ c t with⟨h1,h2⟩|⟨a,b,h1,h2,h3⟩
 .rw[h2,TL.amc hy (U8 t h1)];rfl
 .rw[h3,h1];have e:S (a++c::b)=S a++y++S b:=by rw[ey,<-gN,<-gN];simp
  rw[e,TL.amb hy (U8 a h2),ey]
theorem xn(c:UInt8)(t:au):(∀d∈(Vt.part c t).1,d∈t)/\(∀d∈(Vt.part c t).2.2,d∈t)/\(Vt.part c t).1.length<=t.length/\(Vt.part c t).2.2.length<=t.length:=by
 rcases Vt.DQ c t with⟨h1,h2⟩|⟨a,b,h1,h2,h3⟩
 .rw[h2];simp
 .rw[h3,h1];refine⟨fun d hd=>by simp[hd],fun d hd=>by simp;exact .inr (.inr hd),by simp,by simp;lia⟩
noncomputable def Tr(e:bg):List (ah×V):=[("kind",.str (S e.kind)),("subject",.str (S e.subject)),("number",.int (e.number:Nat)),("gap",.int (e.gap:Nat))]
noncomputable def Ev(C:aa)(H:Hp)(a:aa)(e:bg):Prop:=∃dx,H a=some (.ins C dx (Tr e))
theorem Ev.same{C:aa}{H H':Hp}{a:aa}{e:bg}(h:Ev C H a e)(s:aq H H'):Ev C H' a e:=let ⟨dx,q⟩:=h;⟨dx,s _ _ q⟩
noncomputable abbrev Nb:aW:=inClass (top 18) 0
theorem anG:bE ["self","kind","subject","number","gap"] ["self","kind","subject","number","gap"] (aP Nb):=bF
theorem akF{f C:aa}{fd:bu}(F:bt K "__init__" "Event.__init__" Nb f fd)(T:Ty K C ["kind","subject","number","gap"]):bh P w K mg base az 1 f fd ["self","kind","subject","number","gap"] (eP C ["kind","subject","number","gap"]):=by
 refine F.ok anG (fun vs H Q E h=>?_) (fun aJ A outer s H vs Q E hr h=>?_)
 .obtain⟨x,dx,us,rfl,hl,Z⟩:=h;simpa using hl
 .obtain⟨x,dx,us,rfl,hl,hx,k⟩:=h;obtain⟨a,b,c,d,rfl⟩:=Lz hl;refine⟨_,aw (fg (pv 0) (pv 1) rfl) (aw (fg (pv 0) (pv 2) rfl) (aw (fg (pv 0) (pv 3) rfl) (aA (fg (pv 0) (pv 4) rfl)))),?_⟩;refine⟨_,rfl,_,rfl,x,C,dx,[],rfl,hx,T.cls,T.nf _ (by simp),(by decide),?_⟩;rw[fu (fs:=[]) (by decide+kernel)];refine⟨_,rfl,_,rfl,x,C,dx,_,rfl,aD,T.cls,T.nf _ (by simp),(by show 1<1000;decide),?_⟩;rw[fE,fu (by rfl)];refine⟨_,rfl,_,rfl,x,C,dx,_,rfl,aD,T.cls,T.nf _ (by simp),(by show 2<1000;decide),?_⟩;rw[fE,fu (by rfl)];refine⟨_,rfl,_,rfl,x,C,dx,_,rfl,aD,T.cls,T.nf _ (by simp),(by show 3<1000;decide),?_⟩;rw[fE,fu (by rfl)];exact k
noncomputable abbrev ND:aW:=top 19
noncomputable def AR(C:aa):Sp:=fun vs H Q Z=>∃t:au,vs=[.str (S t)]/\ek t/\t.length<=100000/\(kn t=none->∀H',aq H H'->Q .aO H')/\∀e,kn t=some e->∀a H',H a=none->aq H H'->Ev C H' a e->Q (.ref a) H'
noncomputable abbrev ajB:List ah:=["text","by_kind","by_subject","by_number","kind","subject","number","gap"]
theorem sJ:bE ajB ["text"] (aP ND):=bF
theorem ald{f C:aa}{fd:bu}(F:bt K "read_event" "read_event" ND f fd)(vk:Fn P w K mg base az 1 "read_number" ["text"] AQ)(xZ:Fn P w K mg base az 2 "is_name" ["text"] AO)(M:Cl P w K mg base 1 "Event" C ["self","kind","subject","number","gap"] (eP C ["kind","subject","number","gap"])):bh P w K mg base az 3 f fd ["text"] (AR C):=by
 refine F.ok sJ (fun vs H Q E h=>?_) (fun aJ A outer s H vs Q E hr h=>?_)
 .obtain⟨t,rfl,Z⟩:=h;rfl
 .obtain⟨t,rfl,ha,hl,kN,kS⟩:=h;have bM:bb 1 _:=hr.mono (by decide);refine⟨_,aw (aZ (i:=1) sJ.nd rfl (aF rfl) (uQ (pv 0) bH)) (aw (aZ (i:=2) sJ.nd rfl (aF rfl) (uQ (bZ fD (pv 1) bc (fun Z Z=>rfl)) bH)) (aw (aZ (i:=3) sJ.nd rfl (aF rfl) (uQ (bZ fD (pv 2) bc (fun Z Z=>rfl)) bH)) (aw (aZ (i:=4) sJ.nd rfl (aF rfl) (bZ fD (pv 1) bc (fun Z Z=>rfl))) (aw (aZ (i:=5) sJ.nd rfl (aF rfl) (bZ fD (pv 2) bc (fun Z Z=>rfl))) (aw (aZ (i:=6) sJ.nd rfl (aF rfl) (aU vk bM rfl aY (ai (bZ fD (pv 3) bc (fun Z Z=>rfl)) aj))) (aw (aZ (i:=7) sJ.nd rfl (aF rfl) (aU vk bM rfl aY (ai (bZ fD (pv 3) bc (fun Z Z=>rfl)) aj))) (aw (bx (PW.pt (nZ (jD (f6 (aU xZ hr rfl aY (ai (pv 4) aj)))) (sF (jD (f6 (aU xZ hr rfl aY (ai (pv 5) aj))))))) (aA (aI cT)) bA) (aw (bx (PW.pt (nZ (bq j4 (pv 6) cT (bp _)) (sF (bq j4 (pv 7) cT (bp _))))) (aA (aI cT)) bA) (aA (aI (gC M hr rfl (ai (pv 4) (ai (pv 5) (ai (pv 6) (ai (pv 7) aj))))))))))))))),?_⟩;have z:∀u:au,u.length<=100000->(S u).length<=sizeLine:=fun u h=>big _ (by rw[bR];lia);obtain⟨s1,s2,s3,s4⟩:=xn 64 t;have P1:=xm (c:=64) (y:="@") rfl t;rcases mK:Vt.part 64 t with⟨a1,b1,r1⟩;rw[mK]at s1 s2 s3 s4 P1;dsimp only at s1 s2 s3 s4 P1;obtain⟨s5,s6,s7,s8⟩:=xn 35 r1;have P2:=xm (c:=35) (y:="#") rfl r1;rcases fX:Vt.part 35 r1 with⟨a2,b2,r2⟩;rw[fX]at s5 s6 s7 s8 P2;dsimp only at s5 s6 s7 s8 P2;obtain⟨s9,sI,xy,bJ⟩:=xn 43 r2;have P3:=xm (c:=43) (y:="+") rfl r2;rcases zI:Vt.part 43 r2 with⟨a3,b3,r3⟩;rw[zI]at s9 sI xy bJ P3;dsimp only at s9 sI xy bJ P3;have em:Vt.Ds t=if cz a1=true/\cz a2=true then(match c7 a3,c7 r3 with
    |some x,some y=>some ⟨a1,a2,x,y⟩
    |_,_=>none)else none:=by
   unfold Vt.Ds;dsimp only;rw[show mz=64 from rfl,mK];dsimp only;rw[show dA=35 from rfl,fX];dsimp only;rw[show dB=43 from rfl,zI];try rfl
  rw[Vt.aiY]at em;refine⟨_,rfl,⟨_,rfl⟩,_,_,rfl,rfl,rfl,z _ hl,fun p1 n1=>?_⟩;rw[P1];refine⟨_,rfl,p1,_,2,_,rfl,rfl,cN.of aD,bY (j:=2) rfl,⟨_,rfl⟩,_,_,rfl,rfl,rfl,z _ (by lia),fun p2 n2=>?_⟩;rw[P2];refine⟨_,rfl,p2,_,2,_,rfl,rfl,cN.of aD,bY (j:=2) rfl,⟨_,rfl⟩,_,_,rfl,rfl,rfl,z _ (by lia),fun p3 n3=>?_⟩;rw[P3];have Av:p1≠p2:=cC aD n2;have MG:p1≠p3:=cC (by rw[ba Av];exact aD) n3;have n8:p2≠p3:=cC aD n3;refine⟨_,rfl,p1,_,0,_,rfl,rfl,cN.of (by rw[ba MG,ba Av];exact aD),bY (j:=0) rfl,?_⟩;refine⟨_,rfl,p2,_,0,_,rfl,rfl,cN.of (by rw[ba n8];exact aD),bY (j:=0) rfl,?_⟩;refine⟨_,rfl,p3,_,0,_,rfl,rfl,cN.of aD,bY (j:=0) rfl,a3,rfl,iR (fun d hd=>s2 d (s6 d (s9 d hd))) ha,by lia,?_⟩;refine⟨_,rfl,p3,_,2,_,rfl,rfl,cN.of aD,bY (j:=2) rfl,r3,rfl,iR (fun d hd=>s2 d (s6 d (sI d hd))) ha,by lia,?_⟩;have sm:=bj (o:=HO.tup [V.str (S a3),V.str (S b3),V.str (S r3)]) (bj (o:=HO.tup [V.str (S a2),V.str (S b2),V.str (S r2)]) (bj (o:=HO.tup [V.str (S a1),V.str (S b1),V.str (S r1)]) (aq.refl H) n1) n2) n3;refine⟨_,rfl,a1,rfl,iR s1 ha,by lia,_,rfl,?_⟩;refine mO (fun h1=>?_) (fun h1=>?_)
  .exact kN (by rw[em,if_neg (by simp[h1])]) _ sm
  refine⟨_,rfl,a2,rfl,iR (fun d hd=>s2 d (s5 d hd)) ha,by lia,_,rfl,?_⟩;refine mO (fun h2=>?_) (fun h2=>?_)
  .exact kN (by rw[em,if_neg (by simp[h2])]) _ sm
  rw[if_pos ⟨h1,h2⟩]at em;refine⟨_,rfl,rfl,_,rfl,?_⟩;cases e3:c7 a3 with
  |none=>
   rw[e3]at em;exact kN (by rw[em]) _ sm
  |some x=>
   refine⟨_,rfl,rfl,_,rfl,?_⟩;cases e4:c7 r3 with
   |none=>
    rw[e3,e4]at em;exact kN (by rw[em]) _ sm
   |some y=>
    rw[e3,e4]at em;refine⟨_,rfl,_,rfl,_,rfl,_,rfl,fun x1 d1 n4 n5 n6=>?_⟩;refine⟨x1,d1,_,rfl,rfl,aD,rfl,?_⟩;rw[fE];refine kS _ em x1 _ (sm.free n4) (bj (bj sm n5) (by rw[ba n6.symm];exact n4)) ⟨d1,aD⟩
theorem zc{n:Nat}(h:n<=1000000):bB (toString ((n:Nat):Int))=S (iA n):=by
 refine TL.oN ?_;rw[TL.Yy];show _=(S (iA n)).cps.toList;rw[eS];exact(Vt.S5 TL.qv (fun n h=>TL.Wa h) (fun n h=>TL.Wb h) n (by lia)).symm
theorem Ai{n:Nat}(h:n<=1000000):Wg (.int (n:Nat)):=by
 show((n:Nat):Int).natAbs.log2<1920;rw[Int.natAbs_natCast];by_cases h0:n=0
 .subst h0;decide
 .refine(Nat.log2_lt h0).mpr (g7 (show n<2^20 by lia) (F9 (by decide) (by decide)))
theorem lN{n:Nat}(h:n<=1000000):(iA n).length<=7:=by
 have e:(iA n).length=(TL.qv n).length:=by
  rw[<-Vt.S5 TL.qv (fun n h=>TL.Wa h) (fun n h=>TL.Wb h) n (by lia),bC]
 rw[e];exact TL.akc (k:=7) (by decide) (by lia)
structure jH(e:bg):Prop where
 k:e.kind.length<=8
 s:e.subject.length<=8
 n:e.number<=999
 g:e.gap<=999
theorem G5(t:au)(c:UInt8)(i:Nat):aaC (S t) (S [c]) (S t).length i↔t[i]? =some c:=by
 rw[TL.Cc (by show(S [c]).cps.toList≠[];rw[eS];simp)];show TL.pre (S [c]).cps.toList ((S t).cps.toList.drop i)=true↔_;rw[eS,eS];show((FV fQ t).drop i).take 1==[c.toNat]↔_;rw[<-oz];constructor
 .intro h;have h:=eq_of_beq h;cases e:t.drop i with
  |nil=>rw[e]at h;simp at h
  |cons d r=>
   rw[e]at h;simp at h;have e2:t[i]? =some d:=by
    rw[<-Zx,e];rfl
   rw[e2,yR.mp h]
 .intro h;have e2:(t.drop i).head?=some c:=by rw[Zx];exact h
  cases e:t.drop i with
  |nil=>rw[e]at e2;cases e2
  |cons d r=>
   rw[e]at e2;cases e2;simp
theorem TU(t:au)(c:UInt8){p:Nat}(hp:p<=t.length):(c∉t.drop p/\ud (S t) (S [c]) (p:Nat)= -1)\/∃a b,t.drop p=a++c::b/\c∉a/\ud (S t) (S [c]) (p:Nat)=((p+a.length:Nat):Int):=by
 unfold ud;have e:vN (S t).length ((p:Nat):Int)=p:=by
  unfold vN;rw[if_neg (by lia)];lia
 rw[e];rcases StrLaws.occ_head_from (S t) (S [c]) p 1 (cA 1)with⟨h1,h2⟩|⟨i,r,h1,h2,h3,h4⟩
 .refine .inl ⟨fun m=>?_,by rw[h1]⟩;obtain⟨j,hj⟩:=ZG.mp m;rw[yb]at hj;exact h2 (p+j) (by lia) ((G5 t c _).mpr hj)
 .have h3:=(G5 t c i).mp h3;have hi:=(dQ.mp h3).1;refine .inr ⟨(t.drop p).take (i-p),t.drop (i+1),?_,fun m=>?_,?_⟩
  .have e1:t.drop p=(t.drop p).take (i-p)++(t.drop p).drop (i-p):=(QP _ _).symm;rw[pH,show p+(i-p)=i by lia]at e1;rw[tu hi]at e1;have e2:t[i]=c:=(dQ.mp h3).2;rw[e2]at e1;exact e1
  .obtain⟨j,hj⟩:=ZG.mp m;rw[QB]at hj;split at hj
   .rw[yb]at hj;exact h4 (p+j) (by lia) (by lia) ((G5 t c _).mpr hj)
   .cases hj
  .rw[h1];simp only[iN,iM];have:p+min (i-p) (t.length-p)=i:=by lia
   rw[this]
theorem row_end(t:au){p:Nat}(hp:p<=t.length):∃a b,t.drop p=a++b/\pS∉a/\(∀c r,b=c::r->c=pS)/\((ud (S t) (S [32]) (p:Nat)= -1/\p+a.length=t.length)\/ud (S t) (S [32]) (p:Nat)=((p+a.length:Nat):Int)):=by
 rcases TU t 32 hp with⟨h1,h2⟩|⟨a,b,h1,h2,h3⟩
 .exact⟨t.drop p,[],by simp,h1,(fun Z Z z=>nomatch z),.inl ⟨h2,by rw[iM];lia⟩⟩
 .exact⟨a,32::b,h1,h2,(fun c r z=>by cases z;rfl),.inr h3⟩
noncomputable abbrev Nc:aW:=top 20
noncomputable def ET(C:aa):Sp:=fun vs H Q Z=>∃(a:aa)(e:bg),vs=[.ref a]/\Ev C H a e/\jH e/\Q (.str (S (mC e))) H
noncomputable abbrev ajs:List ah:=["event","kind","subject","number","gap"]
theorem AA:bE ajs ["event"] (aP Nc):=bF
theorem akG{f C:aa}{fd:bu}(F:bt K "event_text" "event_text" Nc f fd)(T:Ty K C ["kind","subject","number","gap"]):bh P w K mg base az 1 f fd ["event"] (ET C):=by
 refine F.ok AA (fun vs H Q E h=>?_) (fun aJ A outer s H vs Q E hr h=>?_)
 .obtain⟨a,e,rfl,Z⟩:=h;rfl
 .obtain⟨a,e,rfl,⟨dx,he⟩,ok,k⟩:=h;refine⟨_,aw (aZ (i:=1) AA.nd rfl (aF rfl) (aN (pv 0) rfl)) (aw (aZ (i:=2) AA.nd rfl (aF rfl) (aN (pv 0) rfl)) (aw (aZ (i:=3) AA.nd rfl (aF rfl) (aN (pv 0) rfl)) (aw (aZ (i:=4) AA.nd rfl (aF rfl) (aN (pv 0) rfl)) (aA (aI (qy (dW (iH (pv 1)) (dW bH (dW (iH (pv 2)) (dW bH (dW (iH (pv 3)) (dW bH (dW (iH (pv 4)) qz))))))))))))),?_⟩;refine⟨_,rfl,a,C,dx,_,_,rfl,he,T.cls,T.nf _ (by simp),rfl,?_⟩;refine⟨_,rfl,a,C,dx,_,_,rfl,he,T.cls,T.nf _ (by simp),rfl,?_⟩;refine⟨_,rfl,a,C,dx,_,_,rfl,he,T.cls,T.nf _ (by simp),rfl,?_⟩;refine⟨_,rfl,a,C,dx,_,_,rfl,he,T.cls,T.nf _ (by simp),rfl,?_⟩;have h1:=ok.k;have h2:=ok.s;have h3:=ok.n;have h4:=ok.g;have h5:=lN (n:=e.number) (by lia);have h6:=lN (n:=e.gap) (by lia);have hb:∀x:ah,x.length<=1000->x.length<=sizeLine:=fun x h=>big _ (by lia);have la:∀x y:ah,(x++y).length=x.length+y.length:=fun x y=>by rw[TL.mP,TL.xS,cY,<-TL.mP,<-TL.mP]
  have l0:hG.length=0:=rfl;have lA:(bB "@").length=1:=by decide+kernel
  have lB:(bB "#").length=1:=by decide+kernel
  have lC:(bB "+").length=1:=by decide+kernel
  have rQ:=zc (n:=e.number) (by lia);have uo:=zc (n:=e.gap) (by lia);refine⟨_,rfl,hb _ (by rw[bR];lia),_,rfl,_,rfl,hb _ (by simp only[la,l0,bR];lia),?_⟩;refine⟨_,rfl,hb _ (by simp only[la,l0,bR,lA];lia),?_⟩;refine⟨_,rfl,hb _ (by rw[bR];lia),_,rfl,_,rfl,hb _ (by simp only[la,l0,bR,lA];lia),?_⟩;refine⟨_,rfl,hb _ (by simp only[la,l0,bR,lA,lB];lia),?_⟩;refine⟨_,rfl,Ai (by lia),_,rfl,_,rfl,hb _ (by rw[rQ];simp only[la,l0,bR,lA,lB];lia),?_⟩;refine⟨_,rfl,hb _ (by rw[rQ];simp only[la,l0,bR,lA,lB,lC];lia),?_⟩;refine⟨_,rfl,Ai (by lia),_,rfl,_,rfl,hb _ (by rw[rQ,uo];simp only[la,l0,bR,lA,lB,lC];lia),?_⟩;refine⟨hb _ (by rw[rQ,uo];simp only[la,l0,bR,lA,lB,lC];lia),?_⟩;rw[rQ,uo];rw[show hG=S []from rfl,show bB "@"=S [64]from rfl,show bB "#"=S [35]from rfl,show bB "+"=S [43]from rfl];simp only[<-gN];have e1:([]:au)++e.kind++[64]++e.subject++[35]++iA e.number++[43]++iA e.gap=mC e:=by
   unfold mC mz dA dB;simp
  rw[e1];exact k
noncomputable abbrev NX:aW:=top 22
noncomputable def Ph:Sp:=fun vs H Q Z=>∃(t:au)(p:Nat),vs=[.str (S t),.int (p:Nat)]/\p<=t.length/\t.length<=100000/\∀a b,t.drop p=a++b->pS∉a->(∀c r,b=c::r->c=pS)->Q (.int ((p+a.length:Nat):Int)) H
theorem XS:bE ["text","place","end"] ["text","place"] (aP NX):=bF
theorem alG{f:aa}{fd:bu}(F:bt K "token_end" "token_end" NX f fd)(B:Bt mg):bh P w K mg base az 1 f fd ["text","place"] Ph:=by
 refine F.ok XS (fun vs H Q E h=>?_) (fun aJ A outer s H vs Q E hr h=>?_)
 .obtain⟨t,p,rfl,Z⟩:=h;rfl
 .obtain⟨t,p,rfl,hp,hl,k⟩:=h;refine⟨_,aw (aZ (i:=2) XS.nd rfl (aF rfl) (Ms Rb aap VO (pv 0) bH (pv 1))) (aw (bx (bq nU (pv 2) bc (bp _)) (aA (aI (cK lK (by rfl) B.len dv (ai (pv 0) aj)))) bA) (aA (aI (pv 2)))),?_⟩;obtain⟨a,b,h1,h2,h3,h4⟩:=row_end t hp;have k:=k a b h1 h2 h3;refine⟨_,rfl,⟨_,rfl⟩,_,rfl,_,_,_,rfl,rfl,_,rfl,_,_,rfl,rfl,_,rfl,?_⟩;rw[show bB " "=S [32]from rfl];rcases h4 with⟨h4,h5⟩|h4
  .rw[h4];refine Vc ⟨_,rfl,_,rfl,big _ (by rw[bR];lia),?_⟩;rw[bR,<-h5];exact k
  .rw[h4];refine bD (fun h=>absurd h (by lia)) (fun h=>?_);exact⟨_,rfl,k⟩
theorem oh{n d p:Nat}(h:p<=n):HT.cq n d (some (p:Nat))=p:=by
 rw[HT.oh];lia
theorem acK(t:au){p q:Nat}(hp:p<=t.length)(hq:q<=t.length):lM (S t) (some (p:Nat)) (some (q:Nat))=S ((t.drop p).take (q-p)):=by
 unfold lM;rw[bR,oh hp,oh hq,eS];refine TL.oN ?_;show((t.map fQ).drop p).take (q-p)=(S ((t.drop p).take (q-p))).cps.toList;rw[eS,tF,oz]
noncomputable def Rz(CF:aa)(E:XK)(f:tY)(R:Hp->Prop):Prop:=∀H' dx,R H'->H' dx=some (.xd (ff (.int (f.kind:Nat)) (.int (f.place:Nat))))->E (.ref CF) (some dx) H'
theorem Rz.mono{CF:aa}{E:XK}{f:tY}{R R':Hp->Prop}(h:Rz CF E f R)(i:∀H,R' H->R H):Rz CF E f R':=fun H' dx r e=>h H' dx (i _ r) e
theorem Rz.raise{CF:aa}{E:XK}{k p:Nat}{R:Hp->Prop}(h:Rz CF E ⟨k,p⟩ R){H1:Hp}{e dx:aa}{o:HO}(he:H1 e=none)(hd:H1 dx=none)(bL:dx≠e)(hR:∀H',aq H1 H'->R H'):E (.ref CF) (some dx) (upd (upd H1 dx (.xd (ff (.int (k:Nat)) (.int (p:Nat))))) e o):=h _ dx (hR _ (bj (bj (aq.refl _) hd) (by rw[ba bL.symm];exact he))) (by rw[ba bL];exact aD)
noncomputable def eQ(C:aa)(H:Hp)(as:List aa)(es:List bg):Prop:=as.length=es.length/\∀(i:Nat) a e,as[i]? =some a->es[i]? =some e->Ev C H a e
theorem eQ.same{C:aa}{H H':Hp}{as:List aa}{es:List bg}(h:eQ C H as es)(s:aq H H'):eQ C H' as es:=⟨h.1,fun i a e h1 h2=>(h.2 i a e h1 h2).same s⟩
theorem eQ.nil{C:aa}{H:Hp}:eQ C H [] []:=⟨rfl,fun i a e h=>by simp at h⟩
theorem eQ.push{C:aa}{H:Hp}{as:List aa}{es:List bg}{a:aa}{e:bg}(h:eQ C H as es)(ha:Ev C H a e):eQ C H (as++[a]) (es++[e]):=by
 refine⟨by simp[h.1],fun i b d h1 h2=>?_⟩;by_cases hi:i<as.length
 .rw[tw hi]at h1;rw[tw (by rw[<-h.1];exact hi)]at h2;exact h.2 i b d h1 h2
 .rw[ya (by lia)]at h1;rw[ya (by rw[<-h.1];lia)]at h2;have e1:i-as.length=0:=by
   cases q:i-as.length with
   |zero=>rfl
   |succ m=>rw[q]at h1;simp at h1
  rw[<-h.1,e1]at h2;rw[e1]at h1;cases h1;cases h2;exact ha
theorem eQ.lst{C:aa}{H:Hp}{as:List aa}{es:List bg}{l:aa}{xs ys:List V}(h:eQ C H as es)(hl:H l=some (.lst xs)):eQ C (upd H l (.lst ys)) as es:=⟨h.1,fun i a e h1 h2=>let ⟨dx,q⟩:=h.2 i a e h1 h2;⟨dx,by rw[ba (fe q hl (fun z=>by cases z))];exact q⟩⟩
noncomputable abbrev NH:aW:=top 21
noncomputable def OY(C CF:aa):Sp:=fun vs H Q E=>∃t:au,vs=[.str (S t)]/\ek t/\t.length<=100000/\(∀es,kq t=.ok es->∀l as H',H l=none->aq H H'->H' l=some (.lst (as.map V.ref))->eQ C H' as es->es.length<=40->Q (.ref l) H')/\∀f,kq t=.error f->Rz CF E f (aq H)
noncomputable abbrev ajE:List ah:=["text","events","place","end","event"]
theorem u5:bE ajE ["text"] (aP NH):=bF
theorem alg{f C CF:aa}{fd:bu}(F:bt K "read_run" "read_run" NH f fd)(B:Bt mg)(T:Flt K mg CF)(c1:bT mg "NO_EVENT" (.int 1))(c2:bT mg "TOO_MANY_EVENTS" (.int 2))(c3:bT mg "MOST_EVENTS" (.int 40))(Fe:Fn P w K mg base az 3 "read_event" ["text"] (AR C))(Ft:Fn P w K mg base az 1 "token_end" ["text","place"] Ph):bh P w K mg base (XE P w) 4 f fd ["text"] (OY C CF):=by
 refine fL F u5 (fun vs H Q E h=>?_) (fun aJ A outer s H vs Q E hr h=>?_)
 .obtain⟨t,rfl,Z⟩:=h;rfl
 .obtain⟨t,rfl,ha,hl,kS,kE⟩:=h;have bM:bb 1 _:=hr.mono (by decide);have ck:bb 2 _:=hr.mono (by decide);refine⟨_,aw (aZ (i:=1) u5.nd rfl (aF rfl) (cv aj)) (aw (aZ (i:=2) u5.nd rfl (aF rfl) bc) (aw (uR Gs (bq nU (pv 2) (cK lK (by rfl) B.len dv (ai (pv 0) aj)) (bp _)) (aw (bx (bq cg (bZ sf (pv 0) (pv 2) (fun Z Z=>rfl)) bH (bp _)) (aw (pj (i:=2) u5.nd rfl (aF rfl) bc wY) (aA WT)) bA) (aw (aZ (i:=3) u5.nd rfl (aF rfl) (aU Ft bM rfl aY (ai (pv 0) (ai (pv 2) aj)))) (aw (aZ (i:=4) u5.nd rfl (aF rfl) (aU Fe hr rfl aY (ai (mR AI (pv 0) (gE (pv 2)) (gE (pv 3))) aj))) (aw (bx (bq j4 (pv 4) cT (bp _)) (aA (px T ck rfl (ai (bP c1 rfl) (ai (pv 2) aj)))) bA) (aw (bx (bq cg (cK fR (by rfl) B.len dv (ai (pv 1) aj)) (bP c3 rfl) (bp _)) (aA (px T ck rfl (ai (bP c2 rfl) (ai (pv 2) aj)))) bA) (aw (ej (iG g9 lj mi lZ (pv 1) (ai (pv 4) aj))) (aA (aZ (i:=2) u5.nd rfl (aF rfl) (pv 3)))))))))) (aA (aI (pv 1))))),?_⟩;refine⟨dJ _,fun l iC=>?_⟩;have zt:(S t).length<=sizeLine:=big _ (by rw[bR];lia);refine⟨fun m σ H'=>∃(p:Nat)(v3 v4:Option V)(as:List aa)(es:List bg),m=t.length-p/\σ=[some (.str (S t)),some (.ref l),some (.int (p:Nat)),v3,v4]/\p<=t.length/\aq H H'/\H' l=some (.lst (as.map V.ref))/\eQ C H' as es/\es.length<=40/\kq t=Vt.behind es (jP es.length (iP p [] (t.drop p))),⟨_,0,none,none,[],[],rfl,rfl,dJ _,bj (aq.refl _) iC,aD,eQ.nil,by simp,?_⟩,?_⟩
  .rw[Vt.Ss];rfl
  rintro m σ H' ⟨p,v3,v4,as,es,rfl,rfl,hp,sm,gA,dj,gT,bV⟩;refine⟨_,rfl,_,rfl,_,rfl,zt,_,_,rfl,rfl,_,rfl,?_⟩;rw[bR];refine bD (fun h1=>?_) (fun h1=>?_)
  .have bI:p<t.length:=by lia
   obtain⟨c,hc⟩:∃c,t[p]? =some c:=⟨_,cV bI⟩;have hd:t.drop p=c::t.drop (p+1):=by
    rw[tu bI];rw[(dQ.mp hc).2]
   refine⟨fun σ' eJ=>∃m',m'<t.length-p/\∃(p:Nat)(v3 v4:Option V)(as:List aa)(es:List bg),m'=t.length-p/\σ'=[some (.str (S t)),some (.ref l),some (.int (p:Nat)),v3,v4]/\p<=t.length/\aq H eJ/\eJ l=some (.lst (as.map V.ref))/\eQ C eJ as es/\es.length<=40/\kq t=Vt.behind es (jP es.length (iP p [] (t.drop p))),fun Z Z z=>z,?_⟩;refine⟨_,rfl,_,rfl,_,_,c.toNat,rfl,rfl,zt,bY (by rw[rq,hc];rfl),rfl,_,rfl,?_⟩;refine bD (fun h2=>?_) (fun h2=>?_)
   .have rP:c=32:=by
     have:=iy (a:=[c]) (b:=[32]) (V.str.inj h2);simpa using this
    subst rP;refine⟨_,rfl,_,_,rfl,rfl,_,(by lia:t.length-(p+1)<t.length-p),p+1,v3,v4,as,es,rfl,rfl,by lia,sm,gA,dj,gT,?_⟩;rw[bV,hd];congr 2
   .have rP:c≠32:=fun z=>h2 (by rw[z];rfl);refine⟨_,rfl,_,rfl,t,p,rfl,hp,hl,fun a b iT j0 UJ=>?_⟩;have Uo:a≠[]:=by
     intro z;rw[z,ni]at iT;exact rP (UJ c _ (by rw[<-iT,hd]))
    have hlen:p+a.length<=t.length:=by
     have:=congrArg ox iT;simp at this;lia
    have hb:t.drop (p+a.length)=b:=by
     rw[<-pH,iT,Bb]
    have lR:lM (S t) (some ((p:Nat):Int)) (some ((p+a.length:Nat):Int))=S a:=by
     rw[acK t hp hlen,iT,show p+a.length-p=a.length by lia,FZ]
    have K7:kq t=Vt.behind es (jP es.length ((p,a)::iP (p+a.length) [] b)):=by
     rw[bV,iT,Vt.anp p Uo j0 UJ]
    have zJ:0<a.length:=ka.mpr Uo;refine⟨_,rfl,_,rfl,_,rfl,_,rfl,_,rfl,_,rfl,zt,a,by rw[lR],iR (fun d hd=>yg (i:=p) (by rw[iT];simp[hd])) ha,by lia,fun zG H2 gG=>?_,fun e he x H2 hx gG Kx=>?_⟩
    .refine⟨_,rfl,rfl,_,rfl,bD (fun Z=>?_) (fun z=>absurd rfl z)⟩;refine⟨_,rfl,_,_,rfl,fun ex dx n1 n2 n3=>?_⟩;exact(kE ⟨1,p⟩ (by rw[K7,Vt.Tu zG];rfl)).raise n1 n2 n3 fun H3 s3=>(sm.trans gG).trans s3
    .refine⟨_,rfl,rfl,_,rfl,bD (fun z=>nomatch z) (fun Z=>?_)⟩;have qi:=gG _ _ gA;have eA:=dj.1;refine⟨_,rfl,l,_,rfl,.inl (aH.of qi),rfl,_,rfl,?_⟩;refine bD (fun z=>?_) (fun z=>?_)
     .have z:=V.int.inj z;rw[bC]at z;refine⟨_,rfl,_,_,rfl,fun ex dx n1 n2 n3=>?_⟩;exact(kE ⟨2,p⟩ (by rw[K7,Vt.Tt he (by show 40<=_;lia)];rfl)).raise n1 n2 n3 fun H3 s3=>(sm.trans gG).trans s3
     .have z:¬es.length=40:=fun q=>z (by rw[bC,eA,q];rfl);refine⟨_,rfl,.inl ⟨rfl,_,aH.of qi⟩,_,rfl,l,_,_,rfl,rfl,qi,dN _ (by rw[bC];lia),?_⟩;refine⟨_,rfl,_,(by lia:t.length-(p+a.length)<t.length-p),p+a.length,_,_,as++[x],es++[e],rfl,rfl,hlen,gH (sm.trans gG) iC,?_,(eQ.push (dj.same gG) Kx).lst qi,by simp;lia,?_⟩
      .rw[aD,fz];rfl
      .rw[K7,Vt.Tv he (by show¬40<=_;lia),Vt.Sr,cY,hb];rfl
  .have uC:p=t.length:=by lia
   subst uC;refine⟨_,rfl,kS es ?_ l as H' iC sm gA dj gT⟩;rw[bV,vq];show Vt.behind es (.ok [])=_;simp[Vt.behind]
theorem Yb:∀l:List au,TL.si [32] (l.map fun t=>t.map fQ)=(t6 l).map fQ
 |[]=>rfl
 |[t]=>rfl
 |t::u::r=>by
  show t.map fQ++([32]++TL.si [32] ((u::r).map fun t=>t.map fQ))=(t++(pS::t6 (u::r))).map fQ;rw[Yb (u::r),fz,dY];rfl
theorem aio(l:List au):BC (bB " ") (l.map S)=S (t6 l):=by
 refine TL.oN ?_;rw[TL.join_eq,TL.PM,show TL.tl (bB " ")=[32]from rfl,gm];show _=(S (t6 l)).cps.toList;rw[eS,<-Yb];congr 1
theorem Cz{e:bg}(h:jH e):(mC e).length<=40:=by
 have h1:=h.k;have h2:=h.s;have h3:=h.n;have h4:=h.g;have h5:=lN (n:=e.number) (by lia);have h6:=lN (n:=e.gap) (by lia);unfold mC;simp only[cY,cy];lia
theorem xO{α:Type}(f:α->Nat)(b:Nat):∀l:List α,(∀x∈l,f x<=b)->(l.map f).sum<=l.length*b
 |[],_=>by simp
 |x::r,h=>by
  have:=xO f b r fun y hy=>h y (el _ hy);have:=h x eB;rw[dY,qK,cy,Nat.add_mul];lia
noncomputable abbrev Er:aW:=top 23
noncomputable def O0(C:aa):Sp:=fun vs H Q Z=>∃(l:aa)(as:List aa)(es:List bg),vs=[.ref l]/\H l=some (.lst (as.map V.ref))/\eQ C H as es/\(∀e∈es,jH e)/\es.length<=40/\∀H',aq H H'->Q (.str (S (yW es))) H'
theorem Od:bE ["events","event"] ["events"] (aP Er):=bF
theorem alj{f C:aa}{fd:bu}(F:bt K "run_text" "run_text" Er f fd)(Fe:Fn P w K mg base az 1 "event_text" ["event"] (ET C)):bh P w K mg base az 2 f fd ["events"] (O0 C):=by
 refine F.ok Od (fun vs H Q E h=>?_) (fun aJ A outer s H vs Q E hr h=>?_)
 .obtain⟨l,as,es,rfl,Z⟩:=h;rfl
 .obtain⟨l,as,es,rfl,hl,dj,aT,gT,k⟩:=h;refine⟨_,aA (aI (Wz bH (fq (own:=[("event",1)]) rfl Od.nd (dP (pv 0)) (eN (by show ez ["events","event"] (aP Er) _ _=true;decide+kernel)) (fun s H C cl fp=>c8 (i:=1) Od.nd rfl (aF rfl)) (fun s H C cl fp=>ft) (fun s H C cl fp=>aU Fe hr rfl aY (ai (pv 1) aj))))),?_⟩;have eA:=dj.1;refine⟨⟨_,rfl⟩,?_⟩;refine Vz (ys:=es.map fun e=>V.str (S (mC e))) (aH.of hl) (dN _ (by rw[bC];lia)) (by simp[eA]) (fun R h=>⟨_,rfl,h⟩) (fun i x y H' R e1 e2 s1 hR=>?_) (fun D H' hD s1 e=>?_)
  .rw[bU]at e1 e2;cases e3:as[i]? with
   |none=>rw[e3]at e1;cases e1
   |some a=>
    cases e4:es[i]? with
    |none=>rw[e4]at e2;cases e2
    |some e=>
     rw[e3]at e1;rw[e4]at e2;cases e1;cases e2;exact⟨_,rfl,a,e,rfl,(dj.2 i a e e3 e4).same s1,aT e (jf e4),hR _ (aq.refl _)⟩
  .refine⟨_,D,(es.map mC).map S,rfl,rfl,.inl (aH.of (by rw[e,gm,gm];rfl)),?_,?_⟩
   .have hs:=xO (fun x:ah=>x.length) 40 ((es.map mC).map S) (fun x hx=>by
     obtain⟨u,hu,rfl⟩:=dI.mp hx;obtain⟨e,he,rfl⟩:=dI.mp hu;show(S _).length<=40;rw[bR];exact Cz (aT e he))
    have h1:(bB " ").length=1:=by decide+kernel
    rw[h1];simp only[bC]at hs ⊢;lia
   .rw[aio];exact k H' s1
noncomputable abbrev Ex:aW:=top 24
noncomputable def Pf(C:aa):Sp:=fun vs H Q Z=>∃(l:aa)(as:List aa)(es:List bg)(i:Nat),vs=[.ref l,.int (i:Nat)]/\H l=some (.lst (as.map V.ref))/\eQ C H as es/\es.length<=40/\i<es.length/\∀H',aq H H'->Q (.int ((rC es i:Nat):Int)) H'
theorem Oh:bE ["events","index","event"] ["events","index"] (aP Ex):=bF
theorem TZ:∀(l:List bg)(n:Nat),l.foldl (fun n e=>n+e.gap) n=n+(l.map fun e=>e.gap).sum
 |[],n=>by simp
 |e::r,n=>by rw[vt,TZ r,dY,qK];lia
theorem Pr:∀l:List Nat,(l.map fun n=>((n:Nat):Int)).sum=((l.sum:Nat):Int)
 |[]=>rfl
 |x::r=>by rw[dY,qK,qK,Pr r];lia
theorem acL(xs:List V){q:Nat}(hq:q<=xs.length):mJ xs none (some ((q:Nat):Int))=xs.take q:=by
 unfold mJ;rw[oh hq,HT.Xt];simp
theorem alE{f C:aa}{fd:bu}(F:bt K "time_of" "time_of" Ex f fd)(B:Bt mg)(T:Ty K C ["kind","subject","number","gap"]):bh P w K mg base az 1 f fd ["events","index"] (Pf C):=by
 refine F.ok Oh (fun vs H Q E h=>?_) (fun aJ A outer s H vs Q E hr h=>?_)
 .obtain⟨l,as,es,i,rfl,Z⟩:=h;rfl
 .obtain⟨l,as,es,j,rfl,hl,dj,gT,hj,k⟩:=h;refine⟨_,aA (aI (cK (SS rfl) (by rfl) B.sum (by decide+kernel) (ai (fq (own:=[("event",2)]) (te:=iK K (aS 2) "gap") rfl Oh.nd (dP (mR u7 (pv 0) MA (gE (dH mQ (pv 1) bc)))) (eN (by show ez ["events","index","event"] (aP Ex) _ _=true;decide+kernel)) (fun s H C cl fp=>c8 (i:=2) Oh.nd rfl (aF rfl)) (fun s H C cl fp=>ft) (fun s H C cl fp=>aN (pv 2) rfl)) aj))),?_⟩;have eA:=dj.1;have lR:mJ (as.map V.ref) none (some ((j:Int)+1))=(as.take (j+1)).map V.ref:=by
   rw[show(j:Int)+1=((j+1:Nat):Int) by lia,acL _ (by rw[bC];lia),tF]
  unfold b8 pB bQ;refine jB (xs:=(as.take (j+1)).map V.ref) (ys:=(es.take (j+1)).map fun e=>V.int ((e.gap:Nat):Int)) (dN _ (by rw[bC,iN];lia)) (by simp;lia) (fun R h=>?_) (fun i x y H' R e1 e2 s1 hR=>?_) (fun D H' hD s1 e=>?_)
  .refine⟨_,rfl,_,rfl,_,_,rfl,rfl,_,rfl,l,_,rfl,aH.of hl,fun p hp=>?_⟩;rw[lR];exact h p _ (bj (aq.refl _) hp) (aH.of aD)
  .rw[bU]at e1 e2;cases e3:(as.take (j+1))[i]? with
   |none=>rw[e3]at e1;cases e1
   |some a=>
    cases e4:(es.take (j+1))[i]? with
    |none=>rw[e4]at e2;cases e2
    |some e=>
     rw[e3]at e1;rw[e4]at e2;cases e1;cases e2;have e5:as[i]? =some a:=by rw[QB]at e3;split at e3<;>first|exact e3|cases e3
     have e6:es[i]? =some e:=by rw[QB]at e4;split at e4<;>first|exact e4|cases e4
     obtain⟨dx,q⟩:=(dj.2 i a e e5 e6).same s1;exact⟨_,rfl,a,C,dx,_,_,rfl,q,T.cls,T.nf _ (by simp),rfl,hR _ (aq.refl _)⟩
  .have k:=k H' s1;have e7:rC es j=((es.take (j+1)).map fun e=>e.gap).sum:=by
    unfold rC;rw[TZ,Bn]
   rw[e7,<-Pr,gm]at k;exact⟨D,(es.take (j+1)).map fun e=>((e.gap:Nat):Int),rfl,aH.of (by rw[e,gm];rfl),k⟩
open Vatrca (rangeOf)
theorem Mi:∀(t:au)(acc:List Nat),TL.par [46,46] acc (t.map fQ)=(Vt.gQ t).map fun x=>(acc++x.1.map fQ,x.2.map fQ)
 |[],acc=>rfl
 |[c],acc=>by
  show TL.par [46,46] acc [c.toNat]=_;rw[TL.Mj (by simp[TL.pre])];rfl
 |c::d::r,acc=>by
  have ih:=Mi (d::r) (acc++[c.toNat]);rw[dY,Vt.gQ];by_cases h:c=eK/\d=eK
  .obtain⟨rfl,rfl⟩:=h;rw[if_pos ⟨rfl,rfl⟩,dY,TL.Wr (by simp[TL.pre,eK])];simp
  .rw[if_neg h,TL.Mj,ih,Option.map_map]
   .congr 1;funext x;simp
   .rw[dY];simp only[TL.pre,cy,je,QQ,ZO];rw[beq_eq_false_iff_ne];intro z;injection z with z1 z2
    injection z2 with z2 _
    exact h ⟨yR.mp z1,yR.mp z2⟩
theorem al8{t:au}(h:Vt.gQ t=none):jM (S t) (bB "..")=(S t,S [],S []):=by
 rw[TL.DT _ _ (by decide+kernel),show TL.tl (bB "..")=[46,46] by decide+kernel,show TL.tl (S t)=t.map fQ from eS t,Mi,h];rfl
theorem al9{t a b:au}(h:Vt.gQ t=some (a,b)):jM (S t) (bB "..")=(S a,bB "..",S b):=by
 rw[TL.DT _ _ (by decide+kernel),show TL.tl (bB "..")=[46,46] by decide+kernel,show TL.tl (S t)=t.map fQ from eS t,Mi,h];rfl
noncomputable def Rg(H:Hp)(v:V):Option eF->Prop
 |none=>v=.aO
 |some r=>∃b,v=.ref b/\H b=some (.tup [.int (r.low:Nat),.int (r.high:Nat)])
theorem Rg.same{H H':Hp}{v:V}{r:Option eF}(h:Rg H v r)(s:aq H H'):Rg H' v r:=by
 cases r with
 |none=>exact h
 |some r=>obtain⟨b,e,q⟩:=h;exact⟨b,e,s _ _ q⟩
noncomputable def DU(p:cM)(nv gv:V):List (ah×V):=[("kind",.str (S (p.kind.getD []))),("subject",.str (S (p.subject.getD []))),("numbers",nv),("gaps",gv)]
noncomputable def Pt(C:aa)(H:Hp)(a:aa)(p:cM):Prop:=∃dx nv gv,H a=some (.ins C dx (DU p nv gv))/\Rg H nv p.number/\Rg H gv p.gap
theorem Pt.same{C:aa}{H H':Hp}{a:aa}{p:cM}(h:Pt C H a p)(s:aq H H'):Pt C H' a p:=let ⟨dx,nv,gv,q,r1,r2⟩:=h;⟨dx,nv,gv,s _ _ q,r1.same s,r2.same s⟩
structure mw(r:eF):Prop where
 le:r.low<=r.high
 hi:r.high<=999
structure fO(p:cM):Prop where
 k:∀x,p.kind=some x->cz x=true
 s:∀x,p.subject=some x->cz x=true
 n:∀r,p.number=some r->mw r
 g:∀r,p.gap=some r->mw r
theorem j3{x:au}(h:cz x=true):x.length<=8/\x≠[]:=by
 unfold cz aa8 at h;simp only[cH,decide_eq_true_eq]at h;exact⟨h.1.2,fun z=>by rw[z]at h;simp at h⟩
theorem DG{t:au}{n:Nat}(h:c7 t=some n):n<=999:=by
 unfold c7 at h;split at h
 .rename_i hc;cases h;simp only[cH,decide_eq_true_eq,vh,k7]at hc;obtain⟨⟨⟨h0,h1⟩,h2⟩,Z⟩:=hc;have hd:∀c∈t,c.toNat-48<=9:=fun c hc=>by have:=digit_range c (h1 c hc);lia
  unfold yY;match t,h2,hd with
  |[],_,_=>simp
  |[a],_,hd=>have:=hd a (by simp);simp;lia
  |[a,b],_,hd=>have:=hd a (by simp);have:=hd b (by simp);simp;lia
  |[a,b,c],_,hd=>have:=hd a (by simp);have:=hd b (by simp);have:=hd c (by simp);simp;lia
  |a::b::c::d::r,h2,_=>simp at h2
 .cases h
theorem aej{t:au}{m n:Nat}(hm:m<=999)(h:jq m t=some n):n<=999:=by
 unfold jq at h;split at h
 .cases h;exact hm
 .exact DG h
set_option tactic.hygienic true in
theorem W7{t:au}{r:eF}(h:rangeOf t=some r):mw r:=by
 rw[<-Vt.LH]at h;unfold Vt.sr at h;split at h
 .cases e:c7 t with
  |none=>rw[e]at h;cases h
  |some n=>rw[e]at h;cases h;exact⟨cA _,DG e⟩
 .rename_i a b _;split at h
  .rename_i x y e1 e2;split at h
   .cases h
   .rename_i hn;cases h;exact⟨by show x<=y;lia,aej (by decide) e2⟩
  .cases h
noncomputable abbrev Ny:aW:=inClass (top 26) 0
theorem anT:bE ["self","kind","subject","numbers","gaps"] ["self","kind","subject","numbers","gaps"] (aP Ny):=bF
theorem ak3{f C:aa}{fd:bu}(F:bt K "__init__" "Pattern.__init__" Ny f fd)(T:Ty K C ["kind","subject","numbers","gaps"]):bh P w K mg base az 1 f fd ["self","kind","subject","numbers","gaps"] (eP C ["kind","subject","numbers","gaps"]):=by
 refine F.ok anT (fun vs H Q E h=>?_) (fun aJ A outer s H vs Q E hr h=>?_)
 .obtain⟨x,dx,us,rfl,hl,Z⟩:=h;simpa using hl
 .obtain⟨x,dx,us,rfl,hl,hx,k⟩:=h;obtain⟨a,b,c,d,rfl⟩:=Lz hl;refine⟨_,aw (fg (pv 0) (pv 1) rfl) (aw (fg (pv 0) (pv 2) rfl) (aw (fg (pv 0) (pv 3) rfl) (aA (fg (pv 0) (pv 4) rfl)))),?_⟩;refine⟨_,rfl,_,rfl,x,C,dx,[],rfl,hx,T.cls,T.nf _ (by simp),(by decide),?_⟩;rw[fu (fs:=[]) (by decide+kernel)];refine⟨_,rfl,_,rfl,x,C,dx,_,rfl,aD,T.cls,T.nf _ (by simp),(by show 1<1000;decide),?_⟩;rw[fE,fu (by rfl)];refine⟨_,rfl,_,rfl,x,C,dx,_,rfl,aD,T.cls,T.nf _ (by simp),(by show 2<1000;decide),?_⟩;rw[fE,fu (by rfl)];refine⟨_,rfl,_,rfl,x,C,dx,_,rfl,aD,T.cls,T.nf _ (by simp),(by show 3<1000;decide),?_⟩;rw[fE,fu (by rfl)];exact k
noncomputable abbrev M1:aW:=top 28
noncomputable def OD:Sp:=fun vs H Q Z=>∃(t:au)(n:Nat),vs=[.str (S t),.int (n:Nat)]/\ek t/\t.length<=100000/\Q (Dz (jq n t)) H
theorem anB:bE ["text","unwritten"] ["text","unwritten"] (aP M1):=bF
theorem akt{f:aa}{fd:bu}(F:bt K "bound_of" "bound_of" M1 f fd)(vk:Fn P w K mg base az 1 "read_number" ["text"] AQ):bh P w K mg base az 2 f fd ["text","unwritten"] OD:=by
 refine F.ok anB (fun vs H Q E h=>?_) (fun aJ A outer s H vs Q E hr h=>?_)
 .obtain⟨t,n,rfl,Z⟩:=h;rfl
 .obtain⟨t,n,rfl,ha,hl,k⟩:=h;refine⟨_,aw (bx (bq cg (pv 0) bH (bp _)) (aA (aI (pv 1))) bA) (aA (aI (aU vk hr rfl aY (ai (pv 0) aj)))),?_⟩;refine⟨_,rfl,rfl,_,rfl,bD (fun z=>?_) (fun z=>?_)⟩
  .have z:t=[]:=iy (V.str.inj z);subst z;exact⟨_,rfl,k⟩
  .have z:¬t=[]:=fun q=>z (by rw[q];rfl);have e:jq n t=c7 t:=by unfold jq;rw[if_neg (by simpa using z)]
   rw[e]at k;exact⟨_,rfl,t,rfl,ha,hl,k⟩
noncomputable abbrev NG:aW:=top 27
noncomputable def OX:Sp:=fun vs H Q Z=>∃t:au,vs=[.str (S t)]/\ek t/\t.length<=100000/\∀v H',aq H H'->Rg H' v (rangeOf t)->Q v H'
noncomputable abbrev ajD:List ah:=["text","by_points","first","second"]
theorem xD:bE ajD ["text"] (aP NG):=bF
theorem alf{f:aa}{fd:bu}(F:bt K "read_range" "read_range" NG f fd)(c1:bT mg "LARGEST_NUMBER" (.int 999))(vk:Fn P w K mg base az 1 "read_number" ["text"] AQ)(xZ:Fn P w K mg base az 2 "bound_of" ["text","unwritten"] OD):bh P w K mg base az 3 f fd ["text"] OX:=by
 refine F.ok xD (fun vs H Q E h=>?_) (fun aJ A outer s H vs Q E hr h=>?_)
 .obtain⟨t,rfl,Z⟩:=h;rfl
 .obtain⟨t,rfl,ha,hl,k⟩:=h;have bM:bb 1 _:=hr.mono (by decide);refine⟨_,aw (aZ (i:=1) xD.nd rfl (aF rfl) (uQ (pv 0) bH)) (aw (bx (bq cg (bZ fD (pv 1) bc (fun Z Z=>rfl)) bH (bp _)) (aw (aZ (i:=2) xD.nd rfl (aF rfl) (aU vk bM rfl aY (ai (pv 0) aj))) (aA (aZ (i:=3) xD.nd rfl (aF rfl) (pv 2)))) (aw (aZ (i:=2) xD.nd rfl (aF rfl) (aU xZ hr rfl aY (ai (bZ fD (pv 1) bc (fun Z Z=>rfl)) (ai bc aj)))) (aA (aZ (i:=3) xD.nd rfl (aF rfl) (aU xZ hr rfl aY (ai (bZ fD (pv 1) bc (fun Z Z=>rfl)) (ai (bP c1 rfl) aj))))))) (aw (bx (PW.pt (nZ (bq j4 (pv 2) cT (bp _)) (nZ (bq j4 (pv 3) cT (bp _)) (nZ (bq uO (pv 2) (pv 3) (bp _)) (sF (bq cg (pv 0) bH (bp _))))))) (aA (aI cT)) bA) (aA (aI (Aq (ai (pv 2) (ai (pv 3) aj))))))),?_⟩;refine⟨_,rfl,⟨_,rfl⟩,_,_,rfl,rfl,(by decide+kernel),big _ (by rw[bR];lia),fun p1 n1=>?_⟩;have fin:∀(a b:Option Nat)(H1:Hp),aq H H1->(rangeOf t=match a,b with|some x,some y=>if y<x\/t=t5 then none else some ⟨x,y⟩|_,_=>none)->b9 (cU (E6 (cb (bG (fun x y H Q=>y=V.aO/\Q (.bl (decide (x=.aO))) H) (aS 2) (tC .aO))) (E6 (cb (bG (fun x y H Q=>y=V.aO/\Q (.bl (decide (x=.aO))) H) (aS 3) (tC .aO))) (E6 (cb (bG (j7 fun i j=> .bl (decide (j<i))) (aS 2) (aS 3))) (cb (bG DY (aS 0) (tC (.str (bB "..")))))))) (b8 (tC .aO)) cP) (b8 (Yu (bQ (aS 2) (bQ (aS 3) dk)))) {nx:=fun Z H'=>Q .aO H',rt:=Q} [some (.str (S t)),some (.ref p1),some (Dz a),some (Dz b)] H1:=fun a b H1 s1 e=>by
   refine⟨_,rfl,rfl,_,rfl,?_⟩;cases a with
   |none=>exact k _ _ s1 (by rw[e];rfl)
   |some x=>
    refine⟨_,rfl,rfl,_,rfl,?_⟩;cases b with
    |none=>exact k _ _ s1 (by rw[e];rfl)
    |some y=>
     refine⟨_,rfl,_,rfl,_,_,rfl,rfl,_,rfl,bD (fun z=>?_) (fun z=>?_)⟩
     .exact k _ _ s1 (by rw[e];simp only;rw[if_pos (.inl (by lia))];rfl)
     .refine⟨_,rfl,rfl,_,rfl,bD (fun z2=>?_) (fun z2=>?_)⟩
      .have z2:t=t5:=iy (b:=[46,46]) (V.str.inj z2);exact k _ _ s1 (by rw[e];simp only;rw[if_pos (.inr z2)];rfl)
      .have z2:¬t=t5:=fun q=>z2 (by rw[q];rfl);refine⟨_,rfl,_,rfl,(by show 2<=sizeLine;decide),fun p2 n2=>k _ _ (bj s1 n2) ?_⟩;rw[e];simp only;rw[if_neg (fun h=>h.elim (fun q=>by lia) z2)];exact⟨p2,rfl,aD⟩
  have s1:=bj (o:=HO.tup [V.str (jM (S t) (bB "..")).1,V.str (jM (S t) (bB "..")).2.1,V.str (jM (S t) (bB "..")).2.2]) (aq.refl H) n1;cases hc:Vt.gQ t with
  |none=>
   rw[al8 hc]at s1 ⊢;refine⟨_,rfl,p1,_,1,_,rfl,rfl,cN.of aD,bY (j:=1) rfl,rfl,_,rfl,bD (fun Z=>?_) (fun z=>absurd rfl z)⟩;refine⟨_,rfl,t,rfl,ha,hl,_,rfl,fin (c7 t) (c7 t) _ s1 ?_⟩;rw[<-Vt.LH];unfold Vt.sr;rw[hc];cases e:c7 t with
   |none=>rfl
   |some n=>
    simp only[pJ];rw[if_neg];rintro(h|h)
    .lia
    .rw[h]at e;exact absurd e (by rw[show c7 t5=none by decide+kernel];simp)
  |some ab=>
   obtain⟨a,b⟩:=ab;have ht:=Vt.Cn hc;rw[al9 hc]at s1 ⊢;refine⟨_,rfl,p1,_,1,_,rfl,rfl,cN.of aD,bY (j:=1) rfl,rfl,_,rfl,bD (fun z=>absurd (show V.str (bB "..")=V.str (bB "")from z) (by decide+kernel)) (fun Z=>?_)⟩;have la:a.length<=t.length/\b.length<=t.length:=by rw[ht];simp;lia
   refine⟨_,rfl,p1,_,0,_,rfl,rfl,cN.of aD,bY (j:=0) rfl,a,0,rfl,iR (fun d hd=>by rw[ht];simp[hd]) ha,by lia,?_⟩;refine⟨_,rfl,p1,_,2,_,rfl,rfl,cN.of aD,bY (j:=2) rfl,b,999,rfl,iR (fun d hd=>by rw[ht];simp[hd]) ha,by lia,fin (jq 0 a) (jq 999 b) _ s1 ?_⟩;rw[<-Vt.LH];unfold Vt.sr;rw[hc];rfl
theorem o8(x y:ah):(x++y).length=x.length+y.length:=by rw[TL.mP,TL.xS,cY,<-TL.mP,<-TL.mP]
theorem len0:hG.length=0:=rfl
theorem kR(t:au)(h:t.length<=1000000):(S t).length<=sizeLine:=big _ (by rw[bR];lia)
theorem lt_int{a b:Nat}:(V.int (a:Nat)=V.int (b:Nat))↔a=b:=⟨fun h=>by have:=V.int.inj h;lia,fun h=>by rw[h]⟩
noncomputable abbrev NB:aW:=top 29
noncomputable def xJ:Sp:=fun vs H Q Z=>∃(b:aa)(r:eF),vs=[.ref b]/\H b=some (.tup [.int (r.low:Nat),.int (r.high:Nat)])/\mw r/\Q (.str (S (yV r))) H
theorem Ob:bE ["bounds","first","second"] ["bounds"] (aP NB):=bF
theorem ala{f:aa}{fd:bu}(F:bt K "range_text" "range_text" NB f fd)(B:Bt mg)(c1:bT mg "LARGEST_NUMBER" (.int 999)):bh P w K mg base az 1 f fd ["bounds"] xJ:=by
 refine F.ok Ob (fun vs H Q E h=>?_) (fun aJ A outer s H vs Q E hr h=>?_)
 .obtain⟨b,r,rfl,Z⟩:=h;rfl
 .obtain⟨b,r,rfl,hb,ok,k⟩:=h;refine⟨_,aw (aZ (i:=1) Ob.nd rfl (aF rfl) (bZ fD (pv 0) bc (fun Z Z=>rfl))) (aw (aZ (i:=2) Ob.nd rfl (aF rfl) (bZ fD (pv 0) bc (fun Z Z=>rfl))) (aw (bx (bq cg (pv 1) (pv 2) (bp _)) (aA (aI (DW ab8 (by rfl) B.str (by decide+kernel) (ai (pv 1) aj)))) bA) (aw (bx (PW.pt (nX (bq cg (pv 2) (bP c1 rfl) (bp _)) (nY (bq j5 (pv 1) bc (bp _))))) (aA (aI (qy (dW (iH (pv 1)) (dW bH qz))))) bA) (aw (bx (PW.pt (nX (bq cg (pv 1) bc (bp _)) (nY (bq j5 (pv 2) (bP c1 rfl) (bp _))))) (aA (aI (qy (dW bH (dW (iH (pv 2)) qz))))) bA) (aA (aI (qy (dW (iH (pv 1)) (dW bH (dW (iH (pv 2)) qz)))))))))),?_⟩;have h1:=ok.le;have h2:=ok.hi;have d1:=zc (n:=r.low) (by lia);have d2:=zc (n:=r.high) (by lia);have l1:=lN (n:=r.low) (by lia);have l2:=lN (n:=r.high) (by lia);have o1:=Ai (n:=r.low) (by lia);have o2:=Ai (n:=r.high) (by lia);have lD:(bB "..").length=2:=by decide+kernel
  have eD:bB ".."=S t5:=rfl;have kG:∀x:ah,x.length<=1000->x.length<=sizeLine:=fun x h=>big _ (by lia);refine⟨_,rfl,b,_,0,_,rfl,rfl,cN.of hb,bY (j:=0) rfl,?_⟩;refine⟨_,rfl,b,_,1,_,rfl,rfl,cN.of hb,bY (j:=1) rfl,?_⟩;refine⟨_,rfl,_,rfl,rfl,_,rfl,bD (fun z=>?_) (fun z=>?_)⟩
  .have z:=lt_int.mp z;unfold yV at k;rw[if_pos z]at k;refine⟨_,rfl,_,rfl,o1,?_⟩;show Q (.str (bB (toString ((r.low:Nat):Int)))) H;rw[d1];exact k
  have z:¬r.low=r.high:=fun q=>z (lt_int.mpr q);unfold yV at k;rw[if_neg z]at k;have g1:∀x:ah,x=S (iA r.low++t5)->Q (.str (S (iA r.low++t5))) H->Q (.str x) H:=fun x e q=>by rw[e];exact q
  have last:¬(r.low=0/\r.high≠rB)->¬(r.high=rB/\r.low≠0)->b8 (j2 (sT (aS 1)) (j2 (tC (.str (bB ".."))) (j2 (sT (aS 2)) zW)) hG) {nx:=fun Z H'=>Q .aO H',rt:=Q} [some (.ref b),some (.int (r.low:Nat)),some (.int (r.high:Nat))] H:=fun e1 e2=>by
   rw[if_neg e2,if_neg e1]at k;refine⟨_,rfl,o1,_,rfl,_,rfl,kG _ (by rw[d1];simp only[o8,len0,bR];lia),?_⟩;refine⟨_,rfl,kG _ (by rw[d1];simp only[o8,len0,bR,lD];lia),?_⟩;refine⟨_,rfl,o2,_,rfl,_,rfl,kG _ (by rw[d1,d2];simp only[o8,len0,bR,lD];lia),?_⟩;refine⟨kG _ (by rw[d1,d2];simp only[o8,len0,bR,lD];lia),?_⟩;rw[d1,d2,show hG=S []from rfl,eD];simp only[<-gN,ni,iL];exact k
  have mid:¬(r.high=rB/\r.low≠0)->b9 (cU (sS (cb (bG DY (aS 1) (tC (.int 0)))) (cb (bG sG (aS 2) (tC (.int 999))))) (b8 (j2 (tC (.str (bB ".."))) (j2 (sT (aS 2)) zW) hG)) cP) (b8 (j2 (sT (aS 1)) (j2 (tC (.str (bB ".."))) (j2 (sT (aS 2)) zW)) hG)) {nx:=fun Z H'=>Q .aO H',rt:=Q} [some (.ref b),some (.int (r.low:Nat)),some (.int (r.high:Nat))] H:=fun e2=>by
   refine⟨_,rfl,rfl,_,rfl,bD (fun y=>?_) (fun y=>?_)⟩
   .have y:r.low=0:=by have:=V.int.inj y;lia
    refine⟨_,rfl,rfl,_,rfl,eO (fun y2=>?_) (fun y2=>?_)⟩
    .have y2:r.high≠rB:=fun q=>y2 (by rw[q];rfl);rw[if_neg e2,if_pos ⟨y,y2⟩]at k;refine⟨_,rfl,kG _ (by simp only[o8,len0,lD];lia),?_⟩;refine⟨_,rfl,o2,_,rfl,_,rfl,kG _ (by rw[d2];simp only[o8,len0,bR,lD];lia),?_⟩;refine⟨kG _ (by rw[d2];simp only[o8,len0,bR,lD];lia),?_⟩;rw[d2,show hG=S []from rfl,eD];simp only[<-gN,ni];exact k
    .have y2:r.high=999:=by have:=V.int.inj y2;lia
     exact last (fun q=>q.2 y2) e2
   .have y:¬r.low=0:=fun q=>y (by rw[q];rfl);exact last (fun q=>y q.1) e2
  refine⟨_,rfl,rfl,_,rfl,bD (fun y=>?_) (fun y=>?_)⟩
  .have y:r.high=999:=by have:=V.int.inj y;lia
   refine⟨_,rfl,rfl,_,rfl,eO (fun y2=>?_) (fun y2=>?_)⟩
   .have y2:¬r.low=0:=fun q=>y2 (by rw[q];rfl);rw[if_pos ⟨y,y2⟩]at k;refine⟨_,rfl,o1,_,rfl,_,rfl,kG _ (by rw[d1];simp only[o8,len0,bR];lia),?_⟩;refine⟨_,rfl,kG _ (by rw[d1];simp only[o8,len0,bR,lD];lia),?_⟩;refine⟨kG _ (by rw[d1];simp only[o8,len0,bR,lD];lia),?_⟩;rw[d1,show hG=S []from rfl,eD];simp only[<-gN,ni];exact k
   .have y2:r.low=0:=by have:=V.int.inj y2;lia
    exact mid (fun q=>q.2 y2)
  .have y:¬r.high=999:=fun q=>y (by rw[q];rfl);exact mid (fun q=>y q.1)
noncomputable abbrev Ng:aW:=top 34
noncomputable def AL:Sp:=fun vs H Q Z=>∃(o:Option au)(x:au),vs=[.str (S (o.getD [])),.str (S x)]/\(∀y,o=some y->y≠[])/\Q (.bl (o.all fun k=>k==x)) H
theorem anI:bE ["asked","name"] ["asked","name"] (aP Ng):=bF
theorem akJ{f:aa}{fd:bu}(F:bt K "fits_name" "fits_name" Ng f fd):bh P w K mg base az 1 f fd ["asked","name"] AL:=by
 refine F.ok anI (fun vs H Q E h=>?_) (fun aJ A outer s H vs Q E hr h=>?_)
 .obtain⟨o,x,rfl,Z⟩:=h;rfl
 .obtain⟨o,x,rfl,ho,k⟩:=h;refine⟨_,aA (aI (Ap (pf cg (pv 0) bH (bp _)) (nV (pf cg (pv 0) (pv 1) (bp _))))),?_⟩;refine⟨_,rfl,rfl,_,rfl,bD (fun z=>?_) (fun z=>?_)⟩
  .have z:o.getD []=[]:=iy (V.str.inj z);cases o with
   |none=>exact k
   |some y=>exact absurd z (ho y rfl)
  .cases o with
   |none=>exact absurd rfl z
   |some y=>
    refine⟨_,rfl,_,rfl,rfl,?_⟩;have e:(decide (V.str (S y)=V.str (S x)))=(y==x):=by
     rw[gJ,decide_eq_true_eq,kl,beq_iff_eq]
    show Q (.bl (decide (V.str (S y)=V.str (S x)))) H;rw[e];exact k
noncomputable abbrev Nh:aW:=top 35
noncomputable def AM:Sp:=fun vs H Q Z=>∃(v:V)(o:Option eF)(n:Nat),vs=[v,.int (n:Nat)]/\Rg H v o/\Q (.bl (o.all fun r=>R8 r n)) H
theorem anJ:bE ["bounds","number"] ["bounds","number"] (aP Nh):=bF
theorem akK{f:aa}{fd:bu}(F:bt K "fits_range" "fits_range" Nh f fd):bh P w K mg base az 1 f fd ["bounds","number"] AM:=by
 refine F.ok anJ (fun vs H Q E h=>?_) (fun aJ A outer s H vs Q E hr h=>?_)
 .obtain⟨v,o,n,rfl,Z⟩:=h;rfl
 .obtain⟨v,o,n,rfl,ho,k⟩:=h;refine⟨_,aA (aI (Ap (pf j4 (pv 0) cT (bp _)) (nV (Mr sD sD (bZ fD (pv 0) bc (fun Z Z=>rfl)) (pv 1) (bZ fD (pv 0) bc (fun Z Z=>rfl)))))),?_⟩;refine⟨_,rfl,rfl,_,rfl,bD (fun z=>?_) (fun z=>?_)⟩
  .cases o with
   |none=>exact k
   |some r=>obtain⟨b,e,Z⟩:=ho;rw[e]at z;cases z
  .cases o with
   |none=>exact absurd ho z
   |some r=>
    obtain⟨b,rfl,hb⟩:=ho;have e:(Option.some r).all (fun r=>R8 r n)=(decide (r.low<=n)&&decide (n<=r.high)):=rfl;rw[e]at k;refine⟨_,rfl,b,_,0,_,rfl,rfl,cN.of hb,bY (j:=0) rfl,_,rfl,_,_,rfl,rfl,_,rfl,bD (fun y=>?_) (fun y=>?_)⟩
    .refine⟨_,rfl,b,_,1,_,rfl,rfl,cN.of hb,bY (j:=1) rfl,_,_,rfl,rfl,?_⟩;rw[decide_eq_true (by lia:r.low<=n),tm]at k;have e2:decide (((n:Nat):Int)<=((r.high:Nat):Int))=decide (n<=r.high):=by rw[gJ,decide_eq_true_eq,decide_eq_true_eq];lia
     show Q (.bl (decide (((n:Nat):Int)<=((r.high:Nat):Int)))) H;rw[e2];exact k
    .rw[decide_eq_false (by lia:¬r.low<=n),pF]at k;exact k
noncomputable abbrev Nd:aW:=top 33
noncomputable def va(CP CE:aa):Sp:=fun vs H Q Z=>∃(a b:aa)(p:cM)(e:bg),vs=[.ref a,.ref b]/\Pt CP H a p/\Ev CE H b e/\fO p/\Q (.bl (pT p e)) H
theorem anH:bE ["pattern","event"] ["pattern","event"] (aP Nd):=bF
theorem akI{f CP CE:aa}{fd:bu}(F:bt K "fits_event" "fits_event" Nd f fd)(TP:Ty K CP ["kind","subject","numbers","gaps"])(TE:Ty K CE ["kind","subject","number","gap"])(F1:Fn P w K mg base az 1 "fits_name" ["asked","name"] AL)(F2:Fn P w K mg base az 1 "fits_range" ["bounds","number"] AM):bh P w K mg base az 2 f fd ["pattern","event"] (va CP CE):=by
 refine F.ok anH (fun vs H Q E h=>?_) (fun aJ A outer s H vs Q E hr h=>?_)
 .obtain⟨a,b,p,e,rfl,Z⟩:=h;rfl
 .obtain⟨a,b,p,e,rfl,⟨dx,nv,gv,ha,r1,r2⟩,⟨dy,hb⟩,ok,k⟩:=h;refine⟨_,aw (bx (PW.pt (nZ (jD (f6 (aU F1 hr rfl aY (ai (aN (pv 0) rfl) (ai (aN (pv 1) rfl) aj))))) (sF (jD (f6 (aU F1 hr rfl aY (ai (aN (pv 0) rfl) (ai (aN (pv 1) rfl) aj)))))))) (aA (aI Ao)) bA) (aA (aI (xr (aU F2 hr rfl aY (ai (aN (pv 0) rfl) (ai (aN (pv 1) rfl) aj))) (nV (aU F2 hr rfl aY (ai (aN (pv 0) rfl) (ai (aN (pv 1) rfl) aj))))))),?_⟩;unfold pT at k;refine⟨_,rfl,a,CP,dx,_,_,rfl,ha,TP.cls,TP.nf _ (by simp),rfl,_,rfl,b,CE,dy,_,_,rfl,hb,TE.cls,TE.nf _ (by simp),rfl,p.kind,e.kind,rfl,(fun y hy=>(j3 (ok.k y hy)).2),_,rfl,mO (fun z=>?_) (fun z=>?_)⟩
  .rw[z,pF,pF,pF]at k;exact k
  rw[z,tm]at k;refine⟨_,rfl,a,CP,dx,_,_,rfl,ha,TP.cls,TP.nf _ (by simp),rfl,_,rfl,b,CE,dy,_,_,rfl,hb,TE.cls,TE.nf _ (by simp),rfl,p.subject,e.subject,rfl,(fun y hy=>(j3 (ok.s y hy)).2),_,rfl,mO (fun z=>?_) (fun z=>?_)⟩
  .rw[z,pF,pF]at k;exact k
  rw[z,tm]at k;refine⟨_,rfl,a,CP,dx,_,_,rfl,ha,TP.cls,TP.nf _ (by simp),rfl,_,rfl,b,CE,dy,_,_,rfl,hb,TE.cls,TE.nf _ (by simp),rfl,nv,p.number,e.number,rfl,r1,_,rfl,jA (fun z=>?_) (fun z=>?_)⟩
  .rw[z,tm]at k;exact⟨_,rfl,a,CP,dx,_,_,rfl,ha,TP.cls,TP.nf _ (by simp),rfl,_,rfl,b,CE,dy,_,_,rfl,hb,TE.cls,TE.nf _ (by simp),rfl,gv,p.gap,e.gap,rfl,r2,k⟩
  .rw[z,pF]at k;exact k
theorem Lo{X:Cx}:Bo X .Add (fun x y H Q=>∃i j,x=.str i/\y=.str j/\i.length+j.length<=sizeLine/\Q (.str (i++j)) H):=by
 intro pins s σ H x y v u Q I r1 r2 h;obtain⟨i,j,rfl,rfl,hz,q⟩:=h;obtain⟨t,rfl⟩:=r1;obtain⟨t',rfl⟩:=r2;exact PySem.SB.iadd (fun Pw k=>⟨.str _,H,I.tok k,⟨Pw,rfl⟩,q⟩) hz
theorem Ub{a b:Option au}(ha:∀y,a=some y->y≠[])(hb:∀y,b=some y->y≠[]):(a.getD []=b.getD [])↔a=b:=by
 cases a with
 |none=>
  cases b with
  |none=>simp
  |some y=>simp[Ne.symm (hb y rfl)]
 |some x=>
  cases b with
  |none=>simp[ha x rfl]
  |some y=>simp
noncomputable def uU:Option eF->qV
 |none=> .none
 |some r=> .tuple [.int (r.low:Nat),.int (r.high:Nat)]
theorem D0{K:aK}{H:Hp}{v:V}{o:Option eF}(h:Rg H v o):Dp K H v (uU o):=by
 cases o with
 |none=>cases h;exact .aO
 |some r=>obtain⟨b,rfl,hb⟩:=h;exact .tup (cN.of hb) (.cons (.int _) (.cons (.int _) .nil))
theorem D4(o:Option eF):Ri (uU o)=true:=by
 cases o with
 |none=>decide+kernel
 |some r=>rfl
theorem Xk(a b:Option eF):Bx (uU a) (uU b)=decide (a=b):=by
 cases a with
 |none=>cases b<;>simp[uU,Bx]
 |some r=>
  cases b with
  |none=>simp[uU,Bx]
  |some q=>
   obtain⟨l,h⟩:=r;obtain⟨l',h'⟩:=q;simp only[uU,Bx,PyData.eqvAll,A2];rw[gJ];simp only[cH,beq_iff_eq,decide_eq_true_eq,ym,apT];lia
noncomputable abbrev NK:aW:=top 32
noncomputable def O1(C:aa):Sp:=fun vs H Q Z=>∃(a b:aa)(p q:cM),vs=[.ref a,.ref b]/\Pt C H a p/\Pt C H b q/\fO p/\fO q/\Q (.bl (decide (p=q))) H
theorem anW:bE ["one","other"] ["one","other"] (aP NK):=bF
theorem alk{f C:aa}{fd:bu}(F:bt K "same_pattern" "same_pattern" NK f fd)(T:Ty K C ["kind","subject","numbers","gaps"]):bh P w K mg base az 1 f fd ["one","other"] (O1 C):=by
 refine F.ok anW (fun vs H Q E h=>?_) (fun aJ A outer s H vs Q E hr h=>?_)
 .obtain⟨a,b,p,q,rfl,Z⟩:=h;rfl
 .obtain⟨a,b,p,q,rfl,⟨dx,nv,gv,ha,r1,r2⟩,⟨dy,mv,hv,hb,r3,r4⟩,dG,DJ,k⟩:=h;refine⟨_,aw (bx (PW.pt (nZ (bq j5 (aN (pv 0) rfl) (aN (pv 1) rfl) (bp _)) (sF (bq j5 (aN (pv 0) rfl) (aN (pv 1) rfl) (bp _))))) (aA (aI Ao)) bA) (aA (aI (xr (pf (Wo hr.units) (aN (pv 0) rfl) (aN (pv 1) rfl) (bp _)) (nV (pf (Wo hr.units) (aN (pv 0) rfl) (aN (pv 1) rfl) (bp _)))))),?_⟩;refine⟨_,rfl,a,C,dx,_,_,rfl,ha,T.cls,T.nf _ (by simp),rfl,_,rfl,b,C,dy,_,_,rfl,hb,T.cls,T.nf _ (by simp),rfl,rfl,_,rfl,eO (fun z=>?_) (fun z=>?_)⟩
  .rw[decide_eq_false (fun e=>z (by rw[e]))]at k;exact k
  have z1:p.kind=q.kind:=(Ub (fun y hy=>(j3 (dG.k y hy)).2) (fun y hy=>(j3 (DJ.k y hy)).2)).mp (iy (V.str.inj z));refine⟨_,rfl,a,C,dx,_,_,rfl,ha,T.cls,T.nf _ (by simp),rfl,_,rfl,b,C,dy,_,_,rfl,hb,T.cls,T.nf _ (by simp),rfl,rfl,_,rfl,eO (fun z=>?_) (fun z=>?_)⟩
  .rw[decide_eq_false (fun e=>z (by rw[e]))]at k;exact k
  have z2:p.subject=q.subject:=(Ub (fun y hy=>(j3 (dG.s y hy)).2) (fun y hy=>(j3 (DJ.s y hy)).2)).mp (iy (V.str.inj z));refine⟨_,rfl,a,C,dx,_,_,rfl,ha,T.cls,T.nf _ (by simp),rfl,_,rfl,b,C,dy,_,_,rfl,hb,T.cls,T.nf _ (by simp),rfl,_,_,D0 r1,D0 r3,D4 _,D4 _,_,rfl,?_⟩;rw[Xk];obtain⟨pk,ps,pn,pg⟩:=p;obtain⟨qk,qs,qn,qg⟩:=q;dsimp only at z1 z2 r1 r2 r3 r4 ⊢;subst z1 z2;refine bD (fun z=>?_) (fun z=>?_)
  .refine⟨_,rfl,a,C,dx,_,_,rfl,ha,T.cls,T.nf _ (by simp),rfl,_,rfl,b,C,dy,_,_,rfl,hb,T.cls,T.nf _ (by simp),rfl,_,_,D0 r2,D0 r4,D4 _,D4 _,?_⟩;rw[Xk];subst z;have e:decide (pg=qg)=decide (aba pk ps pn pg=aba pk ps pn qg):=by
    rw[gJ];simp
   rw[e];exact k
  .rw[decide_eq_false (fun e=>z (by injection e))]at k;exact k
noncomputable abbrev Nv:aW:=top 31
noncomputable def xI(C:aa):Sp:=fun vs H Q Z=>∃(a:aa)(p:cM),vs=[.ref a]/\Pt C H a p/\fO p/\Q (.str (S (gf p))) H
theorem AF:bE ["pattern","text"] ["pattern"] (aP Nv):=bF
theorem MJ{r:eF}(h:mw r):(yV r).length<=20:=by
 have h1:=h.le;have h2:=h.hi;have l1:=lN (n:=r.low) (by lia);have l2:=lN (n:=r.high) (by lia);unfold yV t5;split
 .lia
 .split
  .simp;lia
  .split
   .simp;lia
   .simp;lia
noncomputable def kK(c:UInt8):Option eF->au:=fun o=>jr c (o.map yV)
theorem Dt{c:UInt8}{o:Option eF}(h:∀r,o=some r->mw r):(kK c o).length<=21:=by
 cases o with
 |none=>simp[kK,jr]
 |some r=>have:=MJ (h r rfl);simp[kK,jr];lia
theorem Kd{o:Option au}(h:∀y,o=some y->cz y=true):(o.getD []).length<=8:=by
 cases o with
 |none=>simp
 |some y=>exact(j3 (h y rfl)).1
theorem ak1{f C:aa}{fd:bu}(F:bt K "pattern_text" "pattern_text" Nv f fd)(T:Ty K C ["kind","subject","numbers","gaps"])(F1:Fn P w K mg base az 1 "range_text" ["bounds"] xJ):bh P w K mg base az 2 f fd ["pattern"] (xI C):=by
 refine F.ok AF (fun vs H Q E h=>?_) (fun aJ A outer s H vs Q E hr h=>?_)
 .obtain⟨a,p,rfl,Z⟩:=h;rfl
 .obtain⟨a,p,rfl,⟨dx,nv,gv,ha,r1,r2⟩,ok,k⟩:=h;refine⟨_,aw (aZ (i:=1) AF.nd rfl (aF rfl) (dH xl bH (aN (pv 0) rfl))) (aw (bx (bq j5 (aN (pv 0) rfl) bH (bp _)) (aA (pj (i:=1) AF.nd rfl (aF rfl) (dH xl bH (aN (pv 0) rfl)) Lo)) bA) (aw (bx (bq DN (aN (pv 0) rfl) cT (bp _)) (aA (pj (i:=1) AF.nd rfl (aF rfl) (dH xl bH (aU F1 hr rfl aY (ai (aN (pv 0) rfl) aj))) Lo)) bA) (aw (bx (bq DN (aN (pv 0) rfl) cT (bp _)) (aA (pj (i:=1) AF.nd rfl (aF rfl) (dH xl bH (aU F1 hr rfl aY (ai (aN (pv 0) rfl) aj))) Lo)) bA) (aA (aI (dH xl (pv 1) bH)))))),?_⟩;have lk:=Kd ok.k;have ls:=Kd ok.s;have ln:=Dt (c:=35) ok.n;have lg:=Dt (c:=43) ok.g;have bs:∀n:Nat,n<=1000->n<=sizeLine:=fun n h=>big n (by lia);have sk:∀n:Nat,n<=1000->n<=16777216:=fun n h=>by lia
  have c1:(bB "[")=S [91]:=rfl;have c2:(bB "@")=S [64]:=rfl;have c3:(bB "#")=S [35]:=rfl;have c4:(bB "+")=S [43]:=rfl;have c5:(bB "]")=S [93]:=rfl;refine⟨_,rfl,a,C,dx,_,_,rfl,ha,T.cls,T.nf _ (by simp),rfl,_,_,rfl,rfl,bs _ (by rw[c1,bR,bR];simp;lia),?_⟩;rw[c1,<-gN];have aow:∀(u:au),u.length<=20->u++(jr mz p.subject++(kK 35 p.number++(kK 43 p.gap++[93])))=gf p->b9 (cU (cb (bG (fun x y H Q=>y=V.aO/\Q (.bl (!decide (x=.aO))) H) (iK K (aS 0) "numbers") (tC .aO))) (E4 1 (bG (fun x y H Q=>∃i j,x=.str i/\y=.str j/\i.length+j.length<=sizeLine/\Q (.str (i++j)) H) (tC (.str (bB "#"))) (g0 xJ E0 (bQ (iK K (aS 0) "numbers") dk))) (fun x y H Q=>∃i j,x=.str i/\y=.str j/\i.length+j.length<=sizeLine/\Q (.str (i++j)) H)) cP) (b9 (cU (cb (bG (fun x y H Q=>y=V.aO/\Q (.bl (!decide (x=.aO))) H) (iK K (aS 0) "gaps") (tC .aO))) (E4 1 (bG (fun x y H Q=>∃i j,x=.str i/\y=.str j/\i.length+j.length<=sizeLine/\Q (.str (i++j)) H) (tC (.str (bB "+"))) (g0 xJ E0 (bQ (iK K (aS 0) "gaps") dk))) (fun x y H Q=>∃i j,x=.str i/\y=.str j/\i.length+j.length<=sizeLine/\Q (.str (i++j)) H)) cP) (b8 (bG (fun x y H Q=>∃i j,x=.str i/\y=.str j/\i.length+j.length<=sizeLine/\Q (.str (i++j)) H) (aS 1) (tC (.str (bB "]")))))) {nx:=fun Z H'=>Q .aO H',rt:=Q} [some (.ref a),some (.str (S (u++jr mz p.subject)))] H:=fun u lu eu=>by
   have aqA:(jr mz p.subject).length<=9:=by
    cases e:p.subject with
    |none=>simp[jr]
    |some y=>rw[e]at ls;simp[jr]at ls ⊢;lia
   have last:∀v:au,v.length<=100->v++[93]=gf p->b8 (bG (fun x y H Q=>∃i j,x=.str i/\y=.str j/\i.length+j.length<=sizeLine/\Q (.str (i++j)) H) (aS 1) (tC (.str (bB "]")))) {nx:=fun Z H'=>Q .aO H',rt:=Q} [some (.ref a),some (.str (S v))] H:=fun v lv ev=>by
    refine⟨_,rfl,_,_,rfl,rfl,bs _ (by rw[c5,bR,bR];simp;lia),?_⟩;rw[c5,<-gN,ev];exact k
   have T9:∀v:au,v.length<=60->v++(kK 43 p.gap++[93])=gf p->b9 (cU (cb (bG (fun x y H Q=>y=V.aO/\Q (.bl (!decide (x=.aO))) H) (iK K (aS 0) "gaps") (tC .aO))) (E4 1 (bG (fun x y H Q=>∃i j,x=.str i/\y=.str j/\i.length+j.length<=sizeLine/\Q (.str (i++j)) H) (tC (.str (bB "+"))) (g0 xJ E0 (bQ (iK K (aS 0) "gaps") dk))) (fun x y H Q=>∃i j,x=.str i/\y=.str j/\i.length+j.length<=sizeLine/\Q (.str (i++j)) H)) cP) (b8 (bG (fun x y H Q=>∃i j,x=.str i/\y=.str j/\i.length+j.length<=sizeLine/\Q (.str (i++j)) H) (aS 1) (tC (.str (bB "]"))))) {nx:=fun Z H'=>Q .aO H',rt:=Q} [some (.ref a),some (.str (S v))] H:=fun v lv ev=>by
    refine⟨_,rfl,a,C,dx,_,_,rfl,ha,T.cls,T.nf _ (by simp),rfl,rfl,_,rfl,eO (fun z=>?_) (fun z=>?_)⟩
    .cases e:p.gap with
     |none=>rw[e]at r2;exact absurd r2 z
     |some r=>
      rw[e]at r2;obtain⟨b,rfl,hb⟩:=r2;have Aj:=ok.g r e;have lr:=MJ Aj;refine⟨_,rfl,_,rfl,a,C,dx,_,_,rfl,ha,T.cls,T.nf _ (by simp),rfl,b,r,rfl,hb,Aj,_,_,rfl,rfl,bs _ (by rw[c4,bR,bR];simp;lia),_,_,rfl,rfl,bs _ (by rw[c4,<-gN,bR,bR];simp;lia),?_⟩;rw[c4,<-gN,<-gN];exact last _ (by simp;lia) (by rw[<-ev,e];simp[kK,jr])
    .cases e:p.gap with
     |none=>exact last v (by lia) (by rw[<-ev,e];simp[kK,jr])
     |some r=>rw[e]at r2;obtain⟨b,rfl,hb⟩:=r2;cases z
   refine⟨_,rfl,a,C,dx,_,_,rfl,ha,T.cls,T.nf _ (by simp),rfl,rfl,_,rfl,eO (fun z=>?_) (fun z=>?_)⟩
   .cases e:p.number with
    |none=>rw[e]at r1;exact absurd r1 z
    |some r=>
     rw[e]at r1;obtain⟨b,rfl,hb⟩:=r1;have Aj:=ok.n r e;have lr:=MJ Aj;refine⟨_,rfl,_,rfl,a,C,dx,_,_,rfl,ha,T.cls,T.nf _ (by simp),rfl,b,r,rfl,hb,Aj,_,_,rfl,rfl,bs _ (by rw[c3,bR,bR];simp;lia),_,_,rfl,rfl,bs _ (by rw[c3,<-gN,bR,bR];simp;lia),?_⟩;rw[c3,<-gN,<-gN];exact T9 _ (by simp;lia) (by rw[<-eu,e];simp[kK,jr])
   .cases e:p.number with
    |none=>exact T9 _ (by simp;lia) (by rw[<-eu,e];simp[kK,jr])
    |some r=>rw[e]at r1;obtain⟨b,rfl,hb⟩:=r1;cases z
  have eq0:([91]++p.kind.getD [])++(jr mz p.subject++(kK 35 p.number++(kK 43 p.gap++[93])))=gf p:=by
   unfold gf kK;simp[aa9,fj,dA,dB]
  have st:=aow ([91]++p.kind.getD []) (by simp;lia) eq0;refine⟨_,rfl,a,C,dx,_,_,rfl,ha,T.cls,T.nf _ (by simp),rfl,rfl,_,rfl,eO (fun z=>?_) (fun z=>?_)⟩
  .cases e:p.subject with
   |none=>rw[e]at z;exact absurd rfl z
   |some y=>
    rw[e]at st ls;simp only[Option.getD_some]at ls;refine⟨_,rfl,_,rfl,a,C,dx,_,_,rfl,ha,T.cls,T.nf _ (by simp),rfl,_,_,rfl,rfl,bs _ (by rw[e,c2,bR,bR];simp;lia),_,_,rfl,rfl,bs _ (by rw[e,c2,<-gN,bR,bR];simp;lia),?_⟩;rw[e,c2,<-gN,<-gN];exact st
  .have z:p.subject.getD []=[]:=iy (V.str.inj z);cases e:p.subject with
   |none=>
    rw[e,show jr mz none=[]from rfl,jI]at st;exact st
   |some y=>rw[e]at z;exact absurd z (j3 (ok.s y e)).2
theorem G4{α:Type}{xs:List α}{v:α}(h:xs.getLast?=some v):kr xs (-1)=some v:=by
 have bL:xs≠[]:=fun z=>by rw[z]at h;cases h
 have hp:=ka.mpr bL;unfold kr lY;rw[if_neg (by lia),if_pos (by lia)];show xs[((-1:Int)+(xs.length:Nat)).toNat]? =some v;rw[show((-1:Int)+(xs.length:Nat)).toNat=xs.length-1 by lia,<-QD];exact h
theorem SY(c:UInt8)(r:au)(h:r≠[]):lM (S (c::r)) (some 1) (some (-1))=S r.dropLast:=by
 have hp:=ka.mpr h;unfold lM;rw[bR];have e1:HT.cq (c::r).length 0 (some 1)=1:=by
  have:=HT.oh (c::r).length 0 1;rw[show((1:Nat):Int)=1 from rfl]at this;rw[this];simp
 have e2:HT.cq (c::r).length (c::r).length (some (-1))=r.length:=by
  unfold HT.cq;dsimp only;rw[if_pos (by decide)];simp only[cy];lia
 rw[e1,e2,eS];refine TL.oN ?_;show(((c::r).map fQ).drop 1).take (r.length-1)=(S r.dropLast).cps.toList;rw[eS,Qu,tF];rfl
theorem DV{t:au}{p:cM}(h:Vt.nQ t=some p):fO p:=by
 unfold Vt.nQ at h;dsimp only at h;split at h
 .cases h
 split at h
 .cases h
 split at h
 .cases h
 split at h
 .cases h
 rename_i h1 h2 h3 h4;cases h;refine⟨fun x hx=>?_,fun x hx=>?_,fun r hr=>W7 hr,fun r hr=>W7 hr⟩
 .dsimp only at hx;split at hx
  .cases hx
  .rename_i q;cases hx;cases e:cz (Vt.part mz (Vt.part dA (Vt.part dB t).1).1).1 with
   |true=>rfl
   |false=>exact absurd ⟨q,e⟩ h1
 .dsimp only at hx;split at hx
  .cases hx
  .rename_i q;cases hx;cases e:cz (Vt.part mz (Vt.part dA (Vt.part dB t).1).1).2.2 with
   |true=>rfl
   |false=>
    refine absurd ⟨fun z=>q ?_,e⟩ h2;rcases Vt.DQ mz (Vt.part dA (Vt.part dB t).1).1 with⟨_,e2⟩|⟨a,b,_,_,e2⟩
    .rw[e2]
    .rw[e2]at z;cases z
theorem Wx{t:au}{p:cM}(h:gb t=some p):fO p:=by
 unfold gb at h;split at h
 .cases h
 .split at h
  .rw[<-Vt.VH]at h;exact DV h
  .cases h
noncomputable abbrev NF:aW:=top 30
noncomputable def EX(C:aa):Sp:=fun vs H Q Z=>∃t:au,vs=[.str (S t)]/\ek t/\t.length<=100000/\(gb t=none->∀H',aq H H'->Q .aO H')/\∀p,gb t=some p->∀a H',H a=none->aq H H'->Pt C H' a p->Q (.ref a) H'
noncomputable abbrev ajC:List ah:=["text","by_gaps","by_numbers","by_subject","kind","subject","numbers","gaps"]
theorem sL:bE ajC ["text"] (aP NF):=bF
theorem ale{f C:aa}{fd:bu}(F:bt K "read_pattern" "read_pattern" NF f fd)(B:Bt mg)(F1:Fn P w K mg base az 3 "read_range" ["text"] OX)(F2:Fn P w K mg base az 2 "is_name" ["text"] AO)(M:Cl P w K mg base 1 "Pattern" C ["self","kind","subject","numbers","gaps"] (eP C ["kind","subject","numbers","gaps"])):bh P w K mg base az 4 f fd ["text"] (EX C):=by
 refine F.ok sL (fun vs H Q E h=>?_) (fun aJ A outer s H vs Q E hr h=>?_)
 .obtain⟨t,rfl,Z⟩:=h;rfl
 .obtain⟨t,rfl,ha,hl,kN,kS⟩:=h;have ck:bb 2 _:=hr.mono (by decide);refine⟨_,aw (bx (PW.pt (nZ (bq nU (cK lK (by rfl) B.len dv (ai (pv 0) aj)) bc (bp _)) (nZ (bq j5 (bZ sf (pv 0) bc (fun Z Z=>rfl)) bH (bp _)) (sF (bq j5 (bZ sf (pv 0) (Ar AY bc) (fun Z Z=>rfl)) bH (bp _)))))) (aA (aI cT)) bA) (aw (aZ (i:=1) sL.nd rfl (aF rfl) (uQ (mR AI (pv 0) (gE bc) (gE (Ar AY bc))) bH)) (aw (aZ (i:=2) sL.nd rfl (aF rfl) (uQ (bZ fD (pv 1) bc (fun Z Z=>rfl)) bH)) (aw (aZ (i:=3) sL.nd rfl (aF rfl) (uQ (bZ fD (pv 2) bc (fun Z Z=>rfl)) bH)) (aw (aZ (i:=4) sL.nd rfl (aF rfl) (bZ fD (pv 3) bc (fun Z Z=>rfl))) (aw (aZ (i:=5) sL.nd rfl (aF rfl) (bZ fD (pv 3) bc (fun Z Z=>rfl))) (aw (aZ (i:=6) sL.nd rfl (aF rfl) (aU F1 hr rfl aY (ai (bZ fD (pv 2) bc (fun Z Z=>rfl)) aj))) (aw (aZ (i:=7) sL.nd rfl (aF rfl) (aU F1 hr rfl aY (ai (bZ fD (pv 1) bc (fun Z Z=>rfl)) aj))) (aw (bx (PW.pt (nX (bq j5 (pv 4) bH (bp _)) (nY (jD (f6 (aU F2 ck rfl aY (ai (pv 4) aj))))))) (aA (aI cT)) bA) (aw (bx (PW.pt (nX (bq j5 (bZ fD (pv 3) bc (fun Z Z=>rfl)) bH (bp _)) (nY (jD (f6 (aU F2 ck rfl aY (ai (pv 5) aj))))))) (aA (aI cT)) bA) (aw (bx (PW.pt (nX (bq j5 (bZ fD (pv 2) bc (fun Z Z=>rfl)) bH (bp _)) (nY (bq j4 (pv 6) cT (bp _))))) (aA (aI cT)) bA) (aw (bx (PW.pt (nX (bq j5 (bZ fD (pv 1) bc (fun Z Z=>rfl)) bH (bp _)) (nY (bq j4 (pv 7) cT (bp _))))) (aA (aI cT)) bA) (aA (aI (gC M ck rfl (ai (pv 4) (ai (pv 5) (ai (pv 6) (ai (pv 7) aj)))))))))))))))))),?_⟩;have zt:=kR t (by lia);refine⟨_,rfl,_,rfl,zt,_,_,rfl,rfl,_,rfl,?_⟩;rw[bR];refine bD (fun z=>?_) (fun z=>?_)
  .refine kN ?_ _ (aq.refl _);match t,z with
   |[],_=>rfl
   |[c],_=>exact if_neg (by simp)
   |_::_::_,z=>simp at z;lia
  obtain⟨c,r,rfl⟩:∃c r,t=c::r:=Zl (fun q=>by rw[q]at z;simp at z);have K5:r≠[]:=fun q=>by rw[q]at z;simp at z
  obtain⟨d,hd⟩:∃d,r.getLast?=some d:=⟨_,QE K5⟩;refine⟨_,rfl,_,0,c.toNat,rfl,rfl,zt,bY (j:=0) (by rw[rq];rfl),rfl,_,rfl,eO (fun z1=>?_) (fun z1=>?_)⟩
  .refine kN ?_ _ (aq.refl _);unfold gb;exact if_neg fun q=>z1 (by rw[q.1];rfl)
  have z1:c=aa9:=by
   have:=iy (a:=[c]) (b:=[91]) (V.str.inj z1);exact(A9 this).1
  have agz:(S (c::r)).cps.toList.getLast?=some d.toNat:=by
   rw[eS,QF,List.getLast?_cons,hd];rfl
  refine⟨_,rfl,_,rfl,_,-1,d.toNat,rfl,rfl,zt,G4 agz,rfl,_,rfl,eO (fun z2=>?_) (fun z2=>?_)⟩
  .refine kN ?_ _ (aq.refl _);unfold gb;refine if_neg fun q=>z2 ?_;rw[hd]at q;have:=g8 q.2;rw[this];rfl
  have z2:d=fj:=by
   have:=iy (a:=[d]) (b:=[93]) (V.str.inj z2);exact(A9 this).1
  have JR:gb (c::r)=Vt.nQ r.dropLast:=by
   unfold gb;rw[Vt.VH];exact if_pos ⟨z1,by rw[hd,z2]⟩
  rw[JR]at kN kS;have lin:r.dropLast.length<=100000:=by rw[oy];simp at hl;lia
  have uw:ek r.dropLast:=iR (fun x hx=>el _ (List.dropLast_subset _ hx)) ha;generalize hu:r.dropLast=u at kN kS lin uw;obtain⟨s1,s2,s3,s4⟩:=xn 43 u;have P1:=xm (c:=43) (y:="+") rfl u;rcases mK:Vt.part 43 u with⟨a1,b1,r1⟩;rw[mK]at s1 s2 s3 s4 P1;dsimp only at s1 s2 s3 s4 P1;obtain⟨s5,s6,s7,s8⟩:=xn 35 a1;have P2:=xm (c:=35) (y:="#") rfl a1;rcases fX:Vt.part 35 a1 with⟨a2,b2,r2⟩;rw[fX]at s5 s6 s7 s8 P2;dsimp only at s5 s6 s7 s8 P2;obtain⟨s9,sI,xy,bJ⟩:=xn 64 a2;have P3:=xm (c:=64) (y:="@") rfl a2;rcases zI:Vt.part 64 a2 with⟨a3,b3,r3⟩;rw[zI]at s9 sI xy bJ P3;dsimp only at s9 sI xy bJ P3;have em:Vt.nQ u=if a3≠[]/\cz a3=false then none else if b3≠[]/\cz r3=false then none else if b2≠[]/\rangeOf r2=none then none else if b1≠[]/\rangeOf r1=none then none else some ⟨if a3=[]then none else some a3,if r3=[]then none else some r3,rangeOf r2,rangeOf r1⟩:=by
   unfold Vt.nQ;dsimp only;rw[show dB=43 from rfl,mK];dsimp only;rw[show dA=35 from rfl,fX];dsimp only;rw[show mz=64 from rfl,zI]
  rw[em]at kN;simp only[em]at kS;refine⟨_,rfl,_,rfl,_,rfl,_,rfl,_,rfl,zt,⟨_,rfl⟩,_,_,rfl,rfl,rfl,by rw[SY c r K5,hu];exact kR u (by lia),fun p1 n1=>?_⟩;rw[SY c r K5,hu,P1];refine⟨_,rfl,p1,_,0,_,rfl,rfl,cN.of aD,bY (j:=0) rfl,⟨_,rfl⟩,_,_,rfl,rfl,rfl,kR a1 (by lia),fun p2 n2=>?_⟩;rw[P2];refine⟨_,rfl,p2,_,0,_,rfl,rfl,cN.of aD,bY (j:=0) rfl,⟨_,rfl⟩,_,_,rfl,rfl,rfl,kR a2 (by lia),fun p3 n3=>?_⟩;rw[P3];have Av:p1≠p2:=cC aD n2;have MG:p1≠p3:=cC (by rw[ba Av];exact aD) n3;have n8:p2≠p3:=cC aD n3;have sm:=bj (o:=HO.tup [V.str (S a3),V.str (S b3),V.str (S r3)]) (bj (o:=HO.tup [V.str (S a2),V.str (S b2),V.str (S r2)]) (bj (o:=HO.tup [V.str (S a1),V.str (S b1),V.str (S r1)]) (aq.refl H) n1) n2) n3;have t1:(upd (upd (upd H p1 (HO.tup [V.str (S a1),V.str (S b1),V.str (S r1)])) p2 (HO.tup [V.str (S a2),V.str (S b2),V.str (S r2)])) p3 (HO.tup [V.str (S a3),V.str (S b3),V.str (S r3)])) p1=some (HO.tup [V.str (S a1),V.str (S b1),V.str (S r1)]):=by rw[ba MG,ba Av];exact aD
  have t2:(upd (upd (upd H p1 (HO.tup [V.str (S a1),V.str (S b1),V.str (S r1)])) p2 (HO.tup [V.str (S a2),V.str (S b2),V.str (S r2)])) p3 (HO.tup [V.str (S a3),V.str (S b3),V.str (S r3)])) p2=some (HO.tup [V.str (S a2),V.str (S b2),V.str (S r2)]):=by rw[ba n8];exact aD
  have t3:(upd (upd (upd H p1 (HO.tup [V.str (S a1),V.str (S b1),V.str (S r1)])) p2 (HO.tup [V.str (S a2),V.str (S b2),V.str (S r2)])) p3 (HO.tup [V.str (S a3),V.str (S b3),V.str (S r3)])) p3=some (HO.tup [V.str (S a3),V.str (S b3),V.str (S r3)]):=aD;refine⟨_,rfl,p3,_,0,_,rfl,rfl,cN.of t3,bY (j:=0) rfl,?_⟩;refine⟨_,rfl,p3,_,2,_,rfl,rfl,cN.of t3,bY (j:=2) rfl,?_⟩;refine⟨_,rfl,p2,_,2,_,rfl,rfl,cN.of t2,bY (j:=2) rfl,r2,rfl,iR (fun x hx=>s1 x (s6 x hx)) uw,by lia,fun v1 H4 iI g1=>?_⟩;refine⟨_,rfl,p1,_,2,_,rfl,rfl,cN.of (iI _ _ t1),bY (j:=2) rfl,r1,rfl,iR s2 uw,by lia,fun v2 H5 sO g2=>?_⟩;have xF:=(sm.trans iI).trans sO;have u1:=sO _ _ (iI _ _ t1);have u2:=sO _ _ (iI _ _ t2);have u3:=sO _ _ (iI _ _ t3);have g1:=g1.same sO;have TR:¬(a3≠[]/\cz a3=false)->¬(b3≠[]/\cz r3=false)->¬(b2≠[]/\rangeOf r2=none)->¬(b1≠[]/\rangeOf r1=none)->b8 (sU C (eP C ["kind","subject","numbers","gaps"]) (bQ (aS 4) (bQ (aS 5) (bQ (aS 6) (bQ (aS 7) dk))))) {nx:=fun Z H'=>Q .aO H',rt:=Q} [some (.str (S (c::r))),some (.ref p1),some (.ref p2),some (.ref p3),some (.str (S a3)),some (.str (S r3)),some v1,some v2] H5:=fun e1 e2 e3 e4=>by
   rw[if_neg e1,if_neg e2,if_neg e3,if_neg e4]at em;refine⟨_,rfl,_,rfl,_,rfl,_,rfl,fun x1 d1 n4 n5 n6=>?_⟩;refine⟨x1,d1,_,rfl,rfl,aD,rfl,?_⟩;rw[fE];have Ox:=bj (bj (o:=HO.own x1) (aq.refl H5) n5) (p:=x1) (o:=HO.ins C d1 ((["kind","subject","numbers","gaps"]:List ah).zip [V.str (S a3),V.str (S r3),v1,v2])) (by rw[ba n6.symm];exact n4);refine kS _ (by rw[if_neg e1,if_neg e2,if_neg e3,if_neg e4]) x1 _ (xF.free n4) (xF.trans Ox) ⟨d1,v1,v2,?_,g1.same Ox,g2.same Ox⟩;rw[aD];have k1:(if a3=[]then none else some a3:Option au).getD []=a3:=by split<;>simp_all
   have k2:(if r3=[]then none else some r3:Option au).getD []=r3:=by split<;>simp_all
   unfold DU;dsimp only;rw[k1,k2];rfl
  have nn:∀v(o:Option eF)(H:Hp),Rg H v o->(v=V.aO↔o=none):=fun v o H g=>by
   cases o with
   |none=>simp[show v=V.aO from g]
   |some q=>obtain⟨b,e,Z⟩:=g;simp[e]
  have TQ:¬(a3≠[]/\cz a3=false)->¬(b3≠[]/\cz r3=false)->¬(b2≠[]/\rangeOf r2=none)->b9 (cU (sS (cb (bG sG (bG (uT K) (aS 1) (tC (.int 1))) (tC (.str (bB ""))))) (cb (bG (fun x y H Q=>y=V.aO/\Q (.bl (decide (x=.aO))) H) (aS 7) (tC .aO)))) (b8 (tC .aO)) cP) (b8 (sU C (eP C ["kind","subject","numbers","gaps"]) (bQ (aS 4) (bQ (aS 5) (bQ (aS 6) (bQ (aS 7) dk)))))) {nx:=fun Z H'=>Q .aO H',rt:=Q} [some (.str (S (c::r))),some (.ref p1),some (.ref p2),some (.ref p3),some (.str (S a3)),some (.str (S r3)),some v1,some v2] H5:=fun e1 e2 e3=>by
   refine⟨_,rfl,p1,_,1,_,rfl,rfl,cN.of u1,bY (j:=1) rfl,rfl,_,rfl,eO (fun z=>?_) (fun z=>?_)⟩
   .refine⟨_,rfl,rfl,_,rfl,bD (fun y=>?_) (fun y=>?_)⟩
    .exact kN (by rw[if_neg e1,if_neg e2,if_neg e3,if_pos ⟨fun q=>z (by rw[q];rfl),(nn _ _ _ g2).mp y⟩]) _ xF
    .exact TR e1 e2 e3 fun q=>y ((nn _ _ _ g2).mpr q.2)
   .exact TR e1 e2 e3 fun q=>q.1 (iy (V.str.inj z))
  have fin2:¬(a3≠[]/\cz a3=false)->¬(b3≠[]/\cz r3=false)->b9 (cU (sS (cb (bG sG (bG (uT K) (aS 2) (tC (.int 1))) (tC (.str (bB ""))))) (cb (bG (fun x y H Q=>y=V.aO/\Q (.bl (decide (x=.aO))) H) (aS 6) (tC .aO)))) (b8 (tC .aO)) cP) (b9 (cU (sS (cb (bG sG (bG (uT K) (aS 1) (tC (.int 1))) (tC (.str (bB ""))))) (cb (bG (fun x y H Q=>y=V.aO/\Q (.bl (decide (x=.aO))) H) (aS 7) (tC .aO)))) (b8 (tC .aO)) cP) (b8 (sU C (eP C ["kind","subject","numbers","gaps"]) (bQ (aS 4) (bQ (aS 5) (bQ (aS 6) (bQ (aS 7) dk))))))) {nx:=fun Z H'=>Q .aO H',rt:=Q} [some (.str (S (c::r))),some (.ref p1),some (.ref p2),some (.ref p3),some (.str (S a3)),some (.str (S r3)),some v1,some v2] H5:=fun e1 e2=>by
   refine⟨_,rfl,p2,_,1,_,rfl,rfl,cN.of u2,bY (j:=1) rfl,rfl,_,rfl,eO (fun z=>?_) (fun z=>?_)⟩
   .refine⟨_,rfl,rfl,_,rfl,bD (fun y=>?_) (fun y=>?_)⟩
    .exact kN (by rw[if_neg e1,if_neg e2,if_pos ⟨fun q=>z (by rw[q];rfl),(nn _ _ _ g1).mp y⟩]) _ xF
    .exact TQ e1 e2 fun q=>y ((nn _ _ _ g1).mpr q.2)
   .exact TQ e1 e2 fun q=>q.1 (iy (V.str.inj z))
  have TN:¬(a3≠[]/\cz a3=false)->b9 (cU (sS (cb (bG sG (bG (uT K) (aS 3) (tC (.int 1))) (tC (.str (bB ""))))) (Yt (tB (g0 AO E0 (bQ (aS 5) dk))))) (b8 (tC .aO)) cP) (b9 (cU (sS (cb (bG sG (bG (uT K) (aS 2) (tC (.int 1))) (tC (.str (bB ""))))) (cb (bG (fun x y H Q=>y=V.aO/\Q (.bl (decide (x=.aO))) H) (aS 6) (tC .aO)))) (b8 (tC .aO)) cP) (b9 (cU (sS (cb (bG sG (bG (uT K) (aS 1) (tC (.int 1))) (tC (.str (bB ""))))) (cb (bG (fun x y H Q=>y=V.aO/\Q (.bl (decide (x=.aO))) H) (aS 7) (tC .aO)))) (b8 (tC .aO)) cP) (b8 (sU C (eP C ["kind","subject","numbers","gaps"]) (bQ (aS 4) (bQ (aS 5) (bQ (aS 6) (bQ (aS 7) dk)))))))) {nx:=fun Z H'=>Q .aO H',rt:=Q} [some (.str (S (c::r))),some (.ref p1),some (.ref p2),some (.ref p3),some (.str (S a3)),some (.str (S r3)),some v1,some v2] H5:=fun e1=>by
   refine⟨_,rfl,p3,_,1,_,rfl,rfl,cN.of u3,bY (j:=1) rfl,rfl,_,rfl,eO (fun z=>?_) (fun z=>?_)⟩
   .refine⟨_,rfl,r3,rfl,iR (fun x hx=>s1 x (s5 x (sI x hx))) uw,by lia,_,rfl,mO (fun y=>?_) (fun y=>?_)⟩
    .exact kN (by rw[if_neg e1,if_pos ⟨fun q=>z (by rw[q];rfl),y⟩]) _ xF
    .exact fin2 e1 fun q=>by rw[y]at q;cases q.2
   .exact fin2 e1 fun q=>q.1 (iy (V.str.inj z))
  refine⟨_,rfl,rfl,_,rfl,eO (fun z=>?_) (fun z=>?_)⟩
  .refine⟨_,rfl,a3,rfl,iR (fun x hx=>s1 x (s5 x (s9 x hx))) uw,by lia,_,rfl,mO (fun y=>?_) (fun y=>?_)⟩
   .exact kN (by rw[if_pos ⟨fun q=>z (by rw[q];rfl),y⟩]) _ xF
   .exact TN fun q=>by rw[y]at q;cases q.2
  .exact TN fun q=>q.1 (iy (V.str.inj z))
open Vt (wordOf numOf parts own)
noncomputable def Al{α:Type}(R:aa->α->Prop)(as:List aa)(xs:List α):Prop:=as.length=xs.length/\∀(i:Nat) a x,as[i]? =some a->xs[i]? =some x->R a x
theorem Al.nil{α:Type}{R:aa->α->Prop}:Al R [] []:=⟨rfl,fun i a x h=>by simp at h⟩
theorem Al.mono{α:Type}{R R':aa->α->Prop}{as:List aa}{xs:List α}(h:Al R as xs)(f:∀a x,a∈as->R a x->R' a x):Al R' as xs:=⟨h.1,fun i a x h1 h2=>f a x (jf h1) (h.2 i a x h1 h2)⟩
theorem Al.cons{α:Type}{R:aa->α->Prop}{a:aa}{x:α}{as:List aa}{xs:List α}(h:R a x)(t:Al R as xs):Al R (a::as) (x::xs):=by
 refine⟨by simp[t.1],fun i b y h1 h2=>?_⟩;cases i with
 |zero=>cases h1;cases h2;exact h
 |succ i=>exact t.2 i b y (by simpa using h1) (by simpa using h2)
theorem Al.induct{α:Type}{R:aa->α->Prop}{M:List aa->List α->Prop}(h0:M [] [])(hc:∀a x as xs,R a x->Al R as xs->M as xs->M (a::as) (x::xs)):∀{as:List aa}{xs:List α},Al R as xs->M as xs
 |[],[],_=>h0
 |[],_::_,h=>by simp[Al]at h
 |_::_,[],h=>by simp[Al]at h
 |a::as,x::xs,h=>by
  have t:Al R as xs:=⟨by have:=h.1;simpa using this,fun i b y h1 h2=>h.2 (i+1) b y (by simpa using h1) (by simpa using h2)⟩;exact hc a x as xs (h.2 0 a x rfl rfl) t (Al.induct h0 hc t)
theorem Al.append{α:Type}{R:aa->α->Prop}{as bs:List aa}{xs ys:List α}(h:Al R as xs)(g:Al R bs ys):Al R (as++bs) (xs++ys):=Al.induct (M:=fun as xs=>Al R (as++bs) (xs++ys)) (by simpa using g) (fun a x as xs r Z ih=>Al.cons r ih) h
theorem Al.reverse{α:Type}{R:aa->α->Prop}{as:List aa}{xs:List α}(h:Al R as xs):Al R as.reverse xs.reverse:=Al.induct (M:=fun as xs=>Al R as.reverse xs.reverse) Al.nil (fun a x as xs r Z ih=>by
 rw[Bi,Bi];exact ih.append (Al.cons r Al.nil)) h
theorem Al.get{α:Type}{R:aa->α->Prop}{as:List aa}{xs:List α}(h:Al R as xs){i:Nat}{a:aa}(e:as[i]? =some a):∃x,xs[i]? =some x/\R a x:=by
 have hi:=(dQ.mp e).1;have e2:xs[i]? =some (xs[i]'(by rw[<-h.1];exact hi)):=cV _;exact⟨_,e2,h.2 i a _ e e2⟩
theorem Al.snoc_inv{α:Type}{R:aa->α->Prop}{as:List aa}{xs:List α}(h:Al R as xs)(bL:as≠[]):∃Cb a vf x,as=Cb++[a]/\xs=vf++[x]/\Al R Cb vf/\R a x:=by
 have e1:as=as.dropLast++[as.getLast bL]:=(Zi bL).symm;have hx:xs≠[]:=fun z=>by have:=h.1;rw[z]at this;exact bL (yc.mp (by simpa using this))
 have e2:xs=xs.dropLast++[xs.getLast hx]:=(Zi hx).symm;have hl:as.dropLast.length=xs.dropLast.length:=by rw[oy,oy,h.1]
 refine⟨as.dropLast,as.getLast bL,xs.dropLast,xs.getLast hx,e1,e2,⟨hl,fun i a x h1 h2=>?_⟩,?_⟩
 .have i1:=(dQ.mp h1).1;have i2:=(dQ.mp h2).1;refine h.2 i a x ?_ ?_
  .rw[e1,tw i1];exact h1
  .rw[e2,tw i2];exact h2
 .refine h.2 as.dropLast.length _ _ ?_ ?_
  .rw[oy,<-QD];exact QE bL
  .rw[hl,oy,<-QD];exact QE hx
noncomputable def lh(C:aa)(H:Hp)(v:V):Option cM->Prop
 |none=>v=.aO
 |some p=>∃b,v=.ref b/\Pt C H b p
theorem lh.same{C:aa}{H H':Hp}{v:V}{o:Option cM}(h:lh C H v o)(s:aq H H'):lh C H' v o:=by
 cases o with
 |none=>exact h
 |some p=>obtain⟨b,e,q⟩:=h;exact⟨b,e,q.same s⟩
noncomputable def wF(w:bN)(pv:V)(l:aa):List (ah×V):=[("word",.str (S (wordOf w))),("number",.int (numOf w:Nat)),("pattern",pv),("parts",.ref l),("nodes",.int (w.nodes:Nat))]
inductive Ws(CP CW:aa)(H:Hp):aa->bN->Prop where
 |mk {a dx l:aa} {w:bN} {pv:V} {as:List aa}:H a=some (.ins CW dx (wF w pv l))->lh CP H pv (own w)->H l=some (.lst (as.map V.ref))->as.length=(parts w).length->
  (∀(i:Nat) b q,as[i]? =some b->(parts w)[i]? =some q->Ws CP CW H b q)->Ws CP CW H a w
theorem Ws.keep{CP CW:aa}{H H':Hp}{a:aa}{w:bN}(h:Ws CP CW H a w)(s1:∀b dx w pv l,H b=some (.ins CW dx (wF w pv l))->H' b=some (.ins CW dx (wF w pv l)))(s2:∀v o,lh CP H v o->lh CP H' v o)(s3:∀b xs,H b=some (.lst xs)->H' b=some (.lst xs)):Ws CP CW H' a w:=by
 induction h with
 |mk h1 h2 h3 h4 _ ih=>exact .mk (s1 _ _ _ _ _ h1) (s2 _ _ h2) (s3 _ _ h3) h4 ih
theorem Ws.same{CP CW:aa}{H H':Hp}{a:aa}{w:bN}(h:Ws CP CW H a w)(s:aq H H'):Ws CP CW H' a w:=h.keep (fun b dx w pv l e=>s _ _ e) (fun v o e=>e.same s) (fun b xs e=>s _ _ e)
noncomputable abbrev EA:aW:=inClass (top 38) 0
noncomputable abbrev nA:List ah:=["word","number","pattern","parts","nodes"]
noncomputable def sQ(CP CW:aa):Sp:=fun vs H Q Z=>∃(x dx l:aa)(u:bN)(pv:V)(as:List aa),vs=[.ref x,.str (S (wordOf u)),.int (numOf u:Nat),pv,.ref l]/\H x=some (.ins CW dx [])/\H l=some (.lst (as.map V.ref))/\Al (Ws CP CW H) as (parts u)/\∀H',(∀b o,H b=some o->b≠x->H' b=some o)->H' x=some (.ins CW dx (wF u pv l))->Q .aO H'
noncomputable abbrev VW:List ah:=["self","word","number","pattern","parts","part"]
theorem Oj:bE VW ["self","word","number","pattern","parts"] (aP EA):=bF
theorem Mq(u:bN):(parts u).length<=2:=by cases u<;>simp[parts]
theorem alN{f CP CW:aa}{fd:bu}(F:bt K "__init__" "Wish.__init__" EA f fd)(B:Bt mg)(T:Ty K CW nA):bh P w K mg base az 1 f fd ["self","word","number","pattern","parts"] (sQ CP CW):=by
 refine F.ok Oj (fun vs H Q E h=>?_) (fun aJ A outer s H vs Q E hr h=>?_)
 .obtain⟨x,dx,l,u,pv,as,rfl,Z⟩:=h;rfl
 .obtain⟨x,dx,l,u,nW,as,rfl,hx,hl,wV,k⟩:=h;refine⟨_,aw (fg (pv 0) (pv 1) rfl) (aw (fg (pv 0) (pv 2) rfl) (aw (fg (pv 0) (pv 3) rfl) (aw (fg (pv 0) (pv 4) rfl) (aA (fg (pv 0) (dH mQ bc (cK (SS rfl) (by rfl) B.sum (by decide+kernel) (ai (fq (own:=[("part",5)]) (te:=iK K (aS 5) "nodes") rfl Oj.nd (dP (pv 4)) (eN (by show ez VW (aP EA) _ _=true;decide+kernel)) (fun s H C cl fp=>c8 (i:=5) Oj.nd rfl (aF rfl)) (fun s H C cl fp=>ft) (fun s H C cl fp=>aN (pv 5) rfl)) aj))) rfl))))),?_⟩;refine⟨_,rfl,_,rfl,x,CW,dx,[],rfl,hx,T.cls,T.nf _ (by simp),(by decide),?_⟩;rw[fu (fs:=[]) (by decide+kernel)];refine⟨_,rfl,_,rfl,x,CW,dx,_,rfl,aD,T.cls,T.nf _ (by simp),(by show 1<1000;decide),?_⟩;rw[fE,fu (by rfl)];refine⟨_,rfl,_,rfl,x,CW,dx,_,rfl,aD,T.cls,T.nf _ (by simp),(by show 2<1000;decide),?_⟩;rw[fE,fu (by rfl)];refine⟨_,rfl,_,rfl,x,CW,dx,_,rfl,aD,T.cls,T.nf _ (by simp),(by show 3<1000;decide),?_⟩;rw[fE,fu (by rfl)];have nx:∀b o,H b=some o->(∀d,o≠.ins CW d [])->b≠x:=fun b o e n z=>by rw[z,hx]at e;exact n dx (g8 e).symm
  have hlx:l≠x:=nx l _ hl fun d z=>by cases z
  have dO:=wV.1;have b0:=Mq u;dsimp only[Xr,bG,pB,bQ,tC];refine jB (xs:=as.map V.ref) (ys:=(parts u).map fun q=>V.int ((q.nodes:Nat):Int)) (dN _ (by rw[bC];lia)) (by simp[dO]) (fun R h=>⟨_,rfl,h l _ (aq.refl _) (aH.of (by rw[ba hlx];exact hl))⟩) (fun i y z H' R e1 e2 s1 hR=>?_) (fun D H' hD s1 e=>?_)
  .rw[bU]at e1 e2;cases e3:as[i]? with
   |none=>rw[e3]at e1;cases e1
   |some a=>
    cases e4:(parts u)[i]? with
    |none=>rw[e4]at e2;cases e2
    |some q=>
     rw[e3]at e1;rw[e4]at e2;cases e1;cases e2;cases wV.2 i a q e3 e4 with
     | @mk _ dq lq _ pq mF h1 h2 h3 h4 h5=>
      have hax:a≠x:=nx a _ h1 fun d z=>by cases z
      exact⟨_,rfl,a,CW,dq,_,_,rfl,s1 _ _ (by rw[ba hax];exact h1),T.cls,T.nf _ (by simp),rfl,hR _ (aq.refl _)⟩
  .refine⟨D,(parts u).map fun q=>((q.nodes:Nat):Int),rfl,aH.of (by rw[e,gm];rfl),_,_,rfl,rfl,_,rfl,x,CW,dx,_,rfl,s1 _ _ aD,T.cls,T.nf _ (by simp),(by show 4<1000;decide),?_⟩;rw[fu (by rfl)];have e5:(1:Int)+((parts u).map fun q=>((q.nodes:Nat):Int)).sum=((u.nodes:Nat):Int):=by
    have:=Vt.xj u;have e6:=Pr ((parts u).map vY);rw[gm]at e6;have e7:((parts u).map fun q=>((q.nodes:Nat):Int)).sum=(((parts u).map vY).sum:Nat):=e6;rw[e7];lia
   refine k _ (fun b o e8 hb=>?_) ?_
   .rw[ba hb];exact s1 _ _ (by rw[ba hb];exact e8)
   .rw[aD];show some (HO.ins CW dx _)=_;simp only[e5];rfl
theorem LV{CP CW:aa}{H:Hp}{Q:VK}{l:aa}{u:bN}{pv:V}{as:List aa}(hl:H l=some (.lst (as.map V.ref)))(wV:Al (Ws CP CW H) as (parts u))(hp:lh CP H pv (own u))(k:∀a H',H a=none->aq H H'->Ws CP CW H' a u->Q (.ref a) H'):∀x dx,H x=none->H dx=none->dx≠x->sQ CP CW [.ref x,.str (S (wordOf u)),.int (numOf u:Nat),pv,.ref l] (upd (upd H dx (.own x)) x (.ins CW dx [])) (fun v H2=>v=.aO/\Q (.ref x) H2) E0:=fun x dx n1 n2 n3=>by
 have s1:aq H (upd (upd H dx (.own x)) x (.ins CW dx [])):=bj (bj (aq.refl _) n2) (by rw[ba n3.symm];exact n1);refine⟨x,dx,l,u,pv,as,rfl,aD,s1 _ _ hl,wV.mono fun a y Z r=>r.same s1,fun H' kp e=>⟨rfl,?_⟩⟩;have s2:aq H H':=fun b o q=>kp b o (s1 _ _ q) (fun z=>by rw[z,n1]at q;cases q);exact k x H' n1 s2 (.mk e (hp.same s2) (s2 _ _ hl) wV.1 fun i b q h1 h2=>(wV.2 i b q h1 h2).same s2)
noncomputable def fJ(u:bN):Prop:=∀p∈u.allPatterns,fO p
theorem fJ.part{u q:bN}(h:fJ u)(hq:q∈parts u):fJ q:=fun p hp=>h p (by rw[Vt.xq];exact qJ _ (FX.mpr ⟨q,hq,hp⟩))
theorem fJ.own{u:bN}{p:cM}(h:fJ u)(hp:own u=some p):fO p:=h p (by rw[Vt.xq,hp];simp)
theorem L4(u:bN):1<=u.nodes:=by rw[Vt.xj];lia
theorem P9:∀l:List bN,l.length<=Vt.weight l
 |[]=>by simp[Vt.weight]
 |x::r=>by
  have:=P9 r;have:=L4 x;unfold Vt.weight at*;simp only[dY,qK,cy];lia
theorem apC(l:List bN)(x:bN):Vt.weight (l++(parts x).reverse)+1=Vt.weight (l++[x]):=by
 unfold Vt.weight;rw[fz,fz,FY,FY,FW,ZM];have:=Vt.xj x;simp only[dY,yf,qK,List.sum_nil];lia
noncomputable abbrev Ed:aW:=top 40
noncomputable def OB(CP:aa):Sp:=fun vs H Q Z=>∃(a l:aa)(p:cM)(bs:List aa)(ps:List cM),vs=[.ref a,.ref l]/\Pt CP H a p/\fO p/\H l=some (.lst (bs.map V.ref))/\Al (Pt CP H) bs ps/\(∀q∈ps,fO q)/\ps.length<=100000/\∀H',aq H H'->Q (.bl (ps.contains p)) H'
theorem N5:bE ["pattern","found","other"] ["pattern","found"] (aP Ed):=bF
theorem ako{f CP:aa}{fd:bu}(F:bt K "is_among" "is_among" Ed f fd)(B:Bt mg)(F1:Fn P w K mg base az 1 "same_pattern" ["one","other"] (O1 CP)):bh P w K mg base az 2 f fd ["pattern","found"] (OB CP):=by
 refine F.ok N5 (fun vs H Q E h=>?_) (fun aJ A outer s H vs Q E hr h=>?_)
 .obtain⟨a,l,p,bs,ps,rfl,Z⟩:=h;rfl
 .obtain⟨a,l,p,bs,ps,rfl,ha,dG,hl,dO,DJ,hlen,k⟩:=h;refine⟨_,aA (aI (cK (Ib rfl) (by rfl) B.any (by decide+kernel) (ai (fq (own:=[("other",2)]) rfl N5.nd (dP (pv 1)) (eN (by show ez ["pattern","found","other"] (aP Ed) _ _=true;decide+kernel)) (fun s H C cl fp=>c8 (i:=2) N5.nd rfl (aF rfl)) (fun s H C cl fp=>ft) (fun s H C cl fp=>aU F1 hr rfl aY (ai (pv 0) (ai (pv 2) aj)))) aj))),?_⟩;have gA:=dO.1;dsimp only[b8,pB,bQ];refine jB (xs:=bs.map V.ref) (ys:=(ps.map fun q=>decide (p=q)).map V.bl) (dN _ (by rw[bC];lia)) (by simp[gA]) (fun R h=>⟨_,rfl,h l _ (aq.refl _) (aH.of hl)⟩) (fun i y z H' R e1 e2 s1 hR=>?_) (fun D H' hD s1 e=>?_)
  .rw[bU]at e1;rw[gm,bU]at e2;cases e3:bs[i]? with
   |none=>rw[e3]at e1;cases e1
   |some b=>
    cases e4:ps[i]? with
    |none=>rw[e4]at e2;cases e2
    |some q=>
     rw[e3]at e1;rw[e4]at e2;cases e1;cases e2;exact⟨_,rfl,_,rfl,a,b,p,q,rfl,ha.same s1,(dO.2 i b q e3 e4).same s1,dG,DJ q (jf e4),hR _ (aq.refl _)⟩
  .refine⟨D,ps.map fun q=>decide (p=q),rfl,aH.of e,?_⟩;have e5:(ps.map fun q=>decide (p=q)).any id=ps.contains p:=by
    rw[gJ,FE,Ba];constructor
    .rintro⟨x,hx,Lf⟩;obtain⟨q,hq,rfl⟩:=dI.mp hx;have:=of_decide_eq_true Lf;rw[this];exact hq
    .intro h;exact⟨true,dI.mpr ⟨p,h,by simp⟩,rfl⟩
   rw[e5];exact k H' s1
noncomputable abbrev Nw:aW:=top 39
noncomputable def sP(CP CW:aa):Sp:=fun vs H Q Z=>∃(a:aa)(u:bN),vs=[.ref a]/\Ws CP CW H a u/\fJ u/\u.nodes<=100000/\∀l as H',H l=none->aq H H'->H' l=some (.lst (as.map V.ref))->Al (Pt CP H') as (cG u)->Q (.ref l) H'
noncomputable abbrev ajy:List ah:=["wish","found","waiting","current"]
theorem EE:bE ajy ["wish"] (aP Nw):=bF
theorem ak2{f CP CW:aa}{fd:bu}(F:bt K "patterns_of" "patterns_of" Nw f fd)(B:Bt mg)(T:Ty K CW nA)(F1:Fn P w K mg base az 2 "is_among" ["pattern","found"] (OB CP)):bh P w K mg base az 3 f fd ["wish"] (sP CP CW):=by
 refine F.ok EE (fun vs H Q E h=>?_) (fun aJ A outer s H vs Q E hr h=>?_)
 .obtain⟨a,u,rfl,Z⟩:=h;rfl
 .obtain⟨a,u,rfl,hw,jF,hn,k⟩:=h;refine⟨_,aw (aZ (i:=1) EE.nd rfl (aF rfl) (cv aj)) (aw (aZ (i:=2) EE.nd rfl (aF rfl) (cv (ai (pv 0) aj))) (aw (uR kg (bq uO (cK fR (by rfl) B.len dv (ai (pv 2) aj)) bc (bp _)) (aw (aZ (i:=3) EE.nd rfl (aF rfl) (Wy g9 Ra aao VP (pv 2))) (aw (bx (PW.pt (nX (bq DN (aN (pv 3) rfl) cT (bp _)) (nY (jD (f6 (aU F1 hr rfl aY (ai (aN (pv 3) rfl) (ai (pv 1) aj)))))))) (aA (ej (iG g9 lj mi lZ (pv 1) (ai (aN (pv 3) rfl) aj)))) bA) (aA (ej (iG g9 Bs Gm Dv (pv 2) (ai (WC rfl rfl B.reversed rfl B.list (ai (aN (pv 3) rfl) aj)) aj))))))) (aA (aI (pv 1))))),?_⟩;refine⟨dJ _,fun lf ux=>?_⟩;refine⟨_,rfl,(by show 1<=sizeLine;decide),fun lw C5=>?_⟩;have bL:lf≠lw:=cC aD C5;have s0:aq H (upd (upd H lf (.lst [])) lw (.lst [.ref a])):=bj (bj (aq.refl _) ux) C5;have UH:H lw=none:=by rw[ba bL.symm]at C5;exact C5
  let Fy:Nat->L2.St->Hp->Prop:=fun m σ H'=>∃(v3:Option V)(fs ws:List aa)(found:List cM)(wt:List bN),m=Vt.weight wt/\σ=[some (.ref a),some (.ref lf),some (.ref lw),v3]/\aq H H'/\H' lf=some (.lst (fs.map V.ref))/\H' lw=some (.lst (ws.map V.ref))/\Al (Pt CP H) fs found/\Al (Ws CP CW H) ws wt/\(∀q∈found,fO q)/\(∀x∈wt,fJ x)/\found.length+Vt.weight wt<=u.nodes/\Vt.todo found wt=cG u
  refine⟨Fy,⟨_,none,[],[a],[],[u],rfl,rfl,s0,by rw[ba bL];exact aD,aD,Al.nil,Al.cons hw Al.nil,(fun q hq=>nomatch hq),(fun x hx=>by rw[eY.mp hx];exact jF),by simp[Vt.weight],Vt.ao5 u⟩,?_⟩;rintro m σ H' ⟨v3,fs,ws,found,wt,rfl,rfl,sm,h1,h2,hf,U5,DI,Wi,hle,La⟩;have ig:=U5.1;have Ky:=hf.1;have U4:=P9 wt;refine⟨_,rfl,lw,_,rfl,.inl (aH.of h2),_,_,rfl,rfl,_,rfl,?_⟩;rw[bC];refine bD (fun z=>?_) (fun z=>?_)
  .have ahx:ws≠[]:=fun q=>by rw[q]at z;simp at z
   obtain⟨qE,c,xX,x,rfl,rfl,ahz,Kr⟩:=U5.snoc_inv ahx;refine⟨fun σ' eJ=>∃m',m'<Vt.weight (xX++[x])/\Fy m' σ' eJ,fun Z Z q=>q,?_⟩;have Wj:=Wi x (by simp);have wst:=apC xX x;refine⟨_,rfl,.inl ⟨rfl,_,aH.of h2⟩,lw,_,.ref c,rfl,rfl,h2,by simp,?_⟩;have dl:(FV V.ref (qE++[c])).dropLast=qE.map V.ref:=by simp
   rw[dl];have gG:aq H (upd H' lw (.lst (qE.map V.ref))):=gH sm UH;have wH:(upd H' lw (.lst (qE.map V.ref))) lf=some (.lst (fs.map V.ref)):=by rw[ba bL];exact h1
   have CM:(upd H' lw (.lst (qE.map V.ref))) lw=some (.lst (qE.map V.ref)):=aD;generalize upd H' lw (.lst (qE.map V.ref))=H2 at gG wH CM ⊢;cases Kr with
   | @mk _ dc lc _ pc asc g1 g2 g3 g4 g5=>
   have tail:∀(CD:List aa)(wB:List cM)(H3:Hp),aq H H3->H3 lf=some (.lst (CD.map V.ref))->H3 lw=some (.lst (qE.map V.ref))->Al (Pt CP H) CD wB->(∀q∈wB,fO q)->wB.length<=found.length+1->wB=(own x).toList.foldl Vt.rG found->dX (Px K "list" W5 (aS 2) (bQ (Yo K (bQ (iK K (aS 3) "parts") dk)) dk)) {nx:=fun σ' eJ=>∃m',m'<Vt.weight (xX++[x])/\Fy m' σ' eJ,rt:=Q,bk:=fun Z Z=>True,ct:=fun Z Z=>True} [some (.ref a),some (.ref lf),some (.ref lw),some (.ref c)] H3:=fun CD wB H3 s3 e1 e2 hf2 alQ qh ef=>by
    refine⟨_,rfl,.inl ⟨rfl,_,aH.of e2⟩,_,rfl,c,CW,dc,_,_,rfl,s3 _ _ g1,T.cls,T.nf _ (by simp),rfl,lc,asc.map V.ref,rfl,aH.of (s3 _ _ g3),fun D hD=>?_⟩;have agG:lw≠D:=cC e2 hD;have b0:=Mq x;refine⟨lw,D,_,_,rfl,rfl,by rw[ba agG];exact e2,aD,big _ ?_,?_⟩
    .simp only[bC,FR];have:=P9 (xX++[x]);simp only[cY,cy,je]at this ig;lia
    refine⟨_,Vt.apD xX x,some (.ref c),CD,qE++asc.reverse,wB,xX++(parts x).reverse,rfl,rfl,?_,?_,?_,hf2,?_,alQ,?_,?_,?_⟩
    .exact gH (bj s3 hD) UH
    .have agC:lf≠D:=cC e1 hD;rw[ba bL,ba agC];exact e1
    .rw[aD,fz,FW]
    .exact ahz.append (Al.reverse ⟨g4,g5⟩)
    .intro y hy;rcases jJ.mp hy with hy|hy
     .exact Wi y (by simp[hy])
     .exact Wj.part (List.mem_reverse.mp hy)
    .lia
    .rw[<-La,Vt.ao6,ef]
   refine⟨_,rfl,c,CW,dc,_,_,rfl,gG _ _ g1,T.cls,T.nf _ (by simp),rfl,rfl,_,rfl,eO (fun y=>?_) (fun y=>?_)⟩
   .cases eo:own x with
    |none=>rw[eo]at g2;exact absurd g2 y
    |some p=>
     rw[eo]at g2;obtain⟨b,rfl,hb⟩:=g2;have dG:=Wj.own eo;refine⟨_,rfl,c,CW,dc,_,_,rfl,gG _ _ g1,T.cls,T.nf _ (by simp),rfl,_,rfl,b,lf,p,fs,found,rfl,hb.same gG,dG,wH,hf.mono (fun Z Z Z r=>r.same gG),DI,by lia,fun H3 s3=>⟨_,rfl,?_⟩⟩;have MV:=gG.trans s3;refine mO (fun y2=>?_) (fun y2=>?_)
     .refine⟨_,rfl,.inl ⟨rfl,_,aH.of (s3 _ _ wH)⟩,_,rfl,c,CW,dc,_,_,rfl,MV _ _ g1,T.cls,T.nf _ (by simp),rfl,lf,_,_,rfl,rfl,s3 _ _ wH,dN _ (by rw[bC];lia),?_⟩;refine tail (fs++[b]) (found++[p]) _ (gH MV ux) ?_ ?_ (hf.append (Al.cons hb Al.nil)) ?_ (by simp) ?_
      .rw[aD,fz];rfl
      .rw[ba bL.symm];exact s3 _ _ CM
      .intro q hq;rcases jJ.mp hq with hq|hq
       .exact DI q hq
       .rw[eY.mp hq];exact dG
      .rw[eo];show _=Vt.rG found p;unfold Vt.rG;rw[if_neg (by rw[y2];decide)]
     .refine tail fs found H3 MV (s3 _ _ wH) (s3 _ _ CM) hf DI (by lia) ?_;rw[eo];show _=Vt.rG found p;unfold Vt.rG;rw[if_pos y2]
   .cases eo:own x with
    |none=>
     refine tail fs found H2 gG wH CM hf DI (by lia) ?_;rw[eo];rfl
    |some p=>rw[eo]at g2;obtain⟨b,rfl,hb⟩:=g2;cases y
  .have:ws=[]:=by
    cases ws with
    |nil=>rfl
    |cons _ _=>simp at z
   subst this;have:wt=[]:=by
    cases wt with
    |nil=>rfl
    |cons _ _=>simp at ig
   subst this;rw[Vt.ao4]at La;subst La;exact⟨_,rfl,k lf fs H' ux sm h1 (hf.mono fun Z Z Z r=>r.same sm)⟩
theorem wC{A:Type}(last:Bool)(f:A->Bool->Bool):∀l:List A,(fk last f l).length=l.length+1
 |[]=>rfl
 |a::l=>by show(fk last f l).length+1=_;rw[wC last f l];rfl
theorem aft{A:Type}(last d:Bool)(f:A->Bool->Bool)(l:List A):(fk last f l)[0]? =some ((fk last f l).headD d):=by
 cases l<;>rfl
theorem T6:∀l:List Bool,fk false (fun x y=>x||y) l=(cW (l.length+1)).map fun i=>(l.drop i).any id
 |[]=>rfl
 |a::l=>by
  have ih:=T6 l;have hh:(fk false (fun x y=>x||y) l).headD false=l.any id:=by rw[ih,vx];rfl
  show(a||(fk false (fun x y=>x||y) l).headD false)::fk false (fun x y=>x||y) l=(cW (l.length+1+1)).map fun i=>((a::l).drop i).any id;rw[hh,ih,vx (n:=l.length+1),dY,gm];rfl
theorem T5:∀l:List Bool,fk true (fun x y=>x&&y) l=(cW (l.length+1)).map fun i=>(l.drop i).all id
 |[]=>rfl
 |a::l=>by
  have ih:=T5 l;have hh:(fk true (fun x y=>x&&y) l).headD true=l.all id:=by rw[ih,vx];rfl
  show(a&&(fk true (fun x y=>x&&y) l).headD true)::fk true (fun x y=>x&&y) l=(cW (l.length+1+1)).map fun i=>((a::l).drop i).all id;rw[hh,ih,vx (n:=l.length+1),dY,gm];rfl
noncomputable def j8:Bool×Bool->Bool->Bool:=fun x y=>x.2||(x.1&&y)
noncomputable def upTo(e:Bool)(xs ys:List Bool):List Bool:=fk e j8 (xs.dropLast.zip ys.dropLast)
noncomputable def two(wd:au)(xs ys:List Bool):List Bool:=if wd=[38]then vz (fun x y=>x&&y) xs ys else if wd=[124]then vz (fun x y=>x||y) xs ys else if wd=[45,62]then vz (fun x y=> !x||y) xs ys else upTo (decide (wd=aX "unless")) xs ys
noncomputable def pre(wd:au)(n:Nat)(xs:List Bool):List Bool:=if wd=[33]then xs.map fun x=> !x else if wd=aX "next" then xs.drop 1++[false]else if wd=aX "ever" then fk false (fun x y=>x||y) xs.dropLast else if wd=aX "always" then fk true (fun x y=>x&&y) xs.dropLast else(cW xs.length).map fun i=>((xs.dropLast.drop i).take n).any id
noncomputable def xH(H:Hp)(Q:VK)(bs:List Bool):Prop:=∀l H',H l=none->aq H H'->H' l=some (.lst (bs.map V.bl))->Q (.ref l) H'
noncomputable abbrev NZ:aW:=top 46
noncomputable def Pk:Sp:=fun vs H Q Z=>∃(a b:aa)(e:Bool)(xs ys:List Bool),vs=[.ref a,.ref b,.bl e]/\H a=some (.lst (xs.map V.bl))/\H b=some (.lst (ys.map V.bl))/\xs.length=ys.length/\1<=xs.length/\xs.length<=1000/\xH H Q (upTo e xs ys)
noncomputable abbrev ajP:List ah:=["left","right","at_end","backwards","place"]
theorem Oi:bE ajP ["left","right","at_end"] (aP NZ):=bF
theorem oU{xs:List Bool}{i:Nat}{x:Bool}(h:xs[i]? =some x):(xs.map V.bl)[i]? =some (V.bl x):=by rw[bU,h];rfl
theorem alL{f:aa}{fd:bu}(F:bt K "truths_up_to" "truths_up_to" NZ f fd)(B:Bt mg):bh P w K mg base az 1 f fd ["left","right","at_end"] Pk:=by
 refine F.ok Oi (fun vs H Q E h=>?_) (fun aJ A outer s H vs Q E hr h=>?_)
 .obtain⟨a,b,e,xs,ys,rfl,Z⟩:=h;rfl
 .obtain⟨a,b,e,xs,ys,rfl,ha,hb,wW,h1,hz,k⟩:=h;refine⟨_,aw (aZ (i:=3) Oi.nd rfl (aF rfl) (cv (ai (pv 2) aj))) (aw (mT kg rfl (amz rfl B.range (ai (dH Mh (cK fR (by rfl) B.len dv (ai (pv 0) aj)) bc) (ai (Ar AY bc) (ai (Ar AY bc) aj)))) (c8 (i:=4) Oi.nd rfl (aF rfl)) (aA (ej (iG g9 lj mi lZ (pv 3) (ai (Ap (bZ fc (pv 1) (pv 4) (fun Z Z=>rfl)) (nV (xr (bZ fc (pv 0) (pv 4) (fun Z Z=>rfl)) (nV (bZ fc (pv 3) (Ar AY bc) (fun Z Z=>rfl)))))) aj))))) (aA (aI (WC rfl rfl B.reversed rfl B.list (ai (pv 3) aj))))),?_⟩;refine⟨_,rfl,(by show 1<=sizeLine;decide),fun l hl=>?_⟩;have s0:aq H (upd H l (.lst [.bl e])):=bj (aq.refl _) hl;have hlen:(xs.map V.bl).length=xs.length:=bC _;let zs:=xs.dropLast.zip ys.dropLast
  have hzs:zs.length=xs.length-1:=by simp[zs,wW]
  refine⟨_,rfl,a,_,rfl,.inl (aH.of (s0 _ _ ha)),_,_,rfl,rfl,_,rfl,_,rfl,_,_,_,_,rfl,BW.neg (by rw[hlen];lia) (by rw[hlen];lia) (by lia) (by lia),?_⟩;have zm:((((xs.map V.bl).length:Nat):Int) -2-(-1)).toNat=xs.length-1:=by rw[hlen];lia
  rw[zm];refine afo (n:=xs.length-1) (fun i σ H'=>∃v4:Option V,σ=[some (.ref a),some (.ref b),some (.bl e),some (.ref l),v4]/\aq H H'/\H' l=some (.lst ((fk e j8 (zs.drop (xs.length-1-i))).reverse.map V.bl))) ⟨none,rfl,s0,?_⟩ ?_ ?_
  .rw[aD,Nat.sub_zero,<-hzs,vq];rfl
  .rintro i σ H' hi ⟨v4,rfl,sm,gA⟩;have hp:((xs.map V.bl).length:Int) -2+((i:Nat):Int)*(-1)=((xs.length-2-i:Nat):Int):=by rw[hlen];lia
   rw[hp];generalize hj:xs.length-2-i=j;have hjl:j<zs.length:=by lia
   obtain⟨x,hx⟩:∃x,xs[j]? =some x:=⟨_,cV (by lia)⟩;obtain⟨y,hy⟩:∃y,ys[j]? =some y:=⟨_,cV (by lia)⟩;have hzj:zs[j]? =some (x,y):=by
    simp only[zs];rw[List.getElem?_zip_eq_some];refine⟨?_,?_⟩
    .rw[FL,if_pos (by lia)];exact hx
    .rw[FL,if_pos (by lia)];exact hy
   have Kv:zs.drop j=(x,y)::zs.drop (j+1):=by
    rw[tu hjl];rw[(dQ.mp hzj).2]
   have e1:xs.length-1-i=j+1:=by lia
   have e2:xs.length-1-(i+1)=j:=by lia
   rw[e1]at gA;have bL:(fk e j8 (zs.drop (j+1))).reverse.getLast?=some ((fk e j8 (zs.drop (j+1))).headD e):=by
    rw[List.getLast?_reverse,<-aft e e j8];cases fk e j8 (zs.drop (j+1))<;>rfl
   have fin:∀v:Bool,v=j8 (x,y) ((fk e j8 (zs.drop (j+1))).headD e)->∃l' vf y',V.ref l=V.ref l'/\[V.bl v]=[y']/\H' l'=some (.lst vf)/\vf.length<sizeLine/\(∃v4:Option V,[some (V.ref a),some (.ref b),some (.bl e),some (.ref l),some (.int (j:Nat))]=[some (.ref a),some (.ref b),some (.bl e),some (.ref l),v4]/\aq H (upd H' l' (.lst (vf++[y'])))/\(upd H' l' (.lst (vf++[y']))) l=some (.lst ((fk e j8 (zs.drop (xs.length-1-(i+1)))).reverse.map V.bl))):=fun v ev=>by
    refine⟨l,_,_,rfl,rfl,gA,dN _ ?_,_,rfl,gH sm hl,?_⟩
    .rw[bC,FR,wC,iM];lia
    .rw[aD,e2,Kv];show _=some (HO.lst ((j8 (x,y) ((fk e j8 (zs.drop (j+1))).headD e)::fk e j8 (zs.drop (j+1))).reverse.map V.bl));rw[Bi,fz,ev];rfl
   refine⟨_,rfl,.inl ⟨rfl,_,aH.of gA⟩,_,rfl,_,rfl,b,_,_,_,rfl,rfl,aH.of (sm _ _ hb),bY (oU hy),_,rfl,?_⟩;refine jA (fun z=>fin _ (by rw[z];simp[j8])) (fun z=>?_);refine⟨_,rfl,_,rfl,a,_,_,_,rfl,rfl,aH.of (sm _ _ ha),bY (oU hx),_,rfl,?_⟩;refine jA (fun z2=>?_) (fun z2=>fin _ (by rw[z,z2];simp[j8]));exact⟨_,rfl,_,rfl,l,_,_,_,rfl,rfl,aH.of gA,G4 (by rw[QF,bL];rfl),fin _ (by rw[z,z2];simp[j8])⟩
  .rintro σ H' ⟨v4,rfl,sm,gA⟩;rw[Nat.sub_self,j9]at gA;refine⟨_,rfl,l,_,rfl,aH.of gA,fun D hD=>?_⟩;refine k D _ (sm.free hD) (bj sm hD) ?_;rw[aD,<-FW,ZL];rfl
noncomputable def jz(n:Nat):List V:=(cW n).map fun i=>V.int ((i:Nat):Int)
theorem zU(n:Nat):(jz n).length=n:=by simp[jz]
theorem Va{n i:Nat}{x:V}(h:(jz n)[i]? =some x):i<n/\x=V.int ((i:Nat):Int):=by
 have hi:=(dQ.mp h).1;rw[zU]at hi;unfold jz at h;rw[bU,tD hi]at h;cases h;exact⟨hi,rfl⟩
theorem Cq(xs:List V){p q:Nat}(hp:p<=xs.length)(hq:q<=xs.length):mJ xs (some ((p:Nat):Int)) (some ((q:Nat):Int))=(xs.drop p).take (q-p):=by
 unfold mJ;rw[oh hp,oh hq]
theorem SX(xs:List V){p:Nat}(hp:p<=xs.length):mJ xs (some ((p:Nat):Int)) none=xs.drop p:=by
 unfold mJ;rw[oh hp,HT.Xt];rw[yi (by rw[iM];lia)]
theorem Sf(xs:List Bool){p:Nat}:((xs.map V.bl).drop p).take (xs.length-1-p)=(xs.dropLast.drop p).map V.bl:=by
 rw[<-oz,<-tF,Qu,Zk]
theorem oq{a b:au}{s:ah}(h:s=S b):decide (V.str (S a)=V.str s)=decide (a=b):=by
 rw[h,gJ,decide_eq_true_eq,decide_eq_true_eq,kl]
noncomputable abbrev xA:aW:=top 45
noncomputable def Pj:Sp:=fun vs H Q Z=>∃(a b:aa)(wd:au)(xs ys:List Bool),vs=[.str (S wd),.ref a,.ref b]/\H a=some (.lst (xs.map V.bl))/\H b=some (.lst (ys.map V.bl))/\xs.length=ys.length/\1<=xs.length/\xs.length<=1000/\xH H Q (two wd xs ys)
noncomputable abbrev Dy:List ah:=["word","left","right","places","place"]
theorem sM:bE Dy ["word","left","right"] (aP xA):=bF
theorem alJ{f:aa}{fd:bu}(F:bt K "truths_of_two" "truths_of_two" xA f fd)(B:Bt mg)(F1:Fn P w K mg base az 1 "truths_up_to" ["left","right","at_end"] Pk):bh P w K mg base az 2 f fd ["word","left","right"] Pj:=by
 refine F.ok sM (fun vs H Q E h=>?_) (fun aJ A outer s H vs Q E hr h=>?_)
 .obtain⟨a,b,wd,xs,ys,rfl,Z⟩:=h;rfl
 .obtain⟨a,b,wd,xs,ys,rfl,ha,hb,wW,h1,hz,k⟩:=h;refine⟨_,aw (aZ (i:=3) sM.nd rfl (aF rfl) (WB rfl rfl B.range rfl B.list (ai (cK fR (by rfl) B.len dv (ai (pv 1) aj)) aj))) (aw (bx (bq cg (pv 0) bH (bp _)) (aA (aI (fq (own:=[("place",4)]) (te:=Ym (bG (n9 K) (aS 1) (aS 4)) (bG (n9 K) (aS 2) (aS 4))) rfl sM.nd (dP (pv 3)) (eN (by show ez Dy (aP xA) _ _=true;decide+kernel)) (fun s H C cl fp=>c8 (i:=4) sM.nd rfl (aF rfl)) (fun s H C cl fp=>ft) (fun s H C cl fp=>xr (bZ fc (pv 1) (pv 4) (fun Z Z=>rfl)) (nV (bZ fc (pv 2) (pv 4) (fun Z Z=>rfl))))))) bA) (aw (bx (bq cg (pv 0) bH (bp _)) (aA (aI (fq (own:=[("place",4)]) (te:=PB (bG (n9 K) (aS 1) (aS 4)) (bG (n9 K) (aS 2) (aS 4))) rfl sM.nd (dP (pv 3)) (eN (by show ez Dy (aP xA) _ _=true;decide+kernel)) (fun s H C cl fp=>c8 (i:=4) sM.nd rfl (aF rfl)) (fun s H C cl fp=>ft) (fun s H C cl fp=>Ap (bZ fc (pv 1) (pv 4) (fun Z Z=>rfl)) (nV (bZ fc (pv 2) (pv 4) (fun Z Z=>rfl))))))) bA) (aw (bx (bq cg (pv 0) bH (bp _)) (aA (aI (fq (own:=[("place",4)]) (te:=PB (Pz (bG (n9 K) (aS 1) (aS 4))) (bG (n9 K) (aS 2) (aS 4))) rfl sM.nd (dP (pv 3)) (eN (by show ez Dy (aP xA) _ _=true;decide+kernel)) (fun s H C cl fp=>c8 (i:=4) sM.nd rfl (aF rfl)) (fun s H C cl fp=>ft) (fun s H C cl fp=>Ap (WE (bZ fc (pv 1) (pv 4) (fun Z Z=>rfl))) (nV (bZ fc (pv 2) (pv 4) (fun Z Z=>rfl))))))) bA) (aA (aI (aU F1 hr rfl aY (ai (pv 1) (ai (pv 2) (ai (pf cg (pv 0) bH (bp _)) aj))))))))),?_⟩;have hlen:(xs.map V.bl).length=xs.length:=bC _;refine⟨_,rfl,a,_,rfl,.inl (aH.of ha),_,rfl,by lia,by rw[hlen];lia,fun lp qj=>?_⟩;rw[hlen,show((xs.length:Nat):Int).toNat=xs.length from rfl];rw[show((cW xs.length).map fun i=>V.int ((i:Nat):Int))=jz xs.length from rfl];have s0:aq H (upd H lp (.lst (jz xs.length))):=bj (aq.refl _) qj;have zD:(upd H lp (.lst (jz xs.length))) lp=some (.lst (jz xs.length)):=aD;generalize upd H lp (.lst (jz xs.length))=H1 at s0 zD ⊢;have nE:=s0 _ _ ha;have nG:=s0 _ _ hb;have lc:∀(te:TE)(g:Bool->Bool->Bool),(∀(x y:Bool)(j:Nat)(H':Hp)(R:VK),xs[j]? =some x->ys[j]? =some y->aq H1 H'->R (.bl (g x y)) H'->te ([some (V.str (S wd)),some (.ref a),some (.ref b),some (.ref lp),some (.int (j:Nat))]:L2.St) H' R)->two wd xs ys=vz g xs ys->kT (uG K (aS 3)) (b7 4) qC te [4] [some (V.str (S wd)),some (.ref a),some (.ref b),some (.ref lp),none] H1 Q:=fun te g hg ew=>by
   refine jB (xs:=jz xs.length) (ys:=(vz g xs ys).map V.bl) (dN _ (by rw[zU];lia)) (by rw[zU,bC,List.length_zipWith];lia) (fun R h=>⟨_,rfl,h lp _ (aq.refl _) (aH.of zD)⟩) (fun i y z H' R e1 e2 s1 hR=>?_) (fun D H' hD s1 e=>?_)
   .obtain⟨hi,rfl⟩:=Va e1;obtain⟨x,hx⟩:∃x,xs[i]? =some x:=⟨_,cV hi⟩;obtain⟨y,hy⟩:∃y,ys[i]? =some y:=⟨_,cV (by lia)⟩;rw[bU,List.getElem?_zipWith,hx,hy]at e2;cases e2;exact hg x y i H' R hx hy s1 (hR _ (aq.refl _))
   .rw[<-ew]at e;exact k D H' (s0.free hD) (s0.trans s1) e
  refine⟨_,rfl,rfl,_,rfl,?_⟩;rw[oq (s:="&") (b:=[38]) rfl];refine bD (fun z=>?_) (fun z1=>?_)
  .refine lc _ (fun x y=>x&&y) (fun x y j H' R hx hy s1 hR=>?_) (if_pos z);refine⟨_,rfl,_,rfl,a,_,_,_,rfl,rfl,aH.of (s1 _ _ nE),bY (oU hx),_,rfl,jA (fun q=>?_) (fun q=>?_)⟩
   .rw[q]at hR;exact⟨_,rfl,_,rfl,b,_,_,_,rfl,rfl,aH.of (s1 _ _ nG),bY (oU hy),hR⟩
   .rw[q]at hR;exact hR
  refine⟨_,rfl,rfl,_,rfl,?_⟩;rw[oq (s:="|") (b:=[124]) rfl];refine bD (fun z=>?_) (fun z2=>?_)
  .refine lc _ (fun x y=>x||y) (fun x y j H' R hx hy s1 hR=>?_) ((if_neg z1).trans (if_pos z));refine⟨_,rfl,_,rfl,a,_,_,_,rfl,rfl,aH.of (s1 _ _ nE),bY (oU hx),_,rfl,jA (fun q=>?_) (fun q=>?_)⟩
   .rw[q]at hR;exact hR
   .rw[q]at hR;exact⟨_,rfl,_,rfl,b,_,_,_,rfl,rfl,aH.of (s1 _ _ nG),bY (oU hy),hR⟩
  refine⟨_,rfl,rfl,_,rfl,?_⟩;rw[oq (s:="->") (b:=[45,62]) rfl];refine bD (fun z=>?_) (fun z3=>?_)
  .refine lc _ (fun x y=> !x||y) (fun x y j H' R hx hy s1 hR=>?_) ((if_neg z1).trans ((if_neg z2).trans (if_pos z)));refine⟨_,rfl,_,rfl,a,_,_,_,rfl,rfl,aH.of (s1 _ _ nE),bY (oU hx),_,rfl,_,rfl,mO (fun q=>?_) (fun q=>?_)⟩
   .rw[q]at hR;exact hR
   .rw[q]at hR;exact⟨_,rfl,_,rfl,b,_,_,_,rfl,rfl,aH.of (s1 _ _ nG),bY (oU hy),hR⟩
  refine⟨_,rfl,_,rfl,_,rfl,rfl,?_⟩;rw[oq (s:="unless") (b:=aX "unless") rfl];refine⟨a,b,_,xs,ys,rfl,nE,nG,wW,h1,hz,fun l H' hl s1 e=>k l H' (s0.free hl) (s0.trans s1) ?_⟩;rw[e,show two wd xs ys=upTo (decide (wd=aX "unless")) xs ys from(if_neg z1).trans ((if_neg z2).trans (if_neg z3))]
noncomputable abbrev uZ:aW:=top 44
noncomputable def OT:Sp:=fun vs H Q Z=>∃(a:aa)(wd:au)(n:Nat)(xs:List Bool),vs=[.str (S wd),.int (n:Nat),.ref a]/\H a=some (.lst (xs.map V.bl))/\1<=xs.length/\xs.length<=1000/\xH H Q (pre wd n xs)
noncomputable abbrev Ae:List ah:=["word","number","part","last","places","truth","place"]
theorem oj:bE Ae ["word","number","part"] (aP uZ):=bF
theorem ak6{f:aa}{fd:bu}(F:bt K "truths_behind_prefix" "truths_behind_prefix" uZ f fd)(B:Bt mg):bh P w K mg base az 1 f fd ["word","number","part"] OT:=by
 refine F.ok oj (fun vs H Q E h=>?_) (fun aJ A outer s H vs Q E hr h=>?_)
 .obtain⟨a,wd,n,xs,rfl,Z⟩:=h;rfl
 .obtain⟨a,wd,n,xs,rfl,ha,h1,hz,k⟩:=h;refine⟨_,aw (aZ (i:=3) oj.nd rfl (oA rfl) (dH Mh (cK fR (by rfl) B.len dv (ai (pv 2) aj)) bc)) (aw (aZ (i:=4) oj.nd rfl (aF rfl) (WB rfl rfl B.range rfl B.list (ai (cK fR (by rfl) B.len dv (ai (pv 2) aj)) aj))) (aw (bx (bq cg (pv 0) bH (bp _)) (aA (aI (fq (own:=[("truth",5)]) (te:=Pz (aS 5)) rfl oj.nd (dP (pv 2)) (eN (by show ez Ae (aP uZ) _ _=true;decide+kernel)) (fun s H C cl fp=>c8 (i:=5) oj.nd rfl (aF rfl)) (fun s H C cl fp=>ft) (fun s H C cl fp=>WE (pv 5))))) bA) (aw (bx (bq cg (pv 0) bH (bp _)) (aA (aI (dH pd (mR u7 (pv 2) (gE bc) MA) (cv (ai Ao aj))))) bA) (aw (bx (bq cg (pv 0) bH (bp _)) (aA (aI (fq (own:=[("place",6)]) (te:=pB (MI K) (bQ (xQ (xw K) (aS 2) (pC (aS 6)) (pC (aS 3))) dk)) rfl oj.nd (dP (pv 4)) (eN (by show ez Ae (aP uZ) _ _=true;decide+kernel)) (fun s H C cl fp=>c8 (i:=6) oj.nd rfl (aF rfl)) (fun s H C cl fp=>ft) (fun s H C cl fp=>cK (Ib rfl) (by rfl) B.any (by decide+kernel) (ai (mR u7 (pv 2) (gE (pv 6)) (gE (pv 3))) aj))))) bA) (aw (bx (bq cg (pv 0) bH (bp _)) (aA (aI (fq (own:=[("place",6)]) (te:=pB (W3 K) (bQ (xQ (xw K) (aS 2) (pC (aS 6)) (pC (aS 3))) dk)) rfl oj.nd (dP (pv 4)) (eN (by show ez Ae (aP uZ) _ _=true;decide+kernel)) (fun s H C cl fp=>c8 (i:=6) oj.nd rfl (aF rfl)) (fun s H C cl fp=>ft) (fun s H C cl fp=>cK (acr rfl) (by rfl) B.all (by decide+kernel) (ai (mR u7 (pv 2) (gE (pv 6)) (gE (pv 3))) aj))))) bA) (aA (aI (fq (own:=[("place",6)]) (te:=pB (MI K) (bQ (xQ (xw K) (aS 2) (pC (aS 6)) (pC (pB (fun xs H Q=>∃i j,xs=[.int i,.int j]/\Q (.int (if j<i then j else i)) H) (bQ (bG (j7 fun i j=> .int (i+j)) (aS 6) (aS 1)) (bQ (aS 3) dk))))) dk)) rfl oj.nd (dP (pv 4)) (eN (by show ez Ae (aP uZ) _ _=true;decide+kernel)) (fun s H C cl fp=>c8 (i:=6) oj.nd rfl (aF rfl)) (fun s H C cl fp=>ft) (fun s H C cl fp=>cK (Ib rfl) (by rfl) B.any (by decide+kernel) (ai (mR u7 (pv 2) (gE (pv 6)) (gE (cK (ab6 rfl) (by rfl) B.min (by decide+kernel) (ai (dH mQ (pv 6) (pv 1)) (ai (pv 3) aj))))) aj)))))))))),?_⟩;have hlen:(xs.map V.bl).length=xs.length:=bC _;refine⟨_,rfl,a,_,rfl,.inl (aH.of ha),_,_,rfl,rfl,?_⟩;refine⟨_,rfl,a,_,rfl,.inl (aH.of ha),_,rfl,by lia,by rw[hlen];lia,fun lp qj=>?_⟩;rw[hlen,show((xs.length:Nat):Int).toNat=xs.length from rfl];dsimp only;rw[show((xs.length:Nat):Int) -1=((xs.length-1:Nat):Int) by lia];rw[show((cW xs.length).map fun i=>V.int ((i:Nat):Int))=jz xs.length from rfl];have s0:aq H (upd H lp (.lst (jz xs.length))):=bj (aq.refl _) qj;have zD:(upd H lp (.lst (jz xs.length))) lp=some (.lst (jz xs.length)):=aD;generalize upd H lp (.lst (jz xs.length))=H1 at s0 zD ⊢;have nE:=s0 _ _ ha;have lc:∀(te:TE)(g:Nat->Bool),(∀(j:Nat)(H':Hp)(R:VK),j<xs.length->aq H1 H'->(∀H4,aq H' H4->R (.bl (g j)) H4)->te ([some (V.str (S wd)),some (.int (n:Nat)),some (.ref a),some (.int ((xs.length-1:Nat):Int)),some (.ref lp),none,some (.int (j:Nat))]:L2.St) H' R)->pre wd n xs=(cW xs.length).map g->kT (uG K (aS 4)) (b7 6) qC te [6] [some (V.str (S wd)),some (.int (n:Nat)),some (.ref a),some (.int ((xs.length-1:Nat):Int)),some (.ref lp),none,none] H1 Q:=fun te g hg ew=>by
   refine jB (xs:=jz xs.length) (ys:=((cW xs.length).map g).map V.bl) (dN _ (by rw[zU];lia)) (by rw[zU];simp) (fun R h=>⟨_,rfl,h lp _ (aq.refl _) (aH.of zD)⟩) (fun i y z H' R e1 e2 s1 hR=>?_) (fun D H' hD s1 e=>?_)
   .obtain⟨hi,rfl⟩:=Va e1;rw[bU,bU,tD hi]at e2;cases e2;exact hg i H' R hi s1 hR
   .rw[<-ew]at e;exact k D H' (s0.free hD) (s0.trans s1) e
  refine⟨_,rfl,rfl,_,rfl,?_⟩;rw[oq (s:="!") (b:=[33]) rfl];refine bD (fun z=>?_) (fun z1=>?_)
  .dsimp only[b8];refine jB (xs:=xs.map V.bl) (ys:=(xs.map fun x=> !x).map V.bl) (dN _ (by rw[hlen];lia)) (by simp) (fun R h=>⟨_,rfl,h a _ (aq.refl _) (aH.of nE)⟩) (fun i y z H' R e1 e2 s1 hR=>?_) (fun D H' hD s1 e=>?_)
   .rw[bU]at e1;rw[gm,bU]at e2;cases e3:xs[i]? with
    |none=>rw[e3]at e1;cases e1
    |some x=>
     rw[e3]at e1 e2;cases e1;cases e2;exact⟨_,rfl,_,rfl,hR _ (aq.refl _)⟩
   .exact k D H' (s0.free hD) (s0.trans s1) (by rw[e,show pre wd n xs=xs.map fun x=> !x from if_pos z])
  refine⟨_,rfl,rfl,_,rfl,?_⟩;rw[oq (s:="next") (b:=aX "next") rfl];refine bD (fun z=>?_) (fun z2=>?_)
  .refine⟨_,rfl,_,rfl,a,_,rfl,aH.of nE,fun p hp=>?_⟩;rw[show(1:Int)=((1:Nat):Int)from rfl,SX _ (by rw[hlen];lia)];refine⟨(by show 1<=sizeLine;decide),fun q hq=>?_⟩;have hpq:p≠q:=cC aD hq;refine⟨p,q,_,_,rfl,rfl,by rw[ba hpq];exact aD,aD,big _ (by simp;lia),fun D hD=>?_⟩;refine k D _ (s0.free (aq.free (bj (bj (aq.refl H1) hp) hq) hD)) (bj (bj (bj s0 hp) hq) hD) ?_;rw[aD,show pre wd n xs=xs.drop 1++[false]from(if_neg z1).trans (if_pos z),fz,oz];rfl
  have sl:∀(j:Nat)(q:Nat)(H':Hp),j<xs.length->aq H1 H'->q<=xs.length->aH K H' a (xs.map V.bl):=fun j q H' hj s1 hq=>aH.of (s1 _ _ nE);have qc:xs.dropLast.length+1=xs.length:=by rw[oy];lia
  refine⟨_,rfl,rfl,_,rfl,?_⟩;rw[oq (s:="ever") (b:=aX "ever") rfl];refine bD (fun z=>?_) (fun z3=>?_)
  .refine lc _ (fun i=>(xs.dropLast.drop i).any id) (fun j H' R hj s1 hR=>?_) ?_
   .refine⟨_,rfl,_,rfl,_,rfl,_,rfl,_,rfl,a,_,rfl,aH.of (s1 _ _ nE),fun p hp=>?_⟩;rw[Cq _ (by rw[hlen];lia) (by rw[hlen];lia),Sf];exact⟨p,_,rfl,aH.of aD,hR _ (bj (aq.refl _) hp)⟩
   .rw[show pre wd n xs=fk false (fun x y=>x||y) xs.dropLast from(if_neg z1).trans ((if_neg z2).trans (if_pos z)),T6,qc]
  refine⟨_,rfl,rfl,_,rfl,?_⟩;rw[oq (s:="always") (b:=aX "always") rfl];refine bD (fun z=>?_) (fun z4=>?_)
  .refine lc _ (fun i=>(xs.dropLast.drop i).all id) (fun j H' R hj s1 hR=>?_) ?_
   .refine⟨_,rfl,_,rfl,_,rfl,_,rfl,_,rfl,a,_,rfl,aH.of (s1 _ _ nE),fun p hp=>?_⟩;rw[Cq _ (by rw[hlen];lia) (by rw[hlen];lia),Sf];exact⟨p,_,rfl,aH.of aD,hR _ (bj (aq.refl _) hp)⟩
   .rw[show pre wd n xs=fk true (fun x y=>x&&y) xs.dropLast from(if_neg z1).trans ((if_neg z2).trans ((if_neg z3).trans (if_pos z))),T5,qc]
  .refine lc _ (fun i=>((xs.dropLast.drop i).take n).any id) (fun j H' R hj s1 hR=>?_) ((if_neg z1).trans ((if_neg z2).trans ((if_neg z3).trans (if_neg z4))));refine⟨_,rfl,_,rfl,_,rfl,_,rfl,_,rfl,_,_,rfl,rfl,_,rfl,_,_,rfl,_,rfl,a,_,rfl,aH.of (s1 _ _ nE),fun p hp=>?_⟩;have em:(if((xs.length-1:Nat):Int)<((j:Nat):Int)+((n:Nat):Int)then((xs.length-1:Nat):Int)else((j:Nat):Int)+((n:Nat):Int))=((min (j+n) (xs.length-1):Nat):Int):=by split<;>lia
   rw[em,Cq _ (by rw[hlen];lia) (by rw[hlen];lia)];have ec:((xs.map V.bl).drop j).take (min (j+n) (xs.length-1) -j)=((xs.dropLast.drop j).take n).map V.bl:=by
    rw[<-oz,<-tF,Qu,Zk,List.take_take];congr 2;lia
   rw[ec];exact⟨p,_,rfl,aH.of aD,hR _ (bj (aq.refl _) hp)⟩
theorem aiF{n:Nat}{ys:List V}{ta:TA}{te:TE}{j:Nat}{σ:L2.St}{H:Hp}{Q:VK}(hz:n<=1000000)(hy:ys.length=n)(h0:∀R:List V->Hp->Prop,(∀H1,aq H H1->R [.int ((n:Nat):Int)] H1)->ta σ H R)(hs:∀(i:Nat)(y:V)(H':Hp)(R:VK),i<n->ys[i]? =some y->aq H H'->(∀H4,aq H' H4->R y H4)->te ((σ.set j none).set j (some (.int ((i:Nat):Int)))) H' R)(hq:∀D H',H D=none->aq H H'->H' D=some (.lst ys)->Q (.ref D) H'):kT (Lh ta) (b7 j) qC te [j] σ H Q:=by
 refine h0 _ fun H1 s1=>⟨_,rfl,by lia,by lia,fun D hD=>?_⟩;rw[show((n:Nat):Int).toNat=n from rfl];refine VA (n:=n) (fun i H'=>aq H1 H'/\H' D=some (.lst (ys.take i))) ⟨bj (aq.refl _) hD,aD⟩ (fun i H' hi p=>?_) (fun H' p=>?_)
 .obtain⟨y,nP⟩:∃y,ys[i]? =some y:=⟨_,cV (by lia)⟩;refine⟨by simp[wipe,vy],?_⟩;rw[show(0:Int)+((i:Nat):Int)=((i:Nat):Int) by lia];refine hs i y H' _ hi nP (s1.trans p.1) fun H4 s4=>⟨_,s4 _ _ p.2,?_,?_,?_⟩
  .rw[iN,jk];lia
  .exact gH (p.1.trans s4) hD
  .rw[aD,me,nP];rfl
 .refine hq D H' (s1.free hD) (s1.trans p.1) ?_;rw[p.2,<-hy,jK]
theorem aiE{K:aK}{xs:List V}{g:Nat->List V}{tl te:TE}{j:Nat}{σ:L2.St}{H:Hp}{Q:VK}(hz:xs.length<sizeLine)(h0:∀R:VK,(∀a H1,aq H H1->aH K H1 a xs->R (.ref a) H1)->tl σ H R)(hs:∀(i:Nat)(x:V)(H':Hp)(R:VK),xs[i]? =some x->aq H H'->(∀b H4,H' b=none->aq H' H4->H4 b=some (.lst (g i))->R (.ref b) H4)->te ((σ.set j none).set j (some x)) H' R)(hq:∀(D:aa)(bs:List aa)(H':Hp),H D=none->aq H H'->H' D=some (.lst (bs.map V.ref))->bs.length=xs.length->(∀(k:Nat) b,bs[k]? =some b->H' b=some (.lst (g k)))->Q (.ref D) H'):kT (uG K tl) (b7 j) qC te [j] σ H Q:=by
 refine h0 _ fun a H1 s1 hl=>⟨a,rfl,⟨xs,hl⟩,fun D hD=>?_⟩;refine Ly (K:=K) (a:=a) (xs:=xs) (fun i H'=>∃bs:List aa,bs.length=i/\aq H1 H'/\H' D=some (.lst (bs.map V.ref))/\∀(k:Nat) b,bs[k]? =some b->H' b=some (.lst (g k))/\b≠D) ⟨[],rfl,bj (aq.refl _) hD,aD,fun k b h=>by simp at h⟩ (fun i H' Z p=>AJ p.choose_spec.2.1 hl) (fun i x H' hx p=>?_) (fun H' p=>?_)
 .obtain⟨bs,hb,sm,nD,ee⟩:=p;refine⟨by simp[wipe,vy],?_⟩;refine hs i x H' _ hx (s1.trans sm) fun b H4 hbn s4 hb4=>⟨_,s4 _ _ nD,?_,bs++[b],?_,?_,?_,?_⟩
  .rw[bC,hb];have:=(dQ.mp hx).1;lia
  .simp[hb]
  .exact gH (sm.trans s4) hD
  .rw[aD,fz];rfl
  .intro k c hk;have Up:b≠D:=(cC nD hbn).symm;by_cases hki:k<bs.length
   .rw[tw hki]at hk;obtain⟨h1,h2⟩:=ee k c hk;exact⟨by rw[ba h2];exact s4 _ _ h1,h2⟩
   .rw[ya (by lia)]at hk;have e:k-bs.length=0:=by
     cases q:k-bs.length with
     |zero=>rfl
     |succ m=>rw[q]at hk;simp at hk
    rw[e]at hk;cases hk;have:k=i:=by lia
    subst this;exact⟨by rw[ba Up];exact hb4,Up⟩
 .obtain⟨bs,hb,sm,nD,ee⟩:=p;exact hq D bs H' (s1.free hD) (s1.trans sm) nD hb fun k b h=>(ee k b h).1
theorem count_eq(p:cM)(es:List bg)(i:Nat):(((es.map (pT p)).drop i).countP id)=mB p (es.drop i):=by
 unfold mB;rw[<-oz,List.countP_map,List.countP_eq_length_filter];rfl
theorem fM(es:List bg):∀u:bN,(dg es u).length=es.length+1
 | .truth b=>by simp[dg]
 | .pat p=>by simp[dg]
 | .no a=>by simp[dg,fM es a]
 | .both a b=>by simp[dg,fM es a,fM es b]
 | .either a b=>by simp[dg,fM es a,fM es b]
 | .implies a b=>by simp[dg,fM es a,fM es b]
 | .next a=>by simp[dg,fM es a]
 | .ever a=>by simp[dg,wC,G1,fM es a]
 | .always a=>by simp[dg,wC,G1,fM es a]
 | .till a b=>by simp[dg,wC,G1,fM es a,fM es b]
 | .weak a b=>by simp[dg,wC,G1,fM es a,fM es b]
 | .soon n a=>by simp[dg]
 | .atleast n p=>by simp[dg]
 | .atmost n p=>by simp[dg]
noncomputable abbrev uY:aW:=top 43
noncomputable def OS(CE CP CW:aa):Sp:=fun vs H Q Z=>∃(a l:aa)(u:bN)(p:cM)(as:List aa)(es:List bg),vs=[.ref a,.ref l]/\Ws CP CW H a u/\own u=some p/\fO p/\H l=some (.lst (as.map V.ref))/\eQ CE H as es/\es.length<=40/\xH H Q (dg es u)
noncomputable abbrev Ad:List ah:=["wish","events","fits","event","counts","place","count"]
theorem pA:bE Ad ["wish","events"] (aP uY):=bF
theorem ak0{f CE CP CW:aa}{fd:bu}(F:bt K "truths_of_pattern" "truths_of_pattern" uY f fd)(B:Bt mg)(T:Ty K CW nA)(c1:bT mg "PATTERN" (.str "pattern"))(F1:Fn P w K mg base az 2 "fits_event" ["pattern","event"] (va CP CE)):bh P w K mg base az 3 f fd ["wish","events"] (OS CE CP CW):=by
 refine F.ok pA (fun vs H Q E h=>?_) (fun aJ A outer s H vs Q E hr h=>?_)
 .obtain⟨a,l,u,p,as,es,rfl,Z⟩:=h;rfl
 .obtain⟨a,l,u,p,as,es,rfl,hw,ho,dG,hl,dj,gT,k⟩:=h;refine⟨_,aw (aZ (i:=2) pA.nd rfl (oA rfl) (fq (own:=[("event",3)]) (te:=g0 (va CP CE) E0 (bQ (iK K (aS 0) "pattern") (bQ (aS 3) dk))) rfl pA.nd (dP (pv 1)) (eN (by show ez Ad (aP uY) _ _=true;decide+kernel)) (fun s H C cl fp=>c8 (i:=3) pA.nd rfl (aF rfl)) (fun s H C cl fp=>ft) (fun s H C cl fp=>aU F1 hr rfl aY (ai (aN (pv 0) rfl) (ai (pv 3) aj))))) (aw (bx (bq cg (aN (pv 0) rfl) (bP c1 rfl) (bp _)) (aA (aI (dH pd (pv 2) (cv (ai Ao aj))))) bA) (aw (MC (i:=4) (own:=[("place",5)]) (te:=Px K "list" (fun x xs H Q=>∃(a:aa)(bs:List Bool),x=.ref a/\xs=[.bl true]/\aH K H a (bs.map V.bl)/\Q (.int ((bs.countP id:Nat):Int)) H) (xQ (xw K) (aS 2) (pC (aS 5)) Ys) (bQ (tC (.bl true)) dk)) rfl pA.nd rfl rfl (Pu rfl rfl rfl rfl) (Mv rfl B.range (ai (dH mQ (cK fR (by rfl) B.len dv (ai (pv 2) aj)) bc) aj)) (eN (by show ez Ad (aP uY) _ _=true;decide+kernel)) (fun s H C cl fp=>c8 (i:=5) pA.nd rfl (aF rfl)) (fun s H C cl fp=>ft) (fun s H C cl fp=>iG g9 PySem.F.slot_list_count PySem.F.type_list_count ajb (mR u7 (pv 2) (gE (pv 5)) MA) (ai Ao aj))) (aw (bx (bq cg (aN (pv 0) rfl) bH (bp _)) (aA (aI (fq (own:=[("count",6)]) (te:=bG (j7 fun i j=> .bl (decide (j<=i))) (aS 6) (iK K (aS 0) "number")) rfl pA.nd (dP (pv 4)) (eN (by show ez Ad (aP uY) _ _=true;decide+kernel)) (fun s H C cl fp=>c8 (i:=6) pA.nd rfl (aF rfl)) (fun s H C cl fp=>ft) (fun s H C cl fp=>pf alV (pv 6) (aN (pv 0) rfl) (bp _))))) bA) (aA (aI (fq (own:=[("count",6)]) (te:=bG (j7 fun i j=> .bl (decide (i<=j))) (aS 6) (iK K (aS 0) "number")) rfl pA.nd (dP (pv 4)) (eN (by show ez Ad (aP uY) _ _=true;decide+kernel)) (fun s H C cl fp=>c8 (i:=6) pA.nd rfl (aF rfl)) (fun s H C cl fp=>ft) (fun s H C cl fp=>pf sD (pv 6) (aN (pv 0) rfl) (bp _)))))))),?_⟩;cases hw with
  | @mk _ dx lw _ nW y0 g1 g2 g3 g4 g5=>
  rw[ho]at g2;obtain⟨pb,rfl,hpb⟩:=g2;have eA:=dj.1;dsimp only[b9,cE];refine jB (xs:=as.map V.ref) (ys:=(es.map (pT p)).map V.bl) (dN _ (by rw[bC];lia)) (by simp[eA]) (fun R h=>⟨_,rfl,h l _ (aq.refl _) (aH.of hl)⟩) (fun i y z H' R e1 e2 s1 hR=>?_) (fun lf H1 ux s1 hf=>?_)
  .rw[bU]at e1;rw[gm,bU]at e2;cases e3:as[i]? with
   |none=>rw[e3]at e1;cases e1
   |some b=>
    cases e4:es[i]? with
    |none=>rw[e4]at e2;cases e2
    |some q=>
     rw[e3]at e1;rw[e4]at e2;cases e1;cases e2;exact⟨_,rfl,a,CW,dx,_,_,rfl,s1 _ _ g1,T.cls,T.nf _ (by simp),rfl,_,rfl,pb,b,p,q,rfl,hpb.same s1,(dj.2 i b q e3 e4).same s1,dG,hR _ (aq.refl _)⟩
  have fl:((es.map (pT p)).map V.bl).length=es.length:=by simp
  refine⟨_,rfl,a,CW,dx,_,_,rfl,s1 _ _ g1,T.cls,T.nf _ (by simp),rfl,rfl,_,rfl,?_⟩;rw[oq (s:="pattern") (b:=aX "pattern") rfl];refine bD (fun z=>?_) (fun z=>?_)
  .have eu:u=.pat p:=by
    cases u with
    |pat q=>cases ho;rfl
    |atleast n q=>exact absurd (show aX "atleast"=aX "pattern" from z) (by decide+kernel)
    |atmost n q=>exact absurd (show aX "atmost"=aX "pattern" from z) (by decide+kernel)
    |_=>cases ho
   subst eu;refine⟨_,rfl,(by show 1<=sizeLine;decide),fun q hq=>?_⟩;have hqf:lf≠q:=cC hf hq;refine⟨lf,q,_,_,rfl,rfl,by rw[ba hqf];exact hf,aD,big _ (by rw[fl];simp;lia),fun D hD=>?_⟩;refine k D _ (s1.free (aq.free (bj (aq.refl H1) hq) hD)) (bj (bj s1 hq) hD) ?_;rw[aD];show _=some (HO.lst ((es.map (pT p)++[false]).map V.bl));rw[fz];rfl
  dsimp only[cP,b9,cE];refine aiF (n:=es.length+1) (ys:=(cW (es.length+1)).map fun i=>V.int ((mB p (es.drop i):Nat):Int)) (by lia) (by simp) (fun R h=>?_) (fun i y H' R hi e2 s2 hR=>?_) (fun lc H2 rT s2 hc=>?_)
  .refine⟨_,rfl,lf,_,rfl,.inl (aH.of hf),_,_,rfl,rfl,?_⟩;have:=h H1 (aq.refl _);rw[fl];exact this
  .rw[bU,tD hi]at e2;cases e2;refine⟨_,rfl,_,rfl,_,rfl,lf,_,rfl,aH.of (s2 _ _ hf),fun q hq=>?_⟩;rw[SX _ (by rw[fl];lia),<-oz];refine⟨.inl ⟨rfl,_,aH.of aD⟩,q,_,rfl,rfl,aH.of aD,?_⟩;rw[count_eq];exact hR _ (bj (aq.refl _) hq)
  have bJ:=s1.trans s2;have fin:∀(te:TE)(g:Nat->Bool),(∀(i:Nat)(H':Hp)(R:VK),aq H2 H'->R (.bl (g i)) H'->te ([some (V.ref a),some (.ref l),some (.ref lf),none,some (.ref lc),none,some (.int ((mB p (es.drop i):Nat):Int))]:L2.St) H' R)->dg es u=(cW (es.length+1)).map g->kT (uG K (aS 4)) (b7 6) qC te [6] [some (V.ref a),some (.ref l),some (.ref lf),none,some (.ref lc),none,none] H2 Q:=fun te g hg ew=>by
   refine jB (xs:=(cW (es.length+1)).map fun i=>V.int ((mB p (es.drop i):Nat):Int)) (ys:=((cW (es.length+1)).map g).map V.bl) (dN _ (by simp;lia)) (by simp) (fun R h=>⟨_,rfl,h lc _ (aq.refl _) (aH.of hc)⟩) (fun i y z H' R e1 e2 s3 hR=>?_) (fun D H' hD s3 e=>?_)
   .have hi:i<es.length+1:=by have:=(dQ.mp e1).1;simpa using this
    rw[bU,tD hi]at e1;rw[bU,bU,tD hi]at e2;cases e1;cases e2;exact hg i H' R s3 (hR _ (aq.refl _))
   .exact k D H' (bJ.free hD) (bJ.trans s3) (by rw[e,ew])
  refine⟨_,rfl,a,CW,dx,_,_,rfl,bJ _ _ g1,T.cls,T.nf _ (by simp),rfl,rfl,_,rfl,?_⟩;rw[oq (s:="atleast") (b:=aX "atleast") rfl];refine bD (fun z2=>?_) (fun z2=>?_)
  .obtain⟨n,rfl⟩:∃n,u=.atleast n p:=by
    cases u with
    |pat q=>exact absurd rfl z
    |atleast n q=>cases ho;exact⟨_,rfl⟩
    |atmost n q=>exact absurd (show aX "atmost"=aX "atleast" from z2) (by decide+kernel)
    |_=>cases ho
   refine fin _ (fun i=>decide (n<=mB p (es.drop i))) (fun i H' R s3 hR=>?_) rfl;refine⟨_,rfl,_,rfl,a,CW,dx,_,_,rfl,s3 _ _ (bJ _ _ g1),T.cls,T.nf _ (by simp),rfl,_,_,rfl,rfl,?_⟩;have e:decide (((n:Nat):Int)<=((mB p (es.drop i):Nat):Int))=decide (n<=mB p (es.drop i)):=by rw[gJ,decide_eq_true_eq,decide_eq_true_eq];lia
   show R (.bl (decide (((n:Nat):Int)<=((mB p (es.drop i):Nat):Int)))) H';rw[e];exact hR
  .obtain⟨n,rfl⟩:∃n,u=.atmost n p:=by
    cases u with
    |pat q=>exact absurd rfl z
    |atleast n q=>exact absurd rfl z2
    |atmost n q=>cases ho;exact⟨_,rfl⟩
    |_=>cases ho
   refine fin _ (fun i=>decide (mB p (es.drop i)<=n)) (fun i H' R s3 hR=>?_) rfl;refine⟨_,rfl,_,rfl,a,CW,dx,_,_,rfl,s3 _ _ (bJ _ _ g1),T.cls,T.nf _ (by simp),rfl,_,_,rfl,rfl,?_⟩;have e:decide (((mB p (es.drop i):Nat):Int)<=((n:Nat):Int))=decide (mB p (es.drop i)<=n):=by rw[gJ,decide_eq_true_eq,decide_eq_true_eq];lia
   show R (.bl (decide (((mB p (es.drop i):Nat):Int)<=((n:Nat):Int)))) H';rw[e];exact hR
theorem apl(xs ys:List Bool):two [124] xs ys=vz (fun x y=>x||y) xs ys:=(if_neg (by decide)).trans (if_pos rfl)
theorem apk(xs ys:List Bool):two [45,62] xs ys=vz (fun x y=> !x||y) xs ys:=(if_neg (by decide)).trans ((if_neg (by decide)).trans (if_pos rfl))
theorem apo(xs ys:List Bool):two (aX "until") xs ys=upTo false xs ys:=by
 refine(if_neg (by decide+kernel)).trans ((if_neg (by decide+kernel)).trans ((if_neg (by decide+kernel)).trans ?_));rw[show decide (aX "until"=aX "unless")=false by decide+kernel]
theorem apn(xs ys:List Bool):two (aX "unless") xs ys=upTo true xs ys:=by
 refine(if_neg (by decide+kernel)).trans ((if_neg (by decide+kernel)).trans ((if_neg (by decide+kernel)).trans ?_));rw[show decide (aX "unless"=aX "unless")=true by decide+kernel]
theorem apc(es:List bg){u x y:bN}(h:parts u=[x,y]):dg es u=two (wordOf u) (dg es x) (dg es y):=by
 cases u with
 |both a b=>cases h;rfl
 |either a b=>cases h;exact(apl _ _).symm
 |implies a b=>cases h;exact(apk _ _).symm
 |till a b=>cases h;exact(apo _ _).symm
 |weak a b=>cases h;exact(apn _ _).symm
 |_=>cases h
theorem amF(n:Nat)(xs:List Bool):pre (aX "next") n xs=xs.drop 1++[false]:=(if_neg (by decide+kernel)).trans (if_pos rfl)
theorem amE(n:Nat)(xs:List Bool):pre (aX "ever") n xs=fk false (fun x y=>x||y) xs.dropLast:=(if_neg (by decide+kernel)).trans ((if_neg (by decide+kernel)).trans (if_pos rfl))
theorem amD(n:Nat)(xs:List Bool):pre (aX "always") n xs=fk true (fun x y=>x&&y) xs.dropLast:=(if_neg (by decide+kernel)).trans ((if_neg (by decide+kernel)).trans ((if_neg (by decide+kernel)).trans (if_pos rfl)))
theorem amJ(n:Nat)(xs:List Bool):pre (aX "within") n xs=(cW xs.length).map fun i=>((xs.dropLast.drop i).take n).any id:=(if_neg (by decide+kernel)).trans ((if_neg (by decide+kernel)).trans ((if_neg (by decide+kernel)).trans (if_neg (by decide+kernel))))
theorem apb(es:List bg){u x:bN}(h:parts u=[x]):dg es u=pre (wordOf u) (numOf u) (dg es x):=by
 cases u with
 |no a=>cases h;rfl
 |next a=>cases h;exact(amF 0 _).symm
 |ever a=>cases h;exact(amE 0 _).symm
 |always a=>cases h;exact(amD 0 _).symm
 |soon n a=>
  cases h;refine Eq.symm ((amJ n (dg es x)).trans ?_);rw[fM];rfl
 |_=>cases h
theorem LA:∀{l:List Nat}{x:Nat},x∈l->x<=l.sum
 |y::r,x,h=>by
  rw[qK];rcases bX.mp h with h|h
  .lia
  .have:=LA h;lia
noncomputable abbrev Ey:aW:=top 42
noncomputable def xM(n:Nat)(CE CP CW:aa):Sp:=fun vs H Q Z=>∃(a l:aa)(u:bN)(as:List aa)(es:List bg),vs=[.ref a,.ref l]/\Ws CP CW H a u/\fJ u/\u.nodes<=n/\H l=some (.lst (as.map V.ref))/\eQ CE H as es/\es.length<=40/\xH H Q (dg es u)
noncomputable abbrev VV:List ah:=["wish","events","parts","part"]
theorem EI:bE VV ["wish","events"] (aP Ey):=bF
theorem alI{f CE CP CW:aa}{fd:bu}(F:bt K "truths_of" "truths_of" Ey f fd)(mf:mg "truths_of"=some (.ref f))(hb:Binds K fd ["wish","events"] [])(B:Bt mg)(T:Ty K CW nA)(F1:Fn P w K mg base az 2 "truths_of_two" ["word","left","right"] Pj)(F2:Fn P w K mg base az 1 "truths_behind_prefix" ["word","number","part"] OT)(F3:Fn P w K mg base az 3 "truths_of_pattern" ["wish","events"] (OS CE CP CW)):∀n,bh P w K mg base az (n+4) f fd ["wish","events"] (xM n CE CP CW):=by
 intro n;induction n with
 |zero=>
  refine F.ok (k:=3) EI (fun vs H Q E h=>?_) (fun aJ A outer s H vs Q E hr h=>?_)
  .obtain⟨a,l,u,as,es,rfl,Z⟩:=h;rfl
  .obtain⟨a,l,u,as,es,Z,Z,Z,hn,Z⟩:=h;have:=L4 u;lia
 |succ n ih=>
  have Fr:Fn P w K mg base az (n+4) "truths_of" ["wish","events"] (xM n CE CP CW):=⟨f,fd,ih,mf,F.kp,hb⟩;refine F.ok (k:=n+4) EI (fun vs H Q E h=>?_) (fun aJ A outer s H vs Q E hr h=>?_)
  .obtain⟨a,l,u,as,es,rfl,Z⟩:=h;rfl
  .obtain⟨a,l,u,as,es,rfl,hw,jF,hn,hl,dj,gT,k⟩:=h;have bM:bb 1 _:=hr.mono (by lia);have ck:bb 2 _:=hr.mono (by lia);have dU:bb 3 _:=hr.mono (by lia);refine⟨_,aw (MC (i:=2) (own:=[("part",3)]) (te:=g0 (xM n CE CP CW) E0 (bQ (aS 3) (bQ (aS 1) dk))) rfl EI.nd rfl rfl (Pu rfl rfl rfl rfl) (dP (aN (pv 0) rfl)) (eN (by show ez VV (aP Ey) _ _=true;decide+kernel)) (fun s H C cl fp=>c8 (i:=3) EI.nd rfl (aF rfl)) (fun s H C cl fp=>ft) (fun s H C cl fp=>aU Fr hr rfl aY (ai (pv 3) (ai (pv 1) aj)))) (aw (bx (bq cg (cK fR (by rfl) B.len dv (ai (pv 2) aj)) bc (bp _)) (aA (aI (aU F1 ck rfl aY (ai (aN (pv 0) rfl) (ai (bZ fc (pv 2) bc (fun Z Z=>rfl)) (ai (bZ fc (pv 2) bc (fun Z Z=>rfl)) aj)))))) bA) (aw (bx (bq cg (cK fR (by rfl) B.len dv (ai (pv 2) aj)) bc (bp _)) (aA (aI (aU F2 bM rfl aY (ai (aN (pv 0) rfl) (ai (aN (pv 0) rfl) (ai (bZ fc (pv 2) bc (fun Z Z=>rfl)) aj)))))) bA) (aw (bx (bq j4 (aN (pv 0) rfl) cT (bp _)) (aA (aI (dH alX (cv (ai (pf cg (aN (pv 0) rfl) bH (bp _)) aj)) (dH mQ (cK fR (by rfl) B.len dv (ai (pv 1) aj)) bc)))) bA) (aA (aI (aU F3 dU rfl aY (ai (pv 0) (ai (pv 1) aj)))))))),?_⟩;have hwa:=hw;cases hw with
   | @mk _ dx lw _ nW y0 g1 g2 g3 g4 g5=>
   have b0:=Mq u;have eA:=dj.1;dsimp only[b9,cE];refine aiE (xs:=y0.map V.ref) (g:=fun i=>(((parts u)[i]?.map (dg es)).getD []).map V.bl) (dN _ (by rw[bC];lia)) (fun R h=>⟨_,rfl,a,CW,dx,_,_,rfl,g1,T.cls,T.nf _ (by simp),rfl,h lw _ (aq.refl _) (aH.of g3)⟩) (fun i y H' R e1 s1 hR=>?_) (fun D bs H1 hD s1 nD nH ee=>?_)
   .rw[bU]at e1;cases e3:y0[i]? with
    |none=>rw[e3]at e1;cases e1
    |some b=>
     rw[e3]at e1;cases e1;obtain⟨q,hq,hwq⟩:=(show Al (Ws CP CW H) y0 (parts u)from⟨g4,g5⟩).get e3;have US:=jf hq;have hnq:q.nodes<=n:=by
      have e:=Vt.xj u;have:q.nodes<=((parts u).map vY).sum:=LA (dI.mpr ⟨q,US,rfl⟩);lia
     refine⟨_,rfl,_,rfl,b,l,q,as,es,rfl,hwq.same s1,jF.part US,hnq,s1 _ _ hl,dj.same s1,gT,fun l' H4 jY s4 e4=>hR l' H4 jY s4 ?_⟩;rw[e4,hq];rfl
   have uj:bs.length=(parts u).length:=by rw[nH,bC,g4]
   have kk:xH H1 Q (dg es u):=fun l' H4 jY s4 e4=>k l' H4 (s1.free jY) (s1.trans s4) e4;refine⟨_,rfl,D,_,rfl,.inl (aH.of nD),rfl,_,rfl,?_⟩;rw[bC,uj];match hp:parts u,b0 with
   |[x,y],_=>
    rw[hp]at uj;obtain⟨b1,b2,rfl⟩:∃b1 b2,bs=[b1,b2]:=by
     match bs,uj with
     |[b1,b2],_=>exact⟨b1,b2,rfl⟩
    have f1:=ee 0 b1 rfl;have f2:=ee 1 b2 rfl;rw[hp]at f1 f2;refine bD (fun Z=>?_) (fun z=>absurd rfl z);rw[apc es hp]at kk;exact⟨_,rfl,a,CW,dx,_,_,rfl,s1 _ _ g1,T.cls,T.nf _ (by simp),rfl,_,rfl,D,_,0,_,rfl,rfl,aH.of nD,bY (j:=0) rfl,_,rfl,D,_,1,_,rfl,rfl,aH.of nD,bY (j:=1) rfl,b1,b2,wordOf u,dg es x,dg es y,rfl,f1,f2,by rw[fM,fM],by rw[fM];lia,by rw[fM];lia,kk⟩
   |[x],_=>
    rw[hp]at uj;obtain⟨b1,rfl⟩:∃b1,bs=[b1]:=by
     match bs,uj with
     |[b1],_=>exact⟨b1,rfl⟩
    have f1:=ee 0 b1 rfl;rw[hp]at f1;refine bD (fun z=>absurd (show V.int 1=V.int 2 from z) (by decide)) (fun Z=>?_);refine⟨_,rfl,D,_,rfl,.inl (aH.of nD),rfl,_,rfl,?_⟩;refine bD (fun Z=>?_) (fun z=>absurd rfl z);rw[apb es hp]at kk;exact⟨_,rfl,a,CW,dx,_,_,rfl,s1 _ _ g1,T.cls,T.nf _ (by simp),rfl,_,rfl,a,CW,dx,_,_,rfl,s1 _ _ g1,T.cls,T.nf _ (by simp),rfl,_,rfl,D,_,0,_,rfl,rfl,aH.of nD,bY (j:=0) rfl,b1,wordOf u,numOf u,dg es x,rfl,f1,by rw[fM];lia,by rw[fM];lia,kk⟩
   |[],_=>
    rw[hp]at uj;obtain rfl:bs=[]:=yc.mp uj;refine bD (fun z=>absurd (show V.int 0=V.int 2 from z) (by decide)) (fun Z=>?_);refine⟨_,rfl,D,_,rfl,.inl (aH.of nD),rfl,_,rfl,?_⟩;refine bD (fun z=>absurd (show V.int 0=V.int 1 from z) (by decide)) (fun Z=>?_);refine⟨_,rfl,a,CW,dx,_,_,rfl,s1 _ _ g1,T.cls,T.nf _ (by simp),rfl,rfl,_,rfl,?_⟩;refine bD (fun z=>?_) (fun z=>?_)
    .have ho:own u=none:=by
      cases e:own u with
      |none=>rfl
      |some p=>rw[e]at g2;obtain⟨b,e2,Z⟩:=g2;rw[e2]at z;cases z
     obtain⟨t,rfl⟩:∃t,u=.truth t:=by
      cases u with
      |truth t=>exact⟨t,rfl⟩
      |pat q=>cases ho
      |atleast n q=>cases ho
      |atmost n q=>cases ho
      |_=>cases hp
     refine⟨_,rfl,a,CW,dx,_,_,rfl,s1 _ _ g1,T.cls,T.nf _ (by simp),rfl,rfl,(by show 1<=sizeLine;decide),fun q hq=>?_⟩;have uy:l≠q:=cC (s1 _ _ hl) hq;refine⟨_,rfl,l,_,rfl,.inl (aH.of (by rw[ba uy];exact s1 _ _ hl)),_,_,rfl,rfl,q,_,_,rfl,rfl,aD,?_⟩;rw[bC,eA];refine⟨by lia,by lia,big _ (by simp;lia),fun D2 Ke=>?_⟩;refine kk D2 _ (aq.free (bj (aq.refl H1) hq) Ke) (bj (bj (aq.refl _) hq) Ke) ?_;rw[aD,show(((es.length:Nat):Int)+1).toNat=es.length+1 by lia];have ew:decide (V.str (S (wordOf (.truth t)))=V.str (bB "true"))=t:=by
      rw[oq (s:="true") (b:=aX "true") rfl];cases t<;>decide+kernel
     rw[ew];have er:∀m:Nat,(jh m [V.bl t]).flatten=((cW m).map fun Z=>t).map V.bl:=fun m=>by
      induction m with
      |zero=>rfl
      |succ m ih=>rw[yh,x8,ih,vx];simp[Function.comp_def]
     rw[er];rfl
    .cases e:own u with
     |none=>rw[e]at g2;exact absurd g2 z
     |some p=>
      exact⟨_,rfl,_,rfl,a,l,u,p,as,es,rfl,hwa.same s1,e,jF.own e,s1 _ _ hl,dj.same s1,gT,kk⟩
open Vatrca (OPEN)
noncomputable def tkF(wd:au)(p:Nat)(pv:V):List (ah×V):=[("text",.str (S wd)),("place",.int (p:Nat)),("pattern",pv)]
noncomputable def Tk(CP CT:aa)(H:Hp)(a:aa)(wd:au)(p:Nat)(o:Option cM):Prop:=∃dx pv,H a=some (.ins CT dx (tkF wd p pv))/\lh CP H pv o
theorem Tk.same{CP CT:aa}{H H':Hp}{a:aa}{wd:au}{p:Nat}{o:Option cM}(h:Tk CP CT H a wd p o)(s:aq H H'):Tk CP CT H' a wd p o:=let ⟨dx,pv,q,r⟩:=h;⟨dx,pv,s _ _ q,r.same s⟩
noncomputable abbrev nz:List ah:=["text","place","pattern"]
theorem Ie(t:au){p q:Nat}(hp:p<=t.length):lM (S t) (some (p:Nat)) (some (q:Nat))=S ((t.drop p).take (q-p)):=by
 unfold lM;rw[bR,oh hp,HT.oh,eS];refine TL.oN ?_;show((t.map fQ).drop p).take (min q t.length-p)=(S ((t.drop p).take (q-p))).cps.toList;rw[eS,<-oz,<-tF];congr 1;by_cases h:q<=t.length
 .rw[ZU h]
 .rw[Nat.min_eq_right (by lia),yi (by rw[iM];lia),yi (by rw[iM];lia)]
theorem aov(t:au){p:Nat}(hp:p<=t.length):E2 (S t) (S [45,62]) (p:Nat)=true↔(t.drop p).take 2=[45,62]:=by
 have e:vN (S t).length ((p:Nat):Int)=p:=by
  unfold vN;rw[if_neg (by lia)];lia
 have h:=TL.Cc (x:=S t) (y:=S [45,62]) (by show(S [45,62]).cps.toList≠[];rw[eS];simp) p;unfold E2;rw[e,cH,decide_eq_true_eq];refine(show aaC (S t) (S [45,62]) (S t).length p↔_ from h).trans ?_;show TL.pre (S [45,62]).cps.toList ((S t).cps.toList.drop p)=true↔_;rw[eS,eS];show((FV fQ t).drop p).take 2==[45,62]↔_;rw[<-oz,<-tF,beq_iff_eq];constructor
 .intro q;refine(ZE fun x y z=>yR.mp z).mp (q.trans rfl)
 .intro q;rw[q];rfl
theorem aoe:∀c:UInt8,decide (c.toNat∈(bB "!&|()").cps.toList)=ko c:=Vt.iQ (by decide+kernel)
noncomputable def R1(CP CT:aa)(H:Hp)(Q:VK)(p:Nat)(r:Option (au×Option cM)):Prop:=(r=none->∀H',aq H H'->Q .aO H')/\∀wd o,r=some (wd,o)->∀a H',H a=none->aq H H'->Tk CP CT H' a wd p o->(∀q,o=some q->fO q)->Q (.ref a) H'
noncomputable abbrev NY:aW:=inClass (top 51) 0
theorem an1:bE ["self","text","place","pattern"] ["self","text","place","pattern"] (aP NY):=bF
theorem alH{f C:aa}{fd:bu}(F:bt K "__init__" "Token.__init__" NY f fd)(T:Ty K C nz):bh P w K mg base az 1 f fd ["self","text","place","pattern"] (eP C nz):=by
 refine F.ok an1 (fun vs H Q E h=>?_) (fun aJ A outer s H vs Q E hr h=>?_)
 .obtain⟨x,dx,us,rfl,hl,Z⟩:=h;simpa using hl
 .obtain⟨x,dx,us,rfl,hl,hx,k⟩:=h;obtain⟨a,b,c,rfl⟩:=le3 hl;refine⟨_,aw (fg (pv 0) (pv 1) rfl) (aw (fg (pv 0) (pv 2) rfl) (aA (fg (pv 0) (pv 3) rfl))),?_⟩;refine⟨_,rfl,_,rfl,x,C,dx,[],rfl,hx,T.cls,T.nf _ (by simp),(by decide),?_⟩;rw[fu (fs:=[]) (by decide+kernel)];refine⟨_,rfl,_,rfl,x,C,dx,_,rfl,aD,T.cls,T.nf _ (by simp),(by show 1<1000;decide),?_⟩;rw[fE,fu (by rfl)];refine⟨_,rfl,_,rfl,x,C,dx,_,rfl,aD,T.cls,T.nf _ (by simp),(by show 2<1000;decide),?_⟩;rw[fE,fu (by rfl)];exact k
theorem LU{CP CT:aa}{H:Hp}{Q:VK}{wd:au}{p:Nat}{pv:V}{o:Option cM}(hp:lh CP H pv o)(k:∀a H',H a=none->aq H H'->Tk CP CT H' a wd p o->Q (.ref a) H'):∀x dx,H x=none->H dx=none->dx≠x->eP CT nz [.ref x,.str (S wd),.int (p:Nat),pv] (upd (upd H dx (.own x)) x (.ins CT dx [])) (fun v H2=>v=.aO/\Q (.ref x) H2) E0:=fun x dx n1 n2 n3=>by
 refine⟨x,dx,_,rfl,rfl,aD,rfl,?_⟩;rw[fE];have sm:=bj (bj (o:=HO.own x) (aq.refl H) n2) (p:=x) (o:=HO.ins CT dx (nz.zip [V.str (S wd),.int (p:Nat),pv])) (by rw[ba n3.symm];exact n1);exact k x _ n1 sm ⟨dx,pv,aD,hp.same sm⟩
noncomputable abbrev N3:aW:=top 55
noncomputable def Pn:Sp:=fun vs H Q Z=>∃(t:au)(p:Nat),vs=[.str (S t),.int (p:Nat)]/\ek t/\p<=t.length/\t.length<=100000/\Q (.int ((p+((t.drop p).takeWhile bW).length:Nat):Int)) H
theorem Ol:bE ["text","place","end"] ["text","place"] (aP N3):=bF
theorem alP{f:aa}{fd:bu}(F:bt K "word_end" "word_end" N3 f fd)(B:Bt mg)(F1:Fn P w K mg base az 1 "is_letters" ["text"] AN):bh P w K mg base az 2 f fd ["text","place"] Pn:=by
 refine F.ok Ol (fun vs H Q E h=>?_) (fun aJ A outer s H vs Q E hr h=>?_)
 .obtain⟨t,p,rfl,Z⟩:=h;rfl
 .obtain⟨t,p,rfl,ha,hp,hl,k⟩:=h;refine⟨_,aw (aZ (i:=2) Ol.nd rfl (aF rfl) (pv 1)) (aw (uR kg (PW.pt (nX (bq nU (pv 2) (cK lK (by rfl) B.len dv (ai (pv 0) aj)) (bp _)) (nY (f6 (aU F1 hr rfl aY (ai (bZ sf (pv 0) (pv 2) (fun Z Z=>rfl)) aj)))))) (aA (pj (i:=2) Ol.nd rfl (aF rfl) bc wY))) (aA (aI (pv 2)))),?_⟩;have zt:=kR t (by lia);refine⟨_,rfl,?_⟩;refine⟨fun m σ H'=>∃q:Nat,m=t.length-q/\σ=[some (.str (S t)),some (.int (p:Nat)),some (.int (q:Nat))]/\H'=H/\q<=t.length/\q+((t.drop q).takeWhile bW).length=p+((t.drop p).takeWhile bW).length,⟨_,p,rfl,rfl,rfl,hp,rfl⟩,?_⟩;rintro m σ H' ⟨q,rfl,rfl,rfl,hq,he⟩;refine⟨_,rfl,_,rfl,_,rfl,zt,_,_,rfl,rfl,_,rfl,?_⟩;rw[bR];refine bD (fun z=>?_) (fun z=>?_)
  .have bI:q<t.length:=by lia
   obtain⟨c,hc⟩:∃c,t[q]? =some c:=⟨_,cV bI⟩;have hd:t.drop q=c::t.drop (q+1):=by
    rw[tu bI,(dQ.mp hc).2]
   refine⟨_,rfl,_,rfl,_,_,c.toNat,rfl,rfl,zt,bY (by rw[rq,hc];rfl),[c],rfl,iR (fun d hd=>by rw[eY.mp hd];exact jf hc) ha,_,rfl,?_⟩;have es:(!([c]:au).isEmpty&&([c]:au).all bW)=bW c:=by simp
   rw[es];refine jA (fun y=>?_) (fun y=>?_)
   .refine⟨fun σ' eJ=>∃m',m'<t.length-q/\∃q:Nat,m'=t.length-q/\σ'=[some (.str (S t)),some (.int (p:Nat)),some (.int (q:Nat))]/\eJ=H'/\q<=t.length/\q+((t.drop q).takeWhile bW).length=p+((t.drop p).takeWhile bW).length,fun Z Z x=>x,?_⟩;refine⟨_,rfl,_,_,rfl,rfl,_,(by lia:t.length-(q+1)<t.length-q),q+1,rfl,rfl,rfl,by lia,?_⟩;rw[<-he,hd,List.takeWhile_cons_of_pos y,cy];lia
   .rw[hd,List.takeWhile_cons_of_neg (by rw[y];decide)]at he;simp only[je,F7]at he;rw[<-he]at k;exact⟨_,rfl,k⟩
  .have:q=t.length:=by lia
   subst this;rw[vq]at he;simp only[List.takeWhile_nil,je,F7]at he;refine Dn ?_;rw[<-he]at k;exact⟨_,rfl,k⟩
noncomputable abbrev Nu:aW:=top 54
noncomputable def xo(t:au):Option (au×Option cM):=match cZ fj t with
 |none=>none
 |some (a,_)=>(gb (a++[fj])).map fun p=>(a++[fj],some p)
noncomputable def OR(CP CT:aa):Sp:=fun vs H Q Z=>∃(t:au)(p:Nat),vs=[.str (S t),.int (p:Nat)]/\ek t/\p<=t.length/\t.length<=100000/\R1 CP CT H Q p (xo (t.drop p))
noncomputable abbrev ajx:List ah:=["text","place","last","written","pattern"]
theorem ED:bE ajx ["text","place"] (aP Nu):=bF
theorem akZ{f CP CT:aa}{fd:bu}(F:bt K "pattern_at" "pattern_at" Nu f fd)(F1:Fn P w K mg base az 4 "read_pattern" ["text"] (EX CP))(M:Cl P w K mg base 1 "Token" CT ["self","text","place","pattern"] (eP CT nz)):bh P w K mg base az 5 f fd ["text","place"] (OR CP CT):=by
 refine F.ok ED (fun vs H Q E h=>?_) (fun aJ A outer s H vs Q E hr h=>?_)
 .obtain⟨t,p,rfl,Z⟩:=h;rfl
 .obtain⟨t,p,rfl,ha,hp,hl,kN,kS⟩:=h;have ck:bb 2 _:=hr.mono (by decide);refine⟨_,aw (aZ (i:=2) ED.nd rfl (aF rfl) (Ms Rb aap VO (pv 0) bH (pv 1))) (aw (bx (bq nU (pv 2) bc (bp _)) (aA (aI cT)) bA) (aw (aZ (i:=3) ED.nd rfl (aF rfl) (mR AI (pv 0) (gE (pv 1)) (gE (dH mQ (pv 2) bc)))) (aw (aZ (i:=4) ED.nd rfl (aF rfl) (aU F1 hr rfl aY (ai (pv 3) aj))) (aw (bx (bq j4 (pv 4) cT (bp _)) (aA (aI cT)) bA) (aA (aI (gC M ck rfl (ai (pv 3) (ai (pv 1) (ai (pv 4) aj)))))))))),?_⟩;have zt:=kR t (by lia);refine⟨_,rfl,⟨_,rfl⟩,_,rfl,_,_,_,rfl,rfl,_,rfl,_,_,rfl,rfl,_,rfl,?_⟩;rw[show bB "]"=S [93]from rfl];rcases TU t 93 hp with⟨h1,h2⟩|⟨a,b,h1,h2,h3⟩
  .rw[h2];refine Vc (kN ?_ _ (aq.refl _));unfold xo;rw[show fj=93 from rfl,Vt.SW h1]
  .rw[h3];refine bD (fun z=>absurd z (by lia)) (fun Z=>?_);have hlen:p+a.length+1<=t.length:=by
    have:=congrArg ox h1;simp at this;lia
   have t8:lM (S t) (some ((p:Nat):Int)) (some (((p+a.length:Nat):Int)+1))=S (a++[93]):=by
    rw[show((p+a.length:Nat):Int)+1=((p+a.length+1:Nat):Int) by lia,Ie t hp,h1,show p+a.length+1-p=a.length+1 by lia];congr 1;rw[List.take_append];simp;exact yi (by lia)
   have JR:xo (t.drop p)=(gb (a++[93])).map fun p=>(a++[93],some p):=by
    unfold xo;rw[h1,show fj=93 from rfl,Vt.Co h2]
   rw[JR]at kN kS;refine⟨_,rfl,_,rfl,_,rfl,_,rfl,_,_,rfl,rfl,_,rfl,_,rfl,zt,?_⟩;rw[t8];refine⟨_,rfl,a++[93],rfl,iR (fun d hd=>?_) ha,by simp;lia,fun zG H2 s2=>?_,fun q hq x H2 hx s2 iW=>?_⟩
   .refine yg (i:=p) ?_;rw[h1];rcases jJ.mp hd with h|h
    .simp[h]
    .rw[eY.mp h];simp
   .exact⟨_,rfl,rfl,_,rfl,bD (fun Z=>kN (by rw[zG];rfl) _ s2) (fun z=>absurd rfl z)⟩
   .refine⟨_,rfl,rfl,_,rfl,bD (fun z=>nomatch z) (fun Z=>?_)⟩;refine⟨_,rfl,_,rfl,_,rfl,LU (o:=some q) ⟨x,rfl,iW⟩ fun y H3 hy s3 jx=>?_⟩;exact kS _ _ (by rw[hq];rfl) y H3 (s2.free hy) (s2.trans s3) jx (fun q' e=>by cases e;exact Wx hq)
theorem xb(c:UInt8)(r:au):Vt.su (c::r)=if ko c=true then some ([c],none)else if c=45/\r.head?=some 62 then some ([45,62],none)else if c=OPEN then xo (c::r)else if bW c=true then some ((c::r).takeWhile bW,none)else if di c=true/\di (r.headD 0)=false then some ([c],none)else none:=rfl
noncomputable abbrev NW:aW:=top 53
noncomputable def Pg(CP CT:aa):Sp:=fun vs H Q Z=>∃(t:au)(p:Nat),vs=[.str (S t),.int (p:Nat)]/\ek t/\p<t.length/\t.length<=100000/\R1 CP CT H Q p (Vt.su (t.drop p))
noncomputable abbrev ajN:List ah:=["text","place","first"]
theorem XR:bE ajN ["text","place"] (aP NW):=bF
theorem alF{f CP CT:aa}{fd:bu}(F:bt K "token_at" "token_at" NW f fd)(c1:bT mg "SIGNS_tokens" (.str "!&|()"))(F1:Fn P w K mg base az 5 "pattern_at" ["text","place"] (OR CP CT))(F2:Fn P w K mg base az 1 "is_letters" ["text"] AN)(F3:Fn P w K mg base az 2 "word_end" ["text","place"] Pn)(M:Cl P w K mg base 1 "Token" CT ["self","text","place","pattern"] (eP CT nz)):bh P w K mg base az 6 f fd ["text","place"] (Pg CP CT):=by
 refine F.ok XR (fun vs H Q E h=>?_) (fun aJ A outer s H vs Q E hr h=>?_)
 .obtain⟨t,p,rfl,Z⟩:=h;rfl
 .obtain⟨t,p,rfl,ha,hp,hl,kN,kS⟩:=h;have bM:bb 1 _:=hr.mono (by decide);have ck:bb 2 _:=hr.mono (by decide);refine⟨_,aw (aZ (i:=2) XR.nd rfl (aF rfl) (bZ sf (pv 0) (pv 1) (fun Z Z=>rfl))) (aw (bx (bq alW (pv 2) (bP c1 rfl) (by rfl)) (aA (aI (gC M ck rfl (ai (pv 2) (ai (pv 1) (ai cT aj)))))) bA) (aw (bx (f6 (Ms aam PySem.F.type_str_startswith ajg (pv 0) bH (pv 1))) (aA (aI (gC M ck rfl (ai bH (ai (pv 1) (ai cT aj)))))) bA) (aw (bx (bq cg (pv 2) bH (bp _)) (aA (aI (aU F1 hr rfl aY (ai (pv 0) (ai (pv 1) aj))))) bA) (aw (bx (f6 (aU F2 bM rfl aY (ai (pv 2) aj))) (aA (aI (gC M ck rfl (ai (mR AI (pv 0) (gE (pv 1)) (gE (aU F3 ck rfl aY (ai (pv 0) (ai (pv 1) aj))))) (ai (pv 1) (ai cT aj)))))) bA) (aw (bx (PW.pt (nX (f6 (xt Gk Gn Dx (pv 2))) (nY (jD (f6 (xt Gk Gn Dx (mR AI (pv 0) (gE (dH mQ (pv 1) bc)) (gE (dH mQ (pv 1) bc))))))))) (aA (aI (gC M ck rfl (ai (pv 2) (ai (pv 1) (ai cT aj)))))) bA) (aA (aI cT))))))),?_⟩;have zt:=kR t (by lia);obtain⟨c,hc⟩:∃c,t[p]? =some c:=⟨_,cV hp⟩;have hd:t.drop p=c::t.drop (p+1):=by
   rw[tu hp,(dQ.mp hc).2]
  have Kp:ek [c]:=iR (fun d hd=>by rw[eY.mp hd];exact jf hc) ha;generalize UT:t.drop (p+1)=r at hd;rw[hd]at kN kS;have new:∀wd:au,Vt.su (c::r)=some (wd,none)->∀H':Hp,aq H H'->∀x dx,H' x=none->H' dx=none->dx≠x->eP CT nz [.ref x,.str (S wd),.int (p:Nat),.aO] (upd (upd H' dx (.own x)) x (.ins CT dx [])) (fun v H2=>v=.aO/\Q (.ref x) H2) E0:=fun wd e H' s1=>LU (CP:=CP) (o:=none) rfl fun y H3 hy s3 jx=>kS wd none e y H3 (s1.free hy) (s1.trans s3) jx (fun q e=>nomatch e);refine⟨_,rfl,_,rfl,_,_,c.toNat,rfl,rfl,zt,bY (by rw[rq,hc];rfl),?_⟩;refine⟨_,rfl,c.toNat,_,rfl,rfl,_,rfl,?_⟩;rw[aoe];refine jA (fun z=>?_) (fun z1=>?_)
  .exact⟨_,rfl,_,rfl,new [c] (by rw[xb,if_pos z]) _ (aq.refl _)⟩
  have n1:¬ko c=true:=by rw[z1];decide
  refine⟨_,rfl,⟨_,rfl⟩,_,rfl,_,_,_,rfl,rfl,_,rfl,?_⟩;rw[show bB "->"=S [45,62]from rfl];have lP:=aov t (qM hp);rw[hd]at lP;have Tf:(c::r).take 2=[45,62]↔(c=45/\r.head?=some 62):=by
   cases r with
   |nil=>simp
   |cons d r=>simp
  refine jA (fun z=>?_) (fun z=>?_)
  .exact⟨_,rfl,new [45,62] (by rw[xb,if_neg n1,if_pos (Tf.mp (lP.mp z))]) _ (aq.refl _)⟩
  have n2:¬(c=45/\r.head?=some 62):=fun q=>by rw[lP.mpr (Tf.mpr q)]at z;cases z
  refine⟨_,rfl,rfl,_,rfl,bD (fun z=>?_) (fun z=>?_)⟩
  .have ec:c=OPEN:=by
    have:=iy (a:=[c]) (b:=[91]) (V.str.inj z);exact(A9 this).1
   have em:Vt.su (c::r)=xo (c::r):=by
    rw[xb,if_neg n1,if_neg n2,if_pos ec]
   rw[em,<-hd]at kN;rw[<-hd]at em;refine⟨_,rfl,_,rfl,t,p,rfl,ha,qM hp,hl,kN,fun wd o e=>kS wd o ?_⟩;rw[<-hd,em];exact e
  have n3:¬c=OPEN:=fun q=>z (by rw[q];rfl);refine⟨_,rfl,[c],rfl,Kp,_,rfl,?_⟩;rw[show(!([c]:au).isEmpty&&([c]:au).all bW)=bW c by simp];refine jA (fun z=>?_) (fun z=>?_)
  .refine⟨_,rfl,_,rfl,_,rfl,_,rfl,_,rfl,t,p,rfl,ha,qM hp,hl,_,rfl,_,rfl,zt,_,rfl,?_⟩;have t8:lM (S t) (some ((p:Nat):Int)) (some ((p+((t.drop p).takeWhile bW).length:Nat):Int))=S ((c::r).takeWhile bW):=by
    rw[Ie t (qM hp),show p+((t.drop p).takeWhile bW).length-p=((t.drop p).takeWhile bW).length by lia,hd];congr 1;exact List.prefix_iff_eq_take.mp (List.takeWhile_prefix _)|>.symm
   rw[t8];exact new _ (by rw[xb,if_neg n1,if_neg n2,if_neg n3,if_pos z]) _ (aq.refl _)
  have n4:¬bW c=true:=by rw[z];decide
  refine⟨_,rfl,⟨_,rfl⟩,_,rfl,rfl,trivial,_,rfl,?_⟩;rw[show(⟨#[c.toNat]⟩:ah)=S [c]from rfl,digits_eq Kp,show(!([c]:au).isEmpty&&([c]:au).all di)=di c by simp];have Vw:¬(di c=true/\di (r.headD 0)=false)->Q .aO H:=fun q=>kN (by rw[xb,if_neg n1,if_neg n2,if_neg n3,if_neg n4,if_neg q]) _ (aq.refl _);refine jA (fun z=>?_) (fun z=>?_)
  .have t8:lM (S t) (some (((p:Nat):Int)+1)) (some (((p:Nat):Int)+2))=S (r.take 1):=by
    rw[show((p:Nat):Int)+1=((p+1:Nat):Int) by lia,show((p:Nat):Int)+2=((p+2:Nat):Int) by lia,Ie t (by lia),UT,show p+2-(p+1)=1 by lia]
   have hra:ek (r.take 1):=iR (fun d hd=>yg (i:=p+1) (by rw[UT];exact QK hd)) ha;refine⟨_,rfl,_,rfl,_,_,rfl,rfl,_,rfl,_,rfl,_,_,rfl,rfl,_,rfl,_,rfl,zt,⟨_,rfl⟩,_,rfl,rfl,trivial,_,rfl,?_⟩;rw[t8,digits_eq hra];have ed:(!(r.take 1).isEmpty&&(r.take 1).all di)=di (r.headD 0):=by
    cases r with
    |nil=>decide
    |cons d r=>simp
   rw[ed];refine mO (fun y=>?_) (fun y=>Vw fun q=>by rw[y]at q;cases q.2);exact⟨_,rfl,_,rfl,new [c] (by rw[xb,if_neg n1,if_neg n2,if_neg n3,if_neg n4,if_pos ⟨z,y⟩]) _ (aq.refl _)⟩
  .refine Dn (Vw fun q=>by rw[z]at q;cases q.1)
open Vatrca (At)
structure jm(CP CT:aa)(H:Hp)(a:aa)(x:At):Prop where
 ex:∃wd o,Tk CP CT H a wd x.place o/\Vt.iO x.tok wd o/\ek wd/\wd.length<=1000/\∀q,o=some q->fO q
theorem jm.same{CP CT:aa}{H H':Hp}{a:aa}{x:At}(h:jm CP CT H a x)(s:aq H H'):jm CP CT H' a x:=let ⟨wd,o,t,r⟩:=h.ex;⟨wd,o,t.same s,r⟩
theorem Rg.lst{H:Hp}{v:V}{r:Option eF}{l:aa}{xs ys:List V}(h:Rg H v r)(hl:H l=some (.lst xs)):Rg (upd H l (.lst ys)) v r:=by
 cases r with
 |none=>exact h
 |some r=>obtain⟨b,e,q⟩:=h;exact⟨b,e,by rw[ba (fe q hl (fun z=>by cases z))];exact q⟩
theorem Pt.lst{C:aa}{H:Hp}{a l:aa}{p:cM}{xs ys:List V}(h:Pt C H a p)(hl:H l=some (.lst xs)):Pt C (upd H l (.lst ys)) a p:=let ⟨dx,nv,gv,q,r1,r2⟩:=h;⟨dx,nv,gv,by rw[ba (fe q hl (fun z=>by cases z))];exact q,r1.lst hl,r2.lst hl⟩
theorem Tk.lst{CP CT:aa}{H:Hp}{a l:aa}{wd:au}{p:Nat}{o:Option cM}{xs ys:List V}(h:Tk CP CT H a wd p o)(hl:H l=some (.lst xs)):Tk CP CT (upd H l (.lst ys)) a wd p o:=by
 obtain⟨dx,pv,q,r⟩:=h;refine⟨dx,pv,by rw[ba (fe q hl (fun z=>by cases z))];exact q,?_⟩;cases o with
 |none=>exact r
 |some p=>
  obtain⟨b,e,r⟩:=r;exact⟨b,e,Pt.lst r hl⟩
theorem jm.lst{CP CT:aa}{H:Hp}{a l:aa}{x:At}{xs ys:List V}(h:jm CP CT H a x)(hl:H l=some (.lst xs)):jm CP CT (upd H l (.lst ys)) a x:=let ⟨wd,o,t,r⟩:=h.ex;⟨wd,o,t.lst hl,r⟩
noncomputable def Ends(ts:List At):Prop:=∃p,ts.getLast?=some ⟨p,.finish⟩
theorem PX:∀(k p:Nat)(t:au)(ts:List At),fm k p t=.ok ts->Ends ts
 |k,p,[],ts,h=>by
  rw[Vt.PR]at h;cases h;exact⟨p,rfl⟩
 |0,p,c::r,ts,h=>by
  rw[fm]at h;cases h
 |k+1,p,c::r,ts,h=>by
  by_cases hb:c=pS
  .subst hb;rw[Vt.YD]at h;exact PX k _ r ts h
  .cases e:lI (c::r)with
   |none=>rw[Vt.PN hb e]at h;cases h
   |some y=>
    obtain⟨x,n⟩:=y;rw[Vt.PU hb e]at h;cases e2:fm k (p+n) ((c::r).drop n)with
    |error f=>rw[e2]at h;cases h
    |ok us=>
     rw[e2]at h;cases h;obtain⟨q,hq⟩:=PX k _ _ us e2;refine⟨q,?_⟩;cases us with
     |nil=>cases hq
     |cons u us=>
      show(_::u::us).getLast?=_;rw[Zv];exact hq
noncomputable abbrev M7:aW:=top 52
noncomputable def OG(CP CT CF:aa):Sp:=fun vs H Q E=>∃t:au,vs=[.str (S t)]/\ek t/\t.length<=1000/\(∀ts,fm (t.length+1) 0 t=.ok ts->∀l as H',H l=none->aq H H'->H' l=some (.lst (as.map V.ref))->Al (jm CP CT H') as ts->ts.length<=t.length+1->Ends ts->Q (.ref l) H')/\∀f,fm (t.length+1) 0 t=.error f->Rz CF E f (aq H)
noncomputable abbrev ajq:List ah:=["text","tokens","place","token"]
theorem xB:bE ajq ["text"] (aP M7):=bF
theorem akB{f CP CT CF:aa}{fd:bu}(F:bt K "cut_tokens" "cut_tokens" M7 f fd)(B:Bt mg)(T:Flt K mg CF)(c1:bT mg "NO_TOKEN" (.int 2))(c2:bT mg "END" (.str ""))(TT:Ty K CT nz)(F1:Fn P w K mg base az 6 "token_at" ["text","place"] (Pg CP CT))(M:Cl P w K mg base 1 "Token" CT ["self","text","place","pattern"] (eP CT nz)):bh P w K mg base (XE P w) 7 f fd ["text"] (OG CP CT CF):=by
 refine fL F xB (fun vs H Q E h=>?_) (fun aJ A outer s H vs Q E hr h=>?_)
 .obtain⟨t,rfl,Z⟩:=h;rfl
 .obtain⟨t,rfl,ha,hl,kS,kE⟩:=h;have ck:bb 2 _:=hr.mono (by decide);refine⟨_,aw (aZ (i:=1) xB.nd rfl (aF rfl) (cv aj)) (aw (aZ (i:=2) xB.nd rfl (aF rfl) bc) (aw (uR Gs (bq nU (pv 2) (cK lK (by rfl) B.len dv (ai (pv 0) aj)) (bp _)) (aw (bx (bq cg (bZ sf (pv 0) (pv 2) (fun Z Z=>rfl)) bH (bp _)) (aw (pj (i:=2) xB.nd rfl (aF rfl) bc wY) (aA WT)) bA) (aw (aZ (i:=3) xB.nd rfl (aF rfl) (aU F1 hr rfl aY (ai (pv 0) (ai (pv 2) aj)))) (aw (bx (bq j4 (pv 3) cT (bp _)) (aA (px T ck rfl (ai (bP c1 rfl) (ai (pv 2) aj)))) bA) (aw (ej (iG g9 lj mi lZ (pv 1) (ai (pv 3) aj))) (aA (pj (i:=2) xB.nd rfl (aF rfl) (cK lK (by rfl) B.len dv (ai (aN (pv 3) rfl) aj)) wY))))))) (aw (ej (iG g9 lj mi lZ (pv 1) (ai (gC M ck rfl (ai (bP c2 rfl) (ai (cK lK (by rfl) B.len dv (ai (pv 0) aj)) (ai cT aj)))) aj))) (aA (aI (pv 1)))))),?_⟩;refine⟨dJ _,fun l iC=>?_⟩;have zt:=kR t (by lia);refine⟨fun m σ H'=>∃(p k:Nat)(v3:Option V)(as:List aa)(xs:List At),m=t.length-p/\σ=[some (.str (S t)),some (.ref l),some (.int (p:Nat)),v3]/\p<=t.length/\aq H H'/\H' l=some (.lst (as.map V.ref))/\Al (jm CP CT H') as xs/\xs.length<=p/\t.length-p<k/\fm (t.length+1) 0 t=Vt.behind xs (fm k p (t.drop p)),⟨_,0,t.length+1,none,[],[],rfl,rfl,dJ _,bj (aq.refl _) iC,aD,Al.nil,dJ _,by lia,?_⟩,?_⟩
  .rw[Vt.Ss];rfl
  rintro m σ H' ⟨p,k,v3,as,xs,rfl,rfl,hp,sm,gA,dj,hxl,hk,bV⟩;have dO:=dj.1;refine⟨_,rfl,_,rfl,_,rfl,zt,_,_,rfl,rfl,_,rfl,?_⟩;rw[bR];refine bD (fun h1=>?_) (fun h1=>?_)
  .have bI:p<t.length:=by lia
   obtain⟨k,rfl⟩:∃j,k=j+1:=⟨k-1,by lia⟩;obtain⟨c,hc⟩:∃c,t[p]? =some c:=⟨_,cV bI⟩;have hd:t.drop p=c::t.drop (p+1):=by
    rw[tu bI,(dQ.mp hc).2]
   refine⟨fun σ' eJ=>∃m',m'<t.length-p/\∃(p k:Nat)(v3:Option V)(as:List aa)(xs:List At),m'=t.length-p/\σ'=[some (.str (S t)),some (.ref l),some (.int (p:Nat)),v3]/\p<=t.length/\aq H eJ/\eJ l=some (.lst (as.map V.ref))/\Al (jm CP CT eJ) as xs/\xs.length<=p/\t.length-p<k/\fm (t.length+1) 0 t=Vt.behind xs (fm k p (t.drop p)),fun Z Z z=>z,?_⟩;refine⟨_,rfl,_,rfl,_,_,c.toNat,rfl,rfl,zt,bY (by rw[rq,hc];rfl),rfl,_,rfl,?_⟩;refine bD (fun h2=>?_) (fun h2=>?_)
   .have rP:c=32:=by
     have:=iy (a:=[c]) (b:=[32]) (V.str.inj h2);simpa using this
    subst rP;refine⟨_,rfl,_,_,rfl,rfl,_,(by lia:t.length-(p+1)<t.length-p),p+1,k,v3,as,xs,rfl,rfl,by lia,sm,gA,dj,by lia,by lia,?_⟩;rw[bV,hd];rfl
   .have rP:¬c=pS:=fun z=>h2 (by rw[z];rfl);refine⟨_,rfl,_,rfl,t,p,rfl,ha,bI,by lia,fun zG H2 s2=>?_,fun wd o ahj a H2 hx s2 jx aT=>?_⟩
    .refine⟨_,rfl,rfl,_,rfl,bD (fun Z=>?_) (fun z=>absurd rfl z)⟩;refine⟨_,rfl,_,_,rfl,fun ex dx n1 n2 n3=>?_⟩;have hn:=Vt.ai0 zG;rw[hd]at hn;refine(kE ⟨2,p⟩ ?_).raise n1 n2 n3 fun H3 s3=>(sm.trans s2).trans s3;rw[bV,hd,Vt.PN rP hn];rfl
    .refine⟨_,rfl,rfl,_,rfl,bD (fun z=>nomatch z) (fun Z=>?_)⟩;have qi:=s2 _ _ gA;obtain⟨x,n,U0,Dd⟩:=Vt.ai1 ahj;obtain⟨rst,C8⟩:=Dd.pre;have lU:=Dd.len;have KQ:=Dd.pos;have hlen:p+wd.length<=t.length:=by
      have:=congrArg ox C8;simp at this;lia
     refine⟨_,rfl,.inl ⟨rfl,_,aH.of qi⟩,_,rfl,l,_,_,rfl,rfl,qi,dN _ (by rw[bC];lia),?_⟩;have zO:=jx.lst (ys:=as.map V.ref++[V.ref a]) qi;obtain⟨dt,pt,q1,q2⟩:=zO;refine⟨_,rfl,_,rfl,a,CT,dt,_,_,rfl,q1,TT.cls,TT.nf _ (by simp),rfl,_,rfl,kR wd (by lia),_,_,rfl,rfl,?_⟩;refine⟨_,(by lia:t.length-(p+wd.length)<t.length-p),p+wd.length,k,some (.ref a),as++[a],xs++[⟨p,x⟩],rfl,?_,hlen,gH (sm.trans s2) iC,?_,?_,by simp;lia,by lia,?_⟩
     .rw[bR];rfl
     .rw[aD,fz];rfl
     .refine Al.append (dj.mono fun b y Z r=>(r.same s2).lst qi) (Al.cons ⟨wd,o,⟨dt,pt,q1,q2⟩,Dd.rel,iR (fun d hd=>yg (i:=p) (by rw[C8];simp[hd])) ha,by lia,aT⟩ Al.nil)
     .rw[hd]at U0;rw[bV,hd,Vt.PU rP U0,Vt.Sr,<-hd,lU,pH]
  .have uC:p=t.length:=by lia
   subst uC;refine⟨_,rfl,.inl ⟨rfl,_,aH.of gA⟩,_,rfl,_,rfl,zt,?_⟩;rw[bR,show bB ""=S []from rfl];dsimp only[bQ,dk,tC];refine LU (CP:=CP) (o:=none) (Q:=fun v H2=>DX (V.ref l) [v] H2 fun x H1=>b8 (aS 1) {nx:=fun x H'=>Q V.aO H',rt:=Q} [some (V.str (S t)),some (V.ref l),some (V.int ((t.length:Nat):Int)),v3] H1) rfl fun a H3 hy s3 jx=>?_;have KI:=s3 _ _ gA;refine⟨l,_,_,rfl,rfl,KI,dN _ (by rw[bC];lia),_,rfl,?_⟩;have Tq:fm (t.length+1) 0 t=.ok (xs++[⟨t.length,.finish⟩]):=by
    rw[bV,vq,Vt.PR];rfl
   refine kS _ Tq l (as++[a]) _ iC (gH (sm.trans s3) iC) (by rw[aD,fz];rfl) (Al.append (dj.mono fun b y Z r=>(r.same s3).lst KI) (Al.cons ⟨[],none,jx.lst KI,.finish,fun c hc=>by simp at hc,by simp,fun q e=>nomatch e⟩ Al.nil)) (by simp;lia) (PX _ _ _ _ Tq)
open Vatrca (At here)
noncomputable def b6(r:aa)(H H':Hp):Prop:=∀b o,H b=some o->b≠r->H' b=some o
theorem b6.refl{r:aa}(H:Hp):b6 r H H:=fun b o e Z=>e
theorem b6.trans{r:aa}{H H' eJ:Hp}(s:b6 r H H')(t:b6 r H' eJ):b6 r H eJ:=fun b o e n=>t b o (s b o e n) n
theorem b6.of{r:aa}{H H':Hp}(s:aq H H'):b6 r H H':=fun b o e Z=>s b o e
theorem b6.upd{r:aa}{H H':Hp}{o:HO}(s:b6 r H H'):b6 r H (upd H' r o):=fun b u e n=>by rw[ba n];exact s b u e n
theorem b6.new{r:aa}{H H':Hp}(s:b6 r H H')(hr:H r=none):aq H H':=fun b o e=>s b o e (cC e hr)
noncomputable def rF(l:aa)(n d:Nat):List (ah×V):=[("tokens",.ref l),("taken",.int (n:Nat)),("levels",.int (d:Nat))]
noncomputable def du(CR CP CT:aa)(H:Hp)(r:aa)(ts:List At)(L:Nat):Prop:=∃(dx l:aa)(as:List aa)(all:List At)(n:Nat),H r=some (.ins CR dx (rF l n (20-L)))/\H l=some (.lst (as.map V.ref))/\Al (jm CP CT H) as all/\all.length<=1001/\ts=all.drop n/\L<=20
theorem du.same{CR CP CT:aa}{H H':Hp}{r:aa}{ts:List At}{L:Nat}(h:du CR CP CT H r ts L)(s:aq H H'):du CR CP CT H' r ts L:=let ⟨dx,l,as,all,n,h1,h2,h3,h4⟩:=h;⟨dx,l,as,all,n,s _ _ h1,s _ _ h2,h3.mono fun a x Z q=>q.same s,h4⟩
theorem mU{CR CP CT:aa}{H:Hp}{r:aa}{ts:List At}{L:Nat}(h:du CR CP CT H r ts L):∃dx l n d,H r=some (.ins CR dx (rF l n d)):=let ⟨dx,l,as,all,n,h1,_⟩:=h;⟨dx,l,n,_,h1⟩
theorem Rg.gZ{H H':Hp}{r:aa}{v:V}{g:Option eF}{C dx l:aa}{n d:Nat}(h:Rg H v g)(s:b6 r H H')(hr:H r=some (.ins C dx (rF l n d))):Rg H' v g:=by
 cases g with
 |none=>exact h
 |some g=>obtain⟨b,e,q⟩:=h;exact⟨b,e,s _ _ q (fe q hr (fun z=>by cases z))⟩
theorem Pt.gZ{CP:aa}{H H':Hp}{r a:aa}{p:cM}{C dx l:aa}{n d:Nat}(h:Pt CP H a p)(s:b6 r H H')(hr:H r=some (.ins C dx (rF l n d))):Pt CP H' a p:=let ⟨dy,nv,gv,q,r1,r2⟩:=h
 ⟨dy,nv,gv,s _ _ q (fe q hr (fun z=>by cases z)),r1.gZ s hr,r2.gZ s hr⟩
theorem lh.gZ{CP:aa}{H H':Hp}{r:aa}{v:V}{o:Option cM}{C dx l:aa}{n d:Nat}(h:lh CP H v o)(s:b6 r H H')(hr:H r=some (.ins C dx (rF l n d))):lh CP H' v o:=by
 cases o with
 |none=>exact h
 |some p=>obtain⟨b,e,q⟩:=h;exact⟨b,e,Pt.gZ q s hr⟩
theorem jm.gZ{CP CT:aa}{H H':Hp}{r a:aa}{x:At}{C dx l:aa}{n d:Nat}(h:jm CP CT H a x)(s:b6 r H H')(hr:H r=some (.ins C dx (rF l n d))):jm CP CT H' a x:=by
 obtain⟨wd,o,⟨dy,pv,q1,q2⟩,r1⟩:=h.ex;exact⟨wd,o,⟨dy,pv,s _ _ q1 (fe q1 hr (fun z=>by cases z)),q2.gZ s hr⟩,r1⟩
theorem Ws.gZ{CP CW:aa}{H H':Hp}{r a:aa}{u:bN}{C dx l:aa}{n d:Nat}(h:Ws CP CW H a u)(s:b6 r H H')(hr:H r=some (.ins C dx (rF l n d))):Ws CP CW H' a u:=h.keep (fun b dy w pv l e=>s _ _ e (fe e hr (fun z=>by cases z))) (fun v o e=>e.gZ s hr) (fun b xs e=>s _ _ e (fe e hr (fun z=>by cases z)))
theorem du.put{CR CP CT:aa}{H H':Hp}{r dx l:aa}{as:List aa}{all ts:List At}{n n' d L:Nat}(h1:H r=some (.ins CR dx (rF l n d)))(h2:H l=some (.lst (as.map V.ref)))(h3:Al (jm CP CT H) as all)(h4:all.length<=1001)(h5:ts=all.drop n')(h6:L<=20)(s:b6 r H H')(e:H' r=some (.ins CR dx (rF l n' (20-L)))):du CR CP CT H' r ts L:=⟨dx,l,as,all,n',e,s _ _ h2 (fe h2 h1 (fun z=>by cases z)),h3.mono fun a x Z q=>q.gZ s h1,h4,h5,h6⟩
theorem Ends.ne{ts:List At}(h:Ends ts):ts≠[]:=fun z=>by obtain⟨p,e⟩:=h;rw[z]at e;cases e
theorem Ends.drop{ts:List At}(h:Ends ts)(hn:¬bf ts=.finish):Ends (ts.drop 1):=by
 obtain⟨p,e⟩:=h;cases ts with
 |nil=>cases e
 |cons x r=>
  cases r with
  |nil=>
   cases e;exact absurd rfl hn
  |cons y r=>exact⟨p,by rw[Zv]at e;exact e⟩
noncomputable abbrev JX:List ah:=["tokens","taken","levels"]
noncomputable abbrev NC:aW:=inClass (top 67) 0
theorem anU:bE ["self","tokens"] ["self","tokens"] (aP NC):=bF
noncomputable def OW(CR:aa):Sp:=fun vs H Q Z=>∃(x dx l:aa),vs=[.ref x,.ref l]/\H x=some (.ins CR dx [])/\Q .aO (upd H x (.ins CR dx (rF l 0 0)))
theorem alb{f CR:aa}{fd:bu}(F:bt K "__init__" "Reader.__init__" NC f fd)(T:Ty K CR JX):bh P w K mg base az 1 f fd ["self","tokens"] (OW CR):=by
 refine F.ok anU (fun vs H Q E h=>?_) (fun aJ A outer s H vs Q E hr h=>?_)
 .obtain⟨x,dx,l,rfl,Z⟩:=h;rfl
 .obtain⟨x,dx,l,rfl,hx,k⟩:=h;refine⟨_,aw (fg (pv 0) (pv 1) rfl) (aw (fg (pv 0) bc rfl) (aA (fg (pv 0) bc rfl))),?_⟩;refine⟨_,rfl,_,rfl,x,CR,dx,[],rfl,hx,T.cls,T.nf _ (by simp),(by decide),?_⟩;rw[fu (fs:=[]) (by decide+kernel)];refine⟨_,rfl,x,CR,dx,_,rfl,aD,T.cls,T.nf _ (by simp),(by show 1<1000;decide),?_⟩;rw[fE,fu (by rfl)];refine⟨_,rfl,x,CR,dx,_,rfl,aD,T.cls,T.nf _ (by simp),(by show 2<1000;decide),?_⟩;rw[fE,fu (by rfl)];exact k
noncomputable abbrev MY:aW:=inClass (top 67) 1
theorem anA:bE ["self"] ["self"] (aP MY):=bF
noncomputable def EO(CR CP CT:aa):Sp:=fun vs H Q Z=>∃(r:aa)(ts:List At)(L:Nat),vs=[.ref r]/\du CR CP CT H r ts L/\ts≠[]/\∀a x rest,ts=x::rest->jm CP CT H a x->Q (.ref a) H
theorem akn{f CR CP CT:aa}{fd:bu}(F:bt K "ahead" "Reader.ahead" MY f fd)(T:Ty K CR JX):bh P w K mg base az 1 f fd ["self"] (EO CR CP CT):=by
 refine F.ok anA (fun vs H Q E h=>?_) (fun aJ A outer s H vs Q E hr h=>?_)
 .obtain⟨r,ts,L,rfl,Z⟩:=h;rfl
 .obtain⟨r,ts,L,rfl,⟨dx,l,as,all,n,h1,h2,h3,h4,h5,h6⟩,bL,k⟩:=h;refine⟨_,aA (aI (bZ fc (aN (pv 0) rfl) (aN (pv 0) rfl) (fun Z Z=>rfl))),?_⟩;cases ts with
  |nil=>exact absurd rfl bL
  |cons x rest=>
  have hx:all[n]? =some x:=by
   have:(all.drop n)[0]? =some x:=by rw[<-h5];rfl
   rw[yb]at this;simpa using this
  have hn:n<as.length:=by rw[h3.1];exact(dQ.mp hx).1
  obtain⟨a,ha⟩:∃a,as[n]? =some a:=⟨_,cV hn⟩;refine⟨_,rfl,r,CR,dx,_,_,rfl,h1,T.cls,T.nf _ (by simp),rfl,_,rfl,r,CR,dx,_,_,rfl,h1,T.cls,T.nf _ (by simp),rfl,l,_,_,_,rfl,rfl,aH.of h2,bY (by rw[bU,ha];rfl),?_⟩;exact k a x rest rfl (h3.2 n a x ha hx)
theorem WW{l:aa}{n d:Nat}{i:Int}:fh "taken" (.int i) (rF l n d)=([("tokens",.ref l),("taken",.int i),("levels",.int (d:Nat))]:List (ah×V)):=by
 unfold rF;rw[ME (by decide+kernel)];rfl
theorem WV{l:aa}{n d:Nat}{i:Int}:fh "levels" (.int i) (rF l n d)=([("tokens",.ref l),("taken",.int (n:Nat)),("levels",.int i)]:List (ah×V)):=by
 unfold rF;rw[ME (by decide+kernel),ME (by decide+kernel)];rfl
structure tW(P:aV)(w:aQ)(K:aK)(mg:ah->Option af)(base:aG)(CR CP CT CF:aa):Prop where
 gh:Flt K mg CF
 tr:Ty K CR JX
 tt:Ty K CT nz
 ahead:Mt P w K mg base az 1 CR "ahead" ["self"] (EO CR CP CT)
 HS:bT mg "CANT_GO_ON" (.int 3)
theorem PL{CR CP CT r dx l:aa}{H H1:Hp}{as:List aa}{all ts:List At}{n L:Nat}(h1:H r=some (.ins CR dx (rF l n (20-L))))(h2:H l=some (.lst (as.map V.ref)))(h3:Al (jm CP CT H) as all)(h4:all.length<=1001)(h5:ts=all.drop n)(h6:L<=20):b6 r H (upd H r (.ins CR dx (fh "taken" (.int ((n:Int)+1)) (rF l n (20-L)))))/\du CR CP CT (upd H r (.ins CR dx (fh "taken" (.int ((n:Int)+1)) (rF l n (20-L))))) r (ts.drop 1) L:=by
 have s:b6 r H (upd H r (.ins CR dx (fh "taken" (.int ((n:Int)+1)) (rF l n (20-L))))):=(b6.refl H).upd;refine⟨s,du.put (n':=n+1) h1 h2 h3 h4 (by rw[h5,pH]) h6 s ?_⟩;rw[aD,WW];rfl
noncomputable abbrev NM:aW:=inClass (top 67) 2
theorem anY:bE ["self","text"] ["self","text"] (aP NM):=bF
noncomputable def O2(CR CP CT CF:aa):Sp:=fun vs H Q E=>∃(r:aa)(u:au)(k:tZ)(ts:List At)(L:Nat),vs=[.ref r,.str (S u)]/\du CR CP CT H r ts L/\ts≠[]/\(∀x wd p,Vt.iO x wd p->(wd=u↔x=k))/\(bf ts=k->∀H',b6 r H H'->du CR CP CT H' r (ts.drop 1) L->Q .aO H')/\(¬bf ts=k->Rz CF E ⟨3,here ts⟩ (b6 r H))
theorem alq{f CR CP CT CF:aa}{fd:bu}(F:bt K "take" "Reader.take" NM f fd)(M:tW P w K mg base CR CP CT CF):bh P w K mg base (XE P w) 3 f fd ["self","text"] (O2 CR CP CT CF):=by
 refine fL F anY (fun vs H Q E h=>?_) (fun aJ A outer s H vs Q E hr h=>?_)
 .obtain⟨r,u,k,ts,L,rfl,Z⟩:=h;rfl
 .obtain⟨r,u,kk,ts,L,rfl,bV,bL,hu,kS,kE⟩:=h;have bM:bb 1 _:=hr.mono (by decide);refine⟨_,aw (bx (bq j5 (aN (gD M.ahead M.tr.cls bM aY (pv 0)) rfl) (pv 1) (bp _)) (aA (px M.gh hr rfl (ai (bP M.HS rfl) (ai (aN (gD M.ahead M.tr.cls bM aY (pv 0)) rfl) aj)))) bA) (aA (xu (pv 0) bc zT)),?_⟩;have rY:=bV;obtain⟨dx,l,as,all,n,h1,h2,h3,h4,h5,h6⟩:=bV;refine⟨_,rfl,r,dx,_,rfl,h1,rfl,r,ts,L,rfl,rY,bL,fun a x rest e jx=>?_⟩;obtain⟨wd,o,⟨dy,nW,q1,q2⟩,rel,Z⟩:=jx.ex;refine⟨a,CT,dy,_,_,rfl,q1,M.tt.cls,M.tt.nf _ (by simp),rfl,_,rfl,rfl,_,rfl,?_⟩;have en:bf ts=x.tok:=by rw[e];rfl
  have eh:here ts=x.place:=by rw[e];rfl
  refine eO (fun z=>?_) (fun z=>?_)
  .have z2:¬bf ts=kk:=fun q=>z (by rw[(hu _ _ _ rel).mpr (by rw[<-en];exact q)]);refine⟨_,rfl,r,dx,_,rfl,h1,rfl,r,ts,L,rfl,rY,bL,fun a2 x2 ang e2 zO=>?_⟩;obtain⟨wd2,o2,⟨JQ,pv2,q3,q4⟩,ana,Z⟩:=zO.ex;refine⟨a2,CT,JQ,_,_,rfl,q3,M.tt.cls,M.tt.nf _ (by simp),rfl,_,_,rfl,fun ex dz n1 n2 n3=>?_⟩;have e3:x2.place=here ts:=by rw[e2];rfl
   rw[e3];exact(kE z2).raise n1 n2 n3 fun H3 s3=>b6.of s3
  .have z2:bf ts=kk:=by rw[en];exact(hu _ _ _ rel).mp (kl.mp z)
   refine⟨_,rfl,r,CR,dx,_,_,rfl,h1,M.tr.cls,M.tr.nf _ (by simp),rfl,_,_,rfl,rfl,dx,_,h1,(by show 3<1000;decide),?_⟩;have t:=PL (H1:=H) h1 h2 h3 h4 h5 h6;exact kS z2 _ t.1 t.2
noncomputable abbrev NN:aW:=inClass (top 67) 3
theorem XM:bE ["self","least","token"] ["self","least"] (aP NN):=bF
noncomputable def O3(CR CP CT CF:aa):Sp:=fun vs H Q E=>∃(r:aa)(m:Nat)(ts:List At)(L:Nat),vs=[.ref r,.int (m:Nat)]/\du CR CP CT H r ts L/\ts≠[]/\(∀n,bf ts=.digit n->m<=n->∀H',b6 r H H'->du CR CP CT H' r (ts.drop 1) L->Q (.int (n:Nat)) H')/\((∀n,bf ts=.digit n->¬m<=n)->Rz CF E ⟨3,here ts⟩ (b6 r H))
theorem alU(c:UInt8):yY [c]=c.toNat-48:=by
 unfold yY;simp
theorem alr{f CR CP CT CF:aa}{fd:bu}(F:bt K "take_digit" "Reader.take_digit" NN f fd)(M:tW P w K mg base CR CP CT CF)(B:Bt mg):bh P w K mg base (XE P w) 3 f fd ["self","least"] (O3 CR CP CT CF):=by
 refine fL F XM (fun vs H Q E h=>?_) (fun aJ A outer s H vs Q E hr h=>?_)
 .obtain⟨r,m,ts,L,rfl,Z⟩:=h;rfl
 .obtain⟨r,m,ts,L,rfl,bV,bL,kS,kE⟩:=h;have bM:bb 1 _:=hr.mono (by decide);refine⟨_,aw (aZ (i:=2) XM.nd rfl (aF rfl) (gD M.ahead M.tr.cls bM aY (pv 0))) (aw (bx (PW.pt (nZ (jD (f6 (xt Gk Gn Dx (aN (pv 2) rfl)))) (sF (bq nU (DW HR (by rfl) B.int (by decide+kernel) (ai (aN (pv 2) rfl) aj)) (pv 1) (bp _))))) (aA (px M.gh hr rfl (ai (bP M.HS rfl) (ai (aN (pv 2) rfl) aj)))) bA) (aw (xu (pv 0) bc zT) (aA (aI (DW HR (by rfl) B.int (by decide+kernel) (ai (aN (pv 2) rfl) aj)))))),?_⟩;have rY:=bV;obtain⟨dx,l,as,all,n,h1,h2,h3,h4,h5,h6⟩:=bV;refine⟨_,rfl,r,dx,_,rfl,h1,rfl,r,ts,L,rfl,rY,bL,fun a x rest e jx=>?_⟩;have aqt:=jx;obtain⟨wd,o,⟨dy,nW,q1,q2⟩,rel,fb,ig,Z⟩:=jx.ex;have en:bf ts=x.tok:=by rw[e];rfl
  have eh:x.place=here ts:=by rw[e];rfl
  have no:(∀n,bf ts=.digit n->¬m<=n)->∀ex dz,H ex=none->H dz=none->dz≠ex->E (.ref CF) (some dz) (upd (upd H dz (.xd (ff (.int 3) (.int (x.place:Nat))))) ex (.ext (lb ex (.ref CF) dz))):=fun q ex dz n1 n2 n3=>by
   rw[eh];exact(kE q).raise n1 n2 n3 fun H3 s3=>b6.of s3
  refine⟨_,rfl,a,CT,dy,_,_,rfl,q1,M.tt.cls,M.tt.nf _ (by simp),rfl,⟨_,rfl⟩,_,rfl,rfl,trivial,_,rfl,?_⟩;rw[digits_eq fb];refine mO (fun z=>?_) (fun z=>?_)
  .refine⟨_,rfl,a,CT,dy,_,_,rfl,q1,M.tt.cls,M.tt.nf _ (by simp),rfl,_,_,rfl,no fun n hn=>?_⟩;rw[en]at hn;exact absurd hn (Vt.ao8 rel z n)
  .obtain⟨c,hc,rfl,hx⟩:=Vt.ao7 rel z;have uF:=U9 (t:=[c]) (by simp[hc]) (by simp) (by simp);rw[alU]at uF;refine⟨_,rfl,a,CT,dy,_,_,rfl,q1,M.tt.cls,M.tt.nf _ (by simp),rfl,_,_,rfl,uF,(by show 1<=640;decide),_,rfl,_,_,rfl,rfl,_,rfl,?_⟩;refine bD (fun y=>?_) (fun y=>?_)
   .refine⟨_,rfl,a,CT,dy,_,_,rfl,q1,M.tt.cls,M.tt.nf _ (by simp),rfl,_,_,rfl,no fun n hn=>?_⟩;rw[en,hx]at hn;cases hn;lia
   .refine⟨_,rfl,r,CR,dx,_,_,rfl,h1,M.tr.cls,M.tr.nf _ (by simp),rfl,_,_,rfl,rfl,dx,_,h1,(by show 3<1000;decide),?_⟩;have t:=PL (H1:=H) h1 h2 h3 h4 h5 h6;have q3:=t.1 _ _ q1 (fe q1 h1 (fun z=>by cases z));refine⟨_,rfl,a,CT,dy,_,_,rfl,q3,M.tt.cls,M.tt.nf _ (by simp),rfl,_,_,rfl,uF,(by show 1<=640;decide),?_⟩;exact kS _ (by rw[en,hx]) (by lia) _ t.1 t.2
noncomputable abbrev NO:aW:=inClass (top 67) 4
theorem XN:bE ["self","token"] ["self"] (aP NO):=bF
noncomputable def O4(CR CP CT CF:aa):Sp:=fun vs H Q E=>∃(r:aa)(ts:List At)(L:Nat),vs=[.ref r]/\du CR CP CT H r ts L/\ts≠[]/\(∀p,bf ts=.pat p->fO p->∀b H',b6 r H H'->du CR CP CT H' r (ts.drop 1) L->Pt CP H' b p->Q (.ref b) H')/\((∀p,¬bf ts=.pat p)->Rz CF E ⟨3,here ts⟩ (b6 r H))
theorem als{f CR CP CT CF:aa}{fd:bu}(F:bt K "take_pattern" "Reader.take_pattern" NO f fd)(M:tW P w K mg base CR CP CT CF):bh P w K mg base (XE P w) 3 f fd ["self"] (O4 CR CP CT CF):=by
 refine fL F XN (fun vs H Q E h=>?_) (fun aJ A outer s H vs Q E hr h=>?_)
 .obtain⟨r,ts,L,rfl,Z⟩:=h;rfl
 .obtain⟨r,ts,L,rfl,bV,bL,kS,kE⟩:=h;have bM:bb 1 _:=hr.mono (by decide);refine⟨_,aw (aZ (i:=1) XN.nd rfl (aF rfl) (gD M.ahead M.tr.cls bM aY (pv 0))) (aw (bx (bq j4 (aN (pv 1) rfl) cT (bp _)) (aA (px M.gh hr rfl (ai (bP M.HS rfl) (ai (aN (pv 1) rfl) aj)))) bA) (aw (xu (pv 0) bc zT) (aA (aI (aN (pv 1) rfl))))),?_⟩;have rY:=bV;obtain⟨dx,l,as,all,n,h1,h2,h3,h4,h5,h6⟩:=bV;refine⟨_,rfl,r,dx,_,rfl,h1,rfl,r,ts,L,rfl,rY,bL,fun a x rest e jx=>?_⟩;obtain⟨wd,o,⟨dy,nW,q1,q2⟩,rel,fb,ig,aT⟩:=jx.ex;have en:bf ts=x.tok:=by rw[e];rfl
  have eh:x.place=here ts:=by rw[e];rfl
  refine⟨_,rfl,a,CT,dy,_,_,rfl,q1,M.tt.cls,M.tt.nf _ (by simp),rfl,rfl,_,rfl,bD (fun z=>?_) (fun z=>?_)⟩
  .refine⟨_,rfl,a,CT,dy,_,_,rfl,q1,M.tt.cls,M.tt.nf _ (by simp),rfl,_,_,rfl,fun ex dz n1 n2 n3=>?_⟩;rw[eh];refine(kE fun p hp=>?_).raise n1 n2 n3 fun H3 s3=>b6.of s3;rw[en]at hp;rw[(Vt.YC rel p).mpr hp]at q2;obtain⟨b,q3,Z⟩:=q2;rw[q3]at z;cases z
  .cases o with
   |none=>exact absurd q2 z
   |some p=>
    obtain⟨b,rfl,hb⟩:=q2;refine⟨_,rfl,r,CR,dx,_,_,rfl,h1,M.tr.cls,M.tr.nf _ (by simp),rfl,_,_,rfl,rfl,dx,_,h1,(by show 3<1000;decide),?_⟩;have t:=PL (H1:=H) h1 h2 h3 h4 h5 h6;have q3:=t.1 _ _ q1 (fe q1 h1 (fun z=>by cases z));refine⟨_,rfl,a,CT,dy,_,_,rfl,q3,M.tt.cls,M.tt.nf _ (by simp),rfl,?_⟩;exact kS p (by rw[en];exact(Vt.YC rel p).mp rfl) (aT p rfl) b _ t.1 t.2 (Pt.gZ hb t.1 h1)
noncomputable abbrev Na:aW:=inClass (top 67) 5
theorem anF:bE ["self"] ["self"] (aP Na):=bF
noncomputable def OJ(CR CP CT CF:aa):Sp:=fun vs H Q E=>∃(r:aa)(ts:List At)(L:Nat),vs=[.ref r]/\du CR CP CT H r ts L/\ts≠[]/\(∀d,L=d+1->∀H',b6 r H H'->du CR CP CT H' r (ts.drop 1) d->Q .aO H')/\(L=0->Rz CF E ⟨4,here ts⟩ (b6 r H))
theorem akE{f CR CP CT CF:aa}{fd:bu}(F:bt K "enter_level" "Reader.enter_level" Na f fd)(M:tW P w K mg base CR CP CT CF)(c1:bT mg "MOST_LEVELS" (.int 20))(c2:bT mg "TOO_DEEP" (.int 4)):bh P w K mg base (XE P w) 3 f fd ["self"] (OJ CR CP CT CF):=by
 refine fL F anF (fun vs H Q E h=>?_) (fun aJ A outer s H vs Q E hr h=>?_)
 .obtain⟨r,ts,L,rfl,Z⟩:=h;rfl
 .obtain⟨r,ts,L,rfl,bV,bL,kS,kE⟩:=h;have bM:bb 1 _:=hr.mono (by decide);refine⟨_,aw (bx (bq cg (aN (pv 0) rfl) (bP c1 rfl) (bp _)) (aA (px M.gh hr rfl (ai (bP c2 rfl) (ai (aN (gD M.ahead M.tr.cls bM aY (pv 0)) rfl) aj)))) bA) (aw (xu (pv 0) bc zT) (aA (xu (pv 0) bc zT))),?_⟩;have rY:=bV;obtain⟨dx,l,as,all,n,h1,h2,h3,h4,h5,h6⟩:=bV;refine⟨_,rfl,r,CR,dx,_,_,rfl,h1,M.tr.cls,M.tr.nf _ (by simp),rfl,rfl,_,rfl,bD (fun z=>?_) (fun z=>?_)⟩
  .have z:=V.int.inj z;refine⟨_,rfl,r,dx,_,rfl,h1,rfl,r,ts,L,rfl,rY,bL,fun a2 x2 ang e2 zO=>?_⟩;obtain⟨wd2,o2,⟨JQ,pv2,q3,q4⟩,ana,Z⟩:=zO.ex;refine⟨a2,CT,JQ,_,_,rfl,q3,M.tt.cls,M.tt.nf _ (by simp),rfl,_,_,rfl,fun ex dz n1 n2 n3=>?_⟩;have e3:x2.place=here ts:=by rw[e2];rfl
   rw[e3];exact(kE (by lia)).raise n1 n2 n3 fun H3 s3=>b6.of s3
  .have z:¬(20-L=20):=fun q=>z (by rw[q];rfl);obtain⟨d,rfl⟩:∃d,L=d+1:=⟨L-1,by lia⟩;refine⟨_,rfl,r,CR,dx,_,_,rfl,h1,M.tr.cls,M.tr.nf _ (by simp),rfl,_,_,rfl,rfl,dx,_,h1,(by show 3<1000;decide),?_⟩;rw[WV,show(((20-(d+1):Nat):Int)+1)=((20-d:Nat):Int) by lia];refine⟨_,rfl,r,CR,dx,rF l n (20-d),_,rfl,aD,M.tr.cls,M.tr.nf _ (by simp),rfl,_,_,rfl,rfl,dx,rF l n (20-d),aD,(by show 3<1000;decide),?_⟩;rw[fE,WW];have s:b6 r H (upd H r (.ins CR dx (rF l (n+1) (20-d)))):=(b6.refl H).upd;exact kS d rfl _ s (du.put (n':=n+1) h1 h2 h3 h4 (by rw[h5,pH]) (by lia) s aD)
noncomputable abbrev Nk:aW:=inClass (top 67) 6
theorem anM:bE ["self"] ["self"] (aP Nk):=bF
noncomputable def EU(CR CP CT:aa):Sp:=fun vs H Q E=>∃(r:aa)(ts:List At)(L:Nat),vs=[.ref r]/\du CR CP CT H r ts L/\L<20/\∀H',b6 r H H'->du CR CP CT H' r ts (L+1)->Q .aO H'
theorem akO{f CR CP CT CF:aa}{fd:bu}(F:bt K "leave_level" "Reader.leave_level" Nk f fd)(M:tW P w K mg base CR CP CT CF):bh P w K mg base az 1 f fd ["self"] (EU CR CP CT):=by
 refine F.ok anM (fun vs H Q E h=>?_) (fun aJ A outer s H vs Q E hr h=>?_)
 .obtain⟨r,ts,L,rfl,Z⟩:=h;rfl
 .obtain⟨r,ts,L,rfl,⟨dx,l,as,all,n,h1,h2,h3,h4,h5,h6⟩,hL,k⟩:=h;refine⟨_,aA (xu (pv 0) bc aib),?_⟩;refine⟨_,rfl,r,CR,dx,_,_,rfl,h1,M.tr.cls,M.tr.nf _ (by simp),rfl,_,_,rfl,rfl,dx,_,h1,(by show 3<1000;decide),?_⟩;rw[WV,show(((20-L:Nat):Int) -1)=((20-(L+1):Nat):Int) by lia];have s:b6 r H (upd H r (.ins CR dx (rF l n (20-(L+1))))):=(b6.refl H).upd;exact k _ s (du.put (n':=n) h1 h2 h3 h4 h5 (by lia) s aD)
open Vatrca (At here BAR AMP)
open Vt (andThen level gx j6 wordOf numOf parts own)
noncomputable def RY(CR CP CT CW CF:aa)(H:Hp)(Q:VK)(E:XK)(r:aa)(ts:List At)(L:Nat)(res:jn):Prop:=(∀u cQ,res=.ok (u,cQ)->Ends cQ->cQ.length<ts.length->fJ u->∀a H',b6 r H H'->du CR CP CT H' r cQ L->Ws CP CW H' a u->Q (.ref a) H')/\∀f,res=.error f->Rz CF E f (b6 r H)
noncomputable def Ya(CR CP CT CW CF:aa)(res:Nat->Nat->List At->jn)(need:Nat->Nat)(ok:List At->Prop)(n:Nat):Sp:=fun vs H Q E=>∃(r:aa)(ts:List At)(L k:Nat),vs=[.ref r]/\du CR CP CT H r ts L/\Ends ts/\ok ts/\L<n/\need ts.length<=k/\RY CR CP CT CW CF H Q E r ts L (res k L ts)
noncomputable abbrev iJ(CR CP CT CW CF:aa)(rule:Nat)(n:Nat):Sp:=Ya CR CP CT CW CF (fun k L ts=>cu k L rule ts) (Vt.kL rule) (fun Z=>True) n
noncomputable abbrev mX(CR CP CT CW CF:aa)(ok:List At->Prop)(n:Nat):Sp:=Ya CR CP CT CW CF gP Vt.sy ok n
structure mr(P:aV)(w:aQ)(K:aK)(mg:ah->Option af)(base:aG)(CR CP CT CW CF:aa):Prop where
 k:tW P w K mg base CR CP CT CF
 take:Mt P w K mg base (XE P w) 3 CR "take" ["self","text"] (O2 CR CP CT CF)
 Yv:Mt P w K mg base (XE P w) 3 CR "take_digit" ["self","least"] (O3 CR CP CT CF)
 Yw:Mt P w K mg base (XE P w) 3 CR "take_pattern" ["self"] (O4 CR CP CT CF)
 enter:Mt P w K mg base (XE P w) 3 CR "enter_level" ["self"] (OJ CR CP CT CF)
 leave:Mt P w K mg base az 1 CR "leave_level" ["self"] (EU CR CP CT)
 gI:Cl P w K mg base 1 "Wish" CW ["self","word","number","pattern","parts"] (sQ CP CW)
theorem wk{H:Hp}{r:aa}{ts:List At}{L:Nat}{σ:L2.St}{Q:VK}{ta:TE}(M:mr P w K mg base CR CP CT CW CF)(h0:∀R:VK,R (.ref r) H->ta σ H R)(bV:du CR CP CT H r ts L)(dh:Ends ts)(k:∀wd o,Vt.iO (bf ts) wd o->Q (.str (S wd)) H):iK K (xP CR "ahead" (EO CR CP CT) E0 ta dk) "text" σ H Q:=by
 refine h0 _ ?_;obtain⟨dx,l,n,d,h1⟩:=mU bV;refine⟨r,dx,_,rfl,h1,rfl,r,ts,L,rfl,bV,dh.ne,fun a x rest e jx=>?_⟩;obtain⟨wd,o,⟨dy,nW,q1,q2⟩,rel,Z⟩:=jx.ex;refine⟨a,CT,dy,_,_,rfl,q1,M.k.tt.cls,M.k.tt.nf _ (by simp),rfl,k wd o ?_⟩;rw[e];exact rel
theorem o9{H:Hp}{r:aa}{ts:List At}{L:Nat}{σ:L2.St}{Q:VK}{ta:TE}{m:ah}{sp:Sp}{E:XK}(h0:∀R:VK,R (.ref r) H->ta σ H R)(bV:du CR CP CT H r ts L)(hm:∀l n d,(rF l n d).lookup m=none)(h:sp [.ref r] H Q E):xP CR m sp E ta dk σ H Q:=by
 refine h0 _ ?_;obtain⟨dx,l,n,d,h1⟩:=mU bV;exact⟨r,dx,_,rfl,h1,hm _ _ _,h⟩
theorem sv{H:Hp}{r:aa}{ts:List At}{L:Nat}{σ:L2.St}{Q:VK}{ta:TE}{v:V}{tb:TE}{m:ah}{sp:Sp}{E:XK}(h0:∀R:VK,R (.ref r) H->ta σ H R)(hb:∀R:VK,R v H->tb σ H R)(bV:du CR CP CT H r ts L)(hm:∀l n d,(rF l n d).lookup m=none)(h:sp [.ref r,v] H Q E):xP CR m sp E ta (bQ tb dk) σ H Q:=by
 refine h0 _ ?_;obtain⟨dx,l,n,d,h1⟩:=mU bV;exact⟨r,dx,_,rfl,h1,hm _ _ _,hb _ h⟩
theorem Fh{u a b:bN}(h:parts u=[a,b])(ho:own u=none)(ha:fJ a)(hb:fJ b):fJ u:=fun p hp=>by
 rw[Vt.xq,h,ho]at hp;simp at hp;rcases hp with hp|hp
 .exact ha p hp
 .exact hb p hp
theorem apF{u a:bN}(h:parts u=[a])(ho:own u=none)(ha:fJ a):fJ u:=fun p hp=>by
 rw[Vt.xq,h,ho]at hp;simp at hp;exact ha p hp
theorem Du{H H':Hp}{Q:VK}{r a b p:aa}{u ua ub:bN}{ts:List At}{L:Nat}(hu:parts u=[ua,ub])(ho:own u=none)(bV:du CR CP CT H r ts L)(wa:Ws CP CW H a ua)(wb:Ws CP CW H b ub)(hp:H p=none)(k:∀c H',b6 r H H'->du CR CP CT H' r ts L->Ws CP CW H' c u->Q (.ref c) H'):∀x dx,upd H p (.lst [.ref a,.ref b]) x=none->upd H p (.lst [.ref a,.ref b]) dx=none->dx≠x->sQ CP CW [.ref x,.str (S (wordOf u)),.int (numOf u:Nat),.aO,.ref p] (upd (upd (upd H p (.lst [.ref a,.ref b])) dx (.own x)) x (.ins CW dx [])) (fun v H2=>v=.aO/\Q (.ref x) H2) E0:=by
 have s:aq H (upd H p (.lst [.ref a,.ref b])):=bj (aq.refl _) hp;refine LV (as:=[a,b]) aD (by rw[hu];exact Al.cons (wa.same s) (Al.cons (wb.same s) Al.nil)) (by rw[ho];rfl) fun c H2 hc s2 hw=>?_;exact k c H2 (b6.of (s.trans s2)) (bV.same (s.trans s2)) hw
theorem mk_one{H H':Hp}{Q:VK}{r a p:aa}{u ua:bN}{ts:List At}{L:Nat}(hu:parts u=[ua])(ho:own u=none)(bV:du CR CP CT H r ts L)(wa:Ws CP CW H a ua)(hp:H p=none)(k:∀c H',b6 r H H'->du CR CP CT H' r ts L->Ws CP CW H' c u->Q (.ref c) H'):∀x dx,upd H p (.lst [.ref a]) x=none->upd H p (.lst [.ref a]) dx=none->dx≠x->sQ CP CW [.ref x,.str (S (wordOf u)),.int (numOf u:Nat),.aO,.ref p] (upd (upd (upd H p (.lst [.ref a])) dx (.own x)) x (.ins CW dx [])) (fun v H2=>v=.aO/\Q (.ref x) H2) E0:=by
 have s:aq H (upd H p (.lst [.ref a])):=bj (aq.refl _) hp;refine LV (as:=[a]) aD (by rw[hu];exact Al.cons (wa.same s) Al.nil) (by rw[ho];rfl) fun c H2 hc s2 hw=>?_;exact k c H2 (b6.of (s.trans s2)) (bV.same (s.trans s2)) hw
theorem LS{H H':Hp}{Q:VK}{r p:aa}{u:bN}{pv:V}{ts:List At}{L:Nat}(hu:parts u=[])(iW:lh CP H pv (own u))(bV:du CR CP CT H r ts L)(hp:H p=none)(k:∀c H',b6 r H H'->du CR CP CT H' r ts L->Ws CP CW H' c u->Q (.ref c) H'):∀x dx,upd H p (.lst []) x=none->upd H p (.lst []) dx=none->dx≠x->sQ CP CW [.ref x,.str (S (wordOf u)),.int (numOf u:Nat),pv,.ref p] (upd (upd (upd H p (.lst [])) dx (.own x)) x (.ins CW dx [])) (fun v H2=>v=.aO/\Q (.ref x) H2) E0:=by
 have s:aq H (upd H p (.lst [])):=bj (aq.refl _) hp;refine LV (as:=[]) aD (by rw[hu];exact Al.nil) (iW.same s) fun c H2 hc s2 hw=>?_;exact k c H2 (b6.of (s.trans s2)) (bV.same (s.trans s2)) hw
theorem oV{ts:List At}{x:tZ}(h:bf ts=x)(hx:x≠.finish)(he:Ends ts):Ends (ts.drop 1)/\(ts.drop 1).length+1=ts.length:=by
 refine⟨he.drop (by rw[h];exact hx),?_⟩;have:=ka.mpr he.ne;rw[iM];lia
noncomputable abbrev Ej:aW:=top 69
noncomputable abbrev nIf:List ah:=["reader","left","right"]
theorem EC:bE nIf ["reader"] (aP Ej):=bF
theorem akN{f:aa}{fd:bu}{n k:Nat}(F:bt K "read_if" "read_if" Ej f fd)(M:mr P w K mg base CR CP CT CW CF)(hk:3<=k)(FO:Fn P w K mg base (XE P w) k "read_or" ["reader"] (iJ CR CP CT CW CF 1 (n+1)))(FI:Fn P w K mg base (XE P w) k "read_if" ["reader"] (iJ CR CP CT CW CF 0 n)):bh P w K mg base (XE P w) (k+1) f fd ["reader"] (iJ CR CP CT CW CF 0 (n+1)):=by
 refine fL F EC (fun vs H Q E h=>?_) (fun aJ A outer s H vs Q E hr h=>?_)
 .obtain⟨r,ts,L,k,rfl,Z⟩:=h;rfl
 .obtain⟨r,ts,L,k2,rfl,bV,dh,Z,hL,iU,kS,kE⟩:=h;have bM:bb 1 _:=hr.mono (by lia);have ck:bb 2 _:=hr.mono (by lia);have dU:bb 3 _:=hr.mono (by lia);refine⟨_,aw (aZ (i:=1) EC.nd rfl (aF rfl) (aU FO hr rfl cO (ai (pv 0) aj))) (aw (bx (bq j5 (aN (gD M.k.ahead M.k.tr.cls bM aY (pv 0)) rfl) bH (bp _)) (aA (aI (pv 1))) bA) (aw (ej (gD M.enter M.k.tr.cls dU cO (pv 0))) (aw (aZ (i:=2) EC.nd rfl (aF rfl) (aU FI hr rfl cO (ai (pv 0) aj))) (aw (ej (gD M.leave M.k.tr.cls bM aY (pv 0))) (aA (aI (gC M.gI ck rfl (ai bH (ai bc (ai cT (ai (cv (ai (pv 1) (ai (pv 2) aj))) aj))))))))))),?_⟩;unfold Vt.kL at iU;obtain⟨k2,rfl⟩:∃j,k2=j+1:=⟨k2-1,by lia⟩;have lP:=Vt.Aw (k:=k2) (L:=L) (rule:=0) (ts:=ts) (by decide);dsimp only at kS kE;rw[lP]at kS kE;refine⟨_,rfl,r,ts,L,k2,rfl,bV,dh,trivial,hL,by unfold Vt.kL;lia,fun u1 fi e1 eU eW qw a1 H1 s1 fY w1=>?_,fun f e=>kE f (by rw[show cu k2 L (0+1) ts=_ from e];rfl)⟩;have e2:(andThen (cu k2 L (0+1) ts) fun a r=>dC k2 L 0 a r)=dC k2 L 0 u1 fi:=by rw[show cu k2 L (0+1) ts=_ from e1];rfl
  rw[e2]at kS kE;obtain⟨k2,rfl⟩:∃j,k2=j+1:=⟨k2-1,by lia⟩;try dsimp only[b7,b9,cU,cb,bG,cP,dX,cE,b8]
  refine wk M (fun R h=>⟨_,rfl,h⟩) fY eU fun wd o rel=>?_;refine⟨rfl,_,rfl,?_⟩;rw[show bB "->"=S [45,62]from rfl];refine eO (fun z=>?_) (fun z=>?_)
  .have z2:¬bf fi=.arrow:=fun q=>z (by rw[(Vt.YA rel).mpr q]);rw[Vt.Xe z2]at kS;exact⟨_,rfl,kS u1 fi rfl eU eW qw a1 H1 s1 fY w1⟩
  .have z2:bf fi=.arrow:=(Vt.YA rel).mp (kl.mp z);rw[Vt.Xd z2]at kS kE;obtain⟨kx,qh⟩:=oV z2 (by decide) eU;try dsimp only[b7,b9,cU,cb,bG,cP,dX,cE,b8]
   refine o9 (fun R h=>⟨_,rfl,h⟩) fY (fun Z Z Z=>rfl) ⟨r,fi,L,rfl,fY,eU.ne,fun d hd H2 s2 eI=>?_,fun h0=>?_⟩
   .subst hd;have bJ:=s1.trans s2;refine⟨_,rfl,r,_,d,k2,rfl,eI,kx,trivial,by lia,by unfold Vt.kL;lia,fun u2 il e3 kz zC nS a2 H3 s3 gj w2=>?_,fun f e=>(kE f (by show andThen (cu k2 d 0 _) _=_;rw[show cu k2 d 0 (fi.drop 1)=_ from e];rfl)).mono fun H' q=>bJ.trans q⟩;have um:d<20:=by obtain⟨Z,Z,Z,Z,Z,Z,Z,Z,Z,Z,q⟩:=fY;lia
    try dsimp only[b7,b9,cU,cb,bG,cP,dX,cE,b8]
    refine o9 (fun R h=>⟨_,rfl,h⟩) gj (fun Z Z Z=>rfl) ⟨r,il,d,rfl,gj,um,fun H4 s4 iD=>?_⟩;obtain⟨JN,l1,n1,d1,g1⟩:=mU fY;obtain⟨JO,l3,n3,d3,g3⟩:=mU gj;refine⟨_,rfl,_,rfl,(by show 2<=sizeLine;decide),fun p hp=>?_⟩;refine Du (H':=H) (Q:=Q) (u:=.implies u1 u2) rfl rfl iD (w1.gZ ((s2.trans s3).trans s4) g1) (w2.gZ s4 g3) hp fun c H5 s5 qm zQ=>?_;exact kS _ il (by show andThen (cu k2 d 0 _) _=_;rw[show cu k2 d 0 (fi.drop 1)=_ from e3];rfl) kz (by lia) (Fh rfl rfl qw nS) c H5 (((bJ.trans s3).trans s4).trans s5) qm zQ
   .subst h0;exact(kE ⟨4,here fi⟩ rfl).mono fun H' q=>s1.trans q
noncomputable abbrev Eo:aW:=top 70
noncomputable abbrev nOr:List ah:=["reader","left"]
theorem N9:bE nOr ["reader"] (aP Eo):=bF
theorem akY{f:aa}{fd:bu}{n k:Nat}(F:bt K "read_or" "read_or" Eo f fd)(M:mr P w K mg base CR CP CT CW CF)(hk:3<=k)(FO:Fn P w K mg base (XE P w) k "read_and" ["reader"] (iJ CR CP CT CW CF 2 n)):bh P w K mg base (XE P w) (k+1) f fd ["reader"] (iJ CR CP CT CW CF 1 n):=by
 refine fL F N9 (fun vs H Q E h=>?_) (fun aJ A outer s H vs Q E hr h=>?_)
 .obtain⟨r,ts,L,k,rfl,Z⟩:=h;rfl
 .obtain⟨r,ts,L,k2,rfl,bV,dh,Z,hL,iU,kS,kE⟩:=h;have bM:bb 1 _:=hr.mono (by lia);have ck:bb 2 _:=hr.mono (by lia);have dU:bb 3 _:=hr.mono (by lia);refine⟨_,aw (aZ (i:=1) N9.nd rfl (aF rfl) (aU FO hr rfl cO (ai (pv 0) aj))) (aw (uR Gs (bq cg (aN (gD M.k.ahead M.k.tr.cls bM aY (pv 0)) rfl) bH (bp _)) (aw (ej (kO M.take M.k.tr.cls dU cO (pv 0) (ai bH aj))) (aA (aZ (i:=1) N9.nd rfl (aF rfl) (gC M.gI ck rfl (ai bH (ai bc (ai cT (ai (cv (ai (pv 1) (ai (aU FO hr rfl cO (ai (pv 0) aj)) aj))) aj))))))))) (aA (aI (pv 1)))),?_⟩;unfold Vt.kL at iU;obtain⟨k2,rfl⟩:∃j,k2=j+1:=⟨k2-1,by lia⟩;have lP:=Vt.Aw (k:=k2) (L:=L) (rule:=1) (ts:=ts) (by decide);dsimp only at kS kE;rw[lP]at kS kE;refine⟨_,rfl,r,ts,L,k2,rfl,bV,dh,trivial,hL,by unfold Vt.kL;lia,fun u1 fi e1 eU eW qw a1 H1 s1 fY w1=>?_,fun f e=>kE f (by rw[show cu k2 L (1+1) ts=_ from e];rfl)⟩;have e2:(andThen (cu k2 L (1+1) ts) fun a r=>dC k2 L 1 a r)=dC k2 L 1 u1 fi:=by rw[show cu k2 L (1+1) ts=_ from e1];rfl
  rw[e2]at kS kE;let Iv:Nat->L2.St->Hp->Prop:=fun m σ H'=>∃(a:aa)(u:bN)(cQ:List At)(k3:Nat),m=cQ.length/\σ=[some (.ref r),some (.ref a)]/\b6 r H H'/\du CR CP CT H' r cQ L/\Ends cQ/\Ws CP CW H' a u/\fJ u/\cQ.length<ts.length/\Vt.sA cQ.length<=k3/\dC k2 L 1 u1 fi=dC k3 L 1 u cQ
  refine⟨Iv,⟨_,a1,u1,fi,k2,rfl,rfl,s1,fY,eU,w1,qw,eW,by unfold Vt.sA;lia,rfl⟩,?_⟩;rintro m σ H' ⟨a,u,cQ,k3,rfl,rfl,s',nM,ny,w',Ah,jY,KA,er⟩;rw[er]at kS kE;unfold Vt.sA at KA;obtain⟨k3,rfl⟩:∃j,k3=j+1:=⟨k3-1,by lia⟩;try dsimp only[b7,b9,cU,cb,bG,cP,dX,cE,b8]
  refine wk M (fun R h=>⟨_,rfl,h⟩) nM ny fun wd o rel=>?_;refine⟨rfl,_,rfl,?_⟩;rw[show bB "|"=S [124]from rfl];refine bD (fun z=>?_) (fun z=>?_)
  .have z2:bf cQ=BAR:=(Vt.qD rel (by decide)).mp (kl.mp z);rw[Vt.Xf z2]at kS kE er;obtain⟨kx,qh⟩:=oV z2 (by decide) ny;refine⟨fun σ' eJ=>∃m',m'<cQ.length/\Iv m' σ' eJ,fun Z Z q=>q,?_⟩;try dsimp only[b7,b9,cU,cb,bG,cP,dX,cE,b8]
   refine sv (v:=.str (S [124])) (fun R h=>⟨_,rfl,h⟩) (fun R h=>h) nM (fun Z Z Z=>rfl) ⟨r,[124],BAR,cQ,L,rfl,nM,ny.ne,fun x wd p rl=>Vt.qD rl (by decide),fun Z H2 s2 eI=>?_,fun q=>absurd z2 q⟩;have bJ:=s'.trans s2;obtain⟨JN,l1,n1,d1,g1⟩:=mU nM;refine⟨_,rfl,_,rfl,r,_,L,k3,rfl,eI,kx,trivial,hL,by unfold Vt.kL;lia,fun u2 il e3 kz zC nS a2 H3 s3 gj w2=>?_,fun f e=>(kE f (by rw[show cu k3 L 2 (cQ.drop 1)=_ from e];rfl)).mono fun H' q=>bJ.trans q⟩;refine⟨(by show 2<=sizeLine;decide),fun p hp=>?_⟩;refine Du (H':=H) (Q:=fun v H2=>∃m',m'<cQ.length/\Iv m' [some (.ref r),some v] H2) (u:=.either u u2) rfl rfl gj (w'.gZ (s2.trans s3) g1) w2 hp fun c H5 s5 qm zQ=>?_;refine⟨_,(by lia:il.length<cQ.length),c,.either u u2,il,k3,rfl,rfl,(bJ.trans s3).trans s5,qm,kz,zQ,Fh rfl rfl Ah nS,by lia,by unfold Vt.sA;lia,?_⟩;rw[er,show cu k3 L 2 (cQ.drop 1)=_ from e3];rfl
  .have z2:¬bf cQ=BAR:=fun q=>z (by rw[(Vt.qD rel (c:=124) (by decide)).mpr q]);rw[Vt.Xg z2]at kS;exact⟨_,rfl,kS u cQ rfl ny jY Ah a H' s' nM w'⟩
noncomputable abbrev Ee:aW:=top 71
noncomputable abbrev ajj:List ah:=["reader","left"]
theorem N6:bE ajj ["reader"] (aP Ee):=bF
theorem akp{f:aa}{fd:bu}{n k:Nat}(F:bt K "read_and" "read_and" Ee f fd)(M:mr P w K mg base CR CP CT CW CF)(hk:3<=k)(FO:Fn P w K mg base (XE P w) k "read_until" ["reader"] (iJ CR CP CT CW CF 3 n)):bh P w K mg base (XE P w) (k+1) f fd ["reader"] (iJ CR CP CT CW CF 2 n):=by
 refine fL F N6 (fun vs H Q E h=>?_) (fun aJ A outer s H vs Q E hr h=>?_)
 .obtain⟨r,ts,L,k,rfl,Z⟩:=h;rfl
 .obtain⟨r,ts,L,k2,rfl,bV,dh,Z,hL,iU,kS,kE⟩:=h;have bM:bb 1 _:=hr.mono (by lia);have ck:bb 2 _:=hr.mono (by lia);have dU:bb 3 _:=hr.mono (by lia);refine⟨_,aw (aZ (i:=1) N6.nd rfl (aF rfl) (aU FO hr rfl cO (ai (pv 0) aj))) (aw (uR Gs (bq cg (aN (gD M.k.ahead M.k.tr.cls bM aY (pv 0)) rfl) bH (bp _)) (aw (ej (kO M.take M.k.tr.cls dU cO (pv 0) (ai bH aj))) (aA (aZ (i:=1) N6.nd rfl (aF rfl) (gC M.gI ck rfl (ai bH (ai bc (ai cT (ai (cv (ai (pv 1) (ai (aU FO hr rfl cO (ai (pv 0) aj)) aj))) aj))))))))) (aA (aI (pv 1)))),?_⟩;unfold Vt.kL at iU;obtain⟨k2,rfl⟩:∃j,k2=j+1:=⟨k2-1,by lia⟩;have lP:=Vt.Aw (k:=k2) (L:=L) (rule:=2) (ts:=ts) (by decide);dsimp only at kS kE;rw[lP]at kS kE;refine⟨_,rfl,r,ts,L,k2,rfl,bV,dh,trivial,hL,by unfold Vt.kL;lia,fun u1 fi e1 eU eW qw a1 H1 s1 fY w1=>?_,fun f e=>kE f (by rw[show cu k2 L (2+1) ts=_ from e];rfl)⟩;have e2:(andThen (cu k2 L (2+1) ts) fun a r=>dC k2 L 2 a r)=dC k2 L 2 u1 fi:=by rw[show cu k2 L (2+1) ts=_ from e1];rfl
  rw[e2]at kS kE;let Iv:Nat->L2.St->Hp->Prop:=fun m σ H'=>∃(a:aa)(u:bN)(cQ:List At)(k3:Nat),m=cQ.length/\σ=[some (.ref r),some (.ref a)]/\b6 r H H'/\du CR CP CT H' r cQ L/\Ends cQ/\Ws CP CW H' a u/\fJ u/\cQ.length<ts.length/\Vt.sA cQ.length<=k3/\dC k2 L 2 u1 fi=dC k3 L 2 u cQ
  refine⟨Iv,⟨_,a1,u1,fi,k2,rfl,rfl,s1,fY,eU,w1,qw,eW,by unfold Vt.sA;lia,rfl⟩,?_⟩;rintro m σ H' ⟨a,u,cQ,k3,rfl,rfl,s',nM,ny,w',Ah,jY,KA,er⟩;rw[er]at kS kE;unfold Vt.sA at KA;obtain⟨k3,rfl⟩:∃j,k3=j+1:=⟨k3-1,by lia⟩;try dsimp only[b7,b9,cU,cb,bG,cP,dX,cE,b8]
  refine wk M (fun R h=>⟨_,rfl,h⟩) nM ny fun wd o rel=>?_;refine⟨rfl,_,rfl,?_⟩;rw[show bB "&"=S [38]from rfl];refine bD (fun z=>?_) (fun z=>?_)
  .have z2:bf cQ=AMP:=(Vt.qD rel (by decide)).mp (kl.mp z);rw[Vt.Xb z2]at kS kE er;obtain⟨kx,qh⟩:=oV z2 (by decide) ny;refine⟨fun σ' eJ=>∃m',m'<cQ.length/\Iv m' σ' eJ,fun Z Z q=>q,?_⟩;try dsimp only[b7,b9,cU,cb,bG,cP,dX,cE,b8]
   refine sv (v:=.str (S [38])) (fun R h=>⟨_,rfl,h⟩) (fun R h=>h) nM (fun Z Z Z=>rfl) ⟨r,[38],AMP,cQ,L,rfl,nM,ny.ne,fun x wd p rl=>Vt.qD rl (by decide),fun Z H2 s2 eI=>?_,fun q=>absurd z2 q⟩;have bJ:=s'.trans s2;obtain⟨JN,l1,n1,d1,g1⟩:=mU nM;refine⟨_,rfl,_,rfl,r,_,L,k3,rfl,eI,kx,trivial,hL,by unfold Vt.kL;lia,fun u2 il e3 kz zC nS a2 H3 s3 gj w2=>?_,fun f e=>(kE f (by rw[show cu k3 L 3 (cQ.drop 1)=_ from e];rfl)).mono fun H' q=>bJ.trans q⟩;refine⟨(by show 2<=sizeLine;decide),fun p hp=>?_⟩;refine Du (H':=H) (Q:=fun v H2=>∃m',m'<cQ.length/\Iv m' [some (.ref r),some v] H2) (u:=.both u u2) rfl rfl gj (w'.gZ (s2.trans s3) g1) w2 hp fun c H5 s5 qm zQ=>?_;refine⟨_,(by lia:il.length<cQ.length),c,.both u u2,il,k3,rfl,rfl,(bJ.trans s3).trans s5,qm,kz,zQ,Fh rfl rfl Ah nS,by lia,by unfold Vt.sA;lia,?_⟩;rw[er,show cu k3 L 3 (cQ.drop 1)=_ from e3];rfl
  .have z2:¬bf cQ=AMP:=fun q=>z (by rw[(Vt.qD rel (c:=38) (by decide)).mpr q]);rw[Vt.Xc z2]at kS;exact⟨_,rfl,kS u cQ rfl ny jY Ah a H' s' nM w'⟩
open Vatrca (At here BAR AMP BANG LEFT RIGHT)
theorem r6(x:au):∀l:List au,iX (.str (S x)) (l.map fun t=>V.str (S t))=decide (x∈l)
 |[]=>rfl
 |t::r=>by
  show(S t==S x||iX (.str (S x)) (r.map fun t=>V.str (S t)))=_;rw[r6 x r,gJ];simp only[Fs,beq_iff_eq,decide_eq_true_eq,bX];rw[aa4];constructor
  .rintro(h|h)
   .exact .inl h.symm
   .exact .inr h
  .rintro(h|h)
   .exact .inl h.symm
   .exact .inr h
noncomputable def KT(K:aK)(mg:ah->Option af)(x:ah)(xs:List V):Prop:=∃p,bT mg x (.ref p)/\∀H,cN K H p xs
noncomputable abbrev Ez:aW:=top 72
noncomputable abbrev nUn:List ah:=["reader","left","word","right"]
theorem AH:bE nUn ["reader"] (aP Ez):=bF
theorem alK{f:aa}{fd:bu}{n k:Nat}(F:bt K "read_until" "read_until" Ez f fd)(M:mr P w K mg base CR CP CT CW CF)(hk:3<=k)(FO:Fn P w K mg base (XE P w) k "read_one" ["reader"] (mX CR CP CT CW CF (fun Z=>True) (n+1)))(FI:Fn P w K mg base (XE P w) k "read_until" ["reader"] (iJ CR CP CT CW CF 3 n)):bh P w K mg base (XE P w) (k+1) f fd ["reader"] (iJ CR CP CT CW CF 3 (n+1)):=by
 refine fL F AH (fun vs H Q E h=>?_) (fun aJ A outer s H vs Q E hr h=>?_)
 .obtain⟨r,ts,L,k,rfl,Z⟩:=h;rfl
 .obtain⟨r,ts,L,k2,rfl,bV,dh,Z,hL,iU,kS,kE⟩:=h;have bM:bb 1 _:=hr.mono (by lia);have ck:bb 2 _:=hr.mono (by lia);have dU:bb 3 _:=hr.mono (by lia);refine⟨_,aw (aZ (i:=1) AH.nd rfl (aF rfl) (aU FO hr rfl cO (ai (pv 0) aj))) (aw (aZ (i:=2) AH.nd rfl (aF rfl) (aN (gD M.k.ahead M.k.tr.cls bM aY (pv 0)) rfl)) (aw (bx (bq Ak (pv 2) (Aq (ai bH (ai bH aj))) (by rfl)) (aA (aI (pv 1))) bA) (aw (ej (gD M.enter M.k.tr.cls dU cO (pv 0))) (aw (aZ (i:=3) AH.nd rfl (aF rfl) (aU FI hr rfl cO (ai (pv 0) aj))) (aw (ej (gD M.leave M.k.tr.cls bM aY (pv 0))) (aA (aI (gC M.gI ck rfl (ai (pv 2) (ai bc (ai cT (ai (cv (ai (pv 1) (ai (pv 3) aj))) aj)))))))))))),?_⟩;unfold Vt.kL at iU;have zJ:=ka.mpr dh.ne;obtain⟨k2,rfl⟩:∃j,k2=j+2:=⟨k2-2,by lia⟩;have lP:=Vt.Aw (k:=k2+1) (L:=L) (rule:=3) (ts:=ts) (by decide);have eso:=Vt.Xa (k:=k2) (L:=L) (ts:=ts);dsimp only at kS kE;rw[lP,show cu (k2+1) L (3+1) ts=_ from eso]at kS kE;refine⟨_,rfl,r,ts,L,k2,rfl,bV,dh,trivial,hL,by unfold Vt.sy;lia,fun u1 fi e1 eU eW qw a1 H1 s1 fY w1=>?_,fun f e=>kE f (by rw[e];rfl)⟩;have e2:(andThen (gP k2 L ts) fun a r=>dC (k2+1) L 3 a r)=dC (k2+1) L 3 u1 fi:=by rw[e1];rfl
  rw[e2]at kS kE;try dsimp only[b7,b9,cU,cb,bG,cP,dX,cE,b8]
  refine wk M (fun R h=>⟨_,rfl,h⟩) fY eU fun wd o rel=>?_;refine⟨_,rfl,(by show 2<=sizeLine;decide),fun p hp=>?_⟩;have s2:aq H1 (upd H1 p (.tup [.str (bB "until"),.str (bB "unless")])):=bj (aq.refl _) hp;refine⟨p,_,rfl,.inr (cN.of aD),rfl,rfl,_,rfl,?_⟩;rw[if_pos rfl,show iX (.str (S wd)) [.str (bB "until"),.str (bB "unless")]=decide (wd∈[aX "until",aX "unless"])from r6 wd [aX "until",aX "unless"]];have iu:=Vt.nc rel (u:=aX "until") (by decide+kernel) (by decide+kernel);have iw:=Vt.nc rel (u:=aX "unless") (by decide+kernel) (by decide+kernel);refine eO (fun z=>?_) (fun z=>?_)
  .rw[Vt.Xj (fun q=>z (by rw[iu.mpr q];simp)) (fun q=>z (by rw[iw.mpr q];simp))]at kS;exact⟨_,rfl,kS u1 fi rfl eU eW qw a1 _ (s1.trans (b6.of s2)) (fY.same s2) (w1.same s2)⟩
  .obtain⟨mk,zE,zF,lT,uA,hn,er⟩:∃mk:bN->bN->bN,(∀a b,wordOf (mk a b)=wd)/\(∀a b,numOf (mk a b)=0)/\(∀a b,parts (mk a b)=[a,b])/\(∀a b,own (mk a b)=none)/\¬bf fi=.finish/\dC (k2+1) L 3 u1 fi=level L fi fun d=>andThen (cu k2 d 3 (fi.drop 1)) fun b r=> .ok (mk u1 b,r):=by
    simp only[bX,jg,or_false]at z;rcases z with z|z
    .have q:=iu.mp z;exact⟨.till,fun a b=>z.symm,fun Z Z=>rfl,fun Z Z=>rfl,fun Z Z=>rfl,by rw[q];exact fun y=>(nomatch y),Vt.Xi q⟩
    .have q:=iw.mp z;exact⟨.weak,fun a b=>z.symm,fun Z Z=>rfl,fun Z Z=>rfl,fun Z Z=>rfl,by rw[q];exact fun y=>(nomatch y),Vt.Xh q⟩
   rw[er]at kS kE;have eI:=fY.same s2;have YO:=w1.same s2;have bJ:=s1.trans (b6.of s2);generalize upd H1 p (.tup [.str (bB "until"),.str (bB "unless")])=H2 at s2 eI YO bJ ⊢;obtain⟨kx,qh⟩:=oV rfl hn eU;try dsimp only[b7,b9,cU,cb,bG,cP,dX,cE,b8]
   refine o9 (fun R h=>⟨_,rfl,h⟩) eI (fun Z Z Z=>rfl) ⟨r,fi,L,rfl,eI,eU.ne,fun d hd H3 s3 gj=>?_,fun h0=>?_⟩
   .subst hd;have uV:=bJ.trans s3;refine⟨_,rfl,r,_,d,k2,rfl,gj,kx,trivial,by lia,by unfold Vt.kL;lia,fun u2 il e3 kz zC nS a2 H4 s4 iD w2=>?_,fun f e=>(kE f (by show andThen (cu k2 d 3 _) _=_;rw[show cu k2 d 3 (fi.drop 1)=_ from e];rfl)).mono fun H' q=>uV.trans q⟩;have um:d<20:=by obtain⟨Z,Z,Z,Z,Z,Z,Z,Z,Z,Z,q⟩:=eI;lia
    try dsimp only[b7,b9,cU,cb,bG,cP,dX,cE,b8]
    refine o9 (fun R h=>⟨_,rfl,h⟩) iD (fun Z Z Z=>rfl) ⟨r,il,d,rfl,iD,um,fun H5 s5 qm=>?_⟩;obtain⟨JN,l1,n1,d1,g1⟩:=mU eI;obtain⟨JO,l3,n3,d3,g3⟩:=mU iD;refine⟨_,rfl,_,rfl,_,rfl,(by show 2<=sizeLine;decide),fun p hp=>?_⟩;have:=Du (H':=H) (Q:=Q) (u:=mk u1 u2) (lT _ _) (uA _ _) qm (YO.gZ ((s3.trans s4).trans s5) g1) (w2.gZ s5 g3) hp fun c H6 s6 K2 Ld=>kS _ il (by show andThen (cu k2 d 3 _) _=_;rw[show cu k2 d 3 (fi.drop 1)=_ from e3];rfl) kz (by lia) (Fh (lT _ _) (uA _ _) qw nS) c H6 (((uV.trans s4).trans s5).trans s6) K2 Ld;rw[zE,zF]at this;exact this
   .subst h0;exact(kE ⟨4,here fi⟩ rfl).mono fun H' q=>bJ.trans q
noncomputable abbrev En:aW:=top 73
noncomputable abbrev ajv:List ah:=["reader","word","number","part"]
theorem xC:bE ajv ["reader"] (aP En):=bF
noncomputable def qA:List au:=[[33],aX "next",aX "ever",aX "always",aX "within"]
noncomputable def Mb(ts:List At):Prop:=¬bf ts=BANG/\¬bf ts=.word (aX "next")/\¬bf ts=.word (aX "ever")/\¬bf ts=.word (aX "always")/\¬bf ts=.word (aX "within")
theorem akX{f:aa}{fd:bu}{n k:Nat}(F:bt K "read_one" "read_one" En f fd)(M:mr P w K mg base CR CP CT CW CF)(hk:3<=k)(c1:KT K mg "PREFIXES" (qA.map fun t=>V.str (S t)))(FA:Fn P w K mg base (XE P w) k "read_atom" ["reader"] (mX CR CP CT CW CF Mb (n+1)))(FI:Fn P w K mg base (XE P w) k "read_one" ["reader"] (mX CR CP CT CW CF (fun Z=>True) n)):bh P w K mg base (XE P w) (k+1) f fd ["reader"] (mX CR CP CT CW CF (fun Z=>True) (n+1)):=by
 refine fL F xC (fun vs H Q E h=>?_) (fun aJ A outer s H vs Q E hr h=>?_)
 .obtain⟨r,ts,L,k,rfl,Z⟩:=h;rfl
 .obtain⟨r,ts,L,k2,rfl,bV,dh,Z,hL,iU,kS,kE⟩:=h;have bM:bb 1 _:=hr.mono (by lia);have ck:bb 2 _:=hr.mono (by lia);have dU:bb 3 _:=hr.mono (by lia);obtain⟨pp,cp,nL⟩:=c1;refine⟨_,aw (aZ (i:=1) xC.nd rfl (aF rfl) (aN (gD M.k.ahead M.k.tr.cls bM aY (pv 0)) rfl)) (aw (bx (bq Ak (pv 1) (bP cp rfl) (by rfl)) (aA (aI (aU FA hr rfl cO (ai (pv 0) aj)))) bA) (aw (ej (gD M.enter M.k.tr.cls dU cO (pv 0))) (aw (aZ (i:=2) xC.nd rfl (aF rfl) bc) (aw (bx (bq cg (pv 1) bH (bp _)) (aA (aZ (i:=2) xC.nd rfl (aF rfl) (kO M.Yv M.k.tr.cls dU cO (pv 0) (ai bc aj)))) bA) (aw (aZ (i:=3) xC.nd rfl (aF rfl) (aU FI hr rfl cO (ai (pv 0) aj))) (aw (ej (gD M.leave M.k.tr.cls bM aY (pv 0))) (aA (aI (gC M.gI ck rfl (ai (pv 1) (ai (pv 2) (ai cT (ai (cv (ai (pv 3) aj)) aj))))))))))))),?_⟩;unfold Vt.sy at iU;have zJ:=ka.mpr dh.ne;obtain⟨k2,rfl⟩:∃j,k2=j+1:=⟨k2-1,by lia⟩;try dsimp only[b7,b9,cU,cb,bG,cP,dX,cE,b8]
  refine wk M (fun R h=>⟨_,rfl,h⟩) bV dh fun wd o rel=>?_;refine⟨_,rfl,pp,_,rfl,.inr (nL _),rfl,rfl,_,rfl,?_⟩;rw[if_pos rfl,r6];have i1:=Vt.qD rel (c:=33) (by decide);have i2:=Vt.nc rel (u:=aX "next") (by decide+kernel) (by decide+kernel);have i3:=Vt.nc rel (u:=aX "ever") (by decide+kernel) (by decide+kernel);have i4:=Vt.nc rel (u:=aX "always") (by decide+kernel) (by decide+kernel);have i5:=Vt.nc rel (u:=aX "within") (by decide+kernel) (by decide+kernel);refine eO (fun z=>?_) (fun z=>?_)
  .refine⟨_,rfl,r,ts,L,k2+1,rfl,bV,dh,⟨fun q=>z ?_,fun q=>z ?_,fun q=>z ?_,fun q=>z ?_,fun q=>z ?_⟩,hL,by unfold Vt.sy;lia,kS,kE⟩
   .rw[i1.mpr q];simp[qA]
   .rw[i2.mpr q];simp[qA]
   .rw[i3.mpr q];simp[qA]
   .rw[i4.mpr q];simp[qA]
   .rw[i5.mpr q];simp[qA]
  .have hn:¬bf ts=.finish:=fun q=>by
    rw[(Vt.YB rel).mpr q]at z;exact absurd z (by decide+kernel)
   obtain⟨eU,eW⟩:=oV rfl hn dh;refine o9 (fun R h=>⟨_,rfl,h⟩) bV (fun Z Z Z=>rfl) ⟨r,ts,L,rfl,bV,dh.ne,fun d hd H1 s1 fY=>?_,fun h0=>?_⟩
   .subst hd;have um:d<20:=by obtain⟨Z,Z,Z,Z,Z,Z,Z,Z,Z,Z,q⟩:=bV;lia
    have tail:∀(num:Nat)(mk:bN->bN)(xT:List At)(H2:Hp),(∀a,wordOf (mk a)=wd)->(∀a,numOf (mk a)=num)->(∀a,parts (mk a)=[a])->(∀a,own (mk a)=none)->b6 r H H2->du CR CP CT H2 r xT d->Ends xT->xT.length<ts.length->gP (k2+1) (d+1) ts=(andThen (gP k2 d xT) fun a q=> .ok (mk a,q))->(b9 (cE (g0 (mX CR CP CT CW CF (fun Z=>True) n) E (bQ (aS 0) dk)) (b7 3)) (b9 (dX (xP CR "leave_level" (EU CR CP CT) E0 (aS 0) dk)) (b8 (sU CW (sQ CP CW) (bQ (aS 1) (bQ (aS 2) (bQ (tC .aO) (bQ (Yp (bQ (aS 3) dk)) dk)))))))) {nx:=fun Z H'=>Q .aO H',rt:=Q} [some (.ref r),some (.str (S wd)),some (.int (num:Nat)),none] H2:=fun num mk xT H2 zE zF lT uA s2 eI kx qh er=>by
     rw[er]at kS kE;refine⟨_,rfl,r,xT,d,k2,rfl,eI,kx,trivial,by lia,by unfold Vt.sy;lia,fun u2 il e3 kz zC nS a2 H4 s4 iD w2=>?_,fun f e=>(kE f (by rw[e];rfl)).mono fun H' q=>s2.trans q⟩;try dsimp only[b7,b9,cU,cb,bG,cP,dX,cE,b8]
     refine o9 (fun R h=>⟨_,rfl,h⟩) iD (fun Z Z Z=>rfl) ⟨r,il,d,rfl,iD,um,fun H5 s5 qm=>?_⟩;obtain⟨JO,l3,n3,d3,g3⟩:=mU iD;refine⟨_,rfl,_,rfl,_,rfl,(by show 1<=sizeLine;decide),fun p hp=>?_⟩;have:=mk_one (H':=H) (Q:=Q) (u:=mk u2) (lT _) (uA _) qm (w2.gZ s5 g3) hp fun c H6 s6 K2 Ld=>kS _ il (by rw[e3];rfl) kz (by lia) (apF (lT _) (uA _) nS) c H6 (((s2.trans s4).trans s5).trans s6) K2 Ld;rw[zE,zF]at this;exact this
    refine⟨_,rfl,rfl,_,rfl,?_⟩;rw[show bB "within"=S (aX "within")from rfl];refine bD (fun y=>?_) (fun y=>?_)
    .have y:=kl.mp y;have q:=i5.mp y;have er:=Vt.Me (k:=k2) (L:=d+1) q;try dsimp only[b7,b9,cU,cb,bG,cP,dX,cE,b8]
     refine sv (v:=.int ((1:Nat):Int)) (fun R h=>⟨_,rfl,h⟩) (fun R h=>h) fY (fun Z Z Z=>rfl) ⟨r,1,_,d,rfl,fY,eU.ne,fun n1 q1 q2 H2 s2 eI=>?_,fun q1=>?_⟩
     .have kx:Ends ((ts.drop 1).drop 1):=eU.drop (by rw[q1];exact fun y=>(nomatch y));have qh:=ka.mpr eU.ne;refine tail n1 (.soon n1) _ H2 (fun Z=>y.symm) (fun Z=>rfl) (fun Z=>rfl) (fun Z=>rfl) (s1.trans s2) eI kx (by rw[iM];lia) ?_;rw[er];show gx 1 ts _=_;rw[Vt.JK q1 q2,pH]
     .refine(kE ⟨3,here (ts.drop 1)⟩ ?_).mono fun H' q=>s1.trans q;rw[er];show gx 1 ts _=_;by_cases h:∃n,bf (ts.drop 1)=.digit n
      .obtain⟨n1,h⟩:=h;exact Vt.JI h (q1 n1 h)
      .exact Vt.JJ fun n1 q=>h ⟨n1,q⟩
    .have y:¬wd=aX "within":=fun q=>y (by rw[q]);obtain⟨mk,zE,zF,lT,uA,er⟩:∃mk:bN->bN,(∀a,wordOf (mk a)=wd)/\(∀a,numOf (mk a)=0)/\(∀a,parts (mk a)=[a])/\(∀a,own (mk a)=none)/\gP (k2+1) (d+1) ts=(andThen (gP k2 d (ts.drop 1)) fun a q=> .ok (mk a,q)):=by
      simp only[qA,bX,jg,or_false]at z;rcases z with z|z|z|z|z
      .exact⟨.no,fun Z=>z.symm,fun Z=>rfl,fun Z=>rfl,fun Z=>rfl,Vt.qx (.inl ⟨i1.mp z,rfl⟩)⟩
      .exact⟨.next,fun Z=>z.symm,fun Z=>rfl,fun Z=>rfl,fun Z=>rfl,Vt.qx (.inr (.inl ⟨i2.mp z,rfl⟩))⟩
      .exact⟨.ever,fun Z=>z.symm,fun Z=>rfl,fun Z=>rfl,fun Z=>rfl,Vt.qx (.inr (.inr (.inl ⟨i3.mp z,rfl⟩)))⟩
      .exact⟨.always,fun Z=>z.symm,fun Z=>rfl,fun Z=>rfl,fun Z=>rfl,Vt.qx (.inr (.inr (.inr ⟨i4.mp z,rfl⟩)))⟩
      .exact absurd z y
     exact tail 0 mk _ H1 zE zF lT uA s1 fY eU (by lia) er
   .subst h0;refine kE ⟨4,here ts⟩ ?_;simp only[qA,bX,jg,or_false]at z;rcases z with z|z|z|z|z
    .rw[Vt.qx (.inl ⟨i1.mp z,rfl⟩)];rfl
    .rw[Vt.qx (.inr (.inl ⟨i2.mp z,rfl⟩))];rfl
    .rw[Vt.qx (.inr (.inr (.inl ⟨i3.mp z,rfl⟩)))];rfl
    .rw[Vt.qx (.inr (.inr (.inr ⟨i4.mp z,rfl⟩)))];rfl
    .rw[Vt.Me (i5.mp z)];rfl
noncomputable abbrev Eg:aW:=top 75
noncomputable abbrev nBr:List ah:=["reader","wish"]
theorem Xy:bE nBr ["reader"] (aP Eg):=bF
theorem aku{f:aa}{fd:bu}{n k:Nat}(F:bt K "read_bracketed" "read_bracketed" Eg f fd)(M:mr P w K mg base CR CP CT CW CF)(hk:3<=k)(FI:Fn P w K mg base (XE P w) k "read_if" ["reader"] (iJ CR CP CT CW CF 0 n)):bh P w K mg base (XE P w) (k+1) f fd ["reader"] (mX CR CP CT CW CF (fun ts=>bf ts=LEFT) (n+1)):=by
 refine fL F Xy (fun vs H Q E h=>?_) (fun aJ A outer s H vs Q E hr h=>?_)
 .obtain⟨r,ts,L,k,rfl,Z⟩:=h;rfl
 .obtain⟨r,ts,L,k2,rfl,bV,dh,ux,hL,iU,kS,kE⟩:=h;have bM:bb 1 _:=hr.mono (by lia);have dU:bb 3 _:=hr.mono (by lia);refine⟨_,aw (ej (gD M.enter M.k.tr.cls dU cO (pv 0))) (aw (aZ (i:=1) Xy.nd rfl (aF rfl) (aU FI hr rfl cO (ai (pv 0) aj))) (aw (ej (kO M.take M.k.tr.cls dU cO (pv 0) (ai bH aj))) (aw (ej (gD M.leave M.k.tr.cls bM aY (pv 0))) (aA (aI (pv 1)))))),?_⟩;unfold Vt.sy at iU;have zJ:=ka.mpr dh.ne;obtain⟨k2,rfl⟩:∃j,k2=j+1:=⟨k2-1,by lia⟩;rw[Vt.Wn ux]at kS kE;obtain⟨eU,eW⟩:=oV ux (by decide) dh;try dsimp only[b7,b9,cU,cb,bG,cP,dX,cE,b8]
  refine o9 (fun R h=>⟨_,rfl,h⟩) bV (fun Z Z Z=>rfl) ⟨r,ts,L,rfl,bV,dh.ne,fun d hd H1 s1 fY=>?_,fun h0=>?_⟩
  .subst hd;have um:d<20:=by obtain⟨Z,Z,Z,Z,Z,Z,Z,Z,Z,Z,q⟩:=bV;lia
   refine⟨_,rfl,r,_,d,k2,rfl,fY,eU,trivial,by lia,by unfold Vt.kL;lia,fun u2 il e3 kz zC nS a2 H2 s2 eI w2=>?_,fun f e=>(kE f (by show andThen (cu k2 d 0 _) _=_;rw[show cu k2 d 0 (ts.drop 1)=_ from e];rfl)).mono fun H' q=>s1.trans q⟩;have er:(level (d+1) ts fun d=>andThen (cu k2 d 0 (ts.drop 1)) fun a r=>if bf r=RIGHT then .ok (a,r.drop 1)else abc r)=if bf il=RIGHT then .ok (u2,il.drop 1)else abc il:=by
    show andThen (cu k2 d 0 _) _=_;rw[show cu k2 d 0 (ts.drop 1)=_ from e3];rfl
   rw[er]at kS kE;have bJ:=s1.trans s2;try dsimp only[b7,b9,cU,cb,bG,cP,dX,cE,b8]
   refine sv (v:=.str (S [41])) (fun R h=>⟨_,rfl,h⟩) (fun R h=>h) eI (fun Z Z Z=>rfl) ⟨r,[41],RIGHT,il,d,rfl,eI,kz.ne,fun x wd p rl=>Vt.qD rl (by decide),fun z H3 s3 gj=>?_,fun z=>?_⟩
   .rw[if_pos z]at kS;obtain⟨en4,hl4⟩:=oV z (by decide) kz;try dsimp only[b7,b9,cU,cb,bG,cP,dX,cE,b8]
    refine o9 (fun R h=>⟨_,rfl,h⟩) gj (fun Z Z Z=>rfl) ⟨r,_,d,rfl,gj,um,fun H4 s4 iD=>?_⟩;obtain⟨Ta,l2,n2,d2,g2⟩:=mU eI;exact⟨_,rfl,kS u2 _ rfl en4 (by lia) nS a2 H4 ((bJ.trans s3).trans s4) iD (w2.gZ (s3.trans s4) g2)⟩
   .rw[if_neg z]at kE;exact(kE _ rfl).mono fun H' q=>bJ.trans q
  .subst h0;exact kE ⟨4,here ts⟩ rfl
noncomputable abbrev Ei:aW:=top 76
noncomputable abbrev nCt:List ah:=["reader","word","least","number"]
theorem XH:bE nCt ["reader","word","least"] (aP Ei):=bF
noncomputable def OF(CR CP CT CW CF:aa):Sp:=fun vs H Q E=>∃(r:aa)(wd:au)(m:Nat)(mk:Nat->cM->bN)(ts:List At)(L:Nat),vs=[.ref r,.str (S wd),.int (m:Nat)]/\du CR CP CT H r ts L/\Ends ts/\bf ts=.word wd/\wd.all bW=true/\wd≠[]/\(∀n p,wordOf (mk n p)=wd/\numOf (mk n p)=n/\parts (mk n p)=[]/\own (mk n p)=some p)/\RY CR CP CT CW CF H Q E r ts L (gx m ts fun n r=>j6 (mk n) r)
theorem YY{u:bN}{p:cM}(h:parts u=[])(ho:own u=some p)(ha:fO p):fJ u:=fun q hq=>by
 rw[Vt.xq,h,ho]at hq;simp at hq;rw[hq];exact ha
theorem akz{f:aa}{fd:bu}(F:bt K "read_counted" "read_counted" Ei f fd)(M:mr P w K mg base CR CP CT CW CF):bh P w K mg base (XE P w) 4 f fd ["reader","word","least"] (OF CR CP CT CW CF):=by
 refine fL F XH (fun vs H Q E h=>?_) (fun aJ A outer s H vs Q E hr h=>?_)
 .obtain⟨r,wd,m,mk,ts,L,rfl,Z⟩:=h;rfl
 .obtain⟨r,wd,m,mk,ts,L,rfl,bV,dh,U3,Lc,hw2,hmk,kS,kE⟩:=h;have ck:bb 2 _:=hr.mono (by lia);refine⟨_,aw (ej (kO M.take M.k.tr.cls hr cO (pv 0) (ai (pv 1) aj))) (aw (aZ (i:=3) XH.nd rfl (aF rfl) (kO M.Yv M.k.tr.cls hr cO (pv 0) (ai (pv 2) aj))) (aA (aI (gC M.gI ck rfl (ai (pv 1) (ai (pv 3) (ai (gD M.Yw M.k.tr.cls hr cO (pv 0)) (ai (cv aj) aj)))))))),?_⟩;obtain⟨eU,eW⟩:=oV U3 (fun y=>(nomatch y)) dh;have qh:=ka.mpr eU.ne;try dsimp only[b7,b9,cU,cb,bG,cP,dX,cE,b8]
  refine sv (v:=.str (S wd)) (fun R h=>⟨_,rfl,h⟩) (fun R h=>⟨_,rfl,h⟩) bV (fun Z Z Z=>rfl) ⟨r,wd,.word wd,ts,L,rfl,bV,dh.ne,fun x wd p rl=>Vt.nc rl Lc hw2,fun Z H1 s1 fY=>?_,fun z=>absurd U3 z⟩;try dsimp only[b7,b9,cU,cb,bG,cP,dX,cE,b8]
  refine sv (v:=.int ((m:Nat):Int)) (fun R h=>⟨_,rfl,h⟩) (fun R h=>⟨_,rfl,h⟩) fY (fun Z Z Z=>rfl) ⟨r,m,_,L,rfl,fY,eU.ne,fun n1 q1 q2 H2 s2 eI=>?_,fun q1=>?_⟩
  .have kx:Ends ((ts.drop 1).drop 1):=eU.drop (by rw[q1];exact fun y=>(nomatch y));rw[Vt.JK q1 q2,show ts.drop 2=(ts.drop 1).drop 1 by rw[pH]]at kS kE;have bJ:=s1.trans s2;refine⟨_,rfl,_,rfl,?_⟩;refine o9 (fun R h=>⟨_,rfl,h⟩) eI (fun Z Z Z=>rfl) ⟨r,_,L,rfl,eI,kx.ne,fun p hp dG b H3 s3 gj hb=>?_,fun hp=>?_⟩
   .have kz:Ends (((ts.drop 1).drop 1).drop 1):=kx.drop (by rw[hp];exact fun y=>(nomatch y));refine⟨dJ _,fun lp qj=>?_⟩;obtain⟨m0,m1,m2,m3⟩:=hmk n1 p;have:=LS (H':=H) (Q:=Q) (u:=mk n1 p) (pv:=.ref b) m2 (by rw[m3];exact⟨b,rfl,hb⟩) gj qj fun c H4 s4 iD r0=>kS _ _ (Vt.Wu hp) kz (by rw[iM,iM];lia) (YY m2 m3 dG) c H4 ((bJ.trans s3).trans s4) iD r0;rw[m0,m1]at this;exact this
   .exact(kE _ (Vt.Wt hp)).mono fun H' q=>bJ.trans q
  .refine(kE ⟨3,here (ts.drop 1)⟩ ?_).mono fun H' q=>s1.trans q;by_cases h:∃n,bf (ts.drop 1)=.digit n
   .obtain⟨n1,h⟩:=h;exact Vt.JI h (q1 n1 h)
   .exact Vt.JJ fun n1 q=>h ⟨n1,q⟩
noncomputable abbrev Ef:aW:=top 74
noncomputable abbrev nAt:List ah:=["reader","word"]
theorem Xx:bE nAt ["reader"] (aP Ef):=bF
theorem aks{f:aa}{fd:bu}{n k:Nat}(F:bt K "read_atom" "read_atom" Ef f fd)(M:mr P w K mg base CR CP CT CW CF)(hk:4<=k)(c1:bT mg "PATTERN" (.str "pattern"))(FB:Fn P w K mg base (XE P w) k "read_bracketed" ["reader"] (mX CR CP CT CW CF (fun ts=>bf ts=LEFT) n))(FC:Fn P w K mg base (XE P w) 4 "read_counted" ["reader","word","least"] (OF CR CP CT CW CF)):bh P w K mg base (XE P w) (k+1) f fd ["reader"] (mX CR CP CT CW CF Mb n):=by
 refine fL F Xx (fun vs H Q E h=>?_) (fun aJ A outer s H vs Q E hr h=>?_)
 .obtain⟨r,ts,L,k,rfl,Z⟩:=h;rfl
 .obtain⟨r,ts,L,k2,rfl,bV,dh,uh,hL,iU,kS,kE⟩:=h;have bM:bb 1 _:=hr.mono (by lia);have ck:bb 2 _:=hr.mono (by lia);have dU:bb 3 _:=hr.mono (by lia);have UW:bb 4 _:=hr.mono (by lia);refine⟨_,aw (aZ (i:=1) Xx.nd rfl (aF rfl) (aN (gD M.k.ahead M.k.tr.cls bM aY (pv 0)) rfl)) (aw (bx (bq cg (pv 1) bH (bp _)) (aA (aI (aU FB hr rfl cO (ai (pv 0) aj)))) bA) (aw (bx (bq DM (pv 1) (Aq (ai bH (ai bH aj))) (by rfl)) (aw (ej (kO M.take M.k.tr.cls dU cO (pv 0) (ai (pv 1) aj))) (aA (aI (gC M.gI ck rfl (ai (pv 1) (ai bc (ai cT (ai (cv aj) aj)))))))) bA) (aw (bx (bq cg (pv 1) bH (bp _)) (aA (aI (aU FC UW rfl cO (ai (pv 0) (ai (pv 1) (ai bc aj)))))) bA) (aw (bx (bq cg (pv 1) bH (bp _)) (aA (aI (aU FC UW rfl cO (ai (pv 0) (ai (pv 1) (ai bc aj)))))) bA) (aA (aI (gC M.gI ck rfl (ai (bP c1 rfl) (ai bc (ai (gD M.Yw M.k.tr.cls dU cO (pv 0)) (ai (cv aj) aj))))))))))),?_⟩;unfold Vt.sy at iU;have zJ:=ka.mpr dh.ne;obtain⟨k2,rfl⟩:∃j,k2=j+1:=⟨k2-1,by lia⟩;try dsimp only[b7,b9,cU,cb,bG,cP,dX,cE,b8]
  refine wk M (fun R h=>⟨_,rfl,h⟩) bV dh fun wd o rel=>?_;have i1:=Vt.qD rel (c:=40) (by decide);have i2:=Vt.nc rel (u:=aX "true") (by decide+kernel) (by decide+kernel);have i3:=Vt.nc rel (u:=aX "false") (by decide+kernel) (by decide+kernel);have i4:=Vt.nc rel (u:=aX "atleast") (by decide+kernel) (by decide+kernel);have i5:=Vt.nc rel (u:=aX "atmost") (by decide+kernel) (by decide+kernel);refine⟨_,rfl,rfl,_,rfl,?_⟩;rw[show bB "("=S [40]from rfl];refine bD (fun z=>?_) (fun z1=>?_)
  .exact⟨_,rfl,r,ts,L,k2+1,rfl,bV,dh,i1.mp (kl.mp z),hL,by unfold Vt.sy;lia,kS,kE⟩
  have n1:¬bf ts=LEFT:=fun q=>z1 (by rw[i1.mpr q]);rw[Vt.Wm uh.1 uh.2.1 uh.2.2.1 uh.2.2.2.1 uh.2.2.2.2 n1]at kS kE;refine⟨_,rfl,(by show 2<=sizeLine;decide),fun p hp=>?_⟩;have s2:aq H (upd H p (.tup [.str (bB "true"),.str (bB "false")])):=bj (aq.refl _) hp;refine⟨p,_,rfl,.inr (cN.of aD),rfl,rfl,_,rfl,?_⟩;rw[show(if(false:Bool)=true then !iX (.str (S wd)) [.str (bB "true"),.str (bB "false")]else iX (.str (S wd)) [.str (bB "true"),.str (bB "false")])=decide (wd∈[aX "true",aX "false"])from r6 wd [aX "true",aX "false"]];have eI:=bV.same s2;generalize upd H p (.tup [.str (bB "true"),.str (bB "false")])=H2 at s2 eI ⊢;have sx:b6 r H H2:=b6.of s2;refine bD (fun z=>?_) (fun z2=>?_)
  .obtain⟨b,hb,hx,er⟩:∃b:Bool,wordOf (.truth b)=wd/\bf ts=.word wd/\km ts=.ok (.truth b,ts.drop 1):=by
    simp only[bX,jg,or_false]at z;rcases z with z|z
    .exact⟨true,z.symm,by rw[i2.mp z,z],Vt.Sn (i2.mp z)⟩
    .exact⟨false,z.symm,by rw[i3.mp z,z],Vt.Sk (i3.mp z)⟩
   rw[er]at kS;obtain⟨eU,eW⟩:=oV hx (fun y=>(nomatch y)) dh;have mL:wd.all bW=true/\wd≠[]:=by
    rw[<-hb];cases b<;>decide+kernel
   refine sv (v:=.str (S wd)) (fun R h=>⟨_,rfl,h⟩) (fun R h=>⟨_,rfl,h⟩) eI (fun Z Z Z=>rfl) ⟨r,wd,.word wd,ts,L,rfl,eI,dh.ne,fun x wd p rl=>Vt.nc rl mL.1 mL.2,fun Z H3 s3 gj=>?_,fun z=>absurd hx z⟩;refine⟨_,rfl,dJ _,fun lp qj=>?_⟩;have:=LS (H':=H) (Q:=Q) (u:=.truth b) (pv:=.aO) rfl rfl gj qj fun c H4 s4 iD r0=>kS _ _ rfl eU (by lia) (fun q hq=>(nomatch hq)) c H4 ((sx.trans s3).trans s4) iD r0;rw[hb]at this;exact this
  have n2:¬bf ts=.word (aX "true"):=fun q=>z2 (by rw[i2.mpr q];simp);have n3:¬bf ts=.word (aX "false"):=fun q=>z2 (by rw[i3.mpr q];simp);refine⟨_,rfl,rfl,_,rfl,?_⟩;rw[show bB "atleast"=S (aX "atleast")from rfl];refine bD (fun z=>?_) (fun z4=>?_)
  .have z:=kl.mp z;rw[Vt.Si (i4.mp z)]at kS kE;exact⟨_,rfl,_,rfl,r,wd,1,.atleast,ts,L,rfl,eI,dh,by rw[i4.mp z,z],by rw[z];decide+kernel,by rw[z];decide+kernel,fun n p=>⟨z.symm,rfl,rfl,rfl⟩,fun u cQ e en hl ok a H' s'=>kS u cQ e en hl ok a H' (sx.trans s'),fun f e=>(kE f e).mono fun H' q=>sx.trans q⟩
  have n4:¬bf ts=.word (aX "atleast"):=fun q=>z4 (by rw[i4.mpr q]);refine⟨_,rfl,rfl,_,rfl,?_⟩;rw[show bB "atmost"=S (aX "atmost")from rfl];refine bD (fun z=>?_) (fun z5=>?_)
  .have z:=kl.mp z;rw[Vt.Sj (i5.mp z)]at kS kE;exact⟨_,rfl,_,rfl,r,wd,0,.atmost,ts,L,rfl,eI,dh,by rw[i5.mp z,z],by rw[z];decide+kernel,by rw[z];decide+kernel,fun n p=>⟨z.symm,rfl,rfl,rfl⟩,fun u cQ e en hl ok a H' s'=>kS u cQ e en hl ok a H' (sx.trans s'),fun f e=>(kE f e).mono fun H' q=>sx.trans q⟩
  have n5:¬bf ts=.word (aX "atmost"):=fun q=>z5 (by rw[i5.mpr q]);refine o9 (fun R h=>⟨_,rfl,h⟩) eI (fun Z Z Z=>rfl) ⟨r,ts,L,rfl,eI,dh.ne,fun p hp dG b H3 s3 gj hb=>?_,fun hp=>?_⟩
  .obtain⟨eU,eW⟩:=oV hp (fun y=>(nomatch y)) dh;rw[Vt.Sl hp]at kS;refine⟨dJ _,fun lp qj=>?_⟩;exact LS (H':=H) (Q:=Q) (u:=.pat p) (pv:=.ref b) rfl ⟨b,rfl,hb⟩ gj qj fun c H4 s4 iD r0=>kS _ _ rfl eU (by lia) (YY rfl rfl dG) c H4 ((sx.trans s3).trans s4) iD r0
  .exact(kE _ (Vt.Sm n2 n3 n4 n5 hp)).mono fun H' q=>sx.trans q
open Vatrca (At here BAR AMP BANG LEFT RIGHT wishOf)
structure Df(K:aK)(mg:ah->Option af)(x:ah)(st:aW)(ps:List ah):Prop where
 ex:∃f fd,bt K x x st f fd/\mg x=some (.ref f)/\Binds K fd ps []
theorem Df.fn{CX:f7}{x:ah}{st:aW}{ps:List ah}{k:Nat}{sp:Sp}(D:Df K mg x st ps)(h:∀f fd,bt K x x st f fd->bh P w K mg base CX k f fd ps sp):Fn P w K mg base CX k x ps sp:=let ⟨f,fd,F,m,b⟩:=D.ex;⟨f,fd,h f fd F,m,F.kp,b⟩
structure RX(K:aK)(mg:ah->Option af):Prop where
 U7:Df K mg "read_if" Ej ["reader"]
 or_:Df K mg "read_or" Eo ["reader"]
 abl:Df K mg "read_and" Ee ["reader"]
 un:Df K mg "read_until" Ez ["reader"]
 one:Df K mg "read_one" En ["reader"]
 atom:Df K mg "read_atom" Ef ["reader"]
 br:Df K mg "read_bracketed" Eg ["reader"]
 ct:Df K mg "read_counted" Ei ["reader","word","least"]
 pre:KT K mg "PREFIXES" (qA.map fun t=>V.str (S t))
 pat:bT mg "PATTERN" (.str "pattern")
theorem alc(M:mr P w K mg base CR CP CT CW CF)(D:RX K mg):∀n,Fn P w K mg base (XE P w) (7*n+4) "read_if" ["reader"] (iJ CR CP CT CW CF 0 n)/\Fn P w K mg base (XE P w) (7*n+4) "read_until" ["reader"] (iJ CR CP CT CW CF 3 n)/\Fn P w K mg base (XE P w) (7*n+4) "read_one" ["reader"] (mX CR CP CT CW CF (fun Z=>True) n):=by
 intro n;induction n with
 |zero=>
  refine⟨D.U7.fn fun f fd F=>?_,D.un.fn fun f fd F=>?_,D.one.fn fun f fd F=>?_⟩
  .refine fL (k:=3) F EC (fun vs H Q E h=>?_) (fun aJ A outer s H vs Q E hr h=>?_)
   .obtain⟨r,ts,L,k,rfl,Z⟩:=h;rfl
   .obtain⟨r,ts,L,k,Z,Z,Z,Z,hL,Z⟩:=h;lia
  .refine fL (k:=3) F AH (fun vs H Q E h=>?_) (fun aJ A outer s H vs Q E hr h=>?_)
   .obtain⟨r,ts,L,k,rfl,Z⟩:=h;rfl
   .obtain⟨r,ts,L,k,Z,Z,Z,Z,hL,Z⟩:=h;lia
  .refine fL (k:=3) F xC (fun vs H Q E h=>?_) (fun aJ A outer s H vs Q E hr h=>?_)
   .obtain⟨r,ts,L,k,rfl,Z⟩:=h;rfl
   .obtain⟨r,ts,L,k,Z,Z,Z,Z,hL,Z⟩:=h;lia
 |succ n ih=>
  obtain⟨FI,FU,FO⟩:=ih;have FC:Fn P w K mg base (XE P w) 4 "read_counted" ["reader","word","least"] (OF CR CP CT CW CF):=D.ct.fn fun f fd F=>akz F M;have FB:Fn P w K mg base (XE P w) (7*n+5) "read_bracketed" ["reader"] (mX CR CP CT CW CF (fun ts=>bf ts=LEFT) (n+1)):=D.br.fn fun f fd F=>aku F M (by lia) FI;have FA:Fn P w K mg base (XE P w) (7*n+6) "read_atom" ["reader"] (mX CR CP CT CW CF Mb (n+1)):=D.atom.fn fun f fd F=>aks F M (by lia) D.pat FB FC;have F1:Fn P w K mg base (XE P w) (7*n+7) "read_one" ["reader"] (mX CR CP CT CW CF (fun Z=>True) (n+1)):=D.one.fn fun f fd F=>akX F M (by lia) D.pre FA (FO.mono (by lia));have F2:Fn P w K mg base (XE P w) (7*n+8) "read_until" ["reader"] (iJ CR CP CT CW CF 3 (n+1)):=D.un.fn fun f fd F=>alK F M (by lia) F1 (FU.mono (by lia));have F3:Fn P w K mg base (XE P w) (7*n+9) "read_and" ["reader"] (iJ CR CP CT CW CF 2 (n+1)):=D.abl.fn fun f fd F=>akp F M (by lia) F2;have F4:Fn P w K mg base (XE P w) (7*n+10) "read_or" ["reader"] (iJ CR CP CT CW CF 1 (n+1)):=D.or_.fn fun f fd F=>akY F M (by lia) F3;have F5:Fn P w K mg base (XE P w) (7*n+11) "read_if" ["reader"] (iJ CR CP CT CW CF 0 (n+1)):=D.U7.fn fun f fd F=>akN F M (by lia) F4 (FI.mono (by lia));exact⟨F5,F2.mono (by lia),F1.mono (by lia)⟩
noncomputable abbrev NI:aW:=top 68
noncomputable abbrev ajF:List ah:=["text","reader","wish"]
theorem Oc:bE ajF ["text"] (aP NI):=bF
noncomputable def xK(CP CW CF:aa):Sp:=fun vs H Q E=>∃t:au,vs=[.str (S t)]/\ek t/\t.length<=100000/\(∀u,lG t=.ok u->fJ u->u.nodes<=30->(cG u).length<=5->∀a H',aq H H'->Ws CP CW H' a u->Q (.ref a) H')/\∀f,lG t=.error f->Rz CF E f (aq H)
theorem alh{f:aa}{fd:bu}(F:bt K "read_wish" "read_wish" NI f fd)(B:Bt mg)(M:mr P w K mg base CR CP CT CW CF)(TW:Ty K CW nA)(c0:bT mg "END" (.str ""))(c1:bT mg "MOST_BYTES" (.int 1000))(c2:bT mg "TOO_LONG" (.int 1))(c3:bT mg "MOST_NODES" (.int 30))(c4:bT mg "TOO_MANY_NODES" (.int 5))(c5:bT mg "MOST_PATTERNS" (.int 5))(c6:bT mg "TOO_MANY_PATTERNS" (.int 6))(F1:Fn P w K mg base (XE P w) 7 "cut_tokens" ["text"] (OG CP CT CF))(MR:Cl P w K mg base 1 "Reader" CR ["self","tokens"] (OW CR))(F2:Fn P w K mg base (XE P w) 151 "read_if" ["reader"] (iJ CR CP CT CW CF 0 21))(F3:Fn P w K mg base az 3 "patterns_of" ["wish"] (sP CP CW)):bh P w K mg base (XE P w) 152 f fd ["text"] (xK CP CW CF):=by
 refine fL F Oc (fun vs H Q E h=>?_) (fun aJ A outer s H vs Q E hr h=>?_)
 .obtain⟨t,rfl,Z⟩:=h;rfl
 .obtain⟨t,rfl,ha,hl,kS,kE⟩:=h;have ck:bb 2 _:=hr.mono (by lia);have dU:bb 3 _:=hr.mono (by lia);have hr7:bb 7 _:=hr.mono (by lia);refine⟨_,aw (bx (bq uO (cK lK (by rfl) B.len dv (ai (pv 0) aj)) (bP c1 rfl) (bp _)) (aA (px M.k.gh ck rfl (ai (bP c2 rfl) (ai bc aj)))) bA) (aw (aZ (i:=1) Oc.nd rfl (aF rfl) (gC MR ck rfl (ai (aU F1 hr7 rfl cO (ai (pv 0) aj)) aj))) (aw (aZ (i:=2) Oc.nd rfl (aF rfl) (aU F2 hr rfl cO (ai (pv 1) aj))) (aw (ej (kO M.take M.k.tr.cls dU cO (pv 1) (ai (bP c0 rfl) aj))) (aw (bx (bq uO (aN (pv 2) rfl) (bP c3 rfl) (bp _)) (aA (px M.k.gh ck rfl (ai (bP c4 rfl) (ai bc aj)))) bA) (aw (bx (bq uO (cK fR (by rfl) B.len dv (ai (aU F3 dU rfl aY (ai (pv 2) aj)) aj)) (bP c5 rfl) (bp _)) (aA (px M.k.gh ck rfl (ai (bP c6 rfl) (ai bc aj)))) bA) (aA (aI (pv 2)))))))),?_⟩;have zt:=kR t (by lia);refine⟨_,rfl,_,rfl,zt,_,_,rfl,rfl,_,rfl,?_⟩;rw[bR];unfold lG at kS kE;refine bD (fun z=>?_) (fun z=>?_)
  .have z:1000<t.length:=by have z:(1000:Int)<(t.length:Nat):=z;lia
   rw[if_pos (show R7<t.length from z)]at kE;refine⟨_,_,rfl,fun ex dz n1 n2 n3=>?_⟩;exact(kE ⟨1,0⟩ rfl).raise n1 n2 n3 fun H3 s3=>s3
  have z:¬R7<t.length:=by
   intro q;have q:1000<t.length:=q;exact z (by show(1000:Int)<(t.length:Nat);lia)
  rw[if_neg z]at kS kE;have z:¬1000<t.length:=z;refine⟨_,rfl,t,rfl,ha,by lia,fun ts ets l as H1 iC s1 eW dO zP dh=>?_,fun f e=>kE f (by rw[e])⟩;rw[ets]at kS kE;dsimp only at kS kE;refine fun x dx n1 n2 n3=>⟨x,dx,l,rfl,aD,rfl,?_⟩;rw[fE];have s2:aq H1 (upd (upd H1 dx (.own x)) x (.ins CR dx (rF l 0 0))):=bj (bj (aq.refl _) n2) (by rw[ba n3.symm];exact n1);have bV:du CR CP CT (upd (upd H1 dx (.own x)) x (.ins CR dx (rF l 0 0))) x ts 20:=⟨dx,l,as,ts,0,aD,s2 _ _ eW,dO.mono fun a y Z q=>q.same s2,by lia,rfl,by lia⟩;have bJ:=s1.trans s2;generalize upd (upd H1 dx (.own x)) x (.ins CR dx (rF l 0 0))=H2 at s2 bV bJ;have back:∀H',b6 x H2 H'->aq H H':=fun H' s=>b6.new (r:=x) ((b6.of bJ).trans s) (s1.free n1);unfold wishOf at kS kE;refine⟨_,rfl,x,ts,20,_,rfl,bV,dh,trivial,by lia,(by unfold Vt.kL yX;lia:_<=yX ts.length),fun u cQ e ny jY gB a H3 s3 gj hw=>?_,fun f e=>(kE f (by rw[show cu (yX ts.length) R4 0 ts=_ from e])).mono back⟩;rw[show cu (yX ts.length) R4 0 ts=_ from e]at kS kE;dsimp only at kS kE;try dsimp only[b7,b9,cU,cb,bG,cP,dX,cE,b8]
  refine sv (v:=.str (S [])) (fun R h=>⟨_,rfl,h⟩) (fun R h=>h) gj (fun Z Z Z=>rfl) ⟨x,[],.finish,cQ,20,rfl,gj,ny.ne,fun x wd p rl=>Vt.YB rl,fun z2 H4 s4 iD=>?_,fun z2=>?_⟩
  .rw[if_pos z2]at kS kE;dsimp only at kS kE;obtain⟨JO,l3,n3,d3,g3⟩:=mU gj;have r0:=hw.gZ s4 g3;have iI:=back _ (s3.trans s4);have U1:=r0;cases r0 with
   | @mk _ dw lw _ pw y0 g1 g2 g4 g5 g6=>
   refine⟨_,rfl,a,CW,dw,_,_,rfl,g1,TW.cls,TW.nf _ (by simp),rfl,_,_,rfl,rfl,_,rfl,?_⟩;refine bD (fun y=>?_) (fun y=>?_)
   .have y:(30:Int)<(u.nodes:Nat):=y;rw[if_pos (show R5<u.nodes from by show 30<u.nodes;lia)]at kE;refine⟨_,_,rfl,fun ex dz n1 n2 n3=>?_⟩;exact(kE ⟨5,0⟩ rfl).raise n1 n2 n3 fun H3 s3=>iI.trans s3
   have y:¬(30:Int)<(u.nodes:Nat):=y;rw[if_neg (show¬R5<u.nodes from fun q=>by have q:30<u.nodes:=q;lia)]at kS kE;refine⟨_,rfl,a,u,rfl,U1,gB,by lia,fun lq mF H5 uy s5 agD jX=>?_⟩;have hlen:=jX.1;refine⟨lq,_,rfl,.inl (aH.of agD),_,_,rfl,rfl,_,rfl,?_⟩;rw[bC];refine bD (fun y2=>?_) (fun y2=>?_)
   .have y2:(5:Int)<(mF.length:Nat):=y2;rw[if_pos (show R6<(cG u).length from by show 5<_;lia)]at kE;refine⟨_,_,rfl,fun ex dz n1 n2 n3=>?_⟩;exact(kE ⟨6,0⟩ rfl).raise n1 n2 n3 fun H3 s3=>(iI.trans s5).trans s3
   .have y2:¬(5:Int)<(mF.length:Nat):=y2;rw[if_neg (show¬R6<(cG u).length from fun q=>by have q:5<(cG u).length:=q;lia)]at kS;exact⟨_,rfl,kS u rfl gB (by lia) (by lia) a H5 (iI.trans s5) (U1.same s5)⟩
  .rw[if_neg z2]at kE;exact(kE _ rfl).mono fun H' q=>back _ (s3.trans q)
noncomputable def qu(kvs:List (ah×Int)):List (Key×V):=kvs.map fun p=>(.inr p.1,.int p.2)
noncomputable def A7(w:aQ):List ke->List (ah×Int)->Prop
 |[],[]=>True
 |e::es,p::r=>(∃t,e.key=.str p.1 t)/\(∃t,e.val=.int p.2 t)/\e.hash=hashStr w p.1/\A7 w es r
 |_,_=>False
structure KD(P:aV)(w:aQ)(K:aK)(a:aa)(kvs:List (ah×Int)):Prop where
 sys:(a==kj)=false
 nd:(kvs.map (·.1)).Nodup
 ex:∃es ep,K.lookup a=some ⟨.type "dict",none,.dict es ep,#[]⟩/\A7 w es.toList kvs
theorem Vj{P:aV}{w:aQ}:∀{es:List ke}{kvs:List (ah×Int)},A7 w es kvs->∃vs:List (Key×af),KV (qu kvs) vs/\Pairs (ik P w) es vs/\vs.map (·.1)=kvs.map (fun p=>(.inr p.1:Key))/\∀e∈es,∃k,(ik P w).is k e.key=true/\e.hash=(ik P w).hash k
 |[],[],_=>⟨[],.nil,.nil,rfl,fun e he=>nomatch he⟩
 |e::es,p::r,h=>by
  obtain⟨⟨t1,h1⟩,⟨t2,h2⟩,h3,h4⟩:=h;obtain⟨vs,g1,g2,g3,g4⟩:=Vj (P:=P) h4;refine⟨(.inr p.1,.int p.2 t2)::vs,.cons ⟨rfl,⟨t2,rfl⟩⟩ g1,.cons (by rw[h1];exact LR P w _ _) h2 g2,by rw[dY,dY,g3],fun e' he=>?_⟩;rcases bX.mp he with he|he
  .subst he;exact⟨.inr p.1,by rw[h1];exact LR P w _ _,h3⟩
  .exact g4 e' he
 |[],_::_,h=>h.elim
 |_::_,[],h=>h.elim
theorem KD.dict{P:aV}{w:aQ}{K:aK}{a:aa}{kvs:List (ah×Int)}(D:KD P w K a kvs){h:aG}(X:K.In h):∃vs,KV (qu kvs) vs/\h.DictOf (ik P w) a vs:=by
 obtain⟨es,ep,lk,he⟩:=D.ex;obtain⟨vs,g1,g2,g3,g4⟩:=Vj (P:=P) he;refine⟨vs,g1,_,es,ep,X _ _ lk,⟨rfl,rfl,rfl⟩,rfl,fun e h=>g4 e (Qj.mpr h),g2,?_⟩;rw[g3];have:kvs.map (fun p=>(rA p.1:Key))=(kvs.map (·.1)).map rA:=by rw[gm];rfl
 rw[this];exact(QN.mpr (D.nd.imp fun iT q=>iT (aa5 q)))
noncomputable def tq(P:aV)(w:aQ)(K:aK)(mg:ah->Option af)(x:ah)(kvs:List (ah×Int)):Prop:=∃a,bT mg x (.ref a)/\KD P w K a kvs
section
variable{a:aa}{i:bw}{ty tx:TE}
noncomputable def aoN(kvs:List (ah×Int))(a:aa)(ty td:TE):TE:=fun σ H Q=>ty σ H fun y H1=>td σ H1 fun x H2=>∃k,x=.ref a/\y=.str k/\Q (.bl (fF (qu kvs) (.inr k:Key)).isSome) H2
theorem ami(D:KD X.prog X.w X.K a kvs)(hi:PE X i ty)(ho:PE X o td):PC X .In i o (aoN kvs a ty td):=by
 intro pins s σ H Q I h;refine bo (hi pins s σ H _ I h) fun iv s1 ⟨y,H1,I1,ry,q1⟩=>bo (ho pins s1 σ H1 _ I1 q1) fun u s2 ⟨x,H2,I2,rx,k,ex,ey,q2⟩=>?_;subst ex ey;obtain rfl:u=dm a:=rx;obtain⟨vs,rel,dd⟩:=D.dict I2.fK;refine wpAny_in_of (uJ (k:=.inr k) ry) D.sys dd.mapOf ?_;rw[<-(rel.val (.inr k)).Dm];exact⟨.bl _,H2,I2.tok _,rfl,q2⟩
noncomputable def aoL(kvs:List (ah×Int))(a:aa)(td ty:TE):TE:=fun σ H Q=>td σ H fun x H1=>ty σ H1 fun y H2=>∃k v,x=.ref a/\y=.str k/\fF (qu kvs) (.inr k:Key)=some v/\Q v H2
theorem WA(D:KD X.prog X.w X.K a kvs)(ho:PE X o td)(hi:PE X i ty)(hs:Gb i):PE X (.Subscript o i pos) (aoL kvs a td ty):=by
 intro pins s σ H Q I h;refine Yj aai.lookup hs (bo (ho pins s σ H _ I h) fun u s1 ⟨x,H1,I1,rx,q1⟩=>bo (hi pins s1 σ H1 _ I1 q1) fun iv s2 ⟨y,H2,I2,ry,k,v,ex,ey,l,q2⟩=>?_);subst ex ey;obtain rfl:u=dm a:=rx;obtain⟨vs,rel,dd⟩:=D.dict I2.fK;obtain⟨w',hw,og⟩:=fP.some_of (v:=v) (o:=tV vs (.inr k)) (by rw[<-l];exact rel.val _);exact⟨dd.typeIs,wpAny_getItem_of (uJ (k:=.inr k) ry) dd.mapOf hw ⟨v,H2,I2.tok _,og,q2⟩⟩
noncomputable def aoM(kvs:List (ah×Int))(a:aa)(td ty tx:TE):TE:=fun σ H Q=>td σ H fun x H1=>x=.ref a/\ty σ H1 fun y H2=>tx σ H2 fun z H3=>∃k,y=.str k/\Q ((fF (qu kvs) (.inr k:Key)).getD z) H3
theorem amo(D:KD X.prog X.w X.K a kvs)(ho:PE X o td)(he:PE X e ty)(hf:PE X f tx)(m:M2 X o "get" apos e f fS):PE X (.Call (.Attribute o "get" apos) [e,f] [] fS) (aoM kvs a td ty tx):=by
 intro pins s σ H Q I h;refine wpAny_Call_method m.base m.few m.line PySem.F.plainAttrs_dict aah PySem.F.type_dict_get (bo (ho pins s σ H _ I h) fun u s1 ⟨x,H1,I1,rx,ex,q1⟩=>?_);subst ex;obtain rfl:u=dm a:=rx;obtain⟨vs,rel,dd⟩:=D.dict I1.fK;refine⟨dd.typeIs,dd.mapOf.noDict,?_⟩;rw[m.trees];refine yp rfl (Gi (qR (bo (he pins s1 σ H1 _ I1 q1) fun iv s2 ⟨y,H2,I2,ry,q2⟩=>qR (bo (hf pins s2 σ H2 _ I2 q2) fun fv s3 ⟨z,H3,I3,rz,k,ey,q3⟩=>vE ?_))));subst ey;obtain⟨vs,rel,dd⟩:=D.dict I3.fK;exact call_meetsIn aah dd.typeIs PySem.F.entry_dict_get (PySem.F.args_dict_get_3 _ _ _) (meets_dict_get_default (ik X.prog X.w) a (uJ (k:=.inr k) ry) D.sys fv) ⟨_,dd.mapOf,_,H3,I3.tok _,(rel.val (.inr k)).getD rz,q3⟩
end
theorem rN{u:au}(hl:u.length<=1000000)(h0:∀R:VK,R (.str (S u)) H->te σ H R):∀R:VK,R (.str (S u)) H->sT te σ H R:=fun R h=>h0 _ ⟨kR u hl,_,rfl,h⟩
theorem T8{n:Nat}(hl:n<=1000000)(h0:∀R:VK,R (.int (n:Nat)) H->te σ H R):∀R:VK,R (.str (S (iA n))) H->sT te σ H R:=fun R h=>h0 _ ⟨Ai hl,_,rfl,by rw[zc hl];exact h⟩
theorem ij{a u:au}(h0:∀R:VK,R (.str (S u)) H->te σ H R)(hl:a.length+u.length<=1000000)(k:t (S (a++u)) σ H Q):j2 te t (S a) σ H Q:=h0 _ ⟨S u,rfl,by rw[<-gN];exact kR _ (by rw[cY];exact hl),by rw[<-gN];exact k⟩
theorem zX{a:au}(hl:a.length<=1000000)(k:Q (.str (S a)) H):zW (S a) σ H Q:=⟨kR a hl,k⟩
open Vatrca (shown shownBy)
open Vt (wordOf numOf parts own Ea da)
theorem ai6{c:UInt8}{o:Option au}(h:∀y,o=some y->cz y=true):(jr c o).length<=9:=by
 cases o with
 |none=>simp[jr]
 |some y=>
  have:=(j3 (h y rfl)).1;simp only[jr,cy];lia
theorem uP{p:cM}(h:fO p):(gf p).length<=61:=by
 have h1:=Kd h.k;have h2:=ai6 (c:=mz) h.s;have h3:=Dt (c:=dA) h.n;have h4:=Dt (c:=dB) h.g;unfold kK at h3 h4;unfold gf;simp only[cy,cY,je];lia
theorem Oo{k:Nat}(hk:k<=5)(u:bN):(shownBy k u).length<=(shown u).length+2:=by
 rw[Vt.XX hk];split
 .simp
 .lia
theorem ku(n:Nat)(t:au):jo (decide (n<0)) t=t:=by
 rw[decide_eq_false (Bm n)];rfl
theorem Oq(u:bN):fJ u->da u->(shown u).length<=100*u.nodes:=by
 have two:∀{a b:bN}{i j:Nat}{s:au},i<=5->j<=5->s.length<=20->(shown a).length<=100*a.nodes->(shown b).length<=100*b.nodes->(shownBy i a++(s++shownBy j b)).length<=100*(a.nodes+b.nodes+1):=fun{a b i j s} hi hj hs ha hb=>by
  have:=Oo hi a;have:=Oo hj b;simp only[cY];lia
 have one:∀{a:bN}{s:au},s.length<=20->(shown a).length<=100*a.nodes->(s++shownBy 4 a).length<=100*(a.nodes+1):=fun{a s} hs ha=>by
  have:=Oo (show 4<=5 by lia) a;simp only[cY];lia
 induction u with
 |truth b=>intro _ _;cases b<;>decide
 |pat p=>
  intro h _;have:=uP (h p (by simp[yS]));show(gf p).length<=100;lia
 |no a ih=>
  intro h n;show(jo (decide (4<0)) ([33]++shownBy 4 a)).length<=_;rw[ku];exact one (by decide) (ih (h.part (by simp[parts])) n)
 |next a ih=>
  intro h n;show(jo (decide (4<0)) (aX "next "++shownBy 4 a)).length<=_;rw[ku];exact one (by decide+kernel) (ih (h.part (by simp[parts])) n)
 |ever a ih=>
  intro h n;show(jo (decide (4<0)) (aX "ever "++shownBy 4 a)).length<=_;rw[ku];exact one (by decide+kernel) (ih (h.part (by simp[parts])) n)
 |always a ih=>
  intro h n;show(jo (decide (4<0)) (aX "always "++shownBy 4 a)).length<=_;rw[ku];exact one (by decide+kernel) (ih (h.part (by simp[parts])) n)
 |soon m a ih=>
  intro h n;have hd:=lN (n:=m) (by have:=n.1;lia);have e:shown (.soon m a)=(aX "within "++iA m++[32])++shownBy 4 a:=by
   show jo (decide (4<0)) (aX "within "++(iA m++(32::shownBy 4 a)))=_;rw[ku];simp
  rw[e];refine one ?_ (ih (h.part (by simp[parts])) n.2);have:(aX "within ").length=7:=by decide+kernel
  simp only[cY,cy,je];lia
 |both a b qp qr=>
  intro h n;show(jo (decide (2<0)) (shownBy 2 a++(aX " & "++shownBy 3 b))).length<=_;rw[ku];exact two (by lia) (by lia) (by decide+kernel) (qp (h.part (by simp[parts])) n.1) (qr (h.part (by simp[parts])) n.2)
 |either a b qp qr=>
  intro h n;show(jo (decide (1<0)) (shownBy 1 a++(aX " | "++shownBy 2 b))).length<=_;rw[ku];exact two (by lia) (by lia) (by decide+kernel) (qp (h.part (by simp[parts])) n.1) (qr (h.part (by simp[parts])) n.2)
 |implies a b qp qr=>
  intro h n;show(jo (decide (0<0)) (shownBy 1 a++(aX " -> "++shownBy 0 b))).length<=_;rw[ku];exact two (by lia) (by lia) (by decide+kernel) (qp (h.part (by simp[parts])) n.1) (qr (h.part (by simp[parts])) n.2)
 |till a b qp qr=>
  intro h n;show(jo (decide (3<0)) (shownBy 4 a++(aX " until "++shownBy 3 b))).length<=_;rw[ku];exact two (by lia) (by lia) (by decide+kernel) (qp (h.part (by simp[parts])) n.1) (qr (h.part (by simp[parts])) n.2)
 |weak a b qp qr=>
  intro h n;show(jo (decide (3<0)) (shownBy 4 a++(aX " unless "++shownBy 3 b))).length<=_;rw[ku];exact two (by lia) (by lia) (by decide+kernel) (qp (h.part (by simp[parts])) n.1) (qr (h.part (by simp[parts])) n.2)
 |atleast m p=>
  intro h n;have hp:=uP (h p (by simp[yS]));have hd:=lN (n:=m) (by have:m<=9:=n;lia);have:(aX "atleast ").length=8:=by decide+kernel
  show(aX "atleast "++(iA m++(32::gf p))).length<=100;simp only[cY,cy];lia
 |atmost m p=>
  intro h n;have hp:=uP (h p (by simp[yS]));have hd:=lN (n:=m) (by have:m<=9:=n;lia);have:(aX "atmost ").length=7:=by decide+kernel
  show(aX "atmost "++(iA m++(32::gf p))).length<=100;simp only[cY,cy];lia
noncomputable def DO:List (ah×Int):=[("->",0),("|",1),("&",2),("until",3),("unless",3),("!",4),("next",4),("ever",4),("always",4),("within",4)]
noncomputable def zZ:List (ah×Int):=[("->",1),("|",1),("&",2),("until",4),("unless",4)]
noncomputable def D6:List (ah×Int):=[("->",0),("|",2),("&",3),("until",3),("unless",3)]
theorem al1(u:bN):(fF (qu DO) (.inr (S (wordOf u)):Key)).getD (.int 5)=.int (Ea u:Nat):=by
 cases u with
 |truth b=>cases b<;>rfl
 |_=>rfl
noncomputable def way:bN->Nat
 | .truth _=>0
 | .pat _=>1
 | .atleast _ _=>2
 | .atmost _ _=>2
 | .both _ _=>3
 | .either _ _=>3
 | .implies _ _=>3
 | .till _ _=>3
 | .weak _ _=>3
 |_=>4
theorem YR(u:bN):wordOf u∈[aX "true",aX "false"]↔way u=0:=by
 cases u with
 |truth b=>cases b<;>exact⟨fun Z=>rfl,fun Z=>by decide+kernel⟩
 |_=>exact⟨fun h=>absurd h (by dsimp only[wordOf];decide+kernel),fun h=>nomatch h⟩
theorem YS(u:bN):wordOf u=aX "pattern"↔way u=1:=by
 cases u with
 |truth b=>cases b<;>exact⟨fun h=>absurd h (by decide+kernel),fun h=>nomatch h⟩
 |pat p=>exact⟨fun Z=>rfl,fun Z=>rfl⟩
 |_=>exact⟨fun h=>absurd h (by dsimp only[wordOf];decide+kernel),fun h=>nomatch h⟩
theorem YT(u:bN):wordOf u∈[aX "atleast",aX "atmost"]↔way u=2:=by
 cases u with
 |truth b=>cases b<;>exact⟨fun h=>absurd h (by decide+kernel),fun h=>nomatch h⟩
 |atleast n p=>exact⟨fun Z=>rfl,fun Z=>by dsimp only[wordOf];decide+kernel⟩
 |atmost n p=>exact⟨fun Z=>rfl,fun Z=>by dsimp only[wordOf];decide+kernel⟩
 |_=>exact⟨fun h=>absurd h (by dsimp only[wordOf];decide+kernel),fun h=>nomatch h⟩
theorem apA(u:bN):(fF (qu zZ) (.inr (S (wordOf u)):Key)).isSome=decide (way u=3):=by
 cases u with
 |truth b=>cases b<;>rfl
 |_=>rfl
theorem apm{u:bN}(h:way u=3):∃x y i j,parts u=[x,y]/\i<=5/\j<=5/\fF (qu zZ) (.inr (S (wordOf u)):Key)=some (.int (i:Nat))/\fF (qu D6) (.inr (S (wordOf u)):Key)=some (.int (j:Nat))/\shown u=shownBy i x++([32]++(wordOf u++([32]++shownBy j y))):=by
 cases u with
 |both a b=>exact⟨a,b,2,3,rfl,by lia,by lia,rfl,rfl,(by show jo (decide (2<0)) (shownBy 2 a++(aX " & "++shownBy 3 b))=_;rw[show aX " & "=[32]++([38]++[32]) by decide+kernel];simp[wordOf];rfl)⟩
 |either a b=>exact⟨a,b,1,2,rfl,by lia,by lia,rfl,rfl,(by show jo (decide (1<0)) (shownBy 1 a++(aX " | "++shownBy 2 b))=_;rw[show aX " | "=[32]++([124]++[32]) by decide+kernel];simp[wordOf];rfl)⟩
 |implies a b=>exact⟨a,b,1,0,rfl,by lia,by lia,rfl,rfl,(by show jo (decide (0<0)) (shownBy 1 a++(aX " -> "++shownBy 0 b))=_;rw[show aX " -> "=[32]++([45,62]++[32]) by decide+kernel];simp[wordOf];rfl)⟩
 |till a b=>exact⟨a,b,4,3,rfl,by lia,by lia,rfl,rfl,(by show jo (decide (3<0)) (shownBy 4 a++(aX " until "++shownBy 3 b))=_;rw[show aX " until "=[32]++(aX "until"++[32]) by decide+kernel];simp[wordOf];rfl)⟩
 |weak a b=>exact⟨a,b,4,3,rfl,by lia,by lia,rfl,rfl,(by show jo (decide (3<0)) (shownBy 4 a++(aX " unless "++shownBy 3 b))=_;rw[show aX " unless "=[32]++(aX "unless"++[32]) by decide+kernel];simp[wordOf];rfl)⟩
 |_=>cases h
noncomputable def ph(w:au)(n:Nat):au:=if w=[33]then w else if w=aX "within" then w++([32]++(iA n++[32]))else w++[32]
theorem alT{u:bN}(h:way u=4):∃x,parts u=[x]/\shown u=ph (wordOf u) (numOf u)++shownBy 4 x:=by
 cases u with
 |no a=>exact⟨a,rfl,ku 4 _⟩
 |next a=>exact⟨a,rfl,(by rw[show ph (wordOf (.next a)) (numOf (.next a))=aX "next " by show ph (aX "next") 0=_;decide+kernel];exact ku 4 _)⟩
 |ever a=>exact⟨a,rfl,(by rw[show ph (wordOf (.ever a)) (numOf (.ever a))=aX "ever " by show ph (aX "ever") 0=_;decide+kernel];exact ku 4 _)⟩
 |always a=>exact⟨a,rfl,(by rw[show ph (wordOf (.always a)) (numOf (.always a))=aX "always " by show ph (aX "always") 0=_;decide+kernel];exact ku 4 _)⟩
 |soon n a=>
  refine⟨a,rfl,?_⟩;show jo (decide (4<0)) (aX "within "++(iA n++(pS::shownBy 4 a)))=_;have e:ph (wordOf (.soon n a)) (numOf (.soon n a))=aX "within"++([32]++(iA n++[32])):=(if_neg (by show¬aX "within"=[33];decide+kernel)).trans (if_pos rfl);rw[e,show aX "within "=aX "within"++[32] by decide+kernel];simp[pS];rfl
 |_=>cases h
theorem acs{u:bN}(h:way u=2):∃p,own u=some p/\shown u=wordOf u++([32]++(iA (numOf u)++([32]++gf p))):=by
 cases u with
 |atleast n p=>
  refine⟨p,rfl,?_⟩;show aX "atleast "++(iA n++(32::gf p))=aX "atleast"++_;rw[show aX "atleast "=aX "atleast"++[32] by decide+kernel];simp[Vt.numOf]
 |atmost n p=>
  refine⟨p,rfl,?_⟩;show aX "atmost "++(iA n++(32::gf p))=aX "atmost"++_;rw[show aX "atmost "=aX "atmost"++[32] by decide+kernel];simp[Vt.numOf]
 |_=>cases h
theorem Qg(u:bN):(wordOf u).length<=10:=by
 cases u with
 |truth b=>cases b<;>decide+kernel
 |_=>dsimp only[wordOf];decide+kernel
open Vt (wordOf parts own Ea da)
noncomputable abbrev M6:aW:=top 84
noncomputable abbrev ajp:List ah:=["wish","word","number","pattern"]
theorem EB:bE ajp ["wish"] (aP M6):=bF
noncomputable def ES(CP CW:aa):Sp:=fun vs H Q Z=>∃(a:aa)(u:bN),vs=[.ref a]/\Ws CP CW H a u/\fJ u/\da u/\way u=2/\Q (.str (S (shown u))) H
theorem akA{f:aa}{fd:bu}(F:bt K "counted_text" "counted_text" M6 f fd)(T:Ty K CW nA)(F1:Fn P w K mg base az 2 "pattern_text" ["pattern"] (xI CP)):bh P w K mg base az 3 f fd ["wish"] (ES CP CW):=by
 refine F.ok EB (fun vs H Q E h=>?_) (fun aJ A outer s H vs Q E hr h=>?_)
 .obtain⟨a,u,rfl,Z⟩:=h;rfl
 .obtain⟨a,u,rfl,hw,jF,iZ,ahw,k⟩:=h;refine⟨_,aw (aZ (i:=1) EB.nd rfl (aF rfl) (aN (pv 0) rfl)) (aw (aZ (i:=2) EB.nd rfl (aF rfl) (aN (pv 0) rfl)) (aw (aZ (i:=3) EB.nd rfl (aF rfl) (aU F1 hr rfl aY (ai (aN (pv 0) rfl) aj))) (aA (aI (qy (dW (iH (pv 1)) (dW bH (dW (iH (pv 2)) (dW bH (dW (iH (pv 3)) qz)))))))))),?_⟩;obtain⟨p,ho,es⟩:=acs ahw;have dG:=jF.own ho;have b0:=uP dG;have ig:=Qg u;have hn:=iZ.num;have hd:=lN (n:=Vt.numOf u) (by lia);cases hw with
  | @mk _ dx l _ nW as g1 g2 g3 g4 g5=>
  rw[ho]at g2;obtain⟨b,rfl,hb⟩:=g2;refine⟨_,rfl,a,CW,dx,_,_,rfl,g1,T.cls,T.nf _ (by simp),rfl,?_⟩;refine⟨_,rfl,a,CW,dx,_,_,rfl,g1,T.cls,T.nf _ (by simp),rfl,?_⟩;refine⟨_,rfl,a,CW,dx,_,_,rfl,g1,T.cls,T.nf _ (by simp),rfl,b,p,rfl,hb,dG,?_⟩;rw[es]at k;try dsimp only[b7,b9,cU,cb,bG,cP,dX,cE,b8]
  show j2 _ _ (S []) _ H _;refine ij (rN (u:=wordOf u) (by lia) fun R h=>⟨_,rfl,h⟩) (by simp;lia) ?_;refine ij (u:=[32]) (fun R h=>h) (by simp;lia) ?_;refine ij (T8 (n:=Vt.numOf u) (by lia) fun R h=>⟨_,rfl,h⟩) (by simp;lia) ?_;refine ij (u:=[32]) (fun R h=>h) (by simp;lia) ?_;refine ij (rN (u:=gf p) (by lia) fun R h=>⟨_,rfl,h⟩) (by simp;lia) ?_;refine zX (by simp;lia) ?_;simp only[ni,iL];exact k
noncomputable abbrev Nz:aW:=top 85
noncomputable abbrev ajz:List ah:=["wish","word","number"]
theorem Oa:bE ajz ["wish"] (aP Nz):=bF
noncomputable def EW(CP CW:aa):Sp:=fun vs H Q Z=>∃(a:aa)(u:bN),vs=[.ref a]/\Ws CP CW H a u/\da u/\Q (.str (S (ph (wordOf u) (Vt.numOf u)))) H
theorem ak7{f:aa}{fd:bu}(F:bt K "prefix_text" "prefix_text" Nz f fd)(T:Ty K CW nA):bh P w K mg base az 1 f fd ["wish"] (EW CP CW):=by
 refine F.ok Oa (fun vs H Q E h=>?_) (fun aJ A outer s H vs Q E hr h=>?_)
 .obtain⟨a,u,rfl,Z⟩:=h;rfl
 .obtain⟨a,u,rfl,hw,iZ,k⟩:=h;refine⟨_,aw (aZ (i:=1) Oa.nd rfl (aF rfl) (aN (pv 0) rfl)) (aw (aZ (i:=2) Oa.nd rfl (aF rfl) (aN (pv 0) rfl)) (aw (bx (bq cg (pv 1) bH (bp _)) (aA (aI (pv 1))) bA) (aw (bx (bq cg (pv 1) bH (bp _)) (aA (aI (qy (dW (iH (pv 1)) (dW bH (dW (iH (pv 2)) (dW bH qz))))))) bA) (aA (aI (qy (dW (iH (pv 1)) (dW bH qz)))))))),?_⟩;have ig:=Qg u;have hn:=iZ.num;have hd:=lN (n:=Vt.numOf u) (by lia);cases hw with
  | @mk _ dx l _ nW as g1 g2 g3 g4 g5=>
  refine⟨_,rfl,a,CW,dx,_,_,rfl,g1,T.cls,T.nf _ (by simp),rfl,?_⟩;refine⟨_,rfl,a,CW,dx,_,_,rfl,g1,T.cls,T.nf _ (by simp),rfl,?_⟩;unfold ph at k;refine⟨_,rfl,rfl,_,rfl,?_⟩;rw[show bB "!"=S [33]from rfl];refine bD (fun z=>?_) (fun z=>?_)
  .rw[if_pos (kl.mp z)]at k;exact⟨_,rfl,k⟩
  rw[if_neg (fun q=>z (by rw[q]))]at k;refine⟨_,rfl,rfl,_,rfl,?_⟩;rw[show bB "within"=S (aX "within")from rfl];refine bD (fun z=>?_) (fun z=>?_)
  .rw[if_pos (kl.mp z)]at k;try dsimp only[b7,b9,cU,cb,bG,cP,dX,cE,b8]
   show j2 _ _ (S []) _ H _;refine ij (rN (u:=wordOf u) (by lia) fun R h=>⟨_,rfl,h⟩) (by simp;lia) ?_;refine ij (u:=[32]) (fun R h=>h) (by simp;lia) ?_;refine ij (T8 (n:=Vt.numOf u) (by lia) fun R h=>⟨_,rfl,h⟩) (by simp;lia) ?_;refine ij (u:=[32]) (fun R h=>h) (by simp;lia) ?_;refine zX (by simp;lia) ?_;simp only[ni,iL];exact k
  .rw[if_neg (fun q=>z (by rw[q]))]at k;try dsimp only[b7,b9,cU,cb,bG,cP,dX,cE,b8]
   show j2 _ _ (S []) _ H _;refine ij (rN (u:=wordOf u) (by lia) fun R h=>⟨_,rfl,h⟩) (by simp;lia) ?_;refine ij (u:=[32]) (fun R h=>h) (by simp;lia) ?_;refine zX (by simp;lia) ?_;simp only[ni];exact k
noncomputable abbrev Ep:aW:=top 86
noncomputable abbrev ajA:List ah:=["part","asked","text"]
theorem XI:bE ajA ["part","asked"] (aP Ep):=bF
noncomputable def AS(n:Nat)(CP CW:aa):Sp:=fun vs H Q Z=>∃(a:aa)(u:bN),vs=[.ref a]/\Ws CP CW H a u/\fJ u/\da u/\u.nodes<=n/\u.nodes<=1000/\∀H',aq H H'->Q (.str (S (shown u))) H'
noncomputable def OU(n:Nat)(CP CW:aa):Sp:=fun vs H Q Z=>∃(a:aa)(u:bN)(k:Nat),vs=[.ref a,.int (k:Nat)]/\k<=5/\Ws CP CW H a u/\fJ u/\da u/\u.nodes<=n/\u.nodes<=1000/\∀H',aq H H'->Q (.str (S (shownBy k u))) H'
theorem ak8{f:aa}{fd:bu}{n k:Nat}(F:bt K "part_text" "part_text" Ep f fd)(T:Ty K CW nA)(D:tq P w K mg "OWN_RULES" DO)(c1:bT mg "ATOM" (.int 5))(F1:Fn P w K mg base az k "wish_text" ["wish"] (AS n CP CW)):bh P w K mg base az (k+1) f fd ["part","asked"] (OU n CP CW):=by
 refine F.ok XI (fun vs H Q E h=>?_) (fun aJ A outer s H vs Q E hr h=>?_)
 .obtain⟨a,u,k,rfl,Z⟩:=h;rfl
 .obtain⟨a,u,m,rfl,hm,hw,jF,iZ,hn,jw,k2⟩:=h;obtain⟨ad,cd,D⟩:=D;refine⟨_,aw (aZ (i:=2) XI.nd rfl (aF rfl) (aU F1 hr rfl aY (ai (pv 0) aj))) (aw (bx (bq nU (amo D (bP cd rfl) (aN (pv 0) rfl) (bP c1 rfl) ⟨rfl,rfl,rfl,rfl⟩) (pv 1) (bp _)) (aA (aI (qy (dW bH (dW (iH (pv 2)) (dW bH qz)))))) bA) (aA (aI (pv 2)))),?_⟩;refine⟨_,rfl,a,u,rfl,hw,jF,iZ,hn,jw,fun H1 s1=>?_⟩;have hl:=Oq u jF iZ;have Lc:=hw.same s1;have k2:=k2 H1 s1;rw[Vt.XX hm]at k2;cases Lc with
  | @mk _ dx l _ nW as g1 g2 g3 g4 g5=>
  refine⟨rfl,_,rfl,a,CW,dx,_,_,rfl,g1,T.cls,T.nf _ (by simp),rfl,_,rfl,?_⟩;rw[al1];refine⟨_,rfl,_,_,rfl,rfl,_,rfl,bD (fun z=>?_) (fun z=>?_)⟩
  .rw[if_pos (by lia)]at k2;try dsimp only[b7,b9,cU,cb,bG,cP,dX,cE,b8]
   show j2 _ _ (S []) _ H1 _;refine ij (u:=[40]) (fun R h=>h) (by simp) ?_;refine ij (rN (u:=shown u) (by lia) fun R h=>⟨_,rfl,h⟩) (by simp;lia) ?_;refine ij (u:=[41]) (fun R h=>h) (by simp;lia) ?_;refine zX (by simp;lia) ?_;simpa using k2
  .rw[if_neg (by lia)]at k2;exact⟨_,rfl,k2⟩
noncomputable abbrev Es:aW:=top 83
noncomputable abbrev ajG:List ah:=["wish","word","left","right"]
theorem AG:bE ajG ["wish"] (aP Es):=bF
theorem alm{f:aa}{fd:bu}{n k:Nat}(F:bt K "wish_text" "wish_text" Es f fd)(hk:3<=k)(T:Ty K CW nA)(c1:bT mg "PATTERN" (.str "pattern"))(c2:bT mg "ONE" (.int 4))(DL:tq P w K mg "LEFT_RULES" zZ)(DR:tq P w K mg "RIGHT_RULES" D6)(F1:Fn P w K mg base az 2 "pattern_text" ["pattern"] (xI CP))(F2:Fn P w K mg base az 3 "counted_text" ["wish"] (ES CP CW))(F3:Fn P w K mg base az 1 "prefix_text" ["wish"] (EW CP CW))(F4:Fn P w K mg base az k "part_text" ["part","asked"] (OU n CP CW)):bh P w K mg base az (k+1) f fd ["wish"] (AS (n+1) CP CW):=by
 refine F.ok AG (fun vs H Q E h=>?_) (fun aJ A outer s H vs Q E hr h=>?_)
 .obtain⟨a,u,rfl,Z⟩:=h;rfl
 .obtain⟨a,u,rfl,hw,jF,iZ,hn,jw,k2⟩:=h;obtain⟨aL,cL,DL⟩:=DL;obtain⟨aR,cR,DR⟩:=DR;have bM:bb 1 _:=hr.mono (by lia);have ck:bb 2 _:=hr.mono (by lia);have dU:bb 3 _:=hr.mono (by lia);refine⟨_,aw (aZ (i:=1) AG.nd rfl (aF rfl) (aN (pv 0) rfl)) (aw (bx (bq DM (pv 1) (Aq (ai bH (ai bH aj))) (by rfl)) (aA (aI (pv 1))) bA) (aw (bx (bq cg (pv 1) (bP c1 rfl) (bp _)) (aA (aI (aU F1 ck rfl aY (ai (aN (pv 0) rfl) aj)))) bA) (aw (bx (bq DM (pv 1) (Aq (ai bH (ai bH aj))) (by rfl)) (aA (aI (aU F2 dU rfl aY (ai (pv 0) aj)))) bA) (aw (bx (WU (ami DL (pv 1) (bP cL rfl)) (by rfl)) (aw (aZ (i:=2) AG.nd rfl (aF rfl) (aU F4 hr rfl aY (ai (bZ fc (aN (pv 0) rfl) bc (fun Z Z=>rfl)) (ai (WA DL (bP cL rfl) (pv 1) (fun Z Z=>rfl)) aj)))) (aw (aZ (i:=3) AG.nd rfl (aF rfl) (aU F4 hr rfl aY (ai (bZ fc (aN (pv 0) rfl) bc (fun Z Z=>rfl)) (ai (WA DR (bP cR rfl) (pv 1) (fun Z Z=>rfl)) aj)))) (aA (aI (qy (dW (iH (pv 2)) (dW bH (dW (iH (pv 1)) (dW bH (dW (iH (pv 3)) qz)))))))))) bA) (aA (aI (dH xl (aU F3 bM rfl aY (ai (pv 0) aj)) (aU F4 hr rfl aY (ai (bZ fc (aN (pv 0) rfl) bc (fun Z Z=>rfl)) (ai (bP c2 rfl) aj)))))))))),?_⟩;have hl:=Oq u jF iZ;have ig:=Qg u;have aqo:=iZ.num;have hnp:=Vt.xj u;have nO:∀x,x∈parts u->x.nodes<=n/\x.nodes<=1000:=fun x hx=>by
   have:=LA (dI.mpr ⟨x,hx,rfl⟩:x.nodes∈(parts u).map vY);lia
  have mM:=hw;cases hw with
  | @mk _ dx l _ nW as g1 g2 g3 g4 g5=>
  refine⟨_,rfl,a,CW,dx,_,_,rfl,g1,T.cls,T.nf _ (by simp),rfl,?_⟩;refine⟨_,rfl,(by show 2<=sizeLine;decide),fun p1 mK=>?_⟩;have s1:aq H (upd H p1 (.tup [.str (bB "true"),.str (bB "false")])):=bj (aq.refl _) mK;refine⟨p1,_,rfl,.inr (cN.of aD),rfl,rfl,_,rfl,?_⟩;rw[show(if(false:Bool)=true then !iX (.str (S (wordOf u))) [.str (bB "true"),.str (bB "false")]else iX (.str (S (wordOf u))) [.str (bB "true"),.str (bB "false")])=decide (wordOf u∈[aX "true",aX "false"])from r6 (wordOf u) [aX "true",aX "false"]];generalize upd H p1 (.tup [.str (bB "true"),.str (bB "false")])=H1 at s1 ⊢;refine bD (fun z=>?_) (fun z0=>?_)
  .have z:=(YR u).mp z;have e:shown u=wordOf u:=by cases u<;>first|rfl|cases z
   rw[e]at k2;exact⟨_,rfl,k2 _ s1⟩
  refine⟨_,rfl,rfl,_,rfl,?_⟩;refine bD (fun z=>?_) (fun z1=>?_)
  .have z:=(YS u).mp ((kl (b:=aX "pattern")).mp z);obtain⟨p,rfl⟩:∃p,u=.pat p:=by cases u<;>first|exact⟨_,rfl⟩|cases z
   obtain⟨b,rfl,hb⟩:=g2;exact⟨_,rfl,a,CW,dx,_,_,rfl,s1 _ _ g1,T.cls,T.nf _ (by simp),rfl,b,p,rfl,Pt.same hb s1,jF.own rfl,k2 _ s1⟩
  have z1:¬way u=1:=fun q=>z1 (by rw[(YS u).mpr q];rfl);refine⟨_,rfl,(by show 2<=sizeLine;decide),fun p2 fX=>?_⟩;have s2:aq H1 (upd H1 p2 (.tup [.str (bB "atleast"),.str (bB "atmost")])):=bj (aq.refl _) fX;refine⟨p2,_,rfl,.inr (cN.of aD),rfl,rfl,_,rfl,?_⟩;rw[show(if(false:Bool)=true then !iX (.str (S (wordOf u))) [.str (bB "atleast"),.str (bB "atmost")]else iX (.str (S (wordOf u))) [.str (bB "atleast"),.str (bB "atmost")])=decide (wordOf u∈[aX "atleast",aX "atmost"])from r6 (wordOf u) [aX "atleast",aX "atmost"]];have bJ:=s1.trans s2;generalize upd H1 p2 (.tup [.str (bB "atleast"),.str (bB "atmost")])=H2 at s2 bJ ⊢;refine bD (fun z=>?_) (fun z2=>?_)
  .exact⟨_,rfl,a,u,rfl,mM.same bJ,jF,iZ,(YT u).mp z,k2 _ bJ⟩
  have h1:=bJ _ _ g1;have h3:=bJ _ _ g3;refine⟨_,rfl,_,rfl,rfl,_,rfl,?_⟩;rw[apA];refine bD (fun z=>?_) (fun z3=>?_)
  .obtain⟨x,y,i,j,hp,hi,hj,vL,vR,es⟩:=apm z;rw[hp]at g4 g5;obtain⟨ax,ay,rfl⟩:∃ax ay,as=[ax,ay]:=by
    match as,g4 with
    |[ax,ay],_=>exact⟨ax,ay,rfl⟩
   have wx:=(g5 0 ax x rfl rfl).same bJ;have wy:=(g5 1 ay y rfl rfl).same bJ;have mx:x∈parts u:=by rw[hp];simp
   have my:y∈parts u:=by rw[hp];simp
   refine⟨_,rfl,a,CW,dx,_,_,rfl,h1,T.cls,T.nf _ (by simp),rfl,l,_,0,_,rfl,rfl,aH.of h3,bY (j:=0) rfl,_,rfl,_,_,rfl,rfl,vL,ax,x,i,rfl,hi,wx,jF.part mx,iZ.part mx,(nO x mx).1,(nO x mx).2,fun H3 s3=>?_⟩;refine⟨_,rfl,a,CW,dx,_,_,rfl,s3 _ _ h1,T.cls,T.nf _ (by simp),rfl,l,_,1,_,rfl,rfl,aH.of (s3 _ _ h3),bY (j:=1) rfl,_,rfl,_,_,rfl,rfl,vR,ay,y,j,rfl,hj,wy.same s3,jF.part my,iZ.part my,(nO y my).1,(nO y my).2,fun H4 s4=>?_⟩;have k2:=k2 H4 ((bJ.trans s3).trans s4);have hs:=congrArg ox es;simp only[cY,cy,je]at hs;rw[es]at k2;try dsimp only[b7,b9,cU,cb,bG,cP,dX,cE,b8]
   show j2 _ _ (S []) _ H4 _;refine ij (rN (u:=shownBy i x) (by lia) fun R h=>⟨_,rfl,h⟩) (by simp;lia) ?_;refine ij (u:=[32]) (fun R h=>h) (by simp;lia) ?_;refine ij (rN (u:=wordOf u) (by lia) fun R h=>⟨_,rfl,h⟩) (by simp;lia) ?_;refine ij (u:=[32]) (fun R h=>h) (by simp;lia) ?_;refine ij (rN (u:=shownBy j y) (by lia) fun R h=>⟨_,rfl,h⟩) (by simp;lia) ?_;refine zX (by simp;lia) ?_;simp only[ni,iL];exact k2
  .have n0:¬way u=0:=fun q=>z0 ((YR u).mpr q);have n2:¬way u=2:=fun q=>z2 ((YT u).mpr q);have h4:way u=4:=by
    have:way u<=4:=by cases u<;>(dsimp only[way];lia)
    lia
   obtain⟨x,hp,es⟩:=alT h4;rw[hp]at g4 g5;obtain⟨ax,rfl⟩:∃ax,as=[ax]:=by
    match as,g4 with
    |[ax],_=>exact⟨ax,rfl⟩
   have wx:=(g5 0 ax x rfl rfl).same bJ;have mx:x∈parts u:=by rw[hp];simp
   refine⟨_,rfl,a,u,rfl,mM.same bJ,iZ,_,rfl,a,CW,dx,_,_,rfl,h1,T.cls,T.nf _ (by simp),rfl,l,_,0,_,rfl,rfl,aH.of h3,bY (j:=0) rfl,ax,x,4,rfl,by lia,wx,jF.part mx,iZ.part mx,(nO x mx).1,(nO x mx).2,fun H3 s3=>?_⟩;have k2:=k2 H3 (bJ.trans s3);have hs:=congrArg ox es;rw[cY]at hs;refine⟨_,_,rfl,rfl,?_,?_⟩
   .rw[bR,bR];exact big _ (by lia)
   .rw[<-gN,<-es];exact k2
structure RZ(P:aV)(w:aQ)(K:aK)(mg:ah->Option af)(base:aG)(CP CW:aa):Prop where
 sh:Df K mg "wish_text" Es ["wish"]
 pt:Df K mg "part_text" Ep ["part","asked"]
 ty:Ty K CW nA
 own:tq P w K mg "OWN_RULES" DO
 left:tq P w K mg "LEFT_RULES" zZ
 right:tq P w K mg "RIGHT_RULES" D6
 one:bT mg "ONE" (.int 4)
 atom:bT mg "ATOM" (.int 5)
 pat:bT mg "PATTERN" (.str "pattern")
 al2:Fn P w K mg base az 2 "pattern_text" ["pattern"] (xI CP)
 ct:Fn P w K mg base az 3 "counted_text" ["wish"] (ES CP CW)
 pre:Fn P w K mg base az 1 "prefix_text" ["wish"] (EW CP CW)
theorem aln(D:RZ P w K mg base CP CW):∀n,Fn P w K mg base az (2*n+3) "wish_text" ["wish"] (AS n CP CW):=by
 intro n;induction n with
 |zero=>
  refine D.sh.fn fun f fd F=>?_;refine F.ok (k:=2) AG (fun vs H Q E h=>?_) (fun aJ A outer s H vs Q E hr h=>?_)
  .obtain⟨a,u,rfl,Z⟩:=h;rfl
  .obtain⟨a,u,Z,Z,Z,Z,hn,Z⟩:=h;have:=L4 u;lia
 |succ n ih=>
  have FP:Fn P w K mg base az (2*n+4) "part_text" ["part","asked"] (OU n CP CW):=D.pt.fn fun f fd F=>ak8 F D.ty D.own D.atom ih;exact D.sh.fn fun f fd F=>alm F (by lia) D.ty D.pat D.one D.left D.right D.al2 D.ct D.pre FP
open Vatrca (signNumber)
theorem aii{X:Cx}:Bo X .Mult (fun x y H Q=>∃i j,x=.int i/\y=.int j/\A3 i j/\Q (.int (i*j)) H):=by
 intro pins s σ H x y v u Q I r1 r2 h;obtain⟨i,j,e1,e2,hc,q⟩:=h;subst e1;subst e2;obtain⟨t,rfl⟩:=r1;obtain⟨t',rfl⟩:=r2;exact imul_int ⟨.int _,H,I.tok _,⟨_,rfl⟩,q⟩ hc.ok
theorem X3:∀(l:List Bool)(b:Bool),signNumber (l++[b])=signNumber l+(if b then 2^l.length else 0)
 |[],b=>by cases b<;>rfl
 |a::l,b=>by
  show(if a then 1 else 0)+2*signNumber (l++[b])=(if a then 1 else 0)+2*signNumber l+_;rw[X3 l b,cy,Ga];cases b
  .simp
  .simp only[if_true];lia
theorem X0:∀l:List Bool,signNumber l<2^l.length
 |[]=>by decide
 |a::l=>by
  have:=X0 l;show(if a then 1 else 0)+2*signNumber l<_;rw[cy,Ga];cases a<;>simp<;>lia
theorem Ou:∀{a b:List Bool},a.length=b.length->signNumber a=signNumber b->a=b
 |[],[],_,_=>rfl
 |x::a,y::b,hl,h=>by
  have h:(if x then 1 else 0)+2*signNumber a=(if y then 1 else 0)+2*signNumber b:=h;have hx:x=y:=by cases x<;>cases y<;>simp at h ⊢ <;>lia
  subst hx;rw[Ou (a:=a) (b:=b) (by simpa using hl) (by lia)]
 |[],_::_,hl,_=>by simp at hl
 |_::_,[],hl,_=>by simp at hl
noncomputable abbrev NL:aW:=top 90
noncomputable abbrev ajH:List ah:=["truths","number","bit","truth"]
theorem xE:bE ajH ["truths"] (aP NL):=bF
noncomputable def AU(K:aK):Sp:=fun vs H Q Z=>∃(l:aa)(bs:List Bool),vs=[.ref l]/\H l=some (.lst (bs.map V.bl))/\bs.length<=40/\Q (.int (signNumber bs:Nat)) H
theorem alo{f:aa}{fd:bu}(F:bt K "sign_number" "sign_number" NL f fd):bh P w K mg base az 1 f fd ["truths"] (AU K):=by
 refine F.ok xE (fun vs H Q E h=>?_) (fun aJ A outer s H vs Q E hr h=>?_)
 .obtain⟨l,bs,rfl,Z⟩:=h;rfl
 .obtain⟨l,bs,rfl,hl,gT,k⟩:=h;refine⟨_,aw (aZ (i:=1) xE.nd rfl (aF rfl) bc) (aw (aZ (i:=2) xE.nd rfl (aF rfl) bc) (aw (mT kg rfl (dP (pv 0)) (c8 (i:=3) xE.nd rfl (aF rfl)) (aw (bx (f6 (pv 3)) (aA (pj (i:=1) xE.nd rfl (aF rfl) (pv 2) wY)) bA) (aA (pj (i:=2) xE.nd rfl (aF rfl) bc aii)))) (aA (aI (pv 1))))),?_⟩;refine⟨_,rfl,l,rfl,⟨_,aH.of hl⟩,?_⟩;refine oQ (K:=K) (a:=l) (xs:=bs.map V.bl) (fun i σ H'=>∃v3,σ=[some (.ref l),some (.int (signNumber (bs.take i):Nat)),some (.int ((2^i:Nat):Int)),v3]/\H'=H) ⟨none,rfl,rfl⟩ (fun i σ H' Z p=>?_) (fun i x σ H' hx p=>?_) (fun σ H' p=>?_)
  .obtain⟨v3,Z,rfl⟩:=p;exact aH.of hl
  .obtain⟨v3,rfl,rfl⟩:=p;rw[bU]at hx;cases e:bs[i]? with
   |none=>rw[e]at hx;cases hx
   |some b=>
    rw[e]at hx;cases hx;have hi:=(dQ.mp e).1;have et:bs.take (i+1)=bs.take i++[b]:=by rw[me,e];rfl
    have e1:signNumber (bs.take (i+1))=signNumber (bs.take i)+(if b then 2^i else 0):=by
     rw[et,X3,iN,ZU (by lia)]
    have Ur:A3 ((2^i:Nat):Int) 2:=.inr ⟨by decide,by decide⟩;have e2:((2^i:Nat):Int)*2=((2^(i+1):Nat):Int):=by rw[Ga];lia
    refine⟨_,rfl,_,rfl,jA (fun z=>?_) (fun z=>?_)⟩
    .subst z;refine⟨_,rfl,_,rfl,_,_,rfl,rfl,_,rfl,_,_,rfl,rfl,Ur,some (.bl true),?_,rfl⟩;rw[e1,e2];rfl
    .subst z;refine⟨_,rfl,_,_,rfl,rfl,Ur,some (.bl false),?_,rfl⟩;rw[e1,e2];rfl
  .obtain⟨v3,rfl,rfl⟩:=p;rw[bC,jK];exact⟨_,rfl,k⟩
noncomputable abbrev Et:aW:=top 91
noncomputable abbrev VT:List ah:=["patterns","event","pattern"]
theorem Oe:bE VT ["patterns","event"] (aP Et):=bF
noncomputable def AV(CP CE:aa):Sp:=fun vs H Q Z=>∃(l b:aa)(as:List aa)(ps:List cM)(e:bg),vs=[.ref l,.ref b]/\H l=some (.lst (as.map V.ref))/\Al (Pt CP H) as ps/\(∀p∈ps,fO p)/\ps.length<=40/\Ev CE H b e/\∀H',aq H H'->Q (.int (signNumber (cw ps e):Nat)) H'
theorem alp{f:aa}{fd:bu}(F:bt K "sign_of" "sign_of" Et f fd)(F1:Fn P w K mg base az 1 "sign_number" ["truths"] (AU K))(F2:Fn P w K mg base az 2 "fits_event" ["pattern","event"] (va CP CE)):bh P w K mg base az 3 f fd ["patterns","event"] (AV CP CE):=by
 refine F.ok Oe (fun vs H Q E h=>?_) (fun aJ A outer s H vs Q E hr h=>?_)
 .obtain⟨l,b,as,ps,e,rfl,Z⟩:=h;rfl
 .obtain⟨l,b,as,ps,e,rfl,hl,dO,ok,gT,he,k⟩:=h;have bM:bb 1 _:=hr.mono (by lia);refine⟨_,aA (aI (aU F1 bM rfl aY (ai (fq (own:=[("pattern",2)]) (te:=g0 (va CP CE) E0 (bQ (aS 2) (bQ (aS 1) dk))) rfl Oe.nd (dP (pv 0)) (eN (by show ez VT (aP Et) _ _=true;decide+kernel)) (fun s H C cl fp=>c8 (i:=2) Oe.nd rfl (aF rfl)) (fun s H C cl fp=>ft) (fun s H C cl fp=>aU F2 hr rfl aY (ai (pv 2) (ai (pv 1) aj)))) aj))),?_⟩;have hlen:=dO.1;dsimp only[b8,g0,bQ];refine jB (xs:=as.map V.ref) (ys:=(cw ps e).map V.bl) (dN _ (by rw[bC];lia)) (by simp[cw,hlen]) (fun R h=>⟨_,rfl,h l _ (aq.refl _) (aH.of hl)⟩) (fun i x y H' R e1 e2 s1 hR=>?_) (fun D H' hD s1 e3=>?_)
  .unfold cw at e2;rw[bU]at e1;rw[bU,bU]at e2;cases e3:as[i]? with
   |none=>rw[e3]at e1;cases e1
   |some a=>
    cases e4:ps[i]? with
    |none=>rw[e4]at e2;cases e2
    |some p=>
     rw[e3]at e1;rw[e4]at e2;cases e1;cases e2;exact⟨_,rfl,_,rfl,a,b,p,e,rfl,Pt.same (dO.2 i a p e3 e4) s1,he.same s1,ok p (jf e4),hR _ (aq.refl _)⟩
  .exact⟨D,cw ps e,rfl,e3,by simp[cw,gT],k H' s1⟩
open Vatrca (signNumber once)
theorem aiD{t:au}{f:UInt8->Bool}{g:UInt8->V}{tl te:TE}{tt:TT}{j:Nat}{σ:L2.St}{H:Hp}{Q:VK}(hz:t.length<sizeLine)(h0:∀R:VK,R (.str (S t)) H->tl σ H R)(ht:∀(c:UInt8)(H':Hp)(R:Bool->Hp->Prop),c∈t->aq H H'->(∀H4,aq H' H4->R (f c) H4)->tt ((σ.set j none).set j (some (.str (S [c])))) H' R)(he:∀(c:UInt8)(H':Hp)(R:VK),c∈t->aq H H'->(∀H4,aq H' H4->R (g c) H4)->te ((σ.set j none).set j (some (.str (S [c])))) H' R)(hq:∀D H',H D=none->aq H H'->H' D=some (.lst ((t.filter f).map g))->Q (.ref D) H'):kT (Li tl) (b7 j) tt te [j] σ H Q:=by
 refine h0 _ ⟨S t,rfl,fun D hD=>?_⟩;have hsz:(S t).cps.size=t.length:=by rw[<-bR];rfl
 refine⟨fun i m H'=>m=t.length-i/\i<=t.length/\aq H H'/\H' D=some (.lst (((t.take i).filter f).map g)),⟨t.length,by simp,dJ _,bj (aq.refl _) hD,aD⟩,?_⟩;rintro i m H' ⟨rfl,hi,s1,e1⟩;by_cases bI:i<t.length
 .refine .inr ⟨by show i<(S t).cps.size;lia,fun H'=>aq H H'/\H' D=some (.lst (((t.take (i+1)).filter f).map g)),fun H' p'=>⟨t.length-(i+1),by lia,rfl,bI,p'⟩,fun x eJ y=>?_⟩;obtain⟨rfl,c',ec,rfl⟩:=y;obtain⟨c,hc⟩:∃c,t[i]? =some c:=⟨_,cV bI⟩;have ze:(S t).cps.toList[i]? =some c':=by simpa using ec
  rw[rq,hc]at ze;cases ze;have hm:c∈t:=jf hc;have et:t.take (i+1)=t.take i++[c]:=by rw[me,hc];rfl
  refine⟨by simp[wipe,vy],?_⟩;refine ht c eJ _ hm s1 fun H3 s3=>?_;refine jA (fun z=>?_) (fun z=>?_)
  .refine he c H3 _ hm (s1.trans s3) fun H4 s4=>⟨_,s4 _ _ (s3 _ _ e1),?_,?_,?_⟩
   .rw[bC];have:=FQ f (t.take i);rw[iN]at this;lia
   .exact gH ((s1.trans s3).trans s4) hD
   .rw[aD,et,FH,Zn z,fz];rfl
  .refine⟨s1.trans s3,?_⟩;rw[s3 _ _ e1,et,FH,Zm (by rw[z];decide),Zo,jI]
 .have e:i=t.length:=by lia
  subst e;refine .inl ⟨by show(S t).cps.size<=t.length;lia,hq D H' hD s1 ?_⟩;rw[e1,jK]
theorem Vy{n:Nat}{f:Nat->Bool}{g:Nat->V}{ta:TA}{tt:TT}{te:TE}{j:Nat}{σ:L2.St}{H:Hp}{Q:VK}(hz:n<=1000000)(h0:∀R:List V->Hp->Prop,(∀H1,aq H H1->R [.int ((n:Nat):Int)] H1)->ta σ H R)(ht:∀(i:Nat)(H':Hp)(R:Bool->Hp->Prop),i<n->aq H H'->(∀H4,aq H' H4->R (f i) H4)->tt ((σ.set j none).set j (some (.int ((i:Nat):Int)))) H' R)(he:∀(i:Nat)(H':Hp)(R:VK),i<n->aq H H'->(∀H4,aq H' H4->R (g i) H4)->te ((σ.set j none).set j (some (.int ((i:Nat):Int)))) H' R)(hq:∀D H',H D=none->aq H H'->H' D=some (.lst (((cW n).filter f).map g))->Q (.ref D) H'):kT (Lh ta) (b7 j) tt te [j] σ H Q:=by
 refine h0 _ fun H1 s1=>⟨_,rfl,by lia,by lia,fun D hD=>?_⟩;rw[show((n:Nat):Int).toNat=n from rfl];refine VA (n:=n) (fun i H'=>aq H1 H'/\H' D=some (.lst (((cW i).filter f).map g))) ⟨bj (aq.refl _) hD,aD⟩ (fun i H' hi p=>?_) (fun H' p=>?_)
 .refine⟨by simp[wipe,vy],?_⟩;rw[show(0:Int)+((i:Nat):Int)=((i:Nat):Int) by lia];refine ht i H' _ hi (s1.trans p.1) fun H3 s3=>?_;refine jA (fun z=>?_) (fun z=>?_)
  .refine he i H3 _ hi ((s1.trans p.1).trans s3) fun H4 s4=>⟨_,s4 _ _ (s3 _ _ p.2),?_,?_,?_⟩
   .rw[bC,jk];have:=FQ f (cW i);rw[Bf]at this;lia
   .exact gH ((p.1.trans s3).trans s4) hD
   .rw[aD,ZJ,FH,Zn z,fz];rfl
  .refine⟨p.1.trans s3,?_⟩;rw[s3 _ _ p.2,ZJ,FH,Zm (by rw[z];decide),Zo,jI]
 .exact hq D H' (s1.free hD) (s1.trans p.1) p.2
theorem Wl{A:Type}[DecidableEq A](l:List A)(x:A):once (l++[x])=if(once l).contains x then once l else once l++[x]:=by
 unfold once;rw[Be];rfl
theorem alR{A:Type}[DecidableEq A]{l:List A}{x:A}(h:x∈once l):once (l++[x])=once l:=by rw[Wl,if_pos (Ba.mpr h)]
theorem alS{A:Type}[DecidableEq A]{l:List A}{x:A}(h:¬x∈once l):once (l++[x])=once l++[x]:=by rw[Wl,if_neg (fun q=>h (Ba.mp q))]
theorem Md{A:Type}[DecidableEq A](y:A):∀l:List A,y∈once l↔y∈l:=by
 have go:∀(l s:List A),y∈l.foldl (fun s x=>if s.contains x then s else s++[x]) s↔y∈s\/y∈l:=by
  intro l;induction l with
  |nil=>intro s;simp
  |cons x r ih=>
   intro s;rw[vt,ih];by_cases h:s.contains x=true
   .rw[if_pos h];have h:=Ba.mp h;constructor
    .rintro(q|q)
     .exact .inl q
     .exact .inr (el _ q)
    .rintro(q|q)
     .exact .inl q
     .rcases bX.mp q with q|q
      .subst q;exact .inl h
      .exact .inr q
   .rw[if_neg h];simp only[jJ,bX,jg,or_false];constructor
    .rintro((q|q)|q)
     .exact .inl q
     .exact .inr (.inl q)
     .exact .inr (.inr q)
    .rintro(q|q|q)
     .exact .inl (.inl q)
     .exact .inl (.inr q)
     .exact .inr q
 intro l;unfold once;rw[go];simp
theorem Mc{A:Type}[DecidableEq A](l:List A):(once l).length<=l.length:=by
 have go:∀(l s:List A),(l.foldl (fun s x=>if s.contains x then s else s++[x]) s).length<=s.length+l.length:=by
  intro l;induction l with
  |nil=>intro s;simp
  |cons x r ih=>
   intro s;rw[vt,cy];by_cases h:s.contains x=true
   .rw[if_pos h];have:=ih s;lia
   .rw[if_neg h];have:=ih (s++[x]);rw[cY,FT]at this;lia
 have:=go l [];simpa[once]using this
theorem Mx{A:Type}[DecidableEq A]:∀(l m:List A),l.Nodup->(∀x∈l,x∈m)->l.length<=m.length
 |[],m,_,_=>dJ _
 |x::l,m,hn,h=>by
  have hx:x∈m:=h x (by simp);have oY:=vv.mp hn;have:=Mx l (m.erase x) oY.2 fun y hy=>(ZF (fun e=>oY.1 (by rw[<-e];exact hy))).mpr (h y (by simp[hy]));rw[ZA hx]at this;have:=List.length_pos_of_mem hx;rw[cy];lia
noncomputable def sq:au:=aX "abcdefghijklmnopqrstuvwxyz"
theorem aiO:(cW 26).map (fun i=>([jN (97+i)]:au))=sq.map fun c=>[c]:=by decide+kernel
theorem aiP:(sq.map fun c=>([c]:au)).Nodup:=by decide+kernel
theorem afr(l m:List au)(hm:∀y,y∈m↔y∈l)(hl:m.length<26):∃c rest,sq.filter (fun c=> !decide ([c]∈m))=c::rest/\B0 l=[c]:=by
 cases e:sq.filter (fun c=> !decide ([c]∈m))with
 |nil=>
  exfalso;have h:∀x∈sq.map (fun c=>([c]:au)),x∈m:=fun x hx=>by
   obtain⟨c,hc,rfl⟩:=dI.mp hx;have:=List.filter_eq_nil_iff.mp e c hc;simpa using this
  have:=Mx _ m aiP h;rw[bC,show sq.length=26 by decide+kernel]at this;lia
 |cons c rest=>
  refine⟨c,rest,rfl,?_⟩;unfold B0;rw[aiO,List.find?_map];have ef:((fun t:au=> !l.contains t)∘fun c=>[c])=fun c=> !decide (([c]:au)∈m):=by
   funext c;show(!l.contains [c])=_;congr 1;rw[gJ,Ba,decide_eq_true_eq,hm]
  rw[ef,<-List.head?_filter,e];rfl
noncomputable def asked(os:List (Option au)):List V:=os.map fun o=>V.str (S (o.getD []))
noncomputable abbrev El:aW:=top 94
noncomputable abbrev VR:List ah:=["asked","names","name","free","letter"]
theorem AD:bE VR ["asked"] (aP El):=bF
noncomputable def jd(ts:List au):List V:=ts.map fun t=>V.str (S t)
noncomputable def OO:Sp:=fun vs H Q Z=>∃(l:aa)(os:List (Option au)),vs=[.ref l]/\H l=some (.lst (asked os))/\(∀y,some y∈os->y≠[])/\os.length<=20/\∀D H',H D=none->aq H H'->H' D=some (.lst (jd (mE (os.filterMap id))))->Q (.ref D) H'
theorem akT{f:aa}{fd:bu}(F:bt K "sample_names" "sample_names" El f fd)(c1:bT mg "LETTERS" (.str "abcdefghijklmnopqrstuvwxyz")):bh P w K mg base az 1 f fd ["asked"] OO:=by
 refine F.ok AD (fun vs H Q E h=>?_) (fun aJ A outer s H vs Q E hr h=>?_)
 .obtain⟨l,os,rfl,Z⟩:=h;rfl
 .obtain⟨l,os,rfl,hl,bL,uf,k⟩:=h;refine⟨_,aw (aZ (i:=1) AD.nd rfl (oA rfl) (cv aj)) (aw (mT kg rfl (dP (pv 0)) (c8 (i:=2) AD.nd rfl (aF rfl)) (aA (bx (PW.pt (nX (bq j5 (pv 2) bH (bp _)) (nY (bq Ak (pv 2) (pv 1) (by rfl))))) (aA (ej (iG g9 lj mi lZ (pv 1) (ai (pv 2) aj)))) bA))) (aw (MC (i:=3) (own:=[("letter",4)]) (tt:=cb (bG (DZ K true) (aS 4) (aS 1))) (te:=aS 4) rfl AD.nd rfl rfl (Pu rfl rfl rfl rfl) (WJ (bP c1 rfl)) (eN (by show ez VR (aP El) _ _=true;decide+kernel)) (fun s H C cl fp=>c8 (i:=4) AD.nd rfl (aF rfl)) (fun s H C cl fp=>MD (bq Ak (pv 4) (pv 1) (by rfl))) (fun s H C cl fp=>pv 4)) (aA (aI (dH pd (pv 1) (cv (ai (bZ fc (pv 3) bc (fun Z Z=>rfl)) aj))))))),?_⟩;refine⟨dJ _,fun ln jZ=>?_⟩;have lU:l≠ln:=cC hl jZ;refine⟨_,rfl,l,rfl,⟨asked os,aH.of (by rw[ba lU];exact hl)⟩,?_⟩;refine oQ (K:=K) (a:=l) (xs:=asked os) (fun i σ H'=>∃v2,σ=[some (.ref l),some (.ref ln),v2,none,none]/\aq H H'/\H' ln=some (.lst (jd (once ((os.take i).filterMap id))))) ⟨none,rfl,bj (aq.refl _) jZ,aD⟩ (fun i σ H' Z p=>?_) (fun i x σ H' hx p=>?_) (fun σ H' p=>?_)
  .obtain⟨v2,Z,sm,Z⟩:=p;exact aH.of (sm _ _ hl)
  .obtain⟨v2,rfl,sm,hn⟩:=p;unfold asked at hx;rw[bU]at hx;cases e:os[i]? with
   |none=>rw[e]at hx;cases hx
   |some o=>
    rw[e]at hx;cases hx;have hi:=(dQ.mp e).1;have et:os.take (i+1)=os.take i++[o]:=by rw[me,e];rfl
    refine⟨_,rfl,rfl,_,rfl,eO (fun z=>?_) (fun z=>?_)⟩
    .cases o with
     |none=>exact absurd rfl z
     |some y=>
      have t9:(os.take (i+1)).filterMap id=(os.take i).filterMap id++[y]:=by rw[et,FF];rfl
      refine⟨_,rfl,_,rfl,ln,_,rfl,.inl (aH.of hn),rfl,by simp[jd,A8,oP],_,rfl,?_⟩;rw[if_pos rfl,show iX (V.str (S ((some y).getD []))) (jd (once ((os.take i).filterMap id)))=decide (y∈once ((os.take i).filterMap id))from r6 y _];refine eO (fun z2=>?_) (fun z2=>?_)
      .have hlen:=Mc ((os.take i).filterMap id);have oX:=yd id (os.take i);rw[iN]at oX;refine⟨_,rfl,.inl ⟨rfl,_,aH.of hn⟩,_,rfl,ln,_,_,rfl,rfl,hn,dN _ (by unfold jd;rw[bC];lia),?_⟩;refine⟨_,rfl,gH sm jZ,?_⟩;rw[aD,t9,alS z2];unfold jd;rw[fz];rfl
      .refine⟨_,rfl,sm,?_⟩;rw[t9,alR z2];exact hn
    .cases o with
     |none=>
      refine Dn ⟨_,rfl,sm,?_⟩;rw[et,FF];simpa using hn
     |some y=>
      have:=bL y (jf e);exact absurd (kl.mp (show V.str (S y)=V.str (S [])from z)) this
  .obtain⟨v2,rfl,sm,hn⟩:=p;have ee:os.take (asked os).length=os:=by unfold asked;rw[bC,jK]
   rw[ee]at hn;generalize hm:once (os.filterMap id)=m at hn;have hmm:∀y,y∈m↔y∈os.filterMap id:=fun y=>by rw[<-hm];exact Md y _
   have hml:m.length<=20:=by
    have h1:=Mc (os.filterMap id);have h2:=yd id os;rw[hm]at h1;lia
   obtain⟨c,rest,ef,efr⟩:=afr (os.filterMap id) m hmm (by lia);dsimp only[b9,cE];refine aiD (t:=sq) (f:=fun c=> !decide ([c]∈m)) (g:=fun c=>V.str (S [c])) (by rw[show sq.length=26 by decide+kernel];exact dN _ (by lia)) (fun R h=>h) (fun c H1 R hc s1 hR=>?_) (fun c H1 R hc s1 hR=>⟨_,rfl,hR _ (aq.refl _)⟩) (fun D H1 hD s1 e=>?_)
   .refine⟨_,rfl,_,rfl,ln,_,rfl,.inl (aH.of (s1 _ _ hn)),rfl,by simp[jd,A8,oP],_,rfl,?_⟩;rw[if_pos rfl,show iX (V.str (S [c])) (jd m)=decide ([c]∈m)from r6 [c] m];exact hR _ (aq.refl _)
   .rw[ef]at e;refine⟨_,rfl,_,rfl,D,_,0,_,rfl,rfl,aH.of e,bY (j:=0) rfl,(by show 1<=sizeLine;decide),fun p hp=>?_⟩;have KQ:=s1 _ _ hn;have b0:ln≠p:=cC KQ hp;refine⟨ln,p,_,_,rfl,rfl,by rw[ba b0];exact KQ,aD,?_,fun q hq=>?_⟩
    .unfold jd;rw[bC];exact big _ (by show m.length+1<=_;lia)
    .have s2:aq H (upd (upd H1 p (.lst [V.str (S [c])])) q (.lst (jd m++[V.str (S [c])]))):=bj (bj (sm.trans s1) hp) hq;refine k q _ ((sm.trans (s1.trans (bj (aq.refl _) hp))).free hq) s2 ?_;rw[aD];unfold mE;rw[hm,efr];unfold jd;rw[fz];rfl
noncomputable abbrev rM:List ah:=["worth","sign"]
noncomputable def chF(v:V)(n:Nat):List (ah×V):=[("worth",v),("sign",.int (n:Nat))]
noncomputable def Ch(CC:aa)(H:Hp)(a:aa)(v:V)(n:Nat):Prop:=∃dx,H a=some (.ins CC dx (chF v n))
theorem Ch.same{CC:aa}{H H':Hp}{a:aa}{v:V}{n:Nat}(h:Ch CC H a v n)(s:aq H H'):Ch CC H' a v n:=let ⟨dx,q⟩:=h;⟨dx,s _ _ q⟩
theorem Ch.lst{CC:aa}{H:Hp}{a l:aa}{v:V}{n:Nat}{xs ys:List V}(h:Ch CC H a v n)(hl:H l=some (.lst xs)):Ch CC (upd H l (.lst ys)) a v n:=let ⟨dx,q⟩:=h;⟨dx,by rw[ba (fe q hl (fun z=>by cases z))];exact q⟩
noncomputable def tX(H:Hp)(vs:List V)(os:List (Option eF)):Prop:=vs.length=os.length/\∀(i:Nat) v o,vs[i]? =some v->os[i]? =some o->Rg H v o
theorem tX.same{H H':Hp}{vs:List V}{os:List (Option eF)}(h:tX H vs os)(s:aq H H'):tX H' vs os:=⟨h.1,fun i v o h1 h2=>(h.2 i v o h1 h2).same s⟩
noncomputable def fU(os:List (Option au))(t:au):List Bool:=os.map fun o=>o.all fun k=>k==t
noncomputable def nB(os:List (Option eF))(n:Nat):List Bool:=os.map fun o=>o.all fun r=>R8 r n
noncomputable def iF(ns:List Nat):List V:=ns.map fun n=>V.int ((n:Nat):Int)
noncomputable abbrev M4:aW:=inClass (top 89) 0
theorem anD:bE ["self","worth","sign"] ["self","worth","sign"] (aP M4):=bF
theorem akx{f:aa}{fd:bu}(F:bt K "__init__" "Choice.__init__" M4 f fd)(T:Ty K CC rM):bh P w K mg base az 1 f fd ["self","worth","sign"] (eP CC rM):=by
 refine F.ok anD (fun vs H Q E h=>?_) (fun aJ A outer s H vs Q E hr h=>?_)
 .obtain⟨x,dx,us,rfl,hl,Z⟩:=h;simpa using hl
 .obtain⟨x,dx,us,rfl,hl,hx,k⟩:=h;obtain⟨a,b,rfl⟩:=le2 hl;refine⟨_,aw (fg (pv 0) (pv 1) rfl) (aA (fg (pv 0) (pv 2) rfl)),?_⟩;refine⟨_,rfl,_,rfl,x,CC,dx,[],rfl,hx,T.cls,T.nf _ (by simp),(by decide),?_⟩;rw[fu (fs:=[]) (by decide+kernel)];refine⟨_,rfl,_,rfl,x,CC,dx,_,rfl,aD,T.cls,T.nf _ (by simp),(by show 1<1000;decide),?_⟩;rw[fE,fu (by rfl)];exact k
theorem VL{H:Hp}{Q:VK}{v:V}{n:Nat}(k:∀a H',H a=none->aq H H'->Ch CC H' a v n->Q (.ref a) H'):∀x dx,H x=none->H dx=none->dx≠x->eP CC rM [.ref x,v,.int (n:Nat)] (upd (upd H dx (.own x)) x (.ins CC dx [])) (fun u H2=>u=.aO/\Q (.ref x) H2) E0:=fun x dx n1 n2 n3=>by
 refine⟨x,dx,_,rfl,rfl,aD,rfl,?_⟩;rw[fE];have sm:=bj (bj (o:=HO.own x) (aq.refl H) n2) (p:=x) (o:=HO.ins CC dx (rM.zip [v,.int (n:Nat)])) (by rw[ba n3.symm];exact n1);exact k x _ n1 sm ⟨dx,aD⟩
noncomputable def OQ:Sp:=fun vs H Q Z=>∃(l:aa)(us:List V)(os:List (Option eF)),vs=[.ref l]/\H l=some (.lst us)/\tX H us os/\(∀r,some r∈os->mw r)/\os.length<=20/\∀D H',H D=none->aq H H'->H' D=some (.lst (iF (js (os.filterMap id))))->Q (.ref D) H'
noncomputable abbrev Ek:aW:=top 93
noncomputable abbrev VQ:List ah:=["asked","choices","name","one"]
theorem AB:bE VQ ["asked"] (aP Ek):=bF
noncomputable def ON(CC:aa):Sp:=fun vs H Q Z=>∃(l:aa)(os:List (Option au)),vs=[.ref l]/\H l=some (.lst (asked os))/\(∀y,some y∈os->y≠[])/\os.length<=20/\∀D as H',H D=none->aq H H'->H' D=some (.lst (as.map V.ref))->Al (fun a t=>Ch CC H' a (.str (S t)) (signNumber (fU os t))) as (mE (os.filterMap id))->Q (.ref D) H'
theorem akk{f:aa}{fd:bu}(F:bt K "name_choices" "name_choices" Ek f fd)(F1:Fn P w K mg base az 1 "sample_names" ["asked"] OO)(F2:Fn P w K mg base az 1 "sign_number" ["truths"] (AU K))(F3:Fn P w K mg base az 1 "fits_name" ["asked","name"] AL)(M:Cl P w K mg base 1 "Choice" CC ["self","worth","sign"] (eP CC rM))(hlen:∀os:List (Option au),os.length<=20->(mE (os.filterMap id)).length<=1000):bh P w K mg base az 3 f fd ["asked"] (ON CC):=by
 refine F.ok AB (fun vs H Q E h=>?_) (fun aJ A outer s H vs Q E hr h=>?_)
 .obtain⟨l,os,rfl,Z⟩:=h;rfl
 .obtain⟨l,os,rfl,hl,bL,uf,k⟩:=h;have bM:bb 1 _:=hr.mono (by lia);have K3:bb 1 _:=hr.mono (by lia);refine⟨_,aw (aZ (i:=1) AB.nd rfl (aF rfl) (cv aj)) (aw (mT kg rfl (dP (aU F1 K3 rfl aY (ai (pv 0) aj))) (c8 (i:=2) AB.nd rfl (oA rfl)) (aA (ej (iG g9 lj mi lZ (pv 1) (ai (gC M hr rfl (ai (pv 2) (ai (aU F2 bM rfl aY (ai (fq (own:=[("one",3)]) (te:=g0 AL E0 (bQ (aS 3) (bQ (aS 2) dk))) rfl AB.nd (dP (pv 0)) (eN (by show ez VQ (aP Ek) _ _=true;decide+kernel)) (fun s H C cl fp=>c8 (i:=3) AB.nd rfl (aF rfl)) (fun s H C cl fp=>ft) (fun s H C cl fp=>aU F3 bM rfl aY (ai (pv 3) (ai (pv 2) aj)))) aj)) aj))) aj))))) (aA (aI (pv 1)))),?_⟩;refine⟨dJ _,fun lc rT=>?_⟩;have s0:aq H (upd H lc (.lst [])):=bj (aq.refl _) rT;have kH:upd H lc (.lst []) lc=some (.lst []):=aD;generalize upd H lc (.lst [])=H0 at s0 kH ⊢;refine⟨_,rfl,l,os,rfl,s0 _ _ hl,bL,uf,fun ln H1 jZ s1 hn=>?_⟩;have KJ:=hlen os uf;generalize hts:mE (os.filterMap id)=ts at hn KJ k;have MT:=s0.trans s1;refine⟨ln,rfl,⟨_,aH.of hn⟩,?_⟩;refine oQ (K:=K) (a:=ln) (xs:=jd ts) (fun i σ H'=>∃v2 as,σ=[some (.ref l),some (.ref lc),v2,none]/\aq H H'/\H' ln=some (.lst (jd ts))/\H' lc=some (.lst (as.map V.ref))/\Al (fun a t=>Ch CC H' a (.str (S t)) (signNumber (fU os t))) as (ts.take i)) ⟨none,[],rfl,MT,hn,s1 _ _ kH,Al.nil⟩ (fun i σ H' Z p=>?_) (fun i x σ H' hx p=>?_) (fun σ H' p=>?_)
  .obtain⟨v2,as,Z,sm,q,Z⟩:=p;exact aH.of q
  .obtain⟨v2,as,rfl,sm,q1,q2,dO⟩:=p;unfold jd at hx;rw[bU]at hx;cases e:ts[i]? with
   |none=>rw[e]at hx;cases hx
   |some t=>
    rw[e]at hx;cases hx;have hi:=(dQ.mp e).1;have et:ts.take (i+1)=ts.take i++[t]:=by rw[me,e];rfl
    have Ki:=dO.1;rw[iN]at Ki;refine⟨_,rfl,.inl ⟨rfl,_,aH.of q2⟩,_,rfl,?_⟩;dsimp only[g0,bQ];refine jB (xs:=asked os) (ys:=(fU os t).map V.bl) (dN _ (by unfold asked;rw[bC];lia)) (by simp[fU,asked]) (fun R h=>⟨_,rfl,h l _ (aq.refl _) (aH.of (sm _ _ hl))⟩) (fun j x y H2 R e1 e2 s2 hR=>?_) (fun D H2 hD s2 e3=>?_)
    .unfold fU at e2;rw[bU,bU]at e2;cases e4:os[j]? with
     |none=>rw[e4]at e2;cases e2
     |some o=>
      rw[e4]at e2;cases e2;unfold asked at e1;rw[bU,e4]at e1;cases e1;exact⟨_,rfl,_,rfl,o,t,rfl,fun y hy=>bL y (by rw[<-hy];exact jf e4),hR _ (aq.refl _)⟩
    .refine⟨D,fU os t,rfl,e3,by simp[fU];lia,?_⟩;have MH:=s2 _ _ q2;refine VL (CC:=CC) (Q:=fun v H2=>DX (V.ref lc) [v] H2 fun x H1=>∃v2 as,([some (.ref l),some (.ref lc),some (.str (S t)),none]:L2.St)=[some (.ref l),some (.ref lc),v2,none]/\aq H H1/\H1 ln=some (.lst (jd ts))/\H1 lc=some (.lst (as.map V.ref))/\Al (fun a t=>Ch CC H1 a (.str (S t)) (signNumber (fU os t))) as (ts.take (i+1))) fun a H3 ha s3 kI=>?_;have n8:=s3 _ _ MH;have lU:ln≠lc:=(cC kH jZ).symm;refine⟨lc,_,_,rfl,rfl,n8,dN _ (by rw[bC];lia),some (.str (S t)),as++[a],rfl,gH ((sm.trans s2).trans s3) rT,?_,?_,?_⟩
     .rw[ba lU];exact s3 _ _ (s2 _ _ q1)
     .rw[aD,fz];rfl
     .rw[et];exact Al.append (dO.mono fun b y Z r=>((r.same s2).same s3).lst n8) (Al.cons (kI.lst n8) Al.nil)
  .obtain⟨v2,as,rfl,sm,q1,q2,dO⟩:=p;have ee:ts.take (jd ts).length=ts:=by unfold jd;rw[bC,jK]
   rw[ee]at dO;exact⟨_,rfl,k lc as H' rT sm q2 dO⟩
noncomputable abbrev Em:aW:=top 95
noncomputable abbrev VS:List ah:=["asked","choices","number","one"]
theorem AE:bE VS ["asked"] (aP Em):=bF
noncomputable def OP(CC:aa):Sp:=fun vs H Q Z=>∃(l:aa)(us:List V)(os:List (Option eF)),vs=[.ref l]/\H l=some (.lst us)/\tX H us os/\(∀r,some r∈os->mw r)/\os.length<=20/\∀D as H',H D=none->aq H H'->H' D=some (.lst (as.map V.ref))->Al (fun a t=>Ch CC H' a (.int ((t:Nat):Int)) (signNumber (nB os t))) as (js (os.filterMap id))->Q (.ref D) H'
theorem akl{f:aa}{fd:bu}(F:bt K "number_choices" "number_choices" Em f fd)(F1:Fn P w K mg base az 1 "sample_numbers" ["asked"] OQ)(F2:Fn P w K mg base az 1 "sign_number" ["truths"] (AU K))(F3:Fn P w K mg base az 1 "fits_range" ["bounds","number"] AM)(M:Cl P w K mg base 1 "Choice" CC ["self","worth","sign"] (eP CC rM))(hlen:∀os:List (Option eF),os.length<=20->(js (os.filterMap id)).length<=1000):bh P w K mg base az 3 f fd ["asked"] (OP CC):=by
 refine F.ok AE (fun vs H Q E h=>?_) (fun aJ A outer s H vs Q E hr h=>?_)
 .obtain⟨l,us,os,rfl,Z⟩:=h;rfl
 .obtain⟨l,us,os,rfl,hl,nN,ahe,uf,k⟩:=h;have bM:bb 1 _:=hr.mono (by lia);have K3:bb 1 _:=hr.mono (by lia);refine⟨_,aw (aZ (i:=1) AE.nd rfl (aF rfl) (cv aj)) (aw (mT kg rfl (dP (aU F1 K3 rfl aY (ai (pv 0) aj))) (c8 (i:=2) AE.nd rfl (oA rfl)) (aA (ej (iG g9 lj mi lZ (pv 1) (ai (gC M hr rfl (ai (pv 2) (ai (aU F2 bM rfl aY (ai (fq (own:=[("one",3)]) (te:=g0 AM E0 (bQ (aS 3) (bQ (aS 2) dk))) rfl AE.nd (dP (pv 0)) (eN (by show ez VS (aP Em) _ _=true;decide+kernel)) (fun s H C cl fp=>c8 (i:=3) AE.nd rfl (aF rfl)) (fun s H C cl fp=>ft) (fun s H C cl fp=>aU F3 bM rfl aY (ai (pv 3) (ai (pv 2) aj)))) aj)) aj))) aj))))) (aA (aI (pv 1)))),?_⟩;refine⟨dJ _,fun lc rT=>?_⟩;have s0:aq H (upd H lc (.lst [])):=bj (aq.refl _) rT;have kH:upd H lc (.lst []) lc=some (.lst []):=aD;generalize upd H lc (.lst [])=H0 at s0 kH ⊢;refine⟨_,rfl,l,us,os,rfl,s0 _ _ hl,nN.same s0,ahe,uf,fun ln H1 jZ s1 hn=>?_⟩;have KJ:=hlen os uf;generalize hts:js (os.filterMap id)=ts at hn KJ k;have MT:=s0.trans s1;refine⟨ln,rfl,⟨_,aH.of hn⟩,?_⟩;refine oQ (K:=K) (a:=ln) (xs:=iF ts) (fun i σ H'=>∃v2 as,σ=[some (.ref l),some (.ref lc),v2,none]/\aq H H'/\H' ln=some (.lst (iF ts))/\H' lc=some (.lst (as.map V.ref))/\Al (fun a t=>Ch CC H' a (.int ((t:Nat):Int)) (signNumber (nB os t))) as (ts.take i)) ⟨none,[],rfl,MT,hn,s1 _ _ kH,Al.nil⟩ (fun i σ H' Z p=>?_) (fun i x σ H' hx p=>?_) (fun σ H' p=>?_)
  .obtain⟨v2,as,Z,sm,q,Z⟩:=p;exact aH.of q
  .obtain⟨v2,as,rfl,sm,q1,q2,dO⟩:=p;unfold iF at hx;rw[bU]at hx;cases e:ts[i]? with
   |none=>rw[e]at hx;cases hx
   |some t=>
    rw[e]at hx;cases hx;have hi:=(dQ.mp e).1;have et:ts.take (i+1)=ts.take i++[t]:=by rw[me,e];rfl
    have Ki:=dO.1;rw[iN]at Ki;refine⟨_,rfl,.inl ⟨rfl,_,aH.of q2⟩,_,rfl,?_⟩;dsimp only[g0,bQ];refine jB (xs:=us) (ys:=(nB os t).map V.bl) (dN _ (by rw[nN.1];lia)) (by simp[nB,nN.1]) (fun R h=>⟨_,rfl,h l _ (aq.refl _) (aH.of (sm _ _ hl))⟩) (fun j x y H2 R e1 e2 s2 hR=>?_) (fun D H2 hD s2 e3=>?_)
    .unfold nB at e2;rw[bU,bU]at e2;cases e4:os[j]? with
     |none=>rw[e4]at e2;cases e2
     |some o=>
      rw[e4]at e2;cases e2;exact⟨_,rfl,_,rfl,x,o,t,rfl,(nN.2 j x o e1 e4).same (sm.trans s2),hR _ (aq.refl _)⟩
    .refine⟨D,nB os t,rfl,e3,by simp[nB];lia,?_⟩;have MH:=s2 _ _ q2;refine VL (CC:=CC) (Q:=fun v H2=>DX (V.ref lc) [v] H2 fun x H1=>∃v2 as,([some (.ref l),some (.ref lc),some (.int ((t:Nat):Int)),none]:L2.St)=[some (.ref l),some (.ref lc),v2,none]/\aq H H1/\H1 ln=some (.lst (iF ts))/\H1 lc=some (.lst (as.map V.ref))/\Al (fun a t=>Ch CC H1 a (.int ((t:Nat):Int)) (signNumber (nB os t))) as (ts.take (i+1))) fun a H3 ha s3 kI=>?_;have n8:=s3 _ _ MH;have lU:ln≠lc:=(cC kH jZ).symm;refine⟨lc,_,_,rfl,rfl,n8,dN _ (by rw[bC];lia),some (.int ((t:Nat):Int)),as++[a],rfl,gH ((sm.trans s2).trans s3) rT,?_,?_,?_⟩
     .rw[ba lU];exact s3 _ _ (s2 _ _ q1)
     .rw[aD,fz];rfl
     .rw[et];exact Al.append (dO.mono fun b y Z r=>((r.same s2).same s3).lst n8) (Al.cons (kI.lst n8) Al.nil)
  .obtain⟨v2,as,rfl,sm,q1,q2,dO⟩:=p;have ee:ts.take (iF ts).length=ts:=by unfold iF;rw[bC,jK]
   rw[ee]at dO;exact⟨_,rfl,k lc as H' rT sm q2 dO⟩
theorem EL:∀(l:List Bool)(i:Nat),(signNumber l).testBit i=l.getD i false
 |[],i=>by simp[signNumber]
 |b::l,0=>by
  show((if b then 1 else 0)+2*signNumber l).testBit 0=b;rw[Nat.testBit_zero];cases b<;>simp<;>lia
 |b::l,i+1=>by
  show((if b then 1 else 0)+2*signNumber l).testBit (i+1)=_;rw[Nat.testBit_succ];have:((if b then 1 else 0)+2*signNumber l) / 2=signNumber l:=by cases b<;>simp<;>lia
  rw[this,EL l i];rfl
theorem Ot{A:Type}(l:List A)(f g:A->Bool):signNumber (l.map f)&&&signNumber (l.map g)=signNumber (l.map fun x=>f x&&g x):=by
 refine Nat.eq_of_testBit_eq fun i=>?_;rw[Nat.testBit_and,EL,EL,EL];simp only[x9,bU];cases l[i]? <;>rfl
theorem G8(a b:Nat):Q6 (a:Int) (b:Int)=((a&&&b:Nat):Int):=by
 unfold Q6;rw[decide_eq_true (by lia),decide_eq_true (by lia)];rfl
theorem aod(ps:List cM)(e:bg):signNumber (fU (ps.map fun p=>p.kind) e.kind)&&&signNumber (fU (ps.map fun p=>p.subject) e.subject)&&&signNumber (nB (ps.map fun p=>p.number) e.number)&&&signNumber (nB (ps.map fun p=>p.gap) e.gap)=signNumber (cw ps e):=by
 unfold fU nB;simp only[gm];rw[Ot,Ot,Ot];rfl
noncomputable def jc(ps:List cM)(l:List (iz×bg))(e:bg):List (iz×bg):=if l.any (fun x=>x.1==cw ps e)then l else l++[(cw ps e,e)]
theorem aof(ps:List cM):lH ps=(mE (ps.filterMap fun p=>p.kind)).foldl (fun l k=>(mE (ps.filterMap fun p=>p.subject)).foldl (fun l s=>(js (ps.filterMap fun p=>p.number)).foldl (fun l n=>(js (ps.filterMap fun p=>p.gap)).foldl (fun l g=>jc ps l ⟨k,s,n,g⟩) l) l) l) []:=by
 unfold lH B3;simp only[List.foldl_flatMap,Zq];rfl
structure WS(ps:List cM)(l:List (iz×bg)):Prop where
 len:∀x∈l,x.1.length=ps.length
 nd:(l.map fun x=>signNumber x.1).Nodup
theorem EK(ps:List cM)(e:bg):(cw ps e).length=ps.length:=by simp[cw]
theorem G2{ps:List cM}{l:List (iz×bg)}(h:WS ps l)(e:bg):l.any (fun x=>x.1==cw ps e)=true↔signNumber (cw ps e)∈l.map fun x=>signNumber x.1:=by
 rw[FE,dI];constructor
 .rintro⟨x,hx,q⟩;exact⟨x,hx,by rw[beq_iff_eq.mp q]⟩
 .rintro⟨x,hx,q⟩;exact⟨x,hx,beq_iff_eq.mpr (Ou (by rw[h.len x hx,EK]) q)⟩
theorem WS.step{ps:List cM}{l:List (iz×bg)}(h:WS ps l)(e:bg):WS ps (jc ps l e):=by
 unfold jc;split
 .exact h
 .rename_i q;refine⟨fun x hx=>?_,?_⟩
  .rcases jJ.mp hx with hx|hx
   .exact h.len x hx
   .rw[eY.mp hx];exact EK ps e
  .rw[fz,ZH];refine⟨h.nd,by simp,fun a ha b hb=>?_⟩;simp at hb;subst hb;intro z;subst z;exact q ((G2 h e).mpr ha)
theorem WS.count{ps:List cM}{l:List (iz×bg)}(h:WS ps l):l.length<=2^ps.length:=by
 have:=Mx (l.map fun x=>signNumber x.1) (cW (2^ps.length)) h.nd fun n hn=>by
  obtain⟨x,hx,rfl⟩:=dI.mp hn;have:=X0 x.1;rw[h.len x hx]at this;exact Bh.mpr this
 simpa using this
noncomputable def DS(CE:aa)(H:Hp)(kvs:List (Key×V))(l:List (iz×bg)):Prop:=kvs.length=l.length/\∀(i:Nat) q x,kvs[i]? =some q->l[i]? =some x->q.1=.inl (signNumber x.1:Nat)/\∃a,q.2=.ref a/\Ev CE H a x.2
theorem DS.same{CE:aa}{H H':Hp}{kvs:List (Key×V)}{l:List (iz×bg)}(h:DS CE H kvs l)(s:∀a e,Ev CE H a e->Ev CE H' a e):DS CE H' kvs l:=⟨h.1,fun i q x h1 h2=>let ⟨g1,a,g2,g3⟩:=h.2 i q x h1 h2;⟨g1,a,g2,s _ _ g3⟩⟩
theorem DS.keys{CE:aa}{H:Hp}{kvs:List (Key×V)}{l:List (iz×bg)}(h:DS CE H kvs l):kvs.map (·.1)=l.map fun x=>(.inl (signNumber x.1:Nat):Key):=by
 refine Bc fun i=>?_;rw[bU,bU];cases e1:kvs[i]? with
 |none=>
  have:l[i]? =none:=by rw[List.getElem?_eq_none_iff]at e1 ⊢;rw[<-h.1];exact e1
  rw[this];rfl
 |some q=>
  have hi:=(dQ.mp e1).1;obtain⟨x,e2⟩:∃x,l[i]? =some x:=⟨_,cV (by rw[<-h.1];exact hi)⟩;rw[e2];show some q.1=_;rw[(h.2 i q x e1 e2).1];rfl
theorem DS.has{CE:aa}{H:Hp}{kvs:List (Key×V)}{l:List (iz×bg)}(h:DS CE H kvs l)(n:Nat):(fF kvs (.inl (n:Int):Key)).isSome=true↔n∈l.map fun x=>signNumber x.1:=by
 have hk:=h.keys;unfold fF;rw[Gd,Zp];constructor
 .rintro⟨q,hq,e⟩;have:q.1∈kvs.map (·.1):=dI.mpr ⟨q,hq,rfl⟩;rw[of_decide_eq_true e,hk]at this;obtain⟨x,hx,e2⟩:=dI.mp this;refine dI.mpr ⟨x,hx,?_⟩;have:=R0 e2;lia
 .intro hn;obtain⟨x,hx,rfl⟩:=dI.mp hn;have:(.inl (signNumber x.1:Nat):Key)∈kvs.map (·.1):=by rw[hk];exact dI.mpr ⟨x,hx,rfl⟩
  obtain⟨q,hq,e⟩:=dI.mp this;exact⟨q,hq,decide_eq_true e⟩
theorem WX{kvs:List (Key×V)}{k:Key}{v:V}(h:¬(fF kvs k).isSome=true):putK kvs k v=kvs++[(k,v)]:=by
 unfold putK;rw[if_neg];intro q;refine h ?_;unfold fF;rw[Gd,Zp];obtain⟨x,hx,e⟩:=FE.mp q;exact⟨x,hx,e⟩
theorem DS.push{CE:aa}{H:Hp}{kvs:List (Key×V)}{l:List (iz×bg)}(h:DS CE H kvs l){s:iz}{e:bg}{a:aa}(ha:Ev CE H a e):DS CE H (kvs++[(.inl (signNumber s:Nat),.ref a)]) (l++[(s,e)]):=by
 refine⟨by simp[h.1],fun i q x h1 h2=>?_⟩;by_cases hi:i<kvs.length
 .rw[tw hi]at h1;rw[tw (by rw[<-h.1];exact hi)]at h2;exact h.2 i q x h1 h2
 .rw[ya (by lia)]at h1;rw[ya (by rw[<-h.1];lia)]at h2;have e1:i-kvs.length=0:=by
   cases q:i-kvs.length with
   |zero=>rfl
   |succ m=>rw[q]at h1;simp at h1
  rw[<-h.1,e1]at h2;rw[e1]at h1;cases h1;cases h2;exact⟨rfl,a,rfl,ha⟩
theorem E7{A B:Type}(f:B->A->B)(xs:List A)(b:B){i:Nat}{x:A}(h:xs[i]? =some x):(xs.take (i+1)).foldl f b=f ((xs.take i).foldl f b) x:=by
 rw[me,h,Be];rfl
open Vatrca (signNumber once samples)
noncomputable abbrev zg:List ah:=["kind","subject","number","gap"]
theorem ai9{C:aa}{H:Hp}{Q:VK}{e:bg}(k:∀a H',H a=none->aq H H'->Ev C H' a e->Q (.ref a) H'):∀x dx,H x=none->H dx=none->dx≠x->eP C zg [.ref x,.str (S e.kind),.str (S e.subject),.int (e.number:Nat),.int (e.gap:Nat)] (upd (upd H dx (.own x)) x (.ins C dx [])) (fun v H2=>v=.aO/\Q (.ref x) H2) E0:=fun x dx n1 n2 n3=>by
 refine⟨x,dx,_,rfl,rfl,aD,rfl,?_⟩;rw[fE];have sm:=bj (bj (o:=HO.own x) (aq.refl H) n2) (p:=x) (o:=HO.ins C dx (zg.zip [V.str (S e.kind),.str (S e.subject),.int (e.number:Nat),.int (e.gap:Nat)])) (by rw[ba n3.symm];exact n1);exact k x _ n1 sm ⟨dx,aD⟩
noncomputable abbrev uW:aW:=top 92
noncomputable abbrev Ac:List ah:=["patterns","kinds","subjects","numbers","gaps","samples","kind","subject","of_names","number","gap","sign","pattern"]
theorem gY:bE Ac ["patterns"] (aP uW):=bF
noncomputable def OK(CP CE:aa):Sp:=fun vs H Q Z=>∃(l:aa)(as:List aa)(ps:List cM),vs=[.ref l]/\H l=some (.lst (as.map V.ref))/\Al (Pt CP H) as ps/\(∀p∈ps,fO p)/\ps.length<=5/\∀d kvs H',H d=none->aq H H'->H' d=some (.dK kvs)->DS CE H' kvs (lH ps)->WS ps (lH ps)->Q (.ref d) H'
theorem wj{α:Type}{R:aa->α->Prop}{as:List aa}{xs:List α}(h:Al R as xs){i:Nat}{x:V}(e:(as.map V.ref)[i]? =some x):∃a y,x=.ref a/\xs[i]? =some y/\R a y:=by
 rw[bU]at e;cases e3:as[i]? with
 |none=>rw[e3]at e;cases e
 |some a=>
  rw[e3]at e;cases e;obtain⟨y,hy,r⟩:=h.get e3;exact⟨a,y,rfl,hy,r⟩
theorem akH{f:aa}{fd:bu}(F:bt K "first_samples" "first_samples" uW f fd)(TP:Ty K CP ["kind","subject","numbers","gaps"])(TC:Ty K CC rM)(F1:Fn P w K mg base az 3 "name_choices" ["asked"] (ON CC))(F2:Fn P w K mg base az 3 "number_choices" ["asked"] (OP CC))(M:Cl P w K mg base 1 "Event" CE ["self","kind","subject","number","gap"] (eP CE zg)):bh P w K mg base az 4 f fd ["patterns"] (OK CP CE):=by
 refine F.ok gY (fun vs H Q E h=>?_) (fun aJ A outer s H vs Q E hr h=>?_)
 .obtain⟨l,as,ps,rfl,Z⟩:=h;rfl
 .obtain⟨l,as,ps,rfl,hl,dO,dG,h5,k⟩:=h;have ck:bb 2 _:=hr.mono (by lia);have hu:∀{A:bO},bb 3 A->A.units+1<oE:=fun r=>by have:=r.units;lia
  refine⟨_,aw (aZ (i:=1) gY.nd rfl (aF rfl) (aU F1 hr rfl aY (ai (fq (own:=[("pattern",12)]) (te:=iK K (aS 12) "kind") rfl gY.nd (dP (pv 0)) (eN (by show ez Ac (aP uW) _ _=true;decide+kernel)) (fun s H C cl fp=>c8 (i:=12) gY.nd rfl (aF rfl)) (fun s H C cl fp=>ft) (fun s H C cl fp=>aN (pv 12) rfl)) aj))) (aw (aZ (i:=2) gY.nd rfl (aF rfl) (aU F1 hr rfl aY (ai (fq (own:=[("pattern",12)]) (te:=iK K (aS 12) "subject") rfl gY.nd (dP (pv 0)) (eN (by show ez Ac (aP uW) _ _=true;decide+kernel)) (fun s H C cl fp=>c8 (i:=12) gY.nd rfl (aF rfl)) (fun s H C cl fp=>ft) (fun s H C cl fp=>aN (pv 12) rfl)) aj))) (aw (aZ (i:=3) gY.nd rfl (aF rfl) (aU F2 hr rfl aY (ai (fq (own:=[("pattern",12)]) (te:=iK K (aS 12) "numbers") rfl gY.nd (dP (pv 0)) (eN (by show ez Ac (aP uW) _ _=true;decide+kernel)) (fun s H C cl fp=>c8 (i:=12) gY.nd rfl (aF rfl)) (fun s H C cl fp=>ft) (fun s H C cl fp=>aN (pv 12) rfl)) aj))) (aw (aZ (i:=4) gY.nd rfl (aF rfl) (aU F2 hr rfl aY (ai (fq (own:=[("pattern",12)]) (te:=iK K (aS 12) "gaps") rfl gY.nd (dP (pv 0)) (eN (by show ez Ac (aP uW) _ _=true;decide+kernel)) (fun s H C cl fp=>c8 (i:=12) gY.nd rfl (aF rfl)) (fun s H C cl fp=>ft) (fun s H C cl fp=>aN (pv 12) rfl)) aj))) (aw (aZ (i:=5) gY.nd rfl (aF rfl) aml) (aw (mT kg rfl (dP (pv 1)) (c8 (i:=6) gY.nd rfl (aF rfl)) (aA (mT kg rfl (dP (pv 2)) (c8 (i:=7) gY.nd rfl (aF rfl)) (aw (aZ (i:=8) gY.nd rfl (aF rfl) (dH Mg (aN (pv 6) rfl) (aN (pv 7) rfl))) (aA (mT kg rfl (dP (pv 3)) (c8 (i:=9) gY.nd rfl (aF rfl)) (aA (mT kg rfl (dP (pv 4)) (c8 (i:=10) gY.nd rfl (aF rfl)) (aw (aZ (i:=11) gY.nd rfl (aF rfl) (dH Mg (dH Mg (pv 8) (aN (pv 9) rfl)) (aN (pv 10) rfl))) (aA (bx (WU (amh (hu hr) (pv 11) (pv 5)) (by rfl)) (aA (amM (hu hr) (pv 5) (pv 11) (gC M ck rfl (ai (aN (pv 6) rfl) (ai (aN (pv 7) rfl) (ai (aN (pv 9) rfl) (ai (aN (pv 10) rfl) aj))))) rfl)) bA))))))))))) (aA (aI (pv 5)))))))),?_⟩;have hlen:=dO.1;have get:∀{i:Nat}{x:V},(as.map V.ref)[i]? =some x->∃a p,x=.ref a/\ps[i]? =some p/\Pt CP H a p:=fun e=>wj dO e;dsimp only[b9,cE,g0,bQ];refine jB (xs:=as.map V.ref) (ys:=asked (ps.map fun p=>p.kind)) (dN _ (by rw[bC];lia)) (by simp[asked,hlen]) (fun R h=>⟨_,rfl,h l _ (aq.refl _) (aH.of hl)⟩) (fun i x y H' R e1 e2 s1 hR=>?_) (fun D1 H1 hD1 s1 e1=>?_)
  .obtain⟨a,p,rfl,hp,dx,nv,gv,q,Z,Z⟩:=get e1;unfold asked at e2;rw[bU,bU,hp]at e2;cases e2;exact⟨_,rfl,a,CP,dx,_,_,rfl,s1 _ _ q,TP.cls,TP.nf _ (by simp),rfl,hR _ (aq.refl _)⟩
  have nk:∀y,some y∈(ps.map fun p=>p.kind)->y≠[]:=fun y hy=>by
   obtain⟨p,hp,e⟩:=dI.mp hy;exact(j3 ((dG p hp).k y e)).2
  have ns:∀y,some y∈(ps.map fun p=>p.subject)->y≠[]:=fun y hy=>by
   obtain⟨p,hp,e⟩:=dI.mp hy;exact(j3 ((dG p hp).s y e)).2
  have rn:∀r,some r∈(ps.map fun p=>p.number)->mw r:=fun r hy=>by
   obtain⟨p,hp,e⟩:=dI.mp hy;exact(dG p hp).n r e
  have rg:∀r,some r∈(ps.map fun p=>p.gap)->mw r:=fun r hy=>by
   obtain⟨p,hp,e⟩:=dI.mp hy;exact(dG p hp).g r e
  refine⟨D1,_,rfl,e1,nk,by simp;lia,fun lk ak H2 hlk s2 iU CY=>?_⟩;have bJ:=s1.trans s2;dsimp only[b7,b9,cE,g0,bQ];refine jB (xs:=as.map V.ref) (ys:=asked (ps.map fun p=>p.subject)) (dN _ (by rw[bC];lia)) (by simp[asked,hlen]) (fun R h=>⟨_,rfl,h l _ (aq.refl _) (aH.of (bJ _ _ hl))⟩) (fun i x y H' R e1 e2 s1 hR=>?_) (fun D3 H3 hD3 s3 e3=>?_)
  .obtain⟨a,p,rfl,hp,dx,nv,gv,q,Z,Z⟩:=get e1;unfold asked at e2;rw[bU,bU,hp]at e2;cases e2;exact⟨_,rfl,a,CP,dx,_,_,rfl,s1 _ _ (bJ _ _ q),TP.cls,TP.nf _ (by simp),rfl,hR _ (aq.refl _)⟩
  refine⟨D3,_,rfl,e3,ns,by simp;lia,fun LG asu H4 aqj s4 K9 C1=>?_⟩;have ja:=bJ.trans (s3.trans s4);obtain⟨un,Dh⟩:∃un:List V,un.length=ps.length/\∀(i:Nat) a p,as[i]? =some a->ps[i]? =some p->∃dx nv gv,H a=some (.ins CP dx (DU p nv gv))/\un[i]? =some nv/\Rg H nv p.number:=by
   refine⟨as.map fun a=>match H a with|some (.ins _ _ [_,_,(_,nv),_])=>nv|_=> .aO,by rw[bC,hlen],fun i a p h1 h2=>?_⟩;obtain⟨dx,nv,gv,q,r1,r2⟩:=dO.2 i a p h1 h2;exact⟨dx,nv,gv,q,by rw[bU,h1];dsimp only[Option.map];rw[q];rfl,r1⟩
  obtain⟨ug,De⟩:∃ug:List V,ug.length=ps.length/\∀(i:Nat) a p,as[i]? =some a->ps[i]? =some p->∃dx nv gv,H a=some (.ins CP dx (DU p nv gv))/\ug[i]? =some gv/\Rg H gv p.gap:=by
   refine⟨as.map fun a=>match H a with|some (.ins _ _ [_,_,_,(_,gv)])=>gv|_=> .aO,by rw[bC,hlen],fun i a p h1 h2=>?_⟩;obtain⟨dx,nv,gv,q,r1,r2⟩:=dO.2 i a p h1 h2;exact⟨dx,nv,gv,q,by rw[bU,h1];dsimp only[Option.map];rw[q];rfl,r2⟩
  have Ua:∀{i:Nat}{x:V},(as.map V.ref)[i]? =some x->∃a p,x=.ref a/\as[i]? =some a/\ps[i]? =some p:=fun{i x} e=>by
   rw[bU]at e;cases e3:as[i]? with
   |none=>rw[e3]at e;cases e
   |some a=>
    rw[e3]at e;cases e;obtain⟨y,hy,Z⟩:=dO.get e3;exact⟨a,y,rfl,rfl,hy⟩
  have rgn:tX H un (ps.map fun p=>p.number):=⟨by rw[Dh.1,bC],fun i v o h1 h2=>by
   rw[bU]at h2;cases e5:ps[i]? with
   |none=>rw[e5]at h2;cases h2
   |some p=>
    rw[e5]at h2;cases h2;obtain⟨a,ha⟩:∃a,as[i]? =some a:=⟨_,cV (by rw[hlen];exact(dQ.mp e5).1)⟩;obtain⟨dx,nv,gv,Z,q,r⟩:=Dh.2 i a p ha e5;rw[q]at h1;cases h1;exact r⟩
  have rgg:tX H ug (ps.map fun p=>p.gap):=⟨by rw[De.1,bC],fun i v o h1 h2=>by
   rw[bU]at h2;cases e5:ps[i]? with
   |none=>rw[e5]at h2;cases h2
   |some p=>
    rw[e5]at h2;cases h2;obtain⟨a,ha⟩:∃a,as[i]? =some a:=⟨_,cV (by rw[hlen];exact(dQ.mp e5).1)⟩;obtain⟨dx,nv,gv,Z,q,r⟩:=De.2 i a p ha e5;rw[q]at h1;cases h1;exact r⟩
  dsimp only[b7,b9,cE,g0,bQ];refine jB (xs:=as.map V.ref) (ys:=un) (dN _ (by rw[bC];lia)) (by simp[Dh.1,hlen]) (fun R h=>⟨_,rfl,h l _ (aq.refl _) (aH.of (ja _ _ hl))⟩) (fun i x y H' R e1 e2 s1 hR=>?_) (fun D5 H5 CO s5 e5=>?_)
  .obtain⟨a,p,rfl,ha,hp⟩:=Ua e1;obtain⟨dx,nv,gv,q,q2,r⟩:=Dh.2 i a p ha hp;rw[q2]at e2;cases e2;exact⟨_,rfl,a,CP,dx,_,_,rfl,s1 _ _ (ja _ _ q),TP.cls,TP.nf _ (by simp),rfl,hR _ (aq.refl _)⟩
  refine⟨D5,un,_,rfl,e5,(rgn.same ja).same s5,rn,by simp;lia,fun LC anu H6 aqg s6 hn6 CZ=>?_⟩;have Eb:=ja.trans (s5.trans s6);dsimp only[b7,b9,cE,g0,bQ];refine jB (xs:=as.map V.ref) (ys:=ug) (dN _ (by rw[bC];lia)) (by simp[De.1,hlen]) (fun R h=>⟨_,rfl,h l _ (aq.refl _) (aH.of (Eb _ _ hl))⟩) (fun i x y H' R e1 e2 s1 hR=>?_) (fun D7 H7 hD7 s7 e7=>?_)
  .obtain⟨a,p,rfl,ha,hp⟩:=Ua e1;obtain⟨dx,nv,gv,q,q2,r⟩:=De.2 i a p ha hp;rw[q2]at e2;cases e2;exact⟨_,rfl,a,CP,dx,_,_,rfl,s1 _ _ (Eb _ _ q),TP.cls,TP.nf _ (by simp),rfl,hR _ (aq.refl _)⟩
  refine⟨D7,ug,_,rfl,e7,(rgg.same Eb).same s7,rg,by simp;lia,fun lg ag H8 hlg s8 Ux CV=>?_⟩;have Xq:=Eb.trans (s7.trans s8);have MW:=s7.trans s8;have Ec:=(s5.trans s6).trans MW;have MU:=(s3.trans s4).trans Ec;have efk:(ps.map fun p=>p.kind).filterMap id=ps.filterMap fun p=>p.kind:=by rw[FG];rfl
  have efs:(ps.map fun p=>p.subject).filterMap id=ps.filterMap fun p=>p.subject:=by rw[FG];rfl
  have efn:(ps.map fun p=>p.number).filterMap id=ps.filterMap fun p=>p.number:=by rw[FG];rfl
  have efg:(ps.map fun p=>p.gap).filterMap id=ps.filterMap fun p=>p.gap:=by rw[FG];rfl
  rw[efk]at CY;rw[efs]at C1;rw[efn]at CZ;rw[efg]at CV;have es:=aof ps;generalize mE (ps.filterMap fun p=>p.kind)=ks at CY es;generalize mE (ps.filterMap fun p=>p.subject)=ss at C1 es;generalize js (ps.filterMap fun p=>p.number)=xh at CZ es;generalize js (ps.filterMap fun p=>p.gap)=rO at CV es;have gk:=MU _ _ iU;have gs:=Ec _ _ K9;have gn:=MW _ _ hn6;refine fun d hd=>?_;have hd0:H d=none:=Xq.free hd;let In:List (iz×bg)->Hp->Prop:=fun acc H'=>∃kvs,aq H8 H'/\H' d=some (.dK kvs)/\DS CE H' kvs acc/\WS ps acc
  have Lj:In [] (upd H8 d (.dK [])):=⟨[],bj (aq.refl _) hd,aD,⟨rfl,fun i q x h=>by simp at h⟩,⟨fun x hx=>(nomatch hx),QL⟩⟩;generalize upd H8 d (.dK [])=H9 at Lj ⊢;have hv:∀{acc:List (iz×bg)}{H':Hp}{a:aa}{xs:List V},In acc H'->H8 a=some (.lst xs)->aH K H' a xs:=fun⟨_,sm,_⟩ e=>aH.of (sm _ _ e);let st:Option V->Option V->Option V->Option V->Option V->Option V->L2.St:=fun v6 v7 v8 v9 v10 v11=>[some (.ref l),some (.ref lk),some (.ref LG),some (.ref LC),some (.ref lg),some (.ref d),v6,v7,v8,v9,v10,v11,none]
  refine⟨_,rfl,lk,rfl,⟨_,hv Lj gk⟩,?_⟩;refine oQ (K:=K) (a:=lk) (xs:=ak.map V.ref) (fun i σ H'=>∃v6 v7 v8 v9 v10 v11,σ=st v6 v7 v8 v9 v10 v11/\In ((ks.take i).foldl (fun l k=>ss.foldl (fun l s=>xh.foldl (fun l n=>rO.foldl (fun l g=>jc ps l ⟨k,s,n,g⟩) l) l) l) []) H') ⟨none,none,none,none,none,none,rfl,Lj⟩ (fun i σ H' Z p=>?_) (fun i1 x1 σ H' hx1 p=>?_) (fun σ H' p=>?_)
  .obtain⟨v6,v7,v8,v9,v10,v11,Z,q⟩:=p;exact hv q gk
  .obtain⟨v6,v7,v8,v9,v10,v11,rfl,in1⟩:=p;obtain⟨a1,kd,rfl,KC,⟨Tc,qk⟩⟩:=wj CY hx1;rw[E7 _ _ _ KC];generalize (ks.take i1).foldl (fun l k=>ss.foldl (fun l s=>xh.foldl (fun l n=>rO.foldl (fun l g=>jc ps l ⟨k,s,n,g⟩) l) l) l) []=Sa at in1 ⊢;refine⟨_,rfl,LG,rfl,⟨_,hv in1 gs⟩,?_⟩;refine oQ (K:=K) (a:=LG) (xs:=asu.map V.ref) (fun i σ H'=>∃v7 v8 v9 v10 v11,σ=st (some (.ref a1)) v7 v8 v9 v10 v11/\In ((ss.take i).foldl (fun l s=>xh.foldl (fun l n=>rO.foldl (fun l g=>jc ps l ⟨kd,s,n,g⟩) l) l) Sa) H') ⟨_,_,_,_,_,rfl,in1⟩ (fun i σ H' Z p=>?_) (fun i2 x2 σ H' Lf p=>?_) (fun σ H' p=>?_)
   .obtain⟨v7,v8,v9,v10,v11,Z,q⟩:=p;exact hv q gs
   .obtain⟨v7,v8,v9,v10,v11,rfl,Dl⟩:=p;obtain⟨a2,sb,rfl,o3,⟨Te,qs⟩⟩:=wj C1 Lf;rw[E7 _ _ _ o3];generalize (ss.take i2).foldl (fun l s=>xh.foldl (fun l n=>rO.foldl (fun l g=>jc ps l ⟨kd,s,n,g⟩) l) l) Sa=Sb at Dl ⊢;have gG:=Dl.choose_spec.1;refine⟨_,rfl,a1,CC,Tc,_,_,rfl,gG _ _ (MU _ _ qk),TC.cls,TC.nf _ (by simp),rfl,_,rfl,a2,CC,Te,_,_,rfl,gG _ _ (Ec _ _ qs),TC.cls,TC.nf _ (by simp),rfl,_,_,rfl,rfl,?_⟩;dsimp only[b7];rw[G8];refine⟨_,rfl,LC,rfl,⟨_,hv Dl gn⟩,?_⟩;refine oQ (K:=K) (a:=LC) (xs:=anu.map V.ref) (fun i σ H'=>∃v9 v10 v11,σ=st (some (.ref a1)) (some (.ref a2)) (some (.int ((signNumber (fU (ps.map fun p=>p.kind) kd)&&&signNumber (fU (ps.map fun p=>p.subject) sb):Nat):Int))) v9 v10 v11/\In ((xh.take i).foldl (fun l n=>rO.foldl (fun l g=>jc ps l ⟨kd,sb,n,g⟩) l) Sb) H') ⟨_,_,_,rfl,Dl⟩ (fun i σ H' Z p=>?_) (fun i3 x3 σ H' hx3 p=>?_) (fun σ H' p=>?_)
    .obtain⟨v9,v10,v11,Z,q⟩:=p;exact hv q gn
    .obtain⟨v9,v10,v11,rfl,Lk⟩:=p;obtain⟨a3,nm,rfl,hnm,⟨Td,qn⟩⟩:=wj CZ hx3;rw[E7 _ _ _ hnm];generalize (xh.take i3).foldl (fun l n=>rO.foldl (fun l g=>jc ps l ⟨kd,sb,n,g⟩) l) Sb=Sd at Lk ⊢;refine⟨_,rfl,lg,rfl,⟨_,hv Lk Ux⟩,?_⟩;refine oQ (K:=K) (a:=lg) (xs:=ag.map V.ref) (fun i σ H'=>∃v10 v11,σ=st (some (.ref a1)) (some (.ref a2)) (some (.int ((signNumber (fU (ps.map fun p=>p.kind) kd)&&&signNumber (fU (ps.map fun p=>p.subject) sb):Nat):Int))) (some (.ref a3)) v10 v11/\In ((rO.take i).foldl (fun l g=>jc ps l ⟨kd,sb,nm,g⟩) Sd) H') ⟨_,_,rfl,Lk⟩ (fun i σ H' Z p=>?_) (fun i4 x4 σ H' hx4 p=>?_) (fun σ H' p=>?_)
     .obtain⟨v10,v11,Z,q⟩:=p;exact hv q Ux
     .obtain⟨v10,v11,rfl,in4⟩:=p;obtain⟨a4,gp,rfl,hgp,⟨Tb,qg⟩⟩:=wj CV hx4;rw[E7 _ _ _ hgp];generalize (rO.take i4).foldl (fun l g=>jc ps l ⟨kd,sb,nm,g⟩) Sd=B5 at in4 ⊢;obtain⟨kvs,iI,uo,ds,ws⟩:=in4;have uk:=iI _ _ (MU _ _ qk);have us:=iI _ _ (Ec _ _ qs);have YL:=iI _ _ (MW _ _ qn);have YK:=iI _ _ qg;refine⟨_,rfl,_,rfl,a3,CC,Td,_,_,rfl,YL,TC.cls,TC.nf _ (by simp),rfl,_,_,rfl,rfl,_,rfl,a4,CC,Tb,_,_,rfl,YK,TC.cls,TC.nf _ (by simp),rfl,_,_,rfl,rfl,?_⟩;dsimp only[b7];rw[G8,G8,aod ps ⟨kd,sb,nm,gp⟩];refine⟨_,rfl,_,rfl,d,_,rfl,qG.k (k:=.inl _) uo,_,rfl,?_⟩;have hc:=ws.count;have Ue:B5.length<=32:=fA hc (fA (F9 (by lia) h5) (by decide));refine mO (fun z=>?_) (fun z=>?_)
      .have KR:¬(B5.any fun x=>x.1==cw ps ⟨kd,sb,nm,gp⟩)=true:=fun q=>by
        have:=(ds.has _).mpr ((G2 ws _).mp q);rw[z]at this;cases this
       refine⟨_,rfl,a1,CC,Tc,_,_,rfl,uk,TC.cls,TC.nf _ (by simp),rfl,_,rfl,a2,CC,Te,_,_,rfl,us,TC.cls,TC.nf _ (by simp),rfl,_,rfl,a3,CC,Td,_,_,rfl,YL,TC.cls,TC.nf _ (by simp),rfl,_,rfl,a4,CC,Tb,_,_,rfl,YK,TC.cls,TC.nf _ (by simp),rfl,?_⟩;refine ai9 (C:=CE) (e:=⟨kd,sb,nm,gp⟩) (Q:=fun v H2=>∃x,(st (some (.ref a1)) (some (.ref a2)) (some (.int ((signNumber (fU (ps.map fun p=>p.kind) kd)&&&signNumber (fU (ps.map fun p=>p.subject) sb):Nat):Int))) (some (.ref a3)) (some (.ref a4)) (some (.int (signNumber (cw ps ⟨kd,sb,nm,gp⟩):Nat))))[5]? =some (some x)/\∃y,(st (some (.ref a1)) (some (.ref a2)) (some (.int ((signNumber (fU (ps.map fun p=>p.kind) kd)&&&signNumber (fU (ps.map fun p=>p.subject) sb):Nat):Int))) (some (.ref a3)) (some (.ref a4)) (some (.int (signNumber (cw ps ⟨kd,sb,nm,gp⟩):Nat))))[11]? =some (some y)/\∃a H4,x=.ref a/\vi H2 a y v H4/\∃v10 v11,st (some (.ref a1)) (some (.ref a2)) (some (.int ((signNumber (fU (ps.map fun p=>p.kind) kd)&&&signNumber (fU (ps.map fun p=>p.subject) sb):Nat):Int))) (some (.ref a3)) (some (.ref a4)) (some (.int (signNumber (cw ps ⟨kd,sb,nm,gp⟩):Nat)))=st (some (.ref a1)) (some (.ref a2)) (some (.int ((signNumber (fU (ps.map fun p=>p.kind) kd)&&&signNumber (fU (ps.map fun p=>p.subject) sb):Nat):Int))) (some (.ref a3)) v10 v11/\In (jc ps B5 ⟨kd,sb,nm,gp⟩) H4) fun ae Hb hae N4 dj=>?_;have gU:=N4 _ _ uo;have bL:∀a e,Ev CE Hb a e->a≠d:=fun a e ⟨dx,q⟩=>fe q gU (fun z=>by cases z);refine⟨_,rfl,_,rfl,d,_,rfl,vi.k (k:=.inl _) gU (dN _ (by rw[ds.1];lia)),_,_,rfl,_,fun b o q=>?_,aD,?_,ws.step _⟩
       .have:b≠d:=cC q hd;rw[ba this];exact N4 _ _ (iI _ _ q)
       .rw[WX (by rw[z];decide)];unfold jc;rw[if_neg KR];have mv:∀a e,Ev CE Hb a e->Ev CE (upd Hb d (.dK (kvs++[(.inl ((signNumber (cw ps ⟨kd,sb,nm,gp⟩):Nat):Int),.ref ae)]))) a e:=fun a e h=>let ⟨dx,q⟩:=h;⟨dx,by rw[ba (bL a e h)];exact q⟩
        exact((ds.same fun a e h=>h.same N4).push dj).same mv
      .have ahE:(B5.any fun x=>x.1==cw ps ⟨kd,sb,nm,gp⟩)=true:=(G2 ws _).mpr ((ds.has _).mp z);refine⟨_,_,rfl,kvs,iI,uo,?_,ws.step _⟩;unfold jc;rw[if_pos ahE];exact ds
     .obtain⟨v10,v11,rfl,q⟩:=p;rw[bC,CV.1,jK]at q;exact⟨_,_,_,rfl,q⟩
    .obtain⟨v9,v10,v11,rfl,q⟩:=p;rw[bC,CZ.1,jK]at q;exact⟨_,_,_,_,_,rfl,q⟩
   .obtain⟨v7,v8,v9,v10,v11,rfl,q⟩:=p;rw[bC,C1.1,jK]at q;exact⟨_,_,_,_,_,_,rfl,q⟩
  .obtain⟨v6,v7,v8,v9,v10,v11,rfl,q⟩:=p;rw[bC,CY.1,jK,<-es]at q;obtain⟨kvs,sm,uq,ds,ws⟩:=q;exact⟨_,rfl,k d kvs H' hd0 (Xq.trans sm) uq ds ws⟩
noncomputable def Rn(CE CR:aa)(H:Hp)(r l:aa)(es:List bg):Prop:=∃dx as,H r=some (.ins CR dx [("events",.ref l)])/\H l=some (.lst (as.map V.ref))/\eQ CE H as es/\(∀e∈es,jH e)/\es.length<=40
theorem Rn.same{CE CR:aa}{H H':Hp}{r l:aa}{es:List bg}(h:Rn CE CR H r l es)(s:aq H H'):Rn CE CR H' r l es:=let ⟨dx,as,h1,h2,h3,h4⟩:=h;⟨dx,as,s _ _ h1,s _ _ h2,h3.same s,h4⟩
noncomputable def hX(r l:aa)(H H':Hp):Prop:=∀b o,H b=some o->b≠r->b≠l->H' b=some o
theorem hX.of{r l:aa}{H H':Hp}(s:aq H H'):hX r l H H':=fun b o e Z Z=>s b o e
theorem hX.trans{r l:aa}{H H' eJ:Hp}(s:hX r l H H')(t:aq H' eJ):hX r l H eJ:=fun b o e n1 n2=>t b o (s b o e n1 n2)
noncomputable def oG(CE CR:aa)(H H':Hp)(r l:aa)(es:List bg):Prop:=∃l',Rn CE CR H' r l' es/\(l'=l\/H l'=none)/\hX r l H H'
theorem oG.of{CE CR:aa}{H H':Hp}{r l:aa}{es:List bg}(h:Rn CE CR H r l es)(s:aq H H'):oG CE CR H H' r l es:=⟨l,h.same s,.inl rfl,hX.of s⟩
noncomputable def cf(l:List Int):List V:=l.map V.int
noncomputable def jE(H:Hp)(Q:VK)(a:List Int):Prop:=∀D H',H D=none->aq H H'->H' D=some (.lst (cf a))->Q (.ref D) H'
noncomputable def u9(CE CR:aa)(H:Hp)(Q:VK)(r l:aa)(es:List bg)(a:List Int):Prop:=∀D H',H D=none->D≠l->oG CE CR H H' r l es->H' D=some (.lst (cf a))->Q (.ref D) H'
theorem JV{t:au}{e:bg}(h:kn t=some e):jH e:=by
 unfold kn at h;cases e1:cZ mz t with
 |none=>rw[e1]at h;cases h
 |some x1=>
  rw[e1]at h;obtain⟨k,r⟩:=x1;dsimp only at h;cases e2:cZ dA r with
  |none=>rw[e2]at h;cases h
  |some x2=>
   rw[e2]at h;obtain⟨s,q⟩:=x2;dsimp only at h;cases e3:cZ dB q with
   |none=>rw[e3]at h;cases h
   |some x3=>
    rw[e3]at h;obtain⟨n,g⟩:=x3;dsimp only at h;cases hx:c7 n with
    |none=>rw[hx]at h;cases h
    |some x=>
     cases hy:c7 g with
     |none=>rw[hx,hy]at h;cases h
     |some y=>
      rw[hx,hy]at h;dsimp only at h;by_cases z:(cz k&&cz s)=true
      .rw[if_pos z]at h;cases h;have z:=Ql.mp z;exact⟨(j3 z.1).1,(j3 z.2).1,DG hx,DG hy⟩
      .rw[if_neg z]at h;cases h
theorem Tw:∀(rows:List (Nat×au))(n:Nat)(es:List bg),jP n rows=.ok es->∀e∈es,jH e
 |[],n,es,h,e,he=>by cases h;cases he
 |x::r,n,es,h,e,he=>by
  cases q:kn x.2 with
  |none=>rw[Vt.Tu q]at h;cases h
  |some d=>
   by_cases hn:BZ<=n
   .rw[Vt.Tt q hn]at h;cases h
   .rw[Vt.Tv q hn]at h;cases z:jP (n+1) r with
    |error f=>rw[z]at h;cases h
    |ok us=>
     rw[z]at h;cases h;rcases bX.mp he with he|he
     .subst he;exact JV q
     .exact Tw r _ us z e he
theorem am6{t:au}{es:List bg}(h:kq t=.ok es):∀e∈es,jH e:=Tw _ _ _ h
noncomputable abbrev NJ:aW:=inClass (top 119) 0
theorem anV:bE ["self"] ["self"] (aP NJ):=bF
noncomputable def OZ(CR:aa):Sp:=fun vs H Q Z=>∃(x dx:aa),vs=[.ref x]/\H x=some (.ins CR dx [])/\∀l,H l=none->Q .aO (upd (upd H l (.lst [])) x (.ins CR dx [("events",.ref l)]))
theorem ali{f:aa}{fd:bu}(F:bt K "__init__" "Run.__init__" NJ f fd)(T:Ty K CR ["events"]):bh P w K mg base az 1 f fd ["self"] (OZ CR):=by
 refine F.ok anV (fun vs H Q E h=>?_) (fun aJ A outer s H vs Q E hr h=>?_)
 .obtain⟨x,dx,rfl,Z⟩:=h;rfl
 .obtain⟨x,dx,rfl,hx,k⟩:=h;refine⟨_,aA (fg (pv 0) (cv aj) rfl),?_⟩;refine⟨dJ _,fun l hl=>?_⟩;have bL:x≠l:=cC hx hl;refine⟨_,rfl,x,CR,dx,[],rfl,by rw[ba bL];exact hx,T.cls,T.nf _ (by simp),(by decide),?_⟩;exact k l hl
noncomputable abbrev Ni:aW:=inClass (top 119) 1
theorem anK:bE ["self","index"] ["self","index"] (aP Ni):=bF
noncomputable def vb(CE CR:aa):Sp:=fun vs H Q Z=>∃(r l:aa)(es:List bg)(i:Int),vs=[.ref r,.int i]/\Rn CE CR H r l es/\Q (.bl (decide (0<=i/\i<(es.length:Nat)))) H
theorem akL{f:aa}{fd:bu}(F:bt K "has_event" "Run.has_event" Ni f fd)(B:Bt mg)(T:Ty K CR ["events"]):bh P w K mg base az 1 f fd ["self","index"] (vb CE CR):=by
 refine F.ok anK (fun vs H Q E h=>?_) (fun aJ A outer s H vs Q E hr h=>?_)
 .obtain⟨r,l,es,i,rfl,Z⟩:=h;rfl
 .obtain⟨r,l,es,i,rfl,⟨dx,as,h1,h2,h3,h4,h5⟩,k⟩:=h;refine⟨_,aA (aI (Mr sD nU bc (pv 1) (cK fR (by rfl) B.len dv (ai (aN (pv 0) rfl) aj)))),?_⟩;refine⟨_,rfl,_,_,rfl,rfl,_,rfl,bD (fun z=>?_) (fun z=>?_)⟩
  .refine⟨_,rfl,r,CR,dx,_,_,rfl,h1,T.cls,T.nf _ (by simp),rfl,l,_,rfl,.inl (aH.of h2),_,_,rfl,rfl,?_⟩;rw[bC,h3.1];have:decide (0<=i/\i<((es.length:Nat):Int))=decide (i<((es.length:Nat):Int)):=by
    rw[gJ,decide_eq_true_eq,decide_eq_true_eq];exact⟨fun q=>q.2,fun q=>⟨z,q⟩⟩
   rw[this]at k;exact k
  .rw[decide_eq_false (fun q=>z q.1)]at k;exact k
noncomputable abbrev Nj:aW:=inClass (top 119) 2
theorem anL:bE ["self","index"] ["self","index"] (aP Nj):=bF
noncomputable def OL(CE CR:aa):Sp:=fun vs H Q Z=>∃(r l:aa)(es:List bg)(i:Int),vs=[.ref r,.int i]/\Rn CE CR H r l es/\Q (.bl (decide (0<=i/\i<=(es.length:Nat)))) H
theorem akM{f:aa}{fd:bu}(F:bt K "has_place" "Run.has_place" Nj f fd)(B:Bt mg)(T:Ty K CR ["events"]):bh P w K mg base az 1 f fd ["self","index"] (OL CE CR):=by
 refine F.ok anL (fun vs H Q E h=>?_) (fun aJ A outer s H vs Q E hr h=>?_)
 .obtain⟨r,l,es,i,rfl,Z⟩:=h;rfl
 .obtain⟨r,l,es,i,rfl,⟨dx,as,h1,h2,h3,h4,h5⟩,k⟩:=h;refine⟨_,aA (aI (Mr sD sD bc (pv 1) (cK fR (by rfl) B.len dv (ai (aN (pv 0) rfl) aj)))),?_⟩;refine⟨_,rfl,_,_,rfl,rfl,_,rfl,bD (fun z=>?_) (fun z=>?_)⟩
  .refine⟨_,rfl,r,CR,dx,_,_,rfl,h1,T.cls,T.nf _ (by simp),rfl,l,_,rfl,.inl (aH.of h2),_,_,rfl,rfl,?_⟩;rw[bC,h3.1];have:decide (0<=i/\i<=((es.length:Nat):Int))=decide (i<=((es.length:Nat):Int)):=by
    rw[gJ,decide_eq_true_eq,decide_eq_true_eq];exact⟨fun q=>q.2,fun q=>⟨z,q⟩⟩
   rw[this]at k;exact k
  .rw[decide_eq_false (fun q=>z q.1)]at k;exact k
noncomputable abbrev Nq:aW:=top 133
theorem anR:bE ["truth"] ["truth"] (aP Nq):=bF
noncomputable def EV:Sp:=fun vs H Q Z=>∃b:Bool,vs=[.bl b]/\Q (.int (if b then 1 else 0)) H
theorem akU{f:aa}{fd:bu}(F:bt K "number_of_truth" "number_of_truth" Nq f fd):bh P w K mg base az 1 f fd ["truth"] EV:=by
 refine F.ok anR (fun vs H Q E h=>?_) (fun aJ A outer s H vs Q E hr h=>?_)
 .obtain⟨b,rfl,Z⟩:=h;rfl
 .obtain⟨b,rfl,k⟩:=h;refine⟨_,aA (aI (amn (f6 (pv 0)) bc bc)),?_⟩;refine⟨_,rfl,_,rfl,jA (fun z=>?_) (fun z=>?_)⟩
  .subst z;exact k
  .subst z;exact k
noncomputable abbrev N2:aW:=top 131
theorem an3:bE ["text"] ["text"] (aP N2):=bF
noncomputable def AW:Sp:=fun vs H Q Z=>∃t:au,vs=[.str (S t)]/\t.length<=100000/\jE H Q (jO t)
theorem y3(t:au):mH t=cf (gO t):=by unfold mH cf gO;rw[gm];rfl
theorem alO{f:aa}{fd:bu}(F:bt K "with_length" "with_length" N2 f fd)(B:Bt mg)(F1:Fn P w K mg base az 1 "bytes_of" ["text"] AK):bh P w K mg base az 2 f fd ["text"] AW:=by
 refine F.ok an3 (fun vs H Q E h=>?_) (fun aJ A outer s H vs Q E hr h=>?_)
 .obtain⟨t,rfl,Z⟩:=h;rfl
 .obtain⟨t,rfl,hl,k⟩:=h;refine⟨_,aA (aI (dH pd (cv (ai (cK lK (by rfl) B.len dv (ai (pv 0) aj)) aj)) (aU F1 hr rfl aY (ai (pv 0) aj)))),?_⟩;refine⟨_,rfl,_,rfl,kR t (by lia),(by show 1<=sizeLine;decide),fun p hp=>?_⟩;rw[bR];refine⟨_,rfl,t,rfl,hl,fun D H1 hD s1 e1=>?_⟩;refine⟨p,D,_,_,rfl,rfl,s1 _ _ aD,e1,?_,fun q hq=>?_⟩
  .rw[y3];unfold cf gO;rw[bC,bC];exact big _ (by show 1+t.length<=_;lia)
  .have s2:aq H H1:=fun b o e=>s1 _ _ (bj (aq.refl _) hp b o e);refine k q _ (s2.free hq) (bj s2 hq) ?_;rw[aD,y3];rfl
theorem Rn.ev{CE CR:aa}{H:Hp}{r l:aa}{es:List bg}(h:Rn CE CR H r l es):es.length<=40:=let ⟨_,_,_,_,_,_,q⟩:=h;q
theorem anl{CE CR:aa}{H:Hp}{r l dx l':aa}{fs:List (ah×V)}{as:List aa}{es:List bg}(hr:H r=some (.ins CR dx fs))(hl:H l'=some (.lst (as.map V.ref)))(he:eQ CE H as es)(ok:∀e∈es,jH e)(gT:es.length<=40)(hf:∀e:bg,fs≠Tr e):Rn CE CR (upd H r (.ins CR dx [("events",.ref l')])) r l' es:=by
 have bL:l'≠r:=fe hl hr (fun z=>by cases z);refine⟨dx,as,aD,by rw[ba bL];exact hl,⟨he.1,fun i a e h1 h2=>?_⟩,ok,gT⟩;obtain⟨d,q⟩:=he.2 i a e h1 h2;exact⟨d,by rw[ba (fe q hr (fun z=>by injection z with _ _ z;exact hf e z.symm))];exact q⟩
theorem MQ{CE CR:aa}{H:Hp}{r l dx:aa}{as bs:List aa}{es ds:List bg}(hr:H r=some (.ins CR dx [("events",.ref l)]))(hl:H l=some (.lst (as.map V.ref)))(he:eQ CE H bs ds)(ok:∀e∈ds,jH e)(gT:ds.length<=40):Rn CE CR (upd H l (.lst (bs.map V.ref))) r l ds:=by
 have bL:r≠l:=fe hr hl (fun z=>by cases z);exact⟨dx,bs,by rw[ba bL];exact hr,aD,he.lst hl,ok,gT⟩
theorem Oz{r l:aa}{H H':Hp}{o:HO}(s:hX r l H H'):hX r l H (upd H' l o):=fun b u e n1 n2=>by rw[ba n2];exact s b u e n1 n2
theorem aop{r l:aa}{H H':Hp}{o:HO}(s:hX r l H H'):hX r l H (upd H' r o):=fun b u e n1 n2=>by rw[ba n1];exact s b u e n1 n2
noncomputable abbrev Nm:aW:=top 126
theorem anO:bE ["run","text"] ["run","text"] (aP Nm):=bF
noncomputable def OM(CE CR CF:aa):Sp:=fun vs H Q E=>∃(r l:aa)(es:List bg)(t:au),vs=[.ref r,.str (S t)]/\Rn CE CR H r l es/\ek t/\t.length<=100000/\(∀ds,kq t=.ok ds->u9 CE CR H Q r l ds [0])/\∀f,kq t=.error f->Rz CF E f (aq H)
theorem akQ{f:aa}{fd:bu}(F:bt K "load" "load" Nm f fd)(T:Ty K CR ["events"])(F1:Fn P w K mg base (XE P w) 4 "read_run" ["text"] (OY CE CF)):bh P w K mg base (XE P w) 5 f fd ["run","text"] (OM CE CR CF):=by
 refine fL F anO (fun vs H Q E h=>?_) (fun aJ A outer s H vs Q E hr h=>?_)
 .obtain⟨r,l,es,t,rfl,Z⟩:=h;rfl
 .obtain⟨r,l,es,t,rfl,⟨dx,as,h1,h2,h3,h4,h5⟩,ha,hl,kS,kE⟩:=h;refine⟨_,aw (fg (pv 0) (aU F1 hr rfl cO (ai (pv 1) aj)) rfl) (aA (aI (cv (ai bc aj)))),?_⟩;refine⟨_,rfl,t,rfl,ha,hl,fun ds Tg l' bs H1 jY s1 eW dj gT=>?_,kE⟩;refine⟨_,rfl,r,CR,dx,_,rfl,s1 _ _ h1,T.cls,T.nf _ (by simp),(by show 1<1000;decide),?_⟩;refine⟨(by show 1<=sizeLine;decide),fun p hp=>?_⟩;have cx:=anl (l:=l) (s1 _ _ h1) eW dj (am6 Tg) gT (fun e z=>by cases z);have mL:hX r l H (upd H1 r (.ins CR dx (fh "events" (.ref l') [("events",.ref l)]))):=aop (hX.of s1);have mK:H1 p=none:=by
   by_cases z:p=r
   .rw[z,aD]at hp;cases hp
   .rw[ba z]at hp;exact hp
  have b0:p≠l:=(cC (s1 _ _ h2) mK).symm;exact kS ds Tg p _ (s1.free mK) b0 ⟨l',cx.same (bj (aq.refl _) hp),.inr jY,mL.trans (bj (aq.refl _) hp)⟩ aD
noncomputable abbrev MX:aW:=top 127
theorem Xv:bE ["run","text","event"] ["run","text"] (aP MX):=bF
noncomputable def OA(CE CR:aa):Sp:=fun vs H Q Z=>∃(r l:aa)(es:List bg)(t:au),vs=[.ref r,.str (S t)]/\Rn CE CR H r l es/\ek t/\t.length<=100000/\u9 CE CR H Q r l (nq ⟨es⟩ t).1.run (nq ⟨es⟩ t).2
theorem akm{f:aa}{fd:bu}(F:bt K "add" "add" MX f fd)(B:Bt mg)(T:Ty K CR ["events"])(c1:bT mg "NOT_AN_EVENT" (.int (-1)))(c2:bT mg "MOST_EVENTS" (.int 40))(c3:bT mg "RUN_IS_FULL" (.int (-3)))(F1:Fn P w K mg base az 3 "read_event" ["text"] (AR CE)):bh P w K mg base az 4 f fd ["run","text"] (OA CE CR):=by
 refine F.ok Xv (fun vs H Q E h=>?_) (fun aJ A outer s H vs Q E hr h=>?_)
 .obtain⟨r,l,es,t,rfl,Z⟩:=h;rfl
 .obtain⟨r,l,es,t,rfl,cx,ha,hl,k⟩:=h;have iE:=cx;obtain⟨dx,as,h1,h2,h3,h4,h5⟩:=cx;refine⟨_,aw (aZ (i:=2) Xv.nd rfl (aF rfl) (aU F1 hr rfl aY (ai (pv 1) aj))) (aw (bx (bq j4 (pv 2) cT (bp _)) (aA (aI (cv (ai (bP c1 rfl) aj)))) bA) (aw (bx (bq cg (cK fR (by rfl) B.len dv (ai (aN (pv 0) rfl) aj)) (bP c2 rfl) (bp _)) (aA (aI (cv (ai (bP c3 rfl) aj)))) bA) (aw (ej (iG g9 lj mi lZ (aN (pv 0) rfl) (ai (pv 2) aj))) (aA (aI (cv (ai (cK fR (by rfl) B.len dv (ai (aN (pv 0) rfl) aj)) aj))))))),?_⟩;unfold nq at k;refine⟨_,rfl,t,rfl,ha,hl,fun e H1 s1=>?_,fun d e x H1 hx s1 dj=>?_⟩
  .rw[e]at k;refine⟨_,rfl,rfl,_,rfl,bD (fun Z=>⟨(by show 1<=sizeLine;decide),fun p hp=>?_⟩) (fun z=>absurd rfl z)⟩;exact k p _ (s1.free hp) (cC (s1 _ _ h2) hp).symm (oG.of iE (bj s1 hp)) aD
  .rw[e]at k;dsimp only at k;have bM:=s1 _ _ h1;have eW:=s1 _ _ h2;have eA:=h3.1;refine⟨_,rfl,rfl,_,rfl,bD (fun z=>nomatch z) (fun Z=>?_)⟩;refine⟨_,rfl,r,CR,dx,_,_,rfl,bM,T.cls,T.nf _ (by simp),rfl,l,_,rfl,.inl (aH.of eW),rfl,_,rfl,?_⟩;rw[bC,eA];refine bD (fun z=>?_) (fun z=>?_)
   .have z:=V.int.inj z;rw[if_pos (show BZ<=es.length from by show 40<=_;lia)]at k;exact⟨(by show 1<=sizeLine;decide),fun p hp=>k p _ (s1.free hp) (cC eW hp).symm (oG.of iE (bj s1 hp)) aD⟩
   .have z:¬es.length=40:=fun q=>z (by rw[q];rfl);rw[if_neg (show¬BZ<=es.length from fun q=>by have q:40<=es.length:=q;lia)]at k;refine⟨_,rfl,r,CR,dx,_,_,rfl,bM,T.cls,T.nf _ (by simp),rfl,.inl ⟨rfl,_,aH.of eW⟩,_,rfl,l,_,_,rfl,rfl,eW,dN _ (by rw[bC];lia),?_⟩;have uD:=MQ (bs:=as++[x]) (ds:=es++[d]) (es:=es) bM eW ((h3.same s1).push dj) (fun e' he=>by
     rcases jJ.mp he with he|he
     .exact h4 e' he
     .rw[eY.mp he];exact JV e) (by simp;lia)
    have em:FV V.ref as++[V.ref x]=(as++[x]).map V.ref:=by simp
    have mL:hX r l H (upd H1 l (.lst ((as++[x]).map V.ref))):=Oz (hX.of s1);rw[em];have K4:=uD;obtain⟨Ta,as2,g1,g2,Z⟩:=uD;have zR:∀p,upd H1 l (.lst ((as++[x]).map V.ref)) p=none->H p=none/\p≠l:=fun p hp=>by
     have z:p≠l:=fun z=>by rw[z,aD]at hp;cases hp
     rw[ba z]at hp;exact⟨s1.free hp,z⟩
    generalize upd H1 l (.lst ((as++[x]).map V.ref))=H2 at mL K4 g1 g2 zR ⊢;refine⟨_,rfl,r,CR,Ta,_,_,rfl,g1,T.cls,T.nf _ (by simp),rfl,l,_,rfl,.inl (aH.of g2),(by show 1<=sizeLine;decide),fun p hp=>?_⟩;obtain⟨lV,b0⟩:=zR p hp;refine k p _ lV b0 ⟨l,K4.same (bj (aq.refl _) hp),.inl rfl,mL.trans (bj (aq.refl _) hp)⟩ ?_;rw[aD];obtain⟨Z,Z,q1,q2,q3,Z,Z⟩:=K4;rw[g2]at q2;have:=congrArg (fun o:Option HO=>match o with|some (.lst xs)=>xs.length|_=>0) q2;simp only[bC]at this;rw[bC,this,q3.1,cY];rfl
noncomputable abbrev M9:aW:=top 129
theorem anE:bE ["run"] ["run"] (aP M9):=bF
noncomputable def OI(CE CR:aa):Sp:=fun vs H Q Z=>∃(r l:aa)(es:List bg),vs=[.ref r]/\Rn CE CR H r l es/\u9 CE CR H Q r l (vZ ⟨es⟩).1.run (vZ ⟨es⟩).2
theorem akD{f:aa}{fd:bu}(F:bt K "drop" "drop" M9 f fd)(B:Bt mg)(T:Ty K CR ["events"])(c1:bT mg "RUN_IS_EMPTY" (.int (-4))):bh P w K mg base az 1 f fd ["run"] (OI CE CR):=by
 refine F.ok anE (fun vs H Q E h=>?_) (fun aJ A outer s H vs Q E hr h=>?_)
 .obtain⟨r,l,es,rfl,Z⟩:=h;rfl
 .obtain⟨r,l,es,rfl,cx,k⟩:=h;have iE:=cx;obtain⟨dx,as,h1,h2,h3,h4,h5⟩:=cx;refine⟨_,aw (bx (bq cg (cK fR (by rfl) B.len dv (ai (aN (pv 0) rfl) aj)) bc (bp _)) (aA (aI (cv (ai (bP c1 rfl) aj)))) bA) (aw (ej (Wy g9 Ra aao VP (aN (pv 0) rfl))) (aA (aI (cv (ai (cK fR (by rfl) B.len dv (ai (aN (pv 0) rfl) aj)) aj))))),?_⟩;unfold vZ at k;have eA:=h3.1;refine⟨_,rfl,r,CR,dx,_,_,rfl,h1,T.cls,T.nf _ (by simp),rfl,l,_,rfl,.inl (aH.of h2),rfl,_,rfl,?_⟩;rw[bC,eA];refine bD (fun z=>?_) (fun z=>?_)
  .have z:es=[]:=yc.mp (by have:=V.int.inj z;lia);subst z;exact⟨(by show 1<=sizeLine;decide),fun p hp=>k p _ hp (cC h2 hp).symm (oG.of iE (bj (aq.refl _) hp)) aD⟩
  .have z:es≠[]:=fun q=>z (by rw[q];rfl);have hie:es.isEmpty=false:=by cases es<;>first|exact absurd rfl z|rfl
   rw[hie]at k;dsimp only at k;have zJ:=ka.mpr z;obtain⟨y,hy⟩:∃y,(as.map V.ref)[(as.map V.ref).length-1]? =some y:=⟨_,cV (by rw[bC];lia)⟩;refine⟨_,rfl,r,CR,dx,_,_,rfl,h1,T.cls,T.nf _ (by simp),rfl,.inl ⟨rfl,_,aH.of h2⟩,l,_,y,rfl,rfl,h2,hy,?_⟩;have em:(as.map V.ref).dropLast=as.dropLast.map V.ref:=by rw[ZD]
   rw[em];have Kx:eQ CE H as.dropLast es.dropLast:=⟨by rw[oy,oy,eA],fun i a e g1 g2=>h3.2 i a e (by
    rw[FL]at g1;split at g1<;>first|exact g1|cases g1) (by
    rw[FL]at g2;split at g2<;>first|exact g2|cases g2)⟩
   have uD:=MQ (es:=es) h1 h2 Kx (fun e he=>h4 e ((List.dropLast_sublist es).subset he)) (by rw[oy];lia);have mL:hX r l H (upd H l (.lst (as.dropLast.map V.ref))):=Oz (hX.of (aq.refl _));have zR:∀p,upd H l (.lst (as.dropLast.map V.ref)) p=none->H p=none/\p≠l:=fun p hp=>by
    have z:p≠l:=fun z=>by rw[z,aD]at hp;cases hp
    rw[ba z]at hp;exact⟨hp,z⟩
   have g2:upd H l (.lst (as.dropLast.map V.ref)) l=some (.lst (as.dropLast.map V.ref)):=aD;have g1:upd H l (.lst (as.dropLast.map V.ref)) r=some (.ins CR dx [("events",.ref l)]):=by rw[ba (fe h1 h2 (fun z=>by cases z))];exact h1
   generalize upd H l (.lst (as.dropLast.map V.ref))=H2 at uD mL zR g1 g2 ⊢;refine⟨_,rfl,r,CR,dx,_,_,rfl,g1,T.cls,T.nf _ (by simp),rfl,l,_,rfl,.inl (aH.of g2),(by show 1<=sizeLine;decide),fun p hp=>?_⟩;obtain⟨lV,b0⟩:=zR p hp;refine k p _ lV b0 ⟨l,uD.same (bj (aq.refl _) hp),.inl rfl,mL.trans (bj (aq.refl _) hp)⟩ ?_;rw[aD,bC,oy,eA];rfl
noncomputable abbrev NA:aW:=top 128
theorem XJ:bE ["run","index","text","event"] ["run","index","text"] (aP NA):=bF
noncomputable def OV(CE CR:aa):Sp:=fun vs H Q Z=>∃(r l:aa)(es:List bg)(i:Int)(t:au),vs=[.ref r,.int i,.str (S t)]/\Rn CE CR H r l es/\ek t/\t.length<=100000/\u9 CE CR H Q r l (nr ⟨es⟩ i t).1.run (nr ⟨es⟩ i t).2
theorem ain{n k:Nat}(h:k<n):lY n (k:Int)=some k:=by
 unfold lY;rw[if_pos (by lia),if_pos (by lia)];rfl
theorem eQ.set{C:aa}{H:Hp}{as:List aa}{es:List bg}{k:Nat}{a:aa}{e:bg}(h:eQ C H as es)(ha:Ev C H a e):eQ C H (as.set k a) (es.set k e):=by
 refine⟨by rw[Bg,Bg,h.1],fun i b d h1 h2=>?_⟩;rw[List.getElem?_set]at h1 h2;by_cases z:k=i
 .rw[if_pos z]at h1 h2;split at h1
  .cases h1;split at h2
   .cases h2;exact ha
   .cases h2
  .cases h1
 .rw[if_neg z]at h1 h2;exact h.2 i b d h1 h2
theorem ak9{f:aa}{fd:bu}(F:bt K "put" "put" NA f fd)(T:Ty K CR ["events"])(c1:bT mg "NO_SUCH_PLACE" (.int (-2)))(c2:bT mg "NOT_AN_EVENT" (.int (-1)))(M:Mt P w K mg base az 1 CR "has_event" ["self","index"] (vb CE CR))(F1:Fn P w K mg base az 3 "read_event" ["text"] (AR CE)):bh P w K mg base az 4 f fd ["run","index","text"] (OV CE CR):=by
 refine F.ok XJ (fun vs H Q E h=>?_) (fun aJ A outer s H vs Q E hr h=>?_)
 .obtain⟨r,l,es,i,t,rfl,Z⟩:=h;rfl
 .obtain⟨r,l,es,i,t,rfl,cx,ha,hl,k⟩:=h;have iE:=cx;obtain⟨dx,as,h1,h2,h3,h4,h5⟩:=cx;have bM:bb 1 _:=hr.mono (by lia);refine⟨_,aw (bx (jD (f6 (kO M T.cls bM aY (pv 0) (ai (pv 1) aj)))) (aA (aI (cv (ai (bP c1 rfl) aj)))) bA) (aw (aZ (i:=3) XJ.nd rfl (aF rfl) (aU F1 hr rfl aY (ai (pv 2) aj))) (aw (bx (bq j4 (pv 3) cT (bp _)) (aA (aI (cv (ai (bP c2 rfl) aj)))) bA) (aw (amL (pv 3) (amw (aN (pv 0) rfl) (pv 1) set_list)) (aA (aI (cv (ai bc aj))))))),?_⟩;unfold nr at k;have eA:=h3.1;refine⟨_,rfl,r,dx,_,rfl,h1,rfl,_,rfl,r,l,es,i,rfl,iE,_,rfl,?_⟩;refine eO (fun z=>?_) (fun z=>?_)
  .rw[if_pos (show i<0\/bS es.length<=i from by
    by_cases q:i<0
    .exact .inl q
    .exact .inr (by have:¬i<(es.length:Nat):=fun y=>z ⟨by lia,y⟩;show((es.length:Nat):Int)<=i;lia))]at k
   exact⟨(by show 1<=sizeLine;decide),fun p hp=>k p _ hp (cC h2 hp).symm (oG.of iE (bj (aq.refl _) hp)) aD⟩
  .obtain⟨z1,z2⟩:=z;rw[if_neg (show¬(i<0\/bS es.length<=i)from fun q=>by
    have:((es.length:Nat):Int)=bS es.length:=rfl;lia)]at k
   obtain⟨n,rfl⟩:∃n:Nat,i=(n:Nat):=⟨i.toNat,by lia⟩;refine⟨_,rfl,t,rfl,ha,hl,fun e H1 s1=>?_,fun d e x H1 hx s1 dj=>?_⟩
   .rw[e]at k;refine⟨_,rfl,rfl,_,rfl,bD (fun Z=>⟨(by show 1<=sizeLine;decide),fun p hp=>?_⟩) (fun z=>absurd rfl z)⟩;exact k p _ (s1.free hp) (cC (s1 _ _ h2) hp).symm (oG.of iE (bj s1 hp)) aD
   .rw[e]at k;dsimp only at k;have bM:=s1 _ _ h1;have eW:=s1 _ _ h2;refine⟨_,rfl,rfl,_,rfl,bD (fun z=>nomatch z) (fun Z=>?_)⟩;refine⟨_,rfl,_,rfl,r,CR,dx,_,_,rfl,bM,T.cls,T.nf _ (by simp),rfl,_,rfl,l,_,_,n,rfl,rfl,eW,ain (by rw[bC];lia),?_⟩;have em:(as.map V.ref).set n (.ref x)=(as.set n x).map V.ref:=by rw[List.map_set]
    rw[em];have uD:=MQ (es:=es) bM eW ((h3.same s1).set (k:=n) dj) (fun e' he=>by
     rcases List.mem_or_eq_of_mem_set he with he|he
     .exact h4 e' he
     .rw[he];exact JV e) (by rw[Bg];lia)
    have mL:hX r l H (upd H1 l (.lst ((as.set n x).map V.ref))):=Oz (hX.of s1);refine⟨(by show 1<=sizeLine;decide),fun p hp=>?_⟩;have z:p≠l:=fun z=>by rw[z,aD]at hp;cases hp
    have UQ:=hp;rw[ba z]at UQ;exact k p _ (s1.free UQ) z ⟨l,uD.same (bj (aq.refl _) hp),.inl rfl,mL.trans (bj (aq.refl _) hp)⟩ aD
open Vatrca (truths signNumber)
open Vt (wordOf parts own da)
theorem pW(t:au):(jO t).length=t.length+1:=by simp[jO,gO]
theorem jy(l:List Int):(cf l).length=l.length:=bC _
theorem wX(a b:List Int):cf (a++b)=cf a++cf b:=fz
theorem wm{H1:Hp}{Q:VK}{l b:aa}{x y:List Int}(hl:H1 l=some (.lst (cf x)))(hb:H1 b=some (.lst (cf y)))(hz:x.length+y.length<=1000000)(k:∀p H',H1 p=none->aq H1 H'->H' p=some (.lst (cf (x++y)))->Q (.ref p) H'):W4 (.ref l) (.ref b) H1 Q:=⟨l,b,_,_,rfl,rfl,hl,hb,by rw[jy,jy];exact big _ hz,fun p hp=>k p _ hp (bj (aq.refl _) hp) (by rw[aD,wX])⟩
theorem Ff{es:List bg}{i:Int}{f:Nat->bg->List Int}(h:¬(0<=i/\i<(es.length:Nat))):lJ ⟨es⟩ i f=[-2]:=by
 unfold lJ;by_cases q:i<0
 .rw[if_pos q]
 .rw[if_neg q];have:es[i.toNat]? =none:=ow (by
   have:¬i<(es.length:Nat):=fun y=>h ⟨by lia,y⟩;lia)
  show(match es[i.toNat]? with|none=>[-2]|some e=>f i.toNat e)=_;rw[this]
theorem Fg{es:List bg}{n:Nat}{e:bg}{f:Nat->bg->List Int}(h:es[n]? =some e):lJ ⟨es⟩ (n:Int) f=f n e:=by
 unfold lJ;rw[if_neg (by lia)];show(match es[((n:Nat):Int).toNat]? with|none=>[-2]|some e=>f _ e)=_;rw[show((n:Nat):Int).toNat=n from rfl,h]
noncomputable abbrev NQ:aW:=top 130
noncomputable abbrev ajI:List ah:=["run","index","event","told"]
theorem Of:bE ajI ["run","index"] (aP NQ):=bF
noncomputable def O7(CE CR:aa):Sp:=fun vs H Q Z=>∃(r l:aa)(es:List bg)(i:Int),vs=[.ref r,.int i]/\Rn CE CR H r l es/\jE H Q (yT ⟨es⟩ (.event i))
theorem alw{f:aa}{fd:bu}(F:bt K "tell_event" "tell_event" NQ f fd)(T:Ty K CR ["events"])(TE:Ty K CE zg)(c1:bT mg "NO_SUCH_PLACE" (.int (-2)))(M:Mt P w K mg base az 1 CR "has_event" ["self","index"] (vb CE CR))(F1:Fn P w K mg base az 1 "time_of" ["events","index"] (Pf CE))(F2:Fn P w K mg base az 2 "with_length" ["text"] AW):bh P w K mg base az 3 f fd ["run","index"] (O7 CE CR):=by
 refine F.ok Of (fun vs H Q E h=>?_) (fun aJ A outer s H vs Q E hr h=>?_)
 .obtain⟨r,l,es,i,rfl,Z⟩:=h;rfl
 .obtain⟨r,l,es,i,rfl,cx,k⟩:=h;have iE:=cx;obtain⟨dx,as,h1,h2,h3,h4,h5⟩:=cx;have bM:bb 1 _:=hr.mono (by lia);refine⟨_,aw (bx (jD (f6 (kO M T.cls bM aY (pv 0) (ai (pv 1) aj)))) (aA (aI (cv (ai (bP c1 rfl) aj)))) bA) (aw (aZ (i:=2) Of.nd rfl (aF rfl) (bZ fc (aN (pv 0) rfl) (pv 1) (fun Z Z=>rfl))) (aw (aZ (i:=3) Of.nd rfl (aF rfl) (cv (ai bc (ai (aU F1 bM rfl aY (ai (aN (pv 0) rfl) (ai (pv 1) aj))) (ai (aN (pv 2) rfl) (ai (aN (pv 2) rfl) aj)))))) (aA (aI (dH pd (dH pd (pv 3) (aU F2 hr rfl aY (ai (aN (pv 2) rfl) aj))) (aU F2 hr rfl aY (ai (aN (pv 2) rfl) aj))))))),?_⟩;have k:jE H Q (lJ ⟨es⟩ i fun k e=>0::bS (rC es k)::bS e.gap::bS e.number::(jO e.kind++jO e.subject)):=k;refine⟨_,rfl,r,dx,_,rfl,h1,rfl,_,rfl,r,l,es,i,rfl,iE,_,rfl,?_⟩;refine eO (fun z=>?_) (fun z=>?_)
  .rw[Ff z]at k;exact⟨(by show 1<=sizeLine;decide),fun p hp=>k p _ hp (bj (aq.refl _) hp) aD⟩
  .obtain⟨z1,z2⟩:=z;obtain⟨n,rfl⟩:∃n:Nat,i=(n:Nat):=⟨i.toNat,by lia⟩;have hn:n<es.length:=by lia
   obtain⟨e,he⟩:∃e,es[n]? =some e:=⟨_,cV hn⟩;obtain⟨a,ha⟩:∃a,as[n]? =some a:=⟨_,cV (by rw[h3.1];exact hn)⟩;rw[Fg he]at k;have ok:=h4 e (jf he);obtain⟨de,qe⟩:=h3.2 n a e ha he;refine⟨_,rfl,r,CR,dx,_,_,rfl,h1,T.cls,T.nf _ (by simp),rfl,_,rfl,l,_,_,_,rfl,rfl,aH.of h2,bY (by rw[bU,ha];rfl),?_⟩;refine⟨_,rfl,r,CR,dx,_,_,rfl,h1,T.cls,T.nf _ (by simp),rfl,_,rfl,l,as,es,n,rfl,h2,h3,h5,hn,fun H1 s1=>?_⟩;refine⟨_,rfl,a,CE,de,_,_,rfl,s1 _ _ qe,TE.cls,TE.nf _ (by simp),rfl,_,rfl,a,CE,de,_,_,rfl,s1 _ _ qe,TE.cls,TE.nf _ (by simp),rfl,(by show 4<=sizeLine;decide),fun p hp=>?_⟩;have s2:aq H1 (upd H1 p (.lst [.int 0,.int (rC es n:Nat),.int (e.gap:Nat),.int (e.number:Nat)])):=bj (aq.refl _) hp;have fX:upd H1 p (.lst [.int 0,.int (rC es n:Nat),.int (e.gap:Nat),.int (e.number:Nat)]) p=some (.lst (cf [0,bS (rC es n),bS e.gap,bS e.number])):=aD;have bJ:=s1.trans s2;try dsimp only[b7,b9,cU,cb,bG,cP,dX,cE,b8]
   generalize upd H1 p (.lst [.int 0,.int (rC es n:Nat),.int (e.gap:Nat),.int (e.number:Nat)])=H2 at s2 fX bJ ⊢;have l1:=ok.k;have l2:=ok.s;refine⟨_,rfl,_,rfl,a,CE,de,_,_,rfl,bJ _ _ qe,TE.cls,TE.nf _ (by simp),rfl,e.kind,rfl,by lia,fun D3 H3 hD3 s3 e3=>?_⟩;refine wm (s3 _ _ fX) e3 (by rw[pW];simp;lia) fun p4 H4 hp4 s4 e4=>?_;have ja:=(bJ.trans s3).trans s4;refine⟨_,rfl,a,CE,de,_,_,rfl,ja _ _ qe,TE.cls,TE.nf _ (by simp),rfl,e.subject,rfl,by lia,fun D5 H5 CO s5 e5=>?_⟩;refine wm (s5 _ _ e4) e5 (by rw[cY,pW,pW];simp;lia) fun p6 H6 hp6 s6 e6=>?_;refine k p6 H6 ((ja.trans s5).free hp6) ((ja.trans s5).trans s6) ?_;rw[e6];simp
noncomputable abbrev NS:aW:=top 132
noncomputable abbrev ajK:List ah:=["run","index","text","pattern"]
theorem XQ:bE ajK ["run","index","text"] (aP NS):=bF
noncomputable def O9(CE CR:aa):Sp:=fun vs H Q Z=>∃(r l:aa)(es:List bg)(i:Int)(t:au),vs=[.ref r,.int i,.str (S t)]/\Rn CE CR H r l es/\ek t/\t.length<=100000/\jE H Q (yT ⟨es⟩ (.fitting i t))
theorem aly{f:aa}{fd:bu}(F:bt K "tell_matches" "tell_matches" NS f fd)(T:Ty K CR ["events"])(c1:bT mg "NO_SUCH_PLACE" (.int (-2)))(c2:bT mg "NOT_A_PATTERN" (.int (-5)))(M:Mt P w K mg base az 1 CR "has_event" ["self","index"] (vb CE CR))(F1:Fn P w K mg base az 4 "read_pattern" ["text"] (EX CP))(F2:Fn P w K mg base az 2 "fits_event" ["pattern","event"] (va CP CE))(F3:Fn P w K mg base az 1 "number_of_truth" ["truth"] EV):bh P w K mg base az 5 f fd ["run","index","text"] (O9 CE CR):=by
 refine F.ok XQ (fun vs H Q E h=>?_) (fun aJ A outer s H vs Q E hr h=>?_)
 .obtain⟨r,l,es,i,t,rfl,Z⟩:=h;rfl
 .obtain⟨r,l,es,i,t,rfl,cx,fb,hl,k⟩:=h;have iE:=cx;obtain⟨dx,as,h1,h2,h3,h4,h5⟩:=cx;have bM:bb 1 _:=hr.mono (by lia);have ck:bb 2 _:=hr.mono (by lia);refine⟨_,aw (bx (jD (f6 (kO M T.cls bM aY (pv 0) (ai (pv 1) aj)))) (aA (aI (cv (ai (bP c1 rfl) aj)))) bA) (aw (aZ (i:=3) XQ.nd rfl (aF rfl) (aU F1 hr rfl aY (ai (pv 2) aj))) (aw (bx (bq j4 (pv 3) cT (bp _)) (aA (aI (cv (ai (bP c2 rfl) aj)))) bA) (aA (aI (cv (ai bc (ai (aU F3 bM rfl aY (ai (aU F2 ck rfl aY (ai (pv 3) (ai (bZ fc (aN (pv 0) rfl) (pv 1) (fun Z Z=>rfl)) aj))) aj)) aj))))))),?_⟩;have k:jE H Q (lJ ⟨es⟩ i fun Z e=>match gb t with|none=>[-5]|some p=>[0,if pT p e then 1 else 0]):=k;refine⟨_,rfl,r,dx,_,rfl,h1,rfl,_,rfl,r,l,es,i,rfl,iE,_,rfl,?_⟩;refine eO (fun z=>?_) (fun z=>?_)
  .rw[Ff z]at k;exact⟨(by show 1<=sizeLine;decide),fun p hp=>k p _ hp (bj (aq.refl _) hp) aD⟩
  .obtain⟨z1,z2⟩:=z;obtain⟨n,rfl⟩:∃n:Nat,i=(n:Nat):=⟨i.toNat,by lia⟩;have hn:n<es.length:=by lia
   obtain⟨e,he⟩:∃e,es[n]? =some e:=⟨_,cV hn⟩;obtain⟨a,ha⟩:∃a,as[n]? =some a:=⟨_,cV (by rw[h3.1];exact hn)⟩;rw[Fg he]at k;have dj:=h3.2 n a e ha he;refine⟨_,rfl,t,rfl,fb,hl,fun q H1 s1=>?_,fun p q x H1 hx s1 iW=>?_⟩
   .rw[q]at k;exact⟨_,rfl,rfl,_,rfl,bD (fun Z=>⟨(by show 1<=sizeLine;decide),fun p hp=>k p _ (s1.free hp) (bj s1 hp) aD⟩) (fun z=>absurd rfl z)⟩
   .rw[q]at k;refine⟨_,rfl,rfl,_,rfl,bD (fun z=>nomatch z) (fun Z=>?_)⟩;refine⟨_,rfl,_,rfl,r,CR,dx,_,_,rfl,s1 _ _ h1,T.cls,T.nf _ (by simp),rfl,_,rfl,l,_,_,_,rfl,rfl,aH.of (s1 _ _ h2),bY (by rw[bU,ha];rfl),x,a,p,e,rfl,iW,dj.same s1,Wx q,_,rfl,(by show 2<=sizeLine;decide),fun p2 fX=>?_⟩;exact k p2 _ (s1.free fX) (bj s1 fX) aD
noncomputable abbrev NP:aW:=top 134
theorem anZ:bE ["wish"] ["wish"] (aP NP):=bF
structure rE(CP CW:aa)(H:Hp)(a:aa)(u:bN):Prop where
 ws:Ws CP CW H a u
 ok:fJ u
 num:da u
 nodes:u.nodes<=30
 pats:(cG u).length<=5
noncomputable def O6(CP CW:aa):Sp:=fun vs H Q Z=>∃(a:aa)(u:bN),vs=[.ref a]/\rE CP CW H a u/\jE H Q [0,bS u.nodes,bS (cG u).length]
theorem alv{f:aa}{fd:bu}(F:bt K "tell_counts" "tell_counts" NP f fd)(B:Bt mg)(T:Ty K CW nA)(F1:Fn P w K mg base az 3 "patterns_of" ["wish"] (sP CP CW)):bh P w K mg base az 4 f fd ["wish"] (O6 CP CW):=by
 refine F.ok anZ (fun vs H Q E h=>?_) (fun aJ A outer s H vs Q E hr h=>?_)
 .obtain⟨a,u,rfl,Z⟩:=h;rfl
 .obtain⟨a,u,rfl,hw,k⟩:=h;refine⟨_,aA (aI (cv (ai bc (ai (aN (pv 0) rfl) (ai (cK fR (by rfl) B.len dv (ai (aU F1 hr rfl aY (ai (pv 0) aj)) aj)) aj))))),?_⟩;have mM:=hw.ws;cases mM with
  | @mk _ dx l _ nW as g1 g2 g3 g4 g5=>
  have:=hw.nodes;refine⟨_,rfl,a,CW,dx,_,_,rfl,g1,T.cls,T.nf _ (by simp),rfl,_,rfl,a,u,rfl,hw.ws,hw.ok,by lia,fun lq mF H1 uy s1 nI jX=>?_⟩;refine⟨lq,_,rfl,.inl (aH.of nI),(by show 3<=sizeLine;decide),fun p hp=>?_⟩;refine k p _ (s1.free hp) (bj s1 hp) ?_;rw[aD,bC,jX.1];rfl
noncomputable abbrev NR:aW:=top 135
noncomputable abbrev ajJ:List ah:=["run","index","text","truths"]
theorem XO:bE ajJ ["run","index","text"] (aP NR):=bF
noncomputable def Pl(CF:aa)(H:Hp)(Q:VK)(E:XK)(t:au)(f:bN->List Int):Prop:=(∀u,lG t=.ok u->jE H Q (f u))/\∀f,lG t=.error f->Rz CF E f (aq H)
noncomputable def O8(CE CR CF:aa):Sp:=fun vs H Q E=>∃(r l:aa)(es:List bg)(i:Int)(t:au),vs=[.ref r,.int i,.str (S t)]/\Rn CE CR H r l es/\ek t/\t.length<=100000/\(¬(0<=i/\i<=(es.length:Nat))->jE H Q [-2])/\((0<=i/\i<=(es.length:Nat))->Pl CF H Q E t fun u=>[0,if B1 es u i.toNat then 1 else 0])
theorem alx{f:aa}{fd:bu}(F:bt K "tell_holds" "tell_holds" NR f fd)(T:Ty K CR ["events"])(c1:bT mg "NO_SUCH_PLACE" (.int (-2)))(M:Mt P w K mg base az 1 CR "has_place" ["self","index"] (OL CE CR))(F1:Fn P w K mg base (XE P w) 152 "read_wish" ["text"] (xK CP CW CF))(F2:Fn P w K mg base az 34 "truths_of" ["wish","events"] (xM 30 CE CP CW))(F3:Fn P w K mg base az 1 "number_of_truth" ["truth"] EV):bh P w K mg base (XE P w) 153 f fd ["run","index","text"] (O8 CE CR CF):=by
 refine fL F XO (fun vs H Q E h=>?_) (fun aJ A outer s H vs Q E hr h=>?_)
 .obtain⟨r,l,es,i,t,rfl,Z⟩:=h;rfl
 .obtain⟨r,l,es,i,t,rfl,cx,fb,hl,kN,kY⟩:=h;have iE:=cx;obtain⟨dx,as,h1,h2,h3,h4,h5⟩:=cx;have bM:bb 1 _:=hr.mono (by lia);have ahb:bb 34 _:=hr.mono (by lia);refine⟨_,aw (bx (jD (f6 (kO M T.cls bM aY (pv 0) (ai (pv 1) aj)))) (aA (aI (cv (ai (bP c1 rfl) aj)))) bA) (aw (aZ (i:=3) XO.nd rfl (aF rfl) (aU F2 ahb rfl aY (ai (aU F1 hr rfl cO (ai (pv 2) aj)) (ai (aN (pv 0) rfl) aj)))) (aA (aI (cv (ai bc (ai (aU F3 bM rfl aY (ai (bZ fc (pv 3) (pv 1) (fun Z Z=>rfl)) aj)) aj)))))),?_⟩;refine⟨_,rfl,r,dx,_,rfl,h1,rfl,_,rfl,r,l,es,i,rfl,iE,_,rfl,?_⟩;refine eO (fun z=>?_) (fun z=>?_)
  .exact⟨(by show 1<=sizeLine;decide),fun p hp=>kN z p _ hp (bj (aq.refl _) hp) aD⟩
  .obtain⟨kS,kE⟩:=kY z;obtain⟨z1,z2⟩:=z;obtain⟨n,rfl⟩:∃n:Nat,i=(n:Nat):=⟨i.toNat,by lia⟩;refine⟨_,rfl,t,rfl,fb,hl,fun u eu gB j1 b0 a H1 s1 hw=>?_,kE⟩;have kS:=kS u eu;refine⟨_,rfl,r,CR,dx,_,_,rfl,s1 _ _ h1,T.cls,T.nf _ (by simp),rfl,a,l,u,as,es,rfl,hw,gB,j1,s1 _ _ h2,h3.same s1,h5,fun lt H2 bI s2 et=>?_⟩;have zP:=fM es u;obtain⟨b,hb⟩:∃b,(dg es u)[n]? =some b:=⟨_,cV (by lia)⟩;refine⟨_,rfl,_,rfl,lt,_,_,_,rfl,rfl,aH.of et,bY (oU hb),b,rfl,(by show 2<=sizeLine;decide),fun p hp=>?_⟩;have bJ:=s1.trans s2;refine kS p _ (bJ.free hp) (bj bJ hp) ?_;rw[aD];unfold B1;dsimp only;rw[show((n:Nat):Int).toNat=n from rfl,x9,hb];rfl
theorem Qb(l:List Bool):nt l=(cW l.length).filter fun i=>l.getD i false:=by
 have e:l.zipIdx=(cW l.length).map fun i=>(l.getD i false,i):=by
  refine Bc fun i=>?_;rw[List.getElem?_zipIdx,bU];by_cases h:i<l.length
  .rw[tD h,cV h];simp[x9,cV h]
  .rw[ow (by lia),ow (by rw[Bf];lia)];rfl
 unfold nt;rw[e,List.filter_map,gm];have e2:((fun x:Bool×Nat=>x.2)∘fun i=>(l.getD i false,i))=id:=rfl;rw[e2,List.map_id];rfl
theorem xp{u:bN}(h:fJ u):∀p∈cG u,fO p:=fun p hp=>h p ((Md p _).mp hp)
theorem Fd(l:List Bool):(nt l).length<=l.length:=by
 rw[Qb];have:=FQ (fun i=>l.getD i false) (cW l.length);simpa using this
noncomputable abbrev Eu:aW:=top 136
noncomputable abbrev VU:List ah:=["run","wish","truths","place"]
theorem EF:bE VU ["run","wish"] (aP Eu):=bF
noncomputable def Pa(CE CR CP CW:aa):Sp:=fun vs H Q Z=>∃(r l a:aa)(es:List bg)(u:bN),vs=[.ref r,.ref a]/\Rn CE CR H r l es/\rE CP CW H a u/\jE H Q (0::(nt (dg es u)).map bS)
theorem alz{f:aa}{fd:bu}(F:bt K "tell_places" "tell_places" Eu f fd)(B:Bt mg)(T:Ty K CR ["events"])(F2:Fn P w K mg base az 34 "truths_of" ["wish","events"] (xM 30 CE CP CW)):bh P w K mg base az 35 f fd ["run","wish"] (Pa CE CR CP CW):=by
 refine F.ok EF (fun vs H Q E h=>?_) (fun aJ A outer s H vs Q E hr h=>?_)
 .obtain⟨r,l,a,es,u,rfl,Z⟩:=h;rfl
 .obtain⟨r,l,a,es,u,rfl,⟨dx,as,h1,h2,h3,h4,h5⟩,hw,k⟩:=h;refine⟨_,aw (aZ (i:=2) EF.nd rfl (oA rfl) (aU F2 hr rfl aY (ai (pv 1) (ai (aN (pv 0) rfl) aj)))) (aA (aI (dH pd (cv (ai bc aj)) (fq (own:=[("place",3)]) (tt:=cb (bG (n9 K) (aS 2) (aS 3))) (te:=aS 3) rfl EF.nd (Mv rfl B.range (ai (cK fR (by rfl) B.len dv (ai (pv 2) aj)) aj)) (eN (by show ez VU (aP Eu) _ _=true;decide+kernel)) (fun s H C cl fp=>c8 (i:=3) EF.nd rfl (aF rfl)) (fun s H C cl fp=>MD (f6 (bZ fc (pv 2) (pv 3) (fun Z Z=>rfl)))) (fun s H C cl fp=>pv 3))))),?_⟩;have zP:=fM es u;refine⟨_,rfl,_,rfl,r,CR,dx,_,_,rfl,h1,T.cls,T.nf _ (by simp),rfl,a,l,u,as,es,rfl,hw.ws,hw.ok,hw.nodes,h2,h3,h5,fun lt H1 bI s1 et=>?_⟩;refine⟨(by show 1<=sizeLine;decide),fun p hp=>?_⟩;have s2:aq H1 (upd H1 p (.lst [.int 0])):=bj (aq.refl _) hp;have fX:upd H1 p (.lst [.int 0]) p=some (.lst (cf [0])):=aD;generalize upd H1 p (.lst [.int 0])=H2 at s2 fX ⊢;have wz:=s2 _ _ et;have bJ:=s1.trans s2;refine Vy (n:=(dg es u).length) (f:=fun i=>(dg es u).getD i false) (g:=fun i=>V.int ((i:Nat):Int)) (by lia) (fun R h=>⟨_,rfl,lt,_,rfl,.inl (aH.of wz),by rw[bC];exact h _ (aq.refl _)⟩) (fun i H3 R hi s3 hR=>?_) (fun i H3 R hi s3 hR=>⟨_,rfl,hR _ (aq.refl _)⟩) (fun D H3 hD s3 e3=>?_)
  .obtain⟨b,hb⟩:∃b,(dg es u)[i]? =some b:=⟨_,cV hi⟩;refine⟨_,rfl,_,rfl,lt,_,_,_,rfl,rfl,aH.of (s3 _ _ wz),bY (oU hb),_,rfl,?_⟩;have:=hR _ (aq.refl _);rw[x9,hb]at this;exact this
  .have e4:((cW (dg es u).length).filter fun i=>(dg es u).getD i false).map (fun i=>V.int ((i:Nat):Int))=cf ((nt (dg es u)).map bS):=by
    rw[Qb];unfold cf;rw[gm];rfl
   rw[e4]at e3;have ig:=Fd (dg es u);refine wm (s3 _ _ fX) e3 (by rw[bC];simp;lia) fun q H4 hq s4 e5=>?_;exact k q H4 ((bJ.trans s3).free hq) ((bJ.trans s3).trans s4) e5
noncomputable abbrev NT:aW:=top 137
noncomputable abbrev ajL:List ah:=["wish","patterns","told","pattern"]
theorem EG:bE ajL ["wish"] (aP NT):=bF
noncomputable def Pc(CP CW:aa):Sp:=fun vs H Q Z=>∃(a:aa)(u:bN),vs=[.ref a]/\rE CP CW H a u/\jE H Q (0::bS (cG u).length::(cG u).flatMap fun p=>jO (gf p))
theorem alA{f:aa}{fd:bu}(F:bt K "tell_patterns" "tell_patterns" NT f fd)(B:Bt mg)(F1:Fn P w K mg base az 3 "patterns_of" ["wish"] (sP CP CW))(F2:Fn P w K mg base az 2 "with_length" ["text"] AW)(F3:Fn P w K mg base az 2 "pattern_text" ["pattern"] (xI CP)):bh P w K mg base az 4 f fd ["wish"] (Pc CP CW):=by
 refine F.ok EG (fun vs H Q E h=>?_) (fun aJ A outer s H vs Q E hr h=>?_)
 .obtain⟨a,u,rfl,Z⟩:=h;rfl
 .obtain⟨a,u,rfl,hw,k⟩:=h;have ck:bb 2 _:=hr.mono (by lia);refine⟨_,aw (aZ (i:=1) EG.nd rfl (aF rfl) (aU F1 hr rfl aY (ai (pv 0) aj))) (aw (aZ (i:=2) EG.nd rfl (aF rfl) (cv (ai bc (ai (cK fR (by rfl) B.len dv (ai (pv 1) aj)) aj)))) (aw (mT kg rfl (dP (pv 1)) (c8 (i:=3) EG.nd rfl (aF rfl)) (aA (ej (iG g9 Bs Gm Dv (pv 2) (ai (aU F2 ck rfl aY (ai (aU F3 ck rfl aY (ai (pv 3) aj)) aj)) aj))))) (aA (aI (pv 2))))),?_⟩;have j1:=hw.nodes;have h5:=hw.pats;have dG:=xp hw.ok;refine⟨_,rfl,a,u,rfl,hw.ws,hw.ok,by lia,fun lq mF H1 uy s1 nI jX=>?_⟩;generalize UR:cG u=ps at jX h5 dG k;have dO:=jX.1;refine⟨_,rfl,lq,_,rfl,.inl (aH.of nI),(by show 2<=sizeLine;decide),fun p hp=>?_⟩;rw[bC,dO];have lV:H p=none:=s1.free hp;have s2:aq H1 (upd H1 p (.lst [.int 0,.int (ps.length:Nat)])):=bj (aq.refl _) hp;have nL:upd H1 p (.lst [.int 0,.int (ps.length:Nat)]) p=some (.lst (cf [0,bS ps.length])):=aD;try dsimp only[b7,b9,cU,cb,bG,cP,dX,cE,b8]
  generalize upd H1 p (.lst [.int 0,.int (ps.length:Nat)])=H2 at s2 nL ⊢;refine⟨_,rfl,lq,rfl,⟨_,aH.of (s2 _ _ nI)⟩,?_⟩;refine oQ (K:=K) (a:=lq) (xs:=mF.map V.ref) (fun i σ H'=>∃v3,σ=[some (.ref a),some (.ref lq),some (.ref p),v3]/\aq H1 H'/\H' p=some (.lst (cf ([0,bS ps.length]++(ps.take i).flatMap fun q=>jO (gf q))))) ⟨none,rfl,s2,by simpa using nL⟩ (fun i σ H' Z q=>?_) (fun i x σ H' hx q=>?_) (fun σ H' q=>?_)
  .obtain⟨v3,Z,sm,Z⟩:=q;exact aH.of (sm _ _ nI)
  .obtain⟨v3,rfl,sm,iW⟩:=q;obtain⟨b,y,rfl,hy,r⟩:=wj jX hx;have hm:=jf hy;have Lg:=uP (dG y hm);have et:ps.take (i+1)=ps.take i++[y]:=by rw[me,hy];rfl
   have hi:=(dQ.mp hy).1;refine⟨_,rfl,.inl ⟨rfl,_,aH.of iW⟩,_,rfl,b,y,rfl,Pt.same r sm,dG y hm,gf y,rfl,by lia,fun D H3 hD s3 e3=>?_⟩;have Ky:((ps.take i).flatMap fun q=>jO (gf q)).length<=62*5:=by
    have h1:=xO (fun q=>(jO (gf q)).length) 62 (ps.take i) fun q hq=>by
     have:=uP (dG q (QK hq));rw[pW];lia
    have h2:=ZC i ps;rw[QH];have h3:(ps.take i).length*62<=5*62:=Bl _ (by lia);lia
   refine⟨p,D,_,_,rfl,rfl,s3 _ _ iW,e3,?_,?_⟩
   .rw[jy,jy,pW,cY];exact big _ (by simp only[cy,je];lia)
   .refine⟨_,rfl,fun b' o e=>?_,?_⟩
    .rw[ba (cC e hp)];exact s3 _ _ (sm _ _ e)
    .rw[aD,et,Bd,<-wX];simp
  .obtain⟨v3,rfl,sm,iW⟩:=q;rw[bC,dO,jK]at iW;exact⟨_,rfl,k p H' lV (s1.trans sm) iW⟩
noncomputable abbrev NU:aW:=top 139
theorem an0:bE ["run","index","text"] ["run","index","text"] (aP NU):=bF
noncomputable def Pd(CE CR CF:aa):Sp:=fun vs H Q E=>∃(r l:aa)(es:List bg)(i:Int)(t:au),vs=[.ref r,.int i,.str (S t)]/\Rn CE CR H r l es/\ek t/\t.length<=100000/\(¬(0<=i/\i<(es.length:Nat))->jE H Q [-2])/\∀n e,i=(n:Nat)->es[n]? =some e->Pl CF H Q E t fun u=>[0,bS (signNumber (cw (cG u) e))]
theorem alB{f:aa}{fd:bu}(F:bt K "tell_sign" "tell_sign" NU f fd)(T:Ty K CR ["events"])(c1:bT mg "NO_SUCH_PLACE" (.int (-2)))(M:Mt P w K mg base az 1 CR "has_event" ["self","index"] (vb CE CR))(F1:Fn P w K mg base (XE P w) 152 "read_wish" ["text"] (xK CP CW CF))(F2:Fn P w K mg base az 3 "patterns_of" ["wish"] (sP CP CW))(F3:Fn P w K mg base az 3 "sign_of" ["patterns","event"] (AV CP CE)):bh P w K mg base (XE P w) 153 f fd ["run","index","text"] (Pd CE CR CF):=by
 refine fL F an0 (fun vs H Q E h=>?_) (fun aJ A outer s H vs Q E hr h=>?_)
 .obtain⟨r,l,es,i,t,rfl,Z⟩:=h;rfl
 .obtain⟨r,l,es,i,t,rfl,cx,fb,hl,kN,kY⟩:=h;have iE:=cx;obtain⟨dx,as,h1,h2,h3,h4,h5⟩:=cx;have bM:bb 1 _:=hr.mono (by lia);have dU:bb 3 _:=hr.mono (by lia);refine⟨_,aw (bx (jD (f6 (kO M T.cls bM aY (pv 0) (ai (pv 1) aj)))) (aA (aI (cv (ai (bP c1 rfl) aj)))) bA) (aA (aI (cv (ai bc (ai (aU F3 dU rfl aY (ai (aU F2 dU rfl aY (ai (aU F1 hr rfl cO (ai (pv 2) aj)) aj)) (ai (bZ fc (aN (pv 0) rfl) (pv 1) (fun Z Z=>rfl)) aj))) aj))))),?_⟩;refine⟨_,rfl,r,dx,_,rfl,h1,rfl,_,rfl,r,l,es,i,rfl,iE,_,rfl,?_⟩;refine eO (fun z=>?_) (fun z=>?_)
  .exact⟨(by show 1<=sizeLine;decide),fun p hp=>kN z p _ hp (bj (aq.refl _) hp) aD⟩
  .obtain⟨z1,z2⟩:=z;obtain⟨n,rfl⟩:∃n:Nat,i=(n:Nat):=⟨i.toNat,by lia⟩;have hn:n<es.length:=by lia
   obtain⟨e,he⟩:∃e,es[n]? =some e:=⟨_,cV hn⟩;obtain⟨a,ha⟩:∃a,as[n]? =some a:=⟨_,cV (by rw[h3.1];exact hn)⟩;have dj:=h3.2 n a e ha he;obtain⟨kS,kE⟩:=kY n e rfl he;refine⟨_,rfl,t,rfl,fb,hl,fun u eu gB j1 b0 b H1 s1 hw=>?_,kE⟩;have kS:=kS u eu;refine⟨b,u,rfl,hw,gB,by lia,fun lq mF H2 uy s2 nI jX=>?_⟩;have bJ:=s1.trans s2;refine⟨_,rfl,r,CR,dx,_,_,rfl,bJ _ _ h1,T.cls,T.nf _ (by simp),rfl,_,rfl,l,_,_,_,rfl,rfl,aH.of (bJ _ _ h2),bY (by rw[bU,ha];rfl),lq,a,mF,cG u,e,rfl,nI,jX,xp gB,by lia,dj.same bJ,fun H3 s3=>?_⟩;refine⟨(by show 2<=sizeLine;decide),fun p hp=>?_⟩;have uV:=bJ.trans s3;exact kS p _ (uV.free hp) (bj uV hp) aD
noncomputable abbrev Az:aW:=top 140
noncomputable abbrev LY:List ah:=["run","index","text","patterns","signs","event","other"]
theorem u6:bE LY ["run","index","text"] (aP Az):=bF
noncomputable def O5(CE CR CF:aa):Sp:=fun vs H Q E=>∃(r l:aa)(es:List bg)(i:Int)(t:au),vs=[.ref r,.int i,.str (S t)]/\Rn CE CR H r l es/\ek t/\t.length<=100000/\(¬(0<=i/\i<(es.length:Nat))->jE H Q [-2])/\∀n e,i=(n:Nat)->es[n]? =some e->Pl CF H Q E t fun u=>0::(nt (es.map fun d=>cw (cG u) d==cw (cG u) e)).map bS
theorem alu{f:aa}{fd:bu}(F:bt K "tell_alike" "tell_alike" Az f fd)(B:Bt mg)(T:Ty K CR ["events"])(c1:bT mg "NO_SUCH_PLACE" (.int (-2)))(M:Mt P w K mg base az 1 CR "has_event" ["self","index"] (vb CE CR))(F1:Fn P w K mg base (XE P w) 152 "read_wish" ["text"] (xK CP CW CF))(F2:Fn P w K mg base az 3 "patterns_of" ["wish"] (sP CP CW))(F3:Fn P w K mg base az 3 "sign_of" ["patterns","event"] (AV CP CE)):bh P w K mg base (XE P w) 153 f fd ["run","index","text"] (O5 CE CR CF):=by
 refine fL F u6 (fun vs H Q E h=>?_) (fun aJ A outer s H vs Q E hr h=>?_)
 .obtain⟨r,l,es,i,t,rfl,Z⟩:=h;rfl
 .obtain⟨r,l,es,i,t,rfl,cx,fb,hl,kN,kY⟩:=h;have iE:=cx;obtain⟨dx,as,h1,h2,h3,h4,h5⟩:=cx;have bM:bb 1 _:=hr.mono (by lia);have dU:bb 3 _:=hr.mono (by lia);refine⟨_,aw (bx (jD (f6 (kO M T.cls bM aY (pv 0) (ai (pv 1) aj)))) (aA (aI (cv (ai (bP c1 rfl) aj)))) bA) (aw (aZ (i:=3) u6.nd rfl (oA rfl) (aU F2 dU rfl aY (ai (aU F1 hr rfl cO (ai (pv 2) aj)) aj))) (aw (aZ (i:=4) u6.nd rfl (oA rfl) (fq (own:=[("event",5)]) (te:=g0 (AV CP CE) E0 (bQ (aS 3) (bQ (aS 5) dk))) rfl u6.nd (dP (aN (pv 0) rfl)) (eN (by show ez LY (aP Az) _ _=true;decide+kernel)) (fun s H C cl fp=>c8 (i:=5) u6.nd rfl (aF rfl)) (fun s H C cl fp=>ft) (fun s H C cl fp=>aU F3 dU rfl aY (ai (pv 3) (ai (pv 5) aj))))) (aA (aI (dH pd (cv (ai bc aj)) (fq (own:=[("other",6)]) (tt:=cb (bG DY (bG (n9 K) (aS 4) (aS 6)) (bG (n9 K) (aS 4) (aS 1)))) (te:=aS 6) rfl u6.nd (Mv rfl B.range (ai (cK fR (by rfl) B.len dv (ai (pv 4) aj)) aj)) (eN (by show ez LY (aP Az) _ _=true;decide+kernel)) (fun s H C cl fp=>c8 (i:=6) u6.nd rfl (aF rfl)) (fun s H C cl fp=>MD (bq cg (bZ fc (pv 4) (pv 6) (fun Z Z=>rfl)) (bZ fc (pv 4) (pv 1) (fun Z Z=>rfl)) (bp _))) (fun s H C cl fp=>pv 6))))))),?_⟩;refine⟨_,rfl,r,dx,_,rfl,h1,rfl,_,rfl,r,l,es,i,rfl,iE,_,rfl,?_⟩;refine eO (fun z=>?_) (fun z=>?_)
  .exact⟨(by show 1<=sizeLine;decide),fun p hp=>kN z p _ hp (bj (aq.refl _) hp) aD⟩
  .obtain⟨z1,z2⟩:=z;obtain⟨n,rfl⟩:∃n:Nat,i=(n:Nat):=⟨i.toNat,by lia⟩;have hn:n<es.length:=by lia
   obtain⟨e,he⟩:∃e,es[n]? =some e:=⟨_,cV hn⟩;obtain⟨kS,kE⟩:=kY n e rfl he;refine⟨_,rfl,t,rfl,fb,hl,fun u eu gB j1 b0 b H1 s1 hw=>?_,kE⟩;have kS:=kS u eu;refine⟨b,u,rfl,hw,gB,by lia,fun lq mF H2 uy s2 nI jX=>?_⟩;have bJ:=s1.trans s2;have dG:=xp gB;dsimp only at kS;generalize cG u=ps at jX kS dG b0;have eA:=h3.1;dsimp only[b7,b9,cE];refine jB (xs:=as.map V.ref) (ys:=cf (es.map fun d=>bS (signNumber (cw ps d)))) (dN _ (by rw[bC];lia)) (by simp[jy,eA]) (fun R h=>⟨_,rfl,r,CR,dx,_,_,rfl,bJ _ _ h1,T.cls,T.nf _ (by simp),rfl,h l _ (aq.refl _) (aH.of (bJ _ _ h2))⟩) (fun j x y H3 R e1 e2 s3 hR=>?_) (fun D H3 hD s3 e3=>?_)
   .unfold cf at e2;rw[bU]at e1;rw[bU,bU]at e2;cases q3:as[j]? with
    |none=>rw[q3]at e1;cases e1
    |some a=>
     cases q4:es[j]? with
     |none=>rw[q4]at e2;cases e2
     |some d=>
      rw[q3]at e1;rw[q4]at e2;cases e1;cases e2;exact⟨_,rfl,_,rfl,lq,a,mF,ps,d,rfl,s3 _ _ nI,jX.mono (fun Z Z Z q=>Pt.same q s3),dG,by lia,((h3.2 j a d q3 q4).same bJ).same s3,fun H4 s4=>hR _ s4⟩
   have uV:=bJ.trans s3;refine⟨(by show 1<=sizeLine;decide),fun p hp=>?_⟩;have s4:aq H3 (upd H3 p (.lst [.int 0])):=bj (aq.refl _) hp;have fX:upd H3 p (.lst [.int 0]) p=some (.lst (cf [0])):=aD;generalize upd H3 p (.lst [.int 0])=H4 at s4 fX ⊢;have wz:=s4 _ _ e3;have ja:=uV.trans s4;have gi:∀{j:Nat}{d:bg},es[j]? =some d->(cf (es.map fun d=>bS (signNumber (cw ps d))))[j]? =some (V.int (signNumber (cw ps d):Nat)):=fun h=>by
    unfold cf;rw[bU,bU,h];rfl
   refine Vy (n:=es.length) (f:=fun i=>(es.map fun d=>cw ps d==cw ps e).getD i false) (g:=fun i=>V.int ((i:Nat):Int)) (by lia) (fun R h=>⟨_,rfl,D,_,rfl,.inl (aH.of wz),by rw[jy,bC];exact h _ (aq.refl _)⟩) (fun j H5 R hj s5 hR=>?_) (fun j H5 R hj s5 hR=>⟨_,rfl,hR _ (aq.refl _)⟩) (fun D2 H5 Ke s5 e5=>?_)
   .obtain⟨d,hd⟩:∃d,es[j]? =some d:=⟨_,cV hj⟩;refine⟨_,rfl,_,rfl,D,_,_,_,rfl,rfl,aH.of (s5 _ _ wz),bY (gi hd),_,rfl,_,rfl,D,_,_,_,rfl,rfl,aH.of (s5 _ _ wz),bY (gi he),rfl,_,rfl,?_⟩;have:=hR _ (aq.refl _);rw[x9,bU,hd]at this;have eb:decide (V.int ((signNumber (cw ps d):Nat):Int)=V.int ((signNumber (cw ps e):Nat):Int))=(cw ps d==cw ps e):=by
     rw[gJ,decide_eq_true_eq,beq_iff_eq];constructor
     .intro q;exact Ou (by rw[EK,EK]) (by have:=V.int.inj q;lia)
     .intro q;rw[q]
    rw[eb];exact this
   .have e4:((cW es.length).filter fun i=>(es.map fun d=>cw ps d==cw ps e).getD i false).map (fun i=>V.int ((i:Nat):Int))=cf ((nt (es.map fun d=>cw ps d==cw ps e)).map bS):=by
     rw[Qb,bC];unfold cf;rw[gm];rfl
    rw[e4]at e5;have ig:=Fd (es.map fun d=>cw ps d==cw ps e);rw[bC]at ig;refine wm (s5 _ _ fX) e5 (by rw[bC];simp;lia) fun q H6 hq s6 e6=>?_;exact kS q H6 ((ja.trans s5).free hq) ((ja.trans s5).trans s6) e6
open Vatrca (signNumber samples)
theorem afs(l:List au):(B0 l).length=1:=by
 unfold B0;cases e:((cW 26).map fun i=>([jN (97+i)]:au)).find? fun t=> !l.contains t with
 |none=>rfl
 |some t=>
  obtain⟨i,Z,rfl⟩:=dI.mp (List.mem_of_find?_eq_some e);rfl
theorem YX{l:List au}(h:∀t∈l,t.length<=8):∀t∈mE l,t.length<=8:=fun t ht=>by
 unfold mE at ht;rcases jJ.mp ht with ht|ht
 .exact h t ((Md t l).mp ht)
 .rw[eY.mp ht,afs];lia
theorem MF(n x:Nat):∀l:List Nat,x∈mD n l↔x=n\/x∈l
 |[]=>by simp[mD]
 |m::r=>by
  unfold mD;by_cases h1:n=m
  .rw[if_pos h1];subst h1;simp
  .rw[if_neg h1];by_cases h2:n<m
   .rw[if_pos h2];simp
   .rw[if_neg h2];simp only[bX];rw[MF n x r];constructor
    .rintro(h|h|h)
     .exact .inr (.inl h)
     .exact .inl h
     .exact .inr (.inr h)
    .rintro(h|h|h)
     .exact .inr (.inl h)
     .exact .inl h
     .exact .inr (.inr h)
theorem W2(x:Nat):∀(l s:List Nat),x∈l.foldl (fun s n=>mD n s) s↔x∈l\/x∈s
 |[],s=>by simp
 |n::r,s=>by
  rw[vt,W2 x r,MF];simp only[bX];constructor
  .rintro(h|h|h)
   .exact .inl (.inr h)
   .exact .inl (.inl h)
   .exact .inr h
  .rintro((h|h)|h)
   .exact .inr (.inl h)
   .exact .inl h
   .exact .inr (.inr h)
theorem PZ(l:List eF)(x:Nat):x∈js l↔(x<=999/\∃r∈l,x=r.low\/x=r.high+1)\/x=0:=by
 unfold js;rw[W2,QJ,FX];simp only[decide_eq_true_eq,bX,jg,or_false];constructor
 .rintro(⟨⟨r,hr,h⟩,h2⟩|h)
  .exact .inl ⟨h2,r,hr,h⟩
  .exact .inr h
 .rintro(⟨h2,r,hr,h⟩|h)
  .exact .inl ⟨⟨r,hr,h⟩,h2⟩
  .exact .inr h
theorem WY(n:Nat):∀l:List Nat,(mD n l).length<=l.length+1
 |[]=>by simp[mD]
 |m::r=>by
  unfold mD;have:=WY n r;split
  .simp
  .split
   .simp
   .simp;lia
theorem W0:∀(l s:List Nat),(l.foldl (fun s n=>mD n s) s).length<=s.length+l.length
 |[],s=>by simp
 |n::r,s=>by
  rw[vt,cy];have:=W0 r (mD n s);have:=WY n s;lia
theorem TX:∀l:List eF,(l.flatMap fun r=>[r.low,r.high+1]).length=2*l.length
 |[]=>rfl
 |r::l=>by rw[FJ,cY,TX l,cy,cy,cy,je];lia
theorem api(l:List eF):(js l).length<=1+2*l.length:=by
 unfold js;have h1:=W0 ((l.flatMap fun r=>[r.low,r.high+1]).filter fun n=>decide (n<=rB)) [0];have h2:=FQ (fun n=>decide (n<=rB)) (l.flatMap fun r=>[r.low,r.high+1]);have h3:=TX l;have h4:([0]:List Nat).length=1:=rfl;exact fA h1 (by lia)
theorem anx{ps:List cM}(h:∀p∈ps,fO p):∀e∈B3 ps,jH e:=fun e he=>by
 unfold B3 at he;simp only[FX,dI]at he;obtain⟨k,hk,s,hs,n,hn,g,hg,rfl⟩:=he;refine⟨YX (fun t ht=>?_) k hk,YX (fun t ht=>?_) s hs,?_,?_⟩
 .obtain⟨p,hp,e⟩:=tG.mp ht;exact(j3 ((h p hp).k t e)).1
 .obtain⟨p,hp,e⟩:=tG.mp ht;exact(j3 ((h p hp).s t e)).1
 .rcases(PZ _ _).mp hn with q|q
  .exact q.1
  .show n<=999;lia
 .rcases(PZ _ _).mp hg with q|q
  .exact q.1
  .show g<=999;lia
theorem Yh(ps:List cM):∀(es:List bg)(l:List (iz×bg)),∀x∈es.foldl (jc ps) l,x∈l\/x.2∈es
 |[],l,x,hx=> .inl hx
 |e::r,l,x,hx=>by
  rw[vt]at hx;rcases Yh ps r _ x hx with h|h
  .unfold jc at h;split at h
   .exact .inl h
   .rcases jJ.mp h with h|h
    .exact .inl h
    .rw[eY.mp h];exact .inr (by simp)
  .exact .inr (by simp[h])
theorem X4{ps:List cM}(h:∀p∈ps,fO p):∀x∈lH ps,jH x.2:=fun x hx=>by
 rcases Yh ps (B3 ps) [] x hx with q|q
 .cases q
 .exact anx h _ q
theorem afn{d:aa}{o:aM}{kvs:List (Key×V)}{g:TG}{tb:TS}{D:L2.Ends}{σ:L2.St}{H:Hp}(Pv:Nat->L2.St->Hp->Prop)(h0:Pv 0 σ H)(hl:∀i σ H,Pv i σ H->H d=some (.cS o (.dK kvs)))(hs:∀i k v σ H,kvs[i]? =some (k,v)->Pv i σ H->g (kV k) σ H fun σ2 H2=>tb {D with nx:=Pv (i+1),ct:=Pv (i+1),bk:=D.nx} σ2 H2)(hd:∀σ H,Pv kvs.length σ H->D.nx σ H):∃W:Nat->Nat->L2.St->Hp->Prop,(∃m,W 0 m σ H)/\∀i m σ H,W i m σ H->((x6 d o kvs).stop i H/\D.nx σ H)\/((x6 d o kvs).go i H/\∃N:L2.St->Hp->Prop,(∀σ' H',N σ' H'->∃m',m'<m/\W (i+1) m' σ' H')/\∀x H',(x6 d o kvs).tj i H x H'->g x σ H' fun σ2 H2=>tb {D with nx:=N,ct:=N,bk:=D.nx} σ2 H2):=by
 refine⟨fun i m σ H=>m=kvs.length-i/\i<=kvs.length/\Pv i σ H,⟨kvs.length,by simp,dJ _,h0⟩,?_⟩;rintro i m σ H ⟨rfl,hi,p⟩;have q:=hl i σ H p;by_cases bI:i<kvs.length
 .refine .inr ⟨⟨q,bI⟩,Pv (i+1),fun σ' H' p'=>⟨kvs.length-(i+1),by lia,rfl,bI,p'⟩,fun x H' y=>?_⟩;obtain⟨rfl,k,v,e,rfl⟩:=y;exact hs i k v σ _ e p
 .have e:i=kvs.length:=by lia
  subst e;exact .inl ⟨⟨q,cA _⟩,hd σ H p⟩
noncomputable abbrev NV:aW:=top 138
noncomputable abbrev ajM:List ah:=["wish","samples","told","sign"]
theorem EH:bE ajM ["wish"] (aP NV):=bF
noncomputable def kQ(l:List (iz×bg)):List Int:=l.flatMap fun x=>bS (signNumber x.1)::jO (mC x.2)
noncomputable def Pe(CP CW:aa):Sp:=fun vs H Q Z=>∃(a:aa)(u:bN),vs=[.ref a]/\rE CP CW H a u/\jE H Q (0::bS (lH (cG u)).length::kQ (lH (cG u)))
theorem apt{kvs:List (Key×V)}{i:Nat}{k:Key}{v:V}(hn:(kvs.map (·.1)).Nodup)(h:kvs[i]? =some (k,v)):fF kvs k=some v:=by
 unfold fF;induction kvs generalizing i with
 |nil=>simp at h
 |cons p r ih=>
  rw[dY,vv]at hn;rw[vr];cases i with
  |zero=>
   simp at h;subst h;simp
  |succ i=>
   simp at h;have:¬p.1=k:=fun e=>hn.1 (by rw[e];exact dI.mpr ⟨(k,v),jf h,rfl⟩);rw[decide_eq_false this];exact ih hn.2 h
theorem XY{l:List (iz×bg)}(h:∀x∈l,jH x.2):(kQ l).length<=l.length*42:=by
 unfold kQ;rw[QH];exact xO (fun x:iz×bg=>(bS (signNumber x.1)::jO (mC x.2)).length) 42 l fun x hx=>by
  have:=Cz (h x hx);rw[cy,pW];lia
theorem alC{f:aa}{fd:bu}(F:bt K "tell_signs" "tell_signs" NV f fd)(B:Bt mg)(F1:Fn P w K mg base az 3 "patterns_of" ["wish"] (sP CP CW))(F2:Fn P w K mg base az 4 "first_samples" ["patterns"] (OK CP CE))(F3:Fn P w K mg base az 2 "with_length" ["text"] AW)(F4:Fn P w K mg base az 1 "event_text" ["event"] (ET CE)):bh P w K mg base az 5 f fd ["wish"] (Pe CP CW):=by
 refine F.ok EH (fun vs H Q E h=>?_) (fun aJ A outer s H vs Q E hr h=>?_)
 .obtain⟨a,u,rfl,Z⟩:=h;rfl
 .obtain⟨a,u,rfl,hw,k⟩:=h;have bM:bb 1 _:=hr.mono (by lia);have ck:bb 2 _:=hr.mono (by lia);have dU:bb 3 _:=hr.mono (by lia);have hu:∀{A:bO},bb 4 A->A.units+1<oE:=fun r=>by have:=r.units;lia
  refine⟨_,aw (aZ (i:=1) EH.nd rfl (aF rfl) (aU F2 hr rfl aY (ai (aU F1 dU rfl aY (ai (pv 0) aj)) aj))) (aw (aZ (i:=2) EH.nd rfl (aF rfl) (cv (ai bc (ai (cK ab5 (by rfl) B.len dv (ai (pv 1) aj)) aj)))) (aw (amN (mT kg rfl (amy (pv 1)) (c8 (i:=3) EH.nd rfl (aF rfl)) (aw (ej (iG g9 lj mi lZ (pv 2) (ai (pv 3) aj))) (aA (ej (iG g9 Bs Gm Dv (pv 2) (ai (aU F3 ck rfl aY (ai (aU F4 bM rfl aY (ai (amk (hu hr) (pv 1) (pv 3) (fun Z Z=>rfl)) aj)) aj)) aj))))))) (aA (aI (pv 2))))),?_⟩;have j1:=hw.nodes;have h5:=hw.pats;have dG:=xp hw.ok;refine⟨_,rfl,a,u,rfl,hw.ws,hw.ok,by lia,fun lq mF H1 uy s1 nI jX=>?_⟩;generalize cG u=ps at jX h5 dG k;refine⟨lq,mF,ps,rfl,nI,jX,dG,h5,fun d kvs H2 hd s2 hd2 ds ws=>?_⟩;have JW:=X4 dG;have zm:=ws.count;have Ue:(lH ps).length<=32:=fA zm (fA (F9 (by lia) h5) (by decide));generalize lH ps=sg at ds ws JW Ue k;have bJ:=s1.trans s2;have zA:=ds.1;have knd:(kvs.map (·.1)).Nodup:=by
   rw[ds.keys];have:(sg.map fun x=>(.inl (signNumber x.1:Nat):Key))=(sg.map fun x=>signNumber x.1).map (fun n:Nat=>(.inl (n:Int):Key)):=by rw[gm];rfl
   rw[this];exact QN.mpr (ws.nd.imp fun iT q=>iT (Int.ofNat.inj (R0 q)))
  refine⟨_,rfl,d,kvs,rfl,hd2,(by show 2<=sizeLine;decide),fun p hp=>?_⟩;rw[zA];have lV:H p=none:=bJ.free hp;have C7:d≠p:=cC hd2 hp;have s3:aq H2 (upd H2 p (.lst [.int 0,.int (sg.length:Nat)])):=bj (aq.refl _) hp;have nL:upd H2 p (.lst [.int 0,.int (sg.length:Nat)]) p=some (.lst (cf [0,bS sg.length])):=aD;try dsimp only[b7,b9,cU,cb,bG,cP,dX,cE,b8]
  generalize upd H2 p (.lst [.int 0,.int (sg.length:Nat)])=H3 at s3 nL ⊢;have rQ:=s3 _ _ hd2;refine⟨d,.dK kvs,rQ,trivial,fun od=>?_⟩;have sev:∀{Hx:Hp}(i:Nat) q x,(∀b o,H3 b=some o->b≠d->b≠p->Hx b=some o)->kvs[i]? =some q->sg[i]? =some x->∃ae,q.2=.ref ae/\Ev CE Hx ae x.2:=fun{Hx} i q x hx h1 h2=>by
   obtain⟨Z,ae,e1,de,e2⟩:=ds.2 i q x h1 h2;have e3:=s3 _ _ e2;exact⟨ae,e1,de,hx _ _ e3 (fe e3 rQ (fun z=>by cases z)) (fe e3 nL (fun z=>by cases z))⟩
  refine⟨_,rfl,d,od,rfl,.inl ⟨kvs,aD,?_⟩⟩;refine afn (d:=d) (o:=od) (kvs:=kvs) (fun i σ H'=>∃v3,σ=[some (.ref a),some (.ref d),some (.ref p),v3]/\(∀b o,H3 b=some o->b≠d->b≠p->H' b=some o)/\H' d=some (.cS od (.dK kvs))/\H' p=some (.lst (cf ([0,bS sg.length]++kQ (sg.take i))))) ⟨none,rfl,fun b o e n1 n2=>by rw[ba n1];exact e,aD,by rw[ba C7.symm];simpa[kQ]using nL⟩ (fun i σ H' q=>?_) (fun i key v σ H' hx q=>?_) (fun σ H' q=>?_)
  .obtain⟨v3,Z,Z,e,Z⟩:=q;exact e
  .obtain⟨v3,rfl,sm,wJ,iW⟩:=q;have hi:=(dQ.mp hx).1;obtain⟨x,Dk⟩:∃x,sg[i]? =some x:=⟨_,cV (by rw[<-zA];exact hi)⟩;have hkx:=(ds.2 i _ x hx Dk).1;have aeg:key=.inl (signNumber x.1:Nat):=hkx;subst aeg;have hm:=jf Dk;have Wh:=JW x hm;have eA:=Cz Wh;have et:sg.take (i+1)=sg.take i++[x]:=by rw[me,Dk];rfl
   have Ky:(kQ (sg.take i)).length<=32*42:=by
    have h1:=XY (l:=sg.take i) fun y hy=>JW y (QK hy);have h2:=ZC i sg;have h3:(sg.take i).length*42<=32*42:=Bl _ (by lia);lia
   refine⟨_,rfl,.inl ⟨rfl,_,aH.of iW⟩,_,rfl,p,_,_,rfl,rfl,iW,dN _ (by rw[jy,cY];simp only[cy,je];lia),?_⟩;have gG:∀b o,H3 b=some o->b≠d->b≠p->upd H' p (.lst (cf ([0,bS sg.length]++kQ (sg.take i))++[kV (.inl (signNumber x.1:Nat))])) b=some o:=fun b o e n1 n2=>by rw[ba n2];exact sm b o e n1 n2
   have Ku:upd H' p (.lst (cf ([0,bS sg.length]++kQ (sg.take i))++[kV (.inl (signNumber x.1:Nat))])) d=some (.cS od (.dK kvs)):=by rw[ba C7];exact wJ
   have K1:upd H' p (.lst (cf ([0,bS sg.length]++kQ (sg.take i))++[kV (.inl (signNumber x.1:Nat))])) p=some (.lst (cf (([0,bS sg.length]++kQ (sg.take i))++[bS (signNumber x.1)]))):=by rw[aD,wX ([0,bS sg.length]++kQ (sg.take i))];rfl
   generalize upd H' p (.lst (cf ([0,bS sg.length]++kQ (sg.take i))++[kV (.inl (signNumber x.1:Nat))]))=H4 at gG Ku K1 ⊢;obtain⟨ae,ev,dj⟩:=sev i _ x gG hx Dk;have ev:v=.ref ae:=ev;subst ev;refine⟨_,rfl,.inl ⟨rfl,_,aH.of K1⟩,_,rfl,_,rfl,d,_,rfl,.inl ⟨kvs,.inl (signNumber x.1:Nat),.inr ⟨od,Ku⟩,rfl,(apt knd hx).symm⟩,ae,x.2,rfl,dj,Wh,mC x.2,rfl,by lia,fun D H5 hD s5 e5=>?_⟩;refine⟨p,D,_,_,rfl,rfl,s5 _ _ K1,e5,?_,?_⟩
   .rw[jy,jy,pW,cY,cY];exact big _ (by simp only[cy,je];lia)
   .refine⟨_,rfl,fun b' o e n1 n2=>?_,?_,?_⟩
    .rw[ba n2];exact s5 _ _ (gG _ _ e n1 n2)
    .rw[ba C7];exact s5 _ _ Ku
    .rw[aD,et,<-wX];unfold kQ;rw[Bd];simp
  .obtain⟨v3,rfl,sm,wJ,iW⟩:=q;rw[zA,jK]at iW;refine⟨wJ,_,rfl,?_⟩;refine k p _ lV (fun b o e=>?_) (by rw[ba C7.symm];exact iW);have e3:=s3 _ _ (bJ _ _ e);by_cases z:b=d
   .subst z;exact absurd (s1.free hd) (by rw[e];simp)
   .rw[ba z];exact sm b o e3 z (cC (bJ _ _ e) hp)
open Vatrca (signNumber faulty shown)
open Vt (da)
noncomputable def fZ(n:Nat)(i:Int)(t:au):R3:=match n with
 |0=> .load t
 |1=> .add t
 |2=> .put i t
 |3=> .drop
 |4=> .text
 |5=> .event i
 |6=> .read t
 |7=> .showing t
 |8=> .holds i t
 |9=> .places t
 |10=> .fitting i t
 |11=> .patterns t
 |12=> .signs t
 |13=> .sign i t
 |_=> .alike i t
noncomputable abbrev Out:=Except tY (List bg×List Int)
noncomputable def fw(es:List bg)(t:au)(f:bN->List Int):Out:=match lG t with
 | .error e=> .error e
 | .ok u=> .ok (es,f u)
noncomputable def kC(es:List bg)(i:Int)(f:bg->Out):Out:=if i<0 then .ok (es,[-2])else match es[i.toNat]? with
 |none=> .ok (es,[-2])
 |some e=>f e
noncomputable def out(es:List bg):R3->Out
 | .load t=>match kq t with
  | .error f=> .error f
  | .ok l=> .ok (l,[0])
 | .add t=> .ok ((nq ⟨es⟩ t).1.run,(nq ⟨es⟩ t).2)
 | .put i t=> .ok ((nr ⟨es⟩ i t).1.run,(nr ⟨es⟩ i t).2)
 | .drop=> .ok ((vZ ⟨es⟩).1.run,(vZ ⟨es⟩).2)
 | .text=> .ok (es,0::gO (yW es))
 | .event i=> .ok (es,yT ⟨es⟩ (.event i))
 | .read t=>fw es t fun u=>[0,bS u.nodes,bS (cG u).length]
 | .showing t=>fw es t fun u=>0::gO (shown u)
 | .holds i t=>if i<0\/bS es.length<i then .ok (es,[-2])else fw es t fun u=>[0,if B1 es u i.toNat then 1 else 0]
 | .places t=>fw es t fun u=>0::(nt (dg es u)).map bS
 | .fitting i t=> .ok (es,yT ⟨es⟩ (.fitting i t))
 | .patterns t=>fw es t fun u=>0::bS (cG u).length::(cG u).flatMap fun p=>jO (gf p)
 | .signs t=>fw es t fun u=>0::bS (lH (cG u)).length::kQ (lH (cG u))
 | .sign i t=>kC es i fun e=>fw es t fun u=>[0,bS (signNumber (cw (cG u) e))]
 | .alike i t=>kC es i fun e=>fw es t fun u=>0::(nt (es.map fun d=>cw (cG u) d==cw (cG u) e)).map bS
noncomputable def sR(es:List bg):Out->vX×List Int
 | .error f=>(⟨es⟩,faulty f)
 | .ok (ds,a)=>(⟨ds⟩,a)
theorem sZ(es:List bg)(t:au)(f:bN->List Int):((⟨es⟩:vX),wc t f)=sR es (fw es t f):=by
 unfold wc fw;cases lG t<;>rfl
theorem aoz(es:List bg)(q:R3):Vatrca.step ⟨es⟩ q=sR es (out es q):=by
 cases q with
 |load t=>
  show abb ⟨es⟩ t=sR es (match kq t with| .error f=> .error f| .ok l=> .ok (l,[0]));unfold abb;cases kq t<;>rfl
 |add t=>rfl
 |put i t=>rfl
 |drop=>rfl
 |text=>rfl
 |event i=>rfl
 |read t=>exact sZ es t _
 |showing t=>exact sZ es t _
 |holds i t=>
  show((⟨es⟩:vX),if i<0\/bS es.length<i then[-2]else wc t fun u=>[0,if B1 es u i.toNat then 1 else 0])=sR es (if i<0\/bS es.length<i then .ok (es,[-2])else fw es t fun u=>[0,if B1 es u i.toNat then 1 else 0]);by_cases h:i<0\/bS es.length<i
  .rw[if_pos h,if_pos h];rfl
  .rw[if_neg h,if_neg h];exact sZ es t _
 |places t=>exact sZ es t _
 |fitting i t=>rfl
 |patterns t=>exact sZ es t _
 |signs t=>exact sZ es t _
 |sign i t=>
  show((⟨es⟩:vX),lJ ⟨es⟩ i fun Z e=>wc t fun u=>[0,bS (signNumber (cw (cG u) e))])=sR es (kC es i fun e=>fw es t fun u=>[0,bS (signNumber (cw (cG u) e))]);unfold lJ kC;by_cases h:i<0
  .rw[if_pos h,if_pos h];rfl
  .rw[if_neg h,if_neg h];show((⟨es⟩:vX),match es[i.toNat]? with|none=>[-2]|some e=>wc t fun u=>[0,bS (signNumber (cw (cG u) e))])=_;cases es[i.toNat]? with
   |none=>rfl
   |some e=>exact sZ es t _
 |alike i t=>
  show((⟨es⟩:vX),lJ ⟨es⟩ i fun Z e=>wc t fun u=>0::(nt (es.map fun d=>cw (cG u) d==cw (cG u) e)).map bS)=sR es (kC es i fun e=>fw es t fun u=>0::(nt (es.map fun d=>cw (cG u) d==cw (cG u) e)).map bS);unfold lJ kC;by_cases h:i<0
  .rw[if_pos h,if_pos h];rfl
  .rw[if_neg h,if_neg h];show((⟨es⟩:vX),match es[i.toNat]? with|none=>[-2]|some e=>wc t fun u=>0::(nt (es.map fun d=>cw (cG u) d==cw (cG u) e)).map bS)=_;cases es[i.toNat]? with
   |none=>rfl
   |some e=>exact sZ es t _
theorem al0(es:List bg)(n:Nat)(i:Int)(t:au):out es (fZ n i (Vt.clean t))=out es (fZ n i t):=by
 have hw:∀f,fw es (Vt.clean t) f=fw es t f:=fun f=>by unfold fw;rw[Vt.am7]
 unfold fZ;split
 .show(match kq (Vt.clean t)with| .error f=>_| .ok l=>_)=_;rw[Vt.am5];rfl
 .show pG ((nq ⟨es⟩ (Vt.clean t)).1.run,(nq ⟨es⟩ (Vt.clean t)).2)=pG ((nq ⟨es⟩ t).1.run,(nq ⟨es⟩ t).2);unfold nq;rw[Vt.JU]
 .show pG ((nr ⟨es⟩ i (Vt.clean t)).1.run,(nr ⟨es⟩ i (Vt.clean t)).2)=pG ((nr ⟨es⟩ i t).1.run,(nr ⟨es⟩ i t).2);unfold nr;rw[Vt.JU]
 .rfl
 .rfl
 .rfl
 .exact hw _
 .exact hw _
 .show(if i<0\/bS es.length<i then pG (es,[-2])else fw es (Vt.clean t) _)=(if i<0\/bS es.length<i then pG (es,[-2])else fw es t _);rw[hw]
 .exact hw _
 .show pG (es,lJ ⟨es⟩ i fun Z e=>match gb (Vt.clean t)with|none=>[-5]|some p=>[0,if pT p e then 1 else 0])=pG (es,lJ ⟨es⟩ i fun Z e=>match gb t with|none=>[-5]|some p=>[0,if pT p e then 1 else 0]);rw[Vt.amf]
 .exact hw _
 .exact hw _
 .show kC es i (fun e=>fw es (Vt.clean t) _)=kC es i (fun e=>fw es t _);congr 1;funext e;exact hw _
 .show kC es i (fun e=>fw es (Vt.clean t) _)=kC es i (fun e=>fw es t _);congr 1;funext e;exact hw _
theorem Yc:∀l:List au,(t6 l).length<=(l.map fun t=>t.length).sum+l.length
 |[]=>by simp[t6]
 |[t]=>by simp[t6]
 |t::u::r=>by
  have:=Yc (u::r);show(t++(pS::t6 (u::r))).length<=_;simp only[cY,cy,dY,qK]at this ⊢;lia
theorem anr{es:List bg}(h:∀e∈es,jH e)(gT:es.length<=40):(yW es).length<=1640:=by
 have h1:=Yc (es.map mC);have h2:=xO (fun t:au=>t.length) 40 (es.map mC) fun t ht=>by
  obtain⟨e,he,rfl⟩:=dI.mp ht;exact Cz (h e he)
 rw[bC]at h1 h2;have h3:es.length*40<=40*40:=Bl _ gT;exact fA h1 (by lia)
noncomputable def cF(n:Nat)(i:Int)(t:au)(b:Nat):List (ah×V):=[("number",.int (n:Nat)),("index",.int i),("text",.str (S t)),("behind",.int (b:Nat))]
noncomputable def A4(CL:aa)(H:Hp)(c:aa)(n:Nat)(i:Int)(t:au)(b:Nat):Prop:=∃dx,H c=some (.ins CL dx (cF n i t b))
noncomputable abbrev oO:List ah:=["number","index","text","behind"]
noncomputable def xG(CE CR CL CF:aa)(ok:Nat->Prop):Sp:=fun vs H Q E=>∃(r l c:aa)(es:List bg)(n:Nat)(i:Int)(t:au)(b:Nat),vs=[.ref r,.ref c]/\Rn CE CR H r l es/\A4 CL H c n i t b/\ek t/\t.length<=100000/\ok n/\n<=14/\(∀ds a,out es (fZ n i t)=.ok (ds,a)->a.length<=4000->u9 CE CR H Q r l ds a)/\∀f,out es (fZ n i t)=.error f->Rz CF E f (aq H)
theorem Sg{CE CR:aa}{H:Hp}{Q:VK}{r l:aa}{es:List bg}{a:List Int}(cx:Rn CE CR H r l es)(h:u9 CE CR H Q r l es a):jE H Q a:=fun D H' hD s e=>by
 have hl:∃o,H l=some o:=let ⟨_,_,_,q,_⟩:=cx;⟨_,q⟩
 obtain⟨o,ho⟩:=hl;exact h D H' hD (cC ho hD).symm (oG.of cx s) e
theorem KW{es:List bg}{i:Int}:¬(0<=i/\i<=(es.length:Nat))↔(i<0\/bS es.length<i):=by
 have:bS es.length=((es.length:Nat):Int):=rfl;constructor
 .intro h;by_cases q:i<0
  .exact .inl q
  .exact .inr (by rw[this];have:¬i<=(es.length:Nat):=fun y=>h ⟨by lia,y⟩;lia)
 .intro h q;rw[this]at h;lia
theorem Ts{es:List bg}{i:Int}{f:bg->Out}(h:¬(0<=i/\i<(es.length:Nat))):kC es i f=.ok (es,[-2]):=by
 unfold kC;by_cases q:i<0
 .rw[if_pos q]
 .rw[if_neg q,ow (by have:¬i<(es.length:Nat):=fun y=>h ⟨by lia,y⟩;lia)]
theorem Cy{es:List bg}{n:Nat}{e:bg}{f:bg->Out}(h:es[n]? =some e):kC es (n:Int) f=f e:=by
 unfold kC;rw[if_neg (by lia),show((n:Nat):Int).toNat=n from rfl,h]
theorem sY{es:List bg}{t:au}{f:bN->List Int}{u:bN}(h:lG t=.ok u):fw es t f=.ok (es,f u):=by unfold fw;rw[h]
theorem sX{es:List bg}{t:au}{f:bN->List Int}{e:tY}(h:lG t=.error e):fw es t f=.error e:=by unfold fw;rw[h]
theorem aog(ps:List cM):WS ps (lH ps):=by
 have go:∀(es:List bg)(l:List (iz×bg)),WS ps l->WS ps (es.foldl (jc ps) l):=fun es=>by
  induction es with
  |nil=>exact fun l h=>h
  |cons e r ih=>exact fun l h=>ih _ (h.step e)
 exact go (B3 ps) [] ⟨fun x hx=>(nomatch hx),QL⟩
noncomputable abbrev M3:aW:=inClass (top 120) 0
noncomputable abbrev DP:List ah:=["self","number","index","text","behind"]
theorem anC:bE DP DP (aP M3):=bF
theorem akw{f:aa}{fd:bu}(F:bt K "__init__" "Call.__init__" M3 f fd)(T:Ty K CL oO):bh P w K mg base az 1 f fd DP (eP CL oO):=by
 refine F.ok anC (fun vs H Q E h=>?_) (fun aJ A outer s H vs Q E hr h=>?_)
 .obtain⟨x,dx,us,rfl,hl,Z⟩:=h;simpa using hl
 .obtain⟨x,dx,us,rfl,hl,hx,k⟩:=h;obtain⟨a,b,c,d,rfl⟩:=Lz hl;refine⟨_,aw (fg (pv 0) (pv 1) rfl) (aw (fg (pv 0) (pv 2) rfl) (aw (fg (pv 0) (pv 3) rfl) (aA (fg (pv 0) (pv 4) rfl)))),?_⟩;refine⟨_,rfl,_,rfl,x,CL,dx,[],rfl,hx,T.cls,T.nf _ (by simp),(by decide),?_⟩;rw[fu (fs:=[]) (by decide+kernel)];refine⟨_,rfl,_,rfl,x,CL,dx,_,rfl,aD,T.cls,T.nf _ (by simp),(by show 1<1000;decide),?_⟩;rw[fE,fu (by rfl)];refine⟨_,rfl,_,rfl,x,CL,dx,_,rfl,aD,T.cls,T.nf _ (by simp),(by show 2<1000;decide),?_⟩;rw[fE,fu (by rfl)];refine⟨_,rfl,_,rfl,x,CL,dx,_,rfl,aD,T.cls,T.nf _ (by simp),(by show 3<1000;decide),?_⟩;rw[fE,fu (by rfl)];exact k
theorem VJ{H:Hp}{Q:VK}{n:Nat}{i:Int}{t:au}{b:Nat}(k:∀a H',H a=none->aq H H'->A4 CL H' a n i t b->Q (.ref a) H'):∀x dx,H x=none->H dx=none->dx≠x->eP CL oO [.ref x,.int (n:Nat),.int i,.str (S t),.int (b:Nat)] (upd (upd H dx (.own x)) x (.ins CL dx [])) (fun v H2=>v=.aO/\Q (.ref x) H2) E0:=fun x dx n1 n2 n3=>by
 refine⟨x,dx,_,rfl,rfl,aD,rfl,?_⟩;rw[fE];have sm:=bj (bj (o:=HO.own x) (aq.refl H) n2) (p:=x) (o:=HO.ins CL dx (oO.zip [V.int (n:Nat),.int i,.str (S t),.int (b:Nat)])) (by rw[ba n3.symm];exact n1);exact k x _ n1 sm ⟨dx,aD⟩
noncomputable abbrev N1:aW:=top 125
theorem an2:bE ["run","call"] ["run","call"] (aP N1):=bF
noncomputable def zV(n:Nat):Prop:=n=6\/n=7\/n=8\/n=9\/n=11\/n=12\/n=13\/n=14
structure R9(P:aV)(w:aQ)(K:aK)(mg:ah->Option af)(base:aG)(CE CR CP CW CF CL:aa):Prop where
 tl:Ty K CL oO
 abZ:bT mg "READ" (.int 6)
 ab0:bT mg "SHOW" (.int 7)
 abT:bT mg "HOLDS" (.int 8)
 abX:bT mg "PLACES" (.int 9)
 abW:bT mg "PATTERNS" (.int 11)
 ab2:bT mg "SIGNS_runs" (.int 12)
 ab1:bT mg "SIGN" (.int 13)
 read:Fn P w K mg base (XE P w) 152 "read_wish" ["text"] (xK CP CW CF)
 counts:Fn P w K mg base az 4 "tell_counts" ["wish"] (O6 CP CW)
 bytes:Fn P w K mg base az 1 "bytes_of" ["text"] AK
 an9:Fn P w K mg base az 63 "wish_text" ["wish"] (AS 30 CP CW)
 holds:Fn P w K mg base (XE P w) 153 "tell_holds" ["run","index","text"] (O8 CE CR CF)
 places:Fn P w K mg base az 35 "tell_places" ["run","wish"] (Pa CE CR CP CW)
 pats:Fn P w K mg base az 4 "tell_patterns" ["wish"] (Pc CP CW)
 signs:Fn P w K mg base az 5 "tell_signs" ["wish"] (Pe CP CW)
 sign:Fn P w K mg base (XE P w) 153 "tell_sign" ["run","index","text"] (Pd CE CR CF)
 alike:Fn P w K mg base (XE P w) 153 "tell_alike" ["run","index","text"] (O5 CE CR CF)
theorem alM{f:aa}{fd:bu}(F:bt K "wish_answer" "wish_answer" N1 f fd)(W:R9 P w K mg base CE CR CP CW CF CL):bh P w K mg base (XE P w) 154 f fd ["run","call"] (xG CE CR CL CF zV):=by
 refine fL F an2 (fun vs H Q E h=>?_) (fun aJ A outer s H vs Q E hr h=>?_)
 .obtain⟨r,l,c,es,n,i,t,b,rfl,Z⟩:=h;rfl
 .obtain⟨r,l,c,es,n,i,t,b,rfl,cx,⟨dx,hc⟩,fb,hl,aT,pZ,kS,kE⟩:=h;have zh:bb 152 _:=hr.mono (by lia);have h63:bb 63 _:=hr.mono (by lia);have h35:bb 35 _:=hr.mono (by lia);have h5:bb 5 _:=hr.mono (by lia);have h4:bb 4 _:=hr.mono (by lia);have h1:bb 1 _:=hr.mono (by lia);refine⟨_,aw (bx (bq cg (aN (pv 1) rfl) (bP W.abZ rfl) (bp _)) (aA (aI (aU W.counts h4 rfl aY (ai (aU W.read zh rfl cO (ai (aN (pv 1) rfl) aj)) aj)))) bA) (aw (bx (bq cg (aN (pv 1) rfl) (bP W.ab0 rfl) (bp _)) (aA (aI (dH pd (cv (ai bc aj)) (aU W.bytes h1 rfl aY (ai (aU W.an9 h63 rfl aY (ai (aU W.read zh rfl cO (ai (aN (pv 1) rfl) aj)) aj)) aj))))) bA) (aw (bx (bq cg (aN (pv 1) rfl) (bP W.abT rfl) (bp _)) (aA (aI (aU W.holds hr rfl cO (ai (pv 0) (ai (aN (pv 1) rfl) (ai (aN (pv 1) rfl) aj)))))) bA) (aw (bx (bq cg (aN (pv 1) rfl) (bP W.abX rfl) (bp _)) (aA (aI (aU W.places h35 rfl aY (ai (pv 0) (ai (aU W.read zh rfl cO (ai (aN (pv 1) rfl) aj)) aj))))) bA) (aw (bx (bq cg (aN (pv 1) rfl) (bP W.abW rfl) (bp _)) (aA (aI (aU W.pats h4 rfl aY (ai (aU W.read zh rfl cO (ai (aN (pv 1) rfl) aj)) aj)))) bA) (aw (bx (bq cg (aN (pv 1) rfl) (bP W.ab2 rfl) (bp _)) (aA (aI (aU W.signs h5 rfl aY (ai (aU W.read zh rfl cO (ai (aN (pv 1) rfl) aj)) aj)))) bA) (aw (bx (bq cg (aN (pv 1) rfl) (bP W.ab1 rfl) (bp _)) (aA (aI (aU W.sign hr rfl cO (ai (pv 0) (ai (aN (pv 1) rfl) (ai (aN (pv 1) rfl) aj)))))) bA) (aA (aI (aU W.alike hr rfl cO (ai (pv 0) (ai (aN (pv 1) rfl) (ai (aN (pv 1) rfl) aj)))))))))))),?_⟩;have T:=W.tl;have gT:=cx.ev;have jT:∀{a:List Int},out es (fZ n i t)=.ok (es,a)->a.length<=4000->jE H Q a:=fun e hl=>Sg cx (kS es _ e hl);refine⟨_,rfl,c,CL,dx,_,_,rfl,hc,T.cls,T.nf _ (by simp),rfl,rfl,_,rfl,bD (fun z=>?_) (fun z6=>?_)⟩
  .have z:n=6:=by have:=V.int.inj z;lia
   subst z;refine⟨_,rfl,c,CL,dx,_,_,rfl,hc,T.cls,T.nf _ (by simp),rfl,⟨t,rfl,fb,hl,fun u eu gB j1 b0 a H1 s1 mM=>?_,fun f e=>kE f (sX e)⟩⟩;have hw:rE CP CW H1 a u:=⟨mM,gB,Vt.Ax eu,j1,b0⟩;exact⟨a,u,rfl,hw,fun D H' hD s' e=>jT (sY eu) (by show 3<=4000;lia) D H' (s1.free hD) (s1.trans s') e⟩
  refine⟨_,rfl,c,CL,dx,_,_,rfl,hc,T.cls,T.nf _ (by simp),rfl,rfl,_,rfl,bD (fun z=>?_) (fun z7=>?_)⟩
  .have z:n=7:=by have:=V.int.inj z;lia
   subst z;refine⟨(by show 1<=sizeLine;decide),fun p hp=>?_⟩;have s0:aq H (upd H p (.lst [.int 0])):=bj (aq.refl _) hp;have lV:upd H p (.lst [.int 0]) p=some (.lst (cf [0])):=aD;generalize upd H p (.lst [.int 0])=H0 at s0 lV ⊢;refine⟨_,rfl,c,CL,dx,_,_,rfl,s0 _ _ hc,T.cls,T.nf _ (by simp),rfl,⟨t,rfl,fb,hl,fun u eu gB j1 b0 a H1 s1 hw=>?_,fun f e=>(kE f (sX e)).mono fun H' q=>s0.trans q⟩⟩;have iZ:=Vt.Ax eu;have hsl:=Oq u gB iZ;refine⟨a,u,rfl,hw,gB,iZ,j1,by lia,fun H2 s2=>?_⟩;refine⟨shown u,rfl,by lia,fun D H3 hD s3 e3=>?_⟩;rw[y3]at e3;have lU:(gO (shown u)).length<=3000:=by unfold gO;rw[bC];lia
   refine wm (s3 _ _ (s2 _ _ (s1 _ _ lV))) e3 (by show 1+_<=_;lia) fun q H4 hq s4 e4=>?_;have ja:=((s0.trans s1).trans s2).trans s3;exact jT (sY eu) (by show(gO (shown u)).length+1<=4000;lia) q H4 (ja.free hq) (ja.trans s4) e4
  refine⟨_,rfl,c,CL,dx,_,_,rfl,hc,T.cls,T.nf _ (by simp),rfl,rfl,_,rfl,bD (fun z=>?_) (fun z8=>?_)⟩
  .have z:n=8:=by have:=V.int.inj z;lia
   subst z;refine⟨_,rfl,_,rfl,c,CL,dx,_,_,rfl,hc,T.cls,T.nf _ (by simp),rfl,_,rfl,c,CL,dx,_,_,rfl,hc,T.cls,T.nf _ (by simp),rfl,r,l,es,i,t,rfl,cx,fb,hl,fun q=>?_,fun q=>⟨fun u eu=>?_,fun f e=>?_⟩⟩
   .exact jT (if_pos (KW.mp q)) (by show 1<=4000;lia)
   .exact jT ((if_neg (fun y=>KW.mpr y q)).trans (sY eu)) (by show 2<=4000;lia)
   .exact kE f ((if_neg (fun y=>KW.mpr y q)).trans (sX e))
  refine⟨_,rfl,c,CL,dx,_,_,rfl,hc,T.cls,T.nf _ (by simp),rfl,rfl,_,rfl,bD (fun z=>?_) (fun z9=>?_)⟩
  .have z:n=9:=by have:=V.int.inj z;lia
   subst z;refine⟨_,rfl,_,rfl,c,CL,dx,_,_,rfl,hc,T.cls,T.nf _ (by simp),rfl,⟨t,rfl,fb,hl,fun u eu gB j1 b0 a H1 s1 mM=>?_,fun f e=>kE f (sX e)⟩⟩;have hw:rE CP CW H1 a u:=⟨mM,gB,Vt.Ax eu,j1,b0⟩;have ig:=Fd (dg es u);have zP:=fM es u;exact⟨r,l,a,es,u,rfl,cx.same s1,hw,fun D H' hD s' e=>jT (sY eu) (by rw[cy,bC];lia) D H' (s1.free hD) (s1.trans s') e⟩
  refine⟨_,rfl,c,CL,dx,_,_,rfl,hc,T.cls,T.nf _ (by simp),rfl,rfl,_,rfl,bD (fun z=>?_) (fun z11=>?_)⟩
  .have z:n=11:=by have:=V.int.inj z;lia
   subst z;refine⟨_,rfl,c,CL,dx,_,_,rfl,hc,T.cls,T.nf _ (by simp),rfl,⟨t,rfl,fb,hl,fun u eu gB j1 b0 a H1 s1 mM=>?_,fun f e=>kE f (sX e)⟩⟩;have hw:rE CP CW H1 a u:=⟨mM,gB,Vt.Ax eu,j1,b0⟩;have h5:=hw.pats;have dG:=xp hw.ok;have Ky:((cG u).flatMap fun q=>jO (gf q)).length<=62*5:=by
    have h1:=xO (fun q=>(jO (gf q)).length) 62 (cG u) fun q hq=>by
     have:=uP (dG q hq);rw[pW];lia
    rw[QH];have h3:(cG u).length*62<=5*62:=Bl _ (by lia);lia
   exact⟨a,u,rfl,hw,fun D H' hD s' e=>jT (sY eu) (by rw[cy,cy];lia) D H' (s1.free hD) (s1.trans s') e⟩
  refine⟨_,rfl,c,CL,dx,_,_,rfl,hc,T.cls,T.nf _ (by simp),rfl,rfl,_,rfl,bD (fun z=>?_) (fun z12=>?_)⟩
  .have z:n=12:=by have:=V.int.inj z;lia
   subst z;refine⟨_,rfl,c,CL,dx,_,_,rfl,hc,T.cls,T.nf _ (by simp),rfl,⟨t,rfl,fb,hl,fun u eu gB j1 b0 a H1 s1 mM=>?_,fun f e=>kE f (sX e)⟩⟩;have hw:rE CP CW H1 a u:=⟨mM,gB,Vt.Ax eu,j1,b0⟩;refine⟨a,u,rfl,hw,fun D H' hD s' e=>jT (sY eu) ?_ D H' (s1.free hD) (s1.trans s') e⟩;have h5:=hw.pats;have hsl:=XY (X4 (xp hw.ok));have zm:(lH (cG u)).length<=32:=fA (aog _).count (fA (F9 (by lia) h5) (by decide));have h3:(lH (cG u)).length*42<=32*42:=Bl _ zm;rw[cy,cy];lia
  refine⟨_,rfl,c,CL,dx,_,_,rfl,hc,T.cls,T.nf _ (by simp),rfl,rfl,_,rfl,bD (fun z=>?_) (fun z13=>?_)⟩
  .have z:n=13:=by have:=V.int.inj z;lia
   subst z;refine⟨_,rfl,_,rfl,c,CL,dx,_,_,rfl,hc,T.cls,T.nf _ (by simp),rfl,_,rfl,c,CL,dx,_,_,rfl,hc,T.cls,T.nf _ (by simp),rfl,r,l,es,i,t,rfl,cx,fb,hl,fun q=>?_,fun m e ei he=>⟨fun u eu=>?_,fun f er=>?_⟩⟩
   .exact jT (Ts q) (by show 1<=4000;lia)
   .subst ei;exact jT ((Cy he).trans (sY eu)) (by show 2<=4000;lia)
   .subst ei;exact kE f ((Cy he).trans (sX er))
  .have z:n=14:=by
    have m6:¬n=6:=fun q=>z6 (by rw[q];rfl);have m7:¬n=7:=fun q=>z7 (by rw[q];rfl);have m8:¬n=8:=fun q=>z8 (by rw[q];rfl);have m9:¬n=9:=fun q=>z9 (by rw[q];rfl);have m11:¬n=11:=fun q=>z11 (by rw[q];rfl);have m12:¬n=12:=fun q=>z12 (by rw[q];rfl);have m13:¬n=13:=fun q=>z13 (by rw[q];rfl);unfold zV at aT;lia
   subst z;refine⟨_,rfl,_,rfl,c,CL,dx,_,_,rfl,hc,T.cls,T.nf _ (by simp),rfl,_,rfl,c,CL,dx,_,_,rfl,hc,T.cls,T.nf _ (by simp),rfl,r,l,es,i,t,rfl,cx,fb,hl,fun q=>?_,fun m e ei he=>⟨fun u eu=>?_,fun f er=>?_⟩⟩
   .exact jT (Ts q) (by show 1<=4000;lia)
   .subst ei;have ig:=Fd (es.map fun d=>cw (cG u) d==cw (cG u) e);rw[bC]at ig;exact jT ((Cy he).trans (sY eu)) (by rw[cy,bC];lia)
   .subst ei;exact kE f ((Cy he).trans (sX er))
theorem ad3(es:List bg)(t:au):(nq ⟨es⟩ t).2.length=1:=by
 unfold nq;cases kn t with
 |none=>rfl
 |some e=>dsimp only;split<;>rfl
theorem ad5(es:List bg)(i:Int)(t:au):(nr ⟨es⟩ i t).2.length=1:=by
 unfold nr;split
 .rfl
 .cases kn t<;>rfl
theorem ad4(es:List bg):(vZ ⟨es⟩).2.length=1:=by
 unfold vZ;split<;>rfl
noncomputable abbrev Nn:aW:=top 124
theorem anP:bE ["run","call"] ["run","call"] (aP Nn):=bF
structure QU(P:aV)(w:aQ)(K:aK)(mg:ah->Option af)(base:aG)(CE CR CF CL:aa):Prop where
 tl:Ty K CL oO
 tr:Ty K CR ["events"]
 abU:bT mg "LOAD" (.int 0)
 abQ:bT mg "ADD" (.int 1)
 abY:bT mg "PUT" (.int 2)
 abR:bT mg "DROP" (.int 3)
 ab3:bT mg "TEXT" (.int 4)
 abS:bT mg "EVENT" (.int 5)
 abV:bT mg "MATCHES" (.int 10)
 load:Fn P w K mg base (XE P w) 5 "load" ["run","text"] (OM CE CR CF)
 add:Fn P w K mg base az 4 "add" ["run","text"] (OA CE CR)
 put:Fn P w K mg base az 4 "put" ["run","index","text"] (OV CE CR)
 drop:Fn P w K mg base az 1 "drop" ["run"] (OI CE CR)
 bytes:Fn P w K mg base az 1 "bytes_of" ["text"] AK
 anq:Fn P w K mg base az 2 "run_text" ["events"] (O0 CE)
 event:Fn P w K mg base az 3 "tell_event" ["run","index"] (O7 CE CR)
 ai7:Fn P w K mg base az 5 "tell_matches" ["run","index","text"] (O9 CE CR)
 gI:Fn P w K mg base (XE P w) 154 "wish_answer" ["run","call"] (xG CE CR CL CF zV)
theorem aoZ(es:List bg)(i:Int)(h:∀e∈es,jH e):(yT ⟨es⟩ (.event i)).length<=30:=by
 show(lJ ⟨es⟩ i fun k e=>0::bS (rC es k)::bS e.gap::bS e.number::(jO e.kind++jO e.subject)).length<=30;by_cases q:0<=i/\i<(es.length:Nat)
 .obtain⟨n,rfl⟩:∃n:Nat,i=(n:Nat):=⟨i.toNat,by lia⟩;obtain⟨e,he⟩:∃e,es[n]? =some e:=⟨_,cV (by lia)⟩;rw[Fg he];have ok:=h e (jf he);have:=ok.k;have:=ok.s;simp only[cy,cY,pW];lia
 .rw[Ff q];simp
theorem ao0(es:List bg)(i:Int)(t:au):(yT ⟨es⟩ (.fitting i t)).length<=30:=by
 show(lJ ⟨es⟩ i fun Z e=>match gb t with|none=>[-5]|some p=>[0,if pT p e then 1 else 0]).length<=30;by_cases q:0<=i/\i<(es.length:Nat)
 .obtain⟨n,rfl⟩:∃n:Nat,i=(n:Nat):=⟨i.toNat,by lia⟩;obtain⟨e,he⟩:∃e,es[n]? =some e:=⟨_,cV (by lia)⟩;rw[Fg he];cases gb t<;>simp
 .rw[Ff q];simp
theorem akR{f:aa}{fd:bu}(F:bt K "made_answer" "made_answer" Nn f fd)(W:QU P w K mg base CE CR CF CL):bh P w K mg base (XE P w) 155 f fd ["run","call"] (xG CE CR CL CF fun Z=>True):=by
 refine fL F anP (fun vs H Q E h=>?_) (fun aJ A outer s H vs Q E hr h=>?_)
 .obtain⟨r,l,c,es,n,i,t,b,rfl,Z⟩:=h;rfl
 .obtain⟨r,l,c,es,n,i,t,b,rfl,cx,p9,fb,hl,Z,pZ,kS,kE⟩:=h;obtain⟨dx,hc⟩:=p9;have h5:bb 5 _:=hr.mono (by lia);have h4:bb 4 _:=hr.mono (by lia);have h3:bb 3 _:=hr.mono (by lia);have h2:bb 2 _:=hr.mono (by lia);have h1:bb 1 _:=hr.mono (by lia);refine⟨_,aw (bx (bq cg (aN (pv 1) rfl) (bP W.abU rfl) (bp _)) (aA (aI (aU W.load h5 rfl cO (ai (pv 0) (ai (aN (pv 1) rfl) aj))))) bA) (aw (bx (bq cg (aN (pv 1) rfl) (bP W.abQ rfl) (bp _)) (aA (aI (aU W.add h4 rfl aY (ai (pv 0) (ai (aN (pv 1) rfl) aj))))) bA) (aw (bx (bq cg (aN (pv 1) rfl) (bP W.abY rfl) (bp _)) (aA (aI (aU W.put h4 rfl aY (ai (pv 0) (ai (aN (pv 1) rfl) (ai (aN (pv 1) rfl) aj)))))) bA) (aw (bx (bq cg (aN (pv 1) rfl) (bP W.abR rfl) (bp _)) (aA (aI (aU W.drop h1 rfl aY (ai (pv 0) aj)))) bA) (aw (bx (bq cg (aN (pv 1) rfl) (bP W.ab3 rfl) (bp _)) (aA (aI (dH pd (cv (ai bc aj)) (aU W.bytes h1 rfl aY (ai (aU W.anq h2 rfl aY (ai (aN (pv 0) rfl) aj)) aj))))) bA) (aw (bx (bq cg (aN (pv 1) rfl) (bP W.abS rfl) (bp _)) (aA (aI (aU W.event h3 rfl aY (ai (pv 0) (ai (aN (pv 1) rfl) aj))))) bA) (aw (bx (bq cg (aN (pv 1) rfl) (bP W.abV rfl) (bp _)) (aA (aI (aU W.ai7 h5 rfl aY (ai (pv 0) (ai (aN (pv 1) rfl) (ai (aN (pv 1) rfl) aj)))))) bA) (aA (aI (aU W.gI hr rfl cO (ai (pv 0) (ai (pv 1) aj))))))))))),?_⟩;have T:=W.tl;have jT:∀{a:List Int},out es (fZ n i t)=.ok (es,a)->a.length<=4000->jE H Q a:=fun e hl=>Sg cx (kS es _ e hl);refine⟨_,rfl,c,CL,dx,_,_,rfl,hc,T.cls,T.nf _ (by simp),rfl,rfl,_,rfl,bD (fun z=>?_) (fun z0=>?_)⟩
  .have z:n=0:=by have:=V.int.inj z;lia
   subst z;refine⟨_,rfl,_,rfl,c,CL,dx,_,_,rfl,hc,T.cls,T.nf _ (by simp),rfl,r,l,es,t,rfl,cx,fb,hl,fun ds e=>kS ds [0] ?_ (by show 1<=4000;lia),fun f e=>kE f ?_⟩
   .show out es (.load t)=_;unfold out;dsimp only;rw[e]
   .show out es (.load t)=_;unfold out;dsimp only;rw[e]
  refine⟨_,rfl,c,CL,dx,_,_,rfl,hc,T.cls,T.nf _ (by simp),rfl,rfl,_,rfl,bD (fun z=>?_) (fun z1=>?_)⟩
  .have z:n=1:=by have:=V.int.inj z;lia
   subst z;exact⟨_,rfl,_,rfl,c,CL,dx,_,_,rfl,hc,T.cls,T.nf _ (by simp),rfl,r,l,es,t,rfl,cx,fb,hl,kS _ _ rfl (by rw[ad3];lia)⟩
  refine⟨_,rfl,c,CL,dx,_,_,rfl,hc,T.cls,T.nf _ (by simp),rfl,rfl,_,rfl,bD (fun z=>?_) (fun z2=>?_)⟩
  .have z:n=2:=by have:=V.int.inj z;lia
   subst z;exact⟨_,rfl,_,rfl,c,CL,dx,_,_,rfl,hc,T.cls,T.nf _ (by simp),rfl,_,rfl,c,CL,dx,_,_,rfl,hc,T.cls,T.nf _ (by simp),rfl,r,l,es,i,t,rfl,cx,fb,hl,kS _ _ rfl (by rw[ad5];lia)⟩
  refine⟨_,rfl,c,CL,dx,_,_,rfl,hc,T.cls,T.nf _ (by simp),rfl,rfl,_,rfl,bD (fun z=>?_) (fun z3=>?_)⟩
  .have z:n=3:=by have:=V.int.inj z;lia
   subst z;exact⟨_,rfl,r,l,es,rfl,cx,kS _ _ rfl (by rw[ad4];lia)⟩
  refine⟨_,rfl,c,CL,dx,_,_,rfl,hc,T.cls,T.nf _ (by simp),rfl,rfl,_,rfl,bD (fun z=>?_) (fun z4=>?_)⟩
  .have z:n=4:=by have:=V.int.inj z;lia
   subst z;refine⟨(by show 1<=sizeLine;decide),fun p hp=>?_⟩;have s0:aq H (upd H p (.lst [.int 0])):=bj (aq.refl _) hp;have lV:upd H p (.lst [.int 0]) p=some (.lst (cf [0])):=aD;generalize upd H p (.lst [.int 0])=H0 at s0 lV ⊢;obtain⟨dr,as,g1,g2,g3,g4,g5⟩:=cx;have nN:=anr g4 g5;refine⟨_,rfl,r,CR,dr,_,_,rfl,s0 _ _ g1,W.tr.cls,W.tr.nf _ (by simp),rfl,l,as,es,rfl,s0 _ _ g2,g3.same s0,g4,g5,fun H2 s2=>?_⟩;refine⟨yW es,rfl,by lia,fun D H3 hD s3 e3=>?_⟩;rw[y3]at e3;have lU:(gO (yW es)).length<=1640:=by unfold gO;rw[bC];lia
   refine wm (s3 _ _ (s2 _ _ lV)) e3 (by show 1+_<=_;lia) fun q H4 hq s4 e4=>?_;have ja:=(s0.trans s2).trans s3;exact jT rfl (by show(gO (yW es)).length+1<=4000;lia) q H4 (ja.free hq) (ja.trans s4) e4
  refine⟨_,rfl,c,CL,dx,_,_,rfl,hc,T.cls,T.nf _ (by simp),rfl,rfl,_,rfl,bD (fun z=>?_) (fun z5=>?_)⟩
  .have z:n=5:=by have:=V.int.inj z;lia
   subst z;have dj:∀e∈es,jH e:=let ⟨_,_,_,_,_,q,_⟩:=cx;q
   have:=aoZ es i dj;exact⟨_,rfl,_,rfl,c,CL,dx,_,_,rfl,hc,T.cls,T.nf _ (by simp),rfl,r,l,es,i,rfl,cx,jT rfl (by lia)⟩
  refine⟨_,rfl,c,CL,dx,_,_,rfl,hc,T.cls,T.nf _ (by simp),rfl,rfl,_,rfl,bD (fun z=>?_) (fun z10=>?_)⟩
  .have z:n=10:=by have:=V.int.inj z;lia
   subst z;have:=ao0 es i t;exact⟨_,rfl,_,rfl,c,CL,dx,_,_,rfl,hc,T.cls,T.nf _ (by simp),rfl,_,rfl,c,CL,dx,_,_,rfl,hc,T.cls,T.nf _ (by simp),rfl,r,l,es,i,t,rfl,cx,fb,hl,jT rfl (by lia)⟩
  .have m0:¬n=0:=fun q=>z0 (by rw[q];rfl);have m1:¬n=1:=fun q=>z1 (by rw[q];rfl);have m2:¬n=2:=fun q=>z2 (by rw[q];rfl);have m3:¬n=3:=fun q=>z3 (by rw[q];rfl);have m4:¬n=4:=fun q=>z4 (by rw[q];rfl);have m5:¬n=5:=fun q=>z5 (by rw[q];rfl);have m10:¬n=10:=fun q=>z10 (by rw[q];rfl);exact⟨_,rfl,_,rfl,r,l,c,es,n,i,t,b,rfl,cx,⟨dx,hc⟩,fb,hl,by unfold zV;lia,pZ,kS,kE⟩
noncomputable abbrev M8:aW:=top 122
noncomputable abbrev ajr:List ah:=["calls","begin","number","behind","index","text","first"]
theorem pz:bE ajr ["calls","begin"] (aP M8):=bF
noncomputable def ve:List Nat:=[2,5,8,10,13,14]
noncomputable def L3:List Nat:=[3,4,5]
noncomputable def r9(n:Nat)(i:Int):List Int:=if n∈ve then[i]else[]
noncomputable def xV(n:Nat)(t:au):List Int:=if n∈L3 then[]else bS t.length::gO t
structure Qo(l:List Int)(n:Nat)(i:Int)(t:au)(rest:List Int):Prop where
 eq:l=(n:Int)::(r9 n i++(xV n t++rest))
 ix:¬n∈ve->i=0
 tx:n∈L3->t=[]
noncomputable def OH(K:aK)(CL:aa):Sp:=fun vs H Q Z=>∃(lc:aa)(ls rest:List Int)(p n:Nat)(i:Int)(t:au),vs=[.ref lc,.int (p:Nat)]/\aH K H lc (cf ls)/\p<=ls.length/\ls.length<=1000000/\Qo (ls.drop p) n i t rest/\t.length<=100000/\∀c H',H c=none->aq H H'->A4 CL H' c n i (Vt.clean t) (ls.length-rest.length)->Q (.ref c) H'
theorem Ll(x:Nat):∀l:List Nat,iX (.int (x:Nat)) (l.map fun n=>V.int ((n:Nat):Int))=decide (x∈l)
 |[]=>rfl
 |t::r=>by
  show(((t:Nat):Int)==((x:Nat):Int)||iX (.int (x:Nat)) (r.map fun n=>V.int ((n:Nat):Int)))=_;rw[Ll x r,gJ];simp only[Fs,beq_iff_eq,decide_eq_true_eq,bX];constructor
  .rintro(h|h)
   .exact .inl (by lia)
   .exact .inr h
  .rintro(h|h)
   .exact .inl (by lia)
   .exact .inr h
theorem akC{f:aa}{fd:bu}(F:bt K "cut_call" "cut_call" M8 f fd)(c1:KT K mg "CALLS_WITH_INDEX" (ve.map fun n=>V.int ((n:Nat):Int)))(c2:KT K mg "CALLS_WITHOUT_TEXT" (L3.map fun n=>V.int ((n:Nat):Int)))(F1:Fn P w K mg base az 2 "text_of" ["row"] (EY K))(M:Cl P w K mg base 1 "Call" CL DP (eP CL oO)):bh P w K mg base az 3 f fd ["calls","begin"] (OH K CL):=by
 refine F.ok pz (fun vs H Q E h=>?_) (fun aJ A outer s H vs Q E hr h=>?_)
 .obtain⟨lc,ls,rest,p,n,i,t,rfl,Z⟩:=h;rfl
 .obtain⟨lc,ls,rest,p,n,i,t,rfl,uz,hp,hlen,lR,zP,k⟩:=h;obtain⟨p1,q1,mK⟩:=c1;obtain⟨p2,q2,fX⟩:=c2;refine⟨_,aw (aZ (i:=2) pz.nd rfl (aF rfl) (bZ fc (pv 0) (pv 1) (fun Z Z=>rfl))) (aw (aZ (i:=3) pz.nd rfl (aF rfl) (dH mQ (pv 1) bc)) (aw (aZ (i:=4) pz.nd rfl (aF rfl) bc) (aw (bx (bq DM (pv 2) (bP q1 rfl) (by rfl)) (aw (aZ (i:=4) pz.nd rfl (aF rfl) (bZ fc (pv 0) (pv 3) (fun Z Z=>rfl))) (aA (pj (i:=3) pz.nd rfl (aF rfl) bc wY))) bA) (aw (aZ (i:=5) pz.nd rfl (aF rfl) bH) (aw (bx (bq Ak (pv 2) (bP q2 rfl) (by rfl)) (aw (aZ (i:=6) pz.nd rfl (aF rfl) (dH mQ (pv 3) bc)) (aw (aZ (i:=3) pz.nd rfl (aF rfl) (dH mQ (pv 6) (bZ fc (pv 0) (pv 3) (fun Z Z=>rfl)))) (aA (aZ (i:=5) pz.nd rfl (aF rfl) (aU F1 hr rfl aY (ai (mR u7 (pv 0) (gE (pv 6)) (gE (pv 3))) aj)))))) bA) (aA (aI (gC M hr rfl (ai (pv 2) (ai (pv 4) (ai (pv 5) (ai (pv 3) aj)))))))))))),?_⟩;have heq:=lR.eq;have get:∀(j:Nat)(x:Int),(ls.drop p)[j]? =some x->(cf ls)[p+j]? =some (V.int x):=fun j x e=>by
   rw[yb]at e;unfold cf;rw[bU,e];rfl
  have oX:=congrArg ox heq;rw[iM,cy,cY,cY]at oX;refine⟨_,rfl,_,rfl,lc,_,_,_,rfl,rfl,uz,bY (get 0 (n:Int) (by rw[heq];rfl)),?_⟩;refine⟨_,rfl,_,_,rfl,rfl,?_⟩;dsimp only[b7];rw[show((p:Nat):Int)+1=((p+1:Nat):Int) by lia];have tail:∀(m:Nat),m=p+1+(r9 n i).length->b9 (cE (tC (.str (bB ""))) (b7 5)) (b9 (cU (cb (bG (DZ K true) (aS 2) (tC (.ref p2)))) (b9 (cE (bG (j7 fun i j=>V.int (i+j)) (aS 3) (tC (.int 1))) (b7 6)) (b9 (cE (bG (j7 fun i j=>V.int (i+j)) (aS 6) (bG (n9 K) (aS 0) (aS 3))) (b7 3)) (cE (g0 (EY K) E0 (bQ (xQ (xw K) (aS 0) (pC (aS 6)) (pC (aS 3))) dk)) (b7 5)))) cP) (b8 (sU CL (eP CL oO) (bQ (aS 2) (bQ (aS 4) (bQ (aS 5) (bQ (aS 3) dk))))))) {nx:=fun Z H'=>Q .aO H',rt:=Q} [some (.ref lc),some (.int (p:Nat)),some (.int (n:Nat)),some (.int (m:Nat)),some (.int i),none,none] H:=fun m hm=>by
   have hd2:(ls.drop p).drop (1+(r9 n i).length)=xV n t++rest:=by
    rw[heq,QV 1,Zj,Bb]
   refine⟨_,rfl,p2,_,rfl,.inr (fX _),rfl,rfl,_,rfl,?_⟩;rw[if_pos rfl,Ll];refine eO (fun z=>?_) (fun z=>?_)
   .have et:xV n t=bS t.length::gO t:=if_neg z;rw[et]at hd2 oX;have lU:(gO t).length=t.length:=by unfold gO;rw[bC]
    rw[cy,lU]at oX;refine⟨_,rfl,_,_,rfl,rfl,?_⟩;refine⟨_,rfl,_,rfl,_,rfl,lc,_,_,_,rfl,rfl,uz,bY (j:=m) (v:=V.int (bS t.length)) ?_,_,_,rfl,rfl,?_⟩
    .have:=get (1+(r9 n i).length) (bS t.length) (by
      have h1:=congrArg (fun l:List Int=>l[0]?) hd2;simp only[yb,nh,FK,F7]at h1;rw[yb];exact h1)
     rw[hm,Nat.add_assoc];exact this
    dsimp only[b7];rw[show((m:Nat):Int)+1+bS t.length=((m+1+t.length:Nat):Int) by show((m:Nat):Int)+1+((t.length:Nat):Int)=_;lia,show((m:Nat):Int)+1=((m+1:Nat):Int) by lia];refine⟨_,rfl,_,rfl,_,rfl,_,rfl,_,rfl,lc,_,rfl,uz,fun q hq=>?_⟩;have t8:mJ (cf ls) (some ((m+1:Nat):Int)) (some ((m+1+t.length:Nat):Int))=mH t:=by
     rw[Cq _ (by rw[jy];lia) (by rw[jy];lia),y3];unfold cf;rw[<-oz,<-tF];congr 1;have h2:ls.drop (m+1)=gO t++rest:=by
      have h3:=congrArg (fun l:List Int=>l.drop 1) hd2;simp only[pH,nh,Zj,j9]at h3;rw[<-h3];congr 1;lia
     rw[h2,show m+1+t.length-(m+1)=(gO t).length by lia,FZ]
    rw[t8];have s1:aq H (upd H q (.lst (mH t))):=bj (aq.refl _) hq;refine⟨q,t,rfl,aH.of aD,zP,fun H2 s2=>?_⟩;have bJ:=s1.trans s2;refine⟨_,rfl,_,rfl,_,rfl,_,rfl,VJ (CL:=CL) (Q:=Q) fun c H3 hc s3 p9=>?_⟩;refine k c H3 (bJ.free hc) (bJ.trans s3) ?_;rw[show ls.length-rest.length=m+1+t.length by lia];exact p9
   .have et:xV n t=[]:=if_pos z;rw[et]at oX;rw[je]at oX;have ht:=lR.tx z;subst ht;refine⟨_,rfl,_,rfl,_,rfl,_,rfl,VJ (CL:=CL) (Q:=Q) (t:=[]) fun c H3 hc s3 p9=>?_⟩;refine k c H3 hc s3 ?_;rw[show ls.length-rest.length=m by lia];exact p9
  refine⟨_,rfl,p1,_,rfl,.inr (mK _),rfl,rfl,_,rfl,?_⟩;rw[show(if(false:Bool)=true then !iX (.int (n:Nat)) (ve.map fun n=>V.int ((n:Nat):Int))else iX (.int (n:Nat)) (ve.map fun n=>V.int ((n:Nat):Int)))=decide (n∈ve)from Ll n ve];refine bD (fun z=>?_) (fun z=>?_)
  .have ei:r9 n i=[i]:=if_pos z;refine⟨_,rfl,_,rfl,lc,_,_,_,rfl,rfl,uz,bY (get 1 i (by rw[heq,ei];rfl)),?_⟩;refine⟨_,rfl,_,_,rfl,rfl,?_⟩;have:=tail (p+2) (by rw[ei];rfl);rw[show((p+2:Nat):Int)=((p+1:Nat):Int)+1 by lia]at this;exact this
  .have ei:r9 n i=[]:=if_neg z;have hi0:=lR.ix z;subst hi0;exact tail (p+1) (by rw[ei];rfl)
open Vatrca (faulty)
noncomputable abbrev MZ:aW:=top 123
noncomputable abbrev ajk:List ah:=["run","call","fault"]
theorem Xw:bE ajk ["run","call"] (aP MZ):=bF
noncomputable def OC(CE CR CL:aa):Sp:=fun vs H Q Z=>∃(r l c:aa)(es:List bg)(n:Nat)(i:Int)(t:au)(b:Nat),vs=[.ref r,.ref c]/\Rn CE CR H r l es/\A4 CL H c n i t b/\ek t/\t.length<=100000/\n<=14/\∀ds a,sR es (out es (fZ n i t))=(⟨ds⟩,a)->a.length<=4000->u9 CE CR H Q r l ds a
theorem akq{f:aa}{fd:bu}(F:bt K "answer_of" "answer_of" MZ f fd)(T:Flt K mg CF)(F1:Fn P w K mg base (XE P w) 155 "made_answer" ["run","call"] (xG CE CR CL CF fun Z=>True)):bh P w K mg base az 156 f fd ["run","call"] (OC CE CR CL):=by
 refine F.ok Xw (fun vs H Q E h=>?_) (fun aJ A outer s H vs Q E hr h=>?_)
 .obtain⟨r,l,c,es,n,i,t,b,rfl,Z⟩:=h;rfl
 .obtain⟨r,l,c,es,n,i,t,b,rfl,cx,p9,fb,hl,pZ,k⟩:=h;refine⟨_,aA (amO (i:=2) T F1 rfl rfl hr rfl rfl Xw.nd rfl rfl rfl (fun Z=>rfl) (fun pn xe=>ai (pv 0) (ai (pv 1) aj))),?_⟩;refine⟨_,rfl,_,rfl,r,l,c,es,n,i,t,b,rfl,cx,p9,fb,hl,trivial,pZ,fun ds a e dO=>k ds a (by rw[e];rfl) dO,fun f e H' dx s' hx=>⟨rfl,dx,_,_,rfl,hx,fun p hp=>?_⟩⟩;obtain⟨Z,Z,Z,iC,Z⟩:=id cx;have b0:p≠l:=(cC (s' _ _ iC) hp).symm;exact k es (faulty f) (by rw[e];rfl) (by show 2<=4000;lia) p _ (s'.free hp) b0 (oG.of cx (bj s' hp)) aD
noncomputable def ib(x:List Int):au:=x.map fun b=>jN b.toNat
theorem ajY{z:Int}(h:jR z 8=true):0<=z/\z<256:=by
 unfold jR at h;rw[cH,decide_eq_true_eq,decide_eq_true_eq]at h;exact⟨h.1,h.2⟩
theorem We:∀{x:List Int},(x.all fun z=>jR z 8)=true->gO (ib x)=x
 |[],_=>rfl
 |z::r,h=>by
  rw[ip,cH]at h;obtain⟨h1,h2⟩:=ajY h.1;show((jN z.toNat).toNat:Int)::gO (ib r)=_;rw[We h.2,UInt8.toNat_ofNat'];congr 1;have:z.toNat<256:=by lia
  rw[Nat.mod_eq_of_lt this];lia
theorem mZ{x:List Int}{t:au}(h:fC x=some t):t=ib x:=by
 unfold fC at h;split at h
 .cases h;rfl
 .cases h
set_option tactic.hygienic true in
theorem mV{r x t:List Int}(h:qO r=some (x,t))(hb:(x.all fun z=>jR z 8)=true):r=bS (ib x).length::(gO (ib x)++t)/\(ib x).length=x.length:=by
 have hl:(ib x).length=x.length:=bC _;refine⟨?_,hl⟩;rw[We hb,hl];unfold qO at h;split at h
 .cases h
 .rename_i n r';split at h
  .rename_i z;cases h;rw[QP,iN];congr 1;show n=((min n.toNat r'.length:Nat):Int);lia
  .cases h
theorem an8{p:Int}{q:Nat×Nat}(h:eE p=some q):∃n:Nat,n<=14/\p=(n:Nat):=by
 by_cases h0:p=0
 .exact⟨0,by lia,h0⟩
 by_cases h1:p=1
 .exact⟨1,by lia,h1⟩
 by_cases h2:p=2
 .exact⟨2,by lia,h2⟩
 by_cases h3:p=3
 .exact⟨3,by lia,h3⟩
 by_cases h4:p=4
 .exact⟨4,by lia,h4⟩
 by_cases h5:p=5
 .exact⟨5,by lia,h5⟩
 by_cases h6:p=6
 .exact⟨6,by lia,h6⟩
 by_cases h7:p=7
 .exact⟨7,by lia,h7⟩
 by_cases h8:p=8
 .exact⟨8,by lia,h8⟩
 by_cases h9:p=9
 .exact⟨9,by lia,h9⟩
 by_cases CH:p=10
 .exact⟨10,by lia,CH⟩
 by_cases CI:p=11
 .exact⟨11,by lia,CI⟩
 by_cases CJ:p=12
 .exact⟨12,by lia,CJ⟩
 by_cases CK:p=13
 .exact⟨13,by lia,CK⟩
 by_cases pZ:p=14
 .exact⟨14,by lia,pZ⟩
 unfold eE at h;rw[if_neg h0,if_neg h1,if_neg h2,if_neg h3,if_neg h4,if_neg h5,if_neg h6,if_neg h7,if_neg h8,if_neg h9,if_neg CH,if_neg CI,if_neg CJ,if_neg CK,if_neg pZ]at h;cases h
structure Cut(l:List Int)(c:List (List Int))(rest:List Int)(n:Nat)(i:Int)(t:au):Prop where
 cut:Qo l n i t rest
 call:eM c=some (fZ n i t)
 len:t.length<=4000
 n14:n<=14
theorem jU{p:Int}{r:List Int}{c:List (List Int)}{t:List Int}{a b:Nat}(hs:eE p=some (a,b))(h:gK eE (p::r)=some (c,t)):¬r.length<a/\∃xs,Bp b (r.drop a)=some (xs,t)/\c=(p::r.take a)::xs:=by
 unfold gK at h;dsimp only at h;rw[hs]at h;dsimp only at h;split at h
 .cases h
 .rename_i z;refine⟨z,?_⟩;cases e:Bp b (r.drop a)with
  |none=>rw[e]at h;cases h
  |some y=>
   obtain⟨xs,t'⟩:=y;rw[e]at h;cases h;exact⟨xs,rfl,rfl⟩
theorem mW{r:List Int}{xs:List (List Int)}{t:List Int}(h:Bp 1 r=some (xs,t)):∃x,qO r=some (x,t)/\xs=[x]:=by
 unfold Bp at h;cases e:qO r with
 |none=>rw[e]at h;cases h
 |some y=>
  obtain⟨x,s⟩:=y;rw[e]at h;dsimp only[Bp]at h;cases h;exact⟨x,rfl,rfl⟩
theorem xk{r:List Int}(h:¬r.length<1):∃i r',r=i::r':=by
 cases r with
 |nil=>exact absurd (by decide) h
 |cons i r'=>exact⟨i,r',rfl⟩
theorem acu{r:List Int}{c:List (List Int)}{t:List Int}(h:gK eE (0::r)=some (c,t))(ha:jQ c=true)(hc:(eM c).isSome=true):∃i x,Cut (0::r) c t 0 i x:=by
 obtain⟨Z,xs,h2,rfl⟩:=jU (a:=0) (b:=1) rfl h;obtain⟨x,h3,rfl⟩:=mW h2;rw[j9]at h3;have ha:((x.all fun z=>jR z 8)&&decide (x.length<=4000))=true:=ha;rw[cH,decide_eq_true_eq]at ha;obtain⟨e1,e2⟩:=mV h3 ha.1;have dD:eM [0::r.take 0,x]=(fC x).map (fZ 0 0):=rfl;rw[dD]at hc;cases e3:fC x with
 |none=>rw[e3]at hc;cases hc
 |some u=>
  have:=mZ e3;subst this;exact⟨0,ib x,⟨by rw[e1];rfl,fun Z=>rfl,fun z=>absurd z (by decide)⟩,by rw[dD,e3];rfl,by lia,by lia⟩
theorem acv{r:List Int}{c:List (List Int)}{t:List Int}(h:gK eE (1::r)=some (c,t))(ha:jQ c=true)(hc:(eM c).isSome=true):∃i x,Cut (1::r) c t 1 i x:=by
 obtain⟨Z,xs,h2,rfl⟩:=jU (a:=0) (b:=1) rfl h;obtain⟨x,h3,rfl⟩:=mW h2;rw[j9]at h3;have ha:((x.all fun z=>jR z 8)&&decide (x.length<=4000))=true:=ha;rw[cH,decide_eq_true_eq]at ha;obtain⟨e1,e2⟩:=mV h3 ha.1;have dD:eM [1::r.take 0,x]=(fC x).map (fZ 1 0):=rfl;rw[dD]at hc;cases e3:fC x with
 |none=>rw[e3]at hc;cases hc
 |some u=>
  have:=mZ e3;subst this;exact⟨0,ib x,⟨by rw[e1];rfl,fun Z=>rfl,fun z=>absurd z (by decide)⟩,by rw[dD,e3];rfl,by lia,by lia⟩
theorem gQ{r:List Int}{c:List (List Int)}{t:List Int}(h:gK eE (2::r)=some (c,t))(ha:jQ c=true)(hc:(eM c).isSome=true):∃i x,Cut (2::r) c t 2 i x:=by
 obtain⟨h1,xs,h2,rfl⟩:=jU (a:=1) (b:=1) rfl h;obtain⟨i,r,rfl⟩:=xk h1;obtain⟨x,h3,rfl⟩:=mW h2;have ha:(B4 i&&((x.all fun z=>jR z 8)&&decide (x.length<=4000)))=true:=ha;rw[cH,cH,decide_eq_true_eq]at ha;have h3:qO r=some (x,t):=h3;obtain⟨e1,e2⟩:=mV h3 ha.2.1;have dD:eM [2::(i::r).take 1,x]=(fC x).map (fZ 2 i):=rfl;rw[dD]at hc;cases e3:fC x with
 |none=>rw[e3]at hc;cases hc
 |some u=>
  have:=mZ e3;subst this;exact⟨i,ib x,⟨by rw[e1];rfl,fun z=>absurd (by decide) z,fun z=>absurd z (by decide)⟩,by rw[dD,e3];rfl,by lia,by lia⟩
theorem acB{r:List Int}{c:List (List Int)}{t:List Int}(h:gK eE (3::r)=some (c,t))(ha:jQ c=true)(hc:(eM c).isSome=true):∃i x,Cut (3::r) c t 3 i x:=by
 obtain⟨Z,xs,h2,rfl⟩:=jU (a:=0) (b:=0) rfl h;have h2:some (([]:List (List Int)),r)=some (xs,t):=h2;cases h2;exact⟨0,[],⟨rfl,fun Z=>rfl,fun Z=>rfl⟩,rfl,by simp,by lia⟩
theorem acC{r:List Int}{c:List (List Int)}{t:List Int}(h:gK eE (4::r)=some (c,t))(ha:jQ c=true)(hc:(eM c).isSome=true):∃i x,Cut (4::r) c t 4 i x:=by
 obtain⟨Z,xs,h2,rfl⟩:=jU (a:=0) (b:=0) rfl h;have h2:some (([]:List (List Int)),r)=some (xs,t):=h2;cases h2;exact⟨0,[],⟨rfl,fun Z=>rfl,fun Z=>rfl⟩,rfl,by simp,by lia⟩
theorem acD{r:List Int}{c:List (List Int)}{t:List Int}(h:gK eE (5::r)=some (c,t))(ha:jQ c=true)(hc:(eM c).isSome=true):∃i x,Cut (5::r) c t 5 i x:=by
 obtain⟨h1,xs,h2,rfl⟩:=jU (a:=1) (b:=0) rfl h;obtain⟨i,r,rfl⟩:=xk h1;have h2:some (([]:List (List Int)),r)=some (xs,t):=h2;cases h2;exact⟨i,[],⟨rfl,fun z=>absurd (by decide) z,fun Z=>rfl⟩,rfl,by simp,by lia⟩
theorem acE{r:List Int}{c:List (List Int)}{t:List Int}(h:gK eE (6::r)=some (c,t))(ha:jQ c=true)(hc:(eM c).isSome=true):∃i x,Cut (6::r) c t 6 i x:=by
 obtain⟨Z,xs,h2,rfl⟩:=jU (a:=0) (b:=1) rfl h;obtain⟨x,h3,rfl⟩:=mW h2;rw[j9]at h3;have ha:((x.all fun z=>jR z 8)&&decide (x.length<=4000))=true:=ha;rw[cH,decide_eq_true_eq]at ha;obtain⟨e1,e2⟩:=mV h3 ha.1;have dD:eM [6::r.take 0,x]=(fC x).map (fZ 6 0):=rfl;rw[dD]at hc;cases e3:fC x with
 |none=>rw[e3]at hc;cases hc
 |some u=>
  have:=mZ e3;subst this;exact⟨0,ib x,⟨by rw[e1];rfl,fun Z=>rfl,fun z=>absurd z (by decide)⟩,by rw[dD,e3];rfl,by lia,by lia⟩
theorem acF{r:List Int}{c:List (List Int)}{t:List Int}(h:gK eE (7::r)=some (c,t))(ha:jQ c=true)(hc:(eM c).isSome=true):∃i x,Cut (7::r) c t 7 i x:=by
 obtain⟨Z,xs,h2,rfl⟩:=jU (a:=0) (b:=1) rfl h;obtain⟨x,h3,rfl⟩:=mW h2;rw[j9]at h3;have ha:((x.all fun z=>jR z 8)&&decide (x.length<=4000))=true:=ha;rw[cH,decide_eq_true_eq]at ha;obtain⟨e1,e2⟩:=mV h3 ha.1;have dD:eM [7::r.take 0,x]=(fC x).map (fZ 7 0):=rfl;rw[dD]at hc;cases e3:fC x with
 |none=>rw[e3]at hc;cases hc
 |some u=>
  have:=mZ e3;subst this;exact⟨0,ib x,⟨by rw[e1];rfl,fun Z=>rfl,fun z=>absurd z (by decide)⟩,by rw[dD,e3];rfl,by lia,by lia⟩
theorem acG{r:List Int}{c:List (List Int)}{t:List Int}(h:gK eE (8::r)=some (c,t))(ha:jQ c=true)(hc:(eM c).isSome=true):∃i x,Cut (8::r) c t 8 i x:=by
 obtain⟨h1,xs,h2,rfl⟩:=jU (a:=1) (b:=1) rfl h;obtain⟨i,r,rfl⟩:=xk h1;obtain⟨x,h3,rfl⟩:=mW h2;have ha:(B4 i&&((x.all fun z=>jR z 8)&&decide (x.length<=4000)))=true:=ha;rw[cH,cH,decide_eq_true_eq]at ha;have h3:qO r=some (x,t):=h3;obtain⟨e1,e2⟩:=mV h3 ha.2.1;have dD:eM [8::(i::r).take 1,x]=(fC x).map (fZ 8 i):=rfl;rw[dD]at hc;cases e3:fC x with
 |none=>rw[e3]at hc;cases hc
 |some u=>
  have:=mZ e3;subst this;exact⟨i,ib x,⟨by rw[e1];rfl,fun z=>absurd (by decide) z,fun z=>absurd z (by decide)⟩,by rw[dD,e3];rfl,by lia,by lia⟩
theorem acH{r:List Int}{c:List (List Int)}{t:List Int}(h:gK eE (9::r)=some (c,t))(ha:jQ c=true)(hc:(eM c).isSome=true):∃i x,Cut (9::r) c t 9 i x:=by
 obtain⟨Z,xs,h2,rfl⟩:=jU (a:=0) (b:=1) rfl h;obtain⟨x,h3,rfl⟩:=mW h2;rw[j9]at h3;have ha:((x.all fun z=>jR z 8)&&decide (x.length<=4000))=true:=ha;rw[cH,decide_eq_true_eq]at ha;obtain⟨e1,e2⟩:=mV h3 ha.1;have dD:eM [9::r.take 0,x]=(fC x).map (fZ 9 0):=rfl;rw[dD]at hc;cases e3:fC x with
 |none=>rw[e3]at hc;cases hc
 |some u=>
  have:=mZ e3;subst this;exact⟨0,ib x,⟨by rw[e1];rfl,fun Z=>rfl,fun z=>absurd z (by decide)⟩,by rw[dD,e3];rfl,by lia,by lia⟩
theorem acw{r:List Int}{c:List (List Int)}{t:List Int}(h:gK eE (10::r)=some (c,t))(ha:jQ c=true)(hc:(eM c).isSome=true):∃i x,Cut (10::r) c t 10 i x:=by
 obtain⟨h1,xs,h2,rfl⟩:=jU (a:=1) (b:=1) rfl h;obtain⟨i,r,rfl⟩:=xk h1;obtain⟨x,h3,rfl⟩:=mW h2;have ha:(B4 i&&((x.all fun z=>jR z 8)&&decide (x.length<=4000)))=true:=ha;rw[cH,cH,decide_eq_true_eq]at ha;have h3:qO r=some (x,t):=h3;obtain⟨e1,e2⟩:=mV h3 ha.2.1;have dD:eM [10::(i::r).take 1,x]=(fC x).map (fZ 10 i):=rfl;rw[dD]at hc;cases e3:fC x with
 |none=>rw[e3]at hc;cases hc
 |some u=>
  have:=mZ e3;subst this;exact⟨i,ib x,⟨by rw[e1];rfl,fun z=>absurd (by decide) z,fun z=>absurd z (by decide)⟩,by rw[dD,e3];rfl,by lia,by lia⟩
theorem acx{r:List Int}{c:List (List Int)}{t:List Int}(h:gK eE (11::r)=some (c,t))(ha:jQ c=true)(hc:(eM c).isSome=true):∃i x,Cut (11::r) c t 11 i x:=by
 obtain⟨Z,xs,h2,rfl⟩:=jU (a:=0) (b:=1) rfl h;obtain⟨x,h3,rfl⟩:=mW h2;rw[j9]at h3;have ha:((x.all fun z=>jR z 8)&&decide (x.length<=4000))=true:=ha;rw[cH,decide_eq_true_eq]at ha;obtain⟨e1,e2⟩:=mV h3 ha.1;have dD:eM [11::r.take 0,x]=(fC x).map (fZ 11 0):=rfl;rw[dD]at hc;cases e3:fC x with
 |none=>rw[e3]at hc;cases hc
 |some u=>
  have:=mZ e3;subst this;exact⟨0,ib x,⟨by rw[e1];rfl,fun Z=>rfl,fun z=>absurd z (by decide)⟩,by rw[dD,e3];rfl,by lia,by lia⟩
theorem acy{r:List Int}{c:List (List Int)}{t:List Int}(h:gK eE (12::r)=some (c,t))(ha:jQ c=true)(hc:(eM c).isSome=true):∃i x,Cut (12::r) c t 12 i x:=by
 obtain⟨Z,xs,h2,rfl⟩:=jU (a:=0) (b:=1) rfl h;obtain⟨x,h3,rfl⟩:=mW h2;rw[j9]at h3;have ha:((x.all fun z=>jR z 8)&&decide (x.length<=4000))=true:=ha;rw[cH,decide_eq_true_eq]at ha;obtain⟨e1,e2⟩:=mV h3 ha.1;have dD:eM [12::r.take 0,x]=(fC x).map (fZ 12 0):=rfl;rw[dD]at hc;cases e3:fC x with
 |none=>rw[e3]at hc;cases hc
 |some u=>
  have:=mZ e3;subst this;exact⟨0,ib x,⟨by rw[e1];rfl,fun Z=>rfl,fun z=>absurd z (by decide)⟩,by rw[dD,e3];rfl,by lia,by lia⟩
theorem acz{r:List Int}{c:List (List Int)}{t:List Int}(h:gK eE (13::r)=some (c,t))(ha:jQ c=true)(hc:(eM c).isSome=true):∃i x,Cut (13::r) c t 13 i x:=by
 obtain⟨h1,xs,h2,rfl⟩:=jU (a:=1) (b:=1) rfl h;obtain⟨i,r,rfl⟩:=xk h1;obtain⟨x,h3,rfl⟩:=mW h2;have ha:(B4 i&&((x.all fun z=>jR z 8)&&decide (x.length<=4000)))=true:=ha;rw[cH,cH,decide_eq_true_eq]at ha;have h3:qO r=some (x,t):=h3;obtain⟨e1,e2⟩:=mV h3 ha.2.1;have dD:eM [13::(i::r).take 1,x]=(fC x).map (fZ 13 i):=rfl;rw[dD]at hc;cases e3:fC x with
 |none=>rw[e3]at hc;cases hc
 |some u=>
  have:=mZ e3;subst this;exact⟨i,ib x,⟨by rw[e1];rfl,fun z=>absurd (by decide) z,fun z=>absurd z (by decide)⟩,by rw[dD,e3];rfl,by lia,by lia⟩
theorem acA{r:List Int}{c:List (List Int)}{t:List Int}(h:gK eE (14::r)=some (c,t))(ha:jQ c=true)(hc:(eM c).isSome=true):∃i x,Cut (14::r) c t 14 i x:=by
 obtain⟨h1,xs,h2,rfl⟩:=jU (a:=1) (b:=1) rfl h;obtain⟨i,r,rfl⟩:=xk h1;obtain⟨x,h3,rfl⟩:=mW h2;have ha:(B4 i&&((x.all fun z=>jR z 8)&&decide (x.length<=4000)))=true:=ha;rw[cH,cH,decide_eq_true_eq]at ha;have h3:qO r=some (x,t):=h3;obtain⟨e1,e2⟩:=mV h3 ha.2.1;have dD:eM [14::(i::r).take 1,x]=(fC x).map (fZ 14 i):=rfl;rw[dD]at hc;cases e3:fC x with
 |none=>rw[e3]at hc;cases hc
 |some u=>
  have:=mZ e3;subst this;exact⟨i,ib x,⟨by rw[e1];rfl,fun z=>absurd (by decide) z,fun z=>absurd z (by decide)⟩,by rw[dD,e3];rfl,by lia,by lia⟩
theorem acM{l:List Int}{c:List (List Int)}{t:List Int}(h:gK eE l=some (c,t))(ha:jQ c=true)(hc:(eM c).isSome=true):∃n i x,Cut l c t n i x:=by
 cases l with
 |nil=>cases h
 |cons p r=>
  cases e:eE p with
  |none=>
   unfold gK at h;dsimp only at h;rw[e]at h;cases h
  |some q=>
   obtain⟨n,hn,rfl⟩:=an8 e;obtain rfl|rfl|rfl|rfl|rfl|rfl|rfl|rfl|rfl|rfl|rfl|rfl|rfl|rfl|rfl:n=0\/n=1\/n=2\/n=3\/n=4\/n=5\/n=6\/n=7\/n=8\/n=9\/n=10\/n=11\/n=12\/n=13\/n=14:=by lia
   .exact⟨_,acu h ha hc⟩
   .exact⟨_,acv h ha hc⟩
   .exact⟨_,gQ h ha hc⟩
   .exact⟨_,acB h ha hc⟩
   .exact⟨_,acC h ha hc⟩
   .exact⟨_,acD h ha hc⟩
   .exact⟨_,acE h ha hc⟩
   .exact⟨_,acF h ha hc⟩
   .exact⟨_,acG h ha hc⟩
   .exact⟨_,acH h ha hc⟩
   .exact⟨_,acw h ha hc⟩
   .exact⟨_,acx h ha hc⟩
   .exact⟨_,acy h ha hc⟩
   .exact⟨_,acz h ha hc⟩
   .exact⟨_,acA h ha hc⟩
theorem ab9{f:Nat}{l:List Int}{cs:List (List (List Int))}(h:qN eE f l=some cs)(hl:l≠[]):∃g c t Cm,gK eE l=some (c,t)/\qN eE g t=some Cm/\cs=c::Cm:=by
 cases l with
 |nil=>exact absurd rfl hl
 |cons p r=>
  cases f with
  |zero=>cases h
  |succ f=>
   unfold qN at h;cases e:gK eE (p::r)with
   |none=>rw[e]at h;cases h
   |some y=>
    obtain⟨c,t⟩:=y;rw[e]at h;dsimp only at h;cases e2:qN eE f t with
    |none=>rw[e2]at h;cases h
    |some Cm=>
     rw[e2]at h;cases h;exact⟨f,c,t,Cm,rfl,e2,rfl⟩
theorem acb{f:Nat}{cs:List (List (List Int))}(h:qN eE f []=some cs):cs=[]:=by
 cases f<;>(cases h;rfl)
theorem aoy{es:List bg}{c:List (List Int)}{n:Nat}{i:Int}{t:au}(h:eM c=some (fZ n i t)):rD ⟨es⟩ c=sR es (out es (fZ n i (Vt.clean t))):=by
 unfold rD;rw[h,al0,<-aoz];rfl
theorem Rn.lst{CE CR:aa}{H:Hp}{r l p:aa}{es:List bg}{xs ys:List V}(h:Rn CE CR H r l es)(hp:H p=some (.lst xs))(b0:p≠l):Rn CE CR (upd H p (.lst ys)) r l es:=by
 obtain⟨dx,as,h1,h2,h3,h4⟩:=h;exact⟨dx,as,by rw[ba (fe h1 hp (fun z=>by cases z))];exact h1,by rw[ba b0.symm];exact h2,h3.lst hp,h4⟩
noncomputable abbrev M0:aW:=top 121
noncomputable abbrev ajl:List ah:=["calls","run","told","begin","call","answer"]
theorem u4:bE ajl ["calls"] (aP M0):=bF
noncomputable def ER(K:aK):Sp:=fun vs H Q Z=>∃(lc:aa)(ls:List Int),vs=[.ref lc]/\aH K H lc (cf ls)/\ls.length<=1000000/\aa2 ls=true/\∀D H',H D=none->aq H H'->H' D=some (.lst (cf (aa1 ls)))->Q (.ref D) H'
theorem akr{f:aa}{fd:bu}(F:bt K "answers" "answers" M0 f fd)(B:Bt mg)(TL:Ty K CL oO)(M:Cl P w K mg base 1 "Run" CR ["self"] (OZ CR))(F1:Fn P w K mg base az 3 "cut_call" ["calls","begin"] (OH K CL))(F2:Fn P w K mg base az 156 "answer_of" ["run","call"] (OC CE CR CL)):bh P w K mg base az 157 f fd ["calls"] (ER K):=by
 refine F.ok u4 (fun vs H Q E h=>?_) (fun aJ A outer s H vs Q E hr h=>?_)
 .obtain⟨lc,ls,rfl,Z⟩:=h;rfl
 .obtain⟨lc,ls,rfl,uz,hlen,ju,k⟩:=h;have ck:bb 2 _:=hr.mono (by lia);have dU:bb 3 _:=hr.mono (by lia);refine⟨_,aw (aZ (i:=1) u4.nd rfl (aF rfl) (amu M ck rfl)) (aw (aZ (i:=2) u4.nd rfl (aF rfl) (cv aj)) (aw (aZ (i:=3) u4.nd rfl (aF rfl) bc) (aw (uR kg (bq nU (pv 3) (cK fR (by rfl) B.len dv (ai (pv 0) aj)) (bp _)) (aw (aZ (i:=4) u4.nd rfl (aF rfl) (aU F1 dU rfl aY (ai (pv 0) (ai (pv 3) aj)))) (aw (aZ (i:=5) u4.nd rfl (aF rfl) (aU F2 hr rfl aY (ai (pv 1) (ai (pv 4) aj)))) (aw (ej (iG g9 lj mi lZ (pv 2) (ai (cK fR (by rfl) B.len dv (ai (pv 5) aj)) aj))) (aw (ej (iG g9 Bs Gm Dv (pv 2) (ai (pv 5) aj))) (aA (aZ (i:=3) u4.nd rfl (aF rfl) (aN (pv 4) rfl)))))))) (aA (aI (pv 2)))))),?_⟩;unfold aa2 at ju;unfold aa1 at k;rw[Vt.aca]at ju k;cases zo:qN eE ls.length ls with
  |none=>rw[zo]at ju;cases ju
  |some cs=>
  rw[zo]at ju k;dsimp only at ju k;rw[cH]at ju;have apW:cs.length<=400:=of_decide_eq_true ju.1;have ju:=ju.2;unfold VatrcaNeutral.asked at ju;rw[cH,cH,k7,k7]at ju;have afW:=ju.1.1;have afX:=ju.1.2;refine fun r dx n1 n2 n3=>⟨r,dx,rfl,aD,fun l0 iC=>⟨rfl,?_⟩⟩;have UD:l0≠r:=fun z=>by rw[z,aD]at iC;cases iC
  have agx:l0≠dx:=fun z=>by rw[z,ba n3,aD]at iC;cases iC
  have UC:H l0=none:=by rw[ba UD,ba agx]at iC;exact iC
  have MO:Rn CE CR (upd (upd (upd (upd H dx (.own r)) r (.ins CR dx [])) l0 (.lst [])) r (.ins CR dx [("events",.ref l0)])) r l0 []:=⟨dx,[],aD,by rw[ba UD,aD];rfl,eQ.nil,fun e he=>(nomatch he),by simp⟩;have Ow:aq H (upd (upd (upd (upd H dx (.own r)) r (.ins CR dx [])) l0 (.lst [])) r (.ins CR dx [("events",.ref l0)])):=fun b o e=>by
   have b1:b≠r:=cC e n1;have b2:b≠dx:=cC e n2;have b3:b≠l0:=cC e UC;rw[ba b1,ba b3,ba b1,ba b2];exact e
  generalize upd (upd (upd (upd H dx (.own r)) r (.ins CR dx [])) l0 (.lst [])) r (.ins CR dx [("events",.ref l0)])=H1 at MO Ow;refine⟨dJ _,fun lt bI=>?_⟩;have KO:H lt=none:=Ow.free bI;have agE:lt≠l0:=by
   obtain⟨Z,Z,Z,q,Z⟩:=MO;exact(cC q bI).symm
  have UG:upd H1 lt (.lst []) lt=some (.lst (cf [])):=aD;have X8:aq H (upd H1 lt (.lst [])):=bj Ow bI;have Xm:Rn CE CR (upd H1 lt (.lst [])) r l0 []:=MO.same (bj (aq.refl _) bI);generalize upd H1 lt (.lst [])=H2 at UG X8 Xm;try dsimp only[b7,b9,cU,cb,bG,cP,dX,cE,b8]
  let Iv:Nat->L2.St->Hp->Prop:=fun m σ H'=>∃(p:Nat)(v4 v5:Option V)(es:List bg)(l:aa)(tl:List Int)(f:Nat)(rs:List (List (List Int))),m=rs.length/\σ=[some (.ref lc),some (.ref r),some (.ref lt),some (.int (p:Nat)),v4,v5]/\p<=ls.length/\aq H H'/\Rn CE CR H' r l es/\H l=none/\lt≠l/\H' lt=some (.lst (cf tl))/\qN eE f (ls.drop p)=some rs/\(∀c∈rs,c∈cs)/\tl.length+4001*rs.length<=4001*400/\Bq (Gf rD abd cs)=tl++Bq (Gf rD ⟨es⟩ rs)
  refine⟨Iv,⟨_,0,none,none,[],l0,[],ls.length,cs,rfl,rfl,dJ _,X8,Xm,UC,agE,UG,by rw[j9];exact zo,fun c hc=>hc,by simp only[je];lia,rfl⟩,?_⟩;rintro m σ H' ⟨p,v4,v5,es,l,tl,f,rs,rfl,rfl,hp,sm,rn,hl,gA,ht,K8,dF,Kk,ee⟩;refine⟨_,rfl,_,rfl,lc,_,rfl,.inl (AJ sm uz),_,_,rfl,rfl,_,rfl,?_⟩;rw[jy];refine bD (fun z=>?_) (fun z=>?_)
  .have bI:p<ls.length:=by lia
   have bL:ls.drop p≠[]:=fun z=>by
    have:=congrArg ox z;rw[iM,je]at this;lia
   obtain⟨g,c,t,xx,p9,ahg,rfl⟩:=ab9 K8 bL;obtain⟨n,i,x,lR⟩:=acM p9 (afW c (dF c (by simp))) (afX c (dF c (by simp)));have jZ:=lR.len;refine⟨fun σ' eJ=>∃m',m'<(c::xx).length/\Iv m' σ' eJ,fun Z Z q=>q,?_⟩;try dsimp only[b7,b9,cU,cb,bG,cP,dX,cE,b8]
   refine⟨_,rfl,_,rfl,lc,ls,t,p,n,i,x,rfl,AJ sm uz,hp,hlen,lR.cut,by lia,fun ca H3 Kp s3 Kq=>?_⟩;have X9:=sm.trans s3;have MP:=rn.same s3;have C9:=s3 _ _ ht;have jv:(Vt.clean x).length=x.length:=bC _;refine⟨_,rfl,_,rfl,r,l,ca,es,n,i,Vt.clean x,_,rfl,MP,Kq,abw x,by rw[jv];lia,lR.n14,fun ds a lP dO D H4 hD hDl hrp Ug=>?_⟩;obtain⟨l',rn4,jY,Oy⟩:=hrp;have hlr:H' r=some _:=rn.choose_spec.choose_spec.1;have nN:∃dx,H3 r=some (.ins CR dx [("events",.ref l)]):=let ⟨dx,_,q,_⟩:=MP;⟨dx,q⟩
   obtain⟨dr,UU⟩:=nN;have agF:lt≠r:=fe C9 UU (fun z=>by cases z);have Dc:H4 lt=some (.lst (cf tl)):=Oy _ _ C9 agF gA;have iI:aq H H4:=fun b o e=>Oy b o (X9 _ _ e) (cC e n1) (cC e hl);have wQ:lt≠l':=by
    rcases jY with q|q
    .rw[q];exact gA
    .exact cC C9 q
   have agw:H l'=none:=by
    rcases jY with q|q
    .rw[q];exact hl
    .exact X9.free q
   have afJ:D≠lt:=(cC C9 hD).symm;have ap7:=Kq;obtain⟨dc,kH⟩:=Kq;have Uq:H4 ca=some (.ins CL dc (cF n i (Vt.clean x) (ls.length-t.length))):=Oy _ _ kH (fe kH UU (fun z=>by cases z)) (by
    obtain⟨Z,Z,Z,q,Z⟩:=MP;exact fe kH q (fun z=>by cases z))
   have UX:(c::xx).length=xx.length+1:=rfl;rw[UX]at Kk;refine⟨_,rfl,.inl ⟨rfl,_,aH.of Dc⟩,_,rfl,D,_,rfl,.inl (aH.of Ug),lt,_,_,rfl,rfl,Dc,(by rw[jy,jk];lia),?_⟩;rw[jy];have zN:upd H4 lt (.lst (cf tl++[V.int (a.length:Nat)])) lt=some (.lst (cf (tl++[bS a.length]))):=by rw[aD,wX];rfl
   have CO:upd H4 lt (.lst (cf tl++[V.int (a.length:Nat)])) D=some (.lst (cf a)):=by rw[ba afJ];exact Ug
   have Kn:upd H4 lt (.lst (cf tl++[V.int (a.length:Nat)])) ca=some (.ins CL dc (cF n i (Vt.clean x) (ls.length-t.length))):=by rw[ba (fe Uq Dc (fun z=>by cases z))];exact Uq
   have Xn:Rn CE CR (upd H4 lt (.lst (cf tl++[V.int (a.length:Nat)]))) r l' ds:=rn4.lst Dc wQ;have sO:aq H (upd H4 lt (.lst (cf tl++[V.int (a.length:Nat)]))):=gH iI KO;generalize upd H4 lt (.lst (cf tl++[V.int (a.length:Nat)]))=H5 at zN CO Kn Xn sO ⊢;refine⟨_,rfl,.inl ⟨rfl,_,aH.of zN⟩,_,rfl,lt,D,_,_,rfl,rfl,zN,CO,(by rw[jy,jy,cY,FT,jk];lia),?_⟩;rw[<-wX];have hc6:upd H5 lt (.lst (cf (tl++[bS a.length]++a))) ca=some (.ins CL dc (cF n i (Vt.clean x) (ls.length-t.length))):=by rw[ba (fe Kn zN (fun z=>by cases z))];exact Kn
   refine⟨_,rfl,ca,CL,dc,_,_,rfl,hc6,TL.cls,TL.nf _ (by simp),rfl,?_⟩;have Kv:ls.drop (ls.length-t.length)=t:=by
    have he:=lR.cut.eq;have h1:ls=ls.take p++ls.drop p:=(QP p ls).symm;rw[he]at h1;have h2:ls=(ls.take p++((n:Int)::(r9 n i++xV n (x))))++t:=h1.trans (by simp[iL]);have h3:=congrArg ox h2;rw[cY]at h3;have h4:ls.length-t.length=(ls.take p++((n:Int)::(r9 n i++xV n x))).length:=by lia
    rw[h4];conv=>lhs;arg 2;rw[h2]
    rw[Bb]
   refine⟨xx.length,by rw[UX];lia,ls.length-t.length,some (.ref ca),some (.ref D),ds,l',tl++[bS a.length]++a,g,xx,rfl,rfl,by lia,gH sO KO,Xn.lst zN wQ,agw,wQ,aD,by rw[Kv];exact ahg,fun c' C2=>dF c' (by simp[C2]),?_,?_⟩
   .simp only[cY,FT];lia
   .rw[ee];have ahm:rD ⟨es⟩ c=(⟨ds⟩,a):=by rw[aoy lR.call];exact lP
    show tl++Bq ((rD ⟨es⟩ c).2::Gf rD (rD ⟨es⟩ c).1 xx)=_;rw[ahm];unfold Bq;rw[FJ];simp[iL,bS]
  .have uC:p=ls.length:=by lia
   subst uC;rw[vq]at K8;have:=acb K8;subst this;refine⟨_,rfl,?_⟩;have e:Bq (Gf rD abd cs)=tl:=by
    rw[ee];show tl++[]=tl;rw[jI]
   rw[e]at k;exact k lt H' KO sm ht
end Rw
namespace ST
open PySem
variable{prog:aV}{w:aQ}{A:bO}{E:af->ao->Prop}{s:ao}{R:tO->ao->Prop}{I:aa}{fp wr:List aa}{G:Array yr->Array yr->Prop}{n:Nat}{P:Nat->af->Prop}{St:Nat->ao->Prop}{led:Bool}
noncomputable def BX(xs:Array Nat):Prop:=∀i k(hi:i<xs.size)(hk:k<xs.size),i<k->xs[i]<xs[k]
theorem D8{xs:Array Nat}:BX xs↔xs.toList.Pairwise (· < ·):=by
 rw[List.pairwise_iff_getElem];constructor
 .intro h i k hi hk Kz;have:=h i k (by simpa using hi) (by simpa using hk) Kz;simpa using this
 .intro h i k hi hk Kz;have:=h i k (by simpa using hi) (by simpa using hk) Kz;simpa using this
structure Cut(xs:Array Nat)(j p:Nat):Prop where
 le:p<=xs.size
 lo:∀i(h:i<xs.size),i<p->xs[i]<j
 hi:∀i(h:i<xs.size),p<=i->j<=xs[i]
theorem Cut.uniq{xs:Array Nat}{j p q:Nat}(a:Cut xs j p)(b:Cut xs j q):p=q:=by
 rcases Nat.lt_trichotomy p q with h|h|h
 .have hp:p<xs.size:=g7 h b.le;have:=a.hi p hp (cA _);have:=b.lo p hp h;lia
 .exact h
 .have hq:q<xs.size:=g7 h a.le;have:=b.hi q hq (cA _);have:=a.lo q hq h;lia
theorem afy{xs:Array Nat}{j:Nat}(h:BX xs):∀fuel lo hi,lo<=hi->hi<=xs.size->hi-lo<=fuel->(∀i(h:i<xs.size),i<lo->xs[i]<j)->(∀i(h:i<xs.size),hi<=i->j<=xs[i])->Cut xs j (Rj xs j fuel lo hi):=by
 intro fuel;induction fuel with
 |zero=>
  intro lo hi h1 h2 h3 h4 h5;have:lo=hi:=by lia
  subst this;unfold Rj;exact⟨h2,h4,h5⟩
 |succ fuel ih=>
  intro lo hi h1 h2 h3 h4 h5;unfold Rj;by_cases bI:lo<hi
  .rw[if_pos bI];have hm:(lo+hi) / 2<xs.size:=by lia
   have hg:xs.getD ((lo+hi) / 2) j=xs[(lo+hi) / 2]:=by simp[Array.getD,hm]
   dsimp only;rw[hg];by_cases hc:xs[(lo+hi) / 2]<j
   .rw[if_pos hc];refine ih _ _ (by lia) h2 (by lia) (fun i wO wQ=>?_) h5;by_cases e:i=(lo+hi) / 2
    .subst e;exact hc
    .exact Nat.lt_trans (h i _ wO hm (by lia)) hc
   .rw[if_neg hc];refine ih _ _ (by lia) (by lia) (by lia) h4 (fun i wO hle=>?_);by_cases e:i=(lo+hi) / 2
    .subst e;lia
    .have:=h _ i hm wO (by lia);lia
  .rw[if_neg bI];have:lo=hi:=by lia
   subst this;exact⟨h2,h4,h5⟩
theorem G6{xs:Array Nat}(h:BX xs)(j:Nat):Cut xs j (kh xs j):=afy h _ 0 xs.size (dJ _) (cA _) (by lia) (fun i Z hi=>absurd hi (Bm _)) (fun i hi hle=>absurd hi (by lia))
structure Good(t:SetTable):Prop where
 sH:BX t.place
 JM:t.dummies=#[]
theorem afz(f m:Nat)(led:Bool):Good (SetTable.fresh f m led):=⟨fun i k hi=>absurd hi (Bm _),rfl⟩
theorem CG(t:SetTable)(n:Nat):Good (t.standIn n):=by
 refine⟨?_,rfl⟩;rw[D8];show(Array.range n).toList.Pairwise (· < ·);rw[Array.toList_range];exact ZI
theorem aom{t:SetTable}(g:Good t){j:Nat}(h:t.slot j=.empty):j∉t.place.toList:=by
 intro hm;unfold aaB at h;dsimp only at h;have c:=G6 g.sH j;obtain⟨i,hi,e⟩:=FN hm;have wO:i<t.place.size:=by simpa using hi
 have e':t.place[i]=j:=by simpa using e
 have hle:kh t.place j<=i:=by
  rcases Nat.lt_or_ge i (kh t.place j)with q|q
  .have:=c.lo i wO q;lia
  .exact q
 have hp:kh t.place j<t.place.size:=by lia
 have Uy:=c.hi _ hp (cA _);have uC:t.place[kh t.place j]=j:=by
  rcases Nat.lt_or_ge (kh t.place j) i with q|q
  .have:=g.sH _ i hp wO q;lia
  .have:kh t.place j=i:=by lia
   simp only[this];exact e'
 rw[if_pos (by rw[pD hp,uC];simp)]at h;cases h
theorem aon{t:SetTable}(g:Good t)(j:Nat):t.slot j≠.dummy:=by
 unfold aaB;dsimp only;rw[g.JM];have:By #[] j=false:=by
  unfold By;simp
 rw[this];split<;>simp
theorem amK{t:SetTable}(g:Good t){h:Int}{d:Option Nat}{j:Nat}:∀fuel(p:aaz),p.dummy=none->Rk t (fun Z=>h+1) h fuel p=some (.empty j d)->d=none/\t.slot j=.empty:=by
 intro fuel;induction fuel with
 |zero=>intro p _ q;unfold Rk at q;cases q
 |succ fuel ih=>
  intro p hp q;unfold Rk at q;have adv:∀p:aaz,(t.advance p).dummy=p.dummy:=fun p=>by
   unfold SetTable.advance;split
   .rfl
   .rfl
  split at q
  .rename_i hs;cases q;exact⟨hp,hs⟩
  .rename_i hs;exact absurd hs (aon g _)
  .rename_i i hs;have:(h+1==h)=false:=by
    rw[beq_eq_false_iff_ne];lia
   rw[this]at q;exact ih _ (by rw[adv];exact hp) q
theorem afq{t:SetTable}(g:Good t){h:Int}{slot:Nat}{wd:Bool}(e:t.freeSlot h=some (slot,wd)):slot∉t.place.toList:=by
 unfold SetTable.freeSlot at e;split at e
 .rename_i j d hq;obtain⟨rfl,hs⟩:=amK g _ (t.probeStart h) rfl hq;cases e;exact aom g hs
 .cases e
theorem afB{t:SetTable}(g:Good t){slot:Nat}(hn:slot∉t.place.toList):Good (t.put slot).1:=by
 have c:=G6 g.sH slot;refine⟨?_,?_⟩
 .rw[D8];show(SetTable.insertAt t.place (kh t.place slot) slot).toList.Pairwise (· < ·);rw[SetTable.toList_insertAt];have hp:=D8.mp g.sH;rw[List.pairwise_append];refine⟨hp.sublist (ZN _ _),?_,?_⟩
  .rw[vw];refine⟨fun y hy=>?_,hp.sublist (List.drop_sublist _ _)⟩;obtain⟨i,hi,e⟩:=FN hy;rw[Zu]at e;have ur:kh t.place slot+i<t.place.size:=by
    rw[iM]at hi;simp at hi;lia
   have:=c.hi _ ur (by lia);have e2:t.place[kh t.place slot+i]=y:=by simpa using e
   have bL:y≠slot:=fun z=>hn (by rw[<-z];exact yg hy);lia
  .intro a ha b hb;have h1:a<slot:=by
    obtain⟨i,hi,e⟩:=FN ha;rw[List.getElem_take]at e;rw[iN]at hi;have ur:i<t.place.size:=by simp at hi;lia
    have:=c.lo i ur (by lia);have e2:t.place[i]=a:=by simpa using e
    lia
   rcases bX.mp hb with hb|hb
   .rw[hb];exact h1
   .obtain⟨i,hi,e⟩:=FN hb;rw[Zu]at e;have ur:kh t.place slot+i<t.place.size:=by
     rw[iM]at hi;simp at hi;lia
    have:=c.hi _ ur (by lia);have e2:t.place[kh t.place slot+i]=b:=by simpa using e
    lia
 .show(if By t.dummies slot=true then _ else t.dummies)=#[];rw[g.JM];have:By #[] slot=false:=by
   unfold By;simp
  rw[this];rfl
theorem aiz{t:SetTable}(g:Good t)(es:Array (Int×af))(h:Int)(x:af):Good (layNew t es h x).2.1/\(layNew t es h x).2.1.led=t.led:=by
 unfold layNew;split
 .rename_i slot wd e;dsimp only;unfold SetTable.orStandIn;split
  .exact⟨afB g (afq g e),rfl⟩
  .exact⟨CG _ _,rfl⟩
 .exact⟨CG _ _,rfl⟩
theorem anf{t:SetTable}(g:Good t)(es:Array (Int×af))(n:Nat):Good (vP t es n).2.1/\(vP t es n).2.1.led=t.led:=by
 unfold vP;split
 .rename_i t' order e;dsimp only;split
  .unfold SetTable.relaid SetTable.laid at e;cases ho:SetTable.layClean (aaA n-1) (es.map (·.1))with
   |none=>rw[ho]at e;cases e
   |some owner=>
    rw[ho]at e;simp only[Option.bind_eq_bind,Option.bind_some,Option.pure_def,ym,Prod.mk.injEq]at e;obtain⟨rfl,Z⟩:=e;refine⟨⟨?_,rfl⟩,rfl⟩;rw[D8];show(((cW (aaA n-1+1)).filterMap fun j=>(owner.getD j none).map (j,·)).map (·.1)).toArray.toList.Pairwise (· < ·);rw[QR,List.map_filterMap];have hs:∀l:List Nat,(l.filterMap fun j=>((owner.getD j none).map (j,·)).map (·.1)).Sublist l:=fun l=>by
     induction l with
     |nil=>exact .slnil
     |cons j r ih=>
      cases hq:owner.getD j none with
      |none=>rw[List.filterMap_cons_none (by rw[hq];rfl)];exact ih.cons _
      |some v=>rw[Qx (b:=j) (by rw[hq];rfl)];exact ih.cons₂ _
    exact List.Pairwise.sublist (hs _) ZI
  .exact⟨CG _ _,rfl⟩
 .exact⟨CG _ _,rfl⟩
open PySem PyProof.Rows
noncomputable def hW(prog:aV)(w:aQ)(h:aG)(a:aa)(S:Int->Bool)(n:Nat)(led:Bool):Prop:=∃o es ep t,h.get? a=some o/\o.ExactSet/\o.data=.set es ep t/\ElemsOf (intKind prog w) es.toList/\(∀k,S k=true↔∃e∈es.toList,(intKind prog w).is k e.2=true)/\es.size<pP/\t.fits es.size=true/\es.size=n/\Good t/\t.led=led
theorem hW.keep{h h':aG}{a:aa}{S:Int->Bool}{n:Nat}{led:Bool}(x:hW prog w h a S n led)(k:∀o,h.get? a=some o->h'.get? a=some o):hW prog w h' a S n led:=let ⟨o,es,ep,t,e,r⟩:=x;⟨o,es,ep,t,k o e,r⟩
theorem hW.congr{h:aG}{a:aa}{S S':Int->Bool}{n n':Nat}{led:Bool}(x:hW prog w h a S n led)(e:∀k,S k=S' k)(en:n=n'):hW prog w h a S' n' led:=by
 have:S=S':=funext e;subst this;subst en;exact x
theorem XU{h:aG}{a:aa}{o:aM}{es:Array (Int×af)}{ep:Nat}{t:SetTable}(ho:h.get? a=some o)(hex:o.ExactSet)(hd:o.data=.set es ep t){gS:Array (Int×af)}{t':SetTable}{S':Int->Bool}(eA:ElemsOf (intKind prog w) gS.toList)(dF:∀k,S' k=true↔∃e∈gS.toList,(intKind prog w).is k e.2=true)(hb:gS.size<pP)(hf:t'.fits gS.size=true)(g:Good t'):(h.update a (Rh gS t')).get? a=some {o with data:=.set gS (ep+1) t'}/\hW prog w (h.update a (Rh gS t')) a S' gS.size t'.led:=by
 obtain⟨hg,Z⟩:=SetOf_store (knd:=intKind prog w) ho hex hd eA dF hb hf;exact⟨hg,_,gS,ep+1,t',hg,hex,rfl,eA,dF,hb,hf,rfl,g,rfl⟩
theorem afA{t:SetTable}(g:Good t):Good {t with plain:=false}:=⟨g.sH,g.JM⟩
theorem Se{g:Bool->gM Unit}(hg:∀(b:Bool)(s₁:ao)(Q':Unit->ao->Prop),Q' () s₁->aE (model prog w) A (g b) Q' E s₁){a:aa}{o:aM}{es:Array (Int×af)}{ep:Nat}{t:SetTable}(ho:s.heap.get? a=some o)(hex:o.ExactSet)(hd:o.data=.set es ep t){eV:Array (Int×af)}{t2:SetTable}{S':Int->Bool}(eA:ElemsOf (intKind prog w) eV.toList)(dF:∀k',S' k'=true↔∃e∈eV.toList,(intKind prog w).is k' e.2=true)(hb:eV.size<pP)(hf:t2.fits eV.size=true)(gd:Good t2){YQ:Bool}{R:Option Bool->ao->Prop}(h:∀h',oC a s.heap h'->hW prog w h' a S' eV.size t2.led->R (some true) {s with heap:=h'}):aE (model prog w) A (do
   storeSet a eV t2;if(!YQ&&t2.tooFull)=true then do
     g (vP t2 eV (vG eV.size)).2.2;storeSet a (vP t2 eV (vG eV.size)).1 (vP t2 eV (vG eV.size)).2.1;pure (some true)
    else pure (some true)) R E s:=by
 refine aB (wpAny_storeSet_of ho hd ?_ (fits_of_scanBound hb));obtain⟨wR,hS1⟩:=XU (prog:=prog) (w:=w) ho hex hd eA dF hb hf gd;have Xu:=Gp s.heap a (Rh eV t2);split
 .have hp:=relayAll_perm t2 eV (vG eV.size);have gW:=relayAll_fits t2 eV (vG eV.size);obtain⟨g2,l2⟩:=anf gd eV (vG eV.size);generalize vP t2 eV (vG eV.size)=Rl at hp gW g2 l2 ⊢;obtain⟨es2,t3,afv⟩:=Rl;dsimp only at hp gW g2 l2 ⊢;have hsz:es2.size=eV.size:=by rw[<-pE,hp.length_eq,pE]
  refine aB (hg _ _ _ ?_);refine aB (wpAny_storeSet_of wR rfl ?_ (fits_of_scanBound (by rw[hsz];exact hb)));obtain⟨Z,CQ⟩:=XU (prog:=prog) (w:=w) wR hex rfl (eA.perm hp) (S':=S') (fun k'=>(dF k').trans ⟨fun⟨e,he,q⟩=>⟨e,hp.mem_iff.mpr he,q⟩,fun⟨e,he,q⟩=>⟨e,hp.mem_iff.mp he,q⟩⟩) (by rw[hsz];exact hb) gW g2;rw[hsz,l2]at CQ;exact bz (h _ (Xu.trans (Gp _ a _)) CQ)
 .exact bz (h _ Xu hS1)
theorem abi{a:aa}{S:Int->Bool}{n:Nat}{k:Int}{x:af}{led:Bool}{Q:Bool->ao->Prop}(qf:(intKind prog w).is k x=true)(uE:x.scannable=true)(hS:hW prog w s.heap a S n led)(zL:n+1<pP)(h:∀h',oC a s.heap h'->hW prog w h' a (fun k'=>S k'||decide (k'=k)) (if S k then n else n+1) led->Q (!S k) {s with heap:=h'}):aE (model prog w) A (setAddHashed a x ((intKind prog w).hash k)) Q E s:=by
 obtain⟨o,es,ep,t,ho,hex,hd,eA,dF,hb,hf,hn,gd,ie⟩:=hS;unfold setAddHashed setAddHashedIn;refine pQ (aB (vV ho hd hf ?_));dsimp only;rw[byScan_of uE hb eA];simp only[↓reduceIte];unfold setAddByScan;refine aB ?_;refine aB (BR ?_);refine aB (wpAny_setScan_of qf ho hd hf eA ?_);cases hr:List.findIdx? (fun e=>(intKind prog w).is k e.2) es.toList with
 |some j=>
  dsimp only;obtain⟨hj,hpj,Z⟩:=List.findIdx?_eq_some_iff_getElem.mp hr;have zj:S k=true:=(dF k).mpr ⟨es.toList[j],QC hj,hpj⟩;refine bz (bz ?_);have e:s={s with heap:=s.heap}:=by cases s;rfl
  have:=h s.heap (Heap.SameBut.refl a s.heap) ⟨o,es,ep,t,ho,hex,hd,eA,fun k'=>by
   rw[Fs,decide_eq_true_eq,<-dF k'];exact⟨fun hk=>hk.elim id (fun e=>e▸zj),.inl⟩,hb,hf,by rw[zj];exact hn,gd,ie⟩
  rw[zj]at this;rw[e];exact this
 |none=>
  dsimp only;have zj:S k=false:=by
   cases hk:S k with
   |false=>rfl
   |true=>obtain⟨e,he,hp⟩:=(dF k).mp hk;have:=List.findIdx?_eq_none_iff.mp hr e he;rw[hp]at this;exact kW this
  have hgw:∀(b:Bool){s₁:ao}{Q':Unit->ao->Prop},Q' () s₁->aE (model prog w) A (match b with|true=>rule "set.scan.the-table-gave-way" |false=>pure ()) Q' E s₁:=fun b s₁ Q' hq=>by cases b<;>first|exact bz hq|exact BR hq
  have rW:=layNew_perm t es ((intKind prog w).hash k) x;have zu:=layNew_fits t es ((intKind prog w).hash k) x;obtain⟨g1,l1⟩:=aiz gd es ((intKind prog w).hash k) x;generalize layNew t es ((intKind prog w).hash k) x=L at rW zu g1 l1 ⊢;obtain⟨eV,t1,YQ,afv⟩:=L;dsimp only at rW zu g1 l1 ⊢;rw[Y4]at rW;have Uu:ElemsOf (intKind prog w) eV.toList:=(eA.push qf uE).perm rW;have UI:∀k',(S k'||decide (k'=k))=true↔∃e∈eV.toList,(intKind prog w).is k' e.2=true:=mem_push_iff qf dF rW;have UZ:eV.size=n+1:=by rw[<-pE,rW.length_eq,cY,pE,hn];rfl
  have nG:eV.size<pP:=by rw[UZ];exact zL
  refine aB (hgw _ ?_);have Uv:∀(tl:Bool),tl=led->∀h',oC a s.heap h'->hW prog w h' a (fun k'=>S k'||decide (k'=k)) eV.size tl->Q true {s with heap:=h'}:=by
   intro tl hl h' o3 fW;have:=h h' o3;rw[zj]at this;rw[UZ,hl]at fW;exact this fW
  split
  .refine aB ?_;rw[hashByValue_scannable 8 uE];refine bz ?_;refine Se (t2:=if plainKind x=true then t1 else{t1 with plain:=false}) ?_ ho hex hd Uu UI nG ?_ ?_ ?_
   .intro b s₁ Q' hq;cases b<;>first|exact bz hq|exact BR hq
   .split
    .exact zu
    .exact SetTable.fits_plain_off zu
   .split
    .exact g1
    .exact afA g1
   .intro h' o3 fW;dsimp only;exact bz (Uv _ (by split<;>exact l1.trans ie) h' o3 fW)
  .refine aB (bz ?_);simp only[↓reduceIte];refine Se ?_ ho hex hd Uu UI nG zu g1 ?_
   .intro b s₁ Q' hq;cases b<;>first|exact bz hq|exact BR hq
   .intro h' o3 fW;dsimp only;exact bz (Uv _ (l1.trans ie) h' o3 fW)
theorem aiT(W:WalksS prog w A.in1 I fp wr G n P St)(S:aa)(p0:S∉fp)(val:Nat->Int)(uF:∀i v,P i v->∃t,v=.int (val i) t)(hb:n+1<pP):∀(k i:Nat)(s:ao),n-i=k->i<=n->St i s->hW prog w s.heap S (fun k'=>(gL val i).any (· ==k')) (gL val i).length led->(∀s',PySem.Moved (S::wr) G s s'->hW prog w s'.heap S (fun k'=>(gL val n).any (· ==k')) (gL val n).length led->R (.ok (.ret .none)) s')->nj (model prog w) A (.builtin "set.update.loop" ⟨[.ref S,.ref I],[]⟩) R s:=by
 have Uk:S∉wr:=fun h=>p0 (W.sub _ h);have nO:∀b∈wr,b∈S::wr:=fun b hb=>el _ hb;intro k;induction k with
 |zero=>
  intro i s hk hi lX hS hR;have uw:i=n:=by lia
  subst uw;refine yB Z1 ?_;rw[Br QZ _];show aE _ A.in1 (jj (.ref I)>>=_) _ _ s;refine aB (W.done s _ _ lX fun s' hm=>?_);show aE _ A.in1 (ret Value.none) _ _ s';exact bz (hR s' (hm.mono nO) (hS.keep fun o e=>hm.heap S _ Uk e))
 |succ k ih=>
  intro i s hk hi lX hS hR;have bI:i<n:=by lia
  refine yB Z1 ?_;rw[Br QZ _];show aE _ A.in1 (jj (.ref I)>>=_) _ _ s;refine aB (W.item i s _ _ bI lX fun v s' hP ahk hm=>?_);obtain⟨t,rfl⟩:=uF i v hP;have fW:=hS.keep (h':=s'.heap) fun o e=>hm.heap S _ Uk e;show aE _ A.in1 (holding [ll (val i) t] (setAdd S (.int (val i) t))>>=_) _ _ s';refine aB (pQ ?_);unfold setAdd;refine pQ ?_;refine aB ((intKind prog w).pyHash (k:=val i) (RH _ _ _ _) ?_);have zL:(gL val i).length+1<pP:=by have:=Z3 val i;lia
  refine abi (s:={s' with toks:=s'.toks+1}) (RH _ _ _ _) rfl fW zL fun h' o3 CQ=>?_;have hSi:hW prog w h' S (fun k'=>(gL val (i+1)).any (· ==k')) (gL val (i+1)).length led:=CQ.congr (fun k'=>by rw[Q2,step_any]) (by rw[Q2,step_length]);refine bz ⟨BL QZ _,ih (i+1) _ (by lia) bI (W.frame _ s' _ _ ahk (Bk _) fun b hb o e=>?_) hSi fun qB agI afP=>?_⟩
  .rw[o3.2 b (fun h:b=S=>p0 (by rw[<-h];exact hb))];exact e
  .refine hR qB (PySem.Moved.trans W.gtrans ((hm.mono nO).then_heap (Bk _) fun b o hb e=>?_) agI) afP;rw[o3.2 b (fun h:b=S=>hb (by rw[h];exact eB))];exact e
noncomputable abbrev gg(w:aQ):Bool:=w.params.followText "set-order"
noncomputable abbrev nR(w:aQ):aM:={cls:=.type "set",dict:=none,data:=.set #[] 0 (.fresh 0 0 (!gg w))}
theorem aj0(a:af){Q₁:af->ao->Prop}(h:Q₁ (.ref s.heap.objs.size) {s with heap:=s.heap.push (nR w)}):nj (model prog w) A (.call (.builtin "set.__new__") ⟨[.type "set",a],[]⟩) (wants Q₁ E) s:=by
 refine codeAny_of_tree ?_;show aE _ A.in1 (do RF "set.__new__" ⟨[.type "set",a],[]⟩;again (.builtin "set.__new__" ⟨[.type "set",a],[]⟩)) _ _ s;refine aB (GQ (F.newCall_set_1 a) (bz ⟨BL F.plain_set_new _,yB F.entry_set_new ?_⟩));rw[Br F.plain_set_new _];unfold Builtin.«set.__new__» apP;have nO:=sub_set_self;obtain⟨hp,g,d,tk,os⟩:=s;dsimp only;wp_walk;refine yL (bz ?_);dsimp only;simp only[newObj];refine aB (wpAny_alloc (bz ?_));exact bz h
theorem an4{h:aG}{a:aa}(e:h.get? a=some (nR w)):hW prog w h a (fun Z=>false) 0 (!gg w):=by
 obtain⟨o,es,ep,t,h1,h2,h3,h4,h5,h6,h7,h8⟩:=(setObjOf_fresh (prog:=prog) (w:=w) (knd:=intKind prog w) (!gg w)).setOf e (by unfold pP;lia);rw[e]at h1;cases h1;cases h3;exact⟨_,_,_,_,e,h2,rfl,h4,h5,h6,h7,h8,afz 0 0 _,rfl⟩
theorem an5{l:aa}{items:Array af}{ns:List Int}{Q:af->ao->Prop}(hh:A.handled=none)(hl:s.heap.IsList l items)(hi:tK items.toList ns)(hb:items.size+1<pP)(h:∀(h':aG)(tk:Nat),hW prog w h' s.heap.objs.size (fun k'=>(gL (fun i=>ns.getD i 0) items.size).any (· ==k')) (gL (fun i=>ns.getD i 0) items.size).length (!gg w)->(∀b o,b<s.heap.objs.size->s.heap.get? b=some o->h'.get? b=some o)->Q (.ref s.heap.objs.size) {s with heap:=h',toks:=tk}):aE (model prog w) A (call (.type "set") [.ref l]) Q E s:=by
 obtain⟨c,tl,aqm⟩:=tN.mro;have aqk:=tN.made;have nO:=tN.sub;refine GO (codeAny_of_tree ?_);show aE _ _ (callAny (.type "set") _) _ _ _;refine bz ⟨Code.quiet_builtin _ (by decide+kernel),yB F.entry_type_call ?_⟩;rw[Around.under_plain (weight_type_call_type "set" [.ref l] []) rfl];have h1:=tN.notType;have h2:=tN.canCreate;have hct:=F.typeCall_set_1 (.ref l);repeat (any_goals (first|assumption|wp_step))
 refine yC (aj0 (.ref l) (E:=E) (Q₁:=fun obj s₁=>obj=.ref s.heap.objs.size/\s₁={s with heap:=s.heap.push (nR w)}) ⟨rfl,rfl⟩) fun r s₁ hr=>?_;cases r with
 |error e=>exact hr
 |ok fl=>
  cases fl with
  |ret obj=>
   obtain⟨rfl,rfl⟩:=hr;have hS:(s.heap.push (nR w)).get? s.heap.objs.size=some (nR w):=dZ _ rfl;have hT:Gu {s with heap:=s.heap.push (nR w)} (.ref s.heap.objs.size) "set":=⟨_,hS,rfl⟩;have hli:=tN.init.lookup;have hbi:=tN.init.bind (.ref s.heap.objs.size);repeat (any_goals (first|assumption|wp_step))
   refine yC (RG (R:=wants (fun r s₂=>r=.none/\∃h' tk,s₂={s with heap:=h',toks:=tk}/\hW prog w h' s.heap.objs.size (fun k'=>(gL (fun i=>ns.getD i 0) items.size).any (· ==k')) (gL (fun i=>ns.getD i 0) items.size).length (!gg w)/\(∀b o,b<s.heap.objs.size->s.heap.get? b=some o->h'.get? b=some o)) E) tN.init.plain F.entry_set_init (check_set_init_1 hT ?_)) fun r₂ s₂ hr₂=>?_
   .obtain⟨ol,rV,jv,nl,qc⟩:=hl;obtain⟨aqF,ake,aqG,alZ⟩:=ol;simp only at jv qc;subst jv;subst qc;have agZ:(s.heap.push (nR w)).get? l=some {cls:=.type "list",dict:=ake,data:=.seq items nl,slots:=alZ}:=cD _ rV;have aqs:=F.sub_list_set;have aqr:=F.sub_list_frozenset;have bL:(ml "list"==ml "dict")=false:=by decide
    have eW:(s.heap.push (nR w)).IsList l items:=⟨_,agZ,rfl,nl,rfl⟩;unfold Builtin.«set.__init__» noKeywords apR;generalize hPI:tT=PI;wp_walk;subst hPI;refine RT eW ?_;refine aB (wpAny_runValue ?_);have UE:l<s.heap.objs.size:=cj rV;have hh3:A.in1.in1.in1.handled=none:=by simp[hh]
    have agS:l≠(s.heap.push (nR w)).objs.size:=by
     rw[kf];exact dR (tH UE)
    have p0:s.heap.objs.size∉[(s.heap.push (nR w)).objs.size,l]:=by
     rw[kf];simp only[bX,eY,jg,or_false,not_or];exact⟨dR (yk _),vA UE⟩
    have uF:∀(i:Nat)(v:af),items[i]? =some v->∃t,v=.int ((fun i=>ns.getD i 0) i) t:=fun i v hv=>IntsAre.int_at hi i v (by rw[Fp];exact hv);refine aiT (led:= !gg w) ((RB hh3 _ l agS items).toS) s.heap.objs.size p0 (fun i=>ns.getD i 0) uF hb (items.size-0) 0 _ (by lia) (dJ _) ⟨⟨_,dZ _ rfl,rfl,rfl⟩,(eW.push _)⟩ ?hS0 ?hR;case hS0=>exact hW.congr (an4 (cD _ hS)) (fun Z=>rfl) rfl
    case hR=>
     intro s' hm fW;obtain⟨h',g',d',ot,Am⟩:=s';have eg:g'=s.gens:=hm.gens;have ed:d'=s.drawn:=hm.drawn;have eo:Am=s.os:=hm.os;subst eg;subst ed;subst eo;show aE _ _ _ _ _ _;refine bz ?_;show aE _ _ (ret Value.none) _ _ _;refine bz ⟨rfl,h',ot,rfl,fW,fun b o hb e=>?_⟩;have nG:b≠s.heap.objs.size:=dR hb;have Kj:b≠(s.heap.push (nR w)).objs.size:=by
      rw[kf];exact dR (tH hb)
     exact hm.heap b o (by simp only[bX,eY,jg,or_false,not_or];exact⟨nG,Kj⟩) (cD _ (cD _ e))
   .cases r₂ with
    |error e=>exact hr₂
    |ok fl₂=>
     cases fl₂ with
     |ret r=>
      obtain⟨rfl,h',tk,rfl,fW,zy⟩:=hr₂;repeat (any_goals (first|assumption|wp_step))
      exact h _ _ fW zy
     |_=>exact hr₂.elim
  |_=>exact hr.elim
end ST
namespace PySem.F
theorem om:Slot "set_iterator" "__next__" "set_iterator.__next__":=.of (owner:="set_iterator") (n:="__next__") (by rw[rk,rb];kernel_rfl) (by decide+kernel) (by decide+kernel) (by decide+kernel) (by first|exact .inl (by decide+kernel)|exact .inr (by decide+kernel)) (by rw[BI];kernel_rfl)
theorem Cw:entryFor table "set_iterator.__next__"=some Builtin.«set_iterator.__next__»:=entryFor_of_fast (by kernel_rfl)
theorem Ca(a:af):argsOk "set_iterator.__next__" ⟨[a],[]⟩:=by unfold argsOk;kernel_rfl
theorem aek:entryFor table "set.__iter__"=some Builtin.«frozenset.__iter__»:=entryFor_alias (id':="frozenset.__iter__") (by kernel_rfl) rfl (by decide+kernel) (by kernel_rfl)
end PySem.F
namespace ST
open PySem PyProof.Rows
variable{prog:aV}{w:aQ}{A:bO}{E:af->ao->Prop}{s:ao}{S:aa}{oS:aM}{es:Array (Int×af)}{ep:Nat}{t:SetTable}
noncomputable abbrev iY(first:af)(S:aa)(i n ep:Nat):aM:={cls:=.type "set_iterator",dict:=none,data:=.fields #[first,.int (i:Nat) 0,.ref S,.int (n:Nat) 0,.int (ep:Nat) 0],slots:=#[]}
theorem zf{a:aa}{o:aM}{es:Array (Int×af)}{ep:Nat}{t:SetTable}{Q:Array (Int×af)->ao->Prop}(ho:s.heap.get? a=some o)(hd:o.data=.set es ep t)(hf:t.fits es.size=true)(h:Q es s):aE (model prog w) A (yI a) Q E s:=by
 unfold yI;exact aB (vV ho hd hf (bz h))
theorem Yf{α:Type}{I:aa}{Q:α->ao->Prop}{h0:aG}(hh:A.handled=none)(hQ:∀e h',(∀b o,h0.get? b=some o->h'.get? b=some o)->Gu {s with heap:=h'} (.ref e) "StopIteration"->E (.ref e) {s with heap:=h'}):aE (model prog w) A (yG (.type "StopIteration") []>>=GL:gM α) Q E {s with heap:=h0}:=by
 refine aB ?_;simp only[yG,newTuple];refine aB (rp ?_ (by size_fits));refine aB (m:=GH _ _) (GQ (a:=Value.none) (by first|rfl|(simp only[GH];rfl)) ?_);refine rp ?_ (by size_fits);refine aa0 hh (hQ _ _ (fun b o e=>cD _ (cD _ e)) ⟨_,dZ _ rfl,rfl⟩)
theorem next_item{I S:aa}{oS:aM}{es:Array (Int×af)}{ep:Nat}{t:SetTable}{slot nx i n:Nat}{x:af}{Q:Option af->ao->Prop}(hit:s.heap.get? I=some (iY (.int (slot:Nat) 0) S i n ep))(hS:s.heap.get? S=some oS)(hd:oS.data=.set es ep t)(hf:t.fits es.size=true)(hn:es.size=n)(hx:∀(A:bO)(E:af->ao->Prop)(R:Option (af×Nat)->ao->Prop),R (some (x,nx)) s->aE (model prog w) A (tU S slot i ep) R E s)(hQ:∀h',h'.get? I=some (iY (.int (nx:Nat) 0) S (i+1) n ep)->oC I s.heap h'->Q (some x) {s with heap:=h'}):aE (model prog w) A (jj (.ref I)) Q E s:=by
 have hT:s.TypeIs (.ref I) "set_iterator":=⟨_,hit,rfl⟩;unfold jj;refine aB (yM (yN (name:=bB "__next__") hT F.om (oF F.om hT F.Cw ?_ (F.Ca _))));show aE _ _ (GG (.ref I)>>=_) _ _ s;refine aB (yO hit rfl ?_);show aE _ _ (yI S>>=_) _ _ s;refine aB (zf hS hd hf ?_);rw[if_neg (by rw[hn];simp)];show aE _ _ (tU S ((slot:Int)).toNat ((i:Int)).toNat ((ep:Int)).toNat>>=_) _ _ s;rw[md,md,md];refine aB (hx _ _ _ ?_);show aE _ _ (rh (.ref I) 0 (f9 nx)>>=fun Z=>rh (.ref I) 1 (f9 (i+1))>>=fun Z=>ret x) _ _ s;refine aB (yQ hit (by simp) fun h1 e1 s1=>?_);refine aB (yQ e1 (by simp) fun h2 e2 s2=>?_);refine bz ⟨x,rfl,bz (hQ h2 ?_ (s1.trans s2))⟩;rw[e2];rfl
theorem next_end{I S:aa}{oS:aM}{es:Array (Int×af)}{ep:Nat}{t:SetTable}{slot i n:Nat}{Q:Option af->ao->Prop}(hh:A.handled=none)(hit:s.heap.get? I=some (iY (.int (slot:Nat) 0) S i n ep))(hS:s.heap.get? S=some oS)(hd:oS.data=.set es ep t)(hf:t.fits es.size=true)(hn:es.size=n)(hx:∀(A:bO)(E:af->ao->Prop)(R:Option (af×Nat)->ao->Prop),R none s->aE (model prog w) A (tU S slot i ep) R E s)(hQ:∀h',(∀b o,b≠I->s.heap.get? b=some o->h'.get? b=some o)->Q none {s with heap:=h'}):aE (model prog w) A (jj (.ref I)) Q E s:=by
 have hT:s.TypeIs (.ref I) "set_iterator":=⟨_,hit,rfl⟩;unfold jj;refine aB (yM (yN (name:=bB "__next__") hT F.om (oF F.om hT F.Cw ?_ (F.Ca _))));show aE _ _ (GG (.ref I)>>=_) _ _ s;refine aB (yO hit rfl ?_);show aE _ _ (yI S>>=_) _ _ s;refine aB (zf hS hd hf ?_);rw[if_neg (by rw[hn];simp)];show aE _ _ (tU S ((slot:Int)).toNat ((i:Int)).toNat ((ep:Int)).toNat>>=_) _ _ s;rw[md,md,md];refine aB (hx _ _ _ ?_);show aE _ _ (rh (.ref I) 2 .none>>=fun Z=>yG (.type "StopIteration") []>>=GL) _ _ s;refine aB (yQ hit (by simp) fun h1 e1 s1=>?_);refine Yf (I:=I) (s:=s) (by simpa using hh) fun e h' kk Kh=>?_;refine aB (BQ (T:="StopIteration") (b:=true) Kh RJ ?_);exact bz (hQ h' fun b o hb q=>kk b o ((s1.2 b hb).trans q))
theorem JT{α:Type}:∀{l:List α}{i:Nat}(h:i<l.length),(l[i]::l.eraseIdx i).Perm l
 |a::r,0,_=>by simp
 |a::r,i+1,h=>by
  have h':i<r.length:=by simpa using h
  show(r[i]::a::r.eraseIdx i).Perm (a::r);exact(List.Perm.swap a r[i] _).trans ((JT h').cons a)
 |[],i,h=>absurd h (by simp)
theorem amA{α:Type}(next:Nat->Nat):∀(fuel k:Nat)(left:List α)(out:Array α),left.length<=fuel->(pickOrder.go next fuel k left out).toList.Perm (out.toList++left):=by
 intro fuel;induction fuel with
 |zero=>
  intro k left out h;have:left=[]:=yc.mp (by lia);subst this;unfold pickOrder.go;simp
 |succ fuel ih=>
  intro k left out h;unfold pickOrder.go;cases hl:left with
  |nil=>simp
  |cons a r=>
   have bI:next k% (a::r).length<(a::r).length:=QX _ (by simp)
   rw[cV bI];dsimp only;refine(ih _ _ _ (by rw[Zz bI,<-hl];lia)).trans ?_;rw[Y4,iL];refine List.Perm.append_left _ ?_;show((a::r)[next k% (a::r).length]::(a::r).eraseIdx (next k% (a::r).length)).Perm (a::r);exact JT bI
theorem Mw{α:Type}(next:Nat->Nat)(xs:Array α):(pickOrder next xs).toList.Perm xs.toList:=by
 have:=amA next xs.size 0 xs.toList #[] (by simp)
 simpa[pickOrder]using this
theorem apG{s:ao}{src:Source}{n:Nat}{Q:Nat->ao->Prop}(hn:n≠0)(h:∀i d,i<n->Q i {s with drawn:=d}):aE (model prog w) A (choose src n) Q E s:=fun Γ p Z=>by
 show Sem.wp _ _ (.choose src n .pure) _ _ _ _;rw[Sem.wp_choose];exact⟨hn,h _ _ (QX _ (Nat.pos_of_ne_zero hn))⟩
theorem ad7{α:Type}:∀(n:Nat)(xs:List α)(s:ao)(Q:List α->ao->Prop),xs.length<=n->(∀ys d,ys.Perm xs->Q ys {s with drawn:=d})->aE (model prog w) A (GF n xs) Q E s:=by
 intro n;induction n with
 |zero=>
  intro xs s Q hl h;have:xs=[]:=yc.mp (by lia);subst this;unfold GF;exact bz (by have:=h [] s.drawn .nil;exact this)
 |succ n ih=>
  intro xs s Q hl h;cases hx:xs with
  |nil=>
   unfold GF;subst hx;exact bz (by have:=h [] s.drawn .nil;exact this)
  |cons a r=>
   unfold GF;refine aB (apG (by simp) fun i d hi=>?_);rw[cV hi];dsimp only;refine aB (ih _ _ _ (by rw[Zz hi,<-hx];lia) fun ys d2 hp=>bz (h _ d2 ?_));rw[hx];exact((hp.cons _).trans (JT hi))
theorem V1{slot i:Nat}{R:Option (af×Nat)->ao->Prop}(hb:gg w=true)(hS:s.heap.get? S=some oS)(hd:oS.data=.set es ep t)(hf:t.fits es.size=true)(h:R ((pickOrder (w.params.setOrder S ep) es)[i]?.map fun e=>(e.2,slot)) s):aE (model prog w) A (tU S slot i ep) R E s:=by
 unfold tU;refine aB (vV hS hd hf ?_);dsimp only;unfold GN;refine aB (aB (yL (bz ?_)));show aE _ _ (if gg w=true then _ else _) _ _ s;rw[if_pos hb,if_neg (by simp)];refine aB ?_;unfold setWalk;refine aB (vV hS hd hf ?_);dsimp only;unfold GN;refine aB (aB (yL (bz ?_)));show aE _ _ (if gg w=true then _ else _) _ _ s;rw[if_pos hb];refine aB (yL (bz (bz ?_)));exact h
theorem V0{slot i:Nat}{R:Option (af×Nat)->ao->Prop}(hb:gg w=false)(wK:(!t.plain&&decide (es.size>1))=false)(ie:t.led=true)(hS:s.heap.get? S=some oS)(hd:oS.data=.set es ep t)(hf:t.fits es.size=true)(h:R (match es[kh t.place slot]?,t.place[kh t.place slot]? with|some (_,x),some j=>some (x,j+1)|_,_=>none) s):aE (model prog w) A (tU S slot i ep) R E s:=by
 unfold tU;refine aB (vV hS hd hf ?_);dsimp only;unfold GN;refine aB (aB (yL (bz ?_)));show aE _ _ (if gg w=true then _ else _) _ _ s;rw[if_neg (by rw[hb];decide)];show aE _ _ (if(!t.plain&&decide (es.size>1))=true then _ else _) _ _ s;rw[if_neg (by rw[wK];decide)];show aE _ _ ((if(!t.led&& !es.isEmpty)=true then(unsupported "set:maker-not-led":gM Unit)else pure ())>>=_) _ _ s;rw[if_neg (by rw[ie];simp)];refine aB (bz (bz ?_));exact h
end ST
namespace PySem.F
theorem X7:Slot "set_iterator" "__iter__" "set_iterator.__iter__":=.of (owner:="set_iterator") (n:="__iter__") (by rw[rk,rb];kernel_rfl) (by decide+kernel) (by decide+kernel) (by decide+kernel) (by first|exact .inl (by decide+kernel)|exact .inr (by decide+kernel)) (by rw[BI];kernel_rfl)
theorem ael:entryFor table "set_iterator.__iter__"=some Builtin.«dict_keyiterator.__iter__»:=entryFor_alias (id':="dict_keyiterator.__iter__") (by kernel_rfl) rfl (by decide+kernel) (by kernel_rfl)
theorem abv(a:af):argsOk "set_iterator.__iter__" ⟨[a],[]⟩:=by unfold argsOk;kernel_rfl
end PySem.F
namespace ST
open PySem PyProof.Rows
variable{prog:aV}{w:aQ}{A:bO}{E:af->ao->Prop}{s:ao}
noncomputable abbrev xU(ps:Array af):aM:={cls:=.type "tuple",data:=.seq ps}
theorem aj2{I S Tp:aa}{oS:aM}{es:Array (Int×af)}{ep:Nat}{t:SetTable}{i n pl:Nat}{ps:Array af}{e:Int×af}{Q:Option af->ao->Prop}(hit:s.heap.get? I=some (iY (.ref Tp) S i n ep))(hS:s.heap.get? S=some oS)(hd:oS.data=.set es ep t)(hf:t.fits es.size=true)(hn:es.size=n)(Kf:s.heap.get? Tp=some (xU ps))(hp:ps[i]? =some (.int (pl:Nat) 0))(he:es[pl]? =some e)(hQ:∀h',h'.get? I=some (iY (.ref Tp) S (i+1) n ep)->oC I s.heap h'->Q (some e.2) {s with heap:=h'}):aE (model prog w) A (jj (.ref I)) Q E s:=by
 have hT:s.TypeIs (.ref I) "set_iterator":=⟨_,hit,rfl⟩;unfold jj;refine aB (yM (yN (name:=bB "__next__") hT F.om (oF F.om hT F.Cw ?_ (F.Ca _))));show aE _ _ (GG (.ref I)>>=_) _ _ s;refine aB (yO hit rfl ?_);show aE _ _ (yI S>>=_) _ _ s;refine aB (zf hS hd hf ?_);rw[if_neg (by rw[hn];simp)];show aE _ _ (seqItems? (.ref Tp)>>=_) _ _ s;refine aB (RU Kf rfl ?_);dsimp only;rw[md,hp];dsimp only;rw[md,md];refine aB ?_;unfold setNextDrawn;refine aB (vV hS hd hf ?_);dsimp only;rw[if_neg (by simp),he];refine bz ?_;show aE _ _ (rh (.ref I) 1 (f9 (i+1))>>=fun Z=>ret e.2) _ _ s;refine aB (yQ hit (by simp) fun h1 e1 s1=>?_);refine bz ⟨e.2,rfl,bz (hQ h1 ?_ s1)⟩;rw[e1];rfl
theorem aj1{I S Tp:aa}{oS:aM}{es:Array (Int×af)}{ep:Nat}{t:SetTable}{i n:Nat}{ps:Array af}{Q:Option af->ao->Prop}(hh:A.handled=none)(hit:s.heap.get? I=some (iY (.ref Tp) S i n ep))(hS:s.heap.get? S=some oS)(hd:oS.data=.set es ep t)(hf:t.fits es.size=true)(hn:es.size=n)(Kf:s.heap.get? Tp=some (xU ps))(hp:ps[i]? =none)(hQ:∀h',(∀b o,b≠I->s.heap.get? b=some o->h'.get? b=some o)->Q none {s with heap:=h'}):aE (model prog w) A (jj (.ref I)) Q E s:=by
 have hT:s.TypeIs (.ref I) "set_iterator":=⟨_,hit,rfl⟩;unfold jj;refine aB (yM (yN (name:=bB "__next__") hT F.om (oF F.om hT F.Cw ?_ (F.Ca _))));show aE _ _ (GG (.ref I)>>=_) _ _ s;refine aB (yO hit rfl ?_);show aE _ _ (yI S>>=_) _ _ s;refine aB (zf hS hd hf ?_);rw[if_neg (by rw[hn];simp)];show aE _ _ (seqItems? (.ref Tp)>>=_) _ _ s;refine aB (RU Kf rfl ?_);dsimp only;rw[md,hp];show aE _ _ (rh (.ref I) 0 (f9 0)>>=fun Z=>rh (.ref I) 2 .none>>=fun Z=>yG (.type "StopIteration") []>>=GL) _ _ s;refine aB (yQ hit (by simp) fun h1 e1 s1=>?_);refine aB (yQ e1 (by simp) fun h2 e2 s2=>?_);refine Yf (I:=I) (s:=s) (by simpa using hh) fun e h' kk Kh=>?_;refine aB (BQ (T:="StopIteration") (b:=true) Kh RJ ?_);exact bz (hQ h' fun b o hb q=>kk b o (((s1.trans s2).2 b hb).trans q))
theorem Om{I S:aa}{first:af}{i n ep:Nat}{Q:af->ao->Prop}(hit:s.heap.get? I=some (iY first S i n ep))(hQ:Q (.ref I) s):aE (model prog w) A (tT (.ref I)) Q E s:=by
 have hT:s.TypeIs (.ref I) "set_iterator":=⟨_,hit,rfl⟩;refine GR hT F.X7 (oF F.X7 hT F.ael ?_ (F.abv _));show aE _ _ (ret (.ref I)) _ _ s;exact bz ⟨_,rfl,"set_iterator",_,hT,F.om.lookup,hQ⟩
theorem aol{t:SetTable}(g:Good t){i:Nat}(hi:i<=t.place.size):Cut t.place (if h:0<i/\i<=t.place.size then t.place[i-1]+1 else 0) i:=by
 by_cases h0:0<i
 .rw[dif_pos ⟨h0,hi⟩];refine⟨hi,fun j hj bI=>?_,fun j hj hle=>?_⟩
  .by_cases e:j=i-1
   .subst e;lia
   .have:=g.sH j (i-1) hj (by lia) (by lia);lia
  .have:=g.sH (i-1) j (by lia) hj (by lia);lia
 .rw[dif_neg (fun z=>h0 z.1)];have:i=0:=by lia
  subst this;exact⟨hi,fun j Z bI=>absurd bI (Bm _),fun j Z Z=>dJ _⟩
noncomputable def slotAt(t:SetTable)(i:Nat):Nat:=if h:0<i/\i<=t.place.size then t.place[i-1]+1 else 0
theorem X6{t:SetTable}(g:Good t){i:Nat}(hi:i<=t.place.size):kh t.place (slotAt t i)=i:=(G6 g.sH _).uniq (aol g hi)
theorem aok{t:SetTable}{i:Nat}(hi:i<t.place.size):slotAt t (i+1)=t.place[i]+1:=by
 unfold slotAt;rw[dif_pos ⟨Nat.succ_pos _,hi⟩];rfl
theorem TV{t:SetTable}{n:Nat}(hf:t.fits n=true):t.place.size=n:=by
 unfold SetTable.fits at hf;simp at hf;lia
theorem apx{I S:aa}(bL:S≠I){oS:aM}{es:Array (Int×af)}{ep:Nat}{t:SetTable}{n:Nat}(hh:A.handled=none)(hb:gg w=true)(hd:oS.data=.set es ep t)(hf:t.fits es.size=true)(hn:es.size=n):Walks prog w A I [I,S] [I] n (fun i v=>((pickOrder (w.params.setOrder S ep) es).toList.map (·.2))[i]? =some v) (fun i h=>h.get? I=some (iY (.int ((0:Nat):Int) 0) S i n ep)/\h.get? S=some oS) where
 sub:=fun b hb=>by simp at hb;simp[hb]
 frame:=fun Z Z Z st hk=>⟨hk I (by simp) _ st.1,hk S (by simp) _ st.2⟩;item:=fun i s Q E hi st hQ=>by
  have hsz:(pickOrder (w.params.setOrder S ep) es).size=n:=by
   have:=(Mw (w.params.setOrder S ep) es).length_eq;simpa[hn]using this
  have bI:i<(pickOrder (w.params.setOrder S ep) es).size:=by lia
  refine next_item (nx:=0) (x:=(pickOrder (w.params.setOrder S ep) es)[i].2) st.1 st.2 hd hf hn (fun A E R q=>V1 hb st.2 hd hf (by rw[pD bI];exact q)) fun h' e' sb=>?_;refine hQ _ h' s.toks (by simp[bI]) ⟨e',(sb.2 S bL).trans st.2⟩ fun b o hb q=>(sb.2 b (fun z=>hb (by simp[z]))).trans q
 done:=fun s Q E st hQ=>by
  have hsz:(pickOrder (w.params.setOrder S ep) es).size=n:=by
   have:=(Mw (w.params.setOrder S ep) es).length_eq;simpa[hn]using this
  refine next_end hh st.1 st.2 hd hf hn (fun A E R q=>V1 hb st.2 hd hf (by rw[Fo (by lia)];exact q)) fun h' k=>hQ h' s.toks fun b o hb q=>k b o (fun z=>hb (by simp[z])) q
 self:=fun i s Q E st hQ=>Om st.1 hQ
theorem apw{I S:aa}(bL:S≠I){oS:aM}{es:Array (Int×af)}{ep:Nat}{t:SetTable}{n:Nat}(hh:A.handled=none)(hb:gg w=false)(wK:(!t.plain&&decide (es.size>1))=false)(ie:t.led=true)(g:Good t)(hd:oS.data=.set es ep t)(hf:t.fits es.size=true)(hn:es.size=n):Walks prog w A I [I,S] [I] n (fun i v=>(es.toList.map (·.2))[i]? =some v) (fun i h=>i<=n/\h.get? I=some (iY (.int (slotAt t i:Nat) 0) S i n ep)/\h.get? S=some oS) where
 sub:=fun b hb=>by simp at hb;simp[hb]
 frame:=fun Z Z Z st hk=>⟨st.1,hk I (by simp) _ st.2.1,hk S (by simp) _ st.2.2⟩;item:=fun i s Q E hi st hQ=>by
  have UR:=TV hf;have h1:i<es.size:=by lia
  have h2:i<t.place.size:=by lia
  refine next_item (nx:=slotAt t (i+1)) (x:=es[i].2) st.2.1 st.2.2 hd hf hn (fun A E R q=>V0 hb wK ie st.2.2 hd hf (by rw[X6 g (by lia),pD h1,pD h2];rw[aok h2]at q;exact q)) fun h' e' sb=>?_;refine hQ _ h' s.toks (by simp[h1]) ⟨by lia,e',(sb.2 S bL).trans st.2.2⟩ fun b o hb q=>(sb.2 b (fun z=>hb (by simp[z]))).trans q
 done:=fun s Q E st hQ=>by
  have UR:=TV hf;refine next_end hh st.2.1 st.2.2 hd hf hn (fun A E R q=>V0 hb wK ie st.2.2 hd hf (by rw[X6 g (by lia),Fo (by lia)];exact q)) fun h' k=>hQ h' s.toks fun b o hb q=>k b o (fun z=>hb (by simp[z])) q
 self:=fun i s Q E st hQ=>Om st.2.1 hQ
theorem apv{I S Tp:aa}(bL:S≠I)(agR:Tp≠I){oS:aM}{es:Array (Int×af)}{ep:Nat}{t:SetTable}{n:Nat}{ks:List Nat}(hh:A.handled=none)(hd:oS.data=.set es ep t)(hf:t.fits es.size=true)(hn:es.size=n)(hk:ks.Perm (cW n)):Walks prog w A I [I,S,Tp] [I] n (fun i v=>(ks.filterMap fun k=>es[k]?.map (·.2))[i]? =some v) (fun i h=>h.get? I=some (iY (.ref Tp) S i n ep)/\h.get? S=some oS/\h.get? Tp=some (xU (ks.map fun(i:Nat)=>ll (i:Int) 0).toArray)) where
 sub:=fun b hb=>by simp at hb;simp[hb]
 frame:=fun Z Z Z st hk=>⟨hk I (by simp) _ st.1,hk S (by simp) _ st.2.1,hk Tp (by simp) _ st.2.2⟩;item:=fun i s Q E hi st hQ=>by
  have hl:ks.length=n:=by rw[hk.length_eq,Bf]
  have h1:i<ks.length:=by lia
  have h2:ks[i]<es.size:=by
   have:=hk.mem_iff.mp (QC h1);rw[Bh]at this;lia
  have agK:(ks.filterMap fun k=>es[k]?.map (·.2))=ks.map fun k=>(es[k]?.map (·.2)).getD .none:=by
   have:∀l:List Nat,(∀k∈l,k<es.size)->(l.filterMap fun k=>es[k]?.map (·.2))=l.map fun k=>(es[k]?.map (·.2)).getD .none:=by
    intro l;induction l with
    |nil=>intro _;rfl
    |cons k r ih=>
     intro hm;have zz:k<es.size:=hm k eB;rw[Qx (b:=es[k].2) (by rw[pD zz];rfl),ih fun k' h'=>hm k' (el _ h')];rw[dY,pD zz];rfl
   refine this ks fun k hm=>?_;have:=hk.mem_iff.mp hm;rw[Bh]at this;lia
  refine aj2 (pl:=ks[i]) (e:=es[ks[i]]) st.1 st.2.1 hd hf hn st.2.2 (by simp[h1]) (pD h2) fun h' e' sb=>?_;refine hQ _ h' s.toks (by rw[agK];simp[h1,h2]) ⟨e',(sb.2 S bL).trans st.2.1,(sb.2 Tp agR).trans st.2.2⟩ fun b o hb q=>(sb.2 b (fun z=>hb (by simp[z]))).trans q
 done:=fun s Q E st hQ=>by
  have hl:ks.length=n:=by rw[hk.length_eq,Bf]
  refine aj1 hh st.1 st.2.1 hd hf hn st.2.2 (by simp[hl]) fun h' k=>hQ h' s.toks fun b o hb q=>k b o (fun z=>hb (by simp[z])) q
 self:=fun i s Q E st hQ=>Om st.1 hQ
theorem amB{es:Array (Int×af)}{ks:List Nat}(hk:ks.Perm (cW es.size)):(ks.filterMap fun k=>es[k]?.map (·.2)).Perm (es.toList.map (·.2)):=by
 refine(hk.filterMap _).trans ?_;have:∀l:List (Int×af),(cW l.length).filterMap (fun k=>l[k]?.map (·.2))=l.map (·.2):=by
  intro l;refine Bc fun i=>?_;have hm:(cW l.length).filterMap (fun k=>l[k]?.map (·.2))=(cW l.length).map fun k=>(l[k]?.map (·.2)).getD .none:=by
   have:∀q:List Nat,(∀k∈q,k<l.length)->(q.filterMap fun k=>l[k]?.map (·.2))=q.map fun k=>(l[k]?.map (·.2)).getD .none:=by
    intro q;induction q with
    |nil=>intro _;rfl
    |cons k r ih=>
     intro hm;have zz:k<l.length:=hm k eB;rw[Qx (b:=l[k].2) (by rw[cV zz];rfl),ih fun k' h'=>hm k' (el _ h')];rw[dY,cV zz];rfl
   exact this _ fun k hk=>Bh.mp hk
  rw[hm,bU,bU];by_cases hi:i<l.length
  .rw[tD hi,cV hi];simp[hi]
  .rw[ow (by simpa using hi),ow (by simpa using hi)];rfl
 have e:=this es.toList;simp only[pE,Fp]at e;rw[e]
end ST
namespace PySem.F
theorem aiM:lE (.type "set") "__len__"=pure (some (.builtin "set.__len__")):=by rw[rk,rb];kernel_rfl
end PySem.F
namespace ST
open PySem PyProof.Rows
variable{prog:aV}{w:aQ}{A:bO}{E:af->ao->Prop}{s:ao}
noncomputable def oH(prog:aV)(w:aQ)(S n0:Nat)(h:aG)(I:aa)(us:List af):Prop:=∃(vs:List af)(fp:List aa)(St:Nat->aG->Prop),vs.Perm us/\I∈fp/\(∀b∈fp,b=S\/n0<=b)/\St 0 h/\∀A:bO,A.handled=none->Walks prog w A I fp [I] us.length (fun i v=>vs[i]? =some v) St
theorem oH.D{h:aG}{I S Tp:aa}{oS:aM}{es:Array (Int×af)}{ep:Nat}{t:SetTable}{ks:List Nat}(hd:oS.data=.set es ep t)(hf:t.fits es.size=true)(hk:ks.Perm (cW es.size))(n1:S≠I)(n2:Tp≠I){n0:Nat}(l1:n0<=I)(l2:n0<=Tp)(e1:h.get? I=some (iY (.ref Tp) S 0 es.size ep))(e2:h.get? S=some oS)(e3:h.get? Tp=some (xU (ks.map fun(i:Nat)=>ll (i:Int) 0).toArray)):oH prog w S n0 h I (es.toList.map (·.2)):=by
 have hlen:(es.toList.map (·.2)).length=es.size:=by simp
 refine⟨_,_,fun i h=>h.get? I=some (iY (.ref Tp) S i es.size ep)/\h.get? S=some oS/\h.get? Tp=some (xU (ks.map fun(i:Nat)=>ll (i:Int) 0).toArray),amB hk,eB (l:=[S,Tp]),fun b hb=>?_,⟨e1,e2,e3⟩,fun A hh=>?_⟩
 .simp only[bX,jg,or_false]at hb;rcases hb with rfl|rfl|rfl
  .exact .inr l1
  .exact .inl rfl
  .exact .inr l2
 .rw[hlen];exact apv n1 n2 hh hd hf rfl hk
theorem oH.T{h:aG}{I S:aa}{oS:aM}{es:Array (Int×af)}{ep:Nat}{t:SetTable}(hb:gg w=true)(hd:oS.data=.set es ep t)(hf:t.fits es.size=true)(n1:S≠I){n0:Nat}(l1:n0<=I)(e1:h.get? I=some (iY (.int ((0:Nat):Int) 0) S 0 es.size ep))(e2:h.get? S=some oS):oH prog w S n0 h I (es.toList.map (·.2)):=by
 have hlen:(es.toList.map (·.2)).length=es.size:=by simp
 refine⟨_,_,fun i h=>h.get? I=some (iY (.int ((0:Nat):Int) 0) S i es.size ep)/\h.get? S=some oS,(Mw (w.params.setOrder S ep) es).map (·.2),eB (l:=[S]),fun b hb=>?_,⟨e1,e2⟩,fun A hh=>?_⟩
 .simp only[bX,jg,or_false]at hb;rcases hb with rfl|rfl
  .exact .inr l1
  .exact .inl rfl
 .rw[hlen];exact apx n1 hh hb hd hf rfl
theorem oH.P{h:aG}{I S:aa}{oS:aM}{es:Array (Int×af)}{ep:Nat}{t:SetTable}(hb:gg w=false)(wK:(!t.plain&&decide (es.size>1))=false)(ie:t.led=true)(g:Good t)(hd:oS.data=.set es ep t)(hf:t.fits es.size=true)(n1:S≠I){n0:Nat}(l1:n0<=I)(e1:h.get? I=some (iY (.int ((0:Nat):Int) 0) S 0 es.size ep))(e2:h.get? S=some oS):oH prog w S n0 h I (es.toList.map (·.2)):=by
 have hlen:(es.toList.map (·.2)).length=es.size:=by simp
 refine⟨_,_,fun i h=>i<=es.size/\h.get? I=some (iY (.int (slotAt t i:Nat) 0) S i es.size ep)/\h.get? S=some oS,.refl _,eB (l:=[S]),fun b hb=>?_,⟨dJ _,e1,e2⟩,fun A hh=>?_⟩
 .simp only[bX,jg,or_false]at hb;rcases hb with rfl|rfl
  .exact .inr l1
  .exact .inl rfl
 .rw[hlen];exact apw n1 hh hb wK ie g hd hf rfl
theorem Vf{S:aa}{oS:aM}{es:Array (Int×af)}{ep:Nat}{t:SetTable}{first:af}{R:Fin->ao->Prop}(ho:s.heap.get? S=some oS)(hd:oS.data=.set es ep t)(hf:t.fits es.size=true)(hR:R (.done (.ret (.ref s.heap.objs.size))) {s with heap:=s.heap.push (iY first S 0 es.size ep)}):aE (model prog w) A (do let e<-setEpoch S;let v<-newFields "set_iterator" [first,f9 0,.ref S,f9 (es.size:Nat),f9 (e:Nat)];ret v) R E s:=by
 refine aB (wpAny_setEpoch_of ho hd hf ?_);unfold newFields;refine aB (rp ?_ (by size_fits));exact bz hR
theorem aim{S:aa}{oS:aM}{es:Array (Int×af)}{ep:Nat}{t:SetTable}{Q:af->ao->Prop}(ho:s.heap.get? S=some oS)(hc:oS.cls=.type "set")(hd:oS.data=.set es ep t)(hf:t.fits es.size=true)(g:Good t)(ie:t.led= !gg w)(hsz:es.size<100000)(hQ:∀h' d I,(∀b o,s.heap.get? b=some o->h'.get? b=some o)->s.heap.objs.size<=I->h'.objs.size=I+1->oH prog w S s.heap.objs.size h' I (es.toList.map (·.2))->Q (.ref I) {s with heap:=h',drawn:=d}):aE (model prog w) A (tT (.ref S)) Q E s:=by
 have hT:s.TypeIs (.ref S) "set":=⟨_,ho,hc⟩;have bI:S<s.heap.objs.size:=cj ho;have hlen:(es.toList.map (·.2)).length=es.size:=by simp
 refine GR hT F.slot_set_iter (oF F.slot_set_iter hT F.aek ?_ (F.args_set_iter_1 _));unfold Builtin.«frozenset.__iter__»;refine aB (GQ (a:=S) (by rfl) ?_);refine aB (m:=apQ S) (aB (zf ho hd hf (bz ?_)));refine aB (m:=setDrawn S) ?_;unfold setDrawn;refine aB (vV ho hd hf ?_);dsimp only;unfold GN;refine aB (aB (yL (bz (bz ?_))));show aE _ _ (if(!gg w&&(!t.plain&&decide (es.size>1)))=true then _ else _) _ _ s;by_cases hD:(!gg w&&(!t.plain&&decide (es.size>1)))=true
 .rw[if_pos hD];refine aB (ad7 _ _ _ _ (by simp) fun ks d hk=>?_);refine aB (wpAny_newTuple ?_ (by have:=hk.length_eq;simp only[bC,Bf]at*;size_fits));have UB:(s.heap.push (xU (ks.map fun(i:Nat)=>ll (i:Int) 0).toArray)).get? S=some oS:=cD _ ho;refine Vf UB hd hf ⟨_,rfl,"set_iterator",_,⟨_,dZ _ rfl,rfl⟩,F.om.lookup,?_⟩;refine hQ _ d _ (fun b o e=>cD _ (cD _ e)) (by rw[oB];exact Bk _) (oB _ _) ?_;refine oH.D (Tp:=s.heap.objs.size) hd hf hk ?_ ?_ (by rw[oB];exact Bk _) (cA _) (dZ _ rfl) (cD _ UB) (cD _ (dZ _ rfl))
  .rw[oB];exact dR (tH bI)
  .rw[oB];exact dR (yk _)
 .rw[if_neg hD];refine aB (bz ?_);refine Vf ho hd hf ⟨_,rfl,"set_iterator",_,⟨_,dZ _ rfl,rfl⟩,F.om.lookup,?_⟩;refine hQ _ s.drawn _ (fun b o e=>cD _ e) (cA _) (oB _ _) ?_;cases hb:gg w with
  |true=>exact oH.T hb hd hf (dR bI) (cA _) (dZ _ rfl) (cD _ ho)
  |false=>
   rw[hb]at hD ie;exact oH.P hb (by simpa using hD) ie g hd hf (dR bI) (cA _) (dZ _ rfl) (cD _ ho)
theorem ail{vs:List af}{acc:Array af}(h:ItemsOf (fun i v=>vs[i]? =some v) acc vs.length):acc.toList=vs:=by
 refine Bc fun i=>?_;by_cases hi:i<acc.size
 .have:=h.2 i acc[i] (pD hi);rw[this,Fp,pD hi]
 .rw[ow (by simpa using hi),ow (by have:=h.1;lia)]
theorem acp{S:aa}{oS:aM}{es:Array (Int×af)}{ep:Nat}{t:SetTable}{Q:List af->ao->Prop}(hh:A.handled=none)(ho:s.heap.get? S=some oS)(hc:oS.cls=.type "set")(hd:oS.data=.set es ep t)(hf:t.fits es.size=true)(g:Good t)(ie:t.led= !gg w)(hsz:es.size<100000)(hQ:∀vs h' d tk,vs.Perm (es.toList.map (·.2))->(∀b o,s.heap.get? b=some o->h'.get? b=some o)->s.heap.objs.size<=h'.objs.size->Q vs {s with heap:=h',drawn:=d,toks:=tk}):aE (model prog w) A (collect (.ref S)) Q E s:=by
 have bI:S<s.heap.objs.size:=cj ho;have Uj:s.heap.objs.size≠S:=vA bI;unfold collect;refine aB (wpAny_runValue (yB F.entry_proto_collect ?_));rw[Br F.plain_proto_collect _];show aE _ A.in1 (newList []>>=fun l=>again (.builtin "list.__iadd__" ⟨[l,.ref S],[]⟩)) _ _ s;refine aB (rp ?_);refine bz ⟨BL aag _,yB F.entry_list_iadd ?_⟩;rw[Br aag _];have wR:(s.heap.push {cls:=.type "list",data:=.seq ([]:List af).toArray}).get? S=some oS:=cD _ ho;have hT1:Gu {s with heap:=s.heap.push {cls:=.type "list",data:=.seq ([]:List af).toArray}} (.ref S) "set":=⟨_,wR,hc⟩;have hS₁:(s.heap.push {cls:=.type "list",data:=.seq ([]:List af).toArray}).get? s.heap.objs.size=some {cls:=.type "list",data:=.seq ([]:List af).toArray}:=dZ _ rfl;show aE _ A.in1 (yo (.ref s.heap.objs.size) (.ref S) (.ref s.heap.objs.size)) _ _ _;unfold yo;refine aB (RV hT1 ?_);have h1:Gg (.ref s.heap.objs.size) (.ref S)=false:=by simp[Gg,Uj]
 have h2:(ml "set"==ml "list")=false:=by decide
 have h3:(ml "set"==ml "tuple")=false:=by decide
 simp only[h1,h2,h3,Y7,Fq,if_false];refine aB (aim wR hc hd hf g ie hsz fun h2 d I hk hI Uh hw=>?_);obtain⟨vs,fp,St,hp,hIf,rS,lX,W⟩:=hw;have Kg:Gu {s with heap:=h2,drawn:=d} (.ref S) "set":=⟨_,hk _ _ wR,hc⟩;refine aB (pQ ?_);unfold Z9;refine aB (GS Kg F.aiM ?_);(generalize uu:("set.__len__":String)=zS;(fail_if_success (clear uu zS));wp_delta;rw[show splitId zS=some ("set","__len__")from by subst uu;decide+kernel];subst uu);refine aB (BQ (b:=true) Kg (by rw[BI];kernel_rfl) ?_);refine aB (RV Kg ?_);refine bz ?_;show aE _ A.in1 (rule "list.extend.makes-room">>=fun Z=>Builtin.List.listTouch (.ref s.heap.objs.size)>>=fun Z=>again (.builtin "list.extend.loop" ⟨[.ref s.heap.objs.size,.ref I,.ref s.heap.objs.size],[]⟩)) _ _ _;refine aB (BR ?_);have hS₂:=hk _ _ hS₁;have hLI:s.heap.objs.size≠I:=dR (g7 (yk _) (by rw[oB]at hI;exact hI));have p0:s.heap.objs.size∉fp:=fun hm=>by
  rcases rS _ hm with e|e
  .exact Uj e
  .rw[oB]at e;exact absurd e (Nat.not_succ_le_self _)
 have W1:=(W A.in1 (by simpa using hh)).toS;have hvl:(es.toList.map (·.2)).length=vs.length:=hp.length_eq.symm;have Lb:vs.length=es.size:=by rw[hp.length_eq];simp
 rw[hvl]at W1;refine aB ?_;show aE _ A.in1 (updateSeq s.heap.objs.size (·.push .none)>>=fun Z=>updateSeq s.heap.objs.size (·.pop)) _ _ _;refine aB (RW hS₂ rfl ?_);have hS₃:=qS (mj (·.push Value.none)) hS₂ rfl;refine RW hS₃ rfl ?_;have hS₄:=qS (mj (·.pop)) hS₃ rfl;have jC:∀b o,b≠s.heap.objs.size->h2.get? b=some o->((h2.update s.heap.objs.size (mj (·.push Value.none))).update s.heap.objs.size (mj (·.pop))).get? b=some o:=fun b o hb e=>(pL _ _ (Ne.symm hb)).trans ((pL _ _ (Ne.symm hb)).trans e);refine bz ⟨BL aaf _,aaQ W1 (by rw[jk];lia) _ p0 _ vs.length 0 _ _ _ rfl (dJ _) (W1.frame 0 ({s with heap:=h2,drawn:=d}:ao) _ s.toks lX (cA _) fun b hb o e=>jC b o (fun h=>p0 (h▸hb)) e) hS₄ (aat _) fun s' jS c' hm fW nF=>?_⟩;show aE _ A (load s.heap.objs.size>>=_) _ _ s';refine aB (wpAny_load fW ?_);obtain⟨h',g',d',ot,Am⟩:=s';have eg:g'=s.gens:=hm.gens;have ed:d'=d:=hm.drawn;have eo:Am=s.os:=hm.os;subst eg;subst ed;subst eo;have e:=ail nF;refine bz ?_;show Q jS.toList _;rw[e];refine hQ vs h' d' ot hp (fun b o eb=>?_) (qM (cj fW));have nH:b<s.heap.objs.size:=cj eb;refine hm.heap b o (fun dF=>?_) (jC b o (dR nH) (hk b o (cD _ eb)));simp only[bX,jg,or_false]at dF;rcases dF with rfl|rfl
 .exact mh _ nH
 .rw[oB]at hI;exact absurd hI (Nat.not_le_of_lt (tH nH))
theorem aoq{S:aa}{oS:aM}{es:Array (Int×af)}{ep:Nat}{t:SetTable}{ns:List Int}{Q:af->ao->Prop}(hh:A.handled=none)(ho:s.heap.get? S=some oS)(hc:oS.cls=.type "set")(hd:oS.data=.set es ep t)(hf:t.fits es.size=true)(g:Good t)(ie:t.led= !gg w)(hsz:es.size<100000)(hI:tK (es.toList.map (·.2)) ns)(hQ:∀p out kM n h' d tk,(∀b o,s.heap.get? b=some o->h'.get? b=some o)->s.heap.objs.size<=p->h'.get? p=some (vC "list" out n)->tK out.toList kM->kM.Perm ns->kM.Pairwise (· <= ·)->Q (.ref p) {s with heap:=h',drawn:=d,toks:=tk}):aE (model prog w) A (call (.builtin "sorted") [.ref S]) Q E s:=by
 refine Calls.call_function_entry kind_sorted plain_sorted entry_sorted (args_sorted1 _) ?_;unfold Builtin.«sorted»;refine aB (m:=checkCount "sorted" 1 1 _) (bz ?_);refine aB (acp (by simpa using hh) ho hc hd hf g ie hsz fun vs h2 d tk hp hk lW=>?_);have Lb:vs.length=es.size:=by rw[hp.length_eq];simp
 refine aB (wpAny_newList ?_ (by rw[Lb];size_fits));have zH:(h2.push (vC "list" vs.toArray 0)).get? h2.objs.size=some (vC "list" vs.toArray 0):=dZ _ rfl;have Uh:∃ms,tK vs ms/\ms.Perm ns:=by
  refine⟨vs.map numOf,intsAre_map vs fun v hv=>hI.all v (hp.mem_iff.mp hv),?_⟩;rw[<-hI.nums];exact hp.map _
 obtain⟨ms,hIv,K0⟩:=Uh;refine aB (pQ (oF slot_list_sort ⟨_,zH,rfl⟩ entry_list_sort (list_sort_treeAny zH hIv (by rw[Lb,jk];lia) fun out kM a1 a2 a3=>⟨_,rfl,?_⟩) (args_list_sort _)));refine bz ⟨_,rfl,?_⟩;obtain⟨n,uh⟩:∃n,(sortedHeap (h2.push (vC "list" vs.toArray 0)) h2.objs.size vs out).get? h2.objs.size=some (vC "list" out n):=sortedHeap_at zH;refine hQ _ out kM n _ d tk (fun b o e=>?_) lW uh a1 (a2.trans K0) a3;have hb:=hk b o e;have nH:=cj hb;show(sortedHeap (h2.push (vC "list" vs.toArray 0)) h2.objs.size vs out).get? b=some o;rw[sortedHeap_old (dR nH) (by rw[oB];exact tH nH)];exact cD _ hb
theorem WH{α:Type}[DecidableEq α]:∀{l m:List α},l.Nodup->(∀x∈l,x∈m)->m.length<=l.length->m.Perm l
 |[],m,_,_,h=>by
  have:m=[]:=yc.mp (by simpa using h);rw[this]
 |a::l,m,hn,hs,h=>by
  have ha:a∈m:=hs a eB;have hp:=List.perm_cons_erase ha;rw[vv]at hn;refine hp.trans (List.Perm.cons a (WH hn.2 (fun x hx=>?_) ?_))
  .have bL:x≠a:=fun z=>hn.1 (by rw[<-z];exact hx);exact(ZF bL).mpr (hs x (el _ hx))
  .rw[ZA ha];rw[cy]at h;lia
theorem aox{l:List Int}{x:Int}(h:l.Nodup):(step_dedup l x).Nodup:=by
 unfold step_dedup;split
 .exact h
 .rename_i hc;rw[ZH];refine⟨h,by simp,fun a ha b hb=>?_⟩;rw[eY]at hb;subst hb;intro e;subst e;apply hc;simpa using ha
theorem J7(val:Nat->Int):∀i,(gL val i).Nodup
 |0=>by rw[firstMet_zero];exact QL
 |i+1=>by rw[Q2];exact aox (J7 val i)
theorem aff(ns:List Int)(k:Int):k∈gL (fun i=>ns.getD i 0) ns.length↔k∈ns:=by
 have h:=firstMet_any (fun i=>ns.getD i 0) ns.length k;have e:(cW ns.length).map (fun i=>ns.getD i 0)=ns:=by
  refine Bc fun i=>?_;rw[bU];by_cases hi:i<ns.length
  .rw[tD hi];simp[hi]
  .rw[ow (by simpa using hi),ow (by simpa using hi)];rfl
 rw[e]at h;have a1:k∈gL (fun i=>ns.getD i 0) ns.length↔(gL (fun i=>ns.getD i 0) ns.length).any (· ==k)=true:=by simp
 have a2:k∈ns↔ns.any (· ==k)=true:=by simp
 rw[a1,a2,h]
theorem aiV{l:List Int}(h1:l.Pairwise (· <= ·))(h2:l.Nodup):l.Pairwise (· < ·):=by
 refine(h1.and h2).imp fun h=>?_;lia
theorem Xl:∀{l m:List Int},l.Pairwise (· < ·)->m.Pairwise (· < ·)->(∀k,k∈l↔k∈m)->l=m
 |[],[],_,_,_=>rfl
 |[],b::m,_,_,h=>by have:=(h b).mpr eB;cases this
 |a::l,[],_,_,h=>by have:=(h a).mp eB;cases this
 |a::l,b::m,h1,h2,h=>by
  rw[vw]at h1 h2;have e:a=b:=by
   rcases bX.mp ((h a).mp eB)with e|q
   .exact e
   .rcases bX.mp ((h b).mpr eB)with e|q2
    .exact e.symm
    .have:=h2.1 a q;have:=h1.1 b q2;lia
  subst e;rw[Xl h1.2 h2.2 fun k=>?_];constructor
  .intro hk;rcases bX.mp ((h k).mp (el _ hk))with e|q
   .have:=h1.1 k hk;lia
   .exact q
  .intro hk;rcases bX.mp ((h k).mpr (el _ hk))with e|q
   .have:=h2.1 k hk;lia
   .exact q
theorem aor{S:aa}{ns:List Int}{Q:af->ao->Prop}(hh:A.handled=none)(hS:hW prog w s.heap S (fun k'=>(gL (fun i=>ns.getD i 0) ns.length).any (· ==k')) (gL (fun i=>ns.getD i 0) ns.length).length (!gg w))(hsz:ns.length<10000)(hQ:∀p out kM n h' d tk,(∀b o,s.heap.get? b=some o->h'.get? b=some o)->s.heap.objs.size<=p->h'.get? p=some (vC "list" out n)->tK out.toList kM->kM.Pairwise (· < ·)->(∀k,k∈kM↔k∈ns)->kM.length<=ns.length->Q (.ref p) {s with heap:=h',drawn:=d,toks:=tk}):aE (model prog w) A (call (.builtin "sorted") [.ref S]) Q E s:=by
 obtain⟨o,es,ep,t,ho,hex,hd,eA,dF,hb,hf,hn,gd,ie⟩:=hS;have hint:∀v∈es.toList.map (·.2),∃n t,v=.int n t:=fun v hv=>by
  obtain⟨e,he,rfl⟩:=dI.mp hv;obtain⟨⟨k,hk,Z⟩,Z⟩:=eA e he;obtain⟨t,q⟩:=Rt hk;exact⟨k,t,q⟩
 have hI:=intsAre_map _ hint;have hm:∀k,k∈(es.toList.map (·.2)).map numOf↔k∈gL (fun i=>ns.getD i 0) ns.length:=fun k=>by
  have h1:=dF k;have a1:k∈gL (fun i=>ns.getD i 0) ns.length↔(gL (fun i=>ns.getD i 0) ns.length).any (· ==k)=true:=by simp
  rw[a1,h1];constructor
  .intro hk;obtain⟨v,hv,e⟩:=dI.mp hk;obtain⟨x,hx,rfl⟩:=dI.mp hv;obtain⟨n,t,q⟩:=hint _ hv;refine⟨x,hx,?_⟩;rw[q]at e ⊢;have:n=k:=e;rw[<-this];exact RH _ _ _ _
  .rintro⟨x,hx,q⟩;obtain⟨t,q2⟩:=Rt q;refine dI.mpr ⟨x.2,dI.mpr ⟨x,hx,rfl⟩,?_⟩;rw[q2];rfl
 have hlen:((es.toList.map (·.2)).map numOf).length=(gL (fun i=>ns.getD i 0) ns.length).length:=by simp[hn]
 have rW:=WH (J7 (fun i=>ns.getD i 0) ns.length) (fun x hx=>(hm x).mpr hx) (yj hlen);have hle:=Z3 (fun i=>ns.getD i 0) ns.length;refine aoq hh ho hex.1 hd hf gd ie (by lia) hI fun p out kM n h' d tk k hp e hi K0 zK=>?_;have KZ:=K0.trans rW;exact hQ p out kM n h' d tk k hp e hi (aiV zK (KZ.nodup_iff.mpr (J7 _ _))) (fun k=>KZ.mem_iff.trans (aff ns k)) (by rw[KZ.length_eq];exact hle)
end ST
namespace LB
open PySem PySem.Spec PyProof.Rows L2
variable{X:Cx}
theorem aic{pins:List (aa×aM)}{σ:L2.St}{H:Hp}{s:ao}{d:_}(I:Inv X pins σ H s):Inv X pins σ H {s with drawn:=d}:=⟨I.ok,I.os,I.bare,I.base,I.loc,I.cell,I.free,I.ic,I.pin,I.aT,I.len⟩
noncomputable def tSS(K:aK)(ta:TA):TE:=fun σ H Q=>ta σ H fun vs H1=>∃(a:aa)(ns:List Int),vs=[.ref a]/\aH K H1 a (ns.map V.int)/\ns.length<200/\∀(ms:List Int)(p:aa),H1 p=none->ms.Pairwise (· < ·)->(∀k,k∈ms↔k∈ns)->Q (.ref p) (upd H1 p (.lst (ms.map V.int)))
theorem amv{a:bw}{ta:TA}{p1 p2 q1 q2:b4}(hc:X.calm=true)(hg:Gl X "set")(hm:X.mg "set"=none)(zx:Gl X "sorted")(lT:X.mg "sorted"=none)(ha:PA X [a] ta)(hs:b5 [a] X.env=[(false,eval a X.env)]:=by rfl)(lW:b5 [Q8 (.Name "set" p1) [a] [] q1] X.env=[(false,eval (.Call (.Name "set" p1) [a] [] q1) X.env)]:=by rfl):PE X (.Call (.Name "sorted" p2) [.Call (.Name "set" p1) [a] [] q1] [] q2) (tSS X.K ta):=by
 intro pins s σ H Q I h;refine tJ (o7 I zx lT (by decide+kernel:pO "sorted"=some (.builtin "sorted")) (Z2 ?_ lW rfl));rw[lW];refine qR ?_;refine tJ (o7 I hg hm (by decide+kernel:pO "set"=some (.type "set")) (tL (bo (ha q1 pins s σ H _ I h) fun us s1 ⟨vs,H1,I1,r1,q1⟩=>?_) hs rfl));obtain⟨l,ns,e,hq,hl,q⟩:=q1;subst e;obtain⟨u,rfl,ru⟩:=vals1 r1;cases ru;obtain⟨aC,rv,pl,hz⟩:=I1.list hq;have hi:=rv.ints;have hlen:aC.length=ns.length:=hi.length;refine ST.an5 (items:=aC.toArray) (ns:=ns) (I1.ok.hd hc) pl.isList (by simpa using hi) (by simp only[eC];unfold pP;lia) fun h' tk hS hk=>(vE ?_);simp only[eC,hlen]at hS;refine ST.aor (I1.ok.hd hc) hS (by lia) fun p out kM n h2 d Yx iU hp ho hI zK dF jZ=>?_;have hsz:s1.heap.objs.size<=h'.objs.size:=by
  obtain⟨oS,Z,Z,Z,e,Z⟩:=hS;exact qM (cj e)
 have keep:∀b o,s1.heap.get? b=some o->h2.get? b=some o:=fun b o e=>iU b o (hk b o (cj e) e);have nL:s1.heap.objs.size<=p:=fA hsz hp;refine⟨.ref _,_,aic (s:={s1 with heap:=h2,toks:=Yx}) (I1.laid (t':=Yx) keep nL (show eR X.prog X.w _ h2 _ (.lst (kM.map V.int))from⟨by rw[bC,jk];lia,out.toList,n,YN hI,ho⟩)),rfl,q _ _ (I1.aT.fresh nL) zK dF⟩
end LB
namespace Rw
set_option tactic.hygienic false
open PySem PySem.Spec PyProof.Rows L2 XV LB
variable{P:aV}{w:aQ}{K:aK}{mg:ah->Option af}{base h:aG}
noncomputable def l8(l:List eF):List Nat:=0::l.flatMap fun r=>if r.high=999 then[r.low]else[r.low,r.high+1]
theorem WZ(n:Nat):∀{l:List Nat},l.Pairwise (· < ·)->(mD n l).Pairwise (· < ·)
 |[],_=>by simp[mD]
 |m::r,h=>by
  rw[vw]at h;unfold mD;split
  .exact vw.mpr h
  .split
   .rename_i h1 h2;refine vw.mpr ⟨fun x hx=>?_,vw.mpr h⟩;rcases bX.mp hx with e|q
    .lia
    .have:=h.1 x q;lia
   .refine vw.mpr ⟨fun x hx=>?_,WZ n h.2⟩;rcases(MF n x r).mp hx with e|q
    .lia
    .exact h.1 x q
theorem apj(l:List eF):(js l).Pairwise (· < ·):=by
 unfold js;have go:∀(q s:List Nat),s.Pairwise (· < ·)->(q.foldl (fun s n=>mD n s) s).Pairwise (· < ·):=by
  intro q;induction q with
  |nil=>intro s h;exact h
  |cons n r ih=>intro s h;exact ih _ (WZ n h)
 exact go _ _ (by simp)
theorem YG{l:List eF}(h:∀r∈l,mw r)(x:Nat):x∈l8 l↔x∈js l:=by
 rw[PZ];unfold l8;rw[bX,FX];constructor
 .rintro(e|⟨r,hr,q⟩)
  .exact .inr e
  .have ok:=h r hr;split at q
   .rw[eY]at q;exact .inl ⟨by have:=ok.le;have:=ok.hi;lia,r,hr,.inl q⟩
   .simp only[bX,jg,or_false]at q;exact .inl ⟨by have:=ok.le;have:=ok.hi;lia,r,hr,q⟩
 .rintro(⟨hx,r,hr,q⟩|e)
  .refine .inr ⟨r,hr,?_⟩;split
   .rcases q with q|q
    .simp[q]
    .lia
   .simpa using q
  .exact .inl e
theorem PY:∀l:List eF,(l8 l).length<=1+2*l.length
 |[]=>by simp[l8]
 |r::l=>by
  have:=PY l;unfold l8 at this ⊢;rw[FJ,cy,cY];rw[cy]at this;split<;>simp only[cy,je]<;>lia
theorem anj{l:List Nat}(h:l.Pairwise (· < ·)):(l.map fun n=>((n:Nat):Int)).Pairwise (· < ·):=by
 rw[QN];exact h.imp fun h=>by lia
noncomputable abbrev Nt:aW:=top 96
noncomputable abbrev aju:List ah:=["asked","numbers","bounds"]
theorem N8:bE aju ["asked"] (aP Nt):=bF
theorem Wf(ns:List Nat):iF ns=(ns.map fun n=>((n:Nat):Int)).map V.int:=by
 unfold iF;rw[gm];rfl
theorem akW{f:aa}{fd:bu}(F:bt K "sample_numbers" "sample_numbers" Nt f fd)(c1:bT mg "LARGEST_NUMBER" (.int 999))(B:Bt mg):bh P w K mg base az 1 f fd ["asked"] OQ:=by
 refine F.ok N8 (fun vs H Q E h=>?_) (fun aJ A outer s H vs Q E hr h=>?_)
 .obtain⟨l,us,os,rfl,Z⟩:=h;rfl
 .obtain⟨l,us,os,rfl,hl,nN,aT,uf,k⟩:=h;refine⟨_,aw (aZ (i:=1) N8.nd rfl (aF rfl) (cv (ai bc aj))) (aw (mT kg rfl (dP (pv 0)) (c8 (i:=2) N8.nd rfl (aF rfl)) (aA (bx (bq DN (pv 2) cT (bp _)) (aw (ej (iG g9 lj mi lZ (pv 1) (ai (bZ fD (pv 2) bc (fun Z Z=>rfl)) aj))) (aA (bx (bq j5 (bZ fD (pv 2) bc (fun Z Z=>rfl)) (bP c1 rfl) (bp _)) (aA (ej (iG g9 lj mi lZ (pv 1) (ai (dH mQ (bZ fD (pv 2) bc (fun Z Z=>rfl)) bc) aj)))) bA))) bA))) (aA (aI (amv rfl rfl B.set rfl B.sorted (ai (pv 1) aj))))),?_⟩;refine⟨by rw[jk];decide,fun ln jZ=>?_⟩;have lU:l≠ln:=cC hl jZ;refine⟨_,rfl,l,rfl,⟨us,aH.of (by rw[ba lU];exact hl)⟩,?_⟩;refine oQ (K:=K) (a:=l) (xs:=us) (fun i σ H'=>∃v2,σ=[some (.ref l),some (.ref ln),v2]/\aq H H'/\H' ln=some (.lst (iF (l8 ((os.take i).filterMap id))))) ⟨none,rfl,bj (aq.refl _) jZ,aD⟩ (fun i σ H' Z p=>?_) (fun i x σ H' hx p=>?_) (fun σ H' p=>?_)
  .obtain⟨v2,Z,sm,Z⟩:=p;exact aH.of (sm _ _ hl)
  .obtain⟨v2,rfl,sm,hn⟩:=p;have hi:=(dQ.mp hx).1;have ur:i<os.length:=by rw[<-nN.1];exact hi
   obtain⟨o,e⟩:∃o,os[i]? =some o:=⟨_,cV ur⟩;have et:os.take (i+1)=os.take i++[o]:=by rw[me,e];rfl
   have K6:=nN.2 i x o hx e;have agB:=PY ((os.take i).filterMap id);have oX:=yd id (os.take i);rw[iN]at oX;refine⟨_,rfl,rfl,_,rfl,eO (fun z=>?_) (fun z=>?_)⟩
   .cases o with
    |none=>exact absurd K6 z
    |some r=>
     obtain⟨b,rfl,hb⟩:=K6;have t9:l8 ((os.take (i+1)).filterMap id)=l8 ((os.take i).filterMap id)++(if r.high=999 then[r.low]else[r.low,r.high+1]):=by
      rw[et,FF];unfold l8;rw[Bd];simp
     have nH:b≠ln:=cC hb jZ;refine⟨_,rfl,.inl ⟨rfl,_,aH.of hn⟩,_,rfl,b,_,0,_,rfl,rfl,cN.of (sm _ _ hb),bY (j:=0) rfl,ln,_,_,rfl,rfl,hn,dN _ (by unfold iF;rw[bC];lia),?_⟩;have s2:aq H (upd H' ln (.lst (iF (l8 ((os.take i).filterMap id))++[.int (r.low:Nat)]))):=gH sm jZ;have jw:upd H' ln (.lst (iF (l8 ((os.take i).filterMap id))++[.int (r.low:Nat)])) ln=some (.lst (iF (l8 ((os.take i).filterMap id))++[.int (r.low:Nat)])):=aD;generalize upd H' ln (.lst (iF (l8 ((os.take i).filterMap id))++[.int (r.low:Nat)]))=H2 at s2 jw ⊢;refine⟨_,rfl,b,_,1,_,rfl,rfl,cN.of (s2 _ _ hb),bY (j:=1) rfl,rfl,_,rfl,eO (fun z2=>?_) (fun z2=>?_)⟩
     .have h9:¬r.high=999:=fun q=>z2 (by rw[q];rfl);rw[if_neg h9]at t9;refine⟨_,rfl,.inl ⟨rfl,_,aH.of jw⟩,_,rfl,b,_,1,_,rfl,rfl,cN.of (s2 _ _ hb),bY (j:=1) rfl,_,_,rfl,rfl,ln,_,_,rfl,rfl,jw,dN _ (by rw[cY];unfold iF;rw[bC];simp;lia),?_⟩;refine⟨_,rfl,gH s2 jZ,?_⟩;rw[aD,t9];unfold iF;rw[fz,iL];rfl
     .have h9:r.high=999:=by
       have q:V.int ((r.high:Nat):Int)=V.int 999:=z2;injection q with q
       lia
      rw[if_pos h9]at t9;refine⟨_,rfl,s2,?_⟩;rw[jw,t9];unfold iF;rw[fz];rfl
   .cases o with
    |some r=>obtain⟨b,e2,Z⟩:=K6;rw[e2]at z;cases z
    |none=>
     refine⟨_,rfl,sm,?_⟩;rw[et,FF];simpa using hn
  .obtain⟨v2,rfl,sm,hn⟩:=p;have ee:os.take us.length=os:=by rw[nN.1,jK]
   rw[ee]at hn;have agB:=PY (os.filterMap id);have oX:=yd id os;have UP:∀r∈os.filterMap id,mw r:=fun r hr=>by
    obtain⟨o,ho,e⟩:=tG.mp hr;exact aT r (by rw[<-e];exact ho)
   rw[Wf]at hn;refine⟨_,rfl,ln,_,rfl,aH.of hn,by rw[bC];lia,fun ms p hp zK dF=>?_⟩;have hms:ms=(js (os.filterMap id)).map fun n=>((n:Nat):Int):=by
    refine ST.Xl zK (anj (apj _)) fun k=>?_;rw[dF k,dI,dI];constructor
    .rintro⟨n,h1,h2⟩;exact⟨n,(YG UP n).mp h1,h2⟩
    .rintro⟨n,h1,h2⟩;exact⟨n,(YG UP n).mpr h1,h2⟩
   subst hms;refine k p _ (sm.free hp) (bj sm hp) ?_;rw[aD,Wf]
theorem cJ{p:List af->Prop}(h:∀a0,p [a0])(us:List af)(hl:us.length=1):p us:=match us,hl with|[a0],_=>h a0
theorem eT{p:List af->Prop}(h:∀a0 a1,p [a0,a1])(us:List af)(hl:us.length=2):p us:=match us,hl with|[a0,a1],_=>h a0 a1
theorem nu{p:List af->Prop}(h:∀a0 a1 a2,p [a0,a1,a2])(us:List af)(hl:us.length=3):p us:=match us,hl with|[a0,a1,a2],_=>h a0 a1 a2
theorem ar4{p:List af->Prop}(h:∀a0 a1 a2 a3,p [a0,a1,a2,a3])(us:List af)(hl:us.length=4):p us:=match us,hl with|[a0,a1,a2,a3],_=>h a0 a1 a2 a3
theorem B6{p:List af->Prop}(h:∀a0 a1 a2 a3 a4,p [a0,a1,a2,a3,a4])(us:List af)(hl:us.length=5):p us:=match us,hl with|[a0,a1,a2,a3,a4],_=>h a0 a1 a2 a3 a4
structure bK(K:aK)(x:ah)(st:aW):Prop where
 ex:∃f fd,fB K cX x=some (some (.ref f))/\bt K x x st f fd
theorem df0{x:ah}{st:aW}{f:aa}{oc:af}{od an:Option aa}{gX:Array (Option af)}{kV doc pm aJ ct:af}(a:fB K cX x=some (some (.ref f)))(l:K.lookup f=some ⟨oc,od,.func (ly x x (oK st) (lO st) (aP st) .none kV doc pm an aJ ct),gX⟩)(c:vJ K aJ x=true)(k:lz K (.ref f)=true):bK K x st:=⟨_,_,a,Kb l c k⟩
theorem bK.df{x:ah}{st:aW}{ps:List ah}(X:K.In h)(G:h.Ns cX mg)(D:bK K x st)(hb:∀(kV doc pm:af)(an:Option aa)(aJ ct:af)(us:List af),us.length=ps.length->BG (ly x x (oK st) (lO st) (aP st) .none kV doc pm an aJ ct) ⟨us,[]⟩=pure (ps.zip us)):Df K mg x st ps:=let ⟨_,_,a,F⟩:=D.ex;⟨_,_,F,yx X G a,F.binds hb⟩
structure k8(K:aK)(C:aa)(m qual:ah)(st:aW):Prop where
 ex:∃f fd,lx K (.ref C) m=some (some (.ref f))/\pN K (.ref f)=true/\bt K m qual st f fd
theorem xf{C:aa}{m qual:ah}{st:aW}{f:aa}{oc:af}{od an:Option aa}{gX:Array (Option af)}{kV doc pm aJ ct:af}(a:lx K (.ref C) m=some (some (.ref f)))(i:pN K (.ref f)=true)(l:K.lookup f=some ⟨oc,od,.func (ly m qual (oK st) (lO st) (aP st) .none kV doc pm an aJ ct),gX⟩)(c:vJ K aJ qual=true)(k:lz K (.ref f)=true):k8 K C m qual st:=⟨_,_,a,i,Kb l c k⟩
theorem k8.mt{CX:f7}{C:aa}{m qual:ah}{st:aW}{ps:List ah}{k:Nat}{sp:Sp}(D:k8 K C m qual st)(hb:∀(kV doc pm:af)(an:Option aa)(aJ ct:af)(us:List af),us.length=ps.length->BG (ly m qual (oK st) (lO st) (aP st) .none kV doc pm an aJ ct) ⟨us,[]⟩=pure (ps.zip us))(ok:∀f fd,bt K m qual st f fd->bh P w K mg base CX k f fd ps sp):Mt P w K mg base CX k C m ps sp:=let ⟨_,_,a,i,F⟩:=D.ex;⟨_,_,⟨a,i,F.kp⟩,ok _ _ F,F.binds hb⟩
structure kX(K:aK)(x:ah)(C:aa)(qual:ah)(st:aW):Prop where
 ns:fB K cX x=some (some (.ref C))
 cls:jG K C
 mks:GC K C=true
 kp:lz K (.ref C)=true
 init:k8 K C "__init__" qual st
theorem cl0{x:ah}{C:aa}{qual:ah}{st:aW}(ns:fB K cX x=some (some (.ref C)))(pg:BF K C hG=true)(hd:GA K C=true)(po:Ry K C=true)(sa:lx K (.ref C) "__setattr__"=some (some (.builtin "object.__setattr__")))(mk:GC K C=true)(kp:lz K (.ref C)=true)(init:k8 K C "__init__" qual st):kX K x C qual st:=⟨ns,⟨pg,hd,po,sa⟩,mk,kp,init⟩
theorem kX.cl{x:ah}{C:aa}{qual:ah}{st:aW}{ps:List ah}{k:Nat}{sp:Sp}(X:K.In h)(G:h.Ns cX mg)(D:kX K x C qual st)(hb:∀(kV doc pm:af)(an:Option aa)(aJ ct:af)(us:List af),us.length=ps.length->BG (ly "__init__" qual (oK st) (lO st) (aP st) .none kV doc pm an aJ ct) ⟨us,[]⟩=pure (ps.zip us))(ok:∀f fd,bt K "__init__" qual st f fd->bh P w K mg base az k f fd ps sp):Cl P w K mg base k x C ps sp:=let ⟨_,_,a,i,F⟩:=D.init.ex;⟨D.cls,yx X G D.ns,⟨_,_,⟨D.mks,a,i,D.kp⟩,ok _ _ F,F.binds hb⟩⟩
noncomputable def Nf(K:aK)(C:aa):List ah->Prop
 |[]=>True
 |f::r=>lx K (.ref C) f=some none/\Nf K C r
theorem Nf.all{C:aa}:∀{fs:List ah},Nf K C fs->∀f∈fs,pI K C f
 |[],_,f,hf=>nomatch hf
 |g::r,h,f,hf=>by
  rcases bX.mp hf with e|q
  .rw[e];exact h.1
  .exact Nf.all h.2 f q
theorem kX.ty{x:ah}{C:aa}{qual:ah}{st:aW}{fs:List ah}(D:kX K x C qual st)(n:Nf K C fs):Ty K C fs:=⟨D.cls,n.all⟩
structure C0(K:aK)(x:ah)(v:V):Prop where
 ex:∃u,fB K cX x=some (some u)/\RelV v u
theorem c0i{x:ah}{n:Int}{t:ji}(a:fB K cX x=some (some (.int n t))):C0 K x (.int n):=⟨_,a,t,rfl⟩
theorem c0s{x s:ah}{t:ji}(a:fB K cX x=some (some (.str s t))):C0 K x (.str s):=⟨_,a,t,rfl⟩
theorem C0.cst{x:ah}{v:V}(X:K.In h)(G:h.Ns cX mg)(D:C0 K x v):bT mg x v:=let ⟨_,a,r⟩:=D.ex;⟨_,yx X G a,r⟩
noncomputable def TupIs(o:aM)(xs:List V):Prop:=o.cls=.type "tuple"/\∃aC n,o.data=.seq aC n/\aC.size<=sizeLine/\Vals xs aC.toList
structure vo(K:aK)(x:ah)(xs:List V):Prop where
 ex:∃p o,fB K cX x=some (some (.ref p))/\K.lookup p=some o/\TupIs o xs
theorem Lx{x:ah}{xs:List V}{p:aa}{o:aM}(a:fB K cX x=some (some (.ref p)))(l:K.lookup p=some o)(t:TupIs o xs):vo K x xs:=⟨_,_,a,l,t⟩
theorem vo.kt{x:ah}{xs:List V}(X:K.In h)(G:h.Ns cX mg)(D:vo K x xs):KT K mg x xs:=let ⟨p,o,a,l,c,aC,n,d,z,v⟩:=D.ex;⟨p,⟨_,yx X G a,rfl⟩,fun H=> .inr ⟨o,aC,n,l,c,d,z,v⟩⟩
noncomputable def Qp(w:aQ)(o:aM)(kvs:List (ah×Int)):Prop:=∃es ep,o=⟨.type "dict",none,.dict es ep,#[]⟩/\A7 w es.toList kvs
structure vn(w:aQ)(K:aK)(x:ah)(kvs:List (ah×Int)):Prop where
 ex:∃p o,fB K cX x=some (some (.ref p))/\K.lookup p=some o/\Qp w o kvs/\(p==kj)=false
theorem Lv{x:ah}{kvs:List (ah×Int)}{p:aa}{o:aM}(a:fB K cX x=some (some (.ref p)))(l:K.lookup p=some o)(t:Qp w o kvs)(s:(p==kj)=false):vn w K x kvs:=⟨_,_,a,l,t,s⟩
theorem vn.kd{x:ah}{kvs:List (ah×Int)}(X:K.In h)(G:h.Ns cX mg)(D:vn w K x kvs)(nd:(kvs.map (·.1)).Nodup):tq P w K mg x kvs:=by
 obtain⟨p,o,a,l,⟨es,ep,rfl,he⟩,s⟩:=D.ex;exact⟨p,⟨_,yx X G a,rfl⟩,s,nd,es,ep,l,he⟩
noncomputable abbrev Ay:aW:=inClass (top 7) 0
theorem afk:Fu Ay:=⟨bF,rfl,rfl,rfl,⟨_,_,_,_,_,_,_,_,rfl⟩⟩
structure A5(K:aK)(C:aa):Prop where
 ns:fB K cX "TextFault"=some (some (.ref C))
 kp:lz K (.ref C)=true
 ex:∃f fd,Fj K C f ["kind","place"]/\pN K (.ref f)=true/\bt K "__init__" "TextFault.__init__" Ay f fd
theorem afj{C N f:aa}{nm qn:ah}{bs mro subs:List af}{hd ab del:Bool}{sn:List ah}{col:Option Bool}{dd dn:Option aa}{cn:af}{sl sN:Array (Option af)}{es:Array ke}{ep:Nat}{oc:af}{od an:Option aa}{gX:Array (Option af)}{kV doc pm aJ ct:af}(ns:fB K cX "TextFault"=some (some (.ref C)))(kp:lz K (.ref C)=true)(l1:K.lookup C=some ⟨.type "type",dd,.cls ⟨nm,bs,mro,N,qn,hd,sn,subs,ab,col,del⟩,sl⟩)(l2:K.lookup N=some ⟨cn,dn,.dict es ep,sN⟩)(a:lx K (.ref C) "__init__"=some (some (.ref f)))(i:pN K (.ref f)=true)(l:K.lookup f=some ⟨oc,od,.func (ly "__init__" "TextFault.__init__" (oK Ay) (lO Ay) (aP Ay) .none kV doc pm an aJ ct),gX⟩)(c:vJ K aJ "TextFault.__init__"=true)(k:lz K (.ref f)=true)(b:∃k0 k1 k2 k3 k5,mro=[.ref C,.type "ValueError",.type "Exception",.type "BaseException",.type "object"]/\hd=true/\del=false/\sl=#[k0,k1,k2,k3,some (.builtin "ValueError.__new__"),k5]/\L8 es f ["kind","place"]=true):A5 K C:=by
 obtain⟨k0,k1,k2,k3,k5,rfl,rfl,rfl,rfl,b⟩:=b;exact⟨ns,kp,_,_,⟨_,_,_,_,_,_,_,_,_,_,_,_,_,_,_,_,_,_,_,l1,l2,b⟩,i,Kb l c k⟩
theorem A5.gh{C:aa}(X:K.In h)(G:h.Ns cX mg)(D:A5 K C):Flt K mg C:=let ⟨_,_,x,i,F⟩:=D.ex;⟨⟨_,_,_,x,i,F,afk,F.binds fun Z Z Z Z Z Z=>nu fun Z Z Z=>rfl⟩,yx X G D.ns,D.kp⟩
theorem ahp(os:List (Option eF))(h:os.length<=20):(js (os.filterMap id)).length<=1000:=by
 have h1:=api (os.filterMap id);have h2:=yd id os;lia
theorem agf(os:List (Option au))(h:os.length<=20):(mE (os.filterMap id)).length<=1000:=by
 unfold mE;rw[cY];have h1:=Mc (os.filterMap id);have h2:=yd id os;have h3:([B0 (os.filterMap id)]:List au).length=1:=rfl;lia
theorem all_mk{P:aV}{w:aQ}{K:aK}{h:aG}{mg:ah->Option af}{fa CE CP CW CT CR CC CN CL CF:aa}(X:K.In h)(G:h.Ns cX mg)(hfa:mg "answers"=some (.ref fa))(abC:fB K cX "len"=some none)(abG:fB K cX "range"=some none)(abL:fB K cX "sum"=some none)(abA:fB K cX "any"=some none)(abz:fB K cX "all"=some none)(abD:fB K cX "list"=some none)(abH:fB K cX "reversed"=some none)(abJ:fB K cX "sorted"=some none)(abI:fB K cX "set"=some none)(abE:fB K cX "min"=some none)(abF:fB K cX "ord"=some none)(abB:fB K cX "int"=some none)(abK:fB K cX "str"=some none)(Hh:C0 K "FIRST_BYTE" (.int 32))(Hl:C0 K "LONGEST_NAME" (.int 8))(Ho:C0 K "MOST_DIGITS" (.int 3))(y4:C0 K "LARGEST_NUMBER" (.int 999))(Hu:C0 K "NO_EVENT" (.int 1))(HL:C0 K "TOO_MANY_EVENTS" (.int 2))(Ce:C0 K "MOST_EVENTS" (.int 40))(Hv:C0 K "NO_TOKEN" (.int 2))(Hd:C0 K "CANT_GO_ON" (.int 3))(Hq:C0 K "MOST_LEVELS" (.int 20))(HJ:C0 K "TOO_DEEP" (.int 4))(Hn:C0 K "MOST_BYTES" (.int 1000))(HK:C0 K "TOO_LONG" (.int 1))(Hr:C0 K "MOST_NODES" (.int 30))(HM:C0 K "TOO_MANY_NODES" (.int 5))(Hs:C0 K "MOST_PATTERNS" (.int 5))(HN:C0 K "TOO_MANY_PATTERNS" (.int 6))(Hc:C0 K "ATOM" (.int 5))(Hw:C0 K "ONE" (.int 4))(Cf:C0 K "NOT_AN_EVENT" (.int (-1)))(HD:C0 K "RUN_IS_FULL" (.int (-3)))(HC:C0 K "RUN_IS_EMPTY" (.int (-4)))(rH:C0 K "NO_SUCH_PLACE" (.int (-2)))(Ht:C0 K "NOT_A_PATTERN" (.int (-5)))(HB:C0 K "READ" (.int 6))(HE:C0 K "SHOW" (.int 7))(Hi:C0 K "HOLDS" (.int 8))(Hz:C0 K "PLACES" (.int 9))(Hy:C0 K "PATTERNS" (.int 11))(HG:C0 K "SIGNS_runs" (.int 12))(HF:C0 K "SIGN" (.int 13))(Hk:C0 K "LOAD" (.int 0))(Ha:C0 K "ADD" (.int 1))(HA:C0 K "PUT" (.int 2))(Hf:C0 K "DROP" (.int 3))(HI:C0 K "TEXT" (.int 4))(Hg:C0 K "EVENT" (.int 5))(Hm:C0 K "MATCHES" (.int 10))(He:C0 K "CHARACTERS" (.str signs))(HP:C0 K "USELESS" (.str "?"))(y6:C0 K "PATTERN" (.str "pattern"))(HH:C0 K "SIGNS_tokens" (.str "!&|()"))(Cd:C0 K "END" (.str ""))(Hj:C0 K "LETTERS" (.str "abcdefghijklmnopqrstuvwxyz"))(PH:vo K "PREFIXES" [V.str "!",V.str "next",V.str "ever",V.str "always",V.str "within"])(PF:vo K "CALLS_WITH_INDEX" [V.int 2,V.int 5,V.int 8,V.int 10,V.int 13,V.int 14])(PD:vo K "CALLS_WITHOUT_TEXT" [V.int 3,V.int 4,V.int 5])(Ls:vn w K "OWN_RULES" DO)(Lr:vn w K "LEFT_RULES" zZ)(Lu:vn w K "RIGHT_RULES" D6)(gh:A5 K CF)(Vo:kX K "Event" CE "Event.__init__" Nb)(ajS:Nf K CE ["kind","subject","number","gap"])(Vp:kX K "Pattern" CP "Pattern.__init__" Ny)(ajT:Nf K CP ["kind","subject","numbers","gaps"])(Vu:kX K "Wish" CW "Wish.__init__" EA)(ajX:Nf K CW ["word","number","pattern","parts","nodes"])(Vs:kX K "Token" CT "Token.__init__" NY)(ajW:Nf K CT ["text","place","pattern"])(Vq:kX K "Reader" CR "Reader.__init__" NC)(ajU:Nf K CR ["tokens","taken","levels"])(Vn:kX K "Choice" CC "Choice.__init__" M4)(ajR:Nf K CC ["worth","sign"])(Vr:kX K "Run" CN "Run.__init__" NJ)(ajV:Nf K CN ["events"])(Vm:kX K "Call" CL "Call.__init__" M3)(ajQ:Nf K CL ["number","index","text","behind"])(LI:k8 K CR "ahead" "Reader.ahead" MY)(LM:k8 K CR "take" "Reader.take" NM)(LN:k8 K CR "take_digit" "Reader.take_digit" NN)(LO:k8 K CR "take_pattern" "Reader.take_pattern" NO)(LJ:k8 K CR "enter_level" "Reader.enter_level" Na)(LL:k8 K CR "leave_level" "Reader.leave_level" Nk)(uL:k8 K CN "has_event" "Run.has_event" Ni)(LK:k8 K CN "has_place" "Run.has_place" Nj)(Il:bK K "character_of" M5)(Jv:bK K "text_of" Ew)(Ik:bK K "bytes_of" Eh)(IB:bK K "is_letters" Nl)(IC:bK K "is_name" Np)(IZ:bK K "read_number" Nr)(IW:bK K "read_event" ND)(Ir:bK K "event_text" Nc)(Jy:bK K "token_end" NX)(Jd:bK K "read_run" NH)(Jg:bK K "run_text" Er)(Jw:bK K "time_of" Ex)(Ij:bK K "bound_of" M1)(Jc:bK K "read_range" NG)(IQ:bK K "range_text" NB)(Iy:bK K "fits_name" Ng)(Iz:bK K "fits_range" Nh)(Iw:bK K "fits_event" Nd)(Jh:bK K "same_pattern" NK)(IK:bK K "pattern_text" Nv)(Jb:bK K "read_pattern" NF)(IA:bK K "is_among" Ed)(IL:bK K "patterns_of" Nw)(JD:bK K "truths_up_to" NZ)(JC:bK K "truths_of_two" xA)(Jz:bK K "truths_behind_prefix" uZ)(JB:bK K "truths_of_pattern" uY)(JA:bK K "truths_of" Ey)(JH:bK K "word_end" N3)(IJ:bK K "pattern_at" Nu)(Jx:bK K "token_at" NW)(Ip:bK K "cut_tokens" M7)(IX:bK K "read_if" Ej)(Ja:bK K "read_or" Eo)(IS:bK K "read_and" Ee)(Je:bK K "read_until" Ez)(I0:bK K "read_one" En)(IT:bK K "read_atom" Ef)(IU:bK K "read_bracketed" Eg)(IV:bK K "read_counted" Ei)(Jf:bK K "read_wish" NI)(Im:bK K "counted_text" M6)(IM:bK K "prefix_text" Nz)(II:bK K "part_text" Ep)(JF:bK K "wish_text" Es)(Jk:bK K "sign_number" NL)(Jl:bK K "sign_of" Et)(Ji:bK K "sample_names" El)(IF:bK K "name_choices" Ek)(IG:bK K "number_choices" Em)(Jj:bK K "sample_numbers" Nt)(Iu:bK K "first_samples" uW)(IH:bK K "number_of_truth" Nq)(JG:bK K "with_length" N2)(ID:bK K "load" Nm)(Ig:bK K "add" MX)(Iq:bK K "drop" M9)(IP:bK K "put" NA)(Jo:bK K "tell_event" NQ)(Jq:bK K "tell_matches" NS)(Jn:bK K "tell_counts" NP)(Jp:bK K "tell_holds" NR)(Js:bK K "tell_places" Eu)(Jr:bK K "tell_patterns" NT)(Jt:bK K "tell_sign" NU)(Jm:bK K "tell_alike" Az)(Ju:bK K "tell_signs" NV)(JE:bK K "wish_answer" N1)(IE:bK K "made_answer" Nn)(Io:bK K "cut_call" M8)(Ih:bK K "answer_of" MZ)(Ii:bK K "answers" M0):∃fd:bu,(∀(s:ao)(us:List af),us.length=(["calls"]:List ah).length->vD s fd ⟨us,[]⟩ ((["calls"]:List ah).zip us))/\∀base:aG,K.In base->base.Ns cX mg->bh P w K mg base az 157 fa fd ["calls"] (ER K):=by
 replace Il:=Il.df X G (ps:=["byte"]) fun Z Z Z Z Z Z=>cJ fun Z=>rfl;replace Jv:=Jv.df X G (ps:=["row"]) fun Z Z Z Z Z Z=>cJ fun Z=>rfl;replace Ik:=Ik.df X G (ps:=["text"]) fun Z Z Z Z Z Z=>cJ fun Z=>rfl;replace IB:=IB.df X G (ps:=["text"]) fun Z Z Z Z Z Z=>cJ fun Z=>rfl;replace IC:=IC.df X G (ps:=["text"]) fun Z Z Z Z Z Z=>cJ fun Z=>rfl;replace IZ:=IZ.df X G (ps:=["text"]) fun Z Z Z Z Z Z=>cJ fun Z=>rfl;replace IW:=IW.df X G (ps:=["text"]) fun Z Z Z Z Z Z=>cJ fun Z=>rfl;replace Ir:=Ir.df X G (ps:=["event"]) fun Z Z Z Z Z Z=>cJ fun Z=>rfl;replace Jy:=Jy.df X G (ps:=["text","place"]) fun Z Z Z Z Z Z=>eT fun Z Z=>rfl;replace Jd:=Jd.df X G (ps:=["text"]) fun Z Z Z Z Z Z=>cJ fun Z=>rfl;replace Jg:=Jg.df X G (ps:=["events"]) fun Z Z Z Z Z Z=>cJ fun Z=>rfl;replace Jw:=Jw.df X G (ps:=["events","index"]) fun Z Z Z Z Z Z=>eT fun Z Z=>rfl;replace Ij:=Ij.df X G (ps:=["text","unwritten"]) fun Z Z Z Z Z Z=>eT fun Z Z=>rfl;replace Jc:=Jc.df X G (ps:=["text"]) fun Z Z Z Z Z Z=>cJ fun Z=>rfl;replace IQ:=IQ.df X G (ps:=["bounds"]) fun Z Z Z Z Z Z=>cJ fun Z=>rfl;replace Iy:=Iy.df X G (ps:=["asked","name"]) fun Z Z Z Z Z Z=>eT fun Z Z=>rfl;replace Iz:=Iz.df X G (ps:=["bounds","number"]) fun Z Z Z Z Z Z=>eT fun Z Z=>rfl;replace Iw:=Iw.df X G (ps:=["pattern","event"]) fun Z Z Z Z Z Z=>eT fun Z Z=>rfl;replace Jh:=Jh.df X G (ps:=["one","other"]) fun Z Z Z Z Z Z=>eT fun Z Z=>rfl;replace IK:=IK.df X G (ps:=["pattern"]) fun Z Z Z Z Z Z=>cJ fun Z=>rfl;replace Jb:=Jb.df X G (ps:=["text"]) fun Z Z Z Z Z Z=>cJ fun Z=>rfl;replace IA:=IA.df X G (ps:=["pattern","found"]) fun Z Z Z Z Z Z=>eT fun Z Z=>rfl;replace IL:=IL.df X G (ps:=["wish"]) fun Z Z Z Z Z Z=>cJ fun Z=>rfl;replace JD:=JD.df X G (ps:=["left","right","at_end"]) fun Z Z Z Z Z Z=>nu fun Z Z Z=>rfl;replace JC:=JC.df X G (ps:=["word","left","right"]) fun Z Z Z Z Z Z=>nu fun Z Z Z=>rfl;replace Jz:=Jz.df X G (ps:=["word","number","part"]) fun Z Z Z Z Z Z=>nu fun Z Z Z=>rfl;replace JB:=JB.df X G (ps:=["wish","events"]) fun Z Z Z Z Z Z=>eT fun Z Z=>rfl;replace JA:=JA.df X G (ps:=["wish","events"]) fun Z Z Z Z Z Z=>eT fun Z Z=>rfl;replace JH:=JH.df X G (ps:=["text","place"]) fun Z Z Z Z Z Z=>eT fun Z Z=>rfl;replace IJ:=IJ.df X G (ps:=["text","place"]) fun Z Z Z Z Z Z=>eT fun Z Z=>rfl;replace Jx:=Jx.df X G (ps:=["text","place"]) fun Z Z Z Z Z Z=>eT fun Z Z=>rfl;replace Ip:=Ip.df X G (ps:=["text"]) fun Z Z Z Z Z Z=>cJ fun Z=>rfl;replace IX:=IX.df X G (ps:=["reader"]) fun Z Z Z Z Z Z=>cJ fun Z=>rfl;replace Ja:=Ja.df X G (ps:=["reader"]) fun Z Z Z Z Z Z=>cJ fun Z=>rfl;replace IS:=IS.df X G (ps:=["reader"]) fun Z Z Z Z Z Z=>cJ fun Z=>rfl;replace Je:=Je.df X G (ps:=["reader"]) fun Z Z Z Z Z Z=>cJ fun Z=>rfl;replace I0:=I0.df X G (ps:=["reader"]) fun Z Z Z Z Z Z=>cJ fun Z=>rfl;replace IT:=IT.df X G (ps:=["reader"]) fun Z Z Z Z Z Z=>cJ fun Z=>rfl;replace IU:=IU.df X G (ps:=["reader"]) fun Z Z Z Z Z Z=>cJ fun Z=>rfl;replace IV:=IV.df X G (ps:=["reader","word","least"]) fun Z Z Z Z Z Z=>nu fun Z Z Z=>rfl;replace Jf:=Jf.df X G (ps:=["text"]) fun Z Z Z Z Z Z=>cJ fun Z=>rfl;replace Im:=Im.df X G (ps:=["wish"]) fun Z Z Z Z Z Z=>cJ fun Z=>rfl;replace IM:=IM.df X G (ps:=["wish"]) fun Z Z Z Z Z Z=>cJ fun Z=>rfl;replace II:=II.df X G (ps:=["part","asked"]) fun Z Z Z Z Z Z=>eT fun Z Z=>rfl;replace JF:=JF.df X G (ps:=["wish"]) fun Z Z Z Z Z Z=>cJ fun Z=>rfl;replace Jk:=Jk.df X G (ps:=["truths"]) fun Z Z Z Z Z Z=>cJ fun Z=>rfl;replace Jl:=Jl.df X G (ps:=["patterns","event"]) fun Z Z Z Z Z Z=>eT fun Z Z=>rfl;replace Ji:=Ji.df X G (ps:=["asked"]) fun Z Z Z Z Z Z=>cJ fun Z=>rfl;replace IF:=IF.df X G (ps:=["asked"]) fun Z Z Z Z Z Z=>cJ fun Z=>rfl;replace IG:=IG.df X G (ps:=["asked"]) fun Z Z Z Z Z Z=>cJ fun Z=>rfl;replace Jj:=Jj.df X G (ps:=["asked"]) fun Z Z Z Z Z Z=>cJ fun Z=>rfl;replace Iu:=Iu.df X G (ps:=["patterns"]) fun Z Z Z Z Z Z=>cJ fun Z=>rfl;replace IH:=IH.df X G (ps:=["truth"]) fun Z Z Z Z Z Z=>cJ fun Z=>rfl;replace JG:=JG.df X G (ps:=["text"]) fun Z Z Z Z Z Z=>cJ fun Z=>rfl;replace ID:=ID.df X G (ps:=["run","text"]) fun Z Z Z Z Z Z=>eT fun Z Z=>rfl;replace Ig:=Ig.df X G (ps:=["run","text"]) fun Z Z Z Z Z Z=>eT fun Z Z=>rfl;replace Iq:=Iq.df X G (ps:=["run"]) fun Z Z Z Z Z Z=>cJ fun Z=>rfl;replace IP:=IP.df X G (ps:=["run","index","text"]) fun Z Z Z Z Z Z=>nu fun Z Z Z=>rfl;replace Jo:=Jo.df X G (ps:=["run","index"]) fun Z Z Z Z Z Z=>eT fun Z Z=>rfl;replace Jq:=Jq.df X G (ps:=["run","index","text"]) fun Z Z Z Z Z Z=>nu fun Z Z Z=>rfl;replace Jn:=Jn.df X G (ps:=["wish"]) fun Z Z Z Z Z Z=>cJ fun Z=>rfl;replace Jp:=Jp.df X G (ps:=["run","index","text"]) fun Z Z Z Z Z Z=>nu fun Z Z Z=>rfl;replace Js:=Js.df X G (ps:=["run","wish"]) fun Z Z Z Z Z Z=>eT fun Z Z=>rfl;replace Jr:=Jr.df X G (ps:=["wish"]) fun Z Z Z Z Z Z=>cJ fun Z=>rfl;replace Jt:=Jt.df X G (ps:=["run","index","text"]) fun Z Z Z Z Z Z=>nu fun Z Z Z=>rfl;replace Jm:=Jm.df X G (ps:=["run","index","text"]) fun Z Z Z Z Z Z=>nu fun Z Z Z=>rfl;replace Ju:=Ju.df X G (ps:=["wish"]) fun Z Z Z Z Z Z=>cJ fun Z=>rfl;replace JE:=JE.df X G (ps:=["run","call"]) fun Z Z Z Z Z Z=>eT fun Z Z=>rfl;replace IE:=IE.df X G (ps:=["run","call"]) fun Z Z Z Z Z Z=>eT fun Z Z=>rfl;replace Io:=Io.df X G (ps:=["calls","begin"]) fun Z Z Z Z Z Z=>eT fun Z Z=>rfl;replace Ih:=Ih.df X G (ps:=["run","call"]) fun Z Z Z Z Z Z=>eT fun Z Z=>rfl;replace Ii:=Ii.df X G (ps:=["calls"]) fun Z Z Z Z Z Z=>cJ fun Z=>rfl;replace Hh:=Hh.cst X G;replace Hl:=Hl.cst X G;replace Ho:=Ho.cst X G;replace y4:=y4.cst X G;replace Hu:=Hu.cst X G;replace HL:=HL.cst X G;replace Ce:=Ce.cst X G;replace Hv:=Hv.cst X G;replace Hd:=Hd.cst X G;replace Hq:=Hq.cst X G;replace HJ:=HJ.cst X G;replace Hn:=Hn.cst X G;replace HK:=HK.cst X G;replace Hr:=Hr.cst X G;replace HM:=HM.cst X G;replace Hs:=Hs.cst X G;replace HN:=HN.cst X G;replace Hc:=Hc.cst X G;replace Hw:=Hw.cst X G;replace Cf:=Cf.cst X G;replace HD:=HD.cst X G;replace HC:=HC.cst X G;replace rH:=rH.cst X G;replace Ht:=Ht.cst X G;replace HB:=HB.cst X G;replace HE:=HE.cst X G;replace Hi:=Hi.cst X G;replace Hz:=Hz.cst X G;replace Hy:=Hy.cst X G;replace HG:=HG.cst X G;replace HF:=HF.cst X G;replace Hk:=Hk.cst X G;replace Ha:=Ha.cst X G;replace HA:=HA.cst X G;replace Hf:=Hf.cst X G;replace HI:=HI.cst X G;replace Hg:=Hg.cst X G;replace Hm:=Hm.cst X G;replace He:=He.cst X G;replace HP:=HP.cst X G;replace y6:=y6.cst X G;replace HH:=HH.cst X G;replace Cd:=Cd.cst X G;replace Hj:=Hj.cst X G;replace PH:=PH.kt X G;replace PF:=PF.kt X G;replace PD:=PD.kt X G;have Ls:=fun P=>Ls.kd (P:=P) X G (by decide+kernel);have Lr:=fun P=>Lr.kd (P:=P) X G (by decide+kernel);have Lu:=fun P=>Lu.kd (P:=P) X G (by decide+kernel);replace gh:=gh.gh X G;have AZ:=Vo.ty ajS;have A0:=Vp.ty ajT;have qF:=Vu.ty ajX;have Qi:=Vs.ty ajW;have Qh:=Vq.ty ajU;have Y0:=Vn.ty ajR;have kU:=Vr.ty ajV;have Fm:=Vm.ty ajQ;have B:Bt mg:=⟨mm X G abC,mm X G abG,mm X G abL,mm X G abA,mm X G abz,mm X G abD,mm X G abH,mm X G abJ,mm X G abI,mm X G abE,mm X G abF,mm X G abB,mm X G abK⟩;obtain⟨f,fd,F,mf,hb⟩:=Ii.ex;cases hfa.symm.trans mf;refine⟨fd,fun s us hu=>?_,fun base Z Z=>?_⟩
 .obtain⟨oc,od,kV,doc,pm,an,aJ,ct,gX,rfl,lk,iB⟩:=F.ex;exact match us,hu with|[_],_=> .of_eq rfl
 .have QT:Cl P w K mg base 1 "Event" CE ["self","kind","subject","number","gap"] (eP CE zg):=Vo.cl X G (fun Z Z Z Z Z Z=>B6 fun Z Z Z Z Z=>rfl) fun f fd F=>akF F AZ;have ZQ:Cl P w K mg base 1 "Pattern" CP ["self","kind","subject","numbers","gaps"] (eP CP ["kind","subject","numbers","gaps"]):=Vp.cl X G (fun Z Z Z Z Z Z=>B6 fun Z Z Z Z Z=>rfl) fun f fd F=>ak3 F A0;have ZT:Cl P w K mg base 1 "Wish" CW ["self","word","number","pattern","parts"] (sQ CP CW):=Vu.cl X G (fun Z Z Z Z Z Z=>B6 fun Z Z Z Z Z=>rfl) fun f fd F=>alN F B qF;have F0:Cl P w K mg base 1 "Token" CT ["self","text","place","pattern"] (eP CT nz):=Vs.cl X G (fun Z Z Z Z Z Z=>ar4 fun Z Z Z Z=>rfl) fun f fd F=>alH F Qi;have ZR:Cl P w K mg base 1 "Reader" CR ["self","tokens"] (OW CR):=Vq.cl X G (fun Z Z Z Z Z Z=>eT fun Z Z=>rfl) fun f fd F=>alb F Qh;have QS:Cl P w K mg base 1 "Choice" CC ["self","worth","sign"] (eP CC rM):=Vn.cl X G (fun Z Z Z Z Z Z=>nu fun Z Z Z=>rfl) fun f fd F=>akx F Y0;have ZS:Cl P w K mg base 1 "Run" CN ["self"] (OZ CN):=Vr.cl X G (fun Z Z Z Z Z Z=>cJ fun Z=>rfl) fun f fd F=>ali F kU;have ZP:Cl P w K mg base 1 "Call" CL ["self","number","index","text","behind"] (eP CL oO):=Vm.cl X G (fun Z Z Z Z Z Z=>B6 fun Z Z Z Z Z=>rfl) fun f fd F=>akw F Fm;have aey:Fn P w K mg base az 1 "character_of" ["byte"] OE:=Il.fn fun f fd F=>aky F B Hh He HP;have ae3:Fn P w K mg base az 2 "text_of" ["row"] (EY K):=Jv.fn fun f fd F=>alD F B aey;have JY:Fn P w K mg base az 1 "bytes_of" ["text"] AK:=Ik.fn fun f fd F=>akv F B;have J0:Fn P w K mg base az 1 "is_letters" ["text"] AN:=IB.fn fun f fd F=>akP F;have TF:Fn P w K mg base az 2 "is_name" ["text"] AO:=IC.fn fun f fd F=>akS F B Hl J0;have J3:Fn P w K mg base az 1 "read_number" ["text"] AQ:=IZ.fn fun f fd F=>akV F B Ho;have J2:Fn P w K mg base az 3 "read_event" ["text"] (AR CE):=IW.fn fun f fd F=>ald F J3 TF QT;have Tx:Fn P w K mg base az 1 "event_text" ["event"] (ET CE):=Ir.fn fun f fd F=>akG F AZ;have ae6:Fn P w K mg base az 1 "token_end" ["text","place"] Ph:=Jy.fn fun f fd F=>alG F B;have aeP:Fn P w K mg base (XE P w) 4 "read_run" ["text"] (OY CE CF):=Jd.fn fun f fd F=>alg F B gh Hu HL Ce J2 ae6;have aeQ:Fn P w K mg base az 2 "run_text" ["events"] (O0 CE):=Jg.fn fun f fd F=>alj F Tx;have ae4:Fn P w K mg base az 1 "time_of" ["events","index"] (Pf CE):=Jw.fn fun f fd F=>alE F B AZ;have aex:Fn P w K mg base az 2 "bound_of" ["text","unwritten"] OD:=Ij.fn fun f fd F=>akt F J3;have aeO:Fn P w K mg base az 3 "read_range" ["text"] OX:=Jc.fn fun f fd F=>alf F y4 J3 aex;have aeM:Fn P w K mg base az 1 "range_text" ["bounds"] xJ:=IQ.fn fun f fd F=>ala F B y4;have Tz:Fn P w K mg base az 1 "fits_name" ["asked","name"] AL:=Iy.fn fun f fd F=>akJ F;have TB:Fn P w K mg base az 1 "fits_range" ["bounds","number"] AM:=Iz.fn fun f fd F=>akK F;have JZ:Fn P w K mg base az 2 "fits_event" ["pattern","event"] (va CP CE):=Iw.fn fun f fd F=>akI F A0 AZ Tz TB;have aeR:Fn P w K mg base az 1 "same_pattern" ["one","other"] (O1 CP):=Jh.fn fun f fd F=>alk F A0;have J1:Fn P w K mg base az 2 "pattern_text" ["pattern"] (xI CP):=IK.fn fun f fd F=>ak1 F A0 aeM;have TJ:Fn P w K mg base az 4 "read_pattern" ["text"] (EX CP):=Jb.fn fun f fd F=>ale F B aeO TF ZQ;have aeE:Fn P w K mg base az 2 "is_among" ["pattern","found"] (OB CP):=IA.fn fun f fd F=>ako F B aeR;have wA:Fn P w K mg base az 3 "patterns_of" ["wish"] (sP CP CW):=IL.fn fun f fd F=>ak2 F B qF aeE;have afa:Fn P w K mg base az 1 "truths_up_to" ["left","right","at_end"] Pk:=JD.fn fun f fd F=>alL F B;have ae9:Fn P w K mg base az 2 "truths_of_two" ["word","left","right"] Pj:=JC.fn fun f fd F=>alJ F B afa;have ae7:Fn P w K mg base az 1 "truths_behind_prefix" ["word","number","part"] OT:=Jz.fn fun f fd F=>ak6 F B;have ae8:Fn P w K mg base az 3 "truths_of_pattern" ["wish","events"] (OS CE CP CW):=JB.fn fun f fd F=>ak0 F B qF y6 JZ;have TM:Fn P w K mg base az 34 "truths_of" ["wish","events"] (xM 30 CE CP CW):=let ⟨f,fd,F,m,b⟩:=JA.ex;⟨f,fd,alI F m b B qF ae9 ae7 ae8 30,m,F.kp,b⟩
  have afd:Fn P w K mg base az 2 "word_end" ["text","place"] Pn:=JH.fn fun f fd F=>alP F B J0;have aeJ:Fn P w K mg base az 5 "pattern_at" ["text","place"] (OR CP CT):=IJ.fn fun f fd F=>akZ F TJ F0;have ae5:Fn P w K mg base az 6 "token_at" ["text","place"] (Pg CP CT):=Jx.fn fun f fd F=>alF F HH aeJ J0 afd F0;have aeB:Fn P w K mg base (XE P w) 7 "cut_tokens" ["text"] (OG CP CT CF):=Ip.fn fun f fd F=>akB F B gh Hv Cd Qi ae5 F0;have LI:Mt P w K mg base az 1 CR "ahead" ["self"] (EO CR CP CT):=LI.mt (fun Z Z Z Z Z Z=>cJ fun Z=>rfl) fun f fd F=>akn F Qh;have RK:tW P w K mg base CR CP CT CF:=⟨gh,Qh,Qi,LI,Hd⟩;have LM:Mt P w K mg base (XE P w) 3 CR "take" ["self","text"] (O2 CR CP CT CF):=LM.mt (fun Z Z Z Z Z Z=>eT fun Z Z=>rfl) fun f fd F=>alq F RK;have LN:Mt P w K mg base (XE P w) 3 CR "take_digit" ["self","least"] (O3 CR CP CT CF):=LN.mt (fun Z Z Z Z Z Z=>eT fun Z Z=>rfl) fun f fd F=>alr F RK B;have LO:Mt P w K mg base (XE P w) 3 CR "take_pattern" ["self"] (O4 CR CP CT CF):=LO.mt (fun Z Z Z Z Z Z=>cJ fun Z=>rfl) fun f fd F=>als F RK;have LJ:Mt P w K mg base (XE P w) 3 CR "enter_level" ["self"] (OJ CR CP CT CF):=LJ.mt (fun Z Z Z Z Z Z=>cJ fun Z=>rfl) fun f fd F=>akE F RK Hq HJ;have LL:Mt P w K mg base az 1 CR "leave_level" ["self"] (EU CR CP CT):=LL.mt (fun Z Z Z Z Z Z=>cJ fun Z=>rfl) fun f fd F=>akO F RK;have RM:mr P w K mg base CR CP CT CW CF:=⟨RK,LM,LN,LO,LJ,LL,ZT⟩;have RD:RX K mg:=⟨IX,Ja,IS,Je,I0,IT,IU,IV,PH,y6⟩;have aeN:Fn P w K mg base (XE P w) 151 "read_if" ["reader"] (iJ CR CP CT CW CF 0 21):=(alc RM RD 21).1;have CA:Fn P w K mg base (XE P w) 152 "read_wish" ["text"] (xK CP CW CF):=Jf.fn fun f fd F=>alh F B RM qF Cd Hn HK Hr HM Hs HN aeB ZR aeN wA;have aez:Fn P w K mg base az 3 "counted_text" ["wish"] (ES CP CW):=Im.fn fun f fd F=>akA F qF J1;have aeK:Fn P w K mg base az 1 "prefix_text" ["wish"] (EW CP CW):=IM.fn fun f fd F=>ak7 F qF;have SD:RZ P w K mg base CP CW:=⟨JF,II,qF,Ls P,Lr P,Lu P,Hw,Hc,y6,J1,aez,aeK⟩;have afc:Fn P w K mg base az 63 "wish_text" ["wish"] (AS 30 CP CW):=aln SD 30;have J5:Fn P w K mg base az 1 "sign_number" ["truths"] (AU K):=Jk.fn fun f fd F=>alo F;have TK:Fn P w K mg base az 3 "sign_of" ["patterns","event"] (AV CP CE):=Jl.fn fun f fd F=>alp F J5 JZ;have aeS:Fn P w K mg base az 1 "sample_names" ["asked"] OO:=Ji.fn fun f fd F=>akT F Hj;have aeT:Fn P w K mg base az 1 "sample_numbers" ["asked"] OQ:=Jj.fn fun f fd F=>akW F y4 B;have aeH:Fn P w K mg base az 3 "name_choices" ["asked"] (ON CC):=IF.fn fun f fd F=>akk F aeS J5 Tz QS agf;have aeI:Fn P w K mg base az 3 "number_choices" ["asked"] (OP CC):=IG.fn fun f fd F=>akl F aeT J5 TB QS ahp;have aeD:Fn P w K mg base az 4 "first_samples" ["patterns"] (OK CP CE):=Iu.fn fun f fd F=>akH F A0 Y0 aeH aeI QT;have uL:Mt P w K mg base az 1 CN "has_event" ["self","index"] (vb CE CN):=uL.mt (fun Z Z Z Z Z Z=>eT fun Z Z=>rfl) fun f fd F=>akL F B kU;have LK:Mt P w K mg base az 1 CN "has_place" ["self","index"] (OL CE CN):=LK.mt (fun Z Z Z Z Z Z=>eT fun Z Z=>rfl) fun f fd F=>akM F B kU;have TH:Fn P w K mg base az 1 "number_of_truth" ["truth"] EV:=IH.fn fun f fd F=>akU F;have J6:Fn P w K mg base az 2 "with_length" ["text"] AW:=JG.fn fun f fd F=>alO F B JY;have aeF:Fn P w K mg base (XE P w) 5 "load" ["run","text"] (OM CE CN CF):=ID.fn fun f fd F=>akQ F kU aeP;have aev:Fn P w K mg base az 4 "add" ["run","text"] (OA CE CN):=Ig.fn fun f fd F=>akm F B kU Cf Ce HD J2;have aeC:Fn P w K mg base az 1 "drop" ["run"] (OI CE CN):=Iq.fn fun f fd F=>akD F B kU HC;have aeL:Fn P w K mg base az 4 "put" ["run","index","text"] (OV CE CN):=IP.fn fun f fd F=>ak9 F kU rH Cf uL J2;have aeW:Fn P w K mg base az 3 "tell_event" ["run","index"] (O7 CE CN):=Jo.fn fun f fd F=>alw F kU AZ rH uL ae4 J6;have aeY:Fn P w K mg base az 5 "tell_matches" ["run","index","text"] (O9 CE CN):=Jq.fn fun f fd F=>aly F kU rH Ht uL TJ JZ TH;have aeV:Fn P w K mg base az 4 "tell_counts" ["wish"] (O6 CP CW):=Jn.fn fun f fd F=>alv F B qF wA;have aeX:Fn P w K mg base (XE P w) 153 "tell_holds" ["run","index","text"] (O8 CE CN CF):=Jp.fn fun f fd F=>alx F kU rH LK CA TM TH;have ae0:Fn P w K mg base az 35 "tell_places" ["run","wish"] (Pa CE CN CP CW):=Js.fn fun f fd F=>alz F B kU TM;have aeZ:Fn P w K mg base az 4 "tell_patterns" ["wish"] (Pc CP CW):=Jr.fn fun f fd F=>alA F B wA J6 J1;have ae1:Fn P w K mg base (XE P w) 153 "tell_sign" ["run","index","text"] (Pd CE CN CF):=Jt.fn fun f fd F=>alB F kU rH uL CA wA TK;have aeU:Fn P w K mg base (XE P w) 153 "tell_alike" ["run","index","text"] (O5 CE CN CF):=Jm.fn fun f fd F=>alu F B kU rH uL CA wA TK;have ae2:Fn P w K mg base az 5 "tell_signs" ["wish"] (Pe CP CW):=Ju.fn fun f fd F=>alC F B wA aeD J6 Tx;have WK:R9 P w K mg base CE CN CP CW CF CL:=⟨Fm,HB,HE,Hi,Hz,Hy,HG,HF,CA,aeV,JY,afc,aeX,ae0,aeZ,ae2,ae1,aeU⟩;have afb:Fn P w K mg base (XE P w) 154 "wish_answer" ["run","call"] (xG CE CN CL CF zV):=JE.fn fun f fd F=>alM F WK;have MK:QU P w K mg base CE CN CF CL:=⟨Fm,kU,Hk,Ha,HA,Hf,HI,Hg,Hm,aeF,aev,aeL,aeC,JY,aeQ,aeW,aeY,afb⟩;have aeG:Fn P w K mg base (XE P w) 155 "made_answer" ["run","call"] (xG CE CN CL CF fun Z=>True):=IE.fn fun f fd F=>akR F MK;have aeA:Fn P w K mg base az 3 "cut_call" ["calls","begin"] (OH K CL):=Io.fn fun f fd F=>akC F PF PD ae3 ZP;have aew:Fn P w K mg base az 156 "answer_of" ["run","call"] (OC CE CN CL):=Ih.fn fun f fd F=>akq F gh aeG;exact akr F B Fm ZS aeA aew
open PySem.W (Codec)
theorem anw(K:aK)(H:Hp)(xs:List V)(a:BE pK.args)(hO:vB H)(Dj:Ru pK.args a=true)(ju:vH pK.args pK.asked a=true)(hx:kZ K H xs (vI pK.args a)):ER K xs H (fun v H'=>Dw K H' v (pK.ret.enc (vH pK.args pK.f a))) fun Z Z Z=>False:=by
 cases hx with
 |cons h1 h2=>
  cases h2;cases h1 with
  |lst hs ha=>
   have e:=L2.Vb a.1 _ ha;subst e;have q:((Codec.inLen 0 17000 a.1&&a.1.all (Codec.inInt (-1000000000000000000) 1000000000000000000))&&true)=true:=Dj;rw[cH,cH]at q;exact⟨_,a.1,rfl,hs,fA (Codec.inNat_iff.mp q.1.1).2 (by decide),ju,fun D H' hD hs' hp=> .lst (L2.aH.of hp) (L2.S9 _)⟩
end Rw
open PySem PySem.W PyProof.Rows
structure PySem.W.Fast:Prop where (tw4685404259412095217 tw9878850967333685465 tw6623113989286628370 tw13418105580387822786 tw14530888640579027388 tw587517241818409447 tw8513779745922230539 tw6768873789586070057 tw10598966090582474000 tw5358366271736569606 tw478362795939381177 tw10489466437955207942 tw1114036517199073631 tw8474086941589290791 tw11244329597947935216 tw5082318692746783476 tw3480433612789017128 tw1984615561339251650 tw18391631893926226913 tw11382052832267137316 tw17757949086884067152 tw10752848841797721194 tw10444183416119549973 tw10705797809260624102 tw1576569794897072153 tw11063108339188572428 tw10749586686442702663 tw13748546928714087181 tw9782545719361574356 tw18203037376173458374 tw9063278814549553963 tw9087847134705156772 tw13065184821216034127 tw2169522666452446484 tw3320694558118833044 tw17886259884167948263 tw8533297579451335823 tw2057010766168972725 tw6125951365498528751 tw5663001050952029115 tw5960331594016529477 tw6007186535908658706 tw11645370262261841312 tw16461701349220920830 tw14250372054552011708 tw17420927712827141565 tw10410696804815252766 tw558075425906638849 tw13955397102861826858 tw887834241449180121 tw4255301315291833884 tw15462855568924454067 tw9495810562922467919 tw18034521421525771333 tw2284772501355811421 tw12824897731138170545 tw4096195083236713818 tw455527011826664356 tw7204507162226057830 tw17849188071101324432 tw519420450157562894 tw12383380637171297512 tw6543805272557257138 tw1397142318689925894 tw13266971470624801287 tw17538042481873364113 tw10815794478831782351 tw991548440070799996 tw2048981768091903387 tw346443055512204920 tw1580791492290505578 tw5617360190256203857 tw474576444106094163 tw12646110896216105269 tw15057168193368515389 tw6164712289581512012 tw13856514798067735323 tw14196360794352877693 tw12626944713307476841 tw7281137155313570876 tw12505174942582746097 tw1144241537792767197 tw4475676245516461036 tw8726693559199685434 tw2870914034453310056 tw654561864564451432 tw4243404285157392164 tw4402040649773554968 tw17489149465948420185 tw569082376058181508 tw13437755996170499764 tw9416386241844686693 tw11644821652431518726 tw9952330737303195945 tw11650626792514850426 tw18053542081527471366 tw13788751518467466923 tw34804030909012974 tw6235958575545774338 tw17587939689935229411 tw16766339791518384919 tw4447193604850759362 tw1052270054688624152 tw18340358239292854437 tw11934254639792188731 tw6152411097334531175 tw16907420141503991918 tw4901354885386757430 tw10485714118288648241 tw12898969844017336294 tw4934227285234340106 tw12668055414233485817 tw10360552843958437734 tw14860371827083636070 tw13394993227635573261 tw6819881769422868869 tw6331829754813781325 tw802460775115870795 tw3564074350232674476 tw15187591327859175182 tw7969703593225002444 tw11567757204511972053 tw9099855793351431544 tw15895346327470591753 tw13552836624892669095 tw6912498155588617418 tw5407929323173479509 tw16702764152202586870 tw13349358323954210743 tw7967781042475625679 tw638714030933538553 tw8010428364182291409 tw4312803137524780672 tw16814773538349802741 tw8859689807970945117 tw1789222145299935004 tw16339953351382664996 tw9968415016477602192 tw11241092799080093083 tw11640551104236988619 tw15002505093364592591 tw1516067208464471418 tw7832350668874349805 tw9833026948020632117 tw1801542518328556524 tw2761109704981824700 tw4111806722617389684 tw11399029056502065038 tw10557136936751329492 tw11830439943260053315 tw9095007328074029611 tw7607201791443639679 tw4269226669162331842 tw14743770734011541474 tw11421592467464753896 tw10602667348729487875 tw16654896244565190787 tw7817271006591598805 tw842655444045800558 tw5037967738533159891 tw15229834287941838337 tw12919792864550379203 tw18186428531712409630 tw2134325612693132849 tw2768898271013129820 tw5406679662358331600 tw18286634132705585254 tw12166052912874747016 tw3895495339966845352 tw7685429517038010052 tw1196214195356182879 tw16596358580394096116 tw15522811790010857353 tw8380039512001860291 tw2382582035397310651 tw12836110728422035050 tw2127632021499555022 tw17220410732925481835 tw14325478211910980200 tw13557506345951652091 tw14781074644966031871 tw5917110367914401378 tw8274725290547868590 tw6260496428796133606 tw4862542725086154887 tw14441843490391669856 tw4073843631341620088 tw16314465842343774823 tw7506172737488002124 tw10429743053506065387 tw12694133613594892781 tw11327268112463298520 tw7982896291605038899 tw11206266601106342717 tw11638810986976210796 tw2839502575728636019 tw4108072419269856458 tw8010020869514027309 tw1570302314215394732 tw8841438744969223833 tw12021210286907639162 tw17037905242359826815 tw7165077703724535166 tw3039762893448796089 tw17711622435525324732 tw8566200310668997108 tw6689815356252113433 tw15776483137988226418 tw10651401845499876866 tw4158116053054859953 tw11203215849078960860 tw17858248157288956137 tw5785285797004822257 tw8078034676604636876 tw3486862098041461979 tw13059457876218777008 tw3687885833272276509 tw9004006277363654875 tw677892805341260407 tw3431080282327376186 tw3153814155840981337 tw6080823134864136846 tw14614956835252563074 tw14672212091616202125 tw7923354839849361892 tw12531926934455439065 tw11823186597784852367 tw16297589421999112700 tw17436086922838895873 tw14467088619239895610 tw6215444814944836477 tw8990007337158027609 tw8468802671272256044 tw17330945287065110251 tw14976264626078528935 tw6385151056643336837 tw13129365044709947324 tw12884537375963150454 tw11554360620866928080 tw4513323420792660308 tw13265353670391852827 tw17703039732182795578 tw2695090560016699401 tw3090917543967429077 tw16438949015399189171 tw7155632377489792351 tw11340251660511442795 tw5592690530103364330 tw15487984930498499580 tw13607760617830510918 tw799025472017239968 tw4786238262289631928 tw7829848939897529896 tw2173716797103960723 tw16418975996680560839 tw4029476161253738045 tw5538065777358471543 tw11869696661063208891 tw6348506342340930563 tw6912874130993000593 tw797690758836893792 tw6728581918062347941 tw13252812757616498283 tw16259051130692352875 tw9546965724957166270 tw8608438913658006143 tw13129048665145062127 tw4241600750775811561 tw14935554547374424832 tw14850589918784197757 tw16714124100023844260 tw11766582611782364860 tw12060223662563890562 tw10018564504034140545 tw10743465751999842504 tw8987517091841209909 tw12355840035118396227 tw14978627485935809907 tw5978727805385681979 tw13567048229977662287 tw2551997376425490796 tw15936310814129554431 tw13882604456284719966 tw7379697843276115901 tw4670454422483633777 tw16604389593058592834 tw8367874052010836386 tw2833938458494729175 tw14930959009663268217 tw14775649457452405780 tw14292577704608096494 tw9825609919737904701 tw8234856727431421261 tw11326416881847785032 tw10109275730380933901 tw836176600173124817 tw12972472561166982877 tw11654531033608757240 tw11512379716584382954 tw8861615087004126815 tw4803915037434906736 tw17575126106529369825 tw15978600754550009969 tw10463841414976070005 tw6651305108547246855 tw16128558316797738433 tw11426559367356488576 tw8585547328905255692 tw5708177000314512696 tw515151345580323378 tw14052322270315645069 tw3121708809159198576 tw6958386818788896927 tw6254681762477658277 tw15073816784121336879 tw12100903568927916559 tw10400615630995822602 tw8066715223965002346 tw5263785471031212312 tw15772429728425265064 tw6150763944426497693 tw2552940813394210676 tw8822463884194349230 tw5147927813071221216 tw4578842907475774109 tw3993058135174029017 tw18295256181479472095 tw16983063684100298219 tw13373404131034573961 tw13019066108025528132 tw11765254632218670403 tw1804220010179642920 tw7905328901532024165 tw7864447821918360280 tw7547258907955539067 tw17210240377373045648 tw17047955139420606304 tw12883226885686405482 tw10532910469452047536 tw751717488676379512 tw17220864487660562626 tw10067353676953601750 tw4862266269813183851 tw1859902726713094603 tw9471007515618817031 tw3074595951625556501 tw9988094404258498522 tw4434396104215840203 tw6699608673270639194 tw5026559634074509173 tw16374872782908398884 tw16349306431550401245 tw15389120278912769635 tw12396751726431408128 tw5817360497467647707 tw2465435223474728600 tw18152525416301439572 tw12807995072228956312 tw2919746355505896682 tw16559844964354217838 tw998793722119102409 tw9981439765804743638 tw678972836940760752 tw10632981106013456025 tw11025895219042026123 tw18157934191291393315 tw16497490847743330936 tw10818236568020479031 tw2820666750546975802 tw16864444527203754483 tw16165643758868282893 tw7804791730342331951 tw3275917293551341221 tw9527928736120642486 tw98677224319283050 tw576242505160222001 tw2525504638452104769 tw1715922279569933384 tw13022174314165488548 tw8891647096667604680 tw14340108869227930903 tw16884894876155045454 tw6230238684236532861 tw2665432085653867231 tw10910889756863546065 tw13728241888685595068 tw4000318335253807282 tw10730562309461803307 tw17876739104046333382 tw15773219795685992648 tw3821119547662348903:True)
theorem PySem.Challenge.cw_runwishes_s01_answers_holds : PySem.Challenge.rw_runwishes_s01_answers.Holds := by
 w_on;k_headS;(case hw=>exact⟨[.list [.int 3]],by decide+kernel,by decide+kernel⟩);k_fillS;refine L2.apz (r:=pK) (k:=157) (CX:=L2.az) (ps:=["calls"]) (sp:=Rw.ER) (by decide+kernel) rfl rfl ⟨rfl,by decide,by decide⟩ (fun w h Y=>PySem.W.kIn_of Y) ?F Rw.anw (fun Z Z Z Z z=>z);case F=>
  intro w mg fa h Y KX G KP;refine' Rw.all_mk KX G KP ?a0 ?a1 ?a2 ?a3 ?a4 ?a5 ?a6 ?a7 ?a8 ?a9 ?a10 ?a11 ?a12 ?i0 ?i1 ?i2 ?i3 ?i4 ?i5 ?i6 ?i7 ?i8 ?i9 ?i10 ?i11 ?i12 ?i13 ?i14 ?i15 ?i16 ?i17 ?i18 ?i19 ?i20 ?i21 ?i22 ?i23 ?i24 ?i25 ?i26 ?i27 ?i28 ?i29 ?i30 ?i31 ?i32 ?i33 ?i34 ?i35 ?i36 ?i37 ?s0 ?s1 ?s2 ?s3 ?s4 ?s5 ?t0 ?t1 ?t2 ?u0 ?u1 ?u2 ?fl ?l0 ?n0 ?l1 ?n1 ?l2 ?n2 ?l3 ?n3 ?l4 ?n4 ?l5 ?n5 ?l6 ?n6 ?l7 ?n7 ?m0 ?m1 ?m2 ?m3 ?m4 ?m5 ?m6 ?m7 ?d0 ?d1 ?d2 ?d3 ?d4 ?d5 ?d6 ?d7 ?d8 ?d9 ?d10 ?d11 ?d12 ?d13 ?d14 ?d15 ?d16 ?d17 ?d18 ?d19 ?d20 ?d21 ?d22 ?d23 ?d24 ?d25 ?d26 ?d27 ?d28 ?d29 ?d30 ?d31 ?d32 ?d33 ?d34 ?d35 ?d36 ?d37 ?d38 ?d39 ?d40 ?d41 ?d42 ?d43 ?d44 ?d45 ?d46 ?d47 ?d48 ?d49 ?d50 ?d51 ?d52 ?d53 ?d54 ?d55 ?d56 ?d57 ?d58 ?d59 ?d60 ?d61 ?d62 ?d63 ?d64 ?d65 ?d66 ?d67 ?d68 ?d69 ?d70 ?d71;(case a0|a1|a2|a3|a4|a5|a6|a7|a8|a9|a10|a11|a12=>k_is);(case i0|i1|i2|i3|i4|i5|i6|i7|i8|i9|i10|i11|i12|i13|i14|i15|i16|i17|i18|i19|i20|i21|i22|i23|i24|i25|i26|i27|i28|i29|i30|i31|i32|i33|i34|i35|i36|i37=>refine' Rw.c0i ?a;(case a=>k_is));(case s0|s1|s2|s3|s4|s5=>refine' Rw.c0s ?a;(case a=>k_is));(case t0=>refine' Rw.Lx ?a ?l ?t;(case a|l=>k_is);(case t=>exact⟨rfl,_,_,rfl,by decide,.cons ⟨_,rfl⟩ (.cons ⟨_,rfl⟩ (.cons ⟨_,rfl⟩ (.cons ⟨_,rfl⟩ (.cons ⟨_,rfl⟩ (.nil)))))⟩));(case t1=>refine' Rw.Lx ?a ?l ?t;(case a|l=>k_is);(case t=>exact⟨rfl,_,_,rfl,by decide,.cons ⟨_,rfl⟩ (.cons ⟨_,rfl⟩ (.cons ⟨_,rfl⟩ (.cons ⟨_,rfl⟩ (.cons ⟨_,rfl⟩ (.cons ⟨_,rfl⟩ (.nil))))))⟩));(case t2=>refine' Rw.Lx ?a ?l ?t;(case a|l=>k_is);(case t=>exact⟨rfl,_,_,rfl,by decide,.cons ⟨_,rfl⟩ (.cons ⟨_,rfl⟩ (.cons ⟨_,rfl⟩ (.nil)))⟩));(case u0=>refine' Rw.Lv ?a ?l ?t ?s;(case a|l=>k_is);(case t=>exact⟨_,_,rfl,⟨⟨_,rfl⟩,⟨_,rfl⟩,rfl,⟨⟨_,rfl⟩,⟨_,rfl⟩,rfl,⟨⟨_,rfl⟩,⟨_,rfl⟩,rfl,⟨⟨_,rfl⟩,⟨_,rfl⟩,rfl,⟨⟨_,rfl⟩,⟨_,rfl⟩,rfl,⟨⟨_,rfl⟩,⟨_,rfl⟩,rfl,⟨⟨_,rfl⟩,⟨_,rfl⟩,rfl,⟨⟨_,rfl⟩,⟨_,rfl⟩,rfl,⟨⟨_,rfl⟩,⟨_,rfl⟩,rfl,⟨⟨_,rfl⟩,⟨_,rfl⟩,rfl,trivial⟩⟩⟩⟩⟩⟩⟩⟩⟩⟩⟩);(case s=>first|rfl|decide));(case u1=>refine' Rw.Lv ?a ?l ?t ?s;(case a|l=>k_is);(case t=>exact⟨_,_,rfl,⟨⟨_,rfl⟩,⟨_,rfl⟩,rfl,⟨⟨_,rfl⟩,⟨_,rfl⟩,rfl,⟨⟨_,rfl⟩,⟨_,rfl⟩,rfl,⟨⟨_,rfl⟩,⟨_,rfl⟩,rfl,⟨⟨_,rfl⟩,⟨_,rfl⟩,rfl,trivial⟩⟩⟩⟩⟩⟩);(case s=>first|rfl|decide));(case u2=>refine' Rw.Lv ?a ?l ?t ?s;(case a|l=>k_is);(case t=>exact⟨_,_,rfl,⟨⟨_,rfl⟩,⟨_,rfl⟩,rfl,⟨⟨_,rfl⟩,⟨_,rfl⟩,rfl,⟨⟨_,rfl⟩,⟨_,rfl⟩,rfl,⟨⟨_,rfl⟩,⟨_,rfl⟩,rfl,⟨⟨_,rfl⟩,⟨_,rfl⟩,rfl,trivial⟩⟩⟩⟩⟩⟩);(case s=>first|rfl|decide));(case fl=>refine' Rw.afj ?a ?b ?c ?d ?e ?f ?g ?h ?i ?j;(case a|b|c|d|e|f|g|h|i=>k_is);(case j=>exact⟨_,_,_,_,_,rfl,rfl,rfl,rfl,by first|rfl|decide⟩));(case l0|l1|l2|l3|l4|l5|l6|l7=>refine' Rw.cl0 ?a ?b ?c ?d ?e ?f ?g (Rw.xf ?h ?i ?j ?k ?l);(case a|b|c|d|e|f|g|h|i|j|k|l=>k_is));(case n0|n1|n2|n3|n4|n5|n6|n7=>(repeat (refine'⟨?_,?_⟩;k_is));trivial);(case m0|m1|m2|m3|m4|m5|m6|m7=>refine' Rw.xf ?a ?i ?l ?c ?k;(case a|i|l|c|k=>k_is));(case d0|d1|d2|d3|d4|d5|d6|d7|d8|d9|d10|d11|d12|d13|d14|d15|d16|d17|d18|d19|d20|d21|d22|d23|d24|d25|d26|d27|d28|d29|d30|d31|d32|d33|d34|d35|d36|d37|d38|d39|d40|d41|d42|d43|d44|d45|d46|d47|d48|d49|d50|d51|d52|d53|d54|d55|d56|d57|d58|d59|d60|d61|d62|d63|d64|d65|d66|d67|d68|d69|d70|d71=>refine' Rw.df0 ?a ?l ?c ?k;(case a|l|c|k=>k_is))
