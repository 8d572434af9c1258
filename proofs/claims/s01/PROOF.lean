import Open.SpecLaws
import KE.OsGo
import KE.KSortKeySt
import PySem.Challenge.RW_postalhouse_s01_answers
set_option Elab.async false
set_option linter.all false
set_option maxRecDepth 100000
set_option maxHeartbeats 2000000
open Array renaming forIn_toList->aRv,getElem?_eq_getElem->aQs,getElem?_eq_none->aQu,getElem?_eq_some_iff->aQr,getElem?_toList->aQg,getElem_mem->aRu,length_toList->vU,toList->WV
open Bool renaming and_eq_false_iff->FC,and_eq_true->fF,and_eq_true_iff->aRf,and_false->LM,and_true->NQ,eq_false_iff->kT,eq_iff_iff->FM,false_and->FG,false_eq_true->pJ,false_ne_true->eQ,noConfusion->oO,not_eq_false->FF,not_eq_true'->tH,not_false->NG,or_eq_false_iff->WB,or_eq_true->WC,true_and->tP
open Decidable renaming not_not->W9
open Eq renaming trans->LC
open False renaming elim->iI
open ForInStep renaming yield->MJ
open Function renaming comp->FE
open Iff renaming rfl->iE
open Int renaming natCast_inj->LP,natCast_nonneg->aRz,sub_eq_add_neg->aSe,toNat_natCast->yO
open List renaming all_cons->M8,all_eq_true->MK,any_cons->FU,any_eq_true->aSh,append_assoc->BU,append_nil->iP,cons_append->aPe,contains_eq_mem->FD,drop_of_length_le->NK,eraseIdxIfInBounds_toArray->aQh,ext_getElem?->zF,filterMap_cons->yK,filter_append->BW,filter_congr->BN,filter_cons->fZ,filter_eq_nil_iff->BR,filter_eq_self->vM,filter_map->yM,filter_sublist->pY,find?_append->aPh,find?_cons->rJ,find?_eq_none->aRx,find?_isSome->aPm,find?_some->BK,flatMap_append->rM,flatMap_cons->rO,flatMap_def->NM,flatMap_nil->LG,flatten_cons->M9,foldl->BZ,foldl_append->tL,foldl_cons->eW,forIn_cons->XA,forIn_nil->MD,getD_eq_getElem?_getD->oH,getElem?_append_left->FT,getElem?_append_right->C6,getElem?_cons_succ->aQv,getElem?_cons_zero->XH,getElem?_drop->GI,getElem?_eq_getElem->fQ,getElem?_eq_none->uB,getElem?_eq_some_iff->gG,getElem?_map->dW,getElem?_modify->BM,getElem?_modify_eq->GG,getElem?_modify_ne->aRy,getElem?_of_mem->NL,getElem?_range->CO,getElem?_replicate->aQa,getElem?_set->yH,getElem?_set_ne->WS,getElem?_set_self->WR,getElem?_take->Y0,getElem?_take_of_lt->M5,getElem?_zip_eq_some->aSf,getElem_inj->aPq,getElem_mem->aRw,getElem_of_mem->aPd,getLast?_eq_none_iff->WG,getLast?_map->CU,isEmpty_iff->LH,length->jV,length_append->dU,length_cons->eD,length_drop->tQ,length_eq_zero_iff->aSd,length_filter_le->pZ,length_flatMap->aPg,length_map->bA,length_modify->mJ,length_nil->rQ,length_pos_iff->aPi,length_range->iA,length_replicate->yN,length_set->jW,length_take->fV,length_zip->LJ,lookup->vY,lookup_cons->wF,map_append->eP,map_congr_left->hX,map_cons->cQ,map_drop->NP,map_eq_nil_iff->aSi,map_flatMap->CV,map_id->FA,map_map->eA,map_nil->jP,map_take->Y2,mem_append->fE,mem_append_left->tI,mem_append_right->nJ,mem_cons->dS,mem_cons_of_mem->dZ,mem_cons_self->dY,mem_filter->gF,mem_filterMap->BX,mem_flatMap->vO,mem_map->cB,mem_of_find?_eq_some->BJ,mem_of_getElem?->fS,mem_of_getLast?->WH,mem_of_mem_drop->W8,mem_of_mem_take->vN,mem_range->jE,mem_replicate->aPl,mem_singleton->eU,mem_singleton_self->aPf,modify->F7,nil_append->W7,nodup_append->pD,nodup_cons->iW,nodup_nil->qE,nodup_range->aPj,of_mem_zip->M4,pairwise_append->aPc,pairwise_cons->aPk,pairwise_map->WF,range->bT,range_succ->BS,replicate->iY,replicate_succ->FV,size_toArray->eX,sum_cons->BY,take_append_drop->BV,take_length->oP,take_of_length_le->tZ,take_sublist->BT,zipIdx_cons->aRi,zip_cons_cons->aSa
open List.Perm renaming refl->W5
open List.cons renaming injEq->XX
open Nat renaming add_le_add_left->WI,le_add_right->eV,le_antisymm->WE,le_of_eq->iH,le_of_lt->C0,le_of_succ_le->MH,le_refl->bL,le_succ->lF,le_succ_of_le->C2,le_trans->cI,lt_irrefl->iR,lt_of_le_of_lt->eB,lt_of_lt_of_le->fG,lt_of_succ_lt->GC,lt_succ_of_lt->XB,lt_succ_self->LY,lt_trans->qD,min_eq_left->GL,min_eq_right->aSg,min_le_right->XS,ne_of_gt->yV,ne_of_lt->iC,not_lt->WO,not_lt_zero->nM,zero_le->dN
open Ne renaming symm->fK
open Option renaming any_some->mM,getD_none->aQf,isSome_iff_exists->tF,isSome_map->uE,isSome_some->aQi,map->pF,map_eq_some_iff->iQ,map_map->WD,map_some->kQ,some->vJ
open Option.some renaming inj->eO,injEq->LK
open Or renaming inl->bF,inr->wG
open PyFlat renaming calls->WK
open PyProof.Rows renaming AllBare->yP,Constant_none->WU,IntsAre->wE,Subscript_->X4,boot_list->Y1,callWith_kw->XT,callWith_type1->FL,envOfC->pI,subscriptTail_builtinR->aQc
open PySem renaming Around->cU,BindsTo->FQ,Builtin->vX,CmpOp->pH,DictEntry->lI,Fin->G9,FuncData->mO,IsPair->iS,IsZip->lW,Keyword->wD,Model->vS,NameKind->lV,Operator->FI,Paired->jG,Params->wH,Program->bN,PyData->uA,Reads->yZ,Result->FP,Shared->aI,Spec->bX,Within->LR,World->bK,ZipApart->G7,assign->yR,assignEach->vV,atKey->uD,attributeBase->wA,backTo->iD,backToKw->FR,behindInMarks->yQ,binaryOp->tV,bindArgs->wB,bootBuiltins->tU,boot_len->fX,builtinsNs->FH,callSpecialIfBound?->uH,call_meets->C8,call_meetsIn->ML,callerA->GN,checkBuiltinCall->XO,closureFor->MF,codeAny->tW,codeAny_builtin->GE,codeAny_call_builtin->XR,codeAny_mono->C5,compEnvC->oM,compareOp->iZ,evalArgs_none->aRa,firstArgMember->MU,foldedSetIterable->LV,getItem->yT,holding->yS,isSubtype_stop->XG,isTrue->C4,keywordEach->FS,mem_of_lookup->mP,model->aZ,notedBy->CA,plainId_quiet->CL,pushCells_keeps->MG,pyIter->vW,richCompare->uI,seqIndex?->X5,seqIndex_of->M6,seqItems?->MZ,setField->MT,sizeLine_eq->oJ,sliceBounds->yY,slot_list_getitem->aQd,standAt->FJ,starEach->dD,subscripted->M7,sysModules->lG,tupleKind->vR,tupleKind_room_in1->CB,typeIs_int->X6,valueAt->zA,wpAny->aQ,wpAny_Call_Name_kw->wC,wpAny_Call_method->MN,wpAny_Dict_empty->aQj,wpAny_Name->WT,wpAny_assign_Name->aPu,wpAny_attempt->zB,wpAny_bind->aK,wpAny_cRoomFor->GB,wpAny_call->yW,wpAny_callSpecial?_slot->zC,wpAny_call_entry->qF,wpAny_dictEntries->CD,wpAny_dictEpoch->CF,wpAny_eqBool_int->aPn,wpAny_evalAll_cons->aPz,wpAny_evalAll_nil->aPy,wpAny_execs_cons->aPt,wpAny_execs_nil->LS,wpAny_field->qI,wpAny_fieldsOf->MS,wpAny_getItem_list_neg->aQe,wpAny_holding->oI,wpAny_isInstance->MV,wpAny_isOneOf_keyiter->aQt,wpAny_isOneOf_valiter->XM,wpAny_isSame_ref_other->aRs,wpAny_isTrue_Compare1->aPs,wpAny_letGo->CJ,wpAny_loadPart'->GD,wpAny_mono->lH,wpAny_newFunctionEnv_cells->aQb,wpAny_newObj_type->uC,wpAny_notOrdered_dict->aQo,wpAny_of_eq->FZ,wpAny_onRaise->XL,wpAny_passesOwn->yU,wpAny_pure->bB,wpAny_pyIter_enum->aRc,wpAny_pyIter_list->LU,wpAny_pyIter_slot->XD,wpAny_pyIter_tuple->aPv,wpAny_pyIter_valiter->aQx,wpAny_pyIter_zip->aRn,wpAny_rule->wI,wpAny_seqItems->uG,wpAny_setField->FX,wpAny_setField_rec->G8,wpAny_standAt->FK,wpAny_truthy_bool->qB,wpAny_tryCatch->CK,wpAny_tupleItemsOf->aSc,wpAny_typeNameOfWhole_keyiter->MQ,wpAny_typeNameOfWhole_valiter->NC,wpAny_typeNameOf_keyiter->MR,wpAny_typeNameOf_valiter->ND,wpAny_updateSeq->NH,wpAny_updateSeq_pair->aRj
open PySem.Around renaming under->WZ,under_plainId->GF
open PySem.Bind renaming checkArgs->XQ
open PySem.Builtin.Builtins renaming bindParams->aSb
open PySem.Builtin.Dict renaming showsAll->MP
open PySem.Builtin.Dict_items renaming ownsTuple->FW
open PySem.Builtin.List renaming listTooLong->MA
open PySem.Builtin.SmallTypes renaming nextOf->G6,ownedTupleHandOut->aRk,ownedTupleIsFree->NA
open PySem.Calls renaming Name_function_global->aPr,callWith_builtin->X7,evalArgs_plain->X8,spliced_cons->LZ,spliced_nil->X1
open PySem.Code renaming isFrame->X0
open PySem.F renaming args_dict_get_2->aQk,args_dict_get_3->aQl,args_dict_keyiterator_next_1->aQq,args_dict_valueiterator_next_1->aRq,args_dict_values_1->aRb,args_zip_next_1->aRm,cmp_object->NF,entry_dict_get->MM,entry_dict_keyiterator_next->aQp,entry_dict_valueiterator_next->aRp,entry_dict_values->aQz,entry_min_loop->XU,entry_zip_next->aRl,plainAttrs_dict->MO,plainAttrs_list->lK,plain_min_loop->zG,slot_NoneType_eq->aRt,slot_dict_get->CC,slot_dict_iter->aQn,slot_dict_keyiterator_iter->aQw,slot_dict_keyiterator_next->CG,slot_dict_valueiterator_next->GA,slot_dict_values->MW,slot_dict_values_iter->aRo,slot_list_append->wK,slot_list_extend->XV,slot_list_remove->CM,slot_tuple_iterator_next->aRh,slot_zip_next->NB,type_dict_get->aQm,type_dict_values->aQy,type_list_append->wL,type_list_extend->XW,type_list_remove->GK
open PySem.Heap renaming Ns->MI,SameBut->vT,get?_push_of_some->dL,get?_push_size->eR,get?_update_other->tY,get?_update_self->C7,lt_size->cZ,size_push->kW
open PySem.Heap.SameBut renaming update->zD
open PySem.Manifest renaming signature?->aRr
open PySem.NameKind renaming cell->XC,free->C9
open PySem.Obj renaming cls_mapFields->XF,data_mapFields->CH,isFreed_of_fields->XE,mapFields->FY,mapSeq->mQ
open PySem.Paired renaming length->qA
open PySem.PassesOwn renaming never->kX
open PySem.PyData renaming eqv->MC
open PySem.SeqAt renaming EqAt->jY,shaped->MB
open PySem.SeqAt.EqAt renaming int_str->aPo,str_int->aPp
open PySem.Str renaming empty->WY,ofString->qG
open PySem.Value renaming bool->C3,int->vP,none->kU,ref->cX,str->LQ,type->tS
open PySem.W renaming CodeHd->CQ,Codec->zE,Frag->aP,OpenSpec->MX,ReadsAllW->G0,ReadsW->qH,WData->fW,WRecords->aRd,WellAll->rR,callWith_K->aPx,cellsFrom_some->X3,codeIn->yX,emptyDict->tX,findIn->jZ,fnOf->nL,handedIn->aPw,hasDictIn->FO,instObj->tT,isFn->X2,keepIn->qC,kla_obj->wJ,length_le_weightAllW->aRe,lookIn->WW,looks_findIn->XN,looks_mroIn->NE,makesIn->LX,methodObj->WQ,mg_of->GO,nsIn->qK,plainGet->FN,plainOver->LW,takerIn->WX
open PySem.W.Codec renaming app->Y3,denoteAll->XI,encAll->G5
open PySem.W.WData renaming weightAll->MY
open PySem.Walks renaming list->X9
open PyVbpozz renaming answers->WN,answers_asked->WM,shape->LO
open Sum renaming inl->jF,inr->vQ
open Sum.inl renaming inj->tR,injEq->XY
open True renaming intro->vZ
open Vbpozz renaming Answer->gU,Call->rS,Event->NR,Item->cR,LATEST->tK,Label->wM,Loss->eY,Message->pG,OFFICES->BL,Order->uF,PARTIES->GH,Place->uJ,Run->mS,Tray->NJ,Trip->eI,act->lU,asks->LN,cashTo->yJ,checked->BP,dueTo->kY,earliest->jN,given->FB,goal->kC,goesOn->kR,happens->yL,intoBin->BQ,isOffice->cY,itemOf->XJ,latest->WP,loaded->WA,logged->tM,missed->dI,no->jQ,notThere->BO,openLoss->GJ,outOfBin->bV,owe->vK,owedBy->kZ,placeNumbers->NO,put->tO,replay->mR,roundOf->bY,scan->pE,sentBack->tG,setItem->NI,setLoss->mK,sorted->nI,start->nN,step->iB,tellTo->CS,toldOf->GM,tripOf->tJ,unloaded->LI,unowe->W4,within->cF
open Vbpozz.Place renaming bin->vL,round->yI,tray->rK
open Vbpozz.Place.bin renaming inj->W6
open Vbpozz.Place.tray renaming inj->F8
open VbpozzNeutral renaming callOf->WJ,step->WL
def jO:=@beq_eq_false_iff_ne
def mL:=@beq_iff_eq
def aRg:=@beq_self_eq_true
def F9:=@bne_iff_ne
def dB:=@congrArg
def XZ:=@decide_eq_decide
def nK:=@decide_eq_false
def rP:=@decide_eq_false_iff_not
def lJ:=@decide_eq_true
def iX:=@decide_eq_true_eq
def LF:=@decide_false
def LD:=@decide_true
def jX:=@if_false
def aB:=@if_neg
def aC:=@if_pos
def jM:=@if_true
def qJ:=@of_decide_eq_true
set_option hygiene false
local macro_rules (kind:=«term{_}»)|s=>do let a:Array (Lean.TSyntax `term):=s[1].getSepArgs.map fun x=>⟨x⟩;`(⟨$a,*⟩)
local macro_rules
|`(0e0)=>`({_,Z,Z,_,Z,aE (λz=>by cases z) λ_=>?_})
|`(0e6)=>`({Z,Z,Z,by decide+kernel,Z,by decide+kernel,by decide+kernel})
|`($x[0e3])=>`(by show $x<=sizeLine;decide)
|`(0e8)=>`(λf cdv A outer sh H vs Q E hr h=>?_)
|`(1e0)=>`(hr.mono (by decide))
|`(0e3)=>`(by decide)
|`(2e6)=>`(λ_ _ _ _ _ _ us hl=>match us,hl with|[_,_],_=>rfl)
|`(3e5)=>`(aW bG (pv 1) aM (λ_ _=>Z))
|`(8e2)=>`(aN (aA 18e7 aD)[6e1])
|`($x[0e0])=>`(aL (pv $x) Z)
|`(0e4)=>`(by decide+kernel)
|`(8e3)=>`({h.runs.1,λr hr=>let q:=h.runs.2 r hr;⟨q.trip,q.day,q.gone,q.few,q.ids,q.ahead⟩})
|`($x[0e2])=>`(by show $x<1000;decide)
|`(0e7)=>`(λvs H Q E h=>?_)
|`(0e1)=>`(by omega)
|`($x[3e2])=>`(setRound (setTray s o {items:=[],passes:=$x}) o (trayOf s o).items)
|`(3e6)=>`({_,Z,Z,_,Z,aE (λ_=>?_) λz=>absurd Z z})
|`(0e9)=>`(s.heap.objs.size)
|`(3e3)=>`(λ_ _=>Z)
|`($x[0e4])=>`(R.fh (f:=$x) T.cs Z)
|`(3e1)=>`({Z,by omega,by omega,λns hl=>?_})
|`(1e8)=>`(trayOf s o)
|`($x[1e5])=>`(aA (pv $x) aD)
|`(6e0)=>`(λ_ _ _ _ _ _ us hl=>match us,hl with|[_],_=>rfl)
|`(1e1)=>`(aZ X.prog X.w)
|`(1e2)=>`(s.messages.length)
|`(7e5)=>`(λ_ _ _ _ _ _ us hl=>match us,hl with|[_,_,_],_=>rfl)
|`($x[0e5])=>`(s.heap.objs.size+$x)
|`(10e2)=>`({by rw[cD s _ rfl];exact h,by rw[cD s _ rfl];exact eV _ _})
|`(0e5)=>`(by simp)
|`(29e8)=>`(k.no G 11e3 hp)
|`(11e7)=>`(s.items.map λx=>((.inl (x.id:Int):aX),V.ref (g.item x.id)))
|`(1e6)=>`(runsAhead s)
|`(4e1)=>`(aE (λe1=>?_) λe1=>?_)
|`(%[$x,$y|0e3])=>`(λ_ _ _ _ _=>(dM (i:=$x) $y Z (bF Z)))
|`($x[1e8])=>`(dJ (K:=K) Z (pv $x) Z)
|`($x[1e1])=>`($x pins s U H _ I h)
|`(4e9)=>`(s.known.getD o [])
|`($x[3e6])=>`(show false=true from $x)
|`(38e2)=>`(cK dA (pv 1) aM (cJ _))
local macro_rules
|`(%[$x,$y|3e4])=>`((([.inl (($x):Int),.inl (($y):Int)]:List aX),V.ref (g.run $x $y)))
|`($x[0e6])=>`(by simpa using $x)
|`($x[3e3])=>`(match tripOf s $x with|some t=>_|none=>_)
|`(4e2)=>`(by omega)
|`(%[$x,$y|0e4])=>`(dM (i:=$x) $y Z (bF Z))
|`(%[$x,$y|0e1])=>`($x (f:=$y) T.cs hx λ_=>Z)
|`(1e3)=>`(aZ prog w)
|`(5e0)=>`(g.addTrip t.no x r p)
|`($x[3e7])=>`(R1.fr (f:=$x) T.cs ht hd Z)
|`(%[$x,$y|0e0])=>`(by rw[($x)];exact $y)
|`(3e7)=>`((x.id:Int))
|`($x[2e3])=>`(gZ (own:=[($x)]) (by rfl))
|`(2e5)=>`(cD s _ rfl)
|`($x[1e4])=>`(by rw[($x)];decide)
|`($x[21e9])=>`(aA (pv 0) (aA (pv 1) (aA (pv 2) $x)))
|`(29e9)=>`({_,Z,_,Z,rF R2.fr[12e6] (rF (R2.ft (f:="to") T.cs ht Z) {p,H4,Z,d4,_,_,_,_,Z,s4,l4})})
|`(3e8)=>`(nomatch z)
|`(%[$x,$y|0e6])=>`(show cF $x 0 $y=inr $x (0,($y)) from rfl)
|`(30e0)=>`(setItem {fJ s x with losses:=gL x.id s.losses} {x with lost:=false})
|`($x[15e3])=>`((bT 21).map λ(d:Nat)=>([.inl (($x):Int),.inl (d:Int)],.ref (g.run $x d)))
|`($x[11e4])=>`(cellsFrom ($x+1) scope.names (iU X.env.cells scope.names []))
|`(8e4)=>`(cW.pos (by dsimp only;omega))
|`(14e0)=>`(g.run r.1.no r.2)
|`(6e7)=>`(aE (λe2=>?_) λe2=>?_)
|`(14e1)=>`(X.blk s H scope (oM scope cl C X.env) fp)
|`(26e3)=>`(s.heap.push {cls:= .type "list_iterator",data:= .fields #[.ref l,.int 0 0]})
|`(64e7)=>`({g.posted,Z,R.isD_posted,_,Z,a,_,_,_,Z,Z,aJ.of hg.1,Z,_,R.get_item id,?_})
|`($x[1e6])=>`(by show $x=_;rw[eo])
|`(38e3)=>`(aB (by rw[show(within n 1 99&&57e8)=true from h];decide))
|`(11e8)=>`(λl=>by cases l<;>exact iE)
|`(30e1)=>`(cashTo {mK s i (λl=>{l with paid:=true}) with out:=s.out+x.value} x.from_ (-(x.value:Int)))
|`($x[0e1])=>`(bM (aV $x))
|`(22e3)=>`(s.trips.map λt=>(.inl 18e8,.ref (g.trip t.no)))
|`($x[2e4])=>`((false,eval $x X.env))
|`(1e9)=>`(xs.length)
|`(30e2)=>`((aB (by rw[show(isOffice o&&(isOffice q&&within t 0 tK))=true from h];decide)).trans ?_)
|`(2e7)=>`(Addr×Obj)
|`($x[0e8])=>`(aT g.item $x)
|`(9e3)=>`(g.item x.id)
|`($x[11e5])=>`(([.inl (($x):Int),.inl (d:Int)]:List aX))
local macro_rules
|`($x[4e3])=>`($x pins s1 U H1 _ I1 q1)
|`(38e4)=>`(⟨λH h=>{h,by rw[bA];exact bL _},λi H h hi=>{h,by rw[bA] at hi;exact hi},λi H x H' h y hi=>{y.1,?_}⟩)
|`($x[5e5])=>`({_,Z,_,Z,g,s,a,($x),G,Z,hg,k})
|`(14e2)=>`(λs id=>intoBin s o id)
|`(6e1)=>`(takenBy s t d)
|`(64e8)=>`({p,q,_,_,Z,Z,s4 _ _ aR,hq,(by show 1+((zs.flatMap (·.2)).length+1)<=16777216;rw[hf,bA,hfl];omega),λr hr=>?_})
|`($x[6e2])=>`(absurd h (by show ¬o+$x<$x;omega))
|`(%[$x,$y|1e2])=>`(λk=>if k=$x then p else $y k)
|`(30e3)=>`(aE (λe2=>{_,Z,h1 e2 _ 11e3}) λe2=>h2 (kT.mpr e2) _ 11e3)
|`(0e2)=>`(s.heap)
|`(22e4)=>`(ha pos pins s U H _ I h)
|`(1e5)=>`(sizeLine)
|`(26e4)=>`(λ_ _ _ _ _ _ us hl=>match us,hl with|[_,_,_,_],_=>rfl)
|`(38e5)=>`({Z,I.turned (t':=s.toks) (λb ob hb e=>eb b ob hb e) f0 f1 f3 f4 f5})
|`(5e3)=>`(aJ.of hg.1)
|`($x[3e8])=>`(R1.fh (f:=$x) T.cs Z)
|`(46e7)=>`(s.heap.get? l=some {cls:= .type "list",dict:=none,data:= .seq vs n,slots:=#[]}/\(∀y,y∈vs->EqAt A.in1 s y z (f y))/\R (.ok (.ret .none)) {s with heap:=s.heap.update l (mQ λxs=>xs.eraseIdxIfInBounds j)})
|`($x[7e8])=>`(aB λz=>$x (by rw[z]))
|`(30e4)=>`(((.inl (k:Int):aX),V.bl true))
|`($x[12e9])=>`(wJ "<lambda>" kF params body scope [] ((X.mg "__name__").getD .none) $x ctv)
|`(13e0)=>`(aE (λe3=>?_) λe3=>?_)
|`(2e8)=>`(mainGlobals)
|`(2e1)=>`(bQ.no s _)
|`(7e2)=>`(("__debug__":Str))
|`(9e4)=>`({Z,Z,Z,λ_ h=>h})
|`(%[$x,$y|1e3])=>`(show inr $x (0,($y))=cF $x 0 $y from rfl)
|`($x[5e0])=>`(λH' s=>aJ.of (s _ _ $x))
|`(%[$x,$y|2e5])=>`(aA (pv $x) (aA $y aD))
|`(6e2)=>`(s.orders.length)
|`(1e7)=>`(t.from_)
|`(7e6)=>`(by rw[z])
|`(9e5)=>`(λ_ _ _ _ _=>lT)
|`(5e4)=>`(setItem s y)
|`(2e3)=>`(cG.no h _)
|`(15e9)=>`(([0,1,2,3,4]:List Nat))
|`($x[11e6])=>`(($x λp=>(p.1,(jU p.2).map V.int)).map λp=>V.ref p.1)
|`(26e5)=>`(∀U' H',N U' H'->∃m',m'<m/\W (i+1) m' U' H')
|`(%[$x,$y|0e7])=>`(s.owes.getD (5 * $x+$y) 0)
|`($x[2e8])=>`(bS (pv 0) $x Z)
|`(30e5)=>`((aT g.round [0,1,2,3]).set o (.ref (g.tray o)))
local macro_rules
|`(10e3)=>`(scope.names)
|`(38e6)=>`(cashTo {mK s i (λl=>{l with paid:=false}) with inn:=s.inn+x.value} x.from_ (x.value:Int))
|`($x[11e7])=>`(nU CX P w K mg base N qual scope f $x A outer s H E)
|`($x[7e9])=>`(upd $x tab (.tbl #[]))
|`(9e6)=>`((x.value:Int))
|`(7e3)=>`(loaded t d)
|`(1e4)=>`(o.toNat)
|`(18e9)=>`(upd H4 D (.lst (acc++[y])))
|`(3e4)=>`(kvs.length)
|`($x[1e9])=>`({_,aJ.of $x})
|`(19e0)=>`(λl=> !l.cleared&& !l.paid)
|`($x[0e9])=>`(itemOf s $x)
|`($x[2e9])=>`(.inl (aJ.of $x))
|`($x[10e2])=>`(isOffice q&&within t 0 $x)
|`($x[10e3])=>`($x {cls:= .type "dict",data:= .dict #[]})
|`(30e6)=>`(nL x x (nS st) (lE st) (bM st) .none kV doc pm an cdv ct)
|`($x[8e0])=>`(R1.fl (f:=$x) T.cs hl Z)
|`(46e8)=>`({g.item i,x'.back,(x'.home:Int),(x'.point:Int),Z,R2.fi (f:="goes_back") T.cs hx' λ_=>Z,R2.fi (f:="home") T.cs hx' λ_=>Z,R2.fi (f:="point") T.cs hx' λ_=>Z,?_,Z})
|`(46e9)=>`(setBin {s with items:=s.items++[x0]} o (binOf s o++[id]))
|`(2e4)=>`(g.item)
|`(%[$x,$y|0e8])=>`(aA (pv $x) (aA (gM $y) aD))
|`($x[1e2])=>`(g.item $x)
|`($x[6e7])=>`(l.item==$x&& !l.cleared)
|`(38e7)=>`(s.heap.push {cls:= .type "range",data:= .fields #[.int lo t,.int hi u,.int 1 v]})
|`(7e7)=>`(s.losses.length)
|`(4e5)=>`(its.toArray)
|`(7e8)=>`(EP X pins U Q)
|`($x[6e8])=>`(bQ.m (by show $x<=100;omega))
|`(19e1)=>`((kY s i:Int) - (kZ s i:Int))
|`($x[6e3])=>`(upd $x D (.lst []))
|`($x[4e4])=>`(by rw[<-z];exact $x)
|`($x[4e5])=>`(bS (pv 0) (pv $x) Z)
|`(2e0)=>`(x.place)
|`(30e7)=>`(tb {D with nx:=Pv (i+1),ct:=Pv (i+1),bk:=D.nx} σ2 H2)
|`(47e0)=>`(⟨x,p1,p2,p3,p4,D5,D6,p7,D8,p9,D10,p11,p12,p13,D14,p17,q50,q51,q52,q53,q60,q61,q62,q63,q80,q81,q82,q83,q100,q101,q102,q103,q140,q141,q142,q143,q144⟩)
|`(26e6)=>`(∀H',Nx H'->∃m',m'<m/\W (i+1) m' H')
|`(16e0)=>`(([0,1,2,3]:List Nat))
|`($x[15e4])=>`(nU kL X.prog X.w X.K X.mg X.base N $x scope f (.ref c') X.A.in1.in1 X.stack s H E0)
|`(14e3)=>`(aE (λe4=>?_) λe4=>?_)
|`(13e1)=>`(cY q&&cF t 0 40000)
local macro_rules
|`(8e5)=>`((jS h).trans ?_)
|`($x[2e6])=>`(trayOf $x o')
|`(38e8)=>`(eC σ2 vs=eC U vs/\tt σ2 H2 λb H3=>if b=true then te σ2 H3 Nt else Nf H3)
|`(26e7)=>`(tb {D with nx:=N,ct:=N,bk:=D.nx} σ2 H2)
|`(19e2)=>`(λl=>l.cleared&&l.paid)
|`($x[2e5])=>`(by rw[($x)];rfl)
|`(38e9)=>`(show eL f v ((k,x)::r)=(if k=f then(k,v)::r else(k,x)::eL f v r) from rfl)
|`($x[8e1])=>`({oc,od,.func $x,osl})
|`(47e1)=>`(RF (kz:=ys.map (·.1)) (vs:=ys.map λy=>cX y.2) I2 {_,ho,Z,n,Z} (by rw[bA,bA]) hll (λi v kk hv hkk=>?_) λs' D out cc I' oD hD hout=>?_)
|`($x[6e9])=>`(bS (pv $x) jH Z)
|`(%[$x,$y|1e7])=>`(match($x++[m])[($y)]? with|some m=>_|none=>_)
|`(16e1)=>`(g.setLoad n d p l)
|`(19e3)=>`(⟨Z,Z,Z,Z⟩)
|`(30e8)=>`(R4.fl (f:="party") T.cs hl2 Z)
|`($x[2e7])=>`(eval $x X.env)
|`(39e0)=>`({Z,I.turned (t':=s.toks) (λb o hb e=>eb b o hb e) f0 f1 f3 f4 f5})
|`($x[0e7])=>`(at_ $x _ rfl)
|`(11e9)=>`(s1.heap.objs.size)
|`(13e2)=>`(s3.heap.objs.size)
|`($x[13e0])=>`(nU kL P w K mg base N $x (bM st) f cdv A outer s H E)
|`(39e1)=>`({_,Z,tp,_,_,_,Z,Z,bW.of htp,Z,Z,_,Z,aE (λz=>by cases z) λ_=>?_})
|`(7e9)=>`(s.log.length)
|`(6e8)=>`(λl hl=>?_)
|`(26e8)=>`(h1 p _ (bD hp) hp aR)
|`(39e2)=>`(gW {s with off:=s.off++[(t.no,d)]})
|`($x[6e4])=>`(aT $x [0,1,2,3])
|`(19e4)=>`(X.blk s3 H3 scope ce fp)
|`(19e5)=>`(aE (λe5=>?_) λe5=>?_)
|`(47e2)=>`(match x.place with| .bin p=>bV s p x.id|_=>{s with losses:=s.losses.map λl=>if l.item=x.id then {l with cleared:=true} else l})
|`($x[10e4])=>`(rY Z T.qh (aA (cP $x) aD))
|`(13e3)=>`(bH aM[2e2])
|`(12e0)=>`(k _ _ (.inl Z) e)
|`(30e9)=>`({_,Z,_,wC3,wD3,wF3,Z,wU3,wV3,wX3,wY3,?_})
|`(7e4)=>`(bW.of htp)
|`($x[8e2])=>`(aK ($x hit.typeIs (bB ?_)))
|`($x[6e5])=>`(R3.fh (f:=$x) T.cs Z)
|`(39e3)=>`(Vbpozz.ints [l.item,l.who,l.time,l.cleared.toNat,l.paid.toNat])
|`(4e3)=>`(cW.no _ _)
|`(%[$x,$y|1e8])=>`({$x,e,λv z=>by rw[($y)] at z;cases z})
|`(%[$x,$y|1e1])=>`($x (f:=$y) T.cs ht Z)
local macro_rules
|`($x[13e1])=>`(bD (o:= .tup [vi 29e5,V.ref $x]) ht2)
|`(47e3)=>`(nL x qual (nS st) (lE st) (bM st) .none kV doc pm an cdv ct)
|`(19e6)=>`(⟨n,o,q,dep,dur,cap⟩)
|`($x[18e3])=>`({s1.heap.objs.size,[s1.heap.objs.size],_,_,H1,Z,I1.kept (t':=s1.toks) λb o e=>dL _ e,($x) a _,{_,eR _ Z,Z,Z},λb hb=>?_,q})
|`(2e9)=>`(l.length)
|`($x[5e6])=>`(some (.builtin $x))
|`(16e2)=>`(I.hok.fresh (bL _))
|`($x[8e3])=>`(aK ($x hj.typeIs (bB ?_)))
|`($x[8e4])=>`(gO (kM (pv $x)))
|`($x[18e4])=>`({_,Z,a,l.map λi=>(((digitOf s $x i:Nat):Int),g.item i),Z,(by rw[<-eys];exact q2.1),λy hy=>?_,λD zs hD hp hs1 hf1=>?_})
|`(%[$x,$y|1e5])=>`({_,Z,_,Z,g,s,a,($x),($y),G,Z,hg,k})
|`(8e0)=>`((x.cod:Int))
|`(16e3)=>`(⟨tg,iter,ifs,0⟩)
|`(39e4)=>`({_,_,Z,Z,g.cash,_,_,_,Z,Z,c1,c3,?_})
|`(16e4)=>`(mR (s.log.take n))
|`(14e4)=>`(h.losses.2 l hl)
|`(47e4)=>`({λb o e n hb hx=>?_,λb o e n hb hx=>?_,I.base.free,λb o e hx=>?_,I.base.tups,I.base.frzs,I.base.tbls})
|`(9e7)=>`(I.ok.hd hc)
|`($x[3e9])=>`(some (.ref $x))
|`($x[8e5])=>`(R2.fh (f:=$x) T.cs Z)
|`(8e6)=>`(mC Z Z Z Z)
|`($x[7e0])=>`(λ_ _ _ _ _=>(pv $x))
|`(26e9)=>`(λy hy H1 s1 Nt Nf h1 h2=>?_)
|`(19e7)=>`({hx,λ_ _ e _=>e})
|`($x[4e6])=>`(setRound s o $x)
|`($x[7e1])=>`(binOf s o++[($x)])
|`(39e5)=>`(by show u.owes.length=_;rw[eo];exact h.len.2.2.2.2.2)
|`(39e6)=>`(k.ret (R.more ((s1.trans s2).trans s4)) rfl G.gh hr ?_)
|`(31e0)=>`((list.take i).foldl (unloaded r) s1)
|`(16e5)=>`(g.run r.no r.day)
|`($x[9e3])=>`(.inl {_,aJ.of $x,Z})
|`($x[11e8])=>`({$x,by simp,λx hx y hy q=>?_})
|`(16e6)=>`(checkOne o)
|`($x[11e9])=>`(if(cX $x==kU)=true then _ else _)
|`(19e8)=>`(h2 rfl _ 11e3)
|`(22e5)=>`(cG.item h λx hx hi=>?_)
|`(22e6)=>`((s.messages.length:Int))
|`($x[12e0])=>`(hs.2 b (iC (fG (cZ e) $x)))
|`($x[5e1])=>`(by rw[($x)];omega)
|`(47e5)=>`(bE (hr pos pins s1 U H1 _ I1 q1) λus s2 ⟨xs,H2,I2,r2,q2⟩=>⟨x::xs,H2,I2,.cons r1 r2,q2⟩)
local macro_rules
|`(47e6)=>`(bE (h pos pins s U H _ I hq) λus s1 ⟨xs,H1,I1,r,z,q⟩=>{by rw[<-r.length];exact z,?_})
|`($x[5e2])=>`(aJ.of ($x ha hne))
|`(5e8)=>`(h.ok hx)
|`(19e9)=>`({y with paid:=true})
|`(31e1)=>`((sb.2 b hb).trans e)
|`(20e0)=>`((iJ g x).map .int)
|`(22e7)=>`(by rw[fV,pU h];omega)
|`(39e7)=>`(show ad c 37e5 (.tray o)=p from aC rfl)
|`(47e7)=>`(upd (upd (upd H1 d (.dK [])) tp (.tup [vi t,.non])) d (.dK (oZ [] [(.inl (o:Int),.ref tp)])))
|`($x[15e5])=>`(A.under (.builtin "type.__call__" {.ref C::$x,kw}))
|`($x[15e6])=>`(call (.builtin "sorted") [.ref l] [(qG "key",.ref $x)])
|`(4e6)=>`(R.sh.nos)
|`(27e0)=>`(lJ (by dsimp only;omega))
|`($x[4e7])=>`(absurd $x (nM _))
|`(4e7)=>`(x.from_)
|`(31e2)=>`(show itemOf s x.id=some y from hy)
|`(39e8)=>`({by simp[start],λm h=>by simp[start] at h})
|`($x[15e7])=>`(by show(match ($x)[k]? with|some t=>_|none=>_)=_;rw[hm])
|`(%[$x,$y|0e9])=>`(upd H $x (.lst $y))
|`(22e8)=>`(bS (pv 0) (bH aD) Z)
|`(%[$x,$y|2e6])=>`({_,Z,($x),_,_,_,Z,Z,($y),oV ho,?_})
|`($x[1e7])=>`($x _ _ _ _)
|`(39e9)=>`(Vbpozz.ints [r.no,r.day,r.comes,r.list.length])
|`(16e7)=>`(own.map (·.2))
|`($x[15e8])=>`(if kv.1=k then(kv.1,($x)) else kv)
|`(47e8)=>`(λb hb=>{(hf b hb).2.2.2.1,(hf b hb).2.1,(hf b hb).2.2.2.2.1,(hf b hb).2.2.2.2.2})
|`(47e9)=>`(intoBin (setItem {s with now:=x.since+KEEP} {x with back:=true,attempts:=0}) o x.id)
|`(13e4)=>`(dD es X.env)
|`(48e0)=>`({xs.length,by simp,dN _,h0})
|`(31e3)=>`((29e6).map λl=>l.who)
|`(48e1)=>`((s.trips.map λy=>(.inl (y.no:Int),.ref (g.trip y.no)))++[(.inl 18e8,.ref x)])
|`(12e1)=>`(put s id p)
|`(12e2)=>`((r.no,r.day))
|`(%[$x,$y|1e9])=>`(aB (show ¬(($x):Nat)=$y by decide))
|`(20e1)=>`(unloaded r)
|`(12e3)=>`((r.1.no,r.2))
|`(22e9)=>`(dR.item h λx hx=>?_)
|`($x[9e4])=>`(absurd $x (iR _))
|`(27e1)=>`((show False from r).elim)
|`(14e5)=>`(ns.map V.int)
local macro_rules
|`(%[$x,$y|2e4])=>`(match ($x)[($y)]? with|some m=>_|none=>_)
|`(23e0)=>`(if b then x else y)
|`($x[7e2])=>`(oA (K:=K) (a:=$x))
|`(8e7)=>`(Nat×Nat)
|`(20e2)=>`((aS hne).trans hp)
|`(31e4)=>`(s.known.modify o λl=>l++[n])
|`(48e2)=>`({_,Z,_,Z,D,_,_,_,Z,Z,aJ.of h1,L0 hlast,_,Z,_,wC1,wD1,wF1,Z,wU1,wV1,wX1,wY1,?_})
|`(10e4)=>`(h.objs.size)
|`(10e5)=>`(X.env.scope)
|`($x[10e5])=>`(R1.fo (f:=$x) T.cs hl Z)
|`(27e2)=>`(upd H (PH.ad c g l) o)
|`(48e3)=>`(aK (zB (zC (name:=qG "__next__") hj.typeIs GA (qF GA hj.typeIs aRp ?_ (aRq _)))))
|`(27e3)=>`(zs.map λp=> .ref p.1)
|`(31e5)=>`(λs id=>put s id (.round o))
|`(48e4)=>`(HV ha hb I h λv u s2 x y H2 I2 rx ry q=>ho pins s2 U H2 x y v u Q I2 rx ry q)
|`(3e9)=>`(g.house)
|`(31e6)=>`(upd H1 d (.dK []))
|`(48e5)=>`(F.ok S len λcdv A outer s H vs Q E hr h=>hbody f cdv A outer s H vs Q E hr h)
|`(4e0)=>`(s.trips)
|`(14e6)=>`(trayOf s' o)
|`(31e7)=>`(put (bV s o id) id (.tray o))
|`(14e7)=>`(absurd rfl h2)
|`(40e0)=>`({U',_,I2.unlock e (I.nofrz hd mu),q})
|`(48e6)=>`(∀c o,c≠z->c≠O->c≠j1->c≠j2->s.heap.get? c=some o->g.get? c=some o)
|`(40e1)=>`(k.no G s1 hp)
|`(14e8)=>`(absurd rfl e1)
|`(27e4)=>`(aE (λe6=>?_) λe6=>?_)
|`(16e8)=>`(g.tray o)
|`(40e2)=>`(takenBy {s with now:=depOf r} r.1 r.2)
|`(40e3)=>`(aB (by unfold nV at hb;rw[hb];decide))
|`(31e8)=>`({_,eR _ Z,Z,Z})
|`(40e4)=>`(ho pins s2 U H2 x y v u _ I2 r1 r2 q2)
|`(16e9)=>`(dD [e] X.env)
|`($x[4e0])=>`(mE (aV $x) 0)
|`($x[12e1])=>`(dP (pv $x) (λ_=>Z))
|`(31e9)=>`(λi=> !l.contains i)
|`(40e5)=>`(if([]:List wD).isEmpty then 0 else 1)
|`(32e0)=>`((toSort s o).take n)
|`($x[10e6])=>`(put s $x (.ended 0 o))
|`(%[$x,$y|2e7])=>`(by show(tripOf s n).isSome=$x;rw[($y)];rfl)
local macro_rules
|`($x[13e2])=>`(by show 1 * $x<=sizeLine;decide)
|`(48e7)=>`(if q.no=q.no/\q.day=q.day then(g.brk q.no q.day||decide (b=1)) else _)
|`($x[13e3])=>`(k.ret (R.more $x) rfl G.gh hr rfl)
|`(48e8)=>`([vi l.item,vi l.amount,vi l.at_,vi l.for_,vi l.message,vi l.paid.toNat])
|`(23e1)=>`(setTray s o t)
|`(32e1)=>`(⟨r.comes,0,r.no,r.day⟩)
|`(32e2)=>`({depOf r,1,r.1.no,r.2})
|`($x[15e9])=>`(by rw[($x)];show s.messages.length+1<=_;omega)
|`(20e3)=>`(by simp;omega)
|`(32e3)=>`(by rw[hj];simpa using ew)
|`(32e4)=>`(by simp only[eX]<;>omega)
|`(20e4)=>`(gN X.prog X.w)
|`(48e9)=>`(vs.toArray.toList.map kP)
|`(23e2)=>`(s.messages++[_])
|`(23e3)=>`(withItem s id f)
|`($x[22e0])=>`({x,H,I1,ru,{Z,λys hy=>by rw[($x) hy hq];exact hx},st',λb hb=>(hf b hb).1})
|`($x[16e0])=>`(upd H $x (.ext λh=>h.CodeRec (.ref $x) kF))
|`(6e9)=>`(h.orders)
|`(7e0)=>`(h.losses)
|`($x[12e2])=>`(λs id=>scan s o id $x 0)
|`($x[13e4])=>`(setItem $x {x with lost:=true})
|`($x[4e1])=>`(upd H $x o)
|`(40e6)=>`(I1.fpOk (bL _) (I1.hok.fresh (bL _)))
|`($x[5e3])=>`(V.int (($x):Int))
|`($x[12e3])=>`(HO.ins c.run dx $x)
|`(32e5)=>`(aE (λe=>?_) λe=>?_)
|`(49e0)=>`({_,Z,_,Z,_,Z,g,_,o,x.id,x,R1,Z,hk.1,hx1,hb,hmf,λg' H' N E'=>?_})
|`(14e9)=>`(K w.params)
|`(13e5)=>`(ps.zip us)
|`(20e5)=>`(X.A.in1.in1)
|`(17e0)=>`(s.log++[cl])
|`($x[8e6])=>`(aB (λz=>e ($x z)))
|`(40e7)=>`(b∈X.ex\/X.s_0.heap.objs.size<=b)
|`($x[10e7])=>`(λz=>$x (by simp[z]))
|`($x[8e7])=>`(pyNext (.ref $x))
|`(40e8)=>`(.inl ⟨{xs,q,bL _},hd U H p⟩)
|`($x[16e1])=>`(upd (upd $x dx (.own x)) x (.ins C dx []))
|`(40e9)=>`(λb n=>vB K b [.int n.1,.int n.2])
|`(49e1)=>`(∀p H',aU H H'->H p=none->H' p=some (mkO (f y))->Nt (.ref p) H')
|`(49e2)=>`((I.hok b u e).stay (λc v hc q=>k c v ?_ q) (λ_ q=>q) λ_ _ q=>q)
local macro_rules
|`($x[13e5])=>`(λz=>by rw[z,($x)] at e;cases e)
|`(49e3)=>`([vi l.item,vi l.who,vi l.time,vi l.cleared.toNat,vi l.paid.toNat])
|`(49e4)=>`(Vbpozz.ints [l.item,l.amount,l.at_,l.for_,l.message,l.paid.toNat])
|`(49e5)=>`(acc.map V.int++[.int (((iV (iB s cl).2).map V.int).length:Int)])
|`(20e6)=>`(s.items++[x])
|`(9e8)=>`(act s c)
|`(27e5)=>`(bP.scan _ _ _ _ _)
|`(32e6)=>`(I.base.free b o e n hx)
|`(12e4)=>`(aK (bB ?_))
|`(13e6)=>`(5 * p+q)
|`($x[16e2])=>`(match itemOf s $x with|some x=>_|none=>_)
|`(23e4)=>`(λl' h1 hl=>?_)
|`(20e7)=>`(V.int.inj this)
|`(23e5)=>`(λ_ _=>trivial)
|`(23e6)=>`(V.ref (g.loss k))
|`($x[22e1])=>`({p,q,_,_,Z,Z,bD hq _ _ aR,aR,(by show $x+2<=sizeLine;decide),λr hr=>?_})
|`(27e6)=>`({_,Z,g,s,G,Z,k})
|`(12e5)=>`(iB s cl)
|`(49e6)=>`(match s.trips.find? λt=>18e8==n with|none=>_|some t=>_)
|`(%[$x,$y|2e8])=>`(show inr $x (1,($y))=cF $x 1 $y from rfl)
|`(41e0)=>`(((x::r).filter λy=>k y==n)++[])
|`(49e7)=>`({.int ys.length,H,I.tok _,{s.toks+1,by rw[eX,hlen]},q})
|`($x[9e5])=>`($x λy=> .ref y.2)
|`(49e8)=>`((if r.no=n/\r.day=d/\b=1 then {r with broken:=true} else r:mS))
|`(41e1)=>`((binOf t o).filter λj=>j != id)
|`($x[16e3])=>`((lk (R.fr (f:=$x) T.cs htt hd Z)).same s1)
|`($x[16e4])=>`(([.inl (($x):Int),.inl (d:Int)],.ref (r d)))
|`(49e9)=>`({ih.only,ih.len,λj=>?_,ih.ids.trans (qV _ _ _),λo'=>?_})
|`(50e0)=>`((((kR t 2000 s).messages.length - s.messages.length:Nat):Int))
|`($x[18e5])=>`(TN hs hgd hx hdt (EX (tk:=s1.toks) I1 _ ($x _ hdt) {_,eR _ Z,Z,?_} q))
|`($x[16e5])=>`(if y.id=$x then {y with place:=p} else y)
|`(17e1)=>`(λp hh=>?_)
|`(41e2)=>`(.trans (.put h1) (.scan _ _ _ _))
|`(15e0)=>`(bQ.m (dN _))
|`(17e2)=>`(X.env.locals)
|`(41e3)=>`(show b∈([]:List Addr) from z)
|`(15e1)=>`(Str×Addr)
|`(17e3)=>`(g.run n d)
|`(20e8)=>`(l.map .int)
|`(32e7)=>`(s.cash.map V.int)
local macro_rules
|`(32e8)=>`(g.addItem x.id p)
|`($x[16e6])=>`(bD (o:= .tup [.int 5,.int $x,vi o]) hp)
|`(23e7)=>`(h.len.2.2.2.2.2)
|`($x[16e7])=>`(if l.contains $x=true then l else l++[($x)])
|`(23e8)=>`(cW.item λx=>?_)
|`(23e9)=>`(iL.item λx=>?_)
|`(24e0)=>`(toldOf s o id)
|`(24e1)=>`(gX.item λx=>?_)
|`(24e2)=>`(bQ.item λx=>?_)
|`(%[$x,$y|2e0])=>`(show ∃t,u=$x $y t from r)
|`(12e6)=>`(I.tok _)
|`(10e6)=>`(eC U vs)
|`(64e9)=>`(R (.error e) s')
|`(10e7)=>`(by decide)
|`($x[18e6])=>`(JR (u:=g.item) (d:=digitOf s $x) (n:=3) (λi _=>wf.digit $x i) hp hs1 hf1)
|`(20e9)=>`(setItem s x)
|`(21e0)=>`(happens s e)
|`(41e4)=>`(bP.trans ?_ (bP.scan _ _ _ _ _))
|`(24e3)=>`((0,100000))
|`(41e5)=>`(λz=>by rw[z,hT] at n;cases n)
|`(21e1)=>`(N2.trans N3)
|`(50e1)=>`(absurd (by rw[show l.item=x.id by simpa using hb];simp) e1)
|`(32e9)=>`(.inl {kv,.inl hkv})
|`($x[18e7])=>`((step s $x).2.more++(step s $x).2.rows.flatMap λr=>(r.length:Int)::r)
|`(27e7)=>`(scan s o id k r)
|`($x[9e6])=>`($x s id .missing)
|`($x[9e7])=>`(l.foldl ($x o) s)
|`(41e6)=>`((bT 21).filter λd=>gA s t d)
|`($x[13e6])=>`(if k=n then p else $x k)
|`($x[5e7])=>`(($x,.bl false))
|`($x[3e1])=>`(($x,.lst []))
|`(50e2)=>`({a,b,c,by show(F7 _ _ _).length=4;rw[mJ];exact d,e})
|`(6e3)=>`(h.known)
|`(33e0)=>`(upd H d (.frz od u))
|`(50e3)=>`(callWith cpos (.builtin "dict.values") [.ref d] [] [])
|`(33e1)=>`({.ref x::rest,[]})
|`(33e2)=>`(by have:=tR z;omega)
|`(24e4)=>`(s.trips++[t])
|`(65e0)=>`({xs,xs[i],q,by simp[hlt]})
|`(24e5)=>`(Option Value)
local macro_rules
|`(41e7)=>`(λy hy H1 s1 Nt Nf h1 _=>?_)
|`(24e6)=>`(Addr×List V)
|`(65e1)=>`(dB jV h)
|`(41e8)=>`(oZ [] [(.inl (o:Int),vi t)])
|`($x[18e8])=>`(($x).zip [((1:Int),(99:Int)),(0,3),(0,3),(0,1439),(1,2880),(1,20)])
|`(17e4)=>`(binOf s o)
|`(17e5)=>`((s.now:Int))
|`(24e7)=>`((hf b hb).1)
|`(17e6)=>`(eL f v fs)
|`($x[13e7])=>`({_,($x),λv q=>nomatch q})
|`(17e7)=>`(vs.map kP)
|`($x[13e8])=>`(if j=$x then w else g.who j)
|`(17e8)=>`(inr p.1 p.2)
|`(7e1)=>`(h.items)
|`($x[8e8])=>`(intoBin s o $x)
|`($x[18e9])=>`({($x).1,λi hi=>(($x).2 i).mp hi})
|`(50e4)=>`(by show u.rounds.length=4;rw[f3];exact h.len.2.2.1)
|`(50e5)=>`({?_,by rw[iM];show s.messages.length+1<=_;omega})
|`(41e9)=>`((r.filter λy=>k y==n)++[])
|`(21e2)=>`(Option Nat)
|`(33e3)=>`(iK s t d)
|`(21e3)=>`(List aX×V)
|`(21e4)=>`(aS (cV q hn))
|`(8e8)=>`(X.stack)
|`(21e5)=>`(Str×Value)
|`(17e9)=>`(acc.length)
|`($x[3e4])=>`(aS (cV e $x))
|`(33e4)=>`(rawInt ((i:Int)+1))
|`(9e9)=>`(g.posted)
|`(10e8)=>`(g.rounds)
|`($x[12e4])=>`(seqObj "list" #[] $x)
|`(42e0)=>`(seqObj "list" vs.toArray 0)
|`(65e2)=>`(λl _ hl=>by cases l<;>first|rfl|exact absurd Z hl)
|`(33e5)=>`({dx,aR.trans ?_})
|`(50e6)=>`(∀c,zs.filter 29e7=ys.filter λp=>p.1==c)
|`(42e1)=>`(∀q∈ps,gE q.2 p.2=false)
|`(33e6)=>`({y with paid:=false})
|`(27e8)=>`(λH' s1=>pO s1)
|`(42e2)=>`(l.map λi=>((d i:Int),u i))
|`(50e7)=>`({_,Z,g,s,R,Z,wf.trips.2.1,λpa H1 s1 ha0 ha=>?_})
local macro_rules
|`(15e2)=>`(act s cl)
|`(33e7)=>`((["calls"]:List Str))
|`(50e8)=>`(aB (by rw[show within t 0 tK=true from h];decide))
|`(4e4)=>`(h.tray)
|`(42e3)=>`({x.since+KEEP,2,x.id,0})
|`(5e5)=>`(X.base)
|`(42e4)=>`(I.base.keep b o e n hb hx)
|`($x[16e8])=>`({H,I.tok _,by rw[($x) r];exact q})
|`(50e9)=>`(show its.toArray.any (qT x)=its.any (qT x) by simp)
|`(51e0)=>`(FZ (a:=kU) (by first|rfl|(simp only[MU];rfl)) ?_)
|`($x[13e9])=>`(aK (bB (aK ($x ho hd ?_))))
|`(42e5)=>`(λy hy H1 s1 Nt Nf h1=>?_)
|`(%[$x,$y|3e6])=>`(by rw[hf,bA,hfl];show $x * $y<16777216;omega)
|`(42e6)=>`((l.take i).foldl (kK o) s)
|`(51e1)=>`(h.aside hx rfl hp rfl (.inl hm) ⟨hok,trivial⟩)
|`(51e2)=>`(by show(s.bins.set _ _).length=4;rw[jW];exact h)
|`($x[19e0])=>`(show $x {s with now:=depOf r} r.1.no=some r.1 from h.tripOf a)
|`(33e8)=>`(s.items.filter lC)
|`(51e3)=>`(I1.laid (t':=s1.toks) (λb u e=>dL _ e) (bL _) ?_)
|`(18e0)=>`(ys.length)
|`(33e9)=>`({.bl _,H,I,Z,q})
|`(34e0)=>`(upd H p (.dK kvs))
|`(24e8)=>`(N1.trans N2)
|`(51e4)=>`(if x.item=id then {x with cleared:=true} else x)
|`(24e9)=>`(ee.trans e0)
|`(51e5)=>`(((u.messages.length - s.messages.length:Nat):Int))
|`(27e9)=>`(put t x.id eN)
|`(10e9)=>`(s.losses)
|`($x[19e1])=>`($x==C9&&sc.kind== .function&&sc.names.lookup n==some .cell)
|`(28e0)=>`(mI x (.ref p))
|`(42e7)=>`({dx,by rw[e];exact aR})
|`(34e1)=>`(λl h1 hl=>?_)
|`(42e8)=>`(λr H'=>r= .int kk/\H'=H)
|`(51e6)=>`(({fJ s x with losses:=jD x.id s.losses i}:State))
|`($x[19e2])=>`(setTray t o {items:=nI s $x l,passes:=(trayOf t o).passes})
|`($x[16e9])=>`(λvs n z=>by rw[($x)] at z;cases z)
|`(51e7)=>`(a.more++a.rows.flatMap λr=>(r.length:Int)::r)
|`($x[14e0])=>`($x pins s2 U H2 _ I2 q2)
|`($x[14e1])=>`(by rw[eX,<-hl];exact $x)
|`(51e8)=>`(∀b o,s.heap.get? b=some o->h'.get? b=some o)
local macro_rules
|`(51e9)=>`(SH lk hcd S len λA outer s H vs Q E hr hsp=>?_)
|`(52e0)=>`({its.toList,o,n,hv,KX _ _ e,hc,by simp[hd]})
|`(52e1)=>`(aK (wI (aK (aRs e I.at_ J.at_ (LA I) (bB ?_)))))
|`(52e2)=>`(s.runs.filter λx=> !(x.no==t.no&&x.day==day))
|`(5e1)=>`(s.gone)
|`(18e1)=>`(λs a=>Z)
|`(34e2)=>`(xN.trans (vI ..))
|`(21e6)=>`(backRun l)
|`(52e3)=>`(by rw[I.ok.glob];exact I.mod.glob.keeps I.bk)
|`(52e4)=>`(λ_ s'=>∃U' H',aG X pins U' H' s'/\Q U' H')
|`(34e3)=>`(zX X pins U tg R)
|`(42e9)=>`(f (.int i t) (.int j u))
|`(52e5)=>`({o,es,ep,k _ o (λz=>(hf _ z).2.1 Z) ho,r})
|`(34e4)=>`({kvs[i],fQ hi})
|`(8e9)=>`(c.house)
|`(52e6)=>`(aK (uG (s:={s with heap:=h,toks:=tk}) hS Z ?_))
|`($x[19e3])=>`(intoBin (setItem s {x with attempts:=x.attempts+1}) o $x)
|`(34e5)=>`((g.item j,(j:Int)))
|`(52e7)=>`(if x.back then(x.home:Int) else(x.point:Int))
|`($x[19e4])=>`(!s.gone.contains (t.no,d)&&decide (s.now<=$x * d+t.dep))
|`(52e8)=>`(do let v <-whole;FJ a.pos;yS [v] (truthy v))
|`(52e9)=>`(aK (qI hz Z (x:= .ref I) Z (aK (uG hI Z ?_))))
|`(5e6)=>`(h.many)
|`(28e1)=>`(passed s o n)
|`(28e2)=>`(iM _ _ _ _ _)
|`(12e7)=>`(id.toNat)
|`(15e3)=>`(ns.length)
|`($x[14e2])=>`({#[],by rw[($x)];simp})
|`(25e0)=>`(λb hb=>?_)
|`($x[14e3])=>`(hb pins s1 U H1 $x I1 q1)
|`(15e4)=>`(pl.isList)
|`(15e5)=>`(ps.length)
|`(15e6)=>`(us.length)
|`(53e0)=>`(λb o _ _ hc e _=>{o.slots,k b o hc e})
|`(25e1)=>`(upd H' d u)
|`(%[$x,$y|2e1])=>`(field (.ref $x) $y >>=_)
|`(53e1)=>`(Builtin.«zip.__next__» {[.ref z],[]})
|`(53e2)=>`(((if x.back=true then 0 else x.cod:Nat):Int))
|`(43e0)=>`(h.len20 (p:= .bin o) rfl)
|`(34e6)=>`((l.length:Int))
local macro_rules
|`(53e3)=>`({q.toNat,by have:=(jI q h'.2.1).2;omega})
|`(15e7)=>`(aJ.of ha1)
|`(9e0)=>`(r.1.to_)
|`(53e4)=>`({.bl _,H1,I1,by rw[r1.none_iff];rfl,q1})
|`(53e5)=>`(xs.length - (i+1))
|`(34e7)=>`((p,w)::P.zip vs)
|`(34e8)=>`(λ_ _ q=>dL _ q)
|`(53e6)=>`(kW h {cls:= .type "cell",data:= .cell none})
|`(53e7)=>`(("cancelled",.bl (s.off.contains (t.no,d))))
|`(34e9)=>`(s.messages++[m])
|`(53e8)=>`(if(d:Int)<(n:Int) then(d:Int) else(n:Int))
|`($x[19e5])=>`(k.ret $x rfl (DO (b:=false) (i:=i) G.gh Z Z Z Z) hp rfl)
|`(35e0)=>`(pW R2.sh.trays ho)
|`(43e1)=>`(((0:Int),(3:Int)))
|`(53e9)=>`(u.runs.map λr=> .ref (g5.run r.no r.day))
|`(43e2)=>`(nJ _ (nJ _ (JE hb e)))
|`(43e3)=>`(FR cpos (FS [] X.env))
|`(54e0)=>`(aS (λz=>by rw[z,h] at q;cases q;exact mu))
|`(5e7)=>`(c.item)
|`(43e4)=>`(λl=>by cases l<;>rfl)
|`($x[17e0])=>`(R2.fi (f:=$x) T.cs hx2 λ_=>Z)
|`(43e5)=>`(zs.map λp=>V.ref p.1)
|`(54e1)=>`({o.toNat,by have:=(jI o h'.1).2;omega})
|`(43e6)=>`((u.messages.length:Int))
|`($x[7e3])=>`({_,fQ $x})
|`($x[14e4])=>`(($x s o).take i)
|`($x[19e6])=>`(($x (bD ndy)).same (bD (by rw[aS (fK hdy)];exact ny)))
|`($x[14e5])=>`($x .house trivial rfl)
|`(5e9)=>`(h.gone)
|`(35e1)=>`(sentBack s o x)
|`(28e3)=>`(given s o x)
|`(35e2)=>`(notThere s o x)
|`(28e4)=>`(s.runs.length)
|`(54e2)=>`(match x.place with| .counter o=>_|_=>_)
|`(35e3)=>`(s.messages[k]?)
|`(21e7)=>`(tryRun l)
|`($x[19e7])=>`($x x=some .cell\/$x x=some .free)
|`(43e7)=>`(⟨U',H',I.unwish,q⟩)
|`(35e4)=>`(∃m,W 0 m U H)
|`(54e3)=>`({.int (g i j),H,I.tok _,{_,Z},q})
local macro_rules
|`(43e8)=>`(wC (F5 I hg hm ?_ hdb))
|`(43e9)=>`((its.toArray.size:Int))
|`(54e4)=>`(λh' c' kp e=>fin its r' hz h' c' kp e)
|`(21e8)=>`(k.map kV)
|`(35e5)=>`({_,eR _ Z,Z})
|`(54e5)=>`(newExc (.type "StopIteration") [] >>=_)
|`(54e6)=>`(EA (by rw[EK hall];exact cI (aRe ds) z2))
|`(10e0)=>`(g.trips)
|`(44e0)=>`(some .notImplemented)
|`(54e7)=>`(aK (I.type.here (aK (J.type.here ?_))))
|`(35e6)=>`(R.run ht hd)
|`(21e9)=>`(zF λj=>?_)
|`(28e5)=>`((t'.no,d'))
|`(13e7)=>`(G.wf.ids)
|`($x[17e1])=>`({$x,_,hP,trivial,λod=>?_})
|`(65e3)=>`(λ_ _ _ _ _=>(bH aD))
|`(54e8)=>`({_,p,Z,s3.trans s4,?_,s4 _ _ ha3,?_})
|`(35e7)=>`(g.run q.no q.day)
|`(25e2)=>`(h.len.2.2.1)
|`(18e2)=>`(h.bin o)
|`(18e3)=>`(r.1.from_)
|`(25e3)=>`(Trip×Nat)
|`(54e9)=>`(bE (ha pins s U H Q I h) λc s1 e=>?_)
|`(25e4)=>`(rel.val k)
|`(55e0)=>`(("gone",.bl (s.gone.contains (t.no,d))))
|`(55e1)=>`((mG (mR (s.log.take (k+1)))).map .int)
|`(25e5)=>`(g.round o)
|`(44e1)=>`(qc.2.sq H)
|`(55e2)=>`(bad (by rw[hll] at e3;simp at e3;omega))
|`(6e4)=>`(e.symm)
|`(6e5)=>`(h.msgs)
|`($x[8e9])=>`($x i (dY ..))
|`(44e2)=>`(by rw[<-e];exact hj)
|`(55e3)=>`(runsAhead {s with now:=x.since+KEEP})
|`(55e4)=>`(yJ {t with inn:=t.inn+x.cod} o x.cod)
|`(%[$x,$y|1e6])=>`(cB.mpr {$x,($y),Z})
|`($x[2e0])=>`($x b o e)
|`($x[14e6])=>`({_,($x) ho hc hd hr})
|`(44e3)=>`(λl1 l2 h1 h2 e=>?_)
|`(55e5)=>`(R.sh.cp (o:=hl.trans R.sh.owes.symm))
local macro_rules
|`(44e4)=>`(kvs.map λq=>kV q.1)
|`(44e5)=>`(wC (rA I hg hs hv ?_))
|`(55e6)=>`(st1.2.at λo e=>(tY _ _ hSl).trans e)
|`(%[$x,$y|3e1])=>`(bD (o:= .tup [.int $x,vi o,.int 0]) $y)
|`($x[17e2])=>`($x (f:="amount") T.cs hx1 Z)
|`($x[17e3])=>`(G.gh.stay E' (st1.trans $x))
|`(55e7)=>`(bD (o:= .lst [vi s.inn,vi s.out]) hq)
|`(55e8)=>`((nF s o x.id).map λ(k:Nat)=>(k:Int))
|`($x[19e8])=>`(l.map λi=>(((digitOf s $x i:Nat):Int),g.item i))
|`(6e6)=>`(T.cs.h)
|`($x[9e0])=>`(aS (cV $x hd0))
|`($x[14e7])=>`(by show $x<100;omega)
|`(11e0)=>`(s.items)
|`(35e8)=>`(h.runs.2 r hr)
|`(35e9)=>`(I.freeC x c e)
|`(11e1)=>`(s'.heap)
|`(36e0)=>`(TP X pins U Q)
|`(36e1)=>`((xs.length:Int))
|`(55e9)=>`(aB (show ¬((cX d==kU)=true) from eQ))
|`(11e2)=>`(x.value)
|`(56e0)=>`(by rw[bA,hzl];rw[bA] at hz;exact hz)
|`($x[19e9])=>`(aK (NH (s:={s with heap:=h1,toks:=tk1}) hS1 Z $x))
|`(56e1)=>`(λp n=>bW K H p [.int n.1,.int n.2])
|`(56e2)=>`({x,_,hx,by rw[pa.item,hx];rfl,?_})
|`(36e2)=>`((ns.length:Int))
|`($x[2e1])=>`(bI 38e2 (aN (aY (bC ($x T) 1e0 (aA (pv 0) 2[1e5])))) bO)
|`(3e0)=>`({_,Z,1[0e3],λp hp=>29e8})
|`($x[1e0])=>`(aW bG 0[0e0] (pv $x) 3e3)
|`($x[4e8])=>`(eF $x (by rfl) T.qd fX (aA 0[0e0] aD))
|`(%[$x,$y|0e2])=>`(aA (pv $x) ($y)[1e5])
|`($x[4e2])=>`(bI (fA (dP $x (λ_=>Z))) 8e2 bO)
|`($x[3e0])=>`(aW eJ (pv $x) aM 3e3)
|`(3e2)=>`(absurd h15 0e3)
|`($x[7e4])=>`(eF gQ (by rfl) T.qd fX ($x)[1e5])
|`(15e8)=>`((1e8).items.drop m)
|`($x[3e5])=>`(aA ($x)[0e0] aD)
|`($x[4e9])=>`(by rw[($x)];exact λz=>3e8)
|`($x[5e8])=>`((1e8).items.take $x)
|`(%[$x,$y|0e5])=>`(bC ($x T) 1e0 ($y)[1e5])
|`(22e0)=>`({_,Z,_,Z,_,Z,1[0e3],λp hp=>29e8})
local macro_rules
|`(5e2)=>`(fH I q 0e5)
|`(18e4)=>`({_,Z,1[0e3],λp hp=>40e1})
|`(9e1)=>`(bS (pv 0) 3e5 Z)
|`(8e1)=>`(λz=>3e8)
|`($x[9e8])=>`(bC (nW T) 1e0 (aA (cP $x) aD)[21e9])
|`($x[10e8])=>`(bE ($x)[1e1] λv s1 ⟨x,H1,I1,r1,q1⟩=>?_)
|`($x[9e9])=>`(absurd ($x)[3e6] eQ)
|`(44e6)=>`(bS (pv 0) (pM Z oU.nd T.ql[10e4] ("office",1)[2e3] %[1,oU.nd|0e3] 9e5 65e3) Z)
|`(%[$x,$y|1e0])=>`(bZ (i:=$x) $y Z (bF Z) 3e5)
|`(36e3)=>`({_,Z,a,_,_,_,Z,Z,5e3,Z,_,Z,_,_,_,_,Z,44e1,_,Z,4e1})
|`($x[14e8])=>`(dC (bC (nW T) 1e0 (aA (pv 0) (aA (pv 2) %[3,(cP $x)|2e5]))))
|`(56e3)=>`(mH (dO hr) 0[0e0] 3e5 19e3)
|`(44e7)=>`(.inr {65e0,Pv (i+1),λU' H' p'=>⟨53e5,4e2,Z,hlt,p'⟩,λx H' y=>?_})
|`(22e1)=>`((1e6).map λr=> .ref 14e0)
|`($x[10e9])=>`({_,Z,1[0e3],λp hp=>k.no G $x hp})
|`($x[12e5])=>`(bE ($x)[1e1] λv s1 ⟨x,H1,I1,r1,q1⟩=>?_)
|`(28e6)=>`({[],trivial,λa m=>absurd m 0e5})
|`(%[$x,$y|3e2])=>`({_,Z,D,zs,Z,s2 _ _ h1,λq hq=>s2 _ _ (h3 q hq),%[($x),($y)|3e6],λq H4 s4 hq0 hq=>64e8})
|`(25e6)=>`(sK (K:=K) Z 3[1e8] (λ_=>Z))
|`(12e8)=>`(absurd 65e1 0e5)
|`(56e4)=>`({_,Z,rF "cash"[8e5] ⟨_,Z,rF %[R2.fi,"origin"|0e1] {g.cash,_,_,_,Z,Z,aJ.of c1,c2,_,Z,rF %[R2.fi,"value"|0e1] 39e4}⟩})
|`($x[6e6])=>`(aW eJ ($x)[0e0] aM 3e3)
|`($x[1e3])=>`({$x,4e2})
|`(56e5)=>`(rF "comes"[3e7] {_,Z,2[0e3],λt2 ht2=>?_})
|`(25e7)=>`(CA 1e3 A env λe s'=>64e9)
|`(56e6)=>`(⟨_,Z,a,_,Z,q4.1[2e9],_,Z,rF f4 {_,Z,g.passes,_,_,_,Z,Z,aJ.of hPs4,wZ (λo=>(trayOf _ o).passes) ho,2[0e3],λr hr=>?_}⟩)
|`($x[5e9])=>`(dP ($x)[0e0] (λ_=>Z))
|`(18e5)=>`(binOf s 1e7)
|`(56e7)=>`({_,Z,3e9,8e9,dh,_,_,Z,hh,T.cs.h.cl,T.cs.h.no _ 0e4,Z,_,Z,rF %[R3.fi,"value"|0e1] 46e5})
|`(25e8)=>`((4e9).map λ(k:Nat)=>30e4)
|`(56e8)=>`(⟨_,Z,rF "posted"[0e4] {g.posted,Z,R.isD_posted,_,Z,a,_,_,_,Z,Z,5e3,Z,_,R.get_item id,_,Z,a,_,_,_,Z,Z,5e3,Z,?_}⟩)
|`(56e9)=>`({_,g4,Z,by rw[et,hunl];exact N3.trans N4,by rw[et,hunl];exact G2.missed hx[2e5] e4,e4.1.trans el,e4.2.1.trans eb})
|`(36e4)=>`(bE 22e4 λus s1 ⟨vs,H1,I1,r1,q1⟩=>?_)
|`(57e0)=>`(MN (T:="dict") (id:="dict.values") hbase rfl hline MO MW aQy (bE he[1e1] λu s1 ⟨x,H1,I1,rx,d,o,kvs,ex,hd,q⟩=>?_))
|`(44e8)=>`({λi m U H=>m=xs.length - i/\i<=1e9/\Pv i U H,48e0,?_})
|`($x[10e0])=>`({_,Z,($x)[0e3],λp hp=>?_})
|`(28e7)=>`({_,Z,rF "posted"[0e4] 64e7})
|`(57e1)=>`({_,kI.k (k:= .inl (i:Int)) h1 (eB h2 (qD hm 0e3)),{_,Z},by rw[jW];exact h0,_,aR,cI (zJ ..) 0e1,λq hq=>?_})
|`(%[$x,$y|2e9])=>`(Ct.lst (aT %[($x),($y)|1e2] (bT ($x+1))))
|`(57e2)=>`(⟨_,Z,rF "goes"[3e7] {_,Z,_,Z,rF "trip"[3e7] (rF %[R1.ft,"origin"|1e1] {p,H4,Z,d4,_,_,Z,s4,l4})}⟩)
local macro_rules
|`($x[11e0])=>`(aS (neH $x _ q (λ_ _ z=>3e8)))
|`(57e3)=>`(.inr {Y.go i H q %[hl,hlt|0e0],Pv (i+1),λH' p'=>{ys.length - (i+1),4e2,Z,hlt,p'},λx H' y=>?_})
|`(57e4)=>`({_,Z,rF %[R5.fi,"value"|0e1] ⟨_,Z,rF (R5.fl (f:="party") T.cs hl2 Z) {2[0e3],λp hp=>?_}⟩})
|`(36e5)=>`((bT 21).map λ(d:Nat)=>%[t.no,d|3e4])
|`(57e5)=>`(⟨_,Z,_,Z,rF "runs"[0e4] {_,Z,tp,_,_,_,Z,Z,7e4,Z,_,Z,tp,_,_,_,Z,Z,7e4,Z,2[0e3],λq hq=>?_}⟩)
|`(22e2)=>`(bI 2[8e4] 8e2 bO)
|`(25e9)=>`(⟨h0,kvs,h1,4e2,h3⟩)
|`(44e9)=>`(λy hy H1 s1 Nt Nf h1=>{Z,dN _,λp hp=>26e8})
|`(57e6)=>`(vD O.r 35e6 0e4 8[0e2] λdx hH=>R.set (l:= .run n d) (lR ht hd) R.sh.cp (λ_=>Z) 11e8 34e1 ?_)
|`(57e7)=>`(upd (upd (upd H 10e8 (.lst 30e5)) p (.lst [])) g.trays (.lst (g.tray[6e4].set o (.ref p))))
|`(57e8)=>`(isOffice a&&(isOffice b&&(a != b&&(within dep 0 1439&&(within dur 1 2880&&within cap 1 20)))))
|`($x[9e1])=>`(sB 0[0e0] (pv $x) jR)
|`(57e9)=>`(bE hi[1e1] λiv s1 ⟨y,H1,I1,ry,q1⟩=>bE ho[4e3] λu s2 ⟨x,H2,I2,rx,a,ov,ex,g,q2⟩=>?_)
|`(4e8)=>`(3e7==id)
|`($x[14e9])=>`({($x)[0e3],λp hp=>?_})
|`(36e6)=>`(s.trips.flatMap λt=>t.no[15e3])
|`(28e8)=>`(pI qual scope 0e9 f cd)
|`($x[17e4])=>`(bS (pv 2) (gC (aA (cP T.qz) (aA (cP $x) 1[1e5]))) Z)
|`(28e9)=>`(%[r.1.no,r.2|3e4])
|`(58e0)=>`(λv s₁=>aQ 1e1 X.A b[2e7] (λu s₂=>aQ 1e1 X.A (f v u) Q X.xe s₂) X.xe s₁)
|`(12e9)=>`(aB h[1e4])
|`($x[20e0])=>`(aPx (h₀:=X.base) I.ok.mod.kin $x (bE 22e4 λus s1 ⟨vs,H1,I1,r,q⟩=>{I1.kIn,?_}) he hpl)
|`($x[15e0])=>`(A.deeper (pI $x (bM st) 0e9 f cdv))
|`(45e0)=>`({_,Z,_,_,Z,h1[2e9],1[0e3],λp hp=>?_})
|`(11e3)=>`(aU.refl _)
|`(58e1)=>`({Z,_,Z,rF "item"[8e0] ⟨_,Z,rF %[R1.fi,"number"|0e1] {Z,_,Z,4e1}⟩})
|`($x[20e1])=>`({_,Z,_,Z,rF "came_in"[3e8] ⟨_,Z,rF "went_out"[3e8] {2[0e3],λq hq=>($x)[22e1]}⟩})
|`(2e2)=>`(X.prog)
|`(58e2)=>`({_,Z,a,_,_,_,Z,Z,5e3,Z,_,Z,a,_,_,_,Z,Z,5e3,Z,_,Z,_,_,_,_,Z,44e1,_,Z,4e1})
|`($x[12e6])=>`($x (f:="trip") T.cs ht hd Z)
|`(%[$x,$y|2e2])=>`(gC (aA (cP $x) %[($y),aM|2e5]))
|`(26e0)=>`(pQ 0e2 H0[7e9])
|`($x[20e2])=>`(λ_ _ _ _ _=>(gC (aA 5[1e8] (aA (cP $x) (aA (dJ (K:=K) Z 5[1e8] Z) (aA 5[1e8] aD))))))
|`(29e0)=>`(∃m,W 0 m H1[6e3])
|`(45e1)=>`(s.items.map λx=>(.inl 3e7,.ref 9e3))
|`(10e1)=>`(by cases z)
|`(58e3)=>`({_,Z,_,Z,g,s,pa,e,_,_,R.other s3,wf,Z,ha3,l3,4e2,λp H4 s4 hp0 l4=>?_})
|`(26e1)=>`(Vbpozz.ints 4e9)
|`($x[7e5])=>`(aL ($x)[0e0] Z)
|`(29e1)=>`(i[0e9].any 33e3)
local macro_rules
|`(58e4)=>`(bE 22e4 λus s1 ⟨vs,H1,I1,r1,q1⟩=>hc pins s1 U H1 vs us Q I1 r1 q1)
|`(58e5)=>`({_,Z,rF 30e8 ⟨_,Z,rF %[R4.fi,"origin"|0e1] {Z,_,Z,19e5}⟩})
|`(58e6)=>`(aK (wI (aK (qI hz Z (x:= .ref O) Z (aK (G8 hz 0e5 λg1 z1 s1=>?_))))))
|`(36e7)=>`(wZ (λo=>(1e8).passes) ho)
|`(29e2)=>`((4e9).length - 20)
|`(58e7)=>`(R.set (l:= .house) trivial R.sh.cp (λ_=>Z) 11e8 65e2 ⟨dx,aR⟩)
|`(58e8)=>`(λy H4=>∃acc,H4 D=some (.lst acc)/\17e9<1e5/\Pv (i+1) 18e9)
|`(58e9)=>`({_,Z,tp,_,_,_,Z,Z,7e4,Z,Z,_,Z,aE (λ_=>?_) λz=>absurd Z z})
|`(29e3)=>`(jN 1e6 o s.now q)
|`(59e0)=>`(setTray ((1e8).items.foldl (jC o) s) o {items:=[],passes:=0})
|`(59e1)=>`({_,Z,rF (RD.fh (f:="trays") T.cs Z) %[g.trays,hTs|2e6]})
|`(36e8)=>`({_,Z,1[0e3],bad ?_})
|`($x[20e3])=>`(bE ha[1e1] λv s1 ⟨x,H1,I1,r1,q1⟩=>$x pins s1 U H1 x v Q I1 r1 q1)
|`(45e2)=>`(((6e1).take i).foldl 7e3 s4)
|`($x[20e4])=>`(mH (dO hr) (bC ($x T) 1e0 (aA 3e5 (aA 3e5 aD))[7e7]) 3e5 19e3)
|`(%[$x,$y|3e5])=>`(show($x++[(n,d)]).contains 28e5=$y 28e5 from RH λz=>hl (by rw[hn'] at z;cases z;rfl))
|`(59e2)=>`({⟨t,Z⟩,I',λb o e hn hf=>un.keep b o e hn hf 0e5})
|`(59e3)=>`({_,Z,rF %[R.fi,"goes_back"|0e1] ⟨x.back,Z,32e5⟩})
|`(13e8)=>`(pk 2e0)
|`(45e3)=>`({_,Z,_,Z,2[0e3],λq hq=>?_})
|`(59e4)=>`(bC (BG T) 1e0 (aA 2[1e8] aD))
|`(59e5)=>`(rF fM {_,_,Z,hM3[2e9],_,Z,_,_,Z,Z,2[0e3],λp hp=>?_})
|`(59e6)=>`((l.modify i λl=>{l with paid:=b}).filter λl=>j[6e7])
|`($x[20e5])=>`(($x).zip [43e1,(1,999),(0,3),(0,8),(0,8),(0,3),24e3,24e3,(0,1000)])
|`(29e4)=>`(l.foldl 7e3 s)
|`(59e7)=>`(match(jB s x.id 19e0).getLast? with|none=>_|some i=>_)
|`(59e8)=>`(match(jB s x.id 19e2).getLast? with|none=>_|some i=>_)
|`(36e9)=>`(xE (pv 0) 2[0e0] yB)
|`(59e9)=>`(⟨_,Z,rF "messages"[0e4] {_,_,Z,hM[2e9],?_}⟩)
|`(60e0)=>`({t.no,day,1e7,t.to_,comesOf (t,day),list,broken})
|`(18e6)=>`(iG 0[0e0])
|`(60e1)=>`({_,Z,a,_,_,_,Z,Z,5e3,Z,_,_,_,_,Z,44e1,_,Z,4e1})
|`(60e2)=>`(s.items.map λt=>(.inl (t.id:Int),.ref t.id[1e2]))
|`(45e4)=>`(cellsFrom 1[0e5] 10e3 [])
|`(37e0)=>`(λb ob hb e=>31e1)
|`(60e3)=>`((16e0).map λo'=>vi (setTray s o _)[2e6].passes)
|`(18e7)=>`(cT cS aM)
|`(60e4)=>`(cellsFrom 1[0e5] 10e3 (iU X.env.cells 10e3 []))
|`(60e5)=>`(bE ho[1e1] λu s1 ⟨x,H1,I1,rx,a,ex,d,q1⟩=>?_)
|`($x[20e6])=>`(bZ (i:=2) $x Z (bF Z) (zH TV (by rfl) T.wj boot_dict 1[1e5]))
local macro_rules
|`($x[17e5])=>`((15e9).map λq=>vi %[($x),q|0e7])
|`(60e6)=>`(absurd (show p∈([]:List 2e7)++[] from hp) 0e5)
|`($x[20e7])=>`(HO.frz {cls:= .type $x,data:= .seq vs.toArray} (.lst 48e9))
|`($x[20e8])=>`(HO.frz {cls:= .type $x,data:= .seq vs.toArray} (.tup 48e9))
|`($x[20e9])=>`(⟨_,Z,rF ($x)[0e4] {_,_,Z,hl[2e9],_,_,Z,Z,_,Z,13e0}⟩)
|`(37e1)=>`(((1e8).passes:Int))
|`(37e2)=>`((1e6).take (i+1))
|`(60e7)=>`(((.inl (y.id:Int):aX),V.ref ((32e8).item y.id)))
|`($x[17e6])=>`(pT 0[0e0] 2[0e0] pP 2[0e0] $x jR)
|`(29e5)=>`(comesOf (t,d))
|`(45e5)=>`({4[0e3],λp hp=>26e8})
|`($x[21e0])=>`({_,Z,b,Z,.inl {kb,.inl hkb},_,Z,rF "trip"[3e7] $x})
|`($x[21e1])=>`({_,Z,p,Z,.inl {kp,.inl hkp},_,Z,rF "trip"[3e7] $x})
|`(60e8)=>`(compPost 1e1 X.A X.xe use Qf (.ref D) 13e2)
|`(60e9)=>`({CB hu,k,xs,uO I.hok eb,dd,h _ _ 12e6 ?_})
|`(61e0)=>`(setTray s o {items:=l,passes:=(1e8).passes})
|`($x[11e1])=>`({_,Z,rF f1 $x})
|`(45e6)=>`(bI (fA 4[12e1]) 8e2 bO)
|`(45e7)=>`(lS[14e4].foldl 16e6 s)
|`(61e1)=>`(([.inl (r.1.no:Int),.inl (r.2:Int)],.ref 14e0))
|`(18e8)=>`((t.no:Int))
|`(61e2)=>`(setTray s o {items:=(1e8).items,passes:=n})
|`(45e8)=>`(kvs.map λkv=>y[15e8])
|`(26e2)=>`(eG g s t d)
|`($x[21e2])=>`({_,Z,a,_,_,_,Z,Z,5e3,Z,_,Z,_,_,_,_,Z,($x) H,_,Z,4e1})
|`(29e6)=>`(s.losses[i]?)
|`(45e9)=>`(l.filter λl=>j[6e7])
|`(61e3)=>`(⟨_,Z,rF "cleared"[8e0] {_,Z,6e7}⟩)
|`(61e4)=>`({_,Z,_,q3.1[9e3],aE (λe=>?a) λe=>?b})
|`(61e5)=>`((1e8).passes=0/\(toSort s o).isEmpty=true)
|`(9e2)=>`(aB 0e1)
|`(37e3)=>`(l.foldl 16e6 t)
|`(61e6)=>`(scan (put s id (.round 1e4)) 1e4 id 3 0)
|`($x[21e3])=>`({u,Z,vF (s:={s with heap:=h'}) e c d 0e3 ($x)[22e0]})
|`(61e7)=>`((15e9).map λq=>vi (l.getD (5 * p'+q) 0))
|`(61e8)=>`(eG 5e0 {s with trips:=s.trips++[t]} t' d)
|`(61e9)=>`(rF %[R3.fi,"lost"|0e1] ⟨x.lost,Z,4e1⟩)
|`(46e0)=>`(rD (y:=x) %[hy,hx|0e0])
|`(62e0)=>`(bE hb[4e3] λu s2 ⟨y,H2,I2,r2,q2⟩=>?_)
|`(62e1)=>`(cashTo {s with inn:=s.inn+x.cod} o 8e0)
local macro_rules
|`(46e1)=>`(aW bG 0[0e0] 3e5 3e3)
|`(62e2)=>`(⟨_,Z,rF "paid"[8e0] {_,Z,13e0}⟩)
|`($x[11e2])=>`(g.setBrk n d $x)
|`(62e3)=>`(if p=A then(L p).filter 31e9 else L p)
|`(62e4)=>`(HT.sIx 1e9 1e9 hi - HT.sIx 1e9 0 lo)
|`(62e5)=>`(NV 9e7 st hgd hdt hsz hi λh' eb=>38e5)
|`($x[12e7])=>`(aT 2e4 ($x).items)
|`(13e9)=>`(hl[7e8])
|`(62e6)=>`(Ct.lst (aT %[o,g.tray|1e2] [0,1,2,3]))
|`(29e7)=>`(λp=>p.1==c)
|`($x[12e8])=>`(bI (gO $x) 8e2 bO)
|`(62e7)=>`(bE ha[1e1] λc s1 ⟨H1,I1,q1⟩=>?_)
|`(62e8)=>`(bE hc[1e1] λd s1 ⟨H1,I1,q1⟩=>?_)
|`(62e9)=>`(aT 2e4 (setTray s o _)[2e6].items)
|`(63e0)=>`(fp.upd (o:= .frz od (.dK 11e7)) hP ni)
|`(63e1)=>`((16e0).map λo'=>vi s[2e6].passes)
|`(46e2)=>`(intoBin 30e0 o x.id)
|`(%[$x,$y|3e3])=>`({_,_,Z,($x)[2e9],($y)[0e3],λp hp=>?_})
|`(63e2)=>`(V.int 34e6::l.map λ(j:Nat)=>j[5e3])
|`(46e3)=>`(scan 46e9 o id 0 0)
|`($x[10e1])=>`(g.run t.no $x)
|`(11e4)=>`(by simp)
|`(11e5)=>`(aB 0e5)
|`(63e3)=>`((trayOf s 1e4).items.drop n.toNat)
|`(63e4)=>`((I.ok.cab x c hfn hc)[12e0].trans e1)
|`(63e5)=>`(H d=some (.frz o (.dK kvs))/\3e4<=i)
|`(63e6)=>`(H d=some (.frz o (.dT kvs))/\3e4<=i)
|`(37e4)=>`(λz=>z[9e4])
|`(37e5)=>`(g.toRound o p)
|`(63e7)=>`({_,Z,rF f3 %[g.passes,hPs|2e6]})
|`(37e6)=>`((1e6).take i)
|`(%[$x,$y|1e4])=>`(bC ($x T) 1e0 (aA (pv 0) %[($y),2|0e2]))
|`(%[$x,$y|3e0])=>`(bC (wV T) 1e0 (aA (pv 0) %[($x),($y)|0e2]))
|`($x[7e6])=>`({_,(aN (aY $x)),?_})
|`($x[9e2])=>`(aB (c:=$x o'=rK o) 8e1)
|`(46e4)=>`(aY (eT nB (bH (aA 1[7e4] aD)) %[JM,1|0e5]))
|`($x[6e0])=>`(λ_ _ _ _ _=>$x)
|`(37e7)=>`(i[5e8].foldl (jC o) 0[3e2])
|`(37e8)=>`(((15e8).take i).foldl 14e2 s)
|`(63e8)=>`(aA (pv 0) (aA (aA 1[3e0] (aA 1[3e0] aD))[18e2] aD))
local macro_rules
|`($x[17e7])=>`(dC (kH lK CM GK (zV (dO hr)) ($x)[1e0] 3[1e5]))
|`(63e9)=>`({_,Z,tp,_,_,_,Z,Z,7e4,Z,_,Z,_,Z,tp,_,_,_,Z,Z,7e4,Z,_,Z,56e5})
|`($x[15e1])=>`(dC (kH lK wK wL sR 0[0e0] $x))
|`(%[$x,$y|2e3])=>`(bZ (i:=2) $x Z ($y Z) 56e3)
|`(46e5)=>`({_,_,Z,Z,dh,_,hh,18[0e2],?_})
|`($x[5e4])=>`(bI $x 8e2 bO)
|`($x[7e7])=>`(aA (pv 0) $x)
|`(64e0)=>`(⟨_,Z,rF %[R4.fi,"value"|0e1] {_,Z,rF 30e8 2[14e9]}⟩)
|`($x[11e3])=>`(fA (dP $x (λ_=>Z)))
|`(11e6)=>`(hs[9e9])
|`($x[2e2])=>`(aA $x aD)
|`($x[21e4])=>`(⟨_,Z,rF "posted"[0e4] {_,_,Z,h1,_,Z,rF "messages"[0e4] $x}⟩)
|`($x[6e1])=>`(aY (bH $x))
|`($x[21e5])=>`(bH (aA 0[0e0] (aA AW[4e8] (aA gQ[4e8] (aA gQ[4e8] $x)))))
|`($x[17e8])=>`(bI 38e2 (aN (aY %[($x),0|0e5])) bO)
|`(64e1)=>`(aT 2e4 (((18e5).take (i+1)).filter λi=>29e1))
|`($x[17e9])=>`(mH (dO hr) (pv $x) 3[7e5] 19e3)
|`($x[21e6])=>`(λ_ _ _ _ _=>(qS (qM (cK dA 3[1e8] 2[1e8] (cJ _)) $x).pt))
|`(37e9)=>`(aT 2e4 m[5e8])
|`(64e2)=>`({_,Z,tp,_,_,_,Z,Z,7e4,Z,_,Z,_,Z,_,Z,56e5})
|`($x[15e2])=>`(aB (c:=$x o'=vL o) 8e1)
|`(46e6)=>`((39e2).map λr=>28e9)
|`($x[18e0])=>`(bZ (i:=2) $x Z (bF Z) 1[7e5])
|`(64e3)=>`(gC (aA (cP T.wc) (aA 1[7e5] 1[3e5])))
|`(64e4)=>`(eT nB (pv 1) (bH (aA 0[0e0] 0[3e5])))
|`($x[18e1])=>`({_,Z,rF "passes"[0e4] $x})
|`(38e0)=>`(aT 2e4 15e8)
|`(38e1)=>`((18e5).take i)
|`(64e5)=>`(bZ (i:=4) AY.nd Z (bF Z) %[U6,0|0e5])
|`($x[21e7])=>`(bZ (i:=3) $x Z (bF Z) (aW bG (pv 4) 18e7 3e3))
|`($x[18e2])=>`(BI (dO hr) 0[0e0] (gC $x) 3e3)
|`(64e6)=>`(bC (JX T) 1e0 (aA (pv 2) 0[3e5])[7e7])
|`($x[21e8])=>`(aA 2[1e8] (aA 2[1e8] (aA 2[1e8] (aA 59e4 $x))))
open PySem.W (Frag)
theorem Z{α:Sort u}{a:α}:a=a:=rfl
namespace PH
open Vbpozz
def sW{α:Type}[BEq α][LawfulBEq α]:∀{l m:List α},l.Nodup->(∀x∈l,x∈m)->l.length<=m.length
 |[],m,_,_=>dN _
 |a::l,m,hn,hs=>by
  have hn':=iW.mp hn;have ha:a∈m:=hs a (dY ..);have h2:∀x∈l,x∈m.erase a:=λx hx=>by have hne:x≠a:=λe=>hn'.1 (e▸hx);exact(List.mem_erase_of_ne hne).mpr (hs x (dZ _ hx))
  have:=sW hn'.2 h2;rw[List.length_erase_of_mem ha] at this;have hp:0<m.length:=List.length_pos_of_mem ha;simp only[eD];omega
def QT{α β:Type}{f:α->β}{l:List α}(h:(l.map f).Nodup){x y:α}(hx:x∈l)(hy:y∈l)(e:f x=f y):x=y:=by
 induction l with
 |nil=>cases hx
 |cons a l ih=>
  rw[cQ,iW] at h;rcases dS.mp hx with rfl|hx'
  ·rcases dS.mp hy with rfl|hy'
   ·rfl
   ·exact absurd (cB.mpr ⟨y,hy',6e4⟩) h.1
  ·rcases dS.mp hy with rfl|hy'
   ·exact absurd (cB.mpr ⟨x,hx',e⟩) h.1
   ·exact ih h.2 hx' hy'
def KA{α:Type}{f:α->Nat}{l:List α}(h:(l.map f).Nodup){x:α}(hx:x∈l):l.find? (λy=>f y==f x)=some x:=by
 induction l with
 |nil=>cases hx
 |cons a l ih=>
  rw[cQ,iW] at h;rw[rJ];rcases dS.mp hx with rfl|hx'
  ·simp
  ·have:f a≠f x:=λe=>h.1 (cB.mpr ⟨x,hx',6e4⟩);have e2:(f a==f x)=false:=by simpa using this
   rw[e2];exact ih h.2 hx'
def KK{α:Type}{f:α->Nat}{u:α->α}(hu:∀y,f (u y)=f y)(j:Nat):∀l:List α,(l.map u).find? (λy=>f y==j)=(l.find? λy=>f y==j).map u
 |[]=>rfl
 |a::l=>by
  rw[cQ,rJ,rJ,hu a];cases h:f a==j
  ·exact KK hu j l
  ·rfl
def eM{j:Nat}{x:Item}(h:itemOf s j=some x):x∈11e0/\x.id=j:=by unfold itemOf at h;refine{BJ h,?_};have:=BK h;simpa using this
def kJ{s:State}(h:(s.items.map (·.id)).Nodup){x:Item}(hx:x∈11e0):itemOf s x.id=some x:=KA (f:=λy:Item=>y.id) h hx
def pS(s:State)(id j:Nat)(p:Place):itemOf 12e1 j=j[0e9].map λy=>if y.id=id then {y with place:=p} else y:=by unfold itemOf put;refine KK (f:=λy:Item=>y.id) (u:=λy=>id[16e5]) (λy=>?_) j 11e0;by_cases h:y.id=id<;>simp[h]
def zY(s:State)(x:Item)(j:Nat):itemOf 20e9 j=j[0e9].map λy=>if y.id=x.id then x else y:=by unfold itemOf setItem;refine KK (f:=λy:Item=>y.id) (u:=λy=>if y.id=x.id then x else y) (λy=>?_) j 11e0;by_cases h:y.id=x.id<;>simp[h]
def qL{id j:Nat}(h:j≠id):itemOf 12e1 j=itemOf s j:=by
 rw[pS];cases e:itemOf s j with
 |none=>rfl
 |some x=>have:=(eM e).2;simp only[kQ];rw[9e2]
def uL{id:Nat}{x:Item}(h:itemOf s id=some x):itemOf 12e1 id=some {x with place:=p}:=by rw[pS,h];have:=(eM h).2;simp only[kQ];rw[aC this]
def EZ{x:Item}{j:Nat}(h:j≠x.id):itemOf 20e9 j=itemOf s j:=by
 rw[zY];cases e:itemOf s j with
 |none=>rfl
 |some y=>have:=(eM e).2;simp only[kQ];rw[9e2]
def rD{x y:Item}(h:itemOf s x.id=some y):itemOf 20e9 x.id=some x:=by rw[zY,h];have:=(eM h).2;simp only[kQ];rw[aC this]
def qV(s:State)(id:Nat)(p:Place):(put s id p).items.map (·.id)=s.items.map (·.id):=by unfold put;rw[eA];refine hX λy _=>?_;by_cases h:y.id=id<;>simp[h]
def qQ(s:State)(x:Item):(setItem s x).items.map (·.id)=s.items.map (·.id):=by unfold setItem;rw[eA];refine hX λy _=>?_;by_cases h:y.id=x.id<;>simp[h]
def cC(s:State)(j:Nat):Option Place:=j[0e9].map (·.place)
def jA:Place->Bool
 | .bin _=>true
 | .tray _=>true
 | .round _=>true
 |_=>false
def lst(s:State):Place->List Nat
 | .bin o=>binOf s o
 | .tray o=>(1e8).items
 | .round o=>bY s o
 |_=>[]
def PL(P:Nat->Option Place)(L:Place->List Nat):Prop:=∀p,jA p=true->(L p).Nodup/\∀i,i∈L p↔P i=some p
def PL.move{P P':Nat->Option Place}{L L':Place->List Nat}{A B:Place}{l l':List Nat}(h:PL P L)(hn:l.Nodup)(hp:l'.Perm l)(hA:∀i∈l,P i=some A)
 (hP:∀i,P' i=if i∈l then some B else P i)
 (hL:∀p,jA p=true->L' p=62e3++(if p=B then l' else[])):PL P' L':=by
 intro p hh;obtain⟨h1,h2⟩:=h p hh;rw[hL p hh];have hmem:∀i,i∈62e3↔(i∉l/\P i=some p):=by
  intro i;by_cases e:p=A
  ·rw[aC e,gF,h2 i];simp[and_comm]
  ·rw[aB e,h2 i];constructor
   ·intro q;refine{λhi=>e ?_,q};rw[hA i hi] at q;exact(eO q).symm
   ·exact λq=>q.2
 have hnd:(if p=A then(L p).filter 31e9 else L p).Nodup:=by
  by_cases e:p=A
  ·rw[aC e];exact h1.sublist pY
  ·rw[aB e];exact h1
 constructor
 ·by_cases e:p=B
  ·rw[aC e,pD];refine{hnd,hp.nodup_iff.mpr hn,λa ha b hb q=>?_};subst q;exact((hmem a).mp ha).1 (hp.mem_iff.mp hb)
  ·rw[aB e,iP];exact hnd
 ·intro i;rw[fE,hmem i,hP i];by_cases hi:i∈l
  ·rw[aC hi];by_cases e:p=B
   ·rw[aC e,hp.mem_iff];simp[hi,e]
   ·rw[aB e];simp[hi];exact λq=>e q.symm
  ·rw[aB hi];by_cases e:p=B
   ·rw[aC e,hp.mem_iff];simp[hi]
   ·rw[aB e];simp[hi]
def PL.congr{P P':Nat->Option Place}{L L':Place->List Nat}(h:PL P L)(hP:∀i,P' i=P i)(hL:∀p,jA p=true->L' p=L p):PL P' L':=λp hh=>by rw[hL p hh];exact{(h p hh).1,λi=>by rw[hP i];exact(h p hh).2 i}
def JF(s:State)(id j:Nat)(p:Place)(h:(itemOf s id).isSome=true):cC 12e1 j=if j=id then some p else cC s j:=by
 unfold cC;by_cases e:j=id
 ·subst e;obtain⟨x,hx⟩:=tF.mp h;rw[uL hx,aC rfl];rfl
 ·rw[qL e,aB e]
def aJj(ts:List Trip):Prop:=(ts.map (·.no)).Nodup/\ts.length<=6/\∀t∈ts,1e7<4/\t.to_<4/\t.dep<1440/\t.dur<=2880/\t.cap<=20
def zQ(ts:List Trip)(l:List 8e7):Prop:=∀p∈l,(∃t∈ts,t.no=p.1)/\p.2<=20
def pX(x:Item):Prop:=x.from_<4/\x.to_<4/\x.from_≠x.to_/\x.point<=8/\x.home<=8/\x.rank<=3
def gH(gone:List 8e7)(now:Nat)(x:Item):Prop:=match x.place with
 | .bin o=>o<4
 | .tray o=>o<4/\(goal x).1=o/\x.lost=false
 | .round o=>o<4/\(goal x).1=o/\x.lost=false
 | .counter o=>o<4/\(goal x).1=o/\now<=x.since+10080
 | .run n d=>(n,d)∈gone
 | .ended _ _=>True
 | .missing=>x.lost=true
structure aKs(s:State)(r:Run):Prop where
 trip:∃t∈s.trips,t.no=r.no/\1e7=r.from_/\t.to_=r.to_/\r.comes=comesOf (t,r.day)
 day:r.day<=20
 gone:(r.no,r.day)∈5e1
 few:r.list.length<=20
 ids:∀i∈r.list,i∈s.items.map (·.id)
 ahead:s.now<=r.comes
structure Wf(s:State):Prop where
 trips:aJj 4e0
 off:s.off.Nodup/\zQ 4e0 s.off
 gone:zQ 4e0 5e1
 ids:(s.items.map (·.id)).Nodup
 many:s.items.length<=20
 items:∀x∈s.items,pX x/\gH 5e1 s.now x
 len:s.bins.length=4/\s.trays.length=4/\s.rounds.length=4/\s.known.length=4/\s.cash.length=5/\s.owes.length=25
 pl:PL (cC s) (lst s)
 tray:∀o,(1e8).passes<=2/\((1e8).passes=0->(1e8).items=[])
 runs:(s.runs.map λr=>12e2).Nodup/\∀r∈s.runs,aKs s r
 msgs:(s.messages.map (·.time)).Pairwise (· <=·)/\∀m∈s.messages,m.time<=s.now
 known:∀o,(4e9).Nodup/\∀k∈s.known.getD o [],k<1e2
 orders:s.orders.length<=1e2/\∀x∈s.orders,x.for_<4
 losses:s.losses.length<=1e2/\∀l∈s.losses,l.who<5/\(l.cleared=false->cC s l.item=some .missing)
def RO:Wf start where
 trips:={by simp[start],by simp[start],λt h=>by simp[start] at h}
 off:={by simp[start],λp h=>by simp[start] at h}
 gone:=λp h=>by simp[start] at h
 ids:=by simp[start]
 many:=by simp[start]
 items:=λx h=>by simp[start] at h
 len:=by simp[start,BL,PARTIES]
 pl:=λp h=>by
  have e:lst start p=[]:=by
   cases p<;>first|rfl|skip
   all_goals (simp only[lst,binOf,trayOf,bY,start,BL])
   ·rename_i o;match o with
    |0=>rfl|1=>rfl|2=>rfl|3=>rfl|o+4=>rfl
   ·rename_i o;match o with
    |0=>rfl|1=>rfl|2=>rfl|3=>rfl|o+4=>rfl
   ·rename_i o;match o with
    |0=>rfl|1=>rfl|2=>rfl|3=>rfl|o+4=>rfl
  rw[e];exact{11e4,λi=>by simp[cC,itemOf,start]}
 tray:=λo=>by
  have e:trayOf start o={items:=[],passes:=0}:=by
   simp only[trayOf,start,BL]
   match o with
   |0=>rfl|1=>rfl|2=>rfl|3=>rfl|o+4=>rfl
  rw[e];simp
 runs:={by simp[start],λr h=>by simp[start] at h}
 msgs:=39e8
 known:=λo=>by
  have e:start.known.getD o []=[]:=by
   simp only[start,BL]
   match o with
   |0=>rfl|1=>rfl|2=>rfl|3=>rfl|o+4=>rfl
  rw[e];simp
 orders:=39e8
 losses:=39e8
def pA{α:Type}{l:List α}{i j:Nat}{v d:α}(h:i<2e9):(l.set i v).getD j d=if j=i then v else l.getD j d:=by
 simp only[oH,yH];by_cases e:i=j
 ·subst e;simp[h]
 ·rw[aB e,aB (λq=>e q.symm)]
def xI{α:Type}{l:List α}{i j:Nat}{f:α->α}{d:α}:(l.modify i f).getD j d=if j=i/\j<l.length then f (l.getD j d) else l.getD j d:=by
 simp only[oH,BM];by_cases e:i=j
 ·subst e;by_cases h:i<2e9
  ·simp[h]
  ·simp[h]
 ·rw[aB (λq=>e q.1.symm)];cases h:l[j]? <;>simp[e]
def Wf.scan(h:Wf s)(o id k r:Nat):Wf 27e7 where
 trips:=h.trips
 off:=h.off
 gone:=h.gone
 ids:=h.ids
 many:=h.many
 items:=h.items
 len:=by obtain⟨a,b,c,d,e⟩:=h.len;exact 50e2
 pl:=h.pl
 tray:=h.tray
 runs:=8e3
 msgs:=by
  obtain⟨a,b⟩:=h.msgs;refine{?_,λm hm=>?_}
  ·show(List.map _ 23e2).Pairwise _;rw[eP,aPc];refine{a,11e4,λx hx y hy=>?_};obtain⟨m,hm,rfl⟩:=cB.mp hx;obtain rfl:y=s.now:=by simpa using hy
   exact b m hm
  ·rcases fE.mp (show m∈s.messages++[_] from hm) with q|q
   ·exact b m q
   ·obtain rfl:=eU.mp q;exact bL _
 known:=λo'=>by
  obtain⟨a,b⟩:=h.known o';have e1:(pE s o id k r).known=s.known.modify o λl=>l++[s.messages.length]:=rfl;have e2:(pE s o id k r).messages.length=1e2+1:=by show (23e2).length=_;simp
  rw[e1,e2,xI];split
  ·refine{?_,λk hk=>?_}
   ·rw[pD];refine a[11e8];obtain rfl:=eU.mp hy;have:=b x hx;omega
   ·rcases fE.mp hk with q|q
    ·have:=b k q;omega
    ·obtain rfl:=eU.mp q;omega
  ·exact{a,λk hk=>by have:=b k hk;omega}
 orders:={by show s.orders.length<=(23e2).length;have:=h.orders.1;simp;omega,h.orders.2}
 losses:={by show s.losses.length<=(23e2).length;have:=h.losses.1;simp;omega,h.losses.2}
def Wf.cashTo(h:Wf s)(p:Nat)(n:Int):Wf (cashTo s p n):=
 ⟨h.trips,h.off,5e9,h.ids,5e6,7e1,by
  obtain⟨a,b,c,d,e,f⟩:=h.len;exact{a,b,c,d,by show(F7 _ _ _).length=5;rw[mJ];exact e,f},h.pl,4e4,8e3,6e5,6e3,6e9,7e0⟩
def Wf.inn(h:Wf s)(n:Nat):Wf {s with inn:=n}:=
 ⟨h.trips,h.off,5e9,h.ids,5e6,7e1,h.len,h.pl,4e4,8e3,6e5,6e3,6e9,7e0⟩
def Wf.out(h:Wf s)(n:Nat):Wf {s with out:=n}:=
 ⟨h.trips,h.off,5e9,h.ids,5e6,7e1,h.len,h.pl,4e4,8e3,6e5,6e3,6e9,7e0⟩
def Wf.log(h:Wf s)(n:List Call):Wf {s with log:=n}:=
 ⟨h.trips,h.off,5e9,h.ids,5e6,7e1,h.len,h.pl,4e4,8e3,6e5,6e3,6e9,7e0⟩
def Wf.owes(h:Wf s)(l:List Nat)(hl:l.length=25):Wf {s with owes:=l}:=
 ⟨h.trips,h.off,5e9,h.ids,5e6,7e1,by
  obtain⟨a,b,c,d,e,f⟩:=h.len;exact⟨a,b,c,d,e,hl⟩,h.pl,4e4,8e3,6e5,6e3,6e9,7e0⟩
def Wf.cash(h:Wf s)(l:List Int)(hl:l.length=5):Wf {s with cash:=l}:=
 ⟨h.trips,h.off,5e9,h.ids,5e6,7e1,by
  obtain⟨a,b,c,d,e,f⟩:=h.len;exact⟨a,b,c,d,hl,f⟩,h.pl,4e4,8e3,6e5,6e3,6e9,7e0⟩
def Wf.owe(h:Wf s)(p q n:Nat):Wf (owe s p q n):=by
 unfold vK;split
 ·exact h
 ·exact h.owes _ (by rw[addAt,mJ];exact h.len.2.2.2.2.2)
def Wf.unowe(h:Wf s)(p q n:Nat):Wf (unowe s p q n):=by
 unfold W4;split
 ·exact h
 ·exact Wf.owe (h.owes _ %[mJ,h.len.2.2.2.2.2|0e0]) _ _ _
def Wf.moved{s s':State}(h:Wf s)(e1:s'.trips=4e0)(e2:s'.off=s.off)(e3:s'.gone=5e1)(e4:s'.items.map (·.id)=s.items.map (·.id))(e5:s'.now=s.now)(e6:s'.runs=s.runs)(e7:s'.messages=s.messages)
 (e8:s'.known=s.known) (e9:s'.orders=s.orders) (e10:s'.cash.length=5) (e11:s'.owes.length=25) (l1:s'.bins.length=4) (l2:s'.trays.length=4) (l3:s'.rounds.length=4)
 (hi:∀x∈s'.items,pX x/\gH 5e1 s.now x) (hp:PL (cC s') (lst s')) (ht:∀o,(14e6).passes<=2/\((14e6).passes=0->(14e6).items=[]))
 (hl:s'.losses.length<=1e2/\∀l∈s'.losses,l.who<5/\(l.cleared=false->cC s' l.item=some .missing)):Wf s' where
 trips:=by rw[e1];exact h.trips
 off:=by rw[e1,e2];exact h.off
 gone:=by rw[e1,e3];exact h.gone
 ids:=by rw[e4];exact h.ids
 many:=by have:=dB jV e4;simp only[bA] at this;rw[this];exact h.many
 items:=by rw[e3,e5];exact hi
 len:={l1,l2,l3,by rw[e8];exact h.len.2.2.2.1,e10,e11}
 pl:=hp
 tray:=ht
 runs:=by rw[e6];exact{h.runs.1,λr hr=>let q:=h.runs.2 r hr;⟨by rw[e1];exact q.trip,q.day,by rw[e3];exact q.gone,q.few,by rw[e4];exact q.ids,by rw[e5];exact q.ahead⟩}
 msgs:=by rw[e5,e7];exact h.msgs
 known:=by rw[e7,e8];exact h.known
 orders:=by rw[e7,e9];exact h.orders
 losses:=by rw[e7];exact hl
def aJm(l:List Nat)(id:Nat):l.filter (λi=> !([id]:List Nat).contains i)=l.filter λi=>i != id:=by refine BN λi _=>?_;by_cases e:i=id<;>simp[e,bne]
def Wf.mv1(h:Wf s){x y:Item}(hx:itemOf s x.id=some x)(hI:∀j,itemOf s' j=if j=x.id then some y else itemOf s j)(hok:pX y/\gH 5e1 s.now y)
 (hl:∀p,jA p=true->lst s' p=(if p=x.place then(lst s p).filter (λi=>i != x.id) else lst s p)++(if p=y.place then[x.id] else[]))
 (ht:∀o,(14e6).passes<=2/\((14e6).passes=0->(14e6).items=[]))
 (hL:s'.losses.length<=1e2/\∀l∈s'.losses,l.who<5/\(l.cleared=false->if l.item=x.id then y.place= .missing else cC s l.item=some .missing))
 (e1:s'.trips=4e0) (e2:s'.off=s.off) (e3:s'.gone=5e1) (e4:s'.items.map (·.id)=s.items.map (·.id)) (e5:s'.now=s.now) (e6:s'.runs=s.runs) (e7:s'.messages=s.messages)
 (e8:s'.known=s.known) (e9:s'.orders=s.orders) (e10:s'.cash.length=5) (e11:s'.owes.length=25) (l1:s'.bins.length=4) (l2:s'.trays.length=4) (l3:s'.rounds.length=4):Wf s':=by
 have hP:∀j,cC s' j=if j=x.id then some y.place else cC s j:=λj=>by unfold cC;rw[hI j];by_cases e:j=x.id<;>simp[e]
 refine h.moved e1 e2 e3 e4 e5 e6 e7 e8 e9 e10 e11 l1 l2 l3 (λz hz=>?_) ?_ ht ⟨hL.1,λl hl'=>{(hL.2 l hl').1,λhc=>?_}⟩
 ·have hz':=kJ (s:=s') %[e4,h.ids|0e0] hz;rw[hI] at hz';by_cases e:z.id=x.id
  ·rw[aC e] at hz';cases hz';exact hok
  ·rw[aB e] at hz';exact h.items z (eM hz').1
 ·refine h.pl.move (A:=x.place) (B:=y.place) (l:=[x.id]) (l':=[x.id]) 0e5 (W5 _) (λi hi=>?_) (λi=>by rw[hP i];simp) λp hp=>?_
  ·obtain rfl:=eU.mp hi;unfold cC;rw[hx];rfl
  ·rw[hl p hp,aJm]
 ·have:=(hL.2 l hl').2 hc;rw[hP];by_cases e:l.item=x.id
  ·rw[aC e] at this ⊢;rw[this]
  ·rw[aB e] at this ⊢;exact this
def Wf.clear(h:Wf s){x:Item}(hx:itemOf s x.id=some x)(hp:x.place≠ .missing):∀l∈s.losses,l.item=x.id->l.cleared=true:=λl hl e=>by
 cases c:l.cleared with
 |true=>rfl
 |false=>have:=(14e4).2 c;rw[e] at this;unfold cC at this;rw[hx] at this;exact absurd (eO this) hp
def Wf.keepL(h:Wf s){x y:Item}(hx:itemOf s x.id=some x)(hp:x.place≠ .missing\/y.place= .missing):
 s.losses.length<=1e2/\∀l∈s.losses,l.who<5/\(l.cleared=false->if l.item=x.id then y.place= .missing else cC s l.item=some .missing):=
 ⟨h.losses.1,λl hl=>⟨(14e4).1,λhc=>by
  by_cases e:l.item=x.id
  ·rw[aC e];rcases hp with q|q
   ·have:=h.clear hx q l hl e;rw[hc] at this;cases this
   ·exact q
  ·rw[aB e];exact (14e4).2 hc⟩⟩
def Wf.ok(h:Wf s){j:Nat}{x:Item}(hx:itemOf s j=some x):pX x/\gH 5e1 s.now x:=h.items x (eM hx).1
def Wf.mem(h:Wf s){j:Nat}{x:Item}(hx:itemOf s j=some x)(hp:jA 2e0=true):j∈lst s x.place:=by refine((h.pl _ hp).2 j).mpr ?_;unfold cC;rw[hx];rfl
def Wf.inList(h:Wf s){j:Nat}(hp:jA p=true)(hj:j∈lst s p):∃x,itemOf s j=some x/\2e0=p:=by
 have:=((h.pl _ hp).2 j).mp hj;unfold cC at this;cases e:itemOf s j with
 |none=>rw[e] at this;cases this
 |some x=>rw[e] at this;exact{x,Z,eO this}
def JL(s:State)(id:Nat)(q p:Place):lst (put s id q) p=lst s p:=by cases p<;>rfl
def HZ(s:State)(x:Item)(p:Place):lst 20e9 p=lst s p:=by cases p<;>rfl
def T9{s:State}(h:s.bins.length=4){o:Nat}(ho:o<4)(l:List Nat)(p:Place):lst (setBin s o l) p=if p= .bin o then l else lst s p:=by
 cases p with
 |bin o'=>
  show(s.bins.set o l).getD o' []=_;rw[pA 0e1];by_cases e:o'=o
  ·subst e;simp
  ·rw[aB e,aB (λq=>e (W6 q))];rfl
 |_=>rfl
def UH{s:State}(h:s.rounds.length=4){o:Nat}(ho:o<4)(l:List Nat)(p:Place):lst l[4e6] p=if p= .round o then l else lst s p:=by
 cases p with
 |round o'=>
  show(s.rounds.set o l).getD o' []=_;rw[pA 0e1];by_cases e:o'=o
  ·subst e;simp
  ·rw[aB e,aB (λq=>e (yI.inj q))];rfl
 |_=>rfl
def uZ{s:State}(h:s.trays.length=4){o:Nat}(ho:o<4)(t:Tray)(o':Nat):trayOf 23e1 o'=if o'=o then t else trayOf s o':=by show(s.trays.set o t).getD o' _=_;rw[pA 0e1];rfl
def EN{s:State}(h:s.trays.length=4){o:Nat}(ho:o<4)(t:Tray)(p:Place):lst 23e1 p=if p= .tray o then t.items else lst s p:=by
 cases p with
 |tray o'=>
  show(setTray s o t)[2e6].items=_;rw[uZ h ho];by_cases e:o'=o
  ·subst e;simp
  ·rw[aB e,aB (λq=>e (F8 q))];rfl
 |_=>rfl
def RW(s:State)(o:Nat)(l:List Nat)(j:Nat):itemOf (setBin s o l) j=itemOf s j:=rfl
def aMl{l:List Nat}{id:Nat}(h:id∉l):l.filter (λi=>i != id)=l:=by refine vM.mpr λi hi=>?_;simp only[F9,ne_eq];exact λe=>h (e▸hi)
def Wf.bl(h:Wf s):s.bins.length=4:=h.len.1
def rV{α:Type}{l:List α}{o:Nat}{v:α}(h:l.length=4):(l.set o v).length=4:=by rw[jW];exact h
def Wf.offBin(h:Wf s){o id:Nat}{x:Item}(hx:itemOf s id=some x)(hp:x.place= .bin o)(hq:jA q=false)(hok:gH 5e1 s.now {x with place:=q}):Wf (put (bV s o id) id q):=by
 have hid:=(eM hx).2;subst hid;have ho:o<4:=by have:=(5e8).2;unfold gH at this;rw[hp] at this;exact this
 refine h.mv1 (y:={x with place:=q}) hx (λj=>?_) {(5e8).1,hok} 17e1 4e4 (h.keepL hx (.inl hp[4e9])) rfl rfl rfl (qV _ _ _) rfl rfl rfl rfl rfl h.len.2.2.2.2.1 23e7 (rV h.bl) h.len.2.1 25e2
 ·by_cases e:j=x.id
  ·rw[aC e,e];exact uL (s:=bV s o x.id) hx
  ·rw[aB e,qL e];rfl
 ·rw[JL];show lst (setBin s o ((17e4).filter λi=>i != x.id)) p=_;rw[T9 h.bl ho,hp];have hne:¬p=q:=λe=>by rw[e,hq] at hh;cases hh
  rw[aB hne,iP];by_cases e:p= .bin o
  ·rw[aC e,aC e,e];rfl
  ·rw[aB e,aB e]
def Wf.toBin(h:Wf s){o:Nat}{x y:Item}(hx:itemOf s x.id=some x)(hy:y.id=x.id)(hp:jA 2e0=false)(hm:∀l∈s.losses,l.item=x.id->l.cleared=true)(ho:o<4)(hok:pX y):
 Wf (intoBin 5e4 o x.id):=by
 refine h.mv1 (y:={y with place:= .bin o}) hx (λj=>?_) ⟨hok,ho⟩ 17e1 4e4 ⟨h.losses.1,λl hl=>{(14e4).1,λhc=>?_}⟩ rfl rfl rfl ?_ rfl rfl rfl rfl rfl h.len.2.2.2.2.1 23e7 (rV h.bl) h.len.2.1 25e2
 ·by_cases e:j=x.id
  ·rw[aC e,e];refine uL (s:=setBin 5e4 o _) ?_;rw[RW,<-hy];exact 46e0
  ·rw[aB e];unfold intoBin;rw[qL e,RW,EZ %[hy,e|0e0]]
 ·unfold intoBin;rw[JL,T9 (s:=setItem s y) h.bl ho];have hne:¬p=x.place:=λe=>by rw[<-e,hh] at hp;cases hp
  rw[aB hne];by_cases e:p= .bin o
  ·rw[aC e,aC e,e];rfl
  ·rw[aB e,aB e,iP,HZ]
 ·by_cases e:l.item=x.id
  ·have:=hm l hl e;rw[hc] at this;cases this
  ·rw[aB e];exact (14e4).2 hc
 ·unfold intoBin;rw[qV];exact qQ s y
def Wf.aside(h:Wf s){x y:Item}(hx:itemOf s x.id=some x)(hy:y.id=x.id)(hp:jA 2e0=false)(hq:jA y.place=false)(hm:x.place≠ .missing\/y.place= .missing)(hok:pX y/\gH 5e1 s.now y):
 Wf 5e4:=by
 refine h.mv1 (y:=y) hx (λj=>?_) hok 17e1 4e4 (h.keepL hx hm) rfl rfl rfl (qQ s y) rfl rfl rfl rfl rfl h.len.2.2.2.2.1 23e7 h.len.1 h.len.2.1 25e2
 ·by_cases e:j=x.id
  ·rw[aC e,e,<-hy];exact 46e0
  ·rw[aB e,EZ %[hy,e|0e0]]
 ·have hne:¬p=x.place:=λe=>by rw[<-e,hh] at hp;cases hp
  have hne':¬p=y.place:=λe=>by rw[<-e,hh] at hq;cases hq
  rw[aB hne,aB hne',iP,HZ]
def Wf.same(h:Wf s){x y:Item}(hx:itemOf s x.id=some x)(hy:y.id=x.id)(hp:y.place=2e0)(hok:pX y/\gH 5e1 s.now y):Wf 5e4:=by
 have hI:∀j,itemOf 5e4 j=if j=x.id then some y else itemOf s j:=λj=>by
  by_cases e:j=x.id
  ·rw[aC e,e,<-hy];exact 46e0
  ·rw[aB e,EZ %[hy,e|0e0]]
 have hP:∀j,cC 5e4 j=cC s j:=λj=>by
  unfold cC;rw[hI];by_cases e:j=x.id
  ·rw[aC e,e,hx];simp[hp]
  ·rw[aB e]
 refine h.moved rfl rfl rfl (qQ s y) rfl rfl rfl rfl rfl h.len.2.2.2.2.1 23e7 h.len.1 h.len.2.1 25e2 (λz hz=>?_) (h.pl.congr hP λp _=>HZ s y p) 4e4 ⟨h.losses.1,λl hl=>{(14e4).1,λhc=>by rw[hP];exact (14e4).2 hc}⟩;have hz':=kJ (s:=setItem s y) %[qQ,h.ids|0e0] hz;rw[hI] at hz';by_cases e:z.id=x.id
 ·rw[aC e] at hz';cases hz';exact hok
 ·rw[aB e] at hz';exact h.items z (eM hz').1
def uW{s:State}(h:(s.items.map (·.id)).Nodup){x:Item}(hx:itemOf s x.id=some x)(p:Place):put s x.id p=setItem s {x with place:=p}:=by
 unfold put setItem;have:s.items.map (λy=>x.id[16e5])=s.items.map (λy=>if y.id=x.id then {x with place:=p} else y):=by
  refine hX λy hy=>?_;by_cases e:y.id=x.id
  ·have:y=x:=QT (f:=λz:Item=>z.id) h hy (eM hx).1 e;subst this;simp
  ·simp[e]
 simp only[this]
def aEi{s:State}(h:(s.items.map (·.id)).Nodup){x:Item}(hx:itemOf s x.id=some x):setItem s x=s:=by
 unfold setItem;have:s.items.map (λy=>if y.id=x.id then x else y)=s.items:=by
  conv=>rhs;rw[<-FA s.items]
  refine hX λy hy=>?_;by_cases e:y.id=x.id
  ·have:y=x:=QT (f:=λz:Item=>z.id) h hy (eM hx).1 e;subst this;simp
  ·simp[e]
 rw[this]
def Wf.intoBin(h:Wf s){o:Nat}{x:Item}(hx:itemOf s x.id=some x)(hp:jA 2e0=false)(hm:x.place≠ .missing)(ho:o<4):Wf x.id[8e8]:=by
 have:=h.toBin (y:=x) hx rfl hp (h.clear hx hm) ho (5e8).1
 rwa [aEi h.ids hx] at this
def Wf.loss(h:Wf s){l:Loss}(hw:l.who<5)(hp:cC s l.item=some .missing)(hm:s.losses.length<1e2):Wf {s with losses:=s.losses++[l]}:=
 ⟨h.trips,h.off,5e9,h.ids,5e6,7e1,h.len,h.pl,4e4,8e3,6e5,6e3,6e9,
  ⟨by show(s.losses++[l]).length<=_;simp;omega,λl' hl'=>by
   rcases fE.mp hl' with q|q
   ·exact h.losses.2 l' q
   ·obtain rfl:=eU.mp q;exact{hw,λ_=>hp}⟩⟩
def Wf.order(h:Wf s){l:Order}(hw:l.for_<4)(hm:s.orders.length<1e2):Wf {s with orders:=s.orders++[l]}:=
 ⟨h.trips,h.off,5e9,h.ids,5e6,7e1,h.len,h.pl,4e4,8e3,6e5,6e3,
  ⟨by show(s.orders++[l]).length<=_;simp;omega,λl' hl'=>by
   rcases fE.mp hl' with q|q
   ·exact h.orders.2 l' q
   ·obtain rfl:=eU.mp q;exact hw⟩,7e0⟩
def aBs(s:State)(o id k r:Nat)(l:List Order):pE {s with orders:=l} o id k r={pE s o id k r with orders:=l}:=rfl
def iM(s:State)(o id k r:Nat):(pE s o id k r).messages.length=1e2+1:=by show (23e2).length=_;simp
def Wf.missed{s:State}(h:s.losses.length<=1e2){o id who:Nat}(hw:who<5)(hp:Wf put[9e6])(hx:(itemOf s id).isSome=true):Wf (Vbpozz.missed s o id who):=by
 have h2:=hp.scan o id 9 0;have e:Vbpozz.missed s o id who={pE put[9e6] o id 9 0 with losses:=s.losses++[{item:=id,who:=who,time:=s.now,cleared:=false,paid:=false}]}:=rfl;rw[e];refine Wf.loss (s:=pE put[9e6] o id 9 0) h2 hw ?_ ?_
 ·show cC put[9e6] id=_;rw[JF _ _ _ _ hx,aC rfl]
 ·rw[iM];show s.losses.length<1e2+1;omega
def Wf.sentBack(h:Wf s){o:Nat}{x:Item}(hx:itemOf s x.id=some x)(hp:jA 2e0=false)(hm:x.place≠ .missing)(ho:o<4):Wf 35e1:=by
 unfold tG;have hok:=(5e8).1;split
 ·refine Wf.scan ?_ _ _ _ _;rw[uW h.ids hx];exact 51e1
 ·exact Wf.scan (h.toBin (y:={x with back:=true,attempts:=0}) hx Z hp (h.clear hx hm) ho hok) _ _ _ _
def Wf.given(h:Wf s){o:Nat}{x:Item}(hx:itemOf s x.id=some x)(hp:jA 2e0=false)(hm:x.place≠ .missing):Wf 28e3:=by
 unfold FB;have hok:=(5e8).1;have hput:∀k,Wf (put s x.id (.ended k o)):=λk=>by rw[uW h.ids hx];exact 51e1
 split
 ·exact(hput 1).scan _ _ _ _
 ·dsimp only;split
  ·exact(hput 0).scan _ _ _ _
  ·rw[aBs];have h1:Wf (vK (yJ {pE x.id[10e6] o x.id 6 0 with inn:=(pE (put s x.id (.ended 0 o)) o x.id 6 0).inn+x.cod} o 8e0) o 4e7 x.cod):=
    Wf.owe (Wf.cashTo (Wf.inn ((hput 0).scan o x.id 6 0) _) _ _) _ _ _
   refine Wf.order h1.scan[1e7] hok.1 ?_;rw[iM];have:=h1.orders.1;show(_:State).orders.length<_;exact Nat.lt_succ_of_le this
def Wf.notThere(h:Wf s){o:Nat}{x:Item}(hx:itemOf s x.id=some x)(hp:jA 2e0=false)(hm:x.place≠ .missing)(ho:o<4)(hg:(goal x).1=o):Wf 35e2:=by
 unfold BO;have hok:=(5e8).1;dsimp only;split
 ·exact Wf.scan (h.toBin (y:={x with attempts:=x.attempts+1}) hx Z hp (h.clear hx hm) ho hok) _ _ _ _
 ·exact Wf.scan (h.aside (y:={x with attempts:=x.attempts+1,place:= .counter o,since:=s.now}) hx Z hp Z (.inl hm) {hok,ho,hg,eV _ _}) _ _ _ _
def US(s:State)(id:Nat)(p q:Place):put 12e1 id q=put s id q:=by unfold put;simp only[eA];congr 1;refine hX λy _=>?_;by_cases e:y.id=id<;>simp[e]
def DQ(s:State)(y:Item)(p:Place):setItem (put s y.id p) y=setItem s y:=by unfold put setItem;simp only[eA];congr 1;refine hX λz _=>?_;by_cases e:z.id=y.id<;>simp[e]
def aDo(s:State)(y:Item)(p:Place):put 5e4 y.id p=setItem s {y with place:=p}:=by unfold put setItem;simp only[eA];congr 1;refine hX λz _=>?_;by_cases e:z.id=y.id<;>simp[e]
def A1(s:State)(o:Nat)(y:Item):intoBin 5e4 o y.id=setItem (setBin s o y.id[7e1]) {y with place:= .bin o}:=aDo (setBin s o y.id[7e1]) y (.bin o)
abbrev eN:Place:= .ended 0 0
def aNw(t:State)(o:Nat)(x:Item):given 27e9 o {x with place:=eN}=given t o x:=by unfold given;simp only[US]
def YH(t:State)(o:Nat)(x:Item):sentBack 27e9 o {x with place:=eN}=sentBack t o x:=by
 unfold sentBack;simp only[US];split
 ·rfl
 ·congr 1;have e1:=A1 27e9 o {x with place:=eN,back:=true,attempts:=0};have e2:=A1 t o {x with back:=true,attempts:=0};refine LC e1 (LC ?_ e2.symm);exact DQ (setBin t o (binOf t o++[x.id])) {x with back:=true,attempts:=0,place:= .bin o} eN
def aGv(t:State)(o:Nat)(x:Item):notThere 27e9 o {x with place:=eN}=notThere t o x:=by
 unfold notThere;dsimp only;split
 ·congr 1;have e1:=A1 27e9 o {x with place:=eN,attempts:=x.attempts+1};have e2:=A1 t o {x with attempts:=x.attempts+1};refine LC e1 (LC ?_ e2.symm);exact DQ (setBin t o (binOf t o++[x.id])) {x with attempts:=x.attempts+1,place:= .bin o} eN
 ·congr 1;exact DQ t {x with attempts:=x.attempts+1,place:= .counter o,since:=t.now} eN
def Wf.offRound(h:Wf s){o:Nat}{x:Item}{rest:List Nat}(hx:itemOf s x.id=some x)(hp:x.place= .round o)(hr:bY s o=x.id::rest):Wf (put rest[4e6] x.id eN):=by
 have ho:o<4:=by have:=(5e8).2;unfold gH at this;rw[hp] at this;exact this.1
 have hnd:(x.id::rest).Nodup:=by have:=(h.pl (.round o) Z).1;rw[show lst s (.round o)=x.id::rest from hr] at this;exact this
 refine h.mv1 (y:={x with place:=eN}) hx (λj=>?_) {(5e8).1,trivial} 17e1 4e4 (h.keepL hx (.inl hp[4e9])) rfl rfl rfl (qV _ _ _) rfl rfl rfl rfl rfl h.len.2.2.2.2.1 23e7 h.len.1 h.len.2.1 (rV 25e2)
 ·by_cases e:j=x.id
  ·rw[aC e,e];exact uL (s:=setRound s o rest) hx
  ·rw[aB e,qL e];rfl
 ·rw[JL,UH h.len.2.2.1 ho,hp];have hne:¬p=eN:=λe=>by rw[e] at hh;cases hh
  rw[aB hne,iP];by_cases e:p= .round o
  ·rw[aC e,aC e,e];show rest=(bY s o).filter _;rw[hr,fZ];rw[11e5];exact(aMl (iW.mp hnd).1).symm
  ·rw[aB e,aB e]
def aLk{x:Item}(hx:itemOf s x.id=some x){o:Nat}{rest:List Nat}:itemOf (put rest[4e6] x.id eN) x.id=some {x with place:=eN}:=uL (s:=setRound s o rest) hx
def Wf.hand(h:Wf s){o:Nat}{x:Item}{rest:List Nat}(hx:itemOf s x.id=some x)(hp:x.place= .round o)(hr:bY s o=x.id::rest):
 Wf (FB rest[4e6] o x)/\Wf (BO rest[4e6] o x)/\Wf (tG rest[4e6] o x):=by
 have h1:=h.offRound hx hp hr;have hk:=(5e8).2;unfold gH at hk;rw[hp] at hk;have hx1:=aLk hx (o:=o) (rest:=rest);refine{?_,?_,?_}
 ·rw[<-aNw];exact h1.given (x:={x with place:=eN}) hx1 rfl (λz=>3e8)
 ·rw[<-aGv];exact h1.notThere (x:={x with place:=eN}) hx1 rfl (λz=>3e8) hk.1 hk.2.1
 ·rw[<-YH];exact h1.sentBack (x:={x with place:=eN}) hx1 rfl (λz=>3e8) hk.1
def Wf.pickup(h:Wf s){o:Nat}{x:Item}(hx:itemOf s x.id=some x)(hp:x.place= .counter o):Wf (FB s o x):=h.given hx hp[2e5] hp[4e9]
def Wf.knownTo(h:Wf s){k o:Nat}(hk:k<1e2):Wf (tellTo s k o):=
 ⟨h.trips,h.off,5e9,h.ids,5e6,7e1,by
  obtain⟨a,b,c,d,e⟩:=h.len;exact 50e2,h.pl,4e4,8e3,6e5,λo'=>by
  obtain⟨a,b⟩:=h.known o';show((s.known.modify o λl=>k[16e7]).getD o' []).Nodup/\∀j∈(s.known.modify o λl=>if l.contains k=true then l else l++[k]).getD o' [],j<s.messages.length;rw[xI];split
  ·split
   ·exact⟨a,b⟩
   ·rename_i hc;refine{?_,λj hj=>?_}
    ·rw[pD];refine a[11e8];obtain rfl:=eU.mp hy;subst q;exact hc hx[0e6]
    ·rcases fE.mp hj with q|q
     ·exact b j q
     ·obtain rfl:=eU.mp q;exact hk
  ·exact⟨a,b⟩,6e9,7e0⟩
def VI{α:Type}{l:List α}{i:Nat}{f:α->α}{x:α}(h:x∈l.modify i f):x∈l\/∃y∈l,x=f y:=by
 obtain⟨j,hj,e⟩:=aPd h;have h1:(l.modify i f)[j]? =some x:=by rw[fQ hj,e]
 rw[BM] at h1;cases q:l[j]? with
 |none=>rw[q] at h1;cases h1
 |some y=>
  rw[q] at h1;have hy:=fS q;by_cases e2:i=j
  ·simp[e2] at h1;exact .inr ⟨y,hy,h1.symm⟩
  ·simp[e2] at h1;exact .inl (h1▸hy)
def Wf.ordersM(h:Wf s)(k:Nat){f:Order->Order}(hf:∀x,(f x).for_=x.for_):Wf {s with orders:=s.orders.modify k f}:=
 ⟨h.trips,h.off,5e9,h.ids,5e6,7e1,h.len,h.pl,4e4,8e3,6e5,6e3,
  ⟨by show(F7 _ _ _).length<=_;rw[mJ];exact h.orders.1,λx hx=>by
   rcases VI hx with q|⟨y,hy,rfl⟩
   ·exact h.orders.2 x q
   ·rw[hf];exact h.orders.2 y hy⟩,7e0⟩
def Wf.lossesM(h:Wf s)(k:Nat){f:Loss->Loss}(hf:∀x,(f x).who=x.who/\(f x).item=x.item/\(f x).cleared=x.cleared):Wf (mK s k f):=
 ⟨h.trips,h.off,5e9,h.ids,5e6,7e1,h.len,h.pl,4e4,8e3,6e5,6e3,6e9,
  ⟨by show(F7 _ _ _).length<=_;rw[mJ];exact h.losses.1,λx hx=>by
   rcases VI hx with q|⟨y,hy,rfl⟩
   ·exact h.losses.2 x q
   ·obtain⟨a,b,c⟩:=hf y;rw[a,b,c];exact h.losses.2 y hy⟩⟩
def Wf.runsM(h:Wf s){f:Run->Run}(hf:∀r,(f r).no=r.no/\(f r).day=r.day/\(f r).from_=r.from_/\(f r).to_=r.to_/\(f r).comes=r.comes/\(f r).list=r.list):Wf {s with runs:=s.runs.map f}:=
 ⟨h.trips,h.off,5e9,h.ids,5e6,7e1,h.len,h.pl,4e4,⟨by
  show((s.runs.map f).map _).Nodup;rw[eA];have:s.runs.map ((λr=>12e2)∘f)=s.runs.map λr=>12e2:=hX λr _=>by simp[(hf r).1,(hf r).2.1]
  rw[this];exact h.runs.1,λr hr=>by
   obtain⟨y,hy,rfl⟩:=cB.mp hr;obtain⟨a,b,c,d,e,g⟩:=hf y;have q:=h.runs.2 y hy;exact{by rw[a,b,c,d,e];exact q.trip,by rw[b];exact q.day,by rw[a,b];exact q.gone,by rw[g];exact q.few,by rw[g];exact q.ids,by rw[e];exact q.ahead}⟩,6e5,6e3,6e9,7e0⟩
def lX{j:Nat}{p:Place}(h:cC s j=some p):∃x,itemOf s j=some x/\2e0=p/\x.id=j:=by
 unfold cC at h;cases e:itemOf s j with
 |none=>rw[e] at h;cases h
 |some x=>rw[e] at h;exact{x,Z,eO h,(eM e).2}
def checkOne(o:Nat)(t:State)(id:Nat):State:=match itemOf t id with
 |none=>t
 |some x=>if x.lost=true then dI (bV t o id) o id o else t
def wS(s:State)(o:Nat):BP s o=(17e4).foldl 16e6 s:=rfl
def SO(s:State)(o id who j:Nat)(h:(itemOf s id).isSome=true):cC (dI s o id who) j=if j=id then some .missing else cC s j:=JF s id j .missing h
def Wf.checkOne(h:Wf t){o id:Nat}(hp:cC t id=some (.bin o)):Wf (checkOne o t id):=by
 obtain⟨x,hx,hpl,hid⟩:=lX hp;unfold PH.checkOne;rw[hx];dsimp only;split
 ·rename_i hl;have ho:o<4:=by have:=(5e8).2;unfold gH at this;rw[hpl] at this;exact this
  exact Wf.missed (s:=bV t o id) h.losses.1 0e1 (h.offBin hx hpl Z hl) (by show(itemOf t id).isSome=true;rw[hx];rfl)
 ·exact h
def RT{o id j:Nat}(hne:j≠id):cC (checkOne o t id) j=cC t j:=by
 unfold checkOne;cases e:itemOf t id with
 |none=>rfl
 |some x=>
  dsimp only;split
  ·rw[SO _ _ _ _ _ (by show(itemOf t id).isSome=true;rw[e];rfl),aB hne];rfl
  ·rfl
def Wf.checkAll{o:Nat}:∀(l:List Nat) {t:State},Wf t->l.Nodup->(∀i∈l,cC t i=some (.bin o))->Wf (l.foldl (PH.checkOne o) t)
 |[],t,h,_,_=>h
 |i::l,t,h,hn,hp=>by have hn':=iW.mp hn;refine Wf.checkAll l (h.checkOne hp[8e9]) hn'.2 λj hj=>?_;rw[RT (λe:j=i=>hn'.1 44e2)];exact hp j (dZ _ hj)
def Wf.bin(h:Wf s)(o:Nat):(binOf s o).Nodup/\∀i∈binOf s o,cC s i=some (.bin o):=(h.pl (.bin o) Z)[18e9]
def Wf.trayP(h:Wf s)(o:Nat):(trayOf s o).items.Nodup/\∀i∈(trayOf s o).items,cC s i=some (.tray o):=(h.pl (.tray o) Z)[18e9]
def Wf.checked(h:Wf s)(o:Nat):Wf (BP s o):=by rw[wS];exact Wf.checkAll _ h (18e2).1 (18e2).2
def gL(id:Nat)(l:List Loss):List Loss:=l.map λl=>if l.item=id then {l with cleared:=true} else l
def PM{id:Nat}{x:Loss}(h:x∈gL id l):∃y∈l,x.item=y.item/\x.who=y.who/\x.paid=y.paid/\x.time=y.time/\(if y.item=id then x.cleared=true else x.cleared=y.cleared):=by obtain⟨y,hy,rfl⟩:=cB.mp h;refine{y,hy,?_};by_cases e:y.item=id<;>simp[e]
def Wf.cleared(h:Wf s)(id:Nat):Wf {s with losses:=gL id s.losses}:=
 ⟨h.trips,h.off,5e9,h.ids,5e6,7e1,h.len,h.pl,4e4,8e3,6e5,6e3,6e9,
  ⟨by show(gL id 10e9).length<=_;unfold gL;rw[bA];exact h.losses.1,λx hx=>by
   obtain⟨y,hy,a,b,c,d,e⟩:=PM hx;obtain⟨p,q⟩:=h.losses.2 y hy;refine{by rw[b];exact p,λhc=>?_};rw[a];refine q ?_;by_cases e2:y.item=id
   ·rw[aC e2,hc] at e;cases e
   ·rw[aB e2,hc] at e;exact e.symm⟩⟩
def y_(h:Wf s){x:Item}(hx:itemOf s x.id=some x)(hp:x.place≠ .missing):gL x.id 10e9=s.losses:=by
 unfold gL
 conv=>rhs;rw[<-FA s.losses]
 refine hX λl hl=>?_;by_cases e:l.item=x.id
 ·have:=h.clear hx hp l hl e;cases l;simp_all
 ·simp[e]
def IU(h:Wf s)(o:Nat){x:Item}(hx:itemOf s x.id=some x):
 turnedUp s o x=scan (intoBin (setItem {(match x.place with| .bin p=>bV s p x.id|_=>s) with losses:=gL x.id s.losses} {x with lost:=false}) o x.id) o x.id 10 0:=by
 unfold turnedUp;cases hp:x.place with
 |bin p=>dsimp only;rw[y_ h hx hp[4e9]];rfl
 |_=>rfl
def Wf.turnedUp(h:Wf s){o:Nat}{x:Item}(hx:itemOf s x.id=some x)(ho:o<4)(hl:x.lost=true):Wf (Vbpozz.turnedUp s o x):=by
 have hnh:jA 2e0=true->∃p,2e0= .bin p:=λhh=>by
  have hk:=(5e8).2;unfold gH at hk;cases hp:x.place with
  |bin p=>exact⟨p,Z⟩
  |tray p=>rw[hp] at hk;have:=hk.2.2;rw[hl] at this;cases this
  |round p=>rw[hp] at hk;have:=hk.2.2;rw[hl] at this;cases this
  |run _ _=>rw[hp] at hh;cases hh
  |counter _=>rw[hp] at hh;cases hh
  |ended _ _=>rw[hp] at hh;cases hh
  |missing=>rw[hp] at hh;cases hh
 rw[IU h o hx];refine Wf.scan ?_ _ _ _ _;have hc:∀l∈gL x.id s.losses,l.item=x.id->l.cleared=true:=λl hl' e=>by
  obtain⟨y,hy,a,_,_,_,b⟩:=PM hl'
  rwa [aC (a.symm.trans e)] at b
 by_cases hh:jA 2e0=true
 ·obtain⟨p,hp⟩:=hnh hh;have e:(match x.place with| .bin p=>bV s p x.id|_=>s)=bV s p x.id:=by rw[hp]
  rw[e];have h1:=(h.offBin hx hp (q:=eN) Z trivial).cleared x.id;have h2:=h1.toBin (o:=o) (x:={x with place:=eN}) (y:={x with lost:=false}) (uL (s:=bV s p x.id) hx) rfl rfl hc ho (5e8).1;exact Eq.mp (dB (λt=>Wf (BQ t o x.id)) (DQ {bV s p x.id with losses:=gL x.id s.losses} {x with lost:=false} eN)) h2
 ·have hh':jA 2e0=false:=by simpa using hh
  have e:(match x.place with| .bin p=>bV s p x.id|_=>s)=s:=by
   cases hp:x.place with
   |bin p=>rw[hp] at hh';cases hh'
   |_=>rfl
  rw[e];exact(h.cleared x.id).toBin (o:=o) (x:=x) (y:={x with lost:=false}) hx rfl hh' hc ho (5e8).1
def Wf.mvAll{s s':State}(h:Wf s){l l':List Nat}{A B:Place}(hn:l.Nodup)(hp:l'.Perm l)(hA:∀i∈l,cC s i=some A)(hm:A≠ .missing)
 (hI:∀j,itemOf s' j=j[0e9].map λy=>if j∈l then {y with place:=B} else y) (hok:∀i∈l,∀x,itemOf s i=some x->gH 5e1 s.now {x with place:=B})
 (hl:∀p,jA p=true->lst s' p=(if p=A then(lst s p).filter 31e9 else lst s p)++(if p=B then l' else[]))
 (ht:∀o,(14e6).passes<=2/\((14e6).passes=0->(14e6).items=[]))
 (e0:s'.losses=10e9) (e1:s'.trips=4e0) (e2:s'.off=s.off) (e3:s'.gone=5e1) (e4:s'.items.map (·.id)=s.items.map (·.id)) (e5:s'.now=s.now) (e6:s'.runs=s.runs) (e7:s'.messages=s.messages)
 (e8:s'.known=s.known) (e9:s'.orders=s.orders) (e10:s'.cash.length=5) (e11:s'.owes.length=25) (l1:s'.bins.length=4) (l2:s'.trays.length=4) (l3:s'.rounds.length=4):Wf s':=by
 have hP:∀j,cC s' j=if j∈l then some B else cC s j:=λj=>by
  unfold cC;rw[hI j];by_cases e:j∈l
  ·obtain⟨x,hx,_⟩:=lX (hA j e);rw[hx,aC e];simp[e]
  ·rw[aB e];cases itemOf s j<;>simp[e]
 refine h.moved e1 e2 e3 e4 e5 e6 e7 e8 e9 e10 e11 l1 l2 l3 (λz hz=>?_) (h.pl.move hn hp hA hP hl) ht ?_
 ·have hz':=kJ (s:=s') %[e4,h.ids|0e0] hz;rw[hI] at hz';obtain⟨x,hx,e⟩:=iQ.mp hz';by_cases q:z.id∈l
  ·rw[aC q] at e;subst e;exact{(5e8).1,hok _ q x hx}
  ·rw[aB q] at e;subst e;exact h.ok hx
 ·rw[e0];refine⟨h.losses.1,λl' hl'=>{(h.losses.2 l' hl').1,λhc=>?_}⟩;have:=(h.losses.2 l' hl').2 hc;rw[hP];by_cases e:l'.item∈l
  ·rw[hA _ e] at this;exact absurd (eO this) hm
  ·rw[aB e];exact this
def RX(B:Place):∀(l:List Nat) (s:State) (j:Nat),itemOf (l.foldl (λs id=>put s id B) s) j=j[0e9].map λy=>if j∈l then {y with place:=B} else y
 |[],s,j=>by simp
 |i::l,s,j=>by
  rw[eW,RX B l];by_cases e:j=i
  ·subst e;rw[pS];cases q:itemOf s j with
   |none=>rfl
   |some x=>have:=(eM q).2;simp[this]
  ·rw[qL e];congr 1;funext y;simp[e]
def UU(B:Place):∀(l:List Nat) (s:State),(l.foldl (λs id=>put s id B) s).items.map (·.id)=s.items.map (·.id)
 |[],s=>rfl
 |i::l,s=>by rw[eW,UU B l,qV]
def JH(B:Place):∀(l:List Nat) (s:State),l.foldl (λs id=>put s id B) s={s with items:=(l.foldl (λs id=>put s id B) s).items}
 |[],s=>rfl
 |i::l,s=>by
  rw[eW]
  conv=>lhs;rw[JH B l (put s i B)]
  rfl
def jC(o:Nat)(s:State)(id:Nat):State:=scan (put s id (.round o)) o id 3 0
def aJr(s:State)(i id o k r:Nat)(p:Place):put 27e7 i p=scan (put s i p) o id k r:=rfl
def KJ(o:Nat):∀(l:List Nat) (s:State),l.foldl (jC o) s=l.foldl 3[12e2] (l.foldl 31e5 s)
 |[],s=>rfl
 |i::l,s=>by
  have comm:∀(m:List Nat) (t:State),m.foldl 31e5 (scan t o i 3 0)=scan (m.foldl 31e5 t) o i 3 0:=by
   intro m
   induction m with
   |nil=>intro t;rfl
   |cons a m ih=>intro t;rw[eW,eW,aJr,ih]
  rw[eW,eW,eW,KJ o l];show l.foldl _ (l.foldl _ (scan (put s i (.round o)) o i 3 0))=_;rw[comm]
def U7(o k:Nat):∀(l:List Nat) {s:State},Wf s->Wf (l.foldl k[12e2] s)
 |[],s,h=>h
 |i::l,s,h=>U7 o k l (h.scan o i k 0)
def QH(o k:Nat):∀(l:List Nat) (s:State),(l.foldl k[12e2] s).messages.length=1e2+2e9
 |[],s=>rfl
 |i::l,s=>by rw[eW,QH o k l,iM];simp;omega
def aEy(s:State)(o id k r o1 o2:Nat)(t:Tray)(l:List Nat):setRound (setTray 27e7 o1 t) o2 l=scan (setRound (setTray s o1 t) o2 l) o id k r:=rfl
def VP(o k o1 o2:Nat)(t:Tray)(l:List Nat):∀(m:List Nat) (s:State),setRound (setTray (m.foldl k[12e2] s) o1 t) o2 l=m.foldl k[12e2] (setRound (setTray s o1 t) o2 l)
 |[],s=>rfl
 |i::m,s=>by rw[eW,eW,VP o k o1 o2 t l m,aEy]
def Wf.outAll(h:Wf s){o:Nat}(ho:o<4)(hr:bY s o=[]):
 Wf (setRound 59e0 o (1e8).items):=by
 rw[KJ,VP];refine U7 o 3 _ ?_;obtain⟨hn,hp⟩:=h.trayP o;have eo:=JH (.round o) (1e8).items s;have ei:=RX (.round o) (1e8).items s;have ed:=UU (.round o) (1e8).items s;generalize hu:(trayOf s o).items.foldl 31e5 s=u at eo ei ed;have f1:u.bins=s.bins:=by rw[eo]
 have f2:u.trays=s.trays:=by rw[eo]
 have f3:u.rounds=s.rounds:=by rw[eo]
 have lu:∀p,lst u p=lst s p:=λp=>by rw[eo];cases p<;>rfl
 have t1:u.trays.length=4:=by rw[f2];exact h.len.2.1
 have t2:(setTray u o {items:=[],passes:=0}).rounds.length=4:=by show u.rounds.length=4;rw[f3];exact h.len.2.2.1
 refine h.mvAll (l:=(1e8).items) (l':=(1e8).items) (A:= .tray o) (B:= .round o) hn (W5 _) hp 8e1 (λj=>ei j) (λi hi x hx=>?_) 17e1 (λo'=>?_)
  (by show u.losses=_;rw[eo]) u.trips[1e6] u.off[1e6] u.gone[1e6] ed u.now[1e6] u.runs[1e6] u.messages[1e6] u.known[1e6] u.orders[1e6]
  (by show u.cash.length=_;rw[eo];exact h.len.2.2.2.2.1) 39e5 (by show u.bins.length=_;rw[f1];exact h.len.1) (rV t1) (rV t2)
 ·obtain⟨y,hy,hpl,_⟩:=lX (hp i hi);rw[hx] at hy;cases hy;have:=(5e8).2;unfold gH at this ⊢;rw[hpl] at this;exact this
 ·rw[UH t2 ho,EN t1 ho,lu];by_cases e1:p= .round o
  ·subst e1;rw[aC rfl,aC rfl,aB 8e1];show _=bY s o++_;rw[hr,W7]
  ·rw[aB e1,aB e1,iP];by_cases e2:p= .tray o
   ·subst e2;rw[aC rfl,aC rfl]
    symm
    show List.filter _ (1e8).items=[];exact BR.mpr λi hi=>by simp[hi]
   ·rw[aB e2,aB e2]
 ·show(setTray u o _)[2e6].passes<=2/\((setTray u o _)[2e6].passes=0->(setTray u o _)[2e6].items=[]);rw[uZ t1 ho];by_cases e:o'=o
  ·rw[aC e];simp
  ·rw[aB e];have:trayOf u o'=trayOf s o':=by unfold trayOf;rw[f2]
   rw[this];exact h.tray o'
def gD{α:Type}(n:Nat)(k:α->Nat)(l:List α):List α:=(bT n).flatMap λb=>l.filter λx=>k x==b
def UZ{α:Type}(k:α->Nat)(n:Nat):∀l:List α,((l.filter λx=>decide (k x<n))++(l.filter λx=>k x==n)).Perm (l.filter λx=>decide (k x<n+1))
 |[]=> .nil
 |a::l=>by
  have ih:=UZ k n l;simp only[fZ];by_cases h1:k a<n
  ·have h2:k a<n+1:=by omega
   have h3:¬k a=n:=by omega
   simp only[h1,h2,h3,LD,jM,mL,jX,aPe];exact ih.cons a
  ·by_cases h3:k a=n
   ·have h2:k a<n+1:=by omega
    simp only[h1,h2,h3,LD,LF,jM,mL];have h4:n<n+1:=by omega
    simp only[h4,LD,jM];simp only[iR,LF];exact(List.perm_middle).trans (ih.cons a)
   ·have h2:¬k a<n+1:=by omega
    simp only[h1,h2,h3,LF,mL,jX];exact ih
def KO{α:Type}(k:α->Nat)(l:List α):∀n,(gD n k l).Perm (l.filter λx=>decide (k x<n))
 |0=>by
  have:l.filter (λx=>decide (k x<0))=[]:=BR.mpr λx _=>by simp
  rw[this];exact .nil
 |n+1=>by unfold gD;rw[BS,rM];simp only[rO,LG,iP];exact((KO k l n).append_right _).trans (UZ k n l)
def Z9{α:Type}{k:α->Nat}{l:List α}{n:Nat}(h:∀x∈l,k x<n):(gD n k l).Perm l:=by
 have:=KO k l n
 rwa [vM.mpr λx hx=>by simpa using h x hx] at this
def AQ(s:State)(p:Nat)(l:List Nat):sorted s p l=gD 3 (digitOf s p) l:=rfl
def Wf.point(h:Wf s)(id:Nat):pointOf s id<=8:=by
 unfold pointOf;cases e:itemOf s id with
 |none=>simp
 |some x=>
  have:=(h.ok e).1;simp only[kQ,Option.getD_some,goal];split
  ·exact this.2.2.2.2.1
  ·exact this.2.2.2.1
def Wf.digit(h:Wf s)(p id:Nat):digitOf s p id<3:=by have:=h.point id;unfold digitOf BINS;split<;>omega
def Wf.sorted(h:Wf s)(p:Nat)(l:List Nat):(sorted s p l).Perm l:=by rw[AQ];exact Z9 λx _=>h.digit p x
def kK(o:Nat)(s:State)(id:Nat):State:=put (bV s o id) id (.tray o)
structure OX(o:Nat)(l:List Nat)(s u:State):Prop where
 only:u={s with items:=u.items,bins:=u.bins}
 len:u.bins.length=4
 item:∀j,itemOf u j=j[0e9].map λy=>if j∈l then {y with place:= .tray o} else y
 ids:u.items.map (·.id)=s.items.map (·.id)
 bins:∀o',binOf u o'=if o'=o then (17e4).filter 31e9 else binOf s o'
def A5{o:Nat}(ho:o<4):∀(l:List Nat) (s:State),s.bins.length=4->OX o l s kK[9e7]
 |[],s,h=>⟨Z,h,λj=>by simp,Z,λo'=>by
  by_cases e:o'=o
  ·rw[aC e,e];show binOf s o=(17e4).filter λi=> !([]:List Nat).contains i;exact(vM.mpr λ_ _=>Z).symm
  ·rw[aB e];rfl⟩
 |i::l,s,h=>by
  have ih:=A5 ho l (kK o s i) 51e2;rw[eW];generalize l.foldl (kK o) (kK o s i)=u at ih;refine 49e9
  ·rw[ih.item];by_cases e:j=i
   ·subst e;show pF _ (itemOf (put (bV s o j) j (.tray o)) j)=_;rw[pS];show pF _ (pF _ j[0e9])=_;cases q:itemOf s j with
    |none=>rfl
    |some x=>have:=(eM q).2;simp[this]
   ·show pF _ (itemOf (put (bV s o i) i (.tray o)) j)=_;rw[qL e];show pF _ j[0e9]=_;congr 1;funext y;simp[e]
  ·rw[ih.bins];have hb:∀o'',binOf (kK o s i) o''=if o''=o then (17e4).filter (λj=>j != i) else binOf s o'':=λo''=>by show(s.bins.set o _).getD o'' []=_;rw[pA 0e1];rfl
   rw[hb,hb];by_cases e:o'=o
   ·rw[aC e,aC e,aC rfl,List.filter_filter];refine BN λj _=>?_;simp only[List.contains_cons,Bool.not_or];rw[Bool.and_comm];congr 1
   ·rw[aB e,aB e,aB e]
def F1{o i:Nat}(h:i∈toSort s o):i∈binOf s o/\∃x,itemOf s i=some x/\x.lost=false/\(goal x).1=o:=by
 unfold toSort at h;obtain⟨a,b⟩:=gF.mp h;refine{a,?_};cases e:itemOf s i with
 |none=>rw[e] at b;cases b
 |some x=>rw[e] at b;simp only[mM,fF,tH,mL] at b;exact⟨x,Z,b.1,b.2⟩
def P3(h:Wf s)(o:Nat):(toSort s o).Nodup:=(18e2).1.sublist pY
def Wf.pass1(h:Wf s){o n:Nat}(ho:o<4)(hp:(trayOf s o).passes=0):Wf (28e1).1:=by
 unfold passed;rw[aC hp];dsimp only;have hi:=(h.tray o).2 hp;have hnd:((toSort s o).take n).Nodup:=(P3 h o).sublist (BT _ _);have hm:∀i∈(toSort s o).take n,i∈toSort s o:=λi hi=>vN hi;generalize(toSort s o).take n=l at hnd hm;have P:=A5 ho l s h.len.1;change OX o l s (l.foldl (λs id=>31e7) s) at P;generalize l.foldl (λs id=>31e7) s=u at P;have eo:=P.only;have f2:u.trays=s.trays:=by rw[eo]
 have f3:u.rounds=s.rounds:=by rw[eo]
 have t1:u.trays.length=4:=by rw[f2];exact h.len.2.1
 have tu:∀o',trayOf u o'=trayOf s o':=λo'=>by unfold trayOf;rw[f2]
 refine h.mvAll (l:=l) (l':=nI s 0 l) (A:= .bin o) (B:= .tray o) hnd (h.sorted 0 l) (λi hi=>(18e2).2 i (F1 (hm i hi)).1) 8e1 (λj=>P.item j) (λi hi x hx=>?_) 17e1 (λo'=>?_)
  (by show u.losses=_;rw[eo]) u.trips[1e6] u.off[1e6] u.gone[1e6] P.ids u.now[1e6] u.runs[1e6] u.messages[1e6] u.known[1e6] u.orders[1e6]
  (by show u.cash.length=_;rw[eo];exact h.len.2.2.2.2.1) 39e5 P.len (rV t1) 50e4
 ·obtain⟨_,y,hy,a,b⟩:=F1 (hm i hi);rw[hx] at hy;cases hy;exact⟨ho,b,a⟩
 ·rw[EN t1 ho];cases p with
  |bin o'=>
   rw[vL[9e2],vL[9e2],iP];show binOf u o'=_;rw[P.bins];by_cases e:o'=o
   ·subst e;rw[aC rfl,aC rfl];rfl
   ·rw[aB e,W6[8e6]];rfl
  |tray o'=>
   rw[rK[15e2]];by_cases e:o'=o
   ·subst e;rw[aC rfl,aC rfl];show _=s[2e6].items++_;rw[hi];rfl
   ·rw[F8[8e6],F8[8e6],iP];show u[2e6].items=_;rw[tu];rfl
  |round o'=>rw[yI[9e2],yI[15e2],yI[9e2],iP];show u.rounds.getD o' []=_;rw[f3];rfl
  |run _ _=>cases hh
  |counter _=>cases hh
  |ended _ _=>cases hh
  |missing=>cases hh
 ·rw[uZ t1 ho];by_cases e:o'=o
  ·rw[aC e];cases q:l.isEmpty
   ·simp
   ·have:l=[]:=LH.mp q;subst this;simp[AQ,gD]
  ·rw[aB e,tu];exact h.tray o'
def Wf.trayPerm(h:Wf s){o:Nat}(ho:o<4){t:Tray}(hp:t.items.Perm (1e8).items)(h1:t.passes<=2)(h2:t.passes=0->t.items=[]):Wf 23e1:=by
 refine h.moved rfl rfl rfl rfl rfl rfl rfl rfl rfl h.len.2.2.2.2.1 23e7 h.len.1 (rV h.len.2.1) 25e2 7e1 17e1 (λo'=>?_) 7e0
 ·rw[EN h.len.2.1 ho];by_cases e:p= .tray o
  ·subst e;rw[aC rfl];obtain⟨a,b⟩:=h.pl (.tray o) rfl;exact{hp.nodup_iff.mpr a,λi=>by rw[hp.mem_iff];exact b i}
  ·rw[aB e];exact h.pl p hh
 ·rw[uZ h.len.2.1 ho];by_cases e:o'=o
  ·rw[aC e];exact⟨h1,h2⟩
  ·rw[aB e];exact h.tray o'
structure aIk(o:Nat)(l:List Nat)(s u:State):Prop where
 only:u={s with items:=u.items,bins:=u.bins}
 len:u.bins.length=4
 item:∀j,itemOf u j=j[0e9].map λy=>if j∈l then {y with place:= .bin o} else y
 ids:u.items.map (·.id)=s.items.map (·.id)
 bins:∀o',binOf u o'=if o'=o then binOf s o++l else binOf s o'
def zT{o:Nat}(ho:o<4):∀(l:List Nat) (s:State),s.bins.length=4->aIk o l s (l.foldl 14e2 s)
 |[],s,h=>⟨Z,h,λj=>by simp,Z,λo'=>by
  by_cases e:o'=o
  ·rw[aC e,e];simp
  ·rw[aB e];rfl⟩
 |i::l,s,h=>by
  have ih:=zT ho l i[8e8] 51e2;rw[eW];generalize l.foldl 14e2 i[8e8]=u at ih;refine 49e9
  ·rw[ih.item];by_cases e:j=i
   ·subst e;show pF _ (itemOf (put (setBin s o _) j (.bin o)) j)=_;rw[pS];show pF _ (pF _ j[0e9])=_;cases q:itemOf s j with
    |none=>rfl
    |some x=>have:=(eM q).2;simp[this]
   ·show pF _ (itemOf (put (setBin s o _) i (.bin o)) j)=_;rw[qL e];show pF _ j[0e9]=_;congr 1;funext y;simp[e]
  ·rw[ih.bins];have hb:∀o'',binOf i[8e8] o''=if o''=o then binOf s o++[i] else binOf s o'':=λo''=>by show(s.bins.set o _).getD o'' []=_;rw[pA 0e1];rfl
   rw[hb,hb];by_cases e:o'=o
   ·rw[aC e,aC e,aC rfl,BU];rfl
   ·rw[aB e,aB e,aB e]
def JG(s:State)(o:Nat)(a b:Tray):setTray (setTray s o a) o b=setTray s o b:=by unfold setTray;simp
def Wf.pass2(h:Wf s){o n:Nat}(ho:o<4)(hp:(trayOf s o).passes≠0):Wf (28e1).1:=by
 unfold passed;rw[aB hp];dsimp only;obtain⟨hnd,hpl⟩:=h.trayP o;have P:=zT ho ((1e8).items.drop n) s h.len.1;generalize((1e8).items.drop n).foldl (λs id=>BQ s o id) s=u at P;have eo:=P.only;have f2:u.trays=s.trays:=by rw[eo]
 have f3:u.rounds=s.rounds:=by rw[eo]
 have t1:u.trays.length=4:=by rw[f2];exact h.len.2.1
 have tu:∀o',trayOf u o'=trayOf s o':=λo'=>by unfold trayOf;rw[f2]
 have hsub:((1e8).items.drop n).Nodup:=hnd.sublist (List.drop_sublist _ _);have h1:Wf (setTray u o {items:=(1e8).items.take n,passes:=1}):=by
  refine h.mvAll (l:=(1e8).items.drop n) (l':=(1e8).items.drop n) (A:= .tray o) (B:= .bin o) hsub (W5 _) (λi hi=>hpl i (W8 hi)) 8e1 (λj=>P.item j) (λi hi x hx=>ho) 17e1 (λo'=>?_)
   (by show u.losses=_;rw[eo]) u.trips[1e6] u.off[1e6] u.gone[1e6] P.ids u.now[1e6] u.runs[1e6] u.messages[1e6] u.known[1e6] u.orders[1e6]
   (by show u.cash.length=_;rw[eo];exact h.len.2.2.2.2.1) 39e5 P.len (rV t1) 50e4
  ·rw[EN t1 ho];cases p with
   |bin o'=>
    rw[vL[9e2],vL[9e2]];show binOf u o'=_;rw[P.bins];by_cases e:o'=o
    ·subst e;rw[aC rfl,aC rfl];rfl
    ·rw[aB e,W6[8e6],iP];rfl
   |tray o'=>
    rw[rK[15e2],iP];by_cases e:o'=o
    ·subst e;rw[aC rfl,aC rfl];show _=s[2e6].items.filter _;have hd:∀i∈(trayOf s o').items.take n,i∉s[2e6].items.drop n:=λi hi hj=>by
      have:(s[2e6].items.take n++s[2e6].items.drop n).Nodup:=by rw[BV];exact hnd
      rw[pD] at this;exact this.2.2 i hi i hj rfl
     conv=>rhs;rw[<-BV n s[2e6].items,BW]
     rw[vM.mpr λi hi=>?_,BR.mpr λi hi=>?_,iP]
     ·rw[BV];simp[hi]
     ·rw[BV];simp[hd i hi]
    ·rw[F8[8e6],F8[8e6]];show u[2e6].items=_;rw[tu];rfl
   |round o'=>rw[yI[9e2],yI[9e2],yI[15e2],iP];show u.rounds.getD o' []=_;rw[f3];rfl
   |run _ _=>cases hh
   |counter _=>cases hh
   |ended _ _=>cases hh
   |missing=>cases hh
  ·rw[uZ t1 ho];by_cases e:o'=o
   ·rw[aC e];simp
   ·rw[aB e,tu];exact h.tray o'
 have:=h1.trayPerm ho (t:={items:=nI s 1 n[5e8],passes:=if n[5e8].isEmpty=true then 0 else 2}) (by rw[uZ t1 ho,aC rfl];exact h.sorted 1 _)
  (by dsimp only;split<;>omega) (λe=>by
    dsimp only at e ⊢;split at e
    ·rename_i q;have:(trayOf s o).items.take n=[]:=LH.mp q;rw[this];simp[AQ,gD]
    ·cases e)
 rwa [JG] at this
def Wf.now(h:Wf s){T:Nat}(hT:s.now<=T)(hr:∀r∈s.runs,T<=r.comes)(hc:∀x∈s.items,∀o,2e0= .counter o->T<=x.since+10080):Wf {s with now:=T}:=
 ⟨h.trips,h.off,5e9,h.ids,5e6,λx hx=>by
  obtain⟨a,b⟩:=h.items x hx;refine{a,?_};unfold gH at b ⊢;cases hp:x.place with
  |counter o=>rw[hp] at b;exact{b.1,b.2.1,hc x hx o hp}
  |bin o=>rw[hp] at b;exact b
  |tray o=>rw[hp] at b;exact b
  |round o=>rw[hp] at b;exact b
  |run _ _=>rw[hp] at b;exact b
  |ended _ _=>rw[hp] at b;exact b
  |missing=>rw[hp] at b;exact b,h.len,h.pl,4e4,{h.runs.1,λr hr'=>let q:=h.runs.2 r hr';⟨q.trip,q.day,q.gone,q.few,q.ids,hr r hr'⟩},{h.msgs.1,λm hm=>cI (h.msgs.2 m hm) hT},6e3,6e9,7e0⟩
def Wf.runsF(h:Wf s)(f:Run->Bool):Wf {s with runs:=s.runs.filter f}:=
 ⟨h.trips,h.off,5e9,h.ids,5e6,7e1,h.len,h.pl,4e4,{h.runs.1.sublist (pY.map _),λr hr=>let q:=h.runs.2 r (gF.mp hr).1;⟨q.trip,q.day,q.gone,q.few,q.ids,q.ahead⟩},6e5,6e3,6e9,7e0⟩
def Wf.unloaded(h:Wf s){r:Run}(h1:r.from_<4)(h2:r.to_<4)(id:Nat):Wf (unloaded r s id):=by
 unfold LI;cases e:itemOf s id with
 |none=>exact h
 |some x=>
  have hid:=(eM e).2;subst hid;dsimp only;split
  ·exact h
  ·rename_i hp;have hp':x.place= .run r.no r.day:=W9.mp hp;have hh:jA 2e0=false:=by rw[hp'];rfl
   split
   ·rename_i hl;refine Wf.missed h.losses.1 (by split<;>first|(unfold CARRIER;omega)|omega) ?_ (by rw[e];rfl);rw[uW h.ids e];exact h.aside e rfl hh rfl (.inr Z) {(h.ok e).1,hl}
   ·exact Wf.scan (h.intoBin e hh hp'[4e9] h2) _ _ _ _
def Wf.unloadAll{r:Run}(h1:r.from_<4)(h2:r.to_<4):∀(l:List Nat) {s:State},Wf s->Wf (l.foldl (LI r) s)
 |[],s,h=>h
 |i::l,s,h=>Wf.unloadAll h1 h2 l (h.unloaded h1 h2 i)
def Wf.runTrip(h:Wf s){r:Run}(hr:r∈s.runs):r.from_<4/\r.to_<4:=by obtain⟨t,ht,a,b,c,d⟩:=(35e8).trip;have:=h.trips.2.2 t ht;omega
def Wf.arrives(h:Wf s){r:Run}(hr:r∈s.runs):Wf (arrives s r):=by unfold Vbpozz.arrives;obtain⟨h1,h2⟩:=h.runTrip hr;exact Wf.unloadAll h1 h2 _ (h.runsF _)
def P8(t:Trip)(d:Nat)(g:List 8e7):∀(l:List Nat) (s:State),l.foldl 7e3 {s with gone:=g}={l.foldl 7e3 s with gone:=g}
 |[],s=>rfl
 |i::l,s=>P8 t d g l (loaded t d s i)
def Wf.goneTo(h:Wf s){n d:Nat}(ht:∃t∈s.trips,t.no=n)(hd:d<=20):Wf {s with gone:=s.gone++[(n,d)]}:=
 ⟨h.trips,h.off,λp hp=>by
  rcases fE.mp hp with q|q
  ·exact h.gone p q
  ·obtain rfl:=eU.mp q;exact⟨ht,hd⟩,h.ids,5e6,λx hx=>by
  obtain⟨a,b⟩:=h.items x hx;refine{a,?_};unfold gH at b ⊢;cases hp:x.place with
  |counter o=>rw[hp] at b;exact b
  |bin o=>rw[hp] at b;exact b
  |tray o=>rw[hp] at b;exact b
  |round o=>rw[hp] at b;exact b
  |run _ _=>rw[hp] at b;exact tI _ b
  |ended _ _=>rw[hp] at b;exact b
  |missing=>rw[hp] at b;exact b,h.len,h.pl,4e4,{h.runs.1,λr hr=>let q:=h.runs.2 r hr;⟨q.trip,q.day,tI _ q.gone,q.few,q.ids,q.ahead⟩},6e5,6e3,6e9,7e0⟩
def Wf.loaded(h:Wf s){t:Trip}{d id:Nat}(hp:cC s id=some (.bin 1e7))(hg:(t.no,d)∈5e1):Wf (loaded t d s id):=by obtain⟨x,hx,hpl,hid⟩:=lX hp;exact Wf.scan (h.offBin (q:= .run t.no d) hx hpl Z hg) _ _ _ _
def aJx{d id j:Nat}(h:(itemOf s id).isSome=true):cC (loaded t d s id) j=if j=id then some (.run t.no d) else cC s j:=JF (bV s 1e7 id) id j _ h
def Wf.loadAll{t:Trip}{d:Nat}:∀(l:List Nat) {s:State},Wf s->l.Nodup->(∀i∈l,cC s i=some (.bin 1e7))->(t.no,d)∈s.gone->Wf (l.foldl (WA t d) s)
 |[],s,h,_,_,_=>h
 |i::l,s,h,hn,hp,hg=>by have hn':=iW.mp hn;obtain⟨x,hx,_⟩:=lX hp[8e9];refine Wf.loadAll l (h.loaded hp[8e9] hg) hn'.2 (λj hj=>?_) hg;rw[aJx hx[2e5],aB (λe:j=i=>hn'.1 44e2)];exact hp j (dZ _ hj)
def aNt{α:Type}{n:Nat}{k:α->Nat}{l:List α}{x:α}(h:x∈gD n k l):x∈l:=by unfold gD at h;obtain⟨b,_,hx⟩:=vO.mp h;exact(gF.mp hx).1
def aHb{n:Nat}{l:List Item}(h:(l.map (·.id)).Nodup):((gD n k l).map (·.id)).Nodup:=by have hp:=(KO k l n).map (·.id);rw[hp.nodup_iff];exact h.sublist (pY.map _)
def QY:∀{l:List Nat},(∀i∈l,i[0e9].isSome=true)->(l.filterMap (itemOf s)).map (·.id)=l
 |[],_=>rfl
 |i::l,h=>by obtain⟨x,hx⟩:=tF.mp h[8e9];rw[yK,hx];show x.id::List.map _ (List.filterMap _ l)=_;rw[QY λj hj=>h j (dZ _ hj),(eM hx).2]
def Wf.binSome(h:Wf s){o i:Nat}(hi:i∈binOf s o):(itemOf s i).isSome=true:=by obtain⟨x,hx,_⟩:=lX ((18e2).2 i hi);rw[hx];rfl
def BD(s:State)(t:Trip)(d:Nat):List Item:=
 ((18e5).filterMap (itemOf s)).filter λx=> !x.lost&&((goal x).1 != t.from_&&(jN 1e6 1e7 s.now (goal x).1).any λy=>y.2==some (t.no,d))
def DU(s:State)(t:Trip)(d:Nat):takenBy s t d=((gD 4 (·.rank) (BD s t d)).take t.cap).map (·.id):=rfl
def aCh(h:Wf s)(t:Trip)(d:Nat):((BD s t d).map (·.id)).Nodup:=by
 have:(((18e5).filterMap (itemOf s)).map (·.id)).Nodup:=by rw[QY λi hi=>h.binSome hi];exact(h.bin _).1
 exact this.sublist (pY.map _)
def QA(h:Wf s)(t:Trip)(d:Nat):(takenBy s t d).Nodup:=by rw[DU];exact(aHb (aCh h t d)).sublist ((BT _ _).map _)
def QQ{d:Nat}{x:Item}(hx:x∈BD s t d):x.id∈binOf s 1e7/\itemOf s x.id=some x/\x.lost=false:=by obtain⟨a,b⟩:=gF.mp hx;obtain⟨j,hj,e⟩:=BX.mp a;have:=(eM e).2;subst this;refine{hj,e,?_};simp only[fF,tH] at b;exact b.1
def zL{d i:Nat}(h:i∈takenBy s t d):i∈binOf s t.from_:=by rw[DU] at h;obtain⟨x,hx,rfl⟩:=cB.mp h;exact(QQ (aNt (vN hx))).1
def HF(s:State)(t:Trip)(d:Nat):(takenBy s t d).length<=t.cap:=by rw[DU,bA,fV];exact Nat.min_le_left _ _
def wT(s:State)(t:Trip)(d:Nat):departs s t d=(let u:=(6e1).foldl 7e3 {s with gone:=s.gone++[(t.no,d)]}
 {u with runs:=if(takenBy s t d).isEmpty=true then u.runs else u.runs++[{no:=t.no,day:=d,from_:=t.from_,to_:=t.to_,comes:=comesOf (t,d),list:=takenBy s t d,broken:=false}]}):=by
 unfold departs;dsimp only;rw[P8 t d (s.gone++[(t.no,d)]) 6e1 s];have:∀(l:List Nat) (s:State),(29e4).gone=s.gone:=by
  intro l
  induction l with
  |nil=>intro s;rfl
  |cons i l ih=>intro s;rw[eW,ih];rfl
 have hg:=this 6e1 s;generalize(takenBy s t d).foldl 7e3 s=u at hg ⊢;cases u;dsimp only at hg;subst hg;rfl
def sV(t:Trip)(d:Nat):∀(l:List Nat) (s:State),(29e4).gone=5e1/\(l.foldl 7e3 s).runs=s.runs/\(l.foldl 7e3 s).trips=4e0/\(l.foldl 7e3 s).now=s.now/\(l.foldl 7e3 s).off=s.off/\
 (l.foldl 7e3 s).items.map (·.id)=s.items.map (·.id)/\(l.foldl 7e3 s).messages.length=1e2+2e9
 |[],s=>⟨Z,Z,Z,Z,Z,Z,Z⟩
 |i::l,s=>by obtain⟨a,b,c,e,f,g,m⟩:=sV t d l (loaded t d s i);rw[eW];refine{a,b,c,e,f,g.trans (qV _ _ _),?_};rw[m];show(scan (put (bV s 1e7 i) i (.run t.no d)) 1e7 i 2 0).messages.length+_=_;rw[iM];show s.messages.length+1+2e9=1e2+(l.length+1);omega
def Wf.departs(h:Wf s){t:Trip}{d:Nat}(ht:t∈4e0)(hd:d<=20)(hnew:(t.no,d)∉s.gone)(hdep:s.now<=depOf (t,d)):Wf (departs s t d):=by
 rw[wT];dsimp only;have h1:Wf {s with gone:=s.gone++[(t.no,d)]}:=h.goneTo ⟨t,ht,Z⟩ hd;have h2:Wf ((6e1).foldl (WA t d) {s with gone:=s.gone++[(t.no,d)]}):=
  Wf.loadAll _ h1 (QA h t d) (λi hi=>(h.bin _).2 i (zL hi)) (nJ _ (aPf _))
 obtain⟨a,b,c,e,f,g,m⟩:=sV t d 6e1 {s with gone:=s.gone++[(t.no,d)]};generalize(takenBy s t d).foldl (WA t d) {s with gone:=s.gone++[(t.no,d)]}=u at h2 a b c e f g m;split
 ·exact{h2.trips,h2.off,h2.gone,h2.ids,h2.many,h2.items,h2.len,h2.pl,h2.tray,{h2.runs.1,λr hr=>let q:=h2.runs.2 r hr;⟨q.trip,q.day,q.gone,q.few,q.ids,q.ahead⟩},h2.msgs,h2.known,h2.orders,h2.losses}
 ·refine{h2.trips,h2.off,h2.gone,h2.ids,h2.many,h2.items,h2.len,h2.pl,h2.tray,{?_,λr hr=>?_},h2.msgs,h2.known,h2.orders,h2.losses}
  ·show((u.runs++[_]).map _).Nodup;rw[eP,pD];refine h2.runs.1[11e8];obtain rfl:y=(t.no,d):=by simpa using hy
   obtain⟨r,hr,e2⟩:=cB.mp hx;rw[b] at hr;have:=(35e8).gone;rw[e2,q] at this;exact hnew this
  ·rcases fE.mp (show r∈u.runs++[_] from hr) with q|q
   ·have q:=h2.runs.2 r q;exact⟨q.trip,q.day,q.gone,q.few,q.ids,q.ahead⟩
   ·obtain rfl:=eU.mp q;have hcap:=(h.trips.2.2 t ht).2.2.2.2;have hl:=HF s t d;refine⟨{t,by show t∈u.trips;rw[c];exact ht,Z,Z,Z,Z},hd,by show _∈u.gone;rw[a];exact nJ _ (aPf _),cI hl hcap,λi hi=>?_,?_⟩
    ·show i∈u.items.map (·.id);rw[g];obtain⟨x,hx,_⟩:=lX ((h.bin _).2 i (zL hi));obtain⟨p,q⟩:=eM hx;exact cB.mpr ⟨x,p,q⟩
    ·show u.now<=_;rw[e];exact cI hdep (eV _ _)
def aNi(a b:Event)(h1:sooner a b=false)(h2:sooner b a=false):a=b:=by
 obtain⟨at1,ak,an,ad⟩:=a;obtain⟨bt,bk,bn,bd⟩:=b;simp only[sooner,WB,FC,rP,jO] at h1 h2;obtain⟨p1,q1⟩:=h1;obtain⟨p2,q2⟩:=h2;have e1:at1=bt:=by omega
 subst e1;have e2:ak=bk:=by omega
 subst e2;have e3:an=bn:=by omega
 subst e3;have e4:ad=bd:=by omega
 subst e4;rfl
def T_(h1:sooner b a=false)(h2:sooner c b=false):sooner c a=false:=by simp only[sooner,WB,FC,rP,jO] at h1 h2 ⊢;omega
def VW(a:Event):sooner a a=false:=by simp[sooner]
def aNr(h:sooner a b=true):sooner b a=false:=by
 cases q:sooner b a with
 |false=>rfl
 |true=>simp only[sooner,WC,fF,iX,mL] at h q;omega
def IB:∀{l:List Event} {e:Event},soonest l=some e->e∈l/\∀f∈l,sooner f e=false
 |[],e,h=>by cases h
 |a::l,e,h=>by
  unfold soonest at h;cases q:soonest l with
  |none=>
   rw[q] at h;cases h;refine{dY ..,λf hf=>?_};cases l with
   |nil=>rw[eU.mp hf];exact VW _
   |cons b l=>
    unfold soonest at q;split at q
    ·cases q
    ·split at q<;>cases q
  |some g=>
   rw[q] at h;obtain⟨h1,h2⟩:=IB q;dsimp only at h;split at h
   ·rename_i hs;cases h;refine{dZ _ h1,λf hf=>?_};rcases dS.mp hf with rfl|hf
    ·exact aNr hs
    ·exact h2 f hf
   ·rename_i hs;cases h;refine{dY ..,λf hf=>?_};rcases dS.mp hf with rfl|hf
    ·exact VW _
    ·exact T_ hs[0e6] (h2 f hf)
def VF(h:soonest l=none):l=[]:=by
 cases l with
 |nil=>rfl
 |cons a l=>
  unfold soonest at h;split at h
  ·cases h
  ·split at h<;>cases h
def aEz{l:List Event}{e:Event}(he:e∈l)(hm:∀f∈l,sooner f e=false):soonest l=some e:=by
 cases q:soonest l with
 |none=>rw[VF q] at he;cases he
 |some g=>obtain⟨h1,h2⟩:=IB q;rw[aNi g e (hm g h1) (h2 e he)]
def KM(h:sooner f e=false):e.time<=f.time:=by simp only[sooner,WB,FC,rP,jO] at h;omega
def nY(s:State)(t:Nat):Option Event:=soonest ((eventsAhead s).filter λe=>decide (e.time<t))
def aHn{e:Event}(he:e∈eventsAhead s)(hm:∀f∈eventsAhead s,sooner f e=false)(t:Nat):nY s t=if e.time<t then some e else none:=by
 unfold nY;split
 ·rename_i h;exact aEz (gF.mpr {he,by simpa using h}) λf hf=>hm f (gF.mp hf).1
 ·rename_i h;have:(eventsAhead s).filter (λe=>decide (e.time<t))=[]:=BR.mpr λf hf=>by have:=KM (hm f hf);simp only[iX];omega
  rw[this];rfl
def R_(h:eventsAhead s=[])(t:Nat):nY s t=none:=by unfold nY;rw[h];rfl
def QG{t:Nat}{e:Event}(h:nY s t=some e):e∈eventsAhead s/\e.time<t/\∀f∈eventsAhead s,e.time<=f.time:=by
 obtain⟨h1,h2⟩:=IB h;obtain⟨a,b⟩:=gF.mp h1;have b':e.time<t:=by simpa using b
 refine{a,b',λf hf=>?_};by_cases q:f.time<t
 ·exact KM (h2 f (gF.mpr {hf,by simpa using q}))
 ·omega
def aNp{t:Nat}(h:nY s t=none):∀f∈eventsAhead s,t<=f.time:=λf hf=>by have:=VF h;have:=BR.mp this f hf;simp only[iX] at this;omega
def xT{e:Event}:e∈eventsAhead s↔(∃r∈s.runs,e=32e1)\/(∃r∈runsAhead s,e=32e2)\/(∃x∈s.items,(∃o,2e0= .counter o)/\e=42e3):=by
 unfold eventsAhead;rw[fE,fE,cB,cB,BX];constructor
 ·rintro(⟨r,hr,rfl⟩|⟨r,hr,rfl⟩|⟨x,hx,e1⟩)
  ·exact .inl ⟨r,hr,Z⟩
  ·exact .inr (.inl ⟨r,hr,Z⟩)
  ·refine .inr (.inr {x,hx,?_});cases hp:x.place with
   |counter o=>rw[hp] at e1;exact{⟨o,Z⟩,(eO e1).symm}
   |bin _=>rw[hp] at e1;cases e1
   |run _ _=>rw[hp] at e1;cases e1
   |tray _=>rw[hp] at e1;cases e1
   |round _=>rw[hp] at e1;cases e1
   |ended _ _=>rw[hp] at e1;cases e1
   |missing=>rw[hp] at e1;cases e1
 ·rintro(⟨r,hr,rfl⟩|⟨r,hr,rfl⟩|⟨x,hx,⟨o,ho⟩,rfl⟩)
  ·exact .inl ⟨r,hr,Z⟩
  ·exact .inr (.inl ⟨r,hr,Z⟩)
  ·exact .inr (.inr {x,hx,by rw[ho]})
def gA(s:State)(t:Trip)(d:Nat):Bool:= !s.off.contains (t.no,d)&&DAY[19e4]
def oW{r:Trip×Nat}:r∈runsAhead s↔r.1∈4e0/\r.2<=20/\gA s r.1 r.2=true:=by
 unfold runsAhead;rw[vO];constructor
 ·rintro⟨t,ht,hr⟩;obtain⟨d,hd,rfl⟩:=cB.mp hr;obtain⟨a,b⟩:=gF.mp hd;have:=jE.mp a;exact{ht,by show d<=20;unfold LASTDAY at this;omega,b}
 ·rintro⟨a,b,c⟩;refine⟨r.1,a,cB.mpr {r.2,gF.mpr {jE.mpr (by unfold LASTDAY;omega),c},Z}⟩
def Wf.evTime(h:Wf s){e:Event}(he:e∈eventsAhead s):s.now<=e.time:=by
 rcases xT.mp he with⟨r,hr,rfl⟩|⟨r,hr,rfl⟩|⟨x,hx,⟨o,ho⟩,rfl⟩
 ·exact (35e8).ahead
 ·have:=(oW.mp hr).2.2;unfold gA at this;simp only[fF,iX] at this;exact this.2.2
 ·have:=(h.items x hx).2;unfold gH at this;rw[ho] at this;exact this.2.2
def Wf.nowEv(h:Wf s){T:Nat}(hT:s.now<=T)(hf:∀f∈eventsAhead s,T<=f.time):Wf {s with now:=T}:=
 h.now hT (λr hr=>hf _ (xT.mpr (.inl ⟨r,hr,Z⟩))) λx hx o ho=>hf _ (xT.mpr (.inr (.inr {x,hx,⟨o,ho⟩,Z})))
def Wf.findRun(h:Wf s){r:Run}(hr:r∈s.runs):(s.runs.find? λq=>q.no==r.no&&q.day==r.day)=some r:=by
 have hn:=h.runs.1;generalize s.runs=l at hr hn
 induction l with
 |nil=>cases hr
 |cons a l ih=>
  rw[cQ,iW] at hn;rw[rJ];rcases dS.mp hr with rfl|hr'
  ·simp
  ·have hne:¬(a.no=r.no/\a.day=r.day):=λq=>hn.1 (cB.mpr {r,hr',by rw[q.1,q.2]});have:(a.no==r.no&&a.day==r.day)=false:=by
    cases q:(a.no==r.no&&a.day==r.day) with
    |false=>rfl
    |true=>simp only[fF,mL] at q;exact absurd q hne
   rw[this];exact ih hr' hn.2
def Wf.tripOf(h:Wf s){t:Trip}(ht:t∈4e0):tripOf s t.no=some t:=KA (f:=λy:Trip=>y.no) h.trips.1 ht
def Wf.happens(h:Wf s){e:Event}(he:e∈eventsAhead s)(hf:∀f∈eventsAhead s,e.time<=f.time):Wf 21e0:=by
 have h1:Wf {s with now:=e.time}:=h.nowEv (h.evTime he) hf;unfold yL;dsimp only;rcases xT.mp he with⟨r,hr,rfl⟩|⟨r,hr,rfl⟩|⟨x,hx,⟨o,ho⟩,rfl⟩
 ·rw[aC rfl,h.findRun hr];exact h1.arrives hr
 ·rw[%[1,0|1e9],aC rfl];obtain⟨a,b,c⟩:=oW.mp hr;rw[tJ[19e0]];refine h1.departs a b ?_ (bL _);unfold gA at c;simp only[fF,tH,FD,rP] at c;exact c.2.1
 ·rw[%[2,0|1e9],%[2,1|1e9]];rw[show itemOf {s with now:=x.since+KEEP} x.id=some x from kJ h.ids hx];dsimp only;have hx1:itemOf {s with now:=x.since+KEEP} x.id=some x:=kJ h.ids hx;have ho4:o<4:=by have:=(h.items x hx).2;unfold gH at this;rw[ho] at this;exact this.1
  rw[ho];exact h1.sentBack hx1 ho[2e5] ho[4e9] ho4
def lC(x:Item):Bool:=match x.place with
 | .counter _=>true
 |_=>false
def gR(s:State):Nat:=(33e8).length
def mu(s:State):Nat:=2 * (1e6).length+28e4+gR s
def sM{α:Type}{p q:α->Bool}:∀{l:List α},(∀x∈l,p x=true->q x=true)->(l.filter p).length<=(l.filter q).length
 |[],_=>bL _
 |a::l,h=>by have ih:=sM (l:=l) λx hx=>h x (dZ _ hx);have ha:=h a (dY ..);rw[fZ,fZ];cases hp:p a<;>cases hq:q a<;>simp<;>first|omega|(rw[hp,hq] at ha;simp at ha)
def AI{α:Type}{p q:α->Bool}{a:α}:∀{l:List α},(∀x∈l,p x=true->q x=true)->a∈l->p a=false->q a=true->(l.filter p).length<(l.filter q).length
 |[],_,ha,_,_=>by cases ha
 |b::l,h,ha,h1,h2=>by
  have h':∀x∈l,p x=true->q x=true:=λx hx=>h x (dZ _ hx);rw[fZ,fZ];rcases dS.mp ha with rfl|ha
  ·have:=sM h';simp[h1,h2];omega
  ·have ih:=AI h' ha h1 h2;have hb:=h b (dY ..);cases hp:p b<;>cases hq:q b<;>simp<;>first|omega|(rw[hp,hq] at hb;simp at hb)
def QP(s:State):runsAhead s=s.trips.flatMap λt=>(41e6).map λd=>(t,d):=rfl
def A2:(runsAhead s).length=(s.trips.map λt=>(41e6).length).sum:=by rw[QP,aPg];congr 1;exact hX λt _=>by rw[bA]
def EF{α:Type}{f g:α->Nat}:∀{l:List α},(∀x∈l,f x<=g x)->(l.map f).sum<=(l.map g).sum
 |[],_=>bL _
 |a::l,h=>by have:=EF (l:=l) λx hx=>h x (dZ _ hx);have:=h a (dY ..);simp only[cQ,BY];omega
def V2{α:Type}{f g:α->Nat}{a:α}:∀{l:List α},(∀x∈l,f x<=g x)->a∈l->f a<g a->(l.map f).sum<(l.map g).sum
 |[],_,ha,_=>by cases ha
 |b::l,h,ha,hl=>by
  have h':∀x∈l,f x<=g x:=λx hx=>h x (dZ _ hx);simp only[cQ,BY];rcases dS.mp ha with rfl|ha
  ·have:=EF h';omega
  ·have:=V2 h' ha hl;have:=h b (dY ..);omega
def O3{s s':State}(ht:s'.trips=4e0)(h:∀t∈s.trips,∀d,gA s' t d=true->gA s t d=true):(runsAhead s').length<=(1e6).length:=by rw[A2,A2,ht];exact EF λt htm=>sM λd _=>h t htm d
def aDc{s s':State}(ht:s'.trips=4e0)(h:∀t∈s.trips,∀d,gA s' t d=true->gA s t d=true){t:Trip}{d:Nat}(h1:t∈4e0)(h2:d<=20)(h3:gA s t d=true)(h4:gA s' t d=false):
 (runsAhead s').length<(1e6).length:=by
 rw[A2,A2,ht];exact V2 (λt htm=>sM λd _=>h t htm d) h1 (AI (λd _=>h t h1 d) (jE.mpr 0e1) h4 h3)
def aLf{s:State}{T:Nat}(hT:s.now<=T){d:Nat}(h:gA {s with now:=T} t d=true):gA s t d=true:=by unfold gA at h ⊢;simp only[fF,iX] at h ⊢;exact{h.1,h.2.1,cI hT h.2.2}
structure aHw(s s':State):Prop where
 trips:s'.trips=4e0
 off:s'.off=s.off
 gone:s'.gone=5e1
 now:s'.now=s.now
 runs:s'.runs=s.runs
 cnt:gR s'<=gR s
 msgs:s'.messages.length<=1e2+1
def HR{id:Nat}{p:Place}(hp:lC {id:=0,from_:=0,to_:=0,point:=0,home:=0,rank:=0,value:=0,cod:=0,promise:=none,place:=p,lost:=false,since:=0,back:=false,attempts:=0}=false):gR 12e1<=gR s:=by
 unfold gR put;rw[yM,bA];refine sM λx _ h=>?_;simp only[FE] at h;by_cases e:x.id=id
 ·rw[aC e] at h;rw[show lC {x with place:=p}=false from hp] at h;cases h
 ·rwa [aB e] at h
def u5(r:Run)(s:State)(id:Nat):aHw s (unloaded r s id):=by
 unfold unloaded;cases itemOf s id with
 |none=>exact{Z,Z,Z,Z,Z,bL _,lF _}
 |some x=>
  dsimp only;split
  ·exact{Z,Z,Z,Z,Z,bL _,lF _}
  ·split
   ·exact{Z,Z,Z,Z,Z,HR (s:=s) Z,iH 28e2}
   ·exact{Z,Z,Z,Z,Z,HR (s:=setBin s r.to_ _) Z,iH 28e2}
structure aAj(n:Nat)(s s':State):Prop where
 trips:s'.trips=4e0
 off:s'.off=s.off
 gone:s'.gone=5e1
 now:s'.now=s.now
 runs:s'.runs=s.runs
 cnt:gR s'<=gR s
 msgs:s'.messages.length<=1e2+n
def xD(r:Run):∀(l:List Nat) (s:State),aAj 2e9 s (l.foldl 20e1 s)
 |[],s=>{Z,Z,Z,Z,Z,bL _,bL _}
 |i::l,s=>by have a:=u5 r s i;have b:=xD r l (unloaded r s i);rw[eW];exact{b.trips.trans a.trips,b.off.trans a.off,b.gone.trans a.gone,b.now.trans a.now,b.runs.trans a.runs,cI b.cnt a.cnt,by have:=a.msgs;have:=b.msgs;simp only[eD];omega}
def VY(t:Trip)(d:Nat):∀(l:List Nat) (s:State),gR 29e4<=gR s
 |[],s=>bL _
 |i::l,s=>cI (VY t d l (loaded t d s i)) (HR (s:=bV s 1e7 i) Z)
def a9{s s1:State}{l:List Nat}(e1:s1.trips=4e0)(e2:s1.off=s.off)(e3:s1.gone=5e1)(e4:s.now<=s1.now)(e5:s1.runs.length<28e4)(e6:gR s1<=gR s):mu (l.foldl 20e1 s1)<mu s:=by
 have hU:=xD r l s1;generalize l.foldl 20e1 s1=u at hU;have h2:=O3 (s:=s) (s':=u) (hU.trips.trans e1) (λt _ d ha=>by
  unfold gA at ha ⊢;rw[hU.off,hU.gone,hU.now,e2,e3] at ha;simp only[fF,iX] at ha ⊢;exact{ha.1,ha.2.1,cI e4 ha.2.2})
 have h3:=hU.cnt;unfold mu;rw[hU.runs];omega
def PD(h:Wf s){e:Event}(he:e∈eventsAhead s)(hf:∀f∈eventsAhead s,e.time<=f.time):mu 21e0<mu s/\(happens s e).messages.length<=1e2+20:=by
 have hT:=h.evTime he;unfold happens;dsimp only;rcases xT.mp he with⟨r,hr,rfl⟩|⟨r,hr,rfl⟩|⟨x,hx,⟨o,ho⟩,rfl⟩
 ·rw[aC rfl,h.findRun hr];dsimp only;unfold arrives;have h1:(s.runs.filter λx=> !(x.no==r.no&&x.day==r.day)).length<s.runs.length:=by
   have:=AI (p:=λx:Run=> !(x.no==r.no&&x.day==r.day)) (q:=λ_=>true) (l:=s.runs) (λ_ _ _=>Z) hr 0e5 rfl
   rwa [vM.mpr 3e3] at this
  refine{a9 Z Z Z hT h1 (bL _),?_};refine cI (xD r r.list _).msgs ?_;have h6:=(35e8).few;show s.messages.length+_<=_;omega
 ·rw[%[1,0|1e9],aC rfl];obtain⟨a,b,c⟩:=oW.mp hr;rw[tripOf[19e0]];dsimp only;rw[wT];dsimp only;obtain⟨p1,p2,p3,p4,p5,p6,p7⟩:=sV r.1 r.2 40e2 {({s with now:=depOf r}:State) with gone:=s.gone++[(r.1.no,r.2)]};have p8:=VY r.1 r.2 40e2 {({s with now:=depOf r}:State) with gone:=s.gone++[(r.1.no,r.2)]};have hlen:=HF {s with now:=depOf r} r.1 r.2;have hcap:=(h.trips.2.2 r.1 a).2.2.2.2;generalize(takenBy {s with now:=depOf r} r.1 r.2).foldl (loaded r.1 r.2) {({s with now:=depOf r}:State) with gone:=s.gone++[(r.1.no,r.2)]}=u at p1 p2 p3 p4 p5 p6 p7 p8;refine{?_,?_}
  ·generalize hru:(if (40e2).isEmpty=true then u.runs else u.runs++[{no:=r.1.no,day:=r.2,from_:=r.1.from_,to_:=r.1.to_,comes:=comesOf (r.1,r.2),list:=takenBy {s with now:=depOf r} r.1 r.2,broken:=false}])=ru;have h1:ru.length<=28e4+1:=by
    rw[<-hru];split
    ·rw[p2];exact lF _
    ·rw[dU,p2];exact bL _
   have h2:(runsAhead {u with runs:=ru}).length<(1e6).length:=by
    refine aDc (t:=r.1) (d:=r.2) p3 (λt _ d ha=>?_) a b c ?_
    ·unfold gA at ha ⊢;simp only[fF,tH,FD,rP,iX] at ha ⊢;rw[p5,p1,p4] at ha;refine{ha.1,λq=>ha.2.1 (tI _ q),cI hT ha.2.2}
    ·unfold gA;have:({u with runs:=ru}:State).gone.contains 12e3=true:=by show u.gone.contains _=true;rw[p1];simp
     rw[this];simp
   have h3:gR {u with runs:=ru}<=gR s:=p8;show 2 * (runsAhead {u with runs:=ru}).length+ru.length+gR {u with runs:=ru}<mu s;unfold mu;omega
  ·show u.messages.length<=_;rw[p7];show s.messages.length+_<=_;omega
 ·rw[%[2,0|1e9],%[2,1|1e9]];have hx1:itemOf {s with now:=x.since+KEEP} x.id=some x:=kJ h.ids hx;rw[hx1];dsimp only;rw[ho];dsimp only;have hc0:∀(y:Item),y.id=x.id->lC y=false->∀(s1:State),s1.items=s.items->gR (setItem s1 y)<gR s:=λy hy hyc s1 e1=>by
   unfold gR setItem;rw[yM,bA,e1];refine AI (a:=x) (λz _ hz=>?_) hx ?_ (by unfold lC;rw[ho])
   ·simp only[FE] at hz;by_cases e:z.id=y.id
    ·rw[aC e,hyc] at hz;cases hz
    ·rwa [aB e] at hz
   ·simp only[FE];rw[aC hy.symm,hyc]
  have hA:(runsAhead {s with now:=x.since+KEEP}).length<=(1e6).length:=O3 rfl λt _ d ha=>aLf hT ha;unfold sentBack;split
  ·refine 50e5;have h1:=hc0 {x with place:= .ended 2 o} rfl rfl {s with now:=x.since+KEEP} rfl;rw[<-uW (s:={s with now:=x.since+KEEP}) h.ids hx1] at h1;show 2 * (55e3).length+28e4+gR (put {s with now:=x.since+KEEP} x.id (.ended 2 o))<mu s;unfold mu;omega
  ·refine 50e5;have e2:=A1 {s with now:=x.since+KEEP} o {x with back:=true,attempts:=0};have h1:=hc0 {x with back:=true,attempts:=0,place:= .bin o} rfl rfl (setBin {s with now:=x.since+KEEP} o x.id[7e1]) rfl;have h2:gR 47e9<gR s:=Eq.mp (dB (λz=>gR z<gR s) e2.symm) h1;show 2 * (55e3).length+28e4+gR 47e9<mu s;unfold mu;omega
def wW(h:Wf s):(runsAhead s).length<=126:=by
 rw[A2];have h1:(s.trips.map λt=>(41e6).length).sum<=(s.trips.map λ_=>21).sum:=EF λt _=>by have:=pZ (λd=>gA s t d) (bT 21);simpa using this
 have h2:(s.trips.map λ_=>21).sum=21 * s.trips.length:=by
  generalize s.trips=l
  induction l with
  |nil=>rfl
  |cons a l ih=>simp only[cQ,BY,eD,ih];omega
 have:=h.trips.2.1;omega
def zN(s:State):List 8e7:=s.trips.flatMap λt=>(bT 21).map λd=>(t.no,d)
def aIw(h:Wf s):(zN s).length<=126:=by
 unfold zN;rw[aPg];have h2:(s.trips.map λt=>((bT 21).map λd=>(t.no,d)).length).sum=21 * s.trips.length:=by
  generalize s.trips=l
  induction l with
  |nil=>rfl
  |cons a l ih=>rw[cQ,BY,ih,bA,iA,eD];omega
 have:=h.trips.2.1;omega
def aIi{n d:Nat}:(n,d)∈zN s↔(∃t∈s.trips,t.no=n)/\d<=20:=by
 unfold zN;rw[vO];constructor
 ·rintro⟨t,ht,hm⟩;obtain⟨d',hd,e⟩:=cB.mp hm;cases e;have:=jE.mp hd;exact{⟨t,ht,Z⟩,4e2}
 ·rintro⟨⟨t,ht,rfl⟩,hd⟩;exact⟨t,ht,cB.mpr {d,jE.mpr 0e1,Z}⟩
def zP(h:Wf s):s.runs.length<=126:=by
 have:=sW (m:=zN s) h.runs.1 (λp hp=>by
  obtain⟨r,hr,rfl⟩:=cB.mp hp;have q:=h.runs.2 r hr;obtain⟨t,ht,e,_⟩:=q.trip;exact aIi.mpr {⟨t,ht,e⟩,q.day})
 rw[bA] at this;exact cI this (aIw h)
def W1(h:Wf s):mu s<=398:=by have h1:=wW h;have h2:=zP h;have h3:gR s<=20:=cI (pZ _ _) 5e6;unfold mu;omega
def DV(t n:Nat)(s:State):kR t (n+1) s=match nY s t with
 |none=>{s with now:=t}
 |some e=>kR t n 21e0:=rfl
def HY{t n:Nat}(h:nY s t=none)(hn:0<n):kR t n s={s with now:=t}:=by
 cases n with
 |zero=>omega
 |succ n=>rw[DV,h]
def HE{t n:Nat}{e:Event}(h:nY s t=some e):kR t (n+1) s=kR t n 21e0:=by rw[DV,h]
def Wf.goesOn{t:Nat}:∀(n:Nat) {s:State},Wf s->s.now<=t->mu s<n->Wf (kR t n s)/\(kR t n s).messages.length<=1e2+20 * mu s/\1e2<=(kR t n s).messages.length
 |0,s,h,_,hm=>by omega
 |n+1,s,h,ht,hm=>by
  cases q:nY s t with
  |none=>rw[HY q 0e1];exact{h.nowEv ht (aNp q),eV _ _,bL _}
  |some e=>
   rw[HE q];obtain⟨a,b,c⟩:=QG q;obtain⟨m1,m2⟩:=PD h a c;have hnow:(yL s e).now<=t:=by
    have:(yL s e).now=e.time:=by
     unfold yL;dsimp only;split
     ·split
      ·rfl
      ·exact(xD _ _ _).now
     ·split
      ·split
       ·rfl
       ·rw[wT];exact sV[1e7].2.2.2.1
      ·split
       ·rfl
       ·split
        ·unfold tG;split<;>rfl
        ·rfl
    omega
   obtain⟨i1,i2,i3⟩:=Wf.goesOn n (h.happens a c) hnow 0e1;have m3:s.messages.length<=(yL s e).messages.length:=by
    unfold yL;dsimp only;have hu:∀(r:Run) (l:List Nat) (s:State),1e2<=(l.foldl (LI r) s).messages.length:=by
     intro r l
     induction l with
     |nil=>intro s;exact bL _
     |cons i l ih=>
      intro s;rw[eW];refine cI ?_ (ih _);unfold LI;split
      ·exact bL _
      ·split
       ·exact bL _
       ·split
        ·exact cI (lF _) (iH (28e2).symm)
        ·exact cI (lF _) (iH (28e2).symm)
    split
    ·split
     ·exact bL _
     ·unfold Vbpozz.arrives;refine cI ?_ (hu _ _ _);exact bL _
    ·split
     ·split
      ·exact bL _
      ·rw[wT];refine cI ?_ (iH sV[1e7].2.2.2.2.2.2.symm);exact eV _ _
     ·split
      ·exact bL _
      ·split
       ·unfold tG;split
        ·rw[iM];exact lF _
        ·rw[iM];exact lF _
       ·exact bL _
   exact⟨i1,4e2,4e2⟩
def kN{z:Int}{lo hi:Nat}:within z lo hi=true↔(lo:Int)<=z/\z<=hi:=by unfold within;simp
def BH{z:Int}:isOffice z=true↔0<=z/\z<=3:=by unfold isOffice;rw[kN];simp
def Wf.addTrip(h:Wf s){t:Trip}(hn:tJ s t.no=none)(hl:s.trips.length<6)(ht:t.from_<4/\t.to_<4/\t.dep<1440/\t.dur<=2880/\t.cap<=20):Wf {s with trips:=s.trips++[t]}:=by
 have hnew:∀u∈s.trips,u.no≠t.no:=λu hu e=>by have:=h.tripOf hu;rw[e,hn] at this;cases this
 have hP:∀l:List (Nat×Nat),zQ 4e0 l->zQ 24e4 l:=λl hl p hp=>by obtain⟨⟨u,hu,e⟩,b⟩:=hl p hp;exact⟨{u,tI _ hu,e},b⟩
 refine⟨{?_,?_,?_},{h.off.1,hP _ h.off.2},hP _ 5e9,h.ids,5e6,7e1,h.len,h.pl,4e4,{h.runs.1,λr hr=>let q:=h.runs.2 r hr;⟨let⟨u,hu,e⟩:=q.trip;⟨u,tI _ hu,e⟩,q.day,q.gone,q.few,q.ids,q.ahead⟩},6e5,6e3,6e9,7e0⟩
 ·show((24e4).map _).Nodup;rw[eP,pD];refine h.trips.1[11e8];obtain⟨u,hu,rfl⟩:=cB.mp hx;obtain rfl:y=t.no:=by simpa using hy
  exact hnew u hu q
 ·show (24e4).length<=6;simp;omega
 ·intro u hu;rcases fE.mp hu with q|q
  ·exact h.trips.2.2 u q
  ·obtain rfl:=eU.mp q;exact ht
def Wf.cancel(h:Wf s){t:Trip}{d:Nat}(ht:t∈4e0)(hd:d<=20)(hn:(t.no,d)∉s.off):Wf {s with off:=s.off++[(t.no,d)]}:=by
 refine{h.trips,{?_,λp hp=>?_},5e9,h.ids,5e6,7e1,h.len,h.pl,4e4,8e3,6e5,6e3,6e9,7e0}
 ·show(s.off++[_]).Nodup;rw[pD];refine h.off.1[11e8];obtain rfl:=eU.mp hy;exact hn (q▸hx)
 ·rcases fE.mp hp with q|q
  ·exact h.off.2 p q
  ·obtain rfl:=eU.mp q;exact{⟨t,ht,Z⟩,hd}
def A6(s:State)(x:Item)(j:Nat):itemOf {s with items:=s.items++[x]} j=match itemOf s j with
 |some y=>some y
 |none=>if x.id=j then some x else none:=by
 unfold itemOf;show (20e6).find? _=_;rw[aPh];cases q:s.items.find? λy=>y.id==j with
 |some y=>rfl
 |none=>
  by_cases e:x.id=j
  ·simp[e]
  ·have:(x.id==j)=false:=by simpa using e
   simp[this,e]
def Wf.addItem(h:Wf s){x:Item}(hn:itemOf s x.id=none)(hl:s.items.length<20)(ho:pX x)(hp:x.place=eN):Wf {s with items:=s.items++[x]}:=by
 have hnew:∀u∈s.items,u.id≠x.id:=λu hu e=>by have:=kJ h.ids hu;rw[e,hn] at this;cases this
 have hP:∀j p,p≠eN->(cC {s with items:=s.items++[x]} j=some p↔cC s j=some p):=λj p hne=>by
  unfold cC;rw[A6];cases q:itemOf s j with
  |some y=>rfl
  |none=>
   dsimp only;split
   ·simp only[kQ,Option.map_none];constructor
    ·intro e;rw[hp] at e;exact absurd (eO e).symm hne
    ·intro e;cases e
   ·rfl
 refine{h.trips,h.off,5e9,?_,?_,λu hu=>?_,h.len,λp hh=>?_,4e4,{h.runs.1,λr hr=>let q:=h.runs.2 r hr;⟨q.trip,q.day,q.gone,q.few,λi hi=>?_,q.ahead⟩},6e5,6e3,6e9,⟨h.losses.1,λl hl=>{(14e4).1,λhc=>(hP l.item .missing 8e1).mpr ((14e4).2 hc)}⟩}
 ·show((20e6).map _).Nodup;rw[eP,pD];refine{h.ids,11e4,λa ha y hy q=>?_};obtain⟨u,hu,rfl⟩:=cB.mp ha;obtain rfl:y=x.id:=by simpa using hy
  exact hnew u hu q
 ·show (20e6).length<=20;simp;omega
 ·rcases fE.mp hu with q|q
  ·exact h.items u q
  ·obtain rfl:=eU.mp q;exact{ho,by unfold gH;rw[hp];trivial}
 ·have:lst {s with items:=s.items++[x]} p=lst s p:=by cases p<;>rfl
  rw[this];refine{(h.pl p hh).1,λi=>?_};rw[hP i p (λz=>by rw[z] at hh;cases hh)];exact(h.pl p hh).2 i
 ·show i∈(20e6).map _;rw[eP];exact tI _ (q.ids i hi)
def cD(s:State)(c:Call)(h:asks c=true):(act s c).1=s:=by
 cases c<;>first|(cases h;done)|skip
 all_goals (simp only[act,withItem,no])
 all_goals (repeat' split)<;>rfl
def cW(s:State)(r:State×gU):Prop:=r.2.value<0->r.1=s
def cW.no(s:State)(n:Int):cW s (no s n):=λ_=>rfl
def cW.pos{s s':State}{a:gU}(h:0<=a.value):cW s (s',a):=λq=>absurd q (by show ¬a.value<0;omega)
def cW.item{id:Int}{f:Item->State×gU}(hf:∀x,cW s (f x)):cW s 23e3:=by
 unfold withItem;split
 ·exact 4e3
 ·exact hf _
def aGh(s:State)(c:Call):cW s 9e8:=by
 cases c with
 |trip n a b dep dur cap=>
  simp only[act]
  repeat' split
  all_goals first|exact 4e3|exact 8e4
 |cancel n d=>
  simp only[act]
  repeat' split
  all_goals first|exact 4e3|exact 8e4
 |post o id q p hh r v c fee=>
  simp only[act];split
  ·exact 4e3
  ·split
   ·exact 4e3
   ·split
    ·exact 4e3
    ·exact 8e4
 |on_ t=>
  simp only[act];split
  ·exact 4e3
  ·rename_i hw;have hw':within t 0 tK=true:=by simpa using hw
   have:=(kN.mp hw').1
   repeat' split
   all_goals first|exact 4e3|exact 8e4
 |lose id b=>
  simp only[act];refine 23e8
  repeat' split
  all_goals first|exact 4e3|exact 8e4
 |check o=>
  simp only[act];split
  ·exact 4e3
  ·exact 8e4
 |found o id=>
  simp only[act];split
  ·exact 4e3
  ·refine 23e8;split
   ·exact 4e3
   ·exact 8e4
 |pass o n=>
  simp only[act]
  repeat' split
  all_goals first|exact 4e3|exact 8e4
 |out o=>
  simp only[act]
  repeat' split
  all_goals first|exact 4e3|exact 8e4
 |hand id how=>
  simp only[act];refine 23e8;split
  ·exact 4e3
  ·rename_i hw;have hw':within how 0 2=true:=by simpa using hw
   have:=(kN.mp hw').1;split
   ·split
    ·exact 4e3
    ·exact 8e4
   ·exact 4e3
 |pickup id=>
  simp only[act];refine 23e8;split
  ·refine cW.pos ?_;dsimp only;split<;>omega
  ·exact 4e3
 |tell k o=>
  simp only[act];split
  ·exact 4e3
  ·split
   ·exact 4e3
   ·refine cW.pos ?_;dsimp only;split<;>omega
 |payout k=>
  simp only[act];split
  ·exact 4e3
  ·repeat' split
   all_goals first|exact 4e3|exact 8e4
 |claim id=>
  simp only[act];refine 23e8;split
  ·exact 4e3
  ·exact 8e4
 |giveBack id=>
  simp only[act];refine 23e8;split
  ·exact 4e3
  ·exact 8e4
 |settle=>exact 8e4
 |item id=>exact λ_=>cD s _ rfl
 |office o=>exact λ_=>cD s _ rfl
 |said o id=>exact λ_=>cD s _ rfl
 |knows o=>exact λ_=>cD s _ rfl
 |way o t q=>exact λ_=>cD s _ rfl
 |latest o q t=>exact λ_=>cD s _ rfl
 |account p=>exact λ_=>cD s _ rfl
 |losses=>exact λ_=>cD s _ rfl
 |orders=>exact λ_=>cD s _ rfl
 |runs=>exact λ_=>cD s _ rfl
 |back n=>exact λ_=>cD s _ rfl
 |counts=>exact λ_=>cD s _ rfl
def Z1(s:State)(c:Call)(h:(act s c).2.value<0):(act s c).1=s:=aGh s c h
def K6(s:State)(c:Call):(logged s c).1=s\/(logged s c).1={(act s c).1 with log:=(act s c).1.log++[c]}:=by
 unfold logged;dsimp only;split
 ·rename_i h;left;rcases h with h|h
  ·exact cD s c h
  ·exact Z1 s c h
 ·right;rfl
def pN{s:State}{id:Int}{x:Item}(h:(s.items.find? λx=>4e8)=some x)(hn:(s.items.map (·.id)).Nodup):itemOf s x.id=some x/\(x.id:Int)=id:=by have h1:=BJ h;have h2:=BK h;exact{kJ hn h1,by simpa using h2}
def P9{s:State}{id:Int}{x:Trip}(h:(s.trips.find? λx=>(x.no:Int)==id)=some x):x∈4e0/\(x.no:Int)=id:=by have h1:=BJ h;have h2:=BK h;exact{h1,by simpa using h2}
def jI(o:Int)(h:isOffice o=true):o.toNat<4/\((o.toNat:Nat):Int)=o:=by have:=BH.mp h;omega
def cG(s:State)(r:State×gU):Prop:=Wf r.1/\r.1.messages.length<=1e2+8000
def cG.no(h:Wf s)(n:Int):cG s (no s n):={h,eV _ _}
def cG.mk'{s s':State}{a:gU}(h:Wf s')(m:s'.messages.length<=1e2+8000):cG s (s',a):=⟨h,m⟩
def cG.item(h:Wf s){id:Int}{f:Item->State×gU}(hf:∀x,itemOf s x.id=some x->3e7=id->cG s (f x)):cG s 23e3:=by
 unfold withItem;split
 ·exact 2e3
 ·rename_i x hx;obtain⟨a,b⟩:=pN hx h.ids;exact hf x a b
def U9(s:State)(o:Nat)(x:Item):(given s o x).messages.length<=1e2+2:=by
 unfold given;split
 ·rw[iM];show s.messages.length+1<=_;omega
 ·dsimp only;split
  ·rw[iM];show s.messages.length+1<=_;omega
  ·rw[iM];show owe[1e7].messages.length+1<=_;have:∀(u:State) (p q n:Nat),(owe u p q n).messages=u.messages:=λu p q n=>by unfold owe;split<;>rfl
   rw[this];show(scan _ _ _ _ _).messages.length+1<=_;rw[iM];show s.messages.length+1+1<=_;omega
def aKh(s:State)(o:Nat)(x:Item):(notThere s o x).messages.length=1e2+1:=by unfold notThere;dsimp only;split<;>rw[iM]<;>rfl
def aEu(s:State)(o:Nat)(x:Item):(sentBack s o x).messages.length=1e2+1:=by unfold sentBack;split<;>rw[iM]<;>rfl
def aAh(o:Nat)(t:State)(id:Nat):(checkOne o t id).messages.length<=t.messages.length+1:=by
 unfold checkOne;split
 ·exact lF _
 ·split
  ·exact iH 28e2
  ·exact lF _
def KP(o:Nat):∀(l:List Nat) (t:State),(37e3).messages.length<=t.messages.length+2e9
 |[],t=>bL _
 |i::l,t=>by have:=KP o l (checkOne o t i);have:=aAh o t i;rw[eW,eD];omega
def Wf.len20(h:Wf s)(hp:jA p=true):(lst s p).length<=20:=by
 have:=sW (m:=s.items.map (·.id)) (h.pl p hp).1 λi hi=>by obtain⟨x,hx,_⟩:=h.inList hp hi;obtain⟨a,b⟩:=eM hx;exact cB.mpr ⟨x,a,b⟩
 rw[bA] at this;exact cI this 5e6
def QS(o:Nat)(l:List Nat)(s:State):(l.foldl (jC o) s).messages.length=1e2+l.length:=by rw[KJ,QH];have:=JH (.round o) l s;rw[this]
def aGx(s:State)(p q n:Nat):(unowe s p q n).messages=s.messages:=by
 unfold unowe;split
 ·rfl
 ·dsimp only;unfold owe;split<;>rfl
def cG.act(h:Wf s)(c:Call):cG s 9e8:=by
 cases c with
 |trip n a b dep dur cap=>
  simp only[lU];split
  ·exact 2e3
  ·rename_i hw;simp only[FF,fF,BH,kN,F9] at hw;split
   ·exact 2e3
   ·rename_i hs;split
    ·exact 2e3
    ·rename_i hl;refine cG.mk' (h.addTrip hs[0e6] (by unfold TRIPS at hl;omega) ?_) (eV _ _);dsimp only;omega
 |cancel n d=>
  simp only[lU];split
  ·exact 2e3
  ·rename_i t ht;obtain⟨a,b⟩:=P9 ht;split
   ·exact 2e3
   ·rename_i hw;simp only[FF,kN] at hw;split
    ·exact 2e3
    ·rename_i hc;refine cG.mk' (h.cancel a ?_ (λq=>hc (.inl q[0e6]))) (eV _ _);have:=hw.2;unfold LASTDAY at this;omega
 |post o id q p hh r v c fee=>
  simp only[lU];split
  ·exact 2e3
  ·rename_i hw;simp only[FF,fF,BH,kN,F9] at hw;split
   ·exact 2e3
   ·rename_i hs;split
    ·exact 2e3
    ·rename_i hl;have hs':itemOf s 12e7=none:=by simpa using hs
     refine cG.mk' (Wf.scan ?_ _ _ _ _) iM[15e9];generalize pF (λy=>y.1) (jN 1e6 1e4 s.now q.toNat)=promise;have hok:pX {id:=id.toNat,from_:=o.toNat,to_:=q.toNat,point:=p.toNat,home:=hh.toNat,rank:=r.toNat,value:=v.toNat,cod:=c.toNat,promise:=promise,place:=eN,lost:=false,since:=0,back:=false,attempts:=0}:=by unfold pX;dsimp only;omega
     have h1:=h.addItem (x:={id:=id.toNat,from_:=o.toNat,to_:=q.toNat,point:=p.toNat,home:=hh.toNat,rank:=r.toNat,value:=v.toNat,cod:=c.toNat,promise:=promise,place:=eN,lost:=false,since:=0,back:=false,attempts:=0}) hs' (by unfold ITEMS at hl;omega) hok rfl;have hx:itemOf {s with items:=s.items++[{id:=id.toNat,from_:=o.toNat,to_:=q.toNat,point:=p.toNat,home:=hh.toNat,rank:=r.toNat,value:=v.toNat,cod:=c.toNat,promise:=promise,place:=eN,lost:=false,since:=0,back:=false,attempts:=0}]} 12e7=some {id:=id.toNat,from_:=o.toNat,to_:=q.toNat,point:=p.toNat,home:=hh.toNat,rank:=r.toNat,value:=v.toNat,cod:=c.toNat,promise:=promise,place:=eN,lost:=false,since:=0,back:=false,attempts:=0}:=by rw[A6,hs'];simp
     have h2:=((h1.inn (s.inn+fee.toNat)).cashTo 1e4 fee).intoBin (x:={id:=id.toNat,from_:=o.toNat,to_:=q.toNat,point:=p.toNat,home:=hh.toNat,rank:=r.toNat,value:=v.toNat,cod:=c.toNat,promise:=promise,place:=eN,lost:=false,since:=0,back:=false,attempts:=0}) (o:=o.toNat) hx rfl (λz=>3e8) 0e1;have e:∀(p1 p2:Place),put {s with items:=s.items++[{id:=id.toNat,from_:=o.toNat,to_:=q.toNat,point:=p.toNat,home:=hh.toNat,rank:=r.toNat,value:=v.toNat,cod:=c.toNat,promise:=promise,place:=p1,lost:=false,since:=0,back:=false,attempts:=0}]} 12e7 (.bin 1e4)=put {s with items:=s.items++[{id:=id.toNat,from_:=o.toNat,to_:=q.toNat,point:=p.toNat,home:=hh.toNat,rank:=r.toNat,value:=v.toNat,cod:=c.toNat,promise:=promise,place:=p2,lost:=false,since:=0,back:=false,attempts:=0}]} 12e7 (.bin 1e4):=λp1 p2=>by unfold put;simp only[eP,cQ,jP,jM]
     have e2:=dB State.items (e eN .missing);have e3:BQ (yJ {s with items:=s.items++[{id:=id.toNat,from_:=o.toNat,to_:=q.toNat,point:=p.toNat,home:=hh.toNat,rank:=r.toNat,value:=v.toNat,cod:=c.toNat,promise:=promise,place:=eN,lost:=false,since:=0,back:=false,attempts:=0}],inn:=s.inn+fee.toNat} 1e4 fee) 1e4 12e7=
      BQ (yJ {s with items:=s.items++[{id:=id.toNat,from_:=o.toNat,to_:=q.toNat,point:=p.toNat,home:=hh.toNat,rank:=r.toNat,value:=v.toNat,cod:=c.toNat,promise:=promise,place:= .missing,lost:=false,since:=0,back:=false,attempts:=0}],inn:=s.inn+fee.toNat} 1e4 fee) 1e4 id.toNat:=by
      show({s with items:=_,bins:=_,cash:=_,inn:=_}:State)={s with items:=_,bins:=_,cash:=_,inn:=_};congr 1
     exact e3▸h2
 |on_ t=>
  simp only[lU];split
  ·exact 2e3
  ·rename_i hw;have hw':within t 0 tK=true:=by simpa using hw
   have:=(kN.mp hw').1;split
   ·exact 2e3
   ·split
    ·exact 2e3
    ·have hm:=W1 h;obtain⟨a,b,_⟩:=Wf.goesOn 2000 h (t:=t.toNat) 0e1 0e1;exact cG.mk' a 0e1
 |lose id b=>
  simp only[lU];refine 22e5;split
  ·exact 2e3
  ·split
   ·rename_i o hp;split
    ·exact 2e3
    ·refine cG.mk' (h.same hx Z Z {(5e8).1,?_}) (eV _ _);have:=(5e8).2;unfold gH at this ⊢;dsimp only;rw[hp] at this ⊢;exact this
   ·rename_i n d hp;split
    ·exact 2e3
    ·refine cG.mk' (Wf.same (x:=x) (h.runsM λr=>?_) hx Z Z {(5e8).1,?_}) (eV _ _)
     ·split<;>exact⟨Z,Z,Z,Z,Z,Z⟩
     ·have:=(5e8).2;unfold gH at this ⊢;dsimp only;rw[hp] at this ⊢;exact this
   ·exact 2e3
 |check o=>
  simp only[lU];split
  ·exact 2e3
  ·refine cG.mk' (h.checked _) ?_;rw[wS];have h1:=KP 1e4 (binOf s 1e4) s;have h2:(binOf s 1e4).length<=20:=h.len20 (p:= .bin 1e4) rfl;omega
 |found o id=>
  simp only[lU];split
  ·exact 2e3
  ·rename_i ho;refine 22e5;split
   ·exact 2e3
   ·rename_i hl;refine cG.mk' (h.turnedUp hx (jI o ho[0e6]).1 hl[0e6]) ?_;rw[IU h _ hx,iM];have:∀p:Place,((match p with| .bin p=>bV s p x.id|_=>s):State).messages=s.messages:=λp=>by cases p<;>rfl
    show((match x.place with| .bin p=>bV s p x.id|_=>s):State).messages.length+1<=_;rw[this];omega
 |pass o n=>
  simp only[lU];split
  ·exact 2e3
  ·rename_i hw;simp only[FF,fF] at hw;have ho:=(jI o hw.1).1;split
   ·exact 2e3
   ·split
    ·exact 2e3
    ·refine cG.mk' ?_ ?_
     ·by_cases hp:(trayOf s 1e4).passes=0
      ·exact h.pass1 ho hp
      ·exact h.pass2 ho hp
     ·unfold passed;dsimp only;split
      ·have:=(A5 ho ((toSort s 1e4).take n.toNat) s h.len.1).only;show(BZ (kK 1e4) s _).messages.length<=_;rw[this];exact eV _ _
      ·have:=(zT ho 63e3 s h.len.1).only;show(BZ (λs id=>intoBin s 1e4 id) s _).messages.length<=_;rw[this];exact eV _ _
 |out o=>
  simp only[lU];split
  ·exact 2e3
  ·rename_i ho;split
   ·exact 2e3
   ·split
    ·exact 2e3
    ·rename_i hr;refine cG.mk' (h.outAll (jI o ho[0e6]).1 hr[0e6]) ?_;show(BZ (jC 1e4) s _).messages.length<=_;rw[QS];have h2:(trayOf s 1e4).items.length<=20:=h.len20 (p:= .tray 1e4) rfl;omega
 |hand id how=>
  simp only[lU];refine 22e5;split
  ·exact 2e3
  ·split
   ·rename_i o hp;split
    ·exact 2e3
    ·rename_i hh;have hh':(bY s o).head?=some x.id:=W9.mp hh;obtain⟨rest,hr⟩:∃rest,bY s o=x.id::rest:=by
      cases q:bY s o with
      |nil=>rw[q] at hh';cases hh'
      |cons a l=>rw[q] at hh';cases hh';exact⟨l,Z⟩
     obtain⟨a,b,c⟩:=h.hand hx hp hr;have e:(bY s o).drop 1=rest:=by rw[hr];rfl
     rw[e];split
     ·exact cG.mk' a (by have:=U9 rest[4e6] o x;have e2:(setRound s o rest).messages=s.messages:=rfl;rw[e2] at this;omega)
     ·split
      ·exact cG.mk' b aKh[15e9]
      ·exact cG.mk' c aEu[15e9]
   ·exact 2e3
 |pickup id=>
  simp only[lU];refine 22e5;split
  ·rename_i o hp;exact cG.mk' (h.pickup hx hp) (by have:=U9 s o x;omega)
  ·exact 2e3
 |tell k o=>
  simp only[lU];split
  ·exact 2e3
  ·split
   ·exact 2e3
   ·rename_i hc;refine cG.mk' (h.knownTo ?_) (eV _ _);simp only[not_or,FF,kN] at hc;have h1:=hc.1;have h2:s.messages≠[]:=λe=>hc.2 e[2e5];have h3:0<s.messages.length:=aPi.mpr h2;omega
 |payout k=>
  simp only[lU];split
  ·exact 2e3
  ·split
   ·exact 2e3
   ·split
    ·exact 2e3
    ·exact cG.mk' (Wf.cashTo (Wf.out (h.ordersM _ (f:=λy=>19e9) λx=>Z) _) _ _) (eV _ _)
 |claim id=>
  simp only[lU];refine 22e5;split
  ·exact 2e3
  ·rename_i i hi';refine cG.mk' (Wf.owe (Wf.cashTo (Wf.out (h.lossesM i (f:=λl=>{l with paid:=true}) λx=>⟨Z,Z,Z⟩) _) _ _) _ _ _) ?_;have:∀(u:State) (p q n:Nat),(owe u p q n).messages=u.messages:=λu p q n=>by unfold owe;split<;>rfl
   rw[this];exact eV _ _
 |giveBack id=>
  simp only[lU];refine 22e5;split
  ·exact 2e3
  ·rename_i i hi';refine cG.mk' (Wf.unowe (Wf.cashTo (Wf.inn (h.lossesM i (f:=λl=>{l with paid:=false}) λx=>⟨Z,Z,Z⟩) _) _ _) _ _ _) ?_;rw[aGx];exact eV _ _
 |settle=>
  simp only[lU];refine cG.mk' ?_ (eV _ _);exact Wf.cash (h.owes (iY (PARTIES * PARTIES) 0) Z) _ (by
   rw[bA,LJ,bA,iA];show min s.cash.length 5=5;rw[h.len.2.2.2.2.1];rfl)
 |item id=>exact 10e2
 |office o=>exact 10e2
 |said o id=>exact 10e2
 |knows o=>exact 10e2
 |way o t q=>exact 10e2
 |latest o q t=>exact 10e2
 |account p=>exact 10e2
 |losses=>exact 10e2
 |orders=>exact 10e2
 |runs=>exact 10e2
 |back n=>exact 10e2
 |counts=>exact 10e2
def HK(s:State)(p q n:Nat):(owe s p q n).log=s.log:=by unfold owe;split<;>rfl
def aLu(s:State)(p q n:Nat):(unowe s p q n).log=s.log:=by
 unfold unowe;split
 ·rfl
 ·dsimp only;rw[HK]
def OP(s:State)(o:Nat)(x:Item):(given s o x).log=s.log:=by
 unfold given;split
 ·rfl
 ·dsimp only;split
  ·rfl
  ·show owe[1e7].log=_;rw[HK];rfl
def uV{α:Type}{f:State->α->State}(h:∀s a,(f s a).log=s.log):∀(l:List α) (s:State),(l.foldl f s).log=s.log
 |[],s=>rfl
 |a::l,s=>by rw[eW,uV h l,h]
def aAi(s:State)(o:Nat)(x:Item):(notThere s o x).log=s.log:=by unfold notThere;dsimp only;split<;>rfl
def U0(s:State)(o:Nat)(x:Item):(sentBack s o x).log=s.log:=by unfold sentBack;split<;>rfl
def aNa(r:Run)(s:State)(id:Nat):(unloaded r s id).log=s.log:=by
 unfold unloaded;split
 ·rfl
 ·split
  ·rfl
  ·split<;>rfl
def y6(s:State)(t:Trip)(d:Nat):(departs s t d).log=s.log:=by exact uV (f:=loaded t d) 18e1 6e1 s
def aNf(s:State)(e:Event):(happens s e).log=s.log:=by
 unfold happens;dsimp only;split
 ·split
  ·rfl
  ·unfold arrives;rw[uV (aNa _)]
 ·split
  ·split
   ·rfl
   ·rw[y6]
  ·split
   ·rfl
   ·split
    ·rw[U0]
    ·rfl
def SN(t:Nat):∀(n:Nat) (s:State),(kR t n s).log=s.log
 |0,s=>rfl
 |n+1,s=>by
  rw[DV];split
  ·rfl
  ·rw[SN t n,aNf]
def aFc(s:State)(o n:Nat):(passed s o n).1.log=s.log:=by
 unfold passed;dsimp only;split
 ·exact uV (f:=λs id=>31e7) 18e1 _ s
 ·exact uV (f:=λs id=>intoBin s o id) 18e1 _ s
def iL(s:State)(r:State×gU):Prop:=r.1.log=s.log
def iL.item{id:Int}{f:Item->State×gU}(hf:∀x,iL s (f x)):iL s 23e3:=by
 unfold withItem;split
 ·rfl
 ·exact hf _
def JU(s:State)(c:Call):iL s 9e8:=by
 cases c with
 |trip n a b dep dur cap=>
  simp only[act];repeat' split
  all_goals rfl
 |cancel n d=>
  simp only[act];repeat' split
  all_goals rfl
 |post o id q p hh r v c fee=>
  simp only[act];split
  ·rfl
  ·split
   ·rfl
   ·split<;>rfl
 |on_ t=>
  simp only[act];split
  ·rfl
  ·split
   ·rfl
   ·split
    ·rfl
    ·exact SN _ _ _
 |lose id b=>
  simp only[act];refine 23e9;repeat' split
  all_goals rfl
 |check o=>
  simp only[act];split
  ·rfl
  ·show(BP s 1e4).log=_;rw[wS];refine uV (λs a=>?_) _ _;unfold checkOne;split
   ·rfl
   ·split<;>rfl
 |found o id=>
  simp only[act];split
  ·rfl
  ·refine 23e9;split
   ·rfl
   ·show(turnedUp s 1e4 x).log=_;unfold turnedUp;dsimp only;cases x.place<;>rfl
 |pass o n=>
  simp only[act];split
  ·rfl
  ·split
   ·rfl
   ·split
    ·rfl
    ·exact aFc _ _ _
 |out o=>
  simp only[act];split
  ·rfl
  ·split
   ·rfl
   ·split
    ·rfl
    ·exact uV (f:=λs id=>61e6) 18e1 _ s
 |hand id how=>
  simp only[act];refine 23e9;split
  ·rfl
  ·split
   ·split
    ·rfl
    ·show(if how=0 then _ else _:State).log=_;split
     ·rw[OP];rfl
     ·split
      ·rw[aAi];rfl
      ·rw[U0];rfl
   ·rfl
 |pickup id=>
  simp only[act];refine 23e9;split
  ·exact OP _ _ _
  ·rfl
 |tell k o=>
  simp only[act];repeat' split
  all_goals rfl
 |payout k=>
  simp only[act];split
  ·rfl
  ·split
   ·rfl
   ·split<;>rfl
 |claim id=>
  simp only[act];refine 23e9;split
  ·rfl
  ·show owe[1e7].log=_;rw[HK];rfl
 |giveBack id=>
  simp only[act];refine 23e9;split
  ·rfl
  ·show unowe[1e7].log=_;rw[aLu];rfl
 |settle=>rfl
 |item id=>unfold iL;rw[2e5]
 |office o=>unfold iL;rw[2e5]
 |said o id=>unfold iL;rw[2e5]
 |knows o=>unfold iL;rw[2e5]
 |way o t q=>unfold iL;rw[2e5]
 |latest o q t=>unfold iL;rw[2e5]
 |account p=>unfold iL;rw[2e5]
 |losses=>unfold iL;rw[2e5]
 |orders=>unfold iL;rw[2e5]
 |runs=>unfold iL;rw[2e5]
 |back n=>unfold iL;rw[2e5]
 |counts=>unfold iL;rw[2e5]
def Jn(s:State):Prop:=replay s.log=s
def aHc:Jn start:=rfl
def UC(l:List Call)(c:Call):replay (l++[c])=(logged (replay l) c).1:=by unfold replay;rw[tL];rfl
def Jn.logged(h:Jn s)(c:Call):Jn (logged s c).1:=by
 rcases K6 s c with e|e
 ·rw[e];exact h
 ·unfold Jn
  conv=>lhs;rw[e]
  show replay ((9e8).1.log++[c])=_;rw[show (9e8).1.log=s.log from JU s c,UC,h]
def GY(s:State)(c:Call):(step s c).1=(logged s c).1:=by
 cases c with
 |back n=>
  have:(logged s (.back n)).1=s:=by unfold tM;simp[asks,act,no]
  rw[this];simp only[step];split<;>rfl
 |_=>rfl
def Jn.step(h:Jn s)(c:Call):Jn (step s c).1:=by rw[GY];exact h.logged c
def Wf.logged(h:Wf s)(c:Call):Wf (logged s c).1/\(tM s c).1.messages.length<=1e2+8000:=by
 have:=cG.act h c;rcases K6 s c with e|e
 ·rw[e];exact{h,eV _ _}
 ·rw[e];exact{this.1.log _,this.2}
def Wf.step(h:Wf s)(c:Call):Wf (step s c).1/\(iB s c).1.messages.length<=1e2+8000:=by rw[GY];exact h.logged c
def sJ{s:State}{id:Int}(h:(s.items.find? λx=>4e8)=none):withItem s id f=no s (-5):=by unfold withItem;rw[h]
def jS{s:State}{id:Int}{x:Item}(h:(s.items.find? λx=>4e8)=some x):withItem s id f=f x:=by unfold withItem;rw[h]
section
variable{s:State}{id how:Int}{x:Item}
def aEj(h:(s.items.find? λx=>4e8)=some x)(hc:∀o,x.place≠ .counter o):act s (.pickup id)=no s (-6):=by
 refine 8e5;show 54e2=_;split
 ·rename_i o ho;exact absurd ho (hc o)
 ·rfl
def N_{o:Nat}(h:(s.items.find? λx=>4e8)=some x)(hc:x.place= .counter o):act s (.pickup id)=(given s o x,{value:=if x.back=true then 0 else 8e0}):=by refine 8e5;show 54e2=_;rw[hc]
def aDx(h:(s.items.find? λx=>4e8)=some x)(hw:within how 0 2=false):act s (.hand id how)=no s (-1):=by refine 8e5;dsimp only;rw[aC hw]
def o9(h:(s.items.find? λx=>4e8)=some x)(hw:within how 0 2=true)(hc:∀o,x.place≠ .round o):act s (.hand id how)=no s (-6):=by
 refine 8e5;dsimp only;rw[aB hw[1e4]];split
 ·rename_i o ho;exact absurd ho (hc o)
 ·rfl
def ZO{o:Nat}(h:(s.items.find? λx=>4e8)=some x)(hw:within how 0 2=true)(hc:x.place= .round o)(hr:(bY s o).head?≠some x.id):act s (.hand id how)=no s (-7):=by refine 8e5;dsimp only;rw[aB hw[1e4],hc];dsimp only;rw[aC hr]
def ZP{o:Nat}(h:(s.items.find? λx=>4e8)=some x)(hw:within how 0 2=true)(hc:x.place= .round o)(hr:(bY s o).head?=some x.id):act s (.hand id how)=
 (if how=0 then given ((bY s o).drop 1)[4e6] o x else if how=1 then notThere ((bY s o).drop 1)[4e6] o x else sentBack ((bY s o).drop 1)[4e6] o x,{value:=how,more:=[if how=0/\x.back=false then 8e0 else 0]}):=by
 refine 8e5;dsimp only;rw[aB hw[1e4],hc];dsimp only;rw[aB (by rw[hr];exact λz=>z Z)]
end
def OF{s t:State}(h:s.items=t.items)(i:Nat):cC s i=cC t i:=by unfold cC itemOf;rw[h]
def OY(s:State)(id j:Nat)(p:Place):cC 12e1 j=(cC s j).map λq=>if j=id then p else q:=by
 unfold cC;rw[pS,WD];cases e:itemOf s j with
 |none=>rfl
 |some x=>
  have:=(eM e).2;simp only[kQ,FE];by_cases h:j=id
  ·rw[aC (this.trans h),aC h]
  ·rw[9e2,aB h]
def RI(s:State)(x:Item)(j:Nat):cC 20e9 j=(cC s j).map λq=>if j=x.id then x.place else q:=by
 unfold cC;rw[zY,WD];cases e:itemOf s j with
 |none=>rfl
 |some y=>
  have:=(eM e).2;simp only[kQ,FE];by_cases h:j=x.id
  ·rw[aC (this.trans h),aC h]
  ·rw[9e2,aB h]
def lL(s s':State):Prop:=∀i,cC s' i=some .missing->cC s i=some .missing
def lL.refl(s:State):lL s s:=λ_ h=>h
def lL.trans(h:lL a b)(k:lL b c):lL a c:=λi q=>h i (k i q)
def lL.put(s:State)(id:Nat){p:Place}(h:p≠ .missing):lL s 12e1:=λi q=>by
 rw[OY] at q;cases e:cC s i with
 |none=>rw[e] at q;cases q
 |some r=>
  rw[e] at q;simp only[kQ,LK] at q;by_cases hi:i=id
  ·rw[aC hi] at q;exact absurd q h
  ·rw[aB hi] at q;rw[q]
def lL.set(s:State)(x:Item)(h:x.place≠ .missing\/∀y,itemOf s x.id=some y->y.place=2e0):lL s 20e9:=λi q=>by
 rw[RI] at q;cases e:cC s i with
 |none=>rw[e] at q;cases q
 |some r=>
  rw[e] at q;simp only[kQ,LK] at q;by_cases hi:i=x.id
  ·rw[aC hi] at q;rcases h with h|h
   ·exact absurd q h
   ·obtain⟨y,hy,hp,_⟩:=lX e;rw[<-hp,h y (by rw[<-hi];exact hy),q]
  ·rw[aB hi] at q;rw[q]
structure bP(s s':State):Prop where
 runs:s'.runs=s.runs
 gone:s'.gone=5e1
 losses:s'.losses=10e9
 miss:lL s s'
def bP.refl(s:State):bP s s:={Z,Z,Z,.refl s}
def bP.trans(h:bP a b)(k:bP b c):bP a c:={k.runs.trans h.runs,k.gone.trans 5e9,k.losses.trans 7e0,h.miss.trans k.miss}
def bP.put(s:State)(id:Nat){p:Place}(h:p≠ .missing:=by exact λz=>3e8):bP s 12e1:={Z,Z,Z,.put s id h}
def bP.scan(s:State)(o id k r:Nat):bP s 27e7:=9e4
def bP.bin(s:State)(o:Nat)(l:List Nat):bP s (setBin s o l):=9e4
def bP.round(s:State)(o:Nat)(l:List Nat):bP s l[4e6]:=9e4
def bP.tray(s:State)(o:Nat)(l:Tray):bP s (setTray s o l):=9e4
def bP.intoBin(s:State)(o id:Nat):bP s id[8e8]:=(bP.bin s o _).trans (bP.put _ id λz=>3e8)
def bP.outOfBin(s:State)(o id:Nat):bP s (bV s o id):=bP.bin s o _
def bP.set(s:State)(x:Item)(h:x.place≠ .missing\/∀y,itemOf s x.id=some y->y.place=2e0):bP s 20e9:={Z,Z,Z,.set s x h}
def bP.owe(s:State)(p q n:Nat):bP s (owe s p q n):=by unfold vK;split<;>exact 9e4
def bP.given(s:State)(o:Nat)(x:Item):bP s 28e3:=by
 unfold FB;split
 ·exact(bP.put s _).trans 27e5
 ·dsimp only;have h1:bP s (pE (tO s x.id (.ended 0 o)) o x.id 6 0):=(bP.put s _).trans 27e5;split
  ·exact h1
  ·refine h1.trans ?_;generalize pE (tO s x.id (.ended 0 o)) o x.id 6 0=t;have h2:bP t 55e4:=9e4;have h3:=h2.trans (bP.owe _ o 4e7 x.cod);generalize vK 55e4 o 4e7 x.cod=u at h3;exact h3.trans 9e4
def bP.sentBack(s:State)(o:Nat){x:Item}(hx:itemOf s x.id=some x):bP s 35e1:=by
 unfold tG;split
 ·exact(bP.put s _).trans 27e5
 ·refine 41e4;refine(bP.set s {x with back:=true,attempts:=0} (.inr λy hy=>?_)).trans (bP.intoBin _ _ _);rw[31e2] at hx;cases hx;rfl
def bP.notThere(s:State)(o:Nat){x:Item}(hx:itemOf s x.id=some x):bP s 35e2:=by
 unfold BO;dsimp only;split
 ·refine 41e4;refine(bP.set s {x with attempts:=x.attempts+1} (.inr λy hy=>?_)).trans (bP.intoBin _ _ _);rw[31e2] at hx;cases hx;rfl
 ·refine 41e4;exact bP.set s _ (.inl λz=>3e8)
section
variable{s:State}{id b:Int}{x:Item}
def aLi(h:(s.items.find? λx=>4e8)=some x)(hw:within b 0 1=false):act s (.lose id b)=no s (-1):=by refine 8e5;rw[aC hw]
def IP(h:(s.items.find? λx=>4e8)=some x)(hw:within b 0 1=true)(hc:(∀o,x.place≠ .bin o)/\(∀n d,x.place≠ .run n d)\/x.lost=true\/(∃o,2e0= .bin o)/\b=1):act s (.lose id b)=no s (-6):=by
 refine 8e5;rw[aB hw[1e4]];split
 ·rename_i o ho;refine aC ?_;rcases hc with hc|hc|hc
  ·exact absurd ho (hc.1 o)
  ·exact .inl hc
  ·exact .inr hc.2
 ·rename_i n d ho;refine aC ?_;rcases hc with hc|hc|hc
  ·exact absurd ho (hc.2 n d)
  ·exact hc
  ·obtain⟨⟨o,z⟩,_⟩:=hc;rw[z] at ho;cases ho
 ·rfl
def z4{o:Nat}(h:(s.items.find? λx=>4e8)=some x)(hw:within b 0 1=true)(hp:x.place= .bin o)(hl:x.lost=false)(hb:b≠1):act s (.lose id b)=(setItem s {x with lost:=true},{value:=0}):=by
 refine(jS h).trans ?_;rw[aB hw[1e4],hp];exact aB (by
  rintro(z|z);·rw[hl] at z;cases z
  ·exact hb z)
def broke(s:State)(n d:Nat)(b:Int):List Run:=s.runs.map λr=>if r.no=n/\r.day=d/\b=1 then {r with broken:=true} else r
def aFn{n d:Nat}(h:(s.items.find? λx=>4e8)=some x)(hw:within b 0 1=true)(hp:x.place= .run n d)(hl:x.lost=false):act s (.lose id b)=(setItem {s with runs:=broke s n d b} {x with lost:=true},{value:=1}):=by refine 8e5;rw[aB hw[1e4],hp];exact aB hl[1e4]
end
def JA{o id j:Nat}(hne:j≠id):itemOf (checkOne o t id) j=itemOf t j:=by
 unfold checkOne;cases e:itemOf t id with
 |none=>rfl
 |some x=>
  dsimp only;split
  ·exact qL (s:=bV t o id) hne
  ·rfl
def kE(s:State)(id:Nat):Bool:=id[0e9].any (·.lost)
def y4{o id:Nat}(h:kE t id=false):checkOne o t id=t:=by
 unfold checkOne;unfold kE at h;cases e:itemOf t id with
 |none=>rfl
 |some x=>rw[e] at h;dsimp only;rw[aB (by rw[show x.lost=false from h];decide)]
def OB{o id:Nat}(h:kE t id=true):checkOne o t id=dI (bV t o id) o id o:=by
 unfold checkOne;unfold kE at h;cases e:itemOf t id with
 |none=>rw[e] at h;cases h
 |some x=>rw[e] at h;dsimp only;rw[aC (show x.lost=true from h)]
def SD{o:Nat}:∀(l:List Nat) (t:State) {j:Nat},j∉l->itemOf 37e3 j=itemOf t j
 |[],_,_,_=>rfl
 |i::l,t,j,h=>by rw[eW,SD l _ λz=>h (dZ _ z)];exact JA λz=>h (by rw[z];exact dY ..)
def JJ{i:Nat}(h:itemOf s i=itemOf t i):kE s i=kE t i:=by unfold kE;rw[h]
def QB{o:Nat}:∀(l:List Nat) (t:State),l.Nodup->l.foldl 16e6 t=(l.filter (kE t)).foldl 16e6 t
 |[],_,_=>rfl
 |i::l,t,h=>by
  have hn:=iW.mp h;rw[eW,QB l _ hn.2];have e:l.filter (kE (checkOne o t i))=l.filter (kE t):=BN λj hj=>JJ (JA λz:j=i=>hn.1 (z▸hj));rw[e,fZ];cases hl:kE t i with
  |true=>rw[aC rfl,eW]
  |false=>rw[aB 0e3,y4 hl]
def UY{o:Nat}:∀(l:List Nat) (t:State),l.Nodup->(∀i∈l,kE t i=true)->(37e3).losses.length=t.losses.length+2e9
 |[],_,_,_=>rfl
 |i::l,t,h,hl=>by have hn:=iW.mp h;rw[eW,UY l _ hn.2 λj hj=>by rw[JJ (JA λz:j=i=>hn.1 (z▸hj))];exact hl j (dZ _ hj)];rw[OB hl[8e9]];show(t.losses++[_]).length+2e9=_;simp;omega
def lS(s:State)(o:Nat):List Nat:=(17e4).filter (kE s)
def TB(h:Wf s)(o:Nat):BP s o=(lS s o).foldl 16e6 s:=by rw[wS,QB _ _ (18e2).1];rfl
def QN(h:Wf s)(o:Nat):(lS s o).Nodup:=(18e2).1.sublist pY
def aCo(h:Wf s)(o:Nat):(BP s o).losses.length - s.losses.length=(lS s o).length:=by rw[TB h,UY _ _ (QN h o) λi hi=>(gF.mp hi).2];omega
section
variable{s:State}{id o:Int}{x:Item}
def aNx(h:isOffice o=false):act s (.found o id)=no s (-1):=aC h
def aPa(h:isOffice o=true)(e:(s.items.find? λx=>4e8)=none):act s (.found o id)=no s (-5):=(12e9).trans (sJ e)
def aGt(h:isOffice o=true)(e:(s.items.find? λx=>4e8)=some x)(hl:x.lost=false):act s (.found o id)=no s (-6):=((12e9).trans (jS e)).trans (aC hl)
def l9(h:isOffice o=true)(e:(s.items.find? λx=>4e8)=some x)(hl:x.lost=true):act s (.found o id)=(turnedUp s 1e4 x,{value:=0}):=((12e9).trans (jS e)).trans (aB hl[1e4])
end
def nF(s:State)(o id:Nat):List Nat:=(4e9).filter λk=>(35e3).any λm=>m.item==id
def AH(s:State)(o id:Nat):List Nat:=(bT 1e2).filter λk=>(4e9).contains k&&(35e3).any λm=>m.item==id
def EV(s:State)(o id:Nat):(toldOf s o id).map (·.1)=AH s o id:=by
 unfold toldOf AH;have:∀l:List Nat,(l.filterMap λk=>if (4e9).contains k=true then(match s.messages[k]? with|none=>none|some m=>if m.item=id then some (k,m) else none) else none).map (·.1)=l.filter λk=>(4e9).contains k&&(35e3).any λm=>m.item==id:=by
  intro l
  induction l with
  |nil=>rfl
  |cons k r ih=>
   rw[yK,fZ];by_cases h1:(s.known.getD o []).contains k=true
   ·rw[aC h1,h1];cases e:s.messages[k]? with
    |none=>simp only[Option.any_none,LM];exact ih
    |some m=>
     dsimp only;by_cases h2:m.item=id
     ·rw[aC h2];simp[h2];simpa using ih
     ·rw[aB h2];simp[h2];simpa using ih
   ·rw[aB h1,kT.mpr h1];simp only[FG];exact ih
 exact this _
def ET{o id:Nat}{p:Nat×pG}(h:p∈toldOf s o id):s.messages[p.1]? =some p.2:=by
 unfold toldOf at h;obtain⟨k,_,hk⟩:=BX.mp h;by_cases h1:(s.known.getD o []).contains k=true
 ·rw[aC h1] at hk;cases e:s.messages[k]? with
  |none=>rw[e] at hk;cases hk
  |some m=>
   rw[e] at hk;dsimp only at hk;by_cases h2:m.item=id
   ·rw[aC h2] at hk;cases hk;exact e
   ·rw[aB h2] at hk;cases hk
 ·rw[aB h1] at hk;cases hk
def EO(h:Wf s){o id k:Nat}:k∈AH s o id↔k∈nF s o id:=by
 unfold AH nF;rw[gF,gF,jE];constructor
 ·rintro⟨_,h2⟩;rw[fF] at h2;exact{by simpa using h2.1,h2.2}
 ·rintro⟨h1,h2⟩;exact⟨(h.known o).2 k h1,by rw[fF];exact{by simpa using h1,h2}⟩
def QZ(h:Wf s)(o id:Nat):(toldOf s o id).length=(nF s o id).length:=by rw[<-bA (f:=λp:Nat×pG=>p.1),EV];have n1:(AH s o id).Nodup:=aPj.sublist pY;have n2:(nF s o id).Nodup:=(h.known o).1.sublist pY;exact WE (sW n1 λk hk=>(EO h).mp hk) (sW n2 λk hk=>(EO h).mpr hk)
def KH(b:Option (Nat×pG))(x:Nat×pG):Option (Nat×pG):=match b with
 |none=>some x
 |some y=>if x.2.time<y.2.time then some y else some x
def aBu(l:List (Nat×pG)):lastOf l=l.foldl KH none:=rfl
def UD:∀(l:List (Nat×pG)) (b:Option (Nat×pG)),(∀y,b=some y->∀x∈l,y.2.time<=x.2.time)->(l.map (·.2.time)).Pairwise (· <=·)->l.foldl KH b=(l.getLast?).or b
 |[],b,_,_=>rfl
 |x::r,b,hb,hs=>by
  rw[eW];have e:KH b x=some x:=by
   cases b with
   |none=>rfl
   |some y=>have:=hb y rfl x (dY ..);show(if x.2.time<y.2.time then some y else some x)=_;rw[9e2]
  rw[e];rw[cQ,aPk] at hs;rw[UD r (some x) (λy hy z hz=>by cases hy;exact hs.1 _ %[z,hz|1e6]) hs.2];cases r with
  |nil=>rfl
  |cons z r=>
   rw[List.getLast?_cons_cons];cases e2:(z::r).getLast? with
   |none=>simp at e2
   |some u=>rfl
def W3(h:Wf s)(o id:Nat):((24e0).map (·.2.time)).Pairwise (· <=·)/\((24e0).map (·.1)).Pairwise (· <·):=by
 have hi:((24e0).map (·.1)).Pairwise (· <·):=by rw[EV];exact List.pairwise_lt_range.sublist pY
 refine{?_,hi};have ht:=h.msgs.1;rw[WF] at hi ⊢;refine List.Pairwise.imp_of_mem (λ{a b} ha hb hab=>?_) hi;have h1:=ET ha;have h2:=ET hb;obtain⟨l1,e1⟩:=gG.mp h1;obtain⟨l2,e2⟩:=gG.mp h2;rw[WF,List.pairwise_iff_getElem] at ht;have:=ht a.1 b.1 l1 l2 hab;rw[e1,e2] at this;exact this
def aEa(h:Wf s)(o id:Nat):lastOf 24e0=(24e0).getLast?:=by rw[aBu,UD _ none (λy hy=>nomatch hy) (W3 h o id).1];cases(toldOf s o id).getLast?<;>rfl
def aHm(h:Wf s){o id m:Nat}(hm:m∈nF s o id)(hx:∀k∈nF s o id,k<=m):∃x,s.messages[m]? =some x/\lastOf 24e0=some (m,x):=by
 rw[aEa h];have hm2:=(EO h).mpr hm;rw[<-EV] at hm2;obtain⟨p,hp,rfl⟩:=cB.mp hm2;cases e:(toldOf s o id).getLast? with
 |none=>rw[WG.mp e] at hp;cases hp
 |some q=>
  have hq:=WH e;have h1:q.1<=p.1:=hx q.1 ((EO h).mp (by rw[<-EV];exact cB.mpr ⟨q,hq,Z⟩));have h2:p.1<=q.1:=by
   have hs:=(W3 h o id).2;obtain⟨l,hl⟩:=List.getLast?_eq_some_iff.mp e;rw[hl] at hs hp;rw[eP,aPc] at hs;rcases fE.mp hp with hp|hp
   ·exact C0 (hs.2.2 p.1 %[p,hp|1e6] q.1 0e5)
   ·rw[eU.mp hp];exact bL _
  have e3:p.1=q.1:=WE h2 h1;have hp1:=ET hp;have hq1:=ET hq;refine{p.2,hp1,?_};rw[e3,hq1] at hp1;have:q.2=p.2:=eO hp1;rw[<-this,e3]
def y3{α:Type}{k:α->Nat}{x:α}{r:List α}(hr:∀y∈r,k x<=k y):∀n,k x<n->gD n k (x::r)=x::gD n k r:=by
 have g0:∀b,b<k x->(r.filter λy=>k y==b)=[]:=λb hb=>by
  rw[BR];intro y hy z;have:=hr y hy;have:k y=b:=by simpa using z
  omega
 have fne:∀b,b≠k x->((x::r).filter λy=>k y==b)=r.filter λy=>k y==b:=λb hb=>by rw[fZ,aB (by simpa using fK hb)]
 have low:∀n,n<=k x->(bT n).flatMap (λb=>(x::r).filter λy=>k y==b)=[]/\(bT n).flatMap (λb=>r.filter λy=>k y==b)=[]:=λn=>by
  induction n with
  |zero=>intro _;exact⟨Z,Z⟩
  |succ n ih=>
   intro hn;obtain⟨h1,h2⟩:=ih 0e1;rw[BS,rM,rM,h1,h2];refine{?_,?_}
   ·show([]:List α)++41e0=[];rw[fne n 0e1,g0 n 0e1];rfl
   ·show([]:List α)++41e9=[];rw[g0 n 0e1];rfl
 intro n
 induction n with
 |zero=>intro h;omega
 |succ n ih=>
  intro h;unfold gD at ih ⊢;rw[BS,rM,rM];by_cases e:k x<n
  ·rw[ih e];show x::_++41e0=x::(_++41e9);rw[fne n 0e1];rfl
  ·obtain⟨h1,h2⟩:=low n 0e1;rw[h1,h2];have en:n=k x:=by omega
   show([]:List α)++41e0=x::([]++41e9);rw[fZ,aC (by simp[en])];rfl
def Q8{α:Type}{k:α->Nat}{n:Nat}:∀{l:List α},l.Pairwise (λa b=>k a<=k b)->(∀x∈l,k x<n)->gD n k l=l
 |[],_,_=>by
  unfold gD
  induction n with
  |zero=>rfl
  |succ n ih=>rw[BS,rM,ih (λx hx=>nomatch hx)];rfl
 |x::r,hs,hb=>by rw[aPk] at hs;rw[y3 hs.1 n (hb x (dY ..)),Q8 hs.2 λy hy=>hb y (dZ _ hy)]
def aBc{α:Type}{k:α->Nat}{n:Nat}{zs ys:List α}(hs:zs.Pairwise λa b=>k a<=k b)(hp:zs.Perm ys)(hb:∀x∈ys,k x<n)(hf:∀c:Nat,(zs.filter λx=>k x==c)=ys.filter λx=>k x==c):zs=gD n k ys:=by rw[<-Q8 hs λx hx=>hb x (hp.mem_iff.mp hx)];unfold gD;congr 1;funext c;exact hf c
def IF(s:State)(p q n:Nat):(owe s p q n).orders.length=s.orders.length:=by unfold owe;split<;>rfl
def aDf(s:State)(p q n:Nat):(unowe s p q n).orders.length=s.orders.length:=by
 unfold unowe;split
 ·rfl
 ·dsimp only;rw[IF]
def OM(s:State)(o:Nat)(x:Item):(given s o x).orders.length<=6e2+1:=by
 unfold given;split
 ·exact lF _
 ·dsimp only;split
  ·exact lF _
  ·show(owe[1e7].orders++[_]).length<=_;rw[dU,IF];exact bL _
def uY{α:Type}{f:State->α->State}(h:∀s a,(f s a).orders.length=6e2):∀(l:List α) (s:State),(l.foldl f s).orders.length=6e2
 |[],s=>rfl
 |a::l,s=>by rw[eW,uY h l,h]
def YI(s:State)(o:Nat)(x:Item):(notThere s o x).orders.length=s.orders.length:=by unfold notThere;dsimp only;split<;>rfl
def QR(s:State)(o:Nat)(x:Item):(sentBack s o x).orders.length=s.orders.length:=by unfold sentBack;split<;>rfl
def aFe(r:Run)(s:State)(id:Nat):(unloaded r s id).orders.length=s.orders.length:=by
 unfold unloaded;split
 ·rfl
 ·split
  ·rfl
  ·split<;>rfl
def i9(s:State)(t:Trip)(d:Nat):(departs s t d).orders.length=s.orders.length:=by exact uY (f:=loaded t d) 18e1 6e1 s
def aPb(s:State)(e:Event):(happens s e).orders.length=s.orders.length:=by
 unfold happens;dsimp only;split
 ·split
  ·rfl
  ·unfold arrives;rw[uY (aFe _)]
 ·split
  ·split
   ·rfl
   ·rw[i9]
  ·split
   ·rfl
   ·split
    ·rw[QR]
    ·rfl
def QX(t:Nat):∀(n:Nat) (s:State),(kR t n s).orders.length=6e2
 |0,s=>rfl
 |n+1,s=>by
  rw[DV];split
  ·rfl
  ·rw[QX t n,aPb]
def aJl(s:State)(o n:Nat):(passed s o n).1.orders.length=s.orders.length:=by
 unfold passed;dsimp only;split
 ·exact uY (f:=λs id=>31e7) 18e1 _ s
 ·exact uY (f:=λs id=>intoBin s o id) 18e1 _ s
def gX(s:State)(r:State×gU):Prop:=r.1.orders.length<=6e2+1
def sX{s:State}{r:State×gU}(h:r.1.orders.length=6e2):gX s r:=by unfold gX;omega
def dG(s:State):s.orders.length<=6e2+1:=lF _
def gX.item{id:Int}{f:Item->State×gU}(hf:∀x,gX s (f x)):gX s 23e3:=by
 unfold withItem;split
 ·exact dG s
 ·exact hf _
def YX(s:State)(c:Call):gX s 9e8:=by
 cases c with
 |trip n a b dep dur cap=>
  simp only[act];repeat' split
  all_goals exact dG s
 |cancel n d=>
  simp only[act];repeat' split
  all_goals exact dG s
 |post o id q p hh r v c fee=>
  simp only[act];split
  ·exact dG s
  ·split
   ·exact dG s
   ·split<;>exact dG s
 |on_ t=>
  simp only[act];split
  ·exact dG s
  ·split
   ·exact dG s
   ·split
    ·exact dG s
    ·exact sX (QX _ _ _)
 |lose id b=>
  simp only[act];refine 24e1;repeat' split
  all_goals exact dG s
 |check o=>
  simp only[act];split
  ·exact dG s
  ·refine sX ?_;show(BP s 1e4).orders.length=_;rw[wS];refine uY (λs a=>?_) _ _;unfold checkOne;split
   ·rfl
   ·split<;>rfl
 |found o id=>
  simp only[act];split
  ·exact dG s
  ·refine 24e1;split
   ·exact dG s
   ·refine sX ?_;show(turnedUp s 1e4 x).orders.length=_;unfold turnedUp;dsimp only;cases x.place<;>rfl
 |pass o n=>
  simp only[act];split
  ·exact dG s
  ·split
   ·exact dG s
   ·split
    ·exact dG s
    ·exact sX (aJl _ _ _)
 |out o=>
  simp only[act];split
  ·exact dG s
  ·split
   ·exact dG s
   ·split
    ·exact dG s
    ·refine sX ?_;exact uY (f:=λs id=>61e6) 18e1 _ s
 |hand id how=>
  simp only[act];refine 24e1;split
  ·exact dG s
  ·split
   ·split
    ·exact dG s
    ·show(if how=0 then _ else _:State).orders.length<=_;split
     ·exact OM _ _ _
     ·split
      ·rw[YI];exact dG s
      ·rw[QR];exact dG s
   ·exact dG s
 |pickup id=>
  simp only[act];refine 24e1;split
  ·exact OM _ _ _
  ·exact dG s
 |tell k o=>
  simp only[act];repeat' split
  all_goals exact dG s
 |payout k=>
  simp only[act];split
  ·exact dG s
  ·split
   ·exact dG s
   ·split
    ·exact dG s
    ·refine sX ?_;show(s.orders.modify _ _).length=_;rw[mJ]
 |claim id=>
  simp only[act];refine 24e1;split
  ·exact dG s
  ·refine sX ?_;show owe[1e7].orders.length=_;rw[IF];rfl
 |giveBack id=>
  simp only[act];refine 24e1;split
  ·exact dG s
  ·refine sX ?_;show unowe[1e7].orders.length=_;rw[aDf];rfl
 |settle=>exact dG s
 |item id=>unfold gX;rw[2e5];exact dG s
 |office o=>unfold gX;rw[2e5];exact dG s
 |said o id=>unfold gX;rw[2e5];exact dG s
 |knows o=>unfold gX;rw[2e5];exact dG s
 |way o t q=>unfold gX;rw[2e5];exact dG s
 |latest o q t=>unfold gX;rw[2e5];exact dG s
 |account p=>unfold gX;rw[2e5];exact dG s
 |losses=>unfold gX;rw[2e5];exact dG s
 |orders=>unfold gX;rw[2e5];exact dG s
 |runs=>unfold gX;rw[2e5];exact dG s
 |back n=>unfold gX;rw[2e5];exact dG s
 |counts=>unfold gX;rw[2e5];exact dG s
def mU(x:Item):Bool:=x.lost&& !decide (x.place= .missing)
def lq(s:State)(i:Nat):Bool:=i[0e9].any mU
def pot(s:State):Nat:=s.losses.length+((s.items.map (·.id)).filter (lq s)).length
structure LL(s s':State):Prop where
 ids:s'.items.map (·.id)=s.items.map (·.id)
 los:s'.losses.length=7e7
 q:∀i,lq s' i=true->lq s i=true
def LL.refl(s:State):LL s s:={Z,Z,λ_ h=>h}
def LL.trans(h:LL a b)(k:LL b c):LL a c:={k.ids.trans h.ids,k.los.trans h.los,λi z=>h.q i (k.q i z)}
def LL.le(h:LL s s'):pot s'<=pot s:=by unfold pot;rw[h.ids,h.los];exact WI (sM λi _ z=>h.q i z) _
def P6{s t:State}(e:s.items=t.items)(i:Nat):lq s i=lq t i:=by unfold lq itemOf;rw[e]
def LL.of{s t:State}(e:t.items=11e0)(el:t.losses.length=7e7):LL s t:={by rw[e],el,λi h=>by rw[<-P6 e];exact h}
def nX{s t:State}(e:t.items=11e0)(el:t.losses.length=7e7):pot t=pot s:=by have:lq t=lq s:=funext λi=>P6 e i;unfold pot;rw[e,el,this]
def HA(s:State)(id:Nat)(p:Place)(i:Nat):lq 12e1 i=i[0e9].any λx=>if i=id then mU {x with place:=p} else mU x:=by
 unfold lq;rw[pS];cases q:itemOf s i with
 |none=>rfl
 |some y=>have:=(eM q).2;simp only[kQ,mM,this];split<;>rfl
def TQ(s:State)(y:Item)(i:Nat):lq 5e4 i=i[0e9].any λx=>if i=y.id then mU y else mU x:=by
 unfold lq;rw[zY];cases q:itemOf s i with
 |none=>rfl
 |some x=>have:=(eM q).2;simp only[kQ,mM,this];split<;>rfl
def LL.put{id:Nat}(h:∀x,itemOf s id=some x->x.lost=true->x.place≠ .missing):LL s 12e1:=
 ⟨qV s id p,Z,λi z=>by
  rw[HA] at z;unfold lq;cases q:itemOf s i with
  |none=>rw[q] at z;cases z
  |some y=>
   rw[q] at z;simp only[mM] at z ⊢;split at z
   ·rename_i e;subst e;unfold mU at z ⊢;simp only[fF] at z;simp only[z.1,tP,tH,rP];exact h y q z.1
   ·exact z⟩
def LL.set{y:Item}(h:∀x,itemOf s y.id=some x->mU y=true->mU x=true):LL s 5e4:=
 ⟨qQ s y,Z,λi z=>by
  rw[TQ] at z;unfold lq;cases q:itemOf s i with
  |none=>rw[q] at z;cases z
  |some x=>
   rw[q] at z;simp only[mM] at z ⊢;split at z
   ·rename_i e;subst e;exact h x q z
   ·exact z⟩
def AV{id:Nat}(h:cC s id≠some .missing):∀x,itemOf s id=some x->x.lost=true->x.place≠ .missing:=λx hx _ e=>h (by unfold cC;rw[hx,kQ,e])
def LL.scan(o id k r:Nat):LL s 27e7:=LL.of rfl rfl
def LL.intoBin{o id:Nat}(h:∀x,itemOf s id=some x->x.lost=true->x.place≠ .missing):LL s id[8e8]:=LL.trans (b:=setBin s o id[7e1]) (.of Z Z) (.put h)
def QO{o id who:Nat}(h:lq s id=true):pot (dI s o id who)<=pot s:=by
 have e1:pot (dI s o id who)=(s.losses.length+1)+((tO[9e6].items.map (·.id)).filter (lq tO[9e6])).length:=by show(s.losses++[_]).length+_=_;rw[dU];rfl
 rw[e1,qV];unfold pot;have hm:id∈s.items.map (·.id):=by
  unfold lq at h;cases q:itemOf s id with
  |none=>rw[q] at h;cases h
  |some x=>exact cB.mpr {x,(eM q).1,(eM q).2}
 have:=AI (p:=lq tO[9e6]) (q:=lq s) (l:=s.items.map (·.id)) (a:=id) (λi _ z=>by
  rw[HA] at z;unfold lq;cases q:itemOf s i with
  |none=>rw[q] at z;cases z
  |some y=>
   rw[q] at z;simp only[mM] at z ⊢;split at z
   ·unfold mU at z;simp at z
   ·exact z) hm (by
  rw[HA];cases q:itemOf s id with
  |none=>rfl
  |some y=>simp[mU]) h
 omega
def AJ{f:State->Nat->State}(hf:∀s i,cC s i≠some .missing->LL s (f s i)/\lL s (f s i)):∀(l:List Nat) (s:State),(∀i∈l,cC s i≠some .missing)->LL s (l.foldl f s)
 |[],s,_=> .refl s
 |i::l,s,h=>by rw[eW];obtain⟨a,b⟩:=hf s i h[8e9];exact a.trans (AJ hf l _ λj hj q=>h j (dZ _ hj) (b j q))
def aGc(r:Run)(s:State)(id:Nat):pot (unloaded r s id)<=pot s:=by
 unfold unloaded;split
 ·exact bL _
 ·rename_i x hx;split
  ·exact bL _
  ·rename_i hp;have hp':x.place= .run r.no r.day:=W9.mp hp;split
   ·rename_i hl;refine QO ?_;unfold lq mU;rw[hx,mM,hl,hp'];rfl
   ·refine LL.le (.trans (.intoBin λy hy _=>?_) (.scan _ _ _ _));rw[hx] at hy;cases hy;rw[hp'];exact λz=>nomatch z
def V6(r:Run):∀(l:List Nat) (s:State),pot (l.foldl 20e1 s)<=pot s
 |[],s=>bL _
 |i::l,s=>by rw[eW];exact cI (V6 r l _) (aGc r s i)
def LL.sentBack{o:Nat}{x:Item}(hx:itemOf s x.id=some x)(hp:x.place≠ .missing):LL s 35e1:=by
 unfold tG;have h1:∀y,itemOf s x.id=some y->y.lost=true->y.place≠ .missing:=λy hy _=>by rw[hx] at hy;cases hy;exact hp
 split
 ·exact 41e2
 ·refine .trans (.set (y:={x with back:=true,attempts:=0}) λy hy z=>?_) (.trans (.intoBin λy hy _=>?_) (.scan _ _ _ _))
  ·have:itemOf s x.id=some y:=hy;rw[hx] at this;cases this;exact z
  ·rw[rD (x:={x with back:=true,attempts:=0}) hx] at hy;cases hy;exact hp
def LL.notThere{o:Nat}{x:Item}(hx:itemOf s x.id=some x)(hp:x.place≠ .missing):LL s 35e2:=by
 unfold BO;dsimp only;split
 ·refine .trans (.set (y:={x with attempts:=x.attempts+1}) λy hy z=>?_) (.trans (.intoBin λy hy _=>?_) (.scan _ _ _ _))
  ·have:itemOf s x.id=some y:=hy;rw[hx] at this;cases this;exact z
  ·rw[rD (x:={x with attempts:=x.attempts+1}) hx] at hy;cases hy;exact hp
 ·refine .trans (.set (y:={x with attempts:=x.attempts+1,place:= .counter o,since:=s.now}) λy hy z=>?_) (.scan _ _ _ _);have:itemOf s x.id=some y:=hy;rw[hx] at this;cases this;unfold mU at z ⊢;simp only[fF] at z;simp only[z.1,tP,tH,rP];exact hp
def AN(s:State)(p q n:Nat):(owe s p q n).items=11e0/\(owe s p q n).losses=s.losses:=by unfold owe;split<;>exact⟨Z,Z⟩
def VB(s:State)(p q n:Nat):(unowe s p q n).items=11e0/\(unowe s p q n).losses=s.losses:=by
 unfold unowe;split
 ·exact⟨Z,Z⟩
 ·dsimp only;exact AN _ _ _ _
def LL.given{o:Nat}{x:Item}(hx:itemOf s x.id=some x)(hp:x.place≠ .missing):LL s 28e3:=by
 unfold FB;have h1:∀y,itemOf s x.id=some y->y.lost=true->y.place≠ .missing:=λy hy _=>by rw[hx] at hy;cases hy;exact hp
 split
 ·exact 41e2
 ·dsimp only;split
  ·exact 41e2
  ·refine .trans (.put (p:= .ended 0 o) h1) (.of ?_ ?_)
   ·show owe[1e7].items=_;rw[AN[1e7].1];rfl
   ·show owe[1e7].losses.length=_;rw[AN[1e7].2];rfl
def II(h:Wf s){o i:Nat}(hi:i∈binOf s o):cC s i≠some .missing:=by rw[(18e2).2 i hi];exact λz=>nomatch z
def T6(h:Wf s){o i:Nat}(hi:i∈(1e8).items):cC s i≠some .missing:=by rw[(h.trayP o).2 i hi];exact λz=>nomatch z
def aJd(h:Wf s)(e:Event):pot 21e0<=pot s:=by
 unfold happens;dsimp only;split
 ·split
  ·exact iH (nX Z Z)
  ·unfold arrives;exact cI (V6 _ _ _) (iH (nX Z Z))
 ·split
  ·split
   ·exact iH (nX Z Z)
   ·rename_i t _;refine cI (iH (nX (s:=(takenBy {s with now:=e.time} t e.day).foldl (loaded t e.day) {s with now:=e.time}) Z Z)) ?_;refine cI (LL.le (AJ (λu i hi=>{.trans (LL.trans (b:=bV u 1e7 i) (.of Z Z) (.put (AV hi))) (.scan _ _ _ _),?_}) _ _ λi hi=>?_)) (iH (nX Z Z))
    ·exact(lL.put (bV u 1e7 i) i λz=>3e8)
    ·have hb:i∈binOf s t.from_:=zL (s:={s with now:=e.time}) hi;exact II h hb
  ·split
   ·exact iH (nX Z Z)
   ·rename_i x hx;split
    ·rename_i o hp;refine cI (LL.le (.sentBack ?_ (by rw[hp];exact λz=>3e8))) (iH (nX Z Z));rw[(eM hx).2];exact hx
    ·exact iH (nX Z Z)
def SU{t:Nat}:∀(n:Nat) {s:State},Wf s->pot (kR t n s)<=pot s
 |0,s,_=>iH (nX Z Z)
 |n+1,s,h=>by
  cases q:nY s t with
  |none=>rw[HY q 0e1];exact iH (nX Z Z)
  |some e=>rw[HE q];obtain⟨a,b,c⟩:=QG q;exact cI (SU n (h.happens a c)) (aJd h e)
def UE{o:Nat}:∀(l:List Nat) (t:State),l.Nodup->(∀i∈l,cC t i≠some .missing)->pot 37e3<=pot t
 |[],t,_,_=>bL _
 |i::l,t,hn,h=>by
  rw[eW];refine cI (UE l _ (iW.mp hn).2 λj hj=>?_) ?_
  ·have hne:j≠i:=λe=>(iW.mp hn).1 44e2;rw[RT hne];exact h j (dZ _ hj)
  ·unfold checkOne;split
   ·exact bL _
   ·rename_i x hx;split
    ·rename_i hl;refine cI (QO ?_) (iH (nX Z Z));show lq t i=true;unfold lq mU;rw[hx,mM,hl];simp only[tP,tH,rP];exact AV h[8e9] x hx hl
    ·exact bL _
def SR{p q:Nat->Bool}{a:Nat}:∀{l:List Nat},l.Nodup->(∀x∈l,p x=true->q x=true\/x=a)->(l.filter p).length<=(l.filter q).length+1
 |[],_,_=>dN _
 |x::l,hn,h=>by
  obtain⟨h1,h2⟩:=iW.mp hn;by_cases e:x=a
  ·have:=sM (p:=p) (q:=q) (l:=l) λy hy z=>by
    rcases h y (dZ _ hy) z with r|r
    ·exact r
    ·exact absurd (e.trans r.symm▸hy) h1
   rw[fZ,fZ];split<;>split<;>(try simp only[eD])<;>omega
  ·have ih:=SR h2 λy hy=>h y (dZ _ hy);rw[fZ,fZ];split
   ·rename_i z;rcases h x (dY ..) z with r|r
    ·rw[aC r];simp only[eD];omega
    ·exact absurd r e
   ·split
    ·simp only[eD];omega
    ·exact ih
def dR(s:State)(r:State×gU):Prop:=pot r.1<=pot s+1
def dE(s:State):pot s<=pot s+1:=lF _
def dR.no(s:State)(n:Int):dR s (no s n):=dE s
def dR.ll{a:gU}(h:LL s s'):dR s (s',a):=C2 h.le
def dR.lt{a:gU}(h:pot s'<=pot s):dR s (s',a):=C2 h
def dR.item(h:Wf s){id:Int}{f:Item->State×gU}(hf:∀x,itemOf s x.id=some x->dR s (f x)):dR s 23e3:=by
 unfold withItem;split
 ·exact dR.no s _
 ·rename_i x hx;exact hf x (pN hx h.ids).1
def VU{s u:State}(h:Wf s){x:Item}(hx:itemOf s x.id=some x)(hu:u.items=11e0/\u.losses=10e9):pot u[13e4]<=pot s+1:=by
 unfold pot;have e:(setItem u {x with lost:=true}).losses=s.losses:=hu.2;rw[e,qQ,hu.1];have:=SR (a:=x.id) (p:=lq u[13e4]) (q:=lq s) h.ids λi _ z=>by
  by_cases e:i=x.id
  ·exact .inr e
  ·refine .inl ?_;rw[TQ] at z;have e2:itemOf u i=itemOf s i:=by unfold itemOf;rw[hu.1]
   rw[e2] at z;unfold lq;cases q:itemOf s i with
   |none=>rw[q] at z;cases z
   |some y=>rw[q] at z;simp only[mM,aB e] at z ⊢;exact z
 omega
def ZF(h:Wf s)(c:Call):dR s 9e8:=by
 cases c with
 |trip n a b dep dur cap=>
  simp only[act];repeat' split
  all_goals exact dE s
 |cancel n d=>
  simp only[act];repeat' split
  all_goals exact dE s
 |post o id q p hh r v c fee=>
  simp only[act];split
  ·exact dE s
  ·split
   ·exact dE s
   ·rename_i hs;split
    ·exact dE s
    ·have hs':itemOf s 12e7=none:=by simpa using hs
     generalize pF (λy=>y.1) (jN 1e6 1e4 s.now q.toNat)=promise;refine dR.lt ?_;refine cI (LL.le (s:={s with items:=s.items++[{id:=id.toNat,from_:=o.toNat,to_:=q.toNat,point:=p.toNat,home:=hh.toNat,rank:=r.toNat,value:=v.toNat,cod:=c.toNat,promise:=promise,place:= .missing,lost:=false,since:=0,back:=false,attempts:=0}]}) (.trans (LL.trans (b:=yJ {s with items:=s.items++[{id:=id.toNat,from_:=o.toNat,to_:=q.toNat,point:=p.toNat,home:=hh.toNat,rank:=r.toNat,value:=v.toNat,cod:=c.toNat,promise:=promise,place:= .missing,lost:=false,since:=0,back:=false,attempts:=0}],inn:=s.inn+fee.toNat} 1e4 fee) (.of Z Z) (.intoBin λy hy hl=>?_)) (.scan _ _ _ _))) ?_
     ·have hy':itemOf {s with items:=s.items++[{id:=id.toNat,from_:=o.toNat,to_:=q.toNat,point:=p.toNat,home:=hh.toNat,rank:=r.toNat,value:=v.toNat,cod:=c.toNat,promise:=promise,place:= .missing,lost:=false,since:=0,back:=false,attempts:=0}]} 12e7=some y:=hy;rw[A6,hs'] at hy';simp only[jM] at hy';have:=eO hy';subst this;cases hl
     ·unfold pot;refine WI ?_ _;rw[eP,BW,dU];have h1:∀i,lq {s with items:=s.items++[{id:=id.toNat,from_:=o.toNat,to_:=q.toNat,point:=p.toNat,home:=hh.toNat,rank:=r.toNat,value:=v.toNat,cod:=c.toNat,promise:=promise,place:= .missing,lost:=false,since:=0,back:=false,attempts:=0}]} i=true->lq s i=true:=λi z=>by
       unfold lq at z ⊢;rw[A6] at z;cases q':itemOf s i with
       |none=>rw[q'] at z;simp only at z;split at z<;>cases z
       |some y=>rw[q'] at z;exact z
      have h2:=sM (l:=s.items.map (·.id)) λi _ z=>h1 i z;have h3:lq {s with items:=s.items++[{id:=id.toNat,from_:=o.toNat,to_:=q.toNat,point:=p.toNat,home:=hh.toNat,rank:=r.toNat,value:=v.toNat,cod:=c.toNat,promise:=promise,place:= .missing,lost:=false,since:=0,back:=false,attempts:=0}]} 12e7=false:=by
       cases z:lq _ 12e7 with
       |false=>rfl
       |true=>have:=h1 _ z;unfold lq at this;rw[hs'] at this;cases this
      rw[cQ,jP,fZ,aB %[h3,eQ|0e0]];exact h2
 |on_ t=>
  simp only[act];split
  ·exact dE s
  ·split
   ·exact dE s
   ·split
    ·exact dE s
    ·exact dR.lt (SU _ h)
 |lose id b=>
  simp only[act];refine 22e9;split
  ·exact dE s
  ·split
   ·split
    ·exact dE s
    ·exact VU h hx ⟨Z,Z⟩
   ·split
    ·exact dE s
    ·exact VU (u:={s with runs:=_}) h hx ⟨Z,Z⟩
   ·exact dE s
 |check o=>
  simp only[act];split
  ·exact dE s
  ·refine dR.lt ?_;rw[wS];exact UE _ _ (h.bin _).1 λi hi=>II h hi
 |found o id=>
  simp only[act];split
  ·exact dE s
  ·refine 22e9;split
   ·exact dE s
   ·refine dR.ll ?_;unfold turnedUp;dsimp only;refine .trans (LL.trans (b:=setItem s {x with lost:=false}) (.set λy _ z=>?_) ?_) (.scan _ _ _ _)
    ·cases z
    ·refine LL.trans (b:=setItem 47e2 {x with lost:=false}) (.of ?_ ?_) (.intoBin λy hy hl=>?_)
     ·cases x.place<;>rfl
     ·cases x.place<;>first|rfl|exact bA ..
     ·have e2:itemOf 47e2 x.id=some x:=by cases x.place<;>exact hx
      rw[rD (x:={x with lost:=false}) e2] at hy;cases hy;cases hl
 |pass o n=>
  simp only[act];split
  ·exact dE s
  ·split
   ·exact dE s
   ·split
    ·exact dE s
    ·refine dR.ll ?_;unfold passed;dsimp only;split
     ·refine LL.trans (AJ (f:=λs id=>tO (bV s 1e4 id) id (.tray 1e4)) (λu i hi=>{LL.trans (b:=bV u 1e4 i) (.of Z Z) (.put (AV hi)),lL.put (bV u 1e4 i) i λz=>3e8}) ((toSort s 1e4).take n.toNat) s λi hi=>?_) (.of Z Z);exact II h (F1 (vN hi)).1
     ·refine LL.trans (AJ (f:=λs id=>BQ s 1e4 id) (λu i hi=>{.intoBin (AV hi),(bP.intoBin u 1e4 i).miss}) 63e3 s λi hi=>?_) (.of Z Z);exact T6 h (W8 hi)
 |out o=>
  simp only[act];split
  ·exact dE s
  ·split
   ·exact dE s
   ·split
    ·exact dE s
    ·refine dR.ll ?_;refine LL.trans (AJ (f:=λs id=>pE (tO s id (.round 1e4)) 1e4 id 3 0) (λu i hi=>{.trans (.put (AV hi)) (.scan _ _ _ _),lL.put u i λz=>3e8}) (trayOf s 1e4).items s λi hi=>?_) (.of Z Z);exact T6 h hi
 |hand id how=>
  simp only[act];refine 22e9;split
  ·exact dE s
  ·split
   ·rename_i o hp;have hm:x.place≠ .missing:=by rw[hp];exact λz=>nomatch z
    split
    ·exact dE s
    ·refine dR.ll ?_;refine LL.trans (b:=setRound s o ((bY s o).drop 1)) (.of Z Z) ?_;split
     ·exact .given hx hm
     ·split
      ·exact .notThere hx hm
      ·exact .sentBack hx hm
   ·exact dE s
 |pickup id=>
  simp only[act];refine 22e9;split
  ·rename_i o hp;exact dR.ll (.given hx hp[4e9])
  ·exact dE s
 |tell k o=>
  simp only[act];repeat' split
  all_goals exact dE s
 |payout k=>
  simp only[act];split
  ·exact dE s
  ·split
   ·exact dE s
   ·split<;>exact dE s
 |claim id=>
  simp only[act];refine 22e9;split
  ·exact dE s
  ·refine dR.ll (.of ?_ ?_)
   ·show owe[1e7].items=_;rw[AN[1e7].1];rfl
   ·show owe[1e7].losses.length=_;rw[AN[1e7].2];exact mJ ..
 |giveBack id=>
  simp only[act];refine 22e9;split
  ·exact dE s
  ·refine dR.ll (.of ?_ ?_)
   ·show unowe[1e7].items=_;rw[VB[1e7].1];rfl
   ·show unowe[1e7].losses.length=_;rw[VB[1e7].2];exact mJ ..
 |settle=>exact dE s
 |item id=>unfold dR;rw[2e5];exact dE s
 |office o=>unfold dR;rw[2e5];exact dE s
 |said o id=>unfold dR;rw[2e5];exact dE s
 |knows o=>unfold dR;rw[2e5];exact dE s
 |way o t q=>unfold dR;rw[2e5];exact dE s
 |latest o q t=>unfold dR;rw[2e5];exact dE s
 |account p=>unfold dR;rw[2e5];exact dE s
 |losses=>unfold dR;rw[2e5];exact dE s
 |orders=>unfold dR;rw[2e5];exact dE s
 |runs=>unfold dR;rw[2e5];exact dE s
 |back n=>unfold dR;rw[2e5];exact dE s
 |counts=>unfold dR;rw[2e5];exact dE s
def fl(a:gU):Nat:=(a.value::51e7).length
def bQ(r:State×gU):Prop:=fl r.2<=7000
def bQ.no(s:State)(n:Int):bQ (no s n):=by unfold bQ fl jQ;simp
def bQ.m{s:State}{v:Int}{l:List Int}(h:l.length<=100):bQ (s,{value:=v,more:=l}):=by unfold bQ fl;simp;omega
def bQ.item{id:Int}{f:Item->State×gU}(hf:∀x,bQ (f x)):bQ 23e3:=by
 unfold withItem;split
 ·exact 2e1
 ·exact hf _
def bQ.row{s:State}{v:Int}{l:List Int}(h:l.length<=6000):bQ (s,{value:=v,rows:=[l]}):=by unfold bQ fl;simp;omega
def DA{α:Type}{f:α->List Int}{k:Nat}(hf:∀x,(f x).length<=k):∀l:List α,(l.flatMap f).length<=k * l.length
 |[]=>dN _
 |x::l=>by rw[rO,dU,eD,Nat.mul_add];have:=DA hf l;have:=hf x;omega
def AO(l:List Nat):(Vbpozz.ints l).length=l.length:=bA ..
def y8(h:Wf s)(hl:s.losses.length<=1000)(ho:s.orders.length<=1000)(c:Call):bQ 9e8:=by
 cases c with
 |trip n a b dep dur cap=>
  simp only[act];repeat' split
  all_goals first|exact 2e1|exact 15e0
 |cancel n d=>
  simp only[act];repeat' split
  all_goals first|exact 2e1|exact 15e0
 |post o id q p hh r v c fee=>
  simp only[act];split
  ·exact 2e1
  ·split
   ·exact 2e1
   ·split
    ·exact 2e1
    ·exact 1[6e8]
 |on_ t=>
  simp only[act];split
  ·exact 2e1
  ·split
   ·exact 2e1
   ·split
    ·exact 2e1
    ·exact 1[6e8]
 |lose id b=>
  simp only[act];refine 24e2;repeat' split
  all_goals first|exact 2e1|exact 15e0
 |check o=>
  simp only[act];split
  ·exact 2e1
  ·exact 15e0
 |found o id=>
  simp only[act];split
  ·exact 2e1
  ·refine 24e2;split
   ·exact 2e1
   ·exact 15e0
 |pass o n=>
  simp only[act];split
  ·exact 2e1
  ·split
   ·exact 2e1
   ·split
    ·exact 2e1
    ·exact 1[6e8]
 |out o=>
  simp only[act];split
  ·exact 2e1
  ·split
   ·exact 2e1
   ·split
    ·exact 2e1
    ·exact 15e0
 |hand id how=>
  simp only[act];refine 24e2;split
  ·exact 2e1
  ·split
   ·split
    ·exact 2e1
    ·exact 1[6e8]
   ·exact 2e1
 |pickup id=>
  simp only[act];refine 24e2;split
  ·exact 15e0
  ·exact 2e1
 |tell k o=>
  simp only[act];split
  ·exact 2e1
  ·split
   ·exact 2e1
   ·exact 15e0
 |payout k=>
  simp only[act];split
  ·exact 2e1
  ·split
   ·exact 2e1
   ·split
    ·exact 2e1
    ·exact 1[6e8]
 |claim id=>
  simp only[act];refine 24e2;split
  ·exact 2e1
  ·exact 1[6e8]
 |giveBack id=>
  simp only[act];refine 24e2;split
  ·exact 2e1
  ·exact 1[6e8]
 |settle=>exact bQ.row (by rw[bA,iA];decide)
 |item id=>
  simp only[act];refine bQ.item λx=>bQ.m ?_;rw[dU,dU,AO];have:(placeNumbers s x).length=3:=by unfold placeNumbers;split<;>rfl
  rw[this];show 3+(1+3)<=100;omega
 |office o=>
  simp only[act];split
  ·exact 2e1
  ·have h1:(binOf s 1e4).length<=20:=h.len20 (p:= .bin 1e4) rfl;have h2:(trayOf s 1e4).items.length<=20:=h.len20 (p:= .tray 1e4) rfl;have h3:(bY s 1e4).length<=20:=h.len20 (p:= .round 1e4) rfl;have h4:(s.items.filter λx=>x.place== .counter 1e4).length<=20:=cI (pZ _ _) 5e6;unfold bQ fl;simp only[rO,LG,dU,eD,rQ,AO,bA];omega
 |said o id=>
  simp only[act];split
  ·exact 2e1
  ·refine bQ.item λx=>bQ.m ?_;split
   ·exact dN _
   ·rw[AO];show 3<=100;omega
 |knows o=>
  simp only[act];split
  ·exact 2e1
  ·refine bQ.row ?_;rw[AO,tQ];omega
 |way o t q=>
  simp only[act];split
  ·exact 2e1
  ·split
   ·exact 2e1
   ·refine bQ.m ?_;unfold labelNumbers;split<;>(show 2<=100;omega)
 |latest o q t=>
  simp only[act];split
  ·exact 2e1
  ·split
   ·exact 2e1
   ·exact 15e0
 |account p=>
  simp only[act];split
  ·exact 2e1
  ·exact 3[6e8]
 |losses=>refine bQ.row ?_;have:=DA (k:=5) (f:=λl:Loss=>39e3) (λx=>bL _) 10e9;omega
 |orders=>refine bQ.row ?_;have:=DA (k:=6) (f:=λx:Order=>Vbpozz.ints [x.item,x.amount,x.at_,x.for_,x.message,x.paid.toNat]) (λx=>bL _) s.orders;omega
 |runs=>refine bQ.row ?_;have:=DA (k:=4) (f:=λr:Run=>39e9) (λx=>bL _) s.runs;have:=zP h;omega
 |back n=>exact 2e1
 |counts=>exact 5[6e8]
structure rB(n:Nat)(s:State):Prop where
 wf:Wf s
 jn:Jn s
 msgs:s.messages.length<=8000 * n
 pot:pot s<=n
 ord:s.orders.length<=n
 log:s.log.length<=n
def I_:rB 0 start:={RO,aHc,bL _,bL _,bL _,bL _}
def rB.los{n:Nat}(h:rB n s):s.losses.length<=n:=cI (eV _ _) h.pot
def rB.step{n:Nat}(h:rB n s)(c:Call):rB (n+1) (step s c).1:=by
 have h1:=h.wf.step c;have h2:=h.jn.step c;refine{h1.1,h2,by have:=h1.2;have:=h.msgs;omega,?_,?_,?_}<;>rw[GY]<;>rcases K6 s c with e|e<;>rw[e]
 ·exact C2 h.pot
 ·have:PH.pot (9e8).1<=PH.pot s+1:=ZF h.wf c;have q:=h.pot;exact cI (iH (nX (s:=(9e8).1) Z Z)) 0e1
 ·exact C2 h.ord
 ·have:(act s c).1.orders.length<=6e2+1:=YX s c;have q:=h.ord;show (9e8).1.orders.length<=_;omega
 ·exact C2 h.log
 ·have:(act s c).1.log=s.log:=JU s c;show((9e8).1.log++[c]).length<=_;rw[this,dU];have:=h.log;show _+1<=_;omega
def SJ:∀(l:List Call) {s:State},Wf s->Wf (l.foldl (λs c=>(logged s c).1) s)
 |[],_,h=>h
 |c::l,_,h=>SJ l (h.logged c).1
def rB.fl{n:Nat}(h:rB n s)(hn:n<=1000)(c:Call):PH.fl (iB s c).2<=7000:=by
 by_cases hc:∃k,c= .back k
 ·obtain⟨k,rfl⟩:=hc;show bQ (iB s (.back k));simp only[iB];split
  ·exact 2e1
  ·have h5:(replay (s.log.take k.toNat)).cash.length=5:=(SJ _ RO).len.2.2.2.2.1;unfold bQ PH.fl;simp only[rO,LG,dU,eD,rQ,AO,h5];omega
 ·have:=y8 h.wf (cI h.los hn) (cI h.ord hn) c;have e:(iB s c).2=(9e8).2:=by
   have:iB s c=logged s c:=by cases c<;>first|rfl|exact absurd {_,Z} hc
   rw[this];unfold logged;dsimp only;split<;>rfl
  rw[e];exact this
inductive cN:Int->List Int->Call->Prop
 |trip (n a b dep dur cap:Int):cN 0 [n,a,b,dep,dur,cap] (.trip n a b dep dur cap)
 |cancel (n d:Int):cN 1 [n,d] (.cancel n d)
 |post (o x q p h r v c f:Int):cN 2 [o,x,q,p,h,r,v,c,f] (.post o x q p h r v c f)
 |on_ (t:Int):cN 3 [t] (.on_ t)
 |lose (x b:Int):cN 4 [x,b] (.lose x b)
 |check (o:Int):cN 5 [o] (.check o)
 |found (o x:Int):cN 6 [o,x] (.found o x)
 |pass (o n:Int):cN 7 [o,n] (.pass o n)
 |out (o:Int):cN 8 [o] (.out o)
 |hand (x w:Int):cN 9 [x,w] (.hand x w)
 |pickup (x:Int):cN 10 [x] (.pickup x)
 |tell (k o:Int):cN 11 [k,o] (.tell k o)
 |payout (k:Int):cN 12 [k] (.payout k)
 |claim (x:Int):cN 13 [x] (.claim x)
 |giveBack (x:Int):cN 14 [x] (.giveBack x)
 |settle:cN 15 [] (.settle)
 |item (x:Int):cN 16 [x] (.item x)
 |office (o:Int):cN 17 [o] (.office o)
 |said (o x:Int):cN 18 [o,x] (.said o x)
 |knows (o:Int):cN 19 [o] (.knows o)
 |way (o t q:Int):cN 20 [o,t,q] (.way o t q)
 |latest (o q t:Int):cN 21 [o,q,t] (.latest o q t)
 |account (p:Int):cN 22 [p] (.account p)
 |losses:cN 23 [] (.losses)
 |orders:cN 24 [] (.orders)
 |runs:cN 25 [] (.runs)
 |back (n:Int):cN 26 [n] (.back n)
 |counts:cN 27 [] (.counts)
def Z0{p:Int}(h:cN p ns c):WJ [p::ns]=some c:=by cases h<;>rfl
def cN.asks{p:Int}(h:cN p ns c):LN c=decide (15<p):=by cases h<;>rfl
def aOx{p:Int}{m:Nat×Nat}(h:LO p=some m):m.2=0/\0<=p/\p<=27/\∀ns:List Int,15e3=m.1->∃c,cN p ns c:=by
 unfold LO at h;by_cases e0:p=0
 ·subst e0;rw[aC rfl] at h;cases h;refine 3e1;exact match ns,hl with|[n,a,b,dep,dur,cap],_=>{_,cN.trip n a b dep dur cap}
 rw[aB e0] at h;by_cases e1:p=1
 ·subst e1;rw[aC rfl] at h;cases h;refine 3e1;exact match ns,hl with|[n,d],_=>{_,cN.cancel n d}
 rw[aB e1] at h;by_cases e2:p=2
 ·subst e2;rw[aC rfl] at h;cases h;refine 3e1;exact match ns,hl with|[o,x,q,p,h,r,v,c,f],_=>{_,cN.post o x q p h r v c f}
 rw[aB e2] at h;by_cases e3:p=3
 ·subst e3;rw[aC rfl] at h;cases h;refine 3e1;exact match ns,hl with|[t],_=>{_,cN.on_ t}
 rw[aB e3] at h;by_cases e4:p=4
 ·subst e4;rw[aC rfl] at h;cases h;refine 3e1;exact match ns,hl with|[x,b],_=>{_,cN.lose x b}
 rw[aB e4] at h;by_cases e5:p=5
 ·subst e5;rw[aC rfl] at h;cases h;refine 3e1;exact match ns,hl with|[o],_=>{_,cN.check o}
 rw[aB e5] at h;by_cases e6:p=6
 ·subst e6;rw[aC rfl] at h;cases h;refine 3e1;exact match ns,hl with|[o,x],_=>{_,cN.found o x}
 rw[aB e6] at h;by_cases e7:p=7
 ·subst e7;rw[aC rfl] at h;cases h;refine 3e1;exact match ns,hl with|[o,n],_=>{_,cN.pass o n}
 rw[aB e7] at h;by_cases e8:p=8
 ·subst e8;rw[aC rfl] at h;cases h;refine 3e1;exact match ns,hl with|[o],_=>{_,cN.out o}
 rw[aB e8] at h;by_cases e9:p=9
 ·subst e9;rw[aC rfl] at h;cases h;refine 3e1;exact match ns,hl with|[x,w],_=>{_,cN.hand x w}
 rw[aB e9] at h;by_cases e10:p=10
 ·subst e10;rw[aC rfl] at h;cases h;refine 3e1;exact match ns,hl with|[x],_=>{_,cN.pickup x}
 rw[aB e10] at h;by_cases e11:p=11
 ·subst e11;rw[aC rfl] at h;cases h;refine 3e1;exact match ns,hl with|[k,o],_=>{_,cN.tell k o}
 rw[aB e11] at h;by_cases e12:p=12
 ·subst e12;rw[aC rfl] at h;cases h;refine 3e1;exact match ns,hl with|[k],_=>{_,cN.payout k}
 rw[aB e12] at h;by_cases e13:p=13
 ·subst e13;rw[aC rfl] at h;cases h;refine 3e1;exact match ns,hl with|[x],_=>{_,cN.claim x}
 rw[aB e13] at h;by_cases e14:p=14
 ·subst e14;rw[aC rfl] at h;cases h;refine 3e1;exact match ns,hl with|[x],_=>{_,cN.giveBack x}
 rw[aB e14] at h;by_cases e15:p=15
 ·subst e15;rw[aC rfl] at h;cases h;refine 3e1;exact match ns,hl with|[],_=>{_,cN.settle}
 rw[aB e15] at h;by_cases e16:p=16
 ·subst e16;rw[aC rfl] at h;cases h;refine 3e1;exact match ns,hl with|[x],_=>{_,cN.item x}
 rw[aB e16] at h;by_cases e17:p=17
 ·subst e17;rw[aC rfl] at h;cases h;refine 3e1;exact match ns,hl with|[o],_=>{_,cN.office o}
 rw[aB e17] at h;by_cases e18:p=18
 ·subst e18;rw[aC rfl] at h;cases h;refine 3e1;exact match ns,hl with|[o,x],_=>{_,cN.said o x}
 rw[aB e18] at h;by_cases e19:p=19
 ·subst e19;rw[aC rfl] at h;cases h;refine 3e1;exact match ns,hl with|[o],_=>{_,cN.knows o}
 rw[aB e19] at h;by_cases e20:p=20
 ·subst e20;rw[aC rfl] at h;cases h;refine 3e1;exact match ns,hl with|[o,t,q],_=>{_,cN.way o t q}
 rw[aB e20] at h;by_cases e21:p=21
 ·subst e21;rw[aC rfl] at h;cases h;refine 3e1;exact match ns,hl with|[o,q,t],_=>{_,cN.latest o q t}
 rw[aB e21] at h;by_cases e22:p=22
 ·subst e22;rw[aC rfl] at h;cases h;refine 3e1;exact match ns,hl with|[p],_=>{_,cN.account p}
 rw[aB e22] at h;by_cases e23:p=23
 ·subst e23;rw[aC rfl] at h;cases h;refine 3e1;exact match ns,hl with|[],_=>{_,cN.losses}
 rw[aB e23] at h;by_cases e24:p=24
 ·subst e24;rw[aC rfl] at h;cases h;refine 3e1;exact match ns,hl with|[],_=>{_,cN.orders}
 rw[aB e24] at h;by_cases e25:p=25
 ·subst e25;rw[aC rfl] at h;cases h;refine 3e1;exact match ns,hl with|[],_=>{_,cN.runs}
 rw[aB e25] at h;by_cases e26:p=26
 ·subst e26;rw[aC rfl] at h;cases h;refine 3e1;exact match ns,hl with|[n],_=>{_,cN.back n}
 rw[aB e26] at h;by_cases e27:p=27
 ·subst e27;rw[aC rfl] at h;cases h;refine 3e1;exact match ns,hl with|[],_=>{_,cN.counts}
 rw[aB e27] at h;cases h
def cN.whole{p:Int}(h:cN p ns c):PyVbpozz.whole [p::ns]=[p::ns]:=by cases h<;>rfl
inductive Ln:List Int->List Call->Prop
 |nil:Ln [] []
 |cons {p:Int} {ns r:List Int} {c:Call} {cs:List Call}:cN p ns c->Ln r cs->Ln (p::(ns++r)) (c::cs)
def ON:∀(f:Nat) (l:List Int) {cs:List (List (List Int))},WK LO f l=some cs->∃ks:List Call,Ln l ks/\cs.map WJ=ks.map some/\cs.map PyVbpozz.whole=cs
 |f,[],cs,h=>by
  have e:WK LO f []=some []:=by cases f<;>rfl
  rw[e] at h;cases h;exact{[],.nil,Z,Z}
 |0,p::r,cs,h=>by cases h
 |f+1,p::r,cs,h=>by
  unfold WK at h;split at h
  ·cases h
  ·rename_i c t hc;split at h
   ·cases h
   ·rename_i ds hd;cases h;simp only[PyFlat.call] at hc;split at hc
    ·cases hc
    ·rename_i n k hs;split at hc
     ·cases hc
     ·rename_i hlen;obtain⟨e0,_,_,hcal⟩:=aOx hs;have e0':k=0:=e0;subst e0';simp only[PyFlat.rows] at hc;cases hc;obtain⟨c,hc⟩:=hcal (r.take n) (by rw[fV];show min n r.length=n;omega);obtain⟨ks,h1,h2,h3⟩:=ON f (r.drop n) hd;refine⟨c::ks,?_,?_,?_⟩
      ·have:=Ln.cons hc h1;rw[BV] at this;exact this
      ·rw[cQ,cQ,h2,Z0 hc]
      ·rw[cQ,h3,hc.whole]
def tl(s:State):List Call->List Int
 |[]=>[]
 |c::r=>((fl (step s c).2:Nat):Int)::((step s c).2.value::c[18e7])++tl (step s c).1 r
def P5:∀(cs:List (List (List Int))) (ks:List Call) (s:State),cs.map WJ=ks.map some->PyFlat.told (PyFlat.played WL s cs)=tl s ks
 |[],[],s,_=>rfl
 |[],k::ks,s,h=>by cases h
 |c::cs,[],s,h=>by cases h
 |c::cs,k::ks,s,h=>by
  rw[cQ,cQ] at h;injection h with h1 h2
  have e:WL s c=((step s k).1,(step s k).2.value::k[18e7]):=by unfold WL;rw[h1]
  have ih:=P5 cs ks (step s k).1 h2;unfold PyFlat.told at ih ⊢;rw[PyFlat.played,rO,e];dsimp only;rw[ih];rfl
def EA(h:WM l=true):∃ks:List Call,Ln l ks/\ks.length<=400/\WN l=tl start ks:=by
 unfold WM at h;unfold WN;cases q:PyVbpozz.calls l with
 |none=>rw[q] at h;cases h
 |some cs=>
  rw[q] at h;simp only[fF,PyFlat.atMost,iX] at h;unfold PyVbpozz.calls at q;split at q
  ·cases q
  ·rename_i ds hd;cases q;obtain⟨ks,h1,h2,h3⟩:=ON _ _ hd;rw[h3] at h ⊢;refine{ks,h1,?_,P5 _ _ _ h2};have:=dB jV h2;rw[bA,bA] at this;omega
def BF(x:Nat×Option 8e7)(r:Trip×Nat):Option 8e7:=match x.2 with
 |none=>some 12e3
 |some f=>some f
def eS(l:List Label)(q:Nat):Label:=(l[q]?).join
def UX{r:Trip×Nat}(h:eS old 18e3=none):tryRun old new r=new:=by unfold tryRun;unfold eS at h;rw[h]
def UM{r:Trip×Nat}{x:Nat×Option 8e7}(h:eS old 18e3=some x)(hd:depOf r<x.1):tryRun old new r=new:=by unfold tryRun;unfold eS at h;rw[h];exact aC hd
def KR{r:Trip×Nat}{x:Nat×Option 8e7}(h:eS old 18e3=some x)(hd:¬depOf r<x.1)(hn:∀y,eS new 9e0=some y->comesOf r<y.1):
 tryRun old new r=new.set 9e0 (some (comesOf r,BF x r)):=by
 unfold tryRun;unfold eS at h hn;rw[h];dsimp only;rw[aB hd];cases q:(new[r.1.to_]?).join with
 |none=>rfl
 |some y=>exact aC (hn y q)
def V8{r:Trip×Nat}{y:Nat×Option 8e7}(hn:eS new 9e0=some y)(hc:¬comesOf r<y.1):tryRun old new r=new:=by
 unfold tryRun;unfold eS at hn;cases q:(old[r.1.from_]?).join with
 |none=>rfl
 |some x=>
  dsimp only;split
  ·rfl
  ·rw[hn];exact aB hc
def HN(old new:List Label)(r:Trip×Nat):tryRun old new r=new\/∃x,eS old 18e3=some x/\¬depOf r<x.1/\(∀y,eS new 9e0=some y->comesOf r<y.1)/\tryRun old new r=new.set 9e0 (some (comesOf r,BF x r)):=by
 cases q:eS old 18e3 with
 |none=>exact .inl (UX q)
 |some x=>
  by_cases hd:depOf r<x.1
  ·exact .inl (UM q hd)
  ·cases q2:eS new 9e0 with
   |none=>exact .inr {x,Z,hd,(λy hy=>by cases hy),KR q hd λy hy=>by rw[q2] at hy;cases hy}
   |some y=>
    by_cases hc:comesOf r<y.1
    ·exact .inr {x,Z,hd,(λz hz=>by cases hz;exact hc),KR q hd λz hz=>by rw[q2] at hz;cases hz;exact hc}
    ·exact .inl (V8 q2 hc)
def EH{l:List Label}{i q:Nat}(hi:i<2e9):eS (l.set i v) q=if q=i then v else eS l q:=by
 unfold eS;rw[yH];by_cases e:i=q
 ·subst e;rw[aC rfl,aC hi,aC rfl];rfl
 ·rw[aB e,aB (fK e)]
def KF(old new:List Label)(r:Trip×Nat):(tryRun old new r).length=new.length:=by
 rcases HN old new r with e|⟨x,_,_,_,e⟩<;>rw[e]
 rw[jW]
def U1(old:List Label):∀(rs:List (Trip×Nat)) (new:List Label),(rs.foldl (tryRun old) new).length=new.length
 |[],_=>rfl
 |r::rs,new=>by rw[eW,U1 old rs,KF]
def qY(rs:List 25e3)(l:List Label):Prop:=∀q x f,eS l q=some x->x.2=some f->∃r∈rs,f=12e3
def aAm{rs:List 25e3}(hr4:∀r∈rs,9e0<4){old new:List Label}(hl:new.length=4)(ho:qY rs old)(hn:qY rs new){r:Trip×Nat}(hr:r∈rs):qY rs (tryRun old new r):=by
 rcases HN old new r with e|⟨x,hx,_,_,e⟩<;>rw[e]
 ·exact hn
 ·intro q y f hy hf;rw[EH (by rw[hl];exact hr4 r hr)] at hy;split at hy
  ·cases hy;unfold BF at hf;dsimp only at hf;split at hf
   ·cases hf;exact⟨r,hr,Z⟩
   ·rename_i g hg;cases hf;exact ho _ _ _ hx hg
  ·exact hn q y f hy hf
def PY{rs:List 25e3}(hr4:∀r∈rs,9e0<4)(ho:qY rs old):∀(l:List (Trip×Nat)) (new:List Label),(∀r∈l,r∈rs)->new.length=4->qY rs new->qY rs (l.foldl (tryRun old) new)
 |[],_,_,_,hn=>hn
 |r::l,new,h,hl,hn=>PY hr4 ho l _ (λq hq=>h q (dZ _ hq)) ((KF ..).trans hl) (aAm hr4 hl ho hn (h r (dY ..)))
def mZ(o t:Nat):List Label:=(iY BL none).set o (some (t,none))
def vI(o t:Nat):(mZ o t).length=4:=by unfold mZ;rw[jW];rfl
def aHd(q:Nat):eS (iY 4 none) q=none:=by
 unfold eS;cases e:(iY 4 (none:Label))[q]? with
 |none=>rfl
 |some v=>have:=fS e;rw[(aPl.mp this).2];rfl
def GR{o t q:Nat}(ho:o<4):eS (mZ o t) q=if q=o then some (t,none) else none:=by
 unfold mZ;rw[EH %[yN,ho|0e0]];split
 ·rfl
 ·exact aHd q
def aFr{o t:Nat}(ho:o<4):qY rs (mZ o t):=λq x f h hf=>by
 rw[GR ho] at h;split at h
 ·cases h;cases hf
 ·cases h
def uM(o t:Nat)(l:List Label):Prop:=eS l o=some (t,none)
def m6{o t:Nat}(h:uM o t new)(hc:t<=comesOf r)(hl:new.length=4)(hr:r.1.to_<4):uM o t (tryRun old new r):=by
 rcases HN old new r with e|⟨x,hx,_,hy,e⟩<;>rw[e]
 ·exact h
 ·unfold uM;rw[EH %[hl,hr|0e0]];split
  ·rename_i eo;rw[<-eo] at hy;exact absurd (hy _ h) (WO.mpr hc)
  ·exact h
def CY{o t:Nat}:∀(l:List (Trip×Nat)) (new:List Label),(∀r∈l,t<=comesOf r/\9e0<4)->new.length=4->uM o t new->uM o t (l.foldl (tryRun old) new)
 |[],_,_,_,hn=>hn
 |r::l,new,h,hl,hn=>CY l _ (λq hq=>h q (dZ _ hq)) ((KF ..).trans hl) (m6 hn (h r (dY ..)).1 hl (h r (dY ..)).2)
def uU(rs:List 25e3)(l:List Label):List Label:=rs.foldl 21e7 l
def PX(rs:List 25e3)(o t q:Nat):jN rs o t q=eS (uU rs (uU rs (uU rs (mZ o t)))) q:=rfl
def xN:(uU rs l).length=l.length:=U1 _ _ _
def D0(h:Wf s){r:Trip×Nat}(hr:r∈runsAhead s):r.1.from_<4/\9e0<4/\s.now<=depOf r:=by obtain⟨a,b,c⟩:=oW.mp hr;have:=h.trips.2.2 r.1 a;refine{this.1,this.2.1,?_};unfold gA at c;simp only[fF,iX] at c;exact c.2.2
def H_(h:Wf s){o:Nat}(ho:o<4):jN 1e6 o s.now o=some (s.now,none):=by
 have hr:∀r∈runsAhead s,s.now<=comesOf r/\9e0<4:=λr hr=>by have:=D0 h hr;exact{cI this.2.2 (eV _ _),this.2.1}
 have h0:uM o s.now (mZ o s.now):=by unfold uM;rw[GR ho,aC rfl]
 rw[PX];exact CY _ _ hr (xN.trans 34e2) (CY _ _ hr 34e2 (CY _ _ hr (vI ..) h0))
def J6(h:Wf s){l:List Label}(hl:l.length=4)(ho:qY 1e6 l):qY 1e6 (uU 1e6 l):=PY (λr hr=>(D0 h hr).2.1) ho _ _ (λ_ q=>q) hl ho
def SY(h:Wf s){o t q:Nat}(ho:o<4){x:Nat×Option 8e7}{f:Nat×Nat}(hx:jN 1e6 o t q=some x)(hf:x.2=some f):∃r∈runsAhead s,f=12e3:=by rw[PX] at hx;exact J6 h (xN.trans 34e2) (J6 h 34e2 (J6 h (vI ..) (aFr ho))) _ _ _ hx hf
def iT(l:List 21e2)(q:Nat):Option Nat:=(l[q]?).join
def w_{r:Trip×Nat}(h:iT old 9e0=none):backRun old new r=new:=by unfold backRun;unfold iT at h;rw[h]
def aFa{r:Trip×Nat}{b:Nat}(h:iT old 9e0=some b)(hd:b<comesOf r):backRun old new r=new:=by unfold backRun;unfold iT at h;rw[h];exact aC hd
def aJn{r:Trip×Nat}{b:Nat}(h:iT old 9e0=some b)(hd:¬b<comesOf r)(hn:∀c,iT new 18e3=some c->c<depOf r):backRun old new r=new.set 18e3 (some (depOf r)):=by
 unfold backRun;unfold iT at h hn;rw[h];dsimp only;rw[aB hd];cases q:(new[r.1.from_]?).join with
 |none=>rfl
 |some y=>exact aC (hn y q)
def aEt{r:Trip×Nat}{c:Nat}(hn:iT new 18e3=some c)(hc:¬c<depOf r):backRun old new r=new:=by
 unfold backRun;unfold iT at hn;cases q:(old[r.1.to_]?).join with
 |none=>rfl
 |some x=>
  dsimp only;split
  ·rfl
  ·rw[hn];exact aB hc
def V4{l:List 21e2}{i q:Nat}(hi:i<2e9):iT (l.set i v) q=if q=i then v else iT l q:=by
 unfold iT;rw[yH];by_cases e:i=q
 ·subst e;rw[aC rfl,aC hi,aC rfl];rfl
 ·rw[aB e,aB (fK e)]
def T7(rs:List 25e3)(l:List 21e2):List 21e2:=rs.foldl 21e6 l
def rC(o t:Nat):List 21e2:=(iY BL none).set o (some t)
def aIz(o t:Nat):(rC o t).length=4:=by unfold rC;rw[jW];rfl
def aEv{o t q:Nat}(ho:o<4):iT (rC o t) q=if q=o then some t else none:=by
 unfold rC;rw[V4 %[yN,ho|0e0]];split
 ·rfl
 ·unfold iT;cases e:(iY 4 (none:Option Nat))[q]? with
  |none=>exact dB Option.join e
  |some v=>have:=fS e;exact(dB Option.join e).trans (by rw[(aPl.mp this).2];rfl)
def iK(s:State)(t:Trip)(d:Nat)(x:Item):Bool:= !x.lost&&(jN 1e6 1e7 s.now (goal x).1).any λy=>y.2==some (t.no,d)
def aDs(h:Wf s){t:Trip}(ht:t.from_<4)(d:Nat):BD s t d=((18e5).filterMap (itemOf s)).filter 33e3:=by
 unfold BD;refine BN λx _=>?_;unfold iK;by_cases e:(goal x).1=1e7
 ·rw[e,H_ h ht];simp
 ·have:((goal x).1 != t.from_)=true:=by simpa using e
  rw[this,tP]
def jU(e:Event):List Int:=[(e.time:Int),e.kind,e.no,e.day]
def gE:List Int->List Int->Bool
 |x::xs,y::ys=>if x=y then gE xs ys else decide (x<y)
 |[],_::_=>true
 |_,[]=>false
def ZG(a b:Event):gE (jU a) (jU b)=sooner a b:=by
 unfold jU sooner;simp only[gE,LP];by_cases h1:a.time=b.time
 ·rw[aC h1,h1];by_cases h2:a.kind=b.kind
  ·rw[aC h2,h2];by_cases h3:a.no=b.no
   ·rw[aC h3,h3];by_cases h4:a.day=b.day
    ·rw[aC h4,h4];simp
    ·rw[aB h4];simp
   ·rw[aB h3];have:(a.no==b.no)=false:=by simpa using h3
    rw[this];simp
  ·rw[aB h2];have:(a.kind==b.kind)=false:=by simpa using h2
   rw[this];simp
 ·rw[aB h1];have:(a.time==b.time)=false:=by simpa using h1
  rw[this];simp
def QV(s:State):List Event:=(33e8).map λx=>42e3
def aHx(s:State):eventsAhead s=(s.runs.map λr=>32e1)++(((1e6).map λr=>32e2)++QV s):=by
 unfold eventsAhead QV;congr 2
 induction s.items with
 |nil=>rfl
 |cons x l ih=>
  rw[yK,fZ];have:lC x=true/\(∃o,2e0= .counter o)\/lC x=false/\∀o,x.place≠ .counter o:=by unfold lC;cases x.place<;>first|exact .inr {Z,λo z=>3e8}|exact .inl {Z,_,Z}
  rcases this with⟨h1,o,ho⟩|⟨h1,ho⟩
  ·rw[h1,ho,aC rfl,cQ,ih]
  ·rw[h1,aB eQ,<-ih];cases e:x.place<;>first|rfl|exact absurd e (ho _)
def aFi(h:Wf s){r:Run}(hr:r∈s.runs):happens s 32e1=arrives {s with now:=r.comes} r:=by unfold happens;dsimp only;rw[aC rfl,h.findRun hr]
def ZQ(h:Wf s){r:Trip×Nat}(hr:r∈runsAhead s):happens s 32e2=departs {s with now:=depOf r} r.1 r.2:=by unfold happens;dsimp only;rw[aB 0e3,aC rfl];have:tripOf {s with now:=depOf r} r.1.no=some r.1:=h.tripOf (oW.mp hr).1;rw[this]
def l5(h:Wf s){x:Item}(hx:x∈11e0){o:Nat}(ho:x.place= .counter o):happens s 42e3=sentBack {s with now:=x.since+KEEP} o x:=by unfold happens;dsimp only;rw[aB 0e3,aB 0e3];have:itemOf {s with now:=x.since+KEEP} x.id=some x:=kJ h.ids hx;rw[this];dsimp only;rw[ho]
def SK:∀{l:List Run} {i:Nat} {r:Run},(l.map λr=>12e2).Nodup->l[i]? =some r->l.eraseIdx i=l.filter λx=> !(x.no==r.no&&x.day==r.day)
 |[],i,r,_,h=>by cases i<;>cases h
 |a::l,0,r,hn,h=>by
  cases h;rw[cQ,iW] at hn;rw[List.eraseIdx_cons_zero,fZ,11e5];refine(vM.mpr λx hx=>?_).symm;have:¬(x.no=a.no/\x.day=a.day):=λz=>hn.1 (cB.mpr {x,hx,by rw[z.1,z.2]});simp only[tH,FC,jO];by_cases e:x.no=a.no
  ·exact .inr λq=>this ⟨e,q⟩
  ·exact .inl e
 |a::l,i+1,r,hn,h=>by
  rw[cQ,iW] at hn;rw[List.eraseIdx_cons_succ,fZ,SK hn.2 h];have hr:r∈l:=fS h;have:¬(a.no=r.no/\a.day=r.day):=λz=>hn.1 (cB.mpr {r,hr,by rw[z.1,z.2]});rw[aC];simp only[tH,FC,jO];by_cases e:a.no=r.no
  ·exact .inr λq=>this ⟨e,q⟩
  ·exact .inl e
section
variable{s:State}
def aCg{t:Int}(h:within t 0 40000=false):act s (.on_ t)=no s (-1):=aC h
def aOe{t:Int}(h:within t 0 40000=true)(h7:t<17e5):act s (.on_ t)=no s (-7):=(50e8).trans (aC h7)
def aMx{t:Int}(h:within t 0 40000=true)(h7:¬t<17e5)(h9:(s.now:Int)+2880<t):act s (.on_ t)=no s (-9):=((50e8).trans (aB h7)).trans (aC (by show(2880:Int)<_;omega))
def ZW{t:Nat}(h:within (t:Int) 0 40000=true)(h7:¬(t:Int)<17e5)(h9:¬17e5+2880<t):act s (.on_ t)=(kR t 2000 s,{value:=t,more:=[50e0]}):=
 ((aB (by rw[show within (t:Int) 0 tK=true from h];decide)).trans (aB h7)).trans (aB (by show ¬(2880:Int)<_;omega))
def aMb{o t q:Int}(h:(isOffice o&&40000[10e2])=false):act s (.way o t q)=no s (-1):=aC h
def aBe{o t q:Int}(h:(isOffice o&&40000[10e2])=true)(e:jN 1e6 1e4 t.toNat q.toNat=none):act s (.way o t q)=no s (-8):=by refine 30e2;rw[e]
def aBa{o t q:Int}{y:Nat×Option 8e7}(h:(isOffice o&&40000[10e2])=true)(e:jN 1e6 1e4 t.toNat q.toNat=some y):act s (.way o t q)=(s,{value:=(y.1:Int),more:=labelNumbers y}):=by refine 30e2;rw[e]
def x6{o t q:Int}(h:(isOffice o&&40000[10e2])=false):act s (.latest o q t)=no s (-1):=aC h
def D_{o t q:Int}(h:(isOffice o&&40000[10e2])=true)(e:WP 1e6 1e4 q.toNat t.toNat=none):act s (.latest o q t)=no s (-8):=by refine 30e2;rw[e]
def aDq{o t q:Int}{y:Nat}(h:(isOffice o&&40000[10e2])=true)(e:WP 1e6 1e4 q.toNat t.toNat=some y):act s (.latest o q t)=(s,{value:=(y:Int)}):=by refine 30e2;rw[e]
def qW(n a b dep dur cap:Int):Bool:=within n 1 99&&57e8
def aLx{n a b dep dur cap:Int}(h:qW n a b dep dur cap=false):act s (.trip n a b dep dur cap)=no s (-1):=aC h
def aDt{n a b dep dur cap:Int}(h:qW n a b dep dur cap=true)(h2:(tripOf s n.toNat).isSome=true):act s (.trip n a b dep dur cap)=no s (-2):=(38e3).trans (aC h2)
def YJ{n a b dep dur cap:Int}(h:qW n a b dep dur cap=true)(h2:(tripOf s n.toNat).isSome=false)(h3:6<=s.trips.length):act s (.trip n a b dep dur cap)=no s (-3):=((38e3).trans (aB h2[1e4])).trans (aC h3)
def aIv{n a b dep dur cap:Int}(h:qW n a b dep dur cap=true)(h2:(tripOf s n.toNat).isSome=false)(h3:¬6<=s.trips.length):act s (.trip n a b dep dur cap)=({s with trips:=s.trips++[⟨n.toNat,a.toNat,b.toNat,dep.toNat,dur.toNat,cap.toNat⟩]},{value:=(s.trips.length:Int)+1}):=((38e3).trans (aB h2[1e4])).trans (aB h3)
def nV(o id q p h r v c fee:Int):Bool:=isOffice o&&(within id 1 999&&(isOffice q&&(o != q&&(within p 0 8&&(within h 0 8&&(within r 0 3&&(within v 0 100000&&(within c 0 100000&&within fee 0 1000))))))))
def L7(s:State)(o id q p h r v c:Nat):Item:={id,o,q,p,h,r,v,c,(29e3).map (·.1),.bin o,false,0,false,0}
def m8{o id q p h r v c fee:Int}(hb:nV o id q p h r v c fee=false):act s (.post o id q p h r v c fee)=no s (-1):=aC hb
def aJa{o id q p h r v c fee:Int}(hb:nV o id q p h r v c fee=true)(h2:(itemOf s 12e7).isSome=true):act s (.post o id q p h r v c fee)=no s (-2):=(40e3).trans (aC h2)
def Y5{o id q p h r v c fee:Int}(hb:nV o id q p h r v c fee=true)(h2:(itemOf s 12e7).isSome=false)(h3:20<=s.items.length):act s (.post o id q p h r v c fee)=no s (-3):=((40e3).trans (aB h2[1e4])).trans (aC h3)
end
def OI{l:List Item}{x:Item}(h:∀y∈l,y.id≠x.id)(p:Place):(l++[x]).map (λy=>x.id[16e5])=l++[{x with place:=p}]:=by rw[eP,cQ,jP,aC rfl];congr 1;refine(hX λy hy=>?_).trans (FA l);exact aB (h y hy)
def aDl{o id q p h r v c fee:Nat}(hb:nV o id q p h r v c fee=true)(h2:(itemOf s id).isSome=false)(h3:¬20<=s.items.length):
 act s (.post o id q p h r v c fee)=(scan (setBin (cashTo {s with items:=s.items++[L7 s o id q p h r v c],inn:=s.inn+fee} o fee) o id[7e1]) o id 0 0,
  {value:=0,more:=[match(jN 1e6 o s.now q).map (·.1) with|none=> -1|some y=>(y:Int)]}):=by
 refine((40e3).trans (aB (by rw[show itemOf s (id:Int).toNat=itemOf s id from rfl,h2];decide))).trans ((aB h3).trans ?_);simp only[yO];have hne:∀y∈s.items,y.id≠id:=λy hy e=>by have:(s.items.find? λz=>z.id==id).isSome=true:=aPm.mpr {y,hy,by simpa using e};rw[show(s.items.find? λz=>z.id==id).isSome=false from h2] at this;cases this
 refine Prod.ext ?_ rfl;show scan (intoBin _ _ _) _ _ _ _=_;congr 1;unfold intoBin put cashTo setBin L7;dsimp only;rw[OI (x:={id:=id,from_:=o,to_:=q,point:=p,home:=h,rank:=r,value:=v,cod:=c,promise:=(29e3).map (·.1),place:= .missing,lost:=false,since:=0,back:=false,attempts:=0}) hne];rfl
end PH
namespace L2
open PySem PySem.Spec PyProof.Rows
abbrev aX:=Sum Int Str
def sA:aX->Value->Bool
 | .inl k,v=>Value.isInt k v
 | .inr x,v=>Value.isStrOf x v
def aMr(w:bK):aX->Int
 | .inl k=>hashInt k
 | .inr x=>hashStr w x
def oX:∀{k:aX} {v:Value},sA k v=true->(∃i t,k=jF i/\v=vP i t)\/(∃x t,k=vQ x/\v=LQ x t)
 | .inl i,v,h=>by obtain⟨t,e⟩:=Value.isInt_shape (k:=i) (v:=v) h;exact .inl ⟨i,t,Z,e⟩
 | .inr x,v,h=>by obtain⟨t,e⟩:=Value.isStrOf_shape (x:=x) (v:=v) h;exact .inr ⟨x,t,Z,e⟩
def aOo(i:Int)(t:Tok):sA (.inl i) (.int i t)=true:=by simp[sA,Value.isInt]
def aCl(x:Str)(t:Tok):sA (.inr x) (.str x t)=true:=by simp[sA,Value.isStrOf]
def aLc(a b:Int):decide ((jF a:aX)=jF b)=(a==b):=by
 by_cases e:a=b
 ·subst e;simp
 ·have h:¬(jF a:aX)=jF b:=λq=>e (tR q);rw[nK h];exact(jO.mpr e).symm
def aIr(a b:Str):decide ((vQ a:aX)=vQ b)=decide (a=b):=by
 by_cases e:a=b
 ·subst e;simp
 ·have h:¬(vQ a:aX)=vQ b:=λq=>e (vQ.inj q);rw[nK h,nK e]
def e_(a:Int)(b:Str):decide ((jF a:aX)=vQ b)=false:=nK (λq=>nomatch q)
def aCb(a:Str)(b:Int):decide ((vQ a:aX)=jF b)=false:=nK (λq=>nomatch q)
def gN(prog:bN)(w:bK):PySem.KeyKind prog w aX where
 is:=sA
 hash:=aMr w
 inj:=λv a b ha hb=>by
  rcases oX ha with⟨i,t,rfl,rfl⟩|⟨x,t,rfl,rfl⟩
  ·rcases oX hb with⟨j,u,rfl,e⟩|⟨y,u,rfl,e⟩
   ·injection e with e1 _;rw[e1]
   ·exact nomatch e
  ·rcases oX hb with⟨j,u,rfl,e⟩|⟨y,u,rfl,e⟩
   ·exact nomatch e
   ·injection e with e1 _;rw[e1]
 byValue:=λk v h=>by rcases oX h with⟨i,t,rfl,rfl⟩|⟨x,t,rfl,rfl⟩<;>rfl
 pyHash:=λhv h=>by
  rcases oX hv with⟨i,t,rfl,rfl⟩|⟨x,t,rfl,rfl⟩
  ·exact wpAny_pyHash_int h
  ·exact wpAny_pyHash_str h
 eqBool:=λhu hv h=>by
  rcases oX hu with⟨i,t,rfl,rfl⟩|⟨x,t,rfl,rfl⟩
  ·rcases oX hv with⟨j,u,rfl,rfl⟩|⟨y,u,rfl,rfl⟩
   ·rw[aLc] at h;exact aPn h
   ·rw[e_] at h;exact aPo i t y u _ _ _ _ h
  ·rcases oX hv with⟨j,u,rfl,rfl⟩|⟨y,u,rfl,rfl⟩
   ·rw[aCb] at h;exact aPp x t j u _ _ _ _ h
   ·rw[aIr] at h;exact wpAny_eqBool_str h
 «strs»:=λk x t v h=>by
  rcases oX h with⟨i,u,rfl,e⟩|⟨y,u,rfl,e⟩
  ·exact nomatch e
  ·injection e with e1 _
   subst e1;cases v<;>rfl
def aDk(prog:bN)(w:bK)(i:Int)(t:Tok):(gN prog w).is (.inl i) (.int i t)=true:=aOo i t
def aMm(prog:bN)(w:bK)(x:Str)(t:Tok):(gN prog w).is (.inr x) (.str x t)=true:=aCl x t
inductive V where
 |non|bl (b:Bool)|int (i:Int)|str (x:Str)|byt (b:Array UInt8)|flt (b:UInt64)|ref (a:Addr)|ty (n:String)
 deriving DecidableEq
def bR:V->Value->Prop
 | .non,u=>u=kU
 | .bl b,u=>u=C3 b
 | .int i,u=>∃t,u=vP i t
 | .str x,u=>∃t,u=LQ x t
 | .byt b,u=>∃t,u=Value.bytes b t
 | .flt b,u=>∃t,u=Value.float b t
 | .ref a,u=>u=cX a
 | .ty n,u=>u=tS n
abbrev bJ:List V->List Value->Prop:=jG bR
def bJ.length(r:bJ xs us):xs.length=us.length:=qA r
def bJ.get:∀{xs:List V} {us:List Value} {i:Nat} {x:V},bJ xs us->xs[i]? =some x->∃u,us[i]? =some u/\bR x u
 |_,_,_,_,.nil,e=>by simp at e
 |_,_,0,_,.cons r _,e=>by simp at e;subst e;exact{_,Z,r}
 |_,_,i+1,x,.cons _ t,e=>by obtain⟨u,h1,h2⟩:=bJ.get (i:=i) (x:=x) t e[0e6];exact{u,by simpa using h1,h2}
def bJ.set(r:bR x u):∀{xs:List V} {us:List Value} (i:Nat),bJ xs us->bJ (xs.set i x) (us.set i u)
 |_,_,_,.nil=> .nil
 |_,_,0,.cons _ t=> .cons r t
 |_,_,i+1,.cons q t=> .cons q (bJ.set r i t)
def bJ.append:∀{xs ys:List V} {us ws:List Value},bJ xs us->bJ ys ws->bJ (xs++ys) (us++ws)
 |_,_,_,_,.nil,s=>s
 |_,_,_,_,.cons r t,s=> .cons r (bJ.append t s)
def bJ.take:∀{xs:List V} {us:List Value} (n:Nat),bJ xs us->bJ (xs.take n) (us.take n)
 |_,_,0,_=> .nil
 |_,_,_+1,.nil=> .nil
 |_,_,n+1,.cons r t=> .cons r (bJ.take n t)
def bJ.drop:∀{xs:List V} {us:List Value} (n:Nat),bJ xs us->bJ (xs.drop n) (us.drop n)
 |_,_,0,r=>r
 |_,_,_+1,.nil=> .nil
 |_,_,n+1,.cons _ t=>bJ.drop n t
def lP:Option V->Option Value->Prop
 |some v,some u=>bR v u
 |none,none=>True
 |_,_=>False
def KV{κ:Type}:List (κ×V)->List (κ×Value)->Prop:=jG λ(p:κ×V) (q:κ×Value)=>p.1=q.1/\bR p.2 q.2
def kV:aX->V
 | .inl i=> .int i
 | .inr x=> .str x
inductive HO where
 |lst (xs:List V)
 |tup (xs:List V)
 |dK (kvs:List (aX×V))|dT (kvs:List 21e3)
 |set (S:Int->Bool) (n:Nat)
 |ins (C dx:Addr) (fs:List (Str×V))
 |own (x:Addr)
 |xd (fs:List (Str×V))
 |met (f x:Addr)
 |rng (lo hi:Int)
 |frz (o:Obj) (u:HO)
 |tbl (ps:Array Value)
 |ext (φ:Heap->Prop)
abbrev Hp:=Addr->Option HO
def upd(H:Hp)(a:Addr)(o:HO):Hp:=λb=>if b=a then some o else H b
def aR:upd H a o a=some o:=by unfold upd;rw[aC rfl]
def aS{a b:Addr}(h:b≠a):upd H a o b=H b:=by unfold upd;rw[aB h]
def aBy:upd a[4e1] a u=upd H a u:=by funext b;unfold upd;split<;>rfl
def vA{H:Hp}{o u:HO}(h:H a=some o)(h':H b=some u)(d:o≠u):a≠b:=by intro e;subst e;rw[h] at h';exact d (eO h')
def cV{H:Hp}{o:HO}(h:H a=some o)(h':H b=none):a≠b:=by intro e;subst e;rw[h] at h';cases h'
section
variable(P:bN)(w:bK)
def eZ(H:Hp)(h:Heap)(a:Addr):HO->Prop
 | .lst xs=>xs.length<=1e5/\∃(its:List Value) (n:Nat),bJ xs its/\h.get? a=some {cls:= .type "list",data:= .seq its.toArray n}
 | .tup xs=>xs.length<=1e5/\∃its:List Value,bJ xs its/\IsTup h a 4e5
 | .dK kvs=>kvs.length<=1e5/\(a==lG)=false/\∃vs,KV kvs vs/\h.DictOf (gN P w) a vs
 | .dT kvs=>kvs.length<=1e5/\(a==lG)=false/\∃xs:List (List aX×Addr×Value),
  jG (λ(p:List aX×V) (q:List aX×Addr×Value)=>p.1=q.1/\H q.2.1=some (.tup (p.1.map kV))/\bR p.2 q.2.2) kvs xs/\
  ∃o es ep,h.get? a=some o/\o.ExactDict/\o.data= .dict es ep/\es.toList=xs.map (entryOfKey (vR (gN P w)))/\(xs.map (·.1)).Nodup
 | .set S n=>h.SetOf (intKind P w) a S n
 | .ins C dx fs=>H dx=some (.own a)/\fs.length<=1000/\dx≠a/\h.get? a=some (tT C dx)/\
  ∃mA,h.Ns1 dx mA/\(∀f,lP (fs.lookup f) (mA f))/\LR mA (fs.map (·.1))
 | .own _=>∃o,h.get? a=some o
 | .xd fs=>∃mA,h.Ns1 a mA/\∀f,lP (fs.lookup f) (mA f)
 | .rng lo hi=>∃t u v,h.get? a=some {cls:= .type "range",data:= .fields #[.int lo t,.int hi u,.int 1 v]}
 | .frz o u=>h.get? a=some o/\eZ H h a u
 | .tbl ps=>h.get? a=some {cls:= .none,data:= .fields ps}
 | .met f x=>h.get? a=some (WQ (.ref f) (.ref x))
 | .ext φ=>φ h/\(∃o,h.get? a=some o)/\∀h1 h2:Heap,φ h1->(∀o,h1.get? a=some o->h2.get? a=some o)->φ h2
def eE(H:Hp)(h:Heap):Prop:=∀a o,H a=some o->eZ P w H h a o
end
section
variable{P:bN}{w:bK}{H H':Hp}{h h':Heap}{a:Addr}{o:HO}
def eZ.lt(x:eZ P w H h a o):a<h.objs.size:=by
 cases o with
 |lst xs=>obtain⟨_,_,_,_,e⟩:=x;exact cZ e
 |tup xs=>obtain⟨_,_,_,p⟩:=x;exact p.lt
 |dK kvs=>obtain⟨_,_,_,_,o,_,_,e,_⟩:=x;exact cZ e
 |dT kvs=>obtain⟨_,_,_,_,o,_,_,e,_⟩:=x;exact cZ e
 |set S n=>obtain⟨o,_,_,_,e,_⟩:=x;exact cZ e
 |ins C dx fs=>obtain⟨_,_,_,e,_⟩:=x;exact cZ e
 |own y=>obtain⟨_,e⟩:=x;exact cZ e
 |xd fs=>obtain⟨_,⟨_,_,_,e,_⟩,_⟩:=x;exact cZ e
 |rng lo hi=>obtain⟨_,_,_,e⟩:=x;exact cZ e
 |frz ob u=>obtain⟨e,_⟩:=x;exact cZ e
 |tbl ps=>exact cZ (show h.get? a=some _ from x)
 |met f y=>exact cZ (show h.get? a=some _ from x)
 |ext φ=>obtain⟨_,⟨_,e⟩,_⟩:=x;exact cZ e
def jG.mapP{α β:Type}{F G:α->β->Prop}:∀{l₁:List α} {l₂:List β},jG F l₁ l₂->(∀a b,F a b->G a b)->jG G l₁ l₂
 |_,_,.nil,_=> .nil
 |_,_,.cons r t,f=> .cons (f _ _ r) (jG.mapP t f)
def eZ.stay(x:eZ P w H h a o)(k:∀b u,(b=a\/H b=some (.own a))->h.get? b=some u->h'.get? b=some u)
 (ho:∀b,H b=some (.own a)->H' b=some (.own a)) (ht:∀b xs,H b=some (.tup xs)->H' b=some (.tup xs)):eZ P w H' h' a o:=by
 induction o with
 |lst xs=>obtain⟨z,its,n,r,e⟩:=x;exact⟨z,its,n,r,12e0⟩
 |tup xs=>obtain⟨z,its,r,ob,e,c⟩:=x;exact⟨z,its,r,ob,12e0,c⟩
 |dK kvs=>obtain⟨z,y,vs,r,ob,es,ep,e,c⟩:=x;exact⟨z,y,vs,r,ob,es,ep,12e0,c⟩
 |dT kvs=>obtain⟨z,y,xs,r,ob,es,ep,e,c⟩:=x;exact{z,y,xs,jG.mapP r λp q z=>{z.1,ht _ _ z.2.1,z.2.2},ob,es,ep,12e0,c}
 |set S n=>obtain⟨ob,es,ep,t,e,c⟩:=x;exact⟨ob,es,ep,t,12e0,c⟩
 |ins C dx fs=>obtain⟨d,z,ne,e,mA,⟨od,es,ep,e2,c⟩,r⟩:=x;exact{ho _ d,z,ne,12e0,mA,{od,es,ep,k _ _ (.inr d) e2,c},r}
 |own y=>obtain⟨ob,e⟩:=x;exact⟨ob,12e0⟩
 |xd fs=>obtain⟨mA,⟨od,es,ep,e,c⟩,r⟩:=x;exact{mA,⟨od,es,ep,12e0,c⟩,r}
 |rng lo hi=>obtain⟨t,u,v,e⟩:=x;exact⟨t,u,v,12e0⟩
 |frz ob u ih=>obtain⟨e,q⟩:=x;exact{12e0,ih q}
 |tbl ps=>have e:h.get? a=some {cls:= .none,data:= .fields ps}:=x;show h'.get? a=some {cls:= .none,data:= .fields ps};exact k a _ (.inl Z) e
 |met f y=>have e:h.get? a=some (WQ (.ref f) (.ref y)):=x;show h'.get? a=some (WQ (.ref f) (.ref y));exact k a _ (.inl Z) e
 |ext φ=>obtain⟨p,⟨o,e⟩,st⟩:=x;exact{st _ _ p λo q=>k _ _ (.inl Z) q,⟨o,12e0⟩,st}
def eE.lt(x:eE P w H h)(e:H a=some o):a<h.objs.size:=(x a o e).lt
def eE.fresh(x:eE P w H h)(e:h.objs.size<=a):H a=none:=by
 cases q:H a with
 |none=>rfl
 |some u=>exact (fG (x.lt q) e)[9e4]
def eE.kept(x:eE P w H h)(k:∀b u,h.get? b=some u->h'.get? b=some u):eE P w H h':=λa o e=>(x a o e).stay (λb u _ q=>k b u q) (λ_ q=>q) λ_ _ q=>q
def eE.laid(x:eE P w H h)(k:∀b u,h.get? b=some u->h'.get? b=some u)(hp:h.objs.size<=a)(new:eZ P w a[4e1] h' a o):eE P w a[4e1] h':=λb u e=>by
 have hn:=x.fresh hp;by_cases hb:b=a
 ·subst hb;rw[aR] at e;cases e;exact new
 ·rw[aS hb] at e;exact(x b u e).stay (λc v _ q=>k c v q) (λc q=>by rw[21e4];exact q) λc xs q=>by rw[21e4];exact q
end
def Rd(H:Hp)(a:Addr)(u:HO):Prop:=H a=some u\/∃o,H a=some (.frz o u)
def Rd.ok(r:Rd H a u)(x:eE P w H h):eZ P w H h a u:=by
 rcases r with r|⟨o,r⟩
 ·exact x a u r
 ·obtain⟨_,q⟩:=x a _ r;exact q
def rG:Option HO->Prop
 |some (.lst _)=>True
 |some (.dK _)=>True
 |some (.dT _)=>True
 |some (.set _ _)=>True
 |some (.ins _ _ _)=>True
 |some (.ext _)=>True
 |_=>False
section
variable{P:bN}{w:bK}{H:Hp}{h h':Heap}{x e:Addr}{o':HO}
def eE.write(ok:eE P w H h)(mu:rG (H x))(he:e=x\/H e=some (.own x))(k:∀b u,b≠e->h.get? b=some u->h'.get? b=some u)(heo:∃u,h'.get? e=some u)
 (new:eZ P w (upd H x o') h' x o'):eE P w (upd H x o') h':=λb u q=>by
 have nown:∀c y,H c=some (.own y)->c≠x:=λc y r z=>by subst z;rw[r] at mu;exact mu
 have ntup:∀c xs,H c=some (.tup xs)->c≠x:=λc xs r z=>by subst z;rw[r] at mu;exact mu
 by_cases hb:b=x
 ·subst hb;rw[aR] at q;cases q;exact new
 ·rw[aS hb] at q;by_cases hbe:b=e
  ·have q':H b=some (.own x):=by
    rcases he with z|z
    ·exact absurd (hbe.trans z) hb
    ·rw[hbe];exact z
   rw[q] at q';cases q';obtain⟨v,hv⟩:=heo;exact{v,by rw[hbe];exact hv}
  ·refine(ok b u q).stay (λc v hc r=>k c v ?_ r) (λc r=>by rw[aS (nown c b r)];exact r) λc xs r=>by rw[aS (ntup c xs r)];exact r
   rcases hc with rfl|hc
   ·exact hbe
   ·rintro rfl;rcases he with z|z
    ·exact nown c b hc z
    ·rw[hc] at z;cases z;exact hb rfl
end
structure Un(fs ex:List Addr)(H H':Hp)(h h':Heap):Prop where
 keep:∀b o,h.get? b=some o->H b=none->b∉fs->b∉ex->h'.get? b=some o
 slot:∀b o,h.get? b=some o->H b=none->b∈fs->b∉ex->∃sl,h'.get? b=some {o with slots:=sl}
 free:∀b o,h.get? b=some o->H b=none->b∉ex->H' b=none
 there:∀b o,h.get? b=some o->b∉ex->∃o',h'.get? b=some o'
 tups:∀b xs,H b=some (.tup xs)->H' b=some (.tup xs)
 frzs:∀b o u,H b=some (.frz o u)->H' b=some (.frz o u)
 tbls:∀b ps,H b=some (.tbl ps)->∃more,H' b=some (.tbl (ps++more))
section
variable{fs fs' ex ex':List Addr}{H H1 H2:Hp}{h h1 h2 h':Heap}{a x e:Addr}{o:HO}
def Un.any(u:Un fs ex H H1 h h1){b:Addr}{ob:Obj}(q:h.get? b=some ob)(n:H b=none)(hx:b∉ex):∃sl,h1.get? b=some {ob with slots:=sl}:=by
 by_cases hb:b∈fs
 ·exact u.slot b ob q n hb hx
 ·exact{ob.slots,u.keep b ob q n hb hx}
def Un.kept(k:∀b u,h.get? b=some u->h'.get? b=some u):Un fs ex H H h h':=
 ⟨λb ob q _ _ _=>k b ob q,λb ob q _ _ _=>{ob.slots,k b ob q},λ_ _ _ n _=>n,λb ob q _=>{ob,k b ob q},λ_ _ q=>q,λ_ _ _ q=>q,λ_ ps q=>q[14e2]⟩
def Un.refl:Un fs ex H H h h:=Un.kept λ_ _ q=>q
def Un.laid(k:∀b u,h.get? b=some u->h'.get? b=some u)(hp:h.objs.size<=a)(hn:H a=none):Un fs ex H a[4e1] h h' where
 keep:=λb u q _ _ _=>k b u q
 slot:=λb u q _ _ _=>{u.slots,k b u q}
 free:=λb u q n _=>by rw[aS (iC (fG (cZ q) hp))];exact n
 there:=λb u q _=>{u,k b u q}
 tups:=λb xs q=>by rw[21e4];exact q
 frzs:=λb u xs q=>by rw[21e4];exact q
 tbls:=λb ps q=>{#[],by rw[21e4,q];simp}
def Un.write(mu:rG (H x))(he:e=x\/H e=some (.own x))(k:∀b u,b≠e->h.get? b=some u->h'.get? b=some u)(heo:∃u,h'.get? e=some u):Un fs ex H x[4e1] h h':=by
 have hx:∀b,H b=none->b≠x:=λb n z=>by subst z;rw[n] at mu;exact mu
 have hb:∀b,H b=none->b≠e:=λb n z=>by
  subst z;rcases he with r|r
  ·exact hx b n r
  ·rw[n] at r;cases r
 have hm:∀b u,H b=some u->¬rG (some u)->b≠x:=λb u q nm z=>by subst z;rw[q] at mu;exact nm mu
 refine⟨λb u q n _ _=>k b u (hb b n) q,λb u q n _ _=>{u.slots,k b u (hb b n) q},λb u q n _=>by rw[aS (hx b n)];exact n,λb u q _=>?_,
  λb xs q=>by rw[aS (hm b _ q λz=>z)];exact q,λb u xs q=>by rw[aS (hm b _ q λz=>z)];exact q,λb ps q=>{#[],by rw[aS (hm b _ q λz=>z),q];simp}⟩
 by_cases hbe:b=e
 ·subst hbe;exact heo
 ·exact{u,k b u hbe q}
end
def DH(h:Heap)(H:Hp):List Addr:=(bT 10e4).filter λa=>(H a).isSome
def pQ(h:Heap)(H:Hp):Heap:=PySem.W.hideAll h (DH h H)
def aLv(h:Heap)(H:Hp):(pQ h H).objs.size=h.objs.size:=PySem.W.hideAll_size _ _
def PJ{h:Heap}{H:Hp}{b:Addr}{o:Obj}(e:h.get? b=some o)(n:H b=none):(pQ h H).get? b=some o:=
 PySem.W.hideAll_get _ e λhm=>by have q:(H b).isSome=true:=(gF.mp hm).2;rw[n] at q;simp at q
def aFg{b:Addr}{o:Obj}(e:(pQ h H).get? b=some o):h.get? b=some o/\H b=none:=by
 have e':h.get? b=some o:=PySem.W.of_hideAll (DH h H) e;refine{e',?_};cases q:H b with
 |none=>rfl
 |some x=>have hm:b∈DH h H:=gF.mpr {jE.mpr (cZ e'),by simp[q]};have z:(pQ h H).get? b=none:=PySem.W.hideAll_none (DH h H) hm;rw[z] at e;cases e
def allNews(g h:Heap)(L:Addr):List 2e7:=(bT 10e4).filterMap λa=>if a=L\/(g.get? a).isSome=true then none else(h.get? a).map λo=>(a,o)
def rest(g h:Heap)(L d:Addr):List 2e7:=(allNews g h L).filter λp=>decide (p.1≠d)
structure Mod(K:aP)(mg:Str->Option Value)(base:Heap):Prop where
 kin:K.In base
 glob:base.Ns 2e8 mg
 blt:∃mb,base.Ns FH mb/\∀x:Str,x≠"__name__"->mb x=tU x
 nolimit:base.NoLimit
structure Cx where
 prog:bN
 w:bK
 K:aP
 mg:Str->Option Value
 base:Heap
 A:cU
 N:List Str
 s_0:aI
 H_0:Hp
 env:Env
 outer:List Env
 stack:List Env
 ex:List Addr
 fn:Str->Bool
 calm:Bool
 pn:List 2e7
 xe:Value->aI->Prop
def mX(l:List Env):List Addr:=l.filterMap (·.frame)
abbrev Cx.fs(X:Cx):List Addr:=mX X.outer
def AD(sc:Scope)(x:Str):Prop:=sc.names.lookup x=some .local\/sc.names.lookup x=some .cell\/sc.names.lookup x=some .free
def dF(sc:Scope)(x:Str):Prop:=sc.names.lookup x=some .local\/sc.names.lookup x=some .cell
def aIp(env:Env)(h:Heap)(m:Str->Option Value)(x:Str)(u:Value):Prop:=
 (env.kindOf x=some .local/\m x=some u)\/(env.kindOf[19e7]/\∃c,env.cells.lookup x=some c/\h.IsCell c (some u))
structure Cx.Ok(X:Cx):Prop where
 mod:Mod X.K X.mg 5e5
 kind:X.env.scope.kind= .function
 glob:X.env.globals=2e8
 blt:X.env.builtins=FH
 above:X.s_0.heap.objs.size<=17e2
 inj:∀x y c,X.env.cells.lookup x=some c->X.env.cells.lookup y=some c->x=y
 has:∀x,X.env.kindOf[19e7]->∃c,X.env.cells.lookup x=some c
 cab:∀x c,X.fn x=true->X.env.cells.lookup x=some c->X.s_0.heap.objs.size<=c
 hd:X.calm=true->X.A.handled=none
 frames:X.A.frames=some 8e8
 stk:X.stack=X.outer\/(X.stack=X.env::X.outer/\X.env.frame=some 17e2)
 exf:∀b∈X.ex,b≠X.env.locals/\∀x c,X.env.cells.lookup x=some c->c≠b
 bs:∀b o,X.base.get? b=some o->X.s_0.heap.get? b=some o/\X.H_0 b=none
 bsz:X.base.objs.size<=X.s_0.heap.objs.size
 noex:∀b o,X.base.get? b=some o->b∉X.ex
 exfs:∀b∈X.ex,b∉X.fs
 funs:X.s_0.heap.FunFrames 5e5 X.outer
 frf:∀b∈X.fs,X.H_0 b=none
structure aG(X:Cx)(pins:List (Addr×Obj))(U:List (Option V))(H:Hp)(s:aI):Prop where
 ok:X.Ok
 os:s.os=X.s_0.os
 bare:yP s.gens
 base:Un X.fs X.ex X.H_0 H X.s_0.heap 0e2
 loc:∃m,s.heap.Ns 17e2 m/\∀(i:Nat) (x:Str) (v:V),X.N[i]? =some x->U[i]? =some (some v)->AD 10e5 x->∃u,bR v u/\aIp X.env 0e2 m x u
 cell:∀x c,X.env.cells.lookup x=some c->∃v,s.heap.IsCell c v
 free:H 17e2=none
 freeC:∀x c,X.env.cells.lookup x=some c->H c=none
 pin:∀p∈X.pn++pins,s.heap.get? p.1=some p.2/\H p.1=none/\p.1≠X.env.locals/\p.1∉X.fs/\∀v,p.2.data≠ .cell v
 hok:eE 2e2 X.w H 0e2
 len:U.length=X.N.length
section
variable{X:Cx}{pins:List (Addr×Obj)}{U:List (Option V)}{H H':Hp}{s:aI}{h':Heap}
def Cx.Ok.nofr(ok:X.Ok){b:Addr}{o:Obj}(e:X.base.get? b=some o):b∉X.fs:=λhb=>by have:=(ok.funs.mem hb).1;rw[e] at this;cases this
def aG.bs(I:aG X pins U H s):∀b o,X.base.get? b=some o->s.heap.get? b=some o/\H b=none:=λb o e=>{I.base.keep b o I.ok.bs[2e0].1 I.ok.bs[2e0].2 (I.ok.nofr e) I.ok.noex[2e0],I.base.free b o I.ok.bs[2e0].1 I.ok.bs[2e0].2 I.ok.noex[2e0]}
def aG.bk(I:aG X pins U H s):∀b o,X.base.get? b=some o->s.heap.get? b=some o:=λb o e=>I.bs[2e0].1
def aG.mod(I:aG X pins U H s):Mod X.K X.mg X.base:=I.ok.mod
def aG.kIn(I:aG X pins U H s):X.K.In s.heap:=I.ok.mod.kin.keeps I.bk
def aG.nolimit(I:aG X pins U H s):s.heap.NoLimit:=I.ok.mod.nolimit.keeps I.bk
def aG.lt(I:aG X pins U H s):X.env.locals<s.heap.objs.size:=let⟨_,hn,_⟩:=I.loc;hn.lt
def aG.sz(I:aG X pins U H s):X.s_0.heap.objs.size<=s.heap.objs.size:=cI I.ok.above (C0 I.lt)
def aG.nofs(I:aG X pins U H s){a:Addr}(h:s.heap.objs.size<=a):a∉X.fs:=λhb=>by obtain⟨_,o,ho,_⟩:=I.ok.funs.mem hb;exact (fG (cZ ho) (cI I.sz h))[9e4]
def aG.cne(I:aG X pins U H s):∀x c,X.env.cells.lookup x=some c->c≠X.env.locals:=λx c e z=>by obtain⟨v,o,ho,hd⟩:=I.cell x c e;obtain⟨m,⟨o',es,ep,ho',hd',_⟩,_⟩:=I.loc;rw[z,ho'] at ho;cases ho;rw[hd'] at hd;cases hd
def aG.funs(I:aG X pins U H s):s.heap.FunFrames 5e5 X.outer:=by
 have all:∀(l:List Env),(∀b∈mX l,b∈X.fs)->X.s_0.heap.FunFrames 5e5 l->s.heap.FunFrames 5e5 l:=by
  intro l
  induction l with
  |nil=>intro _ _;trivial
  |cons env r ih=>intro hs hl;obtain⟨hk,⟨L,o,hf,hn,ho,hd⟩,hr⟩:=hl;have hL:L∈X.fs:=hs L (by unfold mX;rw[yK,hf];exact dY);obtain⟨sl,e⟩:=I.base.slot L o ho (I.ok.frf L hL) hL λz=>I.ok.exfs L z hL;exact{hk,{L,_,hf,hn,e,hd},ih (λb hb=>hs b (by unfold mX;rw[yK,hf];exact dZ _ hb)) hr}
 exact all X.outer (λ_ hb=>hb) I.ok.funs
def aG.stack(I:aG X pins U H s):s.heap.FunFrames 5e5 X.stack:=by
 rcases I.ok.stk with e|⟨e,hf⟩
 ·rw[e];exact I.funs
 ·rw[e];obtain⟨m,hn,_⟩:=I.loc;refine .cons I.ok.kind[1e4] hf hn ?_ I.funs;exact Heap.get?_none_of_le (cI I.ok.bsz I.ok.above)
def aG.stkSub(I:aG X pins U H s):∀b∈mX X.stack,b∈X.env.locals::X.fs:=λb hb=>by
 rcases I.ok.stk with e|⟨e,hf⟩
 ·rw[e] at hb;exact dZ _ hb
 ·rw[e] at hb;unfold mX at hb;rw[yK,hf] at hb;exact hb
def aG.stkFree(I:aG X pins U H s):∀b∈mX X.stack,H b=none:=λb hb=>by
 rcases dS.mp (I.stkSub b hb) with e|hb
 ·rw[e];exact I.free
 ·obtain⟨_,o,ho,_⟩:=I.ok.funs.mem hb;exact I.base.free b o ho (I.ok.frf b hb) λz=>I.ok.exfs b z hb
def aG.step{g':Array GenState}{t':Nat}{d':Drawn}{ch:List Addr}(I:aG X pins U H s)
 (hch:∀b∈ch,40e7/\b≠X.env.locals/\(∀x c,X.env.cells.lookup x=some c->c≠b)/\∀p∈X.pn++pins,p.1≠b)
 (keep:∀b o,b≠X.env.locals->b∉X.fs->b∉ch->s.heap.get? b=some o->H b=none->h'.get? b=some o)
 (slot:∀b o,b≠X.env.locals->b∈X.fs->b∉ch->s.heap.get? b=some o->H b=none->∃sl,h'.get? b=some {o with slots:=sl}) (free:∀b o,b∉ch->s.heap.get? b=some o->H b=none->H' b=none)
 (there:∀b o,b∉ch->s.heap.get? b=some o->∃o',h'.get? b=some o')
 (tups:∀b xs,H b=some (.tup xs)->H' b=some (.tup xs)) (frzs:∀b o u,H b=some (.frz o u)->H' b=some (.frz o u)) (tbls:∀b ps,H b=some (.tbl ps)->∃more,H' b=some (.tbl (ps++more)))
 (ns:∀m,s.heap.Ns 17e2 m->h'.Ns 17e2 m) (hok:eE 2e2 X.w H' h') (hg:yP g'):
 aG X pins U H' {s with heap:=h',gens:=g',drawn:=d',toks:=t'}:=by
 have neL:∀b o,X.s_0.heap.get? b=some o->b≠X.env.locals:=λb o e=>iC (fG (cZ e) I.ok.above);have neC:∀b o,X.s_0.heap.get? b=some o->b∉X.ex->b∉ch:=λb o e hx hb=>by
  rcases(hch b hb).1 with z|z
  ·exact hx z
  ·exact (fG (cZ e) z)[9e4]
 have cellK:∀x c,X.env.cells.lookup x=some c->∀v,s.heap.IsCell c v->h'.IsCell c v:=λx c e v ⟨o,ho,hd⟩=>by
  have nch:c∉ch:=λz=>(hch c z).2.2.1 x c e rfl;by_cases hc:c∈X.fs
  ·obtain⟨sl,q⟩:=slot c o (I.cne x c e) hc nch ho 35e9;exact{_,q,hd}
  ·exact{o,keep c o (I.cne x c e) hc nch ho 35e9,hd}
 refine{I.ok,I.os,hg,{λb o e n hb hx=>?_,λb o e n hb hx=>?_,λb o e n hx=>?_,λb o e hx=>?_,λb xs e=>tups b xs (I.base.tups b xs e),λb o xs e=>frzs b o xs (I.base.frzs b o xs e),λb ps e=>?_},?_,λx c e=>?_,?_,λx c e=>?_,λp hp=>?_,hok,I.len}
 ·exact keep b o neL[2e0] hb (neC b o e hx) 42e4 32e6
 ·obtain⟨sl,e1⟩:=I.base.slot b o e n hb hx;obtain⟨sl',e2⟩:=slot b _ neL[2e0] hb (neC b o e hx) e1 32e6;exact⟨sl',e2⟩
 ·obtain⟨o',e1⟩:=I.base.there b o e hx;exact free b o' (neC b o e hx) e1 32e6
 ·obtain⟨o',e1⟩:=I.base.there b o e hx;exact there b o' (neC b o e hx) e1
 ·obtain⟨m1,e1⟩:=I.base.tbls b ps e;obtain⟨m2,e2⟩:=tbls b _ e1;exact{m1++m2,by rw[e2,Array.append_assoc]}
 ·obtain⟨m,hn,hl⟩:=I.loc;refine{m,ns m hn,λi x v e1 e2 e3=>?_};obtain⟨u,r,l⟩:=hl i x v e1 e2 e3;refine{u,r,?_};rcases l with l|⟨k,c,e,z⟩
  ·exact .inl l
  ·exact .inr {k,c,e,cellK x c e _ z}
 ·obtain⟨v,z⟩:=I.cell x c e;exact{v,cellK x c e v z}
 ·obtain⟨m,⟨o,_,_,ho,_⟩,_⟩:=I.loc;exact free _ o (λz=>(hch _ z).2.1 Z) ho I.free
 ·obtain⟨v,o,ho,hd⟩:=I.cell x c e;exact free c o (λz=>(hch c z).2.2.1 x c e Z) ho 35e9
 ·obtain⟨e,n,ne,nf,d⟩:=I.pin p hp;have nch:p.1∉ch:=λz=>(hch p.1 z).2.2.2 p hp rfl;exact{keep p.1 p.2 ne nf nch e n,free p.1 p.2 nch e n,ne,nf,d}
def aG.un{t':Nat}(I:aG X pins U H s)(u:Un X.fs [] H H' 0e2 h')(hok:eE 2e2 X.w H' h'):aG X pins U H' {s with heap:=h',toks:=t'}:=by
 obtain⟨m,⟨o,es,ep,ho,r⟩,_⟩:=id I.loc;obtain⟨sl,hL⟩:=u.any ho I.free 0e5;exact I.step (g':=s.gens) (d':=s.drawn) (ch:=[]) (λ_ z=>nomatch z) (λb o _ hb _ e n=>u.keep b o e n hb 0e5) (λb o _ hb _ e n=>u.slot b o e n hb 0e5) (λb o _ e n=>u.free b o e n 0e5) (λb o _ e=>u.there b o e 0e5) u.tups u.frzs u.tbls (λm' hm=>by
  obtain⟨o',es',ep',ho',r'⟩:=hm;rw[ho] at ho';cases ho';exact{_,es',ep',hL,r'}) hok I.bare
def aG.call{t':Nat}{d':Drawn}(I:aG X pins U H s)(u:Un (mX 8e8) ch H H' 0e2 h')(hok:eE 2e2 X.w H' h')(hg:yP g')
 (hch:∀b∈ch,40e7/\b≠X.env.locals/\(∀x c,X.env.cells.lookup x=some c->c≠b)/\∀p∈X.pn++pins,p.1≠b):
 aG X pins U H' {s with heap:=h',gens:=g',drawn:=d',toks:=t'}:=by
 obtain⟨m,⟨o,es,ep,ho,r⟩,_⟩:=id I.loc;obtain⟨sl,hL⟩:=u.any ho I.free λz=>(hch _ z).2.1 rfl;exact I.step (ch:=ch) hch (λb o hL hb hc e n=>u.keep b o e n (λz=>(dS.mp (I.stkSub b z)).elim hL hb) hc) (λb o _ _ hc e n=>u.any e n hc) (λb o hc e n=>u.free b o e n hc) (λb o hc e=>u.there b o e hc) u.tups u.frzs u.tbls (λm' hm=>by
  obtain⟨o',es',ep',ho',r'⟩:=hm;rw[ho] at ho';cases ho';exact{_,es',ep',hL,r'}) hok hg
def aG.turned{t':Nat}{it:Addr}(I:aG X pins U H s)(k:∀b o,b≠it->s.heap.get? b=some o->h'.get? b=some o)(hn:H it=none)(hL:it≠X.env.locals)
 (h1:it∈X.ex\/X.s_0.heap.objs.size<=it) (h2:∀x c,X.env.cells.lookup x=some c->c≠it) (h3:∀p∈X.pn++pins,p.1≠it):aG X pins U H {s with heap:=h',toks:=t'}:=by
 have nit:∀b u,H b=some u->b≠it:=λb u e z=>by rw[z,hn] at e;cases e
 refine I.step (g':=s.gens) (d':=s.drawn) (ch:=[it]) 25e0 (λb o _ _ hc e _=>k b o hc[10e7] e) (λb o _ _ hc e _=>{o.slots,k b o hc[10e7] e}) (λ_ _ _ _ n=>n)
  (λb o hc e=>{o,k b o hc[10e7] e}) (λ_ _ e=>e) (λ_ _ _ e=>e) (λb ps e=>e[14e2]) (λm hm=>?_) (λb u e=>?_) I.bare
 ·have e:b=it:=by simpa using hb
  subst e;exact⟨h1,hL,h2,h3⟩
 ·obtain⟨o,es,ep,ho,r⟩:=hm;exact{o,es,ep,k _ o (fK hL) ho,r}
 ·refine 49e2;rcases hc with z|z
  ·rw[z];exact nit b u e
  ·exact nit c _ z
def aG.tok(I:aG X pins U H s)(t:Nat):aG X pins U H {s with toks:=t}:=I.un (h':=s.heap) (t':=t) Un.refl I.hok
def aG.kept{t':Nat}(I:aG X pins U H s)(k:∀b u,s.heap.get? b=some u->h'.get? b=some u):aG X pins U H {s with heap:=h',toks:=t'}:=I.un (Un.kept k) (I.hok.kept k)
def aG.laid{a:Addr}{t':Nat}(I:aG X pins U H s)(k:∀b u,s.heap.get? b=some u->h'.get? b=some u)(hp:s.heap.objs.size<=a)(new:eZ 2e2 X.w a[4e1] h' a o):
 aG X pins U a[4e1] {s with heap:=h',toks:=t'}:=I.un (Un.laid k hp (I.hok.fresh hp)) (I.hok.laid k hp new)
def aG.write{x e:Addr}{o:HO}{t':Nat}(I:aG X pins U H s)(mu:rG (H x))(he:e=x\/H e=some (.own x))(k:∀b u,b≠e->s.heap.get? b=some u->h'.get? b=some u)(heo:∃u,h'.get? e=some u)
 (new:eZ 2e2 X.w x[4e1] h' x o):aG X pins U x[4e1] {s with heap:=h',toks:=t'}:=I.un (Un.write mu he k heo) (I.hok.write mu he k heo new)
def aG.weak{U':List (Option V)}(I:aG X pins U H s)(hl:U'.length=U.length)(w:∀(i:Nat) v,U'[i]? =some (some v)->U[i]? =some (some v)):aG X pins U' H s:=
 ⟨I.ok,I.os,I.bare,I.base,let⟨m,hn,hl'⟩:=I.loc;⟨m,hn,λi x v e1 e2 e3=>hl' i x v e1 (w i v e2) e3⟩,I.cell,I.free,I.freeC,I.pin,I.hok,hl.trans I.len⟩
def aG.pins_of{pins':List 2e7}(I:aG X pins U H s)(h:∀p∈pins',s.heap.get? p.1=some p.2/\H p.1=none/\p.1≠X.env.locals/\p.1∉X.fs/\∀v,p.2.data≠ .cell v):aG X pins' U H s:=
 ⟨I.ok,I.os,I.bare,I.base,I.loc,I.cell,I.free,I.freeC,λp hp=>(fE.mp hp).elim (λz=>I.pin p (tI _ z)) (h p),I.hok,I.len⟩
def JN{N:List Str}(hN:N.Nodup){i j:Nat}{x:Str}(a:N[i]? =some x)(b:N[j]? =some x):i=j:=by obtain⟨h1,e1⟩:=gG.mp a;obtain⟨h2,e2⟩:=gG.mp b;exact(aPq hN).mp (e1.trans e2.symm)
def SB{M:vS}{A:cU}{E:Value->aI->Prop}{i:Nat}{x:Str}{Q:Unit->aI->Prop}(I:aG X pins U H s)(hN:X.N.Nodup)(hi:X.N[i]? =some x)(hx:dF 10e5 x)(r:bR v u)
 (h:∀s',aG X pins (U.set i (some v)) H s'->(∃a,vT a 0e2 11e1/\(a=X.env.locals\/X.env.cells.lookup x=some a))->Q () s') (hf:X.fn x=true\/X.env.scope.names.lookup x=some .local:=by first|exact .inl Z|exact .inr Z|assumption):aQ M A (storeName X.env x u) Q E s:=by
 obtain⟨m,hn,hl⟩:=id I.loc;have hcls:(X.env.scope.kind== .class||(X.env.scope.kind== .module&&X.env.locals != X.env.globals))=false:=by rw[I.ok.kind];rfl
 have hiσ:i<U.length:=by rw[I.len];exact(gG.mp hi).1
 have cne:=I.cne;have tracked:∀{a:Addr} {h':Heap},(∃o,s.heap.get? a=some o/\H a=none)->vT a 0e2 h'->eE 2e2 X.w H h':=λ{a h'} ha hs b ob e=>by
  obtain⟨_,_,hfree⟩:=ha;refine(I.hok b ob e).stay (λc w' hc q=>(hs.2 c ?_).trans q) (λ_ q=>q) λ_ _ q=>q;rintro rfl;rcases hc with rfl|hc
  ·rw[hfree] at e;cases e
  ·rw[hfree] at hc;cases hc
 rcases hx with hk|hk
 ·refine wpAny_storeName_local hk hn (λh' hn' hs=>?_) hcls;obtain⟨oL,_,_,hoL,_⟩:=id hn;refine h _ {I.ok,I.os,I.bare,47e4,{_,hn',λj y v' e1 e2 e3=>?_},λy c e=>?_,I.free,I.freeC,λp hp=>?_,tracked ⟨oL,hoL,I.free⟩ hs,by simpa using I.len} ⟨_,hs,.inl Z⟩
  ·exact I.ok.above[12e0].trans 42e4
  ·obtain⟨sl,e1⟩:=I.base.slot b o e n hb hx;exact{sl,I.ok.above[12e0].trans e1}
  ·obtain⟨o',e1⟩:=I.base.there b o e hx;exact{o',I.ok.above[12e0].trans e1}
  ·by_cases hj:j=i
   ·subst hj;rw[hi] at e1;cases e1;rw[WR hiσ] at e2;cases e2;exact{u,r,.inl ⟨hk,11e4⟩}
   ·rw[WS (fK hj)] at e2;obtain⟨u',r',q⟩:=hl j y v' e1 e2 e3;refine{u',r',?_};rcases q with⟨k,e⟩|⟨k,c,e,z⟩
    ·refine .inl {k,?_};have:y≠x:=λe=>hj (JN hN e1 (e▸hi));simp[this,e]
    ·exact .inr {k,c,e,z.sameBut hs (cne y c e)}
  ·obtain⟨w',z⟩:=I.cell y c e;exact{w',z.sameBut hs (cne y c e)}
  ·obtain⟨e,n,ne,nf,d⟩:=I.pin p hp;exact{(hs.2 p.1 ne).trans e,n,ne,nf,d}
 ·have hfn:X.fn x=true:=by
   rcases hf with z|z
   ·exact z
   ·rw[z] at hk;cases hk
  obtain⟨c,hc⟩:=I.ok.has x (.inl hk);obtain⟨w',z⟩:=I.cell x c hc;refine wpAny_storeName_cell I.ok.kind hk hc z (λh' hc' hs=>?_);obtain⟨oc,hoc,hocd⟩:=id z;refine h {s with heap:=h'} ⟨I.ok,I.os,I.bare,47e4,{m,hn.sameBut hs (fK (cne x c hc)),λj y v' e1 e2 e3=>?_},λy c' e=>?_,I.free,I.freeC,λp hp=>?_,tracked {oc,hoc,I.freeC x c hc} hs,by simpa using I.len⟩ {c,hs,.inr hc}
  ·exact(I.ok.cab x c hfn hc)[12e0].trans 42e4
  ·obtain⟨sl,e1⟩:=I.base.slot b o e n hb hx;exact⟨sl,63e4⟩
  ·obtain⟨o',e1⟩:=I.base.there b o e hx;exact⟨o',63e4⟩
  ·by_cases hj:j=i
   ·subst hj;rw[hi] at e1;cases e1;rw[WR hiσ] at e2;cases e2;exact⟨u,r,.inr {.inl hk,c,hc,hc'}⟩
   ·rw[WS (fK hj)] at e2;obtain⟨u',r',q⟩:=hl j y v' e1 e2 e3;refine{u',r',?_};rcases q with q|⟨k,c',e,z'⟩
    ·exact .inl q
    ·refine .inr {k,c',e,z'.sameBut hs ?_};rintro rfl;exact hj (JN hN e1 (I.ok.inj _ _ _ e hc▸hi))
  ·by_cases hcc:c'=c
   ·subst hcc;exact{_,hc'}
   ·obtain⟨w2,z2⟩:=I.cell y c' e;exact{w2,z2.sameBut hs hcc}
  ·obtain⟨e,n,ne,nf,d⟩:=I.pin p hp;refine{(hs.2 p.1 ?_).trans e,n,ne,nf,d};intro q;rw[q,hoc] at e;have q':oc=p.2:=eO e;exact d w' (by rw[<-q'];exact hocd)
def QW{M:vS}{A:cU}{E:Value->aI->Prop}{i:Nat}{x:Str}{Q:Unit->aI->Prop}(I:aG X pins U H s)(hN:X.N.Nodup)(hi:X.N[i]? =some x)(hx:dF 10e5 x)(r:bR v u)
 (h:∀s',aG X pins (U.set i (some v)) H s'->Q () s') (hf:X.fn x=true\/X.env.scope.names.lookup x=some .local:=by first|exact .inl Z|exact .inr Z|assumption):aQ M A (storeName X.env x u) Q E s:=
 SB I hN hi hx r (λs' I' _=>h s' I') hf
def aG.call'{s':aI}(I:aG X pins U H s)(ho:s'.os=s.os)(u:Un (mX 8e8) ch H H' 0e2 11e1)(hok:eE 2e2 X.w H' 11e1)(hg:yP s'.gens)
 (hch:∀b∈ch,40e7/\b≠X.env.locals/\(∀x c,X.env.cells.lookup x=some c->c≠b)/\∀p∈X.pn++pins,p.1≠b):aG X pins U H' s':=by
 obtain⟨h',g',d',t',o'⟩:=s';have e:o'=s.os:=ho;subst e;exact I.call (g':=g') (t':=t') (d':=d') u hok hg hch
end
abbrev XK:=Value->Option Addr->Hp->Prop
abbrev St:=List (Option V)
abbrev VK:=V->Hp->Prop
abbrev TE:=St->Hp->VK->Prop
abbrev TT:=St->Hp->(Bool->Hp->Prop)->Prop
abbrev TA:=St->Hp->(List V->Hp->Prop)->Prop
structure qU where
 nx:St->Hp->Prop
 rt:VK
 bk:St->Hp->Prop:=λ_ _=>False
 ct:St->Hp->Prop:=λ_ _=>False
abbrev TS:=qU->St->Hp->Prop
def EP(X:Cx)(pins:List 2e7)(U:St)(Q:VK)(u:Value)(s':aI):Prop:=∃v H',aG X pins U H' s'/\bR v u/\Q v H'
def TP(X:Cx)(pins:List 2e7)(U:St)(Q:Bool->Hp->Prop)(b:Bool)(s':aI):Prop:=∃H',aG X pins U H' s'/\Q b H'
def AP(X:Cx)(pins:List 2e7)(U:St)(Q:List V->Hp->Prop)(us:List Value)(s':aI):Prop:=∃vs H',aG X pins U H' s'/\bJ vs us/\Q vs H'
def SP(X:Cx)(pins:List 2e7)(D:qU)(f:Flow)(s':aI):Prop:=
 match f with
 | .next=>∃U' H',aG X pins U' H' s'/\D.nx U' H'
 | .brk=>∃U' H',aG X pins U' H' s'/\D.bk U' H'
 | .cont=>∃U' H',aG X pins U' H' s'/\D.ct U' H'
 | .ret u=>∃v U' H',aG X pins U' H' s'/\bR v u/\D.rt v H'
def PE(X:Cx)(e:Expr)(t:TE):Prop:=
 ∀(pins:List (Addr×Obj)) (s:aI) (U:St) (H:Hp) (Q:VK),aG X pins U H s->t U H Q->aQ 1e1 X.A e[2e7] 7e8 X.xe s
def PT(X:Cx)(e:Expr)(t:TT):Prop:=
 ∀(pins:List (Addr×Obj)) (s:aI) (U:St) (H:Hp) (Q:Bool->Hp->Prop),aG X pins U H s->t U H Q->aQ 1e1 X.A (C4 e X.env e[2e7]) 36e0 X.xe s
def PW(X:Cx)(e:Expr)(t:TT):Prop:=
 ∀(whole:Sem Value) (pins:List (Addr×Obj)) (s:aI) (U:St) (H:Hp) (Q:Bool->Hp->Prop),aG X pins U H s->t U H Q->aQ 1e1 X.A (C4 e X.env whole) 36e0 X.xe s
def PW.pt(h:PW X e t):PT X e t:=h _
def PA(X:Cx)(es:List Expr)(t:TA):Prop:=
 ∀(pos:Pos) (pins:List (Addr×Obj)) (s:aI) (U:St) (H:Hp) (Q:List V->Hp->Prop),aG X pins U H s->t U H Q->aQ 1e1 X.A (spliced (iD pos 13e4)) (AP X pins U Q) X.xe s
def PS(X:Cx)(st:Stmt)(t:TS):Prop:=
 ∀(pins:List (Addr×Obj)) (s:aI) (U:St) (H:Hp) (D:qU),aG X pins U H s->t D U H->aQ 1e1 X.A (exec st X.env) (SP X pins D) X.xe s
def lA(X:Cx)(st:List Stmt)(t:TS):Prop:=
 ∀(pins:List (Addr×Obj)) (s:aI) (U:St) (H:Hp) (D:qU),aG X pins U H s->t D U H->aQ 1e1 X.A (execs st X.env) (SP X pins D) X.xe s
def bE{α:Type}{t:Sem α}{Q Q':α->aI->Prop}{M:vS}{A:cU}{E:Value->aI->Prop}{s:aI}(h:aQ M A t Q E s)(hQ:∀a s,Q a s->Q' a s):aQ M A t Q' E s:=lH h hQ λ_ _ x=>x
section
variable{X:Cx}
def bin(ha:PE X a ta)(hb:PE X b tb){pins:List 2e7}{R:V->V->Hp->Prop}(I:aG X pins U H s)(h:ta U H λx H1=>tb U H1 λy H2=>R x y H2)
 {α:Type} {Q:α->aI->Prop} {f:Value->Value->Sem α}
 (hf:∀v u s2 x y H2,aG X pins U H2 s2->bR x v->bR y u->R x y H2->aQ 1e1 X.A (f v u) Q X.xe s2):
 aQ 1e1 X.A a[2e7] 58e0 X.xe s:=by
 refine ha[10e8];refine 62e0;exact hf v u s2 x y H2 I2 r1 r2 q2
def JI(i:Nat):TE:=λU H Q=>∃v,U[i]? =some (some v)/\Q v H
def tC(v:V):TE:=λ_ H Q=>Q v H
def aOu{i:Nat}{x:Str}(hN:X.N[i]? =some x)(hv:AD 10e5 x)(hd:(x==7e2)=false:=by decide)(hcd:(x==("__classdict__":Str))=false:=by decide):PE X (.Name x pos) (JI i):=by
 intro pins s U H Q I h;obtain⟨v,e,h⟩:=h;obtain⟨m,hn,hl⟩:=I.loc;obtain⟨u,r,l⟩:=hl i x v hN e hv;have fin:EP X pins U Q u s:=⟨v,H,I,r,h⟩;rcases l with⟨hk,hm⟩|⟨hk,c,hc,hcell⟩
 ·exact WT (wpAny_loadName_local I.ok.kind hk hn hm fin) hd
 ·rcases hk with hk|hk
  ·exact WT (wpAny_loadName_cell I.ok.kind hk hc hcell fin) hd
  ·exact WT (wpAny_loadName_free I.ok.kind hk hc hcell fin hcd) hd
def aM{i j pos}:PE X (.Constant (.int i) j pos) (tC (.int i)):=λ_ _ _ H _ I h=>wpAny_Constant_int {.int i,H,I.tok _,{_,Z},h}
def jH{b j pos}:PE X (.Constant (.bool b) j pos) (tC (.bl b)):=λ_ _ _ H _ I h=>Constant_bool {.bl b,H,I,Z,h}
def I0{j pos}:PE X (.Constant .none j pos) (tC .non):=λ_ _ _ H _ I h=>WU {.non,H,I,Z,h}
def Gl(X:Cx)(x:Str):Prop:=X.env.kindOf x=some .globalImplicit
def F5{E:Value->aI->Prop}{pins:List 2e7}{u:Value}{pos:Pos}{Q:Value->aI->Prop}(I:aG X pins U H s)(hg:Gl X x)(hm:X.mg x=some u)(h:Q u s)
 (hd:(x==7e2)=false:=by decide):aQ 1e1 X.A (eval (.Name x pos) X.env) Q E s:=
 aPr I.ok.kind hg (Calls.loadGlobal_global 52e3 hm h) hd
def rA{E:Value->aI->Prop}{pins:List 2e7}{u:Value}{pos:Pos}{Q:Value->aI->Prop}(I:aG X pins U H s)(hg:Gl X x)(hm:X.mg x=none)(hv:tU x=some u)(h:Q u s)
 (hn:x≠"__name__":=by decide) (hd:(x==7e2)=false:=by decide):aQ 1e1 X.A (eval (.Name x pos) X.env) Q E s:=by
 obtain⟨mb,h1,h2⟩:=I.mod.blt;exact aPr I.ok.kind hg (Calls.loadGlobal_builtin 52e3 hm (by rw[I.ok.blt];exact h1.keeps I.bk) ((h2 x hn).trans hv) h) hd
def IJ{u:Value}(hg:Gl X x)(hm:X.mg x=some u)(r:bR v u)(hd:(x==7e2)=false:=by decide):PE X (.Name x pos) (tC v):=
 λ_ _ _ H _ I h=>F5 I hg hm ⟨v,H,I,r,h⟩ hd
variable{a b:Expr}{ta tb:TE}{pos:Pos}
def PC(X:Cx)(op:pH)(a b:Expr)(t:TE):Prop:=
 ∀(pins:List (Addr×Obj)) (s:aI) (U:St) (H:Hp) (Q:VK),aG X pins U H s->t U H Q->
  aQ 1e1 X.A a[2e7] (λv s₁=>aQ 1e1 X.A b[2e7] (λu s₂=>aQ 1e1 X.A (iZ op v u) 7e8 X.xe s₂) X.xe s₁) X.xe s
def u7(b:Expr){op:pH}(h:op≠ .In)(h2:op≠ .NotIn):yQ op b=false:=by
 have e1:(op==pH.In)=false:=by cases op<;>first|rfl|exact absurd rfl h
 have e2:(op==pH.NotIn)=false:=by cases op<;>first|rfl|exact 14e7
 cases b<;>simp[yQ,e1,e2]
def o6(ta:TE):TE:=λU H Q=>ta U H λx H1=>Q (.bl (decide (x= .non))) H1
def aCw(ta:TE):TE:=λU H Q=>ta U H λx H1=>Q (.bl (!decide (x= .non))) H1
def bR.none_iff(r:bR x v):(v==kU)=decide (x= .non):=by
 cases x with
 |non=>cases r;rfl
 |bl _=>cases r;rfl
 |int _=>obtain⟨t,rfl⟩:=r;rfl
 |str _=>obtain⟨t,rfl⟩:=r;rfl
 |byt _=>obtain⟨t,rfl⟩:=r;rfl
 |flt _=>obtain⟨t,rfl⟩:=r;rfl
 |ref _=>cases r;rfl
 |ty _=>cases r;rfl
def kM{j pos'}(ha:PE X a ta):PC X .Is a (.Constant .none j pos') (o6 ta):=by intro pins s U H Q I h;refine ha[10e8];exact WU (is_none_gen 53e4)
def TF{j pos'}(ha:PE X a ta):PC X .IsNot a (.Constant .none j pos') (aCw ta):=by intro pins s U H Q I h;refine ha[10e8];exact WU (isnot_none_gen 53e4)
def tB(t:TE):TT:=λU H Q=>t U H λx H1=>∃c,x= .bl c/\Q c H1
def gO(h:PC X op a b t)(h1:yQ op b=false:=by first|exact u7 _ 0e3 0e3|rfl):PT X (.Compare a [op] [b] pos) (tB t):=by intro pins s U H Q I hw;refine aPs (bE (h pins s U H _ I hw) λv s1 h1=>bE h1 λu s2 h2=>bE h2 λc s3 ⟨x,H1,I1,r1,q1⟩=>?_) h1;obtain⟨d,rfl,q⟩:=q1;cases r1;exact qB ⟨H1,I1,q⟩
variable{tA tB':TT}{rest:List Expr}
def aKw(t u:TT):TT:=λU H Q=>t U H λc H1=>if c=true then u U H1 Q else Q false H1
def tOr(t u:TT):TT:=λU H Q=>t U H λc H1=>if c=true then Q true H1 else u U H1 Q
def aDg(t:TT):TT:=λU H Q=>t U H λc H1=>Q (!c) H1
def wU(ha:PT X a tA):PW X (.BoolOp .And [a] pos) tA:=by
 intro wh pins s U H Q I h;refine isTrue_and 54e9;cases c with
 |true=>exact isTrue_and_nil e
 |false=>exact e
def uK(ha:PT X a tA):PW X (.BoolOp .Or [a] pos) tA:=by
 intro wh pins s U H Q I h;refine isTrue_or 54e9;cases c with
 |false=>exact isTrue_or_nil e
 |true=>exact e
def qM(ha:PT X a tA)(hb:PW X (.BoolOp .And (b::rest) pos) tB'):PW X (.BoolOp .And (a::b::rest) pos) (aKw tA tB'):=by
 intro wh pins s U H Q I h;refine isTrue_and 62e7;cases c with
 |true=>exact hb wh pins s1 U H1 Q I1 q1
 |false=>exact⟨H1,I1,q1⟩
def sI(ha:PT X a tA)(hb:PW X (.BoolOp .Or (b::rest) pos) tB'):PW X (.BoolOp .Or (a::b::rest) pos) (tOr tA tB'):=by
 intro wh pins s U H Q I h;refine isTrue_or 62e7;cases c with
 |true=>exact⟨H1,I1,q1⟩
 |false=>exact hb wh pins s1 U H1 Q I1 q1
def fA(ha:PT X a tA):PT X (.UnaryOp .Not a pos) (aDg tA):=by intro pins s U H Q I h;exact isTrue_not (ha pins s U H (λc H1=>Q (!c) H1) I h)
def v0(ta tb:TE):TE:=λU H Q=>ta U H λx H1=>∃c,x= .bl c/\if c=true then tb U H1 Q else Q (.bl false) H1
def aFp(ta tb:TE):TE:=λU H Q=>ta U H λx H1=>∃c,x= .bl c/\if c=true then Q (.bl true) H1 else tb U H1 Q
def aOd(ta:TE):TE:=λU H Q=>ta U H λx H1=>∃c,x= .bl c/\Q (.bl (!c)) H1
def OQ{op}(h:PE X a t):PE X (.BoolOp op [a] pos) t:=λpins s U H Q I hw=>BoolOp_one (h pins s U H Q I hw)
def PU(ha:PE X a ta)(hb:PE X (.BoolOp .And (b::rest) pos) tb):PE X (.BoolOp .And (a::b::rest) pos) (v0 ta tb):=by
 intro pins s U H Q I h;refine BoolOp_and ha[12e5];obtain⟨c,rfl,q1⟩:=q1;cases r1;refine qB ?_;cases c with
 |true=>exact Q[14e3]
 |false=>exact{.bl false,H1,I1,Z,q1}
def i7(ha:PE X a ta)(hb:PE X (.BoolOp .Or (b::rest) pos) tb):PE X (.BoolOp .Or (a::b::rest) pos) (aFp ta tb):=by
 intro pins s U H Q I h;refine BoolOp_or ha[12e5];obtain⟨c,rfl,q1⟩:=q1;cases r1;refine qB ?_;cases c with
 |false=>exact Q[14e3]
 |true=>exact{.bl true,H1,I1,Z,q1}
def S7(ha:PE X a ta):PE X (.UnaryOp .Not a pos) (aOd ta):=by intro pins s U H Q I h;refine UnaryOp_ ha[12e5];obtain⟨c,rfl,q1⟩:=q1;cases r1;exact not_of (qB {.bl (!c),H1,I1,Z,q1})
def tIf(t:TT)(ta tb:TE):TE:=λU H Q=>t U H λc H1=>if c=true then ta U H1 Q else tb U H1 Q
def oS(hc:PT X c tA)(ha:PE X a ta)(hb:PE X b tb):PE X (.IfExp c a b pos) (tIf tA ta tb):=by
 intro pins s U H Q I h;refine wpAny_IfExp 62e8;cases d with
 |true=>exact ha pins s1 U H1 Q I1 q1
 |false=>exact Q[14e3]
end
def aJ(K:aP)(H:Hp)(a:Addr)(xs:List V):Prop:=
 Rd H a (.lst xs)\/
  ∃(o:Obj) (its:Array Value) (n:Nat),K.lookup a=some o/\o.cls= .type "list"/\o.dict=none/\o.data= .seq its n/\its.size<=1e5/\bJ xs its.toList
def bW(K:aP)(H:Hp)(a:Addr)(xs:List V):Prop:=
 Rd H a (.tup xs)\/
  ∃(o:Obj) (its:Array Value) (n:Nat),K.lookup a=some o/\o.cls= .type "tuple"/\o.data= .seq its n/\its.size<=1e5/\bJ xs its.toList
def aMh:Value->Option V
 | .none=>some .non
 | .bool b=>some (.bl b)
 | .int i _=>some (.int i)
 | .str x _=>some (.str x)
 | .bytes b _=>some (.byt b)
 | .float b _=>some (.flt b)
 | .ref a=>some (.ref a)
 | .type n=>some (.ty n)
 |_=>none
def bR.abs(r:bR x u):aMh u=some x:=by
 cases x with
 |non=>cases r;rfl
 |bl _=>cases r;rfl
 |int _=>obtain⟨t,rfl⟩:=r;rfl
 |str _=>obtain⟨t,rfl⟩:=r;rfl
 |byt _=>obtain⟨t,rfl⟩:=r;rfl
 |flt _=>obtain⟨t,rfl⟩:=r;rfl
 |ref _=>cases r;rfl
 |ty _=>cases r;rfl
def bR.inj(r:bR x u)(q:bR y u):x=y:=eO (r.abs.symm.trans q.abs)
def bJ.inj:∀{xs ys:List V} {us:List Value},bJ xs us->bJ ys us->xs=ys
 |_,_,_,.nil,.nil=>rfl
 |_,_,_,.cons r t,.cons r' t'=>by rw[r.inj r',bJ.inj t t']
section
variable{X:Cx}{pins:List (Addr×Obj)}{U:St}{H:Hp}{s:aI}{a:Addr}{xs ys:List V}
def aJ.of{K:aP}(h:H a=some (.lst xs)):aJ K H a xs:= .inl (.inl h)
def bW.of{K:aP}(h:H a=some (.tup xs)):bW K H a xs:= .inl (.inl h)
def aG.list(I:aG X pins U H s)(h:aJ X.K H a xs):∃its:List Value,bJ xs its/\PlainL 0e2 a 4e5/\1e9<=sizeLine:=by
 rcases h with h|⟨o,its,n,hk,hc,hd,hs,hz,r⟩
 ·obtain⟨z,its,n,r,e⟩:=h.ok I.hok;exact{its,r,{_,n,e,Z,Z,Z},z}
 ·refine{its.toList,r,{o,n,I.kIn a o hk,hc,hd,by simpa using hs},?_};have e:=r.length;simp only[vU] at e;omega
def aG.tuple(I:aG X pins U H s)(h:bW X.K H a xs):∃its:List Value,bJ xs its/\IsTup 0e2 a 4e5/\1e9<=sizeLine:=by
 rcases h with h|⟨o,its,n,hk,hc,hs,hz,r⟩
 ·obtain⟨z,its,r,p⟩:=h.ok I.hok;exact⟨its,r,p,z⟩
 ·refine{its.toList,r,{o,I.kIn a o hk,hc,n,by simpa using hs},?_};have e:=r.length;simp only[vU] at e;omega
def aG.list_inj(I:aG X pins U H s)(h:aJ X.K H a xs)(h':aJ X.K H a ys):xs=ys:=by
 obtain⟨its,r,⟨o,n,e,_,_,d⟩,_⟩:=I.list h;obtain⟨its',r',⟨o',n',e',_,_,d'⟩,_⟩:=I.list h';rw[e] at e';cases e';rw[d] at d';injection d' with d1 _
 have:its=its':=by simpa using dB WV d1
 subst this;exact r.inj r'
def aG.tuple_inj(I:aG X pins U H s)(h:bW X.K H a xs)(h':bW X.K H a ys):xs=ys:=by
 obtain⟨its,r,⟨o,e,_,n,d⟩,_⟩:=I.tuple h;obtain⟨its',r',⟨o',e',_,n',d'⟩,_⟩:=I.tuple h';rw[e] at e';cases e';rw[d] at d';injection d' with d1 _
 have:its=its':=by simpa using dB WV d1
 subst this;exact r.inj r'
end
abbrev Cx.wish(X:Cx)(E:Value->aI->Prop):Cx:={X with xe:=E}
abbrev Cx.nox(X:Cx):Cx:=X.wish λ_ _=>False
def Cx.Ok.wish{X:Cx}(ok:X.Ok)(E:Value->aI->Prop):(X.wish E).Ok:=
 ⟨ok.mod,ok.kind,ok.glob,ok.blt,ok.above,ok.inj,ok.has,ok.cab,ok.hd,ok.frames,ok.stk,ok.exf,ok.bs,ok.bsz,ok.noex,ok.exfs,ok.funs,ok.frf⟩
def Cx.Ok.unwish{X:Cx}(ok:(X.wish E).Ok):X.Ok:=
 ⟨ok.mod,ok.kind,ok.glob,ok.blt,ok.above,ok.inj,ok.has,ok.cab,ok.hd,ok.frames,ok.stk,ok.exf,ok.bs,ok.bsz,ok.noex,ok.exfs,ok.funs,ok.frf⟩
section
variable{X:Cx}{pins:List (Addr×Obj)}{U:St}{H:Hp}{s:aI}{E:Value->aI->Prop}
def aG.wish(I:aG X pins U H s)(E:Value->aI->Prop):aG (X.wish E) pins U H s:={I.ok.wish E,I.os,I.bare,I.base,I.loc,I.cell,I.free,I.freeC,I.pin,I.hok,I.len}
def aG.unwish(I:aG (X.wish E) pins U H s):aG X pins U H s:=⟨I.ok.unwish,I.os,I.bare,I.base,I.loc,I.cell,I.free,I.freeC,I.pin,I.hok,I.len⟩
def SP.unwish(h:SP (X.wish E) pins D f s'):SP X pins D f s':=by
 cases f with
 |next=>obtain⟨U',H',I,q⟩:=h;exact 43e7
 |brk=>obtain⟨U',H',I,q⟩:=h;exact 43e7
 |cont=>obtain⟨U',H',I,q⟩:=h;exact 43e7
 |ret u=>obtain⟨v,U',H',I,r,q⟩:=h;exact⟨v,U',H',I.unwish,r,q⟩
def lA.nox{st:List Stmt}{t:TS}(h:lA X.nox st t):lA X st t:=λpins s U H D I hw=>lH (h pins s U H D (I.wish _) hw) (λ_ _ q=>q.unwish) λ_ _ z=>iI z
end
section
variable{X:Cx}{st:Stmt}{rest:List Stmt}{t u:TS}{e:Expr}{te:TE}{pos:Pos}
def aMc:TS:=λD U H=>D.nx U H
def Y8(t u:TS):TS:=λD U H=>t {D with nx:=u D} U H
def bO:lA X [] aMc:=λ_ _ U H _ I h=>LS ⟨U,H,I,h⟩
def aF(h1:PS X st t)(h2:lA X rest u):lA X (st::rest) (Y8 t u):=by
 intro pins s U H D I h;refine aPt (bE (h1 pins s U H {D with nx:=u D} I h) λf s1 q=>?_);cases f with
 |next=>obtain⟨U',H',I',q⟩:=q;exact h2 pins s1 U' H' D I' q
 |ret v=>exact q
 |brk=>exact q
 |cont=>exact q
def aN(h1:PS X st t):lA X [st] t:=by
 intro pins s U H D I h;refine aPt (bE (h1 pins s U H D I h) λf s1 q=>?_);cases f with
 |next=>exact LS q
 |ret v=>exact q
 |brk=>exact q
 |cont=>exact q
def aKg:TS:=λD U H=>D.ct U H
def K9:PS X (.Continue pos) aKg:=λ_ _ U H _ I h=>wpAny_Continue ⟨U,H,I,h⟩
def aG.quiet{pins:List 2e7}(I:aG X pins U H s):interactive X.env=false:=by simp[interactive,I.ok.kind]
def aJo(te:TE):TS:=λD U H=>te U H λ_ H1=>D.nx U H1
def dC(he:PE X e te)(hs:swapsWith e none pos.line X.env=pure false:=by rfl):PS X (.Expr e pos) (aJo te):=by intro pins s U H D I h;exact wpAny_Expr_any (bE he[1e1] λv s1 ⟨x,H1,I1,r1,q1⟩=>⟨U,H1,I1,q1⟩) I.quiet hs
def P0(te:TE):TS:=λD U H=>te U H D.rt
def aY(he:PE X e te):PS X (.Return (some e) pos) (P0 te):=by intro pins s U H D I h;exact wpAny_Return_some (bE he[1e1] λv s1 ⟨x,H1,I1,r1,q1⟩=>⟨x,U,H1,I1,r1,q1⟩)
def aFj:TS:=λD _ H=>D.rt .non H
def aIg:PS X (.Return none pos) aFj:=λ_ _ U H _ I h=>wpAny_Return_none {.non,U,H,I,Z,h}
def aDj(c:TT)(t u:TS):TS:=λD U H=>c U H λb H1=>if b=true then t D U H1 else u D U H1
def bI(hc:PT X c tc)(ha:lA X a t)(hb:lA X b u):PS X (.If c a b pos) (aDj tc t u):=by
 intro pins s U H D I h;refine wpAny_If 62e8;cases d with
 |true=>exact ha pins s1 U H1 D I1 q1
 |false=>exact D[14e3]
end
abbrev TG:=V->St->Hp->(St->Hp->Prop)->Prop
abbrev tE:=List V->St->Hp->(St->Hp->Prop)->Prop
def PG(X:Cx)(target:Expr)(t:TG):Prop:=
 ∀(pins:List (Addr×Obj)) (s:aI) (U:St) (H:Hp) (v:V) (u:Value) (Q:St->Hp->Prop),aG X pins U H s->bR v u->t v U H Q->
  aQ 1e1 X.A (yR target X.env u) 52e4 X.xe s
def A8(X:Cx)(ts:List Expr)(t:tE):Prop:=
 ∀(pins:List (Addr×Obj)) (s:aI) (U:St) (H:Hp) (vs:List V) (us:List Value) (Q:St->Hp->Prop),aG X pins U H s->bJ vs us->t vs U H Q->
  aQ 1e1 X.A (assignInOrder ((vV ts X.env).map (·.2)) us) 52e4 X.xe s
abbrev AS:=V->V->V->Hp->(Hp->Prop)->Prop
def KI(X:Cx)(t:AS):Prop:=
 ∀(pins:List (Addr×Obj)) (s:aI) (U:St) (H:Hp) (o i v:V) (ov iv u:Value) (Q:Hp->Prop),aG X pins U H s->bR o ov->bR i iv->bR v u->t o i v H Q->
  aQ 1e1 X.A (setItem ov iv u) (λ_ s'=>∃H',aG X pins U H' s'/\Q H') X.xe s
abbrev ES:=V->V->Hp->VK->Prop
def JT(X:Cx)(op:FI)(t:ES):Prop:=
 ∀(pins:List (Addr×Obj)) (s:aI) (U:St) (H:Hp) (x y:V) (v u:Value) (Q:VK),aG X pins U H s->bR x v->bR y u->t x y H Q->
  aQ 1e1 X.A (inplaceOp op v u) 7e8 X.xe s
section
variable{X:Cx}{pos:Pos}
def EG(i:Nat):TG:=λv U H Q=>Q (U.set i (some v)) H
def dM{i:Nat}{x:Str}(hN:X.N.Nodup)(hi:X.N[i]? =some x)(hx:dF 10e5 x)(hf:X.fn x=true\/X.env.scope.names.lookup x=some .local:=by first|exact .inl Z|exact .inr Z|assumption):PG X (.Name x pos) (EG i):=by intro pins s U H v u Q I r h;exact aPu (QW I hN hi hx r (λs' I'=>{_,H,I',h}) hf)
def P_:tE:=λvs U H Q=>vs=[]/\Q U H
def x8(t:TG)(u:tE):tE:=λvs U H Q=>∃v r,vs=v::r/\t v U H λU' H'=>u r U' H' Q
def P7:A8 X [] P_:=by intro pins s U H vs us Q I r h;obtain⟨e,h⟩:=h;subst e;cases r;exact assignInOrder_nil ⟨U,H,I,h⟩
def DC(h1:PG X e t)(h2:A8 X es u)
 (hs:(vV (e::es) X.env).map (·.2)=yR e X.env::(vV es X.env).map (·.2):=by rfl):A8 X (e::es) (x8 t u):=by
 intro pins s U H vs us Q I r h;obtain⟨v,vr,e1,h⟩:=h;subst e1;cases r with
 |cons r rr=>rw[hs];refine assignInOrder_cons (bE (h1 pins s U H _ _ _ I r h) λ_ s1 ⟨σ1,H1,I1,q1⟩=>?_);exact h2 pins s1 σ1 H1 _ _ Q I1 rr q1
def V7(K:aP)(n:Nat)(t:tE):TG:=λv U H Q=>∃a xs,v= .ref a/\bW K H a xs/\1e9=n/\t xs U H Q
def UL{k:Nat}{n:Nat}(hc:X.calm=true)(h:A8 X es t)
 (hn:(vV es X.env).length=n:=by rfl) (hst:(vV es X.env).findIdx? (·.1)=none:=by rfl):PG X (.Tuple es k pos) (V7 X.K n t):=by
 intro pins s U H v u Q I r hw;obtain⟨a,xs,e1,hq,hl,hw⟩:=hw;subst e1;cases r;obtain⟨its,rv,ht,hz⟩:=I.tuple hq;refine assign_Tuple_tuple 9e7 ht (by simp[hn,<-hl,rv.length]) hst λh' hx=>?_;have I1:aG X pins U H {s with heap:=h'}:=I.kept (t':=s.toks) λb o e=>hx b o (iC (cZ e)) e;exact h pins _ U H xs _ Q I1 rv[0e6] hw
def aAq(to ti:TE)(t:AS):TG:=λv U H Q=>to U H λo H1=>ti U H1 λi H2=>t o i v H2 λH3=>Q U H3
def sB(ho:PE X o to)(hi:PE X i ti)(hs:KI X t)
 (ha:∀v,yR (.Subscript o i pos) X.env v=(do
   let ov <-yS [v] o[2e7];let iv <-yS [v,ov] i[2e7]
   FJ pos
   yS [v,ov,iv] (setItem ov iv v)
   release [v,ov,iv] []):=by intro _;rfl):PG X (.Subscript o i pos) (aAq to ti t):=by
 intro pins s U H v u Q I r h;rw[ha];refine aK (oI (bE ho[1e1] λov s1 ⟨x,H1,I1,r1,q1⟩=>?_));refine aK (oI (bE hi[4e3] λiv s2 ⟨y,H2,I2,r2,q2⟩=>?_));refine aK (FK (aK (oI (bE (hs pins s2 U H2 x y v ov iv u _ I2 r1 r2 r q2) λ_ s3 ⟨H3,I3,q3⟩=>?_))));exact wpAny_release ⟨U,H3,I3,q3⟩
def IG(te:TE)(g:TG):TS:=λD U H=>te U H λx H1=>g x U H1 D.nx
def rW(he:PE X e te)(hg:PG X tg g)(hs:swapsWithSole [tg] e pos.line X.env=pure false:=by rfl)(hw:swappedStores [tg] e X.env=pure none:=by rfl)
 (h1:(vV [tg] X.env).map (·.2)=[yR tg X.env]:=by rfl):PS X (.Assign [tg] e pos) (IG te g):=by
 intro pins s U H D I h;refine wpAny_Assign_stores he[12e5] hs hw;rw[h1];exact bE (hg pins s1 U H1 x v _ I1 r1 q1) λ_ s2 q=>q
def bZ{i:Nat}{x:Str}{pos':Pos}(hN:X.N.Nodup)(hi:X.N[i]? =some x)(hx:dF 10e5 x)(he:PE X e te)(hs:swapsWith e (some (.Name x pos')) pos.line X.env=pure false:=by rfl)(hf:X.fn x=true\/X.env.scope.names.lookup x=some .local:=by first|exact .inl Z|exact .inr Z|assumption):
 PS X (.Assign [.Name x pos'] e pos) (IG te (EG i)):=by
 intro pins s U H D I h;refine wpAny_Assign_Name (bE he[1e1] λv s1 ⟨y,H1,I1,r1,q1⟩=>?_) hs;exact QW I1 hN hi hx r1 (λs2 I2=>{_,H1,I2,q1}) hf
def YL(to ti te:TE)(tget:V->V->Hp->VK->Prop)(tip:ES)(tset:AS):TS:=λD U H=>to U H λo H1=>ti U H1 λi H2=>tget o i H2 λx H3=>te U H3 λy H4=>tip x y H4 λz H5=>tset o i z H5 λH6=>D.nx U H6
def Q4(X:Cx)(t:V->V->Hp->VK->Prop):Prop:=
 ∀(pins:List (Addr×Obj)) (s:aI) (U:St) (H:Hp) (o i:V) (ov iv:Value) (Q:VK),aG X pins U H s->bR o ov->bR i iv->t o i H Q->
  aQ 1e1 X.A (yT ov iv) 7e8 X.xe s
def pT{tget:V->V->Hp->VK->Prop}{tset:AS}{tpos:Pos}(ho:PE X o to)(hi:PE X i ti)(hg:Q4 X tget)(he:PE X e te)(hp:JT X op tip)(hs:KI X tset)
 (ha:∀ov iv new,augStore i ov iv new=(do yS [new,ov,iv] (setItem ov iv new);release [new,ov,iv] [];pure .next):=by intros;rfl):PS X (.AugAssign (.Subscript o i tpos) op e pos) (YL to ti te tget tip tset):=by
 intro pins s U H D I h;refine wpAny_AugAssign_SubscriptAny (bE ho[1e1] λov s1 ⟨x1,H1,I1,r1,q1⟩=>?_) ha;refine bE hi[4e3] λiv s2 ⟨x2,H2,I2,r2,q2⟩=>?_;refine bE (hg pins s2 U H2 x1 x2 ov iv _ I2 r1 r2 q2) λold s3 ⟨x3,H3,I3,r3,q3⟩=>?_;refine bE (he pins s3 U H3 _ I3 q3) λv s4 ⟨x4,H4,I4,r4,q4⟩=>?_;refine bE (hp pins s4 U H4 x3 x4 old v _ I4 r3 r4 q4) λnew s5 ⟨x5,H5,I5,r5,q5⟩=>?_;exact bE (hs pins s5 U H5 x1 x2 x5 ov iv new _ I5 r1 r2 r5 q5) λ_ s6 ⟨H6,I6,q6⟩=>⟨U,H6,I6,q6⟩
def O2(f:Int->Int->Int):ES:=λx y H Q=>∃i j,x= .int i/\y= .int j/\Q (.int (f i j)) H
def vG:JT X .Add (O2 λi j=>i+j):=by intro pins s U H x y v u Q I r1 r2 h;obtain⟨i,j,e1,e2,q⟩:=h;subst e1;subst e2;obtain⟨t,rfl⟩:=r1;obtain⟨t',rfl⟩:=r2;exact iadd_int {.int _,H,I.tok _,{_,Z},q}
def HJ:JT X .Sub (O2 λi j=>i - j):=by intro pins s U H x y v u Q I r1 r2 h;obtain⟨i,j,e1,e2,q⟩:=h;subst e1;subst e2;obtain⟨t,rfl⟩:=r1;obtain⟨t',rfl⟩:=r2;exact isub_int {.int _,H,I.tok _,{_,Z},q}
end
section
variable{X:Cx}{pos:Pos}
def k_(c:TT)(tb:TS):TS:=λD U H=>∃W:Nat->St->Hp->Prop,(∃m,W m U H)/\∀m U H,W m U H->
 c U H λb H1=>if b=true then ∃N:St->Hp->Prop,(∀U' H',N U' H'->∃m',m'<m/\W m' U' H')/\tb {D with nx:=N,ct:=N,bk:=D.nx} U H1 else D.nx U H1
def OD{body:List Stmt}(hp:PassesOwn 1e1 X.A X.env X.xe)(hc:PT X c tc)(hb:lA X body tb):PS X (.While c body [] pos) (k_ tc tb):=by
 intro pins s U H D I h;obtain⟨W,⟨m0,w0⟩,turn⟩:=h;refine wpAny_While (codeAny_whileLoop (λn s'=>∃U' H',aG X pins U' H' s'/\W n U' H') ?_ m0 ⟨U,H,I,w0⟩);rintro n s1 ⟨σ1,H1,I1,w1⟩;refine yU hp (bE (hc pins s1 σ1 H1 _ I1 (turn n σ1 H1 w1)) λb s2 ⟨H2,I2,q2⟩=>?_);cases b with
 |true=>
  obtain⟨N,hN,q2⟩:=q2;rw[aC rfl];refine yU hp (bE (hb pins s2 σ1 H2 _ I2 q2) λf s3 q3=>?_);cases f with
  |next=>obtain⟨σ3,H3,I3,n3⟩:=q3;obtain⟨m',hm,w3⟩:=hN σ3 H3 n3;exact{m',hm,σ3,H3,I3,w3}
  |cont=>obtain⟨σ3,H3,I3,n3⟩:=q3;obtain⟨m',hm,w3⟩:=hN σ3 H3 n3;exact{m',hm,σ3,H3,I3,w3}
  |brk=>exact q3
  |ret v=>exact q3
 |false=>rw[aB eQ];exact LS {σ1,H2,I2,q2}
end
structure It where
 go:Nat->Hp->Prop
 yld:Nat->Hp->V->Hp->Prop
 stop:Nat->Hp->Prop
def nD(X:Cx)(pins:List 2e7)(H:Hp)(b:Addr):Prop:=
 H b=none/\b≠X.env.locals/\b∉X.fs/\(b∈X.ex\/X.s_0.heap.objs.size<=b)/\(∀x c,X.env.cells.lookup x=some c->c≠b)/\∀p∈X.pn++pins,p.1≠b
def aG.fpOk{pins:List 2e7}{H H':Hp}{b:Addr}(I:aG X pins U H s)(hb:s.heap.objs.size<=b)(hn:H' b=none):nD X pins H' b:=by
 refine{hn,yV (fG I.lt hb),I.nofs hb,.inr (cI I.sz hb),λx c e z=>?_,λp hp z=>?_}
 ·obtain⟨v,q⟩:=I.cell x c e;exact absurd (fG q.lt %[z,hb|0e0]) (iR _)
 ·exact absurd (fG (cZ (I.pin p hp).1) %[z,hb|0e0]) (iR _)
structure oR(P:bN)(w:bK)(K:aP)(tg:Expr)(J:It)(fp:List Addr)(it:Addr)(tn:Nat->Heap->Prop):Prop where
 mem:it∈fp
 obj:∀i h,tn i h->∀b∈fp,∃o,h.get? b=some o/\∀v,o.data≠ .cell v
 keep:∀i h h',tn i h->(∀b∈fp,∀o,h.get? b=some o->h'.get? b=some o)->tn i h'
 item:∀(X:Cx),2e2=P->X.w=w->X.K=K->X.calm=true->∀(i:Nat) (pins:List (Addr×Obj)) (s:aI) (U:St) (H:Hp) (E:Value->aI->Prop),aG X pins U H s->(∀b∈fp,nD X pins H b)->tn i 0e2->J.go i H->
  aQ (aZ P w) X.A it[8e7] (λr s1=>∃u,r=some u/\
   aQ (aZ P w) X.A (letOwnedTupleGo tg (.ref it) u) (λ_ s2=>∃x H',aG X pins U H' s2/\bR x u/\J.yld i H x H'/\tn (i+1) s2.heap/\∀b∈fp,H' b=none) E s1) E s
 done:∀(X:Cx),2e2=P->X.w=w->X.K=K->X.calm=true->∀(i:Nat) (pins:List (Addr×Obj)) (s:aI) (U:St) (H:Hp) (E:Value->aI->Prop),aG X pins U H s->(∀b∈fp,nD X pins H b)->tn i 0e2->J.stop i H->
  aQ (aZ P w) X.A it[8e7] (λr s1=>r=none/\aG X pins U H s1) E s
 self:∀(A:cU) (i:Nat) (s:aI) (Q:Value->aI->Prop) (E:Value->aI->Prop),tn i 0e2->Q (.ref it) s->aQ (aZ P w) A (vW (.ref it)) Q E s
abbrev TI:=St->Hp->(It->Hp->Prop)->Prop
def zX(X:Cx)(pins:List 2e7)(U:St)(tg:Expr)(R:It->Hp->Prop)(itv:Value)(s2:aI):Prop:=
 ∃(it:Addr) (fp:List Addr) (tn:Nat->Heap->Prop) (J:It) (H':Hp),itv= .ref it/\aG X pins U H' s2/\oR 2e2 X.w X.K tg J fp it tn/\tn 0 s2.heap/\(∀b∈fp,nD X pins H' b)/\R J H'
def PI(X:Cx)(tg iter:Expr)(wi:TI):Prop:=
 ∀(pins:List (Addr×Obj)) (s:aI) (U:St) (H:Hp) (R:It->Hp->Prop),aG X pins U H s->wi U H R->
  aQ 1e1 X.A iter[2e7] (λv s1=>aQ 1e1 X.A (vW v) 34e3 X.xe s1) X.xe s
def vF{M:vS}{A:cU}{E:Value->aI->Prop}{s:aI}{tg:Expr}{it:Addr}{u:Value}{o:Obj}{Q:Unit->aI->Prop}(ho:s.heap.get? it=some o)(hc:o.cls= .type n)(hd:o.data= .fields vs)
 (hn:["enumerate","zip","dict_itemiterator","dict_reverseitemiterator","odict_iterator","itertools.zip_longest","itertools.pairwise"].contains n=false) (hQ:Q () s):aQ M A (letOwnedTupleGo tg (.ref it) u) Q E s:=by
 unfold letOwnedTupleGo;cases tg<;>first
  |exact bB hQ
  |(cases u<;>first
     |exact bB hQ
     |(refine aK (wpAny_load ho ?_)
       rw[hc,hd];show aQ M A (if(["enumerate","zip","dict_itemiterator","dict_reverseitemiterator","odict_iterator","itertools.zip_longest","itertools.pairwise"].contains n&&vs[0]? ==some (rawInt _))=true then _ else _) Q E s;rw[aB (by intro h;rw[hn,FG] at h;cases h)];exact bB hQ))
def xP(K:aP)(a:Addr):It:=
 ⟨λi H=>∃xs x,aJ K H a xs/\xs[i]? =some x,λi H x H'=>H'=H/\∀xs,aJ K H a xs->xs[i]? =some x,λi H=>∃xs,aJ K H a xs/\1e9<=i⟩
def AT(K:aP)(a:Addr):It:=
 ⟨λi H=>∃xs x,bW K H a xs/\xs[i]? =some x,λi H x H'=>H'=H/\∀xs,bW K H a xs->xs[i]? =some x,λi H=>∃xs,bW K H a xs/\1e9<=i⟩
def rT(lo:Int)(n:Nat):It:={λi _=>i<n,λi H x H'=>H'=H/\x= .int (lo+i),λi _=>n<=i}
def E_{P:bN}{w:bK}{K:aP}{tg:Expr}(a it:Addr):oR P w K tg (xP K a) [it] it (λi h=>h.IsListIter it a i) where
 mem:=by simp
 obj:=λi h st b hb=>by
  have e:b=it:=by simpa using hb
  subst e;obtain⟨o,e,c,d⟩:=st;exact %[o,d|1e8]
 keep:=λi h h' st k=>st.at λo e=>k it 0e5 o e
 item:=by intro X hP hw hK hc i pins s U H E I hf st hg;subst hP hw hK;obtain⟨xs,x,hq,hx⟩:=hg;obtain⟨its,rv,p,hz⟩:=I.list hq;obtain⟨u,hu,ru⟩:=rv.get hx;obtain⟨f0,f1,f2,f3,f4,f5⟩:=hf it 0e5;refine wpAny_pyNext_list_item st p.isList (x:=u) hu[0e6] λh' st' sb=>?_;have I1:aG X pins U H {s with heap:=h'}:=I.turned (t':=s.toks) (λb o hb e=>31e1) f0 f1 f3 f4 f5;obtain⟨o,e,c,d⟩:=id st';exact I.list_inj[21e3]
 done:=by intro X hP hw hK hc i pins s U H E I hf st hg;subst hP hw hK;obtain⟨xs,hq,hx⟩:=hg;obtain⟨its,rv,p,hz⟩:=I.list hq;obtain⟨f0,f1,f2,f3,f4,f5⟩:=hf it 0e5;have hl:=rv.length;exact wpAny_pyNext_list_end 9e7 st p.isList 20e3 λh' eb=>39e0
 self:=λ_ _ _ _ _ st h=>wpAny_pyIter_listiter st h
def aIq{P:bN}{w:bK}{K:aP}{tg:Expr}(a it:Addr):oR P w K tg (AT K a) [it] it (λi h=>h.IsTupleIter it a i) where
 mem:=by simp
 obj:=λi h st b hb=>by
  have e:b=it:=by simpa using hb
  subst e;obtain⟨o,e,c,d⟩:=st;exact %[o,d|1e8]
 keep:=λi h h' st k=>st.at λo e=>k it 0e5 o e
 item:=by intro X hP hw hK hc i pins s U H E I hf st hg;subst hP hw hK;obtain⟨xs,x,hq,hx⟩:=hg;obtain⟨its,rv,p,hz⟩:=I.tuple hq;obtain⟨u,hu,ru⟩:=rv.get hx;obtain⟨f0,f1,f2,f3,f4,f5⟩:=hf it 0e5;refine wpAny_pyNext_tuple_item st (show s.heap.IsTuple a 4e5 from p) (x:=u) hu[0e6] λh' st' sb=>?_;have I1:aG X pins U H {s with heap:=h'}:=I.turned (t':=s.toks) (λb o hb e=>31e1) f0 f1 f3 f4 f5;obtain⟨o,e,c,d⟩:=id st';exact I.tuple_inj[21e3]
 done:=by intro X hP hw hK hc i pins s U H E I hf st hg;subst hP hw hK;obtain⟨xs,hq,hx⟩:=hg;obtain⟨its,rv,p,hz⟩:=I.tuple hq;obtain⟨f0,f1,f2,f3,f4,f5⟩:=hf it 0e5;have hl:=rv.length;exact wpAny_pyNext_tuple_end 9e7 st (show s.heap.IsTuple a 4e5 from p) 20e3 λh' eb=>39e0
 self:=λ_ _ _ _ _ st h=>wpAny_pyIter_tupleiter st h
def aBt{P:bN}{w:bK}{K:aP}{tg:Expr}(it:Addr)(lo:Int)(n:Nat):oR P w K tg (rT lo n) [it] it (λi h=>IsRangeIter h it (lo+(i:Nat) * 1) ((n:Int) - (i:Nat)) 1) where
 mem:=by simp
 obj:=λi h st b hb=>by
  have e:b=it:=by simpa using hb
  subst e;exact⟨_,st,λv z=>by
   have z':Data.fields _=Data.cell v:=z;cases z'⟩
 keep:=λi h h' st k=>k it 0e5 _ st
 item:=by intro X hP hw hK hc i pins s U H E I hf st hg;subst hP hw hK;obtain⟨f0,f1,f2,f3,f4,f5⟩:=hf it 0e5;have W:=Walks.range (prog:=X.prog) (w:=X.w) 9e7 it lo 1 n;refine W.item i s _ _ hg st λv h' tk hv st' kk=>?_;obtain⟨t,rfl⟩:=hv;have I1:aG X pins U H {s with heap:=h',toks:=tk}:=I.turned (λb o hb e=>kk b o hb[0e6] e) f0 f1 f3 f4 f5;refine⟨_,Z,vF (s:={s with heap:=h',toks:=tk}) (n:="range_iterator") st' Z Z 0e3 {.int (lo+i),H,I1,{t,?_},⟨Z,Z⟩,st',λb hb=>24e7}⟩;rw[Int.mul_one]
 done:=by intro X hP hw hK hc i pins s U H E I hf st hg;subst hP hw hK;obtain⟨f0,f1,f2,f3,f4,f5⟩:=hf it 0e5;exact wpAny_pyNext_range_end 9e7 st (by have:n<=i:=hg;omega) λh' eb=>39e0
 self:=λ_ _ _ _ _ st h=>wpAny_pyIter_rangeiter st h
section
variable{X:Cx}{tg:Expr}
def YM(K:aP)(tl:TE):TI:=λU H R=>tl U H λx H1=>∃a,x= .ref a/\(∃xs,aJ K H1 a xs)/\R (xP K a) H1
def O_(K:aP)(tl:TE):TI:=λU H R=>tl U H λx H1=>∃a,x= .ref a/\(∃xs,bW K H1 a xs)/\R (AT K a) H1
def iG{l:Expr}{tl:TE}(hl:PE X l tl):PI X tg l (YM X.K tl):=by
 intro pins s U H R I h;refine hl[10e8];obtain⟨a,e,⟨xs,hq⟩,q⟩:=q1;subst e;cases r1;obtain⟨its,rv,p,hz⟩:=I1.list hq;refine LU p.isList ?_;refine E_[18e3];have e:b=s1.heap.objs.size:=by simpa using hb
 subst e;exact 40e6
def aNb{l:Expr}{tl:TE}(hl:PE X l tl):PI X tg l (O_ X.K tl):=by
 intro pins s U H R I h;refine hl[10e8];obtain⟨a,e,⟨xs,hq⟩,q⟩:=q1;subst e;cases r1;obtain⟨its,rv,p,hz⟩:=I1.tuple hq;refine aPv (show s1.heap.IsTuple a 4e5 from p) ?_;refine aIq[18e3];have e:b=s1.heap.objs.size:=by simpa using hb
 subst e;exact 40e6
def RB{pins:List 2e7}{R:It->Hp->Prop}{E:Value->aI->Prop}{lo hi:Int}{t u v:Tok}{tk:Nat}(I:aG X pins U H s)(h1: -(2 ^ 62)<=lo)(h2:lo<2 ^ 62)(h3: -(2 ^ 62)<=hi)(h4:hi<2 ^ 62)
 (q:R (rT lo (hi - lo).toNat) H):aQ 1e1 X.A (vW (.ref 0e9)) 34e3 E {s with heap:=s.heap.push {cls:= .type "range",data:= .fields #[.int lo t,.int hi u,.int 1 v]},toks:=tk}:=by
 refine wpAny_pyIter_range (IsRange.new ..) (small_one h1 h2 h3 h4) ?_;have I1:aG X pins U H {s with heap:=s.heap.push {cls:= .type "range",data:= .fields #[.int lo t,.int hi u,.int 1 v]},toks:=tk}:=I.kept λb o e=>dL _ e;refine⟨(38e7).objs.size,[(38e7).objs.size],_,_,H,Z,
  I1.kept (t':=tk) λb o e=>dL _ e,aBt _ lo (hi - lo).toNat,?_,λb hb=>?_,q⟩
 ·have e1:lo+((0:Nat):Int) * 1=lo:=by simp
  have e2:(((hi - lo).toNat:Nat):Int) - ((0:Nat):Int)=vX.Range.rangeSize lo hi 1:=by rw[rangeSize_one];split<;>omega
  show IsRangeIter _ _ (lo+((0:Nat):Int) * 1) ((((hi - lo).toNat:Nat):Int) - ((0:Nat):Int)) 1;rw[e1,e2];exact eR _ rfl
 ·have e:b=(38e7).objs.size:=by simpa using hb
  subst e;exact 40e6
def aBi(ta:TA):TI:=λU H R=>ta U H λvs H1=>∃j:Int,vs=[.int j]/\ -(2 ^ 62)<=j/\j<2 ^ 62/\R (rT 0 j.toNat) H1
def aHa(ta:TA):TI:=λU H R=>ta U H λvs H1=>∃i j:Int,vs=[.int i,.int j]/\(-(2 ^ 62)<=i/\i<2 ^ 62/\ -(2 ^ 62)<=j/\j<2 ^ 62)/\R (rT i (j - i).toNat) H1
def rY{a:Expr}{p pos:Pos}(hg:Gl X "range")(hm:X.mg "range"=none)(ha:PA X [a] ta)(hs:dD [a] X.env=[a[2e4]]:=by rfl):PI X tg (.Call (.Name "range" p) [a] [] pos) (aBi ta):=by
 intro pins s U H R I h;refine Call_ (rA I hg hm boot_range (FL 36e4 hs Z));obtain⟨j,e,q1,q2,q⟩:=q1;subst e;cases r1 with
 |cons r rr=>cases rr;obtain⟨t,rfl⟩:=r;exact call_range_1 (RB I1 0e1 0e1 q1 q2 q[0e6])
def aNn{a b:Expr}{p pos:Pos}(hg:Gl X "range")(hm:X.mg "range"=none)(ha:PA X [a,b] ta)(hs:dD [a,b] X.env=[a[2e4],b[2e4]]:=by rfl)(hs2:dD [b] X.env=[b[2e4]]:=by rfl):
 PI X tg (.Call (.Name "range" p) [a,b] [] pos) (aHa ta):=by
 intro pins s U H R I h;refine Call_ (rA I hg hm boot_range (FL 36e4 (by rw[hs,hs2]) hs2[2e5]));obtain⟨i,j,e,⟨q1,q2,q3,q4⟩,q⟩:=q1;subst e;cases r1 with
 |cons r rr=>
  cases rr with
  |cons r' rr=>cases rr;obtain⟨t,rfl⟩:=r;obtain⟨t',rfl⟩:=r';exact call_range_2 (RB I1 q1 q2 q3 q4 q)
def aMe(wi:TI)(g:TG)(tb:TS):TS:=λD U H=>wi U H λJ H1=>∃W:Nat->Nat->St->Hp->Prop,(∃m,W 0 m U H1)/\∀i m U H,W i m U H->
 (J.stop i H/\D.nx U H)\/(J.go i H/\∃N:St->Hp->Prop,26e5/\∀x H',J.yld i H x H'->g x U H' λσ2 H2=>26e7)
def AK(fp:List Addr)(h:Heap):List 2e7:=fp.filterMap λb=>(h.get? b).map λo=>(b,o)
def JE{fp:List Addr}{h:Heap}{b:Addr}{o:Obj}(hb:b∈fp)(e:h.get? b=some o):(b,o)∈AK fp h:=BX.mpr {b,hb,by rw[e];rfl}
def aAs{p:Addr×Obj}(hp:p∈AK fp h):p.1∈fp/\h.get? p.1=some p.2:=by
 obtain⟨b,hb,e⟩:=BX.mp hp;cases q:h.get? b with
 |none=>rw[q] at e;cases e
 |some o=>rw[q] at e;have e':(b,o)=p:=eO e;subst e';exact⟨hb,q⟩
def aG.pinned{pins:List 2e7}{fp:List Addr}(I:aG X pins U H s)(hf:∀b∈fp,nD X pins H b)(ho:∀b∈fp,∃o,s.heap.get? b=some o/\∀v,o.data≠ .cell v):aG X (pins++AK fp 0e2) U H s:=
 I.pins_of λp hp=>(fE.mp hp).elim (λz=>I.pin p (nJ _ z)) λz=>by obtain⟨hb,e⟩:=aAs z;obtain⟨f0,f1,f2,_⟩:=hf p.1 hb;obtain⟨o,e',d⟩:=ho p.1 hb;rw[e] at e';cases e';exact⟨e,f0,f1,f2,d⟩
def aG.unpinned{pins pl:List 2e7}(I:aG X (pins++pl) U H s):aG X pins U H s:=I.pins_of λp hp=>I.pin p (nJ _ (tI _ hp))
def lD{iter:Expr}{body:List Stmt}{pos:Pos}(hp:PassesOwn 1e1 X.A X.env X.xe)(hc:X.calm=true)(hi:PI X tg iter wi)(hg:PG X tg g)(hb:lA X body tb)
 (hs:∀x,LV iter X.env x=pure x:=by intro _;rfl):PS X (.For tg iter body [] pos) (aMe wi g tb):=by
 intro pins s U H D I h;refine wpAny_For (bE hi[1e1] λv s1 h1=>bE h1 λitv s2 h2=>?_) hs;obtain⟨it,fp,tn,J,H2,e,I2,T,st2,f2,W,⟨m0,w0⟩,turn⟩:=h2;subst e;have stat:∀{H':Hp},(∀b∈fp,H' b=none)->∀b∈fp,nD X pins H' b:=λhn b hb=>{hn b hb,(f2 b hb).2};refine codeAny_forLoop_any (λn s'=>∃i U' H',aG X pins U' H' s'/\tn i 11e1/\(∀b∈fp,H' b=none)/\W i n U' H') ?_ m0 {0,U,H2,I2,st2,λb hb=>(f2 b hb).1,w0};rintro n s3 ⟨i,σ3,H3,I3,st3,fr3,w3⟩;rcases turn i n σ3 H3 w3 with⟨stop,qn⟩|⟨go,N,hN,step⟩
 ·refine yU hp (bE (T.done X Z Z Z hc i pins s3 σ3 H3 X.xe I3 (stat fr3) st3 stop) λr s4 ⟨hr,I4⟩=>?_);subst hr;exact LS {σ3,H3,I4,qn}
 ·refine yU hp (bE (T.item X Z Z Z hc i pins s3 σ3 H3 X.xe I3 (stat fr3) st3 go) λr s4 ⟨u,hr,h4⟩=>?_);subst hr;refine yU hp (bE h4 λ_ s5 ⟨x,H5,I5,r5,y5,st5,fr5⟩=>?_);have I5':=I5.pinned (stat fr5) (T.obj _ _ st5);refine yU hp (bE (hg _ s5 σ3 H5 x u _ I5' r5 (step x H5 y5)) λ_ s6 ⟨σ6,H6,I6,q6⟩=>?_);refine yU hp (bE (hb _ s6 σ6 H6 _ I6 q6) λf s7 q7=>?_);have again:∀{σ7:St} {H7:Hp},aG X (pins++AK fp s5.heap) σ7 H7 s7->N σ7 H7->∃m,m<n/\∃i U' H',aG X pins U' H' s7/\tn i s7.heap/\(∀b∈fp,H' b=none)/\W i m U' H':=λ{σ7 H7} I7 n7=>by obtain⟨m',hm,w7⟩:=hN σ7 H7 n7;refine{m',hm,i+1,σ7,H7,I7.unpinned,T.keep _ _ _ st5 λb hb o e=>(I7.pin (b,o) 43e2).1,λb hb=>?_,w7};obtain⟨o,e,d⟩:=T.obj _ _ st5 b hb;exact(I7.pin (b,o) 43e2).2.1
  cases f with
  |next=>obtain⟨σ7,H7,I7,n7⟩:=q7;exact again I7 n7
  |cont=>obtain⟨σ7,H7,I7,n7⟩:=q7;exact again I7 n7
  |brk=>obtain⟨σ7,H7,I7,q7⟩:=q7;exact{σ7,H7,I7.unpinned,q7}
  |ret v=>obtain⟨x7,σ7,H7,I7,r7,q7⟩:=q7;exact{x7,σ7,H7,I7.unpinned,r7,q7}
end
def pC{K:aP}{a:Addr}{xs:List V}{g:TG}{tb:TS}{D:qU}{U:St}{H:Hp}(Pv:Nat->St->Hp->Prop)(h0:Pv 0 U H)(hl:∀i U H,i<=xs.length->Pv i U H->aJ K H a xs)
 (hs:∀i x U H,xs[i]? =some x->Pv i U H->g x U H λσ2 H2=>30e7) (hd:∀U H,Pv 1e9 U H->D.nx U H):
 ∃W:Nat->Nat->St->Hp->Prop,35e4/\∀i m U H,W i m U H->
  ((xP K a).stop i H/\D.nx U H)\/((xP K a).go i H/\∃N:St->Hp->Prop,26e5/\∀x H',(xP K a).yld i H x H'->g x U H' λσ2 H2=>26e7):=by
 refine 44e8;rintro i m U H ⟨rfl,hi,p⟩;have q:=hl i U H hi p;by_cases hlt:i<1e9
 ·refine 44e7;obtain⟨e,y⟩:=y;subst e;exact hs i x U _ (y xs q) p
 ·have e:i=xs.length:=by omega
  subst e;exact 40e8
def aLp{K:aP}{a:Addr}{xs:List V}{g:TG}{tb:TS}{D:qU}{U:St}{H:Hp}(Pv:Nat->St->Hp->Prop)(h0:Pv 0 U H)(hl:∀i U H,i<=xs.length->Pv i U H->bW K H a xs)
 (hs:∀i x U H,xs[i]? =some x->Pv i U H->g x U H λσ2 H2=>30e7) (hd:∀U H,Pv 1e9 U H->D.nx U H):
 ∃W:Nat->Nat->St->Hp->Prop,35e4/\∀i m U H,W i m U H->
  ((AT K a).stop i H/\D.nx U H)\/((AT K a).go i H/\∃N:St->Hp->Prop,26e5/\∀x H',(AT K a).yld i H x H'->g x U H' λσ2 H2=>26e7):=by
 refine 44e8;rintro i m U H ⟨rfl,hi,p⟩;have q:=hl i U H hi p;by_cases hlt:i<1e9
 ·refine 44e7;obtain⟨e,y⟩:=y;subst e;exact hs i x U _ (y xs q) p
 ·have e:i=xs.length:=by omega
  subst e;exact 40e8
def KL{lo:Int}{n:Nat}{g:TG}{tb:TS}{D:qU}(Pv:Nat->St->Hp->Prop)(h0:Pv 0 U H)
 (hs:∀i U H,i<n->Pv i U H->g (.int (lo+i)) U H λσ2 H2=>30e7) (hd:∀U H,Pv n U H->D.nx U H):
 ∃W:Nat->Nat->St->Hp->Prop,35e4/\∀i m U H,W i m U H->
  ((rT lo n).stop i H/\D.nx U H)\/((rT lo n).go i H/\∃N:St->Hp->Prop,26e5/\∀x H',(rT lo n).yld i H x H'->g x U H' λσ2 H2=>26e7):=by
 refine{λi m U H=>m=n - i/\i<=n/\Pv i U H,{n,11e4,dN _,h0},?_};rintro i m U H ⟨rfl,hi,p⟩;by_cases hlt:i<n
 ·refine .inr {hlt,Pv (i+1),λU' H' p'=>{n - (i+1),4e2,Z,hlt,p'},λx H' y=>?_};obtain⟨e,y⟩:=y;subst e y;exact hs i U _ hlt p
 ·have e:i=n:=by omega
  subst e;exact .inl {bL _,hd U H p}
abbrev R2:=V->V->Hp->VK->Prop
def eK(X:Cx)(f:Value->Value->Sem Value)(r:R2):Prop:=
 ∀(pins:List (Addr×Obj)) (s:aI) (U:St) (H:Hp) (x y:V) (v u:Value) (Q:VK),aG X pins U H s->bR x v->bR y u->r x y H Q->
  aQ 1e1 X.A (f v u) 7e8 X.xe s
def KN(X:Cx)(f:Value->Sem Value)(r:V->Hp->VK->Prop):Prop:=
 ∀(pins:List (Addr×Obj)) (s:aI) (U:St) (H:Hp) (x:V) (v:Value) (Q:VK),aG X pins U H s->bR x v->r x H Q->
  aQ 1e1 X.A (f v) 7e8 X.xe s
def oF(X:Cx)(f:Value)(r:List V->Hp->VK->Prop):Prop:=
 ∀(pins:List (Addr×Obj)) (s:aI) (U:St) (H:Hp) (xs:List V) (us:List Value) (Q:VK),aG X pins U H s->bJ xs us->r xs H Q->
  aQ 1e1 X.A (call f us) 7e8 X.xe s
def aJz(X:Cx)(r:V->Hp->(Bool->Hp->Prop)->Prop):Prop:=
 ∀(pins:List (Addr×Obj)) (s:aI) (U:St) (H:Hp) (x:V) (v:Value) (Q:Bool->Hp->Prop),aG X pins U H s->bR x v->r x H Q->
  aQ 1e1 X.A (truthy v) 36e0 X.xe s
def ER(r:R2)(ta tb:TE):TE:=λU H Q=>ta U H λx H1=>tb U H1 λy H2=>r x y H2 Q
def tUn(r:V->Hp->VK->Prop)(ta:TE):TE:=λU H Q=>ta U H λx H1=>r x H1 Q
def rI(C:Int->Int->Prop)(g:Int->Int->V):R2:=λx y H Q=>∃i j,x= .int i/\y= .int j/\C i j/\Q (g i j) H
def qZ(g:Int->Int->V):R2:=λx y H Q=>∃i j,x= .int i/\y= .int j/\Q (g i j) H
def rU(g:Int->V):V->Hp->VK->Prop:=λx H Q=>∃i,x= .int i/\Q (g i) H
section
variable{X:Cx}{a b c:Expr}{ta tb tc:TE}{pos:Pos}
def HV(ha:PE X a ta)(hb:PE X b tb){pins:List 2e7}{R:V->V->Hp->Prop}(I:aG X pins U H s)
 (h:ta U H λx H1=>tb U H1 λy H2=>R x y H2) {Q:Value->aI->Prop} {f:Value->Value->Sem Value}
 (hf:∀v u s2 x y H2,aG X pins U H2 s2->bR x v->bR y u->R x y H2->aQ 1e1 X.A (f v u) Q X.xe s2):
 aQ 1e1 X.A a[2e7] 58e0 X.xe s:=by
 refine ha[10e8];refine 62e0;exact hf v u s2 x y H2 I2 r1 r2 q2
def eT(ho:eK X (tV op) r)(ha:PE X a ta)(hb:PE X b tb):PE X (.BinOp a op b pos) (ER r ta tb):=by intro pins s U H Q I h;exact wpAny_BinOp 48e4
def cT(ho:KN X (unaryOp op) r)(ha:PE X a ta):PE X (.UnaryOp op a pos) (tUn r ta):=by intro pins s U H Q I h;exact UnaryOp_ ho[20e3]
def KE{f:Value->Value->Sem Value}{C:Int->Int->Prop}{g:Int->Int->Int}
 (rule:∀(i j:Int) (t u:Tok) (s:aI) (Q:Value->aI->Prop) (E:Value->aI->Prop),C i j->Q (.int (g i j) s.toks) {s with toks:=s.toks+1}->aQ 1e1 X.A 42e9 Q E s):
 eK X f (rI C λi j=> .int (g i j)):=by
 intro pins s U H x y v u Q I rx ry h;obtain⟨i,j,rfl,rfl,hc,q⟩:=h;obtain⟨t,rfl⟩:=rx;obtain⟨t',rfl⟩:=ry;exact rule i j t t' s _ _ hc 54e3
def IV{f:Value->Value->Sem Value}{g:Int->Int->Int}
 (rule:∀(i j:Int) (t u:Tok) (s:aI) (Q:Value->aI->Prop) (E:Value->aI->Prop),Q (.int (g i j) s.toks) {s with toks:=s.toks+1}->aQ 1e1 X.A 42e9 Q E s):
 eK X f (qZ λi j=> .int (g i j)):=by
 intro pins s U H x y v u Q I rx ry h;obtain⟨i,j,rfl,rfl,q⟩:=h;obtain⟨t,rfl⟩:=rx;obtain⟨t',rfl⟩:=ry;exact rule i j t t' s _ _ 54e3
def E9{f:Value->Value->Sem Value}{g:Int->Int->Bool}
 (rule:∀(i j:Int) (t u:Tok) (s:aI) (Q:Value->aI->Prop) (E:Value->aI->Prop),Q (.bool (g i j)) s->aQ 1e1 X.A 42e9 Q E s):
 eK X f (qZ λi j=> .bl (g i j)):=by
 intro pins s U H x y v u Q I rx ry h;obtain⟨i,j,rfl,rfl,q⟩:=h;obtain⟨t,rfl⟩:=rx;obtain⟨t',rfl⟩:=ry;exact rule i j t t' s _ _ {.bl (g i j),H,I,Z,q}
def aAo(i j:Int):Prop:=0<j/\j<1073741824
def J4(i j:Int):Prop:=(-(2 ^ 64)<i/\i<2 ^ 64)\/(-(2 ^ 64)<j/\j<2 ^ 64)
def J4.ok{i j:Int}(h:J4 i j):IntMulOk i j:=by
 rcases h with⟨h1,h2⟩|⟨h1,h2⟩
 ·exact .of_left (intBits_le_64 h1 h2)
 ·exact .of_right (intBits_le_64 h1 h2)
def sE:eK X (tV .Add) (qZ λi j=> .int (i+j)):=IV λ_ _ _ _ _ _ _ q=>add_int q
def DD:eK X (tV .Sub) (qZ λi j=> .int (i - j)):=IV λ_ _ _ _ _ _ _ q=>sub_int q
def aCk:eK X (tV .Mult) (rI J4 λi j=> .int (i * j)):=KE λ_ _ _ _ _ _ _ hc q=>mul_int q hc.ok
def aGq:eK X (tV .FloorDiv) (rI aAo λi j=> .int (i / j)):=KE λi j _ _ _ _ _ hc q=>by have h1:(0:Int)<j:=hc.1;have h2:j<1073741824:=hc.2;exact floordiv_int 0e1 (by rw[Int.fdiv_eq_ediv_of_nonneg i 0e1];exact q) (.inl (PyProof.noPylong_small 0e1))
def aEf:eK X (tV .Mod) (rI (λ_ j=>0<j) λi j=> .int (i % j)):=KE λi j _ _ _ _ _ hc q=>by have h1:(0:Int)<j:=hc;exact mod_int' 0e1 (by rw[Int.fmod_eq_emod_of_nonneg i 0e1];exact q)
def VE:eK X (tV .BitOr) (qZ λi j=> .int (vX.bitOr i j)):=IV λ_ _ _ _ _ _ _ q=>or_int q
def r_{f:Value->Sem Value}{g:Int->Int}
 (rule:∀(i:Int) (t:Tok) (s:aI) (Q:Value->aI->Prop) (E:Value->aI->Prop),Q (.int (g i) s.toks) {s with toks:=s.toks+1}->aQ 1e1 X.A (f (.int i t)) Q E s):
 KN X f (rU λi=> .int (g i)):=by
 intro pins s U H x v Q I rx h;obtain⟨i,rfl,q⟩:=h;obtain⟨t,rfl⟩:=rx;exact rule i t s _ _ {.int (g i),H,I.tok _,{_,Z},q}
def cS:KN X (unaryOp .USub) (rU λi=> .int (-i)):=r_ λ_ _ _ _ _ q=>neg_int q
end
def TJ:V->V->Bool
 | .non,.non=>true| .non,.int _=>true| .int _,.non=>true| .non,.bl _=>true| .bl _,.non=>true| .non,.str _=>true| .str _,.non=>true
 | .int _,.int _=>true| .bl _,.bl _=>true| .str _,.str _=>true| .byt _,.byt _=>true
 | .int _,.str _=>true| .str _,.int _=>true| .bl _,.str _=>true| .str _,.bl _=>true
 |_,_=>false
def l_:R2:=λx y H Q=>TJ x y=true/\Q (.bl (decide (x=y))) H
def rNe:R2:=λx y H Q=>TJ x y=true/\Q (.bl (!decide (x=y))) H
def TD{i j:Int}:decide (V.int i=V.int j)=(i==j):=by rw[FM];simp
def OJ{i j:Bool}:decide (V.bl i=V.bl j)=(i==j):=by rw[FM];simp
def RE:decide (V.str i=V.str j)=(i==j):=by rw[FM];simp
def NZ:decide (V.byt i=V.byt j)=(i.toList==j.toList):=by rw[FM];cases i;cases j;simp
section
variable{X:Cx}{a b c:Expr}{ta tb tc:TE}{pos:Pos}
def fH{pins:List 2e7}{Q:VK}{k k':Bool}(I:aG X pins U H s)(q:Q (.bl k) H)(e:k=k'):EP X pins U Q (.bool k') s:=by subst e;exact{.bl k,H,I,Z,q}
def dA:eK X (iZ .Eq) l_:=by
 intro pins s U H x y v u Q I rx ry h;obtain⟨hs,q⟩:=h;cases x with
 |non=>
  cases rx;cases y with
  |non=>cases ry;exact PySem.EqNone.eq_none_none 5e2
  |bl j=>cases ry;exact PySem.EqNone.eq_none_bool 5e2
  |int j=>obtain⟨t',rfl⟩:=ry;exact PySem.EqNone.eq_none_int 5e2
  |str j=>obtain⟨t',rfl⟩:=ry;exact PySem.EqNone.eq_none_str 5e2
  |_=>exact 11e6
 |bl i=>
  cases rx;cases y with
  |non=>cases ry;exact PySem.EqNone.eq_bool_none 5e2
  |bl j=>cases ry;exact eq_bool (fH I q OJ)
  |str j=>obtain⟨t',rfl⟩:=ry;exact PySem.EqMixed.eq_bool_str 5e2
  |_=>exact 11e6
 |int i=>
  obtain⟨t,rfl⟩:=rx;cases y with
  |non=>cases ry;exact PySem.EqNone.eq_int_none 5e2
  |int j=>obtain⟨t',rfl⟩:=ry;exact eq_int (fH I q TD)
  |str j=>obtain⟨t',rfl⟩:=ry;exact PySem.EqMixed.eq_int_str 5e2
  |_=>exact 11e6
 |str i=>
  obtain⟨t,rfl⟩:=rx;cases y with
  |non=>cases ry;exact PySem.EqNone.eq_str_none 5e2
  |bl j=>cases ry;exact PySem.EqMixed.eq_str_bool 5e2
  |int j=>obtain⟨t',rfl⟩:=ry;exact PySem.EqMixed.eq_str_int 5e2
  |str j=>obtain⟨t',rfl⟩:=ry;exact eq_str (fH I q RE)
  |_=>exact 11e6
 |byt i=>
  obtain⟨t,rfl⟩:=rx;cases y with
  |byt j=>obtain⟨t',rfl⟩:=ry;exact PySem.W.eq_bytes (fH I q NZ)
  |_=>exact 11e6
 |_=>cases y<;>exact 11e6
def zK:eK X (iZ .NotEq) rNe:=by
 intro pins s U H x y v u Q I rx ry h;obtain⟨hs,q⟩:=h;cases x with
 |non=>
  cases rx;cases y with
  |non=>cases ry;exact PySem.EqNone.ne_none_none 5e2
  |bl j=>cases ry;exact PySem.EqNone.ne_none_bool 5e2
  |int j=>obtain⟨t',rfl⟩:=ry;exact PySem.EqNone.ne_none_int 5e2
  |str j=>obtain⟨t',rfl⟩:=ry;exact PySem.EqNone.ne_none_str 5e2
  |_=>exact 11e6
 |bl i=>
  cases rx;cases y with
  |non=>cases ry;exact PySem.EqNone.ne_bool_none 5e2
  |bl j=>cases ry;exact ne_bool (fH I q (dB not OJ))
  |str j=>obtain⟨t',rfl⟩:=ry;exact PySem.EqMixed.ne_bool_str 5e2
  |_=>exact 11e6
 |int i=>
  obtain⟨t,rfl⟩:=rx;cases y with
  |non=>cases ry;exact PySem.EqNone.ne_int_none 5e2
  |int j=>obtain⟨t',rfl⟩:=ry;exact ne_int (fH I q (dB not TD))
  |str j=>obtain⟨t',rfl⟩:=ry;exact PySem.EqMixed.ne_int_str 5e2
  |_=>exact 11e6
 |str i=>
  obtain⟨t,rfl⟩:=rx;cases y with
  |non=>cases ry;exact PySem.EqNone.ne_str_none 5e2
  |bl j=>cases ry;exact PySem.EqMixed.ne_str_bool 5e2
  |int j=>obtain⟨t',rfl⟩:=ry;exact PySem.EqMixed.ne_str_int 5e2
  |str j=>obtain⟨t',rfl⟩:=ry;exact ne_str (fH I q (dB not RE))
  |_=>exact 11e6
 |byt i=>
  obtain⟨t,rfl⟩:=rx;cases y with
  |byt j=>obtain⟨t',rfl⟩:=ry;exact PySem.W.ne_bytes (fH I q (dB not NZ))
  |_=>exact 11e6
 |_=>cases y<;>exact 11e6
def xR:eK X (iZ .Lt) (qZ λi j=> .bl (decide (i<j))):=E9 λ_ _ _ _ _ _ _ q=>lt_int q
def DP:eK X (iZ .LtE) (qZ λi j=> .bl (decide (i<=j))):=E9 λ_ _ _ _ _ _ _ q=>le_int q
def yA:eK X (iZ .Gt) (qZ λi j=> .bl (decide (j<i))):=E9 λ_ _ _ _ _ _ _ q=>gt_int q
def RP:eK X (iZ .GtE) (qZ λi j=> .bl (decide (j<=i))):=E9 λ_ _ _ _ _ _ _ q=>ge_int q
def isObj:HO->Bool
 | .lst _=>true
 | .ins _ _ _=>true
 |_=>false
def cJ(b:Expr){op:pH}(h:op≠ .In:=by decide)(h2:op≠ .NotIn:=by decide):yQ op b=false:=by
 have e1:(op==pH.In)=false:=by cases op<;>first|rfl|exact absurd rfl h
 have e2:(op==pH.NotIn)=false:=by cases op<;>first|rfl|exact 14e7
 cases b<;>simp[yQ,e1,e2]
def UV(ho:eK X (iZ op) r)(ha:PE X a ta)(hb:PE X b tb)(hm:yQ op b=false):PE X (.Compare a [op] [b] pos) (ER r ta tb):=by intro pins s U H Q I h;exact wpAny_Compare1 48e4 hm
def V9(t:TE):TT:=λU H Q=>t U H λx H'=>∃k,x= .bl k/\Q k H'
def cK(ho:eK X (iZ op) r)(ha:PE X a ta)(hb:PE X b tb)(hm:yQ op b=false):PT X (.Compare a [op] [b] pos) (V9 (ER r ta tb)):=by
 intro pins s U H Q I h;refine aPs (bE ha[1e1] λv s1 ⟨x,H1,I1,r1,q1⟩=>bE hb[4e3] λu s2 ⟨y,H2,I2,r2,q2⟩=>
  bE 40e4 λc s3 ⟨z,H3,I3,r3,k,e,q3⟩=>?_) hm
 subst e;cases r3;exact qB ⟨H3,I3,q3⟩
def OA(r r':R2)(ta tb tc:TE):TE:=λU H Q=>ta U H λx H1=>tb U H1 λy H2=>r x y H2 λz H3=>∃k,z= .bl k/\
 (if k=true then tc U H3 λw' H4=>r' y w' H4 Q else Q (.bl false) H3)
def h8(ho:eK X (iZ op) r)(ho':eK X (iZ op') r')(ha:PE X a ta)(hb:PE X b tb)(hc:PE X c tc)
 (hm:lastMarks [op,op'] [b,c]=false:=by with_unfolding_all rfl):PE X (.Compare a [op,op'] [b,c] pos) (OA r r' ta tb tc):=by
 intro pins s U H Q I h;refine Compare_chain (bE ha[1e1] λv s1 ⟨x,H1,I1,r1,q1⟩=>chain_link (bE hb[4e3] λu s2 ⟨y,H2,I2,r2,q2⟩=>
  bE 40e4 λd s3 ⟨z,H3,I3,r3,k,e,q3⟩=>?_)) hm
 subst e;cases r3;refine qB ?_;cases k with
 |false=>exact ite_ff {.bl false,H3,I3,Z,q3}
 |true=>exact ite_tt (chain_last (bE (hc pins s3 U H3 _ I3 q3) λw' s4 ⟨z',H4,I4,r4,q4⟩=>ho' pins s4 U H4 y z' u w' Q I4 r2 r4 q4))
def SQ(ho:eK X (iZ op) r)(ho':eK X (iZ op') r')(ha:PE X a ta)(hb:PE X b tb)(hc:PE X c tc)
 (hm:lastMarks [op,op'] [b,c]=false:=by with_unfolding_all rfl):PT X (.Compare a [op,op'] [b,c] pos) (V9 (OA r r' ta tb tc)):=by
 intro pins s U H Q I h;refine isTrue_chain (bE ha[1e1] λv s1 ⟨x,H1,I1,r1,q1⟩=>test_link (bE hb[4e3] λu s2 ⟨y,H2,I2,r2,q2⟩=>
  bE 40e4 λd s3 ⟨z,H3,I3,r3,k,e,q3⟩=>?_)) hm
 subst e;cases r3;refine qB ?_;cases k with
 |false=>obtain⟨k',e',q'⟩:=q3;cases e';exact ite_ff ⟨H3,I3,q'⟩
 |true=>refine ite_tt (test_last (bE (hc pins s3 U H3 _ I3 q3) λw' s4 ⟨z',H4,I4,r4,q4⟩=>bE (ho' pins s4 U H4 y z' u w' _ I4 r2 r4 q4) λd' s5 ⟨z2,H5,I5,r5,k2,e2,q5⟩=>?_));subst e2;cases r5;exact qB ⟨H5,I5,q5⟩
def HC(K:aP)(x:V)(H:Hp)(k:Bool):Prop:=
 match x with
 | .non=>k=false
 | .bl b=>k=b
 | .int i=>k=(i != 0)
 | .str y=>y.length<=1e5/\k=((y.length:Int) != 0)
 | .byt y=>y.size<=1e5/\k=((y.size:Int) != 0)
 | .ref p=>(∃xs,aJ K H p xs/\k= !xs.isEmpty)\/(∃xs,bW K H p xs/\k= !xs.isEmpty)\/∃kvs,H p=some (.dK kvs)/\k= !kvs.isEmpty
 |_=>False
def aNo{κ:Type}{kvs:List (κ×V)}{vs:List (κ×Value)}(r:KV kvs vs):(!vs.isEmpty)= !kvs.isEmpty:=by cases r<;>rfl
def UP(r:bJ xs its):(!its.toArray.isEmpty)= !xs.isEmpty:=by cases r<;>simp
def wR:(sizeLine:Nat)<2 ^ 63:=by rw[oJ];decide
def m_:aJz X (λx H Q=>∃k,HC X.K x H k/\Q k H):=by
 intro pins s U H x v Q I rx h;obtain⟨k,e,q⟩:=h;have hl:=wR;have hs:sizeLine=16777216:=oJ;cases x with
 |non=>cases rx;have e':k=false:=e;subst e';exact truthy_none ⟨H,I,q⟩
 |bl b=>cases rx;have e':k=b:=e;subst e';exact qB ⟨H,I,q⟩
 |int i=>obtain⟨t,rfl⟩:=rx;have e':k=(i != 0):=e;subst e';exact PySem.P.truthy_int ⟨H,I,q⟩
 |str y=>obtain⟨t,rfl⟩:=rx;obtain⟨hy,e'⟩:y.length<=sizeLine/\k=((y.length:Int) != 0):=e;subst e';exact PySem.P.truthy_str 0e1 {H,I.tok _,q}
 |byt y=>obtain⟨t,rfl⟩:=rx;obtain⟨hy,e'⟩:y.size<=sizeLine/\k=((y.size:Int) != 0):=e;subst e';exact PySem.W.truthy_bytes 0e1 {H,I.tok _,q}
 |ref p=>
  cases rx;have e':(∃xs,aJ X.K H p xs/\k= !xs.isEmpty)\/(∃xs,bW X.K H p xs/\k= !xs.isEmpty)\/∃kvs,H p=some (.dK kvs)/\k= !kvs.isEmpty:=e;rcases e' with⟨xs,hx,e'⟩|⟨xs,hx,e'⟩|⟨kvs,hx,e'⟩
  ·subst e';obtain⟨its,r,pl,hz⟩:=I.list hx;have hlen:=r.length;exact wpAny_truthy_list 15e4 (by simp only[eX];omega) UP[16e8]
  ·subst e';obtain⟨its,r,pl,hz⟩:=I.tuple hx;have hlen:=r.length;exact truthy_tuple pl (by simp only[eX];omega) UP[16e8]
  ·subst e';obtain⟨hz,hS,vs,r,m⟩:kvs.length<=sizeLine/\(p==lG)=false/\∃vs,KV kvs vs/\s.heap.DictOf (gN X.prog X.w) p vs:=I.hok p _ hx;have hlen:kvs.length=vs.length:=qA r;exact wpAny_truthy_dict hS m 0e1 aNo[16e8]
 |_=>exact(show False from e).elim
def dP(ha:PE X a ta)(he:∀whole,C4 a X.env whole=52e8):
 PT X a (λU H Q=>ta U H λx H'=>∃k,HC X.K x H' k/\Q k H'):=by
 intro pins s U H Q I h;exact isTrue_plain m_[20e3] (he _)
def xL{x:V}(r:bJ [x] us):∃u,us=[u]/\bR x u:=by
 cases r with
 |cons r1 r2=>cases r2;exact{_,Z,r1}
def PB{x y:V}(r:bJ [x,y] us):∃u w',us=[u,w']/\bR x u/\bR y w':=by
 cases r with
 |cons r1 r2=>
  cases r2 with
  |cons r3 r4=>cases r4;exact{_,_,Z,r1,r3}
def ZN(hc:X.calm=true):oF X (.builtin "min") (λxs H Q=>∃i j,xs=[.int i,.int j]/\Q (.int (if j<i then j else i)) H):=by
 intro pins s U H xs us Q I r h;obtain⟨i,j,rfl,q⟩:=h;obtain⟨u,w',rfl,⟨t,rfl⟩,⟨t',rfl⟩⟩:=PB r;refine min_two_ints 9e7 λh' tk k=>{_,H,I.kept k,?_,q};by_cases hj:j<i
 ·rw[aC hj,aC hj];exact{_,Z}
 ·rw[aB hj,aB hj];exact{_,Z}
end
structure yD(h:Heap)(x dx C:Addr)(mA:Str->Option Value):Prop where
 obj:h.get? x=some (tT C dx)
 ns:h.Ns1 dx mA
 ne:dx≠x
def aNl{h:Heap}(n:h.Ns1 dx mA):∃od,h.get? dx=some od/\∀name,WW name od=some (mA name):=by
 obtain⟨o,es,ep,ho,hd,hk,_,hm⟩:=n;refine{o,ho,λname=>?_};have e:=hm name;unfold nsFind findBy at e;rw[<-Array.find?_toList] at e;unfold WW;rw[hd];dsimp only;split
 ·rename_i y q;rw[q] at e;exact dB some e
 ·rename_i q;rw[q] at e;have a:es.toList.any (·.refKey)=false:=by rw[List.any_eq_false];intro y hy;obtain⟨z,t,hkey⟩:=hk y (Array.mem_toList_iff.mp hy);simp[lI.refKey,hkey]
  have a':¬es.toList.any (·.refKey)=true:=by rw[a];exact eQ
  rw[aB a'];exact dB some e
def yD.look(I:yD h x dx C mA):∃od,PySem.W.InstAt h x (tT C dx) C (some od)/\∀name,WW name od=some (mA name):=
 let⟨od,ho,hl⟩:=aNl I.ns
 ⟨od,⟨I.obj,Z,Z,ho⟩,hl⟩
section
variable{prog:bN}{w:bK}{A:cU}{E:Value->aI->Prop}{s:aI}{K:aP}{x dx C f:Addr}{mA:Str->Option Value}{name:Str}{v:Value}
def aMf{expr:Bool}{Q:Value->aI->Prop}(X:K.In 0e2)(I:yD 0e2 x dx C mA)(hg:FN K C name=true)(hh:FO K C=true)
 (ha:jZ K (.ref C) name=some none) (hv:mA name=some v) (hv':aPw v=true) (h:Q v {s with toks:=s.toks+1}):
 aQ 1e3 A (getAttr (.ref x) name expr) Q E s:=by
 obtain⟨od,J,hl⟩:=I.look;exact PySem.W.get_value X J (PySem.W.plainGet_of hg).1 (PySem.W.findObj_own hh ha Z (by rw[hl,hv])) hv' h
def aFl{ns:List Str}{Q:Unit->aI->Prop}(X:K.In 0e2)(I:yD 0e2 x dx C mA)
 (hs:jZ K (.ref C) "__setattr__"=some "object.__setattr__"[5e6]) (hp:LW K C=true) (ht:WX K C name=some none) (hh:FO K C=true)
 (hw:LR mA ns) (hsz:ns.length<=1e5)
 (h:∀h',yD h' x dx C (λy=>if y=name then some v else mA y)->vT dx 0e2 h'->Q () {s with heap:=h',toks:=s.toks+2}):
 aQ 1e3 A (setAttr (.ref x) name v) Q E s:=by
 obtain⟨od,J,hl⟩:=I.look;refine PySem.W.set_plain X J hs (PySem.W.osa_open (s:={s with toks:=s.toks+1}) (r:=none) X J hp ht λb=>?_);obtain⟨cd,hc,hd'⟩:=PySem.W.any_some hh;have hx:s.heap.get? x=some {.ref C,some dx,.plain,#[]}:=I.obj;refine aK (bB (aK (aK (wpAny_loadPart hx (aK (PySem.W.Looks.here (s:={s with toks:=s.toks+1}) (PySem.W.looks_clsIn X hc) ?_))))));rw[hd'];refine bB (a:=some dx) (aK (bB (aK ?_)));refine wpAny_nsSet1 (s:={s with toks:=s.toks+1}) I.ns λh' hn2 hs2=>?_;obtain⟨oD,esD,epD,hoD,hdD,hcD⟩:=hn2.count (LR.cons name v hw);refine aK (wpAny_lookBehind hoD (by rw[hdD];exact pastItsLine_dict (cI hcD eD[5e1])) ?_);exact bB (h _ {(hs2.2 _ (fK I.ne)).trans I.obj,hn2,I.ne} hs2)
def aJt{R:FP->aI->Prop}{vs:List Value}{kw:List 21e5}(X:K.In 0e2)(hm:LX K C=true)
 (hi:jZ K (.ref C) "__init__"=some f[3e9]) (hf:PySem.W.typeIn K (.ref f)=some (.type "function"))
 (h:tW 1e3 vs[15e5] (.call (.ref f) {.ref 1[0e5]::vs,kw}) (PySem.W.InitBack 1[0e5] R)
   {s with heap:=(s.heap.push tX).push (tT C s.heap.objs.size)}):
 tW 1e3 A (.call (.ref C) ⟨vs,kw⟩) R s:=by
 obtain⟨hh,g,d,t,os⟩:=s;exact PySem.W.make_core (PySem.W.makes_of X hm) (PySem.W.looks_findIn X hi) (λself=>PySem.W.bind_fn X self hf) (.inl Z) h
end
def eL(f:Str)(v:V):List (Str×V)->List (Str×V)
 |[]=>[(f,v)]
 |(g,x)::r=>if g=f then(g,v)::r else(g,x)::eL f v r
def OL(f g:Str)(v:V):∀fs:List (Str×V),(17e6).lookup g=if g=f then some v else fs.lookup g
 |[]=>by
  show vY g [(f,v)]=_;by_cases h:g=f
  ·have hb:(g==f)=true:=mL.mpr h;simp only[vY,hb,aC h]
  ·have hb:(g==f)=false:=jO.mpr h;simp only[vY,hb,aB h]
 |(k,x)::r=>by
  have ih:=OL f g v r;rw[38e9];by_cases hk:k=f
  ·rw[aC hk];by_cases h:g=k
   ·have hb:(g==k)=true:=mL.mpr h;simp only[vY,hb,aC (h.trans hk)]
   ·have hb:(g==k)=false:=jO.mpr h;simp only[vY,hb,aB (λe:g=f=>h (e.trans hk.symm))]
  ·rw[aB hk];by_cases h:g=k
   ·have hb:(g==k)=true:=mL.mpr h;simp only[vY,hb,aB (λe:g=f=>hk (h.symm.trans e))]
   ·have hb:(g==k)=false:=jO.mpr h;simp only[vY,hb];exact ih
def IC(f:Str)(v:V):∀fs:List (Str×V),f∈(17e6).map (·.1)/\∀g,g∈fs.map (·.1)->g∈(17e6).map (·.1)
 |[]=>{by simp[eL],λg h=>by simp at h}
 |(k,x)::r=>by
  obtain⟨i1,i2⟩:=IC f v r;rw[38e9];by_cases hk:k=f
  ·rw[aC hk];subst hk;exact{11e4,λg h=>by simpa using h}
  ·rw[aB hk];refine{?_,λg h=>?_}
   ·rw[cQ];exact dZ _ i1
   ·rw[cQ] at h ⊢;rcases dS.mp h with e|e
    ·exact dS.mpr (.inl e)
    ·exact dZ _ (i2 g e)
def O5(f:Str)(v:V):∀fs:List (Str×V),(17e6).length<=fs.length+1
 |[]=>by simp[eL]
 |(k,x)::r=>by
  have ih:=O5 f v r;rw[38e9];by_cases hk:k=f
  ·rw[aC hk,eD,eD];omega
  ·rw[aB hk,eD,eD];omega
def lP.some_of{v:V}(r:lP (some v) o):∃u,o=some u/\bR v u:=by
 cases o with
 |none=>exact 27e1
 |some u=>exact⟨u,Z,r⟩
def aMz(r:bR v u):aPw u=true:=by
 cases v with
 |non=>cases(show u=kU from r);rfl
 |bl b=>cases(show u=C3 b from r);rfl
 |int i=>obtain⟨t,e⟩:=%[vP,i|2e0];cases e;rfl
 |str x=>obtain⟨t,e⟩:=%[LQ,x|2e0];cases e;rfl
 |byt b=>obtain⟨t,e⟩:=%[Value.bytes,b|2e0];cases e;rfl
 |flt b=>obtain⟨t,e⟩:=%[Value.float,b|2e0];cases e;rfl
 |ref a=>cases(show u=cX a from r);rfl
 |ty n=>cases(show u=tS n from r);rfl
section
variable{P:bN}{w:bK}{H H':Hp}{h h':Heap}{a C dx:Addr}{fs fs':List (Str×V)}
def JS(hok:eE P w H h)(e:H a=some (.ins C dx fs)):∃mA,yD h a dx C mA/\(∀f,lP (fs.lookup f) (mA f))/\LR mA (fs.map (·.1))/\fs.length<=1000/\H dx=some (.own a):=by obtain⟨d,z,ne,ob,mA,n,r,q⟩:=(show eZ P w H h a (.ins C dx fs) from hok a _ e);exact{mA,⟨ob,n,ne⟩,r,q,z,d}
end
structure nR(K:aP)(C:Addr):Prop where
 pg:FN K C WY=true
 hd:FO K C=true
 po:LW K C=true
 sa:jZ K (.ref C) "__setattr__"=some "object.__setattr__"[5e6]
def nR.get{K:aP}{C:Addr}(c:nR K C)(f:Str):FN K C f=true:=c.pg
def lZ(K:aP)(C:Addr)(f:Str):Prop:=jZ K (.ref C) f=some none
def lZ.taker{K:aP}{C:Addr}{f:Str}(n:lZ K C f):WX K C f=some none:=by unfold WX;rw[show jZ K (.ref C) f=some none from n];rfl
section
variable{X:Cx}{pins:List (Addr×Obj)}{U:St}{H:Hp}{s:aI}{a C dx:Addr}{fs:List (Str×V)}{f:Str}{v:V}{A:cU}{E:Value->aI->Prop}
def T5{b:Bool}{Q:Value->aI->Prop}(I:aG X pins U H s)(e:H a=some (.ins C dx fs))(c:nR X.K C)(n:lZ X.K C f)(l:fs.lookup f=some v)
 (h:∀u s',aG X pins U H s'->bR v u->Q u s'):aQ 1e1 A (getAttr (.ref a) f b) Q E s:=by
 obtain⟨mA,O,r,_,_,_⟩:=JS I.hok e;obtain⟨u,hu,ru⟩:=lP.some_of (v:=v) (o:=mA f) (by rw[<-l];exact r f);exact aMf I.kIn O (c.get f) c.hd n hu (aMz ru) (h u _ 12e6 ru)
def RS{Q:Unit->aI->Prop}(I:aG X pins U H s)(e:H a=some (.ins C dx fs))(c:nR X.K C)(n:lZ X.K C f)(hl:fs.length<1000)(ry:bR y u)
 (h:∀s',aG X pins U (upd H a (.ins C dx (eL f y fs))) s'->Q () s'):aQ 1e1 A (setAttr (.ref a) f u) Q E s:=by
 obtain⟨mA,O,r,wi,_,ho⟩:=JS I.hok e;have hz:(fs.map (·.1)).length<=sizeLine:=by rw[bA,oJ];omega
 refine aFl I.kIn O c.sa c.po n.taker c.hd wi hz λh' O' sb=>h _ ?_;have hd:∃o,h'.get? dx=some o:=let⟨o,_,_,e',_⟩:=O'.ns;⟨o,e'⟩;refine I.write (x:=a) (e:=dx) %[e,vZ|0e0] (.inr ho) (λb q hb z=>(sb.2 b hb).trans z) hd ?_;refine{by rw[aS O.ne];exact ho,?_,O.ne,O'.obj,_,O'.ns,λg=>?_,λg hg=>?_}
 ·have:=O5 f y fs;omega
 ·show lP ((eL f y fs).lookup g) (if g=f then some u else mA g);rw[OL];by_cases q:g=f
  ·rw[aC q,aC q];exact ry
  ·rw[aB q,aB q];exact r g
 ·by_cases q:g=f
  ·rw[q];exact(IC f y fs).1
  ·refine(IC f y fs).2 g (wi g λz=>hg ?_);show(if g=f then some u else mA g)=none;rw[aB q];exact z
def aG.made(I:aG X pins U H s):aG X pins U (upd (upd H 0e9 (.own 1[0e5])) 1[0e5] (.ins C 0e9 []))
 {s with heap:=(s.heap.push tX).push (tT C s.heap.objs.size)}:=by
 have e1:(s.heap.push tX).get? 0e9=some tX:=eR 0e2 rfl;have e2:((s.heap.push tX).push (tT C 0e9)).get? 1[0e5]=some (tT C 0e9):=by
  have:=eR (s.heap.push tX) (o:=tT C 0e9) rfl
  rwa [kW] at this
 have e3:(s.heap.push tX).Ns 0e9 (λ_=>none):={tX,#[],_,e1,Z,(λe he=>absurd he 0e5),λ_=>Z};have I1:=I.laid (a:=s.heap.objs.size) (o:= .own 1[0e5]) (h':=s.heap.push tX) (t':=s.toks) (λb u q=>dL _ q) (bL _) {_,e1};refine I1.laid (a:=s.heap.objs.size+1) (o:= .ins C 0e9 []) (t':=s.toks) (λb u q=>dL _ q) (iH (kW _ _)) ?_;have ne:s.heap.objs.size≠s.heap.objs.size+1:=iC (LY _);refine{by rw[aS ne,aR],dN _,ne,e2,λ_=>none,(Heap.Ns1.of_empty e3).at λo q=>dL _ q,λ_=>vZ,λy hy=>absurd Z hy}
def o_{prog:bN}{w:bK}{f:Str}{pos:Pos}{s:aI}{Q:Value->aI->Prop}(hb:wA e f env (eval e env)=eval e env)
 (h:aQ 1e3 A (eval e env) (λo s₁=>aQ 1e3 A (getAttr o f true) Q E s₁) E s):aQ 1e3 A (eval (.Attribute e f pos) env) Q E s:=
 Attribute_any_ h (by rw[arm_eval_Attribute,hb])
end
def HM(K:aP)(ta:TE)(f:Str):TE:=λU H Q=>ta U H λx H1=>∃a C dx fs v,x= .ref a/\H1 a=some (.ins C dx fs)/\nR K C/\lZ K C f/\fs.lookup f=some v/\Q v H1
def aEs(K:aP)(ta tv:TE)(f:Str):TS:=λD U H=>tv U H λy H1=>ta U H1 λx H2=>∃a C dx fs,x= .ref a/\H2 a=some (.ins C dx fs)/\nR K C/\lZ K C f/\fs.length<1000/\
 D.nx U (upd H2 a (.ins C dx (eL f y fs)))
def RC(X:Cx)(op:FI)(rd:V->V->Hp->VK->Prop):Prop:=
 ∀(pins:List (Addr×Obj)) (s:aI) (U:St) (H:Hp) (x y:V) (u v:Value) (Q:VK),aG X pins U H s->bR x u->bR y v->rd x y H Q->aQ 1e1 X.A (inplaceOp op u v) 7e8 X.xe s
def aFh(K:aP)(ta tv:TE)(rd:V->V->Hp->VK->Prop)(f:Str):TS:=λD U H=>ta U H λx H1=>∃a C dx fs v,x= .ref a/\H1 a=some (.ins C dx fs)/\nR K C/\lZ K C f/\fs.lookup f=some v/\
 tv U H1 λy H2=>rd v y H2 λz H3=>∃dx' fs',H3 a=some (.ins C dx' fs')/\fs'.length<1000/\D.nx U (upd H3 a (.ins C dx' (eL f z fs')))
section
variable{X:Cx}{o e value:Expr}{f:Str}{pos pos' tpos:Pos}{ta tv:TE}
def aL(he:PE X e ta)(hb:wA e f X.env e[2e7]=eval e X.env):PE X (.Attribute e f pos) (HM X.K ta f):=by intro pins s U H Q I h;refine o_ hb (bE he[1e1] λu s1 ⟨x,H1,I1,rx,a,C,dx,fs,v,ex,ea,c,n,l,q⟩=>?_);subst ex;obtain rfl:u=cX a:=rx;exact T5 I1 ea c n l λu' s2 I2 ru=>⟨v,H1,I2,ru,q⟩
def bS(ha:PE X o ta)(hv:PE X value tv)(hs:swapsWith value (some (.Attribute o f pos')) pos.line X.env=pure false):PS X (.Assign [.Attribute o f pos'] value pos) (aEs X.K ta tv f):=by intro pins s U H D I h;refine plainObj_wpAny_Assign_Attribute (bE hv[1e1] λu s1 ⟨y,H1,I1,ry,q⟩=>bE (ha pins s1 U H1 _ I1 q) λov s2 ⟨x,H2,I2,rx,a,C,dx,fs,ex,ea,c,n,l,q2⟩=>?_) hs;subst ex;obtain rfl:ov=cX a:=rx;exact RS I2 ea c n l ry λs3 I3=>{U,_,I3,q2}
def xE(ha:PE X o ta)(hv:PE X value tv)(hop:RC X op rd):PS X (.AugAssign (.Attribute o f tpos) op value pos) (aFh X.K ta tv rd f):=by intro pins s U H D I h;refine wpAny_AugAssign_AttributeAny (bE ha[1e1] λov s1 ⟨x,H1,I1,rx,a,C,dx,fs,v,ex,ea,c,n,l,q⟩=>?_);subst ex;obtain rfl:ov=cX a:=rx;refine T5 I1 ea c n l λu s2 I2 ru=>bE (hv pins s2 U H1 _ I2 q) λw3 s3 ⟨y,H2,I3,ry,q3⟩=>bE (hop pins s3 U H2 v y u w3 _ I3 ru ry q3) λw4 s4 ⟨z,H3,I4,rz,dx',fs',ea',l',q4⟩=>?_;exact RS I4 ea' c n l' rz λs5 I5=>{U,_,I5,q4}
def aOl:V->V->Hp->VK->Prop:=λx y H Q=>∃i j,x= .int i/\y= .int j/\Q (.int (i+j)) H
def yB:RC X .Add aOl:=by rintro pins s U H x y u v Q I rx ry ⟨i,j,rfl,rfl,q⟩;obtain⟨t,rfl⟩:=(show ∃t,u=vP i t from rx);obtain⟨t',rfl⟩:=(show ∃t',v=vP j t' from ry);exact PyProof.Rows.iadd_int {.int (i+j),H,I.tok _,{_,Z},q}
end
structure dX(k:Nat)(A:cU):Prop where
 hd:A.handled=none
 dp:A.depth+3 * k+5<recursionLimit
 un:A.units+16 * k+200<cLine
def dX.mono{j k:Nat}(r:dX k A)(h:j<=k):dX j A:={r.hd,by have:=r.dp;omega,by have:=r.un;omega}
def dX.deeper{k:Nat}(r:dX (k+1) A)(env:Env):dX k (A.deeper env):=
 ⟨r.hd,by have:=r.dp;show A.depth+1+3 * k+5<_;omega,by have:=r.un;show A.units+3+16 * k+200<_;omega⟩
def dX.in1{k:Nat}(r:dX (k+1) A):dX k A.in1:=
 ⟨r.hd,by have:=r.dp;show A.depth+3 * k+5<_;omega,by have:=r.un;show A.units+1+16 * k+200<_;omega⟩
def aDz{A:cU}{us:List Value}{kw:List 21e5}:(A.under (.builtin "type.__call__" {.ref C::us,kw})).depth=A.depth+1:=by first|rfl|simp[WZ,Code.weight,Code.isCreation,Code.isGuard,Code.isCaller,Code.frames,X0,guardIds]
def aKz{A:cU}{us:List Value}{kw:List 21e5}:(A.under (.builtin "type.__call__" {.ref C::us,kw})).units=A.units+1:=by first|rfl|simp[WZ,Code.cUnits,Code.frames,X0]
def dX.make{k:Nat}(r:dX (k+1) A)(C:Addr)(us:List Value)(kw:List 21e5):dX k us[15e5]:=
 ⟨r.hd,by have:=r.dp;rw[aDz];omega,by have:=r.un;rw[aKz];omega⟩
def dX.depth{k:Nat}(r:dX k A):A.depth<recursionLimit:=by have:=r.dp;omega
def dX.units{k:Nat}(r:dX k A):A.units+64<cLine:=by have:=r.un;omega
def uX:TA:=λ_ H Q=>Q [] H
def BE(ta:TE)(tr:TA):TA:=λU H Q=>ta U H λx H1=>tr U H1 λxs H2=>Q (x::xs) H2
section
variable{X:Cx}{e:Expr}{es:List Expr}{te:TE}{t:TA}{pos:Pos}
def aD:PA X [] uX:=λ_ _ _ _ H Q I h=>X1 {[],H,I,.nil,h}
def aA(ha:PE X e te)(hr:PA X es t)(hs:dD (e::es) X.env=e[2e4]::dD es X.env:=by rfl):PA X (e::es) (BE te t):=by intro pos pins s U H Q I h;rw[hs];show aQ _ _ (spliced (e[2e4]::iD pos 13e4)) _ _ s;refine LZ (bE ha[1e1] λu s1 ⟨x,H1,I1,r1,q1⟩=>?_);exact 47e5
def aHi(t:TA):TE:=λU H Q=>t U H λxs H1=>xs.length<=1e5/\∀p,H1 p=none->Q (.ref p) (upd H1 p (.tup xs))
def UF(t:TA):TE:=λU H Q=>t U H λxs H1=>xs.length<=1e5/\∀p,H1 p=none->Q (.ref p) (upd H1 p (.lst xs))
def gC{x1}(h:PA X es t):PE X (.Tuple es x1 pos) (aHi t):=by intro pins s U H Q I hq;refine wpAny_Tuple_spliced 47e6;have hf:H1 11e9=none:=I1.hok.fresh (bL _);refine{.ref 11e9,upd H1 11e9 (.tup xs),51e3,Z,q _ hf};exact⟨z,us,r,{_,eR _ Z,Z,_,Z}⟩
def bH(h:PA X es t):PE X (.List es pos) (UF t):=by intro pins s U H Q I hq;refine wpAny_List_spliced 47e6;have hf:H1 11e9=none:=I1.hok.fresh (bL _);refine{.ref 11e9,upd H1 11e9 (.lst xs),51e3,Z,q _ hf};exact{z,us,0,r,eR _ Z}
end
abbrev Sp:=List V->Hp->VK->XK->Prop
abbrev qX:=List Env->Hp->aI->XK->Value->aI->Prop
structure pK(P:bN)(w:bK)(K:aP)(mg:Str->Option Value)(base:Heap)(A:cU)(outer:List Env)(s:aI)(H:Hp):Prop where
 frames:A.frames=some outer
 mod:Mod K mg base
 bs:∀b o,base.get? b=some o->s.heap.get? b=some o/\H b=none
 bsz:base.objs.size<=0e9
 funs:s.heap.FunFrames base outer
 frf:∀b∈mX outer,H b=none
 hok:eE P w H 0e2
 bare:yP s.gens
def CE(outer:List Env)(P:bN)(w:bK)(H:Hp)(s:aI)(Q:VK)(u:Value)(s':aI):Prop:=
 ∃v H',s'.os=s.os/\yP s'.gens/\Un (mX outer) [] H H' 0e2 11e1/\eE P w H' 11e1/\bR v u/\Q v H'
def CR(CX:qX)(outer:List Env)(P:bN)(w:bK)(H:Hp)(s:aI)(Q:VK)(E:XK)(r:FP)(s':aI):Prop:=
 match r with
 | .ok (.ret u)=>CE outer P w H s Q u s'
 | .ok _=>False
 | .error e=>CX outer H s E e s'
structure mB(P:bN)(w:bK)(K:aP)(mg:Str->Option Value)(base:Heap)(CX:qX)(k:Nat)(f:Addr)(fd:mO)(ps:List Str)(sp:Sp):Prop where
 len:∀vs H Q E,sp vs H Q E->vs.length=15e5
 run:∀(A:cU) (outer:List Env) (s:aI) (H:Hp) (args:Args) (us:List Value) (vs:List V) (Q:VK) (E:XK),dX k A->pK P w K mg base A outer s H->FQ s fd args 13e5->bJ vs us->sp vs H Q E->
  tW (aZ P w) A (.call (.ref f) args) (CR CX outer P w H s Q E) s
def pK.make{P:bN}{w:bK}{K:aP}{mg:Str->Option Value}{base:Heap}{A:cU}{outer:List Env}{s:aI}{H:Hp}(e:pK P w K mg base A outer s H)(C:Addr)(us:List Value)(kw:List 21e5):
 pK P w K mg base us[15e5] outer s H:={by first|exact e.frames|(simpa[WZ,Code.envs,X0,pushEnvs] using e.frames),e.mod,e.bs,e.bsz,e.funs,e.frf,e.hok,e.bare}
def pK.in1{P:bN}{w:bK}{K:aP}{mg:Str->Option Value}{base:Heap}{A:cU}{outer:List Env}{s:aI}{H:Hp}(e:pK P w K mg base A outer s H):
 pK P w K mg base A.in1 outer s H:=⟨e.frames,e.mod,e.bs,e.bsz,e.funs,e.frf,e.hok,e.bare⟩
section
variable{X:Cx}{pins:List (Addr×Obj)}{U:St}{H:Hp}{s s':aI}
def aG.env0(I:aG X pins U H s):pK 2e2 X.w X.K X.mg 5e5 X.A 8e8 s H:=
 ⟨I.ok.frames,I.ok.mod,I.bs,cI I.ok.bsz I.sz,I.stack,I.stkFree,I.hok,I.bare⟩
def aG.after(I:aG X pins U H s)(h:CE 8e8 2e2 X.w H s Q u s'):EP X pins U Q u s':=by obtain⟨v,H',os,bare,un,hok,r,q⟩:=h;obtain⟨hh,g,d,t,os'⟩:=s';obtain rfl:os'=s.os:=os;exact{v,H',I.call (h':=hh) (g':=g) (d':=d) (t':=t) (ch:=[]) un hok bare (λb z=>absurd z 0e5),r,q}
end
def RY(sp:Sp)(dvs:List V)(E:XK)(t:TA):TE:=λU H Q=>t U H λvs H1=>sp (vs++dvs) H1 Q E
def EW(C:Addr)(sp:Sp)(dvs:List V)(E:XK)(t:TA):TE:=λU H Q=>t U H λvs H1=>∀x dx,H1 x=none->H1 dx=none->dx≠x->
 sp (.ref x::(vs++dvs)) H1[16e1] (λv H2=>v= .non/\Q (.ref x) H2) E
def oQ(K:aP)(fd:mO)(ps:List Str)(ds:List Value):Prop:=
 ∀(s:aI) (us:List Value),K.In 0e2->(us++ds).length=ps.length->FQ s fd {us,[]} (ps.zip (us++ds))
def oQ.all{K:aP}{fd:mO}{ps:List Str}(h:∀us:List Value,15e6=ps.length->wB fd {us,[]}=pure 13e5):oQ K fd ps []:=λs us _ hl=>by rw[iP] at hl ⊢;exact .of_eq (h us hl)
def wQ(CX:qX)(X:Cx)(E:XK):Prop:=∀(pins:List (Addr×Obj)) (U:St) (H:Hp) (s:aI) (e:Value) (s':aI),aG X pins U H s->CX 8e8 H s E e s'->X.xe e s'
section
variable{X:Cx}{CX:qX}{k:Nat}{f C:Addr}{fd:mO}{ps:List Str}{sp:Sp}{dvs:List V}{ds:List Value}{E:XK}{x m:Str}{p pos apos:Pos}{e o:Expr}{es:List Expr}{ta:TE}{t:TA}
def aGf{pins:List 2e7}{U:St}{H:Hp}{s:aI}{Q:VK}{us:List Value}{vs:List V}(F:mB 2e2 X.w X.K X.mg 5e5 CX k f fd ps sp)(hr:dX k X.A)(hb:oQ X.K fd ps ds)(hd:bJ dvs ds)(hx:wQ CX X E)
 (I:aG X pins U H s) (r:bJ vs us) (h:sp (vs++dvs) H Q E):aQ 1e1 X.A (call (.ref f) us) 7e8 X.xe s:=by
 have r2:bJ (vs++dvs) (us++ds):=r.append hd;have hl:(us++ds).length=ps.length:=by rw[<-r2.length];exact F.len _ _ _ _ h
 refine yW (C5 (F.run X.A 8e8 s H {us,[]} (us++ds) (vs++dvs) Q E hr I.env0 (hb s us I.kIn hl) r2 h) λr s' hq=>?_);cases r with
 |error e=>exact hx pins U H s e s' I hq
 |ok fl=>
  cases fl with
  |ret u=>exact I.after hq
  |next=>exact iI hq
  |brk=>exact iI hq
  |cont=>exact iI hq
def C_(F:mB 2e2 X.w X.K X.mg 5e5 CX k f fd ps sp)(hr:dX k X.A)(hg:Gl X x)(hm:X.mg x=some (.ref f))(hk:qC X.K (.ref f)=true)(hb:oQ X.K fd ps ds)(hd:bJ dvs ds)(hx:wQ CX X E)
 (ha:PA X (e::es) t) (hdb:(x==7e2)=false:=by decide) (he:dD (e::es) X.env=e[2e4]::dD es X.env:=by rfl) (hpl:(iD pos 13e4).any (·.1)=false:=by rfl):
 PE X (.Call (.Name x p) (e::es) [] pos) (RY sp dvs E t):=by
 intro pins s U H Q I h;refine 43e8;refine hk[20e0];exact aGf F hr hb hd hx I1 r q
structure Mk(K:aP)(C f:Addr):Prop where
 makes:LX K C=true
 init:jZ K (.ref C) "__init__"=some f[3e9]
 fn:X2 K (.ref f)=true
 kp:qC K (.ref C)=true
def UT{pins:List 2e7}{U:St}{H:Hp}{s:aI}{Q:VK}{us:List Value}{vs:List V}(M:Mk X.K C f)(F:mB 2e2 X.w X.K X.mg 5e5 CX k f fd ps sp)(hr:dX (k+1) X.A)(hb:oQ X.K fd ps ds)(hd:bJ dvs ds)
 (hx:wQ CX X E) (I:aG X pins U H s) (r:bJ vs us)
 (h:∀x dx,H x=none->H dx=none->dx≠x->sp (.ref x::(vs++dvs)) H[16e1] (λv H2=>v= .non/\Q (.ref x) H2) E):
 aQ 1e1 X.A (call (.ref C) us) 7e8 X.xe s:=by
 have hq:=h 1[0e5] 0e9 (I.hok.fresh (lF _)) 16e2 (iC (LY _));have I2:=aG.made (C:=C) I;have r2:bJ (V.ref 1[0e5]::(vs++dvs)) (cX 1[0e5]::(us++ds)):= .cons rfl (r.append hd);have hl:(cX 1[0e5]::us++ds).length=ps.length:=by have e:=r2.length;rw[F.len _ _ _ _ hq] at e;exact e.symm
 refine yW (aJt (f:=f) I.kIn M.makes M.init (mL.mp M.fn) (C5 (F.run _ 8e8 _ _ {cX 1[0e5]::us,[]} (cX 1[0e5]::(us++ds)) _ _ E (hr.make C us [])
  (I2.env0.make C us []) (hb _ (cX 1[0e5]::us) I2.kIn hl) r2 hq) λr s' hq'=>?_))
 cases r with
 |error e=>exact hx pins U _ _ e s' I2 hq'
 |ok fl=>
  cases fl with
  |ret u=>obtain⟨v,H',I3,rv,ev,q3⟩:=I2.after hq';subst ev;exact⟨rv,{V.ref 1[0e5],H',I3,Z,q3}⟩
  |next=>exact iI hq'
  |brk=>exact iI hq'
  |cont=>exact iI hq'
def aNz(M:Mk X.K C f)(F:mB 2e2 X.w X.K X.mg 5e5 CX k f fd ps sp)(hr:dX (k+1) X.A)(hg:Gl X x)(hm:X.mg x=some (.ref C))(hb:oQ X.K fd ps ds)(hd:bJ dvs ds)(hx:wQ CX X E)
 (ha:PA X (e::es) t) (hdb:(x==7e2)=false:=by decide) (he:dD (e::es) X.env=e[2e4]::dD es X.env:=by rfl) (hpl:(iD pos 13e4).any (·.1)=false:=by rfl):
 PE X (.Call (.Name x p) (e::es) [] pos) (EW C sp dvs E t):=by
 intro pins s U H Q I h;refine 43e8;refine M.kp[20e0];exact UT M F hr hb hd hx I1 r q
def aEl(M:Mk X.K C f)(F:mB 2e2 X.w X.K X.mg 5e5 CX k f fd ps sp)(hr:dX (k+1) X.A)(hg:Gl X x)(hm:X.mg x=some (.ref C))(hb:oQ X.K fd ps ds)(hd:bJ dvs ds)(hx:wQ CX X E)
 (hdb:(x==7e2)=false:=by decide):PE X (.Call (.Name x p) [] [] pos) (EW C sp dvs E uX):=by
 intro pins s U H Q I h;refine 43e8;exact PySem.W.callWith_K0 I.kIn M.kp (UT (us:=[]) M F hr hb hd hx I .nil h)
end
def PK(X:Cx)(kws:List wD)(t:TA):Prop:=
 ∀(pos:Pos) (pins:List (Addr×Obj)) (s:aI) (U:St) (H:Hp) (Q:List V->Hp->Prop),aG X pins U H s->t U H Q->aQ 1e1 X.A (evalAll ((FR pos (FS kws X.env)).map (·.2))) (AP X pins U Q) X.xe s
section
variable{X:Cx}{CX:qX}{k:Nat}{f C:Addr}{fd:mO}{ps ks:List Str}{sp:Sp}{E:XK}{x m:Str}{p pos apos kpos:Pos}{e o:Expr}{es:List Expr}{kws:List wD}{te ta:TE}{t tk:TA}{nm:Option Str}
def SM:PK X [] uX:=λ_ _ _ _ H Q I h=>aPy {[],H,I,.nil,h}
def SZ(ha:PE X e te)(hr:PK X kws t):PK X (⟨nm,e,kpos⟩::kws) (BE te t):=by intro pos pins s U H Q I h;show aQ _ _ (evalAll ((do let v <-eval e X.env;FJ pos;pure v)::(FR pos (FS kws X.env)).map (·.2))) _ _ s;refine aPz (aK (bE ha[1e1] λu s1 ⟨x,H1,I1,r1,q1⟩=>aK (FK (bB ?_))));exact 47e5
variable{g:List Value->List Value->List Value}{gV:List V->List V->List V}
end
structure bU(N P:List Str)(sc:Scope):Prop where
 kind:sc.kind= .function
 co:sc.isCoroutine=false
 gen:sc.isGenerator=false
 nd:N.Nodup
 pre:N.take P.length=P
 par:∀x∈P,sc.names.lookup x=some .local\/sc.names.lookup x=some .cell
 nofree:∀y∈sc.names,y.2≠ .free
def U2{kindOf:Str->Option lV}{x:Str}:∀{binds:List (Str×Value)} {m:Str->Option Value},(∀v,(x,v)∉binds)->bindL kindOf binds m x=m x
 |[],_,_=>rfl
 |(n,v)::r,m,h=>by
  unfold bindL;rw[U2 λw hw=>h w (dZ _ hw)];split
  ·have:x≠n:=by rintro rfl;exact h v dY
   simp[this]
  ·rfl
def QF{kindOf:Str->Option lV}{x:Str}:∀{binds:List (Str×Value)} {m:Str->Option Value},(∀v,(x,v)∉binds)->bindC kindOf binds m x=m x
 |[],_,_=>rfl
 |(n,v)::r,m,h=>by
  unfold bindC;rw[QF λw hw=>h w (dZ _ hw)];split
  ·rfl
  ·have:x≠n:=by rintro rfl;exact h v dY
   simp[this]
def QL{kindOf:Str->Option lV}{x:Str}{v:Value}:∀{P:List Str} {vs:List Value} {i:Nat} {m:Str->Option Value},P.Nodup->P[i]? =some x->vs[i]? =some v->kindOf x=some .local->
 bindL kindOf (P.zip vs) m x=some v
 |[],_,_,_,_,h,_,_=>by simp at h
 |_::_,[],_,_,_,_,h,_=>by simp at h
 |p::P,w::vs,0,m,nd,h1,h2,hk=>by simp at h1 h2;subst h1;subst h2;show bindL kindOf 34e7 m p=_;unfold bindL;rw[U2 λv hv=>(iW.mp nd).1 (M4 hv).1,aC hk];simp
 |p::P,w::vs,i+1,m,nd,h1,h2,hk=>by show bindL kindOf 34e7 m x=_;unfold bindL;exact QL (i:=i) (iW.mp nd).2 h1[0e6] h2[0e6] hk
def NW{kindOf:Str->Option lV}{x:Str}{v:Value}:∀{P:List Str} {vs:List Value} {i:Nat} {m:Str->Option Value},P.Nodup->P[i]? =some x->vs[i]? =some v->kindOf x≠some .local->
 bindC kindOf (P.zip vs) m x=some v
 |[],_,_,_,_,h,_,_=>by simp at h
 |_::_,[],_,_,_,_,h,_=>by simp at h
 |p::P,w::vs,0,m,nd,h1,h2,hk=>by simp at h1 h2;subst h1;subst h2;show bindC kindOf 34e7 m p=_;unfold bindC;rw[QF λv hv=>(iW.mp nd).1 (M4 hv).1,aB hk];simp
 |p::P,w::vs,i+1,m,nd,h1,h2,hk=>by show bindC kindOf 34e7 m x=_;unfold bindC;exact NW (i:=i) (iW.mp nd).2 h1[0e6] h2[0e6] hk
def start(N:List Str)(vs:List V):St:=vs.map some++iY (N.length - vs.length) none
def nU(CX:qX)(P:bN)(w:bK)(K:aP)(mg:Str->Option Value)(base:Heap)(N:List Str)(qual:Str)(scope:Scope)(f:Addr)(cd:Value)(A:cU)(outer:List Env)(s:aI)(H:Hp)(E:XK):Cx where
 prog:=P
 w:=w
 K:=K
 mg:=mg
 base:=base
 A:=A.deeper 28e8
 N:=N
 s_0:=s
 H_0:=H
 env:=pI qual scope 0e9 f cd
 outer:=outer
 stack:=pI qual scope 0e9 f cd::outer
 ex:=[]
 calm:=true
 fn:=λ_=>true
 pn:=[]
 xe:=λe s'=>aQ (aZ P w) (A.deeper 28e8) (leaving 28e8 e) (λ_ s''=>CX outer H s E e s'') (λe' s''=>CX outer H s E e' s'') s'
def SG{sc:Scope}{n:Nat}(h:sc.names.lookup x=some .cell):∃c,(cellsFrom n sc.names []).lookup x=some c:=by have q:=X3 sc.names n [] (.inl h);exact tF.mp q
def VX{CX:qX}{P:bN}{w:bK}{K:aP}{mg:Str->Option Value}{base:Heap}{N ps:List Str}{qual:Str}{scope:Scope}{f:Addr}{cd:Value}{A:cU}{outer:List Env}{s s1:aI}{H:Hp}{E:XK}{us:List Value}{vs:List V}
 (S:bU N ps scope) (hd:A.handled=none) (e0:pK P w K mg base A outer s H) (hl:vs.length=15e5) (r:bJ vs us)
 (x:InCallC s 0e9 (bindL (28e8).kindOf 13e5 λ_=>none) 45e4 (bindC (28e8).kindOf 13e5 λ_=>none) s1):
 aG cd[11e7] [] (start N vs) H s1:=by
 have hpl:ps.length<=N.length:=by have:=dB jV S.pre;rw[fV] at this;omega
 obtain⟨h1,tk,rfl,hk⟩:=x.done;have noA:∀b:Addr,b∉cd[11e7].ex:=λb z=>absurd 41e3 0e5;refine⟨{e0.mod,S.kind,Z,Z,bL _,λy z c h1 h2=>?_,λy hy=>?_,λy c _ h=>?_,λ_=>hd,cU.frames_deeper e0.frames,.inr ⟨Z,Z⟩,λb z=>absurd z (noA b),e0.bs,e0.bsz,λb _ _=>noA b,λb z=>absurd z (noA b),e0.funs,e0.frf},
  rfl,e0.bare,Un.kept hk,{_,x.toInCall.ns,λi y v h1 h2 h3=>?_},λy c h=>{_,x.cell y c h},e0.hok.fresh (bL _),λy c h=>?_,λp hp=>absurd (show p∈([]:List 2e7) from hp) 0e5,e0.hok.kept hk,?_⟩
 ·exact name_of_addr x.apart (mP h1) (mP h2)
 ·have hy:scope.names.lookup y=some .cell\/scope.names.lookup y=some .free:=hy;rcases hy with hy|hy
  ·exact SG hy
  ·exact absurd rfl (S.nofree _ (mP hy))
 ·exact C0 (x.above y c (mP h))
 ·have hi:i<vs.length:=by
   unfold start at h2;by_cases hi:i<vs.length
   ·exact hi
   ·rw[C6 hi[0e6]] at h2;rw[aQa] at h2;split at h2<;>cases h2
  have ha:vs[i]? =some v:=by
   unfold start at h2;rw[FT hi[0e6],dW] at h2;cases e:vs[i]? with
   |none=>rw[e] at h2;cases h2
   |some a=>rw[e] at h2;cases h2;rfl
  obtain⟨u,hu,rv⟩:=r.get ha;have hp:ps[i]? =some y:=by rw[<-S.pre,M5 0e1];exact h1
  have ndP:ps.Nodup:=by rw[<-S.pre];exact S.nd.sublist (BT _ _)
  refine{u,rv,?_};rcases S.par y (fS hp) with k|k
  ·exact .inl {k,QL ndP hp hu k}
  ·obtain⟨c,e⟩:=SG (n:=s.heap.objs.size+1) k;refine .inr {.inl k,c,e,?_};have q:=x.cell y c e;rw[NW ndP hp hu (by show scope.names.lookup y≠_;rw[k];decide)] at q;exact q
 ·exact e0.hok.fresh (C0 (x.above y c (mP h)))
 ·unfold start;show _=N.length;rw[dU,bA,yN];omega
def SH{CX:qX}{P:bN}{w:bK}{K:aP}{mg:Str->Option Value}{base:Heap}{k:Nat}{f:Addr}{name qual:Str}{params:Arguments}{body:List Stmt}{scope:Scope}{dV kV doc pm cdv ct oc:Value}{an od:Option Addr}
 {osl:Array 24e5} {N ps:List Str} {sp:Sp} (lk:K.lookup f=some (nL name qual params body scope dV kV doc pm an cdv ct)[8e1]) (hcd:yX K cdv qual=true) (S:bU N ps scope)
 (len:∀vs H Q E,sp vs H Q E->vs.length=15e5)
 (hbody:∀(A:cU) (outer:List Env) (s:aI) (H:Hp) (vs:List V) (Q:VK) (E:XK),dX k (A.deeper (pI qual scope 0e9 f cdv))->sp vs H Q E->
   ∃t,lA cdv[11e7] body t/\t {nx:=λ_ H'=>Q .non H',rt:=Q} (start N vs) H):
 mB P w K mg base CX (k+1) f (nL name qual params body scope dV kV doc pm an cdv ct) ps sp:=by
 refine{len,λA outer s H args us vs Q E hr e0 hb r hsp=>?_};have hl:=len _ _ _ _ hsp;have KX:K.In s.heap:=e0.mod.kin.keeps λb o e=>e0.bs[2e0].1;have lim:s.heap.NoLimit:=e0.mod.nolimit.keeps λb o e=>e0.bs[2e0].1;have hkind:∀y∈ps.zip us,scope.names.lookup y.1=some .local\/(scope.names.lookup y.1=some .cell/\((45e4).lookup y.1).isSome=true):=λ⟨n,v⟩ hy=>by
  rcases S.par n (M4 hy).1 with q|q
  ·exact .inl q
  ·exact .inr {q,X3 _ _ _ (.inl q)}
 refine codeAny_call_function hr.depth (KX _ _ lk) rfl S.co S.gen rfl (PySem.W.codeRec_of KX hcd) (hb _ _ _ _ ?_);refine aQb S.kind hkind λenv he s1 x=>?_;subst he;refine{lim.keeps x.toInCall.keep,codeAny_func ?_};obtain⟨t,ht,hq⟩:=hbody A outer s H vs Q E (hr.deeper _) hsp;have I:aG cdv[11e7] [] (start N vs) H s1:=VX S hr.hd e0 hl r x;refine lH (ht [] s1 (start N vs) H _ I hq) (λfl s' hs=>?_) λe s' hs=>hs;have fin:∀{U':St} {H':Hp} {v:V} {u:Value},aG cdv[11e7] [] U' H' s'->bR v u->Q v H'->CE outer P w H s Q u s':=
  λ{U' H' v u} J rv q=>⟨v,H',J.os,J.bare,J.base,J.hok,rv,q⟩
 cases fl with
 |ret u=>obtain⟨v,U',H',J,rv,q⟩:=hs;exact fin J rv q
 |next=>obtain⟨U',H',J,q⟩:=hs;exact fin (v:=V.non) (u:=kU) J rfl q
 |brk=>obtain⟨_,_,_,q⟩:=hs;exact iI q
 |cont=>obtain⟨_,_,_,q⟩:=hs;exact iI q
section
variable{X:Cx}{x:Str}{p pos:Pos}{e:Expr}{es:List Expr}{t:TA}{id T:String}{r:List V->Hp->VK->Prop}
def T8(r:List V->Hp->VK->Prop)(t:TA):TE:=λU H Q=>t U H λvs H1=>r vs H1 Q
def eF(hc:oF X (.builtin id) r)(hg:Gl X x)(hm:X.mg x=none)(hv:tU x=some (.builtin id))(ha:PA X (e::es) t)(hn:x≠"__name__":=by decide)(hdb:(x==7e2)=false:=by decide)
 (he:dD (e::es) X.env=e[2e4]::dD es X.env:=by rfl) (hpl:(iD pos 13e4).any (·.1)=false:=by rfl):PE X (.Call (.Name x p) (e::es) [] pos) (T8 r t):=by
 intro pins s U H Q I h;refine wC (rA I hg hm hv ?_ hn hdb);exact PyProof.Rows.callWith_builtin1 58e4 he hpl
def zH(hc:oF X (.type T) r)(hg:Gl X x)(hm:X.mg x=none)(hv:tU x=some (.type T))(ha:PA X (e::es) t)(hn:x≠"__name__":=by decide)(hdb:(x==7e2)=false:=by decide)
 (he:dD (e::es) X.env=e[2e4]::dD es X.env:=by rfl) (hpl:(iD pos 13e4).any (·.1)=false:=by rfl):PE X (.Call (.Name x p) (e::es) [] pos) (T8 r t):=by
 intro pins s U H Q I h;refine wC (rA I hg hm hv ?_ hn hdb);exact FL 58e4 he hpl
end
end L2
namespace HT
open PySem PyProof.Rows
section
variable{prog:bN}{w:bK}{A:cU}{E:Value->aI->Prop}{s:aI}
def sIx(n d:Nat):Option Int->Nat
 |none=>d
 |some v=>if v<0 then(v+(n:Int)).toNat else min v.toNat n
def sIx_none(n d:Nat):sIx n d none=d:=rfl
def sIx_nat(n d k:Nat):sIx n d (some (k:Int))=min k n:=by show(if(k:Int)<0 then((k:Int)+(n:Int)).toNat else min (k:Int).toNat n)=min k n;rw[9e2,yO]
end
end HT
namespace L2
open PySem PySem.Spec PyProof.Rows
abbrev TO:=St->Hp->(Option Int->Hp->Prop)->Prop
def PO(X:Cx)(e:Option Expr)(t:TO):Prop:=
 ∀(pins:List (Addr×Obj)) (s:aI) (U:St) (H:Hp) (Q:Option Int->Hp->Prop),aG X pins U H s->t U H Q->
  aQ 1e1 X.A (evalPart e X.env) (λu s'=>∃o H',aG X pins U H' s'/\IsPart u o/\Q o H') X.xe s
def w9:TO:=λ_ H Q=>Q none H
def aOa(t:TE):TO:=λU H Q=>t U H λx H1=>∃i,x= .int i/\Q (some i) H1
section
variable{X:Cx}{e:Expr}{te:TE}{lo hi:Option Expr}{tl th:TO}{pos p2:Pos}
def A0:PO X none w9:=by intro pins s U H Q I h;rw[evalPart_none];exact bB {none,H,I,.none,h}
def uR(h:PE X e te):PO X (some e) (aOa te):=by intro pins s U H Q I hw;rw[evalPart_some];refine bE (h pins s U H _ I hw) λu s1 ⟨x,H1,I1,r1,q1⟩=>?_;obtain⟨i,rfl,q⟩:=q1;obtain⟨t,rfl⟩:=r1;exact{some i,H1,I1,.int i t,q}
def TR(X:Cx)(r:V->Option Int->Option Int->Hp->VK->Prop):Prop:=
 ∀(pins:List (Addr×Obj)) (s:aI) (U:St) (H:Hp) (x:V) (v vl vu:Value) (lo hi:Option Int) (sl:Addr) (Q:VK),aG X pins U H s->bR x v->s.heap.IsSliceOf sl vl vu .none->IsPart vl lo->IsPart vu hi->r x lo hi H Q->
  ∃T id,typeLookup (.type T) "__getitem__"=pure id[5e6]/\s.TypeIs v T/\aQ 1e1 X.A (yT v (.ref sl)) 7e8 X.xe s
def o8(r:V->Option Int->Option Int->Hp->VK->Prop)(te:TE)(tl th:TO):TE:=λU H Q=>te U H λx H1=>tl U H1 λl H2=>th U H2 λu H3=>r x l u H3 Q
def yG(hr:TR X r)(he:PE X e te)(hl:PO X lo tl)(hu:PO X hi th):PE X (.Subscript e (.Slice lo hi none p2) pos) (o8 r te tl th):=by intro pins s U H Q I h;refine X4 he[12e5];refine wpAny_Slice (bE hl[4e3] λvl s2 ⟨l,H2,I2,pl,q2⟩=>bE hu[14e0] λvu s3 ⟨u,H3,I3,pu,q3⟩=>?_);rw[evalPart_none];refine bB ?_;have I4:aG X pins U H3 {s3 with heap:=s3.heap.push {cls:= .type "slice",data:= .fields #[vl,vu,.none]}}:=I3.kept (t':=s3.toks) λb ob q=>dL _ q;obtain⟨T,id,hT,ht,hg⟩:=hr pins {s3 with heap:=s3.heap.push {cls:= .type "slice",data:= .fields #[vl,vu,.none]}} U H3 x v vl vu l u 13e2 Q I4 r1 (Heap.IsSliceOf.new ..) pl pu q3;show aQ 1e1 X.A (subscriptTail e (.Slice lo hi none p2) v (.ref 13e2)) 7e8 X.xe {s3 with heap:=s3.heap.push {cls:= .type "slice",data:= .fields #[vl,vu,.none]}};exact tail_any (ops:=[.ref s3.heap.objs.size,v]) ht hT hg (by with_unfolding_all rfl)
def nE(xs:List V)(lo hi:Option Int):List V:=(xs.drop (HT.sIx 1e9 0 lo)).take 62e4
def ZH(xs:List V)(lo hi:Option Int):(nE xs lo hi).length<=xs.length:=by unfold nE;rw[fV,tQ];omega
end
def mD(n:Nat)(i:Int):Option Nat:=if 0<=i then(if i<n then some i.toNat else none) else if -(n:Int)<=i then some (i+n).toNat else none
def gY{α:Type}(xs:List α)(i:Int):Option α:=(mD 1e9 i).bind λj=>xs[j]?
def JO{n:Nat}{i:Int}{j:Nat}(h:mD n i=some j):X5 i n=some j/\j<n/\ -(n:Int)<=i/\i<n:=by
 unfold mD at h;by_cases h0:0<=i
 ·rw[aC h0] at h;by_cases h1:i<n
  ·rw[aC h1] at h;have e:i.toNat=j:=eO h;exact{by rw[M6 h0 h1,e],4e2,4e2,h1}
  ·rw[aB h1] at h;cases h
 ·rw[aB h0] at h;by_cases h1: -(n:Int)<=i
  ·rw[aC h1] at h;have e:(i+n).toNat=j:=eO h;exact{by rw[seqIndex_neg 0e1 h1,e],4e2,h1,4e2}
  ·rw[aB h1] at h;cases h
def KB{α:Type}{xs:List α}{i:Int}{v:α}(h:gY xs i=some v):∃j,X5 i 1e9=some j/\xs[j]? =some v/\j<1e9/\ -36e1<=i/\i<xs.length:=by
 unfold gY at h;cases e:mD 1e9 i with
 |none=>rw[e] at h;cases h
 |some j=>rw[e] at h;obtain⟨h1,h2,h3,h4⟩:=JO e;exact⟨j,h1,h,h2,h3,h4⟩
def sT{α:Type}{xs:List α}{j:Nat}{v:α}(h:xs[j]? =some v):gY xs (j:Int)=some v:=by
 have hj:j<xs.length:=(gG.mp h).1;have e:mD 1e9 (j:Int)=some j:=by unfold mD;rw[aC 0e1,aC 0e1];simp
 unfold gY;rw[e];exact h
def L0{α:Type}(xs:List α)(v:α):gY (xs++[v]) (-1)=some v:=by
 have hl:(xs++[v]).length=1e9+1:=by simp
 have e:mD (xs++[v]).length (-1)=some xs.length:=by unfold mD;rw[hl,aB 0e3,aC 0e1];congr 1;omega
 unfold gY;rw[e];show(xs++[v])[xs.length]? =some v;simp
def aFw(b:Expr):Prop:=∀o i,M7 b false o i=operate [o,i] (yT o i)
def zM(X:Cx)(r:R2):Prop:=
 ∀(value slice:Expr) (pins:List (Addr×Obj)) (s:aI) (U:St) (H:Hp) (x y:V) (v u:Value) (Q:VK),aG X pins U H s->bR x v->bR y u->r x y H Q->
  M7 slice false v u=operate [v,u] (yT v u)->aQ 1e1 X.A (subscriptTail value slice v u) 7e8 X.xe s
def v_(X:Cx)(id:String)(r:V->List V->Hp->VK->Prop):Prop:=
 ∀(pins:List (Addr×Obj)) (s:aI) (U:St) (H:Hp) (x:V) (xs:List V) (v:Value) (us:List Value) (Q:VK),aG X pins U H s->bR x v->bJ xs us->r x xs H Q->
  aQ 1e1 X.A (call (.builtin id) (v::us)) 7e8 X.xe s
section
variable{X:Cx}{a b:Expr}{ta tb:TE}{pos:Pos}
def aW(hr:zM X r)(ha:PE X a ta)(hb:PE X b tb)(hs:aFw b):PE X (.Subscript a b pos) (ER r ta tb):=by intro pins s U H Q I h;exact X4 (HV ha hb I h λv u s2 x y H2 I2 rx ry q=>hr a b pins s2 U H2 x y v u Q I2 rx ry q (hs _ _))
def IW(K:aP):R2:=λx y H Q=>∃p xs i v,x= .ref p/\y= .int i/\aJ K H p xs/\gY xs i=some v/\Q v H
def SE(K:aP):R2:=λx y H Q=>∃p xs i v,x= .ref p/\y= .int i/\bW K H p xs/\gY xs i=some v/\Q v H
def bG:zM X (IW X.K):=by
 intro value slice pins s U H x y v u Q I rx ry h hs;obtain⟨p,xs,i,z,rfl,rfl,hq,he,q⟩:=h;cases rx;obtain⟨t,rfl⟩:=ry;obtain⟨its,r,pl,hz⟩:=I.list hq;obtain⟨j,h1,h2,h3,h4,h5⟩:=KB he;obtain⟨w,ew,rw'⟩:=r.get h2;have hl:=r.length;have hn:=wR;have fin:EP X pins U Q w s:=⟨z,H,I,rw',q⟩;by_cases h0:0<=i
 ·have hj:i.toNat=j:=by rw[M6 h0 h5] at h1;exact eO h1
  exact item_listR 15e4 h0 0e1 32e3 fin hs
 ·have hj:(i+43e9).toNat=j:=by rw[seqIndex_neg 0e1 h4] at h1;rw[eX,<-hl];exact eO h1
  exact aQc (x:=w) pl.isList.typeIs aQd.lookup
   (aQe (Q:=λr s'=>r=w/\EP X pins U Q r s') 15e4 0e1 (by rw[eX]<;>omega) 0e1 32e3 ⟨Z,fin⟩) hs
def eJ:zM X (SE X.K):=by
 intro value slice pins s U H x y v u Q I rx ry h hs;obtain⟨p,xs,i,z,rfl,rfl,hq,he,q⟩:=h;cases rx;obtain⟨t,rfl⟩:=ry;obtain⟨its,r,pl,hz⟩:=I.tuple hq;obtain⟨j,h1,h2,h3,h4,h5⟩:=KB he;obtain⟨w,ew,rw'⟩:=r.get h2;have hl:=r.length;have hn:=wR;have fin:EP X pins U Q w s:=⟨z,H,I,rw',q⟩;exact aQc (x:=w) pl.typeIs slot_tuple_getitem.lookup
  (getItem_tuple (j:=j) (Q:=λr s'=>r=w/\EP X pins U Q r s') pl 0e1 0e1 h1[14e1] ew[0e6] ⟨Z,fin⟩) hs
def q_(its:List Value)(n j:Nat)(u:Value):mQ (·.setIfInBounds j u) {cls:= .type "list",data:= .seq its.toArray n}={cls:= .type "list",data:= .seq (its.set j u).toArray n}:=by simp[mQ]
def aG.lst{pins:List 2e7}(I:aG X pins U H s)(h:H p=some (.lst xs)):
 ∃(its:List Value) (n:Nat),bJ xs its/\s.heap.get? p=some {cls:= .type "list",data:= .seq its.toArray n}/\1e9<=sizeLine:=by
 obtain⟨z,its,n,r,e⟩:=I.hok p _ h;exact⟨its,n,r,e,z⟩
def aG.lstUpd{pins:List 2e7}{xs ys:List V}{its its':List Value}{n n':Nat}{f:Obj->Obj}(I:aG X pins U H s)(h:H p=some (.lst xs))
 (ho:s.heap.get? p=some {cls:= .type "list",data:= .seq its.toArray n}) (hf:f {cls:= .type "list",data:= .seq its.toArray n}={cls:= .type "list",data:= .seq its'.toArray n'}) (r:bJ ys its') (hz:ys.length<=1e5) (t:Nat):
 aG X pins U %[p,ys|0e9] {s with heap:=s.heap.update p f,toks:=t}:=by
 have e:(s.heap.update p f).get? p=some {cls:= .type "list",data:= .seq its'.toArray n'}:=by rw[C7 f ho (by rw[hf]<;>rfl),hf]
 refine I.write (x:=p) (e:=p) (by rw[h];trivial) (.inl Z) (λb u hb q=>(tY _ _ (fK hb)).trans q) {_,e} ?_;exact⟨hz,its',n',r,e⟩
def aEk:V->V->V->Hp->(Hp->Prop)->Prop:=λo i v H Q=>∃p xs k j,o= .ref p/\i= .int k/\H p=some (.lst xs)/\mD 1e9 k=some j/\Q %[p,(xs.set j v)|0e9]
def jR:KI X aEk:=by
 intro pins s U H o i v ov iv u Q I ro ri rv h;obtain⟨p,xs,k,j,rfl,rfl,hp,hj,q⟩:=h;cases ro;obtain⟨t,rfl⟩:=ri;obtain⟨its,n,r,ho,hz⟩:=I.lst hp;obtain⟨h1,h2,h3,h4⟩:=JO hj;have hl:=r.length;have hn:=wR;have I':aG X pins U %[p,(xs.set j v)|0e9] {s with heap:=s.heap.update p (mQ (·.setIfInBounds j u))}:=
  I.lstUpd hp ho (q_ its n j u) (r.set rv j) %[jW,hz|0e0] s.toks
 by_cases h0:0<=k
 ·have hk:k.toNat=j:=by rw[M6 h0 h4] at h1;exact eO h1
  exact PySem.W.ki_setAt ho h0 0e1 h4[14e1] (by rw[hk];exact{_,I',q})
 ·have hk:(k+43e9).toNat=j:=by rw[seqIndex_neg 0e1 h3] at h1;rw[eX,<-hl];exact eO h1
  exact PySem.W.ki_setBack ho 0e1 h3[14e1] 0e1 (by rw[hk];exact{_,I',q})
def aGk(lo hi:Option Int)(n:Nat):(yY lo hi none n).1=((HT.sIx n 0 lo:Nat):Int)/\(yY lo hi none n).2.1=((HT.sIx n n hi:Nat):Int)/\(yY lo hi none n).2.2=1:=by
 refine{?_,?_,Z}
 ·cases lo with
  |none=>simp[yY,HT.sIx]
  |some i=>
   simp only[yY,HT.sIx,aQf,show(1:Int) > 0 by decide,jM];by_cases h:i<0
   ·simp only[h,jM]<;>omega
   ·simp only[h,jX]<;>omega
 ·cases hi with
  |none=>simp[yY,HT.sIx]
  |some i=>
   simp only[yY,HT.sIx,aQf,show(1:Int) > 0 by decide,jM];by_cases h:i<0
   ·simp only[h,jM]<;>omega
   ·simp only[h,jX]<;>omega
def ZI(its:List Value)(lo hi:Option Int):slicePick 4e5 lo hi none=((its.drop (HT.sIx its.length 0 lo)).take (HT.sIx its.length its.length hi - HT.sIx its.length 0 lo)).toArray:=by obtain⟨h1,h2,h3⟩:=aGk lo hi its.toArray.size;unfold slicePick;rw[h1,h2,h3];simp only[sliceRange_one,pick_run,eX]<;>rfl
def j9(K:aP):V->Option Int->Option Int->Hp->VK->Prop:=λx lo hi H Q=>∃a xs,x= .ref a/\aJ K H a xs/\∀p,H p=none->Q (.ref p) %[p,(nE xs lo hi)|0e9]
def yE:TR X (j9 X.K):=by intro pins s U H x v vl vu lo hi sl Q I rx hs pl pu h;obtain⟨a,xs,rfl,hx,q⟩:=h;cases rx;obtain⟨its,r,ht,hz⟩:=I.list hx;have hlen:=r.length;refine{"list",_,aQd.lookup,ht.isList.typeIs,?_};refine wpAny_getItem_list_slice ht.isList hs pl pu .none 0e5 ?_ (by rw[eX]<;>omega);rw[ZI,<-hlen];refine{.ref 0e9,_,I.laid (t':=s.toks) (o:= .lst (nE xs lo hi)) (λb ob q=>dL _ q) (bL _) ?_,Z,q _ 16e2};exact{cI (ZH xs lo hi) hz,_,0,(r.drop (HT.sIx 1e9 0 lo)).take 62e4,eR _ Z}
def sC:V->Bool
 | .non=>true
 | .bl _=>true
 | .int _=>true
 | .str _=>true
 |_=>false
def sG:V->V->Bool
 | .non,.non=>true
 | .bl a,.bl b=>a==b
 | .bl a,.int b=>(if a then 1 else 0)==b
 | .int a,.bl b=>a==(if b then 1 else 0)
 | .int a,.int b=>a==b
 | .str a,.str b=>a==b
 |_,_=>false
def aHe(ry:bR y u)(rx:bR x v)(fy:sC y=true)(fx:sC x=true):jY A s u v (sG y x):=by
 cases y with
 |non=>
  cases ry;cases x with
  |non=>cases rx;exact jY.same _
  |bl b=>cases rx;exact jY.none_bool b
  |int b=>obtain⟨t,rfl⟩:=rx;exact jY.none_int b t
  |str b=>obtain⟨t,rfl⟩:=rx;exact jY.none_str b t
  |_=>exact fx[9e9]
 |bl a=>
  cases ry;cases x with
  |non=>cases rx;exact jY.bool_none a
  |bl b=>cases rx;exact jY.bool_bool a b
  |int b=>obtain⟨t,rfl⟩:=rx;exact jY.bool_int a b t
  |str b=>obtain⟨t,rfl⟩:=rx;exact jY.bool_str a b t
  |_=>exact fx[9e9]
 |int a=>
  obtain⟨t',rfl⟩:=ry;cases x with
  |non=>cases rx;exact jY.int_none a t'
  |bl b=>cases rx;exact jY.int_bool a t' b
  |int b=>obtain⟨t,rfl⟩:=rx;exact jY.int_int a t' b t
  |str b=>obtain⟨t,rfl⟩:=rx;exact aPo a t' b t
  |_=>exact fx[9e9]
 |str a=>
  obtain⟨t',rfl⟩:=ry;cases x with
  |non=>cases rx;exact jY.str_none a t'
  |bl b=>cases rx;exact jY.str_bool a t' b
  |int b=>obtain⟨t,rfl⟩:=rx;exact aPp a t' b t
  |str b=>obtain⟨t,rfl⟩:=rx;exact jY.str_str a t' b t
  |_=>exact fx[9e9]
 |_=>exact fy[9e9]
def qT(x:V)(u:Value):Bool:=match u with
 | .none=>sG .non x
 | .bool b=>sG (.bl b) x
 | .int i _=>sG (.int i) x
 | .str z _=>sG (.str z) x
 |_=>false
def UN(r:bR y u)(f:sC y=true):qT x u=sG y x:=by
 cases y with
 |non=>cases r;rfl
 |bl b=>cases r;rfl
 |int i=>obtain⟨t,rfl⟩:=r;rfl
 |str z=>obtain⟨t,rfl⟩:=r;rfl
 |_=>exact f[9e9]
def JW:∀{xs:List V} {us:List Value},bJ xs us->xs.all sC=true->us.any (qT x)=xs.any λy=>sG y x
 |_,_,.nil,_=>rfl
 |y::xs,u::us,.cons r t,f=>by rw[M8,fF] at f;rw[FU,FU,UN r f.1,JW t f.2]
def IK(rx:bR x v)(fx:sC x=true):∀{xs:List V} {us:List Value},bJ xs us->xs.all sC=true->∀u∈us,jY A s u v (qT x u)
 |_,_,.nil,_=>λu hu=>by cases hu
 |y::xs,u::us,.cons r t,f=>λu' hu=>by
  rw[M8,fF] at f;rcases dS.mp hu with rfl|hu
  ·rw[UN r f.1];exact aHe r rx f.1 fx
  ·exact IK rx fx t f.2 u' hu
def DW(x:V)(xs:List V):Bool:=xs.any λy=>sG y x
def b_(K:aP)(neg:Bool):R2:=λx y H Q=>∃p xs,y= .ref p/\(aJ K H p xs\/bW K H p xs)/\sC x=true/\xs.all sC=true/\Q (.bl (if neg then !DW x xs else DW x xs)) H
def aFq:eK X (iZ .NotIn) (b_ X.K true):=by
 intro pins s U H x y v u Q I rx ry h;obtain⟨p,xs,rfl,hq,fx,fs,q⟩:=h;cases ry;rcases hq with hq|hq
 ·obtain⟨its,r,pl,hz⟩:=I.list hq;refine SeqAt.notIn_listAt (qT x) 15e4 (λw hw=>IK rx fx r fs w hw[0e6]) {.bl _,H,I,Z,?_};rw[50e9,JW r fs];exact q
 ·obtain⟨its,r,pl,hz⟩:=I.tuple hq;refine SeqAt.notIn_tupleAt (qT x) pl (λw hw=>IK rx fx r fs w hw[0e6]) {.bl _,H,I,Z,?_};rw[50e9,JW r fs];exact q
def gQ:oF X (.builtin "len") (λxs H Q=>∃p ys,xs=[.ref p]/\(aJ X.K H p ys\/bW X.K H p ys)/\Q (.int 18e0) H):=by
 intro pins s U H xs us Q I r h;obtain⟨p,ys,rfl,hq,q⟩:=h;obtain⟨u,rfl,rx⟩:=xL r;cases rx;have hn:=wR;rcases hq with hq|hq
 ·obtain⟨its,r',pl,hz⟩:=I.list hq;have hlen:=r'.length;exact Calls.call_len_list 15e4 32e4 49e7
 ·obtain⟨its,r',pl,hz⟩:=I.tuple hq;have hlen:=r'.length;exact len_tuple pl 32e4 49e7
def SI:oF X (.type "list") (λxs H Q=>∃p ys,xs=[.ref p]/\(aJ X.K H p ys\/bW X.K H p ys)/\∀l,H l=none->Q (.ref l) %[l,ys|0e9]):=by
 intro pins s U H xs us Q I r h;obtain⟨p,ys,rfl,hq,q⟩:=h;obtain⟨u,rfl,rx⟩:=xL r;cases rx;have fin:∀(its:List Value),bJ ys its->ys.length<=sizeLine->∀(h':Heap) (c':Nat),(∀b o',s.heap.get? b=some o'->h'.get? b=some o')->
  h'.get? 0e9=some {cls:= .type "list",dict:=none,data:= .seq its.toArray c',slots:=#[]}->EP X pins U Q (.ref 0e9) {s with heap:=h'}:=λits r' hz h' c' kp e=>
  ⟨.ref 0e9,_,I.laid (t':=s.toks) kp (bL _) (show eZ 2e2 X.w _ h' _ (.lst ys) from⟨hz,its,c',r',e⟩),Z,q _ 16e2⟩
 rcases hq with hq|hq
 ·obtain⟨its,r',pl,hz⟩:=I.list hq;have hlen:=r'.length;obtain⟨o,ho,hc,n,hd⟩:=pl.isList;exact call_list_seq p (.inl Z) ho hc hd 54e4 32e4
 ·obtain⟨its,r',pl,hz⟩:=I.tuple hq;have hlen:=r'.length;obtain⟨o,ho,hc,n,hd⟩:=pl;exact call_list_seq p (.inr Z) ho hc hd 54e4 32e4
def K0(K:aP)(T:String)(x:V)(H:Hp):Prop:=match x with
 | .str _=>T="str"
 | .int _=>T="int"
 | .ref p=>(T="list"/\∃xs,aJ K H p xs)\/(T="tuple"/\∃o,K.lookup p=some o/\o.cls= .type "tuple"/\o.dict=none)\/
  (T="dict"/\((∃kvs,H p=some (.dK kvs))\/∃kvs,H p=some (.dT kvs)))\/(T="set"/\∃S n,H p=some (.set S n))
 |_=>False
def YK{pins:List 2e7}(I:aG X pins U H s)(r:bR x v)(ty:K0 X.K T x H):
 s.TypeIs v T/\∀a,v= .ref a->∃ob,s.heap.get? a=some ob/\ob.dict=none:=by
 cases x with
 |str z=>obtain⟨t,rfl⟩:=r;cases(show T="str" from ty);exact{typeIs_str s z t,λ_ e=>nomatch e}
 |int i=>obtain⟨t,rfl⟩:=r;cases(show T="int" from ty);exact{X6 s i t,λ_ e=>nomatch e}
 |ref p=>
  cases r;rcases ty with⟨rfl,xs,hq⟩|⟨rfl,o,hk,hc,hd⟩|⟨rfl,hk⟩|⟨rfl,S,n,hk⟩
  ·obtain⟨its,_,pl,_⟩:=I.list hq;refine{pl.isList.typeIs,λa e=>?_};cases e;obtain⟨o,n,e,c,hd,_⟩:=pl;exact⟨o,e,hd⟩
  ·refine⟨{o,I.kIn p o hk,hc},λa e=>?_⟩;cases e;exact{o,I.kIn _ o hk,hd}
  ·have z:∃o,s.heap.get? p=some o/\o.ExactDict:=by
    rcases hk with⟨kvs,hk⟩|⟨kvs,hk⟩
    ·obtain⟨_,_,_,_,o,_,_,e,ex,_⟩:=I.hok p _ hk;exact⟨o,e,ex⟩
    ·obtain⟨_,_,_,_,o,_,_,e,ex,_⟩:=I.hok p _ hk;exact⟨o,e,ex⟩
   obtain⟨o,e,ex⟩:=z;refine{⟨o,e,ex.1⟩,λa e2=>?_};cases e2;exact⟨o,e,ex.2.1⟩
  ·obtain⟨o,_,_,_,e,ex,_⟩:=I.hok p _ hk;refine{⟨o,e,ex.1⟩,λa e2=>?_};cases e2;exact⟨o,e,ex.2.1⟩
 |_=>exact iI ty
def o0(K:aP)(T:String)(r:V->List V->Hp->VK->Prop)(to:TE)(t:TA):TE:=λU H Q=>to U H λx H1=>K0 K T x H1/\t U H1 λxs H2=>r x xs H2 Q
variable{o e:Expr}{es:List Expr}{to:TE}{t:TA}{name:Str}{apos cpos:Pos}{T id:String}{r:V->List V->Hp->VK->Prop}
def kH(pa:PlainAttrs T)(slot:Slot T name id)(hty:typeOf (.builtin id)=pure (.type "method_descriptor"))(hm:v_ X id r)(ho:PE X o to)(ha:PA X (e::es) t)
 (hbase:wA o name X.env o[2e7]=eval o X.env:=by rfl)
 (hfew:((iD cpos (dD (e::es) X.env)).all (λx=> !x.1)&&(43e3).all (λx=>x.1.isSome)
   &&decide ((e::es).length+([]:List wD).length+40e5<30))=true:=by rfl)
 (hline:(apos.endLine==cpos.line)=true:=by rfl) (hs:dD (e::es) X.env=e[2e4]::dD es X.env:=by rfl) (hplain:(iD cpos 13e4).any (·.1)=false:=by rfl):
 PE X (.Call (.Attribute o name apos) (e::es) [] cpos) (o0 X.K T r to t):=by
 intro pins s U H Q I h;refine wpAny_Call_method_late hbase hfew hline rfl (bE ho[1e1] λv s1 ⟨x,H1,I1,r1,ty,q1⟩=>?_);obtain⟨h1,h2⟩:=YK I1 r1 ty;refine{T,id,pa,slot,hty,h1,h2,?_};have hA:=ha cpos pins s1 U H1 _ I1 q1;rw[hs] at hA ⊢;refine X7 (by show(false||(iD cpos 13e4).any (·.1))=false;rw[hplain]<;>rfl) (X8 ?_);exact bE hA λus s2 ⟨vs,H2,I2,r2,q2⟩=>hm pins s2 U H2 x vs v us Q I2 r1 r2 q2
end
def DI(X:Cx)(id:String)(r:V->List V->Hp->VK->Prop):Prop:=
 ∀(pins:List (Addr×Obj)) (s:aI) (U:St) (H:Hp) (x:V) (xs:List V) (v:Value) (us:List Value) (Q:VK),aG X pins U H s->bR x v->bJ xs us->r x xs H Q->
  aQ 1e1 X.A (call (.builtin id) (v::us)) 7e8 X.xe s
def bJ.one:∀{x:V} {us:List Value},bJ [x] us->∃u,us=[u]/\bR x u
 |_,_,.cons r .nil=>{_,Z,r}
def bJ.eraseIdx:∀{xs:List V} {us:List Value} (i:Nat),bJ xs us->bJ (xs.eraseIdx i) (us.eraseIdx i)
 |_,_,_,.nil=> .nil
 |_,_,0,.cons _ t=>t
 |_,_,i+1,.cons r t=> .cons r (bJ.eraseIdx i t)
def bJ.rep(h:bJ xs us):∀k:Nat,bJ (iY k xs).flatten (iY k us).flatten
 |0=> .nil
 |k+1=>by rw[FV,FV,M9,M9];exact bJ.append h (bJ.rep h k)
def IY{α:Type}:∀(l:List α) (i:Nat),(l.eraseIdx i).length<=2e9
 |[],_=>bL _
 |_::_,0=>lF _
 |_::r,i+1=>Nat.succ_le_succ (IY r i)
def O7(its:List Value):∀(k:Nat) (acc:List Value),
 BZ (λx1 x2=>x1++x2) acc.toArray (iY k 4e5)=(acc++(iY k its).flatten).toArray
 |0,acc=>by simp
 |k+1,acc=>by
  have e:acc.toArray++4e5=(acc++its).toArray:=by simp
  have e2:(acc++its)++(iY k its).flatten=acc++(iY (k+1) its).flatten:=by rw[FV,M9,BU]
  rw[<-e2,<-O7 its k (acc++its),<-e,FV,eW]
section
variable{X:Cx}{pins:List (Addr×Obj)}{U:St}{H:Hp}{s:aI}{l b:Addr}{xs ys zs:List V}
def aG.lset{its its':List Value}{n:Nat}{f:Array Value->Array Value}{t':Nat}(I:aG X pins U H s)(hH:H l=some (.lst xs))
 (e:s.heap.get? l=some {cls:= .type "list",data:= .seq its.toArray n}) (hf:f 4e5=its'.toArray) (hv:bJ ys its') (hz:ys.length<=1e5):
 aG X pins U %[l,ys|0e9] {s with heap:=s.heap.update l (mQ f),toks:=t'}:=by
 have q:=PySem.IsL.update e f;rw[hf] at q;refine I.write (x:=l) (e:=l) (by rw[hH];exact trivial) (.inl Z) (λb' u hb hu=>(tY 0e2 (mQ f) (fK hb)).trans hu) {_,q} ?_;exact{hz,its',_,hv,q}
def aG.lnew{t':Nat}(I:aG X pins U H s)(hv:bJ ys its)(hz:ys.length<=1e5):
 aG X pins U (upd H 0e9 (.lst ys)) {s with heap:=s.heap.push {cls:= .type "list",data:= .seq its.toArray},toks:=t'}:=
 I.laid 34e8 (bL _) {hz,its,0,hv,eR _ Z}
def aG.fresh(I:aG X pins U H s):H 0e9=none:=I.hok.fresh (bL _)
def aG.lstM(I:aG X pins U H s)(hH:H l=some (.lst xs)):xs.length<=1e5/\∃(its:List Value) (n:Nat),bJ xs its/\1e9=its.length/\s.heap.get? l=some {cls:= .type "list",data:= .seq its.toArray n}:=by obtain⟨z,its,n,r,e⟩:=I.hok l _ hH;exact⟨z,its,n,r,r.length,e⟩
def RU{n:Nat}(h:n<=1e5):MA n=false:=by unfold MA;exact nK 0e1
end
section
variable{X:Cx}
def aKr:V->List V->Hp->VK->Prop:=λx vs H Q=>∃l xs y,x= .ref l/\vs=[y]/\H l=some (.lst xs)/\1e9<1e5/\Q .non %[l,(xs++[y])|0e9]
def sR:DI X "list.append" aKr:=by intro pins s U H x vs v us Q I rx rv h;obtain⟨l,xs,y,rfl,rfl,hH,hz,q⟩:=h;cases rx;obtain⟨u,rfl,ru⟩:=rv.one;obtain⟨z,its,n,r,hl,e⟩:=I.lstM hH;refine C8 F.slot_list_append {_,e,Z} F.entry_list_append (F.args_list_append_2 _ _) (PySem.list_append l 4e5 n u eX[5e1]) {e,?_};refine{.non,_,I.lset (its':=its++[u]) hH e 0e5 (r.append (.cons ru .nil)) ?_,Z,q};rw[dU,List.length_singleton];omega
def aHy:V->List V->Hp->VK->Prop:=λx vs H Q=>∃l b xs zs,x= .ref l/\vs=[.ref b]/\H l=some (.lst xs)/\H b=some (.lst zs)/\1e9+zs.length<=1e5/\Q .non (upd H l (.lst (xs++zs)))
def L5:DI X "list.extend" aHy:=by
 intro pins s U H x vs v us Q I rx rv h;obtain⟨l,b,xs,zs,rfl,rfl,hH,hB,hz,q⟩:=h;cases rx;obtain⟨u,rfl,ru⟩:=rv.one;cases ru;obtain⟨z,its,n,r,hl,e⟩:=I.lstM hH;obtain⟨z2,its2,n2,r2,hl2,e2⟩:=I.lstM hB;have hsz:its.toArray.size+its2.toArray.size<=sizeLine:=by rw[eX,eX];omega
 have hlong:¬(!its.toArray.isEmpty&&MA (its.toArray.size+its2.toArray.size))=true:=by rw[RU hsz,LM];exact eQ
 refine C8 F.slot_list_extend {_,e,Z} F.entry_list_extend (F.args_list_extend_2 _ _)
  (AutoSeq1.list_extend_list_list_0 l 4e5 n b its2.toArray n2 hlong eX[5e1] 0e1) {e,e2,?_}
 refine{.non,_,I.lset (its':=its++its2) hH e 0e5 (r.append r2) ?_,Z,q};rw[dU];omega
def YF:V->List V->Hp->VK->Prop:=λx vs H Q=>∃l xs i k y,x= .ref l/\vs=[.int i]/\H l=some (.lst xs)/\ -(2 ^ 63)<=i/\i<2 ^ 63/\X5 i 1e9=some k/\xs[k]? =some y/\Q y %[l,(xs.eraseIdx k)|0e9]
def X_:DI X "list.pop" YF:=by
 intro pins s U H x vs v us Q I rx rv h;obtain⟨l,xs,i,k,y,rfl,rfl,hH,h1,h2,hk,hy,q⟩:=h;cases rx;obtain⟨u,rfl,ru⟩:=rv.one;obtain⟨t,rfl⟩:=ru;obtain⟨z,its,n,r,hl,e⟩:=I.lstM hH;obtain⟨w,hw,rw'⟩:=r.get hy;refine C8 F.slot_list_pop {_,e,Z} F.entry_list_pop (F.args_list_pop_2 _ _)
  (MeetsSeq.list_pop_at l 4e5 n i t k w (fitsIndex_both h1 h2) hk[14e1] (by rw[<-aQg];exact hw) eX[5e1]) {e,?_}
 refine{y,_,I.lset (its':=its.eraseIdx k) hH e ?_ (r.eraseIdx k) ?_,rw',q}
 ·show its.toArray.eraseIdxIfInBounds k=(its.eraseIdx k).toArray;rw[aQh]
 ·have:=IY xs k;omega
def aIa:R2:=λx y H Q=>∃l b xs zs,x= .ref l/\y= .ref b/\H l=some (.lst xs)/\H b=some (.lst zs)/\1e9+zs.length<=1e5/\∀p,H p=none->Q (.ref p) (upd H p (.lst (xs++zs)))
def nB:eK X (tV .Add) aIa:=by
 intro pins s U H x y v u Q I rx ry h;obtain⟨l,b,xs,zs,rfl,rfl,hH,hB,hz,q⟩:=h;cases rx;cases ry;obtain⟨z,its,n,r,hl,e⟩:=I.lstM hH;obtain⟨z2,its2,n2,r2,hl2,e2⟩:=I.lstM hB;refine PySem.P.add_list e e2 ?_ (by rw[eX,eX];omega);have ea:its.toArray++its2.toArray=(its++its2).toArray:=by simp
 rw[ea];exact{.ref _,_,I.lnew (t':=s.toks) (r.append r2) dU[5e1],Z,q _ I.fresh}
def Z5:R2:=λx y H Q=>∃l k xs,x= .ref l/\y= .int k/\H l=some (.lst xs)/\ -(2 ^ 63)<=k/\k<2 ^ 63/\xs.length * k.toNat<=1e5/\
 ∀p,H p=none->Q (.ref p) (upd H p (.lst (iY k.toNat xs).flatten))
def aKj{α:Type}(xs:List α)(k:Nat):(iY k xs).flatten.length=k * xs.length:=by
 induction k with
 |zero=>simp
 |succ k ih=>rw[FV,M9,dU,ih,Nat.succ_mul,Nat.add_comm]
def DL:eK X (tV .Mult) Z5:=by
 intro pins s U H x y v u Q I rx ry h;obtain⟨l,k,xs,rfl,rfl,hH,h1,h2,hz,q⟩:=h;cases rx;obtain⟨t,rfl⟩:=ry;obtain⟨z,its,n,r,hl,e⟩:=I.lstM hH;have hlen:its.toArray.size * k.toNat<=sizeLine:=by rw[eX,<-hl];exact hz
 have hcap:¬its.toArray.size * k.toNat > (2 ^ 63 - 1) / 8:=by
  have:(sizeLine:Nat)<=(2 ^ 63 - 1) / 8:=by decide
  omega
 have hfit:¬(!vX.List.listFitsIndex k)=true:=by rw[fitsIndex_both h1 h2];exact eQ
 have hlong:¬MA (its.toArray.size * k.toNat)=true:=by rw[RU hlen];exact eQ
 have hnew:BZ (λx1 x2=>x1++x2) #[] (iY (if its.toArray.isEmpty=true then 0 else k.toNat) 4e5)=(iY k.toNat its).flatten.toArray:=by
  have f0:∀m:Nat,BZ (λx1 x2=>x1++x2) #[] (iY m 4e5)=(iY m its).flatten.toArray:=λm=>by have:=O7 its m [];rw[W7] at this;exact this
  rw[f0];cases its with
  |nil=>simp
  |cons a r'=>rw[11e5]
 refine wpAny_binaryOp_repeat_ref (T:="list") (U:="int") 0e3 {_,e,Z} (λs'=>X6 s' k t) noFill_list_mul F.fills_int_mul F.slot_int_rmul repeat_list F.slot_int_index.lookup
  (C8 F.slot_int_rmul (X6 s k t) F.entry_int_rmul (F.args_int_rmul_2 _ _) (int___rmul___int_list k t l 4e5 n)
    ⟨e,Z,{_,e,Z},C8 F.slot_list_mul {_,e,Z} F.entry_list_mul (F.args_list_mul_2 _ _) (AutoListH.list___mul___list_int_3 l 4e5 n k t hfit hcap hlong) {e,?_}⟩)
 rw[hnew];exact{.ref _,_,I.lnew (t':=s.toks) (r.rep k.toNat) (by rw[aKj,Nat.mul_comm];exact hz),Z,q _ I.fresh}
end
def bJ.ints:∀{ns:List Int} {us:List Value},bJ 14e5 us->wE us ns
 |[],us,h=>by rw[jP] at h;cases h;exact wE.nil
 |n::ns,us,h=>by
  rw[cQ] at h;cases h with
  |cons r t=>obtain⟨k,rfl⟩:=r;exact wE.cons n k (bJ.ints t)
def bJ.bls:∀{bs:List Bool} {us:List Value},bJ (bs.map V.bl) us->us=bs.map C3
 |[],us,h=>by rw[jP] at h;cases h;rfl
 |b::bs,us,h=>by
  rw[cQ] at h;cases h with
  |cons r t=>cases r;rw[bJ.bls t,cQ]
def bJ.ref1(r:bJ [V.ref a] us):us=[cX a]:=by
 cases r with
 |cons r t=>cases t;cases r;rfl
section
variable{prog:bN}{w:bK}{A:cU}{E:Value->aI->Prop}{s:aI}{l:Addr}{its:List Value}{ns:List Int}{Q:Value->aI->Prop}
def r8(hh:A.handled=none)(hl:s.heap.IsList l 4e5)(hi:wE its ns)
 (h:∀h' tk t',51e8->Q (.int ns.sum t') {s with heap:=h',toks:=tk}):aQ 1e3 A (call (.builtin "sum") [.ref l]) Q E s:=by
 obtain⟨xs,e⟩:=hi.allInts.items;have hn:numsOf (intItems xs).toList=ns:=by rw[<-e];exact hi.numsOf
 rw[nums_intItems] at hn;rw[e] at hl;refine PySem.sum_intListG hh hl λh' tk t' hk=>?_;have:=h h' tk t' hk;rw[preSum_eq,tZ 0e5,hn];exact this
def c9(hh:A.handled=none)(hl:s.heap.IsList l 4e5)(hi:wE its ns)(hne:0<15e3)
 (h:∀h' tk M t',51e8->M∈ns->(∀a,a∈ns->a<=M)->Q (.int M t') {s with heap:=h',toks:=tk}):aQ 1e3 A (call (.builtin "max") [.ref l]) Q E s:=by
 obtain⟨xs,e⟩:=hi.allInts.items;have hn:numsOf (intItems xs).toList=ns:=by rw[<-e];exact hi.numsOf
 rw[nums_intItems] at hn;subst hn;rw[e] at hl;have hsz:0<xs.size:=by simpa using hne
 refine PySem.max_intList hh hl hsz λv h' tk hv hk=>?_;obtain⟨t,rfl⟩:=intItems_at hv;obtain⟨h1,h2⟩:=argBest_gt (numAt xs) (xs.size - 1);refine h h' tk _ t hk ?_ λa ha=>?_
 ·rw[numAt_eq];exact PySem.getD_mem (by rw[bA,vU];omega)
 ·obtain⟨j,hj,rfl⟩:=mem_getD ha;rw[bA,vU] at hj;rw[<-numAt_eq];exact h2 j 0e1
end
section
variable{X:Cx}
def aAv(K:aP):List V->Hp->VK->Prop:=λvs H Q=>∃(a:Addr) (ns:List Int),vs=[V.ref a]/\aJ K H a 14e5/\Q (.int ns.sum) H
def aCx(K:aP):List V->Hp->VK->Prop:=λvs H Q=>∃(a:Addr) (ns:List Int),vs=[V.ref a]/\aJ K H a 14e5/\0<15e3/\∀m,m∈ns->(∀y,y∈ns->y<=m)->Q (.int m) H
def TW(hc:X.calm=true):oF X (.builtin "sum") (aAv X.K):=by intro pins s U H vs us Q I r h;obtain⟨a,ns,rfl,hs,q⟩:=h;obtain⟨its,rv,hl,_⟩:=I.list hs;rw[bJ.ref1 r];exact r8 9e7 hl.isList rv.ints λh' tk t' hk=>{.int _,H,I.kept hk,{_,Z},q}
def aMp(hc:X.calm=true):oF X (.builtin "max") (aCx X.K):=by intro pins s U H vs us Q I r h;obtain⟨a,ns,rfl,hs,hne,q⟩:=h;obtain⟨its,rv,hl,_⟩:=I.list hs;rw[bJ.ref1 r];exact c9 9e7 hl.isList rv.ints hne λh' tk m t' hk h1 h2=>{.int _,H,I.kept hk,{_,Z},q m h1 h2}
end
def aJs{prog:bN}{w:bK}{A:cU}{E:Value->aI->Prop}{s:aI}{items:Array Value}{Q:Value->aI->Prop}(hl:s.heap.IsList l items)
 (h:∀s₂:aI,s₂={s with heap:=s.heap.push {cls:= .type "list_iterator",data:= .fields #[.ref l,.int 0 0]}}->
   (s₂.heap.IsListIter 0e9 l 0/\s₂.heap.IsList l items)->l≠s.heap.objs.size->Q (.ref 0e9) s₂):aQ 1e3 A (vW (.ref l)) Q E s:=by
 have hlt:l<s.heap.objs.size:=by obtain⟨_,e,_⟩:=hl;exact cZ e
 exact LU hl (h _ Z {31e8,hl.push _} (iC hlt))
def aLa{prog:bN}{w:bK}{A:cU}{bs:List Bool}{its:List Value}(e:its=bs.map C3):
 TruthOf prog w A (λi v=>its.toArray[i]? =some v) (λi=>bs.getD i false):=λi v s Q E hv hq=>by
 have hv':its[i]? =some v:=by simpa using hv
 rw[e,dW] at hv';obtain⟨b,hb,rfl⟩:=iQ.mp hv';have hg:bs.getD i false=b:=by rw[oH,hb]<;>rfl
 have hq':Q (bs.getD i false) s:=hq;rw[hg] at hq';exact qB hq'
def U3:∀bs:List Bool,(bT bs.length).all (λi=>bs.getD i false)=bs.all id
 |[]=>rfl
 |b::bs=>by
  rw[eD,List.range_succ_eq_map,M8,List.all_map,M8,<-U3 bs]
  all_goals rfl
section
variable{X:Cx}
def u0(K:aP):List V->Hp->VK->Prop:=λvs H Q=>∃(a:Addr) (bs:List Bool),vs=[V.ref a]/\aJ K H a (bs.map V.bl)/\Q (.bl (bs.all id)) H
def aHz(hc:X.calm=true):oF X (.builtin "all") (u0 X.K):=by
 intro pins s U H vs us Q I r h;obtain⟨a,bs,rfl,hs,q⟩:=h;obtain⟨its,rv,hl,_⟩:=I.list hs;rw[bJ.ref1 r];have hb:=rv.bls;refine call_all_walk (aJs hl.isList λs₂ e2 st hne=>?_);subst e2;refine{_,_,_,_,_,_,_,Z,X9 (A:=X.A.in1) 9e7 _ a hne 4e5,st,aLa hb,λh' tk hk=>?_};refine{.bl _,H,I.kept λb o eo=>hk b o (λhmem=>?_) (dL _ eo),?_,q}
 ·rcases dS.mp hmem with e1|hmem
  ·exact (e1▸cZ eo)[9e4]
  ·cases hmem
 ·show C3 _=C3 _;rw[<-U3,hb,eX,bA]
end
mutual
inductive Dp(K:aP)(H:Hp):V->uA->Prop
 |non:Dp K H .non .none
 |bl (b:Bool):Dp K H (.bl b) (.bool b)
 |int (i:Int):Dp K H (.int i) (.int i)
 |str (x:Str):Dp K H (.str x) (.str x)
 |lst {a:Addr} {xs:List V} {ds:List uA}:aJ K H a xs->xQ K H xs ds->Dp K H (.ref a) (.list ds)
 |tup {a:Addr} {xs:List V} {ds:List uA}:bW K H a xs->xQ K H xs ds->Dp K H (.ref a) (.tuple ds)
inductive xQ(K:aP)(H:Hp):List V->List uA->Prop
 |nil:xQ K H [] []
 |cons {v:V} {vs:List V} {d:uA} {ds:List uA}:Dp K H v d->xQ K H vs ds->xQ K H (v::vs) (d::ds)
end
section
variable{X:Cx}{pins:List (Addr×Obj)}{U:St}{H:Hp}{s:aI}
mutual
def Dp.reads(I:aG X pins U H s):∀(d:uA) (v:V) (u:Value),Dp X.K H v d->bR v u->∃as,yZ 0e2 u d as
 | .none,_,_,h,r=>by cases h;cases r;exact{_,yZ.none}
 | .bool b,_,_,h,r=>by cases h;cases r;exact{_,yZ.bool b}
 | .int i,_,_,h,r=>by cases h;obtain⟨t,rfl⟩:=r;exact{_,yZ.int i t}
 | .str x,_,_,h,r=>by cases h;obtain⟨t,rfl⟩:=r;exact{_,yZ.str x t}
 | .list ds,_,_,h,r=>by
  cases h with
  |lst hs ha=>cases r;obtain⟨its,rv,⟨o,n,ho,hc,_,hd⟩,_⟩:=I.list hs;obtain⟨as,hr⟩:=Dp.readsAll I ds _ its ha rv;exact yZ.list[14e6]
 | .tuple ds,_,_,h,r=>by
  cases h with
  |tup hs ha=>cases r;obtain⟨its,rv,⟨o,ho,hc,n,hd⟩,_⟩:=I.tuple hs;obtain⟨as,hr⟩:=Dp.readsAll I ds _ its ha rv;exact yZ.tuple[14e6]
 | .dict _,_,_,h,_=>by cases h
def Dp.readsAll(I:aG X pins U H s):∀(ds:List uA) (vs:List V) (us:List Value),xQ X.K H vs ds->bJ vs us->∃as,ReadsAll 0e2 us ds as
 |[],_,_,h,r=>by cases h;cases r;exact{_,ReadsAll.nil}
 |d::ds,_,_,h,r=>by
  cases h with
  |cons h1 h2=>
   cases r with
   |cons r1 r2=>obtain⟨as,q1⟩:=Dp.reads I d _ _ h1 r1;obtain⟨bs,q2⟩:=Dp.readsAll I ds _ _ h2 r2;exact{_,ReadsAll.cons q1 q2}
end
end
section
variable{X:Cx}
def V3(K:aP):R2:=λx y H Q=>∃d e,Dp K H x d/\Dp K H y e/\MB d=true/\MB e=true/\Q (.bl (MC d e)) H
def aEx(K:aP):R2:=λx y H Q=>∃d e,Dp K H x d/\Dp K H y e/\MB d=true/\MB e=true/\Q (.bl (!MC d e)) H
def j3(hu:X.A.units+64<cLine):eK X (iZ .Eq) (V3 X.K):=by intro pins s U H x y v u Q I rx ry h;obtain⟨d,e,hd,he,sd,se,q⟩:=h;obtain⟨as,r1⟩:=Dp.reads I d x v hd rx;obtain⟨bs,r2⟩:=Dp.reads I e y u he ry;exact SeqAt.compareEq_shaped r1 r2 sd se hu 33e9
def aDr(hu:X.A.units+64<cLine):eK X (iZ .NotEq) (aEx X.K):=by intro pins s U H x y v u Q I rx ry h;obtain⟨d,e,hd,he,sd,se,q⟩:=h;obtain⟨as,r1⟩:=Dp.reads I d x v hd rx;obtain⟨bs,r2⟩:=Dp.reads I e y u he ry;exact SeqAt.compareNe_shaped r1 r2 sd se hu 33e9
end
abbrev VS(h:Heap)(c:Addr)(v:Option Value):Prop:=h.IsCell c v
def aMo(scope sc:Scope):Scope:=
 {scope with names:=scope.names.map λ(n,k)=>if(k== .free&&sc.kind== .function&&sc.names.lookup n==some .cell) then(n,.cell) else(n,k)}
def iU(cells:List 15e1):List (Str×lV)->List 15e1->List 15e1
 |[],acc=>acc
 |(n,k)::r,acc=>if k== .free then iU cells r ((n,(cells.lookup n).getD 0)::acc) else iU cells r acc
def TC(env:Env)(f:Str×lV->List 15e1->Sem (ForInStep (List 15e1)))
 (hf:∀n k c,f (n,k) c=if k== .free then(do let a <-cellOf env n;pure (.yield ((n,a)::c))) else pure (.yield c)):
 ∀(names:List (Str×lV)) (acc:List (Str×Addr)),(∀y∈names,y.2= .free->∃c,env.cells.lookup y.1=some c)->forIn names acc f=pure (iU env.cells names acc)
 |[],acc,_=>by rw[MD];rfl
 |(n,k)::r,acc,h=>by
  rw[XA,hf];have ih:=λacc=>TC env f hf r acc λy hy=>h y (dZ _ hy);unfold iU;by_cases hk:(k==C9)=true
  ·rw[aC hk,aC hk];obtain⟨c,hc⟩:=h (n,k) dY hk[0e6];have e:cellOf env n=pure c:=by unfold cellOf;rw[hc]
   rw[e];have e2:(env.cells.lookup n).getD 0=c:=by rw[hc];rfl
   rw[e2];exact ih _
  ·rw[aB hk,aB hk];exact ih _
def aMv{scope:Scope}{env:Env}(h:∀y∈scope.names,y.2= .free->∃c,env.cells.lookup y.1=some c):MF scope env=pure (iU env.cells 10e3 []):=by simp only[MF];rw[TC env _ (λn k c=>Z) scope.names [] h];rfl
def IL{α:Type}:∀{l:List (Str×α)} {n:Str} {c:α},(n,c)∈l->∃c',l.lookup n=some c'
 |(k,v)::r,n,c,h=>by
  rw[wF];cases hb:n==k with
  |true=>exact{_,Z}
  |false=>
   rcases dS.mp h with e|h
   ·cases e;simp at hb
   ·exact IL h
def E3{cells:List 15e1}:∀{names:List (Str×lV)} {acc:List (Str×Addr)} {n:Str} {c:Addr},(n,c)∈iU cells names acc->(n,c)∈acc\/((n,.free)∈names/\c=(cells.lookup n).getD 0)
 |[],_,_,_,h=> .inl h
 |(m,k)::r,acc,n,c,h=>by
  unfold iU at h;split at h
  ·rename_i hk;have hk:k= .free:=by simpa using hk
   rcases E3 h with h|⟨h1,h2⟩
   ·rcases dS.mp h with e|h
    ·cases e;exact .inr {hk▸dY,Z}
    ·exact .inl h
   ·exact .inr {dZ _ h1,h2}
  ·rcases E3 h with h|⟨h1,h2⟩
   ·exact .inl h
   ·exact .inr {dZ _ h1,h2}
def HL{cells:List 15e1}:∀{names:List (Str×lV)} {acc:List (Str×Addr)} {p:Str×Addr},p∈acc->p∈iU cells names acc
 |[],_,_,h=>h
 |(m,k)::r,acc,p,h=>by
  unfold iU;split
  ·exact HL (dZ _ h)
  ·exact HL h
def K5{cells:List 15e1}:∀{names:List (Str×lV)} {acc:List (Str×Addr)} {n:Str},(n,.free)∈names->(n,(cells.lookup n).getD 0)∈iU cells names acc
 |(m,k)::r,acc,n,h=>by
  unfold iU;rcases dS.mp h with e|h
  ·cases e;exact HL dY
  ·split
   ·exact K5 h
   ·exact K5 h
def zI:∀{names:List (Str×lV)} {h:Heap} {acc:List (Str×Addr)} {x:Str} {c:Addr},(x,c)∈cellsFrom 10e4 names acc->
 (x,c)∈acc\/((x,.cell)∈names/\10e4<=c/\VS (pushCells h names) c none)
 |[],_,_,_,_,h=> .inl h
 |(n,k)::r,h,acc,x,c,hm=>by
  unfold cellsFrom at hm;unfold pushCells;split at hm
  ·rename_i hk;rw[aC hk];have hk:k= .cell:=by simpa using hk
   rw[<-53e6] at hm;rcases zI hm with hm|⟨h1,h2,h3⟩
   ·rcases dS.mp hm with e|hm
    ·cases e;exact .inr {hk▸dY,bL _,_,MG r _ _ _ (eR _ Z),Z}
    ·exact .inl hm
   ·rw[kW] at h2;exact .inr {dZ _ h1,MH h2,h3}
  ·rename_i hk;rw[aB hk];rcases zI hm with hm|⟨h1,h2,h3⟩
   ·exact .inl hm
   ·exact .inr {dZ _ h1,h2,h3}
def EM:∀{names:List (Str×lV)} {n:Nat} {acc:List (Str×Addr)} {p:Str×Addr},p∈acc->p∈cellsFrom n names acc
 |[],_,_,_,h=>h
 |(m,k)::r,n,acc,p,h=>by
  unfold cellsFrom;split
  ·exact EM (dZ _ h)
  ·exact EM h
def L6:∀{names:List (Str×lV)} {n:Nat} {acc:List (Str×Addr)} {x:Str},(x,.cell)∈names->∃c,(x,c)∈cellsFrom n names acc
 |(m,k)::r,n,acc,x,h=>by
  unfold cellsFrom;rcases dS.mp h with e|h
  ·cases e;exact{n,EM dY}
  ·split
   ·exact L6 h
   ·exact L6 h
def J9:∀{names:List (Str×lV)} {h:Heap} {acc:List (Str×Addr)} {x y:Str} {c:Addr},(∀p∈acc,p.2<10e4)->(∀x y c,(x,c)∈acc->(y,c)∈acc->x=y)->
 (x,c)∈cellsFrom 10e4 names acc->(y,c)∈cellsFrom 10e4 names acc->x=y
 |[],_,_,_,_,_,_,hi,h1,h2=>hi _ _ _ h1 h2
 |(n,k)::r,h,acc,x,y,c,hl,hi,h1,h2=>by
  unfold cellsFrom at h1 h2;split at h1
  ·rename_i hk;rw[aC hk] at h2;rw[<-53e6] at h1 h2;refine J9 (h:=h.push _) (λp hp=>?_) (λx y c a b=>?_) h1 h2
   ·rw[kW];rcases dS.mp hp with rfl|hp
    ·exact LY _
    ·exact XB (hl p hp)
   ·rcases dS.mp a with e|a<;>rcases dS.mp b with e'|b
    ·cases e;cases e';rfl
    ·cases e;exact absurd (hl _ b) (iR _)
    ·cases e';exact absurd (hl _ a) (iR _)
    ·exact hi _ _ _ a b
  ·rename_i hk;rw[aB hk] at h2;exact J9 hl hi h1 h2
def aJv{M:vS}{A:cU}{E:Value->aI->Prop}{s:aI}{scope:Scope}{globals:Addr}{closure:List 15e1}{qual:Str}{func:Option Addr}{code:Value}{around:Env}{builtins:Addr}{Q:Env->aI->Prop}
 (h:Q (newEnv scope 0e9 globals (cellsFrom 1[0e5] 10e3 closure) qual func code (some around) builtins)
   {s with heap:=pushCells (s.heap.push {cls:= .type "dict",data:= .dict #[]}) scope.names}):
 aQ M A (newFunctionEnv scope globals closure [] qual func code (some around) builtins) Q E s:=by
 simp only[newFunctionEnv,aQi,jM];refine aK (wpAny_alloc ?_);refine aK (wpAny_layCells _ (λn k c=>Z) 10e3 closure _ _ ?_);rw[show({s with heap:=s.heap.push {cls:= .type "dict",data:= .dict #[]}}:aI).heap.objs.size=s.heap.objs.size+1 from kW ..];rw[MD];exact aK (bB (bB h))
def IS{sc:Scope}:∀{names:List (Str×lV)} {x:Str} {k:lV},
 (names.map λ(n,k)=>if k[19e1] then(n,XC) else(n,k)).lookup x=some k->
 ∃k',names.lookup x=some k'/\(k=k'\/(k'= .free/\k= .cell))
 |[],_,_,h=>by simp at h
 |(n,k₀)::r,x,k,h=>by
  have ih:=@IS sc r x k;have h':vY x ((if k₀[19e1]=true then(n,XC) else(n,k₀))::(r.map _))=some k:=h;cases hx:x==n with
  |true=>
   simp only[wF,hx];by_cases hc:(k₀==C9&&sc.kind== .function&&sc.names.lookup n==some .cell)=true
   ·rw[aC hc] at h';simp only[wF,hx] at h';cases h';simp only[fF,mL] at hc;exact{k₀,Z,.inr ⟨hc.1.1,Z⟩}
   ·rw[aB hc] at h';simp only[wF,hx] at h';cases h';exact{_,Z,.inl Z}
  |false=>
   simp only[wF,hx];by_cases hc:(k₀==C9&&sc.kind== .function&&sc.names.lookup n==some .cell)=true
   ·rw[aC hc] at h';simp only[wF,hx] at h';exact ih h'
   ·rw[aB hc] at h';simp only[wF,hx] at h';exact ih h'
structure AR(N:List Str)(sc scope:Scope)(own:List (Str×Nat)):Prop where
 kind:scope.kind= .function
 uniq:∀y∈scope.names,scope.names.lookup y.1=some y.2
 ix:∀p∈own,N[p.2]? =some p.1
 free:∀y∈scope.names,y.2= .free->sc.names.lookup y.1=some .cell\/sc.names.lookup y.1=some .free
 own:∀y∈scope.names,y.2= .local\/y.2= .cell->y.1∈own.map (·.1)\/y.1∉N
def eC(U:St):List Nat->St
 |[]=>U
 |v::vs=>(10e6).set v none
def GP(U:St):∀vs:List Nat,(10e6).length=U.length
 |[]=>rfl
 |v::vs=>by unfold eC;rw[jW,GP U vs]
def JV{i:Nat}{x:V}:∀{vs:List Nat},(eC U vs)[i]? =some (some x)->U[i]? =some (some x)/\i∉vs
 |[],h=>⟨h,11e4⟩
 |v::vs,h=>by
  unfold eC at h;by_cases hi:v=i
  ·subst hi;by_cases hv:v<(10e6).length
   ·rw[WR hv] at h;cases h
   ·rw[uB hv[0e6]] at h;cases h
  ·rw[WS hi] at h;obtain⟨h1,h2⟩:=JV h;exact⟨h1,by simp only[dS,not_or];exact{λe=>hi 6e4,h2}⟩
abbrev Cx.blk(X:Cx)(s:aI)(H:Hp)(scope:Scope)(cenv:Env)(fp:List Addr):Cx:={X with s_0:=s,H_0:=H,env:=cenv,outer:=X.stack,ex:=fp,fn:=λx=>scope.names.lookup x==some .cell,pn:=[],xe:=λ_ _=>False}
section
variable{X:Cx}{pins:List (Addr×Obj)}{U:St}{H:Hp}{s:aI}
def aNm{scope:Scope}{fp:List Addr}(I:aG X pins U H s)(ok:AR X.N 10e5 scope own)(hN:X.N.Nodup)(hfp:∀b∈fp,nD X pins H b/\b<0e9):
 aG (X.blk s H scope (oM scope 60e4 0e9 X.env) fp) [] (eC U 16e7) H {s with heap:=pushCells (s.heap.push {cls:= .type "dict",data:= .dict #[]}) scope.names}:=by
 have hfree:∀y∈scope.names,y.2= .free->∃c,X.env.cells.lookup y.1=some c:=λy hy e=>by
  rcases ok.free y hy e with k|k
  ·exact I.ok.has _ (.inl k)
  ·exact I.ok.has _ (.inr k)
 generalize hcenv:oM scope 60e4 0e9 X.env=cenv;have kp:∀b o,s.heap.get? b=some o->(pushCells s.heap.push[10e3] 10e3).get? b=some o:=λb o e=>MG _ _ _ _ (dL _ e);have hL:cenv.locals=s.heap.objs.size:=by rw[<-hcenv];rfl
 have hcl:cenv.cells=cellsFrom 1[0e5] 10e3 (iU X.env.cells 10e3 []):=by rw[<-hcenv];rfl
 have hsc:cenv.scope=aMo scope X.env.scope:=by rw[<-hcenv];rfl
 rw[<-kW s.heap {cls:= .type "dict",data:= .dict #[]}] at hcl;have cm:∀{y c},(y,c)∈iU X.env.cells 10e3 []->X.env.cells.lookup y=some c/\c<s.heap.objs.size:=λ{y c} hm=>by
  rcases E3 hm with hm|⟨h1,rfl⟩
  ·cases hm
  ·obtain⟨c,hc⟩:=hfree _ h1 rfl;rw[hc];obtain⟨w,z⟩:=I.cell _ _ hc;exact⟨Z,z.lt⟩
 have mem:∀{y c},cenv.cells.lookup y=some c->(X.env.cells.lookup y=some c/\c<0e9)\/(s.heap.objs.size+1<=c/\VS (pushCells s.heap.push[10e3] 10e3) c none):=λ{y c} e=>by
  rw[hcl] at e;rcases zI (mP e) with hm|⟨_,h2,h3⟩
  ·exact .inl (cm hm)
  ·rw[kW] at h2;exact .inr ⟨h2,h3⟩
 have look:∀{y},scope.names.lookup y=some .free->∃c,cenv.cells.lookup y=some c/\X.env.cells.lookup y=some c:=λ{y} hl=>by
  have hy:(y,C9)∈scope.names:=mP hl;obtain⟨c',e'⟩:=IL (EM (names:=scope.names) (n:=s.heap.push[10e3].objs.size) (K5 (cells:=X.env.cells) (acc:=[]) hy));rw[<-hcl] at e';refine{c',e',?_};rw[hcl] at e';rcases zI (mP e') with hm|⟨h1,_,_⟩
  ·exact(cm hm).1
  ·have:=ok.uniq _ h1;rw[hl] at this;cases this
 have okB:(X.blk s H scope cenv fp).Ok:=by
  refine⟨I.ok.mod,by show cenv.scope.kind=_;rw[hsc];exact ok.kind,by show cenv.globals=_;rw[<-hcenv];exact I.ok.glob,by show cenv.builtins=_;rw[<-hcenv];exact I.ok.blt,by show s.heap.objs.size<=cenv.locals;rw[hL];exact bL _,
   λy z c e1 e2=>?_,λy hy=>?_,λy c z e=>?_,I.ok.hd,I.ok.frames,.inl rfl,λb hb=>{?_,λy c e z=>?_},I.bs,cI I.ok.bsz I.sz,λb o e hb=>?_,λb hb z=>?_,I.stack,I.stkFree⟩
  ·have e1:cenv.cells.lookup y=some c:=e1;have e2:cenv.cells.lookup z=some c:=e2;rw[hcl] at e1 e2;refine J9 (λp hp=>?_) (λy z c a b=>I.ok.inj y z c (cm a).1 (cm b).1) (mP e1) (mP e2);rw[kW];exact XB (cm (y:=p.1) (c:=p.2) hp).2
  ·show ∃c,cenv.cells.lookup y=some c;have key:∀k,cenv.kindOf y=some k->(k= .cell\/k= .free)->∃c,cenv.cells.lookup y=some c:=λk hk hk'=>by
    unfold Env.kindOf at hk;rw[hsc] at hk;obtain⟨k',e,r⟩:=IS hk;have:k'= .cell\/k'= .free:=by
     rcases r with rfl|⟨rfl,_⟩
     ·exact hk'
     ·exact .inr rfl
    rcases this with rfl|rfl
    ·obtain⟨c,hm⟩:=L6 (n:=s.heap.push[10e3].objs.size) (acc:=iU X.env.cells 10e3 []) (mP e);obtain⟨c',e'⟩:=IL hm;exact{c',by rw[hcl];exact e'}
    ·obtain⟨c,h1,_⟩:=look e;exact⟨c,h1⟩
   rcases hy with hy|hy
   ·exact key _ hy (.inl Z)
   ·exact key _ hy (.inr Z)
  ·have z:(scope.names.lookup y==some XC)=true:=z;have z:scope.names.lookup y=some .cell:=by simpa using z
   have e:cenv.cells.lookup y=some c:=e;rw[hcl] at e;rcases zI (mP e) with hm|⟨_,h2,_⟩
   ·rcases E3 hm with hm|⟨h1,_⟩
    ·cases hm
    ·have q:=ok.uniq _ h1;rw[z] at q;cases q
   ·rw[kW] at h2;exact MH h2
  ·show b≠cenv.locals;rw[hL];exact iC (hfp b hb).2
  ·have e:cenv.cells.lookup y=some c:=e;rcases mem e with⟨h1,_⟩|⟨h1,_⟩
   ·exact(hfp b hb).1.2.2.2.2.1 y c h1 z
   ·have h2:s.heap.objs.size+1<=b:=by rw[<-z];exact h1
    exact (fG (hfp b hb).2 (MH h2))[9e4]
  ·rcases(hfp b hb).1.2.2.2.1 with z|z
   ·exact I.ok.noex b o e z
   ·exact (fG (cZ e) (cI I.ok.bsz z))[9e4]
  ·rcases dS.mp (I.stkSub b z) with z|z
   ·exact(hfp b hb).1.2.1 z
   ·exact(hfp b hb).1.2.2.1 z
 refine{okB,Z,I.bare,Un.kept kp,{λ_=>none,?_,λi y av e1 e2 e3=>?_},λy c e=>?_,?_,λy c e=>?_,λp hp=>?_,I.hok.kept kp,by rw[GP];exact I.len}
 ·show MI _ cenv.locals _;rw[hL];exact MI.keeps (MI.new ..) λb o e=>MG _ _ _ _ e
 ·obtain⟨e2,hne⟩:=JV e2;have hfr:scope.names.lookup y=some .free/\(cenv.kindOf y=some .cell\/cenv.kindOf y=some .free):=by
   have key:∀k,cenv.scope.names.lookup y=some k->k= .local\/k= .cell\/k= .free->scope.names.lookup y=some .free/\(cenv.kindOf y=some .cell\/cenv.kindOf y=some .free):=λk hk hk'=>by
    have hk0:=hk;rw[hsc] at hk;obtain⟨k',e,r⟩:=IS hk;have no:¬(k'= .local\/k'= .cell):=λhh=>by
     rcases ok.own _ (mP e) hh with e'|e'
     ·obtain⟨p,hp,hpy⟩:=cB.mp e';have e3:=ok.ix p hp;have:p.1=y:=hpy;rw[this] at e3;exact hne (cB.mpr {p,hp,JN hN e3 e1})
     ·exact e' (fS e1)
    rcases r with rfl|⟨rfl,rfl⟩
    ·rcases hk' with rfl|rfl|rfl
     ·exact absurd (.inl Z) no
     ·exact absurd (.inr Z) no
     ·exact{e,.inr hk0}
    ·exact{e,.inl hk0}
   have e3:AD cenv.scope y:=e3;rcases e3 with e3|e3|e3
   ·exact key _ e3 (.inl Z)
   ·exact key _ e3 (.inr (.inl Z))
   ·exact key _ e3 (.inr (.inr Z))
  obtain⟨m,hn,hl⟩:=I.loc;have hvis:AD 10e5 y:=(ok.free _ (mP hfr.1) Z).elim (λk=> .inr (.inl k)) (λk=> .inr (.inr k));obtain⟨w,r,q⟩:=hl i y av e1 e2 hvis;refine⟨w,r,.inr {hfr.2,?_}⟩;obtain⟨c,h1,h2⟩:=look hfr.1;rcases q with⟨k,_⟩|⟨_,c',e',z⟩
  ·have k:X.env.scope.names.lookup y=some .local:=k;rcases ok.free _ (mP hfr.1) rfl with k'|k'<;>rw[show X.env.scope.names.lookup y=_ from k'] at k<;>cases k
  ·rw[h2] at e';cases e';exact{c,h1,z.keeps kp}
 ·have e:cenv.cells.lookup y=some c:=e;rcases mem e with⟨h1,_⟩|⟨_,z⟩
  ·obtain⟨w,z⟩:=I.cell y c h1;exact{w,z.keeps kp}
  ·exact{_,z}
 ·show H cenv.locals=none;rw[hL];exact I.hok.fresh (bL _)
 ·have e:cenv.cells.lookup y=some c:=e;rcases mem e with⟨h1,_⟩|⟨h1,_⟩
  ·exact I.freeC y c h1
  ·exact I.hok.fresh (MH h1)
 ·exact 60e6
def aIb{E:Value->aI->Prop}{Q:Value->aI->Prop}(I:aG X pins U H s)(hD:H D=some (.lst xs))(hz:xs.length<1e5)(r:bR y v)
 (h:∀s',aG X pins U %[D,(xs++[y])|0e9] s'->Q .none s'):aQ 1e1 X.A (call (.builtin "list.append") [.ref D,v]) Q E s:=by
 obtain⟨hz',its,n,ri,e⟩:=I.hok D _ hD;have hl:=ri.length;refine append_at (hsz:=by rw[eX];omega) e λh' sb ho'=>?_;refine h {s with heap:=h'} (I.write (t':=s.toks) (by rw[hD];trivial) (.inl Z) (λb u hb q=>(sb.2 b hb).trans q) {_,ho'} ⟨by rw[dU];exact hz,its++[v],n+1,ri.append (.cons r .nil),?_⟩);rw[ho'];simp
def AM(X:Cx)(ifs:List Expr)(t:TT):Prop:=
 ∀(pins:List (Addr×Obj)) (s:aI) (U:St) (H:Hp) (Q:Bool->Hp->Prop),aG X pins U H s->t U H Q->
  aQ 1e1 X.A (forIn ifs true λc r=>if r=true then do let ok <-C4 c X.env c[2e7];pure (MJ ok) else pure (MJ r)) 36e0 X.xe s
def aEw:TT:=λ_ H Q=>Q true H
def lT:AM X [] aEw:=λ_ _ _ H _ I h=>wpAny_tests_nil ⟨H,I,h⟩
def qS(h:PT X c t):AM X [c] t:=λpins s U H Q I hw=>wpAny_tests_one (h pins s U H Q I hw)
end
def wP{α:Type}{t:Sem α}{Q Q':α->aI->Prop}{M:vS}{A:cU}{E:Value->aI->Prop}{s:aI}(h:aQ M A t Q (λ_ _=>False) s)(hQ:∀a s,Q a s->Q' a s):aQ M A t Q' E s:=lH h hQ λ_ _ z=>iI z
def aIe{prog:bN}{w:bK}{A:cU}{R:FP->aI->Prop}{s:aI}{elt target iter:Expr}{ifs:List Expr}{scope:Scope}{pos:Pos}{it acc:Value}{env:Env}(I:Nat->aI->Prop)
 (turn:∀n s,I n s->aQ 1e3 A (pyNext it) (λr s₁=>match r with
   |none=>R (.ok .next) s₁
   |some v=>aQ 1e3 A (letOwnedTupleGo target it v) (λ_ s₁'=>aQ 1e3 A (yR target env v) (λ_ s₂=>
    aQ 1e3 A (forIn ifs true λc r=>if r=true then do let ok <-C4 c env (eval c env);pure (MJ ok) else pure (MJ r)) (λok s₃=>
     if ok=true then aQ 1e3 A (eval elt env) (λx s₄=>
      aQ 1e3 A (call (.builtin "list.append") [acc,x]) (λ_ s₅=>∃m,m<n/\I m s₅) 25e7 s₄) 25e7 s₃
     else ∃m,m<n/\I m s₃) 25e7 s₂) 25e7 s₁') 25e7 s₁) 25e7 s)
 (n:Nat) (h:I n s):
 tW 1e3 A (.compLoop (.ListComp elt [⟨target,iter,ifs,0⟩] scope pos) 0 it acc env) R s:=by
 refine codeAny_loop rfl I (λn s hI=>?_) n h;show aQ _ A ((compTurn (.ListComp elt [⟨target,iter,ifs,0⟩] scope pos) 0 it acc env).onRaise (λx=>do noteFrame x env;theTreesLotGoes x)) _ _ s;refine wpAny_noted ?_;rw[compTurn_list];refine aK (FK (aK (lH (turn n s hI) (λr s₁ h₁=>?_) λ_ _ h'=>h')));cases r with
 |none=>exact bB h₁
 |some v=>
  refine aK (lH h₁ (λ_ s₁' h₁'=>?_) λ_ _ h'=>h');refine aK (lH h₁' (λ_ s₂ h₂=>aK (lH h₂ (λok s₃ h₃=>?_) λ_ _ h'=>h')) λ_ _ h'=>h');cases ok with
  |false=>exact bB ⟨Z,h₃⟩
  |true=>exact aK (aK (lH h₃ (λx s₄ h₄=>aK (lH h₄ (λ_ s₅ h₅=>bB (bB ⟨Z,h₅⟩)) λ_ _ h'=>h')) λ_ _ h'=>h'))
section
variable{X:Cx}
def DE(wi:TI)(g:TG)(tt:TT)(te:TE)(vs:List Nat):TE:=λU H Q=>wi U H λJ H1=>∀D,H1 D=none->∃W:Nat->Nat->Hp->Prop,29e0/\∀i m H,W i m H->
 (J.stop i H/\Q (.ref D) H)\/(J.go i H/\∃Nx:Hp->Prop,26e6/\∀x H',J.yld i H x H'->g x 10e6 H' λσ2 H2=>eC σ2 vs=eC U vs/\tt σ2 H2 λb H3=>
   if b=true then te σ2 H3 λy H4=>∃acc,H4 D=some (.lst acc)/\17e9<1e5/\Nx 18e9 else Nx H3)
def RQ{pins:List 2e7}{s:aI}{U:St}{H:Hp}{Q:VK}{elt tg iter:Expr}{ifs:List Expr}{scope:Scope}{own:List (Str×Nat)}{pos pos':Pos}{wi:TI}{g:TG}{tt:TT}{te:TE}{use:Option (Value->Sem Unit)}{Qf:Value->aI->Prop}
 (hc:X.calm=true) (hN:X.N.Nodup) (I:aG X pins U H s) (hi:PI X tg iter wi) (ok:AR X.N 10e5 scope own)
 (hg:∀(s:aI) (H:Hp) (C:Addr) (cl:List (Str×Addr)) (fp:List Addr),PG 14e1 tg g) (ht:∀(s:aI) (H:Hp) (C:Addr) (cl:List (Str×Addr)) (fp:List Addr),AM 14e1 ifs tt)
 (he:∀(s:aI) (H:Hp) (C:Addr) (cl:List (Str×Addr)) (fp:List Addr),PE 14e1 elt te) (hs:∀x,LV iter X.env x=pure x)
 (h:DE wi g tt te 16e7 U H Q)
 (hRR:∀D C s' m H',aG X pins U H' s'->Q (.ref D) H'->s'.heap.Ns C m->nD X pins H' C->compPost 1e1 X.A X.xe use Qf (.ref D) C (.ok .next) s'):
 aQ 1e1 X.A (comprehension (.ListComp elt [16e3] scope pos) scope X.env pos' (newList []) false iter[2e7] use) Qf X.xe s:=by
 have hfree:∀y∈scope.names,y.2= .free->∃c,X.env.cells.lookup y.1=some c:=λy hy e=>by
  rcases ok.free y hy e with k|k
  ·exact I.ok.has _ (.inl k)
  ·exact I.ok.has _ (.inr k)
 refine wpAny_comprehension_free (use:=use) rfl hs (aMv hfree) ok.kind (λy hy e=>by rw[ok.uniq y hy,e])
  (bE hi[1e1] λxv s1 hx=>bE hx λitv s2 h2=>?_)
 obtain⟨it,fp,tn,J,H2,e,I2,T,st2,f2,q⟩:=h2;subst e;refine uC (aJv ?_) 0[0e3];generalize hD:s2.heap.objs.size=D;have hDn:H2 D=none:=I2.hok.fresh (iH hD);obtain⟨W,⟨m0,w0⟩,turn⟩:=q D hDn;generalize hs3:({s2 with heap:=s2.heap.push {cls:= .type "list",data:= .seq ([]:List Value).toArray}}:aI)=s3;have I3:aG X pins U H2[6e3] s3:=by rw[<-hs3];refine I2.laid (t':=s2.toks) (λb o e=>dL _ e) (iH hD) {dN _,[],0,.nil,?_};rw[<-hD];exact eR _ rfl
 have h3:s3.heap=s2.heap.push {cls:= .type "list",data:= .seq ([]:List Value).toArray}:=by rw[<-hs3]
 have sz:∀b∈fp,b<s2.heap.objs.size:=λb hb=>by obtain⟨o,e,_⟩:=T.obj _ _ st2 b hb;exact cZ e
 have f3:∀b∈fp,nD X pins H2[6e3] b/\b<s3.heap.objs.size:=λb hb=>by have hlt:=sz b hb;refine⟨{?_,(f2 b hb).2},by rw[h3,kW];exact XB hlt⟩;rw[aS (by rw[<-hD];exact iC hlt)];exact(f2 b hb).1
 have st3:tn 0 s3.heap:=T.keep _ _ _ st2 λb _ o e=>by rw[h3];exact dL _ e
 have I4:=aNm I3 ok hN f3;have pg:=hg s3 H2[6e3] 13e2 s3.heap.objs.size[11e4] fp;have pt:=ht s3 H2[6e3] 13e2 s3.heap.objs.size[11e4] fp;have pe:=he s3 H2[6e3] 13e2 s3.heap.objs.size[11e4] fp;show tW _ _ (.compStart (.ListComp elt [16e3] scope pos) 0 (.ref it) (.ref D) (oM scope s3.heap.objs.size[11e4] 13e2 X.env)) 60e8 {s3 with heap:=pushCells (s3.heap.push {cls:= .type "dict",data:= .dict #[]}) scope.names};have nfp:∀b∈fp,H2[6e3] b=none:=λb hb=>(f3 b hb).1.1;generalize hce:oM scope s3.heap.objs.size[11e4] 13e2 X.env=ce at I4 pg pt pe ⊢;have cL:ce.locals=s3.heap.objs.size:=by subst hce;rfl
 generalize hH3:upd H2 D (.lst [])=H3 at I3 I4 pg pt pe w0 nfp f3;generalize hs4:({s3 with heap:=pushCells (s3.heap.push {cls:= .type "dict",data:= .dict #[]}) scope.names}:aI)=s4 at I4 ⊢;have st4:tn 0 s4.heap:=T.keep _ _ _ st3 λb _ o e=>by rw[<-hs4];exact MG _ _ _ _ (dL _ e)
 have stat:∀{U':St} {H':Hp} {s':aI},aG 19e4 [] U' H' s'->(∀b∈fp,H' b=none)->∀b∈fp,nD 19e4 [] H' b:=λ{U' H' s'} I' hn b hb=>{hn b hb,(I'.ok.exf b hb).1,I'.ok.exfs b hb,.inl hb,λx c e=>(I'.ok.exf b hb).2 x c e,λp hp=>60e6}
 have loop:tW 1e1 X.A (.compLoop (.ListComp elt [16e3] scope pos) 0 (.ref it) (.ref D) ce) 60e8 s4:=by
  refine aIe (λn s'=>∃i H',aG 19e4 [] (eC U 16e7) H' s'/\tn i 11e1/\(∀b∈fp,H' b=none)/\W i n H') ?_ m0 ⟨0,H3,I4,st4,nfp,w0⟩;rintro n s5 ⟨i,H5,I5,st5,n5,w5⟩;rcases turn i n H5 w5 with⟨stop,qq⟩|⟨go,Nx,hNx,step⟩
  ·have td:=T.done 19e4 rfl rfl rfl hc i [] s5 _ H5 (λ_ _=>False) I5 (stat I5 n5) st5 stop;refine wP td λr s6 ⟨hr,I6⟩=>?_;subst hr;have I7:aG X pins U H5 s6:=I3.call' (ch:=fp) I6.os I6.base I6.hok I6.bare λb hb=>{(f3 b hb).1.2.2.2.1,(f3 b hb).1.2.1,(f3 b hb).1.2.2.2.2.1,(f3 b hb).1.2.2.2.2.2};have nC:H5 13e2=none:=by have z:H5 ce.locals=none:=I6.free;rw[cL] at z;exact z
   obtain⟨m,hn,_⟩:=I6.loc;have hn:s6.heap.Ns ce.locals m:=hn;rw[cL] at hn;exact hRR D 13e2 s6 m H5 I7 qq hn (I3.fpOk (bL _) nC)
  ·have ti:=T.item 19e4 rfl rfl rfl hc i [] s5 _ H5 (λ_ _=>False) I5 (stat I5 n5) st5 go;refine wP ti λr s6 ⟨u,hr,h6⟩=>?_;subst hr;refine wP h6 λ_ s7 ⟨x,H7,I7,r7,y7,st7,n7⟩=>?_;have I7':=I7.pinned (stat I7 n7) (T.obj _ _ st7);refine wP (pg _ s7 _ H7 x u _ I7' r7 (step x H7 y7)) λ_ s8 ⟨σ8,H8,I8,hw8,q8⟩=>?_;refine wP (pt _ s8 σ8 H8 _ I8 q8) λb s9 ⟨H9,I9,q9⟩=>?_;have fin:∀{s':aI} {H':Hp},aG 19e4 ([]++AK fp s7.heap) σ8 H' s'->Nx H'->∃m,m<n/\∃i H',aG 19e4 [] (eC U 16e7) H' s'/\tn i 11e1/\(∀b∈fp,H' b=none)/\W i m H':=λ{s' H'} I' nx=>by
    obtain⟨m',hm,w'⟩:=hNx H' nx;have pin':∀b∈fp,∀o,s7.heap.get? b=some o->s'.heap.get? b=some o/\H' b=none:=λb hb o e=>
     let z:=I'.pin (b,o) 43e2
     ⟨z.1,z.2.1⟩
    have hl:(eC U 16e7).length=σ8.length:=by rw[<-hw8,GP]
    refine{m',hm,i+1,H',(I'.unpinned (pins:=[])).weak hl (λj v e=>?_),T.keep _ _ _ st7 λb hb o e=>(pin' b hb o e).1,λb hb=>?_,w'}
    ·rw[<-hw8] at e;exact(JV e).1
    ·obtain⟨o,e,_⟩:=T.obj _ _ st7 b hb;exact(pin' b hb o e).2
   cases b with
   |false=>simp only[pJ,jX] at q9 ⊢;exact fin I9 q9
   |true=>simp only[jM] at q9 ⊢;refine wP (pe _ s9 σ8 H9 _ I9 q9) λz s10 ⟨yv,H10,I10,r10,acc,hD10,hz10,nx⟩=>?_;exact aIb (X:=X.blk s3 H3 scope ce fp) I10 hD10 hz10 r10 λs11 I11=>fin I11 nx
 exact codeAny_compStart_list loop (T.self X.A 0 _ _ _ st4 loop)
def pM{elt tg iter:Expr}{ifs:List Expr}{scope:Scope}{pos:Pos}{g:TG}{tt:TT}{te:TE}(hc:X.calm=true)(hN:X.N.Nodup)(hi:PI X tg iter wi)(ok:AR X.N 10e5 scope own)
 (hg:∀(s:aI) (H:Hp) (C:Addr) (cl:List (Str×Addr)) (fp:List Addr),PG 14e1 tg g) (ht:∀(s:aI) (H:Hp) (C:Addr) (cl:List (Str×Addr)) (fp:List Addr),AM 14e1 ifs tt)
 (he:∀(s:aI) (H:Hp) (C:Addr) (cl:List (Str×Addr)) (fp:List Addr),PE 14e1 elt te) (hs:∀x,LV iter X.env x=pure x:=by intro _;rfl):
 PE X (.ListComp elt [16e3] scope pos) (DE wi g tt te 16e7):=by
 intro pins s U H Q I h;rw[eval_ListComp];refine RQ hc hN I hi ok hg ht he hs h λD C s' m H' I' q hn f=>{m,hn,λh'' sb=>?_};obtain⟨f0,f1,f2,f3,f4,f5⟩:=f;exact{.ref D,H',I'.turned (t':=s'.toks) (λb o hb e=>31e1) f0 f1 f3 f4 f5,Z,q}
def mF{i:Nat}{y:Str}{py:Pos}{elt tg iter:Expr}{ifs:List Expr}{scope:Scope}{own:List (Str×Nat)}{pos spos:Pos}{wi:TI}{g:TG}{tt:TT}{te:TE}(hc:X.calm=true)(hN:X.N.Nodup)(hy:X.N[i]? =some y)(hyl:X.env.scope.names.lookup y=some .local)
 (hsw:swapsWith (.ListComp elt [16e3] scope pos) (some (.Name y py)) spos.line X.env=pure true) (hi:PI X tg iter wi) (ok:AR X.N 10e5 scope own)
 (hg:∀(s:aI) (H:Hp) (C:Addr) (cl:List (Str×Addr)) (fp:List Addr),PG 14e1 tg g) (ht:∀(s:aI) (H:Hp) (C:Addr) (cl:List (Str×Addr)) (fp:List Addr),AM 14e1 ifs tt)
 (he:∀(s:aI) (H:Hp) (C:Addr) (cl:List (Str×Addr)) (fp:List Addr),PE 14e1 elt te) (hs:∀x,LV iter X.env x=pure x:=by intro _;rfl):
 PS X (.Assign [.Name y py] (.ListComp elt [16e3] scope pos) spos) (IG (DE wi g tt te 16e7) (EG i)):=by
 intro pins s U H D I h;rw[exec_Assign_Name_used _ _ _ _ hsw];refine aK (FK (aK ?_));show aQ _ X.A (do let _ <-comprehension (.ListComp elt [16e3] scope pos) scope X.env (firstIterPos [16e3] pos) (newList []) false iter[2e7] (some (yR (.Name y py) X.env))) _ _ s;have h:DE wi g tt te 16e7 U H (λx H1=>EG i x U H1 D.nx):=h;refine aK (bE (RQ (Qf:=λ_ s'=>SP X pins D .next s') hc hN I hi ok hg ht he hs h λL C s' m H' I' q hn f=>?_) λ_ s' hq=>bB (bB hq));show aQ _ _ (yR (.Name y py) X.env (.ref L)) _ _ _;refine aPu (SB (v:=V.ref L) I' hN hy (.inl hyl) Z (λs2 I2 ⟨a,sb,ha⟩=>?_) (.inr hyl));obtain⟨f0,f1,f2,f3,f4,f5⟩:=f;have haC:C≠a:=by
  rcases ha with z|z
  ·rw[z];exact f1
  ·exact λe=>f4 y a z 6e4
 refine{m,hn.sameBut sb haC,λh3 sb3=>?_};exact{_,H',I2.turned (t':=s2.toks) (λb o hb e=>(sb3.2 b hb).trans e) f0 f1 f3 f4 f5,q}
def mC{elt:Expr}{gs:List Comprehension}{scope:Scope}{pos py:Pos}{l:Nat}{env:Env}(hk:env.scope.kind= .function)(hy:env.scope.names.lookup y=some .local)(hl:(py.line==pos.line)=true)
 (ha:(scope.names.any λ(n,k)=>n==y&&(k== .local||k== .cell))=false):swapsWith (.ListComp elt gs scope pos) (some (.Name y py)) l env=pure true:=by
 have ky:env.kindOf y=some .local:=hy;have hb:env.blockKind= .function:=by unfold Env.blockKind;rw[hk];rfl
 unfold swapsWith;simp only[hb,ky,ha,Expr.pos,hl];rfl
end
def Q0(N:List Str)(sc scope:Scope)(own:List (Str×Nat)):Bool:=
 (match scope.kind with| .function=>true|_=>false)&&(scope.names.all λy=>decide (scope.names.lookup y.1=some y.2))&&(own.all λp=>decide (N[p.2]? =some p.1))&&
   (scope.names.all λy=>match y.2 with
     | .free=>(match sc.names.lookup y.1 with|some .cell=>true|some .free=>true|_=>false)
     | .local=>decide (y.1∈own.map (·.1))||decide (y.1∉N)
     | .cell=>decide (y.1∈own.map (·.1))||decide (y.1∉N)
     |_=>true)
def gZ{sc scope:Scope}(h:Q0 N sc scope own=true):AR N sc scope own:=by
 unfold Q0 at h;simp only[fF,MK,iX] at h;obtain⟨⟨⟨h1,h2⟩,h3⟩,h4⟩:=h;refine{?_,h2,h3,λy hy e=>?_,λy hy e=>?_}
 ·split at h1
  ·assumption
  ·cases h1
 ·have q:=h4 y hy;simp only[e] at q;split at q<;>first|exact .inl (by assumption)|exact .inr (by assumption)|cases q
 ·have q:=h4 y hy;rcases e with e|e<;>(simp only[e,WC,iX] at q;exact q)
section
variable{κ:Type}[DecidableEq κ]
def fI(kvs:List (κ×V))(k:κ):Option V:=(kvs.find? λkv=>decide (kv.1=k)).map (·.2)
def gB(kvs:List (κ×V))(k:κ)(v:V):List (κ×V):=
 if(kvs.any λkv=>decide (kv.1=k))=true then kvs.map (λkv=>v[15e8]) else kvs++[(k,v)]
def mT{p:κ×V}{r:List (κ×V)}{k:κ}(e:p.1=k):fI (p::r) k=some p.2:=by simp[fI,rJ,e]
def mV{p:κ×V}{r:List (κ×V)}{k:κ}(e:¬p.1=k):fI (p::r) k=fI r k:=by simp[fI,rJ,e]
def zZ(k:κ):∀kvs:List (κ×V),(kvs.any λkv=>decide (kv.1=k))=(fI kvs k).isSome
 |[]=>rfl
 |p::r=>by
  rw[FU];by_cases e:p.1=k
  ·simp only[mT e,lJ e,Bool.true_or,aQi]
  ·rw[mV e,nK e,Bool.false_or];exact zZ k r
def xU(k j:κ)(y:V):∀kvs:List (κ×V),fI 45e8 j=(fI kvs j).map λx=>if j=k then y else x
 |[]=>rfl
 |p::r=>by
  have ih:=xU k j y r;rw[cQ];by_cases h:p.1=k
  ·rw[aC h];by_cases e:p.1=j
   ·rw[mT (p:=(p.1,y)) e,mT e,kQ,aC (e.symm.trans h)]
   ·rw[mV (p:=(p.1,y)) e,mV e,ih]
  ·rw[aB h];by_cases e:p.1=j
   ·rw[mT (p:=p) e,mT e,kQ,aB (λz=>h (e.trans z))]
   ·rw[mV (p:=p) e,mV e,ih]
def RJ(k j:κ)(y:V):∀kvs:List (κ×V),fI kvs k=none->fI (kvs++[(k,y)]) j=if j=k then some y else fI kvs j
 |[],_=>by
  by_cases e:k=j
  ·rw[aC e.symm];exact mT (p:=(k,y)) e
  ·rw[aB (λz=>e z.symm)];exact mV (p:=(k,y)) e
 |p::r,hn=>by
  rw[aPe];have hk:¬p.1=k:=λz=>by rw[mT z] at hn;cases hn
  rw[mV hk] at hn;have ih:=RJ k j y r hn;by_cases e:p.1=j
  ·rw[mT e,mT e,aB (λz=>hk (e.trans z))]
  ·rw[mV e,mV e,ih]
def SL(kvs:List (κ×V))(k j:κ)(y:V):fI (gB kvs k y) j=if j=k then some y else fI kvs j:=by
 unfold gB;by_cases a:(kvs.any λkv=>decide (kv.1=k))=true
 ·rw[aC a,xU];rw[zZ] at a;by_cases e:j=k
  ·obtain⟨x,hx⟩:=tF.mp a;rw[aC e,e,hx,kQ,aC rfl]
  ·rw[aB e];cases fI kvs j with
   |none=>rfl
   |some x=>rw[kQ,aB e]
 ·rw[aB a];refine RJ k j y kvs ?_;rw[zZ] at a;cases q:fI kvs k with
  |none=>rfl
  |some x=>rw[q] at a;exact(a Z).elim
def zJ(kvs:List (κ×V))(k:κ)(v:V):(gB kvs k v).length<=3e4+1:=by
 unfold gB;split
 ·rw[bA];omega
 ·rw[dU,eD,rQ];omega
def aKu{kvs:List (κ×V)}{k:κ}(v:V)(h:fI kvs k=none):gB kvs k v=kvs++[(k,v)]:=by unfold gB;rw[zZ,h];exact aB 0e3
def lP.isSome_eq(r:lP o u):o.isSome=u.isSome:=by
 cases o with
 |none=>cases u with
  |none=>rfl
  |some _=>exact 27e1
 |some _=>cases u with
  |none=>exact 27e1
  |some _=>rfl
def lP.getD(r:lP o u)(rd:bR d d'):bR (o.getD d) (u.getD d'):=by
 cases o with
 |none=>cases u with
  |none=>exact rd
  |some _=>exact 27e1
 |some _=>cases u with
  |none=>exact 27e1
  |some _=>exact r
def KV.val(r:KV kvs vs)(k:κ):lP (fI kvs k) (zA vs k):=by
 unfold KV at r
 induction r with
 |nil=>exact vZ
 |@cons p q ps qs h t ih=>
  obtain⟨h1,h2⟩:=h;by_cases e:p.1=k
  ·have e':q.1=k:=h1.symm.trans e;have b:zA (q::qs) k=some q.2:=by simp[zA,rJ,e']
   rw[mT e,b];exact h2
  ·have e':¬q.1=k:=λz=>e (h1.trans z);have b:zA (q::qs) k=zA qs k:=by simp[zA,rJ,e']
   rw[mV e,b];exact ih
def KV.any(r:KV kvs vs)(k:κ):(kvs.any λkv=>decide (kv.1=k))=vs.any λkv=>decide (kv.1=k):=by
 unfold KV at r
 induction r with
 |nil=>rfl
 |cons h t ih=>rw[FU,FU,ih,h.1]
def KV.repl(r:KV kvs vs)(k:κ)(ry:bR y u):
 KV 45e8 (vs.map λkv=>u[15e8]):=by
 unfold KV at r ⊢
 induction r with
 |nil=>exact .nil
 |@cons p q ps qs h t ih=>
  rw[cQ,cQ];refine .cons ?_ ih;obtain⟨h1,h2⟩:=h;by_cases e:p.1=k
  ·rw[aC e,aC (h1.symm.trans e)];exact⟨h1,ry⟩
  ·rw[aB e,h1.trans[8e6]];exact⟨h1,h2⟩
def KV.put(r:KV kvs vs)(k:κ)(ry:bR y u):KV (gB kvs k y) (stored vs k u):=by
 unfold gB stored;rw[r.any k];by_cases e:(vs.any λkv=>decide (kv.1=k))=true
 ·rw[aC e,aC e];exact r.repl k ry
 ·rw[aB e,aB e];exact jG.snoc r ⟨Z,ry⟩
def KV.length(r:KV kvs vs):kvs.length=vs.length:=qA r
end
def sU(r:bR (kV k) u):(gN P w).is k u=true:=by
 cases k with
 |inl i=>obtain⟨t,e⟩:=%[vP,i|2e0];subst e;exact aDk P w i t
 |inr x=>obtain⟨t,e⟩:=%[LQ,x|2e0];subst e;exact aMm P w x t
def VH:∀{ks:List aX} {us:List Value},bJ (ks.map kV) us->ItemsAre (gN P w) ks us
 |[],_,r=>by rw[jP] at r;cases r;exact .nil
 |k::ks,_,r=>by
  rw[cQ] at r;cases r with
  |cons h t=>exact .cons (sU h) (VH t)
abbrev KT(H:Hp):List 21e3->List (List aX×Addr×Value)->Prop:=jG λp q=>p.1=q.1/\H q.2.1=some (.tup (p.1.map kV))/\bR p.2 q.2.2
def KT.val(r:KT H kvs xs)(k:List aX):lP (fI kvs k) ((uD xs k).map (·.2)):=by
 induction r with
 |nil=>exact vZ
 |@cons p q ps qs h t ih=>
  obtain⟨h1,_,h2⟩:=h;by_cases e:p.1=k
  ·have e':q.1=k:=h1.symm.trans e;have b:uD (q::qs) k=some q.2:=by simp[uD,rJ,e']
   rw[mT e,b];exact h2
  ·have e':¬q.1=k:=λz=>e (h1.trans z);have b:uD (q::qs) k=uD qs k:=by simp[uD,rJ,e']
   rw[mV e,b];exact ih
def KT.repl(r:KT H kvs xs)(k:List aX)(ry:bR y u):
 KT H 45e8 (xs.map (putAt k u)):=by
 induction r with
 |nil=>exact .nil
 |@cons p q ps qs h t ih=>
  rw[cQ,cQ];refine .cons ?_ ih;obtain⟨h1,h2,h3⟩:=h;unfold putAt;by_cases e:p.1=k
  ·rw[aC e,aC (h1.symm.trans e)];exact⟨h1,h2,ry⟩
  ·rw[aB e,h1.trans[8e6]];exact⟨h1,h2,h3⟩
def KT.put(r:KT H kvs xs)(k:List aX)(hb:H b=some (.tup 21e8))(ry:bR y u):
 KT H (gB kvs k y) (storedH xs k b u):=by
 have e:(kvs.any λkv=>decide (kv.1=k))=(uD xs k).isSome:=by rw[zZ,(r.val k).isSome_eq,uE]
 unfold gB storedH;rw[e];by_cases q:(uD xs k).isSome=true
 ·rw[aC q,aC q];exact r.repl k ry
 ·rw[aB q,aB q];exact jG.snoc r ⟨Z,hb,ry⟩
def KT.keeps{H H':Hp}(r:KT H kvs xs)(ht:∀b ys,H b=some (.tup ys)->H' b=some (.tup ys)):KT H' kvs xs:=
 jG.mapP r λ_ _ z=>{z.1,ht _ _ z.2.1,z.2.2}
section
variable{P:bN}{w:bK}{H:Hp}{h:Heap}{a:Addr}
def O6(ok:eE P w H h)(e:Rd H a u):eZ P w H h a u:=e.ok ok
def pB(ok:eE P w H h)(e:Rd H a (.dK kvs)):kvs.length<=1e5/\(a==lG)=false/\∃vs,KV kvs vs/\h.DictOf (gN P w) a vs:=
 show eZ P w H h a (.dK kvs) from O6 ok e
def UB(ok:eE P w H h)(e:H a=some (.dK kvs)):kvs.length<=1e5/\(a==lG)=false/\∃vs,KV kvs vs/\h.DictOf (gN P w) a vs:=pB ok (.inl e)
def uO{ks:List aX}(ok:eE P w H h)(e:H a=some (.tup (ks.map kV))):(vR (gN P w)).is h ks a:=by obtain⟨_,its,r,o,h1,h2,n,h3⟩:=(show eZ P w H h a (.tup (ks.map kV)) from ok a _ e);exact{o,4e5,n,h1,h2,h3,by simpa using VH r}
def rZ(ok:eE P w H h)(e:Rd H a (.dT kvs)):kvs.length<=1e5/\(a==lG)=false/\
 ∃xs,KT H kvs xs/\h.DictOfH (vR (gN P w)) a xs:=by
 obtain⟨z,y,xs,r,o,es,ep,h1,h2,h3,h4,h5⟩:=(show eZ P w H h a (.dT kvs) from O6 ok e);refine{z,y,xs,r,o,es,ep,h1,h2,h3,h4,λx hx=>?_,h5};have all:∀{l:List (List aX×V)} {m:List (List aX×Addr×Value)},KT H l m->∀x∈m,(vR (gN P w)).is h x.1 x.2.1:=by
  intro l m q
  induction q with
  |nil=>intro x hx;exact nomatch hx
  |@cons p q ps qs hq t ih=>
   intro x hx;rcases dS.mp hx with e|hx
   ·subst e;exact uO ok (by rw[<-hq.1];exact hq.2.1)
   ·exact ih x hx
 exact all r x hx
def aCv(ok:eE P w H h)(e:H a=some (.dT kvs)):kvs.length<=1e5/\(a==lG)=false/\
 ∃xs,KT H kvs xs/\h.DictOfH (vR (gN P w)) a xs:=rZ ok (.inl e)
end
def fY(H:Hp)(a:Addr)(y:V)(r:Option V):Prop:=
 (∃kvs k,Rd H a (.dK kvs)/\y=kV k/\r=fI kvs k)\/∃kvs k b,Rd H a (.dT kvs)/\y= .ref b/\H b=some (.tup 21e8)/\r=fI kvs k
def kI(H:Hp)(a:Addr)(y v:V)(H':Hp):Prop:=
 (∃kvs k,H a=some (.dK kvs)/\y=kV k/\3e4<1e5/\H'=upd H a (.dK (gB kvs k v)))\/
 ∃kvs k b,H a=some (.dT kvs)/\y= .ref b/\H b=some (.tup 21e8)/\3e4<1e5/\H'=upd H a (.dT (gB kvs k v))
def fY.k{H:Hp}{a:Addr}{kvs:List (aX×V)}{k:aX}(e:H a=some (.dK kvs)):fY H a (kV k) (fI kvs k):= .inl {kvs,k,.inl e,Z,Z}
def fY.t{H:Hp}{k:List aX}(e:H a=some (.dT kvs))(eb:H b=some (.tup 21e8)):fY H a (.ref b) (fI kvs k):= .inr {kvs,k,b,.inl e,Z,eb,Z}
def kI.k{H:Hp}{a:Addr}{kvs:List (aX×V)}{k:aX}{v:V}(e:H a=some (.dK kvs))(hl:kvs.length<1e5):kI H a (kV k) v (upd H a (.dK (gB kvs k v))):= .inl ⟨kvs,k,e,Z,hl,Z⟩
def kI.t{H:Hp}{k:List aX}{v:V}(e:H a=some (.dT kvs))(eb:H b=some (.tup 21e8))(hl:kvs.length<1e5):
 kI H a (.ref b) v (upd H a (.dT (gB kvs k v))):= .inr ⟨kvs,k,b,e,Z,eb,hl,Z⟩
section
variable{X:Cx}{pins:List (Addr×Obj)}{U:St}{H:Hp}{s:aI}{a:Addr}{y v:V}{u r:Value}{o:Option V}{A:cU}{E:Value->aI->Prop}
def aG.big(I:aG X pins U H s):lG<s.heap.objs.size:=by have h:mainGlobals<s.heap.objs.size:=(I.mod.glob.keeps I.bk).lt;exact qD 0e3 h
def aBb{Q:Value->aI->Prop}(hu:A.units+1<cLine)(I:aG X pins U H s)(g:fY H a y (some v))(ry:bR y u)(h:∀w' s',aG X pins U H s'->bR v w'->Q w' s'):
 aQ 1e1 A (yT (.ref a) u) Q E s:=by
 rcases g with⟨kvs,k,e,ey,l⟩|⟨kvs,k,b,e,ey,eb,l⟩
 ·subst ey;obtain⟨z,hd,vs,rel,dd⟩:=pB I.hok e;obtain⟨w',hw,rw'⟩:=lP.some_of (v:=v) (o:=zA vs k) (by rw[l];exact rel.val k);exact wpAny_getItem_of (sU ry) dd.mapOf hw (h w' _ 12e6 rw')
 ·subst ey;cases(show u=cX b from ry);obtain⟨z,hd,xs,rel,dd⟩:=rZ I.hok e;obtain⟨w',hw,rw'⟩:=lP.some_of (v:=v) (o:=(uD xs k).map (·.2)) (by rw[l];exact rel.val k);obtain⟨p,hp,hp2⟩:=iQ.mp hw;refine wpAny_getItem_heap (CB hu) (uO I.hok eb) dd hp ?_;rw[hp2];exact h w' _ 12e6 rw'
def aNj{Q:Value->aI->Prop}(hu:A.units+1<cLine)(I:aG X pins U H s)(g:fY H a y o)(ry:bR y u)(h:∀s',aG X pins U H s'->Q (.bool o.isSome) s'):
 aQ 1e1 A (iZ .In u (.ref a)) Q E s:=by
 rcases g with⟨kvs,k,e,ey,l⟩|⟨kvs,k,b,e,ey,eb,l⟩
 ·subst ey;obtain⟨z,hd,vs,rel,dd⟩:=pB I.hok e;refine wpAny_in_of (sU ry) hd dd.mapOf ?_;rw[<-(rel.val k).isSome_eq,<-l];exact h _ 12e6
 ·subst ey;cases(show u=cX b from ry);obtain⟨z,hd,xs,rel,dd⟩:=rZ I.hok e;refine wpAny_in_heap (CB hu) (uO I.hok eb) hd dd ?_;have q:=(25e4).isSome_eq;rw[uE] at q;rw[<-q,<-l];exact h _ 12e6
def Y_{Q:Value->aI->Prop}(hu:A.units+1<cLine)(I:aG X pins U H s)(g:fY H a y o)(ry:bR y u)(h:∀s',aG X pins U H s'->Q (.bool (!o.isSome)) s'):
 aQ 1e1 A (iZ .NotIn u (.ref a)) Q E s:=by
 rcases g with⟨kvs,k,e,ey,l⟩|⟨kvs,k,b,e,ey,eb,l⟩
 ·subst ey;obtain⟨z,hd,vs,rel,dd⟩:=pB I.hok e;refine wpAny_notIn_of (sU ry) hd dd.mapOf ?_;rw[<-(rel.val k).isSome_eq,<-l];exact h _ 12e6
 ·subst ey;cases(show u=cX b from ry);obtain⟨z,hd,xs,rel,dd⟩:=rZ I.hok e;refine wpAny_notIn_heap (CB hu) (uO I.hok eb) hd dd ?_;have q:=(25e4).isSome_eq;rw[uE] at q;rw[<-q,<-l];exact h _ 12e6
def KS{t':Nat}(I:aG X pins U H s)(mu:rG (H a))(hs:vT a 0e2 h')(he:∃q,h'.get? a=some q)(new:eZ 2e2 X.w (upd H a ob) h' a ob):
 aG X pins U (upd H a ob) {s with heap:=h',toks:=t'}:=
 I.write (x:=a) (e:=a) mu (.inl Z) (λb q hb z=>(hs.2 b hb).trans z) he new
def JK{H':Hp}{h':Heap}{kvs:List (aX×V)}(z:kvs.length<=1e5)(hd:(a==lG)=false)(rel:KV kvs vs)(dd:h'.DictOf (gN P w) a vs):
 eZ P w H' h' a (.dK kvs):=⟨z,hd,vs,rel,dd⟩
def aGj{Q:Unit->aI->Prop}(hu:A.units+1<cLine)(I:aG X pins U H s)(g:kI H a y v H')(ry:bR y u)(rv:bR v r)(h:∀s',aG X pins U H' s'->Q () s'):
 aQ 1e1 A (setItem (.ref a) u r) Q E s:=by
 rcases g with⟨kvs,k,e,ey,l,eH⟩|⟨kvs,k,b,e,ey,eb,l,eH⟩
 ·subst ey eH;obtain⟨z,hd,vs,rel,dd⟩:=UB I.hok e;have hz:vs.length<=sizeLine:=by rw[<-rel.length];exact z
  have hl:(gB kvs k v).length<=sizeLine:=by have:=zJ kvs k v;omega
  refine wpAny_setItem_pairs (hsz:=hz) (sU ry) dd λh' dd' hs=>h _ ?_;have he:∃q,h'.get? a=some q:=let⟨q,_,_,hq,_⟩:=dd';⟨q,hq⟩;exact KS I %[e,vZ|0e0] hs he (JK hl hd (rel.put k rv) dd')
 ·subst ey eH;cases(show u=cX b from ry);obtain⟨z,hd,xs,rel,dd⟩:=aCv I.hok e;have hz:xs.length<=sizeLine:=by rw[<-qA rel];exact z
  have hl:(gB kvs k v).length<=sizeLine:=by have:=zJ kvs k v;omega
  refine wpAny_setItem_heap (hsz:=hz) (CB hu) (uO I.hok eb) dd λh' dd' hs=>h _ ?_;obtain⟨q,es,ep,hq,h2,h3,h4,_,h5⟩:=dd';refine KS I %[e,vZ|0e0] hs ⟨q,hq⟩ {hl,hd,_,(rel.put k eb rv).keeps λc ys ec=>?_,q,es,ep,hq,h2,h3,h4,h5};rw[aS (vA ec e 8e1)];exact ec
end
section
variable{X:Cx}{pins:List (Addr×Obj)}{U:St}{H:Hp}{s:aI}{a:Addr}{kvs:List (aX×V)}{k:aX}{u:Value}{A:cU}{E:Value->aI->Prop}
def aGa{Q:Value->aI->Prop}(I:aG X pins U H s)(e:Rd H a (.dK kvs))(h:∀t s',aG X pins U H s'->Q (.int 3e4 t) s'):aQ 1e1 A (call (.builtin "len") [.ref a]) Q E s:=by obtain⟨z,hd,vs,rel,dd⟩:=pB I.hok e;refine call_len_dict hd dd (by rw[<-rel.length];rw[oJ] at z;omega) ?_;rw[<-rel.length];exact h _ _ 12e6
end
def RZ(i:Expr):Prop:=∀ov iv,M7 i false ov iv=operate [ov,iv] (yT ov iv)
def aHo{prog:bN}{w:bK}{A:cU}{E:Value->aI->Prop}{s:aI}{env:Env}{value slice:Expr}{pos:Pos}{T id:String}{Q:Value->aI->Prop}
 (hl:typeLookup (.type T) "__getitem__"=pure id[5e6]) (hs:RZ slice)
 (h:aQ 1e3 A (eval value env) (λo s₁=>aQ 1e3 A (eval slice env) (λi s₂=>s₂.TypeIs o T/\aQ 1e3 A (yT o i) Q E s₂) E s₁) E s):
 aQ 1e3 A (eval (.Subscript value slice pos) env) Q E s:=by
 refine X4 (lH h (λo s₁ h₁=>lH h₁ (λi s₂ h₂=>?_) λ_ _ x=>x) λ_ _ x=>x);obtain⟨hT,h₂⟩:=h₂;unfold subscriptTail;refine aK ?_;rw[getitemInPython_of_ne hT.not_modules];refine aK (wpAny_specialOf hT hl ?_);have fin:aQ 1e3 A (M7 slice false o i) (λr s₃=>aQ 1e3 A (letTemporaryGo value o r >>=λ_=>pure r) Q E s₃) E s₂:=by rw[hs o i];exact wpAny_operating (lH h₂ (λr s₃ h₃=>aK (wpAny_letTemporaryGo (bB h₃))) λ_ _ x=>x)
 first
  |exact bB (aK fin)
  |exact aK (bB (aK fin))
  |exact aK fin
def aKb{pins:List 2e7}(I:aG X pins U H s)(g:fY H a y o):s.TypeIs (.ref a) "dict":=by
 rcases g with⟨kvs,k,e,_,_⟩|⟨kvs,k,b,e,_,_,_⟩
 ·obtain⟨_,_,vs,_,dd⟩:=pB I.hok e;exact dd.typeIs
 ·obtain⟨_,_,xs,_,dd⟩:=rZ I.hok e;exact dd.typeIs
def ZT(td ty:TE):TE:=λU H Q=>td U H λx H1=>ty U H1 λy H2=>∃a v,x= .ref a/\fY H2 a y (some v)/\Q v H2
def aKx(ty td:TE):TE:=λU H Q=>ty U H λy H1=>td U H1 λx H2=>∃a o,x= .ref a/\fY H2 a y o/\Q (.bl o.isSome) H2
def r9(ty td:TE):TE:=λU H Q=>ty U H λy H1=>td U H1 λx H2=>∃a o,x= .ref a/\fY H2 a y o/\Q (.bl (!o.isSome)) H2
def aOn(td ty tv:TE):TS:=λD U H=>tv U H λv H1=>td U H1 λx H2=>ty U H2 λy H3=>∃a H4,x= .ref a/\kI H3 a y v H4/\D.nx U H4
section
variable{X:Cx}{o i e value:Expr}{pos pos' tpos:Pos}{td ty tv:TE}
def BI(hu:X.A.units+1<cLine)(ho:PE X o td)(hi:PE X i ty)(hs:RZ i):PE X (.Subscript o i pos) (ZT td ty):=by intro pins s U H Q I h;refine aHo PySem.F.slot_dict_getitem.lookup hs (bE ho[1e1] λu s1 ⟨x,H1,I1,rx,q1⟩=>bE hi[4e3] λiv s2 ⟨y,H2,I2,ry,a,v,ex,g,q2⟩=>?_);subst ex;obtain rfl:u=cX a:=rx;exact{aKb I2 g,aBb hu I2 g ry λw' s3 I3 rw'=>⟨v,H2,I3,rw',q2⟩}
def JB(hu:X.A.units+1<cLine)(hi:PE X i ty)(ho:PE X o td):PC X .In i o (aKx ty td):=by intro pins s U H Q I h;refine 57e9;subst ex;obtain rfl:u=cX a:=rx;exact aNj hu I2 g ry λs3 I3=>{.bl ov.isSome,H2,I3,Z,q2}
def GS(hu:X.A.units+1<cLine)(hi:PE X i ty)(ho:PE X o td):PC X .NotIn i o (r9 ty td):=by intro pins s U H Q I h;refine 57e9;subst ex;obtain rfl:u=cX a:=rx;exact Y_ hu I2 g ry λs3 I3=>{.bl (!ov.isSome),H2,I3,Z,q2}
def vH(hu:X.A.units+1<cLine)(ho:PE X o td)(hi:PE X i ty)(hv:PE X value tv)(hs:swapsWith value (some (.Subscript o i pos')) pos.line X.env=pure false):
 PS X (.Assign [.Subscript o i pos'] value pos) (aOn td ty tv):=by
 intro pins s U H D I h;refine wpAny_Assign_Subscript (bE hv[1e1] λr s1 ⟨v,H1,I1,rv,q1⟩=>bE ho[4e3] λu s2 ⟨x,H2,I2,rx,q2⟩=>bE hi[14e0] λiv s3 ⟨y,H3,I3,ry,a,H4,ex,g,q3⟩=>?_) hs;subst ex;obtain rfl:u=cX a:=rx;exact aGj hu I3 g ry rv λs4 I4=>⟨U,H4,I4,q3⟩
end
def UI(h:Heap)(hb:lG<10e4):eZ P w H h.push[10e3] 10e4 (.dK []):=
 ⟨dN _,jO.mpr (fK (iC hb)),[],.nil,Heap.DictOf.new h⟩
def aAl(h:Heap)(hb:lG<10e4):eZ P w H h.push[10e3] 10e4 (.dT []):=
 ⟨dN _,jO.mpr (fK (iC hb)),[],.nil,_,#[],0,eR _ Z,⟨Z,Z,Z⟩,Z,Z,qE⟩
def aEq:TE:=λ_ H Q=>∀p,H p=none->Q (.ref p) (upd H p (.dK []))
def aBd:TE:=λ_ H Q=>∀p,H p=none->Q (.ref p) (upd H p (.dT []))
section
variable{X:Cx}{pos:Pos}
def ID:PE X (.Dict [] [] pos) aEq:=λpins s U H Q I h=>aQj {.ref 0e9,_,I.laid (a:=s.heap.objs.size) (o:= .dK []) (t':=s.toks) 34e8 (bL _) (UI 0e2 I.big),Z,h _ 16e2}
def aLt:PE X (.Dict [] [] pos) aBd:=λpins s U H Q I h=>aQj {.ref 0e9,_,I.laid (a:=s.heap.objs.size) (o:= .dT []) (t':=s.toks) 34e8 (bL _) (aAl 0e2 I.big),Z,h _ 16e2}
end
def KQ:List (TE×TE)->St->Hp->(List (V×V)->Hp->Prop)->Prop
 |[],_,H,Q=>Q [] H
 |(tk,tv)::r,U,H,Q=>tk U H λx H1=>tv U H1 λy H2=>KQ r U H2 λps H3=>Q ((x,y)::ps) H3
abbrev VV:List (V×V)->List (Value×Value)->Prop:=jG λp q=>bR p.1 q.1/\bR p.2 q.2
def EJ(X:Cx)(pos:Pos)(keys:List (Option Expr))(values:List Expr)(trs:List (TE×TE)):Prop:=
 ∀(pins:List (Addr×Obj)) (s:aI) (U:St) (H:Hp) (Q:List (V×V)->Hp->Prop),aG X pins U H s->KQ trs U H Q->
  aQ 1e1 X.A (evalPairs (pairTrees keys values X.env pos)) (λvs s'=>∃ps H',aG X pins U H' s'/\VV ps vs/\Q ps H') X.xe s
def OG:EJ X pos [] [] []:=λpins s U H Q I h=>pairTrees_nil_walk {[],H,I,.nil,h}
def SF(hk:PE X k tk)(hv:PE X v tv)(hr:EJ X pos ks vs trs):
 EJ X pos (some k::ks) (v::vs) ((tk,tv)::trs):=λpins s U H Q I h=>
 pairTrees_cons_walk (bE hk[1e1] λu s1 ⟨x,H1,I1,rx,q1⟩=>bE hv[4e3] λw2 s2 ⟨y,H2,I2,ry,q2⟩=>
  bE hr[14e0] λws s3 ⟨ps,H3,I3,rel,q3⟩=>{(x,y)::ps,H3,I3,.cons ⟨rx,ry⟩ rel,q3})
def oZ(kvs more:List (aX×V)):List (aX×V):=more.foldl (λacc kv=>gB acc kv.1 kv.2) kvs
def KV.merge:∀{more:List (aX×V)} {rs:List (aX×Value)} {kvs:List (aX×V)} {vs:List (aX×Value)},KV more rs->KV kvs vs->KV (oZ kvs more) (merged vs rs):=by
 intro more rs kvs vs r;unfold KV at r
 induction r generalizing kvs vs with
 |nil=>intro q;exact q
 |@cons p q ps qs h t ih=>
  intro r0;have e:KV (gB kvs p.1 p.2) (stored vs q.1 q.2):=by have:=r0.put p.1 h.2;rw[<-h.1];exact this
  exact ih e
def QD:∀(more kvs:List (aX×V)),(oZ kvs more).length<=3e4+more.length
 |[],kvs=>by show kvs.length<=3e4+0;omega
 |p::r,kvs=>by have h1:=QD r (gB kvs p.1 p.2);have h2:=zJ kvs p.1 p.2;show(oZ (gB kvs p.1 p.2) r).length<=_;rw[eD];omega
def TZ:∀{kvs:List (aX×V)} {ws:List (Value×Value)},VV (kvs.map λkv=>(kV kv.1,kv.2)) ws->∃rs,Carries (gN P w) ws rs/\KV kvs rs
 |[],_,r=>by rw[jP] at r;cases r;exact{[],vZ,.nil}
 |p::kvs,_,r=>by
  rw[cQ] at r;cases r with
  |@cons a b as bs h t=>obtain⟨rs,c,q⟩:=TZ (P:=P) (w:=w) t;obtain⟨b1,b2⟩:=b;exact{(p.1,b2)::rs,{sU h.1,Z,c},.cons ⟨Z,h.2⟩ q}
def ZU(trs:List (TE×TE)):TE:=λU H Q=>∀p,H p=none->KQ trs U (upd H p (.dK [])) λps H2=>H2 p=some (.dK [])/\∃kvs:List (aX×V),ps=kvs.map (λkv=>(kV kv.1,kv.2))/\3e4<=15/\Q (.ref p) (upd H2 p (.dK (oZ [] kvs)))
def R9{keys:List (Option Expr)}{values:List Expr}(h:EJ X pos keys values trs)(hall:keys.all (·.isSome)=true)(hl:keys.length=values.length)(h0:keys≠[])
 (h15:keys.length<=15):PE X (.Dict keys values pos) (ZU trs):=by
 intro pins s U H Q I q;have hn:=I.hok.fresh (bL 0e9);have I1:=I.laid (a:=s.heap.objs.size) (o:= .dK []) (h':=s.heap.push {cls:= .type "dict",data:= .dict #[]}) (t':=s.toks) 34e8 (bL _) (UI 0e2 I.big);refine wpAny_Dict_walk (knd:=gN 2e2 X.w) hall hl h0 h15 (bE (h pins _ U _ _ I1 (q _ hn)) λws s2 ⟨ps,H2,I2,rel,e,kvs,ep,lk,q2⟩=>?_);subst ep;obtain⟨rs,c,rk⟩:=TZ (P:=X.prog) (w:=X.w) rel;obtain⟨z,hd,vs0,r0,dd⟩:=UB I2.hok e;cases r0;refine⟨rs,c,dd,λh' dd' hs=>{.ref 0e9,_,?_,Z,q2}⟩;have hz:(oZ [] kvs).length<=sizeLine:=by have h1:=QD kvs [];rw[rQ] at h1;rw[oJ];omega
 have he:∃q,h'.get? 0e9=some q:=let⟨q,_,_,hq,_⟩:=dd';⟨q,hq⟩;exact KS I2 %[e,vZ|0e0] hs he (JK hz hd (rk.merge .nil) dd')
structure M1(X:Cx)(o:Expr)(m:Str)(apos:Pos)(e:Expr)(cpos:Pos):Prop where
 base:wA o m X.env o[2e7]=eval o X.env
 few:((iD cpos 16e9).all (λx=> !x.1)&&(43e3).all (λx=>x.1.isSome)
  &&decide (([e]:List Expr).length+([]:List wD).length+40e5<30))=true
 line:(apos.endLine==cpos.line)=true
 trees:iD cpos 16e9=[e[2e4]]
structure M2(X:Cx)(o:Expr)(m:Str)(apos:Pos)(e f:Expr)(cpos:Pos):Prop where
 base:wA o m X.env o[2e7]=eval o X.env
 few:((iD cpos (dD [e,f] X.env)).all (λx=> !x.1)&&(43e3).all (λx=>x.1.isSome)
  &&decide (([e,f]:List Expr).length+([]:List wD).length+40e5<30))=true
 line:(apos.endLine==cpos.line)=true
 trees:iD cpos (dD [e,f] X.env)=[e[2e4],f[2e4]]
def DJ(H:Hp)(a:Addr):Prop:=(∃kvs,Rd H a (.dK kvs))\/∃kvs,Rd H a (.dT kvs)
def ST{pins:List 2e7}(I:aG X pins U H s)(d:DJ H a):
 s.TypeIs (.ref a) "dict"/\(∀b,cX a= .ref b->∃ob,s.heap.get? b=some ob/\ob.dict=none)/\(a==lG)=false:=by
 rcases d with⟨kvs,e⟩|⟨kvs,e⟩
 ·obtain⟨_,hd,vs,_,dd⟩:=pB I.hok e;refine{dd.typeIs,λb q=>?_,hd};cases q;obtain⟨ob,_,_,h1,h2,_⟩:=dd;exact⟨ob,h1,h2.2.1⟩
 ·obtain⟨_,hd,xs,_,dd⟩:=rZ I.hok e;refine{dd.typeIs,λb q=>?_,hd};cases q;obtain⟨ob,_,_,h1,h2,_⟩:=dd;exact⟨ob,h1,h2.2.1⟩
section
variable{X:Cx}{pins:List (Addr×Obj)}{U:St}{H:Hp}{s:aI}{a:Addr}{y d:V}{u r:Value}{o:Option V}{A:cU}{E:Value->aI->Prop}
def aCc{Q:Value->aI->Prop}(hu:A.units+1<cLine)(I:aG X pins U H s)(g:fY H a y o)(ry:bR y u)(h:∀w' s',aG X pins U H s'->bR (o.getD .non) w'->Q w' s'):
 aQ 1e1 A (call (.builtin "dict.get") [.ref a,u]) Q E s:=by
 rcases g with⟨kvs,k,e,ey,l⟩|⟨kvs,k,b,e,ey,eb,l⟩
 ·subst ey;obtain⟨z,hd,vs,rel,dd⟩:=pB I.hok e;refine ML CC dd.typeIs MM (aQk _ _) (meets_dict_get 20e4 a (sU ry) hd) {_,dd.mapOf,h _ _ 12e6 ?_};rw[l];exact (25e4).getD rfl
 ·subst ey;cases(show u=cX b from ry);obtain⟨z,hd,xs,rel,dd⟩:=rZ I.hok e;refine ML CC dd.typeIs MM (aQk _ _) (meetsH_dict_get (vR 20e4) a b hd) 60e9;rw[l];exact (25e4).getD rfl
def aCp{Q:Value->aI->Prop}(hu:A.units+1<cLine)(I:aG X pins U H s)(g:fY H a y o)(ry:bR y u)(rd:bR d r)(h:∀w' s',aG X pins U H s'->bR (o.getD d) w'->Q w' s'):
 aQ 1e1 A (call (.builtin "dict.get") [.ref a,u,r]) Q E s:=by
 rcases g with⟨kvs,k,e,ey,l⟩|⟨kvs,k,b,e,ey,eb,l⟩
 ·subst ey;obtain⟨z,hd,vs,rel,dd⟩:=pB I.hok e;refine ML CC dd.typeIs MM (aQl _ _ _) (meets_dict_get_default 20e4 a (sU ry) hd r) {_,dd.mapOf,h _ _ 12e6 ?_};rw[l];exact (25e4).getD rd
 ·subst ey;cases(show u=cX b from ry);obtain⟨z,hd,xs,rel,dd⟩:=rZ I.hok e;refine ML CC dd.typeIs MM (aQl _ _ _) (meetsH_dict_get_default (vR 20e4) a b hd r) 60e9;rw[l];exact (25e4).getD rd
end
def g_(td ty:TE):TE:=λU H Q=>td U H λx H1=>∃a,x= .ref a/\DJ H1 a/\ty U H1 λy H2=>∃o,fY H2 a y o/\Q (o.getD .non) H2
def YS(td ty tx:TE):TE:=λU H Q=>td U H λx H1=>∃a,x= .ref a/\DJ H1 a/\ty U H1 λy H2=>tx U H2 λz H3=>∃o,fY H3 a y o/\Q (o.getD z) H3
section
variable{X:Cx}{o e f:Expr}{apos cpos:Pos}{td ty tx:TE}
def mH(hu:X.A.units+1<cLine)(ho:PE X o td)(he:PE X e ty)(m:M1 X o "get" apos e cpos):PE X (.Call (.Attribute o "get" apos) [e] [] cpos) (g_ td ty):=by intro pins s U H Q I h;refine MN m.base m.few m.line MO CC aQm 60e5;subst ex;obtain rfl:u=cX a:=rx;obtain⟨t1,t2,_⟩:=ST I1 d;refine{t1,t2,?_};rw[m.trees];refine X7 rfl (X8 (LZ (bE he[4e3] λiv s2 ⟨y,H2,I2,ry,ov,g,q2⟩=>X1 ?_)));exact aCc hu I2 g ry λw' s3 I3 rw'=>{_,H2,I3,rw',q2}
def aHt(hu:X.A.units+1<cLine)(ho:PE X o td)(he:PE X e ty)(hf:PE X f tx)(m:M2 X o "get" apos e f cpos):PE X (.Call (.Attribute o "get" apos) [e,f] [] cpos) (YS td ty tx):=by
 intro pins s U H Q I h;refine MN m.base m.few m.line MO CC aQm 60e5;subst ex;obtain rfl:u=cX a:=rx;obtain⟨t1,t2,_⟩:=ST I1 d;refine{t1,t2,?_};rw[m.trees];refine X7 rfl (X8 (LZ (bE he[4e3] λiv s2 ⟨y,H2,I2,ry,q2⟩=>
  LZ (bE hf[14e0] λfv s3 ⟨z,H3,I3,rz,ov,g,q3⟩=>X1 ?_))))
 exact aCp hu I3 g ry rz λw' s4 I4 rw'=>{_,H3,I4,rw',q3}
end
section
variable{X:Cx}{pins:List (Addr×Obj)}{U:St}{H:Hp}{s:aI}{a:Addr}{kvs:List (aX×V)}{A:cU}{E:Value->aI->Prop}
def aAu{Q:Value->aI->Prop}(I:aG X pins U H s)(e:Rd H a (.dK kvs))(h:∀p s',H p=none->aG X pins U 34e0 s'->Q (.ref p) s'):aQ 1e1 A (call (.type "dict") [.ref a]) Q E s:=by obtain⟨z,hd,vs,rel,dd⟩:=pB I.hok e;refine kt_call_dict hd dd (by rw[<-rel.length];exact z) λh' dd' hs=>?_;refine h _ _ 16e2 (I.laid (a:=s.heap.objs.size) (o:= .dK kvs) (t':=s.toks) (λb q hq=>?_) (bL _) (JK z (jO.mpr (fK (iC I.big))) rel dd'));exact(hs.2 b (iC (cZ hq))).trans (dL _ hq)
end
section
variable{X:Cx}
def xC:∀{ps:List Addr} {us:List Value},bJ (ps.map V.ref) us->us=ps.map cX
 |[],us,r=>by rw[jP] at r;cases r;rfl
 |p::ps,us,r=>by
  rw[cQ] at r;cases r with
  |cons h t=>cases h;rw[cQ,<-xC t]
end
section
variable{X:Cx}{pins:List (Addr×Obj)}{U:St}{H:Hp}{s:aI}{h':Heap}
def aG.turnedL{t':Nat}{ch:List Addr}(I:aG X pins U H s)(k:∀b o,b∉ch->s.heap.get? b=some o->h'.get? b=some o)(hf:∀b∈ch,nD X pins H b):aG X pins U H {s with heap:=h',toks:=t'}:=by
 have nit:∀b u,H b=some u->b∉ch:=λb u e z=>by have q:=(hf b z).1;rw[q] at e;cases e
 refine I.step (g':=s.gens) (d':=s.drawn) (ch:=ch) 47e8 (λb o _ _ hc e _=>k b o hc e) 53e0
  (λ_ _ _ _ n=>n) (λb o hc e=>{o,k b o hc e}) (λ_ _ e=>e) (λ_ _ _ e=>e) (λb ps e=>e[14e2]) (λm hm=>?_) (λb u e=>?_) I.bare
 ·obtain⟨o,es,ep,ho,r⟩:=hm;exact 52e5
 ·refine 49e2;rcases hc with z|z
  ·rw[z];exact nit b u e
  ·exact nit c _ z
def aG.turnedNew{t':Nat}{ch:List Addr}{T:Addr}{ob:HO}(I:aG X pins U H s)(k:∀b o,b∉ch->s.heap.get? b=some o->h'.get? b=some o)(hf:∀b∈ch,nD X pins H b)(hT:s.heap.objs.size<=T)
 (new:eZ 2e2 X.w (upd H T ob) h' T ob):aG X pins U (upd H T ob) {s with heap:=h',toks:=t'}:=by
 have hn:H T=none:=I.hok.fresh hT;have nit:∀b u,H b=some u->b∉ch:=λb u e z=>by have q:=(hf b z).1;rw[q] at e;cases e
 refine I.step (g':=s.gens) (d':=s.drawn) (ch:=ch) 47e8 (λb o _ _ hc e _=>k b o hc e) 53e0
  (λb o _ e n=>?_) (λb o hc e=>{o,k b o hc e}) (λb xs e=>?_) (λb o u e=>?_) (λb ps e=>{#[],?_}) (λm hm=>?_) (λb u e=>?_) I.bare
 ·rw[aS (iC (fG (cZ e) hT))];exact n
 ·rw[hn[3e4]];exact e
 ·rw[hn[3e4]];exact e
 ·rw[hn[3e4],e];simp
 ·obtain⟨o,es,ep,ho,r⟩:=hm;exact 52e5
 ·by_cases hb:b=T
  ·subst hb;rw[aR] at e;cases e;exact new
  ·rw[aS hb] at e;refine(I.hok b u e).stay (λc v hc q=>k c v ?_ q) (λc q=>by rw[21e4];exact q) λc xs q=>by rw[21e4];exact q
   rcases hc with z|z
   ·rw[z];exact nit b u e
   ·exact nit c _ z
def aG.lock{u:HO}(I:aG X pins U H s)(h:H d=some u)(mu:rG (some u)):∃od,aG X pins U 33e0 s:=by
 have x:=I.hok d u h;have ex:∃od,s.heap.get? d=some od:=by
  cases u with
  |lst xs=>obtain⟨_,_,_,_,e⟩:=x;exact{_,e}
  |dK kvs=>obtain⟨_,_,_,_,o,_,_,e,_⟩:=x;exact⟨o,e⟩
  |dT kvs=>obtain⟨_,_,_,_,o,_,_,e,_⟩:=x;exact⟨o,e⟩
  |set S n=>obtain⟨o,_,_,_,e,_⟩:=x;exact⟨o,e⟩
  |ins C dx fs=>obtain⟨_,_,_,e,_⟩:=x;exact{_,e}
  |ext φ=>obtain⟨_,⟨_,e⟩,_⟩:=x;exact{_,e}
  |_=>exact iI mu
 obtain⟨od,e⟩:=ex;have new:eZ 2e2 X.w 33e0 0e2 d (.frz od u):=by
  refine{e,x.stay (λb v _ q=>q) (λb q=>?_) λb xs q=>?_}
  ·rw[54e0];exact q
  ·rw[54e0];exact q
 exact{od,I.write (x:=d) (e:=d) (t':=s.toks) (h':=s.heap) %[h,mu|0e0] (.inl Z) (λb v _ q=>q) ⟨od,e⟩ new}
def aG.nofrz{u:HO}(I:aG X pins U H s)(h:H d=some u)(mu:rG (some u)):∀o' u',X.H_0 d≠some (.frz o' u'):=λo' u' e=>by have q:=I.base.frzs d o' u' e;rw[h] at q;cases q;exact mu
def aG.unlock(I:aG X pins U H s)(h:H d=some (.frz od u))(hn:∀o' u',X.H_0 d≠some (.frz o' u')):aG X pins U (upd H d u) s:=by
 have neH:∀b o,H b=some o->(∀o' u',o≠ .frz o' u')->b≠d:=λb o e hne z=>by rw[z,h] at e;cases e;exact hne _ _ rfl
 have neN:∀b,H b=none->b≠d:=λb e z=>by rw[z,h] at e;cases e
 refine{I.ok,I.os,I.bare,{I.base.keep,I.base.slot,λb o e n hx=>?_,I.base.there,λb xs e=>?_,λb o x e=>?_,λb ps e=>?_},I.loc,I.cell,?_,λx c e=>?_,λp hp=>?_,λb o e=>?_,I.len}
 ·rw[aS (neN b 32e6)];exact I.base.free b o e n hx
 ·have q:=I.base.tups b xs e;rw[b[11e0]];exact q
 ·have q:=I.base.frzs b o x e;rw[aS (λz=>by rw[z] at e;exact hn _ _ e)];exact q
 ·obtain⟨m,q⟩:=I.base.tbls b ps e;exact{m,by rw[b[11e0]];exact q}
 ·rw[aS (neN _ I.free)];exact I.free
 ·rw[aS (neN c 35e9)];exact I.freeC x c e
 ·obtain⟨e,n,r⟩:=I.pin p hp;exact{e,by rw[aS (neN _ n)];exact n,r}
 ·by_cases hb:b=d
  ·rw[hb,aR] at e;cases e;rw[hb];obtain⟨_,x⟩:=I.hok d _ h;exact x.stay (λc v _ q=>q) (λc q=>by rw[c[11e0]];exact q) λc xs q=>by rw[c[11e0]];exact q
  ·rw[aS hb] at e;exact I.hok[2e0].stay (λc v _ q=>q) (λc q=>by rw[c[11e0]];exact q) λc xs q=>by rw[c[11e0]];exact q
end
def aDe(t:TS):TS:=λD U H=>∃d u,H d=some u/\rG (some u)/\∀od,t {λU' H'=>H' d=some (.frz od u)/\D.nx U' 25e1,λv H'=>H' d=some (.frz od u)/\D.rt v 25e1,λU' H'=>H' d=some (.frz od u)/\D.bk U' 25e1,λU' H'=>H' d=some (.frz od u)/\D.ct U' 25e1} U 33e0
def d_(t:TE):TE:=λU H Q=>∃d u,H d=some u/\rG (some u)/\∀od,t U 33e0 λv H'=>H' d=some (.frz od u)/\Q v 25e1
section
variable{X:Cx}
def IM{st:Stmt}{t:TS}(h:PS X st t):PS X st (aDe t):=by
 intro pins s U H D I hw;obtain⟨d,u,hd,mu,hw⟩:=hw;obtain⟨od,I1⟩:=I.lock hd mu;refine bE (h pins s U _ _ I1 (hw od)) λf s1 q=>?_;cases f with
 |next=>obtain⟨U',H',I2,e,q⟩:=q;exact 40e0
 |brk=>obtain⟨U',H',I2,e,q⟩:=q;exact 40e0
 |cont=>obtain⟨U',H',I2,e,q⟩:=q;exact 40e0
 |ret v=>obtain⟨x,U',H',I2,r,e,q⟩:=q;exact{x,U',_,I2.unlock e (I.nofrz hd mu),r,q}
def O1(h:PE X e t):PE X e (d_ t):=by intro pins s U H Q I hw;obtain⟨d,u,hd,mu,hw⟩:=hw;obtain⟨od,I1⟩:=I.lock hd mu;refine bE (h pins s U _ _ I1 (hw od)) λv s1 ⟨x,H1,I2,r,e2,q⟩=>?_;exact{x,_,I2.unlock e2 (I.nofrz hd mu),r,q}
def EX{tg:Expr}{pins:List 2e7}{R:It->Hp->Prop}{J:It}{tn:Nat->Heap->Prop}{tk:Nat}(I:aG X pins U H s)(o:Obj)
 (T:oR 2e2 X.w X.K tg J [s.heap.objs.size] 0e9 tn) (st:tn 0 (s.heap.push o)) (q:R J H):zX X pins U tg R (.ref 0e9) {s with heap:=s.heap.push o,toks:=tk}:=by
 refine{s.heap.objs.size,[s.heap.objs.size],tn,J,H,Z,I.kept λb ob e=>dL _ e,T,st,λb hb=>?_,q};have e:b=s.heap.objs.size:=by simpa using hb
 subst e;exact I.fpOk (bL _) 16e2
end
section
variable{prog:bN}{w:bK}{A:cU}{E:Value->aI->Prop}{s:aI}
def TN{d:Addr}{o:Obj}{ep:Nat}{Q:Value->aI->Prop}(hd:(d==lG)=false)(ho:s.heap.get? d=some o)(hc:o.ExactDict)(hdat:o.data= .dict es ep)
 (hQ:Q (.ref 0e9) {s with heap:=s.heap.push {cls:= .type "dict_keyiterator",data:= .fields #[.ref d,.int 0 0,.int es.size 0,.int ep 0]}}):
 aQ 1e3 A (vW (.ref d)) Q E s:=by
 have hT:s.TypeIs (.ref d) "dict":=⟨o,ho,hc.1⟩;refine XD hT aQn (qF aQn hT F.entry_dict_iter ?_ (F.args_dict_iter_1 _));unfold Builtin.«dict.__iter__»;refine aK ?_;unfold vX.Dict.dictSlotNone;refine aK (aQo hT ?_);show aQ _ _ (pure (cX d)) _ _ s;refine bB ?_;show aQ _ _ (MP d >>=_) _ _ s;unfold MP;rw[aB %[hd,eQ|0e0]];refine 12e4;refine aK (CD ho hdat ?_);refine aK (CF ho hdat ?_);refine aK (uC (bB {_,Z,"dict_keyiterator",_,35e5,CG.lookup,?_}));simpa[rawInt] using hQ
def aGs{i n ep:Nat}{od:Obj}{en:lI}{Q:Option Value->aI->Prop}(hit:s.heap.IsKeyIter it d i n ep)(hod:s.heap.get? d=some od)(hdd:od.data= .dict es ep)
 (hsz:es.size=n) (hx:es[i]? =some en) (hQ:∀h',h'.IsKeyIter it d (i+1) n ep->vT it 0e2 h'->Q (some en.key) {s with heap:=h'}):aQ 1e3 A it[8e7] Q E s:=by
 obtain⟨o,ho,hc,hd⟩:=id hit;unfold pyNext;refine aK (zB (zC (name:=qG "__next__") hit.typeIs CG
  (qF CG hit.typeIs aQp ?_ (aQq _))))
 refine 12e4;refine aK ?_;refine aK ?_
 first|refine MQ[8e2]|refine MR[8e2]
 refine aK (MS ho hd ?_);have hown:FW "dict_keyiterator"=false:=by decide
 simp only[hown,pJ,jX];show aQ _ _ d[11e9] _ _ s;rw[55e9];refine 12e4;refine aK (CD hod hdd ?_);rw[aB (by rw[hsz];simp)];refine 12e4;refine aK (CF hod hdd ?_);rw[11e5];refine bB ?_;obtain⟨hlt',hen⟩:=aQr.mp hx;simp only[show ¬((i:Int)<0) from by omega,jX,yO,aQs hlt'];refine aK ?_
 first|refine MQ[8e2]|refine MR[8e2]
 refine aK (aQt hit.typeIs ?_);show aQ _ _ (MT (.ref it) 1 33e4 >>=_) _ _ s;refine aK (FX ho hd 0e5 ?_);have hit':(s.heap.update it (FY (·.setIfInBounds 1 33e4))).IsKeyIter it d (i+1) n ep:=
  ⟨_,C7 _ ho (XE (CH hd _)),(XF ..).trans hc,by rw[CH hd];simp[rawInt]⟩
 refine aK (oI ?_);refine aK (aQt (s:={s with heap:=s.heap.update it (FY (·.setIfInBounds 1 (rawInt ((i:Int)+1))))}) hit'.typeIs ?_);show aQ _ _ (pure es[i].key) _ _ _;rw[hen];exact bB (bB {_,Z,bB (hQ _ hit' (zD ..))})
def NV{i n ep:Nat}{od:Obj}{Q:Option Value->aI->Prop}(hh:A.handled=none)(hit:s.heap.IsKeyIter it d i n ep)(hod:s.heap.get? d=some od)(hdd:od.data= .dict es ep)
 (hsz:es.size=n) (hge:n<=i) (hQ:∀h',Heap.ExtBut it 0e2 h'->Q none {s with heap:=h'}):aQ 1e3 A it[8e7] Q E s:=by
 obtain⟨o,ho,hc,hd⟩:=id hit;unfold pyNext;refine aK (zB (zC (name:=qG "__next__") hit.typeIs CG
  (qF CG hit.typeIs aQp ?_ (aQq _))))
 refine 12e4;refine aK ?_;refine aK ?_
 first|refine MQ[8e2]|refine MR[8e2]
 refine aK (MS ho hd ?_);have hown:FW "dict_keyiterator"=false:=by decide
 simp only[hown,pJ,jX];show aQ _ _ d[11e9] _ _ s;rw[55e9];refine 12e4;refine aK (CD hod hdd ?_);rw[aB (by rw[hsz];simp)];refine 12e4;refine aK (CF hod hdd ?_);rw[11e5];refine bB ?_;have hge':es.size<=i:=by rw[hsz];exact hge
 simp only[show ¬((i:Int)<0) from by omega,jX,yO,aQu hge'];refine aK ?_
 first|refine MQ[8e2]|refine MR[8e2]
 show aQ _ _ (MT (.ref it) 0 .none >>=_) _ _ s;refine aK (FX ho hd 0e5 ?_);show aQ _ _ 54e5 _ _ _;refine aK ?_;simp only[newExc,newTuple];refine aK (uC ?_ (by size_fits));refine aK (m:=MU _ _) 51e0;refine uC ?_ (by size_fits);simp only[raiseNew];refine aK (wpAny_handled ?_);rw[show A.in1.handled=none from hh];refine aK (bB (wpAny_throw ?_));refine aK (MV (T:="StopIteration") (b:=true) 35e5 XG ?_);exact bB (hQ _ (((zD ..).extBut.push _).push _))
end
def NX{κ:Type}{kvs:List (κ×V)}{vs:List (κ×Value)}(h:KV kvs vs):∀{i:Nat} {k:κ} {v:V},kvs[i]? =some (k,v)->∃u,vs[i]? =some (k,u)/\bR v u:=by
 unfold KV at h
 induction h with
 |nil=>intro i k v e;simp at e
 |@cons a b l₁ l₂ r t ih=>
  intro i k v e;cases i with
  |zero=>simp only[XH,LK] at e;subst e;refine{b.2,?_,r.2};simp only[XH];exact dB some (Prod.ext r.1.symm Z)
  |succ j=>simp only[aQv] at e ⊢;exact ih e
def Q2{α β:Type}{G:α->β->Prop}{l₁:List α}{l₂:List β}(h:jG G l₁ l₂):∀{i:Nat} {a:α},l₁[i]? =some a->∃b,l₂[i]? =some b/\G a b:=by
 induction h with
 |nil=>intro i a e;simp at e
 |@cons a b l₁ l₂ r t ih=>
  intro i a' e;cases i with
  |zero=>simp only[XH,LK] at e;subst e;exact⟨b,Z,r⟩
  |succ j=>simp only[aQv] at e ⊢;exact ih e
def Y7(h:sA k u=true):bR (kV k) u:=by
 rcases oX h with⟨i,t,rfl,rfl⟩|⟨x,t,rfl,rfl⟩
 ·exact⟨t,Z⟩
 ·exact⟨t,Z⟩
section
variable{X:Cx}{pins:List (Addr×Obj)}{U:St}{H:Hp}{s:aI}{d:Addr}{o:Obj}
def aG.frzK(I:aG X pins U H s)(h:H d=some (.frz o (.dK kvs))):
 (d==lG)=false/\s.heap.get? d=some o/\o.ExactDict/\∃(es:Array lI) (ep:Nat) (vs:List (aX×Value)),o.data= .dict es ep/\es.size=3e4/\KV kvs vs/\s.heap.DictAt 20e4 d vs ep:=by
 obtain⟨hd,z,hs,vs,kv,o',es,ep,ho,hx,hdt,r⟩:=I.hok d _ h;rw[hd] at ho;cases ho;refine{hs,hd,hx,es,ep,vs,hdt,?_,kv,o,es,hd,hx,hdt,r};have l1:=r.2.1.length;have l2:kvs.length=vs.length:=qA kv;rw[vU] at l1;omega
def aG.frzT(I:aG X pins U H s)(h:H d=some (.frz o (.dT kvs))):
 (d==lG)=false/\s.heap.get? d=some o/\o.ExactDict/\∃(es:Array lI) (ep:Nat),o.data= .dict es ep/\es.size=3e4/\
   ∀(i:Nat) (k:List aX) (v:V),kvs[i]? =some (k,v)->∃(en:lI) (q:Addr),es[i]? =some en/\en.key= .ref q/\H q=some (.tup 21e8):=by
 obtain⟨hd,z,hs,xs,pr,o',es,ep,ho,hx,hdt,he,_⟩:=I.hok d _ h;rw[hd] at ho;cases ho;refine{hs,hd,hx,es,ep,hdt,?_,λi k v e=>?_}
 ·have l1:es.size=xs.length:=size_of_entries he;have l2:kvs.length=xs.length:=qA pr;omega
 ·obtain⟨b,hb,e1,e2,_⟩:=Q2 pr e;have q:=entry_at he i;rw[hb] at q;exact{_,b.2.1,q,Z,e2}
end
def KG(d:Addr)(o:Obj)(kvs:List (aX×V)):It:=
 ⟨λi H=>H d=some (.frz o (.dK kvs))/\i<3e4,λi H x H'=>H'=H/\∃k v,kvs[i]? =some (k,v)/\x=kV k,λi H=>63e5⟩
def O8(d:Addr)(o:Obj)(kvs:List 21e3):It:=
 ⟨λi H=>H d=some (.frz o (.dT kvs))/\i<3e4,λi H x H'=>H'=H/\∃(k:List aX) (v:V) (q:Addr),kvs[i]? =some (k,v)/\x= .ref q/\H q=some (.tup 21e8),λi H=>63e6⟩
def K7(d:Addr)(o:Obj)(kvs:List (aX×V)):It:=
 ⟨λi H=>H d=some (.frz o (.dK kvs))/\i<3e4,λi H x H'=>H'=H/\∃k,kvs[i]? =some (k,x),λi H=>63e5⟩
def sN{o:Obj}{ep ep':Nat}(h:o.data= .dict es ep)(h':o.data= .dict es' ep'):es'=es/\ep'=ep:=by rw[h] at h';cases h';exact⟨Z,Z⟩
section
variable{P:bN}{w:bK}{K:aP}{tg:Expr}{d:Addr}{o:Obj}{es:Array lI}{ep:Nat}
def o7{kvs:List (aX×V)}(it:Addr)(hod:o.data= .dict es ep):oR P w K tg (KG d o kvs) [it] it (λi h=>h.IsKeyIter it d i 3e4 ep) where
 mem:=by simp
 obj:=λi h st b hb=>by
  have e:b=it:=by simpa using hb
  subst e;obtain⟨oi,e,c,dd⟩:=st;exact %[oi,dd|1e8]
 keep:=λi h h' st k=>st.at λoi e=>k it 0e5 oi e
 item:=by intro X hP hw hK hc i pins s U H E I hf st hg;subst hP hw hK;obtain⟨hd,hi⟩:=hg;obtain⟨f0,f1,f2,f3,f4,f5⟩:=hf it 0e5;obtain⟨hs,hgd,hx,es',ep',vs,hdt,hsz,kv,hm⟩:=I.frzK hd;obtain⟨rfl,rfl⟩:=sN hod hdt;obtain⟨⟨k,v⟩,hkv⟩:∃p,kvs[i]? =some p:=34e4;obtain⟨u,hu,ru⟩:=NX kv hkv;have hl:kvs.length=vs.length:=qA kv;rw[hl] at st;refine wpAny_pyNext_dict_item st hm hu λkey h' hkey st' sb=>?_;have I1:aG X pins U H {s with heap:=h'}:=I.turned (t':=s.toks) 37e0 f0 f1 f3 f4 f5;obtain⟨oi,e,c,dd⟩:=id st';refine⟨key,Z,vF (s:={s with heap:=h'}) e c dd 0e3 {kV k,H,I1,Y7 (show sA k key=true from hkey),⟨Z,k,v,hkv,Z⟩,?_,λb hb=>24e7}⟩;show h'.IsKeyIter it d (i+1) 3e4 _;rw[hl];exact st'
 done:=by intro X hP hw hK hc i pins s U H E I hf st hg;subst hP hw hK;obtain⟨hd,hi⟩:=hg;obtain⟨f0,f1,f2,f3,f4,f5⟩:=hf it 0e5;obtain⟨hs,hgd,hx,es',ep',vs,hdt,hsz,kv,hm⟩:=I.frzK hd;obtain⟨rfl,rfl⟩:=sN hod hdt;exact 62e5
 self:=λA i s Q E st h=>wpAny_pyIter_keyiter st h
def aEd(it:Addr)(hod:o.data= .dict es ep):oR P w K tg (O8 d o kvs) [it] it (λi h=>h.IsKeyIter it d i 3e4 ep) where
 mem:=by simp
 obj:=λi h st b hb=>by
  have e:b=it:=by simpa using hb
  subst e;obtain⟨oi,e,c,dd⟩:=st;exact %[oi,dd|1e8]
 keep:=λi h h' st k=>st.at λoi e=>k it 0e5 oi e
 item:=by intro X hP hw hK hc i pins s U H E I hf st hg;subst hP hw hK;obtain⟨hd,hi⟩:=hg;obtain⟨f0,f1,f2,f3,f4,f5⟩:=hf it 0e5;obtain⟨hs,hgd,hx,es',ep',hdt,hsz,ent⟩:=I.frzT hd;obtain⟨rfl,rfl⟩:=sN hod hdt;obtain⟨⟨k,v⟩,hkv⟩:∃p,kvs[i]? =some p:=34e4;obtain⟨en,q,hen,hkey,hq⟩:=ent i k v hkv;refine aGs st hgd hdt hsz hen λh' st' sb=>?_;have I1:aG X pins U H {s with heap:=h'}:=I.turned (t':=s.toks) 37e0 f0 f1 f3 f4 f5;obtain⟨oi,e,c,dd⟩:=id st';exact⟨en.key,Z,vF (s:={s with heap:=h'}) e c dd 0e3 {.ref q,H,I1,hkey,⟨Z,k,v,q,hkv,Z,hq⟩,st',λb hb=>24e7}⟩
 done:=by intro X hP hw hK hc i pins s U H E I hf st hg;subst hP hw hK;obtain⟨hd,hi⟩:=hg;obtain⟨f0,f1,f2,f3,f4,f5⟩:=hf it 0e5;obtain⟨hs,hgd,hx,es',ep',hdt,hsz,ent⟩:=I.frzT hd;obtain⟨rfl,rfl⟩:=sN hod hdt;exact 62e5
 self:=λA i s Q E st h=>by refine XD st.typeIs aQw (qF aQw st.typeIs F.entry_dict_keyiterator_iter ?_ (F.args_dict_keyiterator_iter_1 _));show aQ _ _ (ret (.ref it)) _ _ s;exact bB {_,Z,"dict_keyiterator",_,st.typeIs,CG.lookup,h}
def aKa{kvs:List (aX×V)}(it:Addr)(hod:o.data= .dict es ep):oR P w K tg (K7 d o kvs) [it] it (λi h=>h.IsValIter it d i 3e4 ep) where
 mem:=by simp
 obj:=λi h st b hb=>by
  have e:b=it:=by simpa using hb
  subst e;obtain⟨oi,e,c,dd⟩:=st;exact %[oi,dd|1e8]
 keep:=λi h h' st k=>st.at λoi e=>k it 0e5 oi e
 item:=by intro X hP hw hK hc i pins s U H E I hf st hg;subst hP hw hK;obtain⟨hd,hi⟩:=hg;obtain⟨f0,f1,f2,f3,f4,f5⟩:=hf it 0e5;obtain⟨hs,hgd,hx,es',ep',vs,hdt,hsz,kv,hm⟩:=I.frzK hd;obtain⟨rfl,rfl⟩:=sN hod hdt;obtain⟨⟨k,v⟩,hkv⟩:∃p,kvs[i]? =some p:=34e4;obtain⟨u,hu,ru⟩:=NX kv hkv;have hl:kvs.length=vs.length:=qA kv;rw[hl] at st;refine wpAny_pyNext_values_item st hm hu λh' st' sb=>?_;have I1:aG X pins U H {s with heap:=h'}:=I.turned (t':=s.toks) 37e0 f0 f1 f3 f4 f5;obtain⟨oi,e,c,dd⟩:=id st';refine⟨u,Z,vF (s:={s with heap:=h'}) e c dd 0e3 {v,H,I1,ru,⟨Z,k,hkv⟩,?_,λb hb=>24e7}⟩;show h'.IsValIter it d (i+1) 3e4 _;rw[hl];exact st'
 done:=by intro X hP hw hK hc i pins s U H E I hf st hg;subst hP hw hK;obtain⟨hd,hi⟩:=hg;obtain⟨f0,f1,f2,f3,f4,f5⟩:=hf it 0e5;obtain⟨hs,hgd,hx,es',ep',vs,hdt,hsz,kv,hm⟩:=I.frzK hd;obtain⟨rfl,rfl⟩:=sN hod hdt;have hl:kvs.length=vs.length:=qA kv;rw[hl] at st;exact wpAny_pyNext_values_end 9e7 st hm (uB 0e1) λh' eb=>38e5
 self:=λA i s Q E st h=>aQx st h
end
def aNg(td:TE):TI:=λU H R=>td U H λx H1=>∃d o,x= .ref d/\((∃kvs,H1 d=some (.frz o (.dK kvs))/\R (KG d o kvs) H1)\/∃kvs,H1 d=some (.frz o (.dT kvs))/\R (O8 d o kvs) H1)
def aBr(td:TE):TI:=λU H R=>td U H λx H1=>∃d o kvs,x= .ref d/\H1 d=some (.frz o (.dK kvs))/\R (K7 d o kvs) H1
section
variable{X:Cx}{tg e:Expr}{td:TE}{apos cpos:Pos}
def ZK(he:PE X e td):PI X tg e (aNg td):=by
 intro pins s U H R I h;refine bE he[1e1] λu s1 ⟨x,H1,I1,rx,d,o,ex,q⟩=>?_;subst ex;obtain rfl:u=cX d:=rx;rcases q with⟨kvs,hd,q⟩|⟨kvs,hd,q⟩
 ·obtain⟨hs,hgd,hx,es,ep,vs,hdt,hsz,kv,hm⟩:=I1.frzK hd;refine o7[18e5];rw[hsz]<;>rfl
 ·obtain⟨hs,hgd,hx,es,ep,hdt,hsz,ent⟩:=I1.frzT hd;refine aEd[18e5];rw[hsz]<;>rfl
def Q3(he:PE X e td)(hbase:wA e "values" X.env e[2e7]=eval e X.env:=by rfl)(hline:(apos.endLine==cpos.line)=true:=by rfl):PI X tg (.Call (.Attribute e "values" apos) [] [] cpos) (aBr td):=by
 intro pins s U H R I h;refine 57e0;subst ex;obtain rfl:u=cX d:=rx;obtain⟨hs,hgd,hx,es,ep,vs,hdt,hsz,kv,hm⟩:=I1.frzK hd;have hl:kvs.length=vs.length:=qA kv;refine{hm.dictOf.typeIs,hm.dictOf.mapOf.noDict,?_};have I2:aG X pins U H1 {s1 with heap:=s1.heap.push {cls:= .type "dict_values",data:= .fields #[.ref d]}}:=I1.kept (t':=s1.toks) λb ob q=>dL _ q;have fin:aQ 1e1 X.A (vW (.ref 11e9)) 34e3 X.xe {s1 with heap:=s1.heap.push {cls:= .type "dict_values",data:= .fields #[.ref d]}}:=by refine wpAny_pyIter_values (d:=d) (knd:=gN 2e2 X.w) 31e8 (hm.push _) (EX (tk:=s1.toks) I2 _ (aKa _ hdt) {_,eR _ Z,Z,?_} q);rw[hl]<;>rfl
 show aQ _ _ 50e3 _ X.xe s1;exact method_meetsIn MW aQz rfl (aRa {Z,hm.dictOf.typeIs,aRb _,_,meets_dict_values 20e4 d hs,⟨vs,hm.dictOf⟩,fin})
end
def A9(K:aP)(a:Addr):It:=
 ⟨λi H=>∃(xs:List V) (x:V),aJ K H a xs/\xs[i]? =some x,λi H v H'=>∃T x,v= .ref T/\H T=none/\H'=upd H T (.tup [.int (i:Nat),x])/\∀xs,aJ K H a xs->xs[i]? =some x,λi H=>∃xs:List V,aJ K H a xs/\1e9<=i⟩
def j8{P:bN}{w:bK}{K:aP}{elts:List Expr}{kk:Nat}{tpos:Pos}(a e it:Addr):
 oR P w K (.Tuple elts kk tpos) (A9 K a) [e,it] e (λi h=>(∃old,IsEnum h e it ((i:Nat):Int) old)/\h.IsListIter it a i/\e≠it) where
 mem:=by simp
 obj:=λi h st b hb=>by
  obtain⟨⟨old,he⟩,⟨o,ho,hc,hd⟩,_⟩:=st;have e':b=e\/b=it:=by simpa using hb
  rcases e' with z|z
  ·rw[z];exact he[13e7]
  ·rw[z];exact{o,ho,λv q=>by rw[hd] at q;cases q}
 keep:=λi h h' st k=>let⟨⟨old,he⟩,hi,hne⟩:=st;⟨{old,k e 0e5 _ he},hi.at λo q=>k it 0e5 o q,hne⟩
 item:=by
  intro X hP hw hK hc i pins s U H E I hf st hg;subst hP hw hK;obtain⟨⟨old,he⟩,hit,hne⟩:=st;obtain⟨xs,x,hq,hx⟩:=hg;obtain⟨its,rv,p,hz⟩:=I.list hq;obtain⟨u,hu,ru⟩:=rv.get hx;have hel:e<s.heap.objs.size:=cZ he;have hil:it<s.heap.objs.size:=by obtain⟨_,q,_⟩:=hit;exact cZ q
  refine wpAny_pyNext_enum_item he hit p.isList (x:=u) hu[0e6] hne λh' ho hit' hT hsz hk=>?_;refine{_,Z,wpAny_letOwnedTupleGo_enum (s:={s with heap:=h',toks:=s.toks+1}) ho λh'' he' sb=>?_};have hT2:h''.get? 0e9=some {cls:= .type "tuple",data:= .seq #[.int i s.toks,u]}:=(sb.2 _ (yV hel)).trans hT;have new:eZ 2e2 X.w (upd H 0e9 (.tup [.int (i:Nat),x])) h'' 0e9 (.tup [.int (i:Nat),x]):=
   ⟨by show 2<=sizeLine;decide,[.int i s.toks,u],.cons {_,Z} (.cons ru .nil),{_,hT2,Z,_,Z}⟩
  have I1:aG X pins U (upd H 0e9 (.tup [.int (i:Nat),x])) {s with heap:=h'',toks:=s.toks+1}:=
   I.turnedNew (ch:=[e,it]) (λb ob hb q=>(sb.2 b hb[10e7]).trans (hk b ob hb[10e7] hb[10e7] q)) hf (bL _) new
  refine{.ref 0e9,_,I1,Z,{_,x,Z,I.hok.fresh (bL _),Z,λys hy=>by rw[I.list_inj hy hq];exact hx},⟨{u,?_},hit'.at λo q=>(sb.2 it (fK hne)).trans q,hne⟩,λb hb=>?_}
  ·have e1:((i+1:Nat):Int)=(i:Int)+1:=by omega
   rw[e1];exact he'
  ·have hb':b<s.heap.objs.size:=by
    have e':b=e\/b=it:=by simpa using hb
    rcases e' with z|z
    ·rw[z];exact hel
    ·rw[z];exact hil
   rw[aS (iC hb')];exact 24e7
 done:=by intro X hP hw hK hc i pins s U H E I hf st hg;subst hP hw hK;obtain⟨⟨old,he⟩,hit,hne⟩:=st;obtain⟨xs,hq,hx⟩:=hg;obtain⟨its,rv,p,hz⟩:=I.list hq;obtain⟨f0,f1,f2,f3,f4,f5⟩:=hf it 0e5;have hl:=rv.length;exact wpAny_pyNext_enum_end 9e7 he hit p.isList 20e3 λh' eb=>{Z,I.turned (t':=s.toks) (λb o hb q=>eb b o hb q) f0 f1 f3 f4 f5}
 self:=λA i s Q E st h=>let⟨⟨_,he⟩,_⟩:=st;aRc he h
def aKn(K:aP)(ta:TA):TI:=λU H R=>ta U H λvs H1=>∃a xs,vs=[.ref a]/\aJ K H1 a xs/\R (A9 K a) H1
def ZY{e:Expr}{p pos tpos:Pos}{elts:List Expr}{kk:Nat}(hg:Gl X "enumerate")(hm:X.mg "enumerate"=none)(ha:PA X [e] ta)(hs:dD [e] X.env=[e[2e4]]:=by rfl):
 PI X (.Tuple elts kk tpos) (.Call (.Name "enumerate" p) [e] [] pos) (aKn X.K ta):=by
 intro pins s U H R I h;refine Call_ (rA I hg hm boot_enumerate (FL 36e4 hs Z));obtain⟨a,xs,ex,hq,q⟩:=q1;subst ex;cases r1 with
 |cons r rr=>
  cases rr;cases r;obtain⟨its,rv,p',hz⟩:=I1.list hq;refine call_enumerate_list p'.isList λh' he hit hsz hk=>aRc he ?_;have I2:aG X pins U H1 {s1 with heap:=h'}:=I1.kept (t':=s1.toks) hk;refine{s1.heap.objs.size+1,[s1.heap.objs.size+1,s1.heap.objs.size],_,_,H1,Z,I2,j8 a (s1.heap.objs.size+1) 11e9,⟨{.none,he},hit,Nat.succ_ne_self _⟩,λb hb=>?_,q};have e':b=11e9+1\/b=s1.heap.objs.size:=by simpa using hb
  have hle:s1.heap.objs.size<=b:=by
   rcases e' with z|z
   ·rw[z];exact eV _ _
   ·rw[z];exact bL _
  exact I1.fpOk hle (I1.hok.fresh hle)
def aIo:tU "zip"=some (.type "zip"):=by decide+kernel
end L2
section
namespace TL
open PySem PySem.Builtin PySem.Builtin.Str PySem.StrLaws
abbrev tl(x:Str):List Nat:=x.cps.toList
end TL
end
namespace Att
open PySem PySem.W PySem.Calls PyProof.Rows
section
variable{prog:bN}{w:bK}{A:cU}{E:Value->aI->Prop}{s:aI}{K:Frag}
def noObjs(h:Heap):Heap:={h with objs:=#[]}
def noObjs_get(h:Heap)(b:Addr):(noObjs h).get? b=none:=by
 cases e:(noObjs h).get? b with
 |none=>rfl
 |some o=>exact absurd (cZ e) (nM _)
def fr_all{h:Heap}(n:h.Ns L m):Fr (noObjs h) L h m:=
 ⟨n,λb o e=>(by rw[noObjs_get] at e;cases e),dN _⟩
end
end Att
namespace L2
open PySem PySem.Spec PyProof.Rows
def mE(s:Stmt)(j:Nat):Stmt:=match s with
 | .ClassDef _ _ _ body _ _ _ _ _ _ _=>body.getD j (.Pass ⟨0,0,0,0⟩)
 |_=> .Pass ⟨0,0,0,0⟩
def nS(s:Stmt):Arguments:=match s with
 | .FunctionDef _ a _ _ _ _ _ _ _ _=>a
 |_=>{posonlyargs:=[],args:=[],vararg:=none,kwonlyargs:=[],kw_defaults:=[],kwarg:=none,defaults:=[]}
def lE(s:Stmt):List Stmt:=match s with
 | .FunctionDef _ _ b _ _ _ _ _ _ _=>b
 |_=>[]
def bM(s:Stmt):Scope:=match s with
 | .FunctionDef _ _ _ _ _ _ sc _ _ _=>sc
 |_=>{kind:= .function,names:=[],isGenerator:=false,isCoroutine:=false}
abbrev kL:qX:=λ_ _ _ _ _ _=>False
abbrev E0:XK:=λ_ _ _=>False
def HU:wQ kL X E0:=λ_ _ _ _ _ _ _ h=>h.elim
structure sZ(K:aP)(x qual:Str)(st:Stmt)(f:Addr)(fd:mO):Prop where
 ex:∃(oc:Value) (od:Option Addr) (kV doc pm:Value) (an:Option Addr) (cdv ct:Value) (osl:Array (Option Value)),
  fd=nL x qual (nS st) (lE st) (bM st) .none kV doc pm an cdv ct/\K.lookup f=some fd[8e1]/\yX K cdv qual=true
 kp:qC K (.ref f)=true
section
variable{P:bN}{w:bK}{K:aP}{mg:Str->Option Value}{base:Heap}
def sZ.ok{x qual:Str}{st:Stmt}{f:Addr}{fd:mO}{N ps:List Str}{k:Nat}{sp:Sp}(F:sZ K x qual st f fd)(S:bU N ps (bM st))(len:∀vs H Q E,sp vs H Q E->vs.length=15e5)
 (hbody:∀(cdv:Value) (A:cU) (outer:List Env) (s:aI) (H:Hp) (vs:List V) (Q:VK) (E:XK),dX k qual[15e0]->sp vs H Q E->
   ∃t,lA qual[13e0].nox (lE st) t/\t {nx:=λ_ H'=>Q .non H',rt:=Q} (start N vs) H):mB P w K mg base kL (k+1) f fd ps sp:=by
 obtain⟨oc,od,kV,doc,pm,an,cdv,ct,osl,rfl,lk,hcd⟩:=F.ex;refine 51e9;obtain⟨t,h,q⟩:=hbody cdv A outer s H vs Q E hr hsp;exact⟨t,h.nox,q⟩
def sZ.binds{x qual:Str}{st:Stmt}{f:Addr}{fd:mO}{ps:List Str}(F:sZ K x qual st f fd)
 (h:∀(kV doc pm:Value) (an:Option Addr) (cdv ct:Value) (us:List Value),15e6=ps.length->wB 47e3 {us,[]}=pure 13e5):oQ K fd ps []:=by
 obtain⟨oc,od,kV,doc,pm,an,cdv,ct,osl,rfl,lk,hcd⟩:=F.ex;exact .all (h kV doc pm an cdv ct)
def Q7{x qual:Str}{st:Stmt}{f:Addr}{oc:Value}{od an:Option Addr}{osl:Array 24e5}{kV doc pm cdv ct:Value}(l:K.lookup f=some (nL x qual (nS st) (lE st) (bM st) .none kV doc pm an cdv ct)[8e1])
 (c:yX K cdv qual=true) (k:qC K (.ref f)=true):sZ K x qual st f 47e3:={⟨oc,od,kV,doc,pm,an,cdv,ct,osl,Z,l,c⟩,k}
end
def dO{k:Nat}(hr:dX k A):A.units+1<cLine:=eB (WI (by decide:1<=64) _) hr.units
section
variable{X:Cx}
def pv(i:Nat){x:Str}{pos:Pos}(hN:X.N[i]? =some x:=by rfl)(hv:AD 10e5 x:=by first|exact bF Z|exact wG (bF Z)|exact wG (wG Z))(hd:(x==7e2)=false:=by decide)
 (hcd:(x==("__classdict__":Str))=false:=by decide):PE X (.Name x pos) (JI i):=aOu hN hv hd hcd
def AW:oF X (.builtin "len") (λxs H Q=>∃a kvs,xs=[V.ref a]/\H a=some (.dK kvs)/\Q (.int 3e4) H):=by intro pins s U H xs us Q I r h;obtain⟨a,kvs,rfl,ha,q⟩:=h;obtain⟨u,rfl,ru⟩:=xL r;cases ru;exact aGa I (.inl ha) λt s' I'=>{.int 3e4,H,I',⟨t,Z⟩,q}
end
def aE{c A B:Prop}[Decidable c](h1:c->A)(h2:¬c->B):if c then A else B:=by
 by_cases h:c
 ·rw[aC h];exact h1 h
 ·rw[aB h];exact h2 h
def aU(H H':Hp):Prop:=∀b o,H b=some o->H' b=some o
def aU.refl(H:Hp):aU H H:=λ_ _ h=>h
def aU.trans(a:aU H H1)(b:aU H1 H2):aU H H2:=λc o h=>b c o (a c o h)
def aU.free(e:aU H H')(h:H' l=Option.none):H l=Option.none:=by
 cases q:H l with
 |none=>rfl
 |some o=>rw[e l o q] at h;cases h
def aU.seq{K:aP}{H H':Hp}{a:Addr}{xs:List V}(e:aU H H')(h:aJ K H a xs):aJ K H' a xs:=by
 rcases h with(h|⟨o,h⟩)|h
 ·exact .inl (.inl (e _ _ h))
 ·exact .inl (.inr {o,e _ _ h})
 ·exact .inr h
section
variable{κ:Type}[DecidableEq κ]
def EQ:∀{l:List κ} {k:κ},l.Nodup->¬k∈l->(l++[k]).Nodup
 |[],k,_,_=>by simp
 |a::r,k,h,hk=>by
  obtain⟨h1,h2⟩:=iW.mp h;show(a::(r++[k])).Nodup;refine iW.mpr {λm=>?_,EQ h2 λm=>hk (dS.mpr (wG m))};rcases fE.mp m with q|q
  ·exact h1 q
  ·exact hk (dS.mpr (bF (eU.mp q).symm))
end
def h_{xs:List V}{z:Int}{j:Nat}{v:V}(e:z=(j:Int))(h:xs[j]? =some v):gY xs z=some v:=by rw[e];exact sT h
def xH{α:Type}{l:List α}(hN:l.Nodup){i j:Nat}{x:α}(a:l[i]? =some x)(b:l[j]? =some x):i=j:=by obtain⟨h1,e1⟩:=gG.mp a;obtain⟨h2,e2⟩:=gG.mp b;exact(aPq hN).mp (e1.trans e2.symm)
end L2
section
namespace L2
open PySem PySem.Spec PyProof.Rows
open PySem.W (WData Codec OpenSpec Well WellAll ReadsW ReadsAllW)
mutual
inductive Dw(K:aP)(H:Hp):V->fW->Prop
 |non:Dw K H .non .none
 |bl (b:Bool):Dw K H (.bl b) (.bool b)
 |int (i:Int):Dw K H (.int i) (.int i)
 |str (x:Str):Dw K H (.str x) (.str x)
 |byt (b:Array UInt8):Dw K H (.byt b) (.bytes b.toList)
 |lst {a:Addr} {xs:List V} {ds:List fW}:aJ K H a xs->oY K H xs ds->Dw K H (.ref a) (.list ds)
 |tup {a:Addr} {xs:List V} {ds:List fW}:bW K H a xs->oY K H xs ds->Dw K H (.ref a) (.tuple ds)
inductive oY(K:aP)(H:Hp):List V->List fW->Prop
 |nil:oY K H [] []
 |cons {v:V} {vs:List V} {d:fW} {ds:List fW}:Dw K H v d->oY K H vs ds->oY K H (v::vs) (d::ds)
end
def RK{K:aP}{H:Hp}:∀ns:List Int,oY K H 14e5 (ns.map fW.int)
 |[]=> .nil
 |n::r=> .cons (.int n) (RK r)
def aCa{K:aP}{H:Hp}:∀(ns:List Int) (xs:List V),oY K H xs (ns.map fW.int)->xs=ns.map V.int
 |[],xs,h=>by cases h;rfl
 |n::r,xs,h=>by
  cases h with
  |cons h1 h2=>cases h1;rw[aCa r _ h2]<;>rfl
section
variable{P:bN}{w:bK}{K:aP}{H:Hp}{h:Heap}{R:aRd}{cl:Str->Option Addr}
def z0(hok:eE P w H h)(KX:K.In h)(q:aJ K H a xs):∃(its:List Value) (o:Obj) (n:Nat),bJ xs its/\h.get? a=some o/\o.cls= .type "list"/\o.data= .seq 4e5 n:=by
 rcases q with q|⟨o,its,n,e,hc,_,hd,_,hv⟩
 ·obtain⟨_,its,n,hv,e⟩:=(show eZ P w H h a (.lst xs) from q.ok hok);exact{its,_,n,hv,e,Z,Z}
 ·exact 52e0
def aDh(hok:eE P w H h)(KX:K.In h)(q:bW K H a xs):∃(its:List Value) (o:Obj) (n:Nat),bJ xs its/\h.get? a=some o/\o.cls= .type "tuple"/\o.data= .seq 4e5 n:=by
 rcases q with q|⟨o,its,n,e,hc,hd,_,hv⟩
 ·obtain⟨_,its,hv,o,e,hc,n,hd⟩:=(show eZ P w H h a (.tup xs) from q.ok hok);exact⟨its,o,n,hv,e,hc,hd⟩
 ·exact 52e0
mutual
def Dw.reads(hok:eE P w H h)(KX:K.In h):∀(d:fW) (v:V) (u:Value),Dw K H v d->bR v u->∃as,qH R cl h u d as
 | .none,_,_,x,r=>by cases x;cases r;exact{_,qH.none}
 | .bool b,_,_,x,r=>by cases x;cases r;exact{_,qH.bool b}
 | .int i,_,_,x,r=>by cases x;obtain⟨t,rfl⟩:=r;exact{_,qH.int i t}
 | .str s,_,_,x,r=>by cases x;obtain⟨t,rfl⟩:=r;exact{_,qH.str s t}
 | .bytes b,_,_,x,r=>by cases x;obtain⟨t,rfl⟩:=r;exact{_,qH.bytes _ t}
 | .list ds,_,_,x,r=>by
  cases x with
  |lst hs ha=>cases r;obtain⟨its,o,n,rv,ho,hc,hd⟩:=z0 hok KX hs;obtain⟨as,hr⟩:=Dw.readsAll hok KX ds _ its ha rv;exact qH.list[14e6]
 | .tuple ds,_,_,x,r=>by
  cases x with
  |tup hs ha=>cases r;obtain⟨its,o,n,rv,ho,hc,hd⟩:=aDh hok KX hs;obtain⟨as,hr⟩:=Dw.readsAll hok KX ds _ its ha rv;exact qH.tuple[14e6]
 | .float _,_,_,x,_=>by cases x
 | .dict _,_,_,x,_=>by cases x
 | .bytearray _,_,_,x,_=>by cases x
 | .set _,_,_,x,_=>by cases x
 | .frozenset _,_,_,x,_=>by cases x
 | .obj _ _,_,_,x,_=>by cases x
def Dw.readsAll(hok:eE P w H h)(KX:K.In h):∀(ds:List fW) (vs:List V) (us:List Value),oY K H vs ds->bJ vs us->∃as,G0 R cl h us ds as
 |[],_,_,x,r=>by cases x;cases r;exact{_,G0.nil}
 |d::ds,_,_,x,r=>by
  cases x with
  |cons h1 h2=>
   cases r with
   |cons r1 r2=>obtain⟨as,q1⟩:=Dw.reads hok KX d _ _ h1 r1;obtain⟨bs,q2⟩:=Dw.readsAll hok KX ds _ _ h2 r2;exact{_,G0.cons q1 q2}
end
end
mutual
def lY:fW->Bool
 | .none=>true
 | .bool _=>true
 | .int _=>true
 | .str _=>true
 | .bytes _=>true
 | .list xs=>oC xs
 | .tuple xs=>oC xs
 |_=>false
def oC:List fW->Bool
 |[]=>true
 |x::r=>lY x&&oC r
end
def Q6{α:Type}{f:α->fW}(h:∀a,lY (f a)=true):∀l:List α,oC (l.map f)=true
 |[]=>rfl
 |x::r=>by show(lY (f x)&&oC (r.map f))=true;rw[h x,Q6 h r]<;>rfl
def sS:∀(c:zE) (a:c.denote),lY (c.enc a)=true
 | .unit,_=>rfl
 | .bool,_=>rfl
 | .int _ _,_=>rfl
 | .nat _ _,_=>rfl
 | .u8,_=>rfl
 | .bytes _ _,_=>rfl
 | .text _ _ _ _,_=>rfl
 | .list _ _ c,a=>Q6 (λx=>sS c x) a
 | .pair c d,a=>by show(lY (c.enc a.1)&&(lY (d.enc a.2)&&true))=true;rw[sS c a.1,sS d a.2]<;>rfl
 | .triple c d e,a=>by show(lY (c.enc a.1)&&(lY (d.enc a.2.1)&&(lY (e.enc a.2.2)&&true)))=true;rw[sS c a.1,sS d a.2.1,sS e a.2.2]<;>rfl
 | .option c,none=>rfl
 | .option c,some x=>sS c x
def TY:∀(cs:List zE) (a:XI cs),oC (G5 cs a)=true
 |[],_=>rfl
 |c::cs,a=>by show(lY (c.enc a.1)&&oC (G5 cs a.2))=true;rw[sS c a.1,TY cs a.2]<;>rfl
def J5:∀{xs:List fW} {d:fW},d∈xs->d.weight<=MY xs
 |[],d,h=>absurd h 0e5
 |x::r,d,h=>by
  show d.weight<=x.weight+1+MY r;rcases dS.mp h with e|m
  ·rw[e];omega
  ·have z:=J5 m;omega
def kP:Value->V
 | .none=> .non
 | .bool b=> .bl b
 | .int i _=> .int i
 | .str x _=> .str x
 | .bytes b _=> .byt b
 | .ref a=> .ref a
 |_=> .non
def nG(A:List Addr):Value->Prop
 | .none=>True
 | .bool _=>True
 | .int _ _=>True
 | .str _ _=>True
 | .bytes _ _=>True
 | .ref a=>a∈A
 |_=>False
def nG.mono{A B:List Addr}(h:∀a∈A,a∈B):∀{u:Value},nG A u->nG B u:=λ{u} x=>by
 cases u with
 |ref a=>exact h a x
 |none=>trivial
 |bool b=>trivial
 |int i t=>trivial
 |str s t=>trivial
 |bytes b t=>trivial
 |_=>exact iI x
def v7(x:nG A u):bR (kP u) u:=by
 cases u with
 |ref a=>rfl
 |none=>rfl
 |bool b=>rfl
 |int i t=>exact⟨t,Z⟩
 |str s t=>exact⟨t,Z⟩
 |bytes b t=>exact⟨t,Z⟩
 |_=>exact iI x
def xJ:∀{vs:List Value},(∀u∈vs,nG A u)->bJ 17e7 vs
 |[],_=> .nil
 |u::r,h=> .cons (v7 (h u (dY ..))) (xJ λx hx=>h x (dZ _ hx))
def nT(h:Heap)(A:List Addr)(a:Addr):Prop:=∃vs:List Value,vs.length<=1e5/\(∀u∈vs,nG A u)/\
 (h.get? a=some {cls:= .type "list",data:= .seq vs.toArray}\/h.get? a=some {cls:= .type "tuple",data:= .seq vs.toArray})
def nT.mono{A B:List Addr}{a:Addr}(k:∀a∈A,a∈B)(x:nT h A a):nT h B a:=by obtain⟨vs,h1,h2,h3⟩:=x;exact{vs,h1,λu hu=>(h2 u hu).mono k,h3}
def EK:∀{vs:List Value} {ds:List fW},rR P h vs ds->vs.length=ds.length
 |_,_,.nil=>rfl
 |_,_,.cons _ b=>by show _+1=_+1;rw[EK b]
def S0(x:Well P h v (.list ds)):∃(a:Addr) (vs:List Value),v= .ref a/\h.get? a=some {cls:= .type "list",data:= .seq vs.toArray}/\rR P h vs ds:=by
 cases x with
 |list ho hall=>exact{_,_,Z,ho,hall}
def OH(x:Well P h v (.tuple ds)):∃(a:Addr) (vs:List Value),v= .ref a/\h.get? a=some {cls:= .type "tuple",data:= .seq vs.toArray}/\rR P h vs ds:=by
 cases x with
 |tuple ho hall=>exact{_,_,Z,ho,hall}
def OZ{d:fW}{ds:List fW}(x:rR P h us (d::ds)):∃(v:Value) (vs:List Value),us=v::vs/\Well P h v d/\rR P h vs ds:=by
 cases x with
 |cons a b=>exact{_,_,Z,a,b}
def EA{n:Nat}(h:n<=1048576):n<=sizeLine:=cI h 0e3
section
variable{P:wH}{h:Heap}
mutual
def Q_:∀(d:fW) (v:Value),Well P h v d->lY d=true->d.weight<=1048576->∃A:List Addr,nG A v/\∀a∈A,nT h A a
 | .none,_,x,_,_=>by cases x;exact 28e6
 | .bool b,_,x,_,_=>by cases x;exact 28e6
 | .int i,_,x,_,_=>by cases x;exact 28e6
 | .str s,_,x,_,_=>by cases x;exact 28e6
 | .bytes b,_,x,_,_=>by cases x;exact 28e6
 | .list ds,_,x,p,z=>by
  obtain⟨a,vs,rfl,ho,hall⟩:=S0 x;have z2:MY ds<=1048576:=z;obtain⟨A,h1,h2⟩:=E1 ds _ hall p λd hd=>cI (J5 hd) z2;have k:∀b∈A,b∈a::A:=λb hb=>dZ _ hb;refine⟨a::A,dY ..,λb hb=>?_⟩;rcases dS.mp hb with e|m
  ·rw[e];exact{vs,54e6,λu hu=>(h1 u hu).mono k,.inl ho}
  ·exact(h2 b m).mono k
 | .tuple ds,_,x,p,z=>by
  obtain⟨a,vs,rfl,ho,hall⟩:=OH x;have z2:MY ds<=1048576:=z;obtain⟨A,h1,h2⟩:=E1 ds _ hall p λd hd=>cI (J5 hd) z2;have k:∀b∈A,b∈a::A:=λb hb=>dZ _ hb;refine⟨a::A,dY ..,λb hb=>?_⟩;rcases dS.mp hb with e|m
  ·rw[e];exact{vs,54e6,λu hu=>(h1 u hu).mono k,.inr ho}
  ·exact(h2 b m).mono k
 | .float _,_,_,p,_=>oO p[3e6]
 | .dict _,_,_,p,_=>oO p[3e6]
 | .bytearray _,_,_,p,_=>oO p[3e6]
 | .set _,_,_,p,_=>oO p[3e6]
 | .frozenset _,_,_,p,_=>oO p[3e6]
 | .obj _ _,_,_,p,_=>oO p[3e6]
def E1:∀(ds:List fW) (vs:List Value),rR P h vs ds->oC ds=true->(∀d∈ds,d.weight<=1048576)->∃A:List Addr,(∀u∈vs,nG A u)/\∀a∈A,nT h A a
 |[],_,x,_,_=>by cases x;exact{[],λu m=>absurd m 0e5,λa m=>absurd m 0e5}
 |d::ds,_,x,p,z=>by
  obtain⟨v,vs,rfl,x1,x2⟩:=OZ x;have q:lY d=true/\oC ds=true:=aRf.mp p;obtain⟨A,a1,a2⟩:=Q_ d v x1 q.1 (z d (dY ..));obtain⟨B,b1,b2⟩:=E1 ds vs x2 q.2 λe he=>z e (dZ _ he);have kA:∀b∈A,b∈A++B:=λb hb=>fE.mpr (.inl hb);have kB:∀b∈B,b∈A++B:=λb hb=>fE.mpr (.inr hb);refine{A++B,λu hu=>?_,λb hb=>?_}
  ·rcases dS.mp hu with e|m
   ·rw[e];exact a1.mono kA
   ·exact(b1 u m).mono kB
  ·rcases fE.mp hb with m|m
   ·exact(a2 b m).mono kA
   ·exact(b2 b m).mono kB
end
end
def DK(o:Obj):Option HO:=match o.data with
 | .seq vs _=>if(o.cls==tS "list")=true then some (.frz o (.lst (vs.toList.map kP))) else some (.frz o (.tup (vs.toList.map kP)))
 |_=>none
def kD(K:aP)(h:Heap)(A:List Addr):Hp:=λb=>if b∈A then(if(K.lookup b).isNone=true then(h.get? b).bind DK else none) else none
def DT(H:Hp):Prop:=∀b,H b=none\/∃o u,H b=some (.frz o u)
def RN(vs:List Value):DK {cls:= .type "list",data:= .seq vs.toArray}=some (.frz {cls:= .type "list",data:= .seq vs.toArray} (.lst 17e7)):=by show(if(tS "list"==tS "list")=true then some "list"[20e7] else some "list"[20e8])=_;rw[aC (aRg _)]
def T0(vs:List Value):DK {cls:= .type "tuple",data:= .seq vs.toArray}=some (.frz {cls:= .type "tuple",data:= .seq vs.toArray} (.tup 17e7)):=by show(if(tS "tuple"==tS "list")=true then some "tuple"[20e7] else some "tuple"[20e8])=_;rw[aB 0e3]
section
variable{P:bN}{w:bK}{K:aP}{h:Heap}{A:List Addr}
def ED{b:Addr}{o:Obj}(hb:b∈A)(hk:K.lookup b=none)(e:h.get? b=some o):kD K h A b=DK o:=by unfold kD;rw[aC hb,hk,aC (show(none:Option Obj).isNone=true from rfl),e]<;>rfl
def aJp{u:HO}(q:kD K h A b=some u):b∈A/\K.lookup b=none:=by
 unfold kD at q;by_cases hb:b∈A
 ·rw[aC hb] at q;cases hk:K.lookup b with
  |none=>exact⟨hb,Z⟩
  |some o=>rw[hk,11e5] at q;cases q
 ·rw[aB hb] at q;cases q
def GV(ar:∀a∈A,nT h A a){u:HO}(q:kD K h A b=some u):K.lookup b=none/\∃vs:List Value,vs.length<=1e5/\(∀u∈vs,nG A u)/\
 ((h.get? b=some {cls:= .type "list",data:= .seq vs.toArray}/\u= .frz {cls:= .type "list",data:= .seq vs.toArray} (.lst 17e7))\/
  (h.get? b=some {cls:= .type "tuple",data:= .seq vs.toArray}/\u= .frz {cls:= .type "tuple",data:= .seq vs.toArray} (.tup 17e7))):=by
 obtain⟨hb,hk⟩:=aJp q;obtain⟨vs,h1,h2,h3⟩:=ar b hb;refine{hk,vs,h1,h2,?_};rcases h3 with e|e
 ·rw[ED hb hk e,RN] at q;exact .inl {e,(eO q).symm}
 ·rw[ED hb hk e,T0] at q;exact .inr {e,(eO q).symm}
def aLb(ar:∀a∈A,nT h A a):DT (kD K h A):=λb=>by
 cases q:kD K h A b with
 |none=>exact .inl rfl
 |some u=>
  obtain⟨_,vs,_,_,⟨_,e⟩|⟨_,e⟩⟩:=GV ar q
  ·exact .inr {_,_,by rw[e]}
  ·exact .inr {_,_,by rw[e]}
def aFd(ar:∀a∈A,nT h A a):eE P w (kD K h A) h:=λb u q=>by
 obtain⟨_,vs,h1,h2,⟨e,rfl⟩|⟨e,rfl⟩⟩:=GV ar q
 ·exact{e,by rw[bA];exact h1,vs,_,xJ h2,e}
 ·exact{e,by rw[bA];exact h1,vs,xJ h2,_,e,Z,_,Z}
def CZ{c c':Value}{vs us:List Value}(e:(some {cls:=c,data:= .seq vs.toArray}:Option Obj)=some {cls:=c',data:= .seq us.toArray}):c=c'/\vs=us:=by
 have e1:=eO e;have e2:c=c':=dB Obj.cls e1;have e3:Data.seq vs.toArray=Data.seq us.toArray:=dB Obj.data e1;injection e3 with e4
 refine{e2,?_};have e5:=dB WV e4;simpa using e5
def u6(KX:K.In h)(ar:∀a∈A,nT h A a){a:Addr}{vs:List Value}(ha:a∈A)(e:h.get? a=some {cls:= .type "list",data:= .seq vs.toArray}):(∀u∈vs,nG A u)/\aJ K (kD K h A) a 17e7:=by
 obtain⟨us,h1,h2,h3⟩:=ar a ha;have hu:us=vs:=by
  rcases h3 with q|q
  ·rw[e] at q;exact(CZ q).2.symm
  ·rw[e] at q;exact absurd (tS.inj (CZ q).1) 0e3
 subst hu;refine{h2,?_};cases hk:K.lookup a with
 |none=>exact .inl (.inr {_,by rw[ED ha hk e,RN]})
 |some o=>have e2:=KX a o hk;rw[e] at e2;obtain rfl:=eO e2;exact .inr {_,us.toArray,_,hk,Z,Z,Z,by rw[eX];exact h1,by simpa using xJ h2}
def c_(KX:K.In h)(ar:∀a∈A,nT h A a){a:Addr}{vs:List Value}(ha:a∈A)(e:h.get? a=some {cls:= .type "tuple",data:= .seq vs.toArray}):(∀u∈vs,nG A u)/\bW K (kD K h A) a 17e7:=by
 obtain⟨us,h1,h2,h3⟩:=ar a ha;have hu:us=vs:=by
  rcases h3 with q|q
  ·rw[e] at q;exact absurd (tS.inj (CZ q).1) 0e3
  ·rw[e] at q;exact(CZ q).2.symm
 subst hu;refine{h2,?_};cases hk:K.lookup a with
 |none=>exact .inl (.inr {_,by rw[ED ha hk e,T0]})
 |some o=>have e2:=KX a o hk;rw[e] at e2;obtain rfl:=eO e2;exact .inr {_,us.toArray,_,hk,Z,Z,by rw[eX];exact h1,by simpa using xJ h2}
mutual
def aJi(KX:K.In h)(ar:∀a∈A,nT h A a):∀(d:fW) (v:Value),Well Pm h v d->lY d=true->nG A v->Dw K (kD K h A) (kP v) d
 | .none,_,x,_,_=>by cases x;exact .non
 | .bool b,_,x,_,_=>by cases x;exact .bl b
 | .int i,_,x,_,_=>by cases x;exact .int i
 | .str s,_,x,_,_=>by cases x;exact .str s
 | .bytes b,_,x,_,_=>by cases x;have z:=Dw.byt (K:=K) (H:=kD K h A) b.toArray;exact z
 | .list ds,_,x,p,hu=>by obtain⟨a,vs,rfl,ho,hall⟩:=S0 x;obtain⟨h2,hs⟩:=u6 KX ar hu ho;exact .lst hs (D9 KX ar ds _ hall p h2)
 | .tuple ds,_,x,p,hu=>by obtain⟨a,vs,rfl,ho,hall⟩:=OH x;obtain⟨h2,hs⟩:=c_ KX ar hu ho;exact .tup hs (D9 KX ar ds _ hall p h2)
 | .float _,_,_,p,_=>oO p[3e6]
 | .dict _,_,_,p,_=>oO p[3e6]
 | .bytearray _,_,_,p,_=>oO p[3e6]
 | .set _,_,_,p,_=>oO p[3e6]
 | .frozenset _,_,_,p,_=>oO p[3e6]
 | .obj _ _,_,_,p,_=>oO p[3e6]
def D9(KX:K.In h)(ar:∀a∈A,nT h A a):∀(ds:List fW) (vs:List Value),rR Pm h vs ds->oC ds=true->(∀u∈vs,nG A u)->oY K (kD K h A) 17e7 ds
 |[],_,x,_,_=>by cases x;exact .nil
 |d::ds,_,x,p,hu=>by obtain⟨v,vs,rfl,x1,x2⟩:=OZ x;have q:lY d=true/\oC ds=true:=aRf.mp p;exact .cons (aJi KX ar d v x1 q.1 (hu _ (dY ..))) (D9 KX ar ds vs x2 q.2 λu m=>hu u (dZ _ m))
end
end
def aLz(h:fW.layableAll ds=true):∀d∈ds,d.weight<=1048576:=λd hd=>(PySem.W.layableW_iff.mp (MK.mp h d hd)).2.2
def OW:∀(cs:List zE) (a:XI cs),(G5 cs a).length=cs.length
 |[],_=>rfl
 |c::cs,a=>by show(G5 cs a.2).length+1=cs.length+1;rw[OW cs a.2]
end L2
end
namespace PH
open PySem PySem.Spec PyProof.Rows L2
open Vbpozz (State itemOf tripOf setItem binOf setBin outOfBin trayOf setTray roundOf setRound intoBin scan missed sentBack given notThere put cashTo owe act unowe dueTo owedBy openLoss setLoss turnedUp runsAhead digitOf pointOf toSort passed depOf comesOf tryRun backRun eventsAhead sooner unloaded arrives loaded departs takenBy happens goesOn)
structure Cl where
 trip:Addr
 run:Addr
 item:Addr
 msg:Addr
 order:Addr
 loss:Addr
 house:Addr
 tab:Addr
structure G where
 house:Addr
 trips:Addr
 runs:Addr
 under:Addr
 posted:Addr
 bins:Addr
 trays:Addr
 passes:Addr
 rounds:Addr
 messages:Addr
 known:Addr
 orders:Addr
 losses:Addr
 cash:Addr
 debts:Addr
 journal:Addr
 bin:Nat->Addr
 tray:Nat->Addr
 round:Nat->Addr
 kn:Nat->Addr
 debt:Nat->Addr
 trip:Nat->Addr
 run:Nat->Nat->Addr
 load:Nat->Nat->Addr
 item:Nat->Addr
 msg:Nat->Addr
 order:Nat->Addr
 loss:Nat->Addr
 jr:Nat->Addr
 brk:Nat->Nat->Bool
 lds:Nat->Nat->List Nat
 who:Nat->Nat
inductive dF where
 |tab|house|trips|runs|under|posted|bins|trays|passes|rounds|messages|known|orders|losses|cash|debts|journal
 |bin (o:Nat)|tray (o:Nat)|round (o:Nat)|kn (o:Nat)|debt (p:Nat)|trip (n:Nat)|run (n d:Nat)|load (n d:Nat)|item (i:Nat)|msg (k:Nat)|order (k:Nat)|loss (k:Nat)|jr (k:Nat)
 deriving DecidableEq
def ad(c:Cl)(g:G):dF->Addr
 | .tab=>c.tab
 | .house=>g.house
 | .trips=>g.trips
 | .runs=>g.runs
 | .under=>g.under
 | .posted=>g.posted
 | .bins=>g.bins
 | .trays=>g.trays
 | .passes=>g.passes
 | .rounds=>g.rounds
 | .messages=>g.messages
 | .known=>g.known
 | .orders=>g.orders
 | .losses=>g.losses
 | .cash=>g.cash
 | .debts=>g.debts
 | .journal=>g.journal
 | .bin o=>g.bin o
 | .tray o=>g.tray o
 | .round o=>g.round o
 | .kn o=>g.kn o
 | .debt p=>g.debt p
 | .trip n=>g.trip n
 | .run n d=>g.run n d
 | .load n d=>g.load n d
 | .item i=>g.item i
 | .msg k=>g.msg k
 | .order k=>g.order k
 | .loss k=>g.loss k
 | .jr k=>g.jr k
def cE(s:State):dF->Prop
 | .bin o=>o<4
 | .tray o=>o<4
 | .round o=>o<4
 | .kn o=>o<4
 | .debt p=>p<5
 | .trip n=>(tJ s n).isSome=true
 | .run n d=>(tJ s n).isSome=true/\d<=20
 | .load n d=>(tJ s n).isSome=true/\d<=20
 | .item i=>(XJ s i).isSome=true
 | .msg k=>k<1e2
 | .order k=>k<6e2
 | .loss k=>k<7e7
 | .jr k=>k<7e9
 |_=>True
inductive Ct where
 |lst (xs:List V)
 |dK (kvs:List (aX×V))
 |dT (kvs:List 21e3)
 |ins (C:Addr) (fs:List (Str×V))
 |itm (C:Addr) (fs:V->List (Str×V)) (pl:List V)
 |tab
abbrev vi(n:Nat):V:= .int (n:Int)
def kF:Str:="items_for.<locals>.<lambda>"
def uP(H:Hp)(ps:Array Value):Prop:=ps=#[]\/∃a:Addr,ps=#[rawInt 463,rawInt 31,.ref a]/\H a=some (.ext λh=>h.CodeRec (.ref a) kF)
def cO(H:Hp)(a:Addr):Ct->Prop
 | .lst xs=>H a=some (.lst xs)
 | .dK kvs=>H a=some (.dK kvs)
 | .dT kvs=>H a=some (.dT kvs)
 | .ins C fs=>∃dx,H a=some (.ins C dx fs)
 | .itm C fs pl=>∃dx p,H a=some (.ins C dx (fs (.ref p)))/\H p=some (.tup pl)
 | .tab=>∃ps,H a=some (.tbl ps)/\uP H ps
def sP(g:G)(s:State):List (Str×V):=[("now",vi s.now),("trips",.ref 10e0),("runs",.ref g.runs),("under_way",.ref g.under),("posted",.ref 9e9),("bins",.ref g.bins),("trays",.ref g.trays),("passes",.ref g.passes),("rounds",.ref 10e8),
 ("messages",.ref g.messages),("known",.ref g.known),("orders",.ref g.orders),("losses",.ref g.losses),("cash",.ref g.cash),("debts",.ref g.debts),("came_in",vi s.inn),("went_out",vi s.out),("journal",.ref g.journal)]
def uT(t:eI):List (Str×V):=[("number",vi t.no),("origin",vi 1e7),("to",vi t.to_),("minute",vi t.dep),("takes",vi t.dur),("holds",vi t.cap)]
def eG(g:G)(s:State)(t:eI)(d:Nat):List (Str×V):=[("trip",.ref (g.trip t.no)),("day",vi d),("goes",vi (Vbpozz.depOf (t,d))),("comes",vi (Vbpozz.comesOf (t,d))),53e7,55e0,
 ("broken",.bl (g.brk t.no d)),("load",.ref (g.load t.no d))]
def JZ:Option Nat->V
 |none=> .non
 |some n=>vi n
def mI(x:cR)(pl:V):List (Str×V):=[("origin",vi 4e7),("number",vi x.id),("to",vi x.to_),("point",vi x.point),("home",vi x.home),("rank",vi x.rank),("value",vi 11e2),("cash",vi x.cod),("promise",JZ x.promise),("attempts",vi x.attempts),
 ("goes_back",.bl x.back),("lost",.bl x.lost),("place",pl),("since",vi x.since)]
def iJ(g:G)(x:cR):List Int:=match x.place with
 | .bin o=>[0,o,0]
 | .run n d=>[1,n,d]
 | .tray o=>[2,o,0]
 | .round o=>[3,o,0]
 | .counter o=>[4,o,0]
 | .ended k o=>[5,k,o]
 | .missing=>[6,g.who x.id,0]
def DR(m:pG):List (Str×V):=[("teller",vi m.office),("time",vi m.time),("item",vi m.item),("kind",vi m.kind)]
def xW(x:uF):List (Str×V):=[("item",vi x.item),("amount",vi x.amount),("taker",vi x.at_),("payer",vi x.for_),("message",vi x.message),("paid",.bl x.paid)]
def xZ(l:eY):List (Str×V):=[("item",vi l.item),("party",vi l.who),("time",vi l.time),("cleared",.bl l.cleared),("paid",.bl l.paid)]
def mG(s:State):List Int:=[17e5,s.items.length,s.messages.length,s.losses.length,s.orders.length,s.inn,s.out,s.cash.length]++s.cash
def aT(f:Nat->Addr)(l:List Nat):List V:=l.map λi=> .ref (f i)
def cont(c:Cl)(g:G)(s:State):dF->Ct
 | .tab=> .tab
 | .house=> .ins 8e9 (sP g s)
 | .trips=> .dK 22e3
 | .runs=> .dT 36e6
 | .under=> .lst (s.runs.map λr=> .ref 16e5)
 | .posted=> .dK 45e1
 | .bins=> .lst g.bin[6e4]
 | .trays=> .lst g.tray[6e4]
 | .passes=> .lst ((16e0).map λo=>vi (Vbpozz.trayOf s o).passes)
 | .rounds=> .lst g.round[6e4]
 | .messages=> .lst (aT g.msg (bT 1e2))
 | .known=> .lst g.kn[6e4]
 | .orders=> .lst (aT g.order (bT 6e2))
 | .losses=> .lst (aT g.loss (bT 7e7))
 | .cash=> .lst (s.cash.map .int)
 | .debts=> .lst (aT g.debt [0,1,2,3,4])
 | .journal=> .lst (aT g.jr (bT 7e9))
 | .bin o=> .lst (Vbpozz.binOf s o)[0e8]
 | .tray o=> .lst (Vbpozz.trayOf s o)[12e7]
 | .round o=> .lst (Vbpozz.roundOf s o)[0e8]
 | .kn o=> .dK ((4e9).map λ(k:Nat)=>(.inl (k:Int),.bl true))
 | .debt p=> .lst p[17e5]
 | .trip n=>match tJ s n with
  |some t=> .ins c.trip (uT t)
  |none=> .lst []
 | .run n d=>match tJ s n with
  |some t=> .ins c.run 26e2
  |none=> .lst []
 | .load n d=> .lst (g.lds n d)[0e8]
 | .item i=>match XJ s i with
  |some x=> .itm 5e7 (mI x) 20e0
  |none=> .lst []
 | .msg k=>match s.messages[k]? with
  |some m=> .ins c.msg (DR m)
  |none=> .lst []
 | .order k=>match s.orders[k]? with
  |some m=> .ins c.order (xW m)
  |none=> .lst []
 | .loss k=>match s.losses[k]? with
  |some m=> .ins c.loss (xZ m)
  |none=> .lst []
 | .jr k=> .lst 55e1
structure Sh(s:State):Prop where
 bins:s.bins.length=4
 trays:s.trays.length=4
 rounds:s.rounds.length=4
 known:s.known.length=4
 cash:s.cash.length=5
 owes:s.owes.length=25
 ids:(s.items.map (·.id)).Nodup
 nos:(s.trips.map (·.no)).Nodup
 kn:∀o k,k∈s.known.getD o []->k<1e2
 knd:∀o,(4e9).Nodup
structure aO(c:Cl)(g:G)(H:Hp)(s:State):Prop where
 cell:∀l,cE s l->cO H (ad c g l) (cont c g s l)
 inj:∀l l',cE s l->cE s l'->ad c g l=ad c g l'->l=l'
 sh:Sh s
 ld:∀n d i,i∈g.lds n d->cE s (.item i)
def zR:HO->Bool
 | .tup _=>false
 | .ext _=>false
 |_=>true
def cO.isObj(h:cO H a k):∃o,H a=some o/\zR o=true:=by
 cases k with
 |lst xs=>exact{_,h,Z}
 |dK xs=>exact{_,h,Z}
 |dT xs=>exact{_,h,Z}
 |ins C fs=>obtain⟨dx,h⟩:=h;exact{_,h,Z}
 |itm C fs pl=>obtain⟨dx,p,h,_⟩:=h;exact{_,h,Z}
 |tab=>obtain⟨ps,h,_⟩:=h;exact{_,h,Z}
def cO.keep{H H':Hp}(h:cO H a k)(h1:H' a=H a)(h2:∀b o,H b=some o->zR o=false->H' b=some o):cO H' a k:=by
 cases k with
 |lst xs=>exact h1.trans h
 |dK xs=>exact h1.trans h
 |dT xs=>exact h1.trans h
 |ins C fs=>obtain⟨dx,h⟩:=h;exact{dx,h1.trans h}
 |itm C fs pl=>obtain⟨dx,p,h,q⟩:=h;exact{dx,p,h1.trans h,h2 p _ q Z}
 |tab=>
  obtain⟨ps,h,q⟩:=h;refine{ps,h1.trans h,?_};rcases q with q|⟨a',e,q⟩
  ·exact .inl q
  ·exact .inr {a',e,h2 a' _ q Z}
section
variable{c:Cl}{M:dF->Bool}{g g' g'':G}{H H' H'':Hp}{s s' s'':State}
def aO.obj(R:aO c g H s)(h:cE s l):∃o,H (ad c g l)=some o/\zR o=true:=(R.cell l h).isObj
def aO.isS(R:aO c g H s)(h:cE s l):H (ad c g l)≠none:=by obtain⟨o,ho,_⟩:=R.obj h;rw[ho];exact λz=>nomatch z
def aO.tup(R:aO c g H s){o:HO}(h:H b=some o)(hn:zR o=false):∀l,cE s l->ad c g l≠b:=λl hl q=>by obtain⟨o',ho,h2⟩:=R.obj hl;rw[q,h] at ho;cases ho;rw[hn] at h2;cases h2
def aO.fresh(R:aO c g H s)(h:H p=none):∀l,cE s l->ad c g l≠p:=λl hl q=>R.isS hl %[q,h|0e0]
structure Nx(c:Cl)(M:dF->Bool)(g:G)(H:Hp)(s:State)(g':G)(H':Hp)(s':State):Prop where
 rep:aO c g' H' s'
 keep:∀b o,H b=some o->(∀l,cE s l->ad c g l≠b)->H' b=some o
 foot:∀l,cE s' l->(∃l0,cE s l0/\ad c g l0=ad c g' l)\/H (ad c g' l)=none
 ad:∀l,cE s l->M l=false->ad c g' l=ad c g l
 lv:∀l,cE s l->cE s' l
 dom:∀b,H b≠none->H' b≠none
abbrev M0:dF->Bool:=λ_=>false
def Nx.refl(R:aO c g H s):Nx c M g H s g H s:={R,λ_ _ h _=>h,λl hl=> .inl ⟨l,hl,Z⟩,λ_ _ _=>Z,λ_ h=>h,λ_ h=>h}
def Nx.trans(A:Nx c M g H s g' H' s')(B:Nx c M g' H' s' g'' H'' s''):Nx c M g H s g'' H'' s'' where
 rep:=B.rep
 keep b o h hn:=B.keep b o (A.keep b o h hn) λl hl q=>by
  rcases A.foot l hl with⟨l0,h0,e⟩|e
  ·exact hn l0 h0 (e.trans q)
  ·rw[q,h] at e;cases e
 foot l hl:=by
  rcases B.foot l hl with⟨l0,h0,e⟩|e
  ·rw[<-e];exact A.foot l0 h0
  ·right;cases q:H (PH.ad c g'' l) with
   |none=>rfl
   |some o=>exact absurd e (A.dom _ q[4e9])
 ad l hl hm:=(B.ad l (A.lv l hl) hm).trans (A.ad l hl hm)
 lv l hl:=B.lv l (A.lv l hl)
 dom b h:=B.dom b (A.dom b h)
def Nx.mono(A:Nx c M0 g H s g' H' s'):Nx c M g H s g' H' s':={A.rep,A.keep,A.foot,λl hl _=>A.ad l hl Z,A.lv,A.dom}
def Nx.own(A:Nx c M g H s g' H' s')(h:H b≠none)(hn:∀l,cE s l->PH.ad c g l≠b):∀l,cE s' l->PH.ad c g' l≠b:=λl hl q=>by
 rcases A.foot l hl with⟨l0,h0,e⟩|e
 ·exact hn l0 h0 (e.trans q)
 ·exact h (q▸e)
def Nx.tup(A:Nx c M g H s g' H' s')(R:aO c g H s)(h:H b=vJ (.tup xs)):H' b=vJ (.tup xs):=A.keep b _ h (R.tup h Z)
def aO.other(R:aO c g H s)(h:∀b o,H b=vJ o->H' b=vJ o):aO c g H' s:=
 ⟨λl hl=>by
  obtain⟨o,ho,_⟩:=R.obj hl;exact(R.cell l hl).keep ((h _ _ ho).trans ho.symm) λb o' hb _=>h b o' hb,R.inj,R.sh,R.ld⟩
def aO.more(R:aO c g H s)(h:aU H H'):Nx c M g H s g H' s:=
 ⟨R.other h,λb o e _=>h b o e,λl hl=> .inl ⟨l,hl,Z⟩,λ_ _ _=>Z,λ_ h=>h,λb hb=>by
  cases e:H b with
  |none=>exact absurd e hb
  |some o=>rw[h b o e];exact λz=>3e8⟩
def aO.next(R:aO c g H s){W:Addr->Prop}(hW:∀b,W b->∃l,cE s l/\PH.ad c g l=b)(hw:∀b,¬W b->(∀o,H b=vJ o->H' b=vJ o))(hd:∀b,W b->H' b≠none)
 (cells:∀l,cE s' l->(cE s l/\PH.ad c g' l=PH.ad c g l/\¬W (PH.ad c g l)/\cont c g' s' l=cont c g s l)\/cO H' (PH.ad c g' l) (cont c g' s' l))
 (inj:∀l l',cE s' l->cE s' l'->PH.ad c g' l=PH.ad c g' l'->l=l') (sh:Sh s')
 (foot:∀l,cE s' l->(∃l0,cE s l0/\PH.ad c g l0=PH.ad c g' l)\/H (PH.ad c g' l)=none) (had:∀l,cE s l->M l=false->PH.ad c g' l=PH.ad c g l) (lv:∀l,cE s l->cE s' l) (hld:∀n d i,i∈g'.lds n d->i∈g.lds n d\/cE s' (.item i):=by exact λ_ _ _ h=> .inl h):Nx c M g H s g' H' s':=by
 refine⟨{λl hl=>?_,inj,sh,λn d i hi=>(hld n d i hi).elim (λh=>lv _ (R.ld n d i h)) id},λb o h hn=>hw b (λq=>?_) o h,foot,had,lv,λb hb=>?_⟩
 ·rcases cells l hl with⟨a,b,d,e⟩|q
  ·have hc:=R.cell l a;rw[b,e];obtain⟨o,ho,_⟩:=hc.isObj;refine hc.keep ((hw _ d o ho).trans ho.symm) λb' o' hb hn=>hw b' (λz=>?_) o' hb;obtain⟨l2,h2,e2⟩:=hW b' z;exact R.tup hb hn l2 h2 e2
  ·exact q
 ·obtain⟨l2,h2,e2⟩:=hW b q;exact hn l2 h2 e2
 ·by_cases z:W b
  ·exact hd b z
  ·cases e:H b with
   |none=>exact absurd e hb
   |some o=>rw[hw b z o e];exact λz=>nomatch z
def aO.set(R:aO c g H s)(hl:cE s l){o:HO}(sh:Sh s')(hg:∀l',PH.ad c g' l'=PH.ad c g l')(hs:∀l',cE s' l'↔cE s l')(hc:∀l',cE s' l'->l'≠l->cont c g' s' l'=cont c g s l')
 (hn:cO 27e2 (PH.ad c g l) (cont c g' s' l)) (hld:∀n d i,i∈g'.lds n d->i∈g.lds n d\/cE s' (.item i):=by exact λ_ _ _ h=> .inl h):Nx c M g H s g' 27e2 s':=by
 refine R.next (W:=λb=>b=PH.ad c g l) (λb e=>⟨l,hl,6e4⟩) (λb hb o' ho=>by rw[aS hb];exact ho) (λb e=>by rw[e,aR];exact λz=>3e8) (λl' hl'=>?_)
  (λl1 l2 h1 h2 e=>R.inj l1 l2 ((hs _).mp h1) ((hs _).mp h2) (by rw[<-hg,<-hg];exact e)) sh (λl' h'=> .inl {l',(hs _).mp h',(hg _).symm}) (λl' _ _=>hg l') (λl' h'=>(hs l').mpr h') hld
 by_cases e:l'=l
 ·subst e;right;rw[hg];exact hn
 ·exact .inl {(hs _).mp hl',hg _,λq=>e (R.inj _ _ ((hs _).mp hl') hl q),hc _ hl' e}
def aO.grow{H0:Hp}(R:aO c g H s)(hl:cE s l){p:Addr}(fresh:∀l',cE s l'->PH.ad c g l'≠p)(hf:H0 p=none)(hH:∀b o,H0 b=vJ o->H b=vJ o)(hM:cE s ln->M ln=true)(sh:Sh s')(hne:l≠ln)(hg:∀l',l'≠ln->PH.ad c g' l'=PH.ad c g l')(hpn:PH.ad c g' ln=p)
 (hs:∀l',l'≠ln->(cE s' l'↔cE s l')) (hsn:cE s' ln) (hc:∀l',cE s' l'->l'≠l->l'≠ln->cont c g' s' l'=cont c g s l') (R0:aO c g H0 s)
 (hn:cO 27e2 (PH.ad c g l) (cont c g' s' l)) (hnn:cO 27e2 p (cont c g' s' ln)) (hld:∀n d i,i∈g'.lds n d->i∈g.lds n d\/cE s' (.item i):=by exact λ_ _ _ h=> .inl h):Nx c M g H0 s g' 27e2 s':=by
 refine R0.next (W:=λb=>b=PH.ad c g l) (λb e=>⟨l,hl,6e4⟩) (λb hb o' ho=>by rw[aS hb];exact hH b o' ho) (λb e=>by rw[e,aR];exact λz=>3e8) (λl' hl'=>?_) 44e3 sh (λl' h'=>?_)
  (λl' h' hm=>hg l' λq=>by rw[q] at h' hm;rw[hM h'] at hm;cases hm) (λl' h'=>?_) hld
 ·by_cases e:l'=ln
  ·subst e;right;rw[hpn];exact hnn
  ·by_cases e2:l'=l
   ·subst e2;right;rw[hg _ e];exact hn
   ·exact .inl {(hs _ e).mp hl',hg _ e,λq=>e2 (R.inj _ _ ((hs _ e).mp hl') hl q),hc _ hl' e2 e}
 ·by_cases e1:l1=ln
  ·by_cases e2:l2=ln
   ·rw[e1,e2]
   ·rw[e1,hpn,hg _ e2] at e;exact absurd 6e4 (fresh l2 ((hs _ e2).mp h2))
  ·by_cases e2:l2=ln
   ·rw[e2,hpn,hg _ e1] at e;exact absurd e (fresh l1 ((hs _ e1).mp h1))
   ·rw[hg _ e1,hg _ e2] at e;exact R.inj l1 l2 ((hs _ e1).mp h1) ((hs _ e2).mp h2) e
 ·by_cases e:l'=ln
  ·right;rw[e,hpn];exact hf
  ·exact .inl {l',(hs _ e).mp h',(hg _ e).symm}
 ·by_cases e:l'=ln
  ·rw[e];exact hsn
  ·exact(hs _ e).mpr h'
end
def cH(P:bN)(w:bK)(K:aP)(mg:Str->Option Value)(base:Heap)(k:Nat)(x:Str)(ps:List Str)(sp:Sp):Prop:=
 ∃f fd,mg x=some (.ref f)/\qC K (.ref f)=true/\oQ K fd ps []/\mB P w K mg base kL k f fd ps sp
def pV(P:bN)(w:bK)(K:aP)(mg:Str->Option Value)(base:Heap)(k:Nat)(x:Str)(C:Addr)(ps:List Str)(sp:Sp):Prop:=
 mg x=some (.ref C)/\∃f fd,Mk K C f/\oQ K fd ps []/\mB P w K mg base kL k f fd ps sp
section
variable{X:Cx}{k:Nat}{C:Addr}{ps:List Str}{sp:Sp}{x:Str}{p pos:Pos}{e:Expr}{es:List Expr}{t:TA}
def bC(D:cH 2e2 X.w X.K X.mg 5e5 k x ps sp)(hr:dX k X.A)(ha:PA X (e::es) t)(hg:Gl X x:=by rfl)(hdb:(x==7e2)=false:=by decide)
 (he:dD (e::es) X.env=e[2e4]::dD es X.env:=by rfl) (hpl:(iD pos 13e4).any (·.1)=false:=by rfl):PE X (.Call (.Name x p) (e::es) [] pos) (RY sp [] E0 t):=by
 obtain⟨f,fd,h1,h2,h3,h4⟩:=D;exact C_ h4 hr hg h1 h2 h3 .nil HU ha hdb he hpl
def xX(D:pV 2e2 X.w X.K X.mg 5e5 k x C ps sp)(hr:dX (k+1) X.A)(ha:PA X (e::es) t)(hg:Gl X x:=by rfl)(hdb:(x==7e2)=false:=by decide)
 (he:dD (e::es) X.env=e[2e4]::dD es X.env:=by rfl) (hpl:(iD pos 13e4).any (·.1)=false:=by rfl):PE X (.Call (.Name x p) (e::es) [] pos) (EW C sp [] E0 t):=by
 obtain⟨h1,f,fd,h2,h3,h4⟩:=D;exact aNz h2 h4 hr hg h1 h3 .nil HU ha hdb he hpl
def PZ(D:pV 2e2 X.w X.K X.mg 5e5 k x C ps sp)(hr:dX (k+1) X.A)(hg:Gl X x:=by rfl)(hdb:(x==7e2)=false:=by decide):PE X (.Call (.Name x p) [] [] pos) (EW C sp [] E0 uX):=by obtain⟨h1,f,fd,h2,h3,h4⟩:=D;exact aEl h2 h4 hr hg h1 h3 .nil HU hdb
def CI(mg:Str->Option Value)(x:Str)(i:Int):Prop:=∃t,mg x=some (.int i t)
def cP{i:Int}(h:CI X.mg x i)(hg:Gl X x:=by rfl)(hd:(x==7e2)=false:=by decide):PE X (.Name x pos) (tC (.int i)):=by obtain⟨t,h⟩:=h;exact IJ hg h ⟨t,Z⟩ hd
def vB(K:aP)(a:Addr)(xs:List V):Prop:=∃(o:Obj) (its:Array Value) (n:Nat),K.lookup a=some o/\o.cls= .type "tuple"/\o.data= .seq its n/\its.size<=1e5/\bJ xs its.toList
def vB.sq{K:aP}{a:Addr}{xs:List V}(h:vB K a xs)(H:Hp):bW K H a xs:= .inr h
def CT(K:aP)(mg:Str->Option Value)(x:Str)(a:Addr)(xs:List V):Prop:=mg x=some (.ref a)/\vB K a xs
def gM(h:CT X.K X.mg x a xs)(hg:Gl X x:=by rfl)(hd:(x==7e2)=false:=by decide):PE X (.Name x pos) (tC (.ref a)):=IJ hg h.1 rfl hd
end
section
variable{K:aP}{U:L2.St}{H:Hp}{Q:VK}
def cM(K:aP)(H:Hp)(a:Addr)(f:Str)(v:V):Prop:=∃C dx fs,H a=some (.ins C dx fs)/\nR K C/\lZ K C f/\fs.lookup f=some v
end
def rF{K:aP}{H:Hp}{a:Addr}{f:Str}{v:V}{R:V->Prop}(h:cM K H a f v)(q:R v):∃a' C dx fs v,V.ref a= .ref a'/\H a'=some (.ins C dx fs)/\nR K C/\lZ K C f/\fs.lookup f=some v/\R v:=
 let⟨_,_,_,h1,h2,h3,h4⟩:=h;⟨a,_,_,_,v,Z,h1,h2,h3,h4,q⟩
section
variable{prog:bN}{w:bK}{A:cU}{E:Value->aI->Prop}{s:aI}
def aOc{k:Nat}{z:Value}{Q:Value->aI->Prop}(hj:s.heap.IsTupleIter j t k)(ht:s.heap.IsTuple t vs)(hz:vs[k]? =some z)
 (q:∀g,g.IsTupleIter j t (k+1)->vT j 0e2 g->Q z {s with heap:=g}):aQ 1e3 A (G6 (.ref j)) Q E s:=by
 obtain⟨oj,h1,h2,h3⟩:=id hj;obtain⟨ot,h4,_,m,h5⟩:=ht;unfold G6;refine aK (zC (name:=qG "__next__") hj.typeIs aRh (qF aRh hj.typeIs F.entry_tuple_iterator_next ?_ (F.args_tuple_iterator_next_1 _)));show aQ _ _ %[j,0|2e1] _ _ s;refine aK (qI h1 h3 (x:= .ref t) Z ?_);show aQ _ _ t[11e9] _ _ s;rw[aB (λe:(cX t==kU)=true=>eQ e)];show aQ _ _ %[j,1|2e1] _ _ s;refine aK (qI h1 h3 (x:= .int k 0) Z ?_);show aQ _ _ (MZ (.ref t) >>=_) _ _ s;refine aK (uG h4 h5 ?_);simp only[yO,hz];refine aK (FX h1 h3 0e5 (bB {z,Z,bB (q _ ?_ (zD ..))}));refine{_,C7 _ h1 (XE (CH h3 _)),(XF ..).trans h2,?_};rw[CH h3];simp[rawInt]
def aKp{z I O j1 j2 a b:Addr}{k:Nat}{xs ys:Array Value}{x y p q:Value}{R:Value->aI->Prop}(D:G7 z I O j1 j2 a b)(hz:lW 0e2 z I O .none)(hI:iS 0e2 I (.ref j1) (.ref j2))(hO:iS 0e2 O p q)
 (i1:s.heap.IsListIter j1 a k) (i2:s.heap.IsTupleIter j2 b k) (ha:s.heap.IsList a xs) (hb:s.heap.IsTuple b ys) (hx:xs[k]? =some x) (hy:ys[k]? =some y)
 (hR:∀g,lW g z I O (rawInt 0e9)->iS g O x y->g.IsListIter j1 a (k+1)->g.IsTupleIter j2 b (k+1)->iS g 0e9 x y->
   (∀c o,c≠z->c≠O->c≠j1->c≠j2->s.heap.get? c=some o->g.get? c=some o)->R (.ref 0e9) {s with heap:=g}):
 aQ 1e3 A 53e1 (λfin s'=>∃v,fin= .done (.ret v)/\R v s') E s:=by
 show aQ _ _ %[z,2|2e1] _ _ _;refine aK (qI hz Z (x:= .bool false) Z ?_);show aQ _ _ %[z,3|2e1] _ _ _;refine 52e9;show aQ _ _ (NA (.ref z) >>=_) _ _ _;refine aK ?_;unfold NA;refine aK (qI hz Z (x:= .none) Z (bB ?_));simp only[jM];refine 58e6
 replace z1:lW g1 z I O .ellipsis:=z1
 refine aK ?_;simp only[aRi,List.zipIdx_nil,XA,MD];refine aK (aK (XL ?_));show aQ _ _ (G6 (.ref j1) >>=_) _ _ _;refine aK (wpAny_nextOf_list_item (i1.extBut s1.extBut D.i1z) (ha.extBut s1.extBut D.l1z) hx λg2 i12 s2=>bB ?_);have o2:iS g2 O p q:=s2.extBut _ _ D.TOi1 (s1.extBut _ _ D.TOz hO);refine aK (uG o2 Z (aK (aRj o2 λg3 o3 s3=>?_)))
 replace o3:iS g3 O x q:=o3
 refine aK (CJ (bB ?_));refine aK (aK (XL ?_));show aQ _ _ (G6 (.ref j2) >>=_) _ _ _;have k2:g3.IsTupleIter j2 b k:=((i2.extBut s1.extBut D.i2z).extBut s2.extBut D.i12.symm).extBut s3.extBut D.TOi2.symm;have kb:g3.IsTuple b ys:=((hb.extBut s1.extBut D.l2z).extBut s2.extBut D.l2i1).extBut s3.extBut D.l2TO;refine aK (aOc k2 kb hy λg4 i24 s4=>bB ?_);have o4:iS g4 O x q:=s4.extBut _ _ D.TOi2 o3;refine aK (uG o4 Z (aK (aRj o4 λg5 o5 s5=>?_)))
 replace o5:iS g5 O x y:=o5
 refine aK (CJ (bB (bB ?_)));refine aK (uG o5 Z (aK (wpAny_newTuple ?_)));have sz:g5.objs.size=s.heap.objs.size:=by rw[s5.1,s4.1,s3.1,s2.1,s1.1]
 have z5:lW g5 z I O .ellipsis:=s5.extBut _ _ D.TOz.symm (s4.extBut _ _ D.i2z.symm (s3.extBut _ _ D.TOz.symm (s2.extBut _ _ D.i1z.symm z1)));have kp:∀c o,c≠z->c≠O->c≠j1->c≠j2->s.heap.get? c=some o->g5.get? c=some o:=λc o c1 c2 c3 c4 e=>s5.extBut _ _ c2 (s4.extBut _ _ c4 (s3.extBut _ _ c2 (s2.extBut _ _ c3 (s1.extBut _ _ c1 e))));have f1:g5.IsListIter j1 a (k+1):=((i12.extBut s3.extBut D.TOi1.symm).extBut s4.extBut D.i12).extBut s5.extBut D.TOi1.symm;have f2:g5.IsTupleIter j2 b (k+1):=i24.extBut s5.extBut D.TOi2.symm;have zl:z<g5.objs.size:=cZ z5;show aQ _ _ (aRk (.ref z) (.ref g5.objs.size) >>=_) _ _ _;refine aK ?_;unfold aRk;have z6:lW (g5.push {cls:= .type "tuple",data:= .seq #[x,y]}) z I O .ellipsis:=dL _ z5;refine aK (G8 z6 0e5 λg7 z7 s7=>?_)
 replace z7:lW g7 z I O (rawInt g5.objs.size):=z7
 refine G8 z7 0e5 λg8 z8 s8=>?_
 replace z8:lW g8 z I O (rawInt g5.objs.size):=z8
 have up:∀c o,c≠z->g5.get? c=some o->g8.get? c=some o:=λc o c1 e=>s8.extBut _ _ c1 (s7.extBut _ _ c1 (dL _ e));have t8:iS g8 g5.objs.size x y:=s8.extBut _ _ (yV zl) (s7.extBut _ _ (yV zl) (eR _ Z));rw[sz] at z8 t8;refine bB {_,Z,?_};show R (.ref g5.objs.size) _;rw[sz];obtain⟨ob1,e1,r1⟩:=f1;obtain⟨ob2,e2,r2⟩:=f2;exact hR g8 z8 (up _ _ D.TOz o5) {ob1,up _ _ D.i1z e1,r1} ⟨ob2,up _ _ D.i2z e2,r2⟩ t8 λc o c1 c2 c3 c4 e=>up c o c1 (kp c o c1 c2 c3 c4 e)
def aKe{z I O j1 j2 a b:Addr}{k:Nat}{xs:Array Value}{p q:Value}{R:G9->aI->Prop}(hh:A.handled=none)(D:G7 z I O j1 j2 a b)(hz:lW 0e2 z I O .none)(hI:iS 0e2 I (.ref j1) (.ref j2))(hO:iS 0e2 O p q)
 (i1:s.heap.IsListIter j1 a k) (ha:s.heap.IsList a xs) (hx:xs[k]? =none)
 (hE:∀g e,48e6->(∃o,g.get? e=some o/\o.cls= .type "StopIteration")->E (.ref e) {s with heap:=g}):
 aQ 1e3 A 53e1 R E s:=by
 show aQ _ _ %[z,2|2e1] _ _ _;refine aK (qI hz Z (x:= .bool false) Z ?_);show aQ _ _ %[z,3|2e1] _ _ _;refine 52e9;show aQ _ _ (NA (.ref z) >>=_) _ _ _;refine aK ?_;unfold NA;refine aK (qI hz Z (x:= .none) Z (bB ?_));simp only[jM];refine 58e6
 replace z1:lW g1 z I O .ellipsis:=z1
 refine aK ?_;simp only[aRi,List.zipIdx_nil,XA,MD];refine aK (aK (XL ?_));show aQ _ _ (G6 (.ref j1) >>=_) _ _ _;refine aK (wpAny_nextOf_list_end hh (i1.extBut s1.extBut D.i1z) (ha.extBut s1.extBut D.l1z) hx λg2 e s2 he=>?_);obtain⟨ob,h1,h2⟩:=he;have z2:lW g2 z I O .ellipsis:=s2 _ _ D.i1z.symm z1;have hne:e≠z:=λq=>by subst q;rw[z2] at h1;cases h1;simp at h2
 exact G8 z2 0e5 λg3 _ s3=>hE g3 e (λc o c1 _ c3 _ q=>s3.extBut _ _ c1 (s2 _ _ c3 (s1.extBut _ _ c1 q))) {ob,s3.extBut _ _ hne h1,h2}
def aKc(a b:Addr)(xs ys:Array Value):Meets (Builtin.«zip.__new__» {[.type "zip",.ref a,.ref b],[]}) (λ_ R s=>s.heap.IsList a xs/\s.heap.IsTuple b ys/\
 R (.ok (.ret (.ref 4[0e5]))) {s with heap:=((((s.heap.push {cls:= .type "list_iterator",data:= .fields #[.ref a,.int 0 0]}).push {cls:= .type "tuple_iterator",data:= .fields #[.ref b,.int 0 0]}).push
  {cls:= .type "tuple",data:= .seq #[.ref s.heap.objs.size,.ref 1[0e5]]}).push {cls:= .type "tuple",data:= .seq #[.none,.none]}).push {cls:= .type "zip",data:= .fields #[.none,.bool false,.bool false,.ref 2[0e5],.ref 3[0e5]]}}):=
 .of_wp λprog w A R s h=>by
  obtain⟨hp,g,d,tk,os⟩:=s;obtain⟨h1,h2,h3⟩:=h;have hsub:=sub_zip;have L1:Heap.IsList (aI.heap ⟨hp,g,d,tk,os⟩) a xs:=h1;have L2:Heap.IsTuple (aI.heap {hp.push {cls:= .type "list_iterator",data:= .fields #[.ref a,.int 0 0]},g,d,tk,os}) b ys:=Heap.IsTuple.push h2 _
  wp_walk using LU L1,aPv L2
  refine{_,Z,?_};simp only[kW] at h3 ⊢;exact h3
end
section
variable{prog:bN}{w:bK}{A:cU}{E:Value->aI->Prop}{s:aI}
def aAw{k:Nat}{xs ys:Array Value}{x y p q:Value}{R:Option Value->aI->Prop}(D:G7 z I O j1 j2 a b)(hz:lW 0e2 z I O .none)(hI:iS 0e2 I (.ref j1) (.ref j2))(hO:iS 0e2 O p q)
 (i1:s.heap.IsListIter j1 a k) (i2:s.heap.IsTupleIter j2 b k) (ha:s.heap.IsList a xs) (hb:s.heap.IsTuple b ys) (hx:xs[k]? =some x) (hy:ys[k]? =some y)
 (hR:∀g,lW g z I O (rawInt 0e9)->iS g O x y->g.IsListIter j1 a (k+1)->g.IsTupleIter j2 b (k+1)->iS g 0e9 x y->
   (∀c o,c≠z->c≠O->c≠j1->c≠j2->s.heap.get? c=some o->g.get? c=some o)->R (some (.ref 0e9)) {s with heap:=g}):
 aQ 1e3 A z[8e7] R E s:=by
 have ty:s.TypeIs (.ref z) "zip":={_,hz,Z};unfold pyNext;exact aK (zB (zC (name:=qG "__next__") ty NB (qF NB ty aRl
  (aKp D hz hI hO i1 i2 ha hb hx hy λg b1 b2 b3 b4 b5 b6=>bB (hR g b1 b2 b3 b4 b5 b6)) (aRm _))))
def t7{k:Nat}{xs:Array Value}{R:Option Value->aI->Prop}(hh:A.handled=none)(D:G7 z I O j1 j2 a b)(hz:lW 0e2 z I O .none)(hI:iS 0e2 I (.ref j1) (.ref j2))(hO:iS 0e2 O p q)
 (i1:s.heap.IsListIter j1 a k) (ha:s.heap.IsList a xs) (hx:xs[k]? =none)
 (hR:∀g,48e6->R none {s with heap:=g}):aQ 1e3 A z[8e7] R E s:=by
 have ty:s.TypeIs (.ref z) "zip":={_,hz,Z};unfold pyNext;refine aK (zB (zC (name:=qG "__next__") ty NB (qF NB ty aRl (aKe hh D hz hI hO i1 ha hx λg e kp he=>?_) (aRm _))));obtain⟨ob,h1,h2⟩:=he;exact aK (MV (T:="StopIteration") (b:=true) ⟨ob,h1,h2⟩ XG (bB (hR _ kp)))
def aFs{Q:Value->aI->Prop}(ha:s.heap.IsList a xs)(hb:s.heap.IsTuple b ys)
 (h:∀g,lW g 4[0e5] 2[0e5] 3[0e5] .none->iS g 2[0e5] (.ref 0e9) (.ref 1[0e5])->iS g 3[0e5] .none .none->
   g.IsListIter 0e9 a 0->g.IsTupleIter 1[0e5] b 0->(∀c o,s.heap.get? c=some o->g.get? c=some o)->Q (.ref 4[0e5]) {s with heap:=g}):
 aQ 1e3 A (call (.type "zip") [.ref a,.ref b]) Q E s:=by
 refine callType_new F.called_zip 0e3 (F.typeCall_zip_2 _ _) (F.newCall_zip_2 _ _) (λobj=>F.args_object_init_3 obj _ _) F.entry_zip_new (aKc a b xs ys) {ha,hb,?_};generalize e1:s.heap.push {cls:= .type "list_iterator",data:= .fields #[.ref a,.int 0 0]}=g1;have n1:g1.objs.size=0e9+1:=by rw[<-e1,kW]
 have f1:g1.get? 0e9=some {cls:= .type "list_iterator",data:= .fields #[.ref a,.int 0 0]}:=by rw[<-e1];exact eR _ rfl
 have k1:∀c o,s.heap.get? c=some o->g1.get? c=some o:=λc o q=>by rw[<-e1];exact dL _ q
 generalize e2:g1.push {cls:= .type "tuple_iterator",data:= .fields #[.ref b,.int 0 0]}=g2;have n2:g2.objs.size=0e9+2:=by rw[<-e2,kW,n1]
 have f2:g2.get? 1[0e5]=some {cls:= .type "tuple_iterator",data:= .fields #[.ref b,.int 0 0]}:=by rw[<-e2,<-n1];exact eR _ rfl
 have k2:∀c o,g1.get? c=some o->g2.get? c=some o:=λc o q=>by rw[<-e2];exact dL _ q
 generalize e3:g2.push {cls:= .type "tuple",data:= .seq #[.ref s.heap.objs.size,.ref 1[0e5]]}=g3;have n3:g3.objs.size=0e9+3:=by rw[<-e3,kW,n2]
 have f3:iS g3 2[0e5] (.ref 0e9) (.ref 1[0e5]):=by rw[<-e3,<-n2];exact eR _ rfl
 have k3:∀c o,g2.get? c=some o->g3.get? c=some o:=λc o q=>by rw[<-e3];exact dL _ q
 generalize e4:g3.push {cls:= .type "tuple",data:= .seq #[.none,.none]}=g4;have n4:g4.objs.size=0e9+4:=by rw[<-e4,kW,n3]
 have f4:iS g4 3[0e5] .none .none:=by rw[<-e4,<-n3];exact eR _ rfl
 have k4:∀c o,g3.get? c=some o->g4.get? c=some o:=λc o q=>by rw[<-e4];exact dL _ q
 generalize e5:g4.push {cls:= .type "zip",data:= .fields #[.none,.bool false,.bool false,.ref 2[0e5],.ref 3[0e5]]}=g5;have f5:lW g5 4[0e5] 2[0e5] 3[0e5] .none:=by rw[<-e5,<-n4];exact eR _ rfl
 have k5:∀c o,g4.get? c=some o->g5.get? c=some o:=λc o q=>by rw[<-e5];exact dL _ q
 show _/\_;exact⟨{_,f5,Z},h g5 f5 (k5 _ _ (k4 _ _ f3)) (k5 _ _ f4) {_,k5 _ _ (k4 _ _ (k3 _ _ (k2 _ _ f1))),Z,Z} ⟨_,k5 _ _ (k4 _ _ (k3 _ _ f2)),Z,Z⟩ λc o q=>k5 _ _ (k4 _ _ (k3 _ _ (k2 _ _ (k1 _ _ q))))⟩
end
def BB(K:aP)(a b:Addr):It:=
 ⟨λi H=>∃(xs ys:List V) (x y:V),aJ K H a xs/\bW K H b ys/\xs[i]? =some x/\ys[i]? =some y,
  λi H v H'=>∃T x y,v= .ref T/\H T=none/\H'=upd H T (.tup [x,y])/\(∀xs,aJ K H a xs->xs[i]? =some x)/\∀ys,bW K H b ys->ys[i]? =some y,
  λi H=>∃xs:List V,aJ K H a xs/\1e9<=i/\∃ys,bW K H b ys⟩
def HQ{c z I O j1 j2:Addr}(h:c∈[z,I,O,j1,j2]):c=z\/c=I\/c=O\/c=j1\/c=j2:=by simpa using h
def aDn{P:bN}{w:bK}{K:aP}{elts:List Expr}{kk:Nat}{tpos:Pos}(D:G7 z I O j1 j2 a b):
 oR P w K (.Tuple elts kk tpos) (BB K a b) [z,I,O,j1,j2] z (λi h=>lW h z I O .none/\iS h I (.ref j1) (.ref j2)/\(∃x y,iS h O x y)/\h.IsListIter j1 a i/\h.IsTupleIter j2 b i) where
 mem:=by simp
 obj:=λi h st c hc=>by
  obtain⟨hz,hI,⟨x,y,hO⟩,⟨o1,e1,_,d1⟩,⟨o2,e2,_,d2⟩⟩:=st;rcases HQ hc with q|q|q|q|q<;>subst q
  ·exact hz[13e7]
  ·exact hI[13e7]
  ·exact hO[13e7]
  ·exact{o1,e1,λv q=>by rw[d1] at q;cases q}
  ·exact{o2,e2,λv q=>by rw[d2] at q;cases q}
 keep:=λi h h' st k=>by obtain⟨hz,hI,⟨x,y,hO⟩,⟨o1,e1,r1⟩,⟨o2,e2,r2⟩⟩:=st;exact⟨k z 0e5 _ hz,k I 0e5 _ hI,{x,y,k O 0e5 _ hO},{o1,k j1 0e5 _ e1,r1},{o2,k j2 0e5 _ e2,r2}⟩
 item:=by
  intro X hP hw hK hc i pins s U H E Iv hf st hg;subst hP hw hK;obtain⟨hz,hI,⟨x0,y0,hO⟩,h1,h2⟩:=st;obtain⟨xs,ys,x,y,qx,qy,hx,hy⟩:=hg;obtain⟨its,rv,pl,_⟩:=Iv.list qx;obtain⟨its2,rv2,pl2,_⟩:=Iv.tuple qy;obtain⟨u,hu,ru⟩:=rv.get hx;obtain⟨u2,hu2,ru2⟩:=rv2.get hy;have zl:z<s.heap.objs.size:=cZ hz;refine aAw D hz hI hO h1 h2 15e4 pl2 (x:=u) (y:=u2) hu[0e6] hu2[0e6] λg z' O' h1' h2' hT hk=>?_;refine{_,Z,wpAny_letOwnedTupleGo_zip (s:={s with heap:=g}) z' λg2 z2 sb=>?_};have t2:g2.get? 0e9=some {cls:= .type "tuple",data:= .seq #[u,u2]}:=(sb.2 _ (yV zl)).trans hT;have new:eZ 2e2 X.w (upd H 0e9 (.tup [x,y])) g2 0e9 (.tup [x,y]):=⟨by show 2<=sizeLine;decide,[u,u2],.cons ru (.cons ru2 .nil),{_,t2,Z,_,Z}⟩;have out:∀c,c∉[z,I,O,j1,j2]->c≠z/\c≠O/\c≠j1/\c≠j2:=λc hc=>by simp at hc;exact⟨hc.1,hc.2.2.1,hc.2.2.2.1,hc.2.2.2.2⟩
  have I1:aG X pins U (upd H 0e9 (.tup [x,y])) {s with heap:=g2}:=
   Iv.turnedNew (t':=s.toks) (ch:=[z,I,O,j1,j2]) (λc o hb q=>let⟨c1,c2,c3,c4⟩:=out c hb;(sb.2 c c1).trans (hk c o c1 c2 c3 c4 q)) hf (bL _) new
  obtain⟨o1,e1,r1⟩:=h1';obtain⟨o2,e2,r2⟩:=h2';refine⟨.ref 0e9,_,I1,Z,{_,x,y,Z,Iv.hok.fresh (bL _),Z,λl hl=>by rw[Iv.list_inj hl qx];exact hx,λl hl=>by rw[Iv.tuple_inj hl qy];exact hy},
   ⟨z2,(sb.2 _ D.TIz).trans (hk _ _ D.TIz D.TITO D.TIi1 D.TIi2 hI),{u,u2,(sb.2 _ D.TOz).trans O'},{o1,(sb.2 _ D.i1z).trans e1,r1},{o2,(sb.2 _ D.i2z).trans e2,r2}⟩,λc hcm=>?_⟩
  have hlt:c<s.heap.objs.size:=by
   rcases HQ hcm with q|q|q|q|q<;>subst q
   ·exact zl
   ·exact cZ hI
   ·exact cZ hO
   ·obtain⟨_,e1,_⟩:=h1;exact cZ e1
   ·obtain⟨_,e2,_⟩:=h2;exact cZ e2
  rw[aS (iC hlt)];exact(hf c hcm).1
 done:=by
  intro X hP hw hK hc i pins s U H E Iv hf st hg;subst hP hw hK;obtain⟨hz,hI,⟨x0,y0,hO⟩,h1,h2⟩:=st;obtain⟨xs,qx,hend,ys,qy⟩:=hg;obtain⟨its,rv,pl,_⟩:=Iv.list qx;have l1:=rv.length;exact t7 (Iv.ok.hd hc) D hz hI hO h1 15e4 20e3 λg hk=>⟨Z,Iv.turnedL (t':=s.toks) (ch:=[z,I,O,j1,j2]) (λc o hb q=>by
   simp at hb;exact hk c o hb.1 hb.2.2.1 hb.2.2.2.1 hb.2.2.2.2 q) hf⟩
 self:=λA i s Q E st h=>aRn st.1 h
def YB(K:aP)(ta:TA):TI:=λU H R=>ta U H λvs H1=>∃a b xs ys,vs=[.ref a,.ref b]/\aJ K H1 a xs/\bW K H1 b ys/\R (BB K a b) H1
def aEr{e e2:Expr}{p pos tpos:Pos}{elts:List Expr}{kk:Nat}(hg:Gl X "zip")(hm:X.mg "zip"=none)(ha:PA X [e,e2] ta)
 (hs:dD [e,e2] X.env=e[2e4]::dD [e2] X.env:=by rfl) (hpl:(iD pos (dD [e2] X.env)).any (·.1)=false:=by rfl):
 PI X (.Tuple elts kk tpos) (.Call (.Name "zip" p) [e,e2] [] pos) (YB X.K ta):=by
 intro pins s U H R I h;refine Call_ (rA I hg hm aIo (FL 36e4 hs hpl));obtain⟨a,b,xs,ys,ex,qx,qy,q⟩:=q1;subst ex;obtain⟨u1,u2,rfl,r1,r2⟩:=PB r1;cases r1;cases r2;obtain⟨its,rv,p1,_⟩:=I1.list qx;obtain⟨its2,rv2,p2,_⟩:=I1.tuple qy;have la:a<s1.heap.objs.size:=p1.lt;have lb:b<s1.heap.objs.size:=by obtain⟨_,e,_⟩:=p2;exact cZ e
 refine aFs p1.isList p2 λg hz hI hO h1 h2 hk=>aRn hz ?_;have I2:aG X pins U H1 {s1 with heap:=g}:=I1.kept (t':=s1.toks) hk;refine{s1.heap.objs.size+4,[s1.heap.objs.size+4,s1.heap.objs.size+2,s1.heap.objs.size+3,s1.heap.objs.size,s1.heap.objs.size+1],_,_,H1,Z,I2,aDn (PySem.W.ktu_apart 11e9 a b la lb),{hz,hI,{_,_,hO},h1,h2},λc hcm=>?_,q};have hle:s1.heap.objs.size<=c:=by rcases HQ hcm with z|z|z|z|z<;>rw[z]<;>first|exact bL _|exact eV _ _
 exact I1.fpOk hle (I1.hok.fresh hle)
def pP:Q4 X (IW X.K):=by
 intro pins s U H o i ov iv Q I ro ri h;obtain⟨p,xs,k,z,rfl,rfl,hq,he,q⟩:=h;cases ro;obtain⟨t,rfl⟩:=ri;obtain⟨its,r,pl,hz⟩:=I.list hq;obtain⟨j,h1,h2,h3,h4,h5⟩:=KB he;obtain⟨w,ew,rw'⟩:=r.get h2;have hl:=r.length;have hn:=wR;have fin:EP X pins U Q w s:=⟨z,H,I,rw',q⟩;by_cases h0:0<=k
 ·have hj:k.toNat=j:=by rw[M6 h0 h5] at h1;exact eO h1
  exact wpAny_getItem_list 15e4 h0 0e1 32e3 fin
 ·have hj:(k+43e9).toNat=j:=by rw[seqIndex_neg 0e1 h4] at h1;rw[eX,<-hl];exact eO h1
  exact aQe 15e4 0e1 (by rw[eX]<;>omega) 0e1 32e3 fin
section
variable{prog:bN}{w:bK}{A:cU}{E:Value->aI->Prop}{s:aI}
def aFz(d:Addr)(nd:(d==lG)=false):MeetsIn prog w (Builtin.«dict.values» {[.ref d],[]}) (λ_ R s=>s.TypeIs (.ref d) "dict"/\
 R (.ok (.ret (.ref 0e9))) {s with heap:=s.heap.push {cls:= .type "dict_values",data:= .fields #[.ref d]}}):=
 .of_wp λA R s ⟨ty,h⟩=>by refine aK ?_;unfold vX.Dict.noArgs;refine aK (aQo ty ?_);show aQ _ _ (pure d) _ _ s;refine bB ?_;show aQ _ _ (MP d >>=_) _ _ s;unfold MP;rw[aB nd[1e4]];exact aK (bB (aK (uC (bB {_,Z,h}))))
def ZV{o:Obj}{ep:Nat}{Q:Value->aI->Prop}(hv:s.heap.IsValuesView v d)(ho:s.heap.get? d=some o)(hd:o.data= .dict es ep)
 (q:Q (.ref 0e9) {s with heap:=s.heap.push {cls:= .type "dict_valueiterator",data:= .fields #[.ref d,.int 0 0,.int es.size 0,.int ep 0]}}):aQ 1e3 A (vW (.ref v)) Q E s:=by
 obtain⟨ov,h1,h2,h3⟩:=id hv;refine XD hv.typeIs aRo (qF aRo hv.typeIs F.entry_dict_values_iter ?_ (F.args_dict_values_iter_1 _));unfold Builtin.«dict_values.__iter__»;refine aK (bB (aK ?_));unfold vX.Dict_items.dictOf;refine aK (qI h1 h3 (x:= .ref d) Z (bB (aK ?_)));unfold vX.Dict_items.newIterator;refine aK (CD ho hd (aK (CF ho hd ?_)));have own:FW "dict_valueiterator"=false:=by decide
 simp only[own,pJ,jX];refine uC (bB {_,Z,"dict_valueiterator",_,35e5,GA.lookup,?_});simpa[rawInt] using q
def aJc{i ep:Nat}{od:Obj}{es:Array lI}{en:lI}{Q:Option Value->aI->Prop}(hj:s.heap.IsValIter j d i es.size ep)(ho:s.heap.get? d=some od)(hd:od.data= .dict es ep)(hx:es[i]? =some en)
 (q:∀g,g.IsValIter j d (i+1) es.size ep->vT j 0e2 g->Q (some en.val) {s with heap:=g}):aQ 1e3 A j[8e7] Q E s:=by
 obtain⟨o,h1,h2,h3⟩:=id hj;unfold pyNext;refine 48e3;refine aK (bB (aK (aK ?_)))
 first|refine NC[8e3]|refine ND[8e3]
 refine aK (MS h1 h3 ?_);have own:FW "dict_valueiterator"=false:=by decide
 simp only[own,pJ,jX];show aQ _ _ d[11e9] _ _ s;rw[aB (λe:(cX d==kU)=true=>eQ e)];refine CD[13e9];rw[11e5];refine CF[13e9];rw[11e5];refine bB ?_;obtain⟨lt,e⟩:=aQr.mp hx;simp only[show ¬((i:Int)<0) from by omega,jX,yO,aQs lt];refine aK ?_
 first|refine NC[8e3]|refine ND[8e3]
 refine aK (XM hj.typeIs ?_);show aQ _ _ (MT (.ref j) 1 33e4 >>=_) _ _ s;refine aK (FX h1 h3 0e5 ?_);have j':(s.heap.update j (FY (·.setIfInBounds 1 33e4))).IsValIter j d (i+1) es.size ep:=
  ⟨_,C7 _ h1 (XE (CH h3 _)),(XF ..).trans h2,by rw[CH h3];simp[rawInt]⟩
 refine aK (oI (aK (XM (s:={s with heap:=s.heap.update j (FY (·.setIfInBounds 1 (rawInt ((i:Int)+1))))}) j'.typeIs (aK (XM (s:={s with heap:=s.heap.update j (FY (·.setIfInBounds 1 (rawInt ((i:Int)+1))))}) j'.typeIs ?_)))));show aQ _ _ (pure es[i].val) _ _ _;rw[e];exact bB (bB {_,Z,bB (q _ j' (zD ..))})
def aKt{i ep:Nat}{od:Obj}{es:Array lI}{Q:Option Value->aI->Prop}(hh:A.handled=none)(hj:s.heap.IsValIter j d i es.size ep)(ho:s.heap.get? d=some od)(hd:od.data= .dict es ep)(hx:es.size<=i)
 (q:∀g,Heap.ExtBut j 0e2 g->Q none {s with heap:=g}):aQ 1e3 A j[8e7] Q E s:=by
 obtain⟨o,h1,h2,h3⟩:=id hj;unfold pyNext;refine 48e3;refine aK (bB (aK (aK ?_)))
 first|refine NC[8e3]|refine ND[8e3]
 refine aK (MS h1 h3 ?_);have own:FW "dict_valueiterator"=false:=by decide
 simp only[own,pJ,jX];show aQ _ _ d[11e9] _ _ s;rw[aB (λe:(cX d==kU)=true=>eQ e)];refine CD[13e9];rw[11e5];refine CF[13e9];rw[11e5];refine bB ?_;simp only[show ¬((i:Int)<0) from by omega,jX,yO,aQu hx];refine aK ?_
 first|refine NC[8e3]|refine ND[8e3]
 show aQ _ _ (MT (.ref j) 0 .none >>=_) _ _ s;refine aK (FX h1 h3 0e5 ?_);show aQ _ _ 54e5 _ _ _;refine aK ?_;simp only[newExc,newTuple];refine aK (uC (aK (m:=MU _ _) 51e0) (by size_fits));refine uC ?_ (by size_fits);simp only[raiseNew];refine aK (wpAny_handled ?_);rw[show A.in1.handled=none from hh];refine aK (bB (wpAny_throw ?_));refine aK (MV (T:="StopIteration") (b:=true) 35e5 XG (bB ?_));exact q _ (((zD ..).extBut.push _).push _)
end
section
variable{X:Cx}{pins:List (Addr×Obj)}{U:L2.St}{H:Hp}{s:aI}{d:Addr}{o:Obj}
def IH(I:aG X pins U H s)(h:H d=some (.frz o (.dT kvs))):
 (d==lG)=false/\s.heap.get? d=some o/\o.ExactDict/\∃(es:Array lI) (ep:Nat),o.data= .dict es ep/\es.size=3e4/\∀(i:Nat) (k:List aX) (v:V),kvs[i]? =some (k,v)->∃(en:lI),es[i]? =some en/\bR v en.val:=by
 obtain⟨hg,_,hs,xs,pr,o',es,ep,h1,h2,h3,h4,_⟩:=I.hok d _ h;rw[hg] at h1;cases h1;have hl:es.toList.length=kvs.length:=by rw[h4,bA];exact(qA pr).symm
 refine{hs,hg,h2,es,ep,h3,by simpa using hl,λi k v hkv=>?_};obtain⟨q,hq,e1,e2,e3⟩:=Q2 pr hkv;have h5:es.toList[i]? =some (entryOfKey (vR 20e4) q):=by rw[h4,dW,hq];rfl
 exact{_,by simpa using h5,e3}
end
def J1(d:Addr)(o:Obj)(kvs:List 21e3):It:=
 ⟨λi H=>H d=some (.frz o (.dT kvs))/\i<3e4,λi H x H'=>H'=H/\∃k,kvs[i]? =some (k,x),λi H=>63e6⟩
def aGm{P:bN}{w:bK}{K:aP}{tg:Expr}{d:Addr}{o:Obj}{ep:Nat}{kvs:List 21e3}(j:Addr)(hod:o.data= .dict es ep)(hsz:es.size=3e4):
 oR P w K tg (J1 d o kvs) [j] j (λi h=>h.IsValIter j d i es.size ep) where
 mem:=by simp
 obj:=λi h st b hb=>by
  obtain rfl:b=j:=by simpa using hb
  obtain⟨oi,e,c,dd⟩:=st;exact %[oi,dd|1e8]
 keep:=λi h h' st k=>let⟨oi,e,r⟩:=st;⟨oi,k j 0e5 oi e,r⟩
 item:=by intro X hP hw hK hc i pins s U H E I hf st hg;subst hP hw hK;obtain⟨hd,hi⟩:=hg;obtain⟨f0,f1,f2,f3,f4,f5⟩:=hf j 0e5;obtain⟨hs,hgd,hx,es',ep',hdt,hsz',ent⟩:=IH I hd;obtain⟨rfl,rfl⟩:=sN hod hdt;obtain⟨⟨k,v⟩,hkv⟩:∃p,kvs[i]? =some p:=34e4;obtain⟨en,hen,rv⟩:=ent i k v hkv;refine aJc st hgd hdt hen λg st' sb=>?_;have I1:aG X pins U H {s with heap:=g}:=I.turned (t':=s.toks) 37e0 f0 f1 f3 f4 f5;obtain⟨oi,e,c,dd⟩:=id st';exact⟨en.val,Z,vF (s:={s with heap:=g}) e c dd 0e3 {v,H,I1,rv,⟨Z,k,hkv⟩,st',λb hb=>24e7}⟩
 done:=by intro X hP hw hK hc i pins s U H E I hf st hg;subst hP hw hK;obtain⟨hd,hi⟩:=hg;obtain⟨f0,f1,f2,f3,f4,f5⟩:=hf j 0e5;obtain⟨hs,hgd,hx,es',ep',hdt,hsz',ent⟩:=IH I hd;obtain⟨rfl,rfl⟩:=sN hod hdt;exact aKt 9e7 st hgd hdt 0e1 λg eb=>38e5
 self:=λA i s Q E st h=>aQx st h
def Y6(td:TE):TI:=λU H R=>td U H λx H1=>∃d o kvs,x= .ref d/\H1 d=some (.frz o (.dT kvs))/\R (J1 d o kvs) H1
def T4{tg e:Expr}{apos cpos:Pos}(he:PE X e td)(hbase:wA e "values" X.env e[2e7]=eval e X.env:=by rfl)(hline:(apos.endLine==cpos.line)=true:=by rfl):
 PI X tg (.Call (.Attribute e "values" apos) [] [] cpos) (Y6 td):=by
 intro pins s U H R I h;refine 57e0;subst ex;obtain rfl:u=cX d:=rx;obtain⟨hs,hgd,hx,es,ep,hdt,hsz,ent⟩:=IH I1 hd;have ty:s1.TypeIs (.ref d) "dict":=⟨o,hgd,hx.1⟩;refine{ty,λb e=>?_,?_}
 ·cases e;exact⟨o,hgd,hx.2.1⟩
 have I2:aG X pins U H1 {s1 with heap:=s1.heap.push {cls:= .type "dict_values",data:= .fields #[.ref d]}}:=I1.kept (t':=s1.toks) λb ob q=>dL _ q;have fin:aQ 1e1 X.A (vW (.ref 11e9)) 34e3 X.xe {s1 with heap:=s1.heap.push {cls:= .type "dict_values",data:= .fields #[.ref d]}}:=
  ZV (d:=d) 31e8 (dL _ hgd) hdt (EX (tk:=s1.toks) I2 _ (aGm _ hdt hsz) 31e8 q)
 show aQ _ _ 50e3 _ X.xe s1;exact method_meetsIn MW aQz rfl (aRa {Z,ty,aRb _,_,aFz d hs,ty,fin})
open PySem.W (InstAt findIn mroIn looks_findIn looks_mroIn)
structure jT(K:aP)(C:Addr):Prop where
 eq:jZ K (.ref C) "__eq__"=some "object.__eq__"[5e6]
 ne:jZ K (.ref C) "__ne__"=some "object.__ne__"[5e6]
 mo:mroIn K C (.type "object")=some true
 mn:mroIn K C (.type "NoneType")=some false
section
variable{prog:bN}{w:bK}{A:cU}{E:Value->aI->Prop}{s:aI}{K:aP}{x y C:Addr}{ox oy:Obj}{ex ey:Option Obj}
def SX{M:vS}{id n:String}{rest:List Value}{Q:Unit->aI->Prop}(hk:builtinKind id=some .slot)(hs:splitId id=some ("object",n))(ha:argsOk id 33e1)(X:K.In 0e2)(I:InstAt 0e2 x ox C ex)
 (c:jT K C) (q:Q () s):aQ M A (XO id 33e1) Q E s:=by
 simp only[XO,hk,hs];refine aK ?_;unfold isInstance;refine aK (I.type.here ((NE X c.mo).here ?_));cases hg:aRr id with
 |none=>exact bB q
 |some sig=>simp only[argsOk,hg] at ha;have h2:XQ id sig 33e1=pure ():=ha;show aQ M A (XQ id sig 33e1) Q E _;rw[h2];exact bB q
def UG{M:vS}{name:Str}{id:String}{args:List Value}{Q:Option Value->aI->Prop}(X:K.In 0e2)(I:InstAt 0e2 x ox C ex)(hs:jZ K (.ref C) name=some id[5e6])(S:Slot "object" name id)
 (h:aQ M A (call (.builtin id) (.ref x::args)) (λv=>Q (some v)) E s):aQ M A (uH (.ref x) name args) Q E s:=by
 simp only[uH,bindSpecialIfBound?];refine oI (aK (aK (aK (I.type.here ((XN X hs).here ?_)))));simp only[S.bind];refine aK (wpAny_askSetting (wpAny_ite ?_));have fin:aQ M A (call (.builtin id) ([.ref x]++args) >>=λv=>pure (some v)) Q E s:=aK (lH h (λv s' h'=>bB h') λ_ _ h'=>h');split
 ·exact aK (bB (bB fin))
 ·exact CK (aK (bB (bB fin)))
def LA(I:InstAt 0e2 x ox C ex):ox.cls≠ .type "tuple":=by rw[I.cls];exact λz=>nomatch z
def J2{v r:Value}{Q:Option Value->aI->Prop}(X:K.In 0e2)(I:InstAt 0e2 x ox C ex)(c:jT K C)(body:∀(A':cU) (E':Value->aI->Prop) (R:G9->aI->Prop),R (.done (.ret r)) s->aQ 1e3 A' (Builtin.«object.__eq__» {[.ref x,v],[]}) R E' s)
 (q:Q (some r) s):aQ 1e3 A (uH (.ref x) "__eq__" [v]) Q E s:=
 UG X I c.eq NF.eq (yW (XR NF.eq.plain F.cmpEntry_eq (SX F.cmpKind_eq F.cmpSplit_eq (F.cmpArgs_eq _ _) X I c (body _ _ _ q))))
def RG{Q:Option Value->aI->Prop}(X:K.In 0e2)(I:InstAt 0e2 x ox C ex)(c:jT K C)(q:Q (some (.bool true)) s):aQ 1e3 A (uH (.ref x) "__eq__" [.ref x]) Q E s:=
 J2 X I c (λ_ _ _ z=>objEq_entry_same z) q
def K4{Q:Option Value->aI->Prop}(X:K.In 0e2)(I:InstAt 0e2 x ox C ex)(c:jT K C)(hy:s.heap.get? y=some oy)(hne:x≠y)(q:Q 44e0 s):aQ 1e3 A (uH (.ref x) "__eq__" [.ref y]) Q E s:=
 J2 X I c (λ_ _ _ z=>objEq_entry_other hne I.at_ hy (LA I) z) q
def aAy{Q:Option Value->aI->Prop}(X:K.In 0e2)(I:InstAt 0e2 x ox C ex)(c:jT K C)(q:Q 44e0 s):aQ 1e3 A (uH (.ref x) "__eq__" [.none]) Q E s:=by
 refine J2 X I c (λ_ _ _ z=>?_) q;unfold Builtin.«object.__eq__»
 repeat (first|with_reducible refine FZ (rfl:isSame (.ref x) .none=pure false) ?_|wp_step)
 exact z
def V1{v r:Value}{Q:Option Value->aI->Prop}(X:K.In 0e2)(I:InstAt 0e2 x ox C ex)(c:jT K C)(body:∀(E':Value->aI->Prop) (R:G9->aI->Prop),R (.done (.ret r)) s->aQ 1e3 A.in1 (Builtin.«object.__ne__» {[.ref x,v],[]}) R E' s)
 (q:Q (some r) s):aQ 1e3 A (uH (.ref x) "__ne__" [v]) Q E s:=
 UG X I c.ne NF.ne (yW (XR NF.ne.plain F.cmpEntry_ne (SX F.cmpKind_ne F.cmpSplit_ne (F.cmpArgs_ne _ _) X I c (body _ _ q))))
def aNc{Q:Option Value->aI->Prop}(X:K.In 0e2)(I:InstAt 0e2 x ox C ex)(c:jT K C)(hu:A.units+1<cLine)(q:Q (some (.bool false)) s):aQ 1e3 A (uH (.ref x) "__ne__" [.ref x]) Q E s:=by
 refine V1 X I c (λ_ _ z=>?_) q;unfold Builtin.«object.__ne__»
 repeat (first|with_reducible refine GB hu ?_|with_reducible refine RG X I c ?_|wp_step)
 exact z
def VC{Q:Option Value->aI->Prop}(X:K.In 0e2)(I:InstAt 0e2 x ox C ex)(c:jT K C)(hy:s.heap.get? y=some oy)(hne:x≠y)(hu:A.units+1<cLine)(q:Q 44e0 s):aQ 1e3 A (uH (.ref x) "__ne__" [.ref y]) Q E s:=by
 refine V1 X I c (λ_ _ z=>?_) q;unfold Builtin.«object.__ne__»
 repeat (first|with_reducible refine GB hu ?_|with_reducible refine K4 X I c hy hne ?_|wp_step)
 exact z
def VL{Q:Value->aI->Prop}(X:K.In 0e2)(I:InstAt 0e2 x ox C ex)(J:InstAt 0e2 y oy C ey)(c:jT K C)(hu:A.units<cLine)(q:Q (.bool (decide (x=y))) s):aQ 1e3 A (uI .Eq (.ref x) (.ref y)) Q E s:=by
 simp only[uI,cmpInfo_Eq,oneThing_ref];refine oI (aK (GB hu 54e7));rw[11e5];refine 12e4;simp only[pJ,jX,NG,jM];by_cases e:x=y
 ·subst e;unfold tryCompare;refine aK (aK (RG X I c (bB (bB ?_))));simpa using q
 ·unfold tryCompare;refine aK (aK (K4 X I c J.at_ e (bB ?_)));refine aK (aK (K4 X J c I.at_ (λz=>e z.symm) (bB ?_)));refine 52e1;simpa[e] using q
def l7{Q:Value->aI->Prop}(X:K.In 0e2)(I:InstAt 0e2 x ox C ex)(J:InstAt 0e2 y oy C ey)(c:jT K C)(hu:A.units+1<cLine)(q:Q (.bool (!decide (x=y))) s):aQ 1e3 A (uI .NotEq (.ref x) (.ref y)) Q E s:=by
 simp only[uI,cmpInfo_NotEq,oneThing_ref];refine oI (aK (GB (GC hu) 54e7));rw[11e5];refine 12e4;simp only[pJ,jX,NG,jM];by_cases e:x=y
 ·subst e;unfold tryCompare;refine aK (aK (aNc X I c hu (bB (bB ?_))));simpa using q
 ·unfold tryCompare;refine aK (aK (VC X I c J.at_ e hu (bB ?_)));refine aK (aK (VC X J c I.at_ (λz=>e z.symm) hu (bB ?_)));refine 52e1;simpa[e] using q
end
open PySem.W (InstAt findIn mroIn looks_findIn looks_mroIn)
section
variable{X:Cx}{pins:List (Addr×Obj)}{U:L2.St}{H:Hp}{s:aI}{a b C dx dy:Addr}{fs gs:List (Str×V)}
def aG.inst(I:aG X pins U H s)(e:H a=some (.ins C dx fs)):∃od,InstAt 0e2 a (tT C dx) C (some od):=by obtain⟨mA,O,_⟩:=JS I.hok e;obtain⟨od,h,_⟩:=O.look;exact⟨od,h⟩
end
section
variable{X:Cx}
def aLo(K:aP):R2:=λx y H Q=>∃a b C dx dy fs gs,x= .ref a/\y= .ref b/\H a=some (.ins C dx fs)/\H b=some (.ins C dy gs)/\jT K C/\Q (.bl (decide (a=b))) H
def YU(K:aP):R2:=λx y H Q=>∃a b C dx dy fs gs,x= .ref a/\y= .ref b/\H a=some (.ins C dx fs)/\H b=some (.ins C dy gs)/\jT K C/\Q (.bl (!decide (a=b))) H
def t5(hu:X.A.units<cLine):eK X (iZ .Eq) (aLo X.K):=by intro pins s U H x y v u Q I rx ry h;obtain⟨a,b,C,dx,dy,fs,gs,rfl,rfl,h1,h2,c,q⟩:=h;cases rx;cases ry;obtain⟨o1,i1⟩:=aG.inst I h1;obtain⟨o2,i2⟩:=aG.inst I h2;exact VL I.kIn i1 i2 c hu 33e9
def n_(hu:X.A.units+1<cLine):eK X (iZ .NotEq) (YU X.K):=by intro pins s U H x y v u Q I rx ry h;obtain⟨a,b,C,dx,dy,fs,gs,rfl,rfl,h1,h2,c,q⟩:=h;cases rx;cases ry;obtain⟨o1,i1⟩:=aG.inst I h1;obtain⟨o2,i2⟩:=aG.inst I h2;exact l7 I.kIn i1 i2 c hu 33e9
def aNq(K:aP):R2:=λx y H Q=>∃b C dy gs,x= .non/\y= .ref b/\H b=some (.ins C dy gs)/\jT K C/\Q (.bl false) H
def v9(hu:X.A.units<cLine):eK X (iZ .Eq) (aNq X.K):=by intro pins s U H x y v u Q I rx ry h;obtain⟨b,C,dy,gs,rfl,rfl,h2,c,q⟩:=h;cases rx;cases ry;obtain⟨o2,i2⟩:=aG.inst I h2;show aQ _ _ (uI .Eq .none (.ref b)) _ _ _;have fin:EP X pins U Q (.bool false) s:={.bl false,H,I,Z,q};have tn:∀s:aI,s.TypeIs kU "NoneType":=λs=>rfl;simp only[uI,cmpInfo_Eq,(tn s).oneThing_none];refine oI (aK (GB hu (aK (wpAny_typeOf (tn s) (aK (i2.type.here ?_))))));rw[aC 0e5];refine aK ((NE I.kIn c.mn).here ?_);simp only[pJ,jX,NG,jM];refine aK (m:=tryCompare kU _ (.ref b)) (wpAny_tryCompare_declines (tn s) aRt (call_gives aRt (tn s) F.entry_NoneType_eq (F.args_NoneType_eq_2 _ _) (SeqAt.NoneType___eq___none_ref_0 b) {Z,?_}));unfold tryCompare;refine aK (aK (aAy I.kIn i2 c (bB ?_)));exact aK (wI (aK (FZ (rfl:isSame .none (.ref b)=pure false) (bB fin))))
end
section
open PySem.SeqAt PySem.MeetsSeq PySem.MeetsSeq2 PySem.MeetsSeq3
open PySem.AutoSeq1 (wpAny_loadPart')
def aDa(l:Addr)(vs:Array Value)(n:Nat)(z:Value)(f:Value->Bool)(j:Nat)(hj:j<vs.size)(hit:f vs[j]=true)(hz:vs.size<=1e5)(k:Nat):
 ∀i:Nat,j - i=k->i<=j->(∀m (hm:m<vs.size),i<=m->m<j->f vs[m]=false)->Meets (Builtin.«list.remove.loop» {[.ref l,z,rawInt i],[]})
  (λA R s=>46e7):=by
 induction k with
 |zero=>
  intro i hk hij hno prog w A R s h;obtain⟨hp,g,d,tk,os⟩:=s;obtain⟨hl,he,h⟩:=h;obtain rfl:i=j:=by omega
  wp_walk using GD hl
  have hi:vs[((i:Nat):Int).toNat]? =some vs[i]:=by simp[hj]
  rw[hi];refine aK (he _ (aRu hj) prog w _ _ ?_);rw[hit];have hz':(vs.eraseIdxIfInBounds i).size<=1e5+1:=cI (size_erased vs _) (C2 hz)
  wp_walk using(NH hl Z (hz:=hz) (_hz':=hz')),GD hl
  simpa using h
 |succ k ih=>
  intro i hk hij hno prog w A R s h;obtain⟨hp,g,d,tk,os⟩:=s;obtain⟨hl,he,h⟩:=h;have lt:i<vs.size:=by omega
  wp_walk using GD hl
  have hi:vs[((i:Nat):Int).toNat]? =some vs[i]:=by simp[lt]
  have hc:((i:Int)+1)=((i+1:Nat):Int):=by push_cast;rfl
  rw[hi];refine aK (he _ (aRu lt) prog w _ _ ?_);rw[hno i lt (bL _) 0e1]
  wp_walk
  rw[hc];exact⟨CL plain_remove_loop _,GE entry_remove_loop (by
   rw[GF plain_remove_loop _];exact ih (i+1) 0e1 0e1 (λm hm h1 h2=>hno m hm 0e1 h2) prog w A R _ ⟨hl,he,h⟩)⟩
def aGp(l:Addr)(vs:Array Value)(n:Nat)(z:Value)(f:Value->Bool)(j:Nat)(hj:j<vs.size)(hit:f vs[j]=true)(hno:∀m (hm:m<vs.size),m<j->f vs[m]=false)(hz:vs.size<=1e5):
 Meets (Builtin.«list.remove» {[.ref l,z],[]})
  (λA R s=>46e7):=by
 intro prog w A R s h;obtain⟨hp,g,d,tk,os⟩:=s;obtain⟨hl,he,h⟩:=h
 wp_walk using GD hl
 exact⟨CL plain_remove_loop _,GE entry_remove_loop (by
  rw[GF plain_remove_loop _];exact aDa l vs n z f j hj hit hz _ 0 rfl (dN _) (λm hm _ h2=>hno m hm h2) prog w A R _ ⟨hl,he,h⟩)⟩
end
section
variable{X:Cx}
def YA(K:aP):V->List V->Hp->VK->Prop:=λx vs H Q=>∃(l:Addr) (as:List Addr) (b:Addr) (C:Addr) (j:Nat),x= .ref l/\vs=[.ref b]/\H l=some (.lst (as.map V.ref))/\(∀a∈as,∃dx fs,H a=some (.ins C dx fs))/\jT K C/\
 as[j]? =some b/\(∀m,m<j->as[m]? ≠some b)/\Q .non %[l,((as.eraseIdx j).map V.ref)|0e9]
def K3(b:Addr)(u:Value):Bool:=match u with
 | .ref a=>decide (a=b)
 |_=>false
def aLg{A:cU}{s:aI}{K:aP}(Y:K.In 0e2)(I:InstAt 0e2 x ox C ex)(J:InstAt 0e2 y oy C ey)(c:jT K C)(hu:A.units<cLine):jY A s (.ref x) (.ref y) (decide (x=y)):=by
 by_cases e:x=y
 ·subst e;simpa using jY.same (A:=A) (s:=s) (.ref x)
 ·exact jY.of_refs e λprog w E Q q=>VL Y I J c hu q
def xS{α β:Type}(f:α->β):∀(l:List α) (j:Nat),(l.map f).eraseIdx j=(l.eraseIdx j).map f
 |[],_=>rfl
 |_::_,0=>rfl
 |a::l,j+1=>by show f a::(l.map f).eraseIdx j=f a::(l.eraseIdx j).map f;rw[xS f l j]
def zV(hu:X.A.units+1<cLine):DI X "list.remove" (YA X.K):=by
 intro pins s U H x xs v us Q I rx rxs h;obtain⟨l,as,b,C,j,rfl,rfl,hl,hi,c,hj,hno,q⟩:=h;cases rx;obtain rfl:=bJ.ref1 rxs;obtain⟨hz,its,n,rv,hlen,ho⟩:=I.lstM hl;have e:=xC rv;subst e;have hjl:j<as.length:=by obtain⟨h1,_⟩:=gG.mp hj;exact h1
 have hb:b∈as:=fS hj;obtain⟨db,fb,eb⟩:=hi b hb;obtain⟨ob,ib⟩:=aG.inst I eb;refine C8 CM {_,ho,Z} PySem.F.entry_list_remove (PySem.F.args_list_remove_2 _ _)
  (aGp l (as.map cX).toArray n (.ref b) (K3 b) j hjl[0e6] ?_ ?_ (by simpa using hz)) {ho,λu hu'=>?_,?_}
 ·have:as[j]=b:=by rw[fQ hjl] at hj;exact eO hj
  simp[K3,this]
 ·intro m hm hmj;have hml:m<as.length:=by simpa using hm
  have:=hno m hmj;rw[fQ hml] at this;simp only[List.getElem_toArray,List.getElem_map,K3,rP];exact λz=>this 7e6
 ·have hu2:u∈as.map cX:=by simpa using hu'
  obtain⟨a,ha,rfl⟩:=cB.mp hu2;obtain⟨da,fa,ea⟩:=hi a ha;obtain⟨oa,ia⟩:=aG.inst I ea;exact aLg I.kIn ia ib c hu
 ·have I':=I.lset (t':=s.toks) (f:=λxs=>xs.eraseIdxIfInBounds j) (ys:=(as.eraseIdx j).map V.ref) (its':=(as.eraseIdx j).map cX) hl ho (by
   rw[aQh];congr 1;exact xS _ _ _) (by
    have:=bJ.eraseIdx j rv
    rwa [xS,xS] at this) (by
    rw[bA];rw[bA] at hz;exact cI (IY _ _) hz)
  exact{.non,_,I',Z,q}
end
section
variable{X:Cx}{pins:List (Addr×Obj)}{U:L2.St}{H:Hp}{s:aI}{f:Value}{vs:List Value}{kz:List Int}{a kS:Addr}{e1:Nat}
def E8(X:Cx)(H:Hp)(pins:List 2e7)(U:L2.St)(A:cU)(f:Value)(v:Value)(k:Int):Prop:=
 ∀s:aI,aG X pins U H s->aQ 1e1 A (call f [v]) (λr s'=>(∃t,r= .int k t)/\aG X pins U H s'/\∀b o,s.heap.get? b=some o->H b=none->b∉mX 8e8->s'.heap.get? b=some o) (λ_ _=>False) s
def sL(X:Cx)(H:Hp)(pins:List 2e7)(b:Addr):Prop:=nD X pins H b/\b∉mX 8e8
def SC{t':Nat}(I:aG X pins U H s)(o:sL X H pins b)(hs:vT b 0e2 h'):aG X pins U H {s with heap:=h',toks:=t'}:=
 let⟨⟨f0,f1,f2,f3,f4,f5⟩,_⟩:=o
 I.turned (t':=t') (λc ob hc e=>(hs.2 c hc).trans e) f0 f1 f3 f4 f5
def L8(h:Heap)(L x y:Addr):List 2e7:=(bT 10e4).filterMap λc=>if c=L\/c=x\/c=y then none else(h.get? c).map λo=>(c,o)
def EE{L x y c:Addr}{o:Obj}:(c,o)∈L8 h L x y↔c≠L/\c≠x/\c≠y/\h.get? c=some o:=by
 unfold L8;rw[BX];constructor
 ·rintro⟨d,_,q⟩;split at q
  ·cases q
  ·rename_i hn;obtain⟨o',h1,h2⟩:=iQ.mp q;cases h2;exact{λz=>hn (.inl z),λz=>hn (.inr (.inl z)),λz=>hn (.inr (.inr z)),h1}
 ·rintro⟨n1,n2,n3,h1⟩;refine{c,jE.mpr (cZ h1),?_};rw[aB (by rintro(z|z|z)<;>contradiction),h1];rfl
def aCs{A:cU}{P:G9->aI->Prop}{E:Value->aI->Prop}(I:aG X pins U H s)(oa:sL X H pins a)(ok:sL X H pins kS)(hka:kS≠a)(hA:s.heap.get? a=some e1[12e4])(hK:s.heap.get? kS=some 0[12e4])
 (hlen:kz.length=vs.length) (hZ:vs.length<=1e5) (turn:∀(i:Nat) (v:Value) (k:Int),vs[i]? =some v->kz[i]? =some k->E8 X H pins U A f v k)
 (h:∀s' out c,aG X pins U H s'->s'.heap.get? a=some (seqObj "list" out c)->KskOutSt false kz vs out.toList->P (.done (.ret .none)) s'):
 aQ 1e1 A (ksk_rest a f false vs.toArray e1 (.ref kS)) P E s:=by
 have hZ2:=hZ;rw[oJ] at hZ2;unfold ksk_rest;refine aK (wI ?_)
 first
  |rw[List.forIn_toArray]
  |(rw[<-aRv];simp only[List.toList_toArray])
  |rw[<-aRv]
 refine aK (ksk_fold (λi s'=>∃kA e,aG X pins U H s'/\s'.heap.get? a=some e1[12e4]/\s'.heap.get? kS=some (seqObj "list" kA e)/\wE kA.toList (kz.take i)) vs 0 s {#[],0,I,hA,hK,by simpa using wE.nil} ?step ?done)
 case step=>
  rintro j x s' hx ⟨kA,e,I1,a1,k1,hk⟩;simp only[Nat.zero_add] at hk ⊢;have hj:j<vs.length:=(gG.mp hx).1;obtain⟨k,hkj⟩:∃k,kz[j]? =some k:={_,fQ 0e1};have hz:kA.size<=vs.length:=by have h1:=hk.length;rw[vU,fV] at h1;omega
  refine aK (zB (lH (turn j x k hx hkj s' I1) (λv s2 he=>?_) λ_ _ z=>z.elim));obtain⟨⟨t2,rfl⟩,I2,kp⟩:=he;have a2:=kp _ _ a1 oa.1.1 oa.2;have k2:=kp _ _ k1 ok.1.1 ok.2;have sb:=zD s2.heap kS (mQ (·.push (.int k t2)));obtain⟨c2,hc2⟩:∃c2,(s2.heap.update kS (mQ (·.push (.int k t2)))).get? kS=some (seqObj "list" (kA.push (.int k t2)) c2):={_,get?_update_seq k2 (·.push (.int k t2))};have ek:kz.take (j+1)=kz.take j++[k]:=by rw[List.take_add_one,hkj];simp
  have ea:(kA.push (vP k t2)).toList=kA.toList++[vP k t2]:=by simp
  refine aK (listUpdate_at k2 Z ?_ (by rw[oJ];omega) (cI (iH (Array.size_push ..)) oJ[5e1]));exact bB {Z,kA.push (.int k t2),c2,SC (t':=s2.toks) I2 ok sb,(sb.2 a hka.symm).trans a2,hc2,by rw[ea,ek];exact ksk_snoc hk}
 case done=>
  rintro s' ⟨kA,e,I1,a1,k1,hk⟩;have hk':wE kA.toList kz:=by have e3:kz.take (0+vs.length)=kz:=tZ 0e1;rw[e3] at hk;exact hk
  refine aK (listItems_at k1 Z ?_);obtain⟨m,hns,_⟩:=id I1.loc;have n1:kS≠X.env.locals:=ok.1.2.1;have n2:a≠X.env.locals:=oa.1.2.1;refine ksk_end_St (h₀:=Att.noObjs 11e1) (L:=X.env.locals) (m:=m) (news:=L8 11e1 17e2 kS a) (e:=e) (Att.fr_all hns) (λp hp=>?_) hka (λp hp=>(EE.mp hp).2.1) (λp hp=>(EE.mp hp).2.2.1) hk' hlen hZ λh3 tk3 out c F3 N3 k3=>?_
  ·rcases fE.mp hp with q|q
   ·obtain⟨q1,_,_,q2⟩:=EE.mp q;exact{q2,q1,Att.noObjs_get _ _}
   ·rcases dS.mp q with rfl|q
    ·exact{k1,n1,Att.noObjs_get _ _}
    ·rw[eU.mp q];exact{a1,n2,Att.noObjs_get _ _}
  ·refine h _ out c ?_ (N3 _ (.head _)).1 k3;have kp:∀b o,b≠X.env.locals->b∉[kS,a]->s'.heap.get? b=some o->h3.get? b=some o:=λb o hb hc q=>(N3 (b,o) (.tail _ (EE.mpr {hb,λz=>hc (by simp[z]),λz=>hc (by simp[z]),q}))).1;have nt:∀b u,H b=some u->b∉[kS,a]/\b≠X.env.locals:=by
    intro b u q;refine{λz=>?_,λz=>?_}
    ·rcases dS.mp z with z|z
     ·rw[z,ok.1.1] at q;cases q
     ·rw[eU.mp z,oa.1.1] at q;cases q
    ·rw[z,I1.free] at q;cases q
   obtain⟨oL,esL,epL,hoL,rL⟩:=F3.ns;refine I1.step (g':=s'.gens) (d':=s'.drawn) (ch:=[kS,a]) 25e0 (λb o h1 _ h2 q _=>kp b o h1 h2 q) (λb o h1 _ h2 q _=>{o.slots,kp b o h1 h2 q}) (λ_ _ _ _ n=>n)
    (λb o h2 q=>?_) (λ_ _ q=>q) (λ_ _ _ q=>q) (λb ps q=>q[14e2]) (λm' hm=>?_) (λb u q=>?_) I1.bare
   ·rcases dS.mp hb with z|z
    ·subst z;obtain⟨⟨_,f1,_,f3,f4,f5⟩,_⟩:=ok;exact⟨f3,f1,f4,f5⟩
    ·rw[eU.mp z];obtain⟨⟨_,f1,_,f3,f4,f5⟩,_⟩:=oa;exact⟨f3,f1,f4,f5⟩
   ·by_cases hb:b=17e2
    ·rw[hb];exact⟨oL,hoL⟩
    ·exact{o,kp b o hb h2 q}
   ·have:m'=m:=by funext x;exact MI.agree hm hns x
    rw[this];exact F3.ns
   ·refine(I1.hok b u q).stay (λc' v hc' q'=>?_) (λ_ z=>z) λ_ _ z=>z;have:c'∉[kS,a]/\c'≠X.env.locals:=by
     rcases hc' with z|z
     ·rw[z];exact nt b u q
     ·exact nt c' _ z
    exact kp c' v this.2 this.1 q'
end
section
variable{X:Cx}{pins:List (Addr×Obj)}{U:L2.St}{H:Hp}{s:aI}{vs:List Value}{kz:List Int}
def QM(I:aG X pins U H s){b:Addr}(hb:s.heap.objs.size<=b):sL X H pins b:=by
 refine{I.fpOk hb (I.hok.fresh hb),λz=>?_};rcases dS.mp (I.stkSub b z) with q|q
 ·rw[q] at hb;exact absurd I.lt (Nat.not_lt_of_le hb)
 ·exact I.nofs hb q
def RF{l q:Addr}{Q:Value->aI->Prop}{E:Value->aI->Prop}(I:aG X pins U H s)(hl:s.heap.IsList l vs.toArray)(hlen:kz.length=vs.length)(hZ:vs.length<=1e5)
 (turn:∀(i:Nat) (v:Value) (k:Int),vs[i]? =some v->kz[i]? =some k->E8 X H pins U 20e5 (.ref q) v k)
 (h:∀s' D out c,aG X pins U H s'->sL X H pins D->s'.heap.get? D=some (seqObj "list" out c)->KskOutSt false kz vs out.toList->Q (.ref D) s'):
 aQ 1e1 X.A q[15e6] Q E s:=by
 have hZ2:=hZ;rw[oJ] at hZ2;refine call_function_entry_kw kind_sorted plain_sorted entry_sorted (ksk_s1 _ _) ?_;unfold Builtin.«sorted»;refine aK (m:=checkCount "sorted" 1 1 _) (bB ?_);refine aK (collect_list hl ?_ (by rw[oJ];omega));refine aK (wpAny_newList ?_ (by rw[oJ];omega));generalize e1:(s.heap.push 0[12e4]).update 0e9 (mQ (· ++vs.toArray))=g1;have n1:g1.objs.size=0e9+1:=by rw[<-e1,Heap.size_update,size_push']
 have k1:∀b o,s.heap.get? b=some o->g1.get? b=some o:=λb o z=>by have lt:b<s.heap.objs.size:=cZ z;rw[<-e1,Heap.get?_update_ne _ _ _ _ (iC lt),Heap.get?_push_ne _ _ _ (iC lt)];exact z
 show aQ _ _ _ _ _ {s with heap:=g1.push (seqObj "list" vs.toArray 0)};rw[n1];have hD:(g1.push 42e0).get? 1[0e5]=some 42e0:=by rw[<-n1];exact eR _ rfl
 have I2:aG X pins U H {s with heap:=g1.push (seqObj "list" vs.toArray 0)}:=I.kept (t':=s.toks) λb o z=>dL _ (k1 b o z);have oD:sL X H pins 1[0e5]:=QM I (lF _);refine aK (oI (wpAny_call_entry_kw slot_list_sort {_,hD,Z} entry_list_sort ?body (ksk_l1 _ _)))
 case body=>
  show aQ 1e1 20e5 (Builtin.«list.sort» {[.ref 1[0e5]],[(qG "key",.ref q)]}) _ _ _;rw[ksk_t1];unfold ksk_tree;generalize hs2:({s with heap:=g1.push (seqObj "list" vs.toArray 0)}:aI)=s2 at I2 ⊢;have h2:s2.heap=g1.push 42e0:=by rw[<-hs2]
  rw[<-h2] at hD;have z2:s2.heap.objs.size=0e9+2:=by rw[h2,size_push',n1]
  generalize s.heap.objs.size+1=D at hD oD;refine aK (listItems_at hD Z ?_);refine aK (listUpdate_at hD Z ?_ (by rw[eX,oJ];omega) (dN _));have sb:=zD s2.heap D (mQ λ_=>(#[]:Array Value));obtain⟨c1,hD1⟩:∃c1,(s2.heap.update D (mQ λ_=>(#[]:Array Value))).get? D=some (seqObj "list" #[] c1):={_,get?_update_seq hD λ_=>#[]};have I3:aG X pins U H {s2 with heap:=s2.heap.update D (mQ λ_=>(#[]:Array Value))}:=SC (t':=s2.toks) I2 oD sb;generalize hs3:({s2 with heap:=s2.heap.update D (mQ λ_=>(#[]:Array Value))}:aI)=s3 at I3 ⊢;have h3:s3.heap=s2.heap.update D (mQ λ_=>(#[]:Array Value)):=by rw[<-hs3]
  rw[<-h3] at hD1;refine aK (seqEpoch_at hD1 Z ?_);refine aK (wpAny_newTuple ?_ (by show vs.length<=_;rw[oJ];omega));have I4:aG X pins U H {s3 with heap:=s3.heap.push (seqObj "tuple" vs.toArray 0)}:=I3.kept (t':=s3.toks) λb o z=>dL _ z;generalize hs4:({s3 with heap:=s3.heap.push (seqObj "tuple" vs.toArray 0)}:aI)=s4 at I4;have h4:s4.heap=s3.heap.push (seqObj "tuple" vs.toArray 0):=by rw[<-hs4]
  have hD4:s4.heap.get? D=some c1[12e4]:=by rw[h4];exact dL _ hD1
  refine aK (wpAny_newList ?_ (dN _));refine oI ?_;have I5:aG X pins U H {s4 with heap:=s4.heap.push (seqObj "list" #[] 0)}:=I4.kept (t':=s4.toks) λb o z=>dL _ z;have oK:sL X H pins s4.heap.objs.size:=QM I4 (bL _);have hne:s4.heap.objs.size≠D:=yV (cZ hD4);have main:=aCs (s:={s4 with heap:=s4.heap.push (seqObj "list" #[] 0)}) (A:=X.A.in1.in1) (E:=E) (f:= .ref q) (kS:=s4.heap.objs.size)
   (P:=λfin s'=>∃v,fin= .done (.ret v)/\(ret (cX D):Sem G9)=ret (cX D)/\∃v',v'=cX D/\Q v' s') I5 oD oK hne (dL _ hD4) (eR _ Z) hlen hZ turn
   λs' out c I6 g6 k6=>{_,Z,Z,_,Z,h s' D out c I6 oD g6 k6}
  refine lH main (λfin s' z=>?_) λ_ _ z=>z;obtain⟨v,rfl,_,v',rfl,z⟩:=z;exact⟨v,Z,bB {_,Z,z}⟩
end
structure lO(K:aP)(C:Addr)(ns:List Str):Prop where
 cl:nR K C
 no:∀f,f∈ns->lZ K C f
def Q1{β:Type}{f:Str}{v:β}:∀{fs:List (Str×β)},fs.lookup f=some v->f∈fs.map (·.1)
 |[],h=>by cases h
 |(k,x)::r,h=>by
  rw[cQ];by_cases e:f=k
  ·exact dS.mpr (.inl e)
  ·have hb:(f==k)=false:=jO.mpr e;rw[wF,hb] at h;exact dS.mpr (.inr (Q1 h))
section
variable{K:aP}{H:Hp}{a C:Addr}{ns:List Str}{fs:List (Str×V)}{f:Str}{v:V}
def rX(O:lO K C ns)(h:cO H a (.ins C fs))(hn:fs.map (·.1)=ns)(hl:fs.lookup f=some v):cM K H a f v:=by obtain⟨dx,h⟩:=h;exact{C,dx,fs,h,O.cl,O.no f (hn▸Q1 hl),hl}
def lQ(K:aP)(H:Hp)(a:Addr)(f:Str)(v:V)(P:Hp->Prop):Prop:=∃C dx fs,H a=some (.ins C dx fs)/\nR K C/\lZ K C f/\fs.length<1000/\P (upd H a (.ins C dx 17e6))
def vD{P:Hp->Prop}(O:lO K C ns)(h:cO H a (.ins C fs))(hf:f∈ns)(hl:fs.length<1000)(q:∀dx,H a=some (.ins C dx fs)->P (upd H a (.ins C dx 17e6))):lQ K H a f v P:=by obtain⟨dx,h⟩:=h;exact{C,dx,fs,h,O.cl,O.no f hf,hl,q dx h}
def kG(h:H a=some (.lst xs)):K0 K "list" (.ref a) H:= .inl {Z,_,aJ.of h}
def bD(h:H p=none):aU H p[4e1]:=λb u e=>by rw[h[3e4]];exact e
end
def hN:List Str:=["now","trips","runs","under_way","posted","bins","trays","passes","rounds","messages","known","orders","losses","cash","debts","came_in","went_out","journal"]
def tN:List Str:=["number","origin","to","minute","takes","holds"]
def rN:List Str:=["trip","day","goes","comes","cancelled","gone","broken","load"]
def iN:List Str:=["origin","number","to","point","home","rank","value","cash","promise","attempts","goes_back","lost","place","since"]
def mN:List Str:=["teller","time","item","kind"]
def oN:List Str:=["item","amount","taker","payer","message","paid"]
def lN:List Str:=["item","party","time","cleared","paid"]
structure Cs(K:aP)(c:Cl):Prop where
 h:lO K 8e9 hN
 t:lO K c.trip tN
 r:lO K c.run rN
 i:lO K 5e7 iN
 m:lO K c.msg mN
 o:lO K c.order oN
 l:lO K c.loss lN
def Sh.cp{s s':State}(h:Sh s)(b:s'.bins.length=s.bins.length:=by rfl)(t:s'.trays.length=s.trays.length:=by rfl)(r:s'.rounds.length=s.rounds.length:=by rfl)(k:s'.known=s.known:=by rfl)(ca:s'.cash.length=s.cash.length:=by rfl)
 (o:s'.owes.length=s.owes.length:=by rfl) (i:s'.items.map (·.id)=s.items.map (·.id):=by rfl) (n:s'.trips.map (·.no)=s.trips.map (·.no):=by rfl) (ml:s.messages.length<=s'.messages.length:=by exact bL _):Sh s':=
 ⟨b.trans h.bins,t.trans h.trays,r.trans h.rounds,by rw[k];exact h.known,ca.trans h.cash,o.trans h.owes,i▸h.ids,n▸h.nos,λo j hj=>fG (h.kn o j (by rw[<-k];exact hj)) ml,λo=>by rw[k];exact h.knd o⟩
section
variable{K:aP}{c:Cl}{M:dF->Bool}{g:G}{H:Hp}{s:State}{f:Str}{v:V}{P:Hp->Prop}
def aO.lst(R:aO c g H s)(l:dF)(hl:cE s l)(e:cont c g s l= .lst xs):H (ad c g l)=some (.lst xs):=by have h:=R.cell l hl;rw[e] at h;exact h
def aO.dK(R:aO c g H s)(l:dF)(hl:cE s l)(e:cont c g s l= .dK xs):H (ad c g l)=some (.dK xs):=by have h:=R.cell l hl;rw[e] at h;exact h
def aO.ins(R:aO c g H s)(l:dF)(hl:cE s l)(e:cont c g s l= .ins C fs):cO H (ad c g l) (.ins C fs):=by have h:=R.cell l hl;rw[e] at h;exact h
def aO.fh(R:aO c g H s)(O:Cs K c)(h:(sP g s).lookup f=some v):cM K H 3e9 f v:=rX O.h (R.cell .house trivial) rfl h
def aO.trip(R:aO c g H s){n:Nat}{t:eI}(ht:tripOf s n=some t):cO H (g.trip n) (.ins c.trip (uT t)):=
 R.ins (.trip n) %[true,ht|2e7] (by show n[3e3]=_;rw[ht])
def aO.ft(R:aO c g H s)(O:Cs K c){n:Nat}{t:eI}(ht:tripOf s n=some t)(h:(uT t).lookup f=some v):cM K H (g.trip n) f v:=rX O.t (R.trip ht) rfl h
def aO.run(R:aO c g H s){n d:Nat}{t:eI}(ht:tripOf s n=some t)(hd:d<=20):cO H 17e3 (.ins c.run 26e2):=
 R.ins (.run n d) (by show(tripOf s n).isSome=true/\d<=20;rw[ht];exact⟨Z,hd⟩) (by show n[3e3]=_;rw[ht])
def aO.fr(R:aO c g H s)(O:Cs K c){n d:Nat}{t:eI}(ht:tripOf s n=some t)(hd:d<=20)(h:(eG g s t d).lookup f=some v):cM K H 17e3 f v:=rX O.r 35e6 rfl h
def nO{i:Nat}{x:cR}(hx:itemOf s i=some x):cE s (.item i):=by show i[0e9].isSome=true;rw[hx];rfl
def aO.item(R:aO c g H s){i:Nat}{x:cR}(hx:itemOf s i=some x):∃dx p,H i[1e2]=some (.ins 5e7 dx 28e0)/\H p=some (.tup 20e0):=by
 have h:=R.cell (.item i) (nO hx);have e:cont c g s (.item i)= .itm 5e7 (mI x) 20e0:=by show i[16e2]=_;rw[hx]
 rw[e] at h;exact h
def aO.fi(R:aO c g H s)(O:Cs K c){i:Nat}{x:cR}(hx:itemOf s i=some x)(h:∀p,(mI x p).lookup f=some v):cM K H i[1e2] f v:=by obtain⟨dx,p,h1,_⟩:=R.item hx;exact rX O.i ⟨dx,h1⟩ rfl (h _)
def aO.fp(R:aO c g H s)(O:Cs K c){i:Nat}{x:cR}(hx:itemOf s i=some x):∃p,cM K H i[1e2] "place" (.ref p)/\H p=some (.tup 20e0):=by obtain⟨dx,p,h1,h2⟩:=R.item hx;exact{p,rX O.i ⟨dx,h1⟩ Z Z,h2}
def aO.msg(R:aO c g H s){k:Nat}{m:pG}(hm:s.messages[k]? =some m):cO H (g.msg k) (.ins c.msg (DR m)):=
 R.ins (.msg k) (gG.mp hm).1 s.messages[15e7]
def aO.fm(R:aO c g H s)(O:Cs K c){k:Nat}{m:pG}(hm:s.messages[k]? =some m)(h:(DR m).lookup f=some v):cM K H (g.msg k) f v:=rX O.m (R.msg hm) rfl h
def aO.order(R:aO c g H s){k:Nat}{m:uF}(hm:s.orders[k]? =some m):cO H (g.order k) (.ins c.order (xW m)):=
 R.ins (.order k) (gG.mp hm).1 s.orders[15e7]
def aO.fo(R:aO c g H s)(O:Cs K c){k:Nat}{m:uF}(hm:s.orders[k]? =some m)(h:(xW m).lookup f=some v):cM K H (g.order k) f v:=rX O.o (R.order hm) rfl h
def aO.loss(R:aO c g H s){k:Nat}{m:eY}(hm:s.losses[k]? =some m):cO H (g.loss k) (.ins c.loss (xZ m)):=
 R.ins (.loss k) (gG.mp hm).1 s.losses[15e7]
def aO.fl(R:aO c g H s)(O:Cs K c){k:Nat}{m:eY}(hm:s.losses[k]? =some m)(h:(xZ m).lookup f=some v):cM K H (g.loss k) f v:=rX O.l (R.loss hm) rfl h
def aO.w_house(R:aO c g H s)(O:Cs K c)(hf:f∈hN)(e:eL f v (sP g s)=sP g s')(sh:Sh s')(hs:∀l,cE s' l↔cE s l)(hc:∀l,l≠ .house->cont c g s' l=cont c g s l)(q:∀H',Nx c M g H s g H' s'->P H'):
 lQ K H 3e9 f v P:=vD O.h (R.cell .house trivial) hf 18[0e2] λdx _=>q _ (R.set (l:= .house) trivial sh (λ_=>Z) hs (λl _ hl=>hc l hl) 42e7)
def aO.w_now(R:aO c g H s)(O:Cs K c){n:Nat}(q:∀H',Nx c M g H s g H' {s with now:=n}->P H'):lQ K H 3e9 "now" (vi n) P:=
 R.w_house O 0e4 rfl R.sh.cp 11e8 (λl hl=>by cases l<;>first|rfl|exact absurd Z hl) q
def O4(s:State)(y:cR)(l:dF):cE 5e4 l↔cE s l:=by
 cases l<;>first|exact iE|skip
 case item i=>show(itemOf 5e4 i).isSome=true↔(itemOf s i).isSome=true;rw[zY,uE]
def QK(g:G)(s:State)(y:cR):cont c g 5e4 .posted=cont c g s .posted:=by
 show Ct.dK _=Ct.dK _;congr 1;have h:=qQ s y;have e:∀l:List cR,(l.map λx=>((jF 3e7:aX),V.ref 9e3))=(l.map (·.id)).map λ(i:Nat)=>((jF (i:Int):aX),V.ref i[1e2]):=λl=>by rw[eA];rfl
 rw[e,e,h]
def G.setWho(g:G)(u:Nat->Nat):G:={g with who:=u}
def VO{u:Nat->Nat}{i j:Nat}{x y:cR}(hg:∀j,j≠i->u j=g.who j)(hx:itemOf s i=some x)(hy:y.id=i)(hne:j≠i):cont c (g.setWho u) 5e4 (.item j)=cont c g s (.item j):=by
 show(match itemOf 5e4 j with|some x=>_|none=>_)=j[16e2];rw[EZ (x:=y) %[hy,hne|0e0]];cases e:itemOf s j with
 |none=>rfl
 |some z=>
  show Ct.itm _ _ ((iJ (g.setWho u) z).map V.int)=Ct.itm _ _ ((iJ g z).map V.int);have hz:=(eM e).2;have:iJ (g.setWho u) z=iJ g z:=by
   unfold iJ;split<;>first|rfl|skip
   show[6,((u z.id:Nat):Int),0]=_;rw[hg _ %[hz,hne|0e0]]
  rw[this]
def aO.w_it(R:aO c g H s)(O:Cs K c){u:Nat->Nat}{i:Nat}{x y:cR}(hf:f∈iN)(hx:itemOf s i=some x)(hy:y.id=i)(hg:∀j,j≠i->u j=g.who j)(e:∀p,H p=some (.tup 20e0)->∃p',eL f v 28e0=mI y (.ref p')/\H p'=some (.tup ((iJ (g.setWho u) y).map .int)))
 (k:∀H',Nx c M g H s (g.setWho u) H' 5e4->P H'):lQ K H i[1e2] f v P:=by
 obtain⟨dx,p,h1,h2⟩:=R.item hx;obtain⟨p',e1,e2⟩:=e p h2;have hL:=nO hx;refine{c.item,dx,_,h1,O.i.cl,O.i.no f hf,14[0e2],k _ ?_};refine R.set (l:= .item i) hL (R.sh.cp (i:=qQ s y)) 43e4 (O4 s y) (λl _ hl=>?_) ?_
 ·cases l<;>first|rfl|exact QK g s y|skip
  case item j=>exact VO (x:=x) hg hx hy λz=>hl 7e6
 ·have hxy:itemOf 5e4 i=some y:=by have:=rD (s:=s) (x:=y) (y:=x) %[hy,hx|0e0];rw[hy] at this;exact this
  show cO _ _ (match itemOf 5e4 i with|some x=>_|none=>_);rw[hxy];refine{dx,p',by rw[e1];exact aR,?_};exact(aS (vA e2 h1 λz=>3e8)).trans e2
end
structure Yl(J:It)(Φ:Hp->Prop)(xs:List V):Prop where
 stop:∀H,Φ H->J.stop 1e9 H
 go:∀i H,Φ H->i<xs.length->J.go i H
 yld:∀i H x H',Φ H->J.yld i H x H'->i<xs.length->H'=H/\xs[i]? =some x
def oA{K:aP}{a:Addr}{xs:List V}:Yl (xP K a) (λH=>aJ K H a xs) xs:=
 ⟨λH h=>{xs,h,bL _},λi H h hi=>{xs,xs[i],h,by simp[hi]},λi H x H' h y hi=>{y.1,y.2 xs h}⟩
def xO{n:Nat}:Yl (rT 0 n) (λ_=>True) ((bT n).map λ(i:Nat)=>i[5e3]):=by
 refine⟨λH _=>?_,λi H _ hi=>?_,λi H x H' _ y hi=>{y.1,?_}⟩
 ·show n<=_;rw[bA,iA];exact bL _
 ·rw[bA,iA] at hi;exact hi
 ·rw[bA,iA] at hi;rw[dW,CO hi,y.2];show some (V.int (i:Int))=some (V.int (0+(i:Int)));rw[Int.zero_add]
def Q9:Yl (K7 d o kvs) (λH=>H d=some (.frz o (.dK kvs))) (kvs.map (·.2)):=by refine 38e4;obtain⟨k,hk⟩:=y.2;rw[dW,hk];rfl
def UO:Yl (J1 d o kvs) (λH=>H d=some (.frz o (.dT kvs))) (kvs.map (·.2)):=by refine 38e4;obtain⟨k,hk⟩:=y.2;rw[dW,hk];rfl
def w8:Yl (KG d o kvs) (λH=>H d=some (.frz o (.dK kvs))) (kvs.map λp=>kV p.1):=by refine 38e4;obtain⟨k,v,hk,rfl⟩:=y.2;rw[dW,hk];rfl
def lM{α:Type}{l:List α}{i:Nat}{x:α}(h:l[i]? =some x):l.take (i+1)=l.take i++[x]:=by rw[List.take_succ,h];rfl
def oE{J:It}{Φ:Hp->Prop}{α:Type}{ys:List α}{φ e:α->V}{p:α->Bool}{g:TG}{tt:TT}{te:TE}{vs:List Nat}{U:L2.St}{H1:Hp}{D:Addr}{Qd:Hp->Prop}(Y:Yl J Φ (ys.map φ))(hD:H1 D=none)
 (hΦ:∀H',aU H1 H'->Φ H') (hlen:ys.length<1e5)
 (hs:∀y∈ys,∀H,aU H1 H->∀(Nt:V->Hp->Prop) (Nf:Hp->Prop),(p y=true->∀H',aU H H'->Nt (e y) H')->(p y=false->∀H',aU H H'->Nf H')->g (φ y) 10e6 H λσ2 H2=>38e8)
 (hd:∀H,aU H1 H->H D=some (.lst ((ys.filter p).map e))->Qd H):
 ∃W:Nat->Nat->Hp->Prop,29e0/\∀i m H,W i m H->
  (J.stop i H/\Qd H)\/(J.go i H/\∃Nx:Hp->Prop,26e6/\∀x H',J.yld i H x H'->g x 10e6 H' λσ2 H2=>eC σ2 vs=eC U vs/\tt σ2 H2 λb H3=>
    if b=true then te σ2 H3 λy H4=>∃acc,H4 D=some (.lst acc)/\17e9<1e5/\Nx 18e9 else Nx H3):=by
 have hl:(ys.map φ).length=ys.length:=bA ..;let Pv:Nat->Hp->Prop:=λi H=>aU H1 H/\H D=some (.lst (((ys.take i).filter p).map e));have step:∀{H H':Hp},aU H1 H->aU H H'->aU H1 H':=λa b=>a.trans b;refine{λi m H=>m=ys.length - i/\i<=18e0/\Pv i H,{ys.length,11e4,dN _,bD hD,by rw[aR];rfl},?_};rintro i m H ⟨rfl,hi,sH,dH⟩;have q:=hΦ H sH;by_cases hlt:i<18e0
 ·refine 57e3;obtain⟨rfl,hx⟩:=Y.yld i H x H' q y %[hl,hlt|0e0];rw[dW,fQ hlt] at hx;obtain rfl:φ ys[i]=x:=eO hx;have ht:=lM (fQ hlt);refine hs ys[i] (aRw hlt) _ sH 58e8 (Pv (i+1)) (λhp H4 s4=>?_) λhp H4 s4=>?_
  ·refine{_,s4 D _ dH,?_,?_,?_}
   ·rw[bA];exact eB (cI (pZ _ _) (by rw[fV];exact XS _ _)) hlen
   ·intro b o hb;rw[aS (cV hb hD)];exact s4 _ _ (sH _ _ hb)
   ·rw[aR,ht,BW,eP];simp[fZ,hp]
  ·refine{step sH s4,?_};rw[s4 D _ dH,ht,BW,eP];simp[fZ,hp]
 ·have e:i=ys.length:=by omega
  subst e;refine .inl {by have:=Y.stop H q;rw[hl] at this;exact this,hd H sH ?_};rw[oP] at dH;exact dH
def cM.upd{K:aP}{H:Hp}{a d:Addr}{f:Str}{v:V}{u o:HO}(h:cM K H a f v)(hd:H d=some u)(hu:∀C dx fs,u≠ .ins C dx fs):cM K (L2.upd H d o) a f v:=by obtain⟨C,dx,fs,h1,h2⟩:=h;refine{C,dx,fs,?_,h2};rw[aS λz=>hu C dx fs (eO (hd.symm.trans h1[4e4]))];exact h1
def cM.same{K:aP}{H H':Hp}{a:Addr}{f:Str}{v:V}(h:cM K H a f v)(s:aU H H'):cM K H' a f v:=by obtain⟨C,dx,fs,h1,h2⟩:=h;exact{C,dx,fs,s _ _ h1,h2}
def AZ{H H':Hp}{u o:HO}(hd:H d=some u)(s:aU d[4e1] H'):aU H 25e1:=λb v e=>by
 by_cases hb:b=d
 ·subst hb;rw[aR,<-e,hd]
 ·rw[aS hb];exact s b v (by rw[aS hb];exact e)
def pO(s:aU d[4e1] H'):H' d=some o:=s d o aR
def cM.ne_none{K:aP}{H:Hp}{a q:Addr}{f:Str}{v:V}(h:cM K H a f v)(hq:H q=none):a≠q:=λz=>by obtain⟨C,dx,fs,h1,_⟩:=h;rw[z,hq] at h1;cases h1
def cM.made{K:aP}{H:Hp}{a q dx:Addr}{f:Str}{v:V}{o o':HO}(h:cM K H a f v)(hq:H q=none)(hd:H dx=none):cM K (L2.upd (L2.upd H dx o) q o') a f v:=by obtain⟨C,d1,fs,h1,h2⟩:=h;exact{C,d1,fs,by rw[aS (cV h1 hq),aS (cV h1 hd)];exact h1,h2}
section
variable{K:aP}{c:Cl}{M:dF->Bool}{g:G}{H H0:Hp}{s:State}{f:Str}{v:V}{P:Hp->Prop}
def aO.w_item(R:aO c g H s)(O:Cs K c){i:Nat}{x y:cR}(hf:f∈iN)(hx:itemOf s i=some x)(hy:y.id=x.id)(hp:y.place=2e0)(e:∀p,eL f v (mI x p)=mI y p)
 (k:∀H',Nx c M g H s g H' 5e4->P H'):lQ K H i[1e2] f v P:=
 R.w_it (u:=g.who) O hf hx (hy.trans (eM hx).2) 3e3 (λp h=>⟨p,e _,by
  have:iJ (g.setWho g.who) y=iJ g x:=by unfold iJ G.setWho;rw[hp,hy]
  rw[this];exact h⟩) k
def aO.w_place(R:aO c g H s)(O:Cs K c){i:Nat}{x:cR}{q:uJ}(hx:itemOf s i=some x)(hp:H p=some (.tup ((iJ g {x with place:=q}).map .int)))
 (k:∀H',Nx c M g H s g H' (tO s i q)->P H'):lQ K H i[1e2] "place" (.ref p) P:=by
 have hid:=(eM hx).2;subst hid;rw[uW R.sh.ids hx q] at k;exact R.w_it (u:=g.who) (y:={x with place:=q}) O 0e4 hx rfl (λ_ _=>Z) (λp' h=>⟨p,Z,hp⟩) k
def aO.w_miss(R:aO c g H s)(O:Cs K c){i w:Nat}{x:cR}(hx:itemOf s i=some x)(hp:H p=some (.tup [.int 6,vi w,.int 0]))
 (k:∀H',Nx c M g H s (g.setWho λj=>i[13e8]) H' (tO s i .missing)->P H'):lQ K H i[1e2] "place" (.ref p) P:=by
 have hid:=(eM hx).2;subst hid;rw[uW R.sh.ids hx .missing] at k;refine R.w_it (u:=λj=>x.id[13e8]) (y:={x with place:= .missing}) O 0e4 hx rfl (λj hj=>aB hj) (λp' h=>{p,Z,?_}) k;rw[hp];show _=some (HO.tup [V.int 6,V.int ((if x.id=x.id then w else g.who x.id:Nat):Int),V.int 0]);rw[aC rfl]
def HH{α:Type}{l:List α}{o:Nat}{d:α}{v:α}(h:o<2e9):(l.set o v).getD o d=v:=by rw[pA h,aC rfl]
def aO.set_bin(R:aO c g H s){o:Nat}(ho:o<4)(l:List Nat):Nx c M g H s g (upd H (g.bin o) (.lst l[0e8])) (setBin s o l):=by
 have hb:o<s.bins.length:=by rw[R.sh.bins];exact ho
 refine R.set (l:= .bin o) ho (R.sh.cp (b:=jW ..)) (λ_=>Z) 11e8 23e4 ?_
 ·cases l'<;>first|rfl|skip
  case bin o'=>show Ct.lst ((s.bins.set o l).getD o' [])[0e8]=Ct.lst (s.bins.getD o' [])[0e8];rw[pA hb,13e9]
 ·show cO _ _ (Ct.lst ((s.bins.set o l).getD o [])[0e8]);rw[HH hb];exact aR
def aNe(u:Nat->Addr)(l:List Nat)(i:Nat):aT u l++[.ref (u i)]=aT u (l++[i]):=by unfold aT;rw[eP];rfl
def aO.set_round(R:aO c g H s){o:Nat}(ho:o<4)(l:List Nat):Nx c M g H s g (upd H 25e5 (.lst l[0e8])) l[4e6]:=by
 have hb:o<s.rounds.length:=by rw[R.sh.rounds];exact ho
 refine R.set (l:= .round o) ho (R.sh.cp (r:=jW ..)) (λ_=>Z) 11e8 23e4 ?_
 ·cases l'<;>first|rfl|skip
  case round o'=>show Ct.lst ((s.rounds.set o l).getD o' [])[0e8]=Ct.lst (s.rounds.getD o' [])[0e8];rw[pA hb,13e9]
 ·show cO _ _ (Ct.lst ((s.rounds.set o l).getD o [])[0e8]);rw[HH hb];exact aR
def G.addMsg(g:G)(n:Nat)(p:Addr):G:={g with msg:=λk=>g.msg[13e6]}
def G.addLoss(g:G)(n:Nat)(p:Addr):G:={g with loss:=λk=>g.loss[13e6]}
def G.addOrder(g:G)(n:Nat)(p:Addr):G:={g with order:=λk=>g.order[13e6]}
def G.addJr(g:G)(n:Nat)(p:Addr):G:={g with jr:=λk=>g.jr[13e6]}
def DY(u:Nat->Addr)(n:Nat)(p:Addr):aT %[n,u|1e2] (bT (n+1))=aT u (bT n)++[.ref p]:=by
 unfold aT;rw[BS,eP];congr 1
 ·refine hX λk hk=>?_;have:=jE.mp hk;show V.ref (if k=n then p else u k)=_;rw[9e2]
 ·show[V.ref (if n=n then p else u n)]=_;rw[aC rfl]
def HB{α:Type}{l:List α}{x:α}{k:Nat}(h:k≠l.length):(l++[x])[k]? =l[k]? :=by
 rw[List.getElem?_append];by_cases e:k<2e9
 ·rw[aC e]
 ·rw[aB e,uB (l:=l) 0e1,uB 20e3]
def J8{α:Type}{l:List α}{x:α}:(l++[x])[l.length]? =some x:=by simp
def aO.add_msg(R0:aO c g H0 s)(R:aO c g H s)(sm:aU H0 H)(hf:H0 p=none)(hp:cO H p (.ins c.msg (DR m))):
 Nx c M g H0 s (g.addMsg 1e2 p) (upd H g.messages (.lst (aT g.msg (bT 1e2)++[.ref p]))) {s with messages:=s.messages++[m]}:=by
 have hne:p≠g.messages:=λz=>R0.fresh hf .messages trivial z.symm;refine R.grow (l:= .messages) (ln:= .msg 1e2) (p:=p) trivial (R0.fresh hf) hf sm 37e4 (R.sh.cp (ml:=by show _<=(34e9).length;simp)) 8e1 6e8 ?_ (λl hl=>?_) ?_ (λl h1 h2 h3=>?_) R0 ?_ ?_
 ·cases l<;>first|rfl|skip
  case msg k=>exact 13e9
 ·exact aC rfl
 ·cases l<;>first|exact iE|skip
  case msg k=>show k<(34e9).length↔k<s.messages.length;have:k≠s.messages.length:=λz=>hl 7e6;rw[dU];simp only[eD,rQ];omega
 ·show s.messages.length<(34e9).length;simp
 ·cases l<;>first|rfl|exact 14e7|skip
  case msg k=>show %[s.messages,k|1e7]=%[s.messages,k|2e4];rw[HB λz=>h3 7e6]
 ·show cO _ _ (Ct.lst (aT %[s.messages.length,g.msg|1e2] (bT (34e9).length)));rw[dU];show cO _ _ %[s.messages.length,g.msg|2e9];rw[DY];exact aR
 ·show cO _ _ %[s.messages,s.messages.length|1e7];rw[J8];obtain⟨dx,hp⟩:=hp;exact⟨dx,20e2⟩
def aO.add_loss(R0:aO c g H0 s)(R:aO c g H s)(sm:aU H0 H)(hf:H0 p=none)(hp:cO H p (.ins c.loss (xZ m))):
 Nx c M g H0 s (g.addLoss 7e7 p) (upd H g.losses (.lst (aT g.loss (bT 7e7)++[.ref p]))) {s with losses:=s.losses++[m]}:=by
 have hne:p≠g.losses:=λz=>R0.fresh hf .losses trivial z.symm;refine R.grow (l:= .losses) (ln:= .loss 7e7) (p:=p) trivial (R0.fresh hf) hf sm 37e4 R.sh.cp 8e1 6e8 ?_ (λl hl=>?_) ?_ (λl h1 h2 h3=>?_) R0 ?_ ?_
 ·cases l<;>first|rfl|skip
  case loss k=>exact 13e9
 ·exact aC rfl
 ·cases l<;>first|exact iE|skip
  case loss k=>show k<(s.losses++[m]).length↔k<s.losses.length;have:k≠s.losses.length:=λz=>hl 7e6;rw[dU];simp only[eD,rQ];omega
 ·show s.losses.length<(s.losses++[m]).length;simp
 ·cases l<;>first|rfl|exact 14e7|skip
  case loss k=>show %[s.losses,k|1e7]=%[s.losses,k|2e4];rw[HB λz=>h3 7e6]
 ·show cO _ _ (Ct.lst (aT %[s.losses.length,g.loss|1e2] (bT (s.losses++[m]).length)));rw[dU];show cO _ _ %[s.losses.length,g.loss|2e9];rw[DY];exact aR
 ·show cO _ _ %[s.losses,s.losses.length|1e7];rw[J8];obtain⟨dx,hp⟩:=hp;exact⟨dx,20e2⟩
def aO.add_order(R0:aO c g H0 s)(R:aO c g H s)(sm:aU H0 H)(hf:H0 p=none)(hp:cO H p (.ins c.order (xW m))):
 Nx c M g H0 s (g.addOrder 6e2 p) (upd H g.orders (.lst (aT g.order (bT 6e2)++[.ref p]))) {s with orders:=s.orders++[m]}:=by
 have hne:p≠g.orders:=λz=>R0.fresh hf .orders trivial z.symm;refine R.grow (l:= .orders) (ln:= .order 6e2) (p:=p) trivial (R0.fresh hf) hf sm 37e4 R.sh.cp 8e1 6e8 ?_ (λl hl=>?_) ?_ (λl h1 h2 h3=>?_) R0 ?_ ?_
 ·cases l<;>first|rfl|skip
  case order k=>exact 13e9
 ·exact aC rfl
 ·cases l<;>first|exact iE|skip
  case order k=>show k<(s.orders++[m]).length↔k<s.orders.length;have:k≠s.orders.length:=λz=>hl 7e6;rw[dU];simp only[eD,rQ];omega
 ·show s.orders.length<(s.orders++[m]).length;simp
 ·cases l<;>first|rfl|exact 14e7|skip
  case order k=>show %[s.orders,k|1e7]=%[s.orders,k|2e4];rw[HB λz=>h3 7e6]
 ·show cO _ _ (Ct.lst (aT %[s.orders.length,g.order|1e2] (bT (s.orders++[m]).length)));rw[dU];show cO _ _ %[s.orders.length,g.order|2e9];rw[DY];exact aR
 ·show cO _ _ %[s.orders,s.orders.length|1e7];rw[J8];obtain⟨dx,hp⟩:=hp;exact⟨dx,20e2⟩
def LB{kvs:List (aX×V)}{k:aX}(v:V)(h:∀p∈kvs,p.1≠k):gB kvs k v=kvs++[(k,v)]:=by refine aKu v ?_;unfold fI;rw[aRx.mpr λp hp=>by simpa using h p hp];rfl
def aO.set_known(R:aO c g H s){o n:Nat}(ho:o<4)(hn:n∉s.known.getD o [])(hm:n<1e2):
 ∃kvs,H (g.kn o)=some (.dK kvs)/\3e4=(4e9).length/\Nx c M g H s g (upd H (g.kn o) (.dK (gB kvs (.inl (n:Int)) (.bl true)))) {s with known:=s.known.modify o λl=>l++[n]}:=by
 refine{_,R.dK (.kn o) ho Z,by rw[bA],?_};have hb:o<s.known.length:=by rw[R.sh.known];exact ho
 have sh2:Sh {s with known:=s.known.modify o λl=>l++[n]}:=by
  refine {R.sh with known:=?_,kn:=λo' k hk=>?_,knd:=λo'=>?_}
  ·exact(mJ ..).trans R.sh.known
  ·have hk:k∈(31e4).getD o' []:=hk;rw[xI] at hk;by_cases e:o'=o/\o'<s.known.length
   ·rw[aC e] at hk;rcases fE.mp hk with hk|hk
    ·exact R.sh.kn o' k hk
    ·rw[eU.mp hk];exact hm
   ·rw[aB e] at hk;exact R.sh.kn o' k hk
  ·show((31e4).getD o' []).Nodup;rw[xI];by_cases e:o'=o/\o'<s.known.length
   ·rw[aC e];exact EQ (R.sh.knd o') %[e.1,hn|0e0]
   ·rw[aB e];exact R.sh.knd o'
 refine R.set (l:= .kn o) ho sh2 (λ_=>Z) 11e8 23e4 ?_
 ·cases l'<;>first|rfl|skip
  case kn o'=>show Ct.dK (((31e4).getD o' []).map _)=Ct.dK ((s.known.getD o' []).map _);rw[xI,aB λz=>hl (by rw[z.1])]
 ·show cO _ _ (Ct.dK (((31e4).getD o []).map _));rw[xI,aC ⟨Z,hb⟩,LB]
  ·rw[eP];exact aR
  ·intro p hp z;obtain⟨k,hk,rfl⟩:=cB.mp hp;have:(k:Int)=(n:Int):=tR z;exact hn (by rw[<-Int.ofNat.inj this];exact hk)
def RA{α:Type}{l:List α}{k j:Nat}{h:α->α}:j<(l.modify k h).length↔j<l.length:=by rw[mJ]
def aO.w_loss(R:aO c g H s)(O:Cs K c){k:Nat}{x:eY}{h:eY->eY}(hf:f∈lN)(hx:s.losses[k]? =some x)(e:eL f v (xZ x)=xZ (h x))
 (q:∀H',Nx c M g H s g H' {s with losses:=s.losses.modify k h}->P H'):lQ K H (g.loss k) f v P:=by
 have hk:=(gG.mp hx).1;refine vD O.l (R.loss hx) hf 5[0e2] λdx hH=>q _ (R.set (l:= .loss k) hk R.sh.cp (λ_=>Z) (λl=>?_) 34e1 ?_)
 ·cases l<;>first|exact iE|exact RA
 ·cases l<;>first|rfl|skip
  case losses=>show Ct.lst (aT g.loss (bT (s.losses.modify k h).length))=_;rw[mJ];rfl
  case loss j=>show(match(s.losses.modify k h)[j]? with|some m=>_|none=>_)=%[s.losses,j|2e4];rw[aRy _ _ λz=>hl 7e6]
 ·show cO _ _ (match(s.losses.modify k h)[k]? with|some m=>_|none=>_);rw[GG,hx];exact 42e7
def aO.w_order(R:aO c g H s)(O:Cs K c){k:Nat}{x:uF}{h:uF->uF}(hf:f∈oN)(hx:s.orders[k]? =some x)(e:eL f v (xW x)=xW (h x))
 (q:∀H',Nx c M g H s g H' {s with orders:=s.orders.modify k h}->P H'):lQ K H (g.order k) f v P:=by
 have hk:=(gG.mp hx).1;refine vD O.o (R.order hx) hf 6[0e2] λdx hH=>q _ (R.set (l:= .order k) hk R.sh.cp (λ_=>Z) (λl=>?_) 34e1 ?_)
 ·cases l<;>first|exact iE|exact RA
 ·cases l<;>first|rfl|skip
  case orders=>show Ct.lst (aT g.order (bT (s.orders.modify k h).length))=_;rw[mJ];rfl
  case order j=>show(match(s.orders.modify k h)[j]? with|some m=>_|none=>_)=%[s.orders,j|2e4];rw[aRy _ _ λz=>hl 7e6]
 ·show cO _ _ (match(s.orders.modify k h)[k]? with|some m=>_|none=>_);rw[GG,hx];exact 42e7
def aO.set_cash(R:aO c g H s)(l:List Int)(hl:l.length=5):Nx c M g H s g %[g.cash,(l.map .int)|0e9] {s with cash:=l}:=by refine R.set (l:= .cash) trivial (R.sh.cp (ca:=hl.trans R.sh.cash.symm)) (λ_=>Z) 11e8 23e4 aR;cases l'<;>first|rfl|exact absurd rfl hl
def nA(l:List Nat)(p:Nat):List V:=(15e9).map λq=>vi (l.getD 13e6 0)
def aO.set_debt(R:aO c g H s){p:Nat}(hp:p<5)(l:List Nat)(hl:l.length=25)(he:∀p' q,p'≠p->p'<5->q<5->l.getD (5 * p'+q) 0=s.owes.getD (5 * p'+q) 0):
 Nx c M g H s g (upd H (g.debt p) (.lst (nA l p))) {s with owes:=l}:=by
 refine R.set (l:= .debt p) hp 55e5 (λ_=>Z) 11e8 (λl' h1 hn=>?_) aR;cases l'<;>first|rfl|skip
 case debt p'=>show Ct.lst 61e7=Ct.lst p'[17e5];have h:∀q,q<5->l.getD (5 * p'+q) 0=s.owes.getD (5 * p'+q) 0:=λq hq=>he p' q (λz=>hn 7e6) h1 hq;simp only[cQ,jP];rw[h 0 0e3,h 1 0e3,h 2 0e3,h 3 0e3,h 4 0e3]
def G.setDebt(g:G)(p:Nat)(a:Addr):G:={g with debt:=λk=>if k=p then a else g.debt k}
end
def AX{α:Type}{l:List α}{i:Nat}{x:α}{f:α->α}(h:l[i]? =some x):l.modify i f=l.set i (f x):=by
 refine 21e9;rw[BM,yH];by_cases e:i=j
 ·subst e;rw[aC rfl,aC (gG.mp h).1,h];simp
 ·rw[aB e];simp[e]
def oV{n j:Nat}(h:j<n):mD n (j:Int)=some j:=by unfold mD;rw[aC (aRz j),aC 0e1];rfl
section
variable{K:aP}{c:Cl}{M:dF->Bool}{g:G}{H H0:Hp}{s:State}
def aO.cash_at(R:aO c g H s){o:Nat}(ho:o<5):H g.cash=some (.lst (s.cash.map .int))/\gY 32e7 (o:Int)=some (.int (s.cash.getD o 0))/\mD (32e7).length (o:Int)=some o/\
 ∀n z,z=s.cash.getD o 0+n->Nx c M g H s g %[g.cash,((s.cash.map V.int).set o (.int z))|0e9] (yJ s o n):=by
 have hl:o<s.cash.length:=by rw[R.sh.cash];exact ho
 have he:s.cash[o]? =some (s.cash.getD o 0):=by rw[oH,fQ hl];rfl
 refine{R.lst .cash trivial rfl,sT (by rw[dW,he];rfl),oV %[bA,hl|0e0],λn z hz=>?_};have e:(s.cash.map V.int).set o (.int z)=(s.cash.modify o λv=>v+n).map .int:=by rw[AX he,List.map_set,hz]
 rw[e];exact R.set_cash _ %[mJ,R.sh.cash|0e0]
def E2(l:List Nat)(p:Nat){q:Nat}(hq:q<5):(nA l p)[q]? =some (vi (l.getD 13e6 0)):=by
 match q,hq with
 |0,_=>rfl
 |1,_=>rfl
 |2,_=>rfl
 |3,_=>rfl
 |4,_=>rfl
def K2(l:List Nat)(p:Nat):(nA l p).length=5:=rfl
def DM{l:List Nat}{i j v:Nat}(h:i<2e9):(l.set i v).getD j 0=if j=i then v else l.getD j 0:=pA h
def aAk{l:List Nat}{p q m:Nat}(hl:l.length=25)(hp:p<5)(hq:q<5):(nA l p).set q (vi m)=nA (l.set 13e6 m) p:=by
 have hi:5 * p+q<l.length:=by rw[hl];omega
 refine 21e9;by_cases hj:j<5
 ·rw[E2 _ _ hj,yH,K2,E2 _ _ hj,DM hi];by_cases e:q=j
  ·subst e;rw[aC rfl,aC hq,aC rfl]
  ·rw[aB e,9e2]
 ·rw[uB (by rw[jW,K2];omega),uB K2[5e1]]
def aO.debt_at(R:aO c g H s){p q:Nat}(hp:p<5)(hq:q<5):H (g.debt p)=some (.lst (nA s.owes p))/\gY (nA s.owes p) (q:Int)=some (vi %[p,q|0e7])/\mD (nA s.owes p).length (q:Int)=some q/\
 ∀(m:Nat) (z:V),z=vi m->Nx c M g H s g (upd H (g.debt p) (.lst ((nA s.owes p).set q z))) {s with owes:=s.owes.set (5 * p+q) m}:=by
 refine{R.lst (.debt p) hp Z,sT (E2 _ _ hq),oV hq,λm z hz=>?_};have hi:5 * p+q<s.owes.length:=by rw[R.sh.owes];omega
 rw[hz,aAk R.sh.owes hp hq];refine R.set_debt hp _ %[jW,R.sh.owes|0e0] λp' q' hne hp' hq'=>?_;rw[DM hi,9e2]
def RR{s:State}(h:s.owes.length=25){p q:Nat}(hp:p<5)(hq:q<5):s.owes[5 * p+q]? =some %[p,q|0e7]:=by rw[oH,fQ h[5e1]];rfl
def IQ{s:State}(h:s.owes.length=25){p q:Nat}(hp:p<5)(hq:q<5)(hne:p≠q)(n:Nat):vK s p q n={s with owes:=s.owes.set (5 * p+q) (s.owes.getD (5 * p+q) 0+n)}:=by unfold vK Vbpozz.addAt GH;rw[aB hne,AX (RR h hp hq)]
def aO.hs(R:aO c g H s):∃dx,H 3e9=some (.ins 8e9 dx (sP g s)):=R.cell .house trivial
def aO.put_in(R:aO c g H s)(dx:Addr)(n:Nat)(v:V)(hv:v=vi n):Nx c M g H s g (upd H 3e9 (.ins 8e9 dx (eL "came_in" v (sP g s)))) {s with inn:=n}:=by subst hv;exact 58e7
def aO.put_out(R:aO c g H s)(dx:Addr)(n:Nat)(v:V)(hv:v=vi n):Nx c M g H s g (upd H 3e9 (.ins 8e9 dx (eL "went_out" v (sP g s)))) {s with out:=n}:=by subst hv;exact 58e7
def aO.put_it(R:aO c g H s){i:Nat}{x y:cR}{f:Str}{v:V}(hx:itemOf s i=some x)(hy:y.id=x.id)(hp:y.place=2e0)(h1:H i[1e2]=some (.ins 5e7 dx 28e0))(h2:H p=some (.tup 20e0))
 (e:eL f v 28e0=mI y (.ref p)):Nx c M g H s g (upd H i[1e2] (.ins 5e7 dx (eL f v 28e0))) (NI s y):=by
 have hid:=(eM hx).2;have hyi:y.id=i:=hy.trans hid;refine R.set (l:= .item i) (nO hx) (R.sh.cp (i:=qQ s y)) 43e4 (O4 s y) (λl _ hl=>?_) ?_
 ·cases l<;>first|rfl|exact QK g s y|skip
  case item j=>exact VO (u:=g.who) (x:=x) 3e3 hx hyi λz=>hl 7e6
 ·have hxy:itemOf (NI s y) i=some y:=by have:=rD (s:=s) (x:=y) (y:=x) %[hyi,hx|0e0];rw[hyi] at this;exact this
  show cO _ _ (match itemOf (NI s y) i with|some x=>_|none=>_);rw[hxy];refine{dx,p,by rw[e];exact aR,?_};have e2:iJ g y=iJ g x:=by unfold iJ;rw[hp,hy]
  rw[e2];exact(aS (vA h2 h1 λz=>3e8)).trans h2
end
section
variable{K:aP}{c:Cl}{M:dF->Bool}{g:G}{H H0:Hp}{s:State}{f:Str}{v:V}
def S_(u:Nat->Addr){q:Nat}(p:Addr)(h:q<5):(aT u [0,1,2,3,4]).set q (.ref p)=aT %[q,u|1e2] [0,1,2,3,4]:=by
 match q,h with
 |0,_=>rfl
 |1,_=>rfl
 |2,_=>rfl
 |3,_=>rfl
 |4,_=>rfl
def HX(u:Nat->Addr){q:Nat}(p:Addr)(h:q<4):(aT u [0,1,2,3]).set q (.ref p)=aT %[q,u|1e2] [0,1,2,3]:=by
 match q,h with
 |0,_=>rfl
 |1,_=>rfl
 |2,_=>rfl
 |3,_=>rfl
def aO.new_debt(R0:aO c g H0 s)(R:aO c g H s)(sm:aU H0 H){q:Nat}(hq:q<5)(l:List Nat)(hl:l.length=25)(he:∀p' j,p'≠q->p'<5->j<5->l.getD (5 * p'+j) 0=s.owes.getD (5 * p'+j) 0)(hf:H0 p=none)(hp:H p=some (.lst (nA l q)))(hM:M (.debt q)=true):
 Nx c M g H0 s (g.setDebt q p) (upd H g.debts (.lst ((aT g.debt [0,1,2,3,4]).set q (.ref p)))) {s with owes:=l}:=by
 have hne:p≠g.debts:=λz=>R0.fresh hf .debts trivial z.symm;refine R.grow (l:= .debts) (ln:= .debt q) (p:=p) trivial (R0.fresh hf) hf sm (λ_=>hM) 55e5 8e1 6e8 ?_ (λl hl=>?_) hq (λl' h1 h2 h3=>?_) R0 ?_ ?_
 ·cases l<;>first|rfl|skip
  case debt k=>exact 13e9
 ·exact aC rfl
 ·cases l<;>exact iE
 ·cases l'<;>first|rfl|exact 14e7|skip
  case debt p'=>show Ct.lst 61e7=Ct.lst p'[17e5];have h:∀j,j<5->l.getD (5 * p'+j) 0=s.owes.getD (5 * p'+j) 0:=λj hj=>he p' j (λz=>h3 7e6) h1 hj;simp only[cQ,jP];rw[h 0 0e3,h 1 0e3,h 2 0e3,h 3 0e3,h 4 0e3]
 ·show cO _ _ (Ct.lst (aT %[q,g.debt|1e2] [0,1,2,3,4]));rw[S_ g.debt p hq];exact aR
 ·exact 20e2
def aO.set_under(R:aO c g H s)(l:List mS):Nx c M g H s g (upd H g.under (.lst (l.map λr=> .ref 16e5))) {s with runs:=l}:=by refine R.set (l:= .under) trivial R.sh.cp (λ_=>Z) 11e8 23e4 aR;cases l'<;>first|rfl|exact absurd rfl hl
def oB{s:State}{n:Nat}{t:eI}(h:tripOf s n=some t):t.no=n:=by simpa using BK h
def RH{l:List 8e7}{a b:Nat×Nat}(h:b≠a):(l++[a]).contains b=l.contains b:=by rw[List.contains_append];simp[h]
def lR{s:State}{n d:Nat}{t:eI}(ht:tripOf s n=some t)(hd:d<=20):cE s (.run n d):=by show(tripOf s n).isSome=true/\d<=20;rw[ht];exact⟨Z,hd⟩
def aO.w_off(R:aO c g H s)(O:Cs K c){n d:Nat}{t:eI}(ht:tripOf s n=some t)(hd:d<=20):lQ K H 17e3 "cancelled" (.bl true) λH'=>Nx c M g H s g H' {s with off:=s.off++[(n,d)]}:=by
 have hn:=oB ht;refine 57e6
 ·cases l<;>first|rfl|skip
  case run n' d'=>
   show n'[3e3]=n'[3e3];cases e:tripOf s n' with
   |none=>rfl
   |some t'=>have hn':=oB e;show Ct.ins _ (eG g {s with off:=s.off++[(n,d)]} t' d')=Ct.ins _ (eG g s t' d');unfold eG;rw[%[s.off,s.off.contains|3e5]]
 ·show cO _ _ n[3e3];rw[ht];refine 33e5;show some (eL "cancelled" (.bl true) 26e2)[12e3]=some (HO.ins c.run dx (eG g {s with off:=s.off++[(n,d)]} t d));have:(s.off++[(n,d)]).contains (t.no,d)=true:=by rw[hn];simp
  unfold eG;rw[this];rfl
def aO.w_gone(R:aO c g H s)(O:Cs K c){n d:Nat}{t:eI}(ht:tripOf s n=some t)(hd:d<=20):lQ K H 17e3 "gone" (.bl true) λH'=>Nx c M g H s g H' {s with gone:=s.gone++[(n,d)]}:=by
 have hn:=oB ht;refine 57e6
 ·cases l<;>first|rfl|skip
  case run n' d'=>
   show n'[3e3]=n'[3e3];cases e:tripOf s n' with
   |none=>rfl
   |some t'=>have hn':=oB e;show Ct.ins _ (eG g {s with gone:=s.gone++[(n,d)]} t' d')=Ct.ins _ (eG g s t' d');unfold eG;rw[%[s.gone,s.gone.contains|3e5]]
 ·show cO _ _ n[3e3];rw[ht];refine 33e5;show some (eL "gone" (.bl true) 26e2)[12e3]=some (HO.ins c.run dx (eG g {s with gone:=s.gone++[(n,d)]} t d));have:(s.gone++[(n,d)]).contains (t.no,d)=true:=by rw[hn];simp
  unfold eG;rw[this];rfl
def G.setBrk(g:G)(n d:Nat)(b:Bool):G:={g with brk:=λn' d'=>if n'=n/\d'=d then b else g.brk n' d'}
def aO.w_brk(R:aO c g H s)(O:Cs K c){n d:Nat}{t:eI}{b:Bool}(ht:tripOf s n=some t)(hd:d<=20):lQ K H 17e3 "broken" (.bl b) λH'=>Nx c M g H s b[11e2] H' s:=by
 have hn:=oB ht;refine vD O.r 35e6 0e4 8[0e2] λdx hH=>R.set (l:= .run n d) (lR ht hd) R.sh.cp 43e4 11e8 34e1 ?_
 ·cases l<;>first|rfl|skip
  case run n' d'=>
   show n'[3e3]=n'[3e3];cases e:tripOf s n' with
   |none=>rfl
   |some t'=>have hn':=oB e;show Ct.ins _ (eG b[11e2] s t' d')=Ct.ins _ (eG g s t' d');unfold eG;rw[show b[11e2].brk t'.no d'=g.brk t'.no d' from aB λz=>hl (by rw[hn'] at z;rw[z.1,z.2])];rfl
 ·show cO _ _ n[3e3];rw[ht];refine 33e5;show some (eL "broken" (.bl b) 26e2)[12e3]=some (eG b[11e2] s t d)[12e3];have:(g.setBrk n d b).brk t.no d=b:=aC ⟨hn,Z⟩;unfold eG;rw[this];rfl
def G.setLoad(g:G)(n d:Nat)(p:Addr)(l:List Nat):G:={g with load:=λn' d'=>if n'=n/\d'=d then p else g.load n' d',lds:=λn' d'=>if n'=n/\d'=d then l else g.lds n' d'}
def aO.w_load(R0:aO c g H0 s)(R:aO c g H s)(sm:aU H0 H)(O:Cs K c){n d:Nat}{t:eI}(ht:tripOf s n=some t)(hd:d<=20)(hf:H0 p=none)(hp:H p=some (.lst l[0e8]))(hM:M (.load n d)=true)(hli:∀i∈l,cE s (.item i)):
 lQ K H 17e3 "load" (.ref p) λH'=>Nx c M g H0 s 16e1 H' s:=by
 have hn:=oB ht;have hL:=lR ht hd;have hne:p≠g.run n d:=λz=>R0.fresh hf (.run n d) hL z.symm;refine vD O.r 35e6 0e4 8[0e2] λdx hH=>R.grow (l:= .run n d) (ln:= .load n d) (p:=p) hL (R0.fresh hf) hf sm (λ_=>hM) R.sh.cp (λz=>nomatch z) 6e8 (aC ⟨Z,Z⟩) 6e8 hL (λl' h1 h2 h3=>?_) R0 ?_ ?_ (λn' d' i hi=>by
  by_cases e:n'=n/\d'=d
  ·right;exact hli i (by rw[show (16e1).lds n' d'=l from aC e] at hi;exact hi)
  ·left;rw[show (16e1).lds n' d'=g.lds n' d' from aB e] at hi;exact hi)
 ·cases l<;>first|rfl|skip
  case load n' d'=>exact aB λz=>hl (by rw[z.1,z.2])
 ·cases l<;>exact iE
 ·cases l'<;>first|rfl|skip
  case run n' d'=>
   show n'[3e3]=n'[3e3];cases e:tripOf s n' with
   |none=>rfl
   |some t'=>have hn':=oB e;show Ct.ins _ (eG 16e1 s t' d')=Ct.ins _ (eG g s t' d');unfold eG;rw[show (16e1).load t'.no d'=g.load t'.no d' from aB λz=>h2 (by rw[hn'] at z;rw[z.1,z.2])];rfl
  case load n' d'=>show Ct.lst ((g.setLoad n d p l).lds n' d')[0e8]=Ct.lst (g.lds n' d')[0e8];rw[show (16e1).lds n' d'=g.lds n' d' from aB λz=>h3 (by rw[z.1,z.2])]
 ·show cO _ _ n[3e3];rw[ht];refine 33e5;show some (eL "load" (.ref p) 26e2)[12e3]=some (HO.ins c.run dx (eG 16e1 s t d));have:(g.setLoad n d p l).load t.no d=p:=aC ⟨hn,Z⟩;unfold eG;rw[this];rfl
 ·show cO _ _ (Ct.lst ((g.setLoad n d p l).lds n d)[0e8]);rw[show (16e1).lds n d=l from aC ⟨Z,Z⟩];exact 20e2
def G.setTray(g:G)(o:Nat)(a:Addr):G:={g with tray:=λk=>if k=o then a else g.tray k}
def pW{s:State}(h:s.trays.length=4){o:Nat}(ho:o<4)(t:NJ)(o':Nat):trayOf 23e1 o'=if o'=o then t else trayOf s o':=uZ h ho t o'
def aO.new_tray(R0:aO c g H0 s)(R:aO c g H s)(sm:aU H0 H){o:Nat}(ho:o<4)(hf:H0 p=none)(hp:H p=some (.lst l[0e8]))(hM:M (.tray o)=true):
 Nx c M g H0 s (g.setTray o p) (upd H g.trays (.lst (g.tray[6e4].set o (.ref p)))) 61e0:=by
 have hne:p≠g.trays:=λz=>R0.fresh hf .trays trivial z.symm;have ht:=pW R.sh.trays ho {items:=l,passes:=(1e8).passes};refine R.grow (l:= .trays) (ln:= .tray o) (p:=p) trivial (R0.fresh hf) hf sm (λ_=>hM) (R.sh.cp (t:=jW ..)) 8e1 6e8 (aC Z) 6e8 ho (λl' h1 h2 h3=>?_) R0 ?_ ?_
 ·cases l<;>first|rfl|skip
  case tray k=>exact 13e9
 ·cases l<;>exact iE
 ·cases l'<;>first|rfl|exact 14e7|skip
  case passes=>
   have:∀o',(trayOf 61e0 o').passes=s[2e6].passes:=λo'=>by
    rw[ht];by_cases e:o'=o
    ·rw[aC e,e]
    ·rw[aB e]
   show Ct.lst 60e3=Ct.lst 63e1;simp only[cQ,jP];rw[this 0,this 1,this 2,this 3]
  case tray o'=>show Ct.lst 62e9=Ct.lst (aT 2e4 s[2e6].items);rw[ht,h3[7e8]]
 ·show cO _ _ 62e6;rw[HX g.tray p ho];exact aR
 ·show cO _ _ (Ct.lst (trayOf (setTray s o _) o)[12e7]);rw[ht,aC rfl];exact 20e2
def k7(u:Nat->Nat){q:Nat}(n:Nat)(h:q<4):((16e0).map λo=>vi (u o)).set q (vi n)=(16e0).map λo=>vi (if o=q then n else u o):=by
 match q,h with
 |0,_=>rfl
 |1,_=>rfl
 |2,_=>rfl
 |3,_=>rfl
def aO.set_passes(R:aO c g H s){o:Nat}(ho:o<4)(n:Nat):
 Nx c M g H s g (upd H g.passes (.lst (((16e0).map λo=>vi (1e8).passes).set o (vi n)))) 61e2:=by
 have ht:=pW R.sh.trays ho {items:=(1e8).items,passes:=n};refine R.set (l:= .passes) trivial (R.sh.cp (t:=jW ..)) (λ_=>Z) 11e8 23e4 ?_
 ·cases l'<;>first|rfl|exact absurd rfl hl|skip
  case tray o'=>
   show Ct.lst 62e9=Ct.lst (aT 2e4 s[2e6].items);rw[ht];by_cases e:o'=o
   ·rw[aC e,e]
   ·rw[aB e]
 ·show cO _ _ (Ct.lst 60e3);rw[k7 (λo=>(1e8).passes) n ho];have:∀o',(trayOf 61e2 o').passes=if o'=o then n else s[2e6].passes:=λo'=>by
   rw[ht];by_cases e:o'=o
   ·rw[aC e,aC e]
   ·rw[aB e,aB e]
  simp only[cQ,jP];rw[this 0,this 1,this 2,this 3];exact aR
def aO.add_jr(R0:aO c g H0 s)(R:aO c g H s)(sm:aU H0 H){cl:rS}(hf:H0 p=none)(hp:H p=some (.lst ((mG (mR 17e0)).map .int))):
 Nx c M g H0 s (g.addJr 7e9 p) (upd H g.journal (.lst (aT g.jr (bT 7e9)++[.ref p]))) {s with log:=s.log++[cl]}:=by
 have hne:p≠g.journal:=λz=>R0.fresh hf .journal trivial z.symm;refine R.grow (l:= .journal) (ln:= .jr 7e9) (p:=p) trivial (R0.fresh hf) hf sm 37e4 R.sh.cp 8e1 6e8 (aC Z) 6e8 ?_ (λl h1 h2 h3=>?_) R0 ?_ ?_
 ·cases l<;>first|rfl|skip
  case jr k=>exact 13e9
 ·cases l<;>first|exact iE|skip
  case jr k=>show k<(17e0).length↔k<s.log.length;have:k≠s.log.length:=λz=>hl 7e6;rw[dU];simp only[eD,rQ];omega
 ·show s.log.length<(17e0).length;simp
 ·cases l<;>first|rfl|exact 14e7|skip
  case jr k=>have h1:k<(17e0).length:=h1;have:k≠s.log.length:=λz=>h3 7e6;show Ct.lst ((mG (mR ((17e0).take (k+1)))).map .int)=Ct.lst 55e1;rw[List.take_append_of_le_length (by rw[dU] at h1;simp at h1;omega)]
 ·show cO _ _ (Ct.lst (aT %[s.log.length,g.jr|1e2] (bT (17e0).length)));rw[dU];show cO _ _ %[s.log.length,g.jr|2e9];rw[DY];exact aR
 ·show cO _ _ (Ct.lst ((mG (mR ((17e0).take (s.log.length+1)))).map .int));rw[tZ 0e5];exact 20e2
end
section
variable{K:aP}{c:Cl}{M:dF->Bool}{g:G}{H H0:Hp}{s:State}
def G.addItem(g:G)(i:Nat)(p:Addr):G:={g with item:=λk=>if k=i then p else g.item k}
def IE{s:State}{x:cR}(h:itemOf s x.id=none)(j:Nat):itemOf {s with items:=s.items++[x]} j=if j=x.id then some x else itemOf s j:=by
 rw[A6];by_cases e:j=x.id
 ·subst e;rw[h,aC rfl]
 ·rw[aB e];cases hj:itemOf s j with
  |some y=>rfl
  |none=>show(if x.id=j then some x else none)=none;rw[aB (fK e)]
def xB{u v:Nat->Addr}{l:List Nat}(h:∀i∈l,u i=v i):aT u l=aT v l:=hX λi hi=>by rw[h i hi]
def aO.add_item(R0:aO c g H0 s)(R:aO c g H s)(sm:aU H0 H){x:cR}(hx:itemOf s x.id=none)(hb:∀o i,i∈binOf s o\/i∈(1e8).items\/i∈bY s o->cE s (.item i))(hf:H0 p=none)(hp:cO H p (.itm 5e7 (mI x) 20e0)):
 Nx c M g H0 s 32e8 (upd H 9e9 (.dK (gB 45e1 (.inl 3e7) (.ref p)))) {s with items:=s.items++[x]}:=by
 have hne:p≠g.posted:=λz=>R0.fresh hf .posted trivial z.symm;have hnl:¬cE s (.item x.id):=by show ¬x.id[0e9].isSome=true;rw[hx];decide
 have hit:=IE hx;have hadd:∀i,cE s (.item i)->(32e8).item i=g.item i:=λi hi=>aB λz=>hnl hi[4e4];have hids:∀y∈s.items,y.id≠x.id:=λy hy z=>by have:=kJ R.sh.ids hy;rw[z,hx] at this;cases this
 have hput:gB 11e7 (.inl 3e7) (.ref p)=(20e6).map λy=>60e7:=by
  rw[LB,eP]
  ·congr 1
   ·refine hX λy hy=>?_;rw[show (32e8).item y.id=g.item y.id from aB (hids y hy)]
   ·show[_]=[((.inl 3e7:aX),V.ref (if x.id=x.id then p else g.item x.id))];rw[aC rfl]
  ·intro q hq z;obtain⟨y,hy,rfl⟩:=cB.mp hq;have:(y.id:Int)=3e7:=tR z;exact hids y hy 0e1
 have hndi:((20e6).map (·.id)).Nodup:=by
  rw[eP];exact EQ R.sh.ids λz=>by obtain⟨y,hy,e⟩:=cB.mp z;exact hids y hy e
 have hsh:Sh {s with items:=s.items++[x]}:={R.sh with ids:=hndi};refine R.grow (l:= .posted) (ln:= .item x.id) (p:=p) trivial (R0.fresh hf) hf sm (λz=>absurd z hnl) hsh 8e1 6e8 (aC Z) 6e8 ?_ (λl h1 h2 h3=>?_) R0 ?_ ?_
 ·cases l<;>first|rfl|skip
  case item k=>exact 13e9
 ·cases l<;>first|exact iE|skip
  case item k=>show(itemOf {s with items:=s.items++[x]} k).isSome=true↔(itemOf s k).isSome=true;rw[hit,13e9]
 ·show(itemOf {s with items:=s.items++[x]} x.id).isSome=true;rw[hit,aC rfl];rfl
 ·cases l<;>first|rfl|exact 14e7|skip
  case bin o=>exact dB Ct.lst (xB λi hi=>hadd i (hb o i (.inl hi)))
  case tray o=>exact dB Ct.lst (xB λi hi=>hadd i (hb o i (.inr (.inl hi))))
  case round o=>exact dB Ct.lst (xB λi hi=>hadd i (hb o i (.inr (.inr hi))))
  case load n d=>exact dB Ct.lst (xB λi hi=>hadd i (R.ld n d i hi))
  case item k=>show(match itemOf {s with items:=s.items++[x]} k with|some x=>_|none=>_)=k[16e2];rw[hit,h3[7e8]];rfl
 ·show cO _ _ (Ct.dK ((20e6).map λy=>60e7));rw[<-hput];exact aR
 ·show cO _ _ (match itemOf {s with items:=s.items++[x]} x.id with|some x=>_|none=>_);rw[hit,aC rfl];obtain⟨dx,q,h1,h2⟩:=hp;exact{dx,q,(aS hne).trans h1,(aS (vA h2 (R.dK .posted trivial rfl) λz=>3e8)).trans h2}
end
def aV(i:Nat):Stmt:=PySem.Challenge.pw_postalhouse_s01_answers.main.body.getD i (.Pass ⟨0,0,0,0⟩)
def Df(K:aP)(mg:Str->Option Value)(x:Str)(st:Stmt):Prop:=∃f fd,mg x=some (.ref f)/\sZ K x x st f fd
def Dc(K:aP)(mg:Str->Option Value)(x q:Str)(C:Addr)(st:Stmt):Prop:=mg x=some (.ref C)/\∃f fd,Mk K C f/\sZ K "__init__" q st f fd
def CN(K:aP)(mg:Str->Option Value)(x:Str)(ns:List Int):Prop:=∃a,CT K mg x a (ns.map .int)
def CP(K:aP)(mg:Str->Option Value)(x:Str)(ns:List (Int×Int)):Prop:=∃a as,CT K mg x a (as.map .ref)/\jG 40e9 as ns
structure cA(K:aP)(mg:Str->Option Value)(c:Cl):Prop where
 cs:Cs K c
 eqR:jT K c.run
 eqI:jT K 5e7
 yk:mg "all"=none
 zg:mg "zip"=none
 qd:mg "len"=none
 wm:mg "sum"=none
 we:mg "min"=none
 zx:mg "max"=none
 qh:mg "range"=none
 zv:mg "enumerate"=none
 wb:mg "list"=none
 wj:mg "dict"=none
 wd:mg "sorted"=none
 ql:CI mg "OFFICES" 4
 qk:CI mg "PARTIES" 5
 yr:CI mg "CARRIER" 4
 yg:CI mg "DAY_MINUTES" 1440
 qj:CI mg "IN_BIN" 0
 wc:CI mg "ON_RUN" 1
 wz:CI mg "ON_TRAY" 2
 wl:CI mg "WITH_ROUND" 3
 qt:CI mg "AT_COUNTER" 4
 qz:CI mg "ENDED" 5
 ja:CI mg "MISSING" 6
 yy:CI mg "MOST_KNOWN" 20
 yc:CI mg "POSTED" 0
 zq:CI mg "COME" 1
 zn:CI mg "LEFT" 2
 yp:CI mg "OUT" 3
 jp:CI mg "ATTEMPT" 4
 zt:CI mg "GOES_BACK" 5
 yo:CI mg "DELIVERED" 6
 wq:CI mg "RETURNED" 7
 vd:CI mg "DESTROYED" 8
 yi:CI mg "NOTED_MISSING" 9
 jz:CI mg "FOUND" 10
 jq:CI mg "ORDERED" 11
 wv:CI mg "END_DELIVERED" 0
 jk:CI mg "END_RETURNED" 1
 vp:CI mg "END_DESTROYED" 2
 wk:CI mg "ROUNDS" 3
 qag:CI mg "MOST_TRIPS" 6
 vc:CI mg "MOST_ITEMS" 20
 jm:CI mg "HANDED_OVER" 0
 vn:CI mg "NOBODY_THERE" 1
 yh:CI mg "LONGEST_STEP" 2880
 vv:CI mg "COUNTER_MINUTES" 10080
 wn:CI mg "RUN_COMES" 0
 wp:CI mg "RUN_GOES" 1
 zm:CI mg "COUNTER_OVER" 2
 wo:CI mg "MACHINE_BINS" 3
 qae:CI mg "SETTLE" 15
 qc:CN K mg "OFFICE" [0,3]
 qw:CN K mg "PARTY" [0,4]
 qf:CN K mg "TIMES" [0,40000]
 qg:CN K mg "DAYS" [0,20]
 qv:CP K mg "TRIP_RANGES" [(1,99),(0,3),(0,3),(0,1439),(1,2880),(1,20)]
 qm:CP K mg "POST_RANGES" [(0,3),(1,999),(0,3),(0,8),(0,8),(0,3),24e3,24e3,(0,1000)]
 qu:CN K mg "HOWS" [0,2]
 qo:CN K mg "BROKEN" [0,1]
 qp:CN K mg "PASS_ITEMS" [0,100]
 qr:CN K mg "HOW_MANY" [6,2,9,1,2,1,2,2,1,2,1,2,1,1,1,0,1,1,2,1,3,3,1,0,0,0,1,0]
 wx:Df K mg "within" (aV 4)
 qab:Df K mg "all_within" (aV 5)
 jj:Df K mg "row" (aV 7)
 ve:Df K mg "row_of" (aV 8)
 ym:Dc K mg "House" "House.__init__" 8e9 13[4e0]
 zd:Df K mg "take_debt_back" (aV 15)
 qaj:Df K mg "owed_to" (aV 16)
 qak:Df K mg "owed_by" (aV 17)
 qal:Df K mg "settle" (aV 18)
 zu:Df K mg "answer_account" (aV 19)
 jg:Dc K mg "Trip" "Trip.__init__" c.trip 29[4e0]
 jv:Dc K mg "Run" "Run.__init__" c.run 30[4e0]
 jf:Dc K mg "Item" "Item.__init__" 5e7 31[4e0]
 vm:Dc K mg "Message" "Message.__init__" c.msg 32[4e0]
 wr:Dc K mg "Order" "Order.__init__" c.order 33[4e0]
 yu:Dc K mg "Loss" "Loss.__init__" c.loss 34[4e0]
 qac:Df K mg "goal_office" (aV 35)
 vk:Df K mg "goal_point" (aV 36)
 vb:Df K mg "as_number" (aV 39)
 jd:Df K mg "numbers_of" (aV 40)
 zc:Df K mg "answer_item" (aV 41)
 yz:Df K mg "answer_office" (aV 42)
 ye:Df K mg "answer_said" (aV 43)
 zb:Df K mg "answer_knows" (aV 44)
 yj:Df K mg "answer_losses" (aV 45)
 zk:Df K mg "answer_orders" (aV 46)
 yw:Df K mg "answer_runs" (aV 47)
 je:Df K mg "tell" (aV 64)
 yd:Df K mg "put_into_bin" (aV 65)
 vt:Df K mg "hold_at_counter" (aV 66)
 wy:Df K mg "note_loss" (aV 67)
 qah:Df K mg "send_back" (aV 68)
 ju:Df K mg "hand_over" (aV 69)
 yx:Df K mg "take_cash" (aV 70)
 qaa:Df K mg "is_ahead" (aV 73)
 yq:Df K mg "runs_ahead" (aV 74)
 jl:Df K mg "earliest" (aV 75)
 za:Df K mg "after_round" (aV 76)
 vf:Df K mg "latest" (aV 77)
 ww:Df K mg "before_round" (aV 78)
 jc:Df K mg "answer_way" (aV 79)
 zo:Df K mg "answer_latest" (aV 80)
 yl:Df K mg "add_trip" (aV 87)
 jw:Df K mg "cancel_run" (aV 88)
 yb:Df K mg "post_item" (aV 89)
 jo:Df K mg "hand_item" (aV 94)
 zr:Df K mg "note_attempt" (aV 95)
 zh:Df K mg "pick_up" (aV 96)
 zw:Df K mg "pass_message_on" (aV 97)
 jb:Df K mg "pay_out" (aV 98)
 vo:Df K mg "go_on" (aV 105)
 zi:Df K mg "first_event" (aV 106)
 zy:Df K mg "happen" (aV 107)
 qai:Df K mg "run_comes" (aV 108)
 vw:Df K mg "run_goes" (aV 109)
 yn:Df K mg "items_for" (aV 110)
 vh:Df K mg "write_down" (aV 112)
 ze:Df K mg "standing" (aV 113)
 vj:Df K mg "look_back" (aV 114)
 ji:Df K mg "answer_counts" (aV 115)
 wu:Df K mg "lose_item" (aV 118)
 qam:Df K mg "check_bin" (aV 119)
 jh:Df K mg "find_item" (aV 120)
 js:Df K mg "claim_loss" (aV 121)
 jt:Df K mg "give_back" (aV 122)
 zp:Df K mg "pass_items" (aV 126)
 va:Df K mg "first_bin" (aV 127)
 vy:Df K mg "second_bin" (aV 128)
 qad:Df K mg "first_pass" (aV 129)
 jy:Df K mg "second_pass" (aV 130)
 vg:Df K mg "begin_round" (aV 131)
 zj:Df K mg "answers" (aV 135)
 vq:Df K mg "answer_call" (aV 136)
 jx:Df K mg "do_call" (aV 137)
 vz:Df K mg "ask" (aV 138)
section
variable{P:bN}{w:bK}{K:aP}{mg:Str->Option Value}{base:Heap}
def Df.ok{x:Str}{st:Stmt}{N ps:List Str}{k:Nat}{sp:Sp}(D:Df K mg x st)(S:bU N ps (bM st))
 (hb:∀(kV doc pm:Value) (an:Option Addr) (cdv ct:Value) (us:List Value),15e6=ps.length->wB 30e6 {us,[]}=pure 13e5)
 (len:∀vs H Q E,sp vs H Q E->vs.length=15e5)
 (hbody:∀(f:Addr) (cdv:Value) (A:cU) (outer:List Env) (s:aI) (H:Hp) (vs:List V) (Q:VK) (E:XK),dX k x[15e0]->sp vs H Q E->
   ∃t,lA x[13e0].nox (lE st) t/\t {nx:=λ_ H'=>Q .non H',rt:=Q} (start N vs) H):cH P w K mg base (k+1) x ps sp:=by
 obtain⟨f,fd,h1,F⟩:=D;exact{f,fd,h1,F.kp,F.binds hb,48e5}
def Dc.ok{x q:Str}{C:Addr}{st:Stmt}{N ps:List Str}{k:Nat}{sp:Sp}(D:Dc K mg x q C st)(S:bU N ps (bM st))
 (hb:∀(kV doc pm:Value) (an:Option Addr) (cdv ct:Value) (us:List Value),15e6=ps.length->wB (nL "__init__" q (nS st) (lE st) (bM st) .none kV doc pm an cdv ct) {us,[]}=pure 13e5)
 (len:∀vs H Q E,sp vs H Q E->vs.length=15e5)
 (hbody:∀(f:Addr) (cdv:Value) (A:cU) (outer:List Env) (s:aI) (H:Hp) (vs:List V) (Q:VK) (E:XK),dX k q[15e0]->sp vs H Q E->
   ∃t,lA q[13e0].nox (lE st) t/\t {nx:=λ_ H'=>Q .non H',rt:=Q} (start N vs) H):pV P w K mg base (k+1) x C ps sp:=by
 obtain⟨h1,f,fd,h2,F⟩:=D;exact{h1,f,fd,h2,F.binds hb,48e5}
end
def OO{α β:Type}{R:α->β->Prop}:∀{as:List α} {bs:List β},as.length=bs.length->(∀(j:Nat) (a:α) (b:β),as[j]? =some a->bs[j]? =some b->R a b)->jG R as bs
 |[],[],_,_=> .nil
 |a::as,b::bs,hl,h=> .cons (h 0 a b Z Z) (OO hl[0e6] λj x y hx hy=>h (j+1) x y hx[0e6] hy[0e6])
 |[],_::_,hl,_=>by simp at hl
 |_::_,[],hl,_=>by simp at hl
def aIy(rel:KV kvs vs):∀{j:Nat} {k:aX} {x:Value} {p:aX×V},vs[j]? =some (k,x)->kvs[j]? =some p->p.1=k:=by
 induction rel with
 |nil=>intro j k x p h;simp at h
 |cons h1 h2 ih=>
  intro j k x p h hp;cases j with
  |zero=>simp at h hp;subst h hp;exact h1.1
  |succ j=>exact ih h[0e6] hp[0e6]
section
variable{X:Cx}
def TV:oF X (.type "dict") (λxs H Q=>∃a kvs,xs=[V.ref a]/\H a=some (.dK kvs)/\∀p,H p=none->Q (.ref p) 34e0):=by intro pins s U H xs us Q I r h;obtain⟨a,kvs,rfl,ha,q⟩:=h;obtain⟨u,rfl,ru⟩:=xL r;cases ru;exact aAu I (.inl ha) λp s' hp I'=>{.ref p,_,I',Z,q p hp}
def aMn(hc:X.calm=true):oF X (.type "list") (λxs H Q=>∃a kvs,xs=[V.ref a]/\H a=some (.dK kvs)/\∀p,H p=none->Q (.ref p) (upd H p (.lst 44e4))):=by
 intro pins s U H xs us Q I r h;obtain⟨a,kvs,rfl,ha,q⟩:=h;obtain⟨u,rfl,ru⟩:=xL r;cases ru;obtain⟨z,hd,vs,rel,dd⟩:=pB I.hok (.inl ha);obtain⟨ep,hat⟩:=dd.dictAt;have hh:X.A.handled=none:=I.ok.hd hc;refine PySem.W.kdl_call (PySem.W.kdl_dict (knd:=gN 2e2 X.w) (kvs:=vs) (ep:=ep) hd) hh hat (by rw[<-rel.length];exact z) λh' tk acc' c' hk hD hacc=>?_;have rv:bJ 44e4 acc'.toList:=by
  refine OO (by rw[bA,rel.length];exact hacc.1.symm) λj x v hx hv=>?_;obtain⟨k,y,hk1,hk2⟩:=hacc.2 j v (by rw[<-aQg];exact hv);rw[dW] at hx;obtain⟨p,hp,rfl⟩:=iQ.mp hx;have e:=aIy rel hk1 hp;rw[e];rcases oX hk2 with⟨i,t,rfl,rfl⟩|⟨x,t,rfl,rfl⟩
  ·exact⟨t,Z⟩
  ·exact⟨t,Z⟩
 refine{.ref 0e9,_,I.laid (t':=tk) hk (bL _) (show eZ 2e2 X.w _ h' _ (.lst 44e4) from{by rw[bA];exact z,acc'.toList,c',rv,?_}),Z,q _ 16e2};simpa using hD
end
section
variable{X:Cx}{pins:List (Addr×Obj)}{U:L2.St}{H:Hp}{s:aI}
def VG{xs:List V}{n:Nat}(I:aG X pins U H s)(o:sL X H pins D)(hz:xs.length<=1e5)(r:bJ xs its)(hD:s.heap.get? D=some {cls:= .type "list",data:= .seq its.toArray n}):aG X pins U %[D,xs|0e9] s:=by
 obtain⟨⟨f0,f1,f2,f3,f4,f5⟩,_⟩:=o;have ne:∀{b:Addr} {u:HO},H b=some u->b≠D:=λe z=>by rw[z,f0] at e;cases e
 refine {I with base:={I.base with free:=λb ob e n hx=>?_,tups:=λb xs e=>?_,frzs:=λb ob u e=>?_,tbls:=λb ps e=>?_},free:=?_,freeC:=λx c e=>?_,pin:=λp hp=>?_,hok:=λb u e=>?_}
 ·have h1:=I.base.free b ob e n hx;rw[aS]
  ·exact h1
  ·intro z;rcases f3 with q|q
   ·exact hx (z▸q)
   ·exact absurd (cZ e) (by rw[z];exact WO.mpr q)
 ·have:=I.base.tups b xs e;rw[aS (ne this)];exact this
 ·have:=I.base.frzs b ob u e;rw[aS (ne this)];exact this
 ·obtain⟨more,this⟩:=I.base.tbls b ps e;exact{more,by rw[aS (ne this)];exact this}
 ·rw[aS (fK f1)];exact I.free
 ·rw[aS (f4 x c e)];exact I.freeC x c e
 ·obtain⟨p1,p2,p3⟩:=I.pin p hp;exact{p1,by rw[aS (f5 p hp)];exact p2,p3}
 ·by_cases hb:b=D
  ·subst hb;rw[aR] at e;cases e;exact⟨hz,its,n,r,hD⟩
  ·rw[aS hb] at e;exact(I.hok b u e).stay (λc v _ q=>q) (λc q=>by rw[aS (ne q)];exact q) λc xs q=>by rw[aS (ne q)];exact q
def aIl{k:Nat}{p:Str}{kk:Int}(F:mB 2e2 X.w X.K X.mg 5e5 kL k q fd [p] sp)(hr:dX k 20e5)(hb:oQ X.K fd [p] [])(rv:L2.bR vx v)
 (hsp:sp [vx] H 42e8 E0):E8 X H pins U 20e5 (.ref q) v kk:=by
 intro s I;have hbind:=hb s [v] I.kIn rfl;rw[iP] at hbind;refine yW (C5 (F.run 20e5 8e8 s H {[v],[]} [v] [vx] _ E0 hr I.env0.in1.in1 hbind (.cons rv .nil) hsp) λr s' hq=>?_);cases r with
 |error e=>exact hq.elim
 |ok fl=>
  cases fl with
  |next=>exact iI hq
  |brk=>exact iI hq
  |cont=>exact iI hq
  |ret u=>have hq:CE 8e8 2e2 X.w H s 42e8 u s':=hq;obtain⟨v',H',I',r',e1,e2⟩:=I.after hq;subst e1 e2;obtain⟨t,rfl⟩:=r';obtain⟨v2,H2,os,bare,un,hok,r2,e3,e4⟩:=hq;refine 59e2
end
section
variable{X:Cx}
def aIm(sp:Sp)(t:TA):TE:=λU H Q=>t U H λvs H1=>∃(l:Addr) (ys:List (Int×Addr)),vs=[.ref l]/\H1 l=some (.lst ys.map[9e5])/\(∀y∈ys,sp [.ref y.2] H1 (λr H'=>r= .int y.1/\H'=H1) E0)/\
 ∀(D:Addr) (zs:List (Int×Addr)),H1 D=none->zs.Perm ys->zs.Pairwise (λp q=>p.1<=q.1)->50e6->Q (.ref D) (upd H1 D (.lst zs.map[9e5]))
def yC(y:Int×Addr):Int×Value:=(y.1,.ref y.2)
def refKey(p:Int×Value):Int×Addr:=(p.1,match p.2 with| .ref a=>a|_=>0)
def J7:∀{ys:List (Int×Addr)} {us:List Value},bJ (ys.map λy=>V.ref y.2) us->us=ys.map λy=> .ref y.2
 |[],_,.nil=>rfl
 |y::ys,_,.cons h t=>by cases h;rw[cQ,<-J7 t]
def U8(zs:List (Int×Addr)):bJ (zs.map λy=>V.ref y.2) (zs.map λy=>cX y.2):=by
 induction zs with
 |nil=>exact .nil
 |cons z r ih=>exact .cons rfl ih
def aHl(ys:List (Int×Addr)):(ys.map (·.1)).zip (ys.map λy=>cX y.2)=ys.map yC:=by
 induction ys with
 |nil=>rfl
 |cons y r ih=>rw[cQ,cQ,aSa,ih];rfl
def QJ{ys:List (Int×Addr)}(h:KskOutSt false (ys.map (·.1)) ys.map[9e5] out):
 ∃zs:List (Int×Addr),out=zs.map[9e5]/\zs.Perm ys/\zs.Pairwise (λp q=>p.1<=q.1)/\∀c,zs.filter 29e7=ys.filter λp=>p.1==c:=by
 obtain⟨ps,hp,ho,hs,hf⟩:=h;rw[aHl] at hp hf;have hm:∀p∈ps,yC (refKey p)=p:=λp hpp=>by obtain⟨y,_,rfl⟩:=cB.mp (hp.mem_iff.mp hpp);rfl
 have e:(ps.map refKey).map yC=ps:=by
  rw[eA]
  conv=>rhs;rw[<-FA ps]
  exact hX λp hpp=>hm p hpp
 have back:∀l:List (Int×Addr),(l.map yC).map refKey=l:=λl=>by
  rw[eA]
  conv=>rhs;rw[<-FA l]
  exact hX λp _=>rfl
 refine{ps.map refKey,?_,?_,?_,λc=>?_}
 ·rw[ho]
  conv=>lhs;rw[<-e]
  rw[eA];rfl
 ·have:=hp.map refKey;rw[back] at this;exact this
 ·rw[WF];exact hs.imp λ{a b} h=>h
 ·have h1:=dB (List.map refKey) (hf c);have a1:(ps.map refKey).filter 29e7=(ps.filter λp=>p.1==c).map refKey:=by rw[yM];rfl
  have a2:(ys.map yC).filter 29e7=(ys.filter λp=>p.1==c).map yC:=by rw[yM];rfl
  rw[a1,h1,a2,back]
def VD{k:Nat}{kn p:Str}{e:Expr}{np kp kwp pos:Pos}(D:cH 2e2 X.w X.K X.mg 5e5 k kn [p] sp)(hr:dX (k+2) X.A)(hg:Gl X "sorted")(hs:X.mg "sorted"=none)(hv:tU "sorted"=some (.builtin "sorted"))(hgk:Gl X kn)(ha:PA X [e] t)
 (hdk:(kn==7e2)=false:=by decide)
 (he:iD pos 16e9=e[2e4]::iD pos (dD [] X.env):=by rfl) (hpl:(iD pos 16e9).any (·.1)=false:=by rfl):
 PE X (.Call (.Name "sorted" np) [e] [{some "key",.Name kn kp,kwp}] pos) (aIm sp t):=by
 obtain⟨f,fd,h1,h2,h3,h4⟩:=D;intro pins s U H Q I h;have hkw:PK X [{some "key",.Name kn kp,kwp}] (BE (tC (.ref f)) uX):=SZ (IJ hgk h1 Z hdk) SM;refine 44e5;refine XT (bE 22e4 λus s1 ⟨vs,H1,I1,r,l,ys,ev,hl,hk,q⟩=>bE (hkw pos pins s1 U H1 (λks H2=>ks=[.ref f]/\H2=H1) I1 ⟨Z,Z⟩) λkus s2 ⟨ks,H2,I2,rk,e1,e2⟩=>?_) he hpl;subst ev e1 e2;obtain rfl:=bJ.ref1 r;obtain rfl:=bJ.ref1 rk;obtain⟨hz,its,n,rv,hlen,ho⟩:=I2.lstM hl;have hits:=J7 rv;subst hits;have hll:(ys.map λy=>cX y.2).length<=sizeLine:=by rw[<-hlen];exact hz
 show aQ _ _ f[15e6] _ _ _;refine 47e1
 ·rw[dW] at hv hkk;obtain⟨y,hy,rfl⟩:=iQ.mp hv;rw[hy] at hkk;cases hkk;exact aIl (vx:= .ref y.2) h4 (hr.in1.in1) h3 rfl (hk y (fS hy))
 ·obtain⟨zs,ho1,hp,hs1,hf1⟩:=QJ hout;have hzl:zs.length=ys.length:=hp.length_eq;refine{.ref D,_,VG (n:=cc) I' oD (xs:=zs.map λy=>V.ref y.2) 56e0 (U8 zs) ?_,Z,q D zs oD.1.1 hp hs1 hf1};rw[<-ho1,hD]
end
open PySem
def NY:∀{a b c:List Int},gE a b=true->gE b c=true->gE a c=true
 |[],[],_,h,_=>by cases h
 |[],_::_,[],_,h=>by cases h
 |[],_::_,_::_,_,_=>rfl
 |_::_,[],_,h,_=>by cases h
 |_::_,_::_,[],_,h=>by cases h
 |x::a,y::b,z::c,h1,h2=>by
  simp only[gE] at h1 h2 ⊢;by_cases e1:x=y
  ·subst e1;rw[aC rfl] at h1;by_cases e2:x=z
   ·subst e2;rw[aC rfl] at h2 ⊢;exact NY h1 h2
   ·rw[aB e2] at h2 ⊢;exact h2
  ·rw[aB e1,iX] at h1;by_cases e2:y=z
   ·subst e2;rw[aB e1,iX];exact h1
   ·rw[aB e2,iX] at h2;rw[9e2,iX];omega
abbrev Pr:=Addr×List Int
def jJ(p:Pr):Value:= .ref p.1
def sQ(h h':Heap):Prop:=∀b o,h.get? b=some o->h'.get? b=some o
section
variable{prog:bN}{w:bK}{A:cU}{s:aI}{h0:Heap}{l I S:Addr}{ps:List Pr}{R:FP->aI->Prop}
abbrev DF:List 21e5:=[("default",.none)]
def IX(prog:bN)(w:bK)(A:cU)(h0:Heap)(ps:List Pr):Prop:=∀(s:aI) (p q:Pr) (Q E:Value->aI->Prop),sQ h0 0e2->p∈ps->q∈ps->Q (.bool (gE p.2 q.2)) s->aQ 1e3 A (uI .Lt (jJ p) (jJ q)) Q E s
def aNv(hh:A.handled=none)(hc:IX prog w A.in1 h0 ps)(hIl:l≠I)(hIS:S≠I)(hSl:S≠l)(h0S:h0.get? S=none)(h0I:h0.get? I=none)
 (hR:∀p h' tk,p∈ps->42e1->sQ h0 h'->R (.ok (.ret (jJ p))) {s with heap:=h',toks:=tk}):
 ∀(k j:Nat) (cur:Pr) (h:Heap) (tk c:Nat),ps.length - (j+1)=k->j+1<=ps.length->sQ h0 h->h.IsListIter I l (j+1)->h.IsList l (ps.map jJ).toArray->
  h.get? S=some {cls:= .type "list",dict:=none,data:= .seq #[jJ cur,jJ cur] c,slots:=#[]}->cur∈ps->(∀i p,i<=j->ps[i]? =some p->gE p.2 cur.2=false)->
  tW 1e3 A (.builtin "min.loop" {[.ref I,.none,.ref S],DF}) R {s with heap:=h,toks:=tk}:=by
 have W:=X9 (prog:=prog) (w:=w) (A:=A.in1) hh I l hIl (ps.map jJ).toArray;have size:(ps.map jJ).toArray.size=ps.length:=by rw[eX,bA]
 have loopname:(toString "min"++toString ".loop":String)="min.loop":=by decide
 have old:∀{b:Addr} {o:Obj},h0.get? b=some o->b≠S/\b≠I:=λe=>{h0S[13e5],h0I[13e5]};intro k
 induction k with
 |zero=>
  intro j cur h tk c hk hj K it il hS hcur hbest;refine GE XU ?_;rw[GF zG _];show aQ _ A.in1 (MZ (.ref S) >>=_) _ _ {s with heap:=h,toks:=tk};refine 52e6;have full:j+1=(ps.map jJ).toArray.size:=by rw[size];omega
  refine aK (CK (W.done {s with heap:=h,toks:=tk} _ _ (by rw[<-full];exact⟨it,il⟩) λh1 tk1 k1=>?_));have hS1:=k1 S _ hIS[0e6] hS;refine (aK (CJ (bB ?_)))[19e9];refine hR cur _ _ hcur (λq hq=>?_) λb o e=>?_
  ·obtain⟨i,hi,e⟩:=aPd hq;exact hbest i q 0e1 (by rw[fQ hi,e])
  ·exact(tY _ _ (fK (old e).1)).trans (k1 b o (by simpa using(old e).2) K[2e0])
 |succ k ih=>
  intro j cur h tk c hk hj K it il hS hcur hbest;have lt:j+1<ps.length:=by omega
  refine GE XU ?_;rw[GF zG _];show aQ _ A.in1 (MZ (.ref S) >>=_) _ _ {s with heap:=h,toks:=tk};refine 52e6;refine aK (CK (W.item (j+1) {s with heap:=h,toks:=tk} _ _ %[size,lt|0e0] ⟨it,il⟩ λv h1 tk1 hv st1 k1=>?_));have hS1:=k1 S _ hIS[0e6] hS;have K1:sQ h0 h1:=λb o e=>k1 b o (by simpa using(old e).2) K[2e0];obtain⟨p,hp,rfl⟩:∃p,ps[j+1]? =some p/\v=jJ p:=by rw[List.getElem?_toArray,dW] at hv;obtain⟨p,hp,e⟩:=iQ.mp hv;exact⟨p,hp,6e4⟩
  have hpm:p∈ps:=fS hp;refine 12e4;show aQ _ A.in1 (tryCatch (yS [jJ p,jJ p] (uI .Lt (jJ p) (jJ cur) >>=_)) _ >>=_) _ _ _;refine aK (CK (oI (aK (hc {s with heap:=h1,toks:=tk1} p cur _ _ K1 hpm hcur ?_))));refine aK (oI (qB (aK (CJ (bB ?_)))));cases hb:gE p.2 cur.2 with
  |true=>
   simp only[jM];refine (aK (CJ ?_))[19e9];rw[loopname];refine bB {CL zG _,ih (j+1) p _ tk1 _ 0e1 lt (λb o e=>(tY _ _ (fK (old e).1)).trans K1[2e0]) (st1.1.at λo e=>(tY _ _ hIS).trans e) 55e6 (C7 _ hS1 Z) hpm λi q hi hq=>?_};rcases Nat.lt_or_ge i (j+1) with h1|h1
   ·cases z:gE q.2 p.2 with
    |false=>rfl
    |true=>have:=NY z hb;rw[hbest i q 0e1 hq] at this;cases this
   ·have:i=j+1:=by omega
    subst this;rw[hp] at hq;cases hq;cases z:gE p.2 p.2 with
    |false=>rfl
    |true=>exact absurd z (by
     have irr:∀l:List Int,gE l l=false:=λl=>by
      induction l with
      |nil=>rfl
      |cons x r ih=>simp only[gE,jM];exact ih
     rw[irr];exact eQ)
  |false=>
   simp only[pJ,jX];refine aK (CJ ?_);rw[loopname];refine bB {CL zG _,ih (j+1) cur h1 tk1 c 0e1 lt K1 st1.1 st1.2 hS1 hcur λi q hi hq=>?_};rcases Nat.lt_or_ge i (j+1) with h2|h2
   ·exact hbest i q 0e1 hq
   ·have:i=j+1:=by omega
    subst this;rw[hp] at hq;cases hq;exact hb
end
section
variable{prog:bN}{w:bK}{A:cU}{E:Value->aI->Prop}{s:aI}{l:Addr}{ps:List Pr}{Q:Value->aI->Prop}
def aMa(a v:Value):argsOk "min" {[a],[("default",v)]}:=by unfold argsOk;kernel_rfl
def YR{id:String}{b:vX}{args:List Value}{kw:List 21e5}(k0:builtinKind id=none)(p0:plainId id=true)(e0:entryFor table id=some b)(a0:argsOk id ⟨args,kw⟩)
 (h:aQ 1e3 A.in1 (b ⟨args,kw⟩) (λfin s'=>match fin with
   | .done f=>(match(Except.ok f:FP) with
    | .ok (.ret v)=>Q v s'
    | .ok _=>False
    | .error e=>E e s')
   | .again c'=>c'.quiet=true/\tW 1e3 A c' (λr s'=>match r with
    | .ok (.ret v)=>Q v s'
    | .ok _=>False
    | .error e=>E e s') s') E s):aQ 1e3 A (call (.builtin id) args kw) Q E s:=by
 refine yW (XR p0 e0 ?_);simp only[XO,k0];cases q:aRr id with
 |none=>exact bB h
 |some sig=>
  have:XQ id sig ⟨args,kw⟩=pure ():=by simpa only[argsOk,q] using a0
  simp only[this];exact bB h
def aHk(hh:A.handled=none)(hl:s.heap.IsList l (ps.map jJ).toArray)(hc:IX prog w A.in1 0e2 ps)
 (h0:ps=[]->∀h' tk,sQ 0e2 h'->Q .none {s with heap:=h',toks:=tk})
 (h1:∀p h' tk,p∈ps->42e1->sQ 0e2 h'->Q (jJ p) {s with heap:=h',toks:=tk}):
 aQ 1e3 A (call (.builtin "min") [.ref l] DF) Q E s:=by
 have loopname:(toString "min"++toString ".loop":String)="min.loop":=by decide
 have hlt:l<s.heap.objs.size:=by obtain⟨_,e,_⟩:=hl;exact cZ e
 refine YR F.kind_min F.plain_min F.entry_min (aMa _ _) ?_;show aQ _ A.in1 (aSb "min" ["key","default"] 0 {[],DF} >>=_) _ _ s;refine aK (FZ (show aSb "min" ["key","default"] 0 {[],DF}=pure [none,some .none] from rfl) (aK (bB ?_)));refine aK (LU hl (aK (uC ?_)));rw[loopname];refine bB {CL zG _,?_};have sz:(s.heap.push {cls:= .type "list_iterator",data:= .fields #[.ref l,.int 0 0]}).objs.size=0e9+1:=kW ..;have hIl:l≠s.heap.objs.size:=iC hlt;have gI:((26e3).push {cls:= .type "list",data:= .seq #[]}).IsListIter 0e9 l 0:={_,dL _ (eR _ Z),Z,Z};have gl:=(hl.push {cls:= .type "list_iterator",data:= .fields #[.ref l,.int 0 0]}).push {cls:= .type "list",data:= .seq #[]};have gS:((26e3).push {cls:= .type "list",data:= .seq #[]}).get? 1[0e5]=some {cls:= .type "list",dict:=none,data:= .seq #[] 0,slots:=#[]}:=by rw[<-sz];exact eR _ rfl
 have gK:sQ 0e2 ((26e3).push {cls:= .type "list",data:= .seq #[]}):=λb o e=>dL _ (dL _ e);rw[show (26e3).objs.size=s.heap.objs.size+1 from sz];generalize((26e3).push {cls:= .type "list",data:= .seq #[]})=hp at gI gl gS gK ⊢;have n1:s.heap.get? 1[0e5]=none:=by
  cases e:s.heap.get? 1[0e5] with
  |none=>rfl
  |some o=>exact absurd (cZ e) (WO.mpr (lF _))
 have n0:s.heap.get? 0e9=none:=by
  cases e:s.heap.get? 0e9 with
  |none=>rfl
  |some o=>exact absurd (cZ e) (iR _)
 have neS:∀{b:Addr} {o:Obj},s.heap.get? b=some o->b≠s.heap.objs.size+1:=λe z=>by rw[z,n1] at e;cases e
 have neI:∀{b:Addr} {o:Obj},s.heap.get? b=some o->b≠s.heap.objs.size:=λe z=>by rw[z,n0] at e;cases e
 have W:=X9 (prog:=prog) (w:=w) (A:=A.in1) hh 0e9 l hIl (ps.map jJ).toArray;refine GE XU ?_;rw[GF zG _];show aQ _ A.in1 (MZ (.ref 1[0e5]) >>=_) _ _ {s with heap:=hp};refine aK (uG (s:={s with heap:=hp}) gS Z ?_);cases ps with
 |nil=>refine aK (CK (W.done {s with heap:=hp} _ _ ⟨gI,gl⟩ λh1 tk1 k1=>?_));refine aK (wI (bB ?_));exact h0 rfl h1 tk1 λb o e=>k1 b o (by simpa using neI e) gK[2e0]
 |cons p r=>
  refine aK (CK (W.item 0 {s with heap:=hp} _ _ 0e5 ⟨gI,gl⟩ λv g1 tk1 hv st1 k1=>?_));have hv':v=jJ p:=by simpa using hv.symm
  subst hv';refine 12e4;have gS1:=k1 1[0e5] _ 0e5 gS;refine aK (NH (s:={s with heap:=g1,toks:=tk1}) gS1 Z ?_);rw[loopname];have hSl:s.heap.objs.size+1≠l:=λz=>iR _ (qD (LY _) (z▸hlt));have hIS:s.heap.objs.size+1≠s.heap.objs.size:=by omega
  refine bB ⟨CL zG _,aNv (s:=s) hh hc hIl hIS hSl n1 n0 (λq h' tk hq hb hk=>h1 q h' tk hq hb hk) _ 0 p _ tk1 _ Z 0e5 (λb o e=>(tY _ _ (fK (neS e))).trans (k1 b o (by simpa using neI e) gK[2e0]))
   (st1.1.at λo e=>(tY _ _ hIS).trans e) 55e6 (C7 _ gS1 Z) (dY ..) λi q hi hq=>?_⟩
  have:i=0:=by omega
  subst this;cases hq;have irr:∀l:List Int,gE l l=false:=λl=>by
   induction l with
   |nil=>rfl
   |cons x r ih=>simp only[gE,jM];exact ih
  exact irr _
end
open PySem
inductive rE:List Value->List Int->Prop
 |nil:rE [] []
 |cons {vs:List Value} {ns:List Int} (n:Int) (t:Tok):rE vs ns->rE (.int n t::vs) (n::ns)
def rE.len(h:rE vs ns):vs.length=ns.length:=by
 induction h with
 |nil=>rfl
 |cons n t _ ih=>rw[eD,eD,ih]
def tD(h:Heap)(a:Addr)(ns:List Int):Prop:=∃o items n,h.get? a=some o/\o.cls= .type "tuple"/\o.data= .seq items n/\rE items.toList ns
def tD.keep(k:sQ h h')(r:tD h a ns):tD h' a ns:=let⟨o,i,n,a1,a2⟩:=r;⟨o,i,n,k _ _ a1,a2⟩
section
variable{prog:bN}{w:bK}{A:cU}{E:Value->aI->Prop}{s:aI}
def j0{P:Fin->aI->Prop}(hx:tD 0e2 a x)(hy:tD 0e2 b y)(hl:x.length=y.length)(h:P (.done (.ret (.bool (gE x y)))) s):
 aQ 1e3 A (Builtin.«tuple.__lt__» {[.ref a,.ref b],[]}) P E s:=by
 obtain⟨o1,xs,n1,g1,_,d1,i1⟩:=hx;obtain⟨o2,ys,n2,g2,c2,d2,i2⟩:=hy;have tb:s.TypeIs (.ref b) "tuple":=⟨o2,g2,c2⟩;show aQ _ _ (isInstance (.ref b) (.type "tuple") >>=_) _ E s;refine aK (MV tb isSubtype_tuple_tuple ?_);simp only[Bool.not_true,pJ,ite_false];refine aK (aSc g1 d1 (aK (aSc g2 d2 (aK ?_))));refine wpAny_forIn_list _
  (λleft r s'=>r.1=none/\s'=s/\∃x' y' xs' ys',left=List.zip xs' ys'/\rE xs' x'/\rE ys' y'/\gE x' y'=gE x y/\x'.length=y'.length)
  _ ?_ ?_ _ _ ⟨Z,Z,x,y,xs.toList,ys.toList,Z,i1,i2,Z,hl⟩
 ·rintro⟨u,v⟩ rest r s' ⟨hr,rfl,x',y',xs',ys',hz,hx',hy',hlex,hlen⟩;cases hx' with
  |nil=>cases hy' with
   |nil=>cases hz
   |cons _ _ _=>cases hz
  |@cons us ms m1 t1 hx2=>cases hy' with
   |nil=>cases hz
   |@cons us2 ms2 m2 t2 hy2=>
    rw[aSa] at hz;obtain⟨e1,e2⟩:=List.cons.inj hz;cases e1;refine aK (aPn ?_);by_cases hm:m1=m2
    ·subst hm;rw[show(m1==m1)=true from aRg m1];simp only[Bool.not_true,pJ,ite_false];refine bB {Z,Z,ms,ms2,us,us2,e2,hx2,hy2,?_,by simpa using hlen};rw[<-hlex];simp only[gE,jM]
    ·rw[show(m1==m2)=false from jO.mpr hm];simp only[NG,ite_true];have e3:gE x y=decide (m1<m2):=by rw[<-hlex];simp only[gE];exact aB hm
     rw[e3] at h;exact aK (wI (aK (wpAny_lt_int (aK (bB (bB (bB h)))))))
 ·rintro⟨r1,r2⟩ s' ⟨hr,rfl,x',y',xs',ys',hz,hx',hy',hlex,hlen⟩;simp only at hr;subst hr;refine bB ?_;have sizes:xs.size=ys.size:=by rw[<-vU,<-vU,i1.len,i2.len,hl]
  have e3:gE x y=false:=by
   rw[<-hlex];cases hx' with
   |nil=>cases hy' with
    |nil=>rfl
    |cons _ _ _=>cases hlen
   |cons _ _ _=>cases hy' with
    |nil=>rfl
    |cons _ _ _=>cases hz
  show P (.done (.ret (.bool (decide (xs.size<ys.size))))) s';rw[sizes,nK (iR _),<-e3];exact h
def aMu{Q:Value->aI->Prop}(hu:A.units<cLine)(hx:tD 0e2 a x)(hy:tD 0e2 b y)(hl:x.length=y.length)(h:Q (.bool (gE x y)) s):
 aQ 1e3 A (uI .Lt (.ref a) (.ref b)) Q E s:=by
 have ta:s.TypeIs (.ref a) "tuple":=let⟨o,_,_,g,c,_⟩:=hx;⟨o,g,c⟩;have tb:s.TypeIs (.ref b) "tuple":=let⟨o,_,_,g,c,_⟩:=hy;⟨o,g,c⟩;exact wpAny_richCompare_same_room (op:= .Lt) ta tb F.slot_tuple_lt (qF F.slot_tuple_lt ta F.entry_tuple_lt (j0 hx hy hl {_,Z,(λe=>nomatch e),h}) (F.args_tuple_lt_2 _ _)) hu
def ZR{ps:List Pr}(hu:A.units<cLine)(hr:∀p∈ps,tD h0 p.1 p.2/\p.2.length=4):IX prog w A h0 ps:=λs p q Q E k hp hq h=>aMu hu ((hr p hp).1.keep k) ((hr q hq).1.keep k) ((hr p hp).2.trans (hr q hq).2.symm) h
end
section
variable{X:Cx}
def aLs(t:TA):TE:=λU H Q=>t U H λvs H1=>∃(l:Addr) (ps:List Pr),vs=[.ref l]/\H1 l=some (.lst (ps.map λp=> .ref p.1))/\(∀p∈ps,p.2.length=4/\H1 p.1=some (.tup (p.2.map .int)))/\(ps=[]->Q .non H1)/\∀p∈ps,42e1->Q (.ref p.1) H1
def RM:∀{ps:List Pr} {us:List Value},bJ (ps.map λp=>V.ref p.1) us->us=ps.map jJ
 |[],_,.nil=>rfl
 |p::ps,_,.cons h t=>by cases h;rw[cQ,<-RM t];rfl
def PF:∀{ns:List Int} {us:List Value},bJ 14e5 us->rE us ns
 |[],_,.nil=> .nil
 |n::ns,_,.cons h t=>by obtain⟨k,rfl⟩:=h;exact .cons n k (PF t)
def aAn{e de:Expr}{np kwp pos:Pos}(hc:X.calm=true)(hu:X.A.in1.units<cLine)(hg:Gl X "min")(hs:X.mg "min"=none)(hv:tU "min"=some (.builtin "min"))(hde:PE X de (tC .non))(ha:PA X [e] t)
 (he:iD pos 16e9=e[2e4]::iD pos (dD [] X.env):=by rfl) (hpl:(iD pos 16e9).any (·.1)=false:=by rfl):
 PE X (.Call (.Name "min" np) [e] [{some "default",de,kwp}] pos) (aLs t):=by
 intro pins s U H Q I h;have hkw:PK X [{some "default",de,kwp}] (BE (tC .non) uX):=SZ hde SM;refine 44e5;refine XT (bE 22e4 λus s1 ⟨vs,H1,I1,r,l,ps,ev,hl,hrow,q0,q1⟩=>bE (hkw pos pins s1 U H1 (λks H2=>ks=[.non]/\H2=H1) I1 ⟨Z,Z⟩) λkus s2 ⟨ks,H2,I2,rk,e1,e2⟩=>?_) he hpl;subst ev e1 e2;obtain rfl:=bJ.ref1 r;obtain⟨u,rfl,ru⟩:=xL rk;cases ru;obtain⟨hz,its,n,rv,hlen,ho⟩:=I2.lstM hl;have hits:=RM rv;subst hits;show aQ _ _ (call (.builtin "min") [.ref l] [("default",.none)]) _ _ _;refine aHk (I2.ok.hd hc) {_,ho,Z,n,Z} (ZR hu λp hp=>?_) (λe h' tk k=>{.non,H2,I2.kept k,Z,q0 e}) λp h' tk hp hb k=>{.ref p.1,H2,I2.kept k,Z,q1 p hp hb};obtain⟨h4,ht⟩:=hrow p hp;obtain⟨_,its2,rv2,o,g1,g2,n2,g3⟩:=(show eZ 2e2 X.w H2 s2.heap p.1 (.tup (p.2.map .int)) from I2.hok _ _ ht);exact⟨{o,_,n2,g1,g2,g3,by simpa using PF rv2},h4⟩
end
section
variable{X:Cx}{pins:List (Addr×Obj)}{U:L2.St}{H:Hp}
def s_{k:Nat}{f c' x:Addr}{name qual:Str}{params:Arguments}{body:Expr}{scope:Scope}{N:List Str}{p:Str}{t:TE}{kk:Int}(hpin:(f,wJ name qual params body scope [] pm c' ctv)∈pins)(hcd:H c'=some (.ext λh=>h.CodeRec (.ref c') qual))
 (hr:dX (k+1) 20e5) (S:bU N [p] scope) (hb:∀u:Value,wB (PySem.W.kla_fn name qual params body scope [] pm (.ref c') ctv) {[u],[]}=pure [(p,u)])
 (hbody:∀(s:aI),PE qual[15e4] body t) (hq:t (start N [.ref x]) H λv H'=>v= .int kk/\H'=H):E8 X H pins U 20e5 (.ref f) (.ref x) kk:=by
 intro s I;have hpf:=(I.pin _ (nJ _ hpin)).1;have hrec:s.heap.CodeRec (.ref c') qual:=(show eZ 2e2 X.w H 0e2 c' _ from I.hok _ _ hcd).1;have e0:=I.env0.in1.in1;have lim:s.heap.NoLimit:=I.nolimit;have hkind:∀y∈[p].zip [cX x],scope.names.lookup y.1=some .local\/(scope.names.lookup y.1=some .cell/\((45e4).lookup y.1).isSome=true):=λ⟨n,v⟩ hy=>by
  rcases S.par n (M4 hy).1 with q|q
  ·exact .inl q
  ·exact .inr {q,X3 _ _ _ (.inl q)}
 refine yW (C5 (R:=CR kL 8e8 2e2 X.w H s (λv H'=>v= .int kk/\H'=H) E0) (PySem.W.kla_callFunE hr.depth hpf Z S.co S.gen Z hrec ?_) λr s' hq=>?_)
 ·rw[hb];refine bB (aQb S.kind hkind λenv he s1 y=>?_);subst he;refine{lim.keeps y.toInCall.keep,PySem.W.kla_codeExpr ?_};have J:aG qual[15e4] [] (start N [.ref x]) H s1:=VX (us:=[.ref x]) S hr.hd e0 rfl (.cons Z .nil) y;refine lH (hbody s [] s1 _ H _ J hq) (λu s' ⟨v,H',J',rv,q⟩=>?_) λe s' hs=>?_
  ·exact⟨v,H',J'.os,J'.bare,J'.base,J'.hok,rv,q⟩
  ·exact hs
 ·cases r with
  |error e=>exact hq.elim
  |ok fl=>
   cases fl with
   |next=>exact iI hq
   |brk=>exact iI hq
   |cont=>exact iI hq
   |ret u=>have hq:CE 8e8 2e2 X.w H s 42e8 u s':=hq;obtain⟨v',H',I',r',e1,e2⟩:=I.after hq;subst e1 e2;obtain⟨t,rfl⟩:=r';obtain⟨v2,H2,os,bare,un,hok,r2,e3,e4⟩:=hq;exact 59e2
end
section
variable{X:Cx}{pins:List (Addr×Obj)}{U:L2.St}{H:Hp}{s:aI}
def CW(mg:Str->Option Value)(h:Heap):Prop:=∃bm ob,mg "__builtins__"=some (.ref bm)/\bm≠FH/\h.get? bm=some ob/\ob.cls= .type "module"/\ob.dict=some FH/\ob.data= .plain
def AU(tab:Addr)(H H':Hp):Prop:=H'=H\/∃a,H a=none/\a≠tab/\H'=upd a[16e0] tab (.tbl #[rawInt 463,rawInt 31,.ref a])
def AU.keep{H H':Hp}{o:HO}(h:AU P H H')(_:H P=some (.tbl ps))(e:H b=some o)(hb:b≠P):H' b=some o:=by
 rcases h with rfl|⟨a,ha,_,rfl⟩
 ·exact e
 ·rw[aS hb,ha[3e4]];exact e
def aEp{params:Arguments}{body:Expr}{scope:Scope}{pos:Pos}{ps:Array Value}{Q:Value->aI->Prop}{E:Value->aI->Prop}(I:aG X pins U H s)(hC:CQ 5e5 c0 P)(hcode:X.env.code= .ref c0)(hB:CW X.mg 5e5)
 (hcl:MF scope X.env=pure []) (hdef:defaultsOf params X.env=([],[])) (hqual:X.env.qual++"<lambda>"=kF) (hl:pos.line=463) (hcol:pos.col=31) (hT:H P=some (.tbl ps)) (hok:uP H ps)
 (h:∀(f c':Addr) (pm ctv:Value) (H':Hp) (s':aI),aG X (pins++[(f,wJ "<lambda>" kF params body scope [] pm c' ctv)]) U H' s'->AU P H H'->uP H' (match H' P with|some (.tbl q)=>q|_=>#[])->H' c'=some (.ext λh=>h.CodeRec (.ref c') kF)->Q (.ref f) s'):
 aQ 1e1 X.A (eval (.Lambda params body scope pos) X.env) Q E s:=by
 have C:CQ 0e2 c0 P:=hC.keeps I.bk;have gP:s.heap.get? P=some {cls:= .none,data:= .fields ps}:=I.hok _ _ hT;have ns:=I.mod.glob.keeps I.bk;obtain⟨bm,ob,b1,b2,b3,b4,b5,b6⟩:=hB;have b3':=I.bk _ _ b3;have hbP:bm≠P:=λz=>by rw[z,gP] at b3';cases b3';cases b4
 have hGP:mainGlobals≠P:=λz=>by obtain⟨o,es,ep,e,d,_⟩:=ns;rw[z,gP] at e;cases e;cases d
 have hbG:bm≠mainGlobals:=λz=>by obtain⟨o,es,ep,e,d,_⟩:=ns;rw[z,e] at b3';cases b3';rw[d] at b6;cases b6
 refine PySem.W.kla_eval hdef ?_;rw[hqual];have pinNew:∀{H':Hp} {h':Heap} {tk:Nat} {o:Obj},aG X pins U H' {s with heap:=h'.push o,toks:=tk}->s.heap.objs.size<=h'.objs.size->H' h'.objs.size=none->(∀v,o.data≠ .cell v)->o.isFreed=false->aG X (pins++[(h'.objs.size,o)]) U H' {s with heap:=h'.push o,toks:=tk}:=λ{H' h' tk o} J hsz hn hcell hfr=>by
  refine J.pins_of λp hp=>?_;rcases fE.mp hp with hp|hp
  ·exact J.pin p (nJ _ hp)
  ·rw[eU.mp hp];exact{eR _ hfr,hn,yV (fG I.lt hsz),I.nofs hsz,hcell}
 rcases hok with rfl|⟨a,rfl,ha⟩
 ·refine PySem.W.kla_makeFunction (mg:=X.mg) (P:=P) hcl I.ok.glob ns hcode C gP trivial rfl hGP ⟨bm,ob,b1,b2,hbG,hbP,b3',b4,b5,b6⟩ λc' ctv h' tk hx h1 h2 hrec htab=>?_;have hcP:c'≠P:=λz=>iR _ (fG (cZ gP) (z▸h1));have hHc:H c'=none:=I.hok.fresh h1;have hk:∀b o,b≠P->s.heap.get? b=some o->(h'.push c'[12e9]).get? b=some o:=λb o hb e=>dL _ (hx b o hb e);have hsz:s.heap.objs.size<=h'.objs.size:=C0 (eB h1 h2);have htab':(h'.push c'[12e9]).get? P=some {cls:= .none,data:= .fields #[rawInt 463,rawInt 31,.ref c']}:=by have:=dL c'[12e9] htab;rw[hl,hcol] at this;exact this
  have nP:∀{b:Addr} {u:HO},H b=some u->b≠c':=λe z=>by rw[z,hHc] at e;cases e
  have J:aG X pins U (upd c'[16e0] P (.tbl #[rawInt 463,rawInt 31,.ref c'])) {s with heap:=h'.push (wJ "<lambda>" kF params body scope [] ((X.mg "__name__").getD .none) c' ctv),toks:=tk}:=by
   refine I.un {λb o e n _ _=>hk b o 41e5 e,λb o e n _ _=>{o.slots,hk b o 41e5 e},λb o e n _=>?_,λb o e _=>?_,λb xs e=>?_,λb o u e=>?_,λb q e=>?_} λb u e=>?_
   ·rw[aS 41e5,aS (λz=>iR _ (fG (cZ e) %[z,h1|0e0]))];exact n
   ·by_cases z:b=P
    ·exact{_,z▸htab'}
    ·exact{o,hk b o z e}
   ·rw[aS hT[13e5],aS (nP e)];exact e
   ·rw[aS hT[13e5],aS (nP e)];exact e
   ·by_cases z:b=P
    ·subst z;rw[hT] at e;cases e;exact{#[rawInt 463,rawInt 31,.ref c'],by rw[aR];rfl}
    ·exact{#[],by rw[aS z,aS (nP e),e];simp}
   ·by_cases z:b=P
    ·subst z;rw[aR] at e;cases e;exact htab'
    ·rw[aS z] at e;by_cases z2:b=c'
     ·subst z2;rw[aR] at e;cases e;have hr':(h'.push b[12e9]).CodeRec (.ref b) kF:=hrec.keeps λd o e=>dL _ e;refine{hr',?_,λg1 g2 q hq=>?_}
      ·obtain⟨_,oc,_,_,ec,hoc,_⟩:=hr';cases ec;exact⟨oc,hoc⟩
      ·obtain⟨cc,oc,vs,tq,ec,hoc,r⟩:=q;cases ec;exact{b,oc,vs,tq,Z,hq _ hoc,r}
     ·rw[aS z2] at e;refine(I.hok b u e).stay (λd v hd q=>hk d v (λzz=>?_) q) (λd q=>?_) λd xs q=>?_
      ·rcases hd with hd|hd
       ·exact z (hd▸zz)
       ·rw[zz,hT] at hd;cases hd
      ·rw[aS (λzz=>by rw[zz,hT] at q;cases q),aS (nP q)];exact q
      ·rw[aS (λzz=>by rw[zz,hT] at q;cases q),aS (nP q)];exact q
  have fr:(upd c'[16e0] P (.tbl #[rawInt 463,rawInt 31,.ref c'])) h'.objs.size=none:=by rw[aS (λz=>iR _ (fG (cZ gP) hsz[4e4])),aS (λz=>iR _ (fG h2 (iH z)))];exact I.hok.fresh hsz
  refine h _ c' _ ctv _ _ (pinNew J hsz fr (λv z=>10e1) Z) (.inr ⟨c',hHc,hcP,Z⟩) ?_ (by rw[aS hcP,aR]);rw[aR];exact .inr {c',Z,by rw[aS hcP,aR]}
 ·refine PySem.W.kla_makeFunctionHit (mg:=X.mg) (P:=P) (cv:= .ref a) hcl I.ok.glob ns hcode C gP trivial ?_ ⟨bm,ob,b1,b2,hbG,hbP,b3',b4,b5,b6⟩ λctv h' tk hk hsz=>?_
  ·show(if(463:Int)==pos.line&&(31:Int)==pos.col then some (cX a) else _)=_;rw[hl,hcol];rfl
  ·have J:aG X pins U H {s with heap:=h'.push (wJ "<lambda>" kF params body scope [] ((X.mg "__name__").getD .none) a ctv),toks:=tk}:=I.kept λb o e=>dL _ hk[2e0];refine h _ a _ ctv _ _ (pinNew J hsz (I.hok.fresh hsz) (λv z=>10e1) Z) (.inl Z) ?_ ha;rw[hT];exact .inr ⟨a,Z,ha⟩
def aHh(P:Addr)(rd:Hp->Int×Addr->Prop)(t:TA):TE:=λU H Q=>t U H λvs H1=>∃(l:Addr) (ys:List (Int×Addr)) (ps:Array Value),vs=[.ref l]/\H1 l=some (.lst ys.map[9e5])/\H1 P=some (.tbl ps)/\uP H1 ps/\∀H2,AU P H1 H2->(∃ps,H2 P=some (.tbl ps)/\uP H2 ps)->(∀y∈ys,rd H2 y)/\
 ∀(D:Addr) (zs:List (Int×Addr)),H2 D=none->zs.Perm ys->zs.Pairwise (λp q=>p.1<=q.1)->50e6->Q (.ref D) (upd H2 D (.lst zs.map[9e5]))
def t4{k:Nat}{e:Expr}{t:TA}{te:TE}{N:List Str}{p:Str}{params:Arguments}{body:Expr}{scope:Scope}{np lpos kwp pos:Pos}(hC:CQ 5e5 c0 P)(hcode:X.env.code= .ref c0)(hB:CW X.mg 5e5)(hr:dX (k+3) X.A)(hg:Gl X "sorted")(hs:X.mg "sorted"=none)(hv:tU "sorted"=some (.builtin "sorted"))
 (S:bU N [p] scope) (hb:∀(pm cd ct u:Value),wB (PySem.W.kla_fn "<lambda>" kF params body scope [] pm cd ct) {[u],[]}=pure [(p,u)])
 (hbody:∀(f c':Addr) (H:Hp) (s:aI),PE kF[15e4] body te) (ha:PA X [e] t)
 (hcl:MF scope X.env=pure []:=by rfl) (hdef:defaultsOf params X.env=([],[]):=by rfl) (hqual:X.env.qual++"<lambda>"=kF:=by rfl) (hl:lpos.line=463:=by rfl) (hcol:lpos.col=31:=by rfl)
 (he:iD pos 16e9=e[2e4]::iD pos (dD [] X.env):=by rfl) (hpl:(iD pos 16e9).any (·.1)=false:=by rfl):
 PE X (.Call (.Name "sorted" np) [e] [{some "key",.Lambda params body scope lpos,kwp}] pos) (aHh P (λH y=>te (start N [.ref y.2]) H λv H'=>v= .int y.1/\H'=H) t):=by
 intro pins s U H Q I h;refine 44e5;refine XT (bE 22e4 λus s1 ⟨vs,H1,I1,r,l,ys,ps,ev,hl1,hT,hok,q⟩=>?_) he hpl;subst ev;obtain rfl:=bJ.ref1 r;show aQ _ _ (evalAll [(do let v <-eval (.Lambda params body scope lpos) X.env;FJ pos;pure v)]) _ _ s1;refine aPz (aK (aEp I1 hC hcode hB hcl hdef hqual hl hcol hT hok λf c' pm ctv H2 s2 I2 hN hok2 hc'=>aK (FK (bB (aPy ?_)))));have hPs:∃ps,H2 P=some (.tbl ps)/\uP H2 ps:=by
  rcases hN with rfl|⟨a,_,_,rfl⟩
  ·rw[hT] at hok2;exact{_,hT,hok2}
  ·rw[aR] at hok2;exact{_,aR,hok2}
 obtain⟨hrd,q2⟩:=q H2 hN hPs;have hl2:H2 l=some (.lst ys.map[9e5]):=hN.keep hT hl1 λz=>by rw[z,hT] at hl1;cases hl1
 obtain⟨hz,its,n,rv,hlen,ho⟩:=I2.lstM hl2;have hits:=J7 rv;subst hits;have hll:(ys.map λy=>cX y.2).length<=sizeLine:=by rw[<-hlen];exact hz
 show aQ _ _ f[15e6] _ _ _;refine 47e1
 ·rw[dW] at hv hkk;obtain⟨y,hy,rfl⟩:=iQ.mp hv;rw[hy] at hkk;cases hkk;exact s_ (k:=k) (nJ _ (eU.mpr Z)) hc' hr.in1.in1 S (hb _ _ _) (hbody f c' H2) (hrd y (fS hy))
 ·obtain⟨zs,ho1,hp,hs1,hf1⟩:=QJ hout;have hzl:zs.length=ys.length:=hp.length_eq;refine{.ref D,_,(VG (n:=cc) I' oD (xs:=zs.map λy=>V.ref y.2) 56e0 (U8 zs) ?_).unpinned,Z,q2 D zs oD.1.1 hp hs1 hf1};rw[<-ho1,hD]
end
noncomputable section
variable{K:aP}{H:Hp}{a:Addr}{f:Str}{v:V}
def cM.C(h:cM K H a f v):Addr:=h.choose
def cM.dx(h:cM K H a f v):Addr:=h.choose_spec.choose
def cM.fs(h:cM K H a f v):List (Str×V):=h.choose_spec.choose_spec.choose
def cM.h(h:cM K H a f v):H a=some (.ins h.C h.dx h.fs):=h.choose_spec.choose_spec.choose_spec.1
def cM.c(h:cM K H a f v):nR K h.C:=h.choose_spec.choose_spec.choose_spec.2.1
def cM.n(h:cM K H a f v):lZ K h.C f:=h.choose_spec.choose_spec.choose_spec.2.2.1
def cM.l(h:cM K H a f v):h.fs.lookup f=some v:=h.choose_spec.choose_spec.choose_spec.2.2.2
end
section
variable{P:bN}{w:bK}{K:aP}{mg:Str->Option Value}{base:Heap}{c:Cl}
def dJ{X:Cx}(hK:X.K=K)(he:PE X e ta)(hb:wA e f X.env e[2e7]=eval e X.env):PE X (.Attribute e f pos) (HM K ta f):=by subst hK;exact aL he hb
def aEm(K:aP)(ta:TE):TT:=λU H Q=>ta U H λx H'=>∃k,HC K x H' k/\Q k H'
def sK{X:Cx}(hK:X.K=K)(ha:PE X a ta)(he:∀whole,C4 a X.env whole=52e8):
 PT X a (aEm K ta):=by
 subst hK;exact dP ha he
def W_{X:Cx}(hK:X.K=K):zM X (SE K):=by subst hK;exact eJ
def IA{X:Cx}(hK:X.K=K):zM X (IW K):=by subst hK;exact bG
def aDu{X:Cx}(hK:X.K=K)(hu:X.A.units+64<cLine):eK X (iZ .Eq) (V3 K):=by subst hK;exact j3 hu
def inr(n:Int)(b:Int×Int):Bool:=decide (b.1<=n)&&decide (n<=b.2)
def aLm(K:aP):Sp:=λvs H Q _=>∃(n:Int) (b:Addr) (lo hi:Int),vs=[.int n,.ref b]/\bW K H b [.int lo,.int hi]/\Q (.bl (inr n (lo,hi))) H
def aFx:bU ["number","bounds"] ["number","bounds"] 4[0e1]:=0e6
def lB(T:cA K mg c):cH P w K mg base 1 "within" ["number","bounds"] (aLm K):=by
 refine T.wx.ok aFx 2e6 0e7 0e8
 ·obtain⟨n,b,lo,hi,rfl,hb,k⟩:=h;rfl
 ·obtain⟨n,b,lo,hi,rfl,hb,k⟩:=h;refine(h8 DP DP 1[3e0] (pv 0) 1[3e0])[7e6];refine{_,Z,b,_,_,_,Z,Z,hb,Z,_,Z,_,_,Z,Z,_,Z,?_};unfold inr at k;by_cases h1:lo<=n
  ·rw[aC h1[0e6]];simp only[h1,LD,tP] at k;exact{_,Z,b,_,_,_,Z,Z,hb,Z,_,_,Z,Z,k}
  ·rw[aB h1[0e6]];simp only[h1,LF,FG] at k;exact k
def aKo(K:aP):Sp:=λvs H Q _=>∃(a:Addr) (xs:List V),vs=[.ref a]/\H a=some (.lst xs)/\1e9<1e5/\∀p H',aU H H'->H p=none->H' p=some (.lst (.int 1e9::xs))->Q (.ref p) H'
def aHj:bU ["numbers"] ["numbers"] 7[0e1]:=0e6
def zW(T:cA K mg c):cH P w K mg base 1 "row" ["numbers"] (aKo K):=by
 refine T.jj.ok aHj 6e0 0e7 0e8
 ·obtain⟨a,xs,rfl,ha,hl,k⟩:=h;rfl
 ·obtain⟨a,xs,rfl,ha,hl,k⟩:=h;refine(eT nB (bH (aA 0[7e4] aD)) (pv 0))[7e6];refine⟨_,Z,a,_,Z,ha[2e9],1[0e3],λp hp=>{_,Z,p,a,_,_,Z,Z,aR,bD hp _ _ ha,(by show 1+1e9<=sizeLine;omega),λq hq=>?_}⟩;have s1:=bD (o:= .lst [.int xs.length]) hp;exact k q _ (s1.trans (bD hq)) (s1.free hq) aR
def aCe(K:aP):Sp:=λvs H Q _=>∃(h r:Addr) (b1 b2:Bool) (t n:Int),vs=[.ref h,.ref r]/\cM K H r "cancelled" (.bl b1)/\cM K H r "gone" (.bl b2)/\cM K H r "goes" (.int t)/\cM K H h "now" (.int n)/\Q (.bl (!b1&&(!b2&&decide (n<=t)))) H
def aDm:bU ["house","run"] ["house","run"] 73[0e1]:=0e6
def P1(T:cA K mg c):cH P w K mg base 1 "is_ahead" ["house","run"] (aCe K):=by
 refine T.qaa.ok aDm 2e6 0e7 0e8
 ·obtain⟨h,r,b1,b2,t,n,rfl,f1,f2,f3,f4,k⟩:=h;rfl
 ·obtain⟨h,r,b1,b2,t,n,rfl,f1,f2,f3,f4,k⟩:=h;refine(PU (S7 1[0e0]) (PU (S7 1[0e0]) (OQ (UV RP 1[0e0] 0[0e0] (cJ _)))))[7e6];refine{_,Z,_,Z,4e1}[11e1]
  ·refine⟨_,Z,rF f2 {_,Z,_,Z,6e7}⟩
   ·refine{_,Z,rF f3 ⟨_,Z,rF f4 {_,_,Z,Z,?_}⟩};rw[e1,e2] at k;exact k
   ·rw[e1,kT.mpr e2] at k;exact k
  ·rw[kT.mpr e1] at k;exact k
def Z8(K:aP):Sp:=λvs H Q _=>∃(a:Addr) (b:Bool) (x y:V),vs=[.ref a]/\cM K H a "goes_back" (.bl b)/\cM K H a "origin" x/\cM K H a "to" y/\Q 23e0 H
def aIf:bU ["item"] ["item"] 35[0e1]:=0e6
def SV(T:cA K mg c):cH P w K mg base 1 "goal_office" ["item"] (Z8 K):=by
 refine T.qac.ok aIf 6e0 0e7 0e8
 ·obtain⟨a,b,x,y,rfl,f1,f2,f3,k⟩:=h;rfl
 ·obtain⟨a,b,x,y,rfl,f1,f2,f3,k⟩:=h;refine(oS 0[5e9] 0[0e0] 0[0e0])[7e6];refine⟨b,Z,32e5⟩[11e1]
  ·rw[aC e] at k;exact{_,Z,rF f2 k}
  ·rw[aB e] at k;exact{_,Z,rF f3 k}
def aOt(K:aP):Sp:=λvs H Q _=>∃(a:Addr) (b:Bool) (x y:V),vs=[.ref a]/\cM K H a "goes_back" (.bl b)/\cM K H a "home" x/\cM K H a "point" y/\Q 23e0 H
def aIc:bU ["item"] ["item"] 36[0e1]:=0e6
def RL(T:cA K mg c):cH P w K mg base 1 "goal_point" ["item"] (aOt K):=by
 refine T.vk.ok aIc 6e0 0e7 0e8
 ·obtain⟨a,b,x,y,rfl,f1,f2,f3,k⟩:=h;rfl
 ·obtain⟨a,b,x,y,rfl,f1,f2,f3,k⟩:=h;refine(oS 0[5e9] 0[0e0] 0[0e0])[7e6];refine⟨b,Z,32e5⟩[11e1]
  ·rw[aC e] at k;exact{_,Z,rF f2 k}
  ·rw[aB e] at k;exact{_,Z,rF f3 k}
def aGg:Sp:=λvs H Q _=>∃(b:Bool),vs=[.bl b]/\Q (vi b.toNat) H
def c7:bU ["yes"] ["yes"] 39[0e1]:=0e6
def BG(T:cA K mg c):cH P w K mg base 1 "as_number" ["yes"] (aGg):=by
 refine T.vb.ok c7 6e0 0e7 0e8
 ·obtain⟨b,rfl,k⟩:=h;rfl
 ·obtain⟨b,rfl,k⟩:=h;refine(oS 0[12e1] aM aM)[7e6];refine{_,Z,b,Z,32e5}
  ·rw[e] at k;exact k
  ·rw[kT.mpr e] at k;exact k
def aBg(K:aP):Sp:=λvs H Q _=>∃(a:Addr) (ys:List (Addr×Int)),vs=[.ref a]/\H a=some (.lst (ys.map λp=> .ref p.1))/\18e0<1e5/\(∀p∈ys,cM K H p.1 "number" (.int p.2))/\
 ∀p H',aU H H'->H p=none->H' p=some (.lst (ys.map λp=> .int p.2))->Q (.ref p) H'
def KC:bU ["things","item"] ["things"] 40[0e1]:=0e6
def aOm(T:cA K mg c):cH P w K mg base 1 "numbers_of" ["things"] (aBg K):=by
 refine T.jd.ok KC 6e0 0e7 0e8
 ·obtain⟨a,ys,rfl,ha,hl,hp,k⟩:=h;rfl
 ·obtain⟨a,ys,rfl,ha,hl,hp,k⟩:=h;refine{_,(aN (aY (pM Z KC.nd (iG (pv 0)) ("item",1)[2e3] %[1,KC.nd|0e3] 9e5 (λ_ _ _ _ _=>1[1e8])))),?_};refine{_,Z,a,Z,ha[1e9],λD hD=>oE (p:=λ_=>true) (e:=λp=>V.int p.2) (ys:=ys) (oA (K:=K) (a:=a)) hD ha[5e0] hl 41e7 λH1 s1 h1=>?_}
  ·exact{Z,_,Z,rF ((hp y hy).same s1) (h1 Z _ 11e3)}
  ·refine k D H1 s1 hD ?_;rw[h1,vM.mpr λ_ _=>rfl]
def aAe(K:aP):Sp:=λvs H Q _=>∃(a:Addr) (ys:List (Addr×List V)),vs=[.ref a]/\H a=some (.lst (ys.map λp=> .ref p.1))/\(∀p∈ys,H p.1=some (.lst p.2))/\(ys.flatMap (·.2)).length<1e5/\
 ∀p H',aU H H'->H p=none->H' p=some (.lst (.int (ys.flatMap (·.2)).length::ys.flatMap (·.2)))->Q (.ref p) H'
def GW:bU ["records","numbers","record"] ["records"] 8[0e1]:=0e6
def JM(T:cA K mg c):cH P w K mg base 2 "row_of" ["records"] (aAe K):=by
 refine T.ve.ok GW 6e0 0e7 0e8
 ·obtain⟨a,ys,rfl,ha,hp,hl,k⟩:=h;rfl
 ·obtain⟨a,ys,rfl,ha,hp,hl,k⟩:=h;refine⟨_,(aF (bZ (i:=1) GW.nd Z (bF Z) (bH aD))
   (aF (lD kX Z (iG (pv 0)) %[2,GW.nd|0e4]
     (aN (dC (kH lK XV XW L5 (pv 1) 2[1e5]))))
   (aN (aY %[zW,1|0e5])))),?_⟩
  refine{dN _,λp hq=>?_};have s0:=bD (o:= .lst []) hq;refine⟨_,Z,a,Z,(s0 _ _ ha)[1e9],pC (K:=K) (a:=a) (xs:=ys.map λp=>V.ref p.1) (λi U H'=>∃v:Option V,U=[some (.ref a),some (.ref p),v]/\aU H H'/\H' p=some (.lst ((ys.take i).flatMap (·.2))))
   ⟨none,Z,s0,aR⟩ (λi U H' _ ⟨_,_,s5,_⟩=>aJ.of (s5 _ _ ha)) ?_ ?_⟩
  ·rintro i y U H' hi ⟨v,rfl,s5,hH⟩;rw[dW] at hi;obtain⟨q,hq',rfl⟩:=iQ.mp hi;have hm:=s5 _ _ (hp q (fS hq'));have ht:=lM hq';have hlen:((ys.take i).flatMap (·.2)).length+q.2.length<=(ys.flatMap (·.2)).length:=by
    conv=>rhs;rw[<-BV (i+1) ys,ht]
    simp[rM]
   refine{_,Z,kG hH,_,Z,p,q.1,_,_,Z,Z,hH,hm,cI hlen (C0 hl),?_};refine{_,Z,λb o e=>by rw[hq[3e4]];exact s5 b o e,?_};rw[aR,ht,rM];simp
  ·rintro U H' ⟨v,rfl,s5,hH⟩;rw[bA,oP] at hH;refine{_,Z,p,_,Z,hH,hl,λq H2 s2 h2 h3=>?_};exact k q H2 (s5.trans s2) (s5.free h2) h3
end
structure gJ(H H':Hp)(x C dx:Addr)(fs:List (Str×V)):Prop where
 at_:H' x=some (.ins C dx fs)
 oth:∀b o,H b=some o->b≠x->H' b=some o
def gJ.alloc(m:gJ H H' x C dx fs)(h:H' p=none):gJ H (upd H' p o) x C dx fs:=
 ⟨bD h _ _ m.at_,λb u e hb=>bD h _ _ (m.oth b u e hb)⟩
def gJ.w{K:aP}{H H':Hp}{x C dx:Addr}{fs:List (Str×V)}{ns:List Str}{f:Str}{v:V}(m:gJ H H' x C dx fs)(O:lO K C ns)(hf:f∈ns)(hl:fs.length<1000):lQ K H' x f v λH''=>gJ H H'' x C dx 17e6:=
 ⟨C,dx,fs,m.at_,O.cl,O.no f hf,hl,aR,λb o e hb=>by rw[aS hb];exact m.oth b o e hb⟩
def gJ.fld{K:aP}{H H':Hp}{x C dx:Addr}{fs:List (Str×V)}{ns:List Str}{f:Str}{v:V}(m:gJ H H' x C dx fs)(O:lO K C ns)(hf:f∈ns)(hl:fs.lookup f=some v):cM K H' x f v:={C,dx,fs,m.at_,O.cl,O.no f hf,hl}
def gJ.ofld{K:aP}{H H':Hp}{x C dx a:Addr}{fs:List (Str×V)}{f:Str}{v:V}(m:gJ H H' x C dx fs)(h:cM K H a f v)(hne:a≠x):cM K H' a f v:=by obtain⟨C1,d1,fs1,h1,h2⟩:=h;exact{C1,d1,fs1,m.oth _ _ h1 hne,h2}
def wY{H H1 H':Hp}(nx:H x=none)(nd:H dx=none)(hd:dx≠x)(m:gJ H[16e1] H' x C dx fs):aU H H':=λb o e=>by refine m.oth b o ?_ (cV e nx);rw[nx[3e4],nd[3e4]];exact e
section
variable{P:bN}{w:bK}{K:aP}{mg:Str->Option Value}{base:Heap}{c:Cl}
def aKi(c:Cl):Sp:=λvs H Q _=>∃(x dx:Addr) (v1 v2 v3 v4:V),vs=[.ref x,v1,v2,v3,v4]/\H x=some (.ins c.msg dx [])/\∀H',gJ H H' x c.msg dx [("teller",v1),("time",v2),("item",v3),("kind",v4)]->Q .non H'
def aLw:bU ["self","teller","time","item","kind"] ["self","teller","time","item","kind"] (bM 32[4e0]):=0e6
def aNs(T:cA K mg c):pV P w K mg base 1 "Message" c.msg ["self","teller","time","item","kind"] (aKi c):=by
 refine T.vm.ok aLw (λ_ _ _ _ _ _ us hl=>match us,hl with|[_,_,_,_,_],_=>rfl) 0e7 0e8
 ·obtain⟨x,dx,v1,v2,v3,v4,rfl,hx,k⟩:=h;rfl
 ·obtain⟨x,dx,v1,v2,v3,v4,rfl,hx,k⟩:=h;refine⟨_,(aF 1[4e5]
   (aF 2[4e5]
   (aF 3[4e5]
   (aN 4[4e5])))),?_⟩
  have m:gJ H H x c.msg dx []:=19e7;obtain⟨wC1,wD1,wF1,wU1,wV1,wX1,wY1,N1⟩:=m.w (f:="teller") (v:=v1) T.cs.m 0e4 0e3;obtain⟨wC2,wD2,wF2,wU2,wV2,wX2,wY2,N2⟩:=N1.w (f:="time") (v:=v2) T.cs.m 0e4 1[0e2];obtain⟨wC3,wD3,wF3,wU3,wV3,wX3,wY3,N3⟩:=N2.w (f:="item") (v:=v3) T.cs.m 0e4 2[0e2];obtain⟨wC4,wD4,wF4,wU4,wV4,wX4,wY4,N4⟩:=N3.w (f:="kind") (v:=v4) T.cs.m 0e4 3[0e2];refine{_,Z,_,Z,_,wC1,wD1,wF1,Z,wU1,wV1,wX1,wY1,_,Z,_,Z,_,wC2,wD2,wF2,Z,wU2,wV2,wX2,wY2,_,Z,_,Z,_,wC3,wD3,wF3,Z,wU3,wV3,wX3,wY3,_,Z,_,Z,_,wC4,wD4,wF4,Z,wU4,wV4,wX4,wY4,?_};exact k _ N4
def aCq(c:Cl):Sp:=λvs H Q _=>∃(x dx:Addr) (v1 v2 v3:V),vs=[.ref x,v1,v2,v3]/\H x=some (.ins c.loss dx [])/\∀H',gJ H H' x c.loss dx [("item",v1),("party",v2),("time",v3),"cleared"[5e7],"paid"[5e7]]->Q .non H'
def f9:bU ["self","item","party","time"] ["self","item","party","time"] (bM 34[4e0]):=0e6
def aDb(T:cA K mg c):pV P w K mg base 1 "Loss" c.loss ["self","item","party","time"] (aCq c):=by
 refine T.yu.ok f9 26e4 0e7 0e8
 ·obtain⟨x,dx,v1,v2,v3,rfl,hx,k⟩:=h;rfl
 ·obtain⟨x,dx,v1,v2,v3,rfl,hx,k⟩:=h;refine⟨_,(aF 1[4e5]
   (aF 2[4e5]
   (aF 3[4e5]
   (aF jH[2e8]
   (aN jH[2e8]))))),?_⟩
  have m:gJ H H x c.loss dx []:=19e7;obtain⟨wC1,wD1,wF1,wU1,wV1,wX1,wY1,N1⟩:=m.w (f:="item") (v:=v1) T.cs.l 0e4 0e3;obtain⟨wC2,wD2,wF2,wU2,wV2,wX2,wY2,N2⟩:=N1.w (f:="party") (v:=v2) T.cs.l 0e4 1[0e2];obtain⟨wC3,wD3,wF3,wU3,wV3,wX3,wY3,N3⟩:=N2.w (f:="time") (v:=v3) T.cs.l 0e4 2[0e2];obtain⟨wC4,wD4,wF4,wU4,wV4,wX4,wY4,N4⟩:=N3.w (f:="cleared") (v:= .bl false) T.cs.l 0e4 3[0e2];obtain⟨wC5,wD5,wF5,wU5,wV5,wX5,wY5,N5⟩:=N4.w (f:="paid") (v:= .bl false) T.cs.l 0e4 4[0e2];refine{_,Z,_,Z,_,wC1,wD1,wF1,Z,wU1,wV1,wX1,wY1,_,Z,_,Z,_,wC2,wD2,wF2,Z,wU2,wV2,wX2,wY2,_,Z,_,Z,_,wC3,wD3,wF3,Z,wU3,wV3,wX3,wY3,_,Z,_,wC4,wD4,wF4,Z,wU4,wV4,wX4,wY4,_,Z,_,wC5,wD5,wF5,Z,wU5,wV5,wX5,wY5,?_};exact k _ N5
def ZB(K:aP)(c:Cl):Sp:=λvs H Q _=>∃(x dx a:Addr) (i1 i2 i3 v2 v3:V),vs=[.ref x,.ref a,v2,v3]/\H x=some (.ins c.order dx [])/\a≠x/\cM K H a "number" i1/\cM K H a "cash" i2/\cM K H a "origin" i3/\
 ∀H',gJ H H' x c.order dx [("item",i1),("amount",i2),("taker",v2),("payer",i3),("message",v3),"paid"[5e7]]->Q .non H'
def aAg:bU ["self","item","taker","message"] ["self","item","taker","message"] (bM 33[4e0]):=0e6
def aOg(T:cA K mg c):pV P w K mg base 1 "Order" c.order ["self","item","taker","message"] (ZB K c):=by
 refine T.wr.ok aAg 26e4 0e7 0e8
 ·obtain⟨x,dx,a,i1,i2,i3,v2,v3,rfl,hx,hne,f1,f2,f3,k⟩:=h;rfl
 ·obtain⟨x,dx,a,i1,i2,i3,v2,v3,rfl,hx,hne,f1,f2,f3,k⟩:=h;refine⟨_,(aF (bS (pv 0) 1[0e0] Z)
   (aF (bS (pv 0) 1[0e0] Z)
   (aF 2[4e5]
   (aF (bS (pv 0) 1[0e0] Z)
   (aF 3[4e5]
   (aN jH[2e8])))))),?_⟩
  have m:gJ H H x c.order dx []:=19e7;obtain⟨wC1,wD1,wF1,wU1,wV1,wX1,wY1,N1⟩:=m.w (f:="item") (v:=i1) T.cs.o 0e4 0e3;obtain⟨wC2,wD2,wF2,wU2,wV2,wX2,wY2,N2⟩:=N1.w (f:="amount") (v:=i2) T.cs.o 0e4 1[0e2];obtain⟨wC3,wD3,wF3,wU3,wV3,wX3,wY3,N3⟩:=N2.w (f:="taker") (v:=v2) T.cs.o 0e4 2[0e2];obtain⟨wC4,wD4,wF4,wU4,wV4,wX4,wY4,N4⟩:=N3.w (f:="payer") (v:=i3) T.cs.o 0e4 3[0e2];obtain⟨wC5,wD5,wF5,wU5,wV5,wX5,wY5,N5⟩:=N4.w (f:="message") (v:=v3) T.cs.o 0e4 4[0e2];obtain⟨wC6,wD6,wF6,wU6,wV6,wX6,wY6,N6⟩:=N5.w (f:="paid") (v:= .bl false) T.cs.o 0e4 5[0e2];have q2:=N1.ofld f2 hne;have q3:=N3.ofld f3 hne;refine⟨_,Z,rF f1 {_,Z,_,wC1,wD1,wF1,Z,wU1,wV1,wX1,wY1,_,Z,rF q2 ⟨_,Z,_,wC2,wD2,wF2,Z,wU2,wV2,wX2,wY2,_,Z,_,Z,_,wC3,wD3,wF3,Z,wU3,wV3,wX3,wY3,_,Z,rF q3 {_,Z,_,wC4,wD4,wF4,Z,wU4,wV4,wX4,wY4,_,Z,_,Z,_,wC5,wD5,wF5,Z,wU5,wV5,wX5,wY5,_,Z,_,wC6,wD6,wF6,Z,wU6,wV6,wX6,wY6,?_}⟩}⟩;exact k _ N6
end
section
variable{P:bN}{w:bK}{K:aP}{mg:Str->Option Value}{base:Heap}{c:Cl}
abbrev few:Nat:=4000000
def aCd:few<sizeLine:=by decide
def pL{n:Nat}(h:n<few):n<sizeLine:=qD h aCd
def Eg(g g':G)(u:Nat->Nat):Prop:=g'.lds=g.lds/\g'.brk=g.brk/\g'.who=u
def gT(u:Nat->Addr){o:Nat}(h:o<4):gY u[6e4] (o:Int)=some (.ref (u o)):=by
 match o,h with
 |0,_=>rfl
 |1,_=>rfl
 |2,_=>rfl
 |3,_=>rfl
def xV(u:Nat->Addr){o:Nat}(h:o<5):gY (aT u [0,1,2,3,4]) (o:Int)=some (.ref (u o)):=by
 match o,h with
 |0,_=>rfl
 |1,_=>rfl
 |2,_=>rfl
 |3,_=>rfl
 |4,_=>rfl
def qO{i:Nat}{x:cR}(h:itemOf s i=some x):x.id=i:=(eM h).2
def u9(c:Cl):Sp:=λvs H Q _=>∃(g:G) (s:State) (o i kd r:Nat) (x:cR),aO c g H s/\vs=[.ref g.house,vi o,.ref i[1e2],vi kd]/\o<4/\itemOf s i=some x/\1e2<few/\
 ∀g' H',Nx c M0 g H s g' H' (scan s o i kd r)->Eg g g' g.who->Q (vi 1e2) H'
def E5(h:Sh s)(o:Nat):(s.known.getD o []).length<=s.messages.length:=by have:=sW (m:=bT 1e2) (h.knd o) λk hk=>jE.mpr (h.kn o k hk);rw[iA] at this;exact this
def PV:bU ["house","office","item","kind","number"] ["house","office","item","kind"] 64[0e1]:=0e6
def nW(T:cA K mg c):cH P w K mg base 3 "tell" ["house","office","item","kind"] (u9 c):=by
 refine T.je.ok PV 26e4 0e7 0e8
 ·obtain⟨g,s,o,i,kd,r,x,R,rfl,ho,hx,hm,k⟩:=h;rfl
 ·obtain⟨g,s,o,i,kd,r,x,R,rfl,ho,hx,hm,k⟩:=h;refine⟨_,(aF (bZ (i:=4) PV.nd Z (bF Z) gQ[4e8])
   (aF (aA (xX (aNs T) 1e0 (aA (pv 1) (aA 0[0e0] (aA 2[0e0] 3[1e5])))) aD)[15e1]
   (aF (vH (dO hr) 1[1e0] (pv 4) jH Z)
   (aN (aY (pv 4)))))),?_⟩
  have hid:=qO hx;subst hid;have hM:H g.messages=some (.lst (aT g.msg (bT 1e2))):=R.lst .messages trivial rfl;have hlen:(aT g.msg (bT 1e2)).length=s.messages.length:=by unfold aT;rw[bA,iA]
  refine 59e9;rw[hlen];refine⟨_,Z,rF "messages"[0e4] {kG hM,_,Z,_,Z,rF "now"[0e4] ⟨_,Z,rF %[R.fi,"number"|0e1] {_,Z,λp dx np nd hd=>⟨p,dx,_,_,_,_,Z,aR,λH2 m=>{Z,?_}⟩}⟩}⟩;have s2:=wY (H1:=H) np nd hd m;have R2:=R.other s2;refine{g.messages,_,_,Z,Z,s2 _ _ hM,by rw[hlen];exact pL hm,?_};have N1:=R.add_msg (M:=M0) R2 s2 (m:={office:=o,time:=s.now,item:=x.id,kind:=kd,order:=r}) np ⟨dx,m.at_⟩;have R3:=N1.rep;have hnk:s.messages.length∉s.known.getD o []:=λz=>iR _ (R.sh.kn o _ z);obtain⟨kvs,hk,hkl,N2⟩:=R3.set_known (M:=M0) (o:=o) (n:=s.messages.length) ho hnk (by show _<(23e2).length;simp);have hK:=R3.lst .known trivial rfl;refine⟨_,Z,rF "known"[6e5] {_,Z,g.known,_,_,_,Z,Z,aJ.of hK,gT g.kn ho,_,Z,_,_,Z,kI.k (k:= .inl 22e6) hk (by rw[hkl];exact eB (E5 R.sh o) (pL hm)),?_}⟩;exact{_,Z,k _ _ 24e8 ⟨Z,Z,Z⟩}
def j6(c:Cl):Sp:=λvs H Q _=>∃(g:G) (s:State) (o i:Nat) (x:cR),aO c g H s/\vs=[.ref g.house,vi o,.ref i[1e2]]/\o<4/\itemOf s i=some x/\(binOf s o).length<few/\
 ∀H',Nx c M0 g H s g H' i[8e8]->Q .non H'
def iF(u:Nat->Addr)(l:List Nat):(aT u l).length=l.length:=bA ..
def r6:bU ["house","office","item"] ["house","office","item"] 65[0e1]:=0e6
def wV(T:cA K mg c):cH P w K mg base 1 "put_into_bin" ["house","office","item"] (j6 c):=by
 refine T.yd.ok r6 7e5 0e7 0e8
 ·obtain⟨g,s,o,i,x,R,rfl,ho,hx,hm,k⟩:=h;rfl
 ·obtain⟨g,s,o,i,x,R,rfl,ho,hx,hm,k⟩:=h;refine⟨_,(aF (dC (kH lK wK wL sR 1[1e0] 2[1e5]))
   (aN (bS (pv 2) %[T.qj,1|2e2] Z))),?_⟩
  have hB:=R.lst .bins trivial rfl;have hb:=R.lst (.bin o) ho rfl;have N1:=R.set_bin (M:=M0) ho i[7e1];rw[<-aNe] at N1;refine⟨_,Z,rF "bins"[0e4] {_,Z,g.bins,_,_,_,Z,Z,aJ.of hB,gT g.bin ho,kG hb,_,Z,g.bin o,_,_,Z,Z,hb,(by rw[iF];exact pL hm),_,Z,3[0e3],λp hp=>?_}⟩;have N2:=N1.trans (N1.rep.more (M:=M0) (bD (o:= .tup [.int 0,vi o,.int 0]) hp));obtain⟨wC3,wD3,wF3,wU3,wV3,wX3,wY3,N3⟩:=N2.rep.w_place (M:=M0) (q:= .bin o) (x:=x) (i:=i) (p:=p) T.cs hx aR λ_ n=>n;refine 30e9;exact k _ 21e1
def aEg(c:Cl):Sp:=λvs H Q _=>∃(g:G) (s:State) (o i:Nat) (x:cR),aO c g H s/\vs=[.ref g.house,vi o,.ref i[1e2]]/\itemOf s i=some x/\
 ∀H',Nx c M0 g H s g H' (setItem s {x with place:= .counter o,since:=s.now})->Q .non H'
def KD(s:State)(y z:cR)(h:z.id=y.id):setItem 5e4 z=setItem s z:=by
 unfold NI;congr 1;rw[eA];refine hX λt _=>?_;show(if(if t.id=y.id then y else t).id=z.id then z else if t.id=y.id then y else t)=_;by_cases e:t.id=y.id
 ·rw[aC e,aC h.symm,aC (e.trans h.symm)]
 ·rw[aB e]
def oG{i:Nat}{x:cR}(hx:itemOf s i=some x):itemOf (put s i q) i=some {x with place:=q}:=uL hx
def xG{i:Nat}{x y:cR}(hx:itemOf s i=some x)(hy:y.id=i):itemOf 5e4 i=some y:=by subst hy;exact rD hx
def z3:bU ["house","office","item"] ["house","office","item"] 66[0e1]:=0e6
def aIs(T:cA K mg c):cH P w K mg base 1 "hold_at_counter" ["house","office","item"] (aEg c):=by
 refine T.vt.ok z3 7e5 0e7 0e8
 ·obtain⟨g,s,o,i,x,R,rfl,hx,k⟩:=h;rfl
 ·obtain⟨g,s,o,i,x,R,rfl,hx,k⟩:=h;refine⟨_,(aF (bS (pv 2) %[T.qt,1|2e2] Z)
   (aN (bS (pv 2) 0[0e0] Z))),?_⟩
  have hid:=qO hx;refine 3[10e0];have N2:=R.more (M:=M0) %[4,hp|3e1];obtain⟨wC3,wD3,wF3,wU3,wV3,wX3,wY3,N3⟩:=N2.rep.w_place (M:=M0) (q:= .counter o) (x:=x) (i:=i) (p:=p) T.cs hx aR λ_ n=>n;have hx3:=oG (q:= .counter o) hx;obtain⟨wC4,wD4,wF4,wU4,wV4,wX4,wY4,N4⟩:=N3.rep.w_item (M:=M0) (f:="since") (v:=vi s.now) (y:={x with place:= .counter o,since:=s.now}) T.cs 0e4 hx3 rfl rfl (λ_=>Z) λ_ n=>n;refine⟨_,Z,_,wC3,wD3,wF3,Z,wU3,wV3,wX3,wY3,_,Z,rF (N3.rep.fh (f:="now") T.cs Z) {_,Z,_,wC4,wD4,wF4,Z,wU4,wV4,wX4,wY4,?_}⟩;have N5:=(21e1).trans N4;subst hid;have e:put s x.id (.counter o)=setItem s {x with place:= .counter o}:=uW R.sh.ids hx _;rw[e,KD s _ _ (by rfl)] at N5;exact k _ N5
def aAd(c:Cl):Sp:=λvs H Q _=>∃(g:G) (s:State) (o i w:Nat) (x:cR),aO c g H s/\vs=[.ref g.house,vi o,.ref i[1e2],vi w]/\o<4/\itemOf s i=some x/\1e2<few/\7e7<few/\
 ∀g' H',Nx c M0 g H s g' H' (dI s o i w)->Eg g g' (λj=>i[13e8])->Q .non H'
def Nx.house{c:Cl}{M:dF->Bool}(N:Nx c M0 g H s g' H' s'):g'.house=g.house:=N.ad .house trivial rfl
def Nx.item{c:Cl}{M:dF->Bool}(N:Nx c M0 g H s g' H' s'){i:Nat}{x:cR}(hx:itemOf s i=some x):g'.item i=g.item i:=N.ad (.item i) (nO hx) rfl
def aAr:bU ["house","office","item","party"] ["house","office","item","party"] 67[0e1]:=0e6
def QE(T:cA K mg c):cH P w K mg base 4 "note_loss" ["house","office","item","party"] (aAd c):=by
 refine T.wy.ok aAr 26e4 0e7 0e8
 ·obtain⟨g,s,o,i,w,x,R,rfl,ho,hx,hm,hl,k⟩:=h;rfl
 ·obtain⟨g,s,o,i,w,x,R,rfl,ho,hx,hm,hl,k⟩:=h;refine⟨_,(aF (bS (pv 2) %[T.ja,3|2e2] Z)
   (aF (aA (xX (aDb T) 1e0 (aA 2[0e0] (aA (pv 3) 0[3e5]))) aD)[15e1]
   (aN (dC T.yi[9e8])))),?_⟩
  have hid:=qO hx;refine 3[10e0];have N2:=R.more (M:=M0) (bD (o:= .tup [.int 6,vi w,.int 0]) hp);obtain⟨wC3,wD3,wF3,wU3,wV3,wX3,wY3,N3⟩:=N2.rep.w_miss (M:=M0) (x:=x) (i:=i) (p:=p) (w:=w) T.cs hx aR λ_ n=>n;refine 30e9;have R3:=N3.rep;have hx3:=oG (q:= .missing) hx;have hL:=R3.lst .losses trivial rfl;refine{_,Z,rF "losses"[6e5] ⟨kG hL,_,Z,rF (R3.fi (f:="number") T.cs hx3 λ_=>Z) {_,Z,_,Z,rF "now"[6e5] (λq dx nq nd hd=>⟨q,dx,_,_,_,Z,aR,λH2 m=>{Z,?_}⟩)}⟩};have s2:=wY (H1:=H) nq nd hd m;have R4:=R3.other s2;refine{_,_,_,Z,Z,s2 _ _ hL,by rw[iF,iA];exact pL hl,?_};have N5:=R3.add_loss (M:=M0) R4 s2 (m:={item:=x.id,who:=w,time:=s.now,cleared:=false,paid:=false}) nq ⟨dx,m.at_⟩;have N6:=(21e1).trans N5;refine{_,Z,_,Z,_,Z,_,_,o,i,9,0,_,N5.rep,Z,ho,hx3,hm,λg' H' N7 e=>?_};subst hid;exact k _ _ (N6.trans N7) e
def aFt(c:Cl):Sp:=λvs H Q _=>∃(g:G) (s:State) (o i:Nat) (x:cR),aO c g H s/\vs=[.ref g.house,vi o,.ref i[1e2]]/\o<4/\itemOf s i=some x/\(binOf s o).length<few/\1e2<few/\
 ∀g' H',Nx c M0 g H s g' H' 35e1->Eg g g' g.who->Q .non H'
def ZA:bU ["house","office","item"] ["house","office","item"] 68[0e1]:=0e6
def NS(T:cA K mg c):cH P w K mg base 4 "send_back" ["house","office","item"] (aFt c):=by
 refine T.qah.ok ZA 7e5 0e7 0e8
 ·obtain⟨g,s,o,i,x,R,rfl,ho,hx,hb,hm,k⟩:=h;rfl
 ·obtain⟨g,s,o,i,x,R,rfl,ho,hx,hb,hm,k⟩:=h;refine⟨_,(aF (bI 2[5e9] (aF T.vp[17e4]
   (aF (dC T.vd[9e8])
   (aN aIg))) bO)
   (aF 2[6e9]
   (aF (bS (pv 2) aM Z)
   (aF (dC %[wV,1|1e4])
   (aN (dC T.zt[9e8])))))),?_⟩
  have hid:=qO hx;refine 59e3
  ·refine 3[10e0];have N2:=R.more (M:=M0) 2[16e6];obtain⟨wC3,wD3,wF3,wU3,wV3,wX3,wY3,N3⟩:=N2.rep.w_place (M:=M0) (q:= .ended 2 o) (x:=x) (i:=i) (p:=p) T.cs hx aR λ_ n=>n;refine{_,Z,_,wC3,wD3,wF3,Z,wU3,wV3,wX3,wY3,_,Z,_,Z,_,Z,_,_,o,i,8,0,_,N3.rep,Z,ho,oG hx,hm,λg' H' N7 e7=>?_};subst hid;have:=k _ _ ((21e1).trans (g'':=g') (H'':=H') (s'':=sentBack s o x) (by unfold tG;rw[aC e];exact N7)) e7;exact this
  ·obtain⟨wC1,wD1,wF1,wU1,wV1,wX1,wY1,N1⟩:=R.w_item (M:=M0) (f:="goes_back") (v:= .bl true) (y:={x with back:=true}) T.cs 0e4 hx rfl rfl (λ_=>Z) λ_ n=>n;have hx1:=xG (y:={x with back:=true}) hx hid;obtain⟨wC2,wD2,wF2,wU2,wV2,wX2,wY2,N2⟩:=N1.rep.w_item (M:=M0) (f:="attempts") (v:= .int 0) (y:={x with back:=true,attempts:=0}) T.cs 0e4 hx1 rfl rfl (λ_=>Z) λ_ n=>n;have N3:=N1.trans N2;rw[KD s _ _ (by rfl)] at N3
   ·have hx3:=xG (y:={x with back:=true,attempts:=0}) hx hid;refine{_,Z,_,wC1,wD1,wF1,Z,wU1,wV1,wX1,wY1,_,Z,_,wC2,wD2,wF2,Z,wU2,wV2,wX2,wY2,_,Z,_,Z,_,Z,_,_,o,i,_,N3.rep,Z,ho,hx3,hb,λH4 N4=>?_};have hx4:itemOf (intoBin (setItem s {x with back:=true,attempts:=0}) o i) i=some _:=oG hx3;refine{_,Z,_,Z,_,Z,_,_,o,i,5,0,_,N4.rep,Z,ho,hx4,hm,λg' H' N7 e7=>?_};subst hid;exact k _ _ ((N3.trans N4).trans (g'':=g') (H'':=H') (s'':=sentBack s o x) (by unfold tG;rw[aB e];exact N7)) e7
def yF(s:State)(o:Nat)(x:cR):State:=
 let u:=owe 62e1 o 4e7 x.cod
 scan {u with orders:=u.orders++[{item:=x.id,amount:=x.cod,at_:=o,for_:=x.from_,message:=u.messages.length,paid:=false}]} o x.id 11 u.orders.length
def Z_(s:State)(o:Nat)(x:cR):given s o x=if x.back=true then scan (put s x.id (.ended 1 o)) o x.id 7 0 else if x.cod=0 then scan x.id[10e6] o x.id 6 0 else yF (scan x.id[10e6] o x.id 6 0) o x:=rfl
def k9(c:Cl):Sp:=λvs H Q _=>∃(g:G) (s:State) (o i:Nat) (x:cR),aO c g H s/\vs=[.ref g.house,vi o,.ref i[1e2]]/\o<4/\itemOf s i=some x/\4e7<4/\o≠x.from_/\1e2<few/\6e2<few/\
 ∀g' H',Nx c M0 g H s g' H' (yF s o x)->Eg g g' g.who->Q .non H'
def P2:bU ["house","office","item","message"] ["house","office","item"] 70[0e1]:=0e6
def ZD(T:cA K mg c):cH P w K mg base 4 "take_cash" ["house","office","item"] (k9 c):=by
 refine T.yx.ok P2 7e5 0e7 0e8
 ·obtain⟨g,s,o,i,x,R,rfl,ho,hx,hf,hne,hm,hor,k⟩:=h;rfl
 ·obtain⟨g,s,o,i,x,R,rfl,ho,hx,hf,hne,hm,hor,k⟩:=h;refine⟨_,(aF (pT 0[0e0] (pv 1) pP 2[0e0] vG jR)
   (aF 36e9
   (aF (pT 1[1e0] 2[0e0] pP 2[0e0] vG jR)
   (aF (bZ (i:=3) P2.nd Z (bF Z) T.jq[9e8])
   (aN (aA (xX (aOg T) 1e0 (aA (pv 2) %[1,3|0e2])) aD)[15e1]))))),?_⟩
  have hid:=qO hx;obtain⟨c1,c2,c3,c4⟩:=R.cash_at (M:=M0) (o:=o) 0e1;have N1:=c4 8e0 _ rfl;have R1:=N1.rep;have hx1:itemOf (cashTo s o 8e0) i=some x:=hx;refine⟨_,Z,rF "cash"[0e4] {_,Z,g.cash,_,_,_,Z,Z,aJ.of c1,c2,_,Z,rF %[R.fi,"cash"|0e1] 39e4}⟩;obtain⟨dh,hh⟩:=R1.hs;have N2:=R1.put_in (M:=M0) dh (s.inn+x.cod) _ rfl;have R2:=N2.rep;obtain⟨e1,e2,e3,e4⟩:=R2.debt_at (M:=M0) (p:=o) (q:=x.from_) 0e1 0e1;have N3:=e4 (s.owes.getD (5 * o+4e7) 0+x.cod) _ rfl;have hx2:itemOf {cashTo s o 8e0 with inn:=s.inn+x.cod} i=some x:=hx;have hD:=R2.lst .debts trivial rfl;have R3:=N3.rep;refine{_,Z,3e9,8e9,dh,_,_,Z,hh,T.cs.h.cl,T.cs.h.no _ 0e4,Z,_,Z,rF (R1.fi (f:="cash") T.cs hx1 λ_=>Z) 46e5};refine⟨_,Z,rF "debts"[8e5] {_,Z,g.debts,_,_,_,Z,Z,aJ.of hD,xV g.debt 0e1,_,Z,rF "origin"[17e0] ⟨g.debt o,_,_,_,Z,Z,aJ.of e1,e2,_,Z,rF "cash"[17e0] {_,_,Z,Z,g.debt o,_,_,_,Z,Z,e1,e3,?_}⟩}⟩;have N4:=(24e8).trans N3;have hu:owe 62e1 o 4e7 x.cod={ {cashTo s o 8e0 with inn:=s.inn+x.cod} with owes:=s.owes.set (5 * o+x.from_) (s.owes.getD (5 * o+x.from_) 0+x.cod)}:=IQ (s:=cashTo {s with inn:=s.inn+x.cod} o 8e0) R.sh.owes 0e1 0e1 hne _;have hx3:itemOf { {cashTo s o 8e0 with inn:=s.inn+x.cod} with owes:=s.owes.set (5 * o+x.from_) (s.owes.getD (5 * o+x.from_) 0+x.cod)} i=some x:=hx;refine{_,Z,_,Z,_,Z,_,_,o,i,11,6e2,x,R3,Z,ho,hx3,hm,λg5 H5 N5 e5=>?_};have R5:=N5.rep;have g5i:g5.item i=g.item i:=N5.item (M:=M0) hx3;have g5h:g5.house=g.house:=N5.house (M:=M0);have hO:=R5.lst .orders trivial rfl;have hx5:itemOf (scan { {cashTo s o 8e0 with inn:=s.inn+x.cod} with owes:=s.owes.set (5 * o+x.from_) (s.owes.getD (5 * o+x.from_) 0+x.cod)} o i 11 6e2) i=some x:=hx;have fO:=R5.fh (f:="orders") T.cs rfl;have f1:=R5.fi (f:="number") T.cs hx5 λ_=>rfl;have f2:=R5.fi (f:="cash") T.cs hx5 λ_=>rfl;have f3:=R5.fi (f:="origin") T.cs hx5 λ_=>rfl;rw[g5h] at fO;rw[g5i] at f1 f2 f3;refine⟨_,Z,rF fO {kG hO,_,Z,_,Z,_,Z,λq dx nq nd hd=>⟨q,dx,g.item i,_,_,_,_,_,Z,aR,f1.ne_none nq,f1.made nq nd,f2.made nq nd,f3.made nq nd,λH6 m=>{Z,?_}⟩}⟩;have s6:=wY (H1:=H) nq nd hd m;have N6:=R5.add_order (M:=M0) (R5.other s6) s6 (m:={item:=x.id,amount:=x.cod,at_:=o,for_:=x.from_,message:=s.messages.length,paid:=false}) nq ⟨dx,m.at_⟩;refine{_,_,_,Z,Z,s6 _ _ hO,by rw[iF,iA];exact pL hor,?_};subst hid;have hc:yF s o x={scan { {cashTo s o 8e0 with inn:=s.inn+x.cod} with owes:=s.owes.set (5 * o+x.from_) (s.owes.getD (5 * o+x.from_) 0+x.cod)} o x.id 11 s.orders.length with orders:=s.orders++[{item:=x.id,amount:=x.cod,at_:=o,for_:=x.from_,message:=s.messages.length,paid:=false}]}:=by unfold yF;rw[hu];rfl
  have N7:=(N4.trans N5).trans N6;rw[hc] at k;exact k _ _ N7 ⟨e5.1,e5.2.1,e5.2.2⟩
def aBj(c:Cl):Sp:=λvs H Q _=>∃(g:G) (s:State) (o i:Nat) (x:cR),aO c g H s/\vs=[.ref g.house,vi o,.ref i[1e2]]/\o<4/\itemOf s i=some x/\4e7<4/\(x.back=false->o≠x.from_)/\1e2+1<few/\6e2<few/\
 ∀g' H',Nx c M0 g H s g' H' 28e3->Eg g g' g.who->Q (vi (if x.back=true then 0 else x.cod)) H'
def Eg.trans(a:Eg g g' g.who)(b:Eg g' g'' u):Eg g g'' u:={b.1.trans a.1,b.2.1.trans a.2.1,b.2.2}
def aLn:bU ["house","office","item"] ["house","office","item"] 69[0e1]:=0e6
def VN(T:cA K mg c):cH P w K mg base 5 "hand_over" ["house","office","item"] (aBj c):=by
 refine T.ju.ok aLn 7e5 0e7 0e8
 ·obtain⟨g,s,o,i,x,R,rfl,ho,hx,hf,hne,hm,hor,k⟩:=h;rfl
 ·obtain⟨g,s,o,i,x,R,rfl,ho,hx,hf,hne,hm,hor,k⟩:=h;refine⟨_,(aF (bI 2[5e9] (aF T.jk[17e4]
   (aF (dC T.wq[9e8])
   (aN (aY aM)))) bO)
   (aF T.wv[17e4]
   (aF (dC T.yo[9e8])
   (aF (bI (cK yA 2[0e0] aM (cJ _)) (aN (dC %[ZD,1|1e4])) bO)
   (aN (aY 2[0e0])))))),?_⟩
  have hid:=qO hx;rw[Z_] at k;refine 59e3
  ·rw[aC e,aC e] at k;refine 3[10e0];have N2:=R.more (M:=M0) 1[16e6];obtain⟨wC3,wD3,wF3,wU3,wV3,wX3,wY3,N3⟩:=N2.rep.w_place (M:=M0) (q:= .ended 1 o) (x:=x) (i:=i) (p:=p) T.cs hx aR λ_ n=>n;refine{_,Z,_,wC3,wD3,wF3,Z,wU3,wV3,wX3,wY3,_,Z,_,Z,_,Z,_,_,o,i,7,0,_,N3.rep,Z,ho,oG hx,GC hm,λg' H' N7 e7=>?_};subst hid;exact k _ _ ((21e1).trans N7) e7
  ·rw[aB e,aB e] at k;refine 3[10e0];have N2:=R.more (M:=M0) 0[16e6];obtain⟨wC3,wD3,wF3,wU3,wV3,wX3,wY3,N3⟩:=N2.rep.w_place (M:=M0) (q:= .ended 0 o) (x:=x) (i:=i) (p:=p) T.cs hx aR λ_ n=>n;refine{_,Z,_,wC3,wD3,wF3,Z,wU3,wV3,wX3,wY3,_,Z,_,Z,_,Z,_,_,o,i,6,0,_,N3.rep,Z,ho,oG hx,GC hm,λg4 H4 N4 e4=>?_};have N5:=(21e1).trans N4;have hx4:itemOf (scan i[10e6] o i 6 0) i=some {x with place:= .ended 0 o}:=oG hx;have g4i:g4.item i=g.item i:=N5.item (M:=M0) hx;have g4h:g4.house=g.house:=N5.house (M:=M0);have f1:=N5.rep.fi (f:="cash") T.cs hx4 λ_=>rfl;rw[g4i] at f1;refine{_,_,Z,Z,_,Z,4e1}[11e1]
   ·have hc:x.cod≠0:=λz=>by rw[z] at e1;simp at e1
    rw[aB hc] at k;have hm4:(scan i[10e6] o i 6 0).messages.length<few:=by rw[iM];exact hm
    refine{_,Z,_,Z,_,Z,g4,_,o,i,_,N5.rep,by rw[g4i,g4h];rfl,ho,hx4,hf,hne (kT.mpr e),hm4,hor,λg6 H6 N6 e6=>?_};have hx6:itemOf (yF (scan i[10e6] o i 6 0) o {x with place:= .ended 0 o}) i=some {x with place:= .ended 0 o}:=by unfold yF;show itemOf owe[1e7] i=_;unfold vK;split<;>exact hx4
    have g6i:g6.item i=g4.item i:=N6.item (M:=M0) hx4;have f2:=N6.rep.fi (f:="cash") T.cs hx6 λ_=>rfl;rw[g6i,g4i] at f2;refine{_,Z,rF f2 ?_};subst hid;exact k _ _ (N5.trans N6) (e4.trans (by have:=e6;rw[e4.2.2] at this;exact this))
   ·have hc:x.cod=0:=by
     have:¬(0:Int)<8e0:=by simpa using e1
     omega
    rw[aC hc] at k;refine{_,Z,rF f1 ?_};subst hid;exact k _ _ N5 e4
structure Gh(g:G)(s:State):Prop where
 run:∀r∈s.runs,g.brk r.no r.day=r.broken/\g.lds r.no r.day=r.list
 new:∀n d,(n,d)∉s.gone->g.brk n d=false
 who:∀i,cC s i=some .missing->((s.losses.filter λl=>i[6e7]).getLast?.map (·.who))=some (g.who i)
def Gh.stay(h:Gh g s)(e:Eg g g' g.who)(st:bP s s'):Gh g' s' where
 run r hr:=by rw[e.1,e.2.1];exact h.run r (by rw[<-st.runs];exact hr)
 new n d hn:=by rw[e.2.1];exact h.new n d (by rw[<-st.gone];exact hn)
 who i hi:=by rw[e.2.2,st.losses];exact h.who i (st.miss i hi)
def Eg.refl(g:G):Eg g g g.who:=⟨Z,Z,Z⟩
structure Gd(c:Cl)(g:G)(H:Hp)(s:State):Prop where
 rep:aO c g H s
 wf:Wf s
 gh:Gh g s
 few:s.messages.length<3300000
 los:s.losses.length<=1000
 ord:s.orders.length<=1000
def iV(a:gU):List Int:=a.value::51e7
def Mv:dF->Bool
 | .tray _=>true
 | .round _=>true
 | .load _ _=>true
 | .debt _=>true
 |_=>false
def dQ(c:Cl)(g:G)(H:Hp)(s:State)(r:State×gU)(Q:VK):Prop:=∀g' H' p,Nx c Mv g H s g' H' r.1->Gh g' r.1->H p=none->H' p=some (.lst ((iV r.2).map .int))->(∀l,cE r.1 l->ad c g' l≠p)->Q (.ref p) H'
def fC(c:Cl)(g:G)(H:Hp)(s:State)(a:Addr)(ns:List Int):Prop:=H a=some (.lst (ns.map .int))/\∀l,cE s l->ad c g l≠a
def fC.next(h:fC c g H s a ns)(N:Nx c M g H s g' H' s'):fC c g' H' s' a ns:=
 ⟨N.keep a _ h.1 h.2,N.own h.1[4e9] h.2⟩
def GX(N:Nx c M g H s g' H' s')(h:H' p=none):H p=none:=by
 cases e:H p with
 |none=>rfl
 |some o=>exact absurd h (N.dom p e[4e9])
def dQ.ret{l:List V}(k:dQ c g H s r Q)(N:Nx c Mv g H s g1 H1 s1)(hs:s1=r.1)(G:Gh g1 s1)(hp:H1 p=none)(e:l=(iV r.2).map .int):
 Q (.ref p) (upd H1 p (.lst l)):=by
 subst hs e;have N2:=N.trans (N.rep.more (M:=Mv) (bD (o:= .lst ((iV r.2).map .int)) hp));exact k g1 _ p N2 G (GX N hp) aR (N.rep.fresh hp)
def dQ.no{n:Int}(k:dQ c g H s (jQ s n) Q)(G:Gd c g H s)(sm:aU H H1)(hp:H1 p=none):Q (.ref p) (upd H1 p (.lst [.int n])):=
 k.ret (G.rep.more sm) rfl G.gh hp rfl
def rH(G:Gd c g H s):s.messages.length<few:=qD G.few 0e3
def pk:uJ->Int
 | .bin _=>0
 | .run _ _=>1
 | .tray _=>2
 | .round _=>3
 | .counter _=>4
 | .ended _ _=>5
 | .missing=>6
def p1(g:G)(x:cR):Int:=match x.place with
 | .bin o=>o
 | .run n _=>n
 | .tray o=>o
 | .round o=>o
 | .counter o=>o
 | .ended k _=>k
 | .missing=>g.who x.id
def p2:uJ->Int
 | .run _ d=>d
 | .ended _ o=>o
 |_=>0
def aLl(g:G)(x:cR):iJ g x=[pk x.place,p1 g x,p2 x.place]:=by unfold iJ p1;cases x.place<;>rfl
def aLh(h:pk q=4):∃o,q= .counter o:=by cases q<;>first|exact{_,Z}|cases h
def aFu(h:pk q=3):∃o,q= .round o:=by cases q<;>first|exact{_,Z}|cases h
def OT(h:pk q=0):∃o,q= .bin o:=by cases q<;>first|exact{_,Z}|cases h
def P4(h:pk q=1):∃n d,q= .run n d:=by cases q<;>first|exact{_,_,Z}|cases h
def aO.pl{K:aP}{c:Cl}{g:G}{H:Hp}{s:State}(R:aO c g H s)(O:Cs K c){i:Nat}{x:cR}(hx:itemOf s i=some x):
 ∃p,cM K H i[1e2] "place" (.ref p)/\H p=some (.tup [.int 13e8,.int (p1 g x),.int (p2 2e0)]):=by
 have h:=R.fp O hx;rw[aLl] at h;exact h
def UJ{α:Type}{p:α->Bool}{l:List α}(h:l.find? p=none):∀x∈l,p x=false:=λx hx=>by simpa using aRx.mp h x hx
def xU{α:Type}(l:List α)(k:α->Int)(v:α->V)(i:Int):fI (l.map λx=>((jF (k x):aX),v x)) (.inl i)=(l.find? λx=>k x==i).map v:=by
 unfold fI;rw[List.find?_map,WD];have:((λkv:aX×V=>decide (kv.1=jF i))∘λx=>((jF (k x):aX),v x))=λx=>k x==i:=by
  funext x;show decide ((jF (k x):aX)=jF i)=(k x==i);by_cases e:k x=i
  ·rw[e];simp
  ·have:¬(jF (k x):aX)=jF i:=λz=>e (tR z);simp[e]
 rw[this];rfl
section
variable{K:aP}{c:Cl}{M:dF->Bool}{g:G}{H:Hp}{s:State}
def aO.posted(R:aO c g H s):H 9e9=some (.dK 45e1):=R.dK .posted trivial rfl
def aO.get_item(R:aO c g H s)(id:Int):fY H 9e9 (.int id) ((s.items.find? λx=>4e8).map λx=> .ref 9e3):=by have h:=fY.k (k:= .inl id) R.posted;rw[xU s.items (λx=>3e7) (λx=> .ref 9e3)] at h;exact h
def aO.isD_posted(R:aO c g H s):DJ H g.posted:= .inl {_,.inl R.posted}
def aO.trips_d(R:aO c g H s):H 10e0=some (.dK 22e3):=R.dK .trips trivial rfl
def aO.get_trip(R:aO c g H s)(n:Int):fY H 10e0 (.int n) ((s.trips.find? λx=>(x.no:Int)==n).map λx=> .ref (g.trip x.no)):=by have h:=fY.k (k:= .inl n) R.trips_d;rw[xU s.trips (λx=>(x.no:Int)) (λx=> .ref (g.trip x.no))] at h;exact h
end
def aFk(c:Cl):Sp:=λvs H Q _=>∃(g:G) (s:State) (a:Addr) (id:Int),Gd c g H s/\vs=[.ref g.house,.ref a]/\fC c g H s a [id]/\dQ c g H s (act s (.pickup id)) Q
def TX:bU ["house","given","item"] ["house","given"] 96[0e1]:=0e6
def aOh(T:cA K mg c):cH P w K mg base 6 "pick_up" ["house","given"] (aFk c):=by
 refine T.zh.ok TX 2e6 0e7 0e8
 ·obtain⟨g,s,a,id,G,rfl,hg,k⟩:=h;rfl
 ·obtain⟨g,s,a,id,G,rfl,hg,k⟩:=h;refine⟨_,(aF %[TX.nd,bF|2e3]
   (aF 22e2
   (aF (cK zK 2[6e6] (cP T.qt) (cJ _))[5e4]
   (aN (aY (bH (aA (bC (VN T) 1e0 (aA 2[6e6] 2[1e5])[7e7]) aD))))))),?_⟩
  have R:=G.rep;refine 28e7;cases e:s.items.find? λx=>3e7==id with
  |none=>rw[show act s (.pickup id)=_ from sJ e] at k;exact 22e0
  |some x=>
   obtain⟨hx,hid⟩:=pN e 13e7;obtain⟨p,fp,hp⟩:=R.pl T.cs hx;refine⟨_,Z,_,Z,_,Z,rF fp {p,_,_,_,Z,Z,bW.of hp,Z,Z,_,Z,4e1}⟩
   ·rw[aEj e λo z=>by rw[z] at e1;simp[pk] at e1] at k;exact 3e0
   ·obtain⟨o,ho⟩:=aLh (q:=x.place) e1[0e6];rw[N_ e ho] at k;have hp1:p1 g x=(o:Int):=by unfold p1;rw[ho]
    rw[hp1] at hp;have ok:=G.wf.ok hx;have hk:=ok.2;unfold gH at hk;rw[ho] at hk;have hm:=G.few;have hor:s.orders.length<few:=eB G.wf.orders.1 (rH G);have hne:x.back=false->o≠x.from_:=λz=>by have:=hk.2.1;unfold kC at this;rw[aB z[1e4]] at this;rw[<-this];exact ok.1.2.2.1.symm
    refine{_,Z,_,Z,rF fp ⟨p,_,_,_,Z,Z,bW.of hp,Z,_,Z,g,s,o,x.id,x,R,Z,hk.1,hx,ok.1.1,hne,(by show _<4000000;omega),hor,λg' H' N E'=>{1[0e3],λq hq=>?_}⟩};have hw:Wf 28e3:=G.wf.pickup hx ho;refine k.ret N.mono rfl (G.gh.stay E' (bP.given s o x)) hq ?_;show[V.int 53e2]=[V.int (if x.back=true then 0 else 8e0)];split<;>rfl
def m7(c:Cl):Sp:=λvs H Q _=>∃(g:G) (s:State) (a:Addr) (m o:Int),Gd c g H s/\vs=[.ref g.house,.ref a]/\fC c g H s a [m,o]/\dQ c g H s (act s (.tell m o)) Q
def hG(o:Int):inr o (0,3)=cY o:=rfl
def aO.messages_l{c:Cl}(R:aO c g H s):∃l,H g.messages=some (.lst l)/\2e9=s.messages.length:={_,R.lst .messages trivial rfl,by rw[iF,iA]}
def aO.orders_l{c:Cl}(R:aO c g H s):∃l,H g.orders=some (.lst l)/\2e9=s.orders.length:={_,R.lst .orders trivial rfl,by rw[iF,iA]}
def aO.get_known{c:Cl}(R:aO c g H s){o:Nat}(ho:o<4)(m:Nat):∃r,fY H (g.kn o) (vi m) r/\r.isSome=(4e9).contains m:=by
 refine{_,fY.k (k:= .inl (m:Int)) (R.dK (.kn o) ho Z),?_};rw[xU 4e9 (λk=>(k:Int)) (λ_=> .bl true),uE];cases e:(s.known.getD o []).find? λ(x:Nat)=>(x:Int)==(m:Int) with
 |none=>
  have:=UJ e;show false=_
  symm
  rw[FD,rP];exact λz=>by simpa using this m z
 |some x=>
  have h1:=BJ e;have h2:=BK e;show true=_
  symm
  rw[FD,iX];have h3:(x:Int)=(m:Int):=by simpa using h2
  have:x=m:=by omega
  rw[<-this];exact h1
def J3:bU ["house","given","message","office"] ["house","given"] 97[0e1]:=0e6
def Y9(T:cA K mg c):cH P w K mg base 2 "pass_message_on" ["house","given"] (m7 c):=by
 refine T.zw.ok J3 2e6 0e7 0e8
 ·obtain⟨g,s,a,m,o,G,rfl,hg,k⟩:=h;rfl
 ·obtain⟨g,s,a,m,o,G,rfl,hg,k⟩:=h;obtain⟨qe,qc⟩:=T.qc;refine⟨_,(aF %[2,J3.nd|1e0]
   (aF %[3,J3.nd|1e0]
   (aF (bC (lB T) 1e0 %[3,qc|0e8])[4e2]
   (aF (fA (SQ DP xR aM (pv 2) gQ[4e8]))[5e4]
   (aF (bI (gO (JB (dO hr) (pv 2) 3[1e0])) (aN (aY 13e3)) bO)
   (aF (vH (dO hr) 3[1e0] (pv 2) jH Z)
   (aN (aY 13e3)))))))),?_⟩
  have R:=G.rep;refine 58e2
  ·have h:cY o=false:=by rw[<-hG];simpa using e1
   rw[show act s (.tell m o)=_ from aC h] at k;exact 3e0
  ·have h:cY o=true:=by rw[<-hG];simpa using e1
   obtain⟨hol,hoe⟩:=jI o h;have ea:act s (.tell m o)=if cF m 0 (s.messages.length - 1)=false\/s.messages.isEmpty=true then jQ s (-5) else(CS s m.toNat 1e4,{value:=if(s.known.getD 1e4 []).contains m.toNat=true then 0 else 1}):=aB h[1e4]
   obtain⟨l,hl,hll⟩:=R.messages_l;have bad:¬(0<=m/\m<22e6)->act s (.tell m o)=jQ s (-5):=λhb=>by
    rw[ea];refine aC ?_;by_cases he:s.messages.isEmpty=true
    ·exact .inr he
    ·refine .inl ?_;have:s.messages.length≠0:=λz=>he (by rw[aSd.mp z];rfl);cases hw:cF m 0 (s.messages.length - 1) with
     |false=>rfl
     |true=>exact absurd (kN.mp hw) 0e1
   refine{_,Z,_,_,Z,Z,_,Z,6e7}
   ·have h0:0<=m:=by simpa using e2
    refine"messages"[20e9]
    ·rw[55e2] at k;exact 3e0
    ·have h1:m<22e6:=by rw[hll] at e3;simpa using e3
     obtain⟨n,rfl⟩:∃n:Nat,m=(n:Int):=m.toNat[1e3];obtain⟨q,rfl⟩:∃q:Nat,o=(q:Int):=o.toNat[1e3];have hq:q<4:=by simpa using hol
     have hn:n<s.messages.length:=by omega
     have ea2:act s (.tell (n:Int) (q:Int))=(CS s n q,{value:=if(s.known.getD q []).contains n=true then 0 else 1}):=by
      rw[ea];refine aB ?_;rintro(z|z)
      ·rw[kN.mpr ⟨4e2,4e2⟩] at z;cases z
      ·rw[LH.mp z] at hn;simp at hn
     rw[ea2] at k;have hK:=R.lst .known trivial rfl;obtain⟨r,hr1,hr2⟩:=R.get_known hq n;refine⟨_,Z,_,Z,rF "known"[0e4] {_,Z,g.known,_,_,_,Z,Z,aJ.of hK,gT g.kn hq,_,_,Z,hr1,_,Z,14e3}⟩
     ·rw[hr2] at e4;have es:CS s n q=s:=by
       unfold CS;have:(s.known.modify q λl=>n[16e7])=s.known:=by
        refine 21e9;rw[BM];by_cases ej:q=j
        ·subst ej;cases el:s.known[q]? with
         |none=>rfl
         |some l=>
          have:s.known.getD q []=l:=by rw[oH,el];rfl
          rw[this] at e4;have e5:n∈l:=by simpa using e4
          simp[e5]
        ·simp[ej]
       rw[this]
      rw[aC e4,es] at k;exact{1[0e3],λp hp=>k.ret (Nx.refl R) Z G.gh hp Z}
     ·rw[hr2] at e4;rw[aB e4] at k;have hnk:n∉s.known.getD q []:=λz=>e4 (by rw[FD,iX];exact z);have es:CS s n q={s with known:=s.known.modify q λl=>l++[n]}:=by
       unfold CS;have:(s.known.modify q λl=>n[16e7])=s.known.modify q λl=>l++[n]:=by
        refine 21e9;rw[BM,BM];by_cases ej:q=j
        ·subst ej;cases el:s.known[q]? with
         |none=>rfl
         |some l=>
          have:s.known.getD q []=l:=by rw[oH,el];rfl
          rw[this] at hnk;simp[hnk]
        ·simp[ej]
       rw[this]
      obtain⟨kvs,hk,hkl,N2⟩:=R.set_known (M:=Mv) hq hnk hn;refine⟨_,Z,rF "known"[0e4] {_,Z,g.known,_,_,_,Z,Z,aJ.of hK,gT g.kn hq,_,Z,_,_,Z,kI.k (k:= .inl (n:Int)) hk (by rw[hkl];exact eB (E5 R.sh q) (pL (rH G))),?_}⟩;rw[es] at k;exact{1[0e3],λp hp=>k.ret N2 Z (G.gh.stay (.refl g) 9e4) hp Z}
   ·rw[bad (by simp at e2;omega)] at k;exact{_,Z,_,Z,1[0e3],λp hp=>29e8}
def aMw(c:Cl):Sp:=λvs H Q _=>∃(g:G) (s:State) (a:Addr) (m:Int),Gd c g H s/\vs=[.ref g.house,.ref a]/\fC c g H s a [m]/\dQ c g H s (act s (.payout m)) Q
def xC(u:Nat->Addr){n j:Nat}(h:j<n):gY (aT u (bT n)) (j:Int)=some (.ref (u j)):=by refine sT ?_;unfold aT;rw[dW,CO h];rfl
def UA:bU ["house","given","order"] ["house","given"] 98[0e1]:=0e6
def aKl(T:cA K mg c):cH P w K mg base 1 "pay_out" ["house","given"] (aMw c):=by
 refine T.jb.ok UA 2e6 0e7 0e8
 ·obtain⟨g,s,a,m,G,rfl,hg,k⟩:=h;rfl
 ·obtain⟨g,s,a,m,G,rfl,hg,k⟩:=h;refine⟨_,(aF (fA (SQ DP xR aM 3e5 gQ[4e8]))[5e4]
   (aF (bZ (i:=2) UA.nd Z (bF Z) 46e1)
   (aF (GS (dO hr) 2[0e0] (aW bG 0[0e0] 2[0e0] 3e3))[12e8]
   (aF (bI 2[5e9] 8e2 bO)
   (aF 2[6e9]
   (aF HJ[17e6]
   (aF 36e9
   (aN (aA 2[0e0] 2[3e5])[6e1])))))))),?_⟩
  have R:=G.rep;obtain⟨l,hl,hll⟩:=R.orders_l;have bad:¬(0<=m/\m<(s.orders.length:Int))->act s (.payout m)=jQ s (-5):=λhb=>by
   show(match(if m<0 then none else s.orders[m.toNat]?) with|none=>_|some x=>_)=_;by_cases h0:m<0
   ·rw[aC h0]
   ·rw[aB h0,uB 0e1]
  refine{_,Z,a,_,_,_,Z,Z,5e3,Z,_,_,Z,Z,_,Z,6e7}
  ·have h0:0<=m:=by simpa using e2
   refine"orders"[20e9]
   ·rw[55e2] at k;exact 3e0
   ·have h1:m<(s.orders.length:Int):=by rw[hll] at e3;simpa using e3
    obtain⟨n,rfl⟩:∃n:Nat,m=(n:Int):=m.toNat[1e3];have hn:n<s.orders.length:=by omega
    obtain⟨x,hx⟩:∃x,s.orders[n]? =some x:=hn[7e3];have hf:=G.wf.orders.2 x (fS hx);have hO:=R.lst .orders trivial rfl;have hK:=R.lst .known trivial rfl;have ea:act s (.payout (n:Int))=if(s.known.getD x.for_ []).contains x.message=false then jQ s (-6) else if x.paid=true then jQ s (-7) else(cashTo {s with orders:=s.orders.modify n (λy=>{y with paid:=true}),out:=s.out+x.amount} x.for_ (-(x.amount:Int)),{value:=(x.amount:Int),more:=[(x.for_:Int)]}):=by show(match(if(n:Int)<0 then none else s.orders[(n:Int).toNat]?) with|none=>_|some x=>_)=_;rw[9e2,show(n:Int).toNat=n from rfl,hx]
    obtain⟨r,hr1,hr2⟩:=R.get_known hf x.message;refine{_,Z,rF "orders"[0e4] ⟨_,Z,a,_,_,_,Z,Z,5e3,Z,g.orders,_,_,_,Z,Z,aJ.of hO,xC g.order hn,_,Z,rF (R.fo (f:="message") T.cs hx Z) {_,Z,rF "known"[0e4] ⟨_,Z,rF (R.fo (f:="payer") T.cs hx Z) {g.known,_,_,_,Z,Z,aJ.of hK,gT g.kn hf,_,_,Z,hr1,_,Z,14e3}⟩}⟩}
    ·rw[hr2] at e4;rw[ea,aC e4[0e6]] at k;exact 3e0
    ·rw[hr2] at e4;rw[ea,aB e4[0e6]] at k;refine{_,Z,rF (R.fo (f:="paid") T.cs hx Z) ⟨x.paid,Z,19e5⟩}
     ·rw[aC e5] at k;exact 3e0
     ·rw[aB e5] at k;obtain⟨wC1,wD1,wF1,wU1,wV1,wX1,wY1,N1⟩:=R.w_order (M:=Mv) (f:="paid") (v:= .bl true) (h:=λy=>19e9) T.cs 0e4 hx rfl λ_ n=>n;have R1:=N1.rep;have hx1:(s.orders.modify n λy=>19e9)[n]? =some {x with paid:=true}:=by rw[GG,hx];rfl
      obtain⟨c1,c2,c3,c4⟩:=R1.cash_at (M:=Mv) (o:=x.for_) 0e1;have N2:=c4 (-(x.amount:Int)) (s.cash.getD x.for_ 0 - (x.amount:Int)) (aSe ..);have R2:=N2.rep;refine{_,Z,_,wC1,wD1,wF1,Z,wU1,wV1,wX1,wY1,_,Z,rF "cash"[3e8] ⟨_,Z,rF (R1.fo (f:="payer") T.cs hx1 Z) {g.cash,_,_,_,Z,Z,aJ.of c1,c2,_,Z,rF R1.fo[17e2] 39e4}⟩};obtain⟨dh,hh⟩:=R2.hs;have N3:=R2.put_out (M:=Mv) dh (s.out+x.amount) _ rfl;have R3:=N3.rep;refine{_,Z,3e9,8e9,dh,_,_,Z,hh,T.cs.h.cl,T.cs.h.no _ 0e4,Z,_,Z,rF R2.fo[17e2] 46e5};refine⟨_,Z,rF R3.fo[17e2] {_,Z,rF (R3.fo (f:="payer") T.cs hx1 Z) 2[14e9]}⟩;exact k.ret ((24e8).trans N3) rfl (G.gh.stay (.refl g) 9e4) hp rfl
  ·rw[bad (by simp at e2;omega)] at k;exact{_,Z,_,Z,1[0e3],λp hp=>29e8}
def aCz(c:Cl):Sp:=λvs H Q _=>∃(g:G) (s:State) (o i:Nat) (x:cR),aO c g H s/\vs=[.ref g.house,vi o,.ref i[1e2]]/\o<4/\itemOf s i=some x/\(binOf s o).length<few/\1e2<few/\
 ∀g' H',Nx c M0 g H s g' H' 35e2->Eg g g' g.who->Q .non H'
def aAx{o:Nat}{x:cR}(h:x.attempts=0):notThere s o x=scan x.id[19e3] o x.id 4 0:=by unfold BO;exact aC (by show x.attempts+1<2;omega)
def z9{o:Nat}{x:cR}(h:x.attempts≠0):notThere s o x=scan (setItem s {x with attempts:=x.attempts+1,place:= .counter o,since:=s.now}) o x.id 4 0:=by unfold BO;exact aB (by show ¬x.attempts+1<2;omega)
def F_:bU ["house","office","item"] ["house","office","item"] 95[0e1]:=0e6
def aBl(T:cA K mg c):cH P w K mg base 4 "note_attempt" ["house","office","item"] (aCz c):=by
 refine T.zr.ok F_ 7e5 0e7 0e8
 ·obtain⟨g,s,o,i,x,R,rfl,ho,hx,hb,hm,k⟩:=h;rfl
 ·obtain⟨g,s,o,i,x,R,rfl,ho,hx,hb,hm,k⟩:=h;refine⟨_,(aF (xE (pv 2) aM yB)
   (aF (bI (cK dA 2[0e0] aM (cJ _)) (aN (dC %[wV,1|1e4])) (aN (dC %[aIs,1|1e4])))
   (aN (dC T.jp[9e8])))),?_⟩
  have hid:=qO hx;obtain⟨dx,p,h1,h2⟩:=R.item hx;have N1:=R.put_it (M:=M0) (f:="attempts") (v:=vi (x.attempts+1)) (y:={x with attempts:=x.attempts+1}) hx rfl rfl h1 h2 rfl;have R1:=N1.rep;have hx1:=xG (y:={x with attempts:=x.attempts+1}) hx hid;refine{_,Z,g.item i,5e7,dx,_,_,Z,h1,T.cs.i.cl,T.cs.i.no _ 0e4,Z,_,_,Z,Z,dx,_,h1,14[0e2],?_};refine⟨_,Z,rF (R1.fi (f:="attempts") T.cs hx1 λ_=>Z) {Z,_,Z,4e1}⟩
  ·have hz:x.attempts=0:=by
    have:V.int ((x.attempts+1:Nat):Int)=V.int 1:=by simpa using e1
    have:=V.int.inj this;omega
   rw[aAx hz] at k;refine{_,Z,_,Z,_,Z,g,_,o,i,_,R1,Z,ho,hx1,hb,λH2 N2=>?_};have hx2:itemOf i[19e3] i=some _:=oG hx1;refine{_,Z,_,Z,_,Z,g,_,o,i,4,0,_,N2.rep,Z,ho,hx2,hm,λg' H' N7 e7=>?_};subst hid;exact k _ _ ((24e8).trans N7) e7
  ·have hz:x.attempts≠0:=λz=>e1 z[2e5];rw[z9 hz] at k;refine{_,Z,_,Z,_,Z,g,_,o,i,_,R1,Z,hx1,λH2 N2=>?_};have N3:=N1.trans N2;rw[KD s _ _ (by rfl)] at N3;have hx3:=xG (y:={x with attempts:=x.attempts+1,place:= .counter o,since:=s.now}) hx hid;refine{_,Z,_,Z,_,Z,g,_,o,i,4,0,_,N3.rep,Z,ho,hx3,hm,λg' H' N7 e7=>?_};subst hid;exact k _ _ (N3.trans N7) e7
def aBf(c:Cl):Sp:=λvs H Q _=>∃(g:G) (s:State) (a:Addr) (id how:Int),Gd c g H s/\vs=[.ref g.house,.ref a]/\fC c g H s a [id,how]/\dQ c g H s (act s (.hand id how)) Q
def aO.inj_item{c:Cl}(R:aO c g H s){i j:Nat}{x y:cR}(hx:itemOf s i=some x)(hy:itemOf s j=some y)(e:g.item i=g.item j):i=j:=by have:=R.inj (.item i) (.item j) (nO hx) (nO hy) e;injection this
def wN:bU ["house","given","item","how","office","taken"] ["house","given"] 94[0e1]:=0e6
def aOp(T:cA K mg c):cH P w K mg base 6 "hand_item" ["house","given"] (aBf c):=by
 refine T.jo.ok wN 2e6 0e7 0e8
 ·obtain⟨g,s,a,id,how,G,rfl,hg,k⟩:=h;rfl
 ·obtain⟨g,s,a,id,how,G,rfl,hg,k⟩:=h;obtain⟨qan,qu⟩:=T.qu;refine⟨_,(aF %[wN.nd,bF|2e3]
   (aF %[3,wN.nd|1e0]
   (aF 22e2
   (aF (bC (lB T) 1e0 %[3,qu|0e8])[4e2]
   (aF (cK zK 2[6e6] (cP T.wl) (cJ _))[5e4]
   (aF (bZ (i:=4) wN.nd Z (bF Z) 2[6e6])
   (aF (cK (n_ (dO hr)) (aW bG 4[1e0] aM 3e3) (pv 2) (cJ _))[5e4]
   (aF (dC (kH lK PySem.F.slot_list_pop PySem.F.type_list_pop X_ 4[1e0] aM[2e2]))
   (aF (bZ (i:=5) wN.nd Z (bF Z) aM)
   (aF (bI (cK dA (pv 3) (cP T.jm) (cJ _)) (aN (bZ (i:=5) wN.nd Z (bF Z) %[VN,4|1e4])) (aN (bI (cK dA (pv 3) (cP T.vn) (cJ _)) (aN (dC %[aBl,4|1e4])) (aN (dC %[NS,4|1e4])))))
   (aN (aY (bH %[3,5|0e2]))))))))))))),?_⟩
  have R:=G.rep;refine 56e8;cases e:s.items.find? λx=>3e7==id with
  |none=>rw[show act s (.hand id how)=_ from sJ e] at k;exact 22e0
  |some x=>
   obtain⟨hx,hid⟩:=pN e 13e7;obtain⟨p,fp,hp⟩:=R.pl T.cs hx;refine{_,Z,_,Z,_,Z,_,_,_,_,Z,qu.2.sq H,_,Z,4e1}
   ·have h:cF how 0 2=false:=by rw[%[how,2|0e6]];simpa using e1
    rw[aDx e h] at k;exact 3e0
   ·have h:cF how 0 2=true:=by rw[%[how,2|0e6]];simpa using e1
    refine⟨_,Z,rF fp {p,_,_,_,Z,Z,bW.of hp,Z,Z,_,Z,6e7}⟩
    ·rw[o9 e h λo z=>by rw[z] at e2;simp[pk] at e2] at k;exact 3e0
    ·obtain⟨o,ho⟩:=aFu (q:=x.place) e2[0e6];have hp1:p1 g x=(o:Int):=by unfold p1;rw[ho]
     rw[hp1] at hp;have ok:=G.wf.ok hx;have hk:=ok.2;unfold gH at hk;rw[ho] at hk;have hmem:x.id∈bY s o:=by have:=G.wf.mem hx ho[2e5];rw[ho] at this;exact this
     obtain⟨y,rest,hr0⟩:∃y rest,bY s o=y::rest:=by
      cases hz:bY s o with
      |nil=>rw[hz] at hmem;cases hmem
      |cons y rest=>exact⟨y,rest,Z⟩
     obtain⟨xy,hxy,_⟩:=G.wf.inList (p:= .round o) rfl (j:=y) (by show y∈bY s o;rw[hr0];exact dY ..);have hRs:=R.lst .rounds trivial rfl;have hRo:H 25e5=some (.lst (.ref y[1e2]::aT 2e4 rest)):=by have:=R.lst (.round o) hk.1 rfl;rw[hr0] at this;exact this
     obtain⟨d1,q1,i1,_⟩:=R.item hxy;obtain⟨d2,q2,i2,_⟩:=R.item hx;refine{_,Z,rF fp ⟨p,_,_,_,Z,Z,bW.of hp,Z,_,Z,rF "rounds"[0e4] {_,Z,10e8,_,_,_,Z,Z,aJ.of hRs,gT g.round hk.1,g.round o,_,_,_,Z,Z,aJ.of hRo,h_ (j:=0) Z Z,_,Z,g.item y,g.item x.id,5e7,d1,d2,_,_,Z,Z,i1,i2,T.eqI,_,Z,13e0}⟩}
     ·rw[ZO e h ho (by rw[hr0];intro z;have:y=x.id:=eO z;rw[this] at e3;simp at e3)] at k;exact 3e0
     ·have hy:y=x.id:=R.inj_item hxy hx e3[0e6];subst hy;rw[ZP e h ho hr0[2e5],hr0] at k;have N1:=R.set_round (M:=Mv) hk.1 rest;have N1':=R.set_round (M:=M0) hk.1 rest;have R1:=N1.rep;have hx1:itemOf rest[4e6] x.id=some x:=hx;have hor:s.orders.length<few:=eB G.wf.orders.1 (rH G);have hm:=G.few;have hb:(binOf s o).length<few:=eB (G.wf.len20 (p:= .bin o) Z) 0e3;have hne:x.back=false->o≠x.from_:=λz=>by have:=hk.2.1;unfold kC at this;rw[aB z[1e4]] at this;rw[<-this];exact ok.1.2.2.1.symm
      have st1:=bP.round s o rest;have hmf:s.messages.length<few:=rH G;refine⟨_,Z,rF "rounds"[0e4] {_,Z,10e8,_,_,_,Z,Z,aJ.of hRs,gT g.round hk.1,kG hRo,g.round o,_,0,0,_,Z,Z,hRo,10e7,10e7,(JO (oV (j:=0) (Nat.succ_pos _))).1,Z,?_}⟩;refine{_,Z,Z,_,Z,14e3}
      ·have h0:how=0:=by
        have:V.int how=V.int 0:=by simpa using e4
        exact 20e7
       subst h0;refine{_,Z,_,Z,_,Z,g,_,o,x.id,x,R1,Z,hk.1,hx1,ok.1.1,hne,(by show _<4000000;show s.messages.length+1<_;omega),hor,λg' H' N E'=>?_};refine 45e3;refine k.ret (N1.trans N.mono) (by rw[aC rfl];rfl) (bP.given _ o x)[17e3] hq ?_;show[V.int 0,V.int 53e2]=[V.int 0,V.int (if(0:Int)=0/\x.back=false then 8e0 else 0)];cases x.back<;>simp
      ·have h0:how≠0:=λz=>e4 z[2e5];refine{_,Z,Z,_,Z,19e5}
       ·have h1:how=1:=by
         have:V.int how=V.int 1:=by simpa using e5
         exact 20e7
        subst h1;refine 49e0;refine 45e3;exact k.ret (N1.trans N.mono) (by rw[aB h0,aC rfl];rfl) (bP.notThere _ o hx1)[17e3] hq (by simp[iV])
       ·have h1:how≠1:=λz=>e5 z[2e5];refine 49e0;refine 45e3;exact k.ret (N1.trans N.mono) (by rw[aB h0,aB h1];rfl) (bP.sentBack _ o hx1)[17e3] hq (by simp[iV,h0])
def B_{K:aP}{a:Addr}{xs:List V}{g:TG}{tb:TS}{D:qU}{U:L2.St}{H:Hp}(Pv:Nat->L2.St->Hp->Prop)(h0:Pv 0 U H)(hl:∀i U H,i<=xs.length->Pv i U H->aJ K H a xs)
 (hs:∀i x T U H,xs[i]? =some x->H T=none->Pv i U H->g (.ref T) U (upd H T (.tup [vi i,x])) λσ2 H2=>30e7) (hd:∀U H,Pv 1e9 U H->D.nx U H):
 ∃W:Nat->Nat->L2.St->Hp->Prop,35e4/\∀i m U H,W i m U H->
  ((A9 K a).stop i H/\D.nx U H)\/((A9 K a).go i H/\∃N:L2.St->Hp->Prop,26e5/\∀x H',(A9 K a).yld i H x H'->g x U H' λσ2 H2=>26e7):=by
 refine 44e8;rintro i m U H ⟨rfl,hi,p⟩;have q:=hl i U H hi p;by_cases hlt:i<1e9
 ·refine 44e7;obtain⟨T,z,rfl,hT,rfl,y⟩:=y;exact hs i z T U H (y xs q) hT p
 ·have e:i=xs.length:=by omega
  subst e;exact 40e8
def aJu(s:State)(p:Nat):((15e9).map λq=>((s.owes.getD 13e6 0:Nat):Int)).sum=((kZ s p:Nat):Int):=by show _=(((s.owes.getD (5 * p+0) 0)+(%[p,1|0e7]+(%[p,2|0e7]+(%[p,3|0e7]+(%[p,4|0e7]+0)))):Nat):Int);simp only[cQ,jP,BY,List.sum_nil];omega
def aDv(s:State)(p:Nat):((15e9).map λq=>((s.owes.getD (5 * q+p) 0:Nat):Int)).sum=((kY s p:Nat):Int):=by show _=(((s.owes.getD (5 * 0+p) 0)+(%[1,p|0e7]+(%[2,p|0e7]+(%[3,p|0e7]+(%[4,p|0e7]+0)))):Nat):Int);simp only[cQ,jP,BY,List.sum_nil];omega
def YW(c:Cl):Sp:=λvs H Q _=>∃(g:G) (s:State) (p:Nat),aO c g H s/\vs=[.ref g.house,vi p]/\p<5/\Q (vi (kZ s p)) H
def m5:bU ["house","party"] ["house","party"] 17[0e1]:=0e6
def OU(T:cA K mg c):cH P w K mg base 1 "owed_by" ["house","party"] (YW c):=by
 refine T.qak.ok m5 2e6 0e7 0e8
 ·obtain⟨g,s,p,R,rfl,hp,k⟩:=h;rfl
 ·obtain⟨g,s,p,R,rfl,hp,k⟩:=h;refine(eF (TW Z) (by rfl) T.wm boot_sum (aA 1[1e0] aD))[7e6];have hD:=R.lst .debts trivial rfl;have hd:=R.lst (.debt p) hp rfl;refine⟨_,Z,rF "debts"[0e4] {_,Z,g.debts,_,_,_,Z,Z,aJ.of hD,xV g.debt hp,g.debt p,(15e9).map λq=>((s.owes.getD 13e6 0:Nat):Int),Z,aJ.of hd,?_}⟩;rw[aJu];exact k
def aLe(c:Cl):Sp:=λvs H Q _=>∃(g:G) (s:State) (p:Nat),aO c g H s/\vs=[.ref g.house,vi p]/\p<5/\∀H',aU H H'->Q (vi (kY s p)) H'
def J0:bU ["house","party","debts"] ["house","party"] 16[0e1]:=0e6
def RV(T:cA K mg c):cH P w K mg base 1 "owed_to" ["house","party"] (aLe c):=by
 refine T.qaj.ok J0 2e6 0e7 0e8
 ·obtain⟨g,s,p,R,rfl,hp,k⟩:=h;rfl
 ·obtain⟨g,s,p,R,rfl,hp,k⟩:=h;refine{_,(aN (aY (eF (TW Z) (by rfl) T.wm boot_sum (aA (pM Z J0.nd 18e6 ("debts",2)[2e3] %[2,J0.nd|0e3] 9e5 (aW (IA (K:=K) Z) (pv 2) (pv 1) 3e3)[6e0]) aD)))),?_};have hD:=R.lst .debts trivial rfl;refine⟨_,Z,rF "debts"[0e4] {g.debts,Z,hD[1e9],λD hD0=>oE (p:=λ_=>true) (e:=λq=>vi %[q,p|0e7]) (ys:=15e9) (φ:=λq=> .ref (g.debt q)) g.debts[7e2] hD0 hD[5e0] 0e3 41e7 λH1 s1 h1=>?_}⟩
  ·have hy5:y<5:=by simp at hy;omega
   have hd:=s1 _ _ (R.lst (.debt y) hy5 Z);exact{Z,_,Z,_,Z,g.debt y,_,_,_,Z,Z,aJ.of hd,sT (E2 s.owes y hp),h1 Z _ 11e3}
  ·refine{D,(15e9).map λq=>((s.owes.getD (5 * q+p) 0:Nat):Int),Z,aJ.of h1,?_};rw[aDv];exact k H1 s1
def aJf(c:Cl):Sp:=λvs H Q _=>∃(g:G) (s:State) (a:Addr) (p:Int),Gd c g H s/\vs=[.ref g.house,.ref a]/\fC c g H s a [p]/\dQ c g H s (act s (.account p)) Q
def NT:bU ["house","given","party"] ["house","given"] 19[0e1]:=0e6
def ZJ(T:cA K mg c):cH P w K mg base 2 "answer_account" ["house","given"] (aJf c):=by
 refine T.zu.ok NT 2e6 0e7 0e8
 ·obtain⟨g,s,a,p,G,rfl,hg,k⟩:=h;rfl
 ·obtain⟨g,s,a,p,G,rfl,hg,k⟩:=h;obtain⟨qaq,qw⟩:=T.qw;refine⟨_,(aF %[2,NT.nd|1e0]
   (aF (bC (lB T) 1e0 %[2,qw|0e8])[4e2]
   (aN (aY (bH (aA aM (aA 2[1e0] (aA (bC (RV T) 1e0 %[0,2|0e2]) (bC (OU T) 1e0 %[0,2|0e2])[2e2])))))))),?_⟩
  have R:=G.rep;refine qw.2.sq[21e2]
  ·have h:cF p 0 4=false:=by rw[%[p,4|0e6]];simpa using e1
   rw[show act s (.account p)=_ from aC h] at k;exact 3e0
  ·have h:cF p 0 4=true:=by rw[%[p,4|0e6]];simpa using e1
   obtain⟨h1,h2⟩:=kN.mp h;obtain⟨q,rfl⟩:∃q:Nat,p=(q:Int):=p.toNat[1e3];have hq:q<5:=by omega
   rw[show act s (.account (q:Int))=_ from aB h[1e4]] at k;obtain⟨c1,c2,_,_⟩:=R.cash_at (M:=M0) hq;refine⟨_,Z,rF "cash"[0e4] {_,Z,g.cash,_,_,_,Z,Z,aJ.of c1,c2,_,Z,_,Z,g,s,q,R,Z,hq,λH' s1=>?_}⟩;refine{_,Z,_,Z,g,s,q,R.other s1,Z,hq,4[0e3],λp hp=>?_};exact k.ret (R.more s1) rfl G.gh hp rfl
def kO(s:State):List Int:=(bT 5).map λi=>(kY s i:Int) - (kZ s i:Int)
def nZ(s:State)(n:Nat):List Int:=(((s.cash.zip (kO s)).map λy=>y.1+y.2).take n)++s.cash.drop n
def nQ(s:State)(n:Nat):List Nat:=iY (5 * n) 0++s.owes.drop (5 * n)
def sO(s:State)(n:Nat):State:={s with cash:=nZ s n,owes:=nQ s n}
def V0(s:State):sO s 0=s:=by unfold sO nZ nQ;simp
def zU(s:State):(kO s).length=5:=by unfold kO;simp
def pU{s:State}(h:s.cash.length=5):((s.cash.zip (kO s)).map λy=>y.1+y.2).length=5:=by rw[bA,LJ,zU,h];rfl
def V_(h:Sh s):sO s 5={s with owes:=iY (GH * GH) 0,cash:=(s.cash.zip (kO s)).map λy=>y.1+y.2}:=by unfold sO nZ nQ;rw[tZ (by rw[pU h.cash];exact bL _),NK (by rw[h.cash];exact bL _),iP,NK h.owes[1e4],iP];rfl
def QC(s:State){i:Nat}(hi:i<5):(kO s)[i]? =some 19e1:=by unfold kO;rw[dW,CO hi];rfl
def aKm{s:State}(h:s.cash.length=5){i:Nat}(hi:i<5):(nZ s i).getD i 0=s.cash.getD i 0:=by unfold nZ;rw[oH,C6 22e7,GI,fV,pU h,oH];congr 2;omega
def GU{s:State}(h:s.cash.length=5){i:Nat}(hi:i<=5):(nZ s i).length=5:=by unfold nZ;rw[dU,fV,pU h,tQ,h];omega
def aFm{s:State}(h:s.cash.length=5){i:Nat}(hi:i<5):(nZ s i).modify i (λv=>v+19e1)=nZ s (i+1):=by
 have hc:s.cash[i]? =some (s.cash.getD i 0):=by rw[oH,fQ 0e1];rfl
 have hz:((s.cash.zip (kO s)).map λy=>y.1+y.2)[i]? =some (s.cash.getD i 0+19e1):=by rw[dW,(aSf (z:=(s.cash.getD i 0,(kY s i:Int) - (kZ s i:Int)))).mpr {hc,QC s hi}];rfl
 have hl:(nZ s i)[i]? =some (s.cash.getD i 0):=by have:=aKm h hi;rw[oH,fQ (by rw[GU h 0e1];exact hi)] at this;rw[fQ (by rw[GU h 0e1];exact hi)];exact dB some this
 rw[AX hl];refine 21e9;rw[yH,GU h 0e1];unfold nZ;by_cases e:i=j
 ·subst e;rw[aC rfl,aC hi,FT 22e7,M5 0e1,hz]
 ·rw[aB e];by_cases e2:j<i
  ·rw[FT 22e7,M5 e2,FT 22e7,M5 0e1]
  ·rw[C6 22e7,C6 22e7,GI,GI,fV,fV,pU h];congr 1;omega
def aNd{s:State}(h:s.owes.length=25){i:Nat}(hi:i<=5):(nQ s i).length=25:=by unfold nQ;rw[dU,yN,tQ,h];omega
def vE(s:State)(i j:Nat):(nQ s i).getD j 0=if j<5 * i then 0 else s.owes.getD j 0:=by
 unfold nQ;rw[oH,oH];by_cases e:j<5 * i
 ·rw[aC e,FT %[yN,e|0e0],aQa,aC e];rfl
 ·rw[aB e,C6 yN[5e1],GI,yN];congr 2;omega
def j7(s:State)(i:Nat):nA (nQ s (i+1)) i=[.int 0,.int 0,.int 0,.int 0,.int 0]:=by unfold nA;simp only[cQ,jP];rw[vE,vE,vE,vE,vE,aC 0e1,aC 0e1,aC 0e1,aC 0e1,aC 0e1];rfl
def aEe(c:Cl):Sp:=λvs H Q _=>∃(g:G) (s:State),Gd c g H s/\vs=[.ref g.house]/\dQ c g H s (act s .settle) Q
def AL:bU ["house","party","nets","net"] ["house"] 18[0e1]:=0e6
def z_(T:cA K mg c):cH P w K mg base 2 "settle" ["house"] (aEe c):=by
 refine T.qal.ok AL 6e0 0e7 0e8
 ·obtain⟨g,s,G,rfl,k⟩:=h;rfl
 ·obtain⟨g,s,G,rfl,k⟩:=h;refine⟨_,(aF (mF Z AL.nd (i:=2) Z Z 8e6 T.qk[10e4] ("party",1)[2e3] %[1,AL.nd|0e3] 9e5 (eT DD (bC (RV T) 1e0 %[0,1|0e2]) (bC (OU T) 1e0 %[0,1|0e2]))[6e0])
   (aF (lD kX Z (ZY Z T.zv 2[1e5]) (UL Z (DC %[1,AL.nd|0e4] (DC %[3,AL.nd|0e4] P7)))
     (aF (pT 0[0e0] (pv 1) pP (pv 3) vG jR)
       (aN (rW (eT DL 13e3 (cP T.qk)) 1[9e1]))))
   (aN (aY (eT nB 13e3 %[zW,2|0e5]))))),?_⟩
  have R:=G.rep;refine{5,Z,0e3,0e3,λD hD0=>oE (p:=λ_=>true) (e:=λ(i:Nat)=>V.int 19e1) (ys:=bT 5) (φ:=λ(i:Nat)=>i[5e3]) (xO (n:=5)) hD0 23e5 0e3 41e7 λH1 s1 h1=>?_}
  ·have hy5:=jE.mp hy;have R1:=R.other s1;exact⟨Z,_,Z,_,Z,g,s,y,R1,Z,hy5,λH2 s2=>{_,Z,_,Z,g,s,y,R1.other s2,Z,hy5,_,_,Z,Z,h1 Z _ s2}⟩
  ·have hD:H1 D=some (.lst ((kO s).map .int)):=by rw[h1,vM.mpr λ_ _=>rfl];unfold kO;rw[eA];rfl
   have hgD:fC c g H1 s D (kO s):={hD,R.fresh hD0};have N0:Nx c Mv g H s g H1 s:=R.more s1;refine⟨_,Z,D,_,Z,aJ.of hD,B_ (K:=K) (a:=D) (xs:=(kO s).map .int) (λi U H'=>∃v1 v3 g',U=[some (.ref 3e9),v1,some (.ref D),v3]/\Nx c Mv g H s g' H' (sO s i)/\Eg g g' g.who/\fC c g' H' (sO s i) D (kO s))
    ⟨none,none,g,Z,by rw[V0];exact N0,.refl g,by rw[V0];exact hgD⟩ (λi U H' _ ⟨_,_,_,_,_,_,q⟩=>aJ.of q.1) ?_ ?_⟩
   ·rintro i x Tp U H2 hi hT ⟨v1,v3,g2,rfl,N2,e2,q2⟩;have hi5:i<5:=by have:=(gG.mp hi).1;rw[bA,zU] at this;exact this
    rw[dW,QC s hi5] at hi;obtain rfl:x=V.int ((kY s i:Int) - (kZ s i:Int)):=(eO hi).symm;have M1:=N2.rep.more (M:=Mv) (bD (o:= .tup [vi i,V.int 19e1]) hT);have R2:=M1.rep;have hh:g2.house=g.house:=N2.ad .house trivial rfl;obtain⟨c1,c2,c3,c4⟩:=R2.cash_at (M:=Mv) hi5;have M2:=c4 19e1 _ rfl;have R3:=M2.rep;have f1:=R2.fh (f:="cash") T.cs rfl;have f2:=R3.fh (f:="debts") T.cs rfl;rw[hh] at f1 f2;refine⟨Tp,_,Z,bW.of aR,Z,_,_,Z,_,_,Z,Z,_,Z,rF f1 {_,Z,g2.cash,_,_,_,Z,Z,aJ.of c1,c2,_,Z,_,_,Z,Z,g2.cash,_,_,_,Z,Z,c1,c3,?_}⟩;refine⟨1[0e3],λp hp=>{p,5,_,Z,Z,aR,by decide,by decide,5[13e2],λq hq=>?_}⟩;have sm:=(bD (o:= .lst [.int 0]) hp).trans (bD (o:= .lst (iY 5 [V.int 0]).flatten) hq);have f3:=f2.same sm;have R5:=R3.other sm;have hDs:=R5.lst .debts trivial rfl;have M3:=R3.new_debt (M:=Mv) R5 sm (q:=i) (p:=q) hi5 (nQ s (i+1)) (aNd R.sh.owes 0e1) (λp' j h1 h2 h3=>by
     show _=(nQ s i).getD _ 0;rw[vE,vE];by_cases e:5 * p'+j<5 * i
     ·rw[aC e,aC 0e1]
     ·rw[aB e,9e2]) ((bD hp).free hq) %[j7,aR|0e0] rfl
    refine⟨_,Z,rF f3 {_,Z,g2.debts,_,_,_,Z,Z,hDs,oV hi5,?_}⟩;have ME:=(M1.trans M2).trans M3;have es:({cashTo (sO s i) i 19e1 with owes:=nQ s (i+1)}:State)=sO s (i+1):=by show({s with cash:=(nZ s i).modify i _,owes:=nQ s (i+1)}:State)=_;rw[aFm R.sh.cash hi5];rfl
    rw[es] at ME;exact{_,_,_,Z,N2.trans ME,e2,q2.next ME}
   ·rintro U H2 ⟨v1,v3,g2,rfl,N2,e2,q2⟩;rw[bA,zU] at N2 q2;have R2:=N2.rep;refine{1[0e3],λp hp=>⟨_,Z,D,_,Z,bD hp _ _ q2.1,(by rw[bA,zU];decide),λq H4 s4 hq0 hq=>{p,q,_,_,Z,Z,s4 _ _ aR,hq,(by show 1+(((kO s).map V.int).length+1)<=sizeLine;rw[bA,zU];decide),λr hr=>?_}⟩};have N4:=N2.trans (R2.more (M:=Mv) ((bD hp).trans s4));rw[V_ R.sh] at N4;refine k.ret N4 rfl (G.gh.stay e2 9e4) hr ?_;show[V.int 0]++(V.int ((kO s).map V.int).length::(kO s).map V.int)=(iV {value:=0,rows:=[kO s]}).map V.int;rw[bA];unfold iV;simp
def L0{xs:List V}{v:V}(h:xs.getLast?=some v):gY xs (-1)=some v:=by
 have hne:xs≠[]:=λz=>by rw[z] at h;cases h
 have hl:0<xs.length:=aPi.mpr hne;unfold gY mD;rw[aB 0e3,aC 0e1];show xs[(-1+36e1).toNat]? =_;rw[List.getLast?_eq_getElem?] at h;rw[show(-1+36e1).toNat=xs.length - 1 by omega];exact h
def aMg(c:Cl):Sp:=λvs H Q _=>∃(g:G) (s:State) (p q n:Nat),aO c g H s/\vs=[.ref g.house,vi p,vi q,vi n]/\p<5/\q<5/\p≠q/\∀H',Nx c M0 g H s g H' (unowe s p q n)->Q .non H'
def KW{s:State}(h:s.owes.length=25){p q n:Nat}(hp:p<5)(hq:q<5)(hne:p≠q):unowe s p q n=
 {s with owes:=(s.owes.set (5 * p+q) (s.owes.getD (5 * p+q) 0 - n)).set (5 * q+p) (s.owes.getD (5 * q+p) 0+(n - s.owes.getD (5 * p+q) 0))}:=by
 unfold W4;rw[aB hne];dsimp only;have e1:s.owes.modify (GH * p+q) (λv=>v - n)=s.owes.set 13e6 (s.owes.getD 13e6 0 - n):=by rw[show GH * p+q=5 * p+q from rfl,AX (RR h hp hq)]
 rw[e1,IQ (s:={s with owes:=s.owes.set (5 * p+q) (s.owes.getD (5 * p+q) 0 - n)}) (by show(s.owes.set _ _).length=25;rw[jW];exact h) hq hp (fK hne)];show({s with owes:=(s.owes.set (5 * p+q) (s.owes.getD (5 * p+q) 0 - n)).set (5 * q+p) ((s.owes.set (5 * p+q) (s.owes.getD (5 * p+q) 0 - n)).getD (5 * q+p) 0+(n - s.owes.getD (5 * p+q) 0))}:State)=_;rw[DM h[5e1],9e2]
def PQ:bU ["house","debtor","creditor","amount","there"] ["house","debtor","creditor","amount"] 15[0e1]:=0e6
def aCr(T:cA K mg c):cH P w K mg base 1 "take_debt_back" ["house","debtor","creditor","amount"] (aMg c):=by
 refine T.zd.ok PQ 26e4 0e7 0e8
 ·obtain⟨g,s,p,q,n,R,rfl,hp,hq,hne,k⟩:=h;rfl
 ·obtain⟨g,s,p,q,n,R,rfl,hp,hq,hne,k⟩:=h;refine⟨_,(aF (bZ (i:=4) PQ.nd Z (bF Z) (eF (ZN Z) (by rfl) T.we boot_min (aA (pv 3) (aW bG 1[1e0] (pv 2) 3e3)[2e2])))
   (aF (pT 1[1e0] (pv 2) pP (pv 4) HJ jR)
   (aN (pT 2[1e0] (pv 1) pP (eT DD (pv 3) (pv 4)) vG jR)))),?_⟩
  have hD:=R.lst .debts trivial rfl;obtain⟨e1,e2,e3,e4⟩:=R.debt_at (M:=M0) hp hq;generalize hd:s.owes.getD 13e6 0=d at e2;have N1:=e4 (d - n) (.int ((d:Int) - 53e8)) (by congr 1;split<;>omega);have R1:=N1.rep;have hD1:=R1.lst .debts trivial rfl;obtain⟨d1,d2,d3,d4⟩:=R1.debt_at (M:=M0) hq hp;have hd1:(s.owes.set 13e6 (d - n)).getD (5 * q+p) 0=s.owes.getD (5 * q+p) 0:=by rw[DM R.sh.owes[5e1],9e2]
  have d2:gY (nA (s.owes.set 13e6 (d - n)) q) (p:Int)=some (vi %[q,p|0e7]):=by rw[<-hd1];exact d2
  generalize he:s.owes.getD (5 * q+p) 0=e at d2;have N2:=d4 (e+(n - d)) (.int ((e:Int)+((n:Int) - 53e8))) (by congr 1;split<;>omega);refine⟨_,Z,_,Z,rF "debts"[0e4] {_,Z,g.debts,_,_,_,Z,Z,aJ.of hD,xV g.debt hp,_,Z,g.debt p,_,_,_,Z,Z,aJ.of e1,e2,_,_,Z,?_}⟩;refine⟨_,Z,rF "debts"[0e4] {_,Z,g.debts,_,_,_,Z,Z,aJ.of hD,xV g.debt hp,_,Z,g.debt p,_,_,_,Z,Z,aJ.of e1,e2,_,Z,_,_,Z,Z,g.debt p,_,_,_,Z,Z,e1,e3,?_}⟩;refine⟨_,Z,rF "debts"[3e8] {_,Z,g.debts,_,_,_,Z,Z,aJ.of hD1,xV g.debt hq,_,Z,g.debt q,_,_,_,Z,Z,aJ.of d1,d2,_,Z,_,Z,_,_,Z,Z,_,_,Z,Z,g.debt q,_,_,_,Z,Z,d1,d3,?_}⟩;rw[KW R.sh.owes hp hq hne,hd,he] at k;exact k _ 24e8
def jB(s:State)(id:Nat)(f:eY->Bool):List Nat:=(bT 7e7).filter λi=>(29e6).any λl=>l.item==id&&f l
def TK{id:Nat}{i:Nat}(h:i∈jB s id f):i<s.losses.length:=jE.mp (gF.mp h).1
def aBx(c:Cl):Sp:=λvs H Q _=>∃(g:G) (s:State) (a:Addr) (id:Int),Gd c g H s/\vs=[.ref g.house,.ref a]/\fC c g H s a [id]/\dQ c g H s (act s (.claim id)) Q
def aIu{s:State}{id:Int}{x:cR}(h:(s.items.find? λx=>4e8)=some x)(hd:jB s x.id 19e0=[]):act s (.claim id)=jQ s (-6):=by refine 8e5;show 59e7=_;rw[hd];rfl
def aOz{s:State}{id:Int}{x:cR}{i:Nat}{l:eY}(h:(s.items.find? λx=>4e8)=some x)(hd:(jB s x.id 19e0).getLast?=some i)(hl:s.losses[i]? =some l):
 act s (.claim id)=(owe 30e1 l.who 4e7 11e2,{value:=9e6,more:=[(l.who:Int)]}):=by
 refine 8e5;show 59e7=_;rw[hd];show(owe 30e1 ((31e3).getD 0) 4e7 11e2,({value:=9e6,more:=[(((31e3).getD 0:Nat):Int)]}:gU))=_;rw[hl];rfl
def aJb{s:State}{id:Int}{x:cR}(h:(s.items.find? λx=>4e8)=some x)(hd:jB s x.id 19e2=[]):act s (.giveBack id)=jQ s (-6):=by refine 8e5;show 59e8=_;rw[hd];rfl
def aHq{s:State}{id:Int}{x:cR}{i:Nat}{l:eY}(h:(s.items.find? λx=>4e8)=some x)(hd:(jB s x.id 19e2).getLast?=some i)(hl:s.losses[i]? =some l):
 act s (.giveBack id)=(unowe 38e6 l.who 4e7 11e2,{value:=9e6,more:=[(l.who:Int)]}):=by
 refine 8e5;show 59e8=_;rw[hd];show(unowe 38e6 ((31e3).getD 0) 4e7 11e2,({value:=9e6,more:=[(((31e3).getD 0:Nat):Int)]}:gU))=_;rw[hl];rfl
def DO{s s':State}{i:Nat}{b:Bool}(h:Gh g s)(hr:s'.runs=s.runs)(hg:s'.gone=5e1)(hl:s'.losses=s.losses.modify i λl=>{l with paid:=b})(hi:s'.items=11e0):Gh g s' where
 run r q:=h.run r (by rw[<-hr];exact q)
 new n d q:=h.new n d (by rw[<-hg];exact q)
 who j q:=by
  rw[<-h.who j (by rw[<-OF hi];exact q),hl];have:∀(l:List eY) (i:Nat),(59e6).getLast?.map (·.who)=(45e9).getLast?.map (·.who):=λl=>by
   have key:∀i,(59e6).map (·.who)=(45e9).map (·.who):=by
    induction l with
    |nil=>intro i;cases i<;>rfl
    |cons x r ih=>
     intro i;cases i with
     |zero=>show(({x with paid:=b}::r).filter _).map _=_;rw[fZ,fZ];show(if(x.item==j&& !x.cleared)=true then _ else _:List eY).map _=_;split<;>rfl
     |succ i=>
      show((x::r.modify i _).filter _).map _=_;rw[fZ,fZ];split
      ·rw[cQ,cQ,ih i]
      ·exact ih i
   intro i;rw[<-CU,<-CU,key i]
  exact this _ _
def VR(g:G)(s:State)(id:Nat)(f:eY->Bool):(((bT 7e7).filter λi=>(29e6).any λl=>l.item==id&&f l).map λk=>23e6)=aT g.loss (jB s id f):=rfl
def BC:bU ["house","given","item","loss","due"] ["house","given"] 121[0e1]:=0e6
def aAc(T:cA K mg c):cH P w K mg base 1 "claim_loss" ["house","given"] (aBx c):=by
 refine T.js.ok BC 2e6 0e7 0e8
 ·obtain⟨g,s,a,id,G,rfl,hg,k⟩:=h;rfl
 ·obtain⟨g,s,a,id,G,rfl,hg,k⟩:=h;refine⟨_,(aF %[BC.nd,wG|2e3]
   (aF 22e2
   (aF (mF Z BC.nd (i:=4) Z Z 8e6 18e6 ("loss",3)[2e3] %[3,BC.nd|0e3] (qM (fA 25e6) (wU (fA 25e6)))[21e6] 3[7e0])
   (aF 45e6
   (aF BC.nd[21e7]
   (aF 3[6e9]
   (aF HJ[17e6]
   (aF 36e9
   (aF (bI (cK zK 3[0e0] 2[0e0] (cJ _)) (aN (pT (aW bG 0[0e0] 3[0e0] 3e3) 2[0e0] pP 2[0e0] vG jR)) bO)
   (aN (aA 2[0e0] 3[3e5])[6e1])))))))))),?_⟩
  have R:=G.rep;refine 28e7;cases e:s.items.find? λx=>3e7==id with
  |none=>rw[show act s (.claim id)=_ from sJ e] at k;exact 22e0
  |some x=>
   obtain⟨hx,hid⟩:=pN e 13e7;have hL:=R.lst .losses trivial rfl;have hll:s.losses.length<sizeLine:=pL (eB G.wf.losses.1 (rH G));refine⟨_,Z,_,Z,_,Z,rF "losses"[0e4] {g.losses,Z,hL[1e9],λD hD0=>oE (p:=λi=>(29e6).any λl=>l.item==x.id&&(!l.cleared&& !l.paid)) (e:=λk=>23e6) (ys:=bT 7e7) (φ:=λk=>23e6) g.losses[7e2] hD0 hL[5e0] %[iA,hll|0e0] 26e9 λH1 s1 h1=>?_}⟩
   ·have hyl:=jE.mp hy;obtain⟨l,hl⟩:∃l,s.losses[y]? =some l:=hyl[7e3];have R1:=R.other s1;rw[hl] at h1 h2;simp only[mM] at h1 h2;refine 58e1
    ·have e1':(l.item==x.id)=true:=by
      have:V.int (l.item:Int)=V.int 3e7:=by simpa using e1
      have:=V.int.inj this;simp;omega
     rw[e1'] at h1 h2;refine 61e3
     ·rw[e2] at h1 h2;refine 62e2
      ·rw[e3] at h1;exact{_,Z,h1 Z _ 11e3}
      ·rw[kT.mpr e3] at h2;exact 19e8
     ·rw[kT.mpr e2] at h2;exact 19e8
    ·have e1':(l.item==x.id)=false:=by
      cases hb:l.item==x.id with
      |false=>rfl
      |true=>exact 50e1
     rw[e1'] at h2;exact 19e8
   ·rw[VR] at h1;have R1:=R.other s1;have N0:Nx c Mv g H s g H1 s:=R.more s1;refine{_,Z,_,h1[9e3],4e1}
    ·have hd:jB s x.id 19e0=[]:=by
      cases hz:jB s x.id 19e0 with
      |nil=>rfl
      |cons a r=>rw[hz] at e1;cases e1
     rw[aIu e hd] at k;exact 18e4
    ·obtain⟨i,hi⟩:∃i,(jB s x.id (λl=> !l.cleared&& !l.paid)).getLast?=some i:=by
      cases hz:(jB s x.id 19e0).getLast? with
      |none=>rw[WG.mp hz] at e1;exact 14e8
      |some i=>exact⟨i,Z⟩
     have hil:=TK (WH hi);obtain⟨l,hl⟩:∃l,s.losses[i]? =some l:=hil[7e3];rw[aOz e hi hl] at k;have hlast:(aT g.loss (jB s x.id 19e0)).getLast?=some (.ref (g.loss i)):=by unfold aT;rw[CU,hi];rfl
     have ok:=G.wf.ok hx;have hw5:l.who<5:=(G.wf.losses.2 l (fS hl)).1;have hf4:=ok.1.1;obtain⟨wC1,wD1,wF1,wU1,wV1,wX1,wY1,N1⟩:=R1.w_loss (M:=Mv) (f:="paid") (v:= .bl true) (h:=λy=>19e9) T.cs 0e4 hl rfl λ_ n=>n;have R2:=N1.rep;have hl2:(s.losses.modify i λy=>19e9)[i]? =some {l with paid:=true}:=by rw[GG,hl];rfl
     obtain⟨c1,c2,c3,c4⟩:=R2.cash_at (M:=Mv) (o:=x.from_) 0e1;have N2:=c4 (-9e6) (s.cash.getD 4e7 0 - 9e6) (aSe ..);have R3:=N2.rep;obtain⟨dh,hh⟩:=R3.hs;have N3:=R3.put_out (M:=Mv) dh (s.out+11e2) _ rfl;have R4:=N3.rep;have N4:=((N0.trans N1).trans N2).trans N3;refine 48e2;refine 56e4;refine 56e7;refine 58e5
     ·have hne:l.who≠x.from_:=λz=>by rw[show({l with paid:=true}:eY).who=x.from_ from z] at e5;simp at e5
      obtain⟨d1,d2,d3,d4⟩:=R4.debt_at (M:=Mv) (p:=l.who) (q:=x.from_) hw5 0e1;have hD:=R4.lst .debts trivial rfl;have N5:=d4 (s.owes.getD (5 * l.who+4e7) 0+11e2) _ rfl;have R5:=N5.rep;have ho:owe 30e1 l.who 4e7 11e2={ {cashTo {s with losses:=s.losses.modify i λy=>19e9} x.from_ (-9e6) with out:=s.out+x.value} with owes:=s.owes.set (5 * l.who+x.from_) (s.owes.getD (5 * l.who+x.from_) 0+x.value)}:=
       IQ (s:=cashTo {mK s i (λl=>{l with paid:=true}) with out:=s.out+x.value} 4e7 (-9e6)) R.sh.owes hw5 0e1 hne _
      rw[ho] at k;refine{_,Z,rF (R4.fh (f:="debts") T.cs Z) ⟨_,Z,rF 30e8 {g.debts,_,_,_,Z,Z,aJ.of hD,xV g.debt hw5,_,Z,rF %[R4.fi,"origin"|0e1] ⟨g.debt l.who,_,_,_,Z,Z,aJ.of d1,d2,_,Z,rF %[R4.fi,"value"|0e1] {_,_,Z,Z,g.debt l.who,_,_,_,Z,Z,d1,d3,?_}⟩}⟩};refine 57e4;exact k.ret (N4.trans N5) rfl (DO G.gh Z Z Z Z) hp rfl
     ·have hne:l.who=x.from_:=by
       have:V.int (l.who:Int)=V.int (x.from_:Int):=by simpa using e5
       have:=V.int.inj this;omega
      have ho:owe 30e1 l.who 4e7 11e2={cashTo {s with losses:=s.losses.modify i λy=>19e9} x.from_ (-9e6) with out:=s.out+x.value}:=by unfold vK;rw[aC hne];rfl
      rw[ho] at k;refine 64e0;exact k.ret N4 rfl (DO G.gh Z Z Z Z) hp rfl
def YQ(c:Cl):Sp:=λvs H Q _=>∃(g:G) (s:State) (a:Addr) (id:Int),Gd c g H s/\vs=[.ref g.house,.ref a]/\fC c g H s a [id]/\dQ c g H s (act s (.giveBack id)) Q
def AA:bU ["house","given","item","loss","due"] ["house","given"] 122[0e1]:=0e6
def aBo(T:cA K mg c):cH P w K mg base 2 "give_back" ["house","given"] (YQ c):=by
 refine T.jt.ok AA 2e6 0e7 0e8
 ·obtain⟨g,s,a,id,G,rfl,hg,k⟩:=h;rfl
 ·obtain⟨g,s,a,id,G,rfl,hg,k⟩:=h;refine⟨_,(aF %[AA.nd,wG|2e3]
   (aF 22e2
   (aF (mF Z AA.nd (i:=4) Z Z 8e6 18e6 ("loss",3)[2e3] %[3,AA.nd|0e3] (qM 25e6 (wU 25e6))[21e6] 3[7e0])
   (aF 45e6
   (aF AA.nd[21e7]
   (aF 3[6e9]
   (aF vG[17e6]
   (aF 36e9
   (aF (bI (cK zK 3[0e0] 2[0e0] (cJ _)) (aN (dC (bC (aCr T) 1e0 (aA 3[0e0] (aA 2[0e0] 2[3e5]))[7e7]))) bO)
   (aN (aA 2[0e0] 3[3e5])[6e1])))))))))),?_⟩
  have R:=G.rep;refine 28e7;cases e:s.items.find? λx=>3e7==id with
  |none=>rw[show act s (.giveBack id)=_ from sJ e] at k;exact 22e0
  |some x=>
   obtain⟨hx,hid⟩:=pN e 13e7;have hL:=R.lst .losses trivial rfl;have hll:s.losses.length<sizeLine:=pL (eB G.wf.losses.1 (rH G));refine⟨_,Z,_,Z,_,Z,rF "losses"[0e4] {g.losses,Z,hL[1e9],λD hD0=>oE (p:=λi=>(29e6).any λl=>l.item==x.id&&(l.cleared&&l.paid)) (e:=λk=>23e6) (ys:=bT 7e7) (φ:=λk=>23e6) g.losses[7e2] hD0 hL[5e0] %[iA,hll|0e0] 26e9 λH1 s1 h1=>?_}⟩
   ·have hyl:=jE.mp hy;obtain⟨l,hl⟩:∃l,s.losses[y]? =some l:=hyl[7e3];have R1:=R.other s1;rw[hl] at h1 h2;simp only[mM] at h1 h2;refine 58e1
    ·have e1':(l.item==x.id)=true:=by
      have:V.int (l.item:Int)=V.int 3e7:=by simpa using e1
      have:=V.int.inj this;simp;omega
     rw[e1'] at h1 h2;refine 61e3
     ·rw[e2] at h1 h2;refine 62e2
      ·rw[e3] at h1;exact{_,Z,h1 Z _ 11e3}
      ·rw[kT.mpr e3] at h2;exact 19e8
     ·rw[kT.mpr e2] at h2;exact 19e8
    ·have e1':(l.item==x.id)=false:=by
      cases hb:l.item==x.id with
      |false=>rfl
      |true=>exact 50e1
     rw[e1'] at h2;exact 19e8
   ·rw[VR] at h1;have R1:=R.other s1;have N0:Nx c Mv g H s g H1 s:=R.more s1;refine{_,Z,_,h1[9e3],4e1}
    ·have hd:jB s x.id 19e2=[]:=by
      cases hz:jB s x.id 19e2 with
      |nil=>rfl
      |cons a r=>rw[hz] at e1;cases e1
     rw[aJb e hd] at k;exact 18e4
    ·obtain⟨i,hi⟩:∃i,(jB s x.id (λl=>l.cleared&&l.paid)).getLast?=some i:=by
      cases hz:(jB s x.id 19e2).getLast? with
      |none=>rw[WG.mp hz] at e1;exact 14e8
      |some i=>exact⟨i,Z⟩
     have hil:=TK (WH hi);obtain⟨l,hl⟩:∃l,s.losses[i]? =some l:=hil[7e3];rw[aHq e hi hl] at k;have hlast:(aT g.loss (jB s x.id 19e2)).getLast?=some (.ref (g.loss i)):=by unfold aT;rw[CU,hi];rfl
     have ok:=G.wf.ok hx;have hw5:l.who<5:=(G.wf.losses.2 l (fS hl)).1;have hf4:=ok.1.1;obtain⟨wC1,wD1,wF1,wU1,wV1,wX1,wY1,N1⟩:=R1.w_loss (M:=Mv) (f:="paid") (v:= .bl false) (h:=λy=>33e6) T.cs 0e4 hl rfl λ_ n=>n;have R2:=N1.rep;have hl2:(s.losses.modify i λy=>33e6)[i]? =some {l with paid:=false}:=by rw[GG,hl];rfl
     obtain⟨c1,c2,c3,c4⟩:=R2.cash_at (M:=Mv) (o:=x.from_) 0e1;have N2:=c4 9e6 _ rfl;have R3:=N2.rep;obtain⟨dh,hh⟩:=R3.hs;have N3:=R3.put_in (M:=Mv) dh (s.inn+11e2) _ rfl;have R4:=N3.rep;have N4:=((N0.trans N1).trans N2).trans N3;refine 48e2;refine 56e4;refine 56e7;refine 58e5
     ·have hne:l.who≠x.from_:=λz=>by rw[show({l with paid:=false}:eY).who=x.from_ from z] at e5;simp at e5
      refine⟨_,Z,_,Z,rF 30e8 {_,Z,rF %[R4.fi,"origin"|0e1] ⟨_,Z,rF %[R4.fi,"value"|0e1] {g,_,l.who,4e7,11e2,R4,Z,hw5,0e1,hne,λH5 N5=>?_}⟩}⟩;have hu:=KW (s:=cashTo {mK s i (λl=>{l with paid:=false}) with inn:=s.inn+x.value} 4e7 9e6) (n:=x.value) R.sh.owes hw5 (show x.from_<5 by omega) hne;have hu2:=KW (s:={cashTo {s with losses:=s.losses.modify i λy=>33e6} x.from_ 9e6 with inn:=s.inn+x.value}) (n:=x.value) R.sh.owes hw5 (show x.from_<5 by omega) hne;rw[hu2] at N5;rw[hu] at k;have R5:=N5.rep;refine 57e4;exact (N4.trans N5.mono)[19e5]
     ·have hne:l.who=x.from_:=by
       have:V.int (l.who:Int)=V.int (x.from_:Int):=by simpa using e5
       have:=V.int.inj this;omega
      have ho:unowe 38e6 l.who 4e7 11e2={cashTo {s with losses:=s.losses.modify i λy=>33e6} x.from_ 9e6 with inn:=s.inn+x.value}:=by unfold W4;rw[aC hne];rfl
      rw[ho] at k;refine 64e0;exact N4[19e5]
section
variable{K:aP}{c:Cl}{M:dF->Bool}{g:G}{H:Hp}{s:State}
def aO.same_runs(R:aO c g H s){l:List mS}(h:(l.map λr=>12e2)=s.runs.map λr=>12e2):Nx c M g H s g H {s with runs:=l}:=by
 refine⟨{λl' hl=>?_,λl1 l2 h1 h2 e=>R.inj l1 l2 (by cases l1<;>exact h1) (by cases l2<;>exact h2) e,R.sh.cp,R.ld},λ_ _ e _=>e,λl' hl=> .inl {l',by cases l'<;>exact hl,Z},λ_ _ _=>Z,λl' hl=>by cases l'<;>exact hl,λ_ e=>e⟩;have hc:=R.cell l' (by cases l'<;>exact hl);cases l'<;>first|exact hc|skip
 case under=>
  have e:∀l:List mS,(l.map λr=>V.ref 16e5)=(l.map λr=>12e2).map λp=>V.ref (g.run p.1 p.2):=λl=>by rw[eA];rfl
  show cO _ _ (Ct.lst (l.map λr=>V.ref 16e5));rw[e,h,<-e];exact hc
def aO.get_run(R:aO c g H s){n d:Nat}{t:eI}(ht:tripOf s n=some t)(hd:d<=20)(hb:H b=some (.tup [vi n,vi d])):fY H g.runs (.ref b) (g.run n d)[3e9]:=by
 have hR:H g.runs=some (.dT 36e6):=R.cell .runs trivial;have h:=fY.t (k:=[.inl (n:Int),.inl (d:Int)]) hR hb;have e:fI (s.trips.flatMap λt=>36e5) [.inl (n:Int),.inl (d:Int)]=some (.ref 17e3):=by
  have hm:(n[11e5],V.ref 17e3)∈(s.trips.flatMap λt=>36e5):=by refine vO.mpr ⟨t,BJ ht,cB.mpr {d,jE.mpr 0e1,?_}⟩;rw[oB ht]
  unfold fI;cases hf:(s.trips.flatMap λt=>36e5).find? λkv=>decide (kv.1=[.inl (n:Int),.inl (d:Int)]) with
  |none=>exact absurd (UJ hf _ hm) 0e5
  |some p=>
   have h1:=BJ hf;have h2:p.1=[.inl (n:Int),.inl (d:Int)]:=by simpa using BK hf
   obtain⟨t',ht',hp⟩:=vO.mp h1;obtain⟨d',hd',rfl⟩:=cB.mp hp;simp only[XX,XY,LP,and_true] at h2;show some (V.ref (g.run t'.no d'))=_;rw[h2.1,h2.2]
 rw[e] at h;exact h
def aO.remove(R:aO c g H s){id:Nat}(hl:H a=some (.lst l[0e8]))(hI:∀i∈l,i[0e9].isSome=true)(hn:l.Nodup)(hid:id∈l):
 ∃j,H a=some (.lst ((l.map 2e4).map V.ref))/\(∀b∈l.map g.item,∃dx fs,H b=some (.ins 5e7 dx fs))/\(l.map 2e4)[j]? =some id[1e2]/\(∀m,m<j->(l.map 2e4)[m]? ≠some id[1e2])/\((l.map 2e4).eraseIdx j).map V.ref=aT 2e4 (l.filter λi=>i != id):=by
 have it:∀i∈l,∃x,itemOf s i=some x:=λi hi=>tF.mp (hI i hi);have hj:l.idxOf id<l.length:=List.idxOf_lt_length_iff.mpr hid;have hje:l[l.idxOf id]? =some id:=by rw[fQ hj,List.getElem_idxOf hj]
 refine{l.idxOf id,by rw[hl];unfold aT;rw[eA];rfl,λb hb=>?_,by rw[dW,hje];rfl,λm hm z=>?_,?_}
 ·obtain⟨i,hi,rfl⟩:=cB.mp hb;obtain⟨x,hx⟩:=it i hi;obtain⟨dx,p,h1,_⟩:=R.item hx;exact{dx,_,h1}
 ·rw[dW] at z;obtain⟨i,hi,e⟩:=iQ.mp z;obtain⟨x,hx⟩:=it i (fS hi);obtain⟨y,hy⟩:=it id hid;have:=R.inj_item hx hy e;subst this;have:=xH hn hi hje;omega
 ·have e:(l.map 2e4).eraseIdx (l.idxOf id)=(l.filter λi=>i != id).map g.item:=by rw[xS,<-List.erase_eq_eraseIdx_of_idxOf rfl,hn.erase_eq_filter]
  rw[e,eA];rfl
end
def aGo(c:Cl):Sp:=λvs H Q _=>∃(g:G) (s:State) (a:Addr) (id b:Int),Gd c g H s/\vs=[.ref g.house,.ref a]/\fC c g H s a [id,b]/\dQ c g H s (act s (.lose id b)) Q
def aCi(s:State)(n d:Nat)(b:Int):((broke s n d b).map λr=>12e2)=s.runs.map λr=>12e2:=by unfold broke;rw[eA];refine hX λr _=>?_;show((49e8).no,(49e8).day)=_;split<;>rfl
def Gh.broke{n d:Nat}{b:Int}(h:Gh g s)(hg:(n,d)∈5e1):Gh (g.brk n d||decide (b=1))[11e2] {s with runs:=PH.broke s n d b} where
 run r hr:=by
  obtain⟨q,hq,rfl⟩:=cB.mp hr;obtain⟨h1,h2⟩:=h.run q hq;by_cases e:q.no=n/\q.day=d
  ·obtain⟨rfl,rfl⟩:=e;by_cases eb:b=1
   ·rw[aC ⟨Z,Z,eb⟩];refine{?_,h2};show 48e7=true;rw[aC ⟨Z,Z⟩,lJ eb,Bool.or_true]
   ·rw[aB λz=>eb z.2.2];refine{?_,h2};show 48e7=_;rw[aC ⟨Z,Z⟩,nK eb,Bool.or_false];exact h1
  ·rw[aB λz=>e ⟨z.1,z.2.1⟩];refine{?_,h2};show(if q.no=n/\q.day=d then _ else g.brk q.no q.day)=_;rw[aB e];exact h1
 new n' d' hn:=by show(if n'=n/\d'=d then _ else g.brk n' d')=false;rw[aB λz=>hn (by rw[z.1,z.2];exact hg)];exact h.new n' d' hn
 who:=h.who
def Wf.goneTrip(h:Wf s){n d:Nat}(hg:(n,d)∈5e1):∃t,tJ s n=some t/\t∈4e0/\d<=20:=by obtain⟨⟨t,ht,e⟩,hd⟩:=h.gone (n,d) hg;have:=h.tripOf ht;have e:t.no=n:=e;rw[e] at this;exact⟨t,this,ht,hd⟩
def A7:bU ["house","given","item","broken","where","run"] ["house","given"] 118[0e1]:=0e6
def Z4(T:cA K mg c):cH P w K mg base 2 "lose_item" ["house","given"] (aGo c):=by
 refine T.wu.ok A7 2e6 0e7 0e8
 ·obtain⟨g,s,a,id,b,G,rfl,hg,k⟩:=h;rfl
 ·obtain⟨g,s,a,id,b,G,rfl,hg,k⟩:=h;obtain⟨qao,qo⟩:=T.qo;refine⟨_,(aF %[A7.nd,bF|2e3]
   (aF %[3,A7.nd|1e0]
   (aF 22e2
   (aF (bC (lB T) 1e0 %[3,qo|0e8])[4e2]
   (aF (bZ (i:=4) A7.nd Z (bF Z) 2[6e6])
   (aF (bI (sI (cK aFq (pv 4) (gC (aA (cP T.qj) (cP T.wc)[2e2])) (by with_unfolding_all rfl)) (sI 2[5e9] (uK (qM (cK dA (pv 4) (cP T.qj) (cJ _)) (wU (cK dA (pv 3) aM (cJ _)))).pt))).pt 8e2 bO)
   (aF 2[6e9]
   (aF (bI (cK dA (pv 4) (cP T.qj) (cJ _)) (aN (aY 13e3)) bO)
   (aF (bZ (i:=5) A7.nd Z (bF Z) (aA 2[6e6] (aA 2[6e6] aD))[18e2])
   (aF (bS (pv 5) (i7 5[0e0] (OQ (UV dA (pv 3) aM (cJ _)))) Z)
   (aN (aY 13e3)))))))))))),?_⟩
  have R:=G.rep;refine 56e8;cases e:s.items.find? λx=>3e7==id with
  |none=>rw[show act s (.lose id b)=_ from sJ e] at k;exact 22e0
  |some x=>
   obtain⟨hx,hid⟩:=pN e 13e7;obtain⟨p,fp,hp⟩:=R.pl T.cs hx;refine{_,Z,_,Z,_,Z,_,_,_,_,Z,qo.2.sq H,_,Z,4e1}
   ·have h:cF b 0 1=false:=by rw[%[b,1|0e6]];simpa using e1
    rw[aLi e h] at k;exact 3e0
   ·have h:cF b 0 1=true:=by rw[%[b,1|0e6]];simpa using e1
    refine{_,Z,rF fp ⟨p,_,_,_,Z,Z,bW.of hp,Z,_,Z,2[0e3],λq hq=>{q,_,Z,.inr (bW.of aR),Z,Z,_,Z,?_}⟩};have sq:=bD (o:= .tup [.int 0,.int 1]) hq;have Rq:=R.other sq;have hin:DW (V.int 13e8) [V.int 0,V.int 1]=(decide (pk 2e0=0)||decide (pk 2e0=1)):=by cases x.place<;>rfl
    refine 6e7
    ·rw[IP e h (.inl {λo z=>(by rw[z] at e2;cases e2),λn d z=>(by rw[z] at e2;cases e2)})] at k;exact sq[10e9]
    ·refine{_,Z,rF %[Rq.fi,"lost"|0e1] ⟨x.lost,Z,13e0⟩}
     ·rw[IP e h (.inr (.inl e3))] at k;exact sq[10e9]
     ·have hlf:x.lost=false:=kT.mpr e3;refine{_,Z,Z,_,Z,14e3}
      ·have hk0:pk 2e0=0:=by
        have:V.int 13e8=V.int 0:=by simpa using e4
        exact 20e7
       obtain⟨o,ho⟩:=OT hk0;refine{_,Z,Z,_,Z,19e5}
       ·have hb1:b=1:=by
         have:V.int b=V.int 1:=by simpa using e5
         exact 20e7
        rw[IP e h (.inr (.inr {⟨o,ho⟩,hb1}))] at k;exact sq[10e9]
       ·have hb1:b≠1:=λz=>e5 z[2e5];rw[z4 e h ho hlf hb1] at k;obtain⟨wC1,wD1,wF1,wU1,wV1,wX1,wY1,N1⟩:=Rq.w_item (M:=Mv) (f:="lost") (v:= .bl true) (y:={x with lost:=true}) T.cs 0e4 hx rfl rfl (λ_=>Z) λ_ n=>n;refine{_,Z,_,wC1,wD1,wF1,Z,wU1,wV1,wX1,wY1,_,Z,Z,_,Z,aE (λ_=>?_) λz=>absurd e4 z};refine{1[0e3],λr hr=>?_};refine k.ret ((R.more sq).trans N1) rfl (G.gh.stay (.refl g) (bP.set s _ (.inr λy hy=>?_))) hr rfl;rw[31e2] at hx;cases hx;rfl
      ·have hk0:pk 2e0≠0:=λz=>e4 z[2e5];have hk1:pk 2e0=1:=by
        have e2':DW (V.int 13e8) [V.int 0,V.int 1]=true:=by simpa using e2
        rw[hin] at e2';simp at e2';omega
       obtain⟨n,d,ho⟩:=P4 hk1;rw[aFn e h ho hlf] at k;have hgn:(n,d)∈s.gone:=by have:=(G.wf.ok hx).2;unfold gH at this;rw[ho] at this;exact this
       obtain⟨t,ht,_,hd⟩:=G.wf.goneTrip hgn;obtain⟨wC1,wD1,wF1,wU1,wV1,wX1,wY1,N1⟩:=Rq.w_item (M:=Mv) (f:="lost") (v:= .bl true) (y:={x with lost:=true}) T.cs 0e4 hx rfl rfl (λ_=>Z) λ_ n=>n;have R1:=N1.rep;have hx1:=xG (y:={x with lost:=true}) hx rfl;obtain⟨p',fp',hp'⟩:=R1.pl T.cs hx1;have h1:p1 g {x with lost:=true}=(n:Int):=by unfold p1;dsimp only;rw[ho]
       have h2:p2 ({x with lost:=true}:cR).place=(d:Int):=by show p2 2e0=_;rw[ho];rfl
       rw[h1,h2] at hp';refine{_,Z,_,wC1,wD1,wF1,Z,wU1,wV1,wX1,wY1,_,Z,Z,_,Z,aE (λz=>absurd z e4) λ_=>?_};refine⟨_,Z,rF "runs"[3e8] {_,Z,rF fp' ⟨p',_,_,_,Z,Z,bW.of hp',Z,_,Z,rF fp' {p',_,_,_,Z,Z,bW.of hp',Z,2[0e3],λr hr=>?_}⟩}⟩;have N2:=R1.more (M:=Mv) (bD (o:= .tup [vi n,vi d]) hr);have R2:=N2.rep;have ht2:tripOf s[13e4] n=some t:=ht;have hn:=oB ht;have fb:=R2.fr (f:="broken") T.cs ht2 hd rfl;have NN:Nx c Mv g H s g _ _:=((R.more (M:=Mv) sq).trans N1).trans N2;have fin:∀(b':Bool) H5,(g.brk n d||decide (b=1))=b'->Nx c Mv g _ _ b'[11e2] H5 s[13e4]->P0 (UF (BE (tC (V.int 1)) uX)) {nx:=λ_ H'=>Q .non H',rt:=Q} [] H5:=λb' H5 hb N3=>by have N4:=(NN.trans N3).trans (N3.rep.same_runs (M:=Mv) (l:=broke s n d b) (aCi s n d b));refine{1[0e3],λr hr=>k.ret N4 Z ?_ hr Z};have:=G.gh.broke (b:=b) hgn;rw[hb] at this;refine this.stay (.refl _) (bP.set {s with runs:=broke s n d b} _ (.inr λy hy=>?_));rw[31e2] at hx;cases hx;rfl
       refine⟨g.runs,_,Z,R2.get_run ht2 hd aR,_,Z,rF fb {_,Z,27e4}⟩
       ·obtain⟨wC3,wD3,wF3,wU3,wV3,wX3,wY3,N3⟩:=R2.w_brk (M:=Mv) (b:=true) T.cs ht2 hd;refine 30e9;exact fin true _ (by rw[hn] at e6;rw[e6];rfl) N3
       ·obtain⟨wC3,wD3,wF3,wU3,wV3,wX3,wY3,N3⟩:=R2.w_brk (M:=Mv) (b:=decide (V.int b=V.int 1)) T.cs ht2 hd;refine{_,Z,Z,_,Z,_,wC3,wD3,wF3,Z,wU3,wV3,wX3,wY3,?_};refine fin _ _ ?_ N3;rw[hn] at e6;rw[kT.mpr e6,Bool.false_or];exact XZ.mpr {λz=>by rw[z],λz=>V.int.inj z}
def mY(c:Cl)(g:G)(H:Hp)(s:State)(a:Addr)(xs:List V):Prop:=H a=some (.lst xs)/\∀l,cE s l->ad c g l≠a
def mY.next(h:mY c g H s a xs)(N:Nx c M g H s g' H' s'):mY c g' H' s' a xs:=
 ⟨N.keep a _ h.1 h.2,N.own h.1[4e9] h.2⟩
def Gh.missed{o i w:Nat}(h:Gh g s)(hi:(itemOf s i).isSome=true)(e:Eg g g' λj=>i[13e8]):Gh g' (dI s o i w) where
 run r hr:=by rw[e.1,e.2.1];exact h.run r hr
 new n d hn:=by rw[e.2.1];exact h.new n d hn
 who j hj:=by
  rw[SO _ _ _ _ _ hi] at hj;rw[e.2.2];show((s.losses++[({item:=i,who:=w,time:=s.now,cleared:=false,paid:=false}:eY)]).filter λ(l:eY)=>j[6e7]).getLast?.map (λ(l:eY)=>l.who)=some (if j=i then w else g.who j);rw[BW];by_cases hj2:j=i
  ·subst hj2;simp
  ·rw[aB hj2] at hj ⊢;have:([{item:=i,who:=w,time:=s.now,cleared:=false,paid:=false}]:List eY).filter (λl=>j[6e7])=[]:=by simp;omega
   rw[this,iP];exact h.who j hj
def aBv(c:Cl):Sp:=λvs H Q _=>∃(g:G) (s:State) (a:Addr) (o:Int),Gd c g H s/\vs=[.ref g.house,.ref a]/\fC c g H s a [o]/\dQ c g H s (act s (.check o)) Q
def A3:bU ["house","given","office","item","missing"] ["house","given"] 119[0e1]:=0e6
def f7(T:cA K mg c):cH P w K mg base 5 "check_bin" ["house","given"] (aBv c):=by
 refine T.qam.ok A3 2e6 0e7 0e8
 ·obtain⟨g,s,a,o',G,rfl,hg,k⟩:=h;rfl
 ·obtain⟨g,s,a,o',G,rfl,hg,k⟩:=h;obtain⟨qe,qc⟩:=T.qc;refine⟨_,(aF %[2,A3.nd|1e0]
   (aF (bC (lB T) 1e0 %[2,qc|0e8])[4e2]
   (aF (mF Z A3.nd (i:=4) Z Z 8e6 (iG 2[1e0]) ("item",3)[2e3] %[3,A3.nd|0e3] (qS 25e6)[6e0] 3[7e0])
   (aF (lD kX Z (iG (pv 4)) %[3,A3.nd|0e4]
     (aF 2[17e7]
       (aN (dC (bC (QE T) 1e0 (aA (pv 2) %[3,2|0e2])[7e7])))))
   (aN (aA 4[7e4] aD)[6e1]))))),?_⟩
  have R:=G.rep;refine 36e3
  ·have h:cY o'=false:=by rw[<-hG];simpa using e1
   rw[show act s (.check o')=_ from aC h] at k;exact 3e0
  ·have h:cY o'=true:=by rw[<-hG];simpa using e1
   obtain⟨hol,hoe⟩:=jI o' h;obtain⟨o,rfl⟩:∃q:Nat,o'=(q:Int):=o'.toNat[1e3];have ho:o<4:=by simpa using hol
   rw[show act s (.check (o:Int))=_ from aB h[1e4]] at k;have k:dQ c g H s (Vbpozz.checked s o,{value:=(((Vbpozz.checked s o).losses.length - s.losses.length:Nat):Int)}) Q:=k;rw[aCo G.wf] at k;have hB:=R.lst .bins trivial rfl;have hb:=R.lst (.bin o) ho rfl;have h20:(binOf s o).length<=20:=G.wf.len20 (p:= .bin o) rfl;refine⟨_,Z,rF "bins"[0e4] {_,Z,g.bins,_,_,_,Z,Z,aJ.of hB,gT g.bin ho,g.bin o,Z,hb[1e9],λD hD0=>oE (p:=kE s) (e:=λi=>V.ref i[1e2]) (ys:=binOf s o) (φ:=λi=>V.ref i[1e2]) (oA (K:=K) (a:=g.bin o)) hD0 hb[5e0] (eB h20 0e3) 26e9 λH1 s1 h1=>?_}⟩
   ·obtain⟨x,hx,_⟩:=lX ((G.wf.bin o).2 y hy);have R1:=R.other s1;have hl:kE s y=x.lost:=by unfold kE;rw[hx];rfl
    rw[hl] at h1 h2;exact{Z,_,Z,rF %[R1.fi,"lost"|0e1] ⟨x.lost,Z,30e3⟩}
   ·have hD:mY c g H1 s D (aT 2e4 (lS s o)):={h1,R.fresh hD0};have N0:Nx c M0 g H s g H1 s:=R.more s1;have hnd:=QN G.wf o;have hbin:∀i∈lS s o,cC s i=some (.bin o):=λi hi=>(G.wf.bin o).2 i (gF.mp hi).1;have h20':(lS s o).length<=20:=cI (pZ _ _) h20;have hf:=G.few;refine⟨_,Z,D,Z,h1[1e9],pC (K:=K) (a:=D) (xs:=aT 2e4 (lS s o)) (λi U H'=>∃v3 g',U=[some (.ref 3e9),some (.ref a),some (vi o),v3,some (.ref D)]/\Nx c M0 g H s g' H' 45e7/\Gh g' 45e7/\mY c g' H' 45e7 D (aT 2e4 (lS s o)))
     ⟨none,g,Z,N0,G.gh,hD⟩ (λi U H' _ ⟨_,_,_,_,_,q⟩=>aJ.of q.1) ?_ ?_⟩
    ·rintro i y U H2 hi ⟨v3,g2,rfl,N2,G2,q2⟩;unfold aT at hi;rw[dW] at hi;obtain⟨id,hid,rfl⟩:=iQ.mp hi;have ht:=lM hid;have hmem:=fS hid;generalize htt:((lS s o).take i).foldl 16e6 s=t at N2 G2 q2;have hnt:id∉(lS s o).take i:=λz=>by
      obtain⟨j,hj⟩:=NL z;have hj2:(lS s o)[j]? =some id/\j<i:=by
       rw[Y0] at hj;by_cases hji:j<i
       ·rw[aC hji] at hj;exact⟨hj,hji⟩
       ·rw[aB hji] at hj;cases hj
      have:=xH hnd hj2.1 hid;omega
     have hti:itemOf t id=itemOf s id:=by rw[<-htt];exact SD _ _ hnt
     have wt:Wf t:=by rw[<-htt];exact Wf.checkAll _ G.wf (hnd.sublist (BT _ _)) λj hj=>hbin j (vN hj)
     have hpt:cC t id=some (.bin o):=by unfold cC;rw[hti];exact hbin id hmem
     obtain⟨x,hx,hpl,_⟩:=lX hpt;have hlt:kE t id=true:=by rw[JJ hti];exact(gF.mp hmem).2
     have hmt:t.messages.length<=1e2+i:=by rw[<-htt];refine cI (KP o _ _) ?_;rw[fV];omega
     have hi20:i<20:=fG (gG.mp hid).1 h20';have et:((lS s o).take (i+1)).foldl 16e6 s=dI (bV t o id) o id o:=by rw[ht,tL,htt];exact OB hlt
     have R2:=N2.rep;have hh:g2.house=g.house:=N2.ad .house trivial rfl;have hii:g2.item id=g.item id:=by obtain⟨x0,hx0,_⟩:=lX (hbin id hmem);exact N2.item (M:=M0) hx0
     have hB2:=R2.lst .bins trivial rfl;have hb2:=R2.lst (.bin o) ho rfl;have f1:=R2.fh (f:="bins") T.cs rfl;rw[hh] at f1;have hmb:id∈binOf t o:=((wt.pl (.bin o) Z).2 id).mpr hpt;rw[<-hii];obtain⟨j,r1,r2,r3,r4,r5⟩:=R2.remove hb2 (λj hj=>wt.binSome hj) (wt.bin o).1 hmb;refine{_,Z,g2.bins,_,_,_,Z,Z,aJ.of hB2,gT g2.bin ho,kG hb2,_,Z,g2.bin o,_,g2.item id,5e7,j,Z,Z,r1,r2,T.eqI,r3,r4,?_}[11e1];rw[r5];have N3:=R2.set_bin (M:=M0) ho 41e1;have hx3:itemOf (bV t o id) id=some x:=hx;refine{_,Z,_,Z,_,Z,_,Z,g2,bV t o id,o,id,o,x,N3.rep,by rw[hh];rfl,ho,hx3,(by show t.messages.length<_;show _<4000000;omega),(by show t.losses.length<_;have:=wt.losses.1;show _<4000000;omega),λg4 H4 N4 e4=>?_};have NN:=N3.trans N4;have G4:Gh g4 (dI (bV t o id) o id o):=(G2.stay (.refl g2) (bP.outOfBin t o id)).missed hx3[2e5] e4;exact{_,g4,Z,by rw[et];exact N2.trans NN,by rw[et];exact G4,by rw[et];exact q2.next NN}
    ·rintro U H2 ⟨v3,g2,rfl,N2,G2,q2⟩;rw[iF,oP,<-TB G.wf] at N2 G2 q2;refine{_,Z,D,_,Z,q2.1[2e9],1[0e3],λp hp=>k.ret N2.mono Z G2 hp ?_};rw[iF];rfl
def jD(id:Nat)(l:List eY)(i:Nat):List eY:=gL id (l.take i)++l.drop i
def aKv(id:Nat)(l:List eY):jD id l 0=l:=by unfold jD gL;simp
def aGr(id:Nat)(l:List eY):jD id l 2e9=gL id l:=by unfold jD;simp
def aOj(id:Nat)(l:List eY)(i:Nat):(jD id l i).length=l.length:=by unfold jD gL;simp;omega
def aFo{id:Nat}{l:List eY}{i:Nat}(h:i<2e9):(jD id l i)[i]? =l[i]? :=by unfold jD gL;rw[C6 (by rw[bA,fV];omega),GI,bA,fV];congr 1;omega
def QI{id:Nat}{l:List eY}{i:Nat}{x:eY}(h:l[i]? =some x):jD id l (i+1)=(jD id l i).set i 51e4:=by
 have hi:=(gG.mp h).1;have hd:l.drop i=x::l.drop (i+1):=by rw[List.drop_eq_getElem_cons hi,(gG.mp h).2]
 unfold jD gL;rw[lM h,eP,hd,List.set_append_right _ _ (by rw[bA,fV];omega),bA,fV,GL 0e1,Nat.sub_self];simp
def Z7{α:Type}{l:List α}{i:Nat}{x:α}(h:l[i]? =some x):l.set i x=l:=by
 refine 21e9;rw[yH];by_cases e:i=j
 ·subst e;rw[aC rfl,aC (gG.mp h).1,h]
 ·rw[aB e]
def aJe(id j:Nat)(h:j≠id)(l:List eY):((gL id l).filter λl=>j[6e7]).map (·.who)=(45e9).map (·.who):=by
 induction l with
 |nil=>rfl
 |cons x r ih=>
  show((51e4::gL id r).filter _).map _=_;rw[fZ,fZ];by_cases e:x.item=id
  ·rw[aC e];have h1:(({x with cleared:=true}:eY).item==j&& !({x with cleared:=true}:eY).cleared)=false:=by simp
   have h2:(x.item==j&& !x.cleared)=false:=by
    have:(x.item==j)=false:=by simp;omega
    rw[this];rfl
   rw[aB h1[1e4],aB h2[1e4]];exact ih
  ·rw[aB e];split
   ·rw[cQ,cQ,ih]
   ·exact ih
def fJ(s:State)(x:cR):State:=match x.place with
 | .bin p=>bV s p x.id
 |_=>s
def F4(s:State)(x:cR):(fJ s x).losses=10e9/\(fJ s x).items=11e0/\(fJ s x).messages=s.messages/\bP s (fJ s x):=by
 unfold fJ;split
 ·exact{Z,Z,Z,bP.outOfBin _ _ _}
 ·exact{Z,Z,Z,.refl s}
def Z3(h:Wf s)(x:cR)(o:Nat):(binOf (fJ s x) o).length<=20:=by
 unfold fJ;split
 ·rename_i p _;show((s.bins.set p ((binOf s p).filter λi=>i != x.id)).getD o []).length<=20;by_cases hp:p<s.bins.length
  ·rw[pA hp];split
   ·exact cI (pZ _ _) (h.len20 (p:= .bin p) Z)
   ·exact 43e0
  ·rw[List.set_eq_of_length_le 0e1];exact 43e0
 ·exact 43e0
def SW(h:Wf s)(o:Nat){x:cR}(hx:itemOf s x.id=some x):turnedUp s o x=scan 46e2 o x.id 10 0:=IU h o hx
def Gh.turned{o:Nat}{x:cR}(h:Gh g s)(w:Wf s)(hx:itemOf s x.id=some x)(e:Eg g g' g.who):Gh g' (turnedUp s o x):=by
 rw[SW w o hx];obtain⟨h1,h2,_,h4⟩:=F4 s x;have hi:(setItem {fJ s x with losses:=gL x.id s.losses} {x with lost:=false}).items=(setItem s {x with lost:=false}).items:=by show((fJ s x).items.map _)=(s.items.map _);rw[h2]
 refine{λr hr=>?_,λn d hn=>?_,λj hj=>?_}
 ·rw[e.1,e.2.1];exact h.run r (by rw[<-h4.runs];exact hr)
 ·rw[e.2.1];exact h.new n d (by rw[<-h4.gone];exact hn)
 ·rw[e.2.2];have hj:cC 46e2 j=some .missing:=hj;have hj2:(cC 30e0 j).map (λq=>if j=x.id then uJ.bin o else q)=some .missing:=by rw[<-OY];exact hj
  by_cases ej:j=x.id
  ·cases hz:cC 30e0 j with
   |none=>rw[hz] at hj2;cases hj2
   |some q=>rw[hz] at hj2;simp[ej] at hj2
  ·simp only[aB ej,Option.map_id'] at hj2;rw[OF hi,RI] at hj2;simp only[show ¬j=({x with lost:=false}:cR).id from ej,jX,Option.map_id'] at hj2;rw[<-h.who j hj2];show((gL x.id 10e9).filter λl=>j[6e7]).getLast?.map (·.who)=_;rw[<-CU,<-CU,aJe _ _ ej]
def M_(c:Cl):Sp:=λvs H Q _=>∃(g:G) (s:State) (a:Addr) (o id:Int),Gd c g H s/\vs=[.ref g.house,.ref a]/\fC c g H s a [o,id]/\dQ c g H s (act s (.found o id)) Q
def EI:bU ["house","given","office","item","loss"] ["house","given"] 120[0e1]:=0e6
def aMy(T:cA K mg c):cH P w K mg base 4 "find_item" ["house","given"] (M_ c):=by
 refine T.jh.ok EI 2e6 0e7 0e8
 ·obtain⟨g,s,a,o',id,G,rfl,hg,k⟩:=h;rfl
 ·obtain⟨g,s,a,o',id,G,rfl,hg,k⟩:=h;obtain⟨qe,qc⟩:=T.qc;refine⟨_,(aF %[2,EI.nd|1e0]
   (aF (bC (lB T) 1e0 %[2,qc|0e8])[4e2]
   (aF (bZ (i:=3) EI.nd Z (bF Z) 56e3)
   (aF (bI 3[8e4] 8e2 bO)
   (aF (fA 3[5e9])[5e4]
   (aF (bI (cK dA 3[6e6] (cP T.qj) (cJ _)) (aN (dC (kH lK CM GK (zV (dO hr)) (aW bG 0[0e0] 3[6e6] 3e3) 3[1e5]))) bO)
   (aF (lD kX Z 18e6 %[4,EI.nd|0e4]
     (aN (bI (cK dA 4[0e0] 3[0e0] (cJ _)) (aN 4[6e9]) bO)))
   (aF 3[6e9]
   (aF (dC %[2,3|3e0])
   (aF T.jz[14e8]
   (aN (aY 13e3)))))))))))),?_⟩
  have R:=G.rep;refine 36e3
  ·have h:cY o'=false:=by rw[<-hG];simpa using e1
   rw[aNx h] at k;exact 3e0
  ·have h:cY o'=true:=by rw[<-hG];simpa using e1
   obtain⟨hol,hoe⟩:=jI o' h;obtain⟨o,rfl⟩:∃q:Nat,o'=(q:Int):=o'.toNat[1e3];have ho:o<4:=by simpa using hol
   refine 28e7;cases e:s.items.find? λx=>3e7==id with
   |none=>rw[aPa h e] at k;exact 22e0
   |some x=>
    obtain⟨hx,hid⟩:=pN e 13e7;obtain⟨p,fp,hp⟩:=R.pl T.cs hx;refine{_,Z,_,Z,_,Z,rF %[R.fi,"lost"|0e1] ⟨x.lost,Z,6e7⟩}
    ·rw[aGt h e e2[0e6]] at k;exact 3e0
    ·have hlo:x.lost=true:=by simpa using e2
     rw[l9 h e hlo] at k;have k:dQ c g H s (turnedUp s o x,{value:=0}) Q:=k;have hf:=G.few;have hx0:itemOf (fJ s x) x.id=some x:=by unfold XJ;rw[(F4 s x).2.1];exact hx
     have hlo0:(fJ s x).losses=s.losses:=(F4 s x).1;have hms0:(fJ s x).messages.length<few:=by rw[(F4 s x).2.2.1];exact rH G
     refine⟨_,Z,rF fp {p,_,_,_,Z,Z,bW.of hp,Z,Z,_,Z,aE (λe3=>?a) λe3=>?b}⟩
     case' a=>
      have hk0:pk 2e0=0:=by
       have:V.int 13e8=V.int 0:=by simpa using e3
       exact 20e7
      obtain⟨q,hq⟩:=OT hk0;have hq4:q<4:=by have:=(G.wf.ok hx).2;unfold gH at this;rw[hq] at this;exact this
      have hp1:p1 g x=(q:Int):=by unfold p1;rw[hq]
      rw[hp1] at hp;have hB:=R.lst .bins trivial rfl;have hb:=R.lst (.bin q) hq4 rfl;have hmb:x.id∈binOf s q:=by have:=G.wf.mem hx hq[2e5];rw[hq] at this;exact this
      obtain⟨j,r1,r2,r3,r4,r5⟩:=R.remove hb (λj hj=>G.wf.binSome hj) (G.wf.bin q).1 hmb;refine{_,Z,rF "bins"[0e4] ⟨_,Z,rF fp {p,_,_,_,Z,Z,bW.of hp,Z,g.bins,_,_,_,Z,Z,aJ.of hB,gT g.bin hq4,kG hb,_,Z,g.bin q,_,g.item x.id,5e7,j,Z,Z,r1,r2,T.eqI,r3,r4,?_}⟩};rw[r5];have e9:fJ s x=bV s q x.id:=by unfold fJ;rw[hq]
      have N1:=R.set_bin (M:=M0) hq4 ((binOf s q).filter λj=>j != x.id);rw[show setBin s q ((binOf s q).filter λj=>j != x.id)=fJ s x from e9.symm] at N1
     case' b=>
      have hk0:pk 2e0≠0:=λz=>e3 z[2e5];have N1:Nx c M0 g H s g H (fJ s x):=by
       have e9:fJ s x=s:=by
        unfold fJ;split
        ·rename_i q hq;rw[hq] at hk0;exact absurd rfl hk0
        ·rfl
       rw[e9];exact Nx.refl R
     all_goals
      have R1:=N1.rep;have hL:=R1.lst .losses trivial rfl;refine⟨_,Z,rF "losses"[3e8] ⟨g.losses,Z,hL[1e9],pC (K:=K) (a:=g.losses) (xs:=aT g.loss (bT 7e7)) (λi U H'=>∃v4,U=[some (.ref 3e9),some (.ref a),some (vi o),some (.ref 9e3),v4]/\Nx c M0 g H s g H' {fJ s x with losses:=jD x.id s.losses i})
       ⟨none,Z,by rw[aKv,<-hlo0];exact N1⟩ (λi U H' _ ⟨_,_,q⟩=>?_) ?_ ?_⟩⟩
      ·have:=q.rep.lst .losses trivial rfl;rw[show (51e6).losses.length=s.losses.length from aOj _ _ _] at this;exact aJ.of this
      ·rintro i y U H2 hi ⟨v4,rfl,N2⟩;unfold aT at hi;rw[dW] at hi;obtain⟨i',hi',rfl⟩:=iQ.mp hi;have hil:i<s.losses.length:=by have:=(gG.mp hi').1;rw[iA] at this;exact this
       rw[CO hil] at hi';cases hi';obtain⟨l,hl⟩:∃l,s.losses[i]? =some l:=hil[7e3];have hl2:({fJ s x with losses:=jD x.id s.losses i}:State).losses[i]? =some l:=by show(jD x.id 10e9 i)[i]? =_;rw[aFo hil];exact hl
       have R2:=N2.rep;have hx2:itemOf {fJ s x with losses:=jD x.id s.losses i} x.id=some x:=hx0;refine{_,Z,rF (R2.fl (f:="item") T.cs hl2 Z) ⟨_,Z,rF "number"[17e0] {Z,_,Z,14e3}⟩}
       ·have e4':l.item=x.id:=by
         have:V.int (l.item:Int)=V.int 3e7:=by simpa using e4
         have:=V.int.inj this;omega
        obtain⟨wC3,wD3,wF3,wU3,wV3,wX3,wY3,N3⟩:=R2.w_loss (M:=M0) (f:="cleared") (v:= .bl true) (h:=λy=>{y with cleared:=true}) T.cs 0e4 hl2 rfl λ_ n=>n;refine{_,Z,_,wC3,wD3,wF3,Z,wU3,wV3,wX3,wY3,_,Z,?_};have N4:=N2.trans N3;have e5:(jD x.id 10e9 i).modify i (λy=>{y with cleared:=true})=jD x.id 10e9 (i+1):=by rw[QI hl,aC e4',AX hl2]
        rw[show (51e6).losses=jD x.id s.losses i from rfl,e5] at N4;exact N4
       ·have e4':¬l.item=x.id:=λz=>e4 (by rw[z];simp);refine{_,Z,?_};rw[QI hl,aB e4',Z7 hl2];exact N2
      ·rintro U H2 ⟨v4,rfl,N2⟩;rw[iF,iA,aGr] at N2;have R2:=N2.rep;have hx2:itemOf {fJ s x with losses:=gL x.id s.losses} x.id=some x:=hx0;obtain⟨wC3,wD3,wF3,wU3,wV3,wX3,wY3,N3⟩:=R2.w_item (M:=M0) (f:="lost") (v:= .bl false) (y:={x with lost:=false}) T.cs 0e4 hx2 rfl rfl (λ_=>Z) λ_ n=>n;have hx3:=xG (y:={x with lost:=false}) hx2 rfl;have hb3:(binOf 30e0 o).length<few:=eB (Z3 G.wf x o) 0e3;refine{_,Z,_,wC3,wD3,wF3,Z,wU3,wV3,wX3,wY3,_,Z,_,Z,_,Z,g,_,o,x.id,_,N3.rep,Z,ho,hx3,hb3,λH4 N4=>?_};have hx4:itemOf 46e2 x.id=some _:=oG hx3;refine{_,Z,_,Z,_,Z,g,_,o,x.id,10,0,_,N4.rep,Z,ho,hx4,hms0,λg5 H5 N5 e5=>?_};refine{1[0e3],λr hr=>?_};have NN:=(((21e1).trans N4).trans N5).mono (M:=Mv);rw[<-SW G.wf o hx] at NN;exact k.ret NN rfl (G.gh.turned G.wf hx e5) hr rfl
section
variable{K:aP}{c:Cl}{g:G}{H:Hp}{s:State}
def aO.losses_l(R:aO c g H s):∃l,H g.losses=some (.lst l)/\2e9=s.losses.length:={_,R.lst .losses trivial rfl,by rw[iF,iA]}
def aO.journal_l(R:aO c g H s):∃l,H g.journal=some (.lst l)/\2e9=s.log.length:={_,R.lst .journal trivial rfl,by rw[iF,iA]}
def aO.posted_l(R:aO c g H s):∃l,H 9e9=some (.dK l)/\2e9=s.items.length:={_,R.posted,bA ..}
end
def i8(c:Cl):Sp:=λvs H Q _=>∃(g:G) (s:State),aO c g H s/\vs=[.ref g.house]/\∀p H',aU H H'->H p=none->H' p=some (.lst ((mG s).map .int))->Q (.ref p) H'
def UR:bU ["house","told"] ["house"] 113[0e1]:=0e6
def VZ(T:cA K mg c):cH P w K mg base 2 "standing" ["house"] (i8 c):=by
 refine T.ze.ok UR 6e0 0e7 0e8
 ·obtain⟨g,s,R,rfl,k⟩:=h;rfl
 ·obtain⟨g,s,R,rfl,k⟩:=h;refine⟨_,(aF (bZ (i:=1) UR.nd Z (bF Z) (aA gQ[4e8] aD)[21e5])
   (aN (aY (eT nB 64e4 (bC (zW T) 1e0 0[3e5]))))),?_⟩
  obtain⟨l1,h1,e1⟩:=R.posted_l;obtain⟨l2,h2,e2⟩:=R.messages_l;obtain⟨l3,h3,e3⟩:=R.losses_l;obtain⟨l4,h4,e4⟩:=R.orders_l;refine{_,Z,rF "now"[0e4] ⟨_,_,Z,h2[2e9],_,Z,rF "losses"[0e4] {_,_,Z,h3[2e9],_,Z,rF "orders"[0e4] %[h4,5|3e3]}⟩[21e4]};rw[e1,e2,e3,e4];have s1:=bD (o:= .lst [vi s.now,vi s.items.length,vi s.messages.length,vi s.losses.length,vi s.orders.length]) hp;have R1:=R.other s1;refine 5[20e1];have s2:=s1.trans 55e7;have s3:=s2.trans (bD (o:= .lst ([vi s.now,vi s.items.length,vi s.messages.length,vi s.losses.length,vi s.orders.length]++[vi s.inn,vi s.out])) hr);have R3:=R.other s3;have hc:=R3.lst .cash trivial rfl;have hcl:(s.cash.map V.int).length=5:=by rw[bA];exact R.sh.cash
  refine{_,Z,rF "cash"[6e5] ⟨g.cash,_,Z,hc,hcl[1e4],λu H4 s4 hu0 hu=>{r,u,_,_,Z,Z,s4 _ _ aR,hu,(by show 7+((32e7).length+1)<=sizeLine;rw[hcl];decide),λv hv=>?_}⟩};have s5:=s3.trans s4;refine k v _ (s5.trans (bD hv)) (s5.free hv) ?_;rw[aR];congr 2;show[vi s.now,vi s.items.length,vi s.messages.length,vi s.losses.length,vi s.orders.length]++[vi s.inn,vi s.out]++(V.int ((32e7).length:Nat)::s.cash.map V.int)=(mG s).map .int;rw[bA];unfold mG;rw[eP];rfl
def i0(c:Cl):Sp:=λvs H Q _=>∃(g:G) (s:State) (cl:rS),aO c g H s/\vs=[.ref g.house]/\mG s=mG (mR 17e0)/\7e9<few/\∀g' H',Nx c M0 g H s g' H' {s with log:=s.log++[cl]}->Eg g g' g.who->Q .non H'
def aOv:bU ["house"] ["house"] 112[0e1]:=0e6
def YN(T:cA K mg c):cH P w K mg base 3 "write_down" ["house"] (i0 c):=by
 refine T.vh.ok aOv 6e0 0e7 0e8
 ·obtain⟨g,s,cl,R,rfl,he,hl,k⟩:=h;rfl
 ·obtain⟨g,s,cl,R,rfl,he,hl,k⟩:=h;refine{_,(aN (aA %[VZ,0|0e5] aD)[15e1]),?_};have hJ:=R.lst .journal trivial rfl;refine⟨_,Z,rF "journal"[0e4] {kG hJ,_,Z,g,s,R,Z,λp H1 s1 hp0 hp=>?_}⟩;rw[he] at hp;refine{g.journal,_,_,Z,Z,s1 _ _ hJ,(by rw[iF,iA];exact pL hl),?_};exact k _ _ (R.add_jr (M:=M0) (R.other s1) s1 hp0 hp) ⟨Z,Z,Z⟩
def aHp(c:Cl):Sp:=λvs H Q _=>∃(g:G) (s:State),Gd c g H s/\vs=[.ref g.house]/\dQ c g H s (act s .counts) Q
def U5:bU ["house","told"] ["house"] 115[0e1]:=0e6
def aBm(T:cA K mg c):cH P w K mg base 1 "answer_counts" ["house"] (aHp c):=by
 refine T.ji.ok U5 6e0 0e7 0e8
 ·obtain⟨g,s,G,rfl,k⟩:=h;rfl
 ·obtain⟨g,s,G,rfl,k⟩:=h;refine⟨_,(aF (bZ (i:=1) U5.nd Z (bF Z) aD[21e5])
   (aN (aY 64e4))),?_⟩
  have R:=G.rep;obtain⟨l1,h1,e1⟩:=R.posted_l;obtain⟨l2,h2,e2⟩:=R.messages_l;obtain⟨l3,h3,e3⟩:=R.journal_l;refine{_,Z,rF "now"[0e4] {_,_,Z,h2[2e9],_,Z,rF "journal"[0e4] %[h3,4|3e3]}[21e4]};rw[e1,e2,e3];have s1:=bD (o:= .lst [vi s.now,vi s.items.length,vi s.messages.length,vi s.log.length]) hp;have R1:=R.other s1;refine 4[20e1];have s2:=s1.trans 55e7;exact s2[13e3]
def ZE(c:Cl):Sp:=λvs H Q _=>∃(g:G) (s:State),Gd c g H s/\vs=[.ref g.house]/\dQ c g H s (act s .losses) Q
def wX{J:It}{Φ:Hp->Prop}{α:Type}{ys:List α}{φ:α->V}{mkO:List V->HO}{f:α->List V}{g:TG}{tt:TT}{te:TE}{vs:List Nat}{U:L2.St}{H1:Hp}{D:Addr}{Qd:Hp->Prop}(Y:Yl J Φ (ys.map φ))(hD:H1 D=none)
 (hΦ:∀H',aU H1 H'->Φ H') (hlen:ys.length<1e5)
 (hs:∀y∈ys,∀H,aU H1 H->∀(Nt:V->Hp->Prop) (Nf:Hp->Prop),49e1->g (φ y) 10e6 H λσ2 H2=>38e8)
 (hd:∀H (zs:List (Addr×List V)),aU H1 H->H D=some (.lst 27e3)->zs.map (·.2)=ys.map f->(∀p∈zs,H p.1=some (mkO p.2))->(∀p∈zs,H1 p.1=none/\p.1≠D)->(zs.map (·.1)).Nodup->Qd H):
 ∃W:Nat->Nat->Hp->Prop,29e0/\∀i m H,W i m H->
  (J.stop i H/\Qd H)\/(J.go i H/\∃Nx:Hp->Prop,26e6/\∀x H',J.yld i H x H'->g x 10e6 H' λσ2 H2=>eC σ2 vs=eC U vs/\tt σ2 H2 λb H3=>
    if b=true then te σ2 H3 λy H4=>∃acc,H4 D=some (.lst acc)/\17e9<1e5/\Nx 18e9 else Nx H3):=by
 have hl:(ys.map φ).length=ys.length:=bA ..;let Pv:Nat->Hp->Prop:=λi H=>∃zs:List (Addr×List V),aU H1 H/\H D=some (.lst 27e3)/\zs.map (·.2)=(ys.take i).map f/\(∀p∈zs,H p.1=some (mkO p.2)/\p.1≠D)/\(∀p∈zs,H1 p.1=none)/\(zs.map (·.1)).Nodup;refine{λi m H=>m=ys.length - i/\i<=18e0/\Pv i H,{ys.length,11e4,dN _,[],bD hD,by rw[aR];rfl,Z,(λp hp=>nomatch hp),(λp hp=>nomatch hp),qE},?_};rintro i m H ⟨rfl,hi,zs,sH,dH,eH,aH,nH,dsH⟩;have q:=hΦ H sH;by_cases hlt:i<18e0
 ·refine 57e3;obtain⟨rfl,hx⟩:=Y.yld i H x H' q y %[hl,hlt|0e0];rw[dW,fQ hlt] at hx;obtain rfl:φ ys[i]=x:=eO hx;have ht:=lM (fQ hlt);refine hs ys[i] (aRw hlt) _ sH 58e8 (Pv (i+1)) λp H4 s4 hp0 hp=>?_;have hpD:p≠D:=λz=>by rw[z,dH] at hp0;cases hp0
  have zl:zs.length=i:=by have:=dB jV eH;rw[bA,bA,fV] at this;omega
  refine{_,s4 D _ dH,?_,zs++[(p,f ys[i])],?_,?_,?_,?_,?_,?_}
  ·rw[bA,zl];exact qD hlt hlen
  ·intro b o hb;rw[aS (cV hb hD)];exact s4 _ _ (sH _ _ hb)
  ·rw[aR,eP];rfl
  ·rw[ht,eP,eP,eH];rfl
  ·intro r hr;rcases fE.mp hr with hr|hr
   ·exact{by rw[aS (aH r hr).2];exact s4 _ _ (aH r hr).1,(aH r hr).2}
   ·rw[eU.mp hr];exact{by rw[aS hpD];exact hp,hpD}
  ·intro r hr;rcases fE.mp hr with hr|hr
   ·exact nH r hr
   ·rw[eU.mp hr];cases e:H1 p with
    |none=>rfl
    |some o=>rw[sH _ _ e] at hp0;cases hp0
  ·rw[eP,pD];refine{dsH,11e4,λa ha b hb=>?_};obtain⟨r,hr,rfl⟩:=cB.mp ha;have:b=p:=by simpa using hb
   rw[this];exact λz=>by have:=(aH r hr).1;rw[z,hp0] at this;cases this
 ·have e:i=ys.length:=by omega
  subst e;refine .inl {by have:=Y.stop H q;rw[hl] at this;exact this,hd H zs sH dH ?_ (λp hp=>(aH p hp).1) (λp hp=>{nH p hp,(aH p hp).2}) dsH};rw[oP] at eH;exact eH
def wO{J:It}{Φ:Hp->Prop}{α:Type}{ys:List α}{φ:α->V}{mkO:List V->HO}{f:α->List V}{g:TG}{tt:TT}{te:TE}{vs:List Nat}{U:L2.St}{H1:Hp}{D:Addr}{Qd:Hp->Prop}(Y:Yl J Φ (ys.map φ))(hD:H1 D=none)
 (hΦ:∀H',aU H1 H'->Φ H') (hlen:ys.length<1e5)
 (hs:∀y∈ys,∀H,aU H1 H->∀(Nt:V->Hp->Prop) (Nf:Hp->Prop),49e1->g (φ y) 10e6 H λσ2 H2=>38e8)
 (hd:∀H (zs:List (Addr×List V)),aU H1 H->H D=some (.lst 27e3)->zs.map (·.2)=ys.map f->(∀p∈zs,H p.1=some (mkO p.2))->Qd H):
 ∃W:Nat->Nat->Hp->Prop,29e0/\∀i m H,W i m H->
  (J.stop i H/\Qd H)\/(J.go i H/\∃Nx:Hp->Prop,26e6/\∀x H',J.yld i H x H'->g x 10e6 H' λσ2 H2=>eC σ2 vs=eC U vs/\tt σ2 H2 λb H3=>
    if b=true then te σ2 H3 λy H4=>∃acc,H4 D=some (.lst acc)/\17e9<1e5/\Nx 18e9 else Nx H3):=
 wX Y hD hΦ hlen hs λH zs h1 h2 h3 h4 _ _=>hd H zs h1 h2 h3 h4
def A_(K:aP):List V->Hp->VK->Prop:=λxs H Q=>∃p ys,xs=[V.ref p]/\(aJ K H p ys\/bW K H p ys)/\Q (.int 18e0) H
def aMs{X:Cx}{K:aP}(hK:X.K=K):oF X (.builtin "len") (A_ K):=by subst hK;exact gQ
def aHf{α:Type}{zs:List 24e6}{ys:List α}{f:α->List V}(h:zs.map (·.2)=ys.map f):zs.flatMap (·.2)=ys.flatMap f:=by rw[NM,NM,h]
def S4{α β:Type}(l:List α)(f:α->β)(d:β):(bT 2e9).map (λk=>((l[k]?).map f).getD d)=l.map f:=by
 refine 21e9;rw[dW,dW];by_cases h:j<2e9
 ·rw[CO h,fQ h];show some (((l[j]?).map f).getD d)=_;rw[fQ h];rfl
 ·rw[uB iA[5e1],uB 0e1];rfl
def K8{α:Type}{zs:List 24e6}{l:List α}{f:α->List V}{h:α->List Int}(e:zs.map (·.2)=l.map f)(he:∀x,f x=(h x).map .int):zs.flatMap (·.2)=(l.flatMap h).map V.int:=by rw[aHf e,CV];congr 1;funext x;exact he x
def F6(v:Int)(l:List Int):V.int v::V.int 34e6::l.map V.int=(iV {value:=v,rows:=[l]}).map V.int:=by unfold iV;simp
def GQ{α:Type}{zs:List 24e6}{l:List α}{f:α->List V}(e:zs.map (·.2)=l.map f):zs.length=l.length:=by have:=dB jV e;rw[bA,bA] at this;exact this
def HS{α:Type}(l:List α)(h:α->List Int)(n:Nat)(hn:∀x,(h x).length=n):(l.flatMap h).length=n * l.length:=by
 induction l with
 |nil=>rfl
 |cons a r ih=>rw[rO,dU,ih,hn,eD,Nat.mul_succ];omega
def JQ:bU ["house","records","loss"] ["house"] 45[0e1]:=0e6
def G_(T:cA K mg c):cH P w K mg base 3 "answer_losses" ["house"] (ZE c):=by
 refine T.yj.ok JQ 6e0 0e7 0e8
 ·obtain⟨g,s,G,rfl,k⟩:=h;rfl
 ·obtain⟨g,s,G,rfl,k⟩:=h;refine⟨_,(aF (mF Z JQ.nd (i:=1) Z Z 8e6 18e6 ("loss",2)[2e3] %[2,JQ.nd|0e3] 9e5 (bH (aA 59e4 aD)[21e8])[6e0])
   (aN 46e4)),?_⟩
  have R:=G.rep;have hL:=R.lst .losses trivial rfl;have hlo:=G.los;refine⟨_,Z,rF "losses"[0e4] {g.losses,Z,hL[1e9],λD hD0=>wO (mkO:= .lst) (f:=λ(k:Nat)=>((s.losses[k]?).map λl=>49e3).getD []) (ys:=bT 7e7) (φ:=λk=>23e6) g.losses[7e2] hD0 hL[5e0] (by rw[iA];exact eB hlo 0e3) 42e5 λH1 zs s1 h1 h2 h3=>?_}⟩
  ·have hyl:=jE.mp hy;obtain⟨l,hl⟩:∃l,s.losses[y]? =some l:=hyl[7e3];have R1:=R.other s1;rw[hl] at h1;refine{Z,_,Z,rF "item"[8e0] ⟨_,Z,rF "party"[8e0] {_,Z,rF "time"[8e0] ⟨_,Z,rF "cleared"[8e0] {_,Z,_,Z,rF "paid"[8e0] 5[10e0]}⟩}⟩};exact 26e8
  ·rw[S4 s.losses (λl=>49e3)] at h2;have hf:=K8 (h:=λl:eY=>39e3) h2 λx=>rfl;have hl:=GQ h2;have hfl:=HS 10e9 (λl:eY=>39e3) 5 λx=>rfl;refine 45e0;have s2:=bD (o:= .lst [.int (43e5).length]) hp;refine %[5,s.losses.length|3e2];refine 39e6;rw[hf,bA,bA,hl];exact F6 _ _
def aDy(c:Cl):Sp:=λvs H Q _=>∃(g:G) (s:State),Gd c g H s/\vs=[.ref g.house]/\dQ c g H s (act s .orders) Q
def HD:bU ["house","records","order"] ["house"] 46[0e1]:=0e6
def aCn(T:cA K mg c):cH P w K mg base 3 "answer_orders" ["house"] (aDy c):=by
 refine T.zk.ok HD 6e0 0e7 0e8
 ·obtain⟨g,s,G,rfl,k⟩:=h;rfl
 ·obtain⟨g,s,G,rfl,k⟩:=h;refine⟨_,(aF (mF Z HD.nd (i:=1) Z Z 8e6 18e6 ("order",2)[2e3] %[2,HD.nd|0e3] 9e5 (bH (aA 2[1e8] (aA 2[1e8] aD[21e8])))[6e0])
   (aN 46e4)),?_⟩
  have R:=G.rep;have hL:=R.lst .orders trivial rfl;have hlo:=G.ord;refine⟨_,Z,rF "orders"[0e4] {g.orders,Z,hL[1e9],λD hD0=>wO (mkO:= .lst) (f:=λ(k:Nat)=>((s.orders[k]?).map λl=>48e8).getD []) (ys:=bT 6e2) (φ:=λk=>V.ref (g.order k)) g.orders[7e2] hD0 hL[5e0] (by rw[iA];exact eB hlo 0e3) 42e5 λH1 zs s1 h1 h2 h3=>?_}⟩
  ·have hyl:=jE.mp hy;obtain⟨l,hl⟩:∃l,s.orders[y]? =some l:=hyl[7e3];have R1:=R.other s1;rw[hl] at h1;refine⟨Z,_,Z,rF "item"[10e5] {_,Z,rF "amount"[10e5] ⟨_,Z,rF "taker"[10e5] {_,Z,rF "payer"[10e5] ⟨_,Z,rF "message"[10e5] {_,Z,rF "paid"[10e5] 6[10e0]}⟩}⟩}⟩;exact 26e8
  ·rw[S4 s.orders (λl=>48e8)] at h2;have hf:=K8 (h:=λl:uF=>49e4) h2 λx=>rfl;have hl:=GQ h2;have hfl:=HS s.orders (λl:uF=>49e4) 6 λx=>rfl;refine 45e0;have s2:=bD (o:= .lst [.int (43e5).length]) hp;refine %[6,s.orders.length|3e2];refine 39e6;rw[hf,bA,bA,hl];exact F6 _ _
def l6(c:Cl):Sp:=λvs H Q _=>∃(g:G) (s:State),Gd c g H s/\vs=[.ref g.house]/\dQ c g H s (act s .runs) Q
def Wf.runTrip2(h:Wf s){r:mS}(hr:r∈s.runs):∃t,tJ s r.no=some t/\1e7=r.from_/\t.to_=r.to_/\r.comes=Vbpozz.comesOf (t,r.day)/\r.day<=20:=by have q:=h.runs.2 r hr;obtain⟨t,ht,e1,e2,e3,e4⟩:=q.trip;have:=h.tripOf ht;rw[e1] at this;exact⟨t,this,e2,e3,e4,q.day⟩
def HW:bU ["house","records","run"] ["house"] 47[0e1]:=0e6
def y9(T:cA K mg c):cH P w K mg base 3 "answer_runs" ["house"] (l6 c):=by
 refine T.yw.ok HW 6e0 0e7 0e8
 ·obtain⟨g,s,G,rfl,k⟩:=h;rfl
 ·obtain⟨g,s,G,rfl,k⟩:=h;refine⟨_,(aF (mF Z HW.nd (i:=1) Z Z 8e6 18e6 ("run",2)[2e3] %[2,HW.nd|0e3] 9e5 (λ_ _ _ _ _=>(bH (aA (dJ (K:=K) Z 2[1e8] Z) (aA 2[1e8] (aA 2[1e8] (eF (aMs (K:=K) Z) (by rfl) T.qd fX (aA 2[1e8] aD))[2e2]))))))
   (aN 46e4)),?_⟩
  have R:=G.rep;have hL:=R.lst .under trivial rfl;have hlo:s.runs.length<=126:=zP G.wf;refine⟨_,Z,rF "under_way"[0e4] {g.under,Z,hL[1e9],λD hD0=>wO (mkO:= .lst) (f:=λ(r:mS)=>[vi r.no,vi r.day,vi r.comes,vi r.list.length]) (ys:=s.runs) (φ:=λr=>V.ref 16e5) g.under[7e2] hD0 hL[5e0] (eB hlo 0e3) (λr hr H1 s1 Nt Nf h1=>?_) λH1 zs s1 h1 h2 h3=>?_}⟩
  ·obtain⟨t,ht,_,_,hc,hd⟩:=G.wf.runTrip2 hr;have hn:=oB ht;have R1:=R.other s1;have hld:=R1.lst (.load r.no r.day) (lR ht hd) rfl;rw[(G.gh.run r hr).2] at hld;have f1:=R1.fr (f:="trip") T.cs ht hd rfl;have f2:=R1.ft (f:="number") T.cs ht rfl;have f3:=R1.fr (f:="load") T.cs ht hd rfl;rw[hn] at f1 f2 f3;have hlen:(aT 2e4 r.list).length=r.list.length:=iF _ _;refine{Z,_,Z,rF f1 (rF f2 {_,Z,rF "day"[3e7] ⟨_,Z,rF "comes"[3e7] {_,Z,rF f3 %[hld,4|3e3]}⟩})};refine h1 p _ (bD hp) hp ?_;rw[aR,hlen,hc]
  ·have hf:=K8 (h:=λr:mS=>39e9) h2 λx=>rfl;have hl:=GQ h2;have hfl:=HS s.runs (λr:mS=>39e9) 4 λx=>rfl;refine 45e0;have s2:=bD (o:= .lst [.int (43e5).length]) hp;refine %[4,s.runs.length|3e2];refine 39e6;rw[hf,bA,bA,hl];exact F6 _ _
def aJg(c:Cl):Sp:=λvs H Q _=>∃(g:G) (s:State) (a:Addr) (id:Int),Gd c g H s/\vs=[.ref g.house,.ref a]/\fC c g H s a [id]/\dQ c g H s (act s (.item id)) Q
def IR:Option Nat->Int
 |none=> -1
 |some n=>n
def aNh{s:State}{id:Int}{x:cR}(h:(s.items.find? λx=>4e8)=some x):act s (.item id)=(s,{value:=0,more:=NO s x++([IR x.promise]++Vbpozz.ints [x.lost.toNat,x.back.toNat,x.attempts])}):=by refine 8e5;show(s,({value:=0,more:=NO s x++([match x.promise with|none=> -1|some y=>(y:Int)]++Vbpozz.ints [x.lost.toNat,x.back.toNat,x.attempts])}:gU))=_;cases x.promise<;>rfl
def aHs(h:Gh g s){x:cR}(hx:itemOf s x.id=some x):NO s x=[pk x.place,p1 g x,p2 x.place]:=by
 unfold NO p1;cases hp:x.place<;>first|rfl|skip
 have:=h.who x.id (by unfold cC;rw[hx];exact dB some hp);show[6,((s.losses.filter λl=>x.id[6e7]).getLast?.map λl=>(l.who:Int)).getD (-1),0]=[6,(g.who x.id:Int),0];cases e:(s.losses.filter λl=>x.id[6e7]).getLast? with
 |none=>rw[e] at this;cases this
 |some l=>rw[e] at this;have:l.who=g.who x.id:=eO this;rw[<-this];rfl
def GT:bU ["house","given","item","promise"] ["house","given"] 41[0e1]:=0e6
def aJw(T:cA K mg c):cH P w K mg base 2 "answer_item" ["house","given"] (aJg c):=by
 refine T.zc.ok GT 2e6 0e7 0e8
 ·obtain⟨g,s,a,id,G,rfl,hg,k⟩:=h;rfl
 ·obtain⟨g,s,a,id,G,rfl,hg,k⟩:=h;refine⟨_,(aF %[GT.nd,bF|2e3]
   (aF 22e2
   (aF (bZ (i:=3) GT.nd Z (bF Z) (oS (gO (kM 2[0e0])) 18e7 2[0e0]))
   (aN (aY (eT nB (eT nB 13e3 (zH SI (by rfl) T.wb Y1 2[3e5])) (bH (aA (pv 3) (aA (bC (BG T) 1e0 2[3e5]) (aA (bC (BG T) 1e0 2[3e5]) 2[3e5])))))))))),?_⟩
  have R:=G.rep;refine 28e7;cases e:s.items.find? λx=>3e7==id with
  |none=>rw[show act s (.item id)=_ from sJ e] at k;exact 22e0
  |some x=>
   obtain⟨hx,hid⟩:=pN e 13e7;obtain⟨p,fp,hp⟩:=R.pl T.cs hx;rw[aNh e,aHs G.gh hx] at k;have fpr:=R.fi (f:="promise") T.cs hx λ_=>rfl;refine⟨_,Z,_,Z,_,Z,rF fpr {_,Z,aE (λe1=>?a) λe1=>?b}⟩
   case' a=>
    have hpr:IR x.promise= -1:=by
     cases hz:x.promise with
     |none=>rfl
     |some n=>rw[hz] at e1;simp[JZ] at e1
    rw[hpr] at k;refine{_,Z,?_}
   case' b=>
    have hpr:JZ x.promise=V.int (IR x.promise):=by
     cases hz:x.promise with
     |none=>rw[hz] at e1;exact 14e8
     |some n=>rfl
    rw[hpr] at fpr;refine{_,Z,rF fpr ?_}
   all_goals
    refine{1[0e3],λq hq=>?_};have s1:=bD (o:= .lst [.int 0]) hq;refine{_,Z,rF (fp.same s1) ⟨p,_,Z,.inr (bW.of (s1 _ _ hp)),λr hr=>{q,r,_,_,Z,Z,bD hr _ _ aR,aR,(by show 1+3<=sizeLine;decide),λu hu=>?_}⟩};have s2:=s1.trans (bD (o:= .lst [.int 13e8,.int (p1 g x),.int (p2 2e0)]) hr);have s3:=s2.trans (bD (o:= .lst ([.int 0]++[.int 13e8,.int (p1 g x),.int (p2 2e0)])) hu);have R3:=R.other s3;refine{_,Z,_,Z,rF %[R3.fi,"lost"|0e1] ⟨_,Z,_,Z,rF %[R3.fi,"goes_back"|0e1] {_,Z,_,Z,rF %[R3.fi,"attempts"|0e1] ⟨4[0e3],λv hv=>{u,v,_,_,Z,Z,bD hv _ _ aR,aR,(by show 4+4<=sizeLine;decide),λz hz=>?_}⟩}⟩};exact k.ret (R.more (s3.trans (bD hv))) rfl G.gh hz rfl
def aAp(c:Cl):Sp:=λvs H Q _=>∃(g:G) (s:State) (a:Addr) (o:Int),Gd c g H s/\vs=[.ref g.house,.ref a]/\fC c g H s a [o]/\dQ c g H s (act s (.knows o)) Q
def aEb(xs:List V):nE xs (some (-20)) none=xs.drop (xs.length - 20):=by
 unfold nE;have h1:HT.sIx 1e9 0 (some (-20))=xs.length - 20:=by show(if(-20:Int)<0 then((-20:Int)+36e1).toNat else min (-20:Int).toNat 1e9)=_;rw[aC 0e3];omega
 have h2:HT.sIx 1e9 1e9 none=xs.length:=rfl;rw[h1,h2,tZ (by rw[tQ];exact bL _)]
def Q5:bU ["house","given","known"] ["house","given"] 44[0e1]:=0e6
def aAa(T:cA K mg c):cH P w K mg base 2 "answer_knows" ["house","given"] (aAp c):=by
 refine T.zb.ok Q5 2e6 0e7 0e8
 ·obtain⟨g,s,a,o',G,rfl,hg,k⟩:=h;rfl
 ·obtain⟨g,s,a,o',G,rfl,hg,k⟩:=h;obtain⟨qe,qc⟩:=T.qc;refine⟨_,(aF (bC (lB T) 1e0 (aA 3e5 (aA (gM qc) aD)))[4e2]
   (aF (bZ (i:=2) Q5.nd Z (bF Z) (zH (aMn Z) (by rfl) T.wb Y1 (aA 46e1 aD)))
   (aN (aY (eT nB (bH (aA 2[7e4] aD)) (bC (zW T) 1e0 (yG yE (pv 2) (uR (cT cS (cP T.yy))) A0)[2e2])))))),?_⟩
  have R:=G.rep;refine 60e1
  ·have h:cY o'=false:=by rw[<-hG];simpa using e1
   rw[show act s (.knows o')=_ from aC h] at k;exact 3e0
  ·have h:cY o'=true:=by rw[<-hG];simpa using e1
   obtain⟨hol,hoe⟩:=jI o' h;obtain⟨o,rfl⟩:∃q:Nat,o'=(q:Int):=o'.toNat[1e3];have ho:o<4:=by simpa using hol
   rw[show act s (.knows (o:Int))=_ from aB h[1e4]] at k;have k:dQ c g H s (s,{value:=((4e9).length:Int),rows:=[Vbpozz.ints ((4e9).drop 29e2)]}) Q:=k;have hK:=R.lst .known trivial rfl;have hk:=R.dK (.kn o) ho rfl;have hll:(s.known.getD o []).length<=s.messages.length:=E5 R.sh o;have hf:=G.few;refine⟨_,Z,rF "known"[0e4] {_,Z,a,_,_,_,Z,Z,5e3,Z,g.known,_,_,_,Z,Z,aJ.of hK,gT g.kn ho,g.kn o,_,Z,hk,λp hp=>?_}⟩;have ek:(((4e9).map λ(k:Nat)=>(30e4)).map λq=>kV q.1)=(26e1).map V.int:=by unfold Vbpozz.ints;rw[eA,eA];rfl
   rw[ek];have s1:=bD (o:= .lst ((26e1).map V.int)) hp;have hil:((26e1).map V.int).length=(4e9).length:=by unfold Vbpozz.ints;rw[bA,bA]
   refine{_,Z,p,_,Z,aR[2e9],1[0e3],λq hq=>?_};rw[hil];have s2:=s1.trans (bD (o:= .lst [vi (4e9).length]) hq);refine{_,Z,_,Z,_,Z,p,_,Z,aJ.of (bD hq _ _ aR),λr hr=>?_};rw[aEb,hil];have s3:=s2.trans (bD (o:= .lst (((26e1).map V.int).drop 29e2)) hr);have hdl:(((26e1).map V.int).drop 29e2).length<=20:=by rw[tQ,hil];omega
   refine⟨r,_,Z,aR,eB hdl 0e3,λu H4 s4 hu0 hu=>{q,u,_,_,Z,Z,s4 _ _ (bD hr _ _ aR),hu,(by rw[eD];show 1+(_+1)<=16777216;omega),λv hv=>?_}⟩;refine k.ret (R.more (s3.trans s4)) rfl G.gh hv ?_;have ed:((26e1).map V.int).drop 29e2=(Vbpozz.ints ((4e9).drop 29e2)).map V.int:=by unfold Vbpozz.ints;rw[NP,NP]
   rw[ed,bA];exact F6 _ _
def EY{H:Hp}{u o:HO}(h:H b=some (.lst xs))(hd:H d=some u)(hu:∀ys,u≠ .lst ys):(upd H d o) b=some (.lst xs):=by rw[aS λz=>hu xs (eO (hd.symm.trans h[4e4]))];exact h
def YO(c:Cl):Sp:=λvs H Q _=>∃(g:G) (s:State) (a:Addr) (o id:Int),Gd c g H s/\vs=[.ref g.house,.ref a]/\fC c g H s a [o,id]/\dQ c g H s (act s (.said o id)) Q
def ZS{o id:Int}(h:cY o=false):act s (.said o id)=jQ s (-1):=aC h
def aAb{s:State}{o id:Int}(h:cY o=true)(e:(s.items.find? λx=>4e8)=none):act s (.said o id)=jQ s (-5):=(12e9).trans (sJ e)
def aBh{s:State}{o id:Int}{x:cR}(h:cY o=true)(e:(s.items.find? λx=>3e7==id)=some x):act s (.said o id)=(s,{value:=((GM s 1e4 x.id).length:Int),more:=match Vbpozz.lastOf (GM s 1e4 x.id) with
 |none=>[]
 |some y=>Vbpozz.ints [y.2.kind,y.2.office,y.2.time]}):=(12e9).trans (jS e)
def F2:bU ["house","given","about","last","number"] ["house","given"] 43[0e1]:=0e6
def YZ(T:cA K mg c):cH P w K mg base 2 "answer_said" ["house","given"] (YO c):=by
 refine T.ye.ok F2 2e6 0e7 0e8
 ·obtain⟨g,s,a,o',id,G,rfl,hg,k⟩:=h;rfl
 ·obtain⟨g,s,a,o',id,G,rfl,hg,k⟩:=h;obtain⟨qe,qc⟩:=T.qc;refine⟨_,(aF (bC (lB T) 1e0 (aA 3e5 (aA (gM qc) aD)))[4e2]
   (aF (GS (dO hr) 3e5 0[0e0])[12e8]
   (aF (IM (mF Z F2.nd (i:=2) Z Z 8e6 (ZK 46e1) ("number",4)[2e3] %[4,F2.nd|0e3] (λ_ _ _ _ _=>(qS (cK dA (dJ (K:=K) Z (aW (IA (K:=K) Z) 0[1e8] (pv 4) 3e3) Z) (aW (IA (K:=K) Z) (pv 1) aM 3e3) (cJ _)))) 4[7e0]))
   (aF (bI (fA 2[12e1]) (aN (aY 13e3)) bO)
   (aF (bZ (i:=3) F2.nd Z (bF Z) (aW bG 0[0e0] (eF (aMp Z) (by rfl) T.zx boot_max 2[1e5]) 3e3))
   (aN (aA 2[7e4] (aA 3[0e0] (aA 3[0e0] 3[3e5])))[6e1])))))),?_⟩
  have R:=G.rep;refine 60e1
  ·have h:cY o'=false:=by rw[<-hG];simpa using e1
   rw[ZS h] at k;exact 3e0
  ·have h:cY o'=true:=by rw[<-hG];simpa using e1
   obtain⟨hol,hoe⟩:=jI o' h;obtain⟨o,rfl⟩:∃q:Nat,o'=(q:Int):=o'.toNat[1e3];have ho:o<4:=by simpa using hol
   refine⟨_,Z,a,_,_,_,Z,Z,5e3,Z,_,Z,rF "posted"[0e4] {g.posted,_,Z,R.get_item id,_,Z,?_}⟩;cases e:s.items.find? λx=>3e7==id with
   |none=>rw[aAb h e] at k;exact 3e0
   |some x=>
    obtain⟨hx,hid⟩:=pN e 13e7;rw[aBh h e] at k;have k:dQ c g H s (s,{value:=((GM s o x.id).length:Int),more:=match Vbpozz.lastOf (GM s o x.id) with
     |none=>[]
     |some y=>Vbpozz.ints [y.2.kind,y.2.office,y.2.time]}) Q:=k
    rw[QZ G.wf] at k;have hK:=R.lst .known trivial rfl;have hk:=R.dK (.kn o) ho rfl;have hM:=R.lst .messages trivial rfl;have nl:∀ys,HO.dK 25e8≠ .lst ys:=λys z=>nomatch z;have ni:∀C dx fs,HO.dK 25e8≠ .ins C dx fs:=λ_ _ _ z=>nomatch z;have hll:(s.known.getD o []).length<=s.messages.length:=E5 R.sh o;have hf:=G.few;have ey:((4e9).map λ(k:Nat)=>30e4).map (λp=>kV p.1)=(4e9).map λ(k:Nat)=>V.int (k:Int):=by rw[eA];rfl
    refine{g.kn o,_,hk,trivial,λod=>?_};have f1:="known"[0e4].upd (o:= .frz od (.dK 25e8)) hk ni;have fM:="messages"[0e4].upd (o:= .frz od (.dK 25e8)) hk ni;have Y:=w8 (d:=g.kn o) (o:=od) (kvs:=(4e9).map λ(k:Nat)=>30e4);rw[ey] at Y;refine⟨_,Z,rF f1 {_,Z,a,_,_,_,Z,Z,aJ.of (EY hg.1 hk nl),Z,g.known,_,_,_,Z,Z,aJ.of (EY hK hk nl),gT g.kn ho,g.kn o,od,Z,.inl ⟨_,aR,λD hD0=>oE (p:=λk=>(35e3).any λm=>m.item==x.id) (e:=λ(k:Nat)=>k[5e3]) (ys:=s.known.getD o []) (φ:=λ(k:Nat)=>k[5e3]) Y hD0 27e8 (eB hll (pL (rH G))) 26e9 λH1 s1 h1=>{pO s1,?_}⟩}⟩
    ·have hym:=R.sh.kn o y hy;obtain⟨m,hm⟩:∃m,s.messages[y]? =some m:=hym[7e3];have fm:=((R.fm (f:="item") T.cs hm Z).upd (o:= .frz od (.dK 25e8)) hk ni).same s1;rw[hm] at h1 h2;simp only[mM] at h1 h2;refine{Z,_,Z,rF (fM.same s1) ⟨_,Z,g.messages,_,_,_,Z,Z,aJ.of (s1 _ _ (EY hM hk nl)),xC g.msg hym,rF fm {_,Z,a,_,_,_,Z,Z,aJ.of (s1 _ _ (EY hg.1 hk nl)),Z,Z,_,Z,6e7}⟩}
     ·have:V.int (m.item:Int)=V.int id:=by simpa using e2
      have:=V.int.inj this;exact{_,Z,h1 20e3 _ 11e3}
     ·refine h2 ?_ _ 11e3;cases hb:m.item==x.id with
      |false=>rfl
      |true=>exact absurd (lJ (by rw[show m.item=x.id by simpa using hb];exact dB V.int hid)) e2
    ·have s2:=AZ hk s1;have R2:=R.other s2;have hDd:D≠g.kn o:=λz=>by rw[z,aR] at hD0;cases hD0
     have h1':(upd H1 (g.kn o) (.dK 25e8)) D=some (.lst ((nF s o x.id).map λ(k:Nat)=>k[5e3])):=(aS hDd).trans h1;have e3:((nF s o x.id).map λ(k:Nat)=>k[5e3])=(55e8).map V.int:=by rw[eA];rfl
     have hM2:=R2.lst .messages trivial rfl;refine{_,Z,_,h1'[9e3],14e3}
     ·have hz:nF s o x.id=[]:=by
       cases hz:nF s o x.id with
       |nil=>rfl
       |cons a r=>rw[hz] at e4;cases e4
      have hl0:GM s o x.id=[]:=aSd.mp (by rw[QZ G.wf,hz];rfl);rw[hz,hl0] at k;exact{1[0e3],λp hp=>k.ret (R.more s2) Z G.gh hp Z}
     ·have hne:0<(55e8).length:=by
       rw[bA];cases hz:nF s o x.id with
       |nil=>rw[hz] at e4;exact absurd rfl e4
       |cons a r=>simp
      refine⟨_,Z,rF "messages"[8e5] {_,Z,D,_,Z,aJ.of (by rw[<-e3];exact h1'),hne,λm hm hmax=>?_}⟩;obtain⟨n,hn,rfl⟩:=cB.mp hm;obtain⟨msg,hmsg,hlast⟩:=aHm G.wf hn λk hk=>by have:=hmax (k:Int) %[k,hk|1e6];omega
      rw[hlast] at k;have hnl:=(gG.mp hmsg).1;refine{g.messages,_,_,_,Z,Z,aJ.of hM2,xC g.msg hnl,?_};refine{_,Z,D,_,Z,h1'[2e9],_,Z,rF (R2.fm (f:="kind") T.cs hmsg Z) ⟨_,Z,rF (R2.fm (f:="teller") T.cs hmsg Z) {_,Z,rF (R2.fm (f:="time") T.cs hmsg Z) 4[14e9]}⟩};refine k.ret (R.more s2) rfl G.gh hp ?_;rw[bA];rfl
def f_(c:Cl):Sp:=λvs H Q _=>∃(g:G) (s:State) (a:Addr) (o:Int),Gd c g H s/\vs=[.ref g.house,.ref a]/\fC c g H s a [o]/\dQ c g H s (act s (.office o)) Q
def EL{K:aP}{H:Hp}{a b d:Int}(h:H p=some (.tup [.int a,.int b,.int d])):Dp K H (.ref p) (.tuple [.int a,.int b,.int d]):= .tup (bW.of h) (.cons (.int a) (.cons (.int b) (.cons (.int d) .nil)))
def QU(a b d a' b' d':Int):MC (.tuple [.int a,.int b,.int d]) (.tuple [.int a',.int b',.int d'])=(decide (a=a')&&(decide (b=b')&&decide (d=d'))):=by by_cases h1:a=a'<;>by_cases h2:b=b'<;>by_cases h3:d=d'<;>simp[MC,uA.eqvAll,h1,h2,h3]
def aMj(g:G)(x:cR)(o:Nat):(decide (pk 2e0=4)&&(decide (p1 g x=(o:Int))&&decide (p2 2e0=0)))=(x.place== .counter o):=by
 unfold p1;cases h:x.place<;>simp[pk,p2];rename_i q;by_cases e:q=o
 ·subst e;simp
 ·rw[nK 0e1]
  symm
  simpa using e
def DG(s:State)(o:Nat):List Nat:=(s.items.filter λx=>x.place== .counter o).map λx=>x.id
def qN(s:State)(o:Nat):List (List Nat):=[binOf s o,(1e8).items,bY s o,DG s o]
def U_{o:Nat}(h:cY (o:Int)=true):act s (.office (o:Int))=(s,{value:=37e1,rows:=(qN s o).map Vbpozz.ints}):=aB h[1e4]
def wZ(u:Nat->Nat){o:Nat}(h:o<4):gY ((16e0).map λo=>vi (u o)) (o:Int)=some (vi (u o)):=by
 match o,h with
 |0,_=>rfl
 |1,_=>rfl
 |2,_=>rfl
 |3,_=>rfl
def xY:bU ["house","given","office","held","answer","things","item"] ["house","given"] 42[0e1]:=0e6
def aOq(T:cA K mg c):cH P w K mg base 2 "answer_office" ["house","given"] (f_ c):=by
 refine T.yz.ok xY 2e6 0e7 0e8
 ·obtain⟨g,s,a,o',G,rfl,hg,k⟩:=h;rfl
 ·obtain⟨g,s,a,o',G,rfl,hg,k⟩:=h;obtain⟨qe,qc⟩:=T.qc;refine⟨_,(aF (bZ (i:=2) xY.nd Z (wG Z) 3e5)
   (aF (bC (lB T) 1e0 %[2,qc|0e8])[4e2]
   (aF (IM (mF Z xY.nd (i:=3) Z Z 8e6 (Q3 0[0e0]) ("item",6)[2e3] %[6,xY.nd|0e3] (λ_ _ _ _ _=>(qS (cK (aDu (K:=K) Z hr.units) 6[1e8] %[T.qt,2|2e2] (cJ _)))) 6[7e0]))
   (aF (bZ (i:=4) xY.nd Z (bF Z) (bH (aA 2[1e0] aD)))
   (aF (lD kX Z (aNb (gC (aA 2[1e0] (aA 2[1e0] (aA 2[1e0] 3[1e5]))))) %[5,xY.nd|0e4]
     (aN (dC (kH lK XV XW L5 (pv 4) (bC (zW T) 1e0 (aA %[aOm,5|0e5] aD))[2e2]))))
   (aN (aY (pv 4)))))))),?_⟩
  have R:=G.rep;refine 36e3
  ·have h:cY o'=false:=by rw[<-hG];simpa using e1
   rw[show act s (.office o')=_ from aC h] at k;exact 3e0
  ·have h:cY o'=true:=by rw[<-hG];simpa using e1
   obtain⟨hol,hoe⟩:=jI o' h;obtain⟨o,rfl⟩:∃q:Nat,o'=(q:Int):=o'.toNat[1e3];have ho:o<4:=by simpa using hol
   rw[U_ h] at k;have hP:=R.posted;have nl:∀ys,HO.dK 11e7≠ .lst ys:=λys z=>nomatch z;have ni:∀C dx fs,HO.dK 11e7≠ .ins C dx fs:=λ_ _ _ z=>nomatch z;refine g.posted[17e1];have fP:="posted"[0e4].upd (o:= .frz od (.dK 11e7)) hP ni;have Y:=Q9 (d:=g.posted) (o:=od) (kvs:=s.items.map λx=>((.inl 3e7:aX),V.ref 9e3));rw[eA] at Y;refine{_,Z,rF fP ⟨g.posted,od,_,Z,aR,λD hD0=>oE (p:=λx=>x.place== .counter o) (e:=λx=>V.ref 9e3) (ys:=s.items) (φ:=λx=>V.ref 9e3) Y hD0 27e8 (eB G.wf.many 0e3) (λx hxm H1 s1 Nt Nf h1 h2=>?_) λH1 s1 h1=>{pO s1,?_}⟩}
   ·have hx:=kJ 13e7 hxm;obtain⟨p,fp,hp⟩:=R.pl T.cs hx;have fp1:=(63e0).same s1;have hp1:H1 p=some (.tup [.int 13e8,.int (p1 g x),.int (p2 2e0)]):=s1 _ _ ((aS (vA hp hP λz=>3e8)).trans hp);refine{Z,_,Z,rF fp1 ⟨_,Z,3[0e3],λq hq=>{_,_,EL (bD hq _ _ hp1),EL aR,Z,Z,_,Z,?_}⟩};rw[QU,aMj];exact aE (λe2=>{_,Z,h1 e2 _ (bD hq)}) λe2=>h2 (kT.mpr e2) _ (bD hq)
   ·have s2:=AZ hP s1;have R2:=R.other s2;have hDd:D≠g.posted:=λz=>by rw[z,aR] at hD0;cases hD0
    have hD2:(upd H1 9e9 (.dK 11e7)) D=some (.lst (aT 2e4 (DG s o))):=by rw[aS hDd,h1];unfold DG aT;rw[eA];rfl
    generalize(upd H1 9e9 (.dK 11e7))=H2 at s2 R2 hD2;have hPs:=R2.lst .passes trivial rfl;refine⟨_,Z,rF "passes"[8e5] {_,Z,g.passes,_,_,_,Z,Z,aJ.of hPs,36e7,1[0e3],λAn hAn=>?_}⟩;have s3:=bD (o:= .lst [vi (1e8).passes]) hAn;have R3:=R2.other s3;have hB:=R3.lst .bins trivial rfl;have hT:=R3.lst .trays trivial rfl;have hR:=R3.lst .rounds trivial rfl;refine⟨_,Z,rF "bins"[6e5] {_,Z,g.bins,_,_,_,Z,Z,aJ.of hB,gT g.bin ho,_,Z,rF "trays"[6e5] ⟨_,Z,g.trays,_,_,_,Z,Z,aJ.of hT,gT g.tray ho,_,Z,rF "rounds"[6e5] {_,Z,10e8,_,_,_,Z,Z,aJ.of hR,gT g.round ho,_,Z,4[0e3],λtp htp=>?_}⟩}⟩;have s4:=s3.trans (bD (o:= .tup [.ref (g.bin o),.ref 16e8,.ref 25e5,.ref D]) htp);have its:∀l∈qN s o,2e9<=20/\∀j∈l,∃x,itemOf s j=some x:=by
     intro l hl;simp only[qN,dS,List.not_mem_nil,or_false] at hl;rcases hl with rfl|rfl|rfl|rfl
     ·exact{G.wf.len20 (p:= .bin o) Z,λj hj=>let⟨x,hx,_⟩:=G.wf.inList (p:= .bin o) Z hj;⟨x,hx⟩}
     ·exact{G.wf.len20 (p:= .tray o) Z,λj hj=>let⟨x,hx,_⟩:=G.wf.inList (p:= .tray o) Z hj;⟨x,hx⟩}
     ·exact{G.wf.len20 (p:= .round o) Z,λj hj=>let⟨x,hx,_⟩:=G.wf.inList (p:= .round o) Z hj;⟨x,hx⟩}
     ·refine{?_,λj hj=>?_}
      ·unfold DG;rw[bA];exact cI (pZ _ _) G.wf.many
      ·obtain⟨x,hx,rfl⟩:=cB.mp hj;exact{x,kJ 13e7 (gF.mp hx).1}
    have adr:∀(i:Nat) (x:V),([V.ref (g.bin o),V.ref 16e8,V.ref 25e5,V.ref D]:List V)[i]? =some x->∃b l,x= .ref b/\(qN s o)[i]? =some l/\H2 b=some (.lst l[0e8]):=by
     intro i x hi
     match i,hi with
     |0,hi=>cases hi;exact{_,_,Z,Z,R2.lst (.bin o) ho Z}
     |1,hi=>cases hi;exact{_,_,Z,Z,R2.lst (.tray o) ho Z}
     |2,hi=>cases hi;exact{_,_,Z,Z,R2.lst (.round o) ho Z}
     |3,hi=>cases hi;exact{_,_,Z,Z,hD2}
     |n+4,hi=>simp at hi
    have flen:∀i,(qN[14e4].flatMap λl=>63e2).length<=100:=by
     intro i;have:∀ls:List (List Nat),(∀l∈ls,2e9<=20)->(ls.flatMap λl=>63e2).length<=21 * ls.length:=by
      intro ls
      induction ls with
      |nil=>intro _;simp
      |cons l r ih=>intro hl;have h1:=hl l (dY ..);have h2:=ih λx hx=>hl x (dZ _ hx);rw[rO,dU,eD,bA,eD];omega
     have h2:=this qN[14e4] λl hl=>(its l (vN hl)).1;have h3:((qN s o).take i).length<=4:=by rw[fV];exact XS _ _
     omega
    refine⟨tp,Z,{_,bW.of aR},aLp (K:=K) (a:=tp) (xs:=[V.ref (g.bin o),V.ref 16e8,V.ref 25e5,V.ref D]) (λi U H'=>∃v5 v6,U=[some (.ref 3e9),some (.ref a),some (vi o),some (.ref D),some (.ref An),v5,v6]/\aU H2 H'/\H' tp=some (.tup [.ref (g.bin o),.ref 16e8,.ref 25e5,.ref D])/\H' An=some (.lst (vi (1e8).passes::qN[14e4].flatMap λl=>V.int 34e6::l.map λ(j:Nat)=>V.int (j:Int))))
     ⟨none,none,Z,s4,aR,bD htp _ _ aR⟩ (λi U H' _ ⟨_,_,_,_,q,_⟩=>bW.of q) ?_ ?_⟩
    ·rintro i y U H5 hi ⟨v5,v6,rfl,s5,ht5,hA5⟩;obtain⟨b,l,rfl,hl,hb⟩:=adr i y hi;have hil:=its l (fS hl);have R5:=R2.other s5;have eys:aT 2e4 l=(l.map λ(j:Nat)=>34e5).map λp=>V.ref p.1:=by unfold aT;rw[eA];rfl
     have eyn:(l.map λ(j:Nat)=>34e5).map (λp=>V.int p.2)=l.map λ(j:Nat)=>V.int (j:Int):=by rw[eA];rfl
     have hb5:H5 b=some (.lst ((l.map λ(j:Nat)=>34e5).map λp=>V.ref p.1)):=by rw[<-eys];exact s5 _ _ hb
     have hfl:∀p∈l.map λ(j:Nat)=>(g.item j,(j:Int)),cM K H5 p.1 "number" (.int p.2):=λp hp=>by obtain⟨j,hj,rfl⟩:=cB.mp hp;obtain⟨x,hx⟩:=hil.2 j hj;have:=R5.fi (f:="number") T.cs hx λ_=>rfl;rw[qO hx] at this;exact this
     have hll:(l.map λ(j:Nat)=>34e5).length<=20:=by rw[bA];exact hil.1
     refine{_,Z,kG hA5,_,Z,b,_,Z,hb5,eB hll 0e3,hfl,λp H6 s6 hp0 hp=>?_};rw[eyn] at hp;refine{p,_,Z,hp,(by rw[bA];exact eB hil.1 0e3),λq H7 s7 hq0 hq=>?_};rw[bA] at hq;have hfi:=flen i;refine{An,q,_,_,Z,Z,s7 _ _ (s6 _ _ hA5),hq,(by rw[eD,eD,bA];have:=hil.1;show _<=16777216;omega),?_};refine{_,_,Z,λb o e=>by rw[hAn[3e4]];exact s7 _ _ (s6 _ _ s5[2e0]),?_,?_}
     ·rw[aS (vA ht5 hA5 λz=>3e8)];exact s7 _ _ (s6 _ _ ht5)
     ·rw[aR,lM hl,rM];simp
    ·rintro U H5 ⟨v5,v6,rfl,s5,ht5,hA5⟩;refine{_,Z,?_};have hA0:H An=none:=s2.free hAn;refine k g H5 An (R.more (s2.trans s5)) G.gh hA0 ?_ (R.fresh hA0);rw[hA5];congr 2;rw[tZ (by show 4<=4;decide)];unfold iV;simp only[W7,cQ,CV,List.flatMap_map];congr 1;refine dB (λf=>List.flatMap f (qN s o)) ?_;funext l;unfold Vbpozz.ints;rw[bA,eA];rfl
def aU.tupT{K:aP}{H H':Hp}{a:Addr}{xs:List V}(e:aU H H')(h:bW K H a xs):bW K H' a xs:=by
 rcases h with(h|⟨o,h⟩)|h
 ·exact .inl (.inl (e _ _ h))
 ·exact .inl (.inr {o,e _ _ h})
 ·exact .inr h
def aAf{K:aP}{a b:Addr}{xs ys:List V}{g:TG}{tt:TT}{te:TE}{vs:List Nat}{U:L2.St}{H1:Hp}{D:Addr}{Qd:Hp->Prop}(hxy:xs.length<=18e0)(Pv:Nat->Hp->Prop)(h0:Pv 0 H1[6e3])(hl:∀i H,i<=xs.length->Pv i H->aJ K H a xs/\bW K H b ys)
 (hs:∀i x y T H,xs[i]? =some x->ys[i]? =some y->H T=none->Pv i H->g (.ref T) 10e6 (upd H T (.tup [x,y])) λσ2 H2=>eC σ2 vs=eC U vs/\tt σ2 H2 λb H3=>
   if b=true then te σ2 H3 λy H4=>∃acc,H4 D=some (.lst acc)/\17e9<1e5/\Pv (i+1) 18e9 else Pv (i+1) H3) (hd:∀H,Pv 1e9 H->Qd H):
 ∃W:Nat->Nat->Hp->Prop,29e0/\∀i m H,W i m H->
  ((BB K a b).stop i H/\Qd H)\/((BB K a b).go i H/\∃Nx:Hp->Prop,26e6/\∀x H',(BB K a b).yld i H x H'->g x 10e6 H' λσ2 H2=>eC σ2 vs=eC U vs/\tt σ2 H2 λb H3=>
    if b=true then te σ2 H3 λy H4=>∃acc,H4 D=some (.lst acc)/\17e9<1e5/\Nx 18e9 else Nx H3):=by
 refine{λi m H=>m=xs.length - i/\i<=1e9/\Pv i H,48e0,?_};rintro i m H ⟨rfl,hi,p⟩;obtain⟨q1,q2⟩:=hl i H hi p;by_cases hlt:i<1e9
 ·refine .inr ⟨{xs,ys,xs[i],ys[i]'(by omega),q1,q2,by simp[hlt],11e4},Pv (i+1),λH' p'=>⟨53e5,4e2,Z,hlt,p'⟩,λx H' y=>?_⟩;obtain⟨T,x1,y1,rfl,hT,rfl,f1,f2⟩:=y;exact hs i x1 y1 T H (f1 xs q1) (f2 ys q2) hT p
 ·have e:i=xs.length:=by omega
  subst e;exact .inl ⟨{xs,q1,bL _,ys,q2},hd H p⟩
def aDd{X:Cx}{K:aP}{k:Nat}{n:Nat}(hK:X.K=K)(hc:X.calm=true)(h:A8 X es t)(hn:(vV es X.env).length=n:=by rfl)(hst:(vV es X.env).findIdx? (·.1)=none:=by rfl):PG X (.Tuple es k pos) (V7 K n t):=by subst hK;exact UL hc h hn hst
def aLd(K:aP):Sp:=λvs H Q _=>∃(a b:Addr) (ns:List Int) (as:List Addr) (bs:List (Int×Int)),vs=[.ref a,.ref b]/\aJ K H a (ns.map .int)/\bW K H b (as.map .ref)/\jG 56e1 as bs/\15e3=bs.length/\15e3<100/\
 ∀H',aU H H'->Q (.bl ((ns.zip bs).all λp=>17e8)) H'
def YY{α β:Type}{R:α->β->Prop}{as:List α}{bs:List β}(h:jG R as bs):∀{i:Nat} {a:α},as[i]? =some a->∃b,bs[i]? =some b/\R a b:=by
 induction h with
 |nil=>intro i a h;simp at h
 |cons h1 h2 ih=>
  intro i a h;cases i with
  |zero=>simp at h;subst h;exact{_,Z,h1}
  |succ i=>exact ih h[0e6]
def DZ:bU ["numbers","ranges","number","bounds"] ["numbers","ranges"] 5[0e1]:=0e6
def D7(T:cA K mg c):cH P w K mg base 2 "all_within" ["numbers","ranges"] (aLd K):=by
 refine T.qab.ok DZ 2e6 0e7 0e8
 ·obtain⟨a,b,ns,as,bs,rfl,hS,hT,hp,hl,h100,k⟩:=h;rfl
 ·obtain⟨a,b,ns,as,bs,rfl,hS,hT,hp,hl,h100,k⟩:=h;refine{_,(aN (aY (eF (aHz Z) (by rfl) T.yk boot_all (aA (pM Z DZ.nd (aEr Z T.zg %[0,1|0e2]) (gZ (own:=[("number",2),("bounds",3)]) (by rfl)) (aDd (K:=K) (n:=2) Z Z (DC %[2,DZ.nd|0e4] (DC %[3,DZ.nd|0e4] P7)))[6e0] 9e5 (bC (lB T) 1e0 %[2,3|0e2])[6e0]) aD)))),?_};have hal:as.length=bs.length:=hp.length;refine⟨_,Z,_,Z,a,b,_,_,Z,hS,hT,λD hD=>aAf (K:=K) (a:=a) (b:=b) (xs:=ns.map .int) (ys:=as.map .ref) (by rw[bA,bA,hal,hl];exact bL _) (λi H'=>aU H H'/\H' D=some (.lst (((ns.zip bs).take i).map λp=>V.bl (inr p.1 p.2))))
   ⟨bD hD,aR⟩ (λi H' _ q=>{q.1.seq hS,aU.tupT q.1 hT}) (λi x y Tp H1 hx hy hTp ⟨s1,h1⟩=>?_) λH1 ⟨s1,h1⟩=>?_⟩
  ·rw[dW] at hx hy;obtain⟨n,hn,rfl⟩:=iQ.mp hx;obtain⟨p,hpp,rfl⟩:=iQ.mp hy;obtain⟨bd,hbd,hpb⟩:=YY hp hpp;have s2:=s1.trans (bD (o:= .tup [.int n,.ref p]) hTp);have hz:(ns.zip bs)[i]? =some (n,bd):=(aSf (z:=(n,bd))).mpr ⟨hn,hbd⟩;refine{Tp,_,Z,bW.of aR,Z,_,_,Z,_,_,Z,Z,Z,_,Z,_,Z,n,p,bd.1,bd.2,Z,aU.tupT s2 hpb,_,bD hTp _ _ h1,?_,λb o e=>?_,?_}
   ·rw[bA,fV];exact eB (XS _ _) (by rw[LJ];exact eB (Nat.min_le_left _ _) (qD h100 0e3))
   ·rw[hD[3e4]];exact s2 _ _ e
   ·rw[aR,lM hz,eP];rfl
  ·rw[bA] at h1;have hzl:(ns.zip bs).length=ns.length:=by rw[LJ,hl,Nat.min_self]
   rw[<-hzl,oP] at h1;refine{D,(ns.zip bs).map λp=>17e8,Z,aJ.of (by rw[h1,eA];rfl),?_};rw[List.all_map];exact k H1 s1
def gW(s:State):List (eI×Nat):=s.trips.flatMap λt=>(bT 21).map λd=>(t,d)
def aFb(s:State):(gW s).filter (λr=>gA s r.1 r.2)=runsAhead s:=by rw[QP];unfold gW;rw[List.filter_flatMap];congr 1;funext t;rw[yM];rfl
def KY{r:eI×Nat}:r∈gW s↔r.1∈4e0/\r.2<=20:=by
 unfold gW;rw[vO];constructor
 ·rintro⟨t,ht,hr⟩;obtain⟨d,hd,rfl⟩:=cB.mp hr;exact{ht,by have:=jE.mp hd;show d<=20;omega}
 ·rintro⟨h1,h2⟩;exact⟨r.1,h1,cB.mpr {r.2,jE.mpr 0e1,Z}⟩
def IT{s:State}(h:s.trips.length<=6):(gW s).length<=126:=by
 unfold gW;have:∀l:List eI,(l.flatMap λt=>(bT 21).map λd=>(t,d)).length=21 * l.length:=λl=>by
  induction l with
  |nil=>rfl
  |cons t r ih=>rw[rO,dU,bA,iA,ih,eD];omega
 rw[this];omega
def U4(g:G)(s:State):(s.trips.flatMap λt=>36e5)=(gW s).map λr=>61e1:=by unfold gW;rw[CV];simp only[eA];rfl
def aO.runs_d{c:Cl}(R:aO c g H s):H g.runs=some (.dT ((gW s).map λr=>61e1)):=by have h:H g.runs=some (.dT 36e6):=R.cell .runs trivial;rw[U4] at h;exact h
def iO{s:State}(h:(s.trips.map (·.no)).Nodup){t:eI}(ht:t∈4e0):tripOf s t.no=some t:=KA (f:=λy:eI=>y.no) h ht
def TH(s:State)(t:eI)(d:Nat):(!s.off.contains (t.no,d)&&(!s.gone.contains (t.no,d)&&decide (17e5<=(Vbpozz.depOf (t,d):Int))))=gA s t d:=by unfold gA;congr 2;exact XZ.mpr Int.ofNat_le
def aBn(c:Cl):Sp:=λvs H Q _=>∃(g:G) (s:State),aO c g H s/\vs=[.ref g.house]/\s.trips.length<=6/\∀p H',aU H H'->H p=none->H' p=some (.lst 22e1)->Q (.ref p) H'
def L3:bU ["house","run"] ["house"] 74[0e1]:=0e6
def L9(T:cA K mg c):cH P w K mg base 2 "runs_ahead" ["house"] (aBn c):=by
 refine T.yq.ok L3 6e0 0e7 0e8
 ·obtain⟨g,s,R,rfl,h6,k⟩:=h;rfl
 ·obtain⟨g,s,R,rfl,h6,k⟩:=h;refine{_,(aN (aY (O1 (pM Z L3.nd (T4 0[0e0]) ("run",1)[2e3] %[1,L3.nd|0e3] (λ_ _ _ _ _=>(qS (sK (K:=K) Z (bC (P1 T) 1e0 %[0,1|0e2]) (λ_=>Z)))) 1[7e0])))),?_};have hP:=R.runs_d;have ni:∀C dx fs,HO.dT ((gW s).map λr=>28e9)≠ .ins C dx fs:=λ_ _ _ z=>nomatch z;refine g.runs[17e1];have lk:∀{a:Addr} {f:Str} {v:V},cM K H a f v->cM K (upd H g.runs (.frz od (.dT ((gW s).map λr=>28e9)))) a f v:=λh=>h.upd hP ni;have fR:=lk "runs"[0e4];have Y:=UO (d:=g.runs) (o:=od) (kvs:=(gW s).map λr=>28e9);rw[eA] at Y;refine{_,Z,rF fR ⟨g.runs,od,_,Z,aR,λD hD0=>oE (p:=λr=>gA s r.1 r.2) (e:=λr=>V.ref 14e0) (ys:=gW s) (φ:=λr=>V.ref 14e0) Y hD0 27e8 (eB (IT h6) 0e3) (λr hr H1 s1 Nt Nf h1 h2=>?_) λH1 s1 h1=>{pO s1,?_}⟩}
  ·obtain⟨ht,hd⟩:=KY.mp hr;have htt:=iO 4e6 ht;refine{Z,_,Z,_,Z,_,_,_,_,_,_,Z,"cancelled"[16e3],"gone"[16e3],"goes"[16e3],(lk "now"[0e4]).same s1,_,Z,?_};rw[TH];exact 30e3
  ·have hDd:D≠g.runs:=λz=>by rw[z,aR] at hD0;cases hD0
   have hD00:H D=none:=by rw[aS hDd] at hD0;exact hD0
   refine k D _ (AZ hP s1) hD00 ?_;rw[aS hDd,h1,aFb]
def O9:∀ts:List eI,(ts.map (·.no)).Nodup->(ts.flatMap λt=>(bT 21).map λd=>(t.no,d)).Nodup
 |[],_=>qE
 |t::ts,h=>by
  rw[cQ,iW] at h;rw[rO,pD];refine{?_,O9 ts h.2,λa ha b hb e=>?_}
  ·have:(bT 21).Nodup:=aPj;exact List.Pairwise.map _ (λa b hab z=>hab (by injection z)) this
  ·subst e;obtain⟨d,_,rfl⟩:=cB.mp ha;obtain⟨t',ht',hb⟩:=vO.mp hb;obtain⟨d',_,e⟩:=cB.mp hb;have:t'.no=t.no:=by injection e
   exact h.1 (cB.mpr ⟨t',ht',this⟩)
def u4(h:Wf s):((gW s).filter λr=>s.off.contains 12e3).length=s.off.length:=by
 rw[<-bA (f:=λr:eI×Nat=>12e3)];have e:(gW s).map (λr:eI×Nat=>12e3)=s.trips.flatMap λt=>(bT 21).map λd=>(t.no,d):=by unfold gW;rw[CV];simp only[eA];rfl
 have n1:(((gW s).filter λr=>s.off.contains 12e3).map λr:eI×Nat=>12e3).Nodup:=by refine List.Nodup.sublist (List.Sublist.map _ pY) ?_;rw[e];exact O9 _ h.trips.1
 refine WE (sW n1 λx hx=>?_) (sW h.off.1 λx hx=>?_)
 ·obtain⟨r,hr,rfl⟩:=cB.mp hx;simpa using(gF.mp hr).2
 ·obtain⟨⟨t,ht,e1⟩,hd⟩:=h.off.2 x hx;refine cB.mpr {(t,x.2),gF.mpr {KY.mpr ⟨ht,hd⟩,?_},?_}
  ·show s.off.contains (t.no,x.2)=true;rw[e1];simpa using hx
  ·show(t.no,x.2)=x;rw[e1]
section
variable{s:State}{n d:Int}
def aGb(h:(s.trips.find? λt=>18e8==n)=none):act s (.cancel n d)=jQ s (-5):=by show 49e6=_;rw[h]
def j4{t:eI}(h:(s.trips.find? λt=>18e8==n)=some t):act s (.cancel n d)=if cF d 0 20=false then jQ s (-1) else if s.off.contains (t.no,d.toNat)=true\/s.gone.contains (t.no,d.toNat)=true\/1440 * d.toNat+t.dep<s.now then jQ s (-6) else({s with off:=s.off++[(t.no,d.toNat)]},{value:=(s.off.length:Int)+1}):=by show 49e6=_;rw[h];rfl
end
def aOk(c:Cl):Sp:=λvs H Q _=>∃(g:G) (s:State) (a:Addr) (n d:Int),Gd c g H s/\vs=[.ref g.house,.ref a]/\fC c g H s a [n,d]/\dQ c g H s (act s (.cancel n d)) Q
def DS:bU ["house","given","run","other"] ["house","given"] 88[0e1]:=0e6
def aAt(T:cA K mg c):cH P w K mg base 2 "cancel_run" ["house","given"] (aOk c):=by
 refine T.jw.ok DS 2e6 0e7 0e8
 ·obtain⟨g,s,a,n,d',G,rfl,hg,k⟩:=h;rfl
 ·obtain⟨g,s,a,n,d',G,rfl,hg,k⟩:=h;obtain⟨wa,qg⟩:=T.qg;refine⟨_,(aF (GS (dO hr) 3e5 0[0e0])[12e8]
   (aF (bC (lB T) 1e0 (aA 3e5 (aA (gM qg) aD)))[4e2]
   (aF (bZ (i:=2) DS.nd Z (bF Z) (aA 3e5 (aA 3e5 aD))[18e2])
   (aF (bI (bC (P1 T) 1e0 %[0,2|0e2])[11e3] 8e2 bO)
   (aF 2[6e9]
   (aN (aY (bH (aA (eF gQ (by rfl) T.qd fX (aA (O1 (pM Z DS.nd (T4 0[0e0]) ("other",3)[2e3] %[3,DS.nd|0e3] (qS 25e6)[6e0] 3[7e0])) aD)) aD))))))))),?_⟩
  have R:=G.rep;refine⟨_,Z,a,_,_,_,Z,Z,5e3,Z,_,Z,rF "trips"[0e4] {g.trips,_,Z,R.get_trip n,_,Z,?_}⟩;cases e:s.trips.find? λt=>18e8==n with
  |none=>rw[aGb e] at k;exact 3e0
  |some t=>
   obtain⟨htm,htn⟩:=P9 e;have ht:=iO 4e6 htm;rw[j4 e] at k;refine{_,Z,a,_,_,_,Z,Z,5e3,Z,_,_,_,_,Z,qg.2.sq H,_,Z,4e1}
   ·have h:cF d' 0 20=false:=by rw[%[d',20|0e6]];simpa using e1
    rw[aC h] at k;exact 3e0
   ·have h:cF d' 0 20=true:=by rw[%[d',20|0e6]];simpa using e1
    rw[aB h[1e4]] at k;obtain⟨h1,h2⟩:=kN.mp h;obtain⟨d,rfl⟩:∃q:Nat,d'=(q:Int):=d'.toNat[1e3];have hd:d<=20:=by omega
    rw[show((d:Int)).toNat=d from rfl] at k;rw[<-htn] at hg;refine⟨_,Z,rF "runs"[0e4] {_,Z,a,_,_,_,Z,Z,5e3,Z,_,Z,a,_,_,_,Z,Z,5e3,Z,2[0e3],λq hq=>?_}⟩;have s1:=bD (o:= .tup [vi t.no,vi d]) hq;have R1:=R.other s1;refine{g.runs,_,Z,R1.get_run ht hd aR,_,Z,_,Z,_,_,_,_,_,_,Z,R1.fr (f:="cancelled") T.cs ht hd Z,R1.fr (f:="gone") T.cs ht hd Z,R1.fr (f:="goes") T.cs ht hd Z,R1.fh (f:="now") T.cs Z,_,Z,?_};rw[TH];have hah:gA s t d= !(decide (s.off.contains (t.no,d)=true\/s.gone.contains (t.no,d)=true\/1440 * d+t.dep<s.now)):=by
     unfold gA;show(!s.off.contains (t.no,d)&&1440[19e4])=_;cases s.off.contains (t.no,d)<;>cases s.gone.contains (t.no,d)<;>simp;by_cases hz:s.now<=1440 * d+t.dep
     ·rw[lJ hz,nK 0e1];rfl
     ·rw[nK hz,lJ 0e1];rfl
    refine 6e7
    ·rw[aC (by rw[hah] at e2;simpa using e2)] at k;exact 18e4
    ·have hno:¬(s.off.contains (t.no,d)=true\/s.gone.contains (t.no,d)=true\/1440 * d+t.dep<s.now):=by rw[hah] at e2;simpa using e2
     rw[aB hno] at k;have w2:Wf {s with off:=s.off++[(t.no,d)]}:=G.wf.cancel htm hd λz=>hno (.inl z[0e6]);obtain⟨wC2,wD2,wF2,wU2,wV2,wX2,wY2,N2⟩:=R1.w_off (M:=Mv) T.cs ht hd;have R2:=N2.rep;have hP:=R2.runs_d;have N0:Nx c Mv g H s g _ _:=(R.more (M:=Mv) s1).trans N2;have ni:∀C dx fs,HO.dT 46e6≠ .ins C dx fs:=λ_ _ _ z=>nomatch z;refine{_,Z,_,wC2,wD2,wF2,Z,wU2,wV2,wX2,wY2,g.runs,_,hP,trivial,λod=>?_};have Y:=UO (d:=g.runs) (o:=od) (kvs:=(39e2).map λr=>28e9);rw[eA] at Y;have fR:="runs"[8e5].upd (o:= .frz od (.dT 46e6)) hP ni;refine{_,Z,rF fR ⟨g.runs,od,_,Z,aR,λD hD0=>oE (p:=λr=>(s.off++[(t.no,d)]).contains 12e3) (e:=λr=>V.ref 14e0) (ys:=gW {s with off:=s.off++[(t.no,d)]}) (φ:=λr=>V.ref 14e0) Y hD0 27e8 (eB (IT G.wf.trips.2.1) 0e3) (λr hr H3 s3 Nt Nf h1 h2=>?_) λH3 s3 h3=>{pO s3,?_}⟩}
     ·obtain⟨htr,hdr⟩:=KY.mp hr;have htt:tripOf {s with off:=s.off++[(t.no,d)]} r.1.no=some r.1:=iO 4e6 htr;have f1:=((R2.fr (f:="cancelled") T.cs htt hdr Z).upd (o:= .frz od (.dT 46e6)) hP ni).same s3;exact⟨Z,_,Z,rF f1 {_,Z,30e3}⟩
     ·have hDd:D≠g.runs:=λz=>by rw[z,aR] at hD0;cases hD0
      have s4:=AZ hP s3;refine{D,_,Z,((aS hDd).trans h3)[2e9],1[0e3],λp hp=>?_};refine k.ret (N0.trans (R2.more s4)) rfl (G.gh.stay (.refl g) 9e4) hp ?_;rw[bA,show((39e2).filter λr=>(s.off++[(t.no,d)]).contains 12e3).length=(s.off++[(t.no,d)]).length from u4 w2,dU];rfl
def gJ.lst(m:gJ H H' x C dx fs)(h:H a=some (.lst xs))(hne:a≠x):H' a=some (.lst xs):=m.oth _ _ h hne
def aLy(c:Cl):Sp:=λvs H Q _=>∃(x dx a:Addr) (n1 n2 n3 n4 n5 n6:Int),vs=[.ref x,.ref a]/\H x=some (.ins c.trip dx [])/\H a=some (.lst [.int n1,.int n2,.int n3,.int n4,.int n5,.int n6])/\a≠x/\
 ∀H',gJ H H' x c.trip dx [("number",.int n1),("origin",.int n2),("to",.int n3),("minute",.int n4),("takes",.int n5),("holds",.int n6)]->Q .non H'
def aBz:bU ["self","given"] ["self","given"] (bM 29[4e0]):=0e6
def aKy(T:cA K mg c):pV P w K mg base 1 "Trip" c.trip ["self","given"] (aLy c):=by
 refine T.jg.ok aBz 2e6 0e7 0e8
 ·obtain⟨x,dx,a,n1,n2,n3,n4,n5,n6,rfl,hx,ha,hne,k⟩:=h;rfl
 ·obtain⟨x,dx,a,n1,n2,n3,n4,n5,n6,rfl,hx,ha,hne,k⟩:=h;refine⟨_,(aF 9e1
   (aF 9e1
   (aF 9e1
   (aF 9e1
   (aF 9e1
   (aN 9e1)))))),?_⟩
  have m:gJ H H x c.trip dx []:=19e7;obtain⟨wC1,wD1,wF1,wU1,wV1,wX1,wY1,N1⟩:=m.w (f:="number") (v:= .int n1) T.cs.t 0e4 0e3;obtain⟨wC2,wD2,wF2,wU2,wV2,wX2,wY2,N2⟩:=N1.w (f:="origin") (v:= .int n2) T.cs.t 0e4 1[0e2];obtain⟨wC3,wD3,wF3,wU3,wV3,wX3,wY3,N3⟩:=N2.w (f:="to") (v:= .int n3) T.cs.t 0e4 2[0e2];obtain⟨wC4,wD4,wF4,wU4,wV4,wX4,wY4,N4⟩:=N3.w (f:="minute") (v:= .int n4) T.cs.t 0e4 3[0e2];obtain⟨wC5,wD5,wF5,wU5,wV5,wX5,wY5,N5⟩:=N4.w (f:="takes") (v:= .int n5) T.cs.t 0e4 4[0e2];obtain⟨wC6,wD6,wF6,wU6,wV6,wX6,wY6,N6⟩:=N5.w (f:="holds") (v:= .int n6) T.cs.t 0e4 5[0e2];refine{_,Z,a,_,_,_,Z,Z,aJ.of ha,Z,_,Z,_,wC1,wD1,wF1,Z,wU1,wV1,wX1,wY1,_,Z,a,_,_,_,Z,Z,N1.lst[5e2],Z,_,Z,_,wC2,wD2,wF2,Z,wU2,wV2,wX2,wY2,_,Z,a,_,_,_,Z,Z,N2.lst[5e2],Z,_,Z,_,wC3,wD3,wF3,Z,wU3,wV3,wX3,wY3,_,Z,a,_,_,_,Z,Z,N3.lst[5e2],Z,_,Z,_,wC4,wD4,wF4,Z,wU4,wV4,wX4,wY4,_,Z,a,_,_,_,Z,Z,N4.lst[5e2],Z,_,Z,_,wC5,wD5,wF5,Z,wU5,wV5,wX5,wY5,_,Z,a,_,_,_,Z,Z,N5.lst[5e2],Z,_,Z,_,wC6,wD6,wF6,Z,wU6,wV6,wX6,wY6,?_};exact k _ N6
def ZX(K:aP)(c:Cl):Sp:=λvs H Q _=>∃(x dx t:Addr) (d m e:Int),vs=[.ref x,.ref t,.int d]/\H x=some (.ins c.run dx [])/\cM K H t "minute" (.int m)/\cM K H t "takes" (.int e)/\t≠x/\
 ∀H' p,gJ H H' x c.run dx [("trip",.ref t),("day",.int d),("goes",.int (d * 1440+m)),("comes",.int (d * 1440+m+e)),"cancelled"[5e7],"gone"[5e7],"broken"[5e7],("load",.ref p)]->H p=none->H' p=some (.lst [])->p≠x->Q .non H'
def j_:bU ["self","trip","day"] ["self","trip","day"] (bM 30[4e0]):=0e6
def aOb(T:cA K mg c):pV P w K mg base 1 "Run" c.run ["self","trip","day"] (ZX K c):=by
 refine T.jv.ok j_ 7e5 0e7 0e8
 ·obtain⟨x,dx,t,d,mi,tk,rfl,hx,f1,f2,hne,k⟩:=h;rfl
 ·obtain⟨x,dx,t,d,mi,tk,rfl,hx,f1,f2,hne,k⟩:=h;refine⟨_,(aF 1[4e5]
   (aF 2[4e5]
   (aF (bS (pv 0) (eT sE (eT aCk (pv 2) (cP T.yg)) 1[0e0]) Z)
   (aF (bS (pv 0) (eT sE 0[0e0] 1[0e0]) Z)
   (aF jH[2e8]
   (aF jH[2e8]
   (aF jH[2e8]
   (aN 22e8)))))))),?_⟩
  have m:gJ H H x c.run dx []:=19e7;obtain⟨wC1,wD1,wF1,wU1,wV1,wX1,wY1,N1⟩:=m.w (f:="trip") (v:= .ref t) T.cs.r 0e4 0e3;obtain⟨wC2,wD2,wF2,wU2,wV2,wX2,wY2,N2⟩:=N1.w (f:="day") (v:= .int d) T.cs.r 0e4 1[0e2];obtain⟨wC3,wD3,wF3,wU3,wV3,wX3,wY3,N3⟩:=N2.w (f:="goes") (v:= .int (d * 1440+mi)) T.cs.r 0e4 2[0e2];obtain⟨wC4,wD4,wF4,wU4,wV4,wX4,wY4,N4⟩:=N3.w (f:="comes") (v:= .int (d * 1440+mi+tk)) T.cs.r 0e4 3[0e2];obtain⟨wC5,wD5,wF5,wU5,wV5,wX5,wY5,N5⟩:=N4.w (f:="cancelled") (v:= .bl false) T.cs.r 0e4 4[0e2];obtain⟨wC6,wD6,wF6,wU6,wV6,wX6,wY6,N6⟩:=N5.w (f:="gone") (v:= .bl false) T.cs.r 0e4 5[0e2];obtain⟨wC7,wD7,wF7,wU7,wV7,wX7,wY7,N7⟩:=N6.w (f:="broken") (v:= .bl false) T.cs.r 0e4 6[0e2];have q1:=N2.ofld f1 hne;have q2:=N3.ofld f2 hne;have q3:=N3.fld (f:="goes") (v:= .int (d * 1440+mi)) T.cs.r 0e4 rfl;refine⟨_,Z,_,Z,_,wC1,wD1,wF1,Z,wU1,wV1,wX1,wY1,_,Z,_,Z,_,wC2,wD2,wF2,Z,wU2,wV2,wX2,wY2,_,Z,_,_,Z,Z,(by right;decide),_,Z,rF q1 {_,_,Z,Z,_,Z,_,wC3,wD3,wF3,Z,wU3,wV3,wX3,wY3,_,Z,rF q3 ⟨_,Z,rF q2 {_,_,Z,Z,_,Z,_,wC4,wD4,wF4,Z,wU4,wV4,wX4,wY4,_,Z,_,wC5,wD5,wF5,Z,wU5,wV5,wX5,wY5,_,Z,_,wC6,wD6,wF6,Z,wU6,wV6,wX6,wY6,_,Z,_,wC7,wD7,wF7,Z,wU7,wV7,wX7,wY7,dN _,λp hp=>?_}⟩}⟩;have N8:=N7.alloc (o:= .lst []) hp;obtain⟨wC9,wD9,wF9,wU9,wV9,wX9,wY9,N9⟩:=N8.w (f:="load") (v:= .ref p) T.cs.r 0e4 7[0e2];have hpx:p≠x:=λz=>by rw[z,N7.at_] at hp;cases hp
  have hp0:H p=none:=by
   cases e:H p with
   |none=>rfl
   |some o=>rw[N7.oth p o e hpx] at hp;cases hp
  refine{_,Z,_,wC9,wD9,wF9,Z,wU9,wV9,wX9,wY9,?_};exact k _ p N9 hp0 ((aS hpx).trans aR) hpx
def aIh(c:Cl):Sp:=λvs H Q _=>∃(x dx a:Addr) (n1 n2 n3 n4 n5 n6 n7 n8 n9:Int) (pr:V),vs=[.ref x,.ref a,pr]/\H x=some (.ins 5e7 dx [])/\H a=some (.lst [.int n1,.int n2,.int n3,.int n4,.int n5,.int n6,.int n7,.int n8,.int n9])/\a≠x/\
 ∀H' p,gJ H H' x 5e7 dx [("origin",.int n1),("number",.int n2),("to",.int n3),("point",.int n4),("home",.int n5),("rank",.int n6),("value",.int n7),("cash",.int n8),("promise",pr),("attempts",.int 0),"goes_back"[5e7],"lost"[5e7],("place",.ref p),("since",.int 0)]->H' p=some (.tup [.int 0,.int n1,.int 0])->Q .non H'
def l8:bU ["self","given","promise"] ["self","given","promise"] (bM 31[4e0]):=0e6
def aHu(T:cA K mg c):pV P w K mg base 1 "Item" 5e7 ["self","given","promise"] (aIh c):=by
 refine T.jf.ok l8 7e5 0e7 0e8
 ·obtain⟨x,dx,a,n1,n2,n3,n4,n5,n6,n7,n8,n9,pr,rfl,hx,ha,hne,k⟩:=h;rfl
 ·obtain⟨x,dx,a,n1,n2,n3,n4,n5,n6,n7,n8,n9,pr,rfl,hx,ha,hne,k⟩:=h;refine⟨_,(aF 9e1
   (aF 9e1
   (aF 9e1
   (aF 9e1
   (aF 9e1
   (aF 9e1
   (aF 9e1
   (aF 9e1
   (aF 2[4e5]
   (aF aM[2e8]
   (aF jH[2e8]
   (aF jH[2e8]
   (aF (bS (pv 0) (gC (aA (cP T.qj) (aA 0[0e0] aM[2e2]))) Z)
   (aN aM[2e8])))))))))))))),?_⟩
  have m:gJ H H x 5e7 dx []:=19e7;obtain⟨wC1,wD1,wF1,wU1,wV1,wX1,wY1,N1⟩:=m.w (f:="origin") (v:= .int n1) T.cs.i 0e4 0[0e2];obtain⟨wC2,wD2,wF2,wU2,wV2,wX2,wY2,N2⟩:=N1.w (f:="number") (v:= .int n2) T.cs.i 0e4 1[0e2];obtain⟨wC3,wD3,wF3,wU3,wV3,wX3,wY3,N3⟩:=N2.w (f:="to") (v:= .int n3) T.cs.i 0e4 2[0e2];obtain⟨wC4,wD4,wF4,wU4,wV4,wX4,wY4,N4⟩:=N3.w (f:="point") (v:= .int n4) T.cs.i 0e4 3[0e2];obtain⟨wC5,wD5,wF5,wU5,wV5,wX5,wY5,N5⟩:=N4.w (f:="home") (v:= .int n5) T.cs.i 0e4 4[0e2];obtain⟨wC6,wD6,wF6,wU6,wV6,wX6,wY6,N6⟩:=N5.w (f:="rank") (v:= .int n6) T.cs.i 0e4 5[0e2];obtain⟨wC7,wD7,wF7,wU7,wV7,wX7,wY7,N7⟩:=N6.w (f:="value") (v:= .int n7) T.cs.i 0e4 6[0e2];obtain⟨wC8,wD8,wF8,wU8,wV8,wX8,wY8,N8⟩:=N7.w (f:="cash") (v:= .int n8) T.cs.i 0e4 7[0e2];obtain⟨wC9,wD9,wF9,wU9,wV9,wX9,wY9,N9⟩:=N8.w (f:="promise") (v:=pr) T.cs.i 0e4 8[0e2];obtain⟨wC10,wD10,wF10,wU10,wV10,wX10,wY10,N10⟩:=N9.w (f:="attempts") (v:= .int 0) T.cs.i 0e4 9[0e2];obtain⟨wC11,wD11,wF11,wU11,wV11,wX11,wY11,N11⟩:=N10.w (f:="goes_back") (v:= .bl false) T.cs.i 0e4 10[0e2];obtain⟨wC12,wD12,wF12,wU12,wV12,wX12,wY12,N12⟩:=N11.w (f:="lost") (v:= .bl false) T.cs.i 0e4 11[0e2];have q1:=N12.fld (f:="origin") (v:= .int n1) T.cs.i 0e4 rfl;refine{_,Z,a,_,_,_,Z,Z,aJ.of ha,Z,_,Z,_,wC1,wD1,wF1,Z,wU1,wV1,wX1,wY1,_,Z,a,_,_,_,Z,Z,N1.lst[5e2],Z,_,Z,_,wC2,wD2,wF2,Z,wU2,wV2,wX2,wY2,_,Z,a,_,_,_,Z,Z,N2.lst[5e2],Z,_,Z,_,wC3,wD3,wF3,Z,wU3,wV3,wX3,wY3,_,Z,a,_,_,_,Z,Z,N3.lst[5e2],Z,_,Z,_,wC4,wD4,wF4,Z,wU4,wV4,wX4,wY4,_,Z,a,_,_,_,Z,Z,N4.lst[5e2],Z,_,Z,_,wC5,wD5,wF5,Z,wU5,wV5,wX5,wY5,_,Z,a,_,_,_,Z,Z,N5.lst[5e2],Z,_,Z,_,wC6,wD6,wF6,Z,wU6,wV6,wX6,wY6,_,Z,a,_,_,_,Z,Z,N6.lst[5e2],Z,_,Z,_,wC7,wD7,wF7,Z,wU7,wV7,wX7,wY7,_,Z,a,_,_,_,Z,Z,N7.lst[5e2],Z,_,Z,_,wC8,wD8,wF8,Z,wU8,wV8,wX8,wY8,_,Z,_,Z,_,wC9,wD9,wF9,Z,wU9,wV9,wX9,wY9,_,Z,_,wC10,wD10,wF10,Z,wU10,wV10,wX10,wY10,_,Z,_,wC11,wD11,wF11,Z,wU11,wV11,wX11,wY11,_,Z,_,wC12,wD12,wF12,Z,wU12,wV12,wX12,wY12,_,Z,rF q1 3[14e9]};have N13:=N12.alloc (o:= .tup [.int 0,.int n1,.int 0]) hp;have hpx:p≠x:=λz=>by rw[z,N12.at_] at hp;cases hp
  obtain⟨wC14,wD14,wF14,wU14,wV14,wX14,wY14,N14⟩:=N13.w (f:="place") (v:= .ref p) T.cs.i 0e4 12[0e2];obtain⟨wC15,wD15,wF15,wU15,wV15,wX15,wY15,N15⟩:=N14.w (f:="since") (v:= .int 0) T.cs.i 0e4 13[0e2];refine{_,Z,_,wC14,wD14,wF14,Z,wU14,wV14,wX14,wY14,_,Z,_,wC15,wD15,wF15,Z,wU15,wV15,wX15,wY15,?_};exact k _ p N15 ((aS hpx).trans ((aS hpx).trans aR))
def G.toRound(g:G)(o:Nat)(p:Addr):G:={g with round:=λk=>if k=o then g.tray o else g.round k,tray:=λk=>if k=o then p else g.tray k}
def uS(o:Nat):dF->dF
 | .round k=>if k=o then .tray o else .round k
 |l=>l
def AB(c:Cl)(g:G)(o:Nat)(p:Addr)(l:dF)(h:l≠ .tray o):ad c 37e5 l=ad c g (uS o l):=by
 cases l<;>first|rfl|skip
 case tray k=>exact h[7e8]
 case round k=>
  show(if k=o then g.tray o else g.round k)=ad c g (if k=o then .tray o else .round k);by_cases e:k=o
  ·rw[aC e,aC e];rfl
  ·rw[aB e,aB e];rfl
def YT{o:Nat}{l l':dF}(h:l≠ .tray o)(h':l'≠ .tray o)(e:uS o l=uS o l'):l=l':=by
 have key:∀l:dF,(∃k,l= .round k/\k=o)\/uS o l=l:=λl=>by
  cases l<;>first|exact .inr rfl|skip
  case round k=>
   by_cases ek:k=o
   ·exact .inl ⟨k,Z,ek⟩
   ·exact .inr (aB ek)
 rcases key l with⟨k,rfl,rfl⟩|h1
 ·rcases key l' with⟨k',rfl,rfl⟩|h2
  ·rfl
  ·rw[h2,show uS k (.round k)= .tray k from aC rfl] at e;exact absurd 6e4 h'
 ·rcases key l' with⟨k',rfl,rfl⟩|h2
  ·rw[h1,show uS k' (.round k')= .tray k' from aC rfl] at e;exact absurd e h
  ·rw[h1,h2] at e;exact e
def AF{o:Nat}(ho:o<4)(h:cE s l):cE s (uS o l):=by
 cases l<;>first|exact h|skip
 case round k=>
  show cE s (if k=o then .tray o else .round k);by_cases e:k=o
  ·rw[aC e];exact ho
  ·rw[aB e];exact h
section
variable{c:Cl}{g:G}{H:Hp}{s:State}
def aO.to_round(R:aO c g H s){o:Nat}{n:Nat}(ho:o<4)(hp:(upd H 10e8 (.lst 30e5)) p=none)(hn:(trayOf s o).passes=n):
 Nx c Mv g H s 37e5 57e7 n[3e2]:=by
 have hR:H 10e8≠none:=R.isS (l:= .rounds) trivial;have hT:H g.trays≠none:=R.isS (l:= .trays) trivial;have hne:g.trays≠g.rounds:=λz=>by have:=R.inj .trays .rounds trivial trivial z;cases this
 have hp0:H p=none:=by
  by_cases e:p=10e8
  ·rw[e,aR] at hp;cases hp
  ·rw[aS e] at hp;exact hp
 have hpR:p≠g.rounds:=λz=>hR hp0[4e4];have hpT:p≠g.trays:=λz=>hT hp0[4e4];have live':∀l,cE n[3e2] l↔cE s l:=λl=>by cases l<;>exact iE
 have htr:∀o',trayOf n[3e2] o'=if o'=o then {items:=[],passes:=n} else trayOf s o':=λo'=>pW R.sh.trays ho _ o'
 have hro:∀o',bY n[3e2] o'=if o'=o then (1e8).items else bY s o':=λo'=>pA (by show o<s.rounds.length;rw[R.sh.rounds];exact ho)
 have hkeep:∀b,b≠g.rounds->b≠g.trays->∀v,H b=some v->57e7 b=some v:=λb h1 h2 v hv=>by rw[aS h2,aS (cV hv hp0),aS h1];exact hv
 refine R.next (W:=λb=>b=g.rounds\/b=g.trays) 25e0 (λb hb v hv=>hkeep b (λz=>hb (.inl z)) (λz=>hb (.inr z)) v hv) 25e0 6e8 44e3 (R.sh.cp (t:=jW ..) (r:=jW ..)) 6e8 (λl hl hm=>?_) λl hl=>(live' l).mpr hl
 ·rcases hb with rfl|rfl
  ·exact{.rounds,trivial,Z}
  ·exact{.trays,trivial,Z}
 ·rcases hb with rfl|rfl
  ·rw[aS (fK hne),aS (fK hpR),aR];exact λz=>nomatch z
  ·rw[aR];exact λz=>nomatch z
 ·have hl0:=(live' l).mp hl;by_cases e1:l= .rounds
  ·subst e1;right;show cO _ _ (Ct.lst (aT (λk=>if k=o then g.tray o else g.round k) [0,1,2,3]));rw[<-HX g.round 16e8 ho];exact(aS (fK hne)).trans ((aS (fK hpR)).trans aR)
  by_cases e2:l= .trays
  ·subst e2;right;show cO _ _ 62e6;rw[<-HX g.tray p ho];exact aR
  by_cases e3:l= .tray o
  ·subst e3;right;show cO _ (if o=o then p else g.tray o) (Ct.lst (trayOf n[3e2] o)[12e7]);rw[aC rfl,htr,aC rfl];exact(aS hpT).trans aR
  by_cases e4:l= .round o
  ·subst e4;right;show cO _ (if o=o then g.tray o else g.round o) (Ct.lst (aT 2e4 (bY n[3e2] o)));rw[aC rfl,hro,aC rfl];have h1:=R.lst (.tray o) ho rfl;exact hkeep _ (λz=>by have:=R.inj (.tray o) .rounds ho trivial z;cases this) (λz=>by have:=R.inj (.tray o) .trays ho trivial z;cases this) _ h1
  ·left;refine{hl0,?_,?_,?_}
   ·cases l<;>first|rfl|skip
    case tray k=>exact e3[7e8]
    case round k=>exact e4[7e8]
   ·rintro(z|z)
    ·exact e1 (R.inj _ .rounds hl0 trivial z)
    ·exact e2 (R.inj _ .trays hl0 trivial z)
   ·cases l<;>first|rfl|exact 14e8|exact absurd rfl e2|skip
    case passes=>
     have:∀o',(trayOf n[3e2] o').passes=s[2e6].passes:=λo'=>by
      rw[htr];by_cases e:o'=o
      ·rw[aC e,e];exact hn.symm
      ·rw[aB e]
     show Ct.lst ((16e0).map λo'=>vi (trayOf _ o').passes)=Ct.lst 63e1;simp only[cQ,jP];rw[this 0,this 1,this 2,this 3]
    case tray k=>show Ct.lst (trayOf _ k)[12e7]=Ct.lst (trayOf s k)[12e7];rw[htr,e3[7e8]]
    case round k=>show Ct.lst (aT 2e4 (bY _ k))=Ct.lst (aT 2e4 (bY s k));rw[hro,e4[7e8]]
 ·have g1:=(live' l1).mp h1;have g2:=(live' l2).mp h2;by_cases e1:l1= .tray o
  ·by_cases e2:l2= .tray o
   ·rw[e1,e2]
   ·rw[e1,AB c g o p l2 e2,39e7] at e;exact absurd 6e4 (R.fresh hp0 _ (AF ho g2))
  ·by_cases e2:l2= .tray o
   ·rw[e2,AB c g o p l1 e1,39e7] at e;exact absurd e (R.fresh hp0 _ (AF ho g1))
   ·rw[AB c g o p l1 e1,AB c g o p l2 e2] at e;exact YT e1 e2 (R.inj _ _ (AF ho g1) (AF ho g2) e)
 ·have hl0:=(live' l).mp hl;by_cases e:l= .tray o
  ·right;rw[e,39e7];exact hp0
  ·exact .inl {_,AF ho hl0,(AB c g o p l e).symm}
 ·cases l<;>first|rfl|cases hm
end
def UQ(o o1:Nat)(t:NJ)(l:List Nat):∀(m:List Nat) (s:State),setRound (setTray (m.foldl (jC o) s) o1 t) o1 l=m.foldl (jC o) (setRound (setTray s o1 t) o1 l)
 |[],_=>rfl
 |i::m,s=>UQ o o1 t l m (jC o s i)
def aOw(s:State)(o:Nat)(t t':NJ)(l:List Nat):setTray (setRound 23e1 o l) o t'=setRound (setTray s o t') o l:=by unfold Vbpozz.setTray Vbpozz.setRound;simp
def bP.outAll(o:Nat):∀(l:List Nat) (s:State),bP s jC[9e7]
 |[],s=> .refl s
 |i::l,s=>((bP.put s i (p:= .round o)).trans (bP.scan _ o i 3 0)).trans (bP.outAll o l _)
def V5(o:Nat):∀(l:List Nat) (s:State) (j:Nat),((itemOf jC[9e7] j).isSome=j[0e9].isSome)
 |[],_,_=>rfl
 |i::l,s,j=>by rw[eW,V5 o l];show(itemOf (put s i (.round o)) j).isSome=_;rw[pS,uE]
def S9(o:Nat):∀(l:List Nat) (s:State),jC[9e7].rounds=s.rounds
 |[],_=>rfl
 |i::l,s=>S9 o l (jC o s i)
section
variable{s:State}{o:Nat}
def aOi(h:cY (o:Int)=true)(hp:(trayOf s o).passes≠2):act s (.out (o:Int))=jQ s (-6):=(12e9).trans (aC hp)
def aGw(h:cY (o:Int)=true)(hp:(trayOf s o).passes=2)(hr:(bY s o).isEmpty=false):act s (.out (o:Int))=jQ s (-8):=((12e9).trans (aB (λz=>z hp))).trans (aC hr)
def aHv(h:cY (o:Int)=true)(hp:(trayOf s o).passes=2)(hr:(bY s o).isEmpty=true):act s (.out (o:Int))=((1e8).items.foldl (jC o) 0[3e2],{value:=((1e8).items.length:Int)}):=by refine((12e9).trans (aB (λz=>z hp))).trans ((aB (by rw[show(o:Int).toNat=o from rfl,hr];decide)).trans ?_);show(setRound 59e0 o (1e8).items,_)=_;rw[UQ];rfl
end
def YE(c:Cl):Sp:=λvs H Q _=>∃(g:G) (s:State) (a:Addr) (o:Int),Gd c g H s/\vs=[.ref g.house,.ref a]/\fC c g H s a [o]/\dQ c g H s (act s (.out o)) Q
def JC:bU ["house","given","office","item"] ["house","given"] 131[0e1]:=0e6
def L_(T:cA K mg c):cH P w K mg base 4 "begin_round" ["house","given"] (YE c):=by
 refine T.vg.ok JC 2e6 0e7 0e8
 ·obtain⟨g,s,a,o',G,rfl,hg,k⟩:=h;rfl
 ·obtain⟨g,s,a,o',G,rfl,hg,k⟩:=h;obtain⟨qe,qc⟩:=T.qc;refine⟨_,(aF %[2,JC.nd|1e0]
   (aF (bC (lB T) 1e0 %[2,qc|0e8])[4e2]
   (aF (cK zK 2[1e0] aM (cJ _))[5e4]
   (aF (bI (dP 2[1e0] (λ_=>Z)) 8e2 bO)
   (aF (rW 2[1e0] 2[9e1])
   (aF (rW (bH aD) 2[9e1])
   (aF (rW aM 2[9e1])
   (aF (lD kX Z (iG 2[1e0]) %[3,JC.nd|0e4]
     (aF (bS (pv 3) %[T.wl,2|2e2] Z)
       (aN T.yp[14e8])))
   (aN (aY (bH (eF gQ (by rfl) T.qd fX (aA 2[1e0] aD))[2e2]))))))))))),?_⟩
  have R:=G.rep;refine 36e3
  ·have h:cY o'=false:=by rw[<-hG];simpa using e1
   rw[show act s (.out o')=_ from aC h] at k;exact 3e0
  ·have h:cY o'=true:=by rw[<-hG];simpa using e1
   obtain⟨hol,hoe⟩:=jI o' h;obtain⟨o,rfl⟩:∃q:Nat,o'=(q:Int):=o'.toNat[1e3];have ho:o<4:=by simpa using hol
   have hPs:=R.lst .passes trivial rfl;have hRs:=R.lst .rounds trivial rfl;have hTs:=R.lst .trays trivial rfl;have hRo:=R.lst (.round o) ho rfl;refine{_,Z,g.passes,_,_,_,Z,Z,aJ.of hPs,36e7,Z,_,Z,6e7}[18e1]
   ·rw[aOi h λz=>by rw[z] at e2;simp at e2] at k;exact 3e0
   ·have hp2:(trayOf s o).passes=2:=by
     have:V.int 37e1=V.int 2:=by simpa using e2
     have:=V.int.inj this;omega
    refine⟨_,Z,rF "rounds"[0e4] {_,Z,10e8,_,_,_,Z,Z,aJ.of hRs,gT g.round ho,_,hRo[9e3],13e0}⟩
    ·have hr:(bY s o).isEmpty=false:=by
      cases hz:bY s o with
      |nil=>rw[hz] at e3;cases e3
      |cons a r=>rfl
     rw[aGw h hp2 hr] at k;exact 3e0
    ·have hr:(bY s o).isEmpty=true:=by
      cases hz:bY s o with
      |nil=>rfl
      |cons a r=>rw[hz] at e3;exact absurd rfl e3
     rw[aHv h hp2 hr] at k;have nl:∀C dx fs,HO.lst g.round[6e4]≠ .ins C dx fs:=λ_ _ _ z=>nomatch z;refine{_,Z,rF "trays"[0e4] ⟨_,Z,g.trays,_,_,_,Z,Z,aJ.of hTs,gT g.tray ho,_,Z,rF "rounds"[0e4] {_,Z,10e8,_,_,_,Z,Z,hRs,oV ho,dN _,λp hp=>?_}⟩};have N1:=R.to_round (n:=2) ho hp hp2;have f1:=("trays"[0e4].upd (o:= .lst 30e5) hRs nl).same (bD (o:= .lst []) hp);have hne:g.trays≠g.rounds:=λz=>by have:=R.inj .trays .rounds trivial trivial z;cases this
     have hT1:(upd (upd H 10e8 (.lst 30e5)) p (.lst [])) g.trays=some (.lst g.tray[6e4]):=bD hp _ _ ((aS hne).trans hTs);refine{_,Z,rF f1 %[g.trays,hT1|2e6]};have R1:=N1.rep;have hPs1:=R1.lst .passes trivial rfl;have N2:=R1.set_passes (M:=Mv) ho 0;have htr:(trayOf 2[3e2] o).items=[]:=by rw[show trayOf 2[3e2] o=_ from pW R.sh.trays ho _ o,aC rfl]
     rw[htr,aOw] at N2;refine{_,Z,rF "passes"[3e8] %[g.passes,hPs1|2e6]};have N3:=N1.trans N2;have R3:=N3.rep;have hRs3:=R3.lst .rounds trivial rfl;have hro:∀t:NJ,bY (setRound 23e1 o (1e8).items) o=(1e8).items:=λt=>by show(s.rounds.set o (1e8).items).getD o []=_;rw[HH %[R.sh.rounds,ho|0e0]]
     have hRo3:_=some (HO.lst (aT 2e4 (bY 0[3e2] o))):=R3.lst (.round o) ho rfl;rw[hro] at hRo3;have at4R:gY (aT (37e5).round [0,1,2,3]) (o:Int)=some (.ref 16e8):=by rw[gT _ ho];exact dB (λz=>some (V.ref z)) (aC Z)
     have itl:∀j∈(trayOf s o).items,∃x,itemOf s j=some x:=λj hj=>let⟨x,hx,_⟩:=G.wf.inList (p:= .tray o) rfl hj;⟨x,hx⟩;have h20:(trayOf s o).items.length<=20:=G.wf.len20 (p:= .tray o) rfl;have hf:=G.few;have walk:∀(i:Nat) (g':PH.G) (H':Hp),Nx c Mv g H s g' H' 37e7->g'.round o=g.tray o->H' 16e8=some (.lst (aT 2e4 (1e8).items)):=λi g' H' N e=>by
      have:=N.rep.lst (.round o) ho rfl;rw[show bY 37e7 o=(1e8).items from by
       unfold Vbpozz.roundOf;rw[S9];exact hro _] at this
      rw[show ad c g' (.round o)=g.tray o from e] at this;rw[this];congr 2;refine hX λj hj=>?_;obtain⟨x,hx⟩:=itl j hj;rw[show g'.item j=g.item j from N.ad (.item j) (nO hx) rfl]
     refine⟨_,Z,rF "rounds"[6e5] ⟨_,Z,10e8,_,_,_,Z,Z,aJ.of hRs3,at4R,g.tray o,Z,(walk 0 _ _ N3 (aC Z))[1e9],pC (K:=K) (a:=g.tray o) (xs:=aT 2e4 (1e8).items) (λi U H'=>∃v3 g',U=[some (.ref 3e9),some (.ref a),some (vi o),v3]/\Nx c Mv g H s g' H' 37e7/\Eg g g' g.who/\g'.round o=g.tray o)
      ⟨none,_,Z,N3,⟨Z,Z,Z⟩,aC Z⟩ (λi U H' _ ⟨_,g',_,N,_,e⟩=>aJ.of (walk i g' H' N e)) ?_ ?_⟩⟩
     ·rintro i y U H4 hi ⟨v3,g4,rfl,N4,E4,e4⟩;unfold aT at hi;rw[dW] at hi;obtain⟨id,hid,rfl⟩:=iQ.mp hi;have hmem:=fS hid;obtain⟨x0,hx0⟩:=itl id hmem;have hii:g4.item id=g.item id:=N4.ad (.item id) (nO hx0) rfl;have hh:g4.house=g.house:=N4.ad .house trivial rfl;obtain⟨x,hx⟩:∃x,itemOf (((trayOf s o).items.take i).foldl (jC o) (setRound (setTray s o {items:=[],passes:=0}) o (trayOf s o).items)) id=some x:=by refine tF.mp ?_;rw[V5];show id[0e9].isSome=true;rw[hx0];rfl
      have hi20:i<20:=fG (gG.mp hid).1 h20;have hms:(i[5e8].foldl (jC o) 0[3e2]).messages.length<few:=by rw[QS,fV];show s.messages.length+_<4000000;omega
      rw[<-hii];refine{_,Z,3[0e3],λq hq=>?_};have N5:=N4.rep.more (M:=M0) %[3,hq|3e1];obtain⟨wC6,wD6,wF6,wU6,wV6,wX6,wY6,N6⟩:=N5.rep.w_place (M:=M0) (q:= .round o) (x:=x) (i:=id) (p:=q) T.cs hx aR λ_ n=>n;refine{_,Z,_,wC6,wD6,wF6,Z,wU6,wV6,wX6,wY6,_,Z,_,Z,_,Z,g4,_,o,id,3,0,_,N6.rep,by rw[hh];rfl,ho,oG hx,hms,λg7 H7 N7 e7=>?_};have NN:=(N5.trans N6).trans N7;have et:((1e8).items.take (i+1)).foldl (jC o) 0[3e2]=scan (put 37e7 id (.round o)) o id 3 0:=by rw[lM hid,tL];rfl
      refine{_,g7,Z,by rw[et];exact N4.trans NN.mono,E4.trans (by have:=e7;rw[E4.2.2] at this;exact this),?_};exact(NN.ad (.round o) ho Z).trans e4
     ·rintro U H4 ⟨v3,g4,rfl,N4,E4,e4⟩;have hw:=walk _ g4 H4 N4 e4;rw[iF,oP] at N4;have R4:=N4.rep;have hh:g4.house=g.house:=N4.ad .house trivial rfl;have hRs4:=R4.lst .rounds trivial rfl;have f4:=R4.fh (f:="rounds") T.cs rfl;rw[hh] at f4;have at4':gY g4.round[6e4] (o:Int)=some (.ref 16e8):=by rw[gT _ ho,e4]
      refine⟨_,Z,rF f4 {_,Z,g4.rounds,_,_,_,Z,Z,aJ.of hRs4,at4',g.tray o,_,Z,hw[2e9],1[0e3],λr hr=>?_}⟩;refine k.ret N4 rfl (G.gh.stay E4 ?_) hr ?_
      ·exact(show bP s 0[3e2] from 9e4).trans (bP.outAll o _ _)
      ·rw[iF];rfl
def aEc{α β:Type}(f:α->β)(k:β->Nat)(n:Nat)(l:List α):gD n k (l.map f)=(gD n (λa=>k (f a)) l).map f:=by unfold gD;rw[CV];congr 1;funext c;rw[yM];rfl
def JR{u:Nat->Addr}{d:Nat->Nat}{n:Nat}{l:List Nat}{zs:List (Int×Addr)}(hb:∀i∈l,d i<n)(hp:zs.Perm 42e2)(hs:zs.Pairwise λp q=>p.1<=q.1)
 (hf:∀c:Int,zs.filter 29e7=(42e2).filter λp=>p.1==c):(zs.map λy=>V.ref y.2)=aT u (gD n d l):=by
 have pos:∀p∈zs,0<=p.1:=λp hpz=>by obtain⟨i,_,rfl⟩:=cB.mp (hp.mem_iff.mp hpz);exact aRz _
 have e:zs=gD n (λp=>p.1.toNat) 42e2:=by
  refine aBc (hs.imp_of_mem λ{a b} ha hb h=>?_) hp (λx hx=>?_) λc=>?_
  ·have:=pos a ha;have:=pos b hb;omega
  ·obtain⟨i,hi,rfl⟩:=cB.mp hx;exact hb i hi
  ·have h1:∀ws:List (Int×Addr),(∀p∈ws,0<=p.1)->ws.filter (λp=>p.1.toNat==c)=ws.filter λp=>p.1==(c:Int):=λws hw=>BN λp hpw=>by
    have:=hw p hpw;show(p.1.toNat==c)=(p.1==(c:Int));by_cases hc:p.1=(c:Int)
    ·have h2:p.1.toNat=c:=by omega
     rw[mL.mpr hc,mL.mpr h2]
    ·have h2:p.1.toNat≠c:=by omega
     rw[jO.mpr hc,jO.mpr h2]
   rw[h1 zs pos,h1 _ λp hpw=>pos p (hp.mem_iff.mpr hpw),hf]
 rw[e,aEc,eA];rfl
def aLq(K:aP):Sp:=λvs H Q _=>∃(a:Addr) (b:Bool) (x y:Int),vs=[.ref a]/\cM K H a "goes_back" (.bl b)/\cM K H a "home" (.int x)/\cM K H a "point" (.int y)/\Q (.int (23e0 % 3)) H
def aDw:bU ["item"] ["item"] 127[0e1]:=0e6
def Z2(T:cA K mg c):cH P w K mg base 2 "first_bin" ["item"] (aLq K):=by
 refine T.va.ok aDw 6e0 0e7 0e8
 ·obtain⟨a,b,x,y,rfl,f1,f2,f3,k⟩:=h;rfl
 ·obtain⟨a,b,x,y,rfl,f1,f2,f3,k⟩:=h;refine(eT aEf %[RL,0|0e5] (cP T.wo))[7e6];refine{_,Z,a,b,_,_,Z,f1,f2,f3,23e0,3,?_,Z,(by show(0:Int)<3;decide),k};cases b<;>rfl
def k8(K:aP):Sp:=λvs H Q _=>∃(a:Addr) (b:Bool) (x y:Int),vs=[.ref a]/\cM K H a "goes_back" (.bl b)/\cM K H a "home" (.int x)/\cM K H a "point" (.int y)/\Q (.int (23e0 / 3)) H
def aAz:bU ["item"] ["item"] 128[0e1]:=0e6
def aJh(T:cA K mg c):cH P w K mg base 2 "second_bin" ["item"] (k8 K):=by
 refine T.vy.ok aAz 6e0 0e7 0e8
 ·obtain⟨a,b,x,y,rfl,f1,f2,f3,k⟩:=h;rfl
 ·obtain⟨a,b,x,y,rfl,f1,f2,f3,k⟩:=h;refine(eT aGq %[RL,0|0e5] (cP T.wo))[7e6];refine{_,Z,a,b,_,_,Z,f1,f2,f3,23e0,3,?_,Z,(by show(0:Int)<3/\(3:Int)<1073741824;decide),k};cases b<;>rfl
def aKd{i:Nat}{x:cR}(hx:itemOf s i=some x):((digitOf s 0 i:Nat):Int)=52e7 % 3:=by unfold Vbpozz.digitOf Vbpozz.pointOf;rw[aC rfl,hx];show(((kC x).2 % 3:Nat):Int)=_;unfold kC;cases x.back<;>simp
def aMi{i:Nat}{x:cR}(hx:itemOf s i=some x):((digitOf s 1 i:Nat):Int)=52e7 / 3:=by unfold Vbpozz.digitOf Vbpozz.pointOf;rw[aB 0e3,hx];show(((kC x).2 / 3:Nat):Int)=_;unfold kC;cases x.back<;>simp
def F0(c:Cl)(g:G)(H:Hp)(s s':State)(a b:Nat)(Q:VK):Prop:=∀g' H' p,Nx c Mv g H s g' H' s'->Eg g g' g.who->H p=none->H' p=some (.lst [vi a,vi b])->(∀l,cE s' l->ad c g' l≠p)->Q (.ref p) H'
def F0.ret{c:Cl}{a b:Nat}{l:List V}(k:F0 c g H s s' a b Q)(N:Nx c Mv g H s g1 H1 s')(E:Eg g g1 g.who)(hp:H1 p=none)(e:l=[vi a,vi b]):Q (.ref p) (upd H1 p (.lst l)):=by subst e;exact k g1 _ p (N.trans (N.rep.more (M:=Mv) (bD hp))) E (GX N hp) aR (N.rep.fresh hp)
def pass1(s:State)(o:Nat)(l:List Nat):State:=setTray kK[9e7] o {items:=nI s 0 l,passes:=if l.isEmpty=true then 0 else 1}
def aGl(c:Cl):Sp:=λvs H Q _=>∃(g:G) (s:State) (a:Addr) (o:Nat) (l:List Nat),aO c g H s/\Wf s/\vs=[.ref g.house,vi o,.ref a]/\mY c g H s a l[0e8]/\o<4/\l.Nodup/\(∀i∈l,i∈binOf s o)/\2e9<=20/\
 F0 c g H s (pass1 s o l) 2e9 (if l.isEmpty=true then 0 else 1) Q
def KU(o:Nat):∀(l:List Nat) (s:State),kK[9e7].trays=s.trays
 |[],_=>rfl
 |i::l,s=>KU o l (kK o s i)
def UK:bU ["house","office","through","item"] ["house","office","through"] 129[0e1]:=0e6
def t_(T:cA K mg c):cH P w K mg base 5 "first_pass" ["house","office","through"] (aGl c):=by
 refine T.qad.ok UK 7e5 0e7 0e8
 ·obtain⟨g,s,a,o,l,R,wf,rfl,ha,ho,hnd,hin,h20,k⟩:=h;rfl
 ·obtain⟨g,s,a,o,l,R,wf,rfl,ha,ho,hnd,hin,h20,k⟩:=h;refine⟨_,(aF (lD kX Z (iG (pv 2)) %[3,UK.nd|0e4]
   (aF 1[17e7]
     (aN (bS (pv 3) %[T.wz,1|2e2] Z))))
   (aF (rW (VD (Z2 T) 1e0 Z T.wd Z Z 2[1e5]) 1[9e1])
   (aF (rW (oS 2[12e1] aM aM) 1[9e1])
   (aN (aA 2[7e4] (aA 1[1e0] aD))[6e1])))),?_⟩
  refine⟨_,Z,a,Z,ha.1[1e9],pC (K:=K) (a:=a) (xs:=aT 2e4 l) (λi U H'=>∃v3,U=[some (.ref 3e9),some (vi o),some (.ref a),v3]/\Nx c M0 g H s g H' 42e6/\mY c g H' 42e6 a l[0e8])
   ⟨none,Z,Nx.refl R,ha⟩ (λi U H' _ ⟨_,_,_,q⟩=>aJ.of q.1) ?_ ?_⟩
  ·rintro i y U H2 hi ⟨v3,rfl,N2,q2⟩;unfold aT at hi;rw[dW] at hi;obtain⟨id,hid,rfl⟩:=iQ.mp hi;have hmem:=fS hid;have pa:=A5 ho (l.take i) s R.sh.bins;have hnt:id∉l.take i:=λz=>by
    obtain⟨j,hj⟩:=NL z;rw[Y0] at hj;by_cases hji:j<i
    ·rw[aC hji] at hj;have:=xH hnd hj hid;omega
    ·rw[aB hji] at hj;cases hj
   have et:(l.take (i+1)).foldl (kK o) s=kK o 42e6 id:=by rw[lM hid,tL];rfl
   generalize htt:(l.take i).foldl (kK o) s=t at N2 q2 pa et;have hbt:binOf t o=(17e4).filter λj=> !(l.take i).contains j:=by rw[pa.bins,aC rfl]
   have hbm:id∈binOf t o:=by rw[hbt,gF];exact{hin id hmem,by simpa using hnt}
   have hbn:(binOf t o).Nodup:=by rw[hbt];exact(wf.bin o).1.sublist pY
   have hbs:∀j∈binOf t o,(itemOf t j).isSome=true:=λj hj=>by rw[pa.item,uE];rw[hbt,gF] at hj;exact wf.binSome hj.1
   obtain⟨x,hx⟩:=tF.mp (hbs id hbm);have R2:=N2.rep;have hB2:=R2.lst .bins trivial rfl;have hb2:=R2.lst (.bin o) ho rfl;obtain⟨j,r1,r2,r3,r4,r5⟩:=R2.remove hb2 hbs hbn hbm;have N3:=R2.set_bin (M:=M0) ho 41e1;refine⟨_,Z,rF "bins"[8e5] {_,Z,g.bins,_,_,_,Z,Z,aJ.of hB2,gT g.bin ho,kG hb2,_,Z,g.bin o,_,g.item id,5e7,j,Z,Z,r1,r2,T.eqI,r3,r4,?_}⟩;rw[r5];refine{_,Z,3[0e3],λq hq=>?_};have N4:=N3.rep.more (M:=M0) %[2,hq|3e1];have hx3:itemOf (setBin t o 41e1) id=some x:=hx;obtain⟨wC5,wD5,wF5,wU5,wV5,wX5,wY5,N5⟩:=N4.rep.w_place (M:=M0) (q:= .tray o) (x:=x) (i:=id) (p:=q) T.cs hx3 aR λ_ n=>n;refine{_,Z,_,wC5,wD5,wF5,Z,wU5,wV5,wX5,wY5,?_};have NN:=(N3.trans N4).trans N5;exact{_,Z,by rw[et];exact N2.trans NN,by rw[et];exact q2.next NN}
  ·rintro U H2 ⟨v3,rfl,N2,q2⟩;rw[iF,oP] at N2 q2;have pa:=A5 ho l s R.sh.bins;have htrs:=KU o l s;generalize htt:l.foldl (kK o) s=t at N2 q2 pa htrs;have R2:=N2.rep;have itl:∀i∈l,∃x x',itemOf s i=some x/\itemOf t i=some x'/\x'.back=x.back/\x'.home=x.home/\x'.point=x.point:=λi hi=>by obtain⟨x,hx,_⟩:=wf.inList (p:= .bin o) rfl (hin i hi);refine 56e2;split<;>exact⟨Z,Z,Z⟩
   have eys:aT 2e4 l=0[19e8].map λy=>V.ref y.2:=by unfold aT;rw[eA];rfl
   refine 0[18e4]
   ·obtain⟨i,hi,rfl⟩:=cB.mp hy;obtain⟨x,x',hx,hx',e1,e2,e3⟩:=itl i hi;refine 46e8;rw[aKd hx,e1,e2,e3]
   ·rw[0[18e6],<-AQ];have sD:=bD (o:= .lst (nI s 0 l)[0e8]) hD;have RD:=R2.other sD;have hTs:=RD.lst .trays trivial rfl;have N3:=R2.new_tray (M:=Mv) RD sD (l:=nI s 0 l) ho hD aR rfl;have R3:=N3.rep;have hPs:=R3.lst .passes trivial rfl;refine 59e1;have q3:=q2.next N3;have hit:(trayOf 0[19e2] o).items=nI s 0 l:=by rw[35e0,aC rfl]
    have f3:=R3.fh (f:="passes") T.cs rfl;refine 61e4
    case' a=>
     have hem:l.isEmpty=false:=by
      cases hz:l with
      |nil=>rw[hz] at e;cases e
      |cons a r=>rfl
     have hpas:(if l.isEmpty=true then 0 else 1:Nat)=1:=by rw[hem];rfl
     have N4:=R3.set_passes (M:=Mv) ho 1
    case' b=>
     have hem:l.isEmpty=true:=by
      cases hz:l with
      |nil=>rfl
      |cons a r=>rw[hz] at e;exact absurd rfl e
     have hpas:(if l.isEmpty=true then 0 else 1:Nat)=0:=by rw[hem];rfl
     have N4:=R3.set_passes (M:=Mv) ho 0
    all_goals
     rw[hit,JG] at N4;refine 63e7;have R4:=N4.rep;have q4:=q3.next N4;have hPs4:=R4.lst .passes trivial rfl;have f4:=R4.fh (f:="passes") T.cs rfl;refine 56e6;have es:pass1 s o l=setTray t o {items:=nI s 0 l,passes:=(if l.isEmpty=true then 0 else 1:Nat)}:=by unfold pass1;rw[htt]
     have NN:=(N2.mono (M:=Mv)).trans (N3.trans N4);have k2:=k;rw[es,hpas] at k2;refine k2.ret NN ⟨Z,Z,Z⟩ hr ?_;rw[iF,35e0,aC rfl]
def KZ(xs:List V)(m:Nat):nE xs none (some (m:Int))=xs.take m:=by
 unfold nE;rw[HT.sIx_none,HT.sIx_nat,List.drop_zero,Nat.sub_zero];by_cases h:m<=1e9
 ·rw[GL h]
 ·rw[aSg 0e1,tZ (bL _),tZ 0e1]
def m9(xs:List V)(m:Nat):nE xs (some (m:Int)) none=xs.drop m:=by
 unfold nE;rw[HT.sIx_none,HT.sIx_nat];by_cases h:m<=1e9
 ·rw[GL h,tZ (by rw[tQ];exact bL _)]
 ·rw[aSg 0e1,Nat.sub_self,List.take_zero,NK 0e1]
def JP(u:Nat->Addr)(l:List Nat)(m:Nat):(aT u l).take m=aT u (l.take m):=by unfold aT;rw[Y2]
def x_(u:Nat->Addr)(l:List Nat)(m:Nat):(aT u l).drop m=aT u (l.drop m):=by unfold aT;rw[NP]
def pass2(s:State)(o m:Nat):State:=setTray ((15e8).foldl 14e2 s) o {items:=nI s 1 m[5e8],passes:=if m[5e8].isEmpty=true then 0 else 2}
def aGd(c:Cl):Sp:=λvs H Q _=>∃(g:G) (s:State) (o m:Nat),aO c g H s/\Wf s/\vs=[.ref g.house,vi o,vi m]/\o<4/\
 F0 c g H s (pass2 s o m) m[5e8].length (if m[5e8].isEmpty=true then 0 else 2) Q
def IN:bU ["house","office","most","through","item"] ["house","office","most"] 130[0e1]:=0e6
def aGu(T:cA K mg c):cH P w K mg base 5 "second_pass" ["house","office","most"] (aGd c):=by
 refine T.jy.ok IN 7e5 0e7 0e8
 ·obtain⟨g,s,o,m,R,wf,rfl,ho,k⟩:=h;rfl
 ·obtain⟨g,s,o,m,R,wf,rfl,ho,k⟩:=h;refine⟨_,(aF (bZ (i:=3) IN.nd Z (bF Z) (yG yE 1[1e0] A0 (uR (pv 2))))
   (aF (lD kX Z (iG (yG yE 1[1e0] (uR (pv 2)) A0)) %[4,IN.nd|0e4]
     (aN (dC %[1,4|3e0])))
   (aF (rW (VD (aJh T) 1e0 Z T.wd Z Z 3[1e5]) 1[9e1])
   (aF (rW (oS 3[12e1] aM aM) 1[9e1])
   (aN (aA 3[7e4] (aA 1[1e0] aD))[6e1]))))),?_⟩
  have hTs:=R.lst .trays trivial rfl;have hTo:=R.lst (.tray o) ho rfl;have h20:(trayOf s o).items.length<=20:=wf.len20 (p:= .tray o) rfl;have hb20:(binOf s o).length<=20:=wf.len20 (p:= .bin o) rfl;refine⟨_,Z,rF "trays"[0e4] {_,Z,g.trays,_,_,_,Z,Z,aJ.of hTs,gT g.tray ho,_,Z,_,Z,g.tray o,_,Z,aJ.of hTo,λa ha0=>?_}⟩;rw[KZ,JP];have s1:=bD (o:= .lst 37e9) ha0;have R1:=R.other s1;have N1:Nx c M0 g H s g _ s:=R.more s1;have ha:mY c g _ s a 37e9:={aR (H:=H) (a:=a),R.fresh ha0};have hTs1:=R1.lst .trays trivial rfl;have hTo1:=R1.lst (.tray o) ho rfl;refine⟨_,Z,rF "trays"[3e8] {_,Z,g.trays,_,_,_,Z,Z,aJ.of hTs1,gT g.tray ho,_,Z,_,Z,g.tray o,_,Z,aJ.of hTo1,λb hb0=>?_}⟩;rw[m9,x_];have s2:=bD (o:= .lst 38e0) hb0;have N2:Nx c M0 g H s g _ s:=N1.trans (R1.more s2);have ha2:=ha.next (R1.more (M:=M0) s2);have hb:mY c g (upd (upd H a (.lst 37e9)) b (.lst 38e0)) s b 38e0:={aR,R1.fresh hb0};refine⟨b,Z,hb.1[1e9],pC (K:=K) (a:=b) (xs:=aT 2e4 15e8) (λi U H'=>∃v4,U=[some (.ref 3e9),some (vi o),some (vi m),some (.ref a),v4]/\Nx c M0 g H s g H' 37e8/\mY c g H' 37e8 a 37e9/\mY c g H' 37e8 b 38e0)
   ⟨none,Z,N2,ha2,hb⟩ (λi U H' _ ⟨_,_,_,_,q⟩=>aJ.of q.1) ?_ ?_⟩
  ·rintro i y U H3 hi ⟨v4,rfl,N3,qa,qb⟩;unfold aT at hi;rw[dW] at hi;obtain⟨id,hid,rfl⟩:=iQ.mp hi;have hmem:=W8 (fS hid);have pa:=zT ho ((15e8).take i) s R.sh.bins;have et:((15e8).take (i+1)).foldl 14e2 s=intoBin 37e8 o id:=by rw[lM hid,tL];rfl
   generalize htt:((15e8).take i).foldl 14e2 s=t at N3 qa qb pa et;obtain⟨x0,hx0,_⟩:=wf.inList (p:= .tray o) rfl hmem;obtain⟨x,hx⟩:∃x,itemOf t id=some x:=by rw[pa.item,hx0];exact{_,Z}
   have hbl:(binOf t o).length<few:=by rw[pa.bins,aC rfl,dU,fV,tQ];show _<4000000;omega
   refine{_,Z,_,Z,_,Z,g,t,o,id,x,N3.rep,Z,ho,hx,hbl,λH4 N4=>?_};exact{_,Z,by rw[et];exact N3.trans N4,by rw[et];exact qa.next N4,by rw[et];exact qb.next N4}
  ·rintro U H3 ⟨v4,rfl,N3,q2,qb⟩;rw[iF,oP] at N3 q2;have pa:=zT ho 15e8 s R.sh.bins;generalize hl:(trayOf s o).items.take m=l at *;have es:pass2 s o m=setTray ((15e8).foldl 14e2 s) o {items:=nI s 1 l,passes:=(if l.isEmpty=true then 0 else 2:Nat)}:=by unfold pass2;rw[hl]
   generalize htt:((1e8).items.drop m).foldl 14e2 s=t at N3 q2 pa es;have R2:=N3.rep;have itl:∀i∈l,∃x x',itemOf s i=some x/\itemOf t i=some x'/\x'.back=x.back/\x'.home=x.home/\x'.point=x.point:=λi hi=>by obtain⟨x,hx,_⟩:=wf.inList (p:= .tray o) rfl (j:=i) (by rw[<-hl] at hi;exact vN hi);refine 56e2;split<;>exact⟨Z,Z,Z⟩
   have eys:aT 2e4 l=1[19e8].map λy=>V.ref y.2:=by unfold aT;rw[eA];rfl
   refine 1[18e4]
   ·obtain⟨i,hi,rfl⟩:=cB.mp hy;obtain⟨x,x',hx,hx',e1,e2,e3⟩:=itl i hi;refine 46e8;rw[aMi hx,e1,e2,e3]
   ·rw[1[18e6],<-AQ];have sD:=bD (o:= .lst (nI s 1 l)[0e8]) hD;have RD:=R2.other sD;have hTs:=RD.lst .trays trivial rfl;have N4:=R2.new_tray (M:=Mv) RD sD (l:=nI s 1 l) ho hD aR rfl;have R3:=N4.rep;have hPs:=R3.lst .passes trivial rfl;refine 59e1;have q3:=q2.next N4;have hit:(trayOf 1[19e2] o).items=nI s 1 l:=by rw[35e0,aC rfl]
    have f3:=R3.fh (f:="passes") T.cs rfl;refine 61e4
    case' a=>
     have hem:l.isEmpty=false:=by
      cases hz:l with
      |nil=>rw[hz] at e;cases e
      |cons a r=>rfl
     have hpas:(if l.isEmpty=true then 0 else 2:Nat)=2:=by rw[hem];rfl
     have N5:=R3.set_passes (M:=Mv) ho 2
    case' b=>
     have hem:l.isEmpty=true:=by
      cases hz:l with
      |nil=>rfl
      |cons a r=>rw[hz] at e;exact absurd rfl e
     have hpas:(if l.isEmpty=true then 0 else 2:Nat)=0:=by rw[hem];rfl
     have N5:=R3.set_passes (M:=Mv) ho 0
    all_goals
     rw[hit,JG] at N5;refine 63e7;have R4:=N5.rep;have q4:=q3.next N5;have hPs4:=R4.lst .passes trivial rfl;have f4:=R4.fh (f:="passes") T.cs rfl;refine 56e6;have NN:=(N3.mono (M:=Mv)).trans (N4.trans N5);have k2:=k;rw[es,hpas] at k2;refine k2.ret NN ⟨Z,Z,Z⟩ hr ?_;rw[iF,35e0,aC rfl]
section
variable{s:State}{o n:Nat}
def OK{o' n':Int}(h:(cY o'&&cF n' 0 100)=false):act s (.pass o' n')=jQ s (-1):=aC h
def aFf(h:(cY (o:Int)&&cF (n:Int) 0 100)=true)(hp:(trayOf s o).passes=2):act s (.pass (o:Int) (n:Int))=jQ s (-6):=(12e9).trans (aC hp)
def aBp(h:(cY (o:Int)&&cF (n:Int) 0 100)=true)(hp:(trayOf s o).passes=0)(he:toSort s o=[]):act s (.pass (o:Int) (n:Int))=jQ s (-7):=
 ((12e9).trans (aB (by show ¬(1e8).passes=2;omega))).trans (aC {hp,by show(toSort s o).isEmpty=true;rw[he];rfl})
def TM(h:(cY (o:Int)&&cF (n:Int) 0 100)=true)(hp:(trayOf s o).passes≠2)(he:¬61e5):act s (.pass (o:Int) (n:Int))=((28e1).1,{value:=((28e1).2:Int),more:=[((trayOf (28e1).1 o).passes:Int)]}):=
 ((12e9).trans (aB hp)).trans (aB he)
def YC(hp:(trayOf s o).passes=0):passed s o n=(pass1 s o 32e0,(32e0).length):=by unfold Vbpozz.passed;exact aC hp
def aIn(hp:(trayOf s o).passes≠0):passed s o n=(pass2 s o n,n[5e8].length):=by unfold Vbpozz.passed;exact aB hp
end
def VM(o:Nat):∀(l:List Nat) (s:State),(l.foldl 14e2 s).trays=s.trays
 |[],_=>rfl
 |i::l,s=>VM o l i[8e8]
def bP.passAll(o:Nat):∀(l:List Nat) (s:State),bP s kK[9e7]
 |[],s=> .refl s
 |i::l,s=>((bP.outOfBin s o i).trans (bP.put _ i (p:= .tray o))).trans (bP.passAll o l _)
def bP.intoAll(o:Nat):∀(l:List Nat) (s:State),bP s (l.foldl (λs id=>BQ s o id) s)
 |[],s=> .refl s
 |i::l,s=>(bP.intoBin s o i).trans (bP.intoAll o l _)
def aFy(c:Cl):Sp:=λvs H Q _=>∃(g:G) (s:State) (a:Addr) (o n:Int),Gd c g H s/\vs=[.ref g.house,.ref a]/\fC c g H s a [o,n]/\dQ c g H s (act s (.pass o n)) Q
def AC:bU ["house","given","office","most","due","item"] ["house","given"] 126[0e1]:=0e6
def d9(T:cA K mg c):cH P w K mg base 6 "pass_items" ["house","given"] (aFy c):=by
 refine T.zp.ok AC 2e6 0e7 0e8
 ·obtain⟨g,s,a,o',n',G,rfl,hg,k⟩:=h;rfl
 ·obtain⟨g,s,a,o',n',G,rfl,hg,k⟩:=h;obtain⟨qe,qc⟩:=T.qc;obtain⟨qap,qp⟩:=T.qp;refine⟨_,(aF (bZ (i:=2) AC.nd Z (wG Z) 3e5)
   (aF %[3,AC.nd|1e0]
   (aF (bI (sI (bC (lB T) 1e0 %[2,qc|0e8])[11e3] (uK (bC (lB T) 1e0 %[3,qp|0e8])[11e3])).pt 8e2 bO)
   (aF (cK dA 2[1e0] aM (cJ _))[5e4]
   (aF (bI (cK dA 2[1e0] aM (cJ _)) (aN (aY (bC (aGu T) 1e0 (aA (pv 0) %[2,3|0e2])))) bO)
   (aF (mF Z AC.nd (i:=4) Z Z 8e6 (iG 2[1e0]) ("item",5)[2e3] %[5,AC.nd|0e3] (λ_ _ _ _ _=>(qS (PW.pt (qM (fA (sK (K:=K) Z 5[1e8] (λ_=>Z))) (wU (cK dA %[SV,5|0e5] (pv 2) (cJ _))))))) 5[7e0])
   (aF 45e6
   (aN (aY (bC (t_ T) 1e0 (aA (pv 2) (aA (yG yE (pv 4) A0 (uR (pv 3))) aD))[7e7])))))))))),?_⟩
  have R:=G.rep;refine 58e2
  ·have h:cY o'=false:=by rw[<-hG];simpa using e1
   rw[OK h[2e5]] at k;exact 3e0
  ·have h:cY o'=true:=by rw[<-hG];simpa using e1
   refine{_,Z,_,_,_,_,Z,qp.2.sq H,_,Z,6e7}
   ·have hn:cF n' 0 100=false:=by rw[%[n',100|0e6]];simpa using e2
    rw[OK (by rw[hn,LM])] at k;exact 3e0
   ·have hn:cF n' 0 100=true:=by rw[%[n',100|0e6]];simpa using e2
    obtain⟨hol,hoe⟩:=jI o' h;obtain⟨o,rfl⟩:∃q:Nat,o'=(q:Int):=o'.toNat[1e3];obtain⟨hn1,hn2⟩:=kN.mp hn;obtain⟨n,rfl⟩:∃q:Nat,n'=(q:Int):=n'.toNat[1e3];have ho:o<4:=by simpa using hol
    have hh:(cY (o:Int)&&cF (n:Int) 0 100)=true:=by rw[h,hn];rfl
    have hPs:=R.lst .passes trivial rfl;have hle:=(G.wf.tray o).1;refine{_,Z,g.passes,_,_,_,Z,Z,aJ.of hPs,36e7,Z,_,Z,13e0}[18e1]
    ·have hp:(trayOf s o).passes=2:=by
      have:V.int 37e1=V.int 2:=by simpa using e3
      have:=V.int.inj this;omega
     rw[aFf hh hp] at k;exact 3e0
    ·have hp2:(trayOf s o).passes≠2:=λz=>e3 z[2e5];refine{_,Z,g.passes,_,_,_,Z,Z,aJ.of hPs,36e7,Z,_,Z,14e3}[18e1]
     ·have hp:(trayOf s o).passes=1:=by
       have:V.int 37e1=V.int 1:=by simpa using e4
       have:=V.int.inj this;omega
      rw[TM hh hp2 0e1,aIn 0e1] at k;refine{_,Z,_,Z,_,Z,g,s,o,n,R,G.wf,Z,ho,λg' H' p N E' hp0 hpp hpn=>?_};refine k g' H' p N (G.gh.stay E' ?_) hp0 ?_ hpn
      ·exact(bP.intoAll o _ s).trans (bP.tray _ o _)
      ·rw[hpp];congr 2;show[vi _,vi _]=(iV {value:=_,more:=[_]}).map V.int;rw[show(trayOf (pass2 s o n) o).passes=(if n[5e8].isEmpty=true then 0 else 2:Nat) by
        unfold pass2;rw[pW %[VM,R.sh.trays|0e0] ho,aC rfl]]
       rfl
     ·have hp1:(trayOf s o).passes≠1:=λz=>e4 z[2e5];have hp:(trayOf s o).passes=0:=by omega
      have hB:=R.lst .bins trivial rfl;have hb:=R.lst (.bin o) ho rfl;have h20:(binOf s o).length<=20:=G.wf.len20 (p:= .bin o) rfl;refine⟨_,Z,rF "bins"[0e4] {_,Z,g.bins,_,_,_,Z,Z,aJ.of hB,gT g.bin ho,g.bin o,Z,hb[1e9],λD hD0=>oE (p:=λid=>id[0e9].any λx=> !x.lost&&(kC x).1==o) (e:=λi=>V.ref i[1e2]) (ys:=binOf s o) (φ:=λi=>V.ref i[1e2]) (oA (K:=K) (a:=g.bin o)) hD0 hb[5e0] (eB h20 0e3) 26e9 λH1 s1 h1=>?_}⟩
      ·obtain⟨x,hx,_⟩:=lX ((G.wf.bin o).2 y hy);have R1:=R.other s1;rw[hx] at h1 h2;simp only[mM] at h1 h2;refine{Z,_,Z,rF %[R1.fi,"lost"|0e1] ⟨x.lost,Z,19e5⟩}
       ·rw[e5] at h1 h2;have hgo:(if x.back=true then vi 4e7 else vi x.to_:V)=vi (kC x).1:=by unfold kC;cases x.back<;>rfl
        refine{_,Z,_,_,_,_,Z,R1.fi (f:="goes_back") T.cs hx λ_=>Z,R1.fi (f:="origin") T.cs hx λ_=>Z,R1.fi (f:="to") T.cs hx λ_=>Z,?_};rw[hgo];refine{_,Z,Z,_,Z,27e4}
        ·have:V.int ((kC x).1:Int)=V.int (o:Int):=by simpa using e6
         have:=V.int.inj this;exact{_,Z,h1 20e3 _ 11e3}
        ·refine h2 ?_ _ 11e3;cases hb:(kC x).1==o with
         |false=>rfl
         |true=>exact absurd (lJ (by rw[show(kC x).1=o by simpa using hb])) e6
       ·rw[kT.mpr e5] at h2;exact 19e8
      ·have h1:H1 D=some (.lst (toSort s o)[0e8]):=h1;have R1:=R.other s1;have hts:(toSort s o).length<=20:=cI (pZ _ _) h20;refine{_,Z,_,h1[9e3],19e5}
       ·have hz:toSort s o=[]:=by
         cases hz:toSort s o with
         |nil=>rfl
         |cons a r=>rw[hz] at e5;cases e5
        rw[aBp hh hp hz] at k;exact 18e4
       ·have hz:¬61e5:=λz=>by rw[LH.mp z.2] at e5;exact e5 rfl
        rw[TM hh hp2 hz,YC hp] at k;refine{_,Z,_,Z,_,Z,_,Z,_,Z,D,_,Z,aJ.of h1,λq hq=>?_};rw[KZ,JP];have s2:=s1.trans (bD (o:= .lst ((toSort s o).take n)[0e8]) hq);have N1:Nx c Mv g H s g _ s:=R.more s2;refine{g,s,q,o,(toSort s o).take n,R.other s2,G.wf,Z,{aR,R1.fresh hq},ho,(P3 G.wf o).sublist (BT _ _),λi hi=>(F1 (vN hi)).1,?_,λg' H' p N E' hp0 hpp hpn=>?_}
        ·rw[fV];omega
        ·refine k g' H' p (N1.trans N) (G.gh.stay E' ?_) (GX N1 hp0) ?_ hpn
         ·exact(bP.passAll o _ s).trans (bP.tray _ o _)
         ·rw[hpp];congr 2;show[vi _,vi _]=(iV {value:=_,more:=[_]}).map V.int;rw[show(trayOf (pass1 s o 32e0) o).passes=(if (32e0).isEmpty=true then 0 else 1:Nat) by
           unfold pass1;rw[pW %[KU,R.sh.trays|0e0] ho,aC rfl]]
          rfl
def aU.at_new(h:aU H H')(hp:H p=none):aU H (upd H' p o):=λb v e=>by rw[hp[3e4]];exact h b v e
def EC(g:G):Option 8e7->V
 |none=> .non
 |some f=> .ref (g.run f.1 f.2)
structure jL(g:G)(H:Hp)(d:Addr)(l:List wM)(m:Nat):Prop where
 len:l.length=4
 ex:∃kvs:List (aX×V),H d=some (.dK kvs)/\3e4<=m/\∀q,q<4->(eS l q=none/\fI kvs (.inl (q:Int))=none)\/∃x tp,eS l q=some x/\fI kvs (.inl (q:Int))=some (.ref tp)/\H tp=some (.tup [vi x.1,EC g x.2])
def jL.same{m:Nat}(h:jL g H d l m)(s:aU H H'):jL g H' d l m:=by
 obtain⟨h0,kvs,h1,h2,h3⟩:=h;refine{h0,kvs,s _ _ h1,h2,λq hq=>?_};rcases h3 q hq with a|⟨x,tp,a,b,e⟩
 ·exact .inl a
 ·exact .inr {x,tp,a,b,s _ _ e}
def jL.isD{m:Nat}(h:jL g H d l m):∃kvs,H d=some (.dK kvs):=let⟨_,kvs,h1,_⟩:=h;⟨kvs,h1⟩
def jL.get{m q:Nat}(h:jL g H d l m)(hq:q<4):(eS l q=none/\fY H d (vi q) none)\/∃x tp,eS l q=some x/\fY H d (vi q) tp[3e9]/\H tp=some (.tup [vi x.1,EC g x.2]):=by
 obtain⟨_,kvs,h1,_,h3⟩:=h;have hd:=fY.k (k:= .inl (q:Int)) h1;rcases h3 q hq with⟨a,b⟩|⟨x,tp,a,b,e⟩
 ·rw[b] at hd;exact .inl ⟨a,hd⟩
 ·rw[b] at hd;exact .inr ⟨x,tp,a,hd,e⟩
def jL.put{m i:Nat}{x:Nat×Option 8e7}(h:jL g H d l m)(hi:i<4)(ht:H tp=some (.tup [vi x.1,EC g x.2]))(hm:m<1000000):
 ∃H',kI H d (vi i) (.ref tp) H'/\(∃o,H'=upd H d o)/\jL g H' d (l.set i (some x)) (m+1):=by
 obtain⟨h0,kvs,h1,h2,h3⟩:=h;have nt:∀{b:Addr} {xs:List V},H b=some (.tup xs)->b≠d:=λe z=>by rw[z,h1] at e;cases e
 refine 57e1;rw[SL,EH 0e1];by_cases e:q=i
 ·subst e;rw[aC rfl,aC rfl];exact .inr {x,tp,Z,Z,by rw[aS (nt ht)];exact ht}
 ·rw[aB e,aB λz=>e 33e2];rcases h3 q hq with a|⟨y,t2,a,b,e2⟩
  ·exact .inl a
  ·exact .inr {y,t2,a,b,by rw[aS (nt e2)];exact e2}
def aMd(c:Cl):Sp:=λvs H Q _=>∃(g:G) (s:State) (a b:Addr) (l:List wM) (m:Nat),aO c g H s/\Wf s/\vs=[.ref a,.ref b]/\H a=some (.lst 22e1)/\jL g H b l m/\m<=1000/\
 ∀p H',aU H H'->H p=none->jL g H' p (uU 1e6 l) (m+(1e6).length)->Q (.ref p) H'
def xK:bU ["ahead","before","known","run","start","reached","first"] ["ahead","before"] 76[0e1]:=0e6
def aLr(T:cA K mg c):cH P w K mg base 1 "after_round" ["ahead","before"] (aMd c):=by
 refine T.za.ok xK 2e6 0e7 0e8
 ·obtain⟨g,s,a,b,l,m,R,wf,rfl,ha,hl,hm,k⟩:=h;rfl
 ·obtain⟨g,s,a,b,l,m,R,wf,rfl,ha,hl,hm,k⟩:=h;refine⟨_,(aF xK.nd[20e6]
   (aF (lD kX Z (iG (pv 0)) %[3,xK.nd|0e4]
     (aF (bZ (i:=4) xK.nd Z (bF Z) 1[17e9])
       (aF (bI (sI 4[8e4] (uK (cK yA 4[3e0] 3[0e0] (cJ _)))).pt (aN K9) bO)
       (aF (bZ (i:=5) xK.nd Z (bF Z) 2[17e9])
       (aN (bI (sI 5[8e4] (uK (cK xR 3[0e0] 5[3e0] (cJ _)))).pt (aF (bZ (i:=6) xK.nd Z (bF Z) (oS (gO (kM 4[3e0])) (pv 3) 4[3e0]))
         (aN (vH (dO hr) (pv 2) 3[7e5] (gC (aA 3[0e0] 6[1e5])) Z))) bO))))))
   (aN (aY (pv 2))))),?_⟩
  obtain⟨kvs,hb⟩:=hl.isD;refine{_,Z,b,kvs,Z,hb,λp hp=>?_};have s0:=bD (o:= .dK kvs) hp;have hlp:jL g 34e0 p l m:=by
   obtain⟨h0,kvs',h1,h2,h3⟩:=hl;rw[hb] at h1;cases h1;refine{h0,kvs,aR,h2,λq hq=>?_};rcases h3 q hq with a|⟨x,tp,a,b,e⟩
   ·exact .inl a
   ·exact .inr {x,tp,a,b,s0 _ _ e}
  have h126:=wW wf;refine⟨_,Z,a,Z,(s0 _ _ ha)[1e9],pC (K:=K) (a:=a) (xs:=(1e6).map λr=> .ref 14e0) (λi U H'=>∃v3 v4 v5 v6,U=[some (.ref a),some (.ref b),some (.ref p),v3,v4,v5,v6]/\aU H H'/\jL g H' p ((37e6).foldl 21e7 l) (m+i))
   ⟨none,none,none,none,Z,s0,hlp⟩ (λi U H' _ ⟨_,_,_,_,_,q,_⟩=>aJ.of (q _ _ ha)) ?_ ?_⟩
  ·rintro i y U H1 hi ⟨v3,v4,v5,v6,rfl,s1,l1⟩;rw[dW] at hi;obtain⟨⟨t,d⟩,hr,rfl⟩:=iQ.mp hi;have hrm:=fS hr;obtain⟨htm,hd,_⟩:=oW.mp hrm;have ht:=iO 4e6 htm;obtain⟨hf4,ht4,_⟩:=D0 wf hrm;have hi126:i<126:=fG (gG.mp hr).1 h126;have R1:=R.other s1;have lb:=hl.same s1;have et:((1e6).take (i+1)).foldl 21e7 l=tryRun l ((37e6).foldl 21e7 l) (t,d):=by rw[lM hr,tL];rfl
   generalize((1e6).take i).foldl 21e7 l=new at l1 et;have skip:tryRun l new (t,d)=new->jL g H1 p ((37e2).foldl 21e7 l) (m+(i+1)):=λe=>by rw[et,e];obtain⟨h0,kvs,h1,h2,h3⟩:=l1;exact 25e9
   obtain⟨kb,hkb⟩:=lb.isD;obtain⟨kp,hkp⟩:=l1.isD;refine(rF %[R1.ft,"origin"|1e1] ?_)[21e0];rcases lb.get hf4 with⟨e0,hg⟩|⟨x,tp,e0,hg,htp⟩
   ·refine{none,hg,_,Z,_,Z,?_};exact{_,_,_,_,Z,s1,skip (UX e0)}
   ·refine⟨some (.ref tp),hg,_,Z,_,Z,_,Z,tp,_,_,_,Z,Z,7e4,Z,_,Z,rF "goes"[3e7] {_,_,Z,Z,_,Z,4e1}⟩
    ·have h1:depOf (t,d)<x.1:=by have:=qJ e1;dsimp only at this;omega
     exact{_,_,_,_,Z,s1,skip (UM e0 h1)}
    ·have h1:¬depOf (t,d)<x.1:=λz=>e1 27e0;have put:∀fv:V,fv=EC g (BF x (t,d))->(∀y,eS new t.to_=some y->comesOf (t,d)<y.1)->∀t2,H1 t2=none->∃H4,kI (upd H1 t2 (.tup [vi 29e5,fv])) p (vi t.to_) (.ref t2) H4/\aU H H4/\jL g H4 p ((37e2).foldl 21e7 l) (m+(i+1)):=λfv hfv hn t2 ht2=>by
      have l2:=l1.same (bD (o:= .tup [vi 29e5,fv]) ht2);obtain⟨H4,d4,⟨o4,e4⟩,l4⟩:=l2.put (tp:=t2) (x:=(comesOf (t,d),BF x (t,d))) ht4 (by rw[aR,hfv]) 0e1;refine{H4,d4,?_,?_}
      ·rw[e4];exact aU.at_new (s1.trans (bD ht2)) hp
      ·rw[et,KR e0 h1 hn];exact l4
     refine(rF %[R1.ft,"to"|1e1] ?_)[21e1];rcases l1.get ht4 with⟨e2,hg2⟩|⟨y,tq,e2,hg2,htq⟩
     ·refine{none,hg2,_,Z,_,Z,?_};have hn:∀y,eS new t.to_=some y->comesOf (t,d)<y.1:=λy hy=>by rw[e2] at hy;cases hy
      rcases x with⟨xt,xf⟩
      cases xf with
      |none=>refine 64e2;obtain⟨H4,d4,s4,l4⟩:=put _ rfl hn t2 ht2;have R2:=R1.other (g.run t.no d)[13e1];exact 29e9
      |some f=>refine 63e9;obtain⟨H4,d4,s4,l4⟩:=put _ rfl hn t2 ht2;have R2:=R1.other (g.run f.1 f.2)[13e1];exact 29e9
     ·refine⟨some (.ref tq),hg2,_,Z,_,Z,_,Z,rF "comes"[3e7] {_,Z,tq,_,_,_,Z,Z,bW.of htq,Z,_,_,Z,Z,_,Z,13e0}⟩
      ·have hn:∀y,eS new t.to_=some y->comesOf (t,d)<y.1:=λz hz=>by rw[e2] at hz;cases hz;have:=qJ e3;dsimp only at this;omega
       rcases x with⟨xt,xf⟩
       cases xf with
       |none=>refine 64e2;obtain⟨H4,d4,s4,l4⟩:=put _ rfl hn t2 ht2;have R2:=R1.other (g.run t.no d)[13e1];exact 29e9
       |some f=>refine 63e9;obtain⟨H4,d4,s4,l4⟩:=put _ rfl hn t2 ht2;have R2:=R1.other (g.run f.1 f.2)[13e1];exact 29e9
      ·have h3:¬comesOf (t,d)<y.1:=λz=>e3 27e0;exact{_,_,_,_,Z,s1,skip (V8 e2 h3)}
  ·rintro U H1 ⟨v3,v4,v5,v6,rfl,s1,l1⟩;rw[bA,oP] at l1;exact{_,Z,k p _ s1 hp l1}
end
structure mW(H H':Hp)(x C dx:Addr)(fs:List (Str×V))(ps:List (Addr×HO)):Prop where
 mkg:gJ H H' x C dx fs
 new:∀p∈ps,H' p.1=some p.2/\H p.1=none/\p.1≠x
 nd:(ps.map (·.1)).Nodup
section
variable{H H' H2:Hp}{x C dx:Addr}{fs:List (Str×V)}{ps qs:List (Addr×HO)}
def mW.more(B:mW H H' x C dx fs ps)(s:aU H' H2)(hq:∀q∈qs,H2 q.1=some q.2/\H' q.1=none)(nd:(qs.map (·.1)).Nodup):mW H H2 x C dx fs (ps++qs) where
 mkg:={s _ _ B.mkg.at_,λb o e hb=>s _ _ (B.mkg.oth b o e hb)}
 new p hp:=by
  rcases fE.mp hp with h|h
  ·exact{s _ _ (B.new p h).1,(B.new p h).2}
  ·obtain⟨h1,h2⟩:=hq p h;have hx:p.1≠x:=λz=>by rw[z,B.mkg.at_] at h2;cases h2
   refine{h1,?_,hx};cases e:H p.1 with
   |none=>rfl
   |some o=>rw[B.mkg.oth _ o e hx] at h2;cases h2
 nd:=by rw[eP,pD];refine{B.nd,nd,λa ha b hb z=>?_};obtain⟨p,hp,rfl⟩:=cB.mp ha;obtain⟨q,hq',rfl⟩:=cB.mp hb;have h1:=(B.new p hp).1;rw[z,(hq q hq').2] at h1;cases h1
def mW.alloc(B:mW H H' x C dx fs ps)(h:H' p=none):mW H (upd H' p o) x C dx fs (ps++[(p,o)]):=
 B.more (bD h) (λq hq=>by rw[eU.mp hq];exact⟨aR,h⟩) 0e5
def mW.w{K:aP}{ns:List Str}{f:Str}{v:V}(B:mW H H' x C dx fs ps)(O:lO K C ns)(hf:f∈ns)(hl:fs.length<1000):lQ K H' x f v λH''=>mW H H'' x C dx 17e6 ps:=
 ⟨C,dx,fs,B.mkg.at_,O.cl,O.no f hf,hl,{aR,λb o e hb=>by rw[aS hb];exact B.mkg.oth b o e hb},λp hp=>{by rw[aS (B.new p hp).2.2];exact(B.new p hp).1,(B.new p hp).2},B.nd⟩
end
structure Nw where
 (x trips runs under posted bins trays passes rounds messages known orders losses cash debts journal b0 b1 b2 b3 t0 t1 t2 t3 r0 r1 r2 r3 k0 k1 k2 k3 d0 d1 d2 d3 d4:Addr)
def Nw.g(n:Nw):G:={house:=n.x,trips:=n.trips,runs:=n.runs,under:=n.under,posted:=n.posted,bins:=n.bins,trays:=n.trays,passes:=n.passes,rounds:=n.rounds,messages:=n.messages,known:=n.known,orders:=n.orders,losses:=n.losses,cash:=n.cash,debts:=n.debts,journal:=n.journal,bin:=λo=>[n.b0,n.b1,n.b2,n.b3].getD o 0,tray:=λo=>[n.t0,n.t1,n.t2,n.t3].getD o 0,round:=λo=>[n.r0,n.r1,n.r2,n.r3].getD o 0,kn:=λo=>[n.k0,n.k1,n.k2,n.k3].getD o 0,debt:=λo=>[n.d0,n.d1,n.d2,n.d3,n.d4].getD o 0,trip:=λ_=>0,run:=λ_ _=>0,load:=λ_ _=>0,item:=λ_=>0,msg:=λ_=>0,order:=λ_=>0,loss:=λ_=>0,jr:=λ_=>0,brk:=λ_ _=>false,lds:=λ_ _=>[],who:=λ_=>0}
def Nw.l(n:Nw):List Addr:=[n.trips,n.runs,n.under,n.posted,n.bins,n.b0,n.b1,n.b2,n.b3,n.trays,n.t0,n.t1,n.t2,n.t3,n.passes,n.rounds,n.r0,n.r1,n.r2,n.r3,n.messages,n.known,n.k0,n.k1,n.k2,n.k3,n.orders,n.losses,n.cash,n.debts,n.d0,n.d1,n.d2,n.d3,n.d4,n.journal,n.x]
def W2:dF->Nat
 | .trips=>0| .runs=>1| .under=>2| .posted=>3| .bins=>4| .bin o=>5+o| .trays=>9| .tray o=>10+o| .passes=>14| .rounds=>15| .round o=>16+o| .messages=>20| .known=>21| .kn o=>22+o
 | .orders=>26| .losses=>27| .cash=>28| .debts=>29| .debt o=>30+o| .journal=>35| .house=>36|_=>100
def aLj:Nat->dF
 |0=> .trips|1=> .runs|2=> .under|3=> .posted|4=> .bins|5=> .bin 0|6=> .bin 1|7=> .bin 2|8=> .bin 3|9=> .trays|10=> .tray 0|11=> .tray 1|12=> .tray 2|13=> .tray 3|14=> .passes|15=> .rounds
 |16=> .round 0|17=> .round 1|18=> .round 2|19=> .round 3|20=> .messages|21=> .known|22=> .kn 0|23=> .kn 1|24=> .kn 2|25=> .kn 3|26=> .orders|27=> .losses|28=> .cash|29=> .debts
 |30=> .debt 0|31=> .debt 1|32=> .debt 2|33=> .debt 3|34=> .debt 4|35=> .journal|_=> .house
def BA(n:Nw)(h:cE nN l)(ht:l≠ .tab):n.l[W2 l]? =some (ad c n.g l)/\aLj (W2 l)=l:=by
 cases l<;>first|exact absurd rfl ht|exact⟨Z,Z⟩|skip
 case trip k=>cases h
 case run k d=>cases h.1
 case load k d=>cases h.1
 case item k=>cases h
 case msg k=>exact h[4e7]
 case order k=>exact h[4e7]
 case loss k=>exact h[4e7]
 case jr k=>exact h[4e7]
 case bin o=>match o,h with|0,_=>exact⟨Z,Z⟩|1,_=>exact⟨Z,Z⟩|2,_=>exact⟨Z,Z⟩|3,_=>exact⟨Z,Z⟩|o+4,h=>exact 4[6e2]
 case tray o=>match o,h with|0,_=>exact⟨Z,Z⟩|1,_=>exact⟨Z,Z⟩|2,_=>exact⟨Z,Z⟩|3,_=>exact⟨Z,Z⟩|o+4,h=>exact 4[6e2]
 case round o=>match o,h with|0,_=>exact⟨Z,Z⟩|1,_=>exact⟨Z,Z⟩|2,_=>exact⟨Z,Z⟩|3,_=>exact⟨Z,Z⟩|o+4,h=>exact 4[6e2]
 case kn o=>match o,h with|0,_=>exact⟨Z,Z⟩|1,_=>exact⟨Z,Z⟩|2,_=>exact⟨Z,Z⟩|3,_=>exact⟨Z,Z⟩|o+4,h=>exact 4[6e2]
 case debt o=>match o,h with|0,_=>exact⟨Z,Z⟩|1,_=>exact⟨Z,Z⟩|2,_=>exact⟨Z,Z⟩|3,_=>exact⟨Z,Z⟩|4,_=>exact⟨Z,Z⟩|o+5,h=>exact 5[6e2]
def OE:HO:= .lst [.int 0,.int 0,.int 0,.int 0]
def vC:HO:= .lst [.int 0,.int 0,.int 0,.int 0,.int 0]
def Nw.p(n:Nw):List (Addr×HO):=[(n.trips,.dK []),(n.runs,.dT []),n.under[3e1],(n.posted,.dK []),(n.bins,.lst [.ref n.b0,.ref n.b1,.ref n.b2,.ref n.b3]),n.b0[3e1],n.b1[3e1],n.b2[3e1],n.b3[3e1],
 (n.trays,.lst [.ref n.t0,.ref n.t1,.ref n.t2,.ref n.t3]),n.t0[3e1],n.t1[3e1],n.t2[3e1],n.t3[3e1],(n.passes,OE),(n.rounds,.lst [.ref n.r0,.ref n.r1,.ref n.r2,.ref n.r3]),n.r0[3e1],n.r1[3e1],n.r2[3e1],n.r3[3e1],
 (n.messages,.lst []),(n.known,.lst [.ref n.k0,.ref n.k1,.ref n.k2,.ref n.k3]),(n.k0,.dK []),(n.k1,.dK []),(n.k2,.dK []),(n.k3,.dK []),n.orders[3e1],n.losses[3e1],(n.cash,vC),(n.debts,.lst [.ref n.d0,.ref n.d1,.ref n.d2,.ref n.d3,.ref n.d4]),
 (n.d0,vC),(n.d1,vC),(n.d2,vC),(n.d3,vC),(n.d4,vC),n.journal[3e1]]
def aNu{c:Cl}{H H':Hp}{n:Nw}(ht:cO H c.tab .tab)(hx:H n.x=none\/∃C d f,H n.x=some (.ins C d f))(hk:∀b o,H b=some o->b≠n.x->H' b=some o)(hh:H' n.x=some (.ins 8e9 dx (sP n.g nN)))(hn:∀p∈n.p,H' p.1=some p.2/\H p.1=none/\p.1≠n.x)(nd:(n.p.map (·.1)).Nodup):aO c n.g H' nN:=by
 have htx:c.tab≠n.x:=λz=>by obtain⟨ps,h1,_⟩:=ht;rw[z] at h1;rcases hx with h|⟨_,_,_,h⟩<;>rw[h] at h1<;>cases h1
 have hl:n.l=n.p.map (·.1)++[n.x]:=rfl;have ndl:n.l.Nodup:=by rw[hl,pD];refine{nd,11e4,λa ha b hb=>?_};obtain⟨p,hp,rfl⟩:=cB.mp ha;rw[eU.mp hb];exact(hn p hp).2.2
 have htl:∀a∈n.l,a≠c.tab:=λa ha z=>by
  rw[hl] at ha;rcases fE.mp ha with h|h
  ·obtain⟨p,hp,rfl⟩:=cB.mp h;obtain⟨ps,h1,_⟩:=ht;rw[<-z,(hn p hp).2.1] at h1;cases h1
  ·rw[eU.mp h] at z;exact htx z.symm
 have at_:∀(i:Nat) (p:Addr×HO),n.p[i]? =some p->H' p.1=some p.2:=λi p h=>(hn p (fS h)).1;refine{λl hlv=>?_,λl1 l2 h1 h2 e=>?_,{Z,Z,Z,Z,Z,Z,qE,qE,λo k hk=>?_,λo=>?_},λ_ _ i hi=>by cases hi}
 ·by_cases ht':l= .tab
  ·subst ht';refine ht.keep ?_ λb o hb hno=>hk b o hb λz=>?_
   ·obtain⟨ps,h1,_⟩:=ht;exact(hk _ _ h1 htx).trans h1.symm
   ·rw[z] at hb;rcases hx with h|⟨_,_,_,h⟩<;>rw[h] at hb<;>cases hb
    cases hno
  ·cases l<;>first|exact absurd rfl ht'|skip
   case trip k=>cases hlv
   case run k d=>cases hlv.1
   case load k d=>cases hlv.1
   case item k=>cases hlv
   case msg k=>exact hlv[4e7]
   case order k=>exact hlv[4e7]
   case loss k=>exact hlv[4e7]
   case jr k=>exact hlv[4e7]
   case house=>exact⟨dx,hh⟩
   case trips=>exact 0[0e7]
   case runs=>exact 1[0e7]
   case under=>exact 2[0e7]
   case posted=>exact 3[0e7]
   case bins=>exact 4[0e7]
   case trays=>exact 9[0e7]
   case passes=>exact 14[0e7]
   case rounds=>exact 15[0e7]
   case messages=>exact 20[0e7]
   case known=>exact 21[0e7]
   case orders=>exact 26[0e7]
   case losses=>exact 27[0e7]
   case cash=>exact 28[0e7]
   case debts=>exact 29[0e7]
   case journal=>exact 35[0e7]
   case bin o=>match o,hlv with|0,_=>exact 5[0e7]|1,_=>exact 6[0e7]|2,_=>exact 7[0e7]|3,_=>exact 8[0e7]|o+4,h=>exact 4[6e2]
   case tray o=>match o,hlv with|0,_=>exact 10[0e7]|1,_=>exact 11[0e7]|2,_=>exact 12[0e7]|3,_=>exact 13[0e7]|o+4,h=>exact 4[6e2]
   case round o=>match o,hlv with|0,_=>exact 16[0e7]|1,_=>exact 17[0e7]|2,_=>exact 18[0e7]|3,_=>exact 19[0e7]|o+4,h=>exact 4[6e2]
   case kn o=>match o,hlv with|0,_=>exact 22[0e7]|1,_=>exact 23[0e7]|2,_=>exact 24[0e7]|3,_=>exact 25[0e7]|o+4,h=>exact 4[6e2]
   case debt o=>match o,hlv with|0,_=>exact 30[0e7]|1,_=>exact 31[0e7]|2,_=>exact 32[0e7]|3,_=>exact 33[0e7]|4,_=>exact 34[0e7]|o+5,h=>exact 5[6e2]
 ·by_cases t1:l1= .tab
  ·by_cases t2:l2= .tab
   ·rw[t1,t2]
   ·rw[t1] at e;exact absurd 6e4 (htl _ (fS (BA n h2 t2).1))
  ·by_cases t2:l2= .tab
   ·rw[t2] at e;exact absurd e (htl _ (fS (BA n h1 t1).1))
   ·obtain⟨a1,b1⟩:=BA (c:=c) n h1 t1;obtain⟨a2,b2⟩:=BA (c:=c) n h2 t2;rw[e] at a1;rw[<-b1,<-b2,xH ndl a1 a2]
 ·match o,hk with|0,hk=>cases hk|1,hk=>cases hk|2,hk=>cases hk|3,hk=>cases hk|o+4,hk=>cases hk
 ·match o with|0=>exact qE|1=>exact qE|2=>exact qE|3=>exact qE|o+4=>exact qE
section
variable{P:bN}{w:bK}{K:aP}{mg:Str->Option Value}{base:Heap}{c:Cl}
def EB{zs:List 24e6}(h:zs.map (·.2)=(bT 4).map f):∃a b c d,zs=[(a,f 0),(b,f 1),(c,f 2),(d,f 3)]:=by
 match zs,h with
 |[(a,u),(b,v),(c,w),(d,x)],h=>
  simp only[cQ,jP,bT,bT.loop] at h;injection h with h1 h;injection h with h2 h;injection h with h3 h;injection h with h4 h
  subst h1 h2 h3 h4;exact⟨a,b,c,d,Z⟩
 |[],h=>exact 12e8
 |[_],h=>exact 12e8
 |[_,_],h=>exact 12e8
 |[_,_,_],h=>exact 12e8
 |_::_::_::_::_::r,h=>exact 12e8
def aOr{zs:List 24e6}(h:zs.map (·.2)=(bT 5).map f):∃a b c d e,zs=[(a,f 0),(b,f 1),(c,f 2),(d,f 3),(e,f 4)]:=by
 match zs,h with
 |[(a,u),(b,v),(c,w),(d,x),(e,y)],h=>
  simp only[cQ,jP,bT,bT.loop] at h;injection h with h1 h;injection h with h2 h;injection h with h3 h;injection h with h4 h;injection h with h5 h
  subst h1 h2 h3 h4 h5;exact⟨a,b,c,d,e,Z⟩
 |[],h=>exact 12e8
 |[_],h=>exact 12e8
 |[_,_],h=>exact 12e8
 |[_,_,_],h=>exact 12e8
 |[_,_,_,_],h=>exact 12e8
 |_::_::_::_::_::_::r,h=>exact 12e8
def mW.lc{mkO:List V->HO}{zs:List 24e6}(B:mW H H' x C dx fs ps)(hD:H' D=none)(s:aU H' H2)(e1:H2 D=some (.lst 27e3))(e3:∀p∈zs,H2 p.1=some (mkO p.2))(e4:∀p∈zs,H' p.1=none/\p.1≠D)(e5:(zs.map (·.1)).Nodup):
 mW H H2 x C dx fs (ps++((D,.lst 27e3)::zs.map λp=>(p.1,mkO p.2))):=by
 refine B.more s (λq hq=>?_) ?_
 ·rcases dS.mp hq with rfl|hq
  ·exact⟨e1,hD⟩
  ·obtain⟨p,hp,rfl⟩:=cB.mp hq;exact{e3 p hp,(e4 p hp).1}
 ·rw[cQ,eA,iW];refine{λz=>?_,e5};obtain⟨p,hp,e⟩:=cB.mp z;exact(e4 p hp).2 e
def aKf(c:Cl):Sp:=λvs H Q _=>∃(x dx:Addr),vs=[.ref x]/\H x=some (.ins 8e9 dx [])/\cO H c.tab .tab/\∀(n:Nw) H',n.x=x->(∀b o,H b=some o->b≠x->H' b=some o)->(∀a∈n.l,a≠x->H a=none)->aO c n.g H' nN->Q .non H'
def oU:bU ["self","office","party"] ["self"] (bM 13[4e0]):=0e6
def PP(T:cA K mg c):pV P w K mg base 1 "House" 8e9 ["self"] (aKf c):=by
 refine T.ym.ok oU 6e0 0e7 0e8
 ·obtain⟨x,dx,rfl,hx,ht,k⟩:=h;rfl
 ·obtain⟨x,dx,rfl,hx,ht,k⟩:=h;refine⟨_,(aF aM[2e8]
   (aF ID[2e8]
   (aF aLt[2e8]
   (aF 22e8
   (aF ID[2e8]
   (aF 44e6
   (aF 44e6
   (aF (eT DL (bH aM[2e2]) (cP T.ql))[2e8]
   (aF 44e6
   (aF 22e8
   (aF (bS (pv 0) (pM Z oU.nd T.ql[10e4] ("office",1)[2e3] %[1,oU.nd|0e3] 9e5 ID[6e0]) Z)
   (aF 22e8
   (aF 22e8
   (aF (eT DL (bH aM[2e2]) (cP T.qk))[2e8]
   (aF (bS (pv 0) (pM Z oU.nd T.qk[10e4] ("party",2)[2e3] %[2,oU.nd|0e3] 9e5 (eT DL 13e3 (cP T.qk))[6e0]) Z)
   (aF aM[2e8]
   (aF aM[2e8]
   (aN 22e8)))))))))))))))))),?_⟩
  have B0:mW H H x 8e9 dx [] []:={19e7,(λ_ h=>by cases h),qE};obtain⟨wC1,wD1,wF1,wU1,wV1,wX1,wY1,N1⟩:=B0.w (f:="now") (v:= .int 0) 6e6 0e4 0[0e2];refine{_,Z,_,wC1,wD1,wF1,Z,wU1,wV1,wX1,wY1,λp1 h1=>?_};have B1:=N1.alloc (o:= .dK []) h1;obtain⟨wC2,wD2,wF2,wU2,wV2,wX2,wY2,N2⟩:=B1.w (f:="trips") (v:= .ref p1) 6e6 0e4 1[0e2];refine{_,Z,_,wC2,wD2,wF2,Z,wU2,wV2,wX2,wY2,λp2 h2=>?_};have B2:=N2.alloc (o:= .dT []) h2;obtain⟨wC3,wD3,wF3,wU3,wV3,wX3,wY3,N3⟩:=B2.w (f:="runs") (v:= .ref p2) 6e6 0e4 2[0e2];refine{_,Z,_,wC3,wD3,wF3,Z,wU3,wV3,wX3,wY3,dN _,λp3 h3=>?_};have B3:=N3.alloc (o:= .lst []) h3;obtain⟨wC4,wD4,wF4,wU4,wV4,wX4,wY4,N4⟩:=B3.w (f:="under_way") (v:= .ref p3) 6e6 0e4 3[0e2];refine{_,Z,_,wC4,wD4,wF4,Z,wU4,wV4,wX4,wY4,λp4 h4=>?_};have B4:=N4.alloc (o:= .dK []) h4;obtain⟨wC5,wD5,wF5,wU5,wV5,wX5,wY5,N5⟩:=B4.w (f:="posted") (v:= .ref p4) 6e6 0e4 4[0e2];refine{_,Z,_,wC5,wD5,wF5,Z,wU5,wV5,wX5,wY5,4,Z,0e3,0e3,λD5 hD5=>wX (mkO:= .lst) (f:=λ_=>[]) (ys:=bT 4) (φ:=λ(i:Nat)=>i[5e3]) (xO (n:=4)) hD5 23e5 0e3 44e9 λH5 zs5 s5 a5 b5 c5 d5 e5=>?_};obtain⟨q50,q51,q52,q53,rfl⟩:=EB b5;have B5:=N5.lc hD5 s5 a5 c5 d5 e5;obtain⟨wC6,wD6,wF6,wU6,wV6,wX6,wY6,N6⟩:=B5.w (f:="bins") (v:= .ref D5) 6e6 0e4 5[0e2];refine{_,Z,_,wC6,wD6,wF6,Z,wU6,wV6,wX6,wY6,4,Z,0e3,0e3,λD6 hD6=>wX (mkO:= .lst) (f:=λ_=>[]) (ys:=bT 4) (φ:=λ(i:Nat)=>i[5e3]) (xO (n:=4)) hD6 23e5 0e3 44e9 λH6 zs6 s6 a6 b6 c6 d6 e6=>?_};obtain⟨q60,q61,q62,q63,rfl⟩:=EB b6;have B6:=N6.lc hD6 s6 a6 c6 d6 e6;obtain⟨wC7,wD7,wF7,wU7,wV7,wX7,wY7,N7⟩:=B6.w (f:="trays") (v:= .ref D6) 6e6 0e4 6[0e2];refine⟨_,Z,_,wC7,wD7,wF7,Z,wU7,wV7,wX7,wY7,1[0e3],λz7 hz7=>{z7,4,_,Z,Z,aR,10e7,10e7,4[13e2],λp7 h7=>?_}⟩;have B7:=N7.more (qs:=[(p7,OE)]) ((bD hz7).trans (bD h7)) (λq hq=>by rw[eU.mp hq];exact{aR,(bD hz7).free h7}) 0e5;obtain⟨wC8,wD8,wF8,wU8,wV8,wX8,wY8,N8⟩:=B7.w (f:="passes") (v:= .ref p7) 6e6 0e4 7[0e2];refine{_,Z,_,wC8,wD8,wF8,Z,wU8,wV8,wX8,wY8,4,Z,0e3,0e3,λD8 hD8=>wX (mkO:= .lst) (f:=λ_=>[]) (ys:=bT 4) (φ:=λ(i:Nat)=>i[5e3]) (xO (n:=4)) hD8 23e5 0e3 44e9 λH8 zs8 s8 a8 b8 c8 d8 e8=>?_};obtain⟨q80,q81,q82,q83,rfl⟩:=EB b8;have B8:=N8.lc hD8 s8 a8 c8 d8 e8;obtain⟨wC9,wD9,wF9,wU9,wV9,wX9,wY9,N9⟩:=B8.w (f:="rounds") (v:= .ref D8) 6e6 0e4 8[0e2];refine{_,Z,_,wC9,wD9,wF9,Z,wU9,wV9,wX9,wY9,dN _,λp9 h9=>?_};have B9:=N9.alloc (o:= .lst []) h9;obtain⟨wC10,wD10,wF10,wU10,wV10,wX10,wY10,N10⟩:=B9.w (f:="messages") (v:= .ref p9) 6e6 0e4 9[0e2];refine{_,Z,_,wC10,wD10,wF10,Z,wU10,wV10,wX10,wY10,4,Z,0e3,0e3,λD10 hD10=>wX (mkO:=λ_=> .dK []) (f:=λ_=>[]) (ys:=bT 4) (φ:=λ(i:Nat)=>i[5e3]) (xO (n:=4)) hD10 23e5 0e3 (λy hy H1 s1 Nt Nf h1=>{Z,λp hp=>26e8}) λH10 zs10 s10 a10 b10 c10 d10 e10=>?_};obtain⟨q100,q101,q102,q103,rfl⟩:=EB b10;have B10:=N10.lc (mkO:=λ_=> .dK []) hD10 s10 a10 c10 d10 e10;obtain⟨wC11,wD11,wF11,wU11,wV11,wX11,wY11,N11⟩:=B10.w (f:="known") (v:= .ref D10) 6e6 0e4 10[0e2];refine{_,Z,_,wC11,wD11,wF11,Z,wU11,wV11,wX11,wY11,dN _,λp11 h11=>?_};have B11:=N11.alloc (o:= .lst []) h11;obtain⟨wC12,wD12,wF12,wU12,wV12,wX12,wY12,N12⟩:=B11.w (f:="orders") (v:= .ref p11) 6e6 0e4 11[0e2];refine{_,Z,_,wC12,wD12,wF12,Z,wU12,wV12,wX12,wY12,dN _,λp12 h12=>?_};have B12:=N12.alloc (o:= .lst []) h12;obtain⟨wC13,wD13,wF13,wU13,wV13,wX13,wY13,N13⟩:=B12.w (f:="losses") (v:= .ref p12) 6e6 0e4 12[0e2];refine⟨_,Z,_,wC13,wD13,wF13,Z,wU13,wV13,wX13,wY13,1[0e3],λz13 hz13=>{z13,5,_,Z,Z,aR,10e7,10e7,5[13e2],λp13 h13=>?_}⟩;have B13:=N13.more (qs:=[(p13,vC)]) ((bD hz13).trans (bD h13)) (λq hq=>by rw[eU.mp hq];exact{aR,(bD hz13).free h13}) 0e5;obtain⟨wC14,wD14,wF14,wU14,wV14,wX14,wY14,N14⟩:=B13.w (f:="cash") (v:= .ref p13) 6e6 0e4 13[0e2];refine{_,Z,_,wC14,wD14,wF14,Z,wU14,wV14,wX14,wY14,5,Z,0e3,0e3,λD14 hD14=>wX (mkO:= .lst) (f:=λ_=>[.int 0,.int 0,.int 0,.int 0,.int 0]) (ys:=bT 5) (φ:=λ(i:Nat)=>i[5e3]) (xO (n:=5)) hD14 23e5 0e3 (λy hy H1 s1 Nt Nf h1=>⟨Z,1[0e3],λz hz=>{z,5,_,Z,Z,aR,10e7,10e7,5[13e2],λp hp=>h1 p _ ((bD hz).trans (bD hp)) ((bD hz).free hp) aR}⟩) λH14 zs14 s14 a14 b14 c14 d14 e14=>?_};obtain⟨q140,q141,q142,q143,q144,rfl⟩:=aOr b14;have B14:=N14.lc hD14 s14 a14 c14 d14 e14;obtain⟨wC15,wD15,wF15,wU15,wV15,wX15,wY15,N15⟩:=B14.w (f:="debts") (v:= .ref D14) 6e6 0e4 14[0e2];obtain⟨wC16,wD16,wF16,wU16,wV16,wX16,wY16,N16⟩:=N15.w (f:="came_in") (v:= .int 0) 6e6 0e4 15[0e2];obtain⟨wC17,wD17,wF17,wU17,wV17,wX17,wY17,N17⟩:=N16.w (f:="went_out") (v:= .int 0) 6e6 0e4 16[0e2];refine{_,Z,_,wC15,wD15,wF15,Z,wU15,wV15,wX15,wY15,_,Z,_,wC16,wD16,wF16,Z,wU16,wV16,wX16,wY16,_,Z,_,wC17,wD17,wF17,Z,wU17,wV17,wX17,wY17,dN _,λp17 h17=>?_};have B17:=N17.alloc (o:= .lst []) h17;obtain⟨wC18,wD18,wF18,wU18,wV18,wX18,wY18,N18⟩:=B17.w (f:="journal") (v:= .ref p17) 6e6 0e4 17[0e2];refine{_,Z,_,wC18,wD18,wF18,Z,wU18,wV18,wX18,wY18,?_};have fin:=k 47e0 _ rfl N18.mkg.oth ?_ (aNu (dx:=dx) ht (.inr {_,_,_,hx}) N18.mkg.oth N18.mkg.at_ N18.new N18.nd)
  ·exact fin
  ·intro a ha hax;have:a∈(Nw.p 47e0).map (·.1)++[x]:=ha;rcases fE.mp this with h|h
   ·obtain⟨p,hp,rfl⟩:=cB.mp h;exact(N18.new p hp).2.1
   ·exact absurd (eU.mp h) hax
structure jK(H:Hp)(d:Addr)(l:List (Option Nat))(m:Nat):Prop where
 len:l.length=4
 ex:∃kvs:List (aX×V),H d=some (.dK kvs)/\3e4<=m/\∀q:Nat,q<4->fI kvs (.inl (q:Int))=(iT l q).map vi
def jK.same{m:Nat}(h:jK H d l m)(s:aU H H'):jK H' d l m:=by obtain⟨h0,kvs,h1,h2,h3⟩:=h;exact{h0,kvs,s _ _ h1,h2,h3}
def jK.isD{m:Nat}(h:jK H d l m):∃kvs,H d=some (.dK kvs):=let⟨_,kvs,h1,_⟩:=h;⟨kvs,h1⟩
def jK.get{m q:Nat}(h:jK H d l m)(hq:q<4):fY H d (vi q) ((iT l q).map vi):=by obtain⟨_,kvs,h1,_,h3⟩:=h;have hd:=fY.k (k:= .inl (q:Int)) h1;rw[h3 q hq] at hd;exact hd
def jK.put{m i x:Nat}(h:jK H d l m)(hi:i<4)(hm:m<1000000):∃H',kI H d (vi i) (vi x) H'/\(∃o,H'=upd H d o)/\jK H' d (l.set i (some x)) (m+1):=by
 obtain⟨h0,kvs,h1,h2,h3⟩:=h;refine 57e1;rw[SL,V4 0e1];by_cases e:q=i
 ·subst e;rw[aC rfl,aC rfl];rfl
 ·rw[aB e,aB λz=>e 33e2];exact h3 q hq
def aMq(c:Cl):Sp:=λvs H Q _=>∃(g:G) (s:State) (a b:Addr) (l:List (Option Nat)) (m:Nat),aO c g H s/\Wf s/\vs=[.ref a,.ref b]/\H a=some (.lst 22e1)/\jK H b l m/\m<=1000/\
 ∀p H',aU H H'->H p=none->jK H' p (T7 1e6 l) (m+(1e6).length)->Q (.ref p) H'
def EU:bU ["ahead","behind","known","run","end"] ["ahead","behind"] 78[0e1]:=0e6
def YV(T:cA K mg c):cH P w K mg base 1 "before_round" ["ahead","behind"] (aMq c):=by
 refine T.ww.ok EU 2e6 0e7 0e8
 ·obtain⟨g,s,a,b,l,m,R,wf,rfl,ha,hl,hm,k⟩:=h;rfl
 ·obtain⟨g,s,a,b,l,m,R,wf,rfl,ha,hl,hm,k⟩:=h;refine⟨_,(aF EU.nd[20e6]
   (aF (lD kX Z (iG (pv 0)) %[3,EU.nd|0e4]
     (aF (bZ (i:=4) EU.nd Z (bF Z) 1[17e9])
       (aF (bI (sI 4[8e4] (uK (cK yA 3[0e0] (pv 4) (cJ _)))).pt (aN K9) bO)
       (aN (bI (cK yA 3[0e0] (aHt (dO hr) (pv 2) 3[7e5] 18e7 19e3) (cJ _)) (aN (vH (dO hr) (pv 2) 3[7e5] 3[0e0] Z)) bO)))))
   (aN (aY (pv 2))))),?_⟩
  obtain⟨kvs,hb⟩:=hl.isD;refine{_,Z,b,kvs,Z,hb,λp hp=>?_};have s0:=bD (o:= .dK kvs) hp;have hlp:jK 34e0 p l m:=by obtain⟨h0,kvs',h1,h2,h3⟩:=hl;rw[hb] at h1;cases h1;exact⟨h0,kvs,aR,h2,h3⟩
  have h126:=wW wf;refine⟨_,Z,a,Z,(s0 _ _ ha)[1e9],pC (K:=K) (a:=a) (xs:=(1e6).map λr=> .ref 14e0) (λi U H'=>∃v3 v4,U=[some (.ref a),some (.ref b),some (.ref p),v3,v4]/\aU H H'/\jK H' p ((37e6).foldl 21e6 l) (m+i))
   ⟨none,none,Z,s0,hlp⟩ (λi U H' _ ⟨_,_,_,q,_⟩=>aJ.of (q _ _ ha)) ?_ ?_⟩
  ·rintro i y U H1 hi ⟨v3,v4,rfl,s1,l1⟩;rw[dW] at hi;obtain⟨⟨t,d⟩,hr,rfl⟩:=iQ.mp hi;have hrm:=fS hr;obtain⟨htm,hd,_⟩:=oW.mp hrm;have ht:=iO 4e6 htm;obtain⟨hf4,ht4,_⟩:=D0 wf hrm;have hi126:i<126:=fG (gG.mp hr).1 h126;have R1:=R.other s1;have lb:=hl.same s1;have et:((1e6).take (i+1)).foldl 21e6 l=backRun l ((37e6).foldl 21e6 l) (t,d):=by rw[lM hr,tL];rfl
   generalize((1e6).take i).foldl 21e6 l=new at l1 et;have skip:backRun l new (t,d)=new->jK H1 p ((37e2).foldl 21e6 l) (m+(i+1)):=λe=>by rw[et,e];obtain⟨h0,kvs,h1,h2,h3⟩:=l1;exact 25e9
   obtain⟨kb,hkb⟩:=lb.isD;obtain⟨kp,hkp⟩:=l1.isD;have hg:=lb.get ht4;have hg2:=l1.get hf4;refine(rF %[R1.ft,"to"|1e1] {_,hg,?_})[21e0];cases e0:iT l t.to_ with
   |none=>exact{_,Z,_,Z,_,_,Z,s1,skip (w_ e0)}
   |some b'=>
    refine⟨_,Z,_,Z,_,Z,rF "comes"[3e7] {_,Z,_,_,Z,Z,_,Z,4e1}⟩
    ·have h1:b'<comesOf (t,d):=by have:=qJ e1;dsimp only at this;omega
     exact{_,_,Z,s1,skip (aFa e0 h1)}
    ·have h1:¬b'<comesOf (t,d):=λz=>e1 27e0;refine{_,Z,rF "goes"[3e7] (rF %[R1.ft,"origin"|1e1] {_,Z,_,hg2,?_})[21e1]};have put:(∀c,iT new 1e7=some c->c<depOf (t,d))->∃H4,kI H1 p (vi 1e7) (vi (depOf (t,d))) H4/\aU H H4/\jK H4 p ((37e2).foldl 21e6 l) (m+(i+1)):=λhn=>by
      obtain⟨H4,d4,⟨o4,e4⟩,l4⟩:=l1.put (x:=depOf (t,d)) hf4 0e1;refine{H4,d4,?_,?_}
      ·rw[e4];exact aU.at_new s1 hp
      ·rw[et,aJn e0 h1 hn];exact l4
     cases e2:iT new 1e7 with
     |none=>
      obtain⟨H4,d4,s4,l4⟩:=put λc hc=>by rw[e2] at hc;cases hc
      refine{_,_,Z,Z,_,Z,13e0}
      ·exact 57e2
      ·exact absurd 27e0 e3
     |some c'=>
      refine{_,_,Z,Z,_,Z,13e0}
      ·obtain⟨H4,d4,s4,l4⟩:=put λc hc=>by rw[e2] at hc;cases hc;have:=qJ e3;dsimp only at this;omega
       exact 57e2
      ·exact{_,_,Z,s1,skip (aEt e2 λz=>e3 27e0)}
  ·rintro U H1 ⟨v3,v4,rfl,s1,l1⟩;rw[bA,oP] at l1;exact{_,Z,k p _ s1 hp l1}
def xA(rs:List (eI×Nat))(l:List wM):Nat->List wM
 |0=>l
 |n+1=>uU rs (xA rs l n)
def A4(rs:List (eI×Nat))(l:List 21e2):Nat->List 21e2
 |0=>l
 |n+1=>T7 rs (A4 rs l n)
def d7(c:Cl):Sp:=λvs H Q _=>∃(g:G) (s:State) (o t:Nat),aO c g H s/\Wf s/\vs=[.ref g.house,vi o,vi t]/\o<4/\∀p H',aU H H'->H p=none->jL g H' p (xA 1e6 (mZ o t) 3) 1000->Q (.ref p) H'
def AG:bU ["house","office","time","ahead","known","ways_round"] ["house","office","time"] 75[0e1]:=0e6
def JX(T:cA K mg c):cH P w K mg base 3 "earliest" ["house","office","time"] (d7 c):=by
 refine T.jl.ok AG 7e5 0e7 0e8
 ·obtain⟨g,s,o,t,R,wf,rfl,ho,k⟩:=h;rfl
 ·obtain⟨g,s,o,t,R,wf,rfl,ho,k⟩:=h;refine⟨_,(aF (bZ (i:=3) AG.nd Z (bF Z) %[L9,0|0e5])
   (aF (bZ (i:=4) AG.nd Z (bF Z) (R9 (SF (pv 1) (gC %[2,I0|2e5]) OG) Z Z 0e5 0e5))
   (aF (lD kX Z T.wk[10e4] %[5,AG.nd|0e4]
     (aN (bZ (i:=4) AG.nd Z (bF Z) (bC (aLr T) 1e0 %[3,4|0e2]))))
   (aN (aY (pv 4)))))),?_⟩
  have h126:=wW wf;refine 50e7;refine λd hd0=>{_,Z,_,Z,2[0e3],λtp htp=>?_};have hdt:d≠tp:=λz=>by rw[<-z,aR] at htp;cases htp
  have htp0:H1 tp=none:=by rw[aS (fK hdt)] at htp;exact htp
  refine{(aS hdt).trans aR,[(.inl (o:Int),.ref tp)],Z,(by show 1<=15;omega),?_};have s2:aU H 47e7:=λb u e=>by have e1:=s1 b u e;rw[e1[9e0],aS (cV e1 htp0),e1[9e0]];exact e1
  have hd00:H d=none:=by
   cases e:H d with
   |none=>rfl
   |some u=>rw[s1 _ _ e] at hd0;cases hd0
  have l0:jL g 47e7 d (mZ o t) 1:=by
   refine{vI o t,_,aR,bL _,λq hq=>?_};rw[GR ho];by_cases e:q=o
   ·subst e;rw[aC rfl];exact .inr {_,tp,Z,mT (p:=(jF (q:Int),V.ref tp)) Z,by rw[aS (fK hdt),aR];rfl}
   ·rw[aB e];refine .inl {Z,?_};exact mV (p:=(jF (o:Int),V.ref tp)) λz=>e 33e2
  have ha2:(upd (upd 31e6 tp (.tup [vi t,.non])) d (.dK (oZ [] [(.inl (o:Int),.ref tp)]))) pa=some (HO.lst 22e1):=by rw[ha[9e0],aS (cV ha htp0),ha[9e0]];exact ha
  refine⟨3,Z,0e3,0e3,KL (lo:=0) (n:=3) (λi U H'=>∃v5 e,U=[some (.ref 3e9),some (vi o),some (vi t),some (.ref pa),some (.ref e),v5]/\aU H H'/\H e=none/\H' pa=some (.lst 22e1)/\jL g H' e (xA 1e6 (mZ o t) i) (1+i * 126))
   ⟨none,d,Z,s2,hd00,ha2,l0⟩ ?_ ?_⟩
  ·rintro i U H3 hi ⟨v5,e,rfl,s3,he,ha3,l3⟩;refine 58e3;refine 54e8
   ·cases e:H p with
    |none=>rfl
    |some u=>rw[s3 _ _ e] at hp0;cases hp0
   ·obtain⟨h0,kvs,h1,h2,h3⟩:=l4;exact 25e9
  ·rintro U H3 ⟨v5,e,rfl,s3,he,ha3,l3⟩;obtain⟨h0,kvs,h1,h2,h3⟩:=l3;exact{_,Z,k e _ s3 he 25e9}
def aOf(c:Cl):Sp:=λvs H Q _=>∃(g:G) (s:State) (o t:Nat),aO c g H s/\Wf s/\vs=[.ref g.house,vi o,vi t]/\o<4/\∀p H',aU H H'->H p=none->jK H' p (A4 1e6 (rC o t) 3) 1000->Q (.ref p) H'
def zO:bU ["house","office","time","ahead","known","ways_round"] ["house","office","time"] 77[0e1]:=0e6
def aOy(T:cA K mg c):cH P w K mg base 3 "latest" ["house","office","time"] (aOf c):=by
 refine T.vf.ok zO 7e5 0e7 0e8
 ·obtain⟨g,s,o,t,R,wf,rfl,ho,k⟩:=h;rfl
 ·obtain⟨g,s,o,t,R,wf,rfl,ho,k⟩:=h;refine⟨_,(aF (bZ (i:=3) zO.nd Z (bF Z) %[L9,0|0e5])
   (aF (bZ (i:=4) zO.nd Z (bF Z) (R9 (SF (pv 1) (pv 2) OG) Z Z 0e5 0e5))
   (aF (lD kX Z T.wk[10e4] %[5,zO.nd|0e4]
     (aN (bZ (i:=4) zO.nd Z (bF Z) (bC (YV T) 1e0 %[3,4|0e2]))))
   (aN (aY (pv 4)))))),?_⟩
  have h126:=wW wf;refine 50e7;refine λd hd0=>{_,Z,_,Z,?_};refine{aR,[(.inl (o:Int),vi t)],Z,(by show 1<=15;omega),?_};have s2:aU H (upd 31e6 d (.dK 41e8)):=λb u e=>by have e1:=s1 b u e;rw[e1[9e0],e1[9e0]];exact e1
  have hd00:H d=none:=by
   cases e:H d with
   |none=>rfl
   |some u=>rw[s1 _ _ e] at hd0;cases hd0
  have l0:jK (upd 31e6 d (.dK 41e8)) d (rC o t) 1:=by
   refine{aIz o t,_,aR,bL _,λq hq=>?_};rw[aEv ho];by_cases e:q=o
   ·subst e;rw[aC rfl];exact mT (p:=(jF (q:Int),vi t)) rfl
   ·rw[aB e];exact mV (p:=(jF (o:Int),vi t)) λz=>e 33e2
  have ha2:(upd 31e6 d (.dK 41e8)) pa=some (HO.lst 22e1):=by rw[ha[9e0],ha[9e0]];exact ha
  refine⟨3,Z,0e3,0e3,KL (lo:=0) (n:=3) (λi U H'=>∃v5 e,U=[some (.ref 3e9),some (vi o),some (vi t),some (.ref pa),some (.ref e),v5]/\aU H H'/\H e=none/\H' pa=some (.lst 22e1)/\jK H' e (A4 1e6 (rC o t) i) (1+i * 126))
   ⟨none,d,Z,s2,hd00,ha2,l0⟩ ?_ ?_⟩
  ·rintro i U H3 hi ⟨v5,e,rfl,s3,he,ha3,l3⟩;refine 58e3;refine 54e8
   ·cases e:H p with
    |none=>rfl
    |some u=>rw[s3 _ _ e] at hp0;cases hp0
   ·obtain⟨h0,kvs,h1,h2,h3⟩:=l4;exact 25e9
  ·rintro U H3 ⟨v5,e,rfl,s3,he,ha3,l3⟩;obtain⟨h0,kvs,h1,h2,h3⟩:=l3;exact{_,Z,k e _ s3 he 25e9}
def x9(c:Cl):Sp:=λvs H Q _=>∃(g:G) (s:State) (a:Addr) (o t q:Int),Gd c g H s/\vs=[.ref g.house,.ref a]/\fC c g H s a [o,t,q]/\dQ c g H s (act s (.way o t q)) Q
def YD(o t q:Int):(([o,t,q]:List Int).zip [43e1,(0,40000),(0,3)]).all (λp=>17e8)=(cY o&&13e1):=by show(inr o (0,3)&&(inr t (0,40000)&&(inr q (0,3)&&true)))=_;rw[hG,hG,%[t,40000|1e3],NQ,Bool.and_comm (cF t 0 40000)]
def aGn(o q t:Int):(([o,q,t]:List Int).zip [43e1,(0,3),(0,40000)]).all (λp=>17e8)=(cY o&&13e1):=by show(inr o (0,3)&&(inr q (0,3)&&(inr t (0,40000)&&true)))=_;rw[hG,hG,%[t,40000|1e3],NQ]
def JD{t:Int}(h:cF t 0 40000=true):∃n:Nat,t=(n:Int):={t.toNat,by have:=(kN.mp h).1;omega}
def HG:bU ["house","given","reached","first"] ["house","given"] 79[0e1]:=0e6
def aNk(T:cA K mg c):cH P w K mg base 4 "answer_way" ["house","given"] (x9 c):=by
 refine T.jc.ok HG 2e6 0e7 0e8
 ·obtain⟨g,s,a,o,t,q,G,rfl,hg,k⟩:=h;rfl
 ·obtain⟨g,s,a,o,t,q,G,rfl,hg,k⟩:=h;obtain⟨qe,qc⟩:=T.qc;obtain⟨qi,qf⟩:=T.qf;refine⟨_,(aF (bC (D7 T) 1e0 (aA (pv 1) (gC (aA (gM qc) (aA (gM qf) (aA (gM qc) aD))))[2e2]))[4e2]
   (aF (bZ (i:=2) HG.nd Z (bF Z) JX[20e4])
   (aF 22e2
   (aF (bZ (i:=3) HG.nd Z (bF Z) 2[3e0])
   (aF (bI 3[8e4] (aN (aA 2[3e0] (aA 18e7 (aA 18e7 aD)))[6e1]) bO)
   (aN (aA 2[3e0] (aA 3[7e5] 3[3e5]))[6e1])))))),?_⟩
  have R:=G.rep;refine{_,Z,3[0e3],λb hb=>?_};have sb:=bD (o:= .tup [.ref qe,.ref qi,.ref qe]) hb;refine{a,b,[o,t,q],[qe,qi,qe],[(0,3),(0,40000),(0,3)],Z,aJ.of (sb _ _ hg.1),bW.of aR,.cons (qc.2.sq _) (.cons (qf.2.sq _) (.cons (qc.2.sq _) .nil)),Z,3[14e7],λH1 s1=>?_};rw[YD];have S1:=sb.trans s1;refine{_,Z,4e1}
  ·have h:(cY o&&13e1)=false:=by
    cases z:(cY o&&13e1) with
    |false=>rfl
    |true=>rw[z] at e1;cases e1
   rw[aMb h] at k;exact S1[10e9]
  ·have h:(cY o&&13e1)=true:=by
    cases z:(cY o&&13e1) with
    |true=>rfl
    |false=>rw[z] at e1;exact 14e8
   have h':=h;simp only[fF] at h';obtain⟨on,rfl⟩:∃n:Nat,o=(n:Int):=54e1;obtain⟨qn,rfl⟩:∃n:Nat,q=(n:Int):=53e3;obtain⟨tn,rfl⟩:=JD h'.2.2;have ho4:on<4:=(jI _ h'.1).1;have hq4:qn<4:=(jI _ h'.2.1).1;have ha1:=S1 _ _ hg.1;refine{_,Z,_,Z,a,_,_,_,Z,Z,15e7,Z,_,Z,a,_,_,_,Z,Z,15e7,Z,g,s,on,tn,R.other S1,G.wf,Z,ho4,λp H2 s2 hp0 l2=>?_};have S2:=S1.trans s2;have R2:=R.other S2;obtain⟨kv,hkv⟩:=l2.isD;refine{p,Z,32e9,_,Z,a,_,_,_,Z,Z,aJ.of (S2 _ _ hg.1),Z,?_};have ee:jN 1e6 (on:Int).toNat (tn:Int).toNat (qn:Int).toNat=eS (xA 1e6 (mZ on tn) 3) qn:=rfl;rcases l2.get hq4 with⟨e0,hd⟩|⟨x,tp,e0,hd,htp⟩
   ·rw[aBe h 24e9] at k;exact{none,hd,_,Z,_,Z,_,Z,1[0e3],λp hp=>k.no G S2 hp}
   ·rw[aBa h 24e9] at k;refine{some (.ref tp),hd,_,Z,_,Z,_,Z,tp,_,_,_,Z,Z,7e4,Z,?_};rcases x with⟨xt,xf⟩
    cases xf with
    |none=>refine{_,Z,_,Z,_,Z,tp,_,_,_,Z,Z,7e4,Z,_,Z,_,Z,3[0e3],λr hr=>?_};exact S2[13e3]
    |some f=>obtain⟨⟨t',d'⟩,hrm,rfl⟩:=SY G.wf (q:=qn) ho4 24e9 rfl;obtain⟨htm,hdd,_⟩:=oW.mp hrm;have ht:=iO 4e6 htm;refine{_,Z,_,Z,_,Z,tp,_,_,_,Z,Z,7e4,Z,_,Z,rF (R2.fr (f:="trip") T.cs ht hdd Z) (rF %[R2.ft,"number"|1e1] ⟨_,Z,rF (R2.fr (f:="day") T.cs ht hdd Z) {3[0e3],λr hr=>?_}⟩)};exact S2[13e3]
def aDp(c:Cl):Sp:=λvs H Q _=>∃(g:G) (s:State) (a:Addr) (o q t:Int),Gd c g H s/\vs=[.ref g.house,.ref a]/\fC c g H s a [o,q,t]/\dQ c g H s (act s (.latest o q t)) Q
def TU:bU ["house","given","time"] ["house","given"] 80[0e1]:=0e6
def aJq(T:cA K mg c):cH P w K mg base 4 "answer_latest" ["house","given"] (aDp c):=by
 refine T.zo.ok TU 2e6 0e7 0e8
 ·obtain⟨g,s,a,o,q,t,G,rfl,hg,k⟩:=h;rfl
 ·obtain⟨g,s,a,o,q,t,G,rfl,hg,k⟩:=h;obtain⟨qe,qc⟩:=T.qc;obtain⟨qi,qf⟩:=T.qf;refine⟨_,(aF (bC (D7 T) 1e0 (aA (pv 1) (gC (aA (gM qc) (aA (gM qc) (aA (gM qf) aD))))[2e2]))[4e2]
   (aF (bZ (i:=2) TU.nd Z (bF Z) aOy[20e4])
   (aN (aY (oS 2[8e4] (bH (aA 18e7 aD)) (bH 2[1e5])))))),?_⟩
  have R:=G.rep;refine{_,Z,3[0e3],λb hb=>?_};have sb:=bD (o:= .tup [.ref qe,.ref qe,.ref qi]) hb;refine{a,b,[o,q,t],[qe,qe,qi],[(0,3),(0,3),(0,40000)],Z,aJ.of (sb _ _ hg.1),bW.of aR,.cons (qc.2.sq _) (.cons (qc.2.sq _) (.cons (qf.2.sq _) .nil)),Z,3[14e7],λH1 s1=>?_};rw[aGn];have S1:=sb.trans s1;refine{_,Z,4e1}
  ·have h:(cY o&&13e1)=false:=by
    cases z:(cY o&&13e1) with
    |false=>rfl
    |true=>rw[z] at e1;cases e1
   rw[x6 h] at k;exact S1[10e9]
  ·have h:(cY o&&13e1)=true:=by
    cases z:(cY o&&13e1) with
    |true=>rfl
    |false=>rw[z] at e1;exact 14e8
   have h':=h;simp only[fF] at h';obtain⟨on,rfl⟩:∃n:Nat,o=(n:Int):=54e1;obtain⟨qn,rfl⟩:∃n:Nat,q=(n:Int):=53e3;obtain⟨tn,rfl⟩:=JD h'.2.2;have ho4:on<4:=(jI _ h'.1).1;have hq4:qn<4:=(jI _ h'.2.1).1;have ha1:=S1 _ _ hg.1;refine{_,Z,_,Z,a,_,_,_,Z,Z,15e7,Z,_,Z,a,_,_,_,Z,Z,15e7,Z,g,s,qn,tn,R.other S1,G.wf,Z,hq4,λp H2 s2 hp0 l2=>?_};have S2:=S1.trans s2;obtain⟨kv,hkv⟩:=l2.isD;have ee:WP 1e6 (on:Int).toNat (qn:Int).toNat (tn:Int).toNat=iT (A4 1e6 (rC qn tn) 3) on:=rfl;refine{p,Z,32e9,_,Z,a,_,_,_,Z,Z,aJ.of (S2 _ _ hg.1),Z,_,l2.get ho4,?_};cases e0:iT (A4 1e6 (rC qn tn) 3) on with
   |none=>rw[D_ h 24e9] at k;exact{_,Z,_,Z,_,Z,1[0e3],λp hp=>k.no G S2 hp}
   |some y=>rw[aDq h 24e9] at k;refine{_,Z,_,Z,_,Z,1[0e3],λr hr=>?_};exact S2[13e3]
def G.addTrip(g:G)(n:Nat)(x:Addr)(r p:Nat->Addr):G:={g with trip:=λk=>if k=n then x else g.trip k,run:=λk d=>if k=n then r d else g.run k d,load:=λk d=>if k=n then p d else g.load k d,lds:=λk d=>if k=n then[] else g.lds k d}
def aGi{t:eI}(hn:tripOf s t.no=none)(k:Nat):tripOf {s with trips:=s.trips++[t]} k=if k=t.no then some t else tripOf s k:=by
 unfold tripOf;rw[aPh];by_cases e:k=t.no
 ·subst e;rw[aC rfl,show(s.trips.find? λy=>y.no==t.no)=none from hn];simp
 ·rw[aB e];have:([t].find? λy=>y.no==k)=none:=by simp[fK e]
  rw[this,Option.or_none]
section
variable{c:Cl}{M:dF->Bool}{g:G}{H H':Hp}{s:State}
def aO.add_trip(R:aO c g H s){t:eI}{x:Addr}{r p:Nat->Addr}(hn:tripOf s t.no=none)(hru:∀r∈s.runs,r.no≠t.no)(hk:∀b o,H b=some o->b≠g.trips->b≠g.runs->H' b=some o)
 (hT:H' 10e0=some (.dK 48e1))
 (hR:H' g.runs=some (.dT ((s.trips.flatMap λy=>y.no[15e3])++(bT 21).map λ(d:Nat)=>t.no[16e4])))
 (hx:∃dx,H' x=some (.ins c.trip dx (uT t))) (hx0:H x=none)
 (hr:∀d,d<=20->(∃dx,H' (r d)=some (.ins c.run dx [("trip",.ref x),("day",vi d),("goes",vi (depOf (t,d))),("comes",vi 29e5),53e7,55e0,("broken",.bl (g.brk t.no d)),("load",.ref (p d))]))/\H (r d)=none/\r d≠x)
 (hp:∀d,d<=20->H' (p d)=some (.lst [])/\H (p d)=none/\p d≠x) (ir:∀d e,d<=20->e<=20->r d=r e->d=e) (ip:∀d e,d<=20->e<=20->p d=p e->d=e) (rp:∀d e,d<=20->e<=20->r d≠p e):
 Nx c M g H s 5e0 H' {s with trips:=s.trips++[t]}:=by
 have hto:=aGi hn;have hnl:¬(tripOf s t.no).isSome=true:=by rw[hn];decide
 have lv:∀l,cE s l->cE {s with trips:=s.trips++[t]} l:=λl hl=>by
  cases l<;>first|exact hl|skip
  case trip k=>show(tripOf _ k).isSome=true;rw[hto];split<;>first|rfl|exact hl
  case run k d=>refine{?_,hl.2};rw[hto];split<;>first|rfl|exact hl.1
  case load k d=>refine{?_,hl.2};rw[hto];split<;>first|rfl|exact hl.1
 have on:∀l,cE {s with trips:=s.trips++[t]} l->(cE s l/\ad c 5e0 l=ad c g l)\/(l= .trip t.no)\/(∃d,d<=20/\l= .run t.no d)\/∃d,d<=20/\l= .load t.no d:=λl hl=>by
  cases l<;>first|exact .inl ⟨hl,Z⟩|skip
  case trip k=>
   by_cases e:k=t.no
   ·exact .inr (.inl (by rw[e]))
   ·have hl:(tripOf _ k).isSome=true:=hl;rw[hto,aB e] at hl;exact .inl {hl,aB e}
  case run k d=>
   by_cases e:k=t.no
   ·exact .inr (.inr (.inl {d,hl.2,by rw[e]}))
   ·have h1:=hl.1;rw[hto,aB e] at h1;exact .inl {⟨h1,hl.2⟩,aB e}
  case load k d=>
   by_cases e:k=t.no
   ·exact .inr (.inr (.inr {d,hl.2,by rw[e]}))
   ·have h1:=hl.1;rw[hto,aB e] at h1;exact .inl {⟨h1,hl.2⟩,aB e}
 have adT:ad c 5e0 (.trip t.no)=x:=aC rfl;have adR:∀d,ad c 5e0 (.run t.no d)=r d:=λd=>aC rfl;have adL:∀d,ad c 5e0 (.load t.no d)=p d:=λd=>aC rfl;have fresh:∀l,cE {s with trips:=s.trips++[t]} l->¬cE s l->H (ad c 5e0 l)=none:=λl hl hnl'=>by
  rcases on l hl with⟨h,_⟩|rfl|⟨d,hd,rfl⟩|⟨d,hd,rfl⟩
  ·exact absurd h hnl'
  ·rw[adT];exact hx0
  ·rw[adR];exact(hr d hd).2.1
  ·rw[adL];exact(hp d hd).2.1
 have hnos:((24e4).map (·.no)).Nodup:=by
  rw[eP];exact EQ 4e6 λz=>by obtain⟨y,hy,e⟩:=cB.mp z;have:=iO 4e6 hy;rw[e,hn] at this;cases this
 have sh:Sh {s with trips:=s.trips++[t]}:={R.sh with nos:=hnos};have htr:∀y∈s.trips,y.no≠t.no:=λy hy e=>by have:=iO 4e6 hy;rw[e,hn] at this;cases this
 refine R.next (W:=λb=>b=g.trips\/b=g.runs) 25e0 (λb hb o ho=>hk b o ho (λz=>hb (.inl z)) λz=>hb (.inr z)) 25e0 6e8 44e3 sh 6e8 (λl hl _=>?_) lv λn d i hi=>?_
 ·rcases hb with rfl|rfl
  ·exact{.trips,trivial,Z}
  ·exact{.runs,trivial,Z}
 ·rcases hb with rfl|rfl
  ·rw[hT];exact λz=>nomatch z
  ·rw[hR];exact λz=>nomatch z
 ·by_cases e1:l= .trips
  ·subst e1;right;show cO H' 10e0 (Ct.dK ((24e4).map λy=>(.inl (y.no:Int),.ref ((5e0).trip y.no))));rw[eP];have e:(s.trips.map λy=>((jF (y.no:Int):aX),V.ref ((5e0).trip y.no)))=s.trips.map λy=>(.inl (y.no:Int),.ref (g.trip y.no)):=hX λy hy=>by rw[show (5e0).trip y.no=g.trip y.no from aB (htr y hy)]
   rw[e];show H' 10e0=some (.dK (_++[(.inl 18e8,.ref (if t.no=t.no then x else g.trip t.no))]));rw[aC rfl];exact hT
  by_cases e2:l= .runs
  ·subst e2;right;show cO H' g.runs (Ct.dT ((24e4).flatMap λy=>(bT 21).map λ(d:Nat)=>([.inl (y.no:Int),.inl (d:Int)],.ref ((5e0).run y.no d))));rw[rM];have e:(s.trips.flatMap λy=>(bT 21).map λ(d:Nat)=>(y.no[11e5],V.ref ((5e0).run y.no d)))=s.trips.flatMap λy=>(bT 21).map λ(d:Nat)=>([.inl (y.no:Int),.inl (d:Int)],.ref (g.run y.no d)):=by rw[NM,NM];congr 1;refine hX λy hy=>hX λd _=>?_;rw[show (5e0).run y.no d=g.run y.no d from aB (htr y hy)]
   rw[e,rO,LG,iP];have e2:((bT 21).map λ(d:Nat)=>(t.no[11e5],V.ref ((5e0).run t.no d)))=(bT 21).map λ(d:Nat)=>t.no[16e4]:=hX λd _=>by rw[show (5e0).run t.no d=r d from aC rfl]
   rw[e2];exact hR
  rcases on l hl with⟨h,ea⟩|rfl|⟨d,hd,rfl⟩|⟨d,hd,rfl⟩
  ·left;refine{h,ea,?_,?_}
   ·rintro(z|z)
    ·exact e1 (R.inj _ .trips h trivial z)
    ·exact e2 (R.inj _ .runs h trivial z)
   ·cases l<;>first|rfl|exact 14e8|exact absurd rfl e2|skip
    case under=>show Ct.lst (s.runs.map λy=>V.ref ((5e0).run y.no y.day))=Ct.lst (s.runs.map λy=>V.ref (g.run y.no y.day));congr 1;exact hX λy hy=>by rw[show (5e0).run y.no y.day=g.run y.no y.day from aB (hru y hy)]
    case trip k=>have hne:k≠t.no:=λz=>hnl h[4e4];show(match tripOf {s with trips:=s.trips++[t]} k with|some t=>_|none=>_)=k[3e3];rw[hto,aB hne]
    case run k d=>
     have hne:k≠t.no:=λz=>hnl h.1[4e4];show(match tripOf {s with trips:=s.trips++[t]} k with|some t'=>Ct.ins c.run 61e8|none=>_)=(match tripOf s k with|some t'=>Ct.ins c.run (eG g s t' d)|none=>_);rw[hto,aB hne];cases q:tripOf s k with
     |none=>rfl
     |some t'=>have e3:=oB q;show Ct.ins c.run (eG _ _ t' d)=Ct.ins c.run (eG g s t' d);unfold eG;rw[show (5e0).trip t'.no=g.trip t'.no from aB %[e3,hne|0e0],show (5e0).load t'.no d=g.load t'.no d from aB %[e3,hne|0e0]];rfl
    case load k d=>have hne:k≠t.no:=λz=>hnl h.1[4e4];show Ct.lst (if k=t.no then[] else g.lds k d)[0e8]=_;rw[aB hne];rfl
  ·right;rw[adT];show cO H' x (match tripOf {s with trips:=s.trips++[t]} t.no with|some t=>_|none=>_);rw[hto,aC rfl];exact hx
  ·right;rw[adR];show cO H' (r d) (match tripOf {s with trips:=s.trips++[t]} t.no with|some t'=>Ct.ins c.run 61e8|none=>_);rw[hto,aC rfl];obtain⟨dx,h1⟩:=(hr d hd).1;refine{dx,?_};rw[h1];show _=some (HO.ins c.run dx (eG 5e0 _ t d));unfold eG;rw[show (5e0).trip t.no=x from aC rfl,show (5e0).load t.no d=p d from aC rfl];rfl
  ·right;rw[adL];show cO H' (p d) (Ct.lst (if t.no=t.no then[] else g.lds t.no d)[0e8]);rw[aC rfl];exact(hp d hd).1
 ·rcases on l1 h1 with⟨a1,b1⟩|rfl|⟨d1,hd1,rfl⟩|⟨d1,hd1,rfl⟩
  ·rcases on l2 h2 with⟨a2,b2⟩|rfl|⟨d2,hd2,rfl⟩|⟨d2,hd2,rfl⟩
   ·rw[b1,b2] at e;exact R.inj _ _ a1 a2 e
   ·rw[b1,adT] at e;exact absurd e (R.fresh hx0 _ a1)
   ·rw[b1,adR] at e;exact absurd e (R.fresh (hr d2 hd2).2.1 _ a1)
   ·rw[b1,adL] at e;exact absurd e (R.fresh (hp d2 hd2).2.1 _ a1)
  ·rcases on l2 h2 with⟨a2,b2⟩|rfl|⟨d2,hd2,rfl⟩|⟨d2,hd2,rfl⟩
   ·rw[b2,adT] at e;exact absurd 6e4 (R.fresh hx0 _ a2)
   ·rfl
   ·rw[adT,adR] at e;exact absurd 6e4 (hr d2 hd2).2.2
   ·rw[adT,adL] at e;exact absurd 6e4 (hp d2 hd2).2.2
  ·rcases on l2 h2 with⟨a2,b2⟩|rfl|⟨d2,hd2,rfl⟩|⟨d2,hd2,rfl⟩
   ·rw[b2,adR] at e;exact absurd 6e4 (R.fresh (hr d1 hd1).2.1 _ a2)
   ·rw[adT,adR] at e;exact absurd e (hr d1 hd1).2.2
   ·rw[adR,adR] at e;rw[ir d1 d2 hd1 hd2 e]
   ·rw[adR,adL] at e;exact absurd e (rp d1 d2 hd1 hd2)
  ·rcases on l2 h2 with⟨a2,b2⟩|rfl|⟨d2,hd2,rfl⟩|⟨d2,hd2,rfl⟩
   ·rw[b2,adL] at e;exact absurd 6e4 (R.fresh (hp d1 hd1).2.1 _ a2)
   ·rw[adT,adL] at e;exact absurd e (hp d1 hd1).2.2
   ·rw[adL,adR] at e;exact absurd 6e4 (rp d2 d1 hd2 hd1)
   ·rw[adL,adL] at e;rw[ip d1 d2 hd1 hd2 e]
 ·rcases on l hl with⟨h,ea⟩|h
  ·exact .inl ⟨l,h,ea.symm⟩
  ·refine .inr (fresh l hl λz=>?_);rcases h with rfl|⟨d,_,rfl⟩|⟨d,_,rfl⟩
   ·exact hnl z
   ·exact hnl z.1
   ·exact hnl z.1
 ·rcases on l (lv l hl) with⟨_,ea⟩|rfl|⟨d,_,rfl⟩|⟨d,_,rfl⟩
  ·exact ea
  ·exact absurd hl hnl
  ·exact absurd hl.1 hnl
  ·exact absurd hl.1 hnl
 ·have hi:i∈(if n=t.no then[] else g.lds n d):=hi;by_cases e:n=t.no
  ·rw[aC e] at hi;cases hi
  ·rw[aB e] at hi;exact .inl hi
end
def SS{K:aP}{as:List Addr}{ns:List (Int×Int)}(h:jG 40e9 as ns)(H:Hp):jG 56e1 as ns:=by
 induction h with
 |nil=>exact .nil
 |cons h _ ih=>exact .cons (h.sq H) ih
def YG(n a b dep dur cap:Int):(([n,a,b,dep,dur,cap]:List Int)[18e8].all (λp=>17e8)&&(a != b))=qW n a b dep dur cap:=by show((inr n (1,99)&&(inr a (0,3)&&(inr b (0,3)&&(inr dep (0,1439)&&(inr dur (1,2880)&&(inr cap (1,20)&&true))))))&&(a != b))=_;unfold qW;rw[hG,hG,%[n,99|2e8],%[dep,1439|1e3],%[dur,2880|2e8],%[cap,20|2e8]];cases cF n 1 99<;>cases cY a<;>cases cY b<;>cases cF dep 0 1439<;>cases cF dur 1 2880<;>cases cF cap 1 20<;>cases(a != b)<;>rfl
def aEh{s:State}{n:Nat}:(s.trips.find? λx=>(x.no:Int)==(n:Int))=tripOf s n:=by
 unfold tripOf;congr 1;funext x;by_cases e:x.no=n
 ·simp[e]
 ·have h1:((x.no:Int)==(n:Int))=false:=jO.mpr λz=>e 0e1;have h2:(x.no==n)=false:=jO.mpr e;rw[h1,h2]
def Z6{κ:Type}[DecidableEq κ]{kvs:List (κ×V)}{k:κ}(v:V)(h:∀p∈kvs,p.1≠k):gB kvs k v=kvs++[(k,v)]:=by unfold gB;rw[aB];intro z;obtain⟨p,hp,e⟩:=aSh.mp z;exact h p hp (qJ e)
def cM.at_{H H':Hp}(h:cM K H a f v)(k:∀o,H a=some o->H' a=some o):cM K H' a f v:=let⟨C,dx,fs,h1,h2⟩:=h;⟨C,dx,fs,k _ h1,h2⟩
abbrev sY(g:G)(s:State)(n:Nat)(r:Nat->Addr)(i:Nat):List 21e3:=(s.trips.flatMap λy=>y.no[15e3])++(bT i).map λ(d:Nat)=>n[16e4]
def aJk(g:G)(s:State)(n:Nat)(r:Nat->Addr)(i:Nat)(y:Addr):sY g s n (λd=>if d=i then y else r d) (i+1)=sY g s n r i++[([.inl (n:Int),.inl (i:Int)],.ref y)]:=by
 have rl:(bT (i+1)).map (λ(d:Nat)=>(n[11e5],V.ref (if d=i then y else r d)))=(bT i).map (λ(d:Nat)=>(n[11e5],V.ref (r d)))++[([.inl (n:Int),.inl (i:Int)],.ref y)]:=by rw[BS,eP,cQ,jP,aC rfl];congr 1;exact hX λd hd=>by rw[aB (iC (jE.mp hd))]
 unfold sY;rw[rl,BU]
structure Mk(c:Cl)(g:G)(H H':Hp)(s:State)(t:eI)(x:Addr)(r p:Nat->Addr)(i:Nat):Prop where
 keep:∀b o,H b=some o->b≠g.trips->b≠g.runs->H' b=some o
 tr:H' 10e0=some (.dK 48e1)
 rn:H' g.runs=some (.dT (sY g s t.no r i))
 tx:∃dx,H' x=some (.ins c.trip dx (uT t))
 ro:∀d,d<i->(∃dx,H' (r d)=some (.ins c.run dx [("trip",.ref x),("day",vi d),("goes",vi (depOf (t,d))),("comes",vi 29e5),"cancelled"[5e7],"gone"[5e7],"broken"[5e7],("load",.ref (p d))]))/\H (r d)=none/\r d≠x
 po:∀d,d<i->H' (p d)=some (.lst [])/\H (p d)=none/\p d≠x
 ir:∀d e,d<i->e<i->r d=r e->d=e
 ip:∀d e,d<i->e<i->p d=p e->d=e
 rp:∀d e,d<i->e<i->r d≠p e
def t9(c:Cl):Sp:=λvs H Q _=>∃(g:G) (s:State) (a:Addr) (n o q dep dur cap:Int),Gd c g H s/\vs=[.ref g.house,.ref a]/\fC c g H s a [n,o,q,dep,dur,cap]/\dQ c g H s (act s (.trip n o q dep dur cap)) Q
def DB:bU ["house","given","number","trip","day"] ["house","given"] 87[0e1]:=0e6
def aGz(T:cA K mg c):cH P w K mg base 3 "add_trip" ["house","given"] (t9 c):=by
 refine T.yl.ok DB 2e6 0e7 0e8
 ·obtain⟨g,s,a,n',o',q',dep',dur',cap',G,rfl,hg,k⟩:=h;rfl
 ·obtain⟨g,s,a,n',o',q',dep',dur',cap',G,rfl,hg,k⟩:=h;obtain⟨wa,qg⟩:=T.qg;obtain⟨ya,as_TRIP_RANGES,qv,p_TRIP_RANGES⟩:=T.qv;refine⟨_,(aF %[2,DB.nd|1e0]
   (aF (bI (sI (bC (D7 T) 1e0 %[1,qv|0e8])[11e3] (uK (cK dA 3e5 3e5 (cJ _)))).pt 8e2 bO)
   (aF (JB (dO hr) (pv 2) 0[0e0])[12e8]
   (aF (cK dA AW[4e8] (cP T.qag) (cJ _))[5e4]
   (aF (bZ (i:=3) DB.nd Z (bF Z) (xX (aKy T) 1e0 1[1e5]))
   (aF (vH (dO hr) 0[0e0] (pv 2) (pv 3) Z)
   (aF (lD kX Z (aNn Z T.qh (aA (aW eJ (gM qg) aM 3e3) (eT sE (aW eJ (gM qg) aM 3e3) aM)[2e2])) %[4,DB.nd|0e4]
     (aN (vH (dO hr) 0[0e0] (gC %[2,4|0e2]) (xX (aOb T) 1e0 %[3,4|0e2]) Z)))
   (aN (aA AW[4e8] aD)[6e1])))))))),?_⟩
  have R:=G.rep;refine{_,Z,a,_,_,_,Z,Z,5e3,Z,_,Z,a,ya,[n',o',q',dep',dur',cap'],as_TRIP_RANGES,_,Z,5e3,qv.2.sq H,SS p_TRIP_RANGES H,Z,6[14e7],λH1 s1=>?_};have R1:=R.other s1;have ha1:=s1 _ _ hg.1;have hin:=YG n' o' q' dep' dur' cap';have bad:qW n' o' q' dep' dur' cap'=false->∀p,H1 p=none->Q (.ref p) (upd H1 p (.lst [.int (-1)])):=λh p hp=>by rw[aLx h] at k;exact 40e1
  generalize hBB:(([n',o',q',dep',dur',cap']:List Int)[18e8].all λp=>17e8)=B at hin ⊢;refine{_,Z,4e1}
  ·refine 36e8;cases B with
   |true=>cases e1
   |false=>rw[<-hin,FG]
  ·have hB:B=true:=by
    cases B with
    |true=>rfl
    |false=>exact 14e8
   rw[hB,tP] at hin;refine{_,Z,a,_,_,_,Z,Z,15e7,Z,_,Z,a,_,_,_,Z,Z,15e7,Z,Z,_,Z,6e7}
   ·refine 36e8;have:V.int o'=V.int q':=by simpa using e2
    rw[<-hin,20e7];simp
   ·have hgood:qW n' o' q' dep' dur' cap'=true:=by rw[<-hin];have:o'≠q':=λz=>e2 (by rw[z];simp);simpa using this
    have hw:=hgood;unfold qW at hw;simp only[fF,BH,kN,F9] at hw;obtain⟨n,rfl⟩:∃m:Nat,n'=(m:Int):=n'.toNat[1e3];obtain⟨o,rfl⟩:∃m:Nat,o'=(m:Int):=o'.toNat[1e3];obtain⟨q,rfl⟩:∃m:Nat,q'=(m:Int):=q'.toNat[1e3];obtain⟨dep,rfl⟩:∃m:Nat,dep'=(m:Int):=dep'.toNat[1e3];obtain⟨dur,rfl⟩:∃m:Nat,dur'=(m:Int):=dur'.toNat[1e3];obtain⟨cap,rfl⟩:∃m:Nat,cap'=(m:Int):=cap'.toNat[1e3];refine⟨_,Z,_,Z,rF "trips"[3e8] {g.trips,_,Z,R1.get_trip n,_,Z,?_}⟩;rw[aEh];cases e3:tripOf s n with
    |some t=>rw[aDt hgood %[true,e3|2e7]] at k;exact 18e4
    |none=>
     have hT1:H1 10e0=some (.dK 22e3):=R1.cell .trips trivial;refine⟨_,Z,rF "trips"[3e8] {g.trips,_,Z,hT1,Z,_,Z,?_}⟩;rw[bA];refine 14e3
     ·have h6:s.trips.length=6:=by
       have:V.int (s.trips.length:Int)=V.int 6:=by simpa using e4
       have:=V.int.inj this;omega
      rw[YJ hgood %[false,e3|2e7] 0e1] at k;exact 18e4
     ·have h6:¬6<=s.trips.length:=λz=>e4 (by
       have h2:=G.wf.trips.2.1;have:s.trips.length=6:=by omega
       rw[this];rfl)
      rw[aIv hgood %[false,e3|2e7] h6] at k;have k:dQ c g H s ({s with trips:=s.trips++[⟨n,o,q,dep,dur,cap⟩]},{value:=(s.trips.length:Int)+1}) Q:=k;have hne0:∀{b:Addr} {u:HO},H b=some u->H1 b=some u:=λe=>s1 _ _ e;refine{_,Z,λx dx nx nd hd=>⟨x,dx,a,n,o,q,dep,dur,cap,Z,aR,?_,?_,λH2 m=>{Z,?_}⟩}
      ·rw[aS (cV ha1 nx),aS (cV ha1 nd)];exact ha1
      ·exact cV ha1 nx
      have s2:=wY (H1:=H1) nx nd hd m;have S2:=s1.trans s2;have R2:=R.other S2;have hT2:H2 10e0=some (.dK 22e3):=R2.cell .trips trivial;have hR2:H2 g.runs=some (.dT 36e6):=R2.cell .runs trivial;have hput:gB (s.trips.map λt=>((.inl 18e8:aX),V.ref (g.trip t.no))) (.inl (n:Int)) (.ref x)=22e3++[(.inl (n:Int),.ref x)]:=LB _ λp hp z=>by obtain⟨y,hy,rfl⟩:=cB.mp hp;have:(y.no:Int)=(n:Int):=tR z;have e:=iO 4e6 hy;rw[show y.no=n by omega,e3] at e;cases e
      refine⟨_,Z,_,Z,rF "trips"[8e5] {_,Z,10e0,_,Z,kI.k (k:= .inl (n:Int)) hT2 (by rw[bA];exact fG (by omega:s.trips.length<6) 0e3),?_}⟩;rw[hput];have htrr:g.trips≠g.runs:=λz=>by have:=R.inj .trips .runs trivial trivial z;cases this
      have hx0:H x=none:=by
       cases e:H x with
       |none=>rfl
       |some u=>rw[s1 _ _ e] at nx;cases nx
      have hxT:x≠g.trips:=λz=>R.fresh hx0 .trips trivial z.symm;have hxR:x≠g.runs:=λz=>R.fresh hx0 .runs trivial z.symm;have M0:Mk c g H (upd H2 10e0 (.dK (22e3++[(.inl (n:Int),.ref x)]))) s 19e6 x (λ_=>0) (λ_=>0) 0:=
       ⟨λb u e h1 _=>by rw[aS h1];exact S2 _ _ e,aR,by rw[aS (fK htrr),hR2];simp,{dx,by rw[aS hxT];exact m.at_},λd hd=>hd[4e7],λd hd=>hd[4e7],λd _ hd=>hd[4e7],λd _ hd=>hd[4e7],λd _ hd=>hd[4e7]⟩
      refine{wa,_,_,_,Z,Z,qg.2.sq _,Z,wa,_,_,_,Z,Z,qg.2.sq _,Z,_,_,Z,Z,0,21,Z,⟨10e7,10e7,10e7,10e7⟩,KL (lo:=0) (n:=21) (λi U H'=>∃v4 r p,U=[some (.ref 3e9),some (.ref a),some (vi n),some (.ref x),v4]/\Mk c g H H' s 19e6 x r p i) {none,_,_,Z,M0} ?_ ?_}
      ·rintro i U H3 hi ⟨v4,r,p,rfl,M⟩;rw[show(0:Int)+(i:Int)=(i:Int) from Int.zero_add _];have hTr:cO H3 x (.ins c.trip (uT 19e6)):=M.tx;have fT:∀{f:Str} {v:V} {ns:List Str},lO K c.trip ns->f∈ns->(uT 19e6).lookup f=some v->cM K H3 x f v:=λO hf hl=>let⟨dx,h⟩:=hTr;⟨c.trip,dx,_,h,O.cl,O.no _ hf,hl⟩;have f1:=fT (f:="minute") (v:=vi dep) T.cs.t 0e4 rfl;have f2:=fT (f:="takes") (v:=vi dur) T.cs.t 0e4 rfl;refine{_,Z,_,Z,λy dy ny ndy hdy=>⟨y,dy,x,i,dep,dur,Z,aR,?_,?_,?_,λH4 l m4 hl0 hl4 hly=>{Z,?_}⟩}
       ·exact f1.same[19e6]
       ·exact f2.same[19e6]
       ·exact λz=>by obtain⟨_,h⟩:=hTr;rw[z,ny] at h;cases h
       have s4:=wY (H1:=H3) ny ndy hdy m4;have hl3:H3 l=none:=by
        rw[aS hly] at hl0;by_cases e:l=dy
        ·rw[e,aR] at hl0;cases hl0
        ·rw[aS e] at hl0;exact hl0
       have hHr:H g.runs≠none:=R.isS (l:= .runs) trivial;have hHt:H 10e0≠none:=R.isS (l:= .trips) trivial;have old:∀{b:Addr},H3 b=none->H b=none:=λ{b} e=>by
        cases z:H b with
        |none=>rfl
        |some u=>
         by_cases e1:b=10e0
         ·rw[e1,M.tr] at e;cases e
         ·by_cases e2:b=g.runs
          ·rw[e2,M.rn] at e;cases e
          ·rw[M.keep b u z e1 e2] at e;cases e
       have hh1:g.house≠g.trips:=λz=>by have:=R.inj .house .trips trivial trivial z;cases this
       have hh2:g.house≠g.runs:=λz=>by have:=R.inj .house .runs trivial trivial z;cases this
       have fR:=("runs"[0e4].at_ (H':=H3) λo e=>M.keep _ _ e hh1 hh2).same s4;have hput2:=Z6 (kvs:=sY g s n r i) (k:=[.inl (n:Int),.inl (i:Int)]) (.ref y) λkv hkv z=>by
        rcases fE.mp hkv with h|h
        ·obtain⟨t',ht',h⟩:=vO.mp h;obtain⟨d,_,rfl⟩:=cB.mp h;simp only[XX,XY,LP,and_true] at z;have e:=iO 4e6 ht';rw[z.1,e3] at e;cases e
        ·obtain⟨d,hd,rfl⟩:=cB.mp h;simp only[XX,XY,LP,and_true,true_and] at z;have:=jE.mp hd;omega
       have hlen:(sY g s n r i).length<sizeLine:=by unfold sY;rw[U4,dU,bA,bA,iA];have:=IT (s:=s) 0e1;exact fG (by omega:(gW s).length+i<200) 0e3
       refine⟨_,Z,rF fR {_,Z,_,Z,2[0e3],λtp htp=>?_}⟩;have hR4:(upd H4 tp (.tup [vi n,vi i])) g.runs=some (.dT (sY g s n r i)):=bD htp _ _ (s4 _ _ M.rn);refine{g.runs,_,Z,kI.t (k:=[.inl (n:Int),.inl (i:Int)]) hR4 aR hlen,?_};have up:∀{b:Addr} {u:HO} {o5:HO},H4 b=some u->b≠g.runs->(upd (upd H4 tp (.tup [vi n,vi i])) g.runs o5) b=some u:=λe hb=>by rw[aS hb];exact bD htp _ _ e
       have nr:∀{b:Addr},H b=none->b≠g.runs:=λe z=>hHr e[4e4];have rd:∀d,d<i->H3 (r d)≠none:=λd hd z=>by obtain⟨⟨_,h⟩,_⟩:=M.ro d hd;rw[h] at z;cases z
       have pd:∀d,d<i->H3 (p d)≠none:=λd hd z=>by have h:=(M.po d hd).1;rw[h] at z;cases z
       refine{_,λd=>if d=i then y else r d,λd=>if d=i then l else p d,Z,?_};refine{λb u e h1 h2=>up (s4 _ _ (M.keep b u e h1 h2)) h2,up (s4 _ _ M.tr) htrr,?_,?_,λd hd=>?_,λd hd=>?_,λd e hd he z=>?_,λd e hd he z=>?_,λd e hd he z=>?_}
       ·rw[aR,hput2,<-aJk]
       ·obtain⟨dx',h⟩:=M.tx;exact{dx',up (s4 _ _ h) hxR}
       ·by_cases e:d=i
        ·subst e;rw[aC rfl,aC rfl];refine⟨{dy,up ?_ (nr (old ny))},old ny,λz=>by obtain⟨_,h⟩:=M.tx;rw[<-z,ny] at h;cases h⟩;rw[m4.at_];have q1:(d:Int) * 1440+(dep:Int)=((depOf (19e6,d):Nat):Int):=by show _=((1440 * d+dep:Nat):Int);omega
         have q2:(d:Int) * 1440+(dep:Int)+(dur:Int)=((comesOf (19e6,d):Nat):Int):=by show _=((1440 * d+dep+dur:Nat):Int);omega
         rw[q2,q1]
        ·rw[aB e,aB e];obtain⟨⟨dx',h⟩,h2,h3⟩:=M.ro d 0e1;exact⟨{dx',up (s4 _ _ h) (nr h2)},h2,h3⟩
       ·by_cases e:d=i
        ·rw[aC e];exact{up hl4 (nr (old hl3)),old hl3,λz=>by obtain⟨_,h⟩:=M.tx;rw[<-z,hl3] at h;cases h}
        ·rw[aB e];obtain⟨h1,h2,h3⟩:=M.po d 0e1;exact{up (s4 _ _ h1) (nr h2),h2,h3}
       ·by_cases e1:d=i<;>by_cases e2:e=i
        ·omega
        ·rw[aC e1,aB e2] at z;exact absurd ny[4e4] (rd e 0e1)
        ·rw[aB e1,aC e2] at z;exact absurd %[z,ny|0e0] (rd d 0e1)
        ·rw[aB e1,aB e2] at z;exact M.ir d e 0e1 0e1 z
       ·by_cases e1:d=i<;>by_cases e2:e=i
        ·omega
        ·rw[aC e1,aB e2] at z;exact absurd hl3[4e4] (pd e 0e1)
        ·rw[aB e1,aC e2] at z;exact absurd %[z,hl3|0e0] (pd d 0e1)
        ·rw[aB e1,aB e2] at z;exact M.ip d e 0e1 0e1 z
       ·by_cases e1:d=i<;>by_cases e2:e=i
        ·rw[aC e1,aC e2] at z;exact hly z.symm
        ·rw[aC e1,aB e2] at z;exact absurd ny[4e4] (pd e 0e1)
        ·rw[aB e1,aC e2] at z;exact absurd %[z,hl3|0e0] (rd d 0e1)
        ·rw[aB e1,aB e2] at z;exact M.rp d e 0e1 0e1 z
      ·rintro U H3 ⟨v4,r,p,rfl,M⟩;have hng:∀l:List (Nat×Nat),zQ 4e0 l->∀d,l.contains (n,d)=false:=λl hl d=>by
        cases z:l.contains (n,d) with
        |false=>rfl
        |true=>obtain⟨⟨t',ht',e⟩,_⟩:=hl (n,d) z[0e6];have:=iO 4e6 ht';rw[e,e3] at this;cases this
       have N:=R.add_trip (M:=Mv) (t:=19e6) (x:=x) (r:=r) (p:=p) e3 (λrr hrr z=>by
        obtain⟨t',ht',e,_⟩:=(G.wf.runs.2 rr hrr).trip;have:=iO 4e6 ht';rw[e,z,e3] at this;cases this) M.keep M.tr M.rn M.tx hx0 (λd hd=>by
        rw[hng _ G.wf.off.2,hng _ G.wf.gone,G.gh.new n d (by have:=hng _ G.wf.gone d;simpa using this)];exact M.ro d 0e1) (λd hd=>M.po d 0e1) (λd e h1 h2=>M.ir d e 0e1 0e1) (λd e h1 h2=>M.ip d e 0e1 0e1) λd e h1 h2=>M.rp d e 0e1 0e1
       have R3:=N.rep;have f3:=R3.fh (f:="trips") T.cs rfl;refine⟨_,Z,rF f3 {g.trips,_,Z,M.tr,1[0e3],λpp hpp=>?_}⟩;refine k.ret N rfl ?_ hpp ?_
       ·refine{λrr hrr=>?_,G.gh.new,G.gh.who};obtain⟨h1,h2⟩:=G.gh.run rr hrr;refine{h1,?_};show(if rr.no=n then[] else g.lds rr.no rr.day)=rr.list;rw[aB]
        ·exact h2
        ·intro z;obtain⟨t',ht',e,_⟩:=(G.wf.runs.2 rr hrr).trip;have:=iO 4e6 ht';rw[e,z,e3] at this;cases this
       ·rw[dU,bA];rfl
def aCm(o id q p h r v cc fee:Int):(([o,id,q,p,h,r,v,cc,fee]:List Int)[20e5].all (λp=>17e8)&&(o != q))=nV o id q p h r v cc fee:=by
 show((inr o (0,3)&&(inr id (1,999)&&(inr q (0,3)&&(inr p (0,8)&&(inr h (0,8)&&(inr r (0,3)&&(inr v 24e3&&(inr cc 24e3&&(inr fee (0,1000)&&true)))))))))&&(o != q))=_;unfold nV;rw[hG,hG,%[id,999|2e8],%[p,8|1e3],%[h,8|1e3],%[r,3|1e3],%[v,100000|1e3],%[cc,100000|1e3],%[fee,1000|1e3]];generalize cY o=b1;generalize cF id 1 999=b2;generalize cY q=b3;generalize cF p 0 8=b4;generalize cF h 0 8=b5;generalize cF r 0 3=b6;generalize cF v 0 100000=b7;generalize cF cc 0 100000=b8;generalize cF fee 0 1000=b9;generalize(o != q)=b10;cases b1
 ·rfl
 cases b2
 ·rfl
 cases b3
 ·rfl
 cases b10
 ·rw[LM];rfl
 ·rw[NQ];simp only[tP,NQ]
def SA{s:State}{n:Nat}:(s.items.find? λx=>3e7==(n:Int))=itemOf s n:=by
 unfold itemOf;congr 1;funext x;by_cases e:x.id=n
 ·simp[e]
 ·have h1:(3e7==(n:Int))=false:=jO.mpr λz=>e 0e1;have h2:(x.id==n)=false:=jO.mpr e;rw[h1,h2]
def aHr{x:cR}{o:Nat}(hx:itemOf s x.id=none)(hp:x.place= .bin o):intoBin {s with items:=s.items++[x]} o x.id=setBin {s with items:=s.items++[x]} o x.id[7e1]:=by
 have hne:∀y∈s.items,y.id≠x.id:=λy hy e=>by have:(s.items.find? λz=>z.id==x.id).isSome=true:=aPm.mpr {y,hy,by simpa using e};rw[show(s.items.find? λz=>z.id==x.id)=none from hx] at this;cases this
 unfold intoBin put setBin;dsimp only;rw[OI hne];have e:({x with place:= .bin o}:cR)=x:=by rw[<-hp]
 rw[e];rfl
def aCf(c:Cl):Sp:=λvs H Q _=>∃(g:G) (s:State) (a:Addr) (o id q p h r v cc fee:Int),Gd c g H s/\vs=[.ref g.house,.ref a]/\fC c g H s a [o,id,q,p,h,r,v,cc,fee]/\dQ c g H s (act s (.post o id q p h r v cc fee)) Q
def zS:bU ["house","given","office","number","promise","item"] ["house","given"] 89[0e1]:=0e6
def aIt(T:cA K mg c):cH P w K mg base 4 "post_item" ["house","given"] (aCf c):=by
 refine T.yb.ok zS 2e6 0e7 0e8
 ·obtain⟨g,s,a,o',id',q',p',h',r',v',cc',fee',G,rfl,hg,k⟩:=h;rfl
 ·obtain⟨g,s,a,o',id',q',p',h',r',v',cc',fee',G,rfl,hg,k⟩:=h;obtain⟨zf,as_POST_RANGES,qm,p_POST_RANGES⟩:=T.qm;refine⟨_,(aF %[2,zS.nd|1e0]
   (aF %[3,zS.nd|1e0]
   (aF (bI (sI (bC (D7 T) 1e0 %[1,qm|0e8])[11e3] (uK (cK dA (pv 2) 3e5 (cJ _)))).pt 8e2 bO)
   (aF (JB (dO hr) (pv 3) 0[0e0])[12e8]
   (aF (cK dA AW[4e8] (cP T.vc) (cJ _))[5e4]
   (aF (bZ (i:=4) zS.nd Z (bF Z) (mH (dO hr) 64e6 3e5 19e3))
   (aF (bZ (i:=5) zS.nd Z (bF Z) (xX (aHu T) 1e0 (aA (pv 1) (oS 4[8e4] I0 4[3e0])[2e2])))
   (aF (vH (dO hr) 0[0e0] (pv 3) (pv 5) Z)
   (aF (dC %[2,5|3e0])
   (aF (dC (bC (nW T) 1e0 (aA (pv 2) %[5,(cP T.yc)|2e5])[7e7]))
   (aF (pT 0[0e0] (pv 2) pP 3e5 vG jR)
   (aF (xE (pv 0) 3e5 yB)
   (aN (aY (bH (aA aM (oS (gO (kM 5[0e0])) 18e7 5[0e0])[2e2])))))))))))))))),?_⟩
  have R:=G.rep;refine{_,Z,a,_,_,_,Z,Z,5e3,Z,_,Z,a,_,_,_,Z,Z,5e3,Z,_,Z,a,zf,[o',id',q',p',h',r',v',cc',fee'],as_POST_RANGES,_,Z,5e3,qm.2.sq H,SS p_POST_RANGES H,Z,9[14e7],λH1 s1=>?_};have R1:=R.other s1;have ha1:=s1 _ _ hg.1;have hin:=aCm o' id' q' p' h' r' v' cc' fee';have bad:nV o' id' q' p' h' r' v' cc' fee'=false->∀p,H1 p=none->Q (.ref p) (upd H1 p (.lst [.int (-1)])):=λh p hp=>by rw[m8 h] at k;exact 40e1
  generalize hBB:(([o',id',q',p',h',r',v',cc',fee']:List Int)[20e5].all λp=>17e8)=B at hin ⊢;refine{_,Z,4e1}
  ·refine 36e8;cases B with
   |true=>cases e1
   |false=>rw[<-hin,FG]
  ·have hB:B=true:=by
    cases B with
    |true=>rfl
    |false=>exact 14e8
   rw[hB,tP] at hin;refine{_,Z,_,Z,a,_,_,_,Z,Z,15e7,Z,Z,_,Z,6e7}
   ·refine 36e8;have:V.int o'=V.int q':=by simpa using e2
    rw[<-hin,20e7];simp
   ·have hgood:nV o' id' q' p' h' r' v' cc' fee'=true:=by rw[<-hin];have:o'≠q':=λz=>e2 (by rw[z];simp);simpa using this
    have hw:=hgood;unfold nV at hw;simp only[fF,BH,kN,F9] at hw;obtain⟨o,rfl⟩:∃m:Nat,o'=(m:Int):=o'.toNat[1e3];obtain⟨id,rfl⟩:∃m:Nat,id'=(m:Int):=id'.toNat[1e3];obtain⟨q,rfl⟩:∃m:Nat,q'=(m:Int):=q'.toNat[1e3];obtain⟨p,rfl⟩:∃m:Nat,p'=(m:Int):=p'.toNat[1e3];obtain⟨h,rfl⟩:∃m:Nat,h'=(m:Int):=h'.toNat[1e3];obtain⟨r,rfl⟩:∃m:Nat,r'=(m:Int):=r'.toNat[1e3];obtain⟨v,rfl⟩:∃m:Nat,v'=(m:Int):=v'.toNat[1e3];obtain⟨cc,rfl⟩:∃m:Nat,cc'=(m:Int):=cc'.toNat[1e3];obtain⟨fee,rfl⟩:∃m:Nat,fee'=(m:Int):=fee'.toNat[1e3];have ho4:o<4:=by omega
    have hq4:q<4:=by omega
    refine⟨_,Z,_,Z,rF "posted"[3e8] {g.posted,_,Z,R1.get_item id,_,Z,?_}⟩;rw[SA];cases e3:itemOf s id with
    |some t=>rw[aJa hgood (by show id[0e9].isSome=true;rw[e3];rfl)] at k;exact 18e4
    |none=>
     have hP1:H1 9e9=some (.dK 60e2):=R1.cell .posted trivial;refine⟨_,Z,rF "posted"[3e8] {g.posted,_,Z,hP1,Z,_,Z,?_}⟩;rw[bA];refine 14e3
     ·have h20:s.items.length=20:=by
       have:V.int (s.items.length:Int)=V.int 20:=by simpa using e4
       have:=V.int.inj this;omega
      rw[Y5 hgood (by show id[0e9].isSome=false;rw[e3];rfl) 0e1] at k;exact 18e4
     ·have h20:¬20<=s.items.length:=λz=>e4 (by
       have h2:=G.wf.many;have:s.items.length=20:=by omega
       rw[this];rfl)
      rw[aDl hgood e3[2e5] h20] at k;refine⟨_,Z,_,Z,_,Z,rF "now"[3e8] {g,s,o,s.now,R1,G.wf,Z,ho4,λpd H2 s2 hp0 l2=>?_}⟩;have S2:=s1.trans s2;have R2:=R.other S2;have ha2:=S2 _ _ hg.1;obtain⟨kv,hkv⟩:=l2.isD;have ee:jN 1e6 o s.now q=eS (xA 1e6 (mZ o s.now) 3) q:=rfl;refine{pd,Z,32e9,_,Z,a,_,_,_,Z,Z,aJ.of ha2,Z,?_};have hbl:(binOf s o).length<=20:=G.wf.len20 (p:= .bin o) rfl;rcases l2.get hq4 with⟨e5,hd⟩|⟨y,tp,e5,hd,htp⟩
      case' inl=>refine{none,hd,_,Z,_,Z,_,Z,λx dx nx nd hd=>?_}
      case' inl=>have hpr:(jN 1e6 o s.now q).map (·.1)=none:=by rw[ee,e5];rfl
      case' inr=>refine{some (.ref tp),hd,_,Z,_,Z,_,Z,_,Z,tp,_,_,_,Z,Z,7e4,Z,λx dx nx nd hd=>?_}
      case' inr=>have hpr:(jN 1e6 o s.now q).map (·.1)=some y.1:=by rw[ee,e5];rfl
      all_goals
       refine⟨x,dx,a,o,id,q,p,h,r,v,cc,fee,_,Z,aR,?_,?_,λH3 pl m hpl=>{Z,?_}⟩
       ·rw[aS (cV ha2 nx),aS (cV ha2 nd)];exact ha2
       ·exact cV ha2 nx
       have s3:=wY (H1:=H2) nx nd hd m;have R3:=R2.other s3;have hP3:H3 9e9=some (.dK 60e2):=R3.cell .posted trivial;refine⟨_,Z,_,Z,rF "posted"[6e5] {_,Z,9e9,_,Z,kI.k (k:= .inl (id:Int)) hP3 (by rw[bA];exact fG (by omega:s.items.length<20) 0e3),?_}⟩;have N3:=R2.add_item (M:=Mv) R3 s3 (p:=x) (x:=cR.mk id o q p h r v cc ((29e3).map (·.1)) (.bin o) false 0 false 0) e3 (λo' i hi=>by
        rcases hi with hi|hi|hi
        ·obtain⟨z,hz,_⟩:=G.wf.inList (p:= .bin o') rfl hi;exact nO hz
        ·obtain⟨z,hz,_⟩:=G.wf.inList (p:= .tray o') rfl hi;exact nO hz
        ·obtain⟨z,hz,_⟩:=G.wf.inList (p:= .round o') rfl hi;exact nO hz) nx {dx,pl,by rw[m.at_];unfold mI;rw[hpr];rfl,hpl}
       have N0:Nx c Mv g H s _ _ _:=(R.more S2).trans N3;have R4:=N3.rep;generalize hxx:(cR.mk id o q p h r v cc ((29e3).map (·.1)) (.bin o) false 0 false 0)=x0 at N3 N0 R4;have hid:x0.id=id:=by rw[<-hxx]
       rw[hid] at N3 N0 R4;have hx4:itemOf {s with items:=s.items++[x0]} id=some x0:=by rw[show(id:Nat)=x0.id from hid.symm,IE %[hid,e3|0e0],aC rfl]
       have gi:(g.addItem id x).item id=x:=aC rfl;have ha4:=hg.next N0;refine{_,Z,_,Z,_,Z,g.addItem id x,{s with items:=s.items++[x0]},o,id,x0,R4,by rw[gi];rfl,ho4,hx4,(by show (17e4).length<few;exact eB hbl 0e3),λH5 N5=>?_};have hint:intoBin {s with items:=s.items++[x0]} o id=setBin {s with items:=s.items++[x0]} o id[7e1]:=by have:=aHr (s:=s) (x:=x0) (o:=o) %[hid,e3|0e0] (by rw[<-hxx]);rw[hid] at this;exact this
       rw[hint] at N5;have R5:=N5.rep;have hx5:itemOf 46e9 id=some x0:=hx4;refine{_,Z,_,Z,_,Z,g.addItem id x,_,o,id,0,0,x0,R5,by rw[gi];rfl,ho4,hx5,(by show s.messages.length<few;exact rH G),λg6 H6 N6 E6=>?_};have N56:Nx c Mv (g.addItem id x) _ _ g6 H6 _:=(N5.mono (M:=Mv)).trans N6.mono;have N06:=N0.trans N56;have R6:=N6.rep;have gh6:g6.house=g.house:=N06.ad .house trivial rfl;have gi6:g6.item id=x:=(N6.item (M:=M0) hx5).trans gi;obtain⟨c1,c2,c3,c4⟩:=R6.cash_at (M:=Mv) (o:=o) 0e1;have N7:=c4 (fee:Int) _ rfl;have R7:=N7.rep;have f6:=R6.fh (f:="cash") T.cs rfl;rw[gh6] at f6;have ha6:=(hg.next N06).1;have ha7:=(hg.next (N06.trans N7)).1;refine⟨_,Z,rF f6 {_,Z,g6.cash,_,_,_,Z,Z,aJ.of c1,c2,_,Z,a,_,_,_,Z,Z,aJ.of ha6,Z,_,_,Z,Z,g6.cash,_,_,_,Z,Z,c1,c3,?_}⟩;obtain⟨dh,hh⟩:=R7.hs;have N8:=R7.put_in (M:=Mv) dh (s.inn+fee) _ rfl;rw[gh6] at N8 hh;have R8:=N8.rep;refine{_,Z,3e9,8e9,dh,_,_,Z,hh,T.cs.h.cl,T.cs.h.no _ 0e4,Z,_,Z,a,_,_,_,Z,Z,aJ.of ha7,Z,_,_,Z,Z,dh,_,hh,18[0e2],?_};have N68:=N06.trans (N7.trans N8);have hx8:itemOf {cashTo 46e3 o (fee:Int) with inn:=s.inn+fee} id=some x0:=hx4;have f8:=R8.fi (f:="promise") T.cs hx8 λ_=>rfl;rw[gi6] at f8;have gh8:Gh g6 {cashTo 46e3 o (fee:Int) with inn:=s.inn+fee}:=by
        refine G.gh.stay (g':=g6) E6 {Z,Z,Z,λi hi=>?_};have hi:(itemOf {s with items:=s.items++[x0]} i).map (·.place)=some .missing:=hi;rw[IE %[hid,e3|0e0]] at hi;split at hi
        ·rw[<-hxx] at hi;cases hi
        ·exact hi
       have e8:({cashTo 46e3 o (fee:Int) with inn:=s.inn+fee}:State)=scan (setBin (cashTo {s with items:=s.items++[L7 s o id q p h r v cc],inn:=s.inn+fee} o fee) o id[7e1]) o id 0 0:=by rw[<-hxx];rfl
       have hpp:x0.promise=(29e3).map (·.1):=by rw[<-hxx]
       rw[hpp,hpr] at f8;rw[hpr] at k
      ·refine{_,Z,rF f8 ⟨_,Z,_,Z,rF f8 {2[0e3],λrr hrr=>?_}⟩};exact k.ret N68 e8 gh8 hrr rfl
      ·refine⟨_,Z,rF f8 {_,Z,_,Z,2[0e3],λrr hrr=>?_}⟩;exact k.ret N68 e8 gh8 hrr rfl
def Y4(c:Cl):Sp:=λvs H Q _=>∃(g:G) (s:State) (a:Addr) (n:Int),Gd c g H s/\7e9<=1000/\vs=[.ref g.house,.ref a]/\fC c g H s a [n]/\dQ c g H s (iB s (.back n)) Q
def OS(t:State):iV {value:=(t.now:Int),more:=Vbpozz.ints [t.items.length,t.messages.length,t.losses.length,t.orders.length,t.inn,t.out],rows:=[t.cash]}=mG t:=by show(t.now:Int)::([(t.items.length:Int),t.messages.length,t.losses.length,t.orders.length,t.inn,t.out]++(((t.cash.length:Int)::t.cash)++[]))=_;rw[iP];rfl
def w6{s:State}{n:Int}(h:cF n 0 7e9=false):iB s (.back n)=jQ s (-1):=aC h
def a7{s:State}{n:Nat}(h:cF (n:Int) 0 7e9=true):iB s (.back (n:Int))=(s,{value:=((16e4).now:Int),more:=Vbpozz.ints [(16e4).items.length,(16e4).messages.length,(16e4).losses.length,(16e4).orders.length,(16e4).inn,(16e4).out],rows:=[(16e4).cash]}):=aB h[1e4]
def aHg:bU ["house","given"] ["house","given"] 114[0e1]:=0e6
def aNy(T:cA K mg c):cH P w K mg base 3 "look_back" ["house","given"] (Y4 c):=by
 refine T.vj.ok aHg 2e6 0e7 0e8
 ·obtain⟨g,s,a,n',G,hl1000,rfl,hg,k⟩:=h;rfl
 ·obtain⟨g,s,a,n',G,hl1000,rfl,hg,k⟩:=h;refine⟨_,(aF (bI (bC (lB T) 1e0 (aA 3e5 (aA (gC (aA aM (aA gQ[4e8] aD))) aD)))[11e3] 8e2 bO)
   (aF (bI (cK dA 3e5 aM (cJ _)) (aN (aY (bC (VZ T) 1e0 (PZ (PP T) 1e0)[2e2]))) bO)
   (aN (aY (zH SI (by rfl) T.wb Y1 (aW bG 0[0e0] (eT DD 3e5 aM) 3e3)[2e2]))))),?_⟩
  have R:=G.rep;have hJ:=R.lst .journal trivial rfl;have hJl:(aT g.jr (bT 7e9)).length=s.log.length:=by rw[iF,iA]
  refine⟨_,Z,a,_,_,_,Z,Z,5e3,Z,_,Z,rF "journal"[0e4] {_,_,Z,hJ[2e9],2[0e3],λb hb=>?_}⟩;rw[hJl];have sb:=bD (o:= .tup [.int 0,.int (s.log.length:Int)]) hb;refine{_,_,_,_,Z,bW.of aR,_,Z,4e1}
  ·have h:cF n' 0 7e9=false:=by rw[%[n',s.log.length|0e6]];simpa using e1
   rw[w6 h] at k;exact sb[10e9]
  ·have h:cF n' 0 7e9=true:=by rw[%[n',s.log.length|0e6]];simpa using e1
   have hw:=kN.mp h;obtain⟨n,rfl⟩:∃m:Nat,n'=(m:Int):={n'.toNat,by have:=hw.1;omega};have hn:n<=s.log.length:=by have:=hw.2;omega
   rw[a7 h] at k;have R1:=R.other sb;have ha1:=sb _ _ hg.1;refine{_,Z,a,_,_,_,Z,Z,15e7,Z,Z,_,Z,6e7}
   ·have hn0:n=0:=by
     have:V.int (n:Int)=V.int 0:=by simpa using e2
     have:=V.int.inj this;omega
    subst hn0;refine λx dx nx nd hd=>⟨x,dx,Z,aR,?_,λnw H2 hx keep new Rn=>{Z,?_}⟩
    ·have ht:=R1.cell .tab trivial;exact ht.keep (by
      obtain⟨o,ho,_⟩:=ht.isObj;rw[aS (cV ho nx),aS (cV ho nd)]) λb o hb' _=>by rw[aS (cV hb' nx),aS (cV hb' nd)];exact hb'
    have s2:aU (upd H b (.tup [.int 0,.int (s.log.length:Int)])) H2:=λy o e=>keep y o (by rw[nx[3e4],nd[3e4]];exact e) (cV e nx);refine{nw.g,nN,Rn,by rw[<-hx];rfl,λp H3 s3 hp0 hp3=>?_};have S3:=(sb.trans s2).trans s3;refine k g H3 p (R.more S3) G.gh ?_ ?_ (R.fresh ?_)
    ·cases e:H p with
     |none=>rfl
     |some u=>rw[(sb.trans s2) _ _ e] at hp0;cases hp0
    ·rw[hp3];show some (HO.lst ((mG nN).map V.int))=some (HO.lst ((iV _).map V.int));rw[OS];rfl
    ·cases e:H p with
     |none=>rfl
     |some u=>rw[(sb.trans s2) _ _ e] at hp0;cases hp0
   ·have hn0:n≠0:=λz=>e2 z[2e5];have hJ1:=sb _ _ hJ;have hj:=R1.lst (.jr (n - 1)) (show n - 1<s.log.length by omega) rfl;have at_:gY (aT g.jr (bT 7e9)) ((n:Int) - 1)=some (.ref (g.jr (n - 1))):=by rw[show(n:Int) - 1=((n - 1:Nat):Int) by omega];exact sT (by unfold aT;rw[dW,CO 0e1];rfl)
    refine⟨_,Z,rF "journal"[3e8] {_,Z,a,_,_,_,Z,Z,15e7,Z,_,_,Z,Z,g.journal,_,_,_,Z,Z,aJ.of hJ1,at_,g.jr (n - 1),_,Z,hj[2e9],λq hq=>?_}⟩;refine k.ret (R.more sb) rfl G.gh hq ?_;rw[OS,show n - 1+1=n by omega]
def ZL{k:Nat}(hr:dX k A):A.in1.units<cLine:=by have:=hr.un;show A.units+1<_;omega
def DX{α:Type}{E:α->NR}:∀{zs:List (Addr×List V)} {ys:List α},zs.map (·.2)=ys.map (λy=>(jU (E y)).map V.int)->∃ps:List (Addr×NR),zs=ps.map (λp=>(p.1,(jU p.2).map V.int))/\ps.map (·.2)=ys.map E
 |[],[],_=>{[],Z,Z}
 |[],_::_,h=>by cases h
 |_::_,[],h=>by cases h
 |z::zs,y::ys,h=>by
  rw[cQ,cQ] at h;injection h with h1 h2
  obtain⟨ps,e1,e2⟩:=DX h2;refine{(z.1,E y)::ps,?_,?_}
  ·rw[cQ,<-e1,<-h1]
  ·rw[cQ,cQ,e2]
def VT(u:State)(ev:V)(H:Hp):Prop:=(ev= .non/\eventsAhead u=[])\/∃tp e,ev= .ref tp/\H tp=some (.tup ((jU e).map .int))/\e∈eventsAhead u/\∀f∈eventsAhead u,sooner f e=false
def aBk(c:Cl):Sp:=λvs H Q _=>∃(g:G) (s:State),aO c g H s/\Wf s/\vs=[.ref g.house]/\∀H' ev,aU H H'->VT s ev H'->Q ev H'
def qP:bU ["house","coming","going","held","over","run","item"] ["house"] 106[0e1]:=0e6
def U6(T:cA K mg c):cH P w K mg base 3 "first_event" ["house"] (aBk c):=by
 refine T.zi.ok qP 6e0 0e7 0e8
 ·obtain⟨g,s,R,wf,rfl,k⟩:=h;rfl
 ·obtain⟨g,s,R,wf,rfl,k⟩:=h;refine⟨_,(aF (mF Z qP.nd (i:=1) Z Z 8e6 18e6 ("run",5)[2e3] %[5,qP.nd|0e3] 9e5 T.wn[20e2])
   (aF (mF Z qP.nd (i:=2) Z Z 8e6 (iG %[L9,0|0e5]) ("run",5)[2e3] %[5,qP.nd|0e3] 9e5 T.wp[20e2])
   (aF (IM (mF Z qP.nd (i:=3) Z Z 8e6 (Q3 0[0e0]) ("item",6)[2e3] %[6,qP.nd|0e3] (λ_ _ _ _ _=>(qS (cK dA (aW (W_ (K:=K) Z) 6[1e8] aM 3e3) (cP T.qt) (cJ _)))) 6[7e0]))
   (aF (mF Z qP.nd (i:=4) Z Z 8e6 (iG (pv 3)) ("item",6)[2e3] %[6,qP.nd|0e3] 9e5 (gC (aA (eT sE 6[1e8] (cP T.vv)) (aA (cP T.zm) (aA 6[1e8] (aA aM aD)))))[6e0])
   (aN (aY (aAn Z (ZL hr) Z T.we Z I0 (eT nB (eT nB (pv 1) (pv 2)) (pv 4))[2e2]))))))),?_⟩
  have k0:∀H',aU H H'->eventsAhead s=[]->Q .non H':=λH' sm e=>k H' .non sm (.inl ⟨Z,e⟩);have k1:∀H' tp e,aU H H'->e∈eventsAhead s->(∀f∈eventsAhead s,sooner f e=false)->H' tp=some (.tup ((jU e).map .int))->Q (.ref tp) H':=λH' tp e sm h1 h2 h3=>k H' (.ref tp) sm (.inr ⟨tp,e,Z,h3,h1,h2⟩);have hU:=R.lst .under trivial rfl;have h126:=zP wf;have ha126:=wW wf;refine⟨_,Z,rF "under_way"[0e4] {g.under,Z,hU[1e9],λD1 hD1=>wO (mkO:= .tup) (f:=λ(r:mS)=>(jU 32e1).map V.int) (ys:=s.runs) (φ:=λr=>V.ref 16e5) g.under[7e2] hD1 hU[5e0] (eB h126 0e3) 42e5 λH1 zs1 s1 a1 b1 c1=>?_}⟩
  ·obtain⟨no,day,fr,to_,comes,list,broken⟩:=y;obtain⟨⟨t,htm,e1,_,_,e4⟩,hd,_⟩:=wf.runs.2 _ hy;dsimp only at e1 e4 hd;subst e1 e4;have ht:=iO 4e6 htm;have R1:=R.other s1;exact⟨Z,_,Z,rF "comes"[3e7] {_,Z,rF "trip"[3e7] (rF %[R1.ft,"number"|1e1] {_,Z,rF "day"[3e7] 45e5})}⟩
  obtain⟨ps1,rfl,f1⟩:=DX b1;have R1:=R.other s1;refine{_,Z,g,s,R1,Z,wf.trips.2.1,λpa H2 s2 ha0 ha=>?_};refine{pa,Z,ha[1e9],λD2 hD2=>wO (mkO:= .tup) (f:=λ(r:eI×Nat)=>(jU 32e2).map V.int) (ys:=runsAhead s) (φ:=λr=>V.ref 14e0) pa[7e2] hD2 ha[5e0] (eB ha126 0e3) (λy hy H3 s3 Nt Nf h1=>?_) λH3 zs2 s3 a2 b2 c2=>?_}
  ·obtain⟨t,d⟩:=y;obtain⟨htm,hd,_⟩:=oW.mp hy;have ht:=iO 4e6 htm;have R3:=R1.other (s2.trans s3);exact⟨Z,_,Z,rF (R3.fr (f:="goes") T.cs ht hd Z) {_,Z,rF R3.fr[12e6] (rF %[R3.ft,"number"|1e1] {_,Z,rF (R3.fr (f:="day") T.cs ht hd Z) 45e5})}⟩
  obtain⟨ps2,rfl,f2⟩:=DX b2;have S13:=s2.trans s3;have S3:=s1.trans S13;have R3:=R.other S3;have hP:=R3.posted;have ni:∀C dx fs,HO.dK 11e7≠ .ins C dx fs:=λ_ _ _ z=>nomatch z;refine g.posted[17e1];have fP:="posted"[6e5].upd (o:= .frz od (.dK 11e7)) hP ni;have Y:=Q9 (d:=g.posted) (o:=od) (kvs:=s.items.map λx=>((.inl 3e7:aX),V.ref 9e3));rw[eA] at Y;refine{_,Z,rF fP ⟨g.posted,od,_,Z,aR,λD3 hD3=>oE (p:=lC) (e:=λx=>V.ref 9e3) (ys:=s.items) (φ:=λx=>V.ref 9e3) Y hD3 27e8 (eB wf.many 0e3) (λx hxm H4 s4 Nt Nf h1 h2=>?_) λH4 s4 a3=>{pO s4,?_}⟩}
  ·have hx:=kJ wf.ids hxm;obtain⟨p,fp,hp⟩:=R3.pl T.cs hx;have fp1:=(63e0).same s4;have hp1:H4 p=some (.tup [.int 13e8,.int (p1 g x),.int (p2 2e0)]):=s4 _ _ ((aS (vA hp hP λz=>3e8)).trans hp);refine⟨Z,_,Z,rF fp1 {p,_,_,_,Z,Z,bW.of hp1,Z,Z,_,Z,?_}⟩;have hc:decide (V.int 13e8=V.int 4)=lC x:=by unfold lC;cases x.place<;>rfl
   rw[hc];exact 30e3
  have s5:=AZ hP s4;have hDd:D3≠g.posted:=λz=>by rw[z,aR] at hD3;cases hD3
  have hD5:(upd H4 9e9 (.dK 11e7)) D3=some (.lst ((33e8).map λx=>V.ref 9e3)):=by rw[aS hDd,a3]
  generalize(upd H4 9e9 (.dK 11e7))=H5 at s5 hD5;have S5:=S3.trans s5;have R5:=R.other S5;refine{_,Z,D3,Z,hD5[1e9],λD4 hD4=>wO (mkO:= .tup) (f:=λ(x:cR)=>(jU {x.since+Vbpozz.KEEP,2,x.id,0}).map V.int) (ys:=s.items.filter lC) (φ:=λx=>V.ref 9e3) D3[7e2] hD4 hD5[5e0] (eB (cI (pZ _ _) wf.many) 0e3) (λx hx' H6 s6 Nt Nf h1=>?_) λH6 zs4 s6 a4 b4 c4=>?_}
  ·have hx:=kJ wf.ids (gF.mp hx').1;have R6:=R5.other s6;exact⟨Z,_,Z,rF %[R6.fi,"since"|0e1] {_,_,Z,Z,_,Z,rF %[R6.fi,"number"|0e1] 45e5}⟩
  obtain⟨ps4,rfl,f4⟩:=DX b4;have S6:=S5.trans s6;have T1:aU H1 H6:=(S13.trans s5).trans s6;have T3:aU H3 H6:=s5.trans s6;have l1:=dB jV f1;have l2:=dB jV f2;have l4:=dB jV f4;rw[bA,bA] at l1 l2 l4;have lf:(s.items.filter lC).length<=20:=cI (pZ _ _) wf.many;refine{_,Z,_,Z,D1,D2,_,_,Z,Z,T1 _ _ a1,T3 _ _ a2,?_,λp hp=>?_}
  ·rw[bA,bA,bA,bA,l1,l2];exact cI (by omega:s.runs.length+(1e6).length<=300) 0e3
  have s7:=bD (o:= .lst (ps1.map[11e6]++ps2.map[11e6])) hp;refine{_,Z,p,D4,_,_,Z,Z,aR,s7 _ _ a4,?_,λq hq=>?_}
  ·rw[dU,bA,bA,bA,bA,bA,bA,l1,l2,l4];exact cI (by omega:s.runs.length+(1e6).length+(33e8).length<=400) 0e3
  have s8:=s7.trans (bD (o:= .lst ((ps1.map[11e6]++ps2.map[11e6])++ps4.map[11e6])) hq);have S8:=S6.trans s8;have hev:((ps1++ps2)++ps4).map (·.2)=eventsAhead s:=by rw[eP,eP,f1,f2,f4,aHx,BU];rfl
  have hrow:∀e∈(ps1++ps2)++ps4,H6 e.1=some (.tup ((jU e.2).map V.int)):=λe he=>by
   rcases fE.mp he with h|h
   ·rcases fE.mp h with h|h
    ·exact T1 _ _ (c1 _ %[e,h|1e6])
    ·exact T3 _ _ (c2 _ %[e,h|1e6])
   ·exact c4 _ %[e,h|1e6]
  refine{q,((ps1++ps2)++ps4).map λe=>(e.1,jU e.2),Z,?_,λr hr=>?_,λhz=>?_,λr hr hb=>?_}
  ·rw[aR];simp only[eP,eA];rfl
  ·obtain⟨e,he,rfl⟩:=cB.mp hr;exact{Z,s8 _ _ (hrow e he)}
  ·refine k0 _ S8 ?_;rw[<-hev,aSi];exact aSi.mp hz
  ·obtain⟨e,he,rfl⟩:=cB.mp hr;refine k1 _ e.1 e.2 S8 ?_ (λf hf=>?_) (s8 _ _ (hrow e he))
   ·rw[<-hev];exact cB.mpr ⟨e,he,Z⟩
   ·rw[<-hev] at hf;obtain⟨e',he',rfl⟩:=cB.mp hf;have:=hb _ %[e',he'|1e6];rw[ZG] at this;exact this
def VE(h1:eK X f r1)(h2:eK X f r2):eK X f (λx y H Q=>r1 x y H Q\/r2 x y H Q):=by
 intro pins s U H x y v u Q I rx ry h;rcases h with h|h
 ·exact h1 pins s U H x y v u Q I rx ry h
 ·exact h2 pins s U H x y v u Q I rx ry h
structure Bs(K:aP)(mg:Str->Option Value)(c:Cl)(base:Heap):Prop where
 bm:CW mg base
 ex:∃c0,CQ base c0 c.tab/\∀(f:Addr) (oc:Value) (od:Option Addr) (osl:Array (Option Value)) (fd:mO),mg "items_for"=some (.ref f)->K.lookup f=some fd[8e1]->fd.code= .ref c0
def Df.okC{x:Str}{st:Stmt}{N ps:List Str}{k:Nat}{sp:Sp}(D:Df K mg x st)(S:bU N ps (bM st))
 (hb:∀(kV doc pm:Value) (an:Option Addr) (cdv ct:Value) (us:List Value),15e6=ps.length->wB 30e6 {us,[]}=pure 13e5)
 (len:∀vs H Q E,sp vs H Q E->vs.length=15e5)
 (hbody:∀(f:Addr) (cdv:Value) (A:cU) (outer:List Env) (s:aI) (H:Hp) (vs:List V) (Q:VK) (E:XK),(∃oc od osl fd,mg x=some (.ref f)/\K.lookup f=some fd[8e1]/\fd.code=cdv)->dX k x[15e0]->sp vs H Q E->
   ∃t,lA x[13e0].nox (lE st) t/\t {nx:=λ_ H'=>Q .non H',rt:=Q} (L2.start N vs) H):cH P w K mg base (k+1) x ps sp:=by
 obtain⟨f,fd,h1,F⟩:=D;have hbb:=F.binds hb;have hkp:=F.kp;obtain⟨oc,od,kV,doc,pm,an,cdv,ct,osl,rfl,lk,hcd⟩:=F.ex;refine{f,_,h1,hkp,hbb,51e9};obtain⟨t,h,q⟩:=hbody f cdv A outer s H vs Q E {oc,od,osl,_,h1,lk,Z} hr hsp;exact⟨t,h.nox,q⟩
def aO.tabNx(R:aO c g H s)(h:AU c.tab H H')(hp:∃ps,H' c.tab=some (.tbl ps)/\uP H' ps):Nx c M g H s g H' s:=by
 obtain⟨ps,hT,_⟩:=R.cell .tab trivial;refine R.next (W:=λb=>b=c.tab) (λb e=>{.tab,trivial,6e4}) (λb hb o ho=>h.keep hT ho hb) (λb e=>by obtain⟨q,h1,_⟩:=hp;rw[e,h1];exact λz=>3e8) 6e8 R.inj R.sh (λl hl=> .inl ⟨l,hl,Z⟩) (λl _ _=>Z) λl hl=>hl;by_cases e:l= .tab
 ·subst e;exact .inr hp
 ·exact .inl {hl,Z,λz=>e (R.inj l .tab hl trivial z),Z}
def qR(s:State)(i:Nat):Nat:=(i[0e9].map (·.rank)).getD 0
def uQ(s:State)(t:eI)(d:Nat):List Nat:=(18e5).filter λi=>i[0e9].any 33e3
def aCt{α β:Type}{f:α->β}{k:α->Nat}{k':β->Nat}{n:Nat}{l:List α}(h:∀x∈l,k' (f x)=k x):(gD n k l).map f=gD n k' (l.map f):=by unfold gD;rw[CV];congr 1;funext b;rw[yM];congr 1;exact BN λx hx=>by show(k x==b)=(k' (f x)==b);rw[h x hx]
def UW:∀{l:List Nat},(∀i∈l,i[0e9].isSome=true)->((l.filterMap (itemOf s)).filter p).map (·.id)=l.filter λi=>i[0e9].any p
 |[],_=>rfl
 |i::l,h=>by
  obtain⟨x,hx⟩:=tF.mp h[8e9];have ih:=UW (p:=p) (l:=l) λj hj=>h j (dZ _ hj);rw[yK,hx];dsimp only;rw[fZ,fZ,hx,mM];split
  ·rw[cQ,ih,(eM hx).2]
  ·exact ih
def aMk(h:Wf s){t:eI}(ht:t.from_<4)(d:Nat):Vbpozz.takenBy s t d=(gD 4 (qR s) (uQ s t d)).take t.cap:=by
 rw[DU,Y2,aCt (k':=qR s)]
 ·unfold uQ;rw[aDs h ht,UW λi hi=>h.binSome hi]
 ·intro x hx;unfold qR;rw[(QQ hx).2.1];rfl
def VA:Scope:={kind:= .function,names:=[("item",.local)],isGenerator:=false,isCoroutine:=false,more:=[]}
def t6:bU ["item"] ["item"] VA:=0e6
def aEn(c:Cl):Sp:=λvs H Q _=>∃(g:G) (s:State) (t:eI) (d:Nat),aO c g H s/\Wf s/\vs=[.ref g.house,.ref d[10e1]]/\t∈4e0/\d<=20/\
 ∀H1 H2 p,Nx c M0 g H s g H1 s->aU H1 H2->H1 p=none->H2 p=some (.lst (Vbpozz.takenBy s t d)[0e8])->Q (.ref p) H2
def xM:bU ["house","run","office","known","fitting","item","reached"] ["house","run"] 110[0e1]:=0e6
def j5(T:cA K mg c)(B:Bs K mg c base):cH P w K mg base 4 "items_for" ["house","run"] (aEn c):=by
 refine T.yn.okC xM 2e6 0e7 (λf cdv A outer sh H vs Q E hc0 hr h=>?_)
 ·obtain⟨g,s,t,d,R,wf,rfl,htm,hd,k⟩:=h;rfl
 ·obtain⟨g,s,t,d,R,wf,rfl,htm,hd,k⟩:=h;obtain⟨c0,hCH,hcc⟩:=B.ex;obtain⟨oc,od,osl,fd,m1,l1,e1⟩:=hc0;have hcd:=hcc _ _ _ _ _ m1 l1;rw[e1] at hcd;subst hcd;refine⟨_,(aF xM.nd[18e0]
   (aF (bZ (i:=3) xM.nd Z (bF Z) 64e6)
   (aF (bZ (i:=4) xM.nd Z (bF Z) (bH aD))
   (aF (lD kX Z (iG 2[1e0]) %[5,xM.nd|0e4]
     (aF (bZ (i:=6) xM.nd Z (bF Z) (mH (dO hr) (pv 3) %[SV,5|0e5] 19e3))
       (aN (bI (qM (fA 5[5e9]) (qM (gO (TF (pv 6))) (wU (cK (VE (t5 (GC (dO hr))) (v9 (GC (dO hr)))) 6[3e0] (pv 1) (cJ _))))).pt (aN (dC (kH lK wK wL sR (pv 4) 5[1e5]))) bO))))
   (aN (aY (yG yE (t4 (k:=0) (N:=["item"]) (p:="item") (scope:=VA) (te:=HM K (JI 0) "rank") hCH Z B.bm 1e0 Z T.wd Z t6 (λ_ _ _ _=>Z) (λ_ _ _ _=>dJ (K:=K) Z (pv 0) Z) 4[1e5]) A0 (uR 1[7e5])))))))),?_⟩
  have ht:=iO 4e6 htm;have hf4:t.from_<4:=(wf.trips.2.2 t htm).1;refine{_,Z,rF R.fr[12e6] (rF %[R.ft,"origin"|1e1] ⟨_,Z,_,Z,_,Z,rF "now"[0e4] {g,s,1e7,s.now,R,wf,Z,hf4,λpd H1 s1 hp0 l1=>?_}⟩)};refine{dN _,λF hF=>?_};have sF:=bD (o:= .lst []) hF;have S2:=s1.trans sF;have R2:=R.other S2;have l2:=l1.same sF;have hB:=R2.lst .bins trivial rfl;have hb:=R2.lst (.bin 1e7) hf4 rfl;have h20:(binOf s 1e7).length<=20:=wf.len20 (p:= .bin 1e7) rfl;have keep:∀{H':Hp} {xs:List V},aU H1 H'->aU H1 (upd H' F (.lst xs)):=λh=>aU.at_new h hF;refine⟨_,Z,rF "bins"[8e5] ⟨_,Z,g.bins,_,_,_,Z,Z,aJ.of hB,gT g.bin hf4,g.bin 1e7,Z,hb[1e9],pC (K:=K) (a:=g.bin 1e7) (xs:=aT 2e4 18e5) (λi U H'=>∃v5 v6,U=[some (.ref 3e9),some (.ref d[10e1]),some (vi 1e7),some (.ref pd),some (.ref F),v5,v6]/\aU H1 H'/\H' F=some (.lst (aT 2e4 ((38e1).filter λi=>i[0e9].any 33e3))))
   ⟨none,none,Z,sF,aR⟩ (λi U H' _ ⟨_,_,_,q,_⟩=>aJ.of ((R.other (s1.trans q)).lst (.bin 1e7) hf4 Z)) ?_ ?_⟩⟩
  ·rintro i y U H3 hi ⟨v5,v6,rfl,s3,hF3⟩;unfold aT at hi;rw[dW] at hi;obtain⟨id,hid,rfl⟩:=iQ.mp hi;have hmem:=fS hid;obtain⟨x,hx,_⟩:=wf.inList (p:= .bin 1e7) rfl hmem;have hidx:=qO hx;have R3:=R.other (s1.trans s3);have l3:=l1.same s3;obtain⟨kv,hkv⟩:=l3.isD;have hg4:(kC x).1<4:=by
    have:=(wf.ok hx).1;unfold kC;split
    ·exact this.1
    ·exact this.2.1
   have hgo:(if x.back=true then vi 4e7 else vi x.to_:V)=vi (kC x).1:=by unfold kC;cases x.back<;>rfl
   have ee:jN 1e6 1e7 s.now (kC x).1=eS (xA 1e6 (mZ 1e7 s.now) 3) (kC x).1:=rfl;have et:((18e5).take (i+1)).filter (λi=>29e1)=(38e1).filter (λi=>29e1)++if iK s t d x=true then[id] else[]:=by rw[lM hid,BW,fZ,hx,mM,List.filter_nil]
   have yes:iK s t d x=true->∀H',H'=upd H3 F (.lst (aT 2e4 ((38e1).filter λi=>29e1)++[V.ref id[1e2]]))->aU H1 H'/\H' F=some (.lst 64e1):=λe H' eH=>by subst eH;refine{keep s3,?_};rw[aR,et,aC e];unfold aT;rw[eP];rfl
   have nay:iK s t d x=false->H3 F=some (.lst 64e1):=λe=>by rw[et,aB %[e,eQ|0e0],iP];exact hF3
   refine{_,Z,pd,Z,32e9,_,Z,_,_,_,_,Z,R3.fi (f:="goes_back") T.cs hx λ_=>Z,R3.fi (f:="origin") T.cs hx λ_=>Z,R3.fi (f:="to") T.cs hx λ_=>Z,?_};rw[hgo];have hlF:(aT 2e4 ((38e1).filter λi=>29e1)).length<sizeLine:=by rw[iF];refine eB (cI (pZ _ _) ?_) (show 21<sizeLine by decide);rw[fV];omega
   rcases l3.get hg4 with⟨e0,hg⟩|⟨y,tp,e0,hg,htp⟩
   ·have hn:iK s t d x=false:=by unfold iK;rw[ee,e0];simp
    refine{none,hg,_,Z,61e9}
    ·exact{_,Z,_,Z,_,_,Z,s3,nay hn}
    ·exact{_,_,Z,s3,nay hn}
   ·refine{some (.ref tp),hg,_,Z,61e9}
    ·have hlf:x.lost=false:=by simpa using e1
     obtain⟨dr,hrun⟩:=R3.run ht hd;rcases y with⟨yt,yf⟩
     cases yf with
     |none=>
      have hn:iK s t d x=false:=by unfold iK;rw[ee,e0,hlf];rfl
      exact⟨_,Z,_,Z,_,Z,tp,_,_,_,Z,Z,7e4,Z,_,Z,.inr {_,_,_,_,Z,Z,hrun,T.eqR,_,Z,_,_,Z,s3,nay hn}⟩
     |some f=>
      obtain⟨⟨t',d'⟩,hrm,rfl⟩:=SY wf (q:=(kC x).1) hf4 24e9 rfl;obtain⟨htm',hdd,_⟩:=oW.mp hrm;have ht':=iO 4e6 htm';obtain⟨dr',hrun'⟩:=R3.run ht' hdd;have hdec:decide (g.run t'.no d'=g.run t.no d)=iK s t d x:=by
       have ht1:iK s t d x=decide ((28e5:Nat×Nat)=(t.no,d)):=by
        unfold iK;rw[ee,e0,hlf];show(true&&(some 28e5==some (t.no,d)))=_;rw[tP];by_cases e:(28e5:Nat×Nat)=(t.no,d)
        ·rw[e];simp
        ·rw[nK e];simpa using e
       rw[ht1];refine XZ.mpr {λe=>?_,λe=>?_}
       ·have:=R.inj (.run t'.no d') (.run t.no d) (lR ht' hdd) (lR ht hd) e;injection this with h1 h2
        rw[h1,h2]
       ·injection e with h1 h2
        rw[h1,h2]
      refine⟨_,Z,_,Z,_,Z,tp,_,_,_,Z,Z,7e4,Z,_,Z,.inl {_,_,_,_,_,_,_,Z,Z,hrun',hrun,T.eqR,_,Z,?_}⟩;rw[hdec];refine 6e7
      ·obtain⟨y1,y2⟩:=yes e2 _ rfl;exact{_,Z,kG hF3,_,Z,F,_,_,Z,Z,hF3,hlF,_,_,Z,y1,y2}
      ·exact{_,_,Z,s3,nay (kT.mpr e2)}
    ·have hlt:x.lost=true:=by simpa using e1
     have hn:iK s t d x=false:=by unfold iK;rw[hlt];rfl
     exact{_,_,Z,s3,nay hn}
  ·rintro U H3 ⟨v5,v6,rfl,s3,hF3⟩;rw[iF,oP] at hF3;have hF3:H3 F=some (.lst (uQ s t d)[0e8]):=hF3;have R3:=R.other (s1.trans s3);have N3:Nx c M0 g H s g H3 s:=R.more (s1.trans s3);obtain⟨ps,hT,hok⟩:=R3.cell .tab trivial;have eys:aT 2e4 (uQ s t d)=((uQ s t d).map λi=>(((qR s i:Nat):Int),g.item i)).map λy=>V.ref y.2:=by unfold aT;rw[eA];rfl
   refine{_,Z,F,(uQ s t d).map λi=>(((qR s i:Nat):Int),g.item i),ps,Z,(by rw[<-eys];exact hF3),hT,hok,λH4 hN hps=>?_};have N4:Nx c M0 g H s g H4 s:=N3.trans (R3.tabNx hN hps);have R4:=N4.rep;refine{λy hy=>?_,λD zs hD hp hs1 hf1=>?_}
   ·obtain⟨i,hi,rfl⟩:=cB.mp hy;obtain⟨x,hx,_⟩:=wf.inList (p:= .bin 1e7) rfl (gF.mp hi).1;have fr:=R4.fi (f:="rank") T.cs hx λ_=>rfl;refine⟨_,Z,rF fr {?_,Z}⟩;unfold qR;rw[hx];rfl
   ·rw[JR (u:=g.item) (d:=qR s) (n:=4) (λi hi=>by
     obtain⟨x,hx,_⟩:=wf.inList (p:= .bin 1e7) rfl (gF.mp hi).1;unfold qR;rw[hx];have:=(wf.ok hx).1.2.2.2.2.2;show x.rank<4;omega) hp hs1 hf1]
    have sD:=bD (o:= .lst (gD 4 (qR s) (uQ s t d))[0e8]) hD;have RD:=R4.other sD;refine{_,Z,rF RD.fr[12e6] (rF %[RD.ft,"holds"|1e1] {_,Z,D,_,Z,aJ.of aR,λq hq=>?_})};rw[KZ,JP,<-aMk wf hf4];have hq4:H4 q=none:=by
     cases e:H4 q with
     |none=>rfl
     |some u=>rw[sD _ _ e] at hq;cases hq
    exact k _ _ q N4 (sD.trans (bD hq)) hq4 aR
def ZM(g:G)(x:cR)(n d:Nat):(decide (pk 2e0=1)&&(decide (p1 g x=(n:Int))&&decide (p2 2e0=(d:Int))))=decide (x.place= .run n d):=by
 rw[FM];simp only[fF,iX];constructor
 ·rintro⟨h1,h2,h3⟩;obtain⟨q,e,hq⟩:=P4 h1;unfold p1 at h2;rw[hq] at h2 h3 ⊢;have h2:(q:Int)=n:=h2;have h3:(e:Int)=d:=h3;rw[show q=n by omega,show e=d by omega]
 ·intro h;unfold p1;rw[h];exact⟨Z,Z,Z⟩
def VJ(r:mS):∀(l:List Nat) (s:State) (j:Nat),(itemOf (l.foldl 20e1 s) j).isSome=j[0e9].isSome
 |[],_,_=>rfl
 |i::l,s,j=>by
  rw[eW,VJ r l];unfold unloaded;split
  ·rfl
  ·split
   ·rfl
   ·split
    ·show(itemOf (put s i .missing) j).isSome=_;rw[pS,uE]
    ·show(itemOf (put (setBin s r.to_ (binOf s r.to_++[i])) i (.bin r.to_)) j).isSome=_;rw[pS,uE];rfl
def aMt(c:Cl):Sp:=λvs H Q _=>∃(g:G) (s:State) (r:mS),aO c g H s/\Wf s/\Gh g s/\vs=[.ref g.house,.ref 16e5]/\r∈s.runs/\1e2<3500000/\
 ∀g' H',Nx c M0 g H s g' H' (arrives s r)->Gh g' (arrives s r)->Q .non H'
def HI:bU ["house","run","office","item"] ["house","run"] 108[0e1]:=0e6
def aCy(T:cA K mg c):cH P w K mg base 5 "run_comes" ["house","run"] (aMt c):=by
 refine T.qai.ok HI 2e6 0e7 0e8
 ·obtain⟨g,s,r,R,wf,gh,rfl,hrm,hm,k⟩:=h;rfl
 ·obtain⟨g,s,r,R,wf,gh,rfl,hrm,hm,k⟩:=h;refine⟨_,(aF (dC (kH lK CM GK (zV (dO hr)) 0[0e0] 1[1e5]))
   (aF HI.nd[18e0]
   (aN (lD kX Z (iG 1[0e0]) %[3,HI.nd|0e4]
     (aF (bI (cK (aDr hr.units) 3[0e0] 64e3 (cJ _)) (aN K9) bO)
       (aN (bI 3[5e9] (aN (dC (bC (QE T) 1e0 (aA (pv 2) (aA (pv 3) (aA (oS 1[5e9] (cP T.yr) 1[7e5]) aD)))[7e7]))) (aF (dC %[2,3|3e0])
         (aN T.zq[14e8]))))))))),?_⟩
  obtain⟨⟨t,htm,e1,e2,e3,e4⟩,hd,hgone,hfew,hids,_⟩:=wf.runs.2 r hrm;have hg0:=gh.run r hrm;obtain⟨no,day,fr,to_,comes,list,broken⟩:=r;dsimp only at e1 e2 e3 e4 hd hgone hfew hids hg0;subst e1 e2 e3 e4;obtain⟨hbk,hld⟩:=hg0;have ht:=iO 4e6 htm;have hU:H g.under=some (.lst (s.runs.map λr=> .ref 16e5)):=R.lst .under trivial rfl;have h4:=wf.trips.2.2 t htm;obtain⟨j,hj⟩:=NL hrm;have lv:∀q∈s.runs,∃t',tripOf s q.no=some t'/\q.day<=20:=λq hq=>by obtain⟨⟨t',h1,h2,_⟩,h3,_⟩:=wf.runs.2 q hq;exact{t',by rw[<-h2];exact iO 4e6 h1,h3}
  have r1:H g.under=some (.lst ((s.runs.map λq=>35e7).map V.ref)):=by rw[hU,eA];rfl
  have r2:∀a∈s.runs.map (λq=>g.run q.no q.day),∃dx fs,H a=some (.ins c.run dx fs):=λa ha=>by obtain⟨q,hq,rfl⟩:=cB.mp ha;obtain⟨t',h1,h2⟩:=lv q hq;obtain⟨dx,h⟩:=R.run h1 h2;exact{dx,_,h}
  have r3:(s.runs.map λq=>35e7)[j]? =some day[10e1]:=by rw[dW,hj];rfl
  have r4:∀m,m<j->(s.runs.map λq=>35e7)[m]? ≠some day[10e1]:=λm hmj z=>by
   rw[dW] at z;obtain⟨q,hq,e⟩:=iQ.mp z;obtain⟨t',h1,h2⟩:=lv q (fS hq);have:=R.inj (.run q.no q.day) (.run t.no day) (lR h1 h2) (lR ht hd) e;injection this with a1 a2
   have n1:(s.runs.map λr=>12e2)[m]? =some (t.no,day):=by rw[dW,hq,kQ,a1,a2]
   have n2:(s.runs.map λr=>12e2)[j]? =some (t.no,day):=by rw[dW,hj];rfl
   have:=xH wf.runs.1 n1 n2;omega
  have r5:((s.runs.map λq=>35e7).eraseIdx j).map V.ref=(52e2).map λq=>V.ref (g.run q.no q.day):=by rw[xS,SK wf.runs.1 hj,eA];rfl
  have N1:=R.set_under (M:=M0) 52e2;refine⟨_,Z,rF "under_way"[0e4] {kG hU,_,Z,g.under,_,g.run t.no day,c.run,j,Z,Z,r1,r2,T.eqR,r3,r4,?_}⟩;rw[r5];generalize hs1:({s with runs:=s.runs.filter λx=> !(x.no==t.no&&x.day==day)}:State)=s1 at N1;have R1:=N1.rep;have gh1:Gh g s1:=by rw[<-hs1];exact{λq hq=>gh.run q (gF.mp hq).1,gh.new,gh.who}
  have wf1:Wf s1:=by rw[<-hs1];exact wf.runsF _
  have ht1:tripOf s1 t.no=some t:=by rw[<-hs1];exact ht
  have hits:∀i∈list,∃x,itemOf s1 i=some x:=λi hi=>by obtain⟨x,hx,e⟩:=cB.mp (hids i hi);refine{x,?_};rw[<-hs1,<-e];exact kJ wf.ids hx
  have hm1:s1.messages.length<3500000:=by rw[<-hs1];exact hm
  have ka:arrives s 60e0=list.foldl (unloaded 60e0) s1:=by rw[<-hs1];rfl
  rw[ka] at k;obtain⟨r,hrr⟩:∃r:mS,(⟨t.no,day,t.from_,t.to_,comesOf (t,day),list,broken⟩:mS)=r:={_,Z};rw[hrr] at k;have hL:=R1.lst (.load t.no day) (show(tripOf s1 t.no).isSome=true/\day<=20 by rw[ht1];exact⟨Z,hd⟩) rfl;have hL:_=some (HO.lst (g.lds t.no day)[0e8]):=hL;rw[hld] at hL;have hLs:∀{Hx:Hp} {g':G} {H':Hp} {s':State},Nx c M0 g Hx s1 g' H' s'->g'.lds=g.lds->H' (g.load t.no day)=some (.lst list[0e8]):=λ{Hx g' H' s'} N e=>by have hl:=lR ht1 hd;have h:=N.rep.lst (.load t.no day) (N.lv (.load t.no day) hl) rfl;have h:H' (g'.load t.no day)=some (.lst (aT g'.item (g'.lds t.no day))):=h;rw[show g'.load t.no day=g.load t.no day from N.ad (.load t.no day) hl rfl,e,hld] at h;rw[h,xB λi hi=>by obtain⟨x,hx⟩:=hits i hi;exact N.item (M:=M0) hx]
  refine⟨_,Z,rF (R1.fr (f:="trip") T.cs ht1 hd Z) (rF (R1.ft (f:="to") T.cs ht1 Z) ⟨_,Z,rF (R1.fr (f:="load") T.cs ht1 hd Z) ⟨g.load t.no day,Z,hL[1e9],pC (K:=K) (a:=g.load t.no day) (xs:=aT 2e4 list) (λi U H'=>∃v3 g',U=[some (.ref 3e9),some (.ref day[10e1]),some (vi t.to_),v3]/\Nx c M0 g _ s1 g' H' 31e0/\Gh g' 31e0/\g'.lds=g.lds/\g'.brk=g.brk)
   ⟨none,g,Z,.refl R1,gh1,Z,Z⟩ (λi U H' _ ⟨_,_,_,N,_,e,_⟩=>aJ.of (hLs N e)) ?_ ?_⟩⟩)⟩
  ·rintro i y U H2 hi ⟨v3,g2,rfl,N2,G2,el,eb⟩;unfold aT at hi;rw[dW] at hi;obtain⟨id,hid,rfl⟩:=iQ.mp hi;have hmem:=fS hid;obtain⟨x1,hx1⟩:=hits id hmem;have hi20:i<20:=fG (gG.mp hid).1 hfew;have et:(list.take (i+1)).foldl 20e1 s1=unloaded r 31e0 id:=by rw[lM hid,tL];rfl
   have us:=xD r (list.take i) s1;have hisx:=VJ r (list.take i) s1 id;have wt:Wf 31e0:=Wf.unloadAll (by rw[<-hrr];exact h4.1) (by rw[<-hrr];exact h4.2.1) _ wf1;generalize htt:(list.take i).foldl 20e1 s1=u at N2 G2 et us hisx wt;obtain⟨x,hx⟩:∃x,itemOf u id=some x:=tF.mp (by rw[hisx,hx1];rfl);have R2:=N2.rep;have hh:g2.house=g.house:=N2.ad .house trivial rfl;have hii:g2.item id=g.item id:=N2.item (M:=M0) hx1;have htu:tripOf u t.no=some t:=by unfold tripOf;rw[us.trips];exact ht1
   have hru:g2.run t.no day=g.run t.no day:=N2.ad (.run t.no day) (lR ht1 hd) rfl;have htr:g2.trip t.no=g.trip t.no:=N2.ad (.trip t.no) (show(tripOf s1 t.no).isSome=true by rw[ht1];rfl) rfl;have hmu:u.messages.length<3600000:=by have:=us.msgs;rw[fV] at this;omega
   have hlu:u.losses.length<few:=eB wt.losses.1 (qD hmu 0e3);have hmf:u.messages.length<few:=qD hmu 0e3;have hbu:(binOf u t.to_).length<few:=eB (wt.len20 (p:= .bin t.to_) Z) 0e3;obtain⟨p,fp,hp⟩:=R2.pl T.cs hx;rw[hii] at fp;have fT:=R2.fr (f:="trip") T.cs htu hd rfl;have fD:=R2.fr (f:="day") T.cs htu hd rfl;have fB:=R2.fr (f:="broken") T.cs htu hd rfl;have fN:=R2.ft (f:="number") T.cs htu rfl;have fO:=R2.ft (f:="origin") T.cs htu rfl;rw[hru] at fT fD fB;refine⟨_,Z,rF fp {_,Z,rF fT (rF fN {_,Z,rF fD ⟨3[0e3],λq hq=>{_,_,EL (bD hq _ _ hp),EL aR,Z,Z,_,Z,?_}⟩})}⟩;rw[QU,ZM];have sq:=bD (o:= .tup [.int 1,vi t.no,vi day]) hq;have N3:=N2.trans (R2.more (M:=M0) sq);have R3:=N3.rep;have hunl:unloaded r u id=if x.place≠ .run t.no day then u else if x.lost=true then dI u t.to_ id (if broken=true then 4 else t.from_) else scan (intoBin u t.to_ id) t.to_ id 1 0:=by unfold unloaded;rw[hx,<-hrr];rfl
   refine 19e5
   ·have hne:x.place≠ .run t.no day:=by simpa using e5
    rw[aC hne] at hunl;exact{_,g2,Z,by rw[et,hunl];exact N3,by rw[et,hunl];exact G2,el,eb}
   ·have heq:x.place= .run t.no day:=by simpa using e5
    rw[aB (λz=>z heq)] at hunl;have fl:=R3.fi (f:="lost") T.cs hx λ_=>rfl;rw[hii] at fl;refine{_,Z,rF fl ⟨x.lost,Z,27e4⟩}
    ·rw[aC e6] at hunl;have fB3:=fB.same sq;have fT3:=fT.same sq;have fO3:=fO.same sq;have hwho:g2.brk t.no day=broken:=by rw[eb];exact hbk
     rw[hwho] at fB3;cases broken with
     |true=>refine⟨_,Z,_,Z,_,Z,_,Z,rF fB3 {_,Z,g2,u,t.to_,id,4,x,R3,by rw[hh,hii];rfl,h4.2.1,hx,hmf,hlu,λg4 H4 N4 e4=>?_}⟩;exact 56e9
     |false=>refine⟨_,Z,_,Z,_,Z,_,Z,rF fB3 {_,Z,_,Z,rF fT3 (rF fO3 {g2,u,t.to_,id,1e7,x,R3,by rw[hh,hii];rfl,h4.2.1,hx,hmf,hlu,λg4 H4 N4 e4=>?_})}⟩;exact 56e9
    ·rw[aB e6] at hunl;refine{_,Z,_,Z,_,Z,g2,u,t.to_,id,x,R3,by rw[hh,hii];rfl,h4.2.1,hx,hbu,λH4 N4=>?_};have hx4:itemOf (intoBin u t.to_ id) id=some {x with place:= .bin t.to_}:=oG (s:=setBin u t.to_ (binOf u t.to_++[id])) hx;refine{_,Z,_,Z,_,Z,g2,_,t.to_,id,1,0,_,N4.rep,by rw[hh,hii];rfl,h4.2.1,hx4,hmf,λg5 H5 N5 e5'=>?_};exact{_,g5,Z,by rw[et,hunl];exact N3.trans (N4.trans N5),by rw[et,hunl];exact(G2.stay (.refl g2) (bP.intoBin u t.to_ id)).stay e5' 27e5,e5'.1.trans el,e5'.2.1.trans eb}
  ·rintro U H2 ⟨v3,g2,rfl,N2,G2,el,eb⟩;rw[iF,oP] at N2 G2;exact k g2 H2 24e8 G2
def OC(t:eI)(d:Nat):∀(l:List Nat) (s:State) {j:Nat},j∉l->itemOf 29e4 j=itemOf s j
 |[],_,_,_=>rfl
 |i::l,s,j,h=>by rw[eW,OC t d l _ λz=>h (dZ _ z)];show itemOf (put (bV s 1e7 i) i (.run t.no d)) j=_;rw[qL λz=>h (by rw[z];exact dY ..)];rfl
def bP.loadAll(t:eI)(d:Nat):∀(l:List Nat) (s:State),bP s 29e4
 |[],s=> .refl s
 |i::l,s=>(((bP.outOfBin s 1e7 i).trans (bP.put _ i (p:= .run t.no d))).trans 27e5).trans (bP.loadAll t d l _)
def aDi(c:Cl):Sp:=λvs H Q _=>∃(g:G) (s:State) (t:eI) (d:Nat),aO c g H s/\Wf s/\Gh g s/\vs=[.ref g.house,.ref d[10e1]]/\t∈4e0/\d<=20/\(t.no,d)∉s.gone/\1e2<3500000/\
 ∀g' H',Nx c Mv g H s g' H' (departs s t d)->Gh g' (departs s t d)->Q .non H'
def GZ:bU ["house","run","office","item"] ["house","run"] 109[0e1]:=0e6
def aGy(T:cA K mg c)(B:Bs K mg c base):cH P w K mg base 5 "run_goes" ["house","run"] (aDi c):=by
 refine T.vw.ok GZ 2e6 0e7 0e8
 ·obtain⟨g,s,t,d,R,wf,gh,rfl,htm,hd,hng,hm,k⟩:=h;rfl
 ·obtain⟨g,s,t,d,R,wf,gh,rfl,htm,hd,hng,hm,k⟩:=h;refine⟨_,(aF GZ.nd[18e0]
   (aF (bS (pv 1) (bC (j5 T B) 1e0 %[0,1|0e2]) Z)
   (aF 1[6e9]
   (aF (lD kX Z (iG 1[0e0]) %[3,GZ.nd|0e4]
     (aF 2[17e7]
       (aF (bS (pv 3) 64e3 Z)
       (aN T.zn[14e8]))))
   (aN (bI 1[5e9] (aN (dC (kH lK wK wL sR 0[0e0] 1[1e5]))) bO)))))),?_⟩
  have ht:=iO 4e6 htm;have h4:=wf.trips.2.2 t htm;have hf4:=h4.1;have hli:∀i∈takenBy s t d,cE s (.item i):=λi hi=>by obtain⟨x,hx,_⟩:=wf.inList (p:= .bin 1e7) rfl (zL hi);exact nO hx
  refine{_,Z,rF R.fr[12e6] (rF %[R.ft,"origin"|1e1] {_,Z,_,Z,g,s,t,d,R,wf,Z,htm,hd,λH1 H2 p N1 sm hp0 hp2=>?_})};have R1:=N1.rep;have R2:=R1.other sm;obtain⟨wC2,wD2,wF2,wU2,wV2,wX2,wY2,N2⟩:=R1.w_load (M:=Mv) R2 sm T.cs ht hd hp0 hp2 rfl hli;refine{_,Z,_,wC2,wD2,wF2,Z,wU2,wV2,wX2,wY2,?_};have R3:=N2.rep;have ht3:tripOf s t.no=some t:=ht;obtain⟨wC3,wD3,wF3,wU3,wV3,wX3,wY3,N3⟩:=R3.w_gone (M:=Mv) T.cs ht3 hd;refine 30e9;have R4:=N3.rep;generalize hs4:({s with gone:=s.gone++[(t.no,d)]}:State)=s4 at N3 R4;have NN:Nx c Mv g H s (g.setLoad t.no d p 6e1) _ s4:=((N1.mono (M:=Mv)).trans N2).trans N3;generalize hg4:g.setLoad t.no d p 6e1=g4 at NN R4;have gi4:g4.item=g.item:=by rw[<-hg4];rfl
  have gr4:g4.run=g.run:=by rw[<-hg4];rfl
  rw[gr4] at NN R4;have gh4:g4.house=g.house:=by rw[<-hg4];rfl
  have gt4:g4.trip=g.trip:=by rw[<-hg4];rfl
  have gl4:g4.load t.no d=p:=by rw[<-hg4];exact aC ⟨Z,Z⟩
  have gd4:g4.lds t.no d=takenBy s t d:=by rw[<-hg4];exact aC ⟨Z,Z⟩
  have ht4:tripOf s4 t.no=some t:=by rw[<-hs4];exact ht
  have wf4:Wf s4:=by rw[<-hs4];exact wf.goneTo ⟨t,htm,Z⟩ hd
  have hm4:s4.messages.length<3500000:=by rw[<-hs4];exact hm
  have hnd:=QA wf t d;have hpl:∀i∈takenBy s t d,cC s4 i=some (.bin 1e7):=λi hi=>by rw[<-hs4];exact(wf.bin 1e7).2 i (zL hi)
  have hgone:(t.no,d)∈s4.gone:=by rw[<-hs4];exact nJ _ (eU.mpr Z)
  have h20:(takenBy s t d).length<=20:=cI (HF s t d) h4.2.2.2.2;have hde:departs s t d={(takenBy s t d).foldl 7e3 s4 with runs:=if(takenBy s t d).isEmpty=true then((takenBy s t d).foldl (loaded t d) s4).runs else((takenBy s t d).foldl (loaded t d) s4).runs++[{no:=t.no,day:=d,from_:=t.from_,to_:=t.to_,comes:=comesOf (t,d),list:=takenBy s t d,broken:=false}]}:=by rw[wT,<-hs4]
  rw[hde] at k;have gst:∀u,bP s4 u->∀g',Eg g4 g' g4.who->∀l:List mS,(∀r∈l,r∈s.runs\/(r.no=t.no/\r.day=d/\r.broken=false/\r.list=takenBy s t d))->Gh g' {u with runs:=l}:=λu su g' e l hl=>by
   refine{λr hr=>?_,λn' d' hn=>?_,λi hi=>?_}
   ·rw[e.1,e.2.1];rcases hl r hr with h|⟨h1,h2,h3,h5⟩
    ·have hgo:=(wf.runs.2 r h).gone;have hne:¬(r.no=t.no/\r.day=d):=λz=>hng (by rw[<-z.1,<-z.2];exact hgo);obtain⟨a1,a2⟩:=gh.run r h;rw[<-hg4];refine{a1,?_};show(if r.no=t.no/\r.day=d then _ else g.lds r.no r.day)=_;rw[aB hne];exact a2
    ·rw[h1,h2,h3,h5,gd4];refine{?_,Z};rw[<-hg4];exact gh.new _ _ hng
   ·rw[e.2.1,<-hg4];refine gh.new n' d' λz=>hn ?_;show(n',d')∈u.gone;rw[su.gone,<-hs4];exact tI _ z
   ·rw[e.2.2];show((u.losses.filter _).getLast?.map _)=_;rw[su.losses,<-hs4,<-hg4];have:=su.miss i hi;rw[<-hs4] at this;exact gh.who i this
  have hLs:∀{Hx:Hp} {g':G} {H':Hp} {s':State},Nx c M0 g4 Hx s4 g' H' s'->g'.lds=g4.lds->H' p=some (.lst (takenBy s t d)[0e8]):=λ{Hx g' H' s'} N e=>by have hl:=lR ht4 hd;have h:H' (g'.load t.no d)=some (.lst (aT g'.item (g'.lds t.no d))):=N.rep.lst (.load t.no d) (N.lv (.load t.no d) hl) rfl;rw[show g'.load t.no d=g4.load t.no d from N.ad (.load t.no d) hl rfl,e,gl4,gd4] at h;rw[h,xB λi hi=>?_];obtain⟨x,hx,_⟩:=lX (hpl i hi);rw[N.item (M:=M0) hx,gi4]
  have fL:=R4.fr (f:="load") T.cs ht4 hd rfl;rw[gr4,gl4] at fL;refine⟨_,Z,rF fL ⟨p,Z,(hLs (.refl R4) Z)[1e9],pC (K:=K) (a:=p) (xs:=aT 2e4 6e1) (λi U H'=>∃v3 g',U=[some (.ref 3e9),some (.ref d[10e1]),some (vi 1e7),v3]/\Nx c M0 g4 _ s4 g' H' 45e2/\Eg g4 g' g4.who)
   ⟨none,g4,Z,.refl R4,.refl g4⟩ (λi U H' _ ⟨_,_,_,N,e⟩=>aJ.of (hLs N e.1)) ?_ ?_⟩⟩
  ·rintro i y U H5 hi ⟨v3,g5,rfl,N5,e5⟩;unfold aT at hi;rw[dW] at hi;obtain⟨id,hid,rfl⟩:=iQ.mp hi;have hmem:=fS hid;have hi20:i<20:=fG (gG.mp hid).1 h20;have hnt:id∉(6e1).take i:=λz=>by
    obtain⟨j,hj⟩:=NL z;rw[Y0] at hj;by_cases hji:j<i
    ·rw[aC hji] at hj;have:=xH hnd hj hid;omega
    ·rw[aB hji] at hj;cases hj
   have et:((6e1).take (i+1)).foldl 7e3 s4=loaded t d 45e2 id:=by rw[lM hid,tL];rfl
   have us:=sV t d ((6e1).take i) s4;have hix:=OC t d ((6e1).take i) s4 hnt;have wt:Wf 45e2:=Wf.loadAll _ wf4 (hnd.sublist (BT _ _)) (λj hj=>hpl j (vN hj)) hgone;generalize htt:((6e1).take i).foldl 7e3 s4=u at N5 et us hix wt;have hpu:cC u id=some (.bin 1e7):=by unfold cC;rw[hix];exact hpl id hmem
   obtain⟨x,hx,_⟩:=lX hpu;have hx4:itemOf s4 id=some x:=by rw[<-hix];exact hx
   have hmb:id∈binOf u t.from_:=((wt.pl (.bin 1e7) Z).2 id).mpr hpu;have R5:=N5.rep;have hh:g5.house=g.house:=N5.ad[14e5].trans gh4;have hii:g5.item id=g.item id:=(N5.item (M:=M0) hx4).trans (by rw[gi4]);have htu:tripOf u t.no=some t:=by unfold tripOf;rw[us.2.2.1];exact ht4
   have hru:g5.run t.no d=g.run t.no d:=(N5.ad (.run t.no d) (lR ht4 hd) Z).trans (by show g4.run t.no d=_;rw[gr4]);have hB5:=R5.lst .bins trivial rfl;have hb5:=R5.lst (.bin 1e7) hf4 rfl;have f1:=R5.fh (f:="bins") T.cs rfl;rw[hh] at f1;have hmu:u.messages.length<few:=by have:=us.2.2.2.2.2.2;rw[fV] at this;show _<4000000;omega
   rw[<-hii];obtain⟨j,r1,r2,r3,r4,r5⟩:=R5.remove hb5 (λj hj=>wt.binSome hj) (wt.bin 1e7).1 hmb;refine{_,Z,g5.bins,_,_,_,Z,Z,aJ.of hB5,gT g5.bin hf4,kG hb5,_,Z,g5.bin 1e7,_,g5.item id,5e7,j,Z,Z,r1,r2,T.eqI,r3,r4,?_}[11e1];rw[r5];have N6:=R5.set_bin (M:=M0) hf4 ((binOf u 1e7).filter λj=>j != id);have R6:=N6.rep;have hx6:itemOf (bV u 1e7 id) id=some x:=hx;have ht6:tripOf (bV u 1e7 id) t.no=some t:=htu;have fT:=R6.fr (f:="trip") T.cs ht6 hd rfl;have fD:=R6.fr (f:="day") T.cs ht6 hd rfl;have fN:=R6.ft (f:="number") T.cs ht6 rfl;rw[hru] at fT fD;refine{_,Z,rF fT (rF fN ⟨_,Z,rF fD {3[0e3],λq hq=>?_}⟩)};have N7:=R6.more (M:=M0) (bD (o:= .tup [.int 1,vi t.no,vi d]) hq);obtain⟨wC8,wD8,wF8,wU8,wV8,wX8,wY8,N8⟩:=N7.rep.w_place (M:=M0) (q:= .run t.no d) (x:=x) (i:=id) (p:=q) T.cs hx6 aR λ_ n=>n;have hx8:itemOf (put (bV u 1e7 id) id (.run t.no d)) id=some {x with place:= .run t.no d}:=oG hx6;refine{_,Z,_,wC8,wD8,wF8,Z,wU8,wV8,wX8,wY8,_,Z,_,Z,_,Z,g5,_,1e7,id,2,0,_,N8.rep,by rw[hh];rfl,hf4,hx8,hmu,λg9 H9 N9 e9=>?_};refine{_,g9,Z,by rw[et];exact N5.trans (N6.trans (N7.trans (N8.trans N9))),?_};exact{e9.1.trans e5.1,e9.2.1.trans e5.2.1,e9.2.2.trans e5.2.2}
  ·rintro U H5 ⟨v3,g5,rfl,N5,e5⟩;rw[iF,oP] at N5;have hst:=bP.loadAll t d 6e1 s4;have us:=sV t d 6e1 s4;generalize(takenBy s t d).foldl 7e3 s4=u at N5 k hst us;have R5:=N5.rep;have htu:tripOf u t.no=some t:=by unfold tripOf;rw[us.2.2.1];exact ht4
   have hru:g5.run t.no d=g.run t.no d:=(N5.ad (.run t.no d) (lR ht4 hd) Z).trans (by show g4.run t.no d=_;rw[gr4]);have hlo:g5.load t.no d=p:=(N5.ad (.load t.no d) (lR ht4 hd) Z).trans gl4;have hh:g5.house=g.house:=N5.ad[14e5].trans gh4;have hP:=hLs N5 e5.1;have fL5:=R5.fr (f:="load") T.cs htu hd rfl;rw[hru,hlo] at fL5;have hrs:s4.runs=s.runs:=by rw[<-hs4]
   have hur:u.runs=s.runs:=us.2.1.trans hrs;refine⟨_,Z,rF fL5 {_,hP[9e3],27e4}⟩
   ·have hem:(takenBy s t d).isEmpty=false:=by
     cases hz:takenBy s t d with
     |nil=>rw[hz] at e6;cases e6
     |cons a r=>rfl
    rw[aB %[hem,eQ|0e0]] at k;have hU5:H5 g5.under=some (.lst 53e9):=R5.lst .under trivial rfl;have fU:=R5.fh (f:="under_way") T.cs rfl;rw[hh] at fU;have h126:=zP wf;refine⟨_,Z,rF fU {kG hU5,_,Z,g5.under,_,_,Z,Z,hU5,?_,?_}⟩
    ·rw[bA,hur];exact eB h126 0e3
    have N6:=R5.set_under (M:=Mv) (u.runs++[{no:=t.no,day:=d,from_:=t.from_,to_:=t.to_,comes:=comesOf (t,d),list:=takenBy s t d,broken:=false}]);rw[eP,cQ,jP] at N6;have N6:Nx c Mv g5 H5 u g5 (upd H5 g5.under (.lst (53e9++[.ref (g5.run t.no d)]))) _:=N6;rw[hru] at N6;refine k g5 _ (NN.trans ((N5.mono (M:=Mv)).trans N6)) (gst u hst g5 e5 _ λr hr=>?_);rcases fE.mp hr with h|h
    ·exact .inl (by rw[<-hur];exact h)
    ·rw[eU.mp h];exact .inr 19e3
   ·have hem:(takenBy s t d).isEmpty=true:=by
     cases hz:takenBy s t d with
     |nil=>rfl
     |cons a r=>rw[hz] at e6;exact absurd rfl e6
    rw[aC hem] at k;exact k g5 _ (NN.trans N5.mono) (gst u hst g5 e5 _ λr hr=> .inl (by rw[<-hur];exact hr))
def ZZ(c:Cl):Sp:=λvs H Q _=>∃(g:G) (s:State) (e:NR) (tp:Addr),aO c g H {s with now:=e.time}/\Wf s/\Gh g s/\vs=[.ref g.house,.ref tp]/\H tp=some (.tup ((jU e).map .int))/\e∈eventsAhead s/\(∀f∈eventsAhead s,e.time<=f.time)/\1e2<3500000/\
 ∀g' H',Nx c Mv g H {s with now:=e.time} g' H' 21e0->Gh g' 21e0->Q .non H'
def PN:bU ["house","event","item"] ["house","event"] 107[0e1]:=0e6
def aKq(T:cA K mg c)(B:Bs K mg c base):cH P w K mg base 6 "happen" ["house","event"] (ZZ c):=by
 refine T.zy.ok PN 2e6 0e7 0e8
 ·obtain⟨g,s,e,tp,R,wf,gh,rfl,htp,he,hf,hm,k⟩:=h;rfl
 ·obtain⟨g,s,e,tp,R,wf,gh,rfl,htp,he,hf,hm,k⟩:=h;refine⟨_,(aN (bI (cK dA 1[3e0] (cP T.wn) (cJ _)) (aN (dC (bC (aCy T) 1e0 63e8))) (aN (bI (cK dA 1[3e0] (cP T.wp) (cJ _)) (aN (dC (bC (aGy T B) 1e0 63e8))) (aF (bZ (i:=2) PN.nd Z (bF Z) (BI (dO hr) 0[0e0] 1[3e0] 3e3))
   (aN (dC (bC (NS T) 1e0 (aA 2[6e6] 2[1e5])[7e7])))))))),?_⟩
  have wf':Wf {s with now:=e.time}:=wf.nowEv (wf.evTime he) hf;have gh':Gh g {s with now:=e.time}:=⟨gh.run,gh.new,gh.who⟩;rcases xT.mp he with⟨r,hrm,rfl⟩|⟨⟨t,d⟩,hrm,rfl⟩|⟨x,hxm,⟨o,ho⟩,rfl⟩
  ·rw[aFi wf hrm] at k;refine 58e9;obtain⟨⟨t,htm,e1,_⟩,hd,_⟩:=wf.runs.2 r hrm;have ht:tripOf {s with now:=r.comes} r.no=some t:=by rw[<-e1];exact iO 4e6 htm
   refine 57e5;have N2:=R.more (M:=Mv) (bD (o:= .tup [vi r.no,vi r.day]) hq);have R2:=N2.rep;refine{g.runs,_,Z,R2.get_run ht hd aR,g,_,r,R2,wf',gh',Z,hrm,hm,λg' H' N G'=>?_};exact k g' H' (N2.trans N.mono) G'
  ·rw[ZQ wf hrm] at k;refine 39e1;refine 58e9;obtain⟨htm,hd,hah⟩:=oW.mp hrm;have hng:(t.no,d)∉s.gone:=by unfold gA at hah;simp only[fF] at hah;simpa using hah.2.1
   have ht:tripOf {s with now:=depOf (t,d)} t.no=some t:=iO 4e6 htm;refine 57e5;have N2:=R.more (M:=Mv) (bD (o:= .tup [vi t.no,vi d]) hq);have R2:=N2.rep;refine{g.runs,_,Z,R2.get_run ht hd aR,g,_,t,d,R2,wf',gh',Z,htm,hd,hng,hm,λg' H' N G'=>?_};exact k g' H' (N2.trans N) G'
  ·rw[l5 wf hxm ho] at k;refine 39e1;refine 39e1;have hx:itemOf {s with now:=x.since+Vbpozz.KEEP} x.id=some x:=kJ wf.ids hxm;have hgi:=R.get_item 3e7;rw[SA,hx] at hgi;obtain⟨p,fp,hp⟩:=R.pl T.cs hx;have h1:p1 g x=(o:Int):=by unfold p1;rw[ho]
   rw[h1] at hp;have ho4:o<4:=by have:=(wf.ok (kJ wf.ids hxm)).2;unfold gH at this;rw[ho] at this;exact this.1
   refine⟨_,Z,rF "posted"[0e4] {_,Z,tp,_,_,_,Z,Z,7e4,Z,9e9,_,Z,hgi,?_}⟩;refine⟨_,Z,_,Z,rF fp {p,_,_,_,Z,Z,bW.of hp,Z,_,Z,g,_,o,x.id,x,R,Z,ho4,hx,?_,?_,λg' H' N e'=>?_}⟩
   ·exact eB (wf'.len20 (p:= .bin o) Z) 0e3
   ·exact qD hm 0e3
   ·exact k g' H' N.mono (gh'.stay e' (bP.sentBack _ o hx))
structure L4(c:Cl)(g:G)(H:Hp)(s:State)(t m:Nat)(g':G)(H':Hp)(u:State)(ev:V):Prop where
 nx:Nx c Mv g H s g' H' u
 gh:Gh g' u
 wf:Wf u
 mu:mu u=m
 go:∃n,m<n/\kR t 2000 s=kR t n u
 now:u.now<=t
 ms:u.messages.length+20 * m<=1e2+20 * PH.mu s
 ev:VT u ev H'
def a_(s:State)(e:NR):(happens s e).now=e.time:=by
 unfold yL;dsimp only;split
 ·split
  ·rfl
  ·exact(xD _ _ _).now
 ·split
  ·split
   ·rfl
   ·rw[wT];exact sV[1e7].2.2.2.1
  ·split
   ·rfl
   ·split
    ·unfold tG;split<;>rfl
    ·rfl
def aGe(c:Cl):Sp:=λvs H Q _=>∃(g:G) (s:State) (a:Addr) (t:Int),Gd c g H s/\vs=[.ref g.house,.ref a]/\fC c g H s a [t]/\dQ c g H s (act s (.on_ t)) Q
def AY:bU ["house","given","until","told","event"] ["house","given"] 105[0e1]:=0e6
def aId(T:cA K mg c)(B:Bs K mg c base):cH P w K mg base 7 "go_on" ["house","given"] (aGe c):=by
 refine T.vo.ok AY 2e6 0e7 0e8
 ·obtain⟨g,s,a,t',G,rfl,hg,k⟩:=h;rfl
 ·obtain⟨g,s,a,t',G,rfl,hg,k⟩:=h;obtain⟨qi,qf⟩:=T.qf;refine⟨_,(aF %[2,AY.nd|1e0]
   (aF (bC (lB T) 1e0 %[2,qf|0e8])[4e2]
   (aF (cK xR (pv 2) 0[0e0] (cJ _))[5e4]
   (aF (cK yA (pv 2) (eT sE 0[0e0] (cP T.yh)) (cJ _))[5e4]
   (aF (bZ (i:=3) AY.nd Z (bF Z) gQ[4e8])
   (aF 64e5
   (aF (OD kX (qM (gO (TF (pv 4))) (wU (cK xR 4[3e0] (pv 2) (cJ _)))).pt
     (aF (bS (pv 0) 4[3e0] Z)
       (aF (dC (bC (aKq T B) 1e0 %[0,4|0e2]))
       (aN 64e5))))
   (aF 2[4e5]
   (aN (aY (bH (aA (pv 2) (eT DD gQ[4e8] (pv 3))[2e2])))))))))))),?_⟩
  have R:=G.rep;refine qf.2.sq[21e2]
  ·have h:cF t' 0 40000=false:=by rw[%[t',40000|0e6]];simpa using e1
   rw[aCg h] at k;exact 3e0
  ·have h:cF t' 0 40000=true:=by rw[%[t',40000|0e6]];simpa using e1
   obtain⟨t,rfl⟩:=JD h;refine⟨_,Z,_,Z,rF "now"[0e4] {_,_,Z,Z,_,Z,6e7}⟩
   ·rw[aOe h (qJ e2)] at k;exact 3e0
   ·have h7:¬(t:Int)<17e5:=λz=>e2 (lJ z);refine⟨_,Z,_,Z,rF "now"[0e4] {_,_,Z,Z,_,_,Z,Z,_,Z,13e0}⟩
    ·rw[aMx h h7 (qJ e3)] at k;exact 3e0
    ·have h9:¬17e5+2880<(t:Int):=λz=>e3 (lJ z);rw[ZW h h7 h9] at k;obtain⟨l2,hM,e4⟩:=R.messages_l;refine 59e9;rw[e4];have hmu:=W1 G.wf;obtain⟨wg,_,hmg⟩:=Wf.goesOn 2000 G.wf (t:=t) 0e1 0e1;have hfew:=G.few;refine{_,Z,g,s,R,G.wf,Z,λH1 ev s1 hev=>?_};have W0:L4 c g H s t (mu s) g H1 s ev:={R.more s1,G.gh,G.wf,Z,⟨2000,4e2,Z⟩,4e2,bL _,hev};refine{λm U H'=>∃g' u ev,U=[some (.ref 3e9),some (.ref a),some (vi t),some (vi 1e2),some ev]/\L4 c g H s t m g' H' u ev,{mu s,g,s,ev,Z,W0},?_};rintro m U H2 ⟨g2,u,ev,rfl,W⟩;have R2:=W.nx.rep;have hh:g2.house=g.house:=W.nx.ad .house trivial rfl;have fin:nY u t=none->∀Hn,Nx c Mv g2 H2 u g2 Hn {u with now:=t}->∀p,Hn p=none->Q (.ref p) (upd Hn p (.lst [vi t,.int (43e6 - 22e6)])):=λhn Hn Nn p hp=>by
      obtain⟨n,hmn,hgo⟩:=W.go;rw[HY hn 0e1] at hgo;refine k.ret (W.nx.trans Nn) hgo.symm ⟨W.gh.run,W.gh.new,W.gh.who⟩ hp ?_;show[vi t,V.int _]=[V.int (t:Int),V.int 50e0];have hml:s.messages.length<=u.messages.length:=by have:=hmg;rw[hgo] at this;exact this
      rw[hgo];show[vi t,V.int (43e6 - 22e6)]=[V.int (t:Int),V.int 51e5];rw[show 51e5=43e6 - 22e6 by omega]
     obtain⟨wC1,wD1,wF1,wU1,wV1,wX1,wY1,N1⟩:=R2.w_now (M:=Mv) (P:=λH'=>Nx c Mv g2 H2 u g2 H' {u with now:=t}) T.cs (n:=t) λ_ n=>n;rw[hh] at wU1 N1;obtain⟨l3,hM3,e5⟩:=N1.rep.messages_l;have fM:=N1.rep.fh (f:="messages") T.cs rfl;rw[hh] at fM;rcases W.ev with⟨rfl,hemp⟩|⟨tp,e,rfl,htp,he,hb⟩
     ·refine{_,Z,_,Z,_,Z,_,Z,_,wC1,wD1,wF1,Z,wU1,wV1,wX1,wY1,_,Z,_,Z,59e5};rw[e5];exact fin (R_ hemp t) _ N1 p hp
     ·have hnx:=aHn he hb t;refine{_,Z,_,Z,_,Z,tp,_,_,_,Z,Z,7e4,Z,_,Z,_,_,Z,Z,_,Z,27e4}
      ·have het:e.time<t:=by have:=qJ e6;omega
       rw[aC het] at hnx;have hf:∀f∈eventsAhead u,e.time<=f.time:=λf hf=>KM (hb f hf);have hms:=W.ms;have hmm:=W.mu;refine{λU' H'=>∃m',m'<m/\∃g' u ev,U'=[some (.ref 3e9),some (.ref a),some (vi t),some (vi 1e2),some ev]/\L4 c g H s t m' g' H' u ev,λU' H' h=>h,?_};obtain⟨wC3,wD3,wF3,wU3,wV3,wX3,wY3,N3⟩:=R2.w_now (M:=Mv) (P:=λH'=>Nx c Mv g2 H2 u g2 H' {u with now:=e.time}) T.cs (n:=e.time) λ_ n=>n;rw[hh] at wU3 N3;refine{_,Z,tp,_,_,_,Z,Z,7e4,Z,_,Z,_,wC3,wD3,wF3,Z,wU3,wV3,wX3,wY3,_,Z,_,Z,g2,u,e,tp,N3.rep,W.wf,W.gh,by rw[hh];rfl,N3.tup R2 htp,he,hf,4e2,λg4 H4 N4 G4=>?_};have hh4:g4.house=g.house:=N4.ad[14e5].trans hh;have wf4:=W.wf.happens he hf;obtain⟨mu1,mu2⟩:=PD W.wf he hf;refine{_,Z,g4,happens u e,N4.rep,wf4,by rw[hh4];rfl,λH5 ev5 s5 hev5=>?_};refine{mu (happens u e),4e2,g4,happens u e,ev5,Z,W.nx.trans (N3.trans (N4.trans (N4.rep.more s5))),G4,wf4,Z,?_,by rw[a_];omega,4e2,hev5};obtain⟨n,hmn,hgo⟩:=W.go;obtain⟨n',rfl⟩:∃n',n=n'+1:={n - 1,4e2};rw[HE hnx] at hgo;exact⟨n',4e2,hgo⟩
      ·have het:¬e.time<t:=λz=>e6 (lJ 0e1);rw[aB het] at hnx;refine{_,Z,_,Z,_,wC1,wD1,wF1,Z,wU1,wV1,wX1,wY1,_,Z,_,Z,59e5};rw[e5];exact fin hnx _ N1 p hp
def K_(c:Cl):Sp:=λvs H Q _=>∃(g:G) (s:State) (a:Addr) (p:Int) (ns:List Int) (cl:rS),Gd c g H s/\vs=[.ref g.house,.int p,.ref a]/\cN p ns cl/\p<=15/\fC c g H s a ns/\dQ c g H s 15e2 Q
def u_:bU ["house","call","given"] ["house","call","given"] 137[0e1]:=0e6
def aKk(T:cA K mg c)(B:Bs K mg c base):cH P w K mg base 8 "do_call" ["house","call","given"] (K_ c):=by
 refine T.jx.ok u_ 7e5 0e7 0e8
 ·obtain⟨g,s,a,p,ns,cl,G,rfl,hc,h15,hg,k⟩:=h;rfl
 ·obtain⟨g,s,a,p,ns,cl,G,rfl,hc,h15,hg,k⟩:=h;refine⟨_,(aF aGz[2e1]
   (aF aAt[2e1]
   (aF aIt[2e1]
   (aF (bI 38e2 (aN (aY (bC (aId T B) 1e0 %[0,2|0e2]))) bO)
   (aF Z4[2e1]
   (aF f7[2e1]
   (aF aMy[2e1]
   (aF d9[2e1]
   (aF L_[2e1]
   (aF aOp[2e1]
   (aF aOh[2e1]
   (aF Y9[2e1]
   (aF aKl[2e1]
   (aF aAc[2e1]
   (aF aBo[2e1]
   (aN (aY %[z_,0|0e5]))))))))))))))))),?_⟩
  cases hc with
  |trip n a' b dep dur cap=>refine 3e6;exact{_,Z,_,Z,g,s,a,n,a',b,dep,dur,cap,G,Z,hg,k}
  |cancel n d=>refine 0e0;refine 3e6;exact %[n,d|1e5]
  |post o x q p' h' r v cc f'=>refine 0e0;refine 0e0;refine 3e6;exact{_,Z,_,Z,g,s,a,o,x,q,p',h',r,v,cc,f',G,Z,hg,k}
  |on_ t=>refine 0e0;refine 0e0;refine 0e0;refine 3e6;exact t[5e5]
  |lose x b=>refine 0e0;refine 0e0;refine 0e0;refine 0e0;refine 3e6;exact %[x,b|1e5]
  |check o=>refine 0e0;refine 0e0;refine 0e0;refine 0e0;refine 0e0;refine 3e6;exact o[5e5]
  |found o x=>refine 0e0;refine 0e0;refine 0e0;refine 0e0;refine 0e0;refine 0e0;refine 3e6;exact %[o,x|1e5]
  |pass o n=>refine 0e0;refine 0e0;refine 0e0;refine 0e0;refine 0e0;refine 0e0;refine 0e0;refine 3e6;exact %[o,n|1e5]
  |out o=>refine 0e0;refine 0e0;refine 0e0;refine 0e0;refine 0e0;refine 0e0;refine 0e0;refine 0e0;refine 3e6;exact o[5e5]
  |hand x w'=>refine 0e0;refine 0e0;refine 0e0;refine 0e0;refine 0e0;refine 0e0;refine 0e0;refine 0e0;refine 0e0;refine 3e6;exact %[x,w'|1e5]
  |pickup x=>refine 0e0;refine 0e0;refine 0e0;refine 0e0;refine 0e0;refine 0e0;refine 0e0;refine 0e0;refine 0e0;refine 0e0;refine 3e6;exact x[5e5]
  |tell k' o=>refine 0e0;refine 0e0;refine 0e0;refine 0e0;refine 0e0;refine 0e0;refine 0e0;refine 0e0;refine 0e0;refine 0e0;refine 0e0;refine 3e6;exact %[k',o|1e5]
  |payout k'=>refine 0e0;refine 0e0;refine 0e0;refine 0e0;refine 0e0;refine 0e0;refine 0e0;refine 0e0;refine 0e0;refine 0e0;refine 0e0;refine 0e0;refine 3e6;exact k'[5e5]
  |claim x=>refine 0e0;refine 0e0;refine 0e0;refine 0e0;refine 0e0;refine 0e0;refine 0e0;refine 0e0;refine 0e0;refine 0e0;refine 0e0;refine 0e0;refine 0e0;refine 3e6;exact x[5e5]
  |giveBack x=>refine 0e0;refine 0e0;refine 0e0;refine 0e0;refine 0e0;refine 0e0;refine 0e0;refine 0e0;refine 0e0;refine 0e0;refine 0e0;refine 0e0;refine 0e0;refine 0e0;refine 3e6;exact x[5e5]
  |settle=>refine 0e0;refine 0e0;refine 0e0;refine 0e0;refine 0e0;refine 0e0;refine 0e0;refine 0e0;refine 0e0;refine 0e0;refine 0e0;refine 0e0;refine 0e0;refine 0e0;refine 0e0;exact 27e6
  |item x=>exact 3e2
  |office o=>exact 3e2
  |said o x=>exact 3e2
  |knows o=>exact 3e2
  |way o t q=>exact 3e2
  |latest o q t=>exact 3e2
  |account p'=>exact 3e2
  |losses=>exact 3e2
  |orders=>exact 3e2
  |runs=>exact 3e2
  |back n=>exact 3e2
  |counts=>exact 3e2
def oT(h:LN cl=true)(hb:∀n,cl≠ .back n):iB s cl=act s cl:=by
 have:iB s cl=tM s cl:=by cases cl<;>first|rfl|exact absurd rfl (hb _)
 rw[this];unfold tM;dsimp only;rw[aC (.inl h)]
def aCj(c:Cl):Sp:=λvs H Q _=>∃(g:G) (s:State) (a:Addr) (p:Int) (ns:List Int) (cl:rS),Gd c g H s/\7e9<=1000/\vs=[.ref g.house,.int p,.ref a]/\cN p ns cl/\15<p/\fC c g H s a ns/\dQ c g H s 12e5 Q
def v8:bU ["house","call","given"] ["house","call","given"] 138[0e1]:=0e6
def aJy(T:cA K mg c):cH P w K mg base 5 "ask" ["house","call","given"] (aCj c):=by
 refine T.vz.ok v8 7e5 0e7 0e8
 ·obtain⟨g,s,a,p,ns,cl,G,hlog,rfl,hc,h15,hg,k⟩:=h;rfl
 ·obtain⟨g,s,a,p,ns,cl,G,hlog,rfl,hc,h15,hg,k⟩:=h;refine⟨_,(aF aJw[2e1]
   (aF aOq[2e1]
   (aF YZ[2e1]
   (aF aAa[2e1]
   (aF aNk[2e1]
   (aF aJq[2e1]
   (aF ZJ[2e1]
   (aF G_[17e8]
   (aF aCn[17e8]
   (aF y9[17e8]
   (aF aNy[2e1]
   (aN (aY %[aBm,0|0e5]))))))))))))),?_⟩
  cases hc with
  |trip n a' b dep dur cap=>exact 3e2
  |cancel n d=>exact 3e2
  |post o x q p' h' r v cc f'=>exact 3e2
  |on_ t=>exact 3e2
  |lose x b=>exact 3e2
  |check o=>exact 3e2
  |found o x=>exact 3e2
  |pass o n=>exact 3e2
  |out o=>exact 3e2
  |hand x w'=>exact 3e2
  |pickup x=>exact 3e2
  |tell k' o=>exact 3e2
  |payout k'=>exact 3e2
  |claim x=>exact 3e2
  |giveBack x=>exact 3e2
  |settle=>exact 3e2
  |item x=>rw[oT (s:=s) (cl:= .item x) rfl (λ_ z=>10e1)] at k;refine 3e6;exact x[5e5]
  |office o=>rw[oT (s:=s) (cl:= .office o) rfl (λ_ z=>10e1)] at k;refine 0e0;refine 3e6;exact o[5e5]
  |said o x=>rw[oT (s:=s) (cl:= .said o x) rfl (λ_ z=>10e1)] at k;refine 0e0;refine 0e0;refine 3e6;exact %[o,x|1e5]
  |knows o=>rw[oT (s:=s) (cl:= .knows o) rfl (λ_ z=>10e1)] at k;refine 0e0;refine 0e0;refine 0e0;refine 3e6;exact o[5e5]
  |way o t q=>rw[oT (s:=s) (cl:= .way o t q) rfl (λ_ z=>10e1)] at k;refine 0e0;refine 0e0;refine 0e0;refine 0e0;refine 3e6;exact{_,Z,_,Z,g,s,a,o,t,q,G,Z,hg,k}
  |latest o q t=>rw[oT (s:=s) (cl:= .latest o q t) rfl (λ_ z=>10e1)] at k;refine 0e0;refine 0e0;refine 0e0;refine 0e0;refine 0e0;refine 3e6;exact{_,Z,_,Z,g,s,a,o,q,t,G,Z,hg,k}
  |account p'=>rw[oT (s:=s) (cl:= .account p') rfl (λ_ z=>10e1)] at k;refine 0e0;refine 0e0;refine 0e0;refine 0e0;refine 0e0;refine 0e0;refine 3e6;exact p'[5e5]
  |losses=>rw[oT (s:=s) (cl:= .losses) rfl (λ_ z=>10e1)] at k;refine 0e0;refine 0e0;refine 0e0;refine 0e0;refine 0e0;refine 0e0;refine 0e0;refine 3e6;exact 27e6
  |orders=>rw[oT (s:=s) (cl:= .orders) rfl (λ_ z=>10e1)] at k;refine 0e0;refine 0e0;refine 0e0;refine 0e0;refine 0e0;refine 0e0;refine 0e0;refine 0e0;refine 3e6;exact 27e6
  |runs=>rw[oT (s:=s) (cl:= .runs) rfl (λ_ z=>10e1)] at k;refine 0e0;refine 0e0;refine 0e0;refine 0e0;refine 0e0;refine 0e0;refine 0e0;refine 0e0;refine 0e0;refine 3e6;exact 27e6
  |back n=>refine 0e0;refine 0e0;refine 0e0;refine 0e0;refine 0e0;refine 0e0;refine 0e0;refine 0e0;refine 0e0;refine 0e0;refine 3e6;exact{_,Z,_,Z,g,s,a,n,G,hlog,Z,hg,k}
  |counts=>rw[oT (s:=s) (cl:= .counts) rfl (λ_ z=>10e1)] at k;refine 0e0;refine 0e0;refine 0e0;refine 0e0;refine 0e0;refine 0e0;refine 0e0;refine 0e0;refine 0e0;refine 0e0;refine 0e0;exact 27e6
def aCu(c:Cl):Sp:=λvs H Q _=>∃(g:G) (s:State) (a:Addr) (p:Int) (ns:List Int) (cl:rS),Gd c g H s/\Jn s/\7e9<=1000/\vs=[.ref g.house,.int p,.ref a]/\cN p ns cl/\fC c g H s a ns/\dQ c g H s 12e5 Q
def aOs(h:LN cl=false):iB s cl=tM s cl:=by cases cl<;>first|rfl|cases h
def O0:bU ["house","call","given","answer"] ["house","call","given"] 136[0e1]:=0e6
def aBw(T:cA K mg c)(B:Bs K mg c base):cH P w K mg base 9 "answer_call" ["house","call","given"] (aCu c):=by
 refine T.vq.ok O0 7e5 0e7 0e8
 ·obtain⟨g,s,a,p,ns,cl,G,jn,hlog,rfl,hc,hg,k⟩:=h;rfl
 ·obtain⟨g,s,a,p,ns,cl,G,jn,hlog,rfl,hc,hg,k⟩:=h;refine⟨_,(aF (bI (cK yA (pv 1) (cP T.qae) (cJ _)) (aN (aY %[aJy,1|1e4])) bO)
   (aF (bZ (i:=3) O0.nd Z (bF Z) (bC (aKk T B) 1e0 (aA (pv 0) %[1,2|0e2])))
   (aF (bI (cK RP (aW bG (pv 3) aM 3e3) aM (cJ _)) (aN (dC %[YN,0|0e5])) bO)
   (aN (aY (pv 3)))))),?_⟩
  refine{_,Z,_,_,Z,Z,_,Z,4e1}
  ·have h15:15<p:=qJ e1;exact{_,Z,_,Z,_,Z,g,s,a,p,ns,cl,G,hlog,Z,hc,h15,hg,k}
  ·have h15:p<=15:=by have:¬15<p:=λz=>e1 (lJ z);omega
   have hask:LN cl=false:=by rw[hc.asks];exact nK 0e1
   rw[aOs hask] at k;refine{_,Z,_,Z,_,Z,g,s,a,p,ns,cl,G,Z,hc,h15,hg,λg1 H1 q N1 G1 hq0 hq hqn=>?_};refine{_,Z,q,_,_,_,Z,Z,aJ.of hq,(show gY ((iV (15e2).2).map V.int) 0=some (.int (15e2).2.value) from sT (j:=0) Z),_,_,Z,Z,_,Z,6e7}
   ·have hv:0<=(15e2).2.value:=qJ e2;have hlg:tM s cl=({(act s cl).1 with log:=(act s cl).1.log++[cl]},(15e2).2):=by
     unfold tM;dsimp only;rw[aB];rintro(z|z)
     ·rw[hask] at z;cases z
     ·omega
    rw[hlg] at k;have hl1:(act s cl).1.log=s.log:=JU s cl;have hh:g1.house=g.house:=N1.ad .house trivial rfl;have hst:mG (15e2).1=mG (mR ((15e2).1.log++[cl])):=by rw[hl1,UC,jn,hlg];rfl
    refine{_,Z,g1,(15e2).1,cl,N1.rep,by rw[hh];rfl,hst,by rw[hl1];exact eB hlog 0e3,λg2 H2 N2 e3=>?_};refine{_,Z,k g2 H2 q (N1.trans N2.mono) (G1.stay e3 9e4) hq0 (N2.keep q _ hq hqn) (N2.own hq[4e9] hqn)}
   ·have hv:(act s cl).2.value<0:=by have:¬0<=(15e2).2.value:=λz=>e2 (lJ z);omega
    have hlg:tM s cl=act s cl:=by unfold tM;dsimp only;rw[aC (.inr hv)]
    rw[hlg] at k;exact{_,Z,k g1 H1 q N1 G1 hq0 hq hqn}
def pR(K:aP)(c:Cl)(g:G)(H:Hp)(s:State)(a:Addr)(xs:List V):Prop:=(∃o,H a=some o/\(∀H':Hp,H' a=some o->aJ K H' a xs)/\∀l,cE s l->ad c g l≠a)\/∀H':Hp,aJ K H' a xs
section
variable{K:aP}{c:Cl}{M:dF->Bool}{g g':G}{H H':Hp}{s s':State}{a:Addr}{xs:List V}
def pR.sq(h:pR K c g H s a xs):aJ K H a xs:=by
 rcases h with⟨o,h1,h2,_⟩|h
 ·exact h2 H h1
 ·exact h H
def pR.next(h:pR K c g H s a xs)(N:Nx c M g H s g' H' s'):pR K c g' H' s' a xs:=by
 rcases h with⟨o,h1,h2,h3⟩|h
 ·exact .inl {o,N.keep a o h1 h3,h2,N.own h1[4e9] h3}
 ·exact .inr h
def pR.upd(h:pR K c g H s a xs)(hD:H D=none\/D≠a):pR K c g D[4e1] s a xs:=by
 rcases h with⟨o',h1,h2,h3⟩|h
 ·have hne:a≠D:=by
   rcases hD with hD|hD
   ·exact cV h1 hD
   ·exact fK hD
  exact .inl {o',by rw[aS hne];exact h1,h2,h3}
 ·exact .inr h
def aO.upd_own(R:aO c g H s)(hD:H D=some (.lst zs))(hn:∀l,cE s l->ad c g l≠D):aO c g D[4e1] s:=
 have kt:∀b o',H b=some o'->zR o'=false->upd H D o b=some o':=λb o' hb hno=>by
  rw[aS]
  ·exact hb
  ·intro z;rw[z,hD] at hb;cases hb;cases hno
 ⟨λl hl=>(R.cell l hl).keep (aS (hn l hl)) kt,R.inj,R.sh,R.ld⟩
end
def aBq(xs:List V){i j:Nat}(h1:i<=j)(h2:j<=1e9):nE xs (some (i:Int)) (some (j:Int))=(xs.drop i).take (j - i):=by unfold nE;rw[HT.sIx_nat,HT.sIx_nat,GL (cI h1 h2),GL h2]
structure JY(K:aP)(c:Cl)(a:Addr)(l:List Int)(ks:List rS)(x D:Addr)(m pl:Nat)(g:G)(H:Hp)(s:State):Prop where
 rep:aO c g H s
 gh:Gh g s
 ex:∃(n:Nat) (ks':List rS) (acc:List Int),rB n s/\n+ks'.length=ks.length/\m=ks'.length/\Ln (l.drop pl) ks'/\mY c g H s D (acc.map .int)/\acc++tl s ks'=tl nN ks/\17e9<=7001 * n
 pl:pl<=2e9
 arg:pR K c g H s a 20e8
 ne:D≠a\/∀H':Hp,aJ K H' a 20e8
 hx:g.house=x
def T2(K:aP)(c:Cl):Sp:=λvs H Q _=>∃(a:Addr) (l:List Int) (ks:List rS),vs=[.ref a]/\((∃o,H a=some o/\(∀H':Hp,H' a=some o->aJ K H' a 20e8)/\a≠c.tab)\/∀H':Hp,aJ K H' a 20e8)/\Ln l ks/\ks.length<=400/\cO H c.tab .tab/\
 ∀H' p,H' p=some (.lst ((tl nN ks).map .int))->Q (.ref p) H'
def uN:bU ["calls","house","answered","place","end","answer"] ["calls"] 135[0e1]:=0e6
def J_(T:cA K mg c)(B:Bs K mg c base){f:Addr}{fd:mO}(F:sZ K "answers" "answers" (aV 135) f fd):mB P w K mg base kL 10 f fd ["calls"] (T2 K c):=by
 refine F.ok uN 0e7 (λcdv A outer sh H vs Q E hr h=>?_)
 ·obtain⟨a,l,ks,rfl,ha,hln,h400,ht,k⟩:=h;rfl
 ·obtain⟨a,l,ks,rfl,ha,hln,h400,ht,k⟩:=h;obtain⟨qaf,qr⟩:=T.qr;refine⟨_,(aF (bZ (i:=1) uN.nd Z (bF Z) (PZ (PP T) 1e0))
   (aF (bZ (i:=2) uN.nd Z (bF Z) (bH aD))
   (aF (bZ (i:=3) uN.nd Z (bF Z) aM)
   (aF (OD kX (cK xR (pv 3) 0[7e4] (cJ _))
     (aF (bZ (i:=4) uN.nd Z (bF Z) (eT sE (eT sE (pv 3) aM) (aW eJ (gM qr) (aW bG (pv 0) (pv 3) 3e3) 3e3)))
       (aF (bZ (i:=5) uN.nd Z (bF Z) (bC (aBw T B) 1e0 (aA (pv 1) (aA (aW bG (pv 0) (pv 3) 3e3) (yG yE (pv 0) (uR (eT sE (pv 3) aM)) (uR (pv 4)))[2e2]))))
       (aF (dC (kH lK wK wL sR (pv 2) (aA 5[7e4] aD)))
       (aF (dC (kH lK XV XW L5 (pv 2) 5[1e5]))
       (aN (bZ (i:=3) uN.nd Z (bF Z) (pv 4))))))))
   (aN (aY (pv 2))))))),?_⟩
  refine λx dx nx nd hd=>⟨x,dx,Z,aR,?_,λnw H1 hx keep new Rn=>{Z,?_}⟩
  ·exact ht.keep (by
    obtain⟨o,ho,_⟩:=ht.isObj;rw[aS (cV ho nx),aS (cV ho nd)]) λb o hb' _=>by rw[aS (cV hb' nx),aS (cV hb' nd)];exact hb'
  have s1:aU H H1:=λy o e=>keep y o (by rw[nx[3e4],nd[3e4]];exact e) (cV e nx);refine{dN _,λD hD=>?_};have sD:=bD (o:= .lst []) hD;have R1:=Rn.other sD;have hnew:∀lo,cE nN lo->lo≠ .tab->H (ad c nw.g lo)=none:=λlo hlo hne=>by
   have hm:=fS (BA (c:=c) nw hlo hne).1;by_cases e:ad c nw.g lo=x
   ·rw[e];exact nx
   ·have h0:=new _ hm e;cases z:H (ad c nw.g lo) with
    |none=>rfl
    |some u=>
     rw[aS e,aS,z] at h0
     ·cases h0
     ·intro zz;rw[zz,nd] at z;cases z
  have arg1:pR K c nw.g H1[6e3] nN a 20e8:=by
   rcases ha with⟨o,h1,h2,h3⟩|h
   ·refine .inl {o,sD _ _ (s1 _ _ h1),h2,λlo hlo z=>?_};by_cases e:lo= .tab
    ·subst e;exact h3 z.symm
    ·rw[<-z,hnew lo hlo e] at h1;cases h1
   ·exact .inr h
  have ne1:D≠a\/∀H':Hp,aJ K H' a 20e8:=by
   rcases ha with⟨o,h1,_⟩|h
   ·exact .inl λz=>by rw[z,s1 _ _ h1] at hD;cases hD
   ·exact .inr h
  have gh0:Gh nw.g nN:={(λr hr=>by cases hr),(λ_ _ _=>Z),(λi hi=>by cases hi)};have W0:JY K c a l ks x D ks.length 0 nw.g H1[6e3] nN:={R1,gh0,{0,ks,[],I_,4e2,Z,by rw[List.drop_zero];exact hln,{aR,Rn.fresh hD},Z,dN _},dN _,arg1,ne1,hx};refine{λm U H'=>∃pl v4 v5 g s,U=[some (.ref a),some (.ref x),some (.ref D),some (vi pl),v4,v5]/\JY K c a l ks x D m pl g H' s,⟨ks.length,0,none,none,nw.g,nN,Z,W0⟩,?_};rintro m U H2 ⟨pl,v4,v5,g,s,rfl,W⟩;obtain⟨n,ks',acc,hfew,hn,hm,hl',hO,hacc,hal⟩:=W.ex;have hsq:=W.arg.sq;refine{_,Z,_,Z,a,_,Z,.inl hsq,_,_,Z,Z,_,Z,?_};rw[bA];refine 4e1
  ·have hlt:pl<l.length:=by have:=qJ e1;omega
   have hdl:(l.drop pl).length=l.length - pl:=tQ ..;generalize hdr:l.drop pl=dr at hl' hdl;cases hl' with
   |nil=>exact absurd hdl (by show ¬0=_;omega)
   |@cons p ns r cl cs hc hl2=>
    have hp0:l[pl]? =some p:=by have:=dB (λz=>z[0]?) hdr;simpa using this
    have at1:gY (l.map V.int) (pl:Int)=some (.int p):=sT (by rw[dW,hp0];rfl);have at2:gY (([6,2,9,1,2,1,2,2,1,2,1,2,1,1,1,0,1,1,2,1,3,3,1,0,0,0,1,0]:List Int).map V.int) p=some (.int 36e2):=by cases hc<;>rfl
    have hlen:pl+1+15e3<=l.length:=by rw[eD,dU] at hdl;omega
    have hdr1:l.drop (pl+1)=ns++r:=by rw[<-List.drop_drop,hdr];rfl
    have hdr2:l.drop (pl+1+15e3)=r:=by rw[<-List.drop_drop,hdr1,List.drop_left]
    have hend:(pl:Int)+1+36e2=((pl+1+ns.length:Nat):Int):=by omega
    have hcut:nE (l.map V.int) (some ((pl:Int)+1)) (some ((pl:Int)+1+36e2))=ns.map V.int:=by rw[hend,show(pl:Int)+1=((pl+1:Nat):Int) by omega,aBq _ 0e1 %[bA,hlen|0e0],<-NP,hdr1,show pl+1+ns.length - (pl+1)=ns.length by omega,<-Y2,List.take_left]
    have hn1:n+1<=400:=by rw[eD] at hn;omega
    have hGd:∀H',aO c g H' s->Gd c g H' s:=λH' R'=>{R',hfew.wf,W.gh,by have:=hfew.msgs;omega,cI hfew.los 0e1,cI hfew.ord 0e1};refine{λU' H'=>∃m',m'<m/\∃pl v4 v5 g s,U'=[some (.ref a),some (.ref x),some (.ref D),some (vi pl),v4,v5]/\JY K c a l ks x D m' pl g H' s,λU' H' h=>h,?_};refine{_,Z,_,_,Z,Z,_,Z,_,Z,a,_,_,_,Z,Z,hsq,at1,qaf,_,_,_,Z,Z,qr.2.sq _,at2,_,_,Z,Z,?_};refine{_,Z,_,Z,_,Z,a,_,_,_,Z,Z,hsq,at1,_,Z,_,Z,_,_,Z,Z,_,Z,_,Z,_,Z,a,_,Z,hsq,λq hq=>?_};rw[hcut];have sq:=bD (o:= .lst 14e5) hq;have Rq:=W.rep.other sq;have hOq:mY c g (upd H2 q (.lst 14e5)) s D (acc.map .int):={sq _ _ hO.1,hO.2};have hfs:=hfew.step cl;have hfl:fl (12e5).2<=7000:=hfew.fl 0e1 cl;refine{g,s,q,p,ns,cl,hGd _ Rq,hfew.jn,cI hfew.log 0e1,by rw[W.hx];rfl,hc,{aR,W.rep.fresh hq},λg3 H3 r' N3 G3 hr0 hr3 hrn=>?_};have hO3:=hOq.next N3;have hh3:g3.house=x:=N3.ad[14e5].trans W.hx;have hrD:r'≠D:=λz=>by rw[z,hOq.1] at hr0;cases hr0
    have harg3:=(W.arg.upd (o:= .lst 14e5) (.inl hq)).next N3
    have hfl':(iV (12e5).2).length=fl (12e5).2:=rfl;refine{_,Z,kG hO3.1,_,Z,r',_,Z,hr3[2e9],D,_,_,Z,Z,hO3.1,?_,?_}
    ·rw[bA];exact eB (cI hal (by omega:7001 * n<=3000000)) 0e3
    have hr4:(upd H3 D (.lst 49e5)) r'=some (.lst ((iV (12e5).2).map V.int)):=by rw[aS hrD];exact hr3
    refine{_,Z,kG aR,_,Z,D,r',_,_,Z,Z,aR,hr4,?_,?_}
    ·rw[dU,bA,bA,eD,rQ,hfl'];exact cI (by omega:acc.length+1+fl (12e5).2<=3000000) 0e3
    rw[aBy];have R4:=N3.rep.upd_own (o:= .lst (49e5++(iV (12e5).2).map V.int)) hO3.1 hO3.2;refine{_,Z,?_};refine{cs.length,by rw[hm,eD];omega,pl+1+15e3,_,_,g3,(12e5).1,by rw[show vi (pl+1+15e3)=V.int ((pl:Int)+1+36e2) from dB V.int hend.symm];rfl,?_};have ne':=W.ne;refine{R4,G3,{n+1,cs,acc++[((fl (12e5).2:Nat):Int)]++iV (12e5).2,hfs,by rw[eD] at hn;omega,Z,by rw[hdr2];exact hl2,{?_,hO3.2},?_,?_},hlen,?_,ne',hh3}
    ·rw[aR,eP,eP,bA];rfl
    ·rw[<-hacc,BU,BU];rfl
    ·rw[dU,dU,eD,rQ,hfl'];omega
    ·rcases ne' with h|h
     ·exact harg3.upd (.inr h)
     ·exact .inr h
  ·have hge:l.length<=pl:=by have:¬(pl:Int)<34e6:=λz=>e1 (lJ z);omega
   have hnil:ks'=[]:=by rw[NK hge] at hl';cases hl';rfl
   rw[hnil] at hacc;have hacc:acc=tl nN ks:=by rw[<-hacc];exact(iP _).symm
   exact{_,Z,k _ D (by rw[<-hacc];exact hO.1)}
open PySem.W (WData Codec OpenSpec Well WellAll ReadsW ReadsAllW)
def xF(K:aP)(mg:Str->Option Value)(h:Heap)(tab:Addr):Prop:=CW mg h/\∃c0,CQ h c0 tab/\∀(f:Addr) (oc:Value) (od:Option Addr) (osl:Array (Option Value)) (fd:mO),mg "items_for"=some (.ref f)->K.lookup f=some fd[8e1]->fd.code= .ref c0
section
variable{P:bN}{w:bK}{K:aP}{mg mb:Str->Option Value}{k:Nat}{fa tab:Addr}{fd:mO}{ps:List Str}{sp:Sp}{s:aI}{vals:List Value}{ds:List fW}{R:aRd}{cl:Str->Option Addr}{d0:fW}
def i_(KX:K.In 0e2)(hns:s.heap.Ns 2e8 mg)(hb:s.heap.Ns FH mb)(hbb:∀x:Str,x≠"__name__"->mb x=tU x)(hlim:s.heap.NoLimit)(hg:s.gens=#[])
 (hwl:rR w.params 0e2 vals ds) (hpl:oC ds=true) (hwt:∀d∈ds,d.weight<=1048576) (hr:dX k GN)
 (hT:s.heap.get? tab=some {cls:= .none,data:= .fields #[]}) (hCT:isCodeTable 0e2 tab) (hKt:K.lookup tab=none) (hL:xF K mg 0e2 tab)
 (F:∀base:Heap,K.In base->base.Ns 2e8 mg->xF K mg base tab->mB P w K mg base kL k fa fd ps sp)
 (hbind:∀(s:aI) (us:List Value),15e6=ps.length->FQ s fd {us,[]} 13e5) (hlen:ds.length=15e5)
 (hsp:∀(H:Hp) (xs:List V),DT H->H tab=none->oY K H xs ds->sp xs H[7e9] (λv H'=>Dw K H' v d0) λ_ _ _=>False):
 tW (aZ P w) GN (.call (.ref fa) {vals,[]}) (λr s'=>∃u as,r= .ok (.ret u)/\qH R cl 11e1 u d0 as/\OldK 0e2 11e1/\s'.os=s.os/\yP s'.gens) s:=by
 obtain⟨A,ho,ar⟩:=E1 ds vals hwl hpl hwt;have onl:DT (kD K 0e2 A):=aLb ar;have ok0:eE P w (kD K 0e2 A) s.heap:=aFd ar;have hS:=D9 KX ar ds vals hwl hpl ho;have hV:=xJ ho;have seqs:∀{b:Addr} {u:HO},kD K 0e2 A b=some u->K.lookup b=none/\∃o vs n,s.heap.get? b=some o/\o.data= .seq vs n:=λ{b u} q=>by
  obtain⟨h1,vs,_,_,⟨e,_⟩|⟨e,_⟩⟩:=GV ar q
  ·exact{h1,_,_,_,e,Z}
  ·exact{h1,_,_,_,e,Z}
 generalize kD K 0e2 A=H0 at onl ok0 hS seqs;have noseq:∀{b:Addr} {o:Obj},s.heap.get? b=some o->(∀vs n,o.data≠ .seq vs n)->H0 b=none:=λ{b o} e hn=>by
  cases q:H0 b with
  |none=>rfl
  |some u=>obtain⟨_,o',vs,n,e',d'⟩:=seqs q;rw[e] at e';cases e';exact absurd d' (hn vs n)
 have t0:H0 tab=none:=noseq hT λvs n z=>by cases z
 have sm:aU H0 H0[7e9]:=bD t0;have ok1:eE P w H0[7e9] s.heap:=λb u q=>by
  by_cases e:b=tab
  ·subst e;rw[aR] at q;cases q;exact hT
  ·rw[aS e] at q;exact(ok0 b u q).stay (λ_ _ _ z=>z) (λd z=>sm _ _ z) λd xs z=>sm _ _ z
 have free:∀{b:Addr},H0 b=none->b≠tab->upd H0 tab (.tbl #[]) b=none:=λn e=>by rw[aS e];exact n
 have ground:∀{b:Addr} {o:Obj},s.heap.get? b=some o->(∀vs n,o.data≠ .seq vs n)->b≠tab->(26e0).get? b=some o:=λe n ne=>PJ e (free (noseq e n) ne);have nsTo:∀{b:Addr} {m:Str->Option Value},s.heap.Ns b m->(26e0).Ns b m:=λ{b m} ⟨o,es,ep,e,d,r⟩=>{o,es,ep,ground e d[16e9] (λz=>by rw[z,hT] at e;cases e;cases d),d,r}
 have keepK:∀b o,K.lookup b=some o->upd H0 tab (.tbl #[]) b=none:=λb o e=>by
  have hne:b≠tab:=λz=>by rw[z,hKt] at e;cases e
  rw[aS hne];cases q:H0 b with
  |none=>rfl
  |some u=>rw[(seqs q).1] at e;cases e
 have baseK:K.In 26e0:=λb o e=>PJ KX[2e0] keepK[2e0];have baseM:Mod K mg 26e0:={baseK,nsTo hns,{mb,nsTo hb,hbb},let⟨mc,h1,h2⟩:=hlim;⟨mc,nsTo h1,h2⟩};have baseL:xF K mg 26e0 tab:=by obtain⟨⟨bm,ob,b1,b2,b3,b4,b5,b6⟩,c0,⟨o,vs,file,tf,flags,tg,inF,text,tt,e1,e2,e3,e4⟩,e5⟩:=hL;refine⟨{bm,ob,b1,b2,ground b3 b6[16e9] (λz=>by rw[z,hT] at b3;cases b3;cases b4),b4,b5,b6},c0,{o,vs,file,tf,flags,tg,inF,text,tt,ground e1 e3[16e9] (λz=>by rw[z,hT] at e1;cases e1;cases e2),e2,e3,e4},e5⟩
 have env:pK P w K mg 26e0 GN [] s H0[7e9]:={Z,baseM,λb o e=>aFg e,iH (aLv _ _),trivial,λb z=>absurd 41e3 0e5,ok1,.of_eq hg};have lens:vals.length=ps.length:=by rw[EK hwl];exact hlen
 refine C5 ((F _ baseK (nsTo hns) baseL).run GN [] s H0[7e9] {vals,[]} vals (vals.map kP) _ _ hr env (hbind s vals lens) hV (hsp H0 _ onl t0 hS)) λr s' x=>?_;cases r with
 |error e=>exact iI x
 |ok fl=>
  cases fl with
  |next=>exact iI x
  |brk=>exact iI x
  |cont=>exact iI x
  |ret u=>
   obtain⟨v,H',os,bare,un,ok',r',q⟩:=x;have plain:∀b o,s.heap.get? b=some o->b≠tab->s'.heap.get? b=some o:=λb o e ne=>by
    cases q2:H0 b with
    |none=>exact un.keep b o e (free q2 ne) (by intro z;exact absurd 41e3 0e5) 0e5
    |some u2=>
     rcases onl b with z|⟨ob,u3,z⟩
     ·rw[q2] at z;cases z
     ·have z2:=un.frzs b ob _ (sm _ _ z);obtain⟨e1,_⟩:=ok0 b _ z;obtain⟨e2,_⟩:=ok' b _ z2;rw[e] at e1;cases e1;exact e2
   obtain⟨more,ht'⟩:=un.tbls tab #[] aR;have gt':s'.heap.get? tab=some {cls:= .none,data:= .fields (#[]++more)}:=ok' tab _ ht';have KX':K.In s'.heap:=λb o e=>plain b o KX[2e0] λz=>by rw[z,hKt] at e;cases e
   obtain⟨as,hrd⟩:=Dw.reads (R:=R) (cl:=cl) ok' KX' d0 v u q r';refine{u,as,Z,hrd,{λb o e=>?_,λb o e=>?_},os,bare}
   ·by_cases z:b=tab
    ·subst z;rw[hT] at e;cases e;exact .inr (.inl {hCT,Z,#[],more,Z,gt'})
    ·exact .inl (plain b o e z)
   ·by_cases z:b=tab
    ·exact{_,z▸gt'}
    ·exact{o,plain b o e z}
end
def aSp{r:MX}{k:Nat}{q:bN}{loose:List Str}{XP:(Str->Option Value)->Heap->Prop}{YP:bK->Heap->Prop}{d:DefRec}{K:wH->aP}{ps:List Str}{sp:aP->Addr->Sp}
 (hwell:r.wellSaid=true) (hlen:r.args.length=15e5) (hr:dX k GN) (hY:∀(w:bK) (h:Heap),YP w h->(14e9).In h) (hrec:((recsOf q).any λe=>e.name==("items_for":Str))=true) (hcl:∀w:bK,PySem.W.kb_classed 14e9=true)
 (F:∀(w:bK) (mg:Str->Option Value) (fa:Addr) (h:Heap),YP w h->(14e9).In h->h.Ns 2e8 mg->mg d.name=some (.ref fa)->
   ∃fd:mO,(∀(s:aI) (us:List Value),15e6=ps.length->FQ s fd {us,[]} 13e5)/\
    ∀(tab:Addr) (base:Heap),(14e9).In base->base.Ns 2e8 mg->xF 14e9 mg base tab->mB r.prog w 14e9 mg base kL k fa fd ps (sp 14e9 tab))
 (hsp:∀(K:aP) (tab:Addr) (H:Hp) (xs:List V) (a:XI r.args),DT H->H tab=none->zE.withinAll r.args a=true->Y3 r.args r.asked a=true->oY K H xs (G5 r.args a)->
   sp K tab xs H[7e9] (λv H'=>Dw K H' v (r.ret.enc (Y3 r.args r.f a))) λ_ _ _=>False):
 PySem.W.WalkOS q loose XP YP r d [] (λf vs=>PySem.call f vs):=by
 intro w s_0 s mg mb G Y fa o pm cd doc dV kV ho hd hcd hD hmg hg args vals as hpre hlay hrd hwl hlo;obtain⟨a,e1,e2⟩:=PySem.W.os_pre_some hpre;obtain⟨e3,hwi⟩:=zE.encAll_of_decAll r.args args a e1;subst e3;have KX:=hY w _ Y;obtain⟨fd,hb,hF⟩:=F w mg fa _ Y KX G.T.g hmg;obtain⟨de,hde,hdn⟩:=aSh.mp hrec;have hdn:de.name="items_for":=mL.mp hdn;obtain⟨fi,oi,fdi,c0,tab,i1,i2,i3,i4,i5,i6⟩:=G.T.tab de hde;rw[hdn] at i1;have hT:s.heap.get? tab=some {cls:= .none,data:= .fields #[]}:=i6.2;have hKt:(K w.params).lookup tab=none:=by
  cases z:(K w.params).lookup tab with
  |none=>rfl
  |some ob=>
   have e:=KX tab ob z;rw[hT] at e;cases e;have qq:=MK.mp (hcl w) _ (PySem.W.kb_mem z);simp only[WC,iX,mL] at qq;rcases qq with(qq|qq)|qq
   ·exact absurd rfl qq
   ·obtain⟨mc,⟨oc,es,ep,ec,dc,_⟩,_⟩:=G.T.nolimit;rw[<-qq,hT] at ec;cases ec;cases dc
   ·obtain⟨oc,es,ep,ec,dc,_⟩:=G.T.g;rw[<-qq,hT] at ec;cases ec;cases dc
 have hL:xF 14e9 mg 0e2 tab:=by refine{G.T.bmain,c0,CQ.of i5 i6,λf oc od osl fd' m1 l1=>?_};rw[i1] at m1;cases m1;have e:=KX _ _ l1;rw[i2] at e;cases e;cases i3;exact i4
 refine PySem.W.enter_call (C5 (i_ (R:=[]) (cl:=classAt s_0.heap) (d0:=r.ret.enc (Y3 r.args r.f a)) KX G.T.g G.T.b G.T.builtins G.T.nolimit hg hwl (TY _ _) (aLz hlay) hr hT i6.isCodeTable hKt hL (λbase b1 b2 b3=>hF tab base b1 b2 b3) hb %[OW,hlen|0e0]
  λH xs hO h0 hS=>hsp 14e9 tab H xs a hO h0 hwi e2 hS) λr' s' hq=>?_)
 obtain⟨u,as',rfl,h1,h2,h3,h4⟩:=hq;exact{.inl {u,_,as',Z,λ_=>Z,h1,(MX.post_iff hwell hwi _ _).mpr Z,λz=>oO z[3e6]},h2,h3,h4}
section
variable{K:aP}{h:Heap}{mg:Str->Option Value}
def aEo{st:Stmt}{od an:Option Addr}{osl:Array 24e5}{oc kV doc pm cdv ct:Value}(X:K.In h)(G:h.Ns 2e8 mg)(a:qK K 2e8 x=some f[3e9])
 (l:K.lookup f=some {oc,od,.func 30e6,osl}) (e:yX K cdv x=true) (k:qC K (.ref f)=true):Df K mg x st:={f,_,GO X G a,Q7 l e k}
def HP(K:aP)(C:Addr)(ns:List Str):Bool:=ns.all λf=>match jZ K (.ref C) f with
 |some none=>true
 |_=>false
def aIx(e:HP K C ns=true):∀f∈ns,lZ K C f:=λf hf=>by
 have:=MK.mp e f hf;unfold lZ;split at this
 ·assumption
 ·cases this
def aFv{x q:Str}{st:Stmt}{ns:List Str}{C f:Addr}{od an:Option Addr}{osl:Array 24e5}{oc kV doc pm cdv ct:Value}(X:K.In h)(G:h.Ns 2e8 mg)(a:qK K 2e8 x=some C[3e9])(mk:LX K C=true)
 (i:jZ K (.ref C) "__init__"=some f[3e9]) (fn:X2 K (.ref f)=true) (kc:qC K (.ref C)=true) (l:K.lookup f=some (nL "__init__" q (nS st) (lE st) (bM st) .none kV doc pm an cdv ct)[8e1])
 (e:yX K cdv q=true) (k:qC K (.ref f)=true) (pg:FN K C WY=true) (hd:FO K C=true) (po:LW K C=true) (sa:jZ K (.ref C) "__setattr__"=some "object.__setattr__"[5e6]) (no:HP K C ns=true):
 Dc K mg x q C st/\lO K C ns:=⟨{GO X G a,f,_,⟨mk,i,fn,kc⟩,Q7 l e k},⟨pg,hd,po,sa⟩,aIx no⟩
def ZC{v:Int}(X:K.In h)(G:h.Ns 2e8 mg)(a:qK K 2e8 x=some (some (.int v t))):CI mg x v:={t,GO X G a}
def DN:List Value->List Int->Bool
 |[],[]=>true
 | .int v _::r,n::ns=>decide (v=n)&&DN r ns
 |_,_=>false
def PR:∀{vs:List Value} {ns:List Int},DN vs ns=true->bJ 14e5 vs
 |[],[],_=> .nil
 |[],_::_,h=>by cases h
 | .int v t::r,n::ns,h=>by simp only[DN,fF,iX] at h;obtain⟨rfl,h⟩:=h;exact .cons ⟨t,Z⟩ (PR h)
 | .int v t::r,[],h=>by cases h
def AE(K:aP)(a:Addr)(ns:List Int):Bool:=match K.lookup a with
 |some ⟨.type "tuple",_,.seq its _,_⟩=>DN its.toList ns&&decide (its.size<=1000)
 |_=>false
def OV(e:AE K a ns=true):vB K a (ns.map .int):=by
 unfold AE at e;split at e
 ·rename_i its n _ hk;simp only[fF,iX] at e;exact{_,its,n,hk,Z,Z,cI e.2 0e3,PR e.1}
 ·cases e
def aIj(X:K.In h)(G:h.Ns 2e8 mg)(m:qK K 2e8 x=some a[3e9])(e:AE K a ns=true):CN K mg x ns:={a,GO X G m,OV e}
def E7(K:aP):List Value->List (Int×Int)->Bool
 |[],[]=>true
 | .ref a::r,n::ns=>AE K a [n.1,n.2]&&E7 K r ns
 |_,_=>false
def NU:∀{vs:List Value} {ns:List (Int×Int)},E7 K vs ns=true->∃as:List Addr,bJ (as.map V.ref) vs/\jG 40e9 as ns
 |[],[],_=>{[],.nil,.nil}
 |[],_::_,h=>by cases h
 | .ref a::r,n::ns,h=>by simp only[E7,fF] at h;obtain⟨as,h1,h2⟩:=NU h.2;exact⟨a::as,.cons Z h1,.cons (OV h.1) h2⟩
 | .ref a::r,[],h=>by cases h
def IZ(K:aP)(a:Addr)(ns:List (Int×Int)):Bool:=match K.lookup a with
 |some ⟨.type "tuple",_,.seq its _,_⟩=>E7 K its.toList ns&&decide (its.size<=1000)
 |_=>false
def p_(X:K.In h)(G:h.Ns 2e8 mg)(m:qK K 2e8 x=some a[3e9])(e:IZ K a ns=true):CP K mg x ns:=by
 unfold IZ at e;split at e
 ·rename_i its n _ hk;simp only[fF,iX] at e;obtain⟨as,h1,h2⟩:=NU e.1;exact{a,as,{GO X G m,_,its,n,hk,Z,Z,cI e.2 0e3,h1},h2}
 ·cases e
end
def VQ(K:aP)(tab:Addr):Sp:=T2 K ⟨0,0,0,0,0,0,0,tab⟩
def aSm{P:bN}{w:bK}{K:aP}{mg:Str->Option Value}{c:Cl}{fa:Addr}(hfa:mg "answers"=some (.ref fa))(T:∀tab,cA K mg {c with tab:=tab}):
 ∃fd:mO,(∀(s:aI) (us:List Value),15e6=(33e7).length->FQ s fd {us,[]} ((33e7).zip us))/\∀(tab:Addr) (base:Heap),K.In base->base.Ns 2e8 mg->xF K mg base tab->mB P w K mg base kL 10 fa fd ["calls"] (VQ K tab):=by
 obtain⟨f,fd,h1,F⟩:=(T 0).zj;rw[hfa] at h1;cases h1;have hb:∀(kV doc pm:Value) (an:Option Addr) (cdv ct:Value) (us:List Value),15e6=(33e7).length->wB (nL "answers" "answers" (nS (aV 135)) (lE (aV 135)) 135[0e1] .none kV doc pm an cdv ct) {us,[]}=pure ((33e7).zip us):=λ_ _ _ _ _ _ us hl=>match us,hl with|[_],_=>rfl
 refine{fd,λs us hu=>?_,λtab base kb nb hL=>?_}
 ·obtain⟨oc,od,kV,doc,pm,an,cdv,ct,osl,rfl,lk,hcd⟩:=F.ex;exact .of_eq (hb kV doc pm an cdv ct us hu)
 ·exact J_ (P:=P) (w:=w) (base:=base) (T tab) ⟨hL.1,hL.2⟩ F
section
variable{K:aP}{h:Heap}{mg:Str->Option Value}{Goal:Prop}
def aSj{st:Stmt}{od an:Option Addr}{osl:Array 24e5}{oc kV doc pm cdv ct:Value}(X:K.In h)(G:h.Ns 2e8 mg)(a:qK K 2e8 x=some f[3e9])
 (l:K.lookup f=some {oc,od,.func 30e6,osl}) (e:yX K cdv x=true) (k:qC K (.ref f)=true) (go:Df K mg x st->Goal):Goal:=go (aEo X G a l e k)
def aSq{x q:Str}{st:Stmt}{ns:List Str}{C f:Addr}{od an:Option Addr}{osl:Array 24e5}{oc kV doc pm cdv ct:Value}(X:K.In h)(G:h.Ns 2e8 mg)(a:qK K 2e8 x=some C[3e9])(mk:LX K C=true)
 (i:jZ K (.ref C) "__init__"=some f[3e9]) (fn:X2 K (.ref f)=true) (kc:qC K (.ref C)=true) (l:K.lookup f=some (nL "__init__" q (nS st) (lE st) (bM st) .none kV doc pm an cdv ct)[8e1])
 (e:yX K cdv q=true) (k:qC K (.ref f)=true) (pg:FN K C WY=true) (hd:FO K C=true) (po:LW K C=true) (sa:jZ K (.ref C) "__setattr__"=some "object.__setattr__"[5e6]) (no:HP K C ns=true)
 (eq:jZ K (.ref C) "__eq__"=some "object.__eq__"[5e6]) (ne:jZ K (.ref C) "__ne__"=some "object.__ne__"[5e6]) (mo:PySem.W.mroIn K C (.type "object")=some true) (mn:PySem.W.mroIn K C (.type "NoneType")=some false)
 (go:Dc K mg x q C st->lO K C ns->jT K C->Goal):Goal:=let⟨h1,h2⟩:=aFv X G a mk i fn kc l e k pg hd po sa no;go h1 h2 ⟨eq,ne,mo,mn⟩
def aSo{v:Int}(X:K.In h)(G:h.Ns 2e8 mg)(a:qK K 2e8 x=some (some (.int v t)))(go:CI mg x v->Goal):Goal:=go (ZC X G a)
def aSr(X:K.In h)(G:h.Ns 2e8 mg)(m:qK K 2e8 x=some a[3e9])(e:AE K a ns=true)(go:CN K mg x ns->Goal):Goal:=go (aIj X G m e)
def aSn(X:K.In h)(G:h.Ns 2e8 mg)(m:qK K 2e8 x=some a[3e9])(e:IZ K a ns=true)(go:CP K mg x ns->Goal):Goal:=go (p_ X G m e)
def aSl(X:K.In h)(G:h.Ns 2e8 mg)(m:qK K 2e8 x=some none)(go:mg x=none->Goal):Goal:=go (PySem.W.mg_none_of X G m)
end
def aSk{K:aP}{tab a:Addr}{H:Hp}{l:List Int}(h0:H tab=none)(hs:aJ K H a 20e8)(hask:WM l=true):
 VQ K tab [.ref a] H[7e9] (λv H'=>Dw K H' v (.list ((WN l).map .int))) λ_ _ _=>False:=by
 obtain⟨ks,hln,h400,hans⟩:=EA hask;refine{a,l,ks,Z,?_,hln,h400,{#[],aR,.inl Z},λH' p hp=>?_}
 ·rcases hs with(q|⟨o,q⟩)|q
  ·exact .inl {_,bD h0 _ _ q,λH' e=> .inl (.inl e),cV q h0}
  ·exact .inl {_,bD h0 _ _ q,λH' e=> .inl (.inr ⟨o,e⟩),cV q h0}
  ·exact .inr λH'=> .inr q
 ·rw[hans];exact .lst (aJ.of hp) (RK _)
end
end PH
set_option hygiene true
local macro_rules
|`(tactic|exists $x,$X,$g)=>`(tactic|(refine' PH.aSl (x:=$x) $X $g ?a ?go;(case a=>k_is)))
|`(tactic|exists $x,$v,$X,$g)=>`(tactic|(refine' PH.aSo (x:=$x) (v:=$v) $X $g ?a ?go;(case a=>k_is)))
|`(tactic|exists $x,0,$v,$X,$g)=>`(tactic|(refine' PH.aSr (x:=$x) (ns:=$v) $X $g ?a ?e ?go;(case a=>k_is);(case e=>kernel_rfl)))
|`(tactic|exists $x,1,$v,$X,$g)=>`(tactic|(refine' PH.aSn (x:=$x) (ns:=$v) $X $g ?a ?e ?go;(case a=>k_is);(case e=>kernel_rfl)))
|`(tactic|exists $x,2,$v,$X,$g)=>`(tactic|(refine' PH.aSj (x:=$x) (st:=$v) $X $g ?a ?l ?e ?k ?go;(case a=>k_is);(case l=>k_is);(case e=>k_is);(case k=>k_is)))
|`(tactic|exists $x,$q,$s,$n,$X,$g)=>`(tactic|(refine' PH.aSq (x:=$x) (q:=$q) (st:=$s) (ns:=$n) $X $g ?a ?mk ?i ?fn ?kc ?l ?e ?k ?pg ?hd ?po ?sa ?no ?eq ?ne ?mo ?mn ?go;(case a=>k_is);(case mk=>k_is);(case i=>k_is);(case fn=>k_is);(case kc=>k_is);(case l=>k_is);(case e=>k_is);(case k=>k_is);(case pg=>k_is);(case hd=>k_is);(case po=>k_is);(case sa=>k_is);(case no=>kernel_rfl);(case eq=>k_is);(case ne=>k_is);(case mo=>k_is);(case mn=>k_is)))
open PySem PySem.W PyProof.Rows
set_option maxHeartbeats 0
theorem PySem.Challenge.cw_postalhouse_s01_answers_holds : PySem.Challenge.rw_postalhouse_s01_answers.Holds := by
  w_on; k_headS; (case hw => exact ⟨[.list [.int 27]], by decide +kernel, by decide +kernel⟩)
  k_fillS
  refine PH.aSp (r := PySem.Challenge.rw_postalhouse_s01_answers) (k := 10) (ps := ["calls"]) (sp := PH.VQ) (by decide +kernel) rfl ⟨rfl, by decide, by decide⟩ (fun w h Y => PySem.W.kIn_of Y) ?R ?C ?F ?S
  case R => kernel_rfl
  case C => intro w; kernel_rfl
  case F =>
    intro w mg fa h Y X G hmg
    exists "all",X,G;intro v1
    exists "zip",X,G;intro v2
    exists "len",X,G;intro v3
    exists "sum",X,G;intro v4
    exists "min",X,G;intro v5
    exists "max",X,G;intro v6
    exists "range",X,G;intro v7
    exists "enumerate",X,G;intro v8
    exists "list",X,G;intro v9
    exists "dict",X,G;intro v10
    exists "sorted",X,G;intro v11
    exists "OFFICES",4,X,G;intro v12
    exists "PARTIES",5,X,G;intro v13
    exists "CARRIER",4,X,G;intro v14
    exists "DAY_MINUTES",1440,X,G;intro v15
    exists "IN_BIN",0,X,G;intro v16
    exists "ON_RUN",1,X,G;intro v17
    exists "ON_TRAY",2,X,G;intro v18
    exists "WITH_ROUND",3,X,G;intro v19
    exists "AT_COUNTER",4,X,G;intro v20
    exists "ENDED",5,X,G;intro v21
    exists "MISSING",6,X,G;intro v22
    exists "MOST_KNOWN",20,X,G;intro v23
    exists "POSTED",0,X,G;intro v24
    exists "COME",1,X,G;intro v25
    exists "LEFT",2,X,G;intro v26
    exists "OUT",3,X,G;intro v27
    exists "ATTEMPT",4,X,G;intro v28
    exists "GOES_BACK",5,X,G;intro v29
    exists "DELIVERED",6,X,G;intro v30
    exists "RETURNED",7,X,G;intro v31
    exists "DESTROYED",8,X,G;intro v32
    exists "NOTED_MISSING",9,X,G;intro v33
    exists "FOUND",10,X,G;intro v34
    exists "ORDERED",11,X,G;intro v35
    exists "END_DELIVERED",0,X,G;intro v36
    exists "END_RETURNED",1,X,G;intro v37
    exists "END_DESTROYED",2,X,G;intro v38
    exists "ROUNDS",3,X,G;intro v39
    exists "MOST_TRIPS",6,X,G;intro v40
    exists "MOST_ITEMS",20,X,G;intro v41
    exists "HANDED_OVER",0,X,G;intro v42
    exists "NOBODY_THERE",1,X,G;intro v43
    exists "LONGEST_STEP",2880,X,G;intro v44
    exists "COUNTER_MINUTES",10080,X,G;intro v45
    exists "RUN_COMES",0,X,G;intro v46
    exists "RUN_GOES",1,X,G;intro v47
    exists "COUNTER_OVER",2,X,G;intro v48
    exists "MACHINE_BINS",3,X,G;intro v49
    exists "SETTLE",15,X,G;intro v50
    exists "OFFICE",0,[0,3],X,G;intro v51
    exists "PARTY",0,[0,4],X,G;intro v52
    exists "TIMES",0,[0,40000],X,G;intro v53
    exists "DAYS",0,[0,20],X,G;intro v54
    exists "TRIP_RANGES",1,[(1,99),(0,3),(0,3),(0,1439),(1,2880),(1,20)],X,G;intro v55
    exists "POST_RANGES",1,[(0,3),(1,999),(0,3),(0,8),(0,8),(0,3),(0,100000),(0,100000),(0,1000)],X,G;intro v56
    exists "HOWS",0,[0,2],X,G;intro v57
    exists "BROKEN",0,[0,1],X,G;intro v58
    exists "PASS_ITEMS",0,[0,100],X,G;intro v59
    exists "HOW_MANY",0,[6,2,9,1,2,1,2,2,1,2,1,2,1,1,1,0,1,1,2,1,3,3,1,0,0,0,1,0],X,G;intro v60
    exists "within",2,(PH.aV 4),X,G;intro v61
    exists "all_within",2,(PH.aV 5),X,G;intro v62
    exists "row",2,(PH.aV 7),X,G;intro v63
    exists "row_of",2,(PH.aV 8),X,G;intro v64
    exists "House","House.__init__",(L2.mE (PH.aV 13) 0),PH.hN,X,G;intro v65 v66 v67
    exists "take_debt_back",2,(PH.aV 15),X,G;intro v68
    exists "owed_to",2,(PH.aV 16),X,G;intro v69
    exists "owed_by",2,(PH.aV 17),X,G;intro v70
    exists "settle",2,(PH.aV 18),X,G;intro v71
    exists "answer_account",2,(PH.aV 19),X,G;intro v72
    exists "Trip","Trip.__init__",(L2.mE (PH.aV 29) 0),PH.tN,X,G;intro v73 v74 v75
    exists "Run","Run.__init__",(L2.mE (PH.aV 30) 0),PH.rN,X,G;intro v76 v77 v78
    exists "Item","Item.__init__",(L2.mE (PH.aV 31) 0),PH.iN,X,G;intro v79 v80 v81
    exists "Message","Message.__init__",(L2.mE (PH.aV 32) 0),PH.mN,X,G;intro v82 v83 v84
    exists "Order","Order.__init__",(L2.mE (PH.aV 33) 0),PH.oN,X,G;intro v85 v86 v87
    exists "Loss","Loss.__init__",(L2.mE (PH.aV 34) 0),PH.lN,X,G;intro v88 v89 v90
    exists "goal_office",2,(PH.aV 35),X,G;intro v91
    exists "goal_point",2,(PH.aV 36),X,G;intro v92
    exists "as_number",2,(PH.aV 39),X,G;intro v93
    exists "numbers_of",2,(PH.aV 40),X,G;intro v94
    exists "answer_item",2,(PH.aV 41),X,G;intro v95
    exists "answer_office",2,(PH.aV 42),X,G;intro v96
    exists "answer_said",2,(PH.aV 43),X,G;intro v97
    exists "answer_knows",2,(PH.aV 44),X,G;intro v98
    exists "answer_losses",2,(PH.aV 45),X,G;intro v99
    exists "answer_orders",2,(PH.aV 46),X,G;intro v100
    exists "answer_runs",2,(PH.aV 47),X,G;intro v101
    exists "tell",2,(PH.aV 64),X,G;intro v102
    exists "put_into_bin",2,(PH.aV 65),X,G;intro v103
    exists "hold_at_counter",2,(PH.aV 66),X,G;intro v104
    exists "note_loss",2,(PH.aV 67),X,G;intro v105
    exists "send_back",2,(PH.aV 68),X,G;intro v106
    exists "hand_over",2,(PH.aV 69),X,G;intro v107
    exists "take_cash",2,(PH.aV 70),X,G;intro v108
    exists "is_ahead",2,(PH.aV 73),X,G;intro v109
    exists "runs_ahead",2,(PH.aV 74),X,G;intro v110
    exists "earliest",2,(PH.aV 75),X,G;intro v111
    exists "after_round",2,(PH.aV 76),X,G;intro v112
    exists "latest",2,(PH.aV 77),X,G;intro v113
    exists "before_round",2,(PH.aV 78),X,G;intro v114
    exists "answer_way",2,(PH.aV 79),X,G;intro v115
    exists "answer_latest",2,(PH.aV 80),X,G;intro v116
    exists "add_trip",2,(PH.aV 87),X,G;intro v117
    exists "cancel_run",2,(PH.aV 88),X,G;intro v118
    exists "post_item",2,(PH.aV 89),X,G;intro v119
    exists "hand_item",2,(PH.aV 94),X,G;intro v120
    exists "note_attempt",2,(PH.aV 95),X,G;intro v121
    exists "pick_up",2,(PH.aV 96),X,G;intro v122
    exists "pass_message_on",2,(PH.aV 97),X,G;intro v123
    exists "pay_out",2,(PH.aV 98),X,G;intro v124
    exists "go_on",2,(PH.aV 105),X,G;intro v125
    exists "first_event",2,(PH.aV 106),X,G;intro v126
    exists "happen",2,(PH.aV 107),X,G;intro v127
    exists "run_comes",2,(PH.aV 108),X,G;intro v128
    exists "run_goes",2,(PH.aV 109),X,G;intro v129
    exists "items_for",2,(PH.aV 110),X,G;intro v130
    exists "write_down",2,(PH.aV 112),X,G;intro v131
    exists "standing",2,(PH.aV 113),X,G;intro v132
    exists "look_back",2,(PH.aV 114),X,G;intro v133
    exists "answer_counts",2,(PH.aV 115),X,G;intro v134
    exists "lose_item",2,(PH.aV 118),X,G;intro v135
    exists "check_bin",2,(PH.aV 119),X,G;intro v136
    exists "find_item",2,(PH.aV 120),X,G;intro v137
    exists "claim_loss",2,(PH.aV 121),X,G;intro v138
    exists "give_back",2,(PH.aV 122),X,G;intro v139
    exists "pass_items",2,(PH.aV 126),X,G;intro v140
    exists "first_bin",2,(PH.aV 127),X,G;intro v141
    exists "second_bin",2,(PH.aV 128),X,G;intro v142
    exists "first_pass",2,(PH.aV 129),X,G;intro v143
    exists "second_pass",2,(PH.aV 130),X,G;intro v144
    exists "begin_round",2,(PH.aV 131),X,G;intro v145
    exists "answers",2,(PH.aV 135),X,G;intro v146
    exists "answer_call",2,(PH.aV 136),X,G;intro v147
    exists "do_call",2,(PH.aV 137),X,G;intro v148
    exists "ask",2,(PH.aV 138),X,G;intro v149
    exact PH.aSm (c:=⟨_,_,_,_,_,_,_,0⟩) hmg fun tab=>⟨⟨v66,v74,v77,v80,v83,v86,v89⟩,v78,v81,v1,v2,v3,v4,v5,v6,v7,v8,v9,v10,v11,v12,v13,v14,v15,v16,v17,v18,v19,v20,v21,v22,v23,v24,v25,v26,v27,v28,v29,v30,v31,v32,v33,v34,v35,v36,v37,v38,v39,v40,v41,v42,v43,v44,v45,v46,v47,v48,v49,v50,v51,v52,v53,v54,v55,v56,v57,v58,v59,v60,v61,v62,v63,v64,v65,v68,v69,v70,v71,v72,v73,v76,v79,v82,v85,v88,v91,v92,v93,v94,v95,v96,v97,v98,v99,v100,v101,v102,v103,v104,v105,v106,v107,v108,v109,v110,v111,v112,v113,v114,v115,v116,v117,v118,v119,v120,v121,v122,v123,v124,v125,v126,v127,v128,v129,v130,v131,v132,v133,v134,v135,v136,v137,v138,v139,v140,v141,v142,v143,v144,v145,v146,v147,v148,v149⟩
  case S =>
    intro K tab H xs a hO h0 hwi hask hx
    cases hx with
    | cons h1 h2 =>
      cases h2
      cases h1 with
      | lst hs ha =>
        have e := L2.aCa a.1 _ ha
        subst e
        exact PH.aSk h0 hs hask
