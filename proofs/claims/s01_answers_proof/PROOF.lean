import PyProof.Rows.All
import Wide.All
import OpenK.AllK
import Wide.FinOn
import PyProof.EqAt
import PyProof.EqKinds
import PyProof.TupleCall
import KE.BitLaws
import Open.SpecLaws
import KE.OsHead
import KE.OsGo
import PyProof.SetKind
import PyProof.Rows.SetFrom
import PyProof.Rows.SortShell
import KE.KDictSum
import PyProof.ForAny
import PyProof.EnumMake
import PyProof.Draws
import PyProof.TupleIter
import PyProof.ZipIter
import KE.IntTextLaws
import PyProof.DictRoadsH
import KE.SpHead
import KE.OsShapes
import PySem.Challenge.RW_pastcells_s01_answers
set_option Elab.async false
set_option linter.all false
set_option maxRecDepth 100000
set_option maxHeartbeats 0
theorem bg:type_of% @decide_eq_true_iff:=@decide_eq_true_iff
theorem cK:type_of% @decide_eq_true:=@decide_eq_true
theorem eC:type_of% @congrArg:=@congrArg
theorem gn:type_of% @decide_eq_false:=@decide_eq_false
theorem jL:type_of% @if_true:=@if_true
theorem kS:type_of% @if_false:=@if_false
theorem lX:type_of% @beq_iff_eq:=@beq_iff_eq
theorem m5:type_of% @decide_eq_false_iff_not:=@decide_eq_false_iff_not
theorem rN:type_of% @beq_eq_false_iff_ne:=@beq_eq_false_iff_ne
open List renaming length_map->az,length_cons->aR,range->bu,length_append->bw,mem_cons->bE,map_append->bH,map_cons->bL,getElem?_eq_getElem->bM,mem_append->bP,length_take->bU,length_drop->cy,mem_singleton->cM,replicate->cS,mem_cons_self->cY,mem_cons_of_mem->cZ,size_toArray->dk,getElem?_eq_some_iff->dH,getD_eq_getElem?_getD->dI,mem_map->dJ,getElem?_map->d_,mem_of_getElem?->ej,append_nil->fN,append_assoc->gp,map_map->gq,mem_range->gR,take_length->gW,not_mem_nil->ic,length_reverse->ie,length_eq_one_iff->iz,map_take->iV,length_nil->jl,map_congr_left->jN,drop_drop->kj,all_eq_true->kU,getElem?_eq_none->kW,map_nil->lY,length_range->l8,sum_append->ma,mem_append_right->mV,foldl_append->m4,nodup_cons->oF,getLast?_concat->oK,mem_filter->pT,length->pX,foldl_cons->p6,any_eq_true->qe,mem_append_left->rO,mem_filterMap->rQ,lookup->rV,any_cons->rY,replicate_succ->rZ,nodup_nil->sD,length_replicate->uH,lookup_cons->uJ,length_eq_zero_iff->uP,getElem_mem->uS,filterMap_cons->xq,getElem?_append_left->xw,sum_cons->xF,ext_getElem->xI,pairwise_cons->xK,range_succ->xN,foldl->AJ,find?_cons->AQ,set_set->AZ,length_dropLast->A6,all_cons->EK,flatten_cons->EL,forIn_nil->EM,length_filter_le->E3,dropLast_concat_getLast->E4,getElem?_take->E6,getElem_map->E7,mem_reverse->E9,getElem?_set_self->J4,getElem?_set_ne->J5,getElem?_append_right->J_,take_of_length_le->Ki,range_succ_eq_map->Kj,all_map->Kk,forIn_cons->Kl,getElem_take->KG,getElem_drop->KH,getElem_of_mem->KP,filter_append->KQ,length_zip->KR,drop_zero->KZ,flatMap_cons->K0,getElem?_drop->K1,reverse_cons->K2,of_mem_zip->VN,getElem?_replicate->VO,length_set->VY,length_singleton->V2,nil_append->V3,cons_append->V6,map_replicate->Wb,getElem_cons_succ->Wg,nodup_append->Wp,flatMap_append->Wu,map_drop->Wv,getElem_range->Ww,reverse_eq_nil_iff->Wy,drop_append->Wz,filterMap_append->WB,filter_cons_of_neg->WC,filter_cons_of_pos->WD,take_append_drop->WK,toList_toArray->ajh,length_eraseIdx->ajA,getElem?_zip_eq_some->ajG,contains_iff_mem->ajL,getElem_dropLast->ajO,findIdx_getElem->ajP,mem_of_mem_drop->ajQ,drop_eq_nil_of_le->ajU,mem_of_mem_take->ajW
open Or renaming inr->aA,inl->aB
open PySem renaming Expr->aH,World->aI,Stmt->aL,Program->aT,Around->bz,Spec->ci,boot_len->dn,FuncData->eW,Scope->fY,bootBuiltins->gS,compareOp->gT,wpAny_field->ib,wpAny_mono->ji,NameKind->jK,wpAny_seqItems->jM,binaryOp->kg,mem_of_lookup->kh,wpAny_newObj_type->ki,sysModules->lV,compEnvC->l0,codeAny_builtin->mW,plainId_quiet->mX,wpAny_rule->mY,wpAny_setField_rec->m3,Model->oB,wpAny_truthy_bool->oC,wpAny_Call_Name_kw->pV,PyData->p9,SetTable->qb,standAt->rP,Result->rR,call_meets->r6,Params->sk,scanBound->su,behindInMarks->uF,wpAny_callSpecial?_slot->uI,pushCells->uK,setNext->uQ,wpAny_isInstance->uR,wpAny_passesOwn->xr,attributeBase->xu,getItem->xx,sliceBounds->xA,typeIs_int->xB,valueAt->xC,wpAny_letGo->xG,intKind->xL,wpAny_loadPart'->xO,swapsWith->Ay,wpAny_standAt->Az,wpAny_pyIter_list->AB,wpAny_pyIter_tuple->AC,wpAny_call->AF,Keyword->AH,wpAny_tryCatch->AR,ZipApart->AS,callerA->AW,wpAny_attempt->AX,seqItems?->AY,relayAll->A2,wpAny_ite_split->A3,firstArgMember->A4,GenState->EF,wpAny_execs_nil->EG,wpAny_typeOf->EJ,wpAny_setField->ER,excClassObj->ET,wpAny_updateSeq->EV,wpAny_of_eq->EW,pickOrder->E1,wpAny_forIn_list->E8,eqIsQuiet->Fb,letOwnedTupleGo->J7,typeIs_str->Ke,pushCells_keeps->Km,wpAny_pyIter_enum->Kp,wpAny_pyIter_zip->Kq,isInstance->Ku,codeAny_call_builtin->Kv,layNew->KI,intKind_is->KJ,isSubtype_stop->KO,wpAny_onRaise->KW,Within->VB,noFill_tuple_add->VQ,seq_tuple_add->VR,typeLookup_type->V_,builtinLookup_eq_fast->V',fits_of_scanBound->Wh,wpAny_askSetting->Wi,isSubtype_type->Wm,wpAny_handled->Wn,wpAny_updateSeq_pair->Wr,isSubtype_tuple_tuple->WH,wpAny_tupleItemsOf->WJ,wpAny_binaryOp_repeat_ref->ai9,wpAny_letOwnedTupleGo_enum->aje,wpAny_letOwnedTupleGo_zip->ajf,plainObj_wpAny_Assign_Attribute->ajp
open Nat renaming le_refl->aV,zero_le->bA,ne_of_lt->cI,le_trans->dG,lt_of_lt_of_le->dY,add_assoc->eE,lt_irrefl->iw,ne_of_gt->kR,le_add_right->p_,lt_succ_self->rW,le_succ->rX,lt_succ_of_lt->r9,zero_add->r_,lt_trans->xD,min_eq_left->A1,le_of_eq->EH,lt_or_ge->EY,add_sub_cancel->E5,le_of_lt->J3,min_le_right->Ka,le_of_succ_le->Kn,not_lt->KA,sub_zero->K4,lt_of_le_of_lt->V9,not_lt_zero->We,mul_le_mul_right->ajX
open PyProof.Rows renaming envOfC->be,AllBare->uE,callWith_type1->uG,IntsAre->AK,firstMet_length_le->KN,Constant_none->VD,slot_tuple_getitem->VW,subscriptTail->VX,firstMet_succ->Wk,callWith_builtin1->ai6
open PySem.Heap renaming lt_size->bn,get?_push_of_some->bG,get?_push_size->c_,size_push->d8,get?_update_other->iy,SameBut->lW,get?_update_self->pZ,ExtBut->E2,get?_update_ne->ajn
open PySem.W renaming Frag->bv,WData->fi,mg_none_of->iW,keepIn->oE,findIn->pU,emptyDict->rS,WellAll->sj,mg_of->sG,instObj->uD,findIn->uM,lookIn->AD,callWith_K->AG,fnOf->AI,nsIn->EU,plainGet->J8,hasDictIn->J9,methodObj->VC,InstAt->VF,plainGet_of->VG,isFn->VH,takerIn->VI,methodCall_KW->VJ,codeIn->VP,handedIn->aiY,findObj_own->aiZ,plainOver->ai0,makesIn->ai1,callWith_K0->ai3,cellsFrom_some->ai4,ktu_apart->ajg,WRecords->aji,length_le_weightAllW->ajj,isNs_of_in->ajq,nsMap_none_of_in->ajr
open PySem.Paired renaming length->bY
open PySem.Value renaming ref->cj,int->eA,none->fh,type->kf,builtin->xE,bool->Ax,str->J2
open Vbavaf renaming act->cz,Watcher->dw,St->fm,ranged->fz,step->gF,listed->iA,at_->jm,compare->jO,digit->kY,bit->kZ,search->k8,older->l6,putIn->l9,signed->l_,Found->md,formulaIn->m6,Place->oN,number->qg,sameAtom->qh,MOST->sw,samples->sy,single->sA,readAll->sC,boolInt->sE,between->uV,onceAt->uW,alwaysAt->uX,sinceAt->xP,countAt->xQ,Call->xR,inR->xS,cells->A7,LETTERS->A_,holds->EX,history->E_,start->Fa,text->Fc,windowWords->Fd,uses->Fe,upTo->K3,wordsOf->K7,form->K8,reading->Wx,fresh->WA,letters->WG,atomWords->WL
open Ne renaming symm->cJ
open Bool renaming false_ne_true->df,and_eq_true->dm,eq_iff_iff->h_,noConfusion->kX,false_eq_true->oG,not_eq_true'->sv,or_eq_true->sB,false_and->AA,true_and->A5,not_true->A8,and_eq_true_iff->ajk,not_eq_false'->ajM
open Option.some renaming inj->dZ,injEq->xJ
open PySem.F renaming plainAttrs_list->eD,slot_list_append->fj,type_list_append->fk,plain_max_loop->uN,called_set->uO,slot_int_rmul->Kh,slot_tuple_mul->Ky,entry_max_loop->Kz,slot_tuple_iterator_next->KS,slot_zip_next->KY,slot_tuple_eq->K5,slot_tuple_hash->K6,slot_tuple_add->VS,entry_tuple_add->VT,args_tuple_add_2->VU,slot_dict_get->V7,slot_list_getattribute->V8,slot_list_extend->WE,type_list_extend->WF,entry_dict_get->ajb,args_dict_get_3->ajc,slot_dict_getitem->ajt,plain_set_new->ajx,slot_set_iter->ajB,plain_extend_loop->ajE,plain_list_iadd->ajF,entry_tuple_iterator_next->ajH,args_tuple_iterator_next_1->ajI,slot_enumerate_next->ajJ,slot_tuple_index->ajS
open False renaming elim->gU
open PySem.PyData renaming int->gX,depthAll->oJ,canLayAll0->sr,eqv->AM
open PySem.PassesOwn renaming never->gY,leaving->ajT
open Array renaming length_toList->jk,getElem?_eq_getElem->qd,toList->J6,getElem?_eq_none->Ko,getElem?_eq_some_iff->Kx,find?_toList->VE,getD->Wc,getElem_toList->Wf,forIn_toList->WI,append_assoc->aiW,toList_push->ajw,getElem?_toList->ajz,toList_append->ajY
open Sum renaming inl->kQ,inr->uC
open PySem.Str renaming ofString->kT,length->uU
open Option renaming map_eq_some_iff->lZ,map_some->uL,getD_none->VZ,isSome_iff_exists->ai5,isSome_some->aja,getD_some->ajN
open PySem.Obj renaming mapFields->mZ,mapSeq->xz,data_mapFields->ES,putSet->EZ,isFreed_of_fields->Kw
open PyVbavaf renaming shape->m7,whole->xT,answers->K9,answers_asked->WP,calls->ajZ
open PySem.Around renaming under_plainId->oH,under->VL
open Int renaming toNat->oM,toNat_natCast->pY
open PySem.Builtin.Str renaming strSliceIndices->si
open Prod.mk renaming injEq->ss
open PySem.Builtin.SmallTypes renaming nextOf->uT,ownedTupleIsFree->KU,ownedTupleHandOut->ajK
open PyFlat renaming calls->uY,call->WM,rows->WN,told->WO
open True renaming intro->xt
open Except renaming ok->xH
open PySem.SetTable renaming grown->xM
open PySem.Calls renaming spliced_cons->AE,spliced_nil->EI,callWith_builtin->Kf,evalArgs_plain->V1,Name_function_global->aiX
open PySem.SeqAt renaming shaped->AL,EqAt->V0
open PySem.NameKind renaming free->AN,cell->V5
open ForInStep renaming yield->AO
open PySem.Txt renaming isdigit->AT,join->EN,startswith->EO
open PySem.StrLaws renaming sliceText->AU
open PySem.W.Codec renaming encAll->AV,app->EQ,denoteAll->Kr
open List.cons renaming injEq->A0
open PySem.Builtin.Tuple renaming tupleHashOf->A9,tupleExact->Kc,tupleItemsOf->ai8,tupleTooMany->ajs
open VbavafNeutral renaming step->Ba
open PySem.Builtin.Slice renaming slicePlaces->Kb,sliceAdjust->VV,sliceApplied->ai7
open PyProof.Rows.IsTup renaming new->Kd
open PySem.Builtin.List renaming listTooLong->Kg,listExtendWith->Wo,listLengthHint->ajC,listSameRef->ajD
open PySem.W.WData renaming weightAll->Ks
open PySem.Data renaming seq->Kt
open PySem.SetTable.below renaming go->KC
open PySem.Heap.SameBut renaming update->KL
open PySem.Code renaming isFrame->VM
open PySem.Walks renaming list->V4
open PyProof.Rows.F renaming plain_set_update_loop->Wj,entry_set_update_loop->ajy
open PySem.pickOrder renaming go->Wl
open PySem.Shared renaming heap->Wq
open PySem.Unicode renaming isDigit->Ws
open PySem.SeqAt.EqAt renaming int_str->aiU,str_int->aiV
open PySem.Heap.Ns1 renaming of_empty->ai2
open PySem.Builtin.Dict renaming updateFrom->ajd
open PySem.Value.type renaming inj->ajl
open PySem.EntryCells renaming newEntry->ajm
open PySem.Builtin.ObjectAttr renaming storeInDict->ajo
open PySem.Builtin.Builtins renaming bindParams->aju
open PySem.SetTable.probe renaming go->ajv
open Classical renaming byContradiction->ajR
open List.Pairwise renaming filter->ajV
open PySem.Challenge renaming rw_pastcells_s01_answers->aj0
set_option hygiene false
local macro_rules|`({$x:term,*})=>`(⟨$x,*⟩)
local macro_rules
|`(17)=>`({rfl,rfl,rfl,by decide+kernel,rfl,by decide+kernel,by decide+kernel})
|`(18)=>`(by first|exact aB rfl|exact aA rfl)
|`(19)=>`(fun aO A outer s H vs Q E hr h=>?_)
|`(20)=>`({rfl,by dsimp only[bb,be];decide+kernel,by dsimp only[bb,be];decide+kernel,by dsimp only[bb,be];decide+kernel,by dsimp only[bb,be];decide+kernel})
|`(21)=>`(PC.fn KX G (fun _ _ _ _ _ _ us hl=>match us,hl with|[_,_],_=>rfl) _ _ _ _)
|`(23)=>`(by omega)
|`(26)=>`(PC.fn KX G (fun _ _ _ _ _ _ us hl=>match us,hl with|[_],_=>rfl) _ _ _ _)
|`(28)=>`(fun vs H Q E h=>?_)
|`(29)=>`(by decide)
|`(31)=>`(Inv X pins σ H s)
|`(33)=>`(List Int)
|`(34)=>`(List Atom)
|`(35)=>`(model prog w)
|`(36)=>`(PC.fn KX G (fun _ _ _ _ _ _ us hl=>match us,hl with|[_,_,_],_=>rfl) _ _ _ _)
|`(37)=>`(model X.prog X.w)
|`(39)=>`(List Bytes)
|`(42)=>`(by simp)
|`(43)=>`(Value->Shared->Prop)
|`(47)=>`(by decide+kernel)
|`(56)=>`(pv 0)
|`(65)=>`(Txt K mg)
|`(66)=>`(25 bD (pv 1) ap)
|`(67)=>`(done++[last])
|`(71)=>`(List Nat)
|`(72)=>`(Addr×Obj)
|`(77)=>`(by with_unfolding_all rfl)
|`(78)=>`(wpAny_pure ?_)
|`(79)=>`(by simp;omega)
|`(81)=>`(x==("__debug__":Str))
|`(82)=>`({_,rfl,_,rfl,_,rfl,q3,_,rfl,g7,mE (by rw[az];omega),fun q4 H4 S4 e4=>?_})
local macro_rules
|`(83)=>`({fun i m σ H=>m=xs.length-i/\i<=xs.length/\Pv i σ H,{xs.length,by simp,bA _,h0},?_})
|`(84)=>`(.ref s.heap.objs.size)
|`(85)=>`(fun q'=>hb (by simp[q']))
|`(86)=>`(s.heap.objs.size+1)
|`(87)=>`({q4,q5,_,_,rfl,rfl,S5 _ _ e4,e5,?_,fun q6 H6 S6 e6=>{by show 2<=sizeLine;decide,fun p H7 S7 e7=>?_}})
|`(88)=>`(pv 2)
|`(94)=>`(80 (acc.map V.int))
|`(95)=>`(Str->Option Value)
|`(97)=>`(List Value)
|`(99)=>`({_,rfl,W.a,_,_,_,rfl,X.at_,rfl,_,rfl,W.pf,_,_,.ref q,rfl,rfl,hf,mC,?_})
|`(101)=>`({rfl,I.turned (t':=s.toks) (fun b o hb e=>eb b o hb e) f0 f1 f3 f4 f5})
|`(104)=>`(25 cO (aX T.cq T.gz 56) ap)
|`(105)=>`({_,rfl,by show 1<=sizeLine;decide,fun q5 H5 S5 e5=>?_})
|`(106)=>`({fun b o e n hb hx=>?_,fun b o e n hb hx=>?_,I.base.free,fun b o e hx=>?_,I.base.i7,I.base.kD,I.base.mI})
|`(108)=>`(by simp only[size]at sz;omega)
|`(109)=>`(X.g8 s H scope (l0 scope cl C X.env) fp)
|`(110)=>`({xs.length-(i+1),by omega,rfl,aY,p'})
|`(111)=>`(by rw[cy];omega)
|`(114)=>`(80 (acc.map V.int++[.int ((st.2.map V.int).length:Int)]))
|`(115)=>`(tryStep l f g want p)
|`(118)=>`(.ref D)
|`(119)=>`(upd H4 D (80 (acc++[y])))
|`(123)=>`(List Bool)
|`(124)=>`(cr (gi T.bN T.kP (nu T) hr 56))
|`(125)=>`(ha pins s σ H _ I h)
|`(126)=>`({_,rfl,by show 2<=sizeLine;decide,fun p H2 S2 e2=>k H2 p q (S1.trans S2) ?_ (S2 _ _ e1)})
|`(127)=>`(aE X.prog X.w X.K X.mg X.base CX k f fd ps sp)
|`(130)=>`(.ins T.bc S.dx (cN {S with k:=kc+1,ac:=S.ac++cR lc 67 S.ac.length S.c,c:=S.c+dD 67}))
|`(132)=>`(List Str)
|`(133)=>`(one f _ _ _ n i nd rfl (fun i nd h=>ih n _ i nd h) h)
local macro_rules
|`(134)=>`(fun _ _ _ _ _ h=>h)
|`(135)=>`(⟨ok.mod,ok.kind,ok.glob,ok.blt,ok.above,ok.inj,ok.has,ok.tM,ok.hd,ok.frames,ok.u_,ok.vz,ok.bs,ok.lu,ok.ua,ok.uv,ok.j_,ok.oP⟩)
|`(136)=>`(Array Value)
|`(138)=>`(.ListComp elt [⟨tg,iter,ifs,0⟩] scope pos)
|`(139)=>`(by rw[bg];omega)
|`(140)=>`(Row P w l f g H0 D W H all am)
|`(143)=>`(68 (38 (aX T.cx T.ge 56)))
|`(144)=>`(gi T.bN T.jH (lU T) hr 56)
|`(145)=>`({fun _ _ _ _=>rfl,fun _=>rfl,fun _=>rfl,fun _ _ z=>nomatch z})
|`(146)=>`(wpAny_bind ?_)
|`(147)=>`(List 33)
|`(148)=>`(.inl rfl)
|`(149)=>`(A.handled=none)
|`(150)=>`(cellsFrom (s3.heap.objs.size+1) scope.names (gu X.env.cells scope.names []))
|`(151)=>`(73 cD (aX T.cq T.gm 56) cu)
|`(152)=>`(.ref a)
|`(154)=>`(cX P w T.bX)
|`(158)=>`(notedBy 35 A env fun e s'=>R (.error e) s')
|`(159)=>`(he pins s σ H _ I h)
|`(163)=>`(PC.ct KX G _)
|`(164)=>`(fun z=>?_)
|`(166)=>`(80 ((s.fs.map fun x=>bV x.v)++[.int 0]))
|`(168)=>`(ck<=((seenOf cn r i).map kZ).sum)
|`(169)=>`(upd H r (.ins T.bc S.dx (cN {S with k:=S.k+1})))
|`(171)=>`(ba items.size items.size hi-ba items.size 0 lo)
|`(172)=>`(Str×Addr)
|`(173)=>`({q.1,fun n st acc ha=>q.2 _ _ _ acc ha})
|`(174)=>`(pv 3)
|`(175)=>`(.tup [.int (i:Nat),x])
|`(176)=>`({_,rfl,l,rfl,{_,aq.of (S1 _ _ hl)},?_})
local macro_rules
|`(177)=>`(.inr {by decide,rfl})
|`(178)=>`(EP X pins σ Q)
|`(179)=>`(pv 1)
|`(180)=>`({bA _,fun D H1 S1 f1 e1=>?_})
|`(181)=>`(backToKw pos (keywordEach [] X.env))
|`(182)=>`(i0 (gP (bJ T.oy (sI T) hr (38 88))))
|`(185)=>`({_,rfl,{_,rfl,l,_,_,_,rfl,rfl,S _ _ hl,rfl,{_,rfl,nd,a,dx,pn,pp,p,wa,wb,r,i,0,rfl,N.same S,by rw[ho];rfl,S _ _ hp,fun H3 D3 S3 f3 e3=>{D3,_,rfl,e3,rfl,GG _,_,rfl,?_}}}})
|`(189)=>`((70 l).map (own 0 c))
|`(191)=>`(two f g _ _ _ _ n i nd rfl (fun i nd h=>ih n _ i nd h) (fun i nd h=>aP _ _ i nd h) h)
|`(193)=>`(.tup xs)
|`(194)=>`({_,c_ _ rfl,rfl,rfl})
|`(195)=>`({_,rfl,rfl,_,rfl,?_})
|`(197)=>`(At s.heap a es ep t)
|`(201)=>`(75 (73 nc 88 (68 (38 (aX T.cx T.ge 56)))))
|`(203)=>`(38 (eP eG ap))
|`(204)=>`(au (aF (bp 203)))
|`(205)=>`(80 (acc++[y]))
|`(206)=>`(one f _ _ _ n acc h (ih n _ acc h))
|`(207)=>`(.xd [("word",.int i)])
|`(208)=>`(I.ok.hd hc)
|`(209)=>`(PC.fn KX G (fun _ _ _ _ _ _ us hl=>match us,hl with|[_,_,_,_],_=>rfl) _ _ _ _)
|`(210)=>`(ns.map V.int)
|`(211)=>`(xs.map V.int)
|`(213)=>`(jb P w K mg T)
|`(214)=>`(dP I q 42)
|`(219)=>`(fun _ _ z=>nomatch z)
|`(220)=>`(n+size f)
|`(223)=>`(98 (cv {W with ph:=D1,pl:=D3}))
|`(224)=>`(98 (cv {W with pt:=D4,pl:=D7}))
|`(225)=>`(ac.take i)
local macro_rules
|`(226)=>`(wpAny_bind (m:=A4 _ _) (EW (a:=fh) (by first|rfl|(simp only[A4];rfl)) ?_))
|`(227)=>`(aV _)
|`(231)=>`(List V)
|`(232)=>`(aU (by rw[bg];exact hn) ?_)
|`(233)=>`(73 nc 88 (68 (38 (aX T.cx T.ge 56))))
|`(234)=>`(PC.me (fun _ _ _ _ _ _ us hl=>match us,hl with|[_,_],_=>rfl) _ _ _ _ _)
|`(235)=>`(aG (ha pos pins s1 σ H1 _ I1 q) fun us s2 ⟨vs,H2,I2,r,q2⟩=>{I2.eU,?_})
|`(236)=>`(ns.getD 0 0)
|`(237)=>`(s.heap.push {cls:=.type "dict",data:=.dict #[]})
|`(238)=>`({xs,ys,xs[i],ys[i],q1,q2,by simp[aY],by simp[tR]})
|`(242)=>`(PC.me (fun _ _ _ _ _ _ us hl=>match us,hl with|[_],_=>rfl) _ _ _ _ _)
|`(243)=>`(cP P w H h)
|`(244)=>`(fun i σ H2 _ p=>aq.of (p.1 _ _ hl))
|`(245)=>`(nomatch h)
|`(248)=>`(.lst xs)
|`(249)=>`(by rw[az];omega)
|`(251)=>`(.inr {by dsimp only[Op.kind];decide+kernel,a,b,rfl,by cases b<;>rfl})
|`(253)=>`(fun w hw=>v6 rx fx r fs w (by simpa using hw))
|`(256)=>`(List 72)
|`(258)=>`(98 (cv {W with ph:=D1}))
|`(259)=>`(98 (cv {W with pt:=D4}))
|`(260)=>`(by simp[Op.nums])
|`(261)=>`(List Addr)
|`(262)=>`(80 (v3++tW.filter (og H5 (s.atoms.map cA))))
|`(263)=>`(two f g _ _ _ _ n acc h (ih n _ acc h) (fun mO h'=>aP _ _ mO h'))
|`(265)=>`(121 T.ge)
|`(266)=>`(80 (v4++[.ref l]))
|`(267)=>`(X.g8 s3 H3 scope ce fp)
|`(268)=>`(V->List V->Hp->VK->Prop)
|`(269)=>`(cT C CN H W s)
local macro_rules
|`(270)=>`(iW KX G _)
|`(272)=>`(fun n=>if n<=WINDOW then some n else none)
|`(274)=>`(Array (96 Value))
|`(275)=>`({[],trivial,fun a m=>absurd m 42})
|`(277)=>`(List Nd)
|`(280)=>`(.builtin "type.__call__" {.ref C::us,kw})
|`(282)=>`(.ext (ky C a dx))
|`(283)=>`(.ref l)
|`(284)=>`(38 (pv 4))
|`(285)=>`(if n<=60 then some n else none)
|`(286)=>`(n+size f-1)
|`(287)=>`((196 x.f).map (own 0 (107 x.f x.c).2.1))
|`(290)=>`(22 (wpAny_nextOf_list_item (h1.extBut q1.extBut D.i1z) (eO.extBut q1.extBut D.l1z) hx fun w2 Lm q2=>wpAny_pure ?_))
|`(291)=>`(fun _ _=>rfl)
|`(292)=>`(zy==AN&&sc.kind==.function&&sc.names.lookup n==some .cell)
|`(293)=>`({_,rfl,_,rfl,by show 2<=sizeLine;decide,fun p H5 S5 e5=>?_})
|`(296)=>`(.always a b)
|`(297)=>`(38 (25 bD (pv 1) ap))
|`(298)=>`(e::es)
|`(300)=>`(α->β->Prop)
|`(301)=>`({_,rfl,.inl (142 d4),_,rfl,_,rfl,r,_,toks,q,lc,rfl,X4,a4,by show(S.ac++cR _ _ _ _).length+_<=_;rw[fU];omega,?_})
|`(303)=>`(AI x b4 (qF st) (oA st) (a_ st) .none kV iG pm an aO ct)
|`(304)=>`(.Tuple elts kk gH)
|`(305)=>`(96 Nat)
|`(308)=>`((show False from r).elim)
|`(309)=>`((wipe σ [j]).set j (some x))
|`(310)=>`(.ref p)
|`(311)=>`(131 (.Name x p))
|`(312)=>`(Unit->Shared->Prop)
|`(313)=>`(by simp[around])
local macro_rules
|`(314)=>`(fun hb Q' q=>?_)
|`(315)=>`(ih n _ c (by rw[<-dd];exact p) nd q ho)
|`(316)=>`({.and,[n+size f-1,n+size f+size g-1],st+cells f+cells g})
|`(317)=>`(B.turn hD mono S r (by rw[bU];have:=(dH.mp hi).1;omega))
|`(319)=>`(HT.ba z.length 0 lo)
|`(320)=>`({.or,[n+size f-1,n+size f+size g-1],st+cells f+cells g})
|`(322)=>`(.ref it)
|`(323)=>`(fun i x σ H2 hi p=>?_)
|`(325)=>`(typeOf (.builtin id)=pure (.type "method_descriptor"))
|`(329)=>`(IsPair s.heap TI (.ref i1) (.ref i2))
|`(330)=>`(List (κ×V))
|`(331)=>`(by rw[e1,hw];rfl)
|`(332)=>`({_,rfl,.inl (142 yf),_,rfl,D,Da,_,_,rfl,rfl,yf,JH,by rw[bw,az,az,sizeLine_eq];show _+1+_<=_;omega,?_})
|`(333)=>`({_,rfl,{_,rfl,{_,rfl,po,_,rfl,.inr (bC.of (dL _ _ iR)),_,rfl,q2,_,rfl,e2,mE 42,fun q3 H3 S3 e3=>?_}}})
|`(335)=>`(.tup [x,y])
|`(336)=>`(38 88)
|`(337)=>`(gP (bJ T.oy (sI T) hr 336))
|`(338)=>`(HT.ba z.length z.length hi)
|`(339)=>`(Int×Value)
|`(340)=>`(fun i=>ns.getD i 0)
|`(341)=>`({_,rfl,_,_,rfl,rfl,_,rfl,?_})
|`(342)=>`({_,rfl,r,_,_,rfl,X3.at_,rfl,r,_,rfl,X3,rfl,_,rfl,?_})
|`(346)=>`(I.aD.fresh 227)
|`(347)=>`(X.calm=true)
|`(348)=>`({_,rfl,.inl (142 yq),_,rfl,_,_,rfl,.inl (aq.of tV),D,_,_,rfl,rfl,yq,by rw[az,sizeLine_eq];omega,?_})
|`(349)=>`({k z 42 _ hz,k TI 42 _ dR,{x,y,k TO 42 _ d7},h1.at fun o q=>k i1 42 o q,h2.at fun o q=>k i2 42 o q})
|`(350)=>`({q4,q5,_,_,rfl,rfl,S5 _ _ e4,e5,?_,fun q6 H6 S6 e6=>k H6 q6 (((b5.trans S4).trans S5).trans S6) ?_})
|`(355)=>`(HT.ba xs.length xs.length hi-HT.ba xs.length 0 lo)
|`(356)=>`({_,rfl,l,_,_,_,rfl,rfl,hl,rfl,p,_,rfl,.inl (aq.of hp),_,rfl,by omega,by rw[az];omega,fun D hD=>?_})
|`(357)=>`({by show 1<=sizeLine;decide,fun D1 H1 S1 f1 e1=>?_})
local macro_rules
|`(358)=>`(fun b o hb e=>(sb.2 b hb).trans e)
|`(359)=>`({o,e,fun v z=>by rw[d]at z;cases z})
|`(363)=>`(Walks prog w A.in1 it fp wr n P St)
|`(366)=>`(fun σ H2 p=>?_)
|`(367)=>`(ts.getD 0 false)
|`(370)=>`(.ins C dx fs)
|`(371)=>`(38 (cF T.oq))
|`(372)=>`(au (aF (bp 371)))
|`(373)=>`(V.int ((whole (241 done).reverse (S.ac.length+db done+size last-1) (155 cR).length:Nat):Int))
|`(374)=>`(by rw[show want (watch f (nowOf l n) p.c).1 (watch g (nowOf l n) p.d).1=false from h];decide)
|`(375)=>`(b∈X.ex\/X.fB.heap.objs.size<=b)
|`(376)=>`(dY (bn e) I.ok.above)
|`(377)=>`(es.toList.map (·.2))
|`(378)=>`(ho pins s σ H _ I h)
|`(379)=>`(if v<0 then(v+(n:Int)).toNat else min v.toNat n)
|`(380)=>`(kE (bR (fun x y q=>mono H2 _ x y (fun b o hb z=>sx b o hb (S b o z)) q) p) (mono _ _ _ _ sx r))
|`(381)=>`(upd H7 D (.b_ od 94))
|`(382)=>`({o1.bin o2 (fun _=>rfl) (fun _ a b=>⟨a,b⟩) ⟨o1.wf,o2.wf⟩,by show 1+size f1+size f2+_<=_;omega})
|`(384)=>`(89 (69 hs) df)
|`(385)=>`(96 Value)
|`(386)=>`(Binds X.K fd ps ds)
|`(387)=>`(aG (ha pos pins s σ H _ I h) fun us s1 ⟨vs,H1,I1,r1,q1⟩=>hc pins s1 σ H1 vs us Q I1 r1 q1)
|`(389)=>`(.since a b)
|`(390)=>`(by kernel_rfl)
|`(391)=>`(by simp only[dk]<;>omega)
|`(392)=>`(cv ⟨x,dx,D1,D2,D3,D4,D5⟩)
|`(394)=>`(ki ?_ (by size_fits))
|`(395)=>`({_,rfl,by show 1<=sizeLine;decide,fun D H2 S2 f2 e2=>eV k' rfl H2 D (116 S2 (rE _ _ h)) e2})
|`(400)=>`(aG (h pos pins s σ H _ I hq) fun us s1 ⟨xs,H1,I1,r,z,q⟩=>{by rw[<-r.length];exact z,?_})
|`(401)=>`({by show 2<=sizeLine;decide,fun p H4 S4 e4=>?_})
local macro_rules
|`(402)=>`((212 st).take (a+1))
|`(403)=>`(Nat×Option Nat)
|`(405)=>`(((h2.extBut q1.extBut D.i2z).extBut q2.extBut D.i12.symm).extBut q3.extBut D.TOi2.symm)
|`(406)=>`(.once a b)
|`(407)=>`(.ref C)
|`(408)=>`(.ref f)
|`(409)=>`(L2.Inv X pins σ H s)
|`(410)=>`(am.any fun kv=>decide (kv.1=k))
|`(411)=>`(n.map gX)
|`(412)=>`(own.map (·.2))
|`(413)=>`(z6 rfl T.yo (38 (68 (38 (25 bD (pv 1) ap)))))
|`(414)=>`(PE X e te)
|`(415)=>`(S1 _ _ h)
|`(416)=>`(ah H H')
|`(417)=>`(if x.way.isSome=true then some x else match x.all[x.at_]? with|none=>some x|some p=>_)
|`(418)=>`({D,_,_,rfl,rfl,d5,il,t2.length,?_,done++[last],g,l2,t2,k5,rfl,rfl,?_,a5,?_,?_,?_,?_,k3})
|`(420)=>`({fun b o q=>S _ _ (B.same _ _ q),ys,S _ _ e,bR (fun x y q=>mono _ _ x y (ah.x S) q) p})
|`(422)=>`(fun b hb=>{(hf b hb).2.2.2.1,(hf b hb).2.1,(hf b hb).2.2.2.2.1,(hf b hb).2.2.2.2.2})
|`(428)=>`((F×List Atom)×(F×List Atom×List Bytes))
|`(429)=>`(22 (m3 cB 42 fun ha ga sa=>?_))
|`(430)=>`(fun m' hm=>by obtain⟨o',iM,Ig,fR,r'⟩:=hm;rw[ho]at fR;cases fR;exact{_,iM,Ig,hL,r'})
|`(431)=>`({xs,xs[i],q,by simp[aY]})
|`(432)=>`(I.base.free b o e n hx)
|`(433)=>`(List aH)
|`(434)=>`(Passes CX X E)
|`(435)=>`(Value->Value->Sem Value)
|`(436)=>`(fun v bO=>wpAny 37 X.A (217 b) (fun u eQ=>wpAny 37 X.A (f v u) Q X.xe eQ) X.xe bO)
|`(437)=>`(h.Ns mainGlobals mg)
|`(438)=>`(xs.length<=sizeLine)
|`(439)=>`({_,rfl,r,_,_,rfl,X1.at_,rfl,_,rfl,bA _,fun p3 H3 S3 e3=>{bA _,fun p4 H4 S4 e4=>?_}})
local macro_rules
|`(443)=>`(FC ha hb I h fun v u s2 x y H2 I2 rx ry q=>ho pins s2 σ H2 x y v u Q I2 rx ry q)
|`(444)=>`(aG (hf pins s σ H _ I h) fun u s1 ⟨x,H1,I1,rx,g,fd,ps,sp,k,ex,F,hr,hk,hb,q⟩=>?_)
|`(445)=>`(by rw[bU];omega)
|`(446)=>`(mZ (·.setIfInBounds 1 (cj g1.objs.size)))
|`(447)=>`({by show 2<=sizeLine;decide,fun p H2 S2 e2=>k H2 p q (S1.trans S2) e2 (S2 _ _ e1)})
|`(449)=>`(46 (ig (bh Ny ap (bJ T.uZ (F3 T) hr (aa 56 (aa 66 (aa 88 (38 ap))))) 77) ap ap))
|`(450)=>`(Bool->Bool->Bool)
|`(451)=>`(PE X a ta)
|`(454)=>`(38 174)
|`(455)=>`(Hp->V->V->Prop)
|`(456)=>`(some v)
|`(457)=>`({_,rfl,_,rfl,_,rfl,_,rfl,_,rfl,_,rfl,_,rfl,l,_,rfl,zr.sq,fun Dn H9 S9 f9 e9=>?_})
|`(458)=>`(((iH.extBut q1.extBut D.l2z).extBut q2.extBut D.l2i1).extBut q3.extBut D.l2TO)
|`(459)=>`(.lst ys)
|`(460)=>`(by simpa using hu)
|`(461)=>`(n+size f+size g-1)
|`(462)=>`(tryCatch (pyNext 322) _>>=_)
|`(463)=>`({fun i m H=>m=xs.length-i/\i<=xs.length/\Pv i H,{xs.length,by simp,bA _,h0},?_})
|`(469)=>`(Bh X.N X.env.scope scope own)
|`(470)=>`(Bool->Shared->Prop)
|`(471)=>`(PC.me (fun _ _ _ _ _ _ us hl=>match us,hl with|[_,_,_,_,_],_=>rfl) _ _ _ _ _)
|`(472)=>`(aS (cK hn) (74 k'))
|`(473)=>`(if k=f then(k,v)::r else(k,x)::fX f v r)
|`(474)=>`({bT.ext e (f:=f) h.1,bT.ext e (f:=g) h.2})
|`(475)=>`({q.1,fun n st acc ha=>q.2 _ _ _ _ acc ha})
|`(477)=>`({_,rfl,l,_,_,_,rfl,rfl,hl,rfl,by show 1<=sizeLine;decide,fun q1 H1 S1 e1=>?_})
|`(478)=>`({by show 2<=sizeLine;decide,[u,u2],.cons ru (.cons zZ .nil),{_,sH,rfl,_,rfl}})
|`(480)=>`((1:Int)==1&&(si (l.map (·.1)) (u.map (·.1)) 1 z.length).length==z.length)
|`(481)=>`((bZ.of S3).trans ((bZ.of S4).trans S5))
|`(482)=>`(.Name x pos)
local macro_rules
|`(483)=>`(38 179)
|`(484)=>`(80 acc)
|`(485)=>`(show(4:Nat)<1000 by decide)
|`(486)=>`({_,rfl,_,_,rfl,rfl,?_})
|`(487)=>`({_,rfl,_,rfl,_,_,rfl,rfl,?_})
|`(489)=>`(Key×V)
|`(490)=>`(V->Option Int->Option Int->Hp->VK->Prop)
|`(491)=>`(s.heap.IsTupleIter i2 l2 k2)
|`(494)=>`(.b_ o u)
|`(495)=>`(98 (cv {W with ph:=D1,pl:=D3,pt:=D6}))
|`(496)=>`((by cases q:reading w0 with|none=>rfl|some x=>exact 89 ⟨w0,t1,x,rfl,q⟩ hx))
|`(497)=>`(fun i H=>Built H1 D Rel (xs.take i) H)
|`(498)=>`(fun p q e=>by have:=V.int.inj e;omega)
|`(499)=>`(none_ _ rfl)
|`(500)=>`({.bl _,H,I,rfl,?_})
|`(501)=>`({_,rfl,l,rfl,{_,aq.of hl},fun D hD=>?_})
|`(503)=>`(68 (38 (aX T.cx T.oz 56)))
|`(504)=>`(I.base.keep b o e n hb hx)
|`(505)=>`(bp ae)
|`(506)=>`(vs.toArray.toList.map toV)
|`(509)=>`(IsZip s.heap z TI TO .none)
|`(510)=>`(by dsimp only[Op.kind];decide+kernel)
|`(511)=>`(s.heap.IsListIter i1 l1 k1)
|`(513)=>`(96 Addr)
|`(514)=>`(Nat->L2.St->Hp->Prop)
|`(515)=>`(au (aF (dB (aa (ig (73 cD (25 cO (pv 3) (eP eG ap)) ap) ap ap) 454))))
|`(517)=>`(.type "tuple")
|`(518)=>`(by first|exact .inl (by decide+kernel)|exact .inr (by decide+kernel))
|`(519)=>`(fun b ob hb q=>(sb.2 b (271 hb)).trans (hk b ob (271 hb) (271 hb) q))
|`(520)=>`(tl 1 (by rw[if_pos hc]) H4 q4 S4 e4 H5 q5 S5 e5 H6 q6 S6 e6 H7 p S7 e7)
local macro_rules
|`(521)=>`({rfl,I.turned (t':=s.toks) (fun b o hb q=>eb b o hb q) f0 f1 f3 f4 f5})
|`(523)=>`(279 (-(2:Int)^63<=A9 (done.map k.hash)) (A9 (done.map k.hash)<2^63))
|`(524)=>`(H1 D=none)
|`(525)=>`(I1.oX jU (I1.aD.fresh jU))
|`(526)=>`(PC.na _)
|`(529)=>`(22 (321 cB.typeIs KS (wpAny_call_entry KS cB.typeIs ajH ?_ (ajI _))))
|`(530)=>`(354 C (ET nm q C N bs bm true sn sub ab col dd k0 k1 k2 k3 k5 newId))
|`(531)=>`(80 (nv++[.ref pn]))
|`(532)=>`(80 (tN++[.ref lH]))
|`(533)=>`(aU 29 ?_)
|`(534)=>`(c.length=cells f)
|`(535)=>`(fun _ q=>q)
|`(536)=>`(fun _ z=>nomatch z)
|`(538)=>`((iK K a).stop i H/\Qd H)
|`(539)=>`(.Compare a [op] [b] pos)
|`(540)=>`(.builtin id)
|`(541)=>`(.tup (o.nums.map V.int))
|`(542)=>`(.tup [V.ref a,V.ref pq])
|`(543)=>`(VJ (pl:=pl) (aG 159 fun u s1 ⟨x,H1,I1,rx,a,dx,fs,ex,ea,l,q⟩=>?_) ht)
|`(544)=>`(mB (iq w))
|`(545)=>`(s.heap.IsList l1 xs)
|`(555)=>`(!w.params.followText "set-order"&&(!t.plain&&decide (es.size>1)))
|`(556)=>`((env::outer).filterMap (·.frame))
|`(557)=>`(321 cB.typeIs KS (wpAny_call_entry KS cB.typeIs ajH ?_ (ajI _)))
|`(558)=>`(s.heap.FunFrames base (env::outer))
|`(559)=>`(upd (257 W (kH P w W (am++[kv]))) D (80 (rB am++[.ref kv.2.1])))
|`(560)=>`({_,rfl,_,rfl,_,rfl,po,_,rfl,S1 _ _ iR,mE 249,fun q2 H2 S2 e2=>?_})
|`(562)=>`(((ba items.size 0 lo:Nat):Int)==0&&(1:Int)==1&&171==items.size)
|`(563)=>`(au (aF (bJ T.yJ (Mp T) hr (aa 56 (aa cu 336)) (hk:=by omega))))
|`(564)=>`(fE l f p.c n)
local macro_rules
|`(565)=>`(fE l g p.d n)
|`(566)=>`(fun h=>hb (by simp[h]))
|`(567)=>`(fun x H2 Q' hx S q=>?_)
|`(568)=>`({[.ref l],[("default",.int d td)]})
|`(569)=>`({_,rfl})
|`(570)=>`(Op->List α->α)
|`(571)=>`(aE X.prog X.w X.K X.mg X.base bj k fI fd ["self","word"] (D_ C))
|`(572)=>`(aU 139 ?_)
|`(573)=>`(hq H ys B.same e p)
|`(574)=>`(qW G0 rfl T.HM boot_str (38 (25 cO (aX T.cq T.gz (pv 0)) ap)))
|`(575)=>`({Wt,Dn,s,_,ns,rfl,X9,so,e9,kl,fit,fun eI W' Da Nw fZ Jl lJ=>?_})
|`(576)=>`({ys,S _ _ e,by rw[<-bY p];exact hz,fun b o q=>?_,ys++[y],aM,?_})
|`(577)=>`(c_ _ rfl)
|`(578)=>`(greater (aK l fF f) (aK l fF g))
|`(579)=>`(if w.isEmpty=true then 1 else 0)
|`(580)=>`(mZ (·.setIfInBounds 3 ((none:513).elim fh fun f=>rawInt f)))
|`(583)=>`(.type "BaseException")
|`(584)=>`(by rw[az];exact len f)
|`(585)=>`(by rw[tq];exact pI hc)
|`(586)=>`(uD C s.heap.objs.size)
|`(587)=>`({_,[],f,l1,t1,k1,rfl,rfl,S1.trans (.of S2),a1,?_,?_,?_,?_,kk})
|`(594)=>`(.ext (w9 C a dx))
|`(595)=>`(141 H1)
|`(596)=>`(38 (68 (38 (25 bD (pv 1) ap))))
|`(597)=>`(442 T.zQ (Li T) (aa (25 cO 88 174) (38 (aX T.cq T.gz 56))))
|`(598)=>`(AS z TI TO i1 i2 l1 l2)
|`(599)=>`(aa 56 483)
|`(601)=>`(hr.mono hk)
|`(602)=>`(pv 4)
|`(603)=>`(st+cells f)
local macro_rules
|`(604)=>`(vs.map toV)
|`(608)=>`((sb.2 _ D.TIz).trans (hk _ _ D.TIz D.TITO D.TIi1 D.TIi2 dR))
|`(609)=>`(157 (fun h=>(bP.mp h).elim (ih w.1 _ _ nd) (aP w.2 _ _ nd)))
|`(610)=>`(List (Str×Value))
|`(611)=>`(List 71)
|`(612)=>`(List α)
|`(613)=>`(Loc X.env.scope x)
|`(614)=>`(PA X 298 t)
|`(615)=>`(by rw[ar];rfl)
|`(616)=>`(eJ++(new++lS))
|`(619)=>`((some n).bind fun n=>if n<=1000000 then some n else none)
|`(620)=>`(80 ((241 67).map nV))
|`(621)=>`(List Env)
|`(622)=>`(c.drop 1)
|`(623)=>`(fun m x=>if x>m then x else m)
|`(624)=>`(hi pins s σ H _ I h)
|`(625)=>`(mZ (·.setIfInBounds 3 .none))
|`(626)=>`(pV (wj I hg hm ?_ eK))
|`(627)=>`(wpAny_holding ?_)
|`(628)=>`({_,rfl,sg b,_,rfl,rfl,_,rfl,?_})
|`(629)=>`({q1,by have:=nQ e;rw[aR];omega})
|`(630)=>`({xs,ys,q1,q2,.inl 227})
|`(634)=>`(cG W H H')
|`(638)=>`(by rw[bw];omega)
|`(639)=>`(fun c o hb q=>(sb.2 c 85).trans (hk c o 85 85 85 85 q))
|`(640)=>`(q3.extBut _ _ D.TOz.symm (q2.extBut _ _ D.i1z.symm y1))
|`(643)=>`((212 st).drop (a+1))
|`(644)=>`(.Raise (some (.Call (.Name x np) [e] [] gJ)) none pos)
|`(645)=>`(46 ii)
|`(646)=>`(j6 rfl rq.nd (io 88) (own:=[("pair",5)]) 20 (46 (299 rq.nd)) 645 (46 (25 cO (pv 5) ap)))
local macro_rules
|`(647)=>`(554 (73 uB (pv 4) cu) (au (cr (122 174 (38 (pv 4))))))
|`(648)=>`(List (κ×Value))
|`(649)=>`(pyNext (.ref I)>>=_)
|`(650)=>`(s.heap.get? S=some {cls:=.type "list",data:=.seq #[] c})
|`(651)=>`({fun z=>by have:=V.int.inj z;omega,fun z=>by rw[z];rfl})
|`(658)=>`(25 bD 265 88)
|`(659)=>`(IsPair s.heap TO a b)
|`(660)=>`(flat l f n _)
|`(661)=>`(fun _ _ q=>q)
|`(662)=>`(fun _ s'=>wpAny M A (setFlight (.ref e) none) Q E s')
|`(663)=>`(pv 5)
|`(664)=>`(seqObj "list" ord.toArray 0)
|`(665)=>`(tl _ ez H4 q4 S4 e4 H5 q5 S5 e5 H6 q6 S6 e6 H7 p S7 ?_)
|`(666)=>`(xs.length<=ys.length)
|`(667)=>`({_,rfl,ajf (s:={s with heap:=h'}) z' fun gc IV sb=>?_})
|`(668)=>`({o,[],st})
|`(669)=>`(⟨rfl,rfl⟩)
|`(670)=>`(.inl {{xs,q,aV _},hd σ H p})
|`(671)=>`(38 (pv 6))
|`(672)=>`(ps.zip us)
|`(673)=>`({Fq f _ _ 23 (ih x c 23),aP x _ (by rw[i2,cy];omega)})
|`(677)=>`((iy _ _ (fun z:S=b=>hG (by rw[z];exact FR))).trans e)
|`(678)=>`(.ins T.bc S.dx (cN {S with k:=S.k,c:=S.c+o.width}))
|`(679)=>`(.ref x)
|`(680)=>`(.tup [nV a,.int (endOf b)])
|`(681)=>`(GO e 313 (ih h.1) (aP h.2) (lC l f h.1) (lC l g h.2))
|`(682)=>`(K w.params)
|`(683)=>`(Value×Nat)
|`(684)=>`(fun _=>rfl)
|`(685)=>`(fun b ob q=>bG _ q)
local macro_rules
|`(686)=>`(if(p:Int)-(a:Int)+1>0 then(p:Int)-(a:Int)+1 else 0)
|`(687)=>`(mZ (·.setIfInBounds 3 fh))
|`(688)=>`(own (st+w) new)
|`(689)=>`(r.map bV)
|`(690)=>`(show(1:Nat)<1000 by decide)
|`(691)=>`(show(2:Nat)<1000 by decide)
|`(692)=>`(show(3:Nat)<1000 by decide)
|`(693)=>`(st+(a+1))
|`(694)=>`(st+cells f+cells g)
|`(695)=>`({.int ys.length,H,I.tok _,{s.toks+1,by rw[dk,bK]},q})
|`(702)=>`(((wipe σ [j,j2]).set j (some x)).set j2 (some y))
|`(703)=>`(546 {238,Pv (i+1),fun aW H' p'=>110,fun v H' y=>?_})
|`(704)=>`(546 {431,Pv (i+1),fun aW H' p'=>110,fun v H' y=>?_})
|`(705)=>`(AI name b4 params body scope dV kV iG pm an aO ct)
|`(706)=>`(Array Nat)
|`(707)=>`(Ex K mg T)
|`(708)=>`(I1.oX 227 (I1.aD.fresh 227))
|`(709)=>`(Nat->Bool)
|`(710)=>`(PE X b tb)
|`(711)=>`(aE X.prog X.w X.K X.mg X.base bj k me.a me.fd ps sp)
|`(712)=>`(aG (hc pins s σ H _ I h) fun d s1 ⟨H1,I1,q1⟩=>?_)
|`(713)=>`(compPost 37 X.A X.xe use Qf 118 s3.heap.objs.size)
|`(714)=>`(pV (mo I hg hm hv ?_ hn eK))
|`(715)=>`({fun b o e=>by rw[ay (bF e hD)];exact e,[],aM,.nil})
|`(720)=>`(68 (38 (25 bD (pv 1) ap)))
|`(721)=>`(70 l)
|`(722)=>`(bQ jS (bp (38 ap)) (j9 qM 66 mi (iI (eP eG ap))))
|`(723)=>`(if v<0 then max (v+(n:Int)) 0 else min v (n:Int))
|`(724)=>`({by show 1<=sizeLine;decide,fun D H2 S2 f2 e2=>?_})
|`(726)=>`(aF (dB (aa (ig (725 (25 cO 174 (eP eG ap))) ap ap) 454)))
local macro_rules
|`(732)=>`((c::r').map V.int)
|`(733)=>`(.lst zs)
|`(734)=>`(38 56)
|`(735)=>`(421 rfl)
|`(736)=>`(A.frames=some (env::outer))
|`(737)=>`(F.since wa wb f g)
|`(738)=>`(Str×jK)
|`(739)=>`(by simpa using h1)
|`(740)=>`(cut D Wd H8)
|`(741)=>`(done++[last]++[g])
|`(742)=>`(fP xs lo hi)
|`(743)=>`(fun acc p=>acc++(((" ":String):Str)).cps++p.cps)
|`(744)=>`(fun x1 x2=>x1++x2)
|`(745)=>`(ns.getD 1 0)
|`(746)=>`(ps.reverse.take i)
|`(747)=>`(wipe σ [j])
|`(748)=>`(wy e 313 (ih h) (lC l f h))
|`(749)=>`({_,rfl,_,rfl,q3,_,_,_,rfl,rfl,g7,jr,rfl,_,rfl,?_})
|`(756)=>`(546 {431,Pv (i+1),fun H' p'=>110,fun x H' y=>?_})
|`(757)=>`(96 Int)
|`(758)=>`(EX xs {x:=x,op:=op,n:=n})
|`(759)=>`(HT.ba z.length z.length hi-HT.ba z.length 0 lo)
|`(760)=>`(K.In h)
|`(761)=>`(X.A.units+64<cLine)
|`(762)=>`(dW.kindOf y=some .cell\/dW.kindOf y=some .free)
|`(763)=>`(fun c v hc q=>k c v ?_ q)
|`(764)=>`(hb pins s1 σ H1 _ I1 q1)
|`(765)=>`(iP X.K C)
|`(766)=>`(oe.data=.fields vs)
|`(767)=>`(show(4:Nat)<=5 by decide)
local macro_rules
|`(768)=>`(show(5:Nat)<=5 by decide)
|`(769)=>`({_,rfl,_,rfl,q,_,_,_,rfl,rfl,uA,qX,rfl,_,rfl,?_})
|`(773)=>`(.ListComp elt [⟨target,iter,ifs,0⟩] scope pos)
|`(774)=>`(At toks ws k t)
|`(775)=>`(F->F->F)
|`(776)=>`(List K)
|`(780)=>`(.tup (cs.map nV))
|`(781)=>`(121 T.oz)
|`(782)=>`(212 (a+1))
|`(783)=>`(am.map fun kv=>if kv.1=k then(kv.1,y)else kv)
|`(784)=>`(by rw[I.ok.glob];exact I.mod.glob.keeps I.bk)
|`(785)=>`(by simpa using h)
|`(786)=>`(by split<;>omega)
|`(787)=>`(f (.int i t) (.int j u))
|`(788)=>`(fb aC)
|`(789)=>`(fun i v=>ord[i]?=some v)
|`(790)=>`(mk f (ds.foldr mk last))
|`(791)=>`(nomatch z)
|`(792)=>`({.since a b,[n+size f-1,n+size f+size g-1],st})
|`(793)=>`({T,x,y,rfl,aM,x,[y],rfl,y,[],rfl,rfl,Rj hj,?_})
|`(794)=>`({fun _ _ _ _ _=>rfl,fun _ _=>rfl,fun _ _=>rfl})
|`(795)=>`({o,es,ep,k _ o (fun z=>(hf _ z).2.1 rfl) ho,r})
|`(796)=>`({vs,S _ _ e,bR (466 S) p})
|`(799)=>`(22 (58 (wpAny_throw ?_)))
|`(800)=>`(80 ((tokens bs []).map fun t=>V.str (wd t)))
|`(801)=>`(Vals fQ ds)
|`(802)=>`(X.A.units+9<cLine)
|`(806)=>`((bZ.gj).trans (.of S5))
|`(807)=>`(.count k m f)
|`(808)=>`(.define ns)
local macro_rules
|`(809)=>`(.ins C dx [])
|`(810)=>`(.lst ps)
|`(811)=>`(.meaning f i)
|`(812)=>`(.ref z)
|`(813)=>`(257 a o)
|`(814)=>`(38 265)
|`(815)=>`(PC.cs KX G _)
|`(816)=>`(bp (aa cu (aa 66 (aa cu (aa 66 (38 cu))))))
|`(817)=>`(cells f)
|`(818)=>`(eY P w)
|`(819)=>`(fun b o hb e=>kk b o (by simpa using hb) e)
|`(820)=>`(fun i=>bs.getD i false)
|`(821)=>`(fun x H3 Q' hx S q=>?_)
|`(822)=>`(go n1 S3 (go n1 S2 d1))
|`(823)=>`(jq p ns)
|`(824)=>`(nowOf l)
|`(825)=>`(start N vs)
|`(826)=>`(ts++mid++[t])
|`(827)=>`(w.params.setOrder a ep)
|`(828)=>`(xM fc.size)
|`(829)=>`(ys.map V.str)
|`(830)=>`(zF F hr hb .nil hx I2 r (by rw[fN];exact q2))
|`(831)=>`({_,rfl,h})
|`(832)=>`((p,w)::P.zip vs)
|`(833)=>`(.builtin "BaseException.__getattribute__")
|`(834)=>`(.inl h)
|`(835)=>`(.int i)
|`(836)=>`(AY (.ref S)>>=_)
|`(837)=>`(PE X value tv)
|`(838)=>`(fun c q=>by rw[ay (xh c _ q 219)];exact q)
local macro_rules
|`(839)=>`(if((b:Int)>(a:Int))then(b:Int)else(a:Int))
|`(840)=>`(qC X.K C N fI)
|`(841)=>`(upd jP W.pt 166)
|`(842)=>`({by omega,fun n hn=>by have:=h3 n hn;omega})
|`(853)=>`(.xd [("word",.int n)])
|`(854)=>`(22 (AR (W.done s _ _ de fun h' tk hX=>?_)))
|`(855)=>`(AG (h₀:=X.base) I.ok.mod.rm hk 235 he dj)
|`(856)=>`(List Key×Addr×Value)
|`(857)=>`(aG (ha pins s σ H Q I h) fun c s1 e=>?_)
|`(858)=>`(aa (343 (pv 11)) (38 (25 cO (pv 12) ap)))
|`(859)=>`(by rw[<-dd];exact p.2)
|`(860)=>`(by rw[tq];exact cK hc)
|`(861)=>`(by rw[wx];exact cK hz)
|`(862)=>`(by rw[wx];exact pI hz)
|`(863)=>`(fun H3 ys S3 e3 p=>?_)
|`(864)=>`(fun b o _ _ hc e _=>{o.slots,k b o hc e})
|`(865)=>`(fun t' tk=>{.str (i++j),H,I.tok _,569,q})
|`(866)=>`(hs i x y T σ H (y1 xs q1) (y2 ys q2) p hT)
|`(867)=>`(mV _ (mV _ (Gn hb e)))
|`(868)=>`(n_ T.bX T.bc T.aJ 0 d)
|`(869)=>`(n_ T.bX T.bc T.aJ 2 d)
|`(870)=>`(rR->Shared->Prop)
|`(871)=>`({S4,{D4,rfl,by rw[ed];exact e4},fun z=>?_})
|`(872)=>`({ai.toList,o,n,hv,KX _ _ e,hc,by simp[hd]})
|`(873)=>`({rfl,fun b hb=>.inl hb})
|`(874)=>`(aS rfl {_,_,rfl,rfl,k})
|`(875)=>`(e=x\/H e=some (.own x))
|`(876)=>`(if w.isEmpty=true then[]else[w.reverse])
|`(877)=>`(show s.heap.IsTuple a ai.toArray from p)
|`(881)=>`(.Call (.Name "enumerate" p) [e] [] pos)
local macro_rules
|`(882)=>`(.builtin "max")
|`(883)=>`(.since a b f g)
|`(884)=>`(38 ap)
|`(885)=>`(ig (bh Ny ap (bJ T.uZ (F3 T) hr (aa 56 (aa 66 (aa 88 884)))) 77) ap ap)
|`(886)=>`(397 (S _ _ hl))
|`(887)=>`(68 (38 (pv 6)))
|`(888)=>`(76 (549 h2))
|`(889)=>`(Builtin.«zip.__next__» {[.ref z],[]})
|`(890)=>`(HT.ba xs.length 0 lo)
|`(891)=>`(V.str.inj z)
|`(892)=>`(au (aF 179))
|`(893)=>`(by rw[Wm];kernel_rfl)
|`(894)=>`(c.map V.int)
|`(895)=>`(fun H' zs S e pr=>?_)
|`(896)=>`(fun z=>by rw[z,h]at q;cases q;exact mu)
|`(897)=>`(h pins s σ H Q I hw)
|`(898)=>`(h pins s σ H _ I hw)
|`(899)=>`(hv pins s σ H _ I h)
|`(900)=>`(k H4 p q3 ((dL.trans S3).trans S4) ?_ ?_)
|`(901)=>`(match l[i]? with|none=>[]|some a=>WL a)
|`(902)=>`(n _ 29)
|`(903)=>`(n.map V.int)
|`(904)=>`({_,_,rfl,rfl,_,rfl,?_})
|`(905)=>`({_,c_ _ rfl,rfl})
|`(906)=>`({_,rfl,_,rfl,r,S,toks,t,l,rfl,X,a,sz,?_})
|`(907)=>`({_,rfl,_,rfl,x,dx,_,rfl,hx,by decide,?_})
|`(908)=>`({_,rfl,{_,rfl,D,_,_,_,rfl,rfl,e2,qX,kk}})
|`(914)=>`(.Call (.Attribute e m di) args [] pos)
|`(915)=>`(.b_ od 94)
|`(916)=>`(22 (22 (KW ?_)))
local macro_rules
|`(917)=>`(22 (vf x ?_))
|`(918)=>`(List (Str×Nat))
|`(919)=>`(PE X o ta)
|`(920)=>`(PI X tg iter wi)
|`(921)=>`(Pv 0 σ H)
|`(922)=>`(aK l fF f)
|`(923)=>`(bF h h1)
|`(924)=>`(cF T.qV)
|`(925)=>`(cW (k+1) X.A)
|`(926)=>`(fresh f)
|`(927)=>`(fun y=>if y=fld then some v else none)
|`(928)=>`({aq.of (p.1 _ _ hl),bC.of (p.1 _ _ hc)})
|`(934)=>`(22 (AX (321 hT xk (502 xk TW (Vv _)))))
|`(935)=>`(22 (ib hz rfl (x:=.bool false) rfl ?_))
|`(936)=>`(279 (1<=n) (n<=200))
|`(937)=>`(58 (wpAny_throw ?_))
|`(938)=>`(80 (st.2.map V.int))
|`(939)=>`(Sem Bool)
|`(940)=>`(fun H' ys S e p=>?_)
|`(941)=>`(fun a=>aP _ _ _ h.2)
|`(942)=>`(fun c q=>by rw[ay (bF q hn)];exact q)
|`(943)=>`(some ((HT.ba z.length 0 lo:Nat):Int))
|`(944)=>`(⟨S1,e1,none,none,rfl⟩)
|`(945)=>`({o1,e1,fun v q=>by rw[d1]at q;cases q})
|`(946)=>`({o2,e2,fun v q=>by rw[d2]at q;cases q})
|`(949)=>`(((362 c).2.1++(218 g).2.1).drop 817)
|`(950)=>`(.Call (.Name "zip" p) [e,e2] [] pos)
|`(951)=>`(.always a b f)
|`(952)=>`(.ext (Dr C a))
|`(953)=>`(.tup [bV (eX xs ts nd cs).1,.ref q])
local macro_rules
|`(954)=>`(38 (25 cO (aX T.cq T.gz (pv 0)) ap))
|`(955)=>`(Addr->Addr->Hp->Prop)
|`(956)=>`(by assumption)
|`(957)=>`(cs.map fun(c:Nat)=>(kQ (c:Int),g c))
|`(958)=>`(fun p kv=>bC X.K H p [kV kv.1,kv.2])
|`(959)=>`(partsOf ts nd)
|`(960)=>`({o,ho,fun v q=>by rw[hd]at q;cases q})
|`(965)=>`((ord[i]?).map fun v=>(v,fst (i+1)))
|`(966)=>`(.ref e)
|`(967)=>`(212 st)
|`(968)=>`(228 st)
|`(969)=>`(279 (0<=n) (n<=15))
|`(970)=>`(41-(d:Int))
|`(971)=>`(80 210)
|`(972)=>`(Key×Value)
|`(973)=>`(PC.tx KX G _ _ _ _)
|`(974)=>`(S.ac.length+size f)
|`(975)=>`(Str->Option jK)
|`(976)=>`(aS 29 (59 rfl))
|`(977)=>`(by rw[bU,cy];omega)
|`(978)=>`(dg X (gT op) r)
|`(979)=>`(fun z=>by rw[z,x.dict]at h;cases h)
|`(980)=>`(uses f i||uses g i)
|`(981)=>`({[.type "set",a],[]})
|`(983)=>`((196 x.f).map (own 0 (fresh x.f)))
|`(984)=>`(Fn X.K X.mg x st ps)
|`(985)=>`(HK prog w K)
|`(986)=>`(I.gy x c e)
|`(987)=>`(K.In s.heap)
|`(988)=>`(W.frame _ _ _ qr fun b FR o e=>?_)
local macro_rules
|`(989)=>`(absurd (show false=true from hs) df)
|`(990)=>`(ac.length=aZ.length)
|`(991)=>`(by rw[BW iY];exact dG (ajj ds) z2)
|`(992)=>`(cP X.prog X.w H' h')
|`(993)=>`(fun z=>by rw[z,x.row]at h;cases h)
|`(994)=>`(t_ s.heap x dx C mA)
|`(995)=>`(ys.length<=sizeLine)
|`(996)=>`({if b=true then .tt else .ff,[],st})
|`(1001)=>`(.of fun b o h=>S1 _ _ (S0 _ _ h))
|`(1002)=>`(.tup [bV (107 x.f x.c).1,.ref q])
|`(1003)=>`(22 (ib ho hd (x:=.int i 0) rfl ?_))
|`(1004)=>`(22 (ib hz rfl (x:=.ref TI) rfl ?_))
|`(1005)=>`(22 (ib hz rfl (x:=.ref TO) rfl ?_))
|`(1006)=>`(38 (442 T.yS (Rh T) (aa 88 734)))
|`(1007)=>`(80 ((r'++[1000000+1]).map V.int))
|`(1008)=>`(fun i h=>h.IsStrIter it ty x t i)
|`(1009)=>`(ps.map fun(n:Nat)=>V.int (n:Int))
|`(1010)=>`(typeLookup (.type B) fld=pure none)
|`(1011)=>`({_,rfl,_,rfl,_,_,rfl,rfl,_,rfl,?_})
|`(1014)=>`(.builtin "sorted")
|`(1015)=>`(Option F×List Atom×List Bytes)
|`(1016)=>`(S.ac.length+db done+size last-1)
|`(1017)=>`(by simpa using hi)
|`(1018)=>`(by simpa using hv)
|`(1019)=>`(endOf ((jG 225 []).getD p none))
|`(1020)=>`(fun b ps e=>{#[],by rw[e];simp})
|`(1021)=>`(hm b _ q fun z=>z)
|`(1022)=>`(i3 m w mk rec d l t=.ok (f,l1,t1))
|`(1023)=>`(w.params.followText "set-order")
|`(1024)=>`({.bl _,H1,I1,by rw[r1.Pw];rfl,q1})
local macro_rules
|`(1026)=>`(((tI.same S4).same S5).same S7)
|`(1027)=>`(.alike f g b)
|`(1028)=>`(22 (ib ho hd (x:=.ref t) rfl ?_))
|`(1029)=>`(22 (ib hz rfl (x:=.none) rfl 78))
|`(1030)=>`(38 (cF T.C'))
|`(1031)=>`(80 ((gF s (c ns)).2.map V.int))
|`(1032)=>`(Tu ?_ ho hx hd MR RC Dx ff jj ?_)
|`(1033)=>`(aG 125 fun c s1 ⟨H1,I1,q1⟩=>?_)
|`(1034)=>`(bn (show h.get? a=some _ from x))
|`(1035)=>`(cs.getD wa 0)
|`(1036)=>`(row.set st c)
|`(1037)=>`(rs.getD 0 [])
|`(1038)=>`(show j<(153 f).length by omega)
|`(1039)=>`(show¬((cj t==fh)=true)from df)
|`(1040)=>`(⟨hp,g,d,tk,os⟩)
|`(1046)=>`(.type "function")
|`(1047)=>`(257 d (.b_ od u))
|`(1048)=>`(89 (69 fx) df)
|`(1049)=>`(Value×List Value->Shared->Prop)
|`(1050)=>`(bs.map fun h=>V.int (endOf h))
|`(1051)=>`(by rw[<-l3,sizeLine_eq];omega)
|`(1052)=>`(by rw[hb];decide)
|`(1053)=>`(by simpa using e)
|`(1054)=>`(by unfold dq;rfl)
|`(1055)=>`(fH rec d l t mk r=.ok (f,l1,t1))
|`(1056)=>`(fun _ _ _=>False)
|`(1057)=>`(gu X.env.cells scope.names [])
|`(1058)=>`(s.heap.IsSliceOf sl vl vu .none)
|`(1059)=>`(st+(a+1)+cells f)
|`(1060)=>`(xs.size==ys.size)
local macro_rules
|`(22 $x)=>`(wpAny_bind $x)
|`(25 $x $y $z)=>`(aN $x $y $z (fun _ _=>rfl))
|`(30 $x)=>`(eT $x w K mg base N qf scope ff CW cd A outer s0 H0 E)
|`(38 $x)=>`(aa $x ae)
|`(46 $x)=>`(fun _ _ _ _ _=>$x)
|`(58 $x)=>`(wpAny_pure $x)
|`(59 $x)=>`(aS $x {by show 1<=sizeLine;decide,fun D H1 S1 f1 e1=>k' H1 D S1 e1})
|`(68 $x)=>`(cw du rfl T.dh dn $x)
|`(69 $x)=>`(show false=true from $x)
|`(70 $x)=>`(flat $x f 0 0)
|`(73 $x $y $z)=>`(bh $x $y $z (bi _))
|`(74 $x)=>`({_,rfl,by show 1<=sizeLine;decide,fun D H1 S1 f1 e1=>$x H1 D S1 e1})
|`(75 $x)=>`(bB $x (au (aF (bp (38 (eP eG ap))))) bI)
|`(76 $x)=>`({_,rfl,_,rfl,W.a,_,_,_,rfl,X.at_,rfl,_,_,rfl,.inl $x,_,_,rfl,rfl,_,rfl,?_})
|`(80 $x)=>`(.lst $x)
|`(89 $x $y)=>`(absurd $x $y)
|`(90 $x $y)=>`(aQ (i:=2) $x rfl 18 $y)
|`(92 $x $y)=>`(aQ (i:=3) $x rfl 18 $y)
|`(96 $x)=>`(Option $x)
|`(98 $x)=>`(.ins T.bx W.dx $x)
|`(102 $x)=>`(uG (aG (ha pos pins s σ H _ I h) fun us s1 ⟨vs,H1,I1,r1,q1⟩=>?_) hs $x)
|`(103 $x $y)=>`(if fz $x=false then(s,[-1])else cz s $y)
|`(107 $x $y)=>`(watch $x (nowOf s.atoms ns) $y)
|`(112 $x)=>`(watch f (nowOf l xs) $x)
|`(113 $x)=>`(bB $x (au (aF (bp (38 (cF T.oq))))) bI)
|`(116 $x $y)=>`(fun b o h=>$x _ _ $y)
|`(117 $x)=>`(backTo $x (starEach es X.env))
|`(121 $x)=>`(aX T.cx $x 56)
|`(122 $x $y)=>`(dQ eD fj fk eS $x $y)
|`(129 $x)=>`((by decide+kernel:decide $x=false))
local macro_rules
|`(131 $x)=>`(.Call $x (e::es) [] pos)
|`(137 $x)=>`(watch $x x (c.drop (a+1)))
|`(141 $x)=>`(upd $x D (.lst []))
|`(142 $x)=>`({rfl,_,aq.of $x})
|`(153 $x)=>`(rows $x (aC.map (nowOf l)))
|`(155 $x)=>`(S.ac++$x lc 67 S.ac.length S.c)
|`(156 $x)=>`(bb (cX P w C) $x w K mg base N b4 scope f cd A outer s0 H0 E)
|`(157 $x)=>`((bP.mp h).elim $x (fun h=>by rw[cM.mp h];exact none_ _ rfl))
|`(160 $x)=>`(GC (K:=K) (a:=a) (xs:=xs) $x (Built.start hD) (fun i H _ B=>hl H B.same) (fun i x H hi B=>?_) (fun H B=>?_))
|`(161 $x)=>`({s1.heap.objs.size+4,[s1.heap.objs.size+4,s1.heap.objs.size+2,s1.heap.objs.size+3,s1.heap.objs.size,s1.heap.objs.size+1],_,_,H1,rfl,I2,$x (ajg s1.heap.objs.size a b la lb),{hz,dR,{_,_,d7},h1,h2},fun c oY=>?_,q})
|`(162 $x)=>`(aj (cr (iX T.bN T.oO (wm T) hr 56 (38 cu))) $x)
|`(165 $x)=>`({_,rfl,r,_,_,rfl,X.at_,rfl,r,$x,rfl,X,?_})
|`(167 $x $y $z)=>`({_,_,_,_,by decide,rfl,$x T,⟨a,b,rfl⟩,$y,$z})
|`(170 $x $y)=>`(aQ (i:=4) $x rfl 18 $y)
|`(183 $x)=>`({o,[n+size f-1,n+size f+size g-1],$x})
|`(184 $x $y)=>`(aQ (i:=1) $x rfl 18 $y)
|`(186 $x)=>`(aj (75 (73 nc 88 (68 (38 (aX T.cx T.ge 56))))) $x)
|`(187 $x)=>`(bb CX P w K mg base N b4 scope f $x A outer s H E)
|`(188 $x)=>`({_,rfl,l,_,_,_,rfl,rfl,hl,rfl,rfl,_,rfl,$x 47 {by show 1<=sizeLine;decide,fun q H1 S1 e1=>?_}})
|`(190 $x)=>`(upd H s.heap.objs.size $x)
|`(192 $x)=>`(Option $x->Shared->Prop)
|`(196 $x)=>`(flat s.atoms $x 0 0)
|`(198 $x)=>`(aG $x fun v s1 ⟨x,H1,I1,r1,q1⟩=>?_)
|`(199 $x)=>`({r,_,_,rfl,$x,fun hw=>?_,fun hw=>?_})
|`(202 $x)=>`(aG 125 fun v s1 ⟨x,H1,I1,r1,q1⟩=>$x (aG (hb pins s1 σ H1 _ I1 q1) fun u s2 ⟨y,H2,I2,r2,q2⟩=>aG (ho pins s2 σ H2 x y v u _ I2 r1 r2 q2) fun d s3 ⟨z,H3,I3,r3,k,e,q3⟩=>?_))
|`(212 $x)=>`(c.drop $x)
|`(215 $x)=>`(rows $x (h.take i))
|`(216 $x $y)=>`(j6 rfl $x (z6 rfl T.yo (38 (68 (38 (25 bD (pv 1) ap))))) (own:=[("place",2)]) 20 $y (46 ii) (46 (ig (bh Ny ap (bJ T.uZ (F3 T) hr (aa 56 (aa 66 (aa 88 (38 ap))))) 77) ap ap)))
|`(217 $x)=>`(eval $x X.env)
|`(218 $x)=>`(watch $x x (watch f x c).2.2)
local macro_rules
|`(221 $x)=>`({_,rfl,r,_,_,rfl,$x,rfl,?_})
|`(222 $x)=>`({_,rfl,$x,rfl,_,rfl,?_})
|`(228 $x)=>`(flat l f n $x)
|`(229 $x)=>`(place $x {x:=x,op:=op,n:=z})
|`(230 $x)=>`({_,rfl,W.a,W.dx,_,rfl,$x,(show(5:Nat)<1000 by decide),?_})
|`(239 $x)=>`(.Attribute o $x di)
|`(240 $x)=>`(s.heap.push $x)
|`(241 $x)=>`(idxs $x S.ac.length)
|`(246 $x)=>`(dM wa wb $x i (fK r (i+1)))
|`(247 $x)=>`(nd.parts.map fun p=>acc.getD $x [])
|`(250 $x $y)=>`(be b4 $x s.heap.objs.size f $y)
|`(257 $x $y)=>`(upd H $x $y)
|`(264 $x)=>`(cE (i:=2) $x rfl 18)
|`(271 $x)=>`(fun z=>$x (by simp[z]))
|`(273 $x)=>`({_,rfl,r,_,_,_,rfl,$x,rfl,?_})
|`(276 $x $y)=>`({.int $x,H,I.tok _,{_,rfl},$y})
|`(278 $x)=>`(nz T.bx T.aJ (fun ns=>ns.length=1) $x)
|`(279 $x $y)=>`(decide $x&&decide $y)
|`(281 $x $y)=>`(s.heap.get? $x=some $y)
|`(288 $x)=>`(S.ac++flat l2 $x S.ac.length (S.c+(Op.since wa wb).width)++flat l2 g (S.ac.length+size f) (S.c+(Op.since wa wb).width+cells f))
|`(289 $x)=>`({_,rfl,l,_,_,_,rfl,rfl,hl,nJ $x [],?_})
|`(294 $x)=>`({_,$x,fun v q=>nomatch q})
|`(295 $x $y)=>`({s1.heap.objs.size+1,[s1.heap.objs.size+1,s1.heap.objs.size],_,_,H1,rfl,I2,$x a (s1.heap.objs.size+1) s1.heap.objs.size,$y,fun b hb=>?_,q})
|`(299 $x)=>`(cE (i:=5) $x rfl 18)
|`(302 $x)=>`(.ins $x R.dx (cN {R with k:=R.k+1}))
|`(306 $x)=>`(onceCells $x b _ (c.take (a+1))++(137 f).2.1)
|`(307 $x)=>`({T0,_,rfl,bC.of $x,rfl,_,_,rfl,_,_,rfl,rfl,?_})
|`(318 $x)=>`(eM ac aZ xs $x)
|`(321 $x $y $z)=>`(uI (name:=kT "__next__") $x $y $z)
|`(324 $x $y)=>`(H $x=some $y)
local macro_rules
|`(326 $x)=>`(done.foldr $x last)
|`(327 $x)=>`(uR (T:="StopIteration") (b:=true) $x KO ?_)
|`(328 $x)=>`({s1.heap.objs.size,[s1.heap.objs.size],_,_,H1,rfl,I1.kept (t':=s1.toks) fun b o e=>bG _ e,$x a _,194,fun b hb=>?_,q})
|`(334 $x $y)=>`(i8 $x $y hr (aa 56 (38 179)))
|`(343 $x)=>`(25 cO $x ap)
|`(344 $x)=>`(fun _ _ ⟨b,e1,e2⟩=>$x)
|`(345 $x)=>`(onceCells wa wb $x cs)
|`(351 $x)=>`(cE (i:=3) $x rfl 18)
|`(352 $x)=>`(cE (i:=4) $x rfl 18)
|`(353 $x)=>`(cw (zk rfl) rfl T.wZ boot_max $x)
|`(354 $x $y)=>`(h.get? $x=some $y)
|`(360 $x)=>`(89 $x (iw _))
|`(361 $x)=>`(if$x=true then _ else _)
|`(362 $x)=>`(watch f x $x)
|`(364 $x)=>`(AG (h₀:=X.base) I.ok.mod.rm $x (aG (ha pos pins s σ H _ I h) fun us s1 ⟨vs,H1,I1,r,q⟩=>{I1.eU,?_}) he dj)
|`(365 $x)=>`(g6 T.cx $x 56 (j6 rfl rq.nd (io 88) (own:=[("pair",5)]) 20 (46 (299 rq.nd)) (46 ii) (46 (25 cO (pv 5) ap))))
|`(368 $x)=>`(wpAny_holding $x)
|`(369 $x $y)=>`({_,rfl,r,_,_,rfl,$x,rfl,r,_,rfl,$y,?_})
|`(383 $x)=>`(kJ $x C XE pins)
|`(388 $x $y)=>`(HT.ba xs.length 0 $x=0/\HT.ba xs.length xs.length $y=xs.length)
|`(393 $x $y)=>`(fun z=>$x $y)
|`(396 $x)=>`((bP.mp h).elim $x (fun h=>by rw[cM.mp h];exact vD w.1))
|`(397 $x)=>`(fun H' S=>aq.of $x)
|`(398 $x)=>`({_,rfl,a,dx,_,_,rfl,$x,rfl,rfl,_,rfl,?_})
|`(399 $x $y)=>`(concat_meets {_,ho,rfl} {_,ug,rfl} VQ VR VS VT (VU _ _) $x $y)
|`(404 $x)=>`({q1,q2,_,_,rfl,rfl,S2 _ _ $x,e2,?_,fun q3 H3 S3 e3=>?_})
|`(419 $x $y $z)=>`(gZ gY rfl $x $y $z)
|`(421 $x)=>`({_,$x,?_})
|`(423 $x)=>`(aE X.prog X.w X.K X.mg X.base $x k fn.a fn.fd ps sp)
|`(424 $x)=>`(aX T.cq T.gm $x)
local macro_rules
|`(425 $x)=>`(wpAny_specialOf hT $x ?_)
|`(426 $x)=>`({_,rfl,l,_,_,_,rfl,rfl,S1 _ _ hl,rfl,_,rfl,_,rfl,p,_,rfl,aq.of (S1 _ _ hp),fun D2 H2 S2 f2 e2=>$x})
|`(427 $x)=>`({fun i m H=>m=xs.length-i/\i<=xs.length/\jQ H1 D Rel $x H,{xs.length,by simp,bA _,jQ.start hD},?_})
|`(440 $x)=>`(iX T.bN T.pL (wR T) hr 56 $x)
|`(441 $x)=>`(nsIn K mainGlobals x=some $x)
|`(442 $x $y $z)=>`(bJ $x $y hr $z)
|`(448 $x)=>`((h.push {cls:=.type "dict",data:=.dict #[]}).update $x fun y=>{y with dict:=some h.objs.size})
|`(452 $x)=>`({by show 1<=sizeLine;decide,fun D1 H1 S1 f1 e1=>$x})
|`(453 $x $y)=>`({r,_,toks,t,l,rfl,$x,$y,by show S.ac.length+_<=_;omega,?_})
|`(464 $x)=>`((items.toList.drop (ba items.size 0 lo)).take $x)
|`(465 $x)=>`(backTo pos $x)
|`(466 $x)=>`(fun _ _ h=>h.same $x)
|`(467 $x)=>`(w.params.followText "set-order"=$x)
|`(468 $x)=>`({D,_,_,rfl,rfl,$x,len,z1,z2,_,_,rfl})
|`(476 $x $y)=>`(aQ (i:=5) $x rfl 18 $y)
|`(479 $x)=>`({_,rfl,l,_,_,.int $x,rfl,rfl,hl,dA (j:=1) rfl,?_})
|`(488 $x)=>`(nd.parts.map fun p=>acc.getD p $x)
|`(492 $x)=>`(ts++mid++[t]++$x++[t2])
|`(493 $x $y)=>`(s.heap.IsTuple $x $y)
|`(502 $x $y $z)=>`(wpAny_call_entry $x hT $y ?_ $z)
|`(507 $x)=>`((bu i).map fun i=>(246 q).any $x)
|`(508 $x)=>`(numsOf cs $x)
|`(512 $x)=>`(aX T.bN $x 56)
|`(516 $x)=>`(hs.2 $x (cI (dY (bn e) (I.ok.tM x c JM hc))))
|`(522 $x)=>`({_,rfl,r,_,_,rfl,$x,rfl,_,rfl,?_})
|`(527 $x)=>`(flat $x f n s1++flat l g 220 s2++[(183 s3)])
|`(528 $x)=>`({u,rfl,Aw (s:={s with heap:=h'}) e c d 29 $x})
|`(537 $x)=>`({_,rfl,.inl (142 e4),_,rfl,D,_,_,rfl,rfl,e4,by rw[az,sizeLine_eq];omega,q _ _ $x})
|`(546 $x)=>`(.inr $x)
|`(547 $x)=>`(S2 _ _ $x)
local macro_rules
|`(548 $x)=>`(X.mg x=some $x)
|`(549 $x)=>`(aq.of $x)
|`(550 $x)=>`(fun s ns=>pC $x)
|`(551 $x)=>`(watch $x (nowOf s.atoms x) w.c)
|`(552 $x)=>`({x,H,I1,ru,{rfl,fun ys hy=>by rw[I.wN hy hq];exact hx},$x,fun b hb=>(hf b hb).1})
|`(553 $x $y)=>`(K.lookup $x=some $y)
|`(554 $x $y)=>`(bB $x $y bI)
|`(561 $x)=>`(want (outF l f p.c n) (outF l g p.d n)=$x)
|`(581 $x)=>`(call_list_seq p $x ho hc hd (fun h' c' kp e=>fin ai r' hz h' c' kp e) 391)
|`(582 $x $y)=>`(k8 l f g $x want b $y (begin_ f g))
|`(588 $x)=>`(((c::r').zip (r'++[1000000+1])).take $x)
|`(589 $x)=>`(El T.bN T.uz (Bp T) hr 56 $x)
|`(590 $x)=>`(dO (70 l)++$x (flat l g 0 0))
|`(591 $x)=>`(iX T.bN T.tH (Ep T) hr 56 $x)
|`(592 $x)=>`(ns.map $x)
|`(593 $x)=>`({"str",_,F.plainAttrs_str,slot,ty,Ke _ _ _,(fun _ e=>nomatch e),Kf rfl $x})
|`(605 $x)=>`(25 bD $x (eP eG ap))
|`(606 $x)=>`(bQ gK $x ap)
|`(607 $x)=>`(jF $x 88 174 (bi _))
|`(617 $x)=>`(acc++mid++[aK l br f]++$x++[aK l br g])
|`(618 $x)=>`({.ref s.heap.objs.size,_,I1,rfl,$x,{IV,?_,{u,u2,?_},?_,?_},fun c oY=>?_})
|`(631 $x)=>`((bu i).map fun i=>decide $x)
|`(632 $x)=>`(S3 _ _ $x)
|`(633 $x)=>`(aS $x {_,fun aW H' p=>p,?_})
|`(635 $x)=>`(flat $x f n s1++[{o,[n+size f-1],s2}])
|`(636 $x)=>`(sinceCells a b _ _ (c.take (a+1))++$x)
|`(637 $x $y)=>`(ji $x $y fun _ _ h'=>h')
|`(641 $x $y)=>`({_,rfl,x,dx,_,rfl,$x _ _ aM,$y,?_})
|`(642 $x $y $z)=>`(.Subscript $x $y $z)
|`(652 $x)=>`(.Call $x [] [] pos)
local macro_rules
|`(653 $x)=>`(acc++mid++[aK l G f]++$x++[aK l G g])
|`(654 $x)=>`(bit w'::cs.take $x)
|`(655 $x)=>`(fun h=>ih $x _ _ nd h)
|`(656 $x)=>`(gE $x 29 29)
|`(657 $x)=>`(getMethod ov $x pl)
|`(674 $x)=>`(one f $x _ _ _ _ _ rfl (ih _ _ _ h))
|`(675 $x)=>`(wpAny_call_entry KY hT F.entry_zip_next $x (F.args_zip_next_1 _))
|`(676 $x $y)=>`(IsTup k s.heap $x $y)
|`(696 $x)=>`(((bu l.length).filter (uses f)).filterMap fun i=>(l[i]?).map $x)
|`(697 $x)=>`((iy _ _ (cJ hJ)).trans $x)
|`(698 $x)=>`((iy _ _ (cJ hb)).trans $x)
|`(699 $x)=>`(hb pins s1 σ H1 $x I1 q1)
|`(700 $x)=>`(s.heap.get? $x=some {cls:=.type "list",data:=.seq ai.toArray n})
|`(701 $x)=>`({by show 1<=sizeLine;decide,fun D H1 S1 f1 e1=>out $x H1 D S1 e1})
|`(716 $x)=>`(.cons $x .nil)
|`(717 $x)=>`(aK l br $x)
|`(718 $x)=>`(fun q z=>hw $x)
|`(719 $x $y $z)=>`({_,_,_,_,by decide,rfl,$x T,rfl,$y,$z})
|`(725 $x)=>`(73 cD $x ap)
|`(727 $x)=>`(RE hh g1 g2 rfl g3 g4 (fun v hv=>?_) (fun v h' e g sb=>?_) $x)
|`(728 $x)=>`(bit v::cs.take $x)
|`(729 $x)=>`(g6 T.cx $x 56 505)
|`(730 $x)=>`(po $x nd cV)
|`(731 $x)=>`(starEach $x X.env)
|`(750 $x)=>`((al.take j).foldl 115 $x)
|`(751 $x)=>`(b5 _ _ $x)
|`(752 $x)=>`(dM wa wb $x i 0)
|`(753 $x)=>`(eX xs $x nd (own 0 c nd))
|`(754 $x)=>`(fun v r1=>fH rec d l (w::r) $x r1)
|`(755 $x)=>`(jM $x rfl ?_)
local macro_rules
|`(770 $x)=>`(aE P w K mg base 154 k T.kx.a T.kx.fd ["reader","depth"] $x)
|`(771 $x)=>`(aE P w K mg base 154 k T.lO.a T.lO.fd ["reader","depth"] $x)
|`(772 $x)=>`({238,fun H'=>jQ H1 D Rel $x H',fun H' p'=>110,fun v H' y=>?_})
|`(777 $x)=>`(assignEach $x X.env)
|`(778 $x)=>`(ou fun i j=>.int $x)
|`(779 $x)=>`(x.cps.toList.map $x)
|`(797 $x)=>`(fnOf x $x (qF st) (oA st) (a_ st) .none kV dc pm an cd ct)
|`(798 $x)=>`(mo I hg hm $x (102 rfl))
|`(803 $x)=>`(.ins $x dx (uo ⟨o,ps,st⟩ pn pp))
|`(804 $x)=>`({_,rfl,$x,dx,_,_,rfl,N.at_,rfl,pn,_,_,_,rfl,rfl,kn,rfl,?_})
|`(805 $x)=>`({_,rfl,_,rfl,x,dx,_,rfl,aM,$x,?_})
|`(843 $x)=>`(Binds $x fd ["self","word"] [])
|`(844 $x)=>`(S.ac++flat l1 f S.ac.length $x)
|`(845 $x)=>`(aa 179 $x)
|`(846 $x)=>`(aj $x (au (aF 88)))
|`(847 $x)=>`(fun H' S=>bC.of $x)
|`(848 $x)=>`(fun b o _ _ hc e _=>k b o $x e)
|`(849 $x)=>`(ou fun i j=>.bl $x)
|`(850 $x)=>`(wipe σ $x)
|`(851 $x)=>`({_,rfl,a,dx,_,_,rfl,$x,rfl,.inr nd.op.kind,rfl,_,rfl,?_})
|`(852 $x $y)=>`(r6 Ky {_,ho,rfl} F.entry_tuple_mul (F.args_tuple_mul_2 _ _) $x $y)
|`(878 $x)=>`((bit _::c.take (m-1)).take $x++(362 (212 (m-1))).2.1)
|`(879 $x)=>`(rs.map fun r=>r.getD $x false)
|`(880 $x $y)=>`(r6 Kh (xB s k t) F.entry_int_rmul (F.args_int_rmul_2 _ _) $x $y)
|`(909 $x)=>`(HO.b_ {cls:=.type "tuple",data:=.seq vs.toArray} $x)
|`(910 $x)=>`(S1.trans $x)
|`(911 $x)=>`(bb $x P w K mg base N b4 (a_ st) f aO A outer s H E)
|`(912 $x)=>`(eX $x (318 i).1 nd cs)
|`(913 $x)=>`(uw s.heap $x l2)
|`(929 $x)=>`(HO.b_ {cls:=.type "list",data:=.seq vs.toArray} $x)
local macro_rules
|`(930 $x)=>`(dH.mp $x)
|`(931 $x)=>`(fun v H'=>Dw $x H' v (r.ret.enc (EQ r.args r.f a)))
|`(932 $x)=>`(ys.map fun(i:Nat)=>rawInt $x)
|`(933 $x $y)=>`(aQ (i:=6) $x rfl 18 $y)
|`(947 $x)=>`({_,rfl,r,_,_,rfl,$x,rfl,_,rfl,_,rfl,_,rfl,_,rfl,?_})
|`(948 $x $y)=>`(.count $x $y)
|`(961 $x)=>`(UB I3 $x xn (let⟨_,_,o,_,_,e,_⟩:=f;⟨o,e⟩) (F6 f))
|`(962 $x)=>`(j9 yw $x mi (iI 174))
|`(963 $x)=>`(s.heap.objs.size<=$x)
|`(964 $x $y)=>`(show cQ P w H h a $x from ok a _ $y)
|`(982 $x)=>`({_,rfl,_,rfl,po,_,_,_,rfl,rfl,b5 _ _ iR,Af 23,$x})
|`(997 $x)=>`((xs++[x]).map $x)
|`(999 $x)=>`(Vbavaf.ints $x)
|`(1012 $x)=>`(s.heap.IsTupleIter it t $x)
|`(1013 $x)=>`(upd (257 dx (.own x)) x $x)
|`(1025 $x $y)=>`({_,rfl,W.a,_,_,_,rfl,$x,rfl,_,_,rfl,.inl $y,rfl,_,rfl,?_})
|`(1041 $x)=>`(.BoolOp .And $x pos)
|`(1042 $x)=>`(ac.map fun n=>$x)
|`(1043 $x)=>`(aj $x (au (aF 174)))
|`(1044 $x)=>`(fun i σ H2 _ z=>aq.of $x)
|`(1045 $x)=>`(keepIn K $x=true)
|`(1061 $x)=>`(rowAt ac aZ $x)
|`(1062 $x)=>`(wpAny_loadName_local I.ok.kind hk hn hm $x)
|`(1063 $x)=>`({_,rfl,_,_,rfl,.inl $x,_,_,rfl,rfl,_,rfl,?_})
|`(1064 $x $y)=>`(P_ hh st.1 st.2 rfl cC $x (fun v nx h' e g sb=>?_) $y)
local macro_rules
|`(tactic|ext:0)=>`(tactic|(dsimp only))
|`(tactic|ext:1)=>`(tactic|(obtain⟨W,l,s,ns,rfl,_⟩:=h;rfl;obtain⟨W,l,s,ns,rfl,X,ok,hl,gI,k⟩:=h))
|`(tactic|ext:2)=>`(tactic|(refine 232;obtain⟨x,q,qc,vs,vl,ex,hm,hf,mC,hq,nq,hc,vg,nY⟩:=X.get hb.1 23;rw[ex]at k';have fo:=ok.jv x hm))
|`(tactic|ext:3)=>`(tactic|(injection h with h;injection h with h1 h2;injection h2 with h2 h3;subst h3))
|`(tactic|ext:4)=>`(tactic|((have kl:D≠S.pn:=fun z=>by obtain⟨vs,h,_⟩:=X1.nodes;rw[<-z]at h;rw[show H1 D=_ from h]at f2;cases f2);(have HW:D≠S.pw:=fun z=>by have h:=X1.words;rw[<-z]at h;rw[show H1 D=_ from h]at f2;cases f2);(have pO:D≠r:=fun z=>by have h:=X1.at_;rw[<-z,f2]at h;cases h);(have fD:H D=none:=by cases q:H D with|none=>rfl|some o=>rw[S1 D o pO kl q]at f2;cases f2)))
|`(tactic|ext:5)=>`(tactic|(simp only[cells];omega;subst h;simp[Op.width,cells]))
|`(tactic|ext:6)=>`(tactic|(obtain⟨r,rfl⟩:∃r,rs=[r]:=iz.mp ar;obtain⟨p,hl,hp⟩:=mF.one;have tK:=ln r 42))
|`(tactic|ext:7)=>`(tactic|(exact(S4.trans S5) b o h1 h2 h;have X6:=X5.QA (ys:=(241 67).map nV++[.int (((155 cR).length+size g-1:Nat):Int)]) d5 kl HW;(have e1:S.ac++cR l2 741 S.ac.length S.c=S.ac++cR lc 67 S.ac.length S.c++flat l2 g (155 cR).length (S.c+dD 67):=by rw[Gw,fU,mn,Gh ex Ab,gp]);(have e2:S.c+dD 741=S.c+dD 67+cells g:=by rw[QC,eE])))
|`(tactic|ext:8)=>`(tactic|((have e':c=s1.heap.objs.size+4\/c=s1.heap.objs.size+2\/c=s1.heap.objs.size+3\/c=s1.heap.objs.size\/c=s1.heap.objs.size+1:=by simpa using oY);(have jU:s1.heap.objs.size<=c:=by rcases e' with z|z|z|z|z;rw[z];exact p_ _ _;rw[z];exact p_ _ _;rw[z];exact p_ _ _;rw[z];exact aV _;rw[z];exact p_ _ _);exact 525))
|`(tactic|ext:9)=>`(tactic|(have a1:=a.next;have X1:=X.nums (S.k+1) S.c;have S1:bZ r S.pn H 169:=.gj))
|`(tactic|ext:10)=>`(tactic|(generalize upd H r (.ins T.bc S.dx (cN {S with k:=S.k+1}))=H1 at X1 S1))
|`(tactic|ext:11)=>`(tactic|(obtain⟨nd,a,dx,pn,pp,l,po,ts,cs,rfl,_⟩:=h;rfl;obtain⟨⟨o,pR,st⟩,a,dx,pn,pp,l,po,ts,cs,rfl,N,⟨wa,wb,ho⟩,hl,iR,pre,k⟩:=h))
|`(tactic|ext:12)=>`(tactic|(rw[ea]at k';by_cases hn:(s.fs.length:Int)<=f;rw[tm hn]at k';exact 472))
|`(tactic|ext:13)=>`(tactic|(refine 83;rintro i m σ H ⟨rfl,hi,p⟩;have q:=hl i σ H hi p;by_cases aY:i<xs.length))
|`(tactic|ext:14)=>`(tactic|(rw[oH uN _];show wpAny _ A.in1 836 _ _ s;rw[0,(755 hS)];show wpAny _ A.in1 462 _ _ s))
|`(tactic|ext:15)=>`(tactic|(obtain⟨nd,a,dx,pn,pp,l,rs,rfl,_⟩:=h;rfl;obtain⟨nd,a,dx,pn,pp,l,rs,rfl,N,⟨wa,wb,ho⟩,mF,ar,ln,k⟩:=h;rw[ho]at ar))
|`(tactic|ext:16)=>`(tactic|(intro pins s σ H x y v u Q I rx ry h;obtain⟨a,n,l,ps,ns,rfl,rfl,h1,h2,h3,q⟩:=h;obtain⟨as,r1⟩:=Dp.reads I (iE n) 152 v (.tup (.of h1) (wD _)) rx;obtain⟨bs,r2⟩:=Dp.reads I (.list (592 iE)) 283 u (.lst (.of h2) (F4 h3)) ry))
|`(tactic|ext:17)=>`(tactic|((have d4:upd H3 r 130 D=some 620:=by rw[ay pO];exact d3);refine(369 X3.at_ X3);ext:0;generalize upd H3 r (.ins T.bc S.dx (cN {S with k:=kc+1,ac:=S.ac++cR lc (done++[last]) S.ac.length S.c,c:=S.c+dD (done++[last])}))=H4 at X4 S4 d4))
|`(tactic|ext:18)=>`(tactic|(obtain⟨r,S,toks,t,l,rfl,_⟩:=h;rfl;obtain⟨r,S,toks,t,l,rfl,X,a,sz,kk⟩:=h))
|`(tactic|ext:19)=>`(tactic|(rw[mJ 249]at e4;refine 105;refine 87;rw[bU,az,sizeLine_eq]))
|`(tactic|ext:20)=>`(tactic|(have e:i=xs.length:=by omega))
|`(tactic|ext:21)=>`(tactic|(have I2:Inv X pins σ H1 {s1 with heap:=h'}:=I1.kept (t':=s1.toks) hk))
|`(tactic|ext:22)=>`(tactic|(dsimp only at h))
|`(tactic|ext:23)=>`(tactic|(split at h))
|`(tactic|ext:24)=>`(tactic|(rw[show ai.toArray.any (jd x)=ai.any (jd x) by simp,yn r fs];exact q))
|`(tactic|ext:25)=>`(tactic|(omega;rw[dJ]at hx;obtain⟨p,hp,rfl⟩:=hx;have CP:=(730 i).2 p hp))
|`(tactic|ext:26)=>`(tactic|(obtain⟨v2,h2,p2⟩:=X.fs;have l2:=bY p2))
|`(tactic|ext:27)=>`(tactic|((have e':b=s1.heap.objs.size+1\/b=s1.heap.objs.size:=by simpa using hb);(have jU:s1.heap.objs.size<=b:=by rcases e' with z|z;rw[z];exact p_ _ _;rw[z];exact aV _);exact 525))
|`(tactic|ext:28)=>`(tactic|(obtain⟨ex,mn⟩:=sK.ext;intro H5 k5 S5 a5 X5;have d5:=S5 _ _ pO kl d4;(have il:((241 67).map nV).length<sizeLine:=by rw[az,sQ,bw,sizeLine_eq];show done.length+1<_;omega)))
|`(tactic|ext:29)=>`(tactic|(have z2:Ks ds<=1048576:=z;obtain⟨A,h1,h2⟩:=DM ds _ iY p fun d hd=>dG (Hr hd) z2;have k:∀b∈A,b∈a::A:=fun b hb=>cZ _ hb;refine{a::A,cY ..,fun b hb=>?_}))
local macro_rules
|`(tactic|ext:30)=>`(tactic|(refine{vb,?_};unfold jo;ext:0;rw[if_pos rfl]))
|`(tactic|ext:31)=>`(tactic|(have nd:=X.nd;simp only[Wa.own,oF,bE,ic,or_false,not_or,not_false_eq_true,and_true,sD]at nd;obtain⟨⟨Bt,vQ,Iy,Gj⟩,⟨DO,FT,F0⟩,⟨Gz,OB⟩,FY⟩:=nd))
|`(tactic|ext:32)=>`(tactic|(obtain⟨t,rfl⟩:∃t,ts=[t]:=iz.mp pre.ar))
|`(tactic|ext:33)=>`(tactic|(rintro n σ H3 ⟨done,last,lc,tc,kc,rfl,rfl,S3,a3,X3,d3,Ab,He,k3⟩;refine 342;rw[a3.head,oQ];(have fU:(155 cR).length=S.ac.length+db 67:=by rw[bw,JU])))
|`(tactic|ext:34)=>`(tactic|(by_cases aY:i<xs.length;have tR:i<ys.length:=by omega))
|`(tactic|ext:35)=>`(tactic|(have bK:vs.length=ac.length:=bY pn))
|`(tactic|ext:36)=>`(tactic|(intro n st nd h;rw[flat,bP,cM]at h))
|`(tactic|ext:37)=>`(tactic|(obtain⟨i1,i2⟩:=ih x c 23;obtain⟨j1,j2⟩:=aP x (362 c).2.2 (by rw[i2,cy];omega);refine{?_,?_};show((362 c).2.1++(218 g).2.1).length=_))
|`(tactic|ext:38)=>`(tactic|(rw[az,(730 i).1,sizeLine_eq];have:=vY nd.op;ext:25))
|`(tactic|ext:39)=>`(tactic|(simp only[Wa.own,oF,bE,ic,or_false,not_or,not_false_eq_true,and_true,sD]))
|`(tactic|ext:40)=>`(tactic|(have qj:(toString "max"++toString ".loop":String)="max.loop":=by decide))
|`(tactic|ext:41)=>`(tactic|(rw[0,(m3 hz 42 fun w1 y1 q1=>?_)];replace y1:IsZip w1 z TI TO .ellipsis:=y1;refine 146;simp only[List.zipIdx_cons,List.zipIdx_nil,Kl,EM]))
|`(tactic|ext:42)=>`(tactic|(have e1:cR l1 ([]++[f]) S.ac.length S.c=flat l1 f S.ac.length S.c:=fN _;(have e2:dD ([]++[f])=cells f:=by simp[dD]);rw[e1,e2];exact X2))
|`(tactic|ext:43)=>`(tactic|(rw[z];exact p_ _ _;rw[z]))
|`(tactic|ext:44)=>`(tactic|(obtain⟨ys,e,p⟩:=B.ex))
|`(tactic|ext:45)=>`(tactic|(ext:23;(cases e:window r with|error q=>rw[e]at h;exact 245|ok x=>obtain⟨v,r1⟩:=x;rw[e]at h;exact nx (dY (v9 g h) (nQ e)));ext:23))
|`(tactic|ext:46)=>`(tactic|(rw[<-z]at h;rw[show H1 D=_ from h]at f2;cases f2))
|`(tactic|ext:47)=>`(tactic|(ext:0;split;show 1<=_;omega))
|`(tactic|ext:48)=>`(tactic|(intro pins s σ H R I h;refine aG (hl pins s σ H _ I h) fun v s1 ⟨x,H1,I1,r1,q1⟩=>?_;obtain⟨a,e,⟨xs,hq⟩,q⟩:=q1;subst e))
|`(tactic|ext:49)=>`(tactic|(rw[1,rx];obtain⟨t',rfl⟩:=ry))
|`(tactic|ext:50)=>`(tactic|(refine 290;have o2:IsPair w2 TO a b:=q2.extBut _ _ D.TOi1 (q1.extBut _ _ D.TOz d7);rw[0,(755 o2)];rw[0,(Wr o2 fun w3 o3 q3=>?_)]))
|`(tactic|ext:51)=>`(tactic|(show kO _ _ _ _ _))
|`(tactic|ext:52)=>`(tactic|(rw[e]at h;obtain⟨o1,s1⟩:=g _ _ _ _ _ _ _ e))
|`(tactic|ext:53)=>`(tactic|((all_goals walk_at "rd");rename_i k' n;(have e:(n:Int)-1=((n-1:Nat):Int):=by have:1<=n:=wf;omega);show Q (.int ((n:Int)-1)) H))
|`(tactic|ext:54)=>`(tactic|(obtain⟨S,r⟩:=ih ha.1 n st c 23;obtain⟨S2,r2⟩:=aP ha.2 220 603 c 23;rw[<-r]at S2 r2;refine{?_,by rw[hc,<-eE];exact r2}))
|`(tactic|ext:55)=>`(tactic|(intro n st c p nd hm ho))
|`(tactic|ext:56)=>`(tactic|(generalize upd H7 D (.b_ od (.lst (acc.map V.int)))=H8 at zr yk X8 pA;refine 457;rw[ep,eb,Mj sT gA]at e9;have X9:=X8.same S9))
|`(tactic|ext:57)=>`(tactic|(obtain⟨nd,a,dx,pn,pp,l,po,ts,cs,rfl,_⟩:=h;rfl;obtain⟨⟨o,pR,st⟩,a,dx,pn,pp,l,po,ts,cs,rfl,N,ho,hl,iR,pre,k⟩:=h))
|`(tactic|ext:58)=>`(tactic|(have hc:cells (.once a b f)=a+1+cells f:=rfl))
|`(tactic|ext:59)=>`(tactic|(have fl:=dX s.atoms x.f 0 0;have hs:=fo.size))
local macro_rules
|`(tactic|ext:60)=>`(tactic|(ext:19;simp;omega;rw[<-iV]at e4 e6))
|`(tactic|ext:61)=>`(tactic|(refine 146;simp only[newExc,newTuple];refine 22 394;refine 226))
|`(tactic|ext:62)=>`(tactic|(obtain⟨d,e,hd,he,sd,se,q⟩:=h;obtain⟨as,r1⟩:=Dp.reads I d x v hd rx;obtain⟨bs,r2⟩:=Dp.reads I e y u he ry))
|`(tactic|ext:63)=>`(tactic|(obtain⟨o,items,m,ho,_,hd,hi⟩:=hk;obtain⟨n,rfl⟩:∃n',n=n'+1:={n-1,by omega};unfold Fb;rw[0,(425 K5.lookup)]))
|`(tactic|ext:64)=>`(tactic|(exact this))
|`(tactic|ext:65)=>`(tactic|(have hc:cells 883=a+1+cells f+cells g:=rfl))
|`(tactic|ext:66)=>`(tactic|(have hT:s.TypeIs 322 "set_iterator":={_,cB,rfl};unfold pyNext;refine 934;unfold Builtin.«set_iterator.__next__»))
|`(tactic|ext:67)=>`(tactic|(constructor))
|`(tactic|ext:68)=>`(tactic|(have:=ih n _ nd h;simp only[cells];omega;have:=aP _ _ nd h))
|`(tactic|ext:69)=>`(tactic|(obtain⟨o',e1⟩:=I.base.there b o e hx))
|`(tactic|ext:70)=>`(tactic|(obtain⟨nd,a,dx,pn,pp,l,rs,rfl,_⟩:=h;rfl;obtain⟨⟨o,pR,st⟩,a,dx,pn,pp,l,rs,rfl,N,ho,mF,ar,ln,k⟩:=h))
|`(tactic|ext:71)=>`(tactic|(have a4:=a3.next;have X4:=X3.nums (kc+1) (S.c+dD 67);have S4:bZ r S.pn H (upd H3 r 130):=S3.trans .gj;ext:17))
|`(tactic|ext:72)=>`(tactic|(have i4:i<ac.length:=(930 cV).1))
|`(tactic|ext:73)=>`(tactic|(have hl:=g _ _ _ _ _ _ _ e))
|`(tactic|ext:74)=>`(tactic|(rfl;obtain⟨a,rfl⟩:=yO h;rfl))
|`(tactic|ext:75)=>`(tactic|(obtain⟨w,ew,sP⟩:=r.get h2;have hl:=r.length;have hn:=Ah;have fin:EP X pins σ Q w s:=⟨z,H,I,sP,q⟩))
|`(tactic|ext:76)=>`(tactic|(have q:619=if n<=1000000 then some n else none:=rfl;rw[q];by_cases hn:n<=1000000;rw[if_pos hn,if_pos 786]))
|`(tactic|ext:77)=>`(tactic|(rw[show fX f v ((k,x)::r)=473 from rfl];by_cases hk:k=f))
|`(tactic|ext:78)=>`(tactic|((intro b bO Q' hq;cases b<;>first|exact 58 hq|exact mY hq);intro h' sb k';ext:0;exact 58 (h _ h' sb k')))
|`(tactic|ext:79)=>`(tactic|(obtain⟨wL,u1⟩:=nP _ _ _ _ _ _ _ er))
|`(tactic|ext:80)=>`(tactic|(exact aG (hr pos pins s1 σ H1 _ I1 q1) fun us s2 ⟨xs,H2,I2,r2,q2⟩=>{x::xs,H2,I2,.cons r1 r2,q2}))
|`(tactic|ext:81)=>`(tactic|(by_cases uj:n<=60;rw[show(some n).bind 272=some n from by show 285=_;rw[if_pos uj]];ext:0;rw[if_pos]))
|`(tactic|ext:82)=>`(tactic|(intro pins s σ H x y v u Q I rx ry h))
|`(tactic|ext:83)=>`(tactic|(obtain⟨T,x,y,rfl,hT,rfl,y1,y2⟩:=y))
|`(tactic|ext:84)=>`(tactic|(subst this))
|`(tactic|ext:85)=>`(tactic|(ext:61;refine 394;simp only[raiseNew];rw[0,(Wn ?_)]))
|`(tactic|ext:86)=>`(tactic|((have e0:S.ac.length+db 67-1=S.ac.length+db done+size last-1:=by rw[vx,eE]);rw[e0,<-fU];exact X4))
|`(tactic|ext:87)=>`(tactic|(have hc:cells 807=(m-1)+cells f:=rfl))
|`(tactic|ext:88)=>`(tactic|(refine{dd.typeIs,fun b q=>?_,hd};cases q;obtain⟨ob,_,_,h1,h2,_⟩:=dd;exact⟨ob,h1,h2.2.1⟩))
|`(tactic|ext:89)=>`(tactic|(refine 533;refine 888;rw[l2]))
local macro_rules
|`(tactic|ext:90)=>`(tactic|(obtain⟨n,rfl,_⟩:=h;rfl;obtain⟨n,rfl,k⟩:=h))
|`(tactic|ext:91)=>`(tactic|(cases h))
|`(tactic|ext:92)=>`(tactic|(obtain⟨z,ai,n,r,hl,e⟩:=I.vX hH))
|`(tactic|ext:93)=>`(tactic|(have e:dW.cells.lookup y=some c:=e))
|`(tactic|ext:94)=>`(tactic|(have hc:cells 951=a+1+cells f:=rfl))
|`(tactic|ext:95)=>`(tactic|(obtain⟨i1,i2⟩:=ih x 622 111;refine{?_,?_};show(_::(362 622).2.1).length=_;rw[aR,i1,hc]))
|`(tactic|ext:96)=>`(tactic|(rw[show Around.handled (Around.in1 _)=none from hh];refine 799;rw[0,(327 905)];refine 78))
|`(tactic|ext:97)=>`(tactic|(have a1:=a.next;have X1:=X.nums (R.k+1) R.c;have S1:bZ r R.pn H (257 r (302 T.bc)):=.gj))
|`(tactic|ext:98)=>`(tactic|(obtain⟨i1,i2⟩:=vN f x c 23;show dz f ((362 c).2.1++(218 g).2.1)/\dz g 949;rw[dl i1]))
|`(tactic|ext:99)=>`(tactic|(obtain⟨W,l,s,ns,rfl,_⟩:=h;rfl))
|`(tactic|ext:100)=>`(tactic|(obtain⟨i1,i2⟩:=ih x 782 111;refine{?_,?_};show(306 a).length=_;rw[bw,vy 445,i1,hc]))
|`(tactic|ext:101)=>`(tactic|(show(S.ac++cR _ _ _ _).length+_<=_;rw[fU,sQ];omega;have k4:=k3 H4 kc (S3.trans S4) a3))
|`(tactic|ext:102)=>`(tactic|((have e1:items.size-i'=(items.size-(i'+1))+1:=by omega);rw[e1,List.range'_succ]at er))
|`(tactic|ext:103)=>`(tactic|(rw[0,(uR hT WH ?_)];simp only[A8,oG,kS];rw[0,(jM ho hd 146)];rw[3,(forIn items _ _)]))
|`(tactic|ext:104)=>`(tactic|(refine Call_ (mo I hg hm Qw (102 dj));obtain⟨a,b,xs,ys,ex,ku,kM,q⟩:=q1;subst ex))
|`(tactic|ext:105)=>`(tactic|(ext:13;refine 704;obtain⟨T,x,rfl,hT,rfl,y⟩:=y;exact hs i x T σ H (y xs q) p hT))
|`(tactic|ext:106)=>`(tactic|(injection h with h;injection h with _ _ h;injection h with h _;injection h with h _))
|`(tactic|ext:107)=>`(tactic|(have dL:ah H H2:=fun b o q=>S2 _ _ (S1 _ _ q)))
|`(tactic|ext:108)=>`(tactic|(obtain⟨u,rfl,t,rfl⟩:=vals1 r))
|`(tactic|ext:109)=>`(tactic|(refine 463;rintro i m H ⟨rfl,hi,p⟩;have q:=hl i H hi p;by_cases aY:i<xs.length))
|`(tactic|ext:110)=>`(tactic|(rw[0,(wpAny_fieldsOf cB rfl ?_)];ext:0;rw[0,(JV x ?_)];rw[if_neg (by rw[hn];simp)]))
|`(tactic|ext:111)=>`(tactic|(obtain⟨sl,e1⟩:=I.base.slot b o e n hb hx))
|`(tactic|ext:112)=>`(tactic|(refine aG 764 fun u s2 ⟨y,H2,I2,r2,q2⟩=>?_;exact hf v u s2 x y H2 I2 r1 r2 q2))
|`(tactic|ext:113)=>`(tactic|(refine 83;rintro i m σ H ⟨rfl,hi,p⟩;obtain⟨q1,q2⟩:=hl i σ H hi p;ext:34))
|`(tactic|ext:114)=>`(tactic|((have e:t=w.reverse:=by simpa using h);rw[e]))
|`(tactic|ext:115)=>`(tactic|(refine fZ b _ 164 164 h9;rw[z,X9.at_]at h9;cases h9;obtain⟨vs,hv⟩:=X9.lists z))
|`(tactic|ext:116)=>`(tactic|(cases e';rw[d]at d';injection d' with d1 _;have:ai=its':=by simpa using eC J6 d1))
|`(tactic|ext:117)=>`(tactic|(by_cases hb:b=a;subst hb;rw[aM]at e;cases e))
|`(tactic|ext:118)=>`(tactic|(rw[3,(field 322 1>>=_)];refine 1003;rw[3,(AY (.ref t)>>=_)];rw[0,(jM ij vC ?_)]))
|`(tactic|ext:119)=>`(tactic|(refine hs x H _ (ej hi) B.same fun y H3 S r=>?_;rw[gx hi];exact 317;rw[gW]at B))
local macro_rules
|`(tactic|ext:120)=>`(tactic|(rw[if_pos (show A_<_ from z),if_pos z];rw[if_neg (show¬A_<_ from z),if_neg z]))
|`(tactic|ext:121)=>`(tactic|(obtain⟨ai,r1,⟨⟨cls,dd,data,sl⟩,ho,hc,n,hd⟩,_⟩:=I.tuple (bC.of ha)))
|`(tactic|ext:122)=>`(tactic|(ext:51;generalize upd H r (.ins T.bc R.dx (cN {R with k:=R.k+1}))=H1 at X1 S1))
|`(tactic|ext:123)=>`(tactic|(subst ex ey;rw[7,u];obtain rfl:iv=cj b:=ry;obtain⟨z,z2,nd,dd⟩:=BY I2.aD D))
|`(tactic|ext:124)=>`(tactic|(rw[J5 (cJ hj)]at e2;obtain⟨u',r',q⟩:=hl j y v' e1 e2 e3;refine{u',r',?_}))
|`(tactic|ext:125)=>`(tactic|((have:c=48\/c=49\/c=50\/c=51\/c=52\/c=53\/c=54\/c=55\/c=056\/c=57:=by omega)))
|`(tactic|ext:126)=>`(tactic|(have e1:ac[i]?=some ac[i]:=bM 23;have e2:aZ[i]?=some aZ[i]:=bM 23;unfold eM))
|`(tactic|ext:127)=>`(tactic|(obtain⟨ol,ij,_,nl,vC⟩:=ht;unfold uT;refine 529;rw[3,(field 322 0>>=_)]))
|`(tactic|ext:128)=>`(tactic|(show wpAny _ A (load s.heap.objs.size>>=_) _ _ _;rw[0,(wpAny_load fG ?_)]))
|`(tactic|ext:129)=>`(tactic|(obtain⟨ac,l,rfl,_⟩:=h;rfl))
|`(tactic|ext:130)=>`(tactic|(rw[ih h.1,aP h.2];show(bu aC.length).map _=(bu (aC.map 824).length).map _))
|`(tactic|ext:131)=>`(tactic|(exact(Ab z hz).ext ex;(have:z=g:=by simpa using hz);rw[this];exact sK.bW))
|`(tactic|ext:132)=>`(tactic|(have Gr:=pl s;rw[lcs]at sz;rw[Gr]at ea;have yq:upd eI D 94 D=some 94:=aM))
|`(tactic|ext:133)=>`(tactic|(refine Call_ (798 boot_enumerate);obtain⟨a,xs,ex,hq,q⟩:=q1;subst ex))
|`(tactic|ext:134)=>`(tactic|(obtain⟨o,ho,hx,hd,hf⟩:=id x;have hT:s.TypeIs 152 "set":={_,ho,hx.1}))
|`(tactic|ext:135)=>`(tactic|((·wp_walk using xO hl,AC hL;exact 831)))
|`(tactic|ext:136)=>`(tactic|(obtain⟨r,R,toks,t,rfl,_⟩:=h;rfl;obtain⟨r,R,toks,t,rfl,X,a,k⟩:=h))
|`(tactic|ext:137)=>`(tactic|(rw[show gQ (wd (text "always"))=.i6 from by decide+kernel];ext:0;rw[hw]))
|`(tactic|ext:138)=>`(tactic|(rw[show gQ (wd (text "count"))=.cnt from by decide+kernel];ext:0;rw[hw]))
|`(tactic|ext:139)=>`(tactic|(rw[hw]at h;exact fun H' p k' q1 q2 q3 q4=>h H' p k' _ _ rfl q1 q2 q3 q4))
|`(tactic|ext:140)=>`(tactic|(refine 439;have X4:=(X1.same S3).same S4;refine(273 X4.at_);rw[aR]at sz))
|`(tactic|ext:141)=>`(tactic|(have:=ih n _ nd h;ext:5))
|`(tactic|ext:142)=>`(tactic|(rintro⟨r1,r2⟩ s' ⟨hr,rfl,_⟩;simp only at hr;subst hr;exact 58 h))
|`(tactic|ext:143)=>`(tactic|(rw[if_pos rfl]))
|`(tactic|ext:144)=>`(tactic|(have:X.env.scope.names.lookup x=some .free:=hk;rw[k]at this;cases this))
|`(tactic|ext:145)=>`(tactic|(show wpAny _ A.in1 649 _ _ s))
|`(tactic|ext:146)=>`(tactic|(rw[e2]at e;cases e;have d':Kt vs.toArray _=Data.dict es ep:=d;cases d'))
|`(tactic|ext:147)=>`(tactic|(obtain⟨n,tk,rfl⟩:=h e he))
|`(tactic|ext:148)=>`(tactic|(rw[2,(field 812 2>>=_)];refine 935;rw[2,(field 812 3>>=_)];refine 1004))
|`(tactic|ext:149)=>`(tactic|(split;exact 89 rfl (h _);rfl))
local macro_rules
|`(tactic|ext:150)=>`(tactic|(rw[show gQ (wd (text "since"))=.i6 from by decide+kernel];ext:0;rw[hw]))
|`(tactic|ext:151)=>`(tactic|(obtain⟨u,rfl,rx⟩:=vals1 r;cases rx))
|`(tactic|ext:152)=>`(tactic|(obtain⟨sK,Tl⟩:=nP _ _ _ _ _ _ _ jp))
|`(tactic|ext:153)=>`(tactic|(rw[show gQ (wd (text "once"))=.i6 from by decide+kernel];ext:0;rw[hw]))
|`(tactic|ext:154)=>`(tactic|(cases e';have z:=dZ (N.at_.symm.trans N'.at_);injection z with _ _ z))
|`(tactic|ext:155)=>`(tactic|(refine{t,?_};rw[h2];show eA ns[i] t=eA (ns.getD i 0) t;rw[dI,bM hi]))
|`(tactic|ext:156)=>`(tactic|(rw[bU,az,sizeLine_eq];simp;omega;have b5:ah H H3:=(910 S2).trans S3))
|`(tactic|ext:157)=>`(tactic|(rintro i m H ⟨rfl,hi,B⟩))
|`(tactic|ext:158)=>`(tactic|(simp only[aR];omega))
|`(tactic|ext:159)=>`(tactic|((have ea:dE l i=.cmp l[i].x l[i].op l[i].n:=by unfold dE;rw[bM hi])))
|`(tactic|ext:160)=>`(tactic|(rw[show upTo WINDOW a=none from Ij h]))
|`(tactic|ext:161)=>`(tactic|(refine{⟨o,e,ex.1⟩,fun a e2=>?_};cases e2;exact⟨o,e,ex.2.1⟩))
|`(tactic|ext:162)=>`(tactic|(refine aS 860 ?_;refine{_,rfl,rfl,_,rfl,aU 47 82};ext:60;exact 520))
|`(tactic|ext:163)=>`(tactic|((split at h;·exact nx (v9 g h));(split at h;·exact nx (v9 g h))))
|`(tactic|ext:164)=>`(tactic|(obtain⟨m,hn,hl⟩:=I.loc))
|`(tactic|ext:165)=>`(tactic|(refine 576;rw[ay (bF q hD)];exact S _ _ (B.same _ _ q);exact 380))
|`(tactic|ext:166)=>`(tactic|((split at h;·exact fin h)))
|`(tactic|ext:167)=>`(tactic|(rw[bH,bH,ma,ma,im l f,im l g];show cells f+cells g+(0+0)=_;omega))
|`(tactic|ext:168)=>`(tactic|(have l4:=bY p4;rw[ie]at l4))
|`(tactic|ext:169)=>`(tactic|(obtain⟨e,n,ne,nf,d⟩:=I.pin p hp))
|`(tactic|ext:170)=>`(tactic|(rw[z];exact rf b u e;exact rf c _ z))
|`(tactic|ext:171)=>`(tactic|(by_cases hv:v<0;simp only[if_pos hv];omega;simp only[if_neg hv]))
|`(tactic|ext:172)=>`(tactic|(obtain⟨_,_,_,_,o,_,_,e,ex,_⟩:=I.aD p _ hk;exact⟨o,e,ex⟩))
|`(tactic|ext:173)=>`(tactic|(refine 756;obtain⟨e,y⟩:=y;subst e;exact hs i x _ (y xs q) p))
|`(tactic|ext:174)=>`(tactic|(rw[3,(361 (cj t==fh))];rw[if_neg 1039];ext:118;simp only[pY,hx]))
|`(tactic|ext:175)=>`(tactic|(rw[kN e (f:=f) h.1,kN e (f:=g) h.2]))
|`(tactic|ext:176)=>`(tactic|(rw[jy e (f:=f) h.1,jy e (f:=g) h.2]))
|`(tactic|ext:177)=>`(tactic|(rw[show(some n).bind 272=none from by show 285=_;rw[if_neg uj]]))
|`(tactic|ext:178)=>`(tactic|(ext:84;cases ho))
|`(tactic|ext:179)=>`(tactic|(by_cases h:i<0;simp only[h,jL]<;>omega;simp only[h,kS]<;>omega))
local macro_rules
|`(tactic|ext:180)=>`(tactic|(obtain⟨⟨a,rfl⟩,q1⟩:=q1;obtain⟨t,rfl⟩:=_root_.id r1))
|`(tactic|ext:181)=>`(tactic|(by_cases hc:292=true;rw[if_pos hc]at h';simp only[uJ,hx]at h'))
|`(tactic|ext:182)=>`(tactic|(obtain⟨nm,qn,bs,sn,sub,ab,col,dd,k0,k1,k2,k3,k5,hC⟩:=W.ex))
|`(tactic|ext:183)=>`(tactic|(split;exact h))
|`(tactic|ext:184)=>`(tactic|(ext:23;ext:91))
|`(tactic|ext:185)=>`(tactic|(have:d=48\/d=49\/d=50\/d=51\/d=52\/d=53\/d=54\/d=55:=by omega))
|`(tactic|ext:186)=>`(tactic|(intro g hg;(have:g=f:=by simpa using hg);rw[this];exact wL.bW))
|`(tactic|ext:187)=>`(tactic|(show _++_=(bW f++bW g).filterMap _))
|`(tactic|ext:188)=>`(tactic|(subst ho;obtain⟨c,rfl⟩:∃c,cs=[c]:=iz.mp pre.len;ext:32))
|`(tactic|ext:189)=>`(tactic|(obtain⟨zs,e,p⟩:=B.ex;exact .inl {630,hq H zs B.same e p}))
local macro_rules
|`(tactic|rw[0,$x:term])=>`(tactic|(refine 22 $x))
|`(tactic|rw[1,$x:term])=>`(tactic|(obtain⟨t,rfl⟩:=$x))
|`(tactic|rw[2,$x:term])=>`(tactic|(show wpAny _ _ $x _ _ _))
|`(tactic|rw[3,$x:term])=>`(tactic|(show wpAny _ _ $x _ _ s))
|`(tactic|rw[4,$x:term])=>`(tactic|(have k':∀H' D,ah H H'->H' D=some $x->Q 118 H':=k))
|`(tactic|rw[5,$x:term])=>`(tactic|(have hc:cells $x=cells f+cells g:=rfl))
|`(tactic|rw[6,$x:term])=>`(tactic|(obtain⟨nd,cV,a,dx,iD,pp,rfl,N0⟩:=gg pn $x))
|`(tactic|rw[7,$x:term])=>`(tactic|(obtain rfl:$x=cj a:=rx))
|`(tactic|rw[8,$x:term])=>`(tactic|(have hc:cells $x=1+cells f:=rfl))
|`(tactic|rw[9,$x:term])=>`(tactic|(show wpAny _ A.in1 $x _ _ _))
|`(tactic|rw[10,$x:term])=>`(tactic|(obtain⟨ai,r',pl,hz⟩:=$x hq))
|`(tactic|rw[11,$x:term])=>`(tactic|(obtain⟨ai,r,pl,hz⟩:=$x hq))
|`(tactic|rw[12,$x:term])=>`(tactic|(refine aU $x ?_))
|`(tactic|rw[13,$x:term])=>`(tactic|(refine zD (xs:=nd.parts.map fun(n:Nat)=>V.int (n:Int)) $x f2 134 (847 (S _ _ N.parts)) ?_ 821 863))
|`(tactic|rw[14,$x:term])=>`(tactic|(have b5:ah H H3:=fun b o h=>S3 _ _ $x))
|`(tactic|rw[15,$x:term])=>`(tactic|(refine LJ (n:=r.length) $x hD 134 (by rw[sizeLine_eq];omega) (fun i H2 Q' hi S q=>?_) 895))
|`(tactic|rw[16,$x:term])=>`(tactic|(refine jN fun $x _=>?_))
|`(tactic|rw[17,$x:term])=>`(tactic|(exact .inl $x))
|`(tactic|rw[18,$x:term])=>`(tactic|(intro pins s σ H $x I h))
|`(tactic|rw[19,$x:term])=>`(tactic|(exact $x value slice pins s σ H x y v u Q I rx ry {p,xs,i,v',e1,e2,.of e3,e4,q} hs))
|`(tactic|rw[20,$x:term])=>`(tactic|(obtain⟨g,fd,is,kk,Y',hv,ok,Ho,kp,bd⟩:=$x (P:=P) (w:=w) (base:=base) T nd.op hb))
|`(tactic|rw[21,$x:term])=>`(tactic|(have b5:ah H H3:=fun b o z=>$x _ _ (547 z)))
|`(tactic|rw[22,$x:term])=>`(tactic|(obtain⟨u,h1,t,h2⟩:=$x (i:=i) (x:=V.int ns[i]) (by rw[d_,bM hi];rfl)))
|`(tactic|rw[23,$x:term])=>`(tactic|(obtain⟨v4,h4,p4⟩:=$x))
set_option hygiene true
namespace L2
open PySem PySem.Spec PyProof.Rows
abbrev Key:=Sum Int Str
def m_:Key->Value->Bool
 |.inl k,v=>Value.isInt k v
 |.inr x,v=>Value.isStrOf x v
def LS(w:aI):Key->Int
 |.inl k=>hashInt k
 |.inr x=>hashStr w x
theorem pQ:∀{k:Key}{v:Value},m_ k v=true->(∃i t,k=kQ i/\v=eA i t)\/(∃x t,k=uC x/\v=J2 x t)
 |.inl i,v,h=>by obtain⟨t,e⟩:=Value.isInt_shape (k:=i) (v:=v) h;rw[17,⟨i,t,rfl,e⟩]
 |.inr x,v,h=>by obtain⟨t,e⟩:=Value.isStrOf_shape (x:=x) (v:=v) h;exact 546 ⟨x,t,rfl,e⟩
theorem ac7(i:Int)(t:Tok):m_ (.inl i) (.int i t)=true:=by simp[m_,Value.isInt]
theorem Xd(x:Str)(t:Tok):m_ (.inr x) (.str x t)=true:=by simp[m_,Value.isStrOf]
theorem aap(a b:Int):decide ((kQ a:Key)=kQ b)=(a==b):=by by_cases e:a=b;subst e;simp;have h:¬(kQ a:Key)=kQ b:=fun q=>e (Sum.inl.inj q);rw[gn h];exact(rN.mpr e).symm
theorem Y7(a b:Str):decide ((uC a:Key)=uC b)=decide (a=b):=by by_cases e:a=b;subst e;simp;have h:¬(uC a:Key)=uC b:=fun q=>e (Sum.inr.inj q);rw[gn h,gn e]
theorem abD(a:Int)(b:Str):decide ((kQ a:Key)=uC b)=false:=gn (fun q=>nomatch q)
theorem ZT(a:Str)(b:Int):decide ((uC a:Key)=kQ b)=false:=gn (fun q=>nomatch q)
def eY(prog:aT)(w:aI):PySem.KeyKind prog w Key where
 is:=m_
 hash:=LS w
 inj:=fun v a b ha hb=>by
  rcases pQ ha with⟨i,t,rfl,rfl⟩|⟨x,t,rfl,rfl⟩
  ·rcases pQ hb with⟨j,u,rfl,e⟩|⟨y,u,rfl,e⟩
   ·injection e with e1 _;rw[e1]
   ·exact nomatch e
  ·rcases pQ hb with⟨j,u,rfl,e⟩|⟨y,u,rfl,e⟩
   ·exact nomatch e
   ·injection e with e1 _;rw[e1]
 byValue:=fun k v h=>by
  rcases pQ h with⟨i,t,rfl,rfl⟩|⟨x,t,rfl,rfl⟩<;>rfl
 pyHash:=fun hv h=>by
  rcases pQ hv with⟨i,t,rfl,rfl⟩|⟨x,t,rfl,rfl⟩
  ·exact wpAny_pyHash_int h
  ·exact wpAny_pyHash_str h
 eqBool:=fun hu hv h=>by
  rcases pQ hu with⟨i,t,rfl,rfl⟩|⟨x,t,rfl,rfl⟩
  ·rcases pQ hv with⟨j,u,rfl,rfl⟩|⟨y,u,rfl,rfl⟩
   ·rw[aap]at h;exact wpAny_eqBool_int h
   ·rw[abD]at h;exact aiU i t y u _ _ _ _ h
  ·rcases pQ hv with⟨j,u,rfl,rfl⟩|⟨y,u,rfl,rfl⟩
   ·rw[ZT]at h;exact aiV x t j u _ _ _ _ h
   ·rw[Y7]at h;exact wpAny_eqBool_str h
 «strs»:=fun k x t v h=>by
  rcases pQ h with⟨i,u,rfl,e⟩|⟨y,u,rfl,e⟩
  ·exact nomatch e
  ·injection e with e1 _
   subst e1
   cases v<;>rfl
theorem af1(prog:aT)(w:aI)(i:Int)(t:Tok):(eY prog w).is (.inl i) (.int i t)=true:=ac7 i t
theorem agW(prog:aT)(w:aI)(x:Str)(t:Tok):(eY prog w).is (.inr x) (.str x t)=true:=Xd x t
end L2
namespace L2
open PySem PySem.Spec PyProof.Rows
inductive V where
 |bo|bl (b:Bool)|int (i:Int)|str (x:Str)|iN (b:Array UInt8)|zX (b:UInt64)|ref (a:Addr)|ty (n:String)
 deriving DecidableEq
def RelV:V->Value->Prop
 |.bo,u=>u=fh
 |.bl b,u=>u=Ax b
 |.int i,u=>∃t,u=eA i t
 |.str x,u=>∃t,u=J2 x t
 |.iN b,u=>∃t,u=Value.bytes b t
 |.zX b,u=>∃t,u=Value.float b t
 |.ref a,u=>u=cj a
 |.ty n,u=>u=kf n
abbrev Vals:List V->List Value->Prop:=Paired RelV
theorem Vals.length{xs:231}{us:97}(r:Vals xs us):xs.length=us.length:=bY r
theorem Vals.get:∀{xs:List V}{us:List Value}{i:Nat}{x:V},Vals xs us->xs[i]?=some x->∃u,us[i]?=some u/\RelV x u
 |_,_,_,_,.nil,e=>by simp at e
 |_,_,0,_,.cons r _,e=>by simp at e;subst e;exact{_,rfl,r}
 |_,_,i+1,x,.cons _ t,e=>by obtain⟨u,h1,h2⟩:=Vals.get (i:=i) (x:=x) t 1053;exact{u,by simpa using h1,h2}
theorem Vals.set{x:V}{u:Value}(r:RelV x u):∀{xs:List V}{us:List Value}(i:Nat),Vals xs us->Vals (xs.set i x) (us.set i u)
 |_,_,_,.nil=>.nil
 |_,_,0,.cons _ t=>.cons r t
 |_,_,i+1,.cons q t=>.cons q (Vals.set r i t)
theorem Vals.append:∀{xs ys:List V}{us ws:List Value},Vals xs us->Vals ys ws->Vals (xs++ys) (us++ws)
 |_,_,_,_,.nil,s=>s
 |_,_,_,_,.cons r t,s=>.cons r (Vals.append t s)
theorem Vals.take:∀{xs:List V}{us:List Value}(n:Nat),Vals xs us->Vals (xs.take n) (us.take n)
 |_,_,0,_=>.nil
 |_,_,_+1,.nil=>.nil
 |_,_,n+1,.cons r t=>.cons r (Vals.take n t)
theorem Vals.drop:∀{xs:List V}{us:List Value}(n:Nat),Vals xs us->Vals (xs.drop n) (us.drop n)
 |_,_,0,r=>r
 |_,_,_+1,.nil=>.nil
 |_,_,n+1,.cons _ t=>Vals.drop n t
def hW:Option V->Option Value->Prop
 |some v,some u=>RelV v u
 |none,none=>True
 |_,_=>False
def KV{κ:Type}:List (κ×V)->List (κ×Value)->Prop:=Paired fun(p:κ×V)(q:κ×Value)=>p.1=q.1/\RelV p.2 q.2
def kV:Key->V
 |.inl i=>.int i
 |.inr x=>.str x
inductive HO where
 |lst (xs:List V)
 |tup (xs:List V)
 |dK (am:List (Key×V))|dT (am:List (List Key×V))
 |set (S:Int->Bool) (n:Nat)
 |ins (C dx:Addr) (fs:List (Str×V))
 |own (x:Addr)
 |xd (fs:List (Str×V))
 |met (f x:Addr)
 |Dv (lo hi:Int)
 |b_ (o:Obj) (u:HO)
 |ra (ps:Array Value)
 |ext (φ:Heap->Prop)
abbrev Hp:=Addr->Option HO
def upd(H:Hp)(a:Addr)(o:HO):Hp:=fun b=>if b=a then some o else H b
theorem aM{H:Hp}{a:Addr}{o:HO}:upd H a o a=some o:=by unfold upd;ext:143
theorem ay{H:Hp}{a b:Addr}{o:HO}(h:b≠a):upd H a o b=H b:=by unfold upd;rw[if_neg h]
theorem mD{H:Hp}{a:Addr}{o u:HO}:upd 813 a u=upd H a u:=by funext b;unfold upd;split<;>rfl
theorem bF{H:Hp}{a b:Addr}{o:HO}(h:324 a o)(h':H b=none):a≠b:=by intro e;subst e;rw[h]at h';cases h'
section
variable(P:aT)(w:aI)
def cQ(H:Hp)(h:Heap)(a:Addr):HO->Prop
 |.lst xs=>xs.length<=sizeLine/\∃(ai:List Value)(n:Nat),Vals xs ai/\h.get? a=some {cls:=.type "list",data:=.seq ai.toArray n}
 |.tup xs=>xs.length<=sizeLine/\∃ai:List Value,Vals xs ai/\IsTup h a ai.toArray
 |.dK am=>am.length<=sizeLine/\(a==lV)=false/\∃vs,KV am vs/\h.DictOf 818 a vs
 |.dT am=>am.length<=sizeLine/\(a==lV)=false/\∃xs:List (List Key×Addr×Value),
  Paired (fun(p:List Key×V)(q:List Key×Addr×Value)=>p.1=q.1/\H q.2.1=some (.tup (p.1.map kV))/\RelV p.2 q.2.2) am xs/\
  ∃o es ep,h.get? a=some o/\o.ExactDict/\o.data=.dict es ep/\es.toList=xs.map (entryOfKey (tupleKind 818))/\(xs.map (·.1)).Nodup
 |.set S n=>h.SetOf (intKind P w) a S n
 |.ins C dx fs=>H dx=some (.own a)/\fs.length<=1000/\dx≠a/\h.get? a=some (uD C dx)/\
  ∃mA,h.Ns1 dx mA/\(∀f,hW (fs.lookup f) (mA f))/\VB mA (fs.map (·.1))
 |.own _=>∃o,h.get? a=some o
 |.xd fs=>∃mA,h.Ns1 a mA/\∀f,hW (fs.lookup f) (mA f)
 |.Dv lo hi=>∃t u v,h.get? a=some {cls:=.type "range",data:=.fields #[.int lo t,.int hi u,.int 1 v]}
 |.b_ o u=>h.get? a=some o/\cQ H h a u
 |.ra ps=>h.get? a=some {cls:=.none,data:=.fields ps}
 |.met f x=>h.get? a=some (VC 408 679)
 |.ext φ=>φ h/\(∃o,h.get? a=some o)/\∀h1 h2:Heap,φ h1->(∀o,h1.get? a=some o->h2.get? a=some o)->φ h2
def cP(H:Hp)(h:Heap):Prop:=∀a o,H a=some o->cQ P w H h a o
end
section
variable{P:aT}{w:aI}{H H':Hp}{h h':Heap}{a:Addr}{o:HO}
theorem cQ.lt(x:cQ P w H h a o):a<h.objs.size:=by cases o with|lst xs=>obtain⟨_,_,_,_,e⟩:=x;exact bn e|tup xs=>obtain⟨_,_,_,p⟩:=x;exact p.lt|dK am=>obtain⟨_,_,_,_,o,_,_,e,_⟩:=x;exact bn e|dT am=>obtain⟨_,_,_,_,o,_,_,e,_⟩:=x;exact bn e|set S n=>obtain⟨o,_,_,_,e,_⟩:=x;exact bn e|ins C dx fs=>obtain⟨_,_,_,e,_⟩:=x;exact bn e|own y=>obtain⟨_,e⟩:=x;exact bn e|xd fs=>obtain⟨_,⟨_,_,_,e,_⟩,_⟩:=x;exact bn e|Dv lo hi=>obtain⟨_,_,_,e⟩:=x;exact bn e|b_ ob u=>obtain⟨e,_⟩:=x;exact bn e|ra ps=>exact 1034|met f y=>exact 1034|ext φ=>obtain⟨_,⟨_,e⟩,_⟩:=x;exact bn e
theorem Paired.Ei{α β:Type}{F G:300}:∀{PN:List α}{l₂:List β},Paired F PN l₂->(∀a b,F a b->G a b)->Paired G PN l₂
 |_,_,.nil,_=>.nil
 |_,_,.cons r t,f=>.cons (f _ _ r) (Paired.Ei t f)
theorem cQ.eV(x:cQ P w H h a o)(k:∀b u,(b=a\/H b=some (.own a))->h.get? b=some u->h'.get? b=some u)(ho:∀b,H b=some (.own a)->H' b=some (.own a))(ht:∀b xs,H b=some 193->H' b=some 193):cQ P w H' h' a o:=by induction o with|lst xs=>obtain⟨z,ai,n,r,e⟩:=x;exact{z,ai,n,r,k _ _ 148 e}|tup xs=>obtain⟨z,ai,r,ob,e,c⟩:=x;exact{z,ai,r,ob,k _ _ 148 e,c}|dK am=>obtain⟨z,y,vs,r,ob,es,ep,e,c⟩:=x;exact{z,y,vs,r,ob,es,ep,k _ _ 148 e,c}|dT am=>obtain⟨z,y,xs,r,ob,es,ep,e,c⟩:=x;exact{z,y,xs,Paired.Ei r fun p q z=>{z.1,ht _ _ z.2.1,z.2.2},ob,es,ep,k _ _ 148 e,c}|set S n=>obtain⟨ob,es,ep,t,e,c⟩:=x;exact{ob,es,ep,t,k _ _ 148 e,c}|ins C dx fs=>obtain⟨d,z,ne,e,mA,⟨od,es,ep,e2,c⟩,r⟩:=x;exact{ho _ d,z,ne,k _ _ 148 e,mA,{od,es,ep,k _ _ (.inr d) e2,c},r}|own y=>obtain⟨ob,e⟩:=x;exact{ob,k _ _ 148 e}|xd fs=>obtain⟨mA,⟨od,es,ep,e,c⟩,r⟩:=x;exact{mA,{od,es,ep,k _ _ 148 e,c},r}|Dv lo hi=>obtain⟨t,u,v,e⟩:=x;exact{t,u,v,k _ _ 148 e}|b_ ob u ih=>obtain⟨e,q⟩:=x;exact{k _ _ 148 e,ih q}|ra ps=>have e:h.get? a=some {cls:=.none,data:=.fields ps}:=x;show h'.get? a=some {cls:=.none,data:=.fields ps};exact k a _ 148 e|met f y=>have e:h.get? a=some (VC 408 (.ref y)):=x;show h'.get? a=some (VC 408 (.ref y));exact k a _ 148 e|ext φ=>obtain⟨p,⟨o,e⟩,st⟩:=x;exact{st _ _ p fun o q=>k _ _ 148 q,{o,k _ _ 148 e},st}
theorem cP.lt(x:243)(e:324 a o):a<h.objs.size:=(x a o e).lt
theorem cP.fresh(x:243)(e:h.objs.size<=a):H a=none:=by cases q:H a with|none=>rfl|some u=>exact 360 (dY (x.lt q) e)
theorem cP.kept(x:243)(k:∀b u,h.get? b=some u->h'.get? b=some u):cP P w H h':=fun a o e=>(x a o e).eV (fun b u _ q=>k b u q) 535 fun _ _ q=>q
theorem cP.laid(x:243)(k:∀b u,h.get? b=some u->h'.get? b=some u)(hp:h.objs.size<=a)(new:cQ P w 813 h' a o):cP P w 813 h':=fun b u e=>by have hn:=x.fresh hp;ext:117;exact new;rw[ay hb]at e;exact(x b u e).eV (fun c v _ q=>k c v q) 942 fun c xs q=>by rw[ay (bF q hn)];exact q
end
def Rd(H:Hp)(a:Addr)(u:HO):Prop:=H a=some u\/∃o,H a=some 494
theorem Rd.ok{P:aT}{w:aI}{H:Hp}{h:Heap}{a:Addr}{u:HO}(r:Rd H a u)(x:243):cQ P w H h a u:=by rcases r with r|⟨o,r⟩;exact x a u r;obtain⟨_,q⟩:=x a _ r;exact q
def rc:Option HO->Prop
 |some (.lst _)=>True
 |some (.dK _)=>True
 |some (.dT _)=>True
 |some (.set _ _)=>True
 |some (.ins _ _ _)=>True
 |some (.ext _)=>True
 |_=>False
section
variable{P:aT}{w:aI}{H:Hp}{h h':Heap}{x e:Addr}{o':HO}
theorem cP.write(ok:243)(mu:rc (H x))(he:875)(k:∀b u,b≠e->h.get? b=some u->h'.get? b=some u)(vL:∃u,h'.get? e=some u)(new:cQ P w (257 x o') h' x o'):cP P w (257 x o') h':=fun b u q=>by
 have OE:∀c y,H c=some (.own y)->c≠x:=fun c y r z=>by subst z;rw[r]at mu;exact mu
 have aaj:∀c xs,H c=some 193->c≠x:=fun c xs r z=>by subst z;rw[r]at mu;exact mu
 by_cases hb:b=x;subst hb;rw[aM]at q;cases q;exact new;rw[ay hb]at q;by_cases rb:b=e;have q':H b=some (.own x):=by rcases he with z|z;exact 89 (rb.trans z) hb;rw[rb];exact z
 rw[q]at q';cases q';obtain⟨v,hv⟩:=vL;exact{v,by rw[rb];exact hv};refine(ok b u q).eV (fun c v hc r=>k c v ?_ r) (fun c r=>by rw[ay (OE c b r)];exact r) fun c xs r=>by rw[ay (aaj c xs r)];exact r
 rcases hc with rfl|hc;exact rb;rintro rfl;rcases he with z|z;exact OE c b hc z;rw[hc]at z;cases z;exact hb rfl
end
structure Un(fs ex:List Addr)(H H':Hp)(h h':Heap):Prop where
 keep:∀b o,h.get? b=some o->H b=none->b∉fs->b∉ex->h'.get? b=some o
 slot:∀b o,h.get? b=some o->H b=none->b∈fs->b∉ex->∃sl,h'.get? b=some {o with slots:=sl}
 free:∀b o,h.get? b=some o->H b=none->b∉ex->H' b=none
 there:∀b o,h.get? b=some o->b∉ex->∃o',h'.get? b=some o'
 i7:∀b xs,H b=some (.tup xs)->H' b=some (.tup xs)
 kD:∀b o u,H b=some (.b_ o u)->H' b=some (.b_ o u)
 mI:∀b ps,H b=some (.ra ps)->∃more,H' b=some (.ra (ps++more))
section
variable{fs u6 ex Su:List Addr}{H H1 H2:Hp}{h h1 h2 h':Heap}{a x e:Addr}{o:HO}
theorem Un.any(u:Un fs ex H H1 h h1){b:Addr}{ob:Obj}(q:354 b ob)(n:H b=none)(hx:b∉ex):∃sl,h1.get? b=some {ob with slots:=sl}:=by by_cases hb:b∈fs;exact u.slot b ob q n hb hx;exact{ob.slots,u.keep b ob q n hb hx}
theorem Un.kept(k:∀b u,h.get? b=some u->h'.get? b=some u):Un fs ex H H h h':={fun b ob q _ _ _=>k b ob q,fun b ob q _ _ _=>{ob.slots,k b ob q},fun _ _ _ n _=>n,fun b ob q _=>{ob,k b ob q},fun _ _ q=>q,fun _ _ _ q=>q,fun _ ps q=>{#[],by rw[q];simp}}
theorem Un.refl:Un fs ex H H h h:=Un.kept fun _ _ q=>q
theorem Un.laid(k:∀b u,h.get? b=some u->h'.get? b=some u)(hp:h.objs.size<=a)(hn:H a=none):Un fs ex H 813 h h' where
 keep:=fun b u q _ _ _=>k b u q
 slot:=fun b u q _ _ _=>{u.slots,k b u q}
 free:=fun b u q n _=>by rw[ay (cI (dY (bn q) hp))];exact n
 there:=fun b u q _=>{u,k b u q}
 i7:=fun b xs q=>by rw[ay (bF q hn)];exact q
 kD:=fun b u xs q=>by rw[ay (bF q hn)];exact q
 mI:=fun b ps q=>{#[],by rw[ay (bF q hn),q];simp}
theorem Un.write(mu:rc (H x))(he:875)(k:∀b u,b≠e->h.get? b=some u->h'.get? b=some u)(vL:∃u,h'.get? e=some u):Un fs ex H (257 x o) h h':=by
 have hx:∀b,H b=none->b≠x:=fun b n z=>by subst z;rw[n]at mu;exact mu
 have hb:∀b,H b=none->b≠e:=fun b n z=>by subst z;rcases he with r|r;exact hx b n r;rw[n]at r;cases r
 have hm:∀b u,H b=some u->¬rc (some u)->b≠x:=fun b u q nm z=>by subst z;rw[q]at mu;exact nm mu
 refine{fun b u q n _ _=>k b u (hb b n) q,fun b u q n _ _=>{u.slots,k b u (hb b n) q},fun b u q n _=>by rw[ay (hx b n)];exact n,fun b u q _=>?_,fun b xs q=>by rw[ay 1021];exact q,fun b u xs q=>by rw[ay 1021];exact q,fun b ps q=>{#[],by rw[ay 1021,q];simp}};by_cases rb:b=e;subst rb;exact vL;exact{u,k b u rb q}
end
def CV(h:Heap)(H:Hp):List Addr:=(bu h.objs.size).filter fun a=>(H a).isSome
def oZ(h:Heap)(H:Hp):Heap:=PySem.W.hideAll h (CV h H)
theorem adT(h:Heap)(H:Hp):(oZ h H).objs.size=h.objs.size:=PySem.W.hideAll_size _ _
theorem aee{h:Heap}{H:Hp}{b:Addr}{o:Obj}(e:354 b o)(n:H b=none):(oZ h H).get? b=some o:=PySem.W.hideAll_get _ e fun hm=>by have q:(H b).isSome=true:=(pT.mp hm).2;rw[n]at q;simp at q
theorem aeA{h:Heap}{H:Hp}{b:Addr}{o:Obj}(e:(oZ h H).get? b=some o):h.get? b=some o/\H b=none:=by have e':h.get? b=some o:=PySem.W.of_hideAll (CV h H) e;refine{e',?_};cases q:H b with|none=>rfl|some x=>have hm:b∈CV h H:=pT.mpr {gR.mpr (bn e'),by simp[q]};have z:(oZ h H).get? b=none:=PySem.W.hideAll_none (CV h H) hm;rw[z]at e;cases e
def aaO(g h:Heap)(L:Addr):List 72:=(bu h.objs.size).filterMap fun a=>if a=L\/(g.get? a).isSome=true then none else(h.get? a).map fun o=>(a,o)
def rest(g h:Heap)(L d:Addr):List 72:=(aaO g h L).filter fun p=>decide (p.1≠d)
end L2
namespace L2
open PySem PySem.Spec PyProof.Rows
structure Mod(K:bv)(mg:Str->Option Value)(base:Heap):Prop where
 rm:K.In base
 glob:base.Ns mainGlobals mg
 blt:∃mb,base.Ns builtinsNs mb/\∀x:Str,x≠"__name__"->mb x=gS x
 nolimit:base.NoLimit
structure Cx where
 prog:aT
 w:aI
 K:bv
 mg:Str->Option Value
 base:Heap
 A:bz
 N:List Str
 fB:Shared
 tz:Hp
 env:Env
 outer:List Env
 stack:List Env
 ex:List Addr
 fn:Str->Bool
 calm:Bool
 pn:List (Addr×Obj)
 xe:Value->Shared->Prop
def gr(l:621):List Addr:=l.filterMap (·.frame)
abbrev Cx.fs(X:Cx):List Addr:=gr X.outer
def vT(sc:fY)(x:Str):Prop:=sc.names.lookup x=some .local\/sc.names.lookup x=some .cell\/sc.names.lookup x=some .free
def Loc(sc:fY)(x:Str):Prop:=sc.names.lookup x=some .local\/sc.names.lookup x=some .cell
def Look(env:Env)(h:Heap)(m:95)(x:Str)(u:Value):Prop:=
 (env.kindOf x=some .local/\m x=some u)\/((env.kindOf x=some .cell\/env.kindOf x=some .free)/\∃c,env.cells.lookup x=some c/\h.IsCell c (some u))
structure Cx.Ok(X:Cx):Prop where
 mod:Mod X.K X.mg X.base
 kind:X.env.scope.kind=.function
 glob:X.env.globals=mainGlobals
 blt:X.env.builtins=builtinsNs
 above:X.fB.heap.objs.size<=X.env.locals
 inj:∀x y c,X.env.cells.lookup x=some c->X.env.cells.lookup y=some c->x=y
 has:∀x,(X.env.kindOf x=some .cell\/X.env.kindOf x=some .free)->∃c,X.env.cells.lookup x=some c
 tM:∀x c,X.fn x=true->X.env.cells.lookup x=some c->X.fB.heap.objs.size<=c
 hd:X.calm=true->X.A.handled=none
 frames:X.A.frames=some X.stack
 u_:X.stack=X.outer\/(X.stack=X.env::X.outer/\X.env.frame=some X.env.locals)
 vz:∀b∈X.ex,b≠X.env.locals/\∀x c,X.env.cells.lookup x=some c->c≠b
 bs:∀b o,X.base.get? b=some o->X.fB.heap.get? b=some o/\X.tz b=none
 lu:X.base.objs.size<=X.fB.heap.objs.size
 ua:∀b o,X.base.get? b=some o->b∉X.ex
 uv:∀b∈X.ex,b∉X.fs
 j_:X.fB.heap.FunFrames X.base X.outer
 oP:∀b∈X.fs,X.tz b=none
structure Inv(X:Cx)(pins:List (Addr×Obj))(σ:List (Option V))(H:Hp)(s:Shared):Prop where
 ok:X.Ok
 os:s.os=X.fB.os
 bare:uE s.gens
 base:Un X.fs X.ex X.tz H X.fB.heap s.heap
 loc:∃m,s.heap.Ns X.env.locals m/\∀(i:Nat)(x:Str)(v:V),X.N[i]?=some x->σ[i]?=some (some v)->vT X.env.scope x->∃u,RelV v u/\Look X.env s.heap m x u
 cell:∀x c,X.env.cells.lookup x=some c->∃v,s.heap.IsCell c v
 free:H X.env.locals=none
 gy:∀x c,X.env.cells.lookup x=some c->H c=none
 pin:∀p∈X.pn++pins,s.heap.get? p.1=some p.2/\H p.1=none/\p.1≠X.env.locals/\p.1∉X.fs/\∀v,p.2.data≠.cell v
 aD:cP X.prog X.w H s.heap
 len:σ.length=X.N.length
section
variable{X:Cx}{pins:List (Addr×Obj)}{σ:List (Option V)}{H H':Hp}{s:Shared}{h':Heap}
theorem Cx.Ok.G5(ok:X.Ok){b:Addr}{o:Obj}(e:X.base.get? b=some o):b∉X.fs:=fun hb=>by have:=(ok.j_.mem hb).1;rw[e]at this;cases this
theorem Inv.bs(I:31):∀b o,X.base.get? b=some o->s.heap.get? b=some o/\H b=none:=fun b o e=>{I.base.keep b o (I.ok.bs b o e).1 (I.ok.bs b o e).2 (I.ok.G5 e) (I.ok.ua b o e),I.base.free b o (I.ok.bs b o e).1 (I.ok.bs b o e).2 (I.ok.ua b o e)}
theorem Inv.bk(I:31):∀b o,X.base.get? b=some o->s.heap.get? b=some o:=fun b o e=>(I.bs b o e).1
theorem Inv.mod(I:31):Mod X.K X.mg X.base:=I.ok.mod
theorem Inv.eU(I:31):X.K.In s.heap:=I.ok.mod.rm.keeps I.bk
theorem Inv.fr(I:31):∃m,Fr X.base X.env.locals s.heap m:=let⟨m,hn,_⟩:=I.loc;{m,hn,I.bk,dG I.ok.lu I.ok.above}
theorem Inv.lt(I:31):X.env.locals<s.heap.objs.size:=let⟨_,hn,_⟩:=I.loc;hn.lt
theorem Inv.sz(I:31):X.fB.heap.objs.size<=s.heap.objs.size:=dG I.ok.above (J3 I.lt)
theorem Inv.afz(I:31){a:Addr}(h:963 a):a∉X.fs:=fun hb=>by obtain⟨_,o,ho,_⟩:=I.ok.j_.mem hb;exact 360 (dY (bn ho) (dG I.sz h))
theorem Inv.qw(I:31):∀x c,X.env.cells.lookup x=some c->c≠X.env.locals:=fun x c e z=>by obtain⟨v,o,ho,hd⟩:=I.cell x c e;obtain⟨m,⟨o',es,ep,fR,fg,_⟩,_⟩:=I.loc;rw[z,fR]at ho;cases ho;rw[fg]at hd;cases hd
theorem Inv.j_(I:31):s.heap.FunFrames X.base X.outer:=by
 have all:∀(l:List Env),(∀b∈gr l,b∈X.fs)->X.fB.heap.FunFrames X.base l->s.heap.FunFrames X.base l:=by intro l;induction l with|nil=>intro _ _;trivial|cons env r ih=>intro hs hl;obtain⟨hk,⟨L,o,hf,hn,ho,hd⟩,hr⟩:=hl;have hL:L∈X.fs:=hs L (by unfold gr;rw[xq,hf];exact cY);obtain⟨sl,e⟩:=I.base.slot L o ho (I.ok.oP L hL) hL fun z=>I.ok.uv L z hL;exact{hk,{L,_,hf,hn,e,hd},ih (fun b hb=>hs b (by unfold gr;rw[xq,hf];exact cZ _ hb)) hr}
 exact all X.outer (fun _ hb=>hb) I.ok.j_
theorem Inv.stack(I:31):s.heap.FunFrames X.base X.stack:=by rcases I.ok.u_ with e|⟨e,hf⟩;rw[e];exact I.j_;rw[e];obtain⟨m,hn,_⟩:=I.loc;refine .cons (by rw[I.ok.kind];decide) hf hn ?_ I.j_;exact Heap.get?_none_of_le (dG I.ok.lu I.ok.above)
theorem Inv.B7(I:31):∀b∈gr X.stack,b∈X.env.locals::X.fs:=fun b hb=>by rcases I.ok.u_ with e|⟨e,hf⟩;rw[e]at hb;exact cZ _ hb;rw[e]at hb;unfold gr at hb;rw[xq,hf]at hb;exact hb
theorem Inv.Ez(I:31):∀b∈gr X.stack,H b=none:=fun b hb=>by rcases bE.mp (I.B7 b hb)with e|hb;rw[e];exact I.free;obtain⟨_,o,ho,_⟩:=I.ok.j_.mem hb;exact I.base.free b o ho (I.ok.oP b hb) fun z=>I.ok.uv b z hb
theorem Inv.step{g':Array EF}{t':Nat}{d':Drawn}{ch:261}(I:31)(ny:∀b∈ch,375/\b≠X.env.locals/\(∀x c,X.env.cells.lookup x=some c->c≠b)/\∀p∈X.pn++pins,p.1≠b)(keep:∀b o,b≠X.env.locals->b∉X.fs->b∉ch->s.heap.get? b=some o->H b=none->h'.get? b=some o)(slot:∀b o,b≠X.env.locals->b∈X.fs->b∉ch->s.heap.get? b=some o->H b=none->∃sl,h'.get? b=some {o with slots:=sl})(free:∀b o,b∉ch->s.heap.get? b=some o->H b=none->H' b=none)(there:∀b o,b∉ch->s.heap.get? b=some o->∃o',h'.get? b=some o')(i7:∀b xs,H b=some 193->H' b=some 193)(kD:∀b o u,H b=some 494->H' b=some 494)(mI:∀b ps,H b=some (.ra ps)->∃more,H' b=some (.ra (ps++more)))(ns:∀m,s.heap.Ns X.env.locals m->h'.Ns X.env.locals m)(aD:992)(hg:uE g'):Inv X pins σ H' {s with heap:=h',gens:=g',drawn:=d',toks:=t'}:=by
 have Vf:∀b o,X.fB.heap.get? b=some o->b≠X.env.locals:=fun b o e=>cI 376;have DX:∀b o,X.fB.heap.get? b=some o->b∉X.ex->b∉ch:=fun b o e hx hb=>by rcases(ny b hb).1 with z|z;exact hx z;exact 360 (dY (bn e) z)
 have cellK:∀x c,X.env.cells.lookup x=some c->∀v,s.heap.IsCell c v->h'.IsCell c v:=fun x c e v ⟨o,ho,hd⟩=>by have zP:c∉ch:=fun z=>(ny c z).2.2.1 x c e rfl;by_cases hc:c∈X.fs;obtain⟨sl,q⟩:=slot c o (I.qw x c e) hc zP ho 986;exact{_,q,hd};exact{o,keep c o (I.qw x c e) hc zP ho 986,hd}
 refine{I.ok,I.os,hg,{fun b o e n hb hx=>?_,fun b o e n hb hx=>?_,fun b o e n hx=>?_,fun b o e hx=>?_,fun b xs e=>i7 b xs (I.base.i7 b xs e),fun b o xs e=>kD b o xs (I.base.kD b o xs e),fun b ps e=>?_},?_,fun x c e=>?_,?_,fun x c e=>?_,fun p hp=>?_,aD,I.len};exact keep b o (Vf b o e) hb (DX b o e hx) 504 432;ext:111;obtain⟨Fp,e2⟩:=slot b _ (Vf b o e) hb (DX b o e hx) e1 432;exact⟨Fp,e2⟩;ext:69;exact free b o' (DX b o e hx) e1 432;ext:69;exact there b o' (DX b o e hx) e1;obtain⟨m1,e1⟩:=I.base.mI b ps e;obtain⟨m2,e2⟩:=mI b _ e1;exact{m1++m2,by rw[e2,aiW]};ext:164;refine{m,ns m hn,fun i x v e1 e2 e3=>?_};obtain⟨u,r,l⟩:=hl i x v e1 e2 e3;refine{u,r,?_};rcases l with l|⟨k,c,e,z⟩;rw[17,l];exact 546 {k,c,e,cellK x c e _ z};obtain⟨v,z⟩:=I.cell x c e;exact{v,cellK x c e v z};obtain⟨m,⟨o,_,_,ho,_⟩,_⟩:=I.loc;exact free _ o (fun z=>(ny _ z).2.1 rfl) ho I.free;obtain⟨v,o,ho,hd⟩:=I.cell x c e;exact free c o (fun z=>(ny c z).2.2.1 x c e rfl) ho 986;ext:169;have zP:p.1∉ch:=fun z=>(ny p.1 z).2.2.2 p hp rfl
 exact{keep p.1 p.2 ne nf zP e n,free p.1 p.2 zP e n,ne,nf,d}
theorem Inv.un{t':Nat}(I:31)(u:Un X.fs [] H H' s.heap h')(aD:992):Inv X pins σ H' {s with heap:=h',toks:=t'}:=by obtain⟨m,⟨o,es,ep,ho,r⟩,_⟩:=id I.loc;obtain⟨sl,hL⟩:=u.any ho I.free 42;exact I.step (g':=s.gens) (d':=s.drawn) (ch:=[]) 536 (fun b o _ hb _ e n=>u.keep b o e n hb 42) (fun b o _ hb _ e n=>u.slot b o e n hb 42) (fun b o _ e n=>u.free b o e n 42) (fun b o _ e=>u.there b o e 42) u.i7 u.kD u.mI 430 aD I.bare
theorem Inv.call{g':Array EF}{t':Nat}{d':Drawn}{ch:261}(I:31)(u:Un (gr X.stack) ch H H' s.heap h')(aD:992)(hg:uE g')(ny:∀b∈ch,375/\b≠X.env.locals/\(∀x c,X.env.cells.lookup x=some c->c≠b)/\∀p∈X.pn++pins,p.1≠b):Inv X pins σ H' {s with heap:=h',gens:=g',drawn:=d',toks:=t'}:=by obtain⟨m,⟨o,es,ep,ho,r⟩,_⟩:=id I.loc;obtain⟨sl,hL⟩:=u.any ho I.free fun z=>(ny _ z).2.1 rfl;exact I.step (ch:=ch) ny (fun b o hL hb hc e n=>u.keep b o e n (fun z=>(bE.mp (I.B7 b z)).elim hL hb) hc) (fun b o _ _ hc e n=>u.any e n hc) (fun b o hc e n=>u.free b o e n hc) (fun b o hc e=>u.there b o e hc) u.i7 u.kD u.mI 430 aD hg
theorem Inv.turned{t':Nat}{it:Addr}(I:31)(k:∀b o,b≠it->s.heap.get? b=some o->h'.get? b=some o)(hn:H it=none)(hL:it≠X.env.locals)(h1:it∈X.ex\/X.fB.heap.objs.size<=it)(h2:∀x c,X.env.cells.lookup x=some c->c≠it)(h3:∀p∈X.pn++pins,p.1≠it):Inv X pins σ H {s with heap:=h',toks:=t'}:=by
 have rf:∀b u,H b=some u->b≠it:=fun b u e z=>by rw[z,hn]at e;cases e
 refine I.step (g':=s.gens) (d':=s.drawn) (ch:=[it]) (fun b hb=>?_) (848 (271 hc)) (fun b o _ _ hc e _=>{o.slots,k b o (271 hc) e}) (fun _ _ _ _ n=>n) (fun b o hc e=>{o,k b o (271 hc) e}) (fun _ _ e=>e) (fun _ _ _ e=>e) 1020 (fun m hm=>?_) (fun b u e=>?_) I.bare;have e:b=it:=by simpa using hb
 subst e;exact⟨h1,hL,h2,h3⟩;obtain⟨o,es,ep,ho,r⟩:=hm;exact{o,es,ep,k _ o (cJ hL) ho,r};refine(I.aD b u e).eV 763 535 fun _ _ q=>q;rcases hc with z|z;ext:170
theorem Inv.tok(I:31)(t:Nat):Inv X pins σ H {s with toks:=t}:=I.un (h':=s.heap) (t':=t) Un.refl I.aD
theorem Inv.kept{t':Nat}(I:31)(k:∀b u,s.heap.get? b=some u->h'.get? b=some u):Inv X pins σ H {s with heap:=h',toks:=t'}:=I.un (Un.kept k) (I.aD.kept k)
theorem Inv.laid{a:Addr}{o:HO}{t':Nat}(I:31)(k:∀b u,s.heap.get? b=some u->h'.get? b=some u)(hp:963 a)(new:cQ X.prog X.w 813 h' a o):Inv X pins σ 813 {s with heap:=h',toks:=t'}:=I.un (Un.laid k hp (I.aD.fresh hp)) (I.aD.laid k hp new)
theorem Inv.write{x e:Addr}{o:HO}{t':Nat}(I:31)(mu:rc (H x))(he:875)(k:∀b u,b≠e->s.heap.get? b=some u->h'.get? b=some u)(vL:∃u,h'.get? e=some u)(new:cQ X.prog X.w (257 x o) h' x o):Inv X pins σ (257 x o) {s with heap:=h',toks:=t'}:=I.un (Un.write mu he k vL) (I.aD.write mu he k vL new)
theorem Inv.weak{aW:List (96 V)}(I:31)(hl:aW.length=σ.length)(w:∀(i:Nat) v,aW[i]?=some 456->σ[i]?=some 456):Inv X pins aW H s:={I.ok,I.os,I.bare,I.base,let⟨m,hn,DS⟩:=I.loc;{m,hn,fun i x v e1 e2 e3=>DS i x v e1 (w i v e2) e3},I.cell,I.free,I.gy,I.pin,I.aD,hl.trans I.len}
theorem Inv.Ob{CK:256}(I:31)(h:∀p∈CK,s.heap.get? p.1=some p.2/\H p.1=none/\p.1≠X.env.locals/\p.1∉X.fs/\∀v,p.2.data≠.cell v):Inv X CK σ H s:={I.ok,I.os,I.bare,I.base,I.loc,I.cell,I.free,I.gy,fun p hp=>(bP.mp hp).elim (fun z=>I.pin p (rO _ z)) (h p),I.aD,I.len}
theorem Ih{N:132}(hN:N.Nodup){i j:Nat}{x:Str}(a:N[i]?=some x)(b:N[j]?=some x):i=j:=by obtain⟨h1,e1⟩:=dH.mp a;obtain⟨h2,e2⟩:=dH.mp b;exact(List.getElem_inj hN).mp (e1.trans e2.symm)
theorem Uv{M:oB}{A:bz}{E:43}{i:Nat}{x:Str}{v:V}{u:Value}{Q:312}(I:31)(hN:X.N.Nodup)(hi:X.N[i]?=some x)(hx:613)(r:RelV v u)(h:∀s',Inv X pins (σ.set i 456) H s'->(∃a,lW a s.heap s'.heap/\(a=X.env.locals\/X.env.cells.lookup x=some a))->Q () s')(hf:X.fn x=true\/X.env.scope.names.lookup x=some .local:=by first|exact 148|exact .inr rfl|assumption):wpAny M A (storeName X.env x u) Q E s:=by
 obtain⟨m,hn,hl⟩:=id I.loc;have Y8:(X.env.scope.kind==.class||(X.env.scope.kind==.module&&X.env.locals !=X.env.globals))=false:=by rw[I.ok.kind];rfl
 have Rp:i<σ.length:=by rw[I.len];exact(930 hi).1
 have qw:=I.qw;have tracked:∀{a:Addr}{h':Heap},(∃o,s.heap.get? a=some o/\H a=none)->lW a s.heap h'->cP X.prog X.w H h':=fun{a h'} ha hs b ob e=>by obtain⟨_,_,wo⟩:=ha;refine(I.aD b ob e).eV (fun c w' hc q=>(hs.2 c ?_).trans q) 535 fun _ _ q=>q;rintro rfl;rcases hc with rfl|hc;rw[wo]at e;cases e;rw[wo]at hc;cases hc
 rcases hx with hk|hk;refine wpAny_storeName_local hk hn (fun h' Ch hs=>?_) Y8;obtain⟨oL,_,_,Aj,_⟩:=id hn;refine h _ {I.ok,I.os,I.bare,106,{_,Ch,fun j y v' e1 e2 e3=>?_},fun y c e=>?_,I.free,I.gy,fun p hp=>?_,tracked ⟨oL,Aj,I.free⟩ hs,by simpa using I.len} {_,hs,.inl rfl};exact(hs.2 b (cI 376)).trans 504;ext:111;exact{sl,(hs.2 b (cI 376)).trans e1};ext:69;exact{o',(hs.2 b (cI 376)).trans e1};by_cases hj:j=i;subst hj;rw[hi]at e1;cases e1;rw[J4 Rp]at e2;cases e2;exact{u,r,.inl {hk,by simp}};ext:124;rcases q with⟨k,e⟩|⟨k,c,e,z⟩;refine .inl {k,?_};have:y≠x:=fun e=>hj (Ih hN e1 (e▸hi));simp[this,e];exact 546 {k,c,e,z.sameBut hs (qw y c e)};obtain⟨w',z⟩:=I.cell y c e;exact{w',z.sameBut hs (qw y c e)};ext:169;exact{(hs.2 p.1 ne).trans e,n,ne,nf,d};have JM:X.fn x=true:=by rcases hf with z|z;exact z;rw[z]at hk;cases hk
 obtain⟨c,hc⟩:=I.ok.has x (.inl hk);obtain⟨w',z⟩:=I.cell x c hc;refine wpAny_storeName_cell I.ok.kind hk hc z (fun h' iS hs=>?_);obtain⟨oc,NE,agZ⟩:=id z;refine h {s with heap:=h'} {I.ok,I.os,I.bare,106,{m,hn.sameBut hs (cJ (qw x c hc)),fun j y v' e1 e2 e3=>?_},fun y c' e=>?_,I.free,I.gy,fun p hp=>?_,tracked {oc,NE,I.gy x c hc} hs,by simpa using I.len} {c,hs,.inr hc};exact(516 b).trans 504;ext:111;exact{sl,(516 b).trans e1};ext:69;exact{o',(516 b).trans e1};by_cases hj:j=i;subst hj;rw[hi]at e1;cases e1;rw[J4 Rp]at e2;cases e2;exact{u,r,.inr {.inl hk,c,hc,iS}};ext:124;rcases q with q|⟨k,c',e,z'⟩;rw[17,q];refine 546 {k,c',e,z'.sameBut hs ?_};rintro rfl;exact hj (Ih hN e1 (I.ok.inj _ _ _ e hc▸hi));by_cases O0:c'=c;subst O0;exact{_,iS};obtain⟨w2,z2⟩:=I.cell y c' e;exact{w2,z2.sameBut hs O0}
 ext:169;refine{(hs.2 p.1 ?_).trans e,n,ne,nf,d};intro q;rw[q,NE]at e;have q':oc=p.2:=dZ e;exact d w' (by rw[<-q'];exact agZ)
theorem Ej{M:oB}{A:bz}{E:43}{i:Nat}{x:Str}{v:V}{u:Value}{Q:312}(I:31)(hN:X.N.Nodup)(hi:X.N[i]?=some x)(hx:613)(r:RelV v u)(h:∀s',Inv X pins (σ.set i 456) H s'->Q () s')(hf:X.fn x=true\/X.env.scope.names.lookup x=some .local:=by first|exact 148|exact .inr rfl|assumption):wpAny M A (storeName X.env x u) Q E s:=Uv I hN hi hx r (fun s' I' _=>h s' I') hf
theorem Inv.Df{s':Shared}{ch:261}(I:31)(ho:s'.os=s.os)(u:Un (gr X.stack) ch H H' s.heap s'.heap)(aD:cP X.prog X.w H' s'.heap)(hg:uE s'.gens)(ny:∀b∈ch,375/\b≠X.env.locals/\(∀x c,X.env.cells.lookup x=some c->c≠b)/\∀p∈X.pn++pins,p.1≠b):Inv X pins σ H' s':=by obtain⟨h',g',d',t',o'⟩:=s';have e:o'=s.os:=ho;subst e;exact I.call (g':=g') (t':=t') (d':=d') u aD hg ny
end
abbrev XK:=Value->Option Addr->Hp->Prop
abbrev St:=List (Option V)
abbrev VK:=V->Hp->Prop
abbrev TE:=St->Hp->VK->Prop
abbrev TT:=St->Hp->(Bool->Hp->Prop)->Prop
abbrev TA:=St->Hp->(List V->Hp->Prop)->Prop
structure Ends where
 nx:St->Hp->Prop
 rt:VK
 bk:St->Hp->Prop:=fun _ _=>False
 ct:St->Hp->Prop:=fun _ _=>False
abbrev TS:=Ends->St->Hp->Prop
def EP(X:Cx)(pins:256)(σ:St)(Q:VK)(u:Value)(s':Shared):Prop:=∃v H',Inv X pins σ H' s'/\RelV v u/\Q v H'
def TP(X:Cx)(pins:256)(σ:St)(Q:Bool->Hp->Prop)(b:Bool)(s':Shared):Prop:=∃H',Inv X pins σ H' s'/\Q b H'
def AP(X:Cx)(pins:256)(σ:St)(Q:List V->Hp->Prop)(us:97)(s':Shared):Prop:=∃vs H',Inv X pins σ H' s'/\Vals vs us/\Q vs H'
def SP(X:Cx)(pins:256)(D:Ends)(f:Flow)(s':Shared):Prop:=
 match f with
 |.next=>∃aW H',Inv X pins aW H' s'/\D.nx aW H'
 |.brk=>∃aW H',Inv X pins aW H' s'/\D.bk aW H'
 |.cont=>∃aW H',Inv X pins aW H' s'/\D.ct aW H'
 |.ret u=>∃v aW H',Inv X pins aW H' s'/\RelV v u/\D.rt v H'
def PE(X:Cx)(e:aH)(t:TE):Prop:=
 ∀(pins:List 72)(s:Shared)(σ:St)(H:Hp)(Q:VK),Inv X pins σ H s->t σ H Q->wpAny 37 X.A (217 e) 178 X.xe s
def PT(X:Cx)(e:aH)(t:TT):Prop:=
 ∀(pins:List 72)(s:Shared)(σ:St)(H:Hp)(Q:Bool->Hp->Prop),Inv X pins σ H s->t σ H Q->wpAny 37 X.A (isTrue e X.env (217 e)) (TP X pins σ Q) X.xe s
def PW(X:Cx)(e:aH)(t:TT):Prop:=
 ∀(whole:Sem Value)(pins:List 72)(s:Shared)(σ:St)(H:Hp)(Q:Bool->Hp->Prop),Inv X pins σ H s->t σ H Q->wpAny 37 X.A (isTrue e X.env whole) (TP X pins σ Q) X.xe s
theorem PW.pt{X:Cx}{e:aH}{t:TT}(h:PW X e t):PT X e t:=h _
def PA(X:Cx)(es:433)(t:TA):Prop:=
 ∀(pos:Pos)(pins:List 72)(s:Shared)(σ:St)(H:Hp)(Q:List V->Hp->Prop),Inv X pins σ H s->t σ H Q->wpAny 37 X.A (spliced (117 pos)) (AP X pins σ Q) X.xe s
def PS(X:Cx)(st:aL)(t:TS):Prop:=
 ∀(pins:List 72)(s:Shared)(σ:St)(H:Hp)(D:Ends),Inv X pins σ H s->t D σ H->wpAny 37 X.A (exec st X.env) (SP X pins D) X.xe s
def i9(X:Cx)(st:List aL)(t:TS):Prop:=
 ∀(pins:List 72)(s:Shared)(σ:St)(H:Hp)(D:Ends),Inv X pins σ H s->t D σ H->wpAny 37 X.A (execs st X.env) (SP X pins D) X.xe s
theorem aG{α:Type}{t:Sem α}{Q Q':α->Shared->Prop}{M:oB}{A:bz}{E:43}{s:Shared}(h:wpAny M A t Q E s)(hQ:∀a s,Q a s->Q' a s):wpAny M A t Q' E s:=ji h hQ fun _ _ x=>x
end L2
namespace L2
open PySem PySem.Spec PyProof.Rows
section
variable{X:Cx}
theorem bin{a b:aH}{ta tb:TE}(ha:451)(hb:710){pins:256}{s:Shared}{σ:St}{H:Hp}{R:V->V->Hp->Prop}(I:31)(h:ta σ H fun x H1=>tb σ H1 fun y H2=>R x y H2){α:Type}{Q:α->Shared->Prop}{f:Value->Value->Sem α}(hf:∀v u s2 x y H2,Inv X pins σ H2 s2->RelV x v->RelV y u->R x y H2->wpAny 37 X.A (f v u) Q X.xe s2):wpAny 37 X.A (217 a) 436 X.xe s:=by refine aG 125 fun v s1 ⟨x,H1,I1,r1,q1⟩=>?_;ext:112
def qu(i:Nat):TE:=fun σ H Q=>∃v,σ[i]?=some 456/\Q v H
def tC(v:V):TE:=fun _ H Q=>Q v H
theorem agX{i:Nat}{x:Str}{pos:Pos}(hN:X.N[i]?=some x)(hv:vT X.env.scope x)(hd:81=false:=by decide)(lA:(x==("__classdict__":Str))=false:=by decide):PE X 482 (qu i):=by intro pins s σ H Q I h;obtain⟨v,e,h⟩:=h;ext:164;obtain⟨u,r,l⟩:=hl i x v hN e hv;have fin:EP X pins σ Q u s:=⟨v,H,I,r,h⟩;rcases l with⟨hk,hm⟩|⟨hk,c,hc,Bb⟩;exact wpAny_Name (1062 fin) hd;rcases hk with hk|hk;exact wpAny_Name (wpAny_loadName_cell I.ok.kind hk hc Bb fin) hd;exact wpAny_Name (wpAny_loadName_free I.ok.kind hk hc Bb fin lA) hd
theorem ap {i j pos}:PE X (.Constant 835 j pos) (tC 835):=fun _ _ _ H _ I h=>wpAny_Constant_int (276 i h)
theorem Ld {j pos}:PE X (.Constant .none j pos) (tC .bo):=fun _ _ _ H _ I h=>VD {.bo,H,I,rfl,h}
theorem cu {x j pos}:PE X (.Constant (.str x) j pos) (tC (.str x)):=fun _ _ _ H _ I h=>Calls.Constant_str {.str x,H,I.tok _,569,h}
def Gl(X:Cx)(x:Str):Prop:=X.env.kindOf x=some .globalImplicit
theorem wj{E:43}{pins:256}{s:Shared}{σ:St}{H:Hp}{x:Str}{u:Value}{pos:Pos}{Q:43}(I:31)(hg:Gl X x)(hm:548 u)(h:Q u s)(hd:81=false:=by decide):wpAny 37 X.A (217 482) Q E s:=aiX I.ok.kind hg (Calls.loadGlobal_global 784 hm h) hd
theorem mo{E:43}{pins:256}{s:Shared}{σ:St}{H:Hp}{x:Str}{u:Value}{pos:Pos}{Q:43}(I:31)(hg:Gl X x)(hm:X.mg x=none)(hv:gS x=some u)(h:Q u s)(hn:x≠"__name__":=by decide)(hd:81=false:=by decide):wpAny 37 X.A (217 482) Q E s:=by obtain⟨mb,h1,h2⟩:=I.mod.blt;exact aiX I.ok.kind hg (Calls.loadGlobal_builtin 784 hm (by rw[I.ok.blt];exact h1.keeps I.bk) ((h2 x hn).trans hv) h) hd
theorem yE{x:Str}{v:V}{u:Value}{pos:Pos}(hg:Gl X x)(hm:548 u)(r:RelV v u)(hd:81=false:=by decide):PE X 482 (tC v):=fun _ _ _ H _ I h=>wj I hg hm ⟨v,H,I,r,h⟩ hd
variable{a b:aH}{ta tb:TE}{pos:Pos}
def PC(X:Cx)(op:CmpOp)(a b:aH)(t:TE):Prop:=
 ∀(pins:List 72)(s:Shared)(σ:St)(H:Hp)(Q:VK),Inv X pins σ H s->t σ H Q->
  wpAny 37 X.A (217 a) (fun v bO=>wpAny 37 X.A (217 b) (fun u eQ=>wpAny 37 X.A (gT op v u) 178 X.xe eQ) X.xe bO) X.xe s
theorem MD(b:aH){op:CmpOp}(h:op≠.In)(h2:op≠.NotIn):uF op b=false:=by
 have e1:(op==CmpOp.In)=false:=by cases op<;>first|rfl|exact 89 rfl h
 have e2:(op==CmpOp.NotIn)=false:=by cases op<;>first|rfl|exact 89 rfl h2
 cases b<;>simp[uF,e1,e2]
def XT(ta:TE):TE:=fun σ H Q=>ta σ H fun x H1=>Q (.bl (decide (x=.bo))) H1
def aeU(ta:TE):TE:=fun σ H Q=>ta σ H fun x H1=>Q (.bl (!decide (x=.bo))) H1
theorem RelV.Pw{x:V}{v:Value}(r:RelV x v):(v==fh)=decide (x=.bo):=by cases x with|bo=>cases r;rfl|bl _=>cases r;rfl|int _=>obtain⟨t,rfl⟩:=r;rfl|str _=>obtain⟨t,rfl⟩:=r;rfl|iN _=>obtain⟨t,rfl⟩:=r;rfl|zX _=>obtain⟨t,rfl⟩:=r;rfl|ref _=>cases r;rfl|ty _=>cases r;rfl
theorem ahX {j gN}(ha:451):PC X .Is a (.Constant .none j gN) (XT ta):=by intro pins s σ H Q I h;refine aG 125 fun v s1 ⟨x,H1,I1,r1,q1⟩=>?_;exact VD (is_none_gen 1024)
theorem P0 {j gN}(ha:451):PC X .IsNot a (.Constant .none j gN) (aeU ta):=by intro pins s σ H Q I h;refine aG 125 fun v s1 ⟨x,H1,I1,r1,q1⟩=>?_;exact VD (isnot_none_gen 1024)
def tB(t:TE):TT:=fun σ H Q=>t σ H fun x H1=>∃c,x=.bl c/\Q c H1
theorem SM{op:CmpOp}{t:TE}(h:PC X op a b t)(h1:uF op b=false:=by first|exact MD _ (by decide) (by decide)|rfl):PE X 539 t:=fun pins s σ H Q I hw=>wpAny_Compare1 897 h1
theorem Ag{op:CmpOp}{t:TE}(h:PC X op a b t)(h1:uF op b=false:=by first|exact MD _ (by decide) (by decide)|rfl):PT X 539 (tB t):=by intro pins s σ H Q I hw;refine wpAny_isTrue_Compare1 (aG 898 fun v s1 h1=>aG h1 fun u s2 h2=>aG h2 fun c s3 ⟨x,H1,I1,r1,q1⟩=>?_) h1;obtain⟨d,rfl,q⟩:=q1;cases r1;exact oC ⟨H1,I1,q⟩
theorem gP{e:aH}{t:TE}(h:PE X e t)(he:∀whole,isTrue e X.env whole=(do let v<-whole;rP e.pos;holding [v] (truthy v)):=by intro _;rfl):PT X e (tB t):=by intro pins s σ H Q I hw;refine isTrue_plain (198 898) (he _);obtain⟨d,rfl,q⟩:=q1;cases r1;exact oC ⟨H1,I1,q⟩
variable{tA Cv:TT}{rest:List aH}
def ahy(t u:TT):TT:=fun σ H Q=>t σ H fun c H1=>if c=true then u σ H1 Q else Q false H1
def tOr(t u:TT):TT:=fun σ H Q=>t σ H fun c H1=>if c=true then Q true H1 else u σ H1 Q
def agA(t:TT):TT:=fun σ H Q=>t σ H fun c H1=>Q (!c) H1
theorem BP(ha:PT X a tA):PW X (.BoolOp .And [a] pos) tA:=by intro wh pins s σ H Q I h;refine isTrue_and 857;cases c with|true=>exact isTrue_and_nil e|false=>exact e
theorem mU(ha:PT X a tA):PW X (.BoolOp .Or [a] pos) tA:=by intro wh pins s σ H Q I h;refine isTrue_or 857;cases c with|false=>exact isTrue_or_nil e|true=>exact e
theorem Dh(ha:PT X a tA)(hb:PW X (1041 (b::rest)) Cv):PW X (1041 (a::b::rest)) (ahy tA Cv):=by intro wh pins s σ H Q I h;refine isTrue_and 1033;cases c with|true=>exact hb wh pins s1 σ H1 Q I1 q1|false=>exact⟨H1,I1,q1⟩
theorem lD(ha:PT X a tA)(hb:PW X (.BoolOp .Or (b::rest) pos) Cv):PW X (.BoolOp .Or (a::b::rest) pos) (tOr tA Cv):=by intro wh pins s σ H Q I h;refine isTrue_or 1033;cases c with|true=>exact⟨H1,I1,q1⟩|false=>exact hb wh pins s1 σ H1 Q I1 q1
theorem i0(ha:PT X a tA):PT X (.UnaryOp .Not a pos) (agA tA):=by intro pins s σ H Q I h;exact isTrue_not (ha pins s σ H (fun c H1=>Q (!c) H1) I h)
def adl(ta tb:TE):TE:=fun σ H Q=>ta σ H fun x H1=>∃c,x=.bl c/\if c=true then tb σ H1 Q else Q (.bl false) H1
def adU(ta tb:TE):TE:=fun σ H Q=>ta σ H fun x H1=>∃c,x=.bl c/\if c=true then Q (.bl true) H1 else tb σ H1 Q
theorem Ff {op}{t:TE}(h:PE X a t):PE X (.BoolOp op [a] pos) t:=fun pins s σ H Q I hw=>BoolOp_one 897
theorem MQ(ha:451)(hb:PE X (1041 (b::rest)) tb):PE X (1041 (a::b::rest)) (adl ta tb):=by intro pins s σ H Q I h;refine BoolOp_and (198 125);obtain⟨c,rfl,q1⟩:=q1;cases r1;refine oC ?_;cases c with|true=>exact 699 Q|false=>exact{.bl false,H1,I1,rfl,q1}
theorem adt(ha:451)(hb:PE X (.BoolOp .Or (b::rest) pos) tb):PE X (.BoolOp .Or (a::b::rest) pos) (adU ta tb):=by intro pins s σ H Q I h;refine BoolOp_or (198 125);obtain⟨c,rfl,q1⟩:=q1;cases r1;refine oC ?_;cases c with|false=>exact 699 Q|true=>exact{.bl true,H1,I1,rfl,q1}
def tIf(t:TT)(ta tb:TE):TE:=fun σ H Q=>t σ H fun c H1=>if c=true then ta σ H1 Q else tb σ H1 Q
theorem ig{c:aH}(hc:PT X c tA)(ha:451)(hb:710):PE X (.IfExp c a b pos) (tIf tA ta tb):=by intro pins s σ H Q I h;refine wpAny_IfExp 712;cases d with|true=>exact ha pins s1 σ H1 Q I1 q1|false=>exact 699 Q
end
end L2
namespace L2
open PySem PySem.Spec PyProof.Rows
def aq(K:bv)(H:Hp)(a:Addr)(xs:231):Prop:=
 Rd H a 248\/
  ∃(o:Obj)(ai:Array Value)(n:Nat),K.lookup a=some o/\o.cls=.type "list"/\o.dict=none/\o.data=.seq ai n/\ai.size<=sizeLine/\Vals xs ai.toList
def bC(K:bv)(H:Hp)(a:Addr)(xs:231):Prop:=
 Rd H a 193\/
  ∃(o:Obj)(ai:Array Value)(n:Nat),K.lookup a=some o/\o.cls=.type "tuple"/\o.data=.seq ai n/\ai.size<=sizeLine/\Vals xs ai.toList
def ZH:Value->Option V
 |.none=>some .bo
 |.bool b=>some (.bl b)
 |.int i _=>some 835
 |.str x _=>some (.str x)
 |.bytes b _=>some (.iN b)
 |.float b _=>some (.zX b)
 |.ref a=>some 152
 |.type n=>some (.ty n)
 |_=>none
theorem RelV.abs{x:V}{u:Value}(r:RelV x u):ZH u=some x:=by cases x with|bo=>cases r;rfl|bl _=>cases r;rfl|int _=>obtain⟨t,rfl⟩:=r;rfl|str _=>obtain⟨t,rfl⟩:=r;rfl|iN _=>obtain⟨t,rfl⟩:=r;rfl|zX _=>obtain⟨t,rfl⟩:=r;rfl|ref _=>cases r;rfl|ty _=>cases r;rfl
theorem RelV.inj{x y:V}{u:Value}(r:RelV x u)(q:RelV y u):x=y:=dZ (r.abs.symm.trans q.abs)
theorem Vals.inj:∀{xs ys:List V}{us:List Value},Vals xs us->Vals ys us->xs=ys
 |_,_,_,.nil,.nil=>rfl
 |_,_,_,.cons r t,.cons r' t'=>by rw[r.inj r',Vals.inj t t']
section
variable{X:Cx}{pins:List (Addr×Obj)}{σ:St}{H:Hp}{s:Shared}{a:Addr}{xs ys:List V}
theorem aq.of{K:bv}(h:324 a 248):aq K H a xs:=.inl 834
theorem bC.of{K:bv}(h:324 a 193):bC K H a xs:=.inl 834
theorem Inv.list(I:31)(h:aq X.K H a xs):∃ai:List Value,Vals xs ai/\PlainL s.heap a ai.toArray/\xs.length<=sizeLine:=by rcases h with h|⟨o,ai,n,hk,hc,hd,hs,hz,r⟩;obtain⟨z,ai,n,r,e⟩:=h.ok I.aD;exact{ai,r,{_,n,e,rfl,rfl,rfl},z};refine{ai.toList,r,{o,n,I.eU a o hk,hc,hd,by simpa using hs},?_};have e:=r.length;simp only[jk]at e;omega
theorem Inv.tuple(I:31)(h:bC X.K H a xs):∃ai:List Value,Vals xs ai/\IsTup s.heap a ai.toArray/\xs.length<=sizeLine:=by rcases h with h|⟨o,ai,n,hk,hc,hs,hz,r⟩;obtain⟨z,ai,r,p⟩:=h.ok I.aD;exact⟨ai,r,p,z⟩;refine{ai.toList,r,{o,I.eU a o hk,hc,n,by simpa using hs},?_};have e:=r.length;simp only[jk]at e;omega
theorem Inv.wN(I:31)(h:aq X.K H a xs)(h':aq X.K H a ys):xs=ys:=by
 obtain⟨ai,r,⟨o,n,e,_,_,d⟩,_⟩:=I.list h;obtain⟨its',r',⟨o',n',e',_,_,d'⟩,_⟩:=I.list h';rw[e]at e';ext:116
 ext:84;exact r.inj r'
theorem Inv.IE(I:31)(h:bC X.K H a xs)(h':bC X.K H a ys):xs=ys:=by
 obtain⟨ai,r,⟨o,e,_,n,d⟩,_⟩:=I.tuple h;obtain⟨its',r',⟨o',e',_,n',d'⟩,_⟩:=I.tuple h';rw[e]at e';ext:116
 ext:84;exact r.inj r'
end
abbrev Cx.nH(X:Cx)(E:43):Cx:={X with xe:=E}
abbrev Cx.B4(X:Cx):Cx:=X.nH fun _ _=>False
theorem Cx.Ok.nH{X:Cx}(ok:X.Ok)(E:43):(X.nH E).Ok:=135
theorem Cx.Ok.qv{X:Cx}{E:43}(ok:(X.nH E).Ok):X.Ok:=135
section
variable{X:Cx}{pins:List (Addr×Obj)}{σ:St}{H:Hp}{s:Shared}{E:Value->Shared->Prop}
theorem Inv.nH(I:31)(E:43):Inv (X.nH E) pins σ H s:={I.ok.nH E,I.os,I.bare,I.base,I.loc,I.cell,I.free,I.gy,I.pin,I.aD,I.len}
theorem Inv.qv(I:Inv (X.nH E) pins σ H s):Inv X pins σ H s:=⟨I.ok.qv,I.os,I.bare,I.base,I.loc,I.cell,I.free,I.gy,I.pin,I.aD,I.len⟩
theorem SP.qv{D:Ends}{f:Flow}{s':Shared}(h:SP (X.nH E) pins D f s'):SP X pins D f s':=by cases f with|next=>obtain⟨aW,H',I,q⟩:=h;exact⟨aW,H',I.qv,q⟩|brk=>obtain⟨aW,H',I,q⟩:=h;exact⟨aW,H',I.qv,q⟩|cont=>obtain⟨aW,H',I,q⟩:=h;exact⟨aW,H',I.qv,q⟩|ret u=>obtain⟨v,aW,H',I,r,q⟩:=h;exact⟨v,aW,H',I.qv,r,q⟩
theorem i9.B4{st:List aL}{t:TS}(h:i9 X.B4 st t):i9 X st t:=fun pins s σ H D I hw=>ji (h pins s σ H D (I.nH _) hw) (fun _ _ q=>q.qv) fun _ _ z=>gU z
end
section
variable{X:Cx}{st:aL}{rest:List aL}{t u:TS}{e:aH}{te:TE}{pos:Pos}
def FM:TS:=fun D σ H=>D.nx σ H
def kO(t u:TS):TS:=fun D σ H=>t {D with nx:=u D} σ H
theorem bI:i9 X [] FM:=fun _ _ σ H _ I h=>EG {σ,H,I,h}
theorem aj(h1:PS X st t)(h2:i9 X rest u):i9 X (st::rest) (kO t u):=by intro pins s σ H D I h;refine wpAny_execs_cons (aG (h1 pins s σ H {D with nx:=u D} I h) fun f s1 q=>?_);cases f with|next=>obtain⟨aW,H',I',q⟩:=q;exact h2 pins s1 aW H' D I' q|ret v=>exact q|brk=>exact q|cont=>exact q
theorem au(h1:PS X st t):i9 X [st] t:=by intro pins s σ H D I h;refine wpAny_execs_cons (aG (h1 pins s σ H D I h) fun f s1 q=>?_);cases f with|next=>exact EG q|ret v=>exact q|brk=>exact q|cont=>exact q
theorem Inv.quiet{pins:256}{σ:St}{H:Hp}{s:Shared}(I:31):interactive X.env=false:=by simp[interactive,I.ok.kind]
def De(te:TE):TS:=fun D σ H=>te σ H fun _ H1=>D.nx σ H1
theorem cr(he:414)(hs:Ay e none pos.line X.env=pure false:=by rfl):PS X (.Expr e pos) (De te):=by intro pins s σ H D I h;exact wpAny_Expr_any (aG 159 fun v s1 ⟨x,H1,I1,r1,q1⟩=>{σ,H1,I1,q1}) I.quiet hs
def L8(te:TE):TS:=fun D σ H=>te σ H D.rt
theorem aF(he:414):PS X (.Return (some e) pos) (L8 te):=by intro pins s σ H D I h;exact wpAny_Return_some (aG 159 fun v s1 ⟨x,H1,I1,r1,q1⟩=>{x,σ,H1,I1,r1,q1})
def Zx(c:TT)(t u:TS):TS:=fun D σ H=>c σ H fun b H1=>if b=true then t D σ H1 else u D σ H1
theorem bB{c:aH}{a b:List aL}{tc:TT}(hc:PT X c tc)(ha:i9 X a t)(hb:i9 X b u):PS X (.If c a b pos) (Zx tc t u):=by intro pins s σ H D I h;refine wpAny_If 712;cases d with|true=>exact ha pins s1 σ H1 D I1 q1|false=>exact 699 D
end
abbrev TG:=V->St->Hp->(St->Hp->Prop)->Prop
abbrev pj:=List V->St->Hp->(St->Hp->Prop)->Prop
def PG(X:Cx)(target:aH)(t:TG):Prop:=
 ∀(pins:List 72)(s:Shared)(σ:St)(H:Hp)(v:V)(u:Value)(Q:St->Hp->Prop),Inv X pins σ H s->RelV v u->t v σ H Q->
  wpAny 37 X.A (assign target X.env u) (fun _ s'=>∃aW H',Inv X pins aW H' s'/\Q aW H') X.xe s
def yX(X:Cx)(ts:433)(t:pj):Prop:=
 ∀(pins:List 72)(s:Shared)(σ:St)(H:Hp)(vs:List V)(us:List Value)(Q:St->Hp->Prop),Inv X pins σ H s->Vals vs us->t vs σ H Q->
  wpAny 37 X.A (assignInOrder ((777 ts).map (·.2)) us) (fun _ s'=>∃aW H',Inv X pins aW H' s'/\Q aW H') X.xe s
abbrev Jz:=V->V->V->Hp->(Hp->Prop)->Prop
def NB(X:Cx)(t:Jz):Prop:=
 ∀(pins:List 72)(s:Shared)(σ:St)(H:Hp)(o i v:V)(ov iv u:Value)(Q:Hp->Prop),Inv X pins σ H s->RelV o ov->RelV i iv->RelV v u->t o i v H Q->
  wpAny 37 X.A (setItem ov iv u) (fun _ s'=>∃H',Inv X pins σ H' s'/\Q H') X.xe s
abbrev C8:=V->V->Hp->VK->Prop
def IR(X:Cx)(op:Operator)(t:C8):Prop:=
 ∀(pins:List 72)(s:Shared)(σ:St)(H:Hp)(x y:V)(v u:Value)(Q:VK),Inv X pins σ H s->RelV x v->RelV y u->t x y H Q->
  wpAny 37 X.A (inplaceOp op v u) 178 X.xe s
section
variable{X:Cx}{pos:Pos}
def iQ(i:Nat):TG:=fun v σ H Q=>Q (σ.set i 456) H
theorem cE{i:Nat}{x:Str}(hN:X.N.Nodup)(hi:X.N[i]?=some x)(hx:613)(hf:X.fn x=true\/X.env.scope.names.lookup x=some .local:=by first|exact 148|exact .inr rfl|assumption):PG X 482 (iQ i):=by intro pins s σ H v u Q I r h;exact wpAny_assign_Name (Ej I hN hi hx r (fun s' I'=>{_,H,I',h}) hf)
def Ia:pj:=fun vs σ H Q=>vs=[]/\Q σ H
def yZ(t:TG)(u:pj):pj:=fun vs σ H Q=>∃v r,vs=v::r/\t v σ H fun aW H'=>u r aW H' Q
theorem rH:yX X [] Ia:=by intro pins s σ H vs us Q I r h;obtain⟨e,h⟩:=h;subst e;cases r;exact assignInOrder_nil {σ,H,I,h}
theorem je{e:aH}{es:433}{t:TG}{u:pj}(h1:PG X e t)(h2:yX X es u)(hs:(777 298).map (·.2)=assign e X.env::(777 es).map (·.2):=by rfl):yX X 298 (yZ t u):=by intro pins s σ H vs us Q I r h;obtain⟨v,vr,e1,h⟩:=h;subst e1;cases r with|cons r rr=>rw[hs];refine assignInOrder_cons (aG (h1 pins s σ H _ _ _ I r h) fun _ s1 ⟨oR,H1,I1,q1⟩=>?_);exact h2 pins s1 oR H1 _ _ Q I1 rr q1
def ach(K:bv)(n:Nat)(t:pj):TG:=fun v σ H Q=>∃a xs,v=.ref a/\bC K H a xs/\xs.length=n/\t xs σ H Q
theorem uq{es:433}{k:Nat}{t:pj}{n:Nat}(hc:347)(h:yX X es t)(hn:(777 es).length=n:=by rfl)(de:(777 es).findIdx? (·.1)=none:=by rfl):PG X (.Tuple es k pos) (ach X.K n t):=by intro pins s σ H v u Q I r hw;obtain⟨a,xs,e1,hq,hl,hw⟩:=hw;subst e1;cases r;obtain⟨ai,rv,ht,hz⟩:=I.tuple hq;refine assign_Tuple_tuple 208 ht (by simp[hn,<-hl,rv.length]) de fun h' hx=>?_;have I1:Inv X pins σ H {s with heap:=h'}:=I.kept (t':=s.toks) fun b o e=>hx b o (cI (bn e)) e;exact h pins _ σ H xs _ Q I1 (by simpa using rv) hw
def acY(to ti:TE)(t:Jz):TG:=fun v σ H Q=>to σ H fun o H1=>ti σ H1 fun i H2=>t o i v H2 fun H3=>Q σ H3
theorem aec{o i:aH}{to ti:TE}{t:Jz}(ho:PE X o to)(hi:PE X i ti)(hs:NB X t)(ha:∀v,assign (642 o i pos) X.env v=(do let ov<-holding [v] (217 o);let iv<-holding [v,ov] (217 i);rP pos;holding [v,ov,iv] (setItem ov iv v);release [v,ov,iv] []):=by intro _;rfl):PG X (642 o i pos) (acY to ti t):=by intro pins s σ H v u Q I r h;rw[ha];rw[0,(368 (aG 378 fun ov s1 ⟨x,H1,I1,r1,q1⟩=>?_))];rw[0,(368 (aG (hi pins s1 σ H1 _ I1 q1) fun iv s2 ⟨y,H2,I2,r2,q2⟩=>?_))];rw[0,(Az (22 (368 (aG (hs pins s2 σ H2 x y v ov iv u _ I2 r1 r2 r q2) fun _ s3 ⟨H3,I3,q3⟩=>?_))))];exact wpAny_release {σ,H3,I3,q3}
def vR(te:TE)(g:TG):TS:=fun D σ H=>te σ H fun x H1=>g x σ H1 D.nx
theorem abM{tg e:aH}{te:TE}{g:TG}(he:414)(hg:PG X tg g)(hs:swapsWithSole [tg] e pos.line X.env=pure false:=by rfl)(hw:swappedStores [tg] e X.env=pure none:=by rfl)(h1:(assignEach [tg] X.env).map (·.2)=[assign tg X.env]:=by rfl):PS X (.Assign [tg] e pos) (vR te g):=by intro pins s σ H D I h;refine wpAny_Assign_stores (198 159) hs hw;rw[h1];exact aG (hg pins s1 σ H1 x v _ I1 r1 q1) fun _ s2 q=>q
theorem aQ{i:Nat}{x:Str}{e:aH}{te:TE}{gN:Pos}(hN:X.N.Nodup)(hi:X.N[i]?=some x)(hx:613)(he:414)(hs:Ay e (some (.Name x gN)) pos.line X.env=pure false:=by rfl)(hf:X.fn x=true\/X.env.scope.names.lookup x=some .local:=by first|exact 148|exact .inr rfl|assumption):PS X (.Assign [.Name x gN] e pos) (vR te (iQ i)):=by intro pins s σ H D I h;refine wpAny_Assign_Name (aG 159 fun v s1 ⟨y,H1,I1,r1,q1⟩=>?_) hs;exact Ej I1 hN hi hx r1 (fun s2 I2=>{_,H1,I2,q1}) hf
def afd(i:Nat)(te:TE)(ti:C8):TS:=fun D σ H=>∃x,σ[i]?=some (some x)/\te σ H fun y H1=>ti x y H1 fun z H2=>D.nx (σ.set i (some z)) H2
theorem Uh{i:Nat}{x:Str}{e:aH}{te:TE}{op:Operator}{ti:C8}{gN:Pos}(hN:X.N.Nodup)(hi:X.N[i]?=some x)(hx:613)(he:414)(ho:IR X op ti)(hf:X.fn x=true\/X.env.scope.names.lookup x=some .local:=by first|exact 148|exact .inr rfl|assumption):PS X (.AugAssign (.Name x gN) op e pos) (afd i te ti):=by
 rw[18,D];obtain⟨v,e1,h⟩:=h;ext:164;have Xh:vT X.env.scope x:=by rcases hx with k|k;rw[17,k];exact 546 (.inl k)
 obtain⟨u,r,l⟩:=hl i x v hi e1 Xh;refine wpAny_AugAssign_Name ?_;have go:wpAny 37 X.A (217 e) (fun w eQ=>wpAny 37 X.A (inplaceOp op u w) (fun r qt=>wpAny 37 X.A (storeName X.env x r) (fun _=>SP X pins D .next) X.xe qt) X.xe eQ) X.xe s:=by refine aG 159 fun w s1 ⟨y,H1,I1,r1,q1⟩=>?_;refine aG (ho pins s1 σ H1 v y u w _ I1 r r1 q1) fun z s2 ⟨zv,H2,I2,r2,q2⟩=>?_;exact Ej I2 hN hi hx r2 (fun s3 I3=>{_,H2,I3,q2}) hf
 rcases l with⟨hk,hm⟩|⟨hk,c,hc,Bb⟩;exact 1062 go;rcases hk with hk|hk;exact wpAny_loadName_cell I.ok.kind hk hc Bb go;rcases hx with k|k;ext:144;ext:144
def ipI(f:Int->Int->Int):C8:=fun x y H Q=>∃i j,x=.int i/\y=.int j/\Q (.int (f i j)) H
theorem abG:IR X .Add (ipI fun i j=>i+j):=by intro pins s σ H x y v u Q I r1 r2 h;obtain⟨i,j,e1,e2,q⟩:=h;subst e1;subst e2;rw[1,r1];obtain⟨t',rfl⟩:=r2;exact iadd_int {.int _,H,I.tok _,569,q}
end
section
variable{X:Cx}{pos:Pos}
def aeC(c:TT)(tb:TS):TS:=fun D σ H=>∃W:Nat->St->Hp->Prop,(∃m,W m σ H)/\∀m σ H,W m σ H->
 c σ H fun b H1=>if b=true then∃N:St->Hp->Prop,(∀aW H',N aW H'->∃m',m'<m/\W m' aW H')/\tb {D with nx:=N,ct:=N,bk:=D.nx} σ H1 else D.nx σ H1
theorem C9{c:aH}{body:List aL}{tc:TT}{tb:TS}(hp:PassesOwn 37 X.A X.env X.xe)(hc:PT X c tc)(hb:i9 X body tb):PS X (.While c body [] pos) (aeC tc tb):=by intro pins s σ H D I h;obtain⟨W,⟨m0,w0⟩,turn⟩:=h;refine wpAny_While (codeAny_whileLoop (fun n s'=>∃aW H',Inv X pins aW H' s'/\W n aW H') ?_ m0 {σ,H,I,w0});rintro n s1 ⟨oR,H1,I1,w1⟩;refine xr hp (aG (hc pins s1 oR H1 _ I1 (turn n oR H1 w1)) fun b s2 ⟨H2,I2,q2⟩=>?_);cases b with|true=>(obtain⟨N,hN,q2⟩:=q2;ext:143;refine xr hp (aG (hb pins s2 oR H2 _ I2 q2) fun f s3 q3=>?_);cases f with|next=>obtain⟨mv,H3,I3,n3⟩:=q3;obtain⟨m',hm,w3⟩:=hN mv H3 n3;exact⟨m',hm,mv,H3,I3,w3⟩|cont=>obtain⟨mv,H3,I3,n3⟩:=q3;obtain⟨m',hm,w3⟩:=hN mv H3 n3;exact⟨m',hm,mv,H3,I3,w3⟩|brk=>exact q3|ret v=>exact q3)|false=>rw[if_neg df];exact EG ⟨oR,H2,I2,q2⟩
end
structure It where
 go:Nat->Hp->Prop
 gG:Nat->Hp->V->Hp->Prop
 stop:Nat->Hp->Prop
def lP(X:Cx)(pins:256)(H:Hp)(b:Addr):Prop:=
 H b=none/\b≠X.env.locals/\b∉X.fs/\375/\(∀x c,X.env.cells.lookup x=some c->c≠b)/\∀p∈X.pn++pins,p.1≠b
theorem Inv.oX{X:Cx}{pins:256}{σ:St}{H H':Hp}{s:Shared}{b:Addr}(I:31)(hb:963 b)(hn:H' b=none):lP X pins H' b:=by refine{hn,kR (dY I.lt hb),I.afz hb,.inr (dG I.sz hb),fun x c e z=>?_,fun p hp z=>?_};obtain⟨v,q⟩:=I.cell x c e;exact 360 (dY q.lt (by rw[z];exact hb));exact 360 (dY (bn (I.pin p hp).1) (by rw[z];exact hb))
structure Turn(P:aT)(w:aI)(K:bv)(tg:aH)(J:It)(fp:List Addr)(it:Addr)(tn:Nat->Heap->Prop):Prop where
 mem:it∈fp
 obj:∀i h,tn i h->∀b∈fp,∃o,h.get? b=some o/\∀v,o.data≠.cell v
 keep:∀i h h',tn i h->(∀b∈fp,∀o,h.get? b=some o->h'.get? b=some o)->tn i h'
 item:∀(X:Cx),X.prog=P->X.w=w->X.K=K->X.calm=true->∀(i:Nat)(pins:List (Addr×Obj))(s:Shared)(σ:St)(H:Hp)(E:Value->Shared->Prop),Inv X pins σ H s->(∀b∈fp,lP X pins H b)->tn i s.heap->J.go i H->
  wpAny (model P w) X.A (pyNext (.ref it)) (fun r s1=>∃u,r=some u/\
   wpAny (model P w) X.A (J7 tg (.ref it) u) (fun _ s2=>∃x H',Inv X pins σ H' s2/\RelV x u/\J.gG i H x H'/\tn (i+1) s2.heap/\∀b∈fp,H' b=none) E s1) E s
 done:∀(X:Cx),X.prog=P->X.w=w->X.K=K->X.calm=true->∀(i:Nat)(pins:List (Addr×Obj))(s:Shared)(σ:St)(H:Hp)(E:Value->Shared->Prop),Inv X pins σ H s->(∀b∈fp,lP X pins H b)->tn i s.heap->J.stop i H->
  wpAny (model P w) X.A (pyNext (.ref it)) (fun r s1=>r=none/\Inv X pins σ H s1) E s
 self:∀(A:bz)(i:Nat)(s:Shared)(Q:Value->Shared->Prop)(E:Value->Shared->Prop),tn i s.heap->Q (.ref it) s->wpAny (model P w) A (pyIter (.ref it)) Q E s
abbrev TI:=St->Hp->(It->Hp->Prop)->Prop
def FS(X:Cx)(pins:256)(σ:St)(tg:aH)(R:It->Hp->Prop)(HC:Value)(s2:Shared):Prop:=
 ∃(it:Addr)(fp:List Addr)(tn:Nat->Heap->Prop)(J:It)(H':Hp),HC=.ref it/\Inv X pins σ H' s2/\Turn X.prog X.w X.K tg J fp it tn/\tn 0 s2.heap/\(∀b∈fp,lP X pins H' b)/\R J H'
def PI(X:Cx)(tg iter:aH)(wi:TI):Prop:=
 ∀(pins:List 72)(s:Shared)(σ:St)(H:Hp)(R:It->Hp->Prop),Inv X pins σ H s->wi σ H R->
  wpAny 37 X.A (217 iter) (fun v s1=>wpAny 37 X.A (pyIter v) (FS X pins σ tg R) X.xe s1) X.xe s
theorem Aw {M : oB} {A : bz} {E : Value → Shared → Prop} {s : Shared} {tg : aH} {it : Addr} {u : Value} {o : Obj} {n : String} {vs : 136} {Q : Unit → Shared → Prop} (ho : s.heap.get? it = some o) (hc : o.cls = .type n) (hd : o.data = .fields vs)
    (hn : ["enumerate", "zip", "dict_itemiterator", "dict_reverseitemiterator", "odict_iterator", "itertools.zip_longest", "itertools.pairwise"].contains n = false) (hQ : Q () s) : wpAny M A (J7 tg 322 u) Q E s := by
  unfold J7
  cases tg <;> first
    | exact 58 hQ
    | (cases u <;> first
        | exact wpAny_pure hQ
        | (refine wpAny_bind (wpAny_load ho ?_)
           rw [hc, hd]
           show wpAny M A (if (["enumerate", "zip", "dict_itemiterator", "dict_reverseitemiterator", "odict_iterator", "itertools.zip_longest", "itertools.pairwise"].contains n && vs[0]? == some (rawInt _)) = true then _ else _) Q E s
           rw [if_neg (by intro h; rw [hn, AA] at h; cases h)]
           exact wpAny_pure hQ))
def iK(K:bv)(a:Addr):It:=
 {fun i H=>∃xs x,aq K H a xs/\xs[i]?=some x,fun i H x H'=>H'=H/\∀xs,aq K H a xs->xs[i]?=some x,fun i H=>∃xs,aq K H a xs/\xs.length<=i}
def qB(K:bv)(a:Addr):It:=
 {fun i H=>∃xs x,bC K H a xs/\xs[i]?=some x,fun i H x H'=>H'=H/\∀xs,bC K H a xs->xs[i]?=some x,fun i H=>∃xs,bC K H a xs/\xs.length<=i}
def oU(lo:Int)(n:Nat):It:={fun i _=>i<n,fun i H x H'=>H'=H/\x=.int (lo+i),fun i _=>n<=i}
theorem aei{P:aT}{w:aI}{K:bv}{tg:aH}(a it:Addr):Turn P w K tg (iK K a) [it] it (fun i h=>h.IsListIter it a i)where
 mem:=by simp
 obj:=fun i h st b hb=>by
  have e:b=it:=by simpa using hb
  subst e
  obtain⟨o,e,c,d⟩:=st
  exact 359
 keep:=fun i h h' st k=>st.at fun o e=>k it 42 o e
 item:=by
  intro X hP hw hK hc i pins s σ H E I hf st hg
  subst hP hw hK
  obtain⟨xs,x,hq,hx⟩:=hg
  obtain⟨ai,rv,p,hz⟩:=I.list hq
  obtain⟨u,hu,ru⟩:=rv.get hx
  obtain⟨f0,f1,f2,f3,f4,f5⟩:=hf it 42
  refine wpAny_pyNext_list_item st p.isList (x:=u) 460 fun h' ju sb=>?_
  have I1:Inv X pins σ H {s with heap:=h'}:=I.turned (t':=s.toks) 358 f0 f1 f3 f4 f5
  obtain⟨o,e,c,d⟩:=id ju
  exact(528 (552 ju))
 done:=by
  intro X hP hw hK hc i pins s σ H E I hf st hg
  subst hP hw hK
  obtain⟨xs,hq,hx⟩:=hg
  obtain⟨ai,rv,p,hz⟩:=I.list hq
  obtain⟨f0,f1,f2,f3,f4,f5⟩:=hf it 42
  have hl:=rv.length
  exact wpAny_pyNext_list_end 208 st p.isList 79 fun h' eb=>101
 self:=fun _ _ _ _ _ st h=>wpAny_pyIter_listiter st h
theorem afG{P:aT}{w:aI}{K:bv}{tg:aH}(a it:Addr):Turn P w K tg (qB K a) [it] it (fun i h=>h.IsTupleIter it a i)where
 mem:=by simp
 obj:=fun i h st b hb=>by
  have e:b=it:=by simpa using hb
  subst e
  obtain⟨o,e,c,d⟩:=st
  exact 359
 keep:=fun i h h' st k=>st.at fun o e=>k it 42 o e
 item:=by
  intro X hP hw hK hc i pins s σ H E I hf st hg
  subst hP hw hK
  obtain⟨xs,x,hq,hx⟩:=hg
  obtain⟨ai,rv,p,hz⟩:=I.tuple hq
  obtain⟨u,hu,ru⟩:=rv.get hx
  obtain⟨f0,f1,f2,f3,f4,f5⟩:=hf it 42
  refine wpAny_pyNext_tuple_item st 877 (x:=u) 460 fun h' ju sb=>?_
  have I1:Inv X pins σ H {s with heap:=h'}:=I.turned (t':=s.toks) 358 f0 f1 f3 f4 f5
  obtain⟨o,e,c,d⟩:=id ju
  exact(528 {x,H,I1,ru,{rfl,fun ys hy=>by rw[I.IE hy hq];exact hx},ju,fun b hb=>(hf b hb).1})
 done:=by
  intro X hP hw hK hc i pins s σ H E I hf st hg
  subst hP hw hK
  obtain⟨xs,hq,hx⟩:=hg
  obtain⟨ai,rv,p,hz⟩:=I.tuple hq
  obtain⟨f0,f1,f2,f3,f4,f5⟩:=hf it 42
  have hl:=rv.length
  exact wpAny_pyNext_tuple_end 208 st 877 79 fun h' eb=>101
 self:=fun _ _ _ _ _ st h=>wpAny_pyIter_tupleiter st h
theorem abH{P:aT}{w:aI}{K:bv}{tg:aH}(it:Addr)(lo:Int)(n:Nat):Turn P w K tg (oU lo n) [it] it (fun i h=>IsRangeIter h it (lo+(i:Nat)*1) ((n:Int)-(i:Nat)) 1)where
 mem:=by simp
 obj:=fun i h st b hb=>by
  have e:b=it:=by simpa using hb
  subst e
  exact⟨_,st,fun v z=>by
   have z':Data.fields _=Data.cell v:=z
   cases z'⟩
 keep:=fun i h h' st k=>k it 42 _ st
 item:=by
  intro X hP hw hK hc i pins s σ H E I hf st hg
  subst hP hw hK
  obtain⟨f0,f1,f2,f3,f4,f5⟩:=hf it 42
  have W:=Walks.range (prog:=X.prog) (w:=X.w) 208 it lo 1 n
  refine W.item i s _ _ hg st fun v h' tk hv ju kk=>?_
  obtain⟨t,rfl⟩:=hv
  have I1:Inv X pins σ H {s with heap:=h',toks:=tk}:=I.turned 819 f0 f1 f3 f4 f5
  refine{_,rfl,Aw (s:={s with heap:=h',toks:=tk}) (n:="range_iterator") ju rfl rfl 29 {.int (lo+i),H,I1,{t,?_},669,ju,fun b hb=>(hf b hb).1}}
  rw[Int.mul_one]
 done:=by
  intro X hP hw hK hc i pins s σ H E I hf st hg
  subst hP hw hK
  obtain⟨f0,f1,f2,f3,f4,f5⟩:=hf it 42
  exact wpAny_pyNext_range_end 208 st (by have:n<=i:=hg;omega) fun h' eb=>101
 self:=fun _ _ _ _ _ st h=>wpAny_pyIter_rangeiter st h
end L2
namespace L2
open PySem PySem.Spec PyProof.Rows
section
variable{X:Cx}{tg:aH}
def Xm(K:bv)(tl:TE):TI:=fun σ H R=>tl σ H fun x H1=>∃a,x=.ref a/\(∃xs,aq K H1 a xs)/\R (iK K a) H1
def aiL(K:bv)(tl:TE):TI:=fun σ H R=>tl σ H fun x H1=>∃a,x=.ref a/\(∃xs,bC K H1 a xs)/\R (qB K a) H1
theorem io{l:aH}{tl:TE}(hl:PE X l tl):PI X tg l (Xm X.K tl):=by
 ext:48;cases r1;obtain⟨ai,rv,p,hz⟩:=I1.list hq;refine AB p.isList ?_;refine(328 aei);have e:b=s1.heap.objs.size:=by simpa using hb
 subst e;exact 708
theorem ym{l:aH}{tl:TE}(hl:PE X l tl):PI X tg l (aiL X.K tl):=by
 ext:48;cases r1;obtain⟨ai,rv,p,hz⟩:=I1.tuple hq;refine AC (show s1.heap.IsTuple a ai.toArray from p) ?_;refine(328 afG);have e:b=s1.heap.objs.size:=by simpa using hb
 subst e;exact 708
theorem abN{pins:256}{σ:St}{H:Hp}{s:Shared}{R:It->Hp->Prop}{E:43}{lo hi:Int}{t u v:Tok}{tk:Nat}(I:31)(h1:-(2^62)<=lo)(h2:lo<2^62)(h3:-(2^62)<=hi)(h4:hi<2^62)(q:R (oU lo (hi-lo).toNat) H):wpAny 37 X.A (pyIter 84) (FS X pins σ tg R) E {s with heap:=s.heap.push {cls:=.type "range",data:=.fields #[.int lo t,.int hi u,.int 1 v]},toks:=tk}:=by
 refine wpAny_pyIter_range (IsRange.new ..) (small_one h1 h2 h3 h4) ?_;have I1:Inv X pins σ H {s with heap:=s.heap.push {cls:=.type "range",data:=.fields #[.int lo t,.int hi u,.int 1 v]},toks:=tk}:=I.kept fun b o e=>bG _ e;refine{(s.heap.push {cls:=.type "range",data:=.fields #[.int lo t,.int hi u,.int 1 v]}).objs.size,[(s.heap.push {cls:=.type "range",data:=.fields #[.int lo t,.int hi u,.int 1 v]}).objs.size],_,_,H,rfl,I1.kept (t':=tk) fun b o e=>bG _ e,abH _ lo (hi-lo).toNat,?_,fun b hb=>?_,q};have e1:lo+((0:Nat):Int)*1=lo:=by simp
 have e2:(((hi-lo).toNat:Nat):Int)-((0:Nat):Int)=Builtin.Range.rangeSize lo hi 1:=by rw[rangeSize_one];split<;>omega
 show IsRangeIter _ _ (lo+((0:Nat):Int)*1) ((((hi-lo).toNat:Nat):Int)-((0:Nat):Int)) 1;rw[e1,e2];exact 577;have e:b=(s.heap.push {cls:=.type "range",data:=.fields #[.int lo t,.int hi u,.int 1 v]}).objs.size:=by simpa using hb
 subst e;exact 708
def abu(ta:TA):TI:=fun σ H R=>ta σ H fun vs H1=>∃j:Int,vs=[.int j]/\-(2^62)<=j/\j<2^62/\R (oU 0 j.toNat) H1
theorem z6{a:aH}{ta:TA}{p pos:Pos}(hg:Gl X "range")(hm:X.mg "range"=none)(ha:PA X [a] ta)(hs:starEach [a] X.env=[(false,eval a X.env)]:=by rfl):PI X tg (.Call (.Name "range" p) [a] [] pos) (abu ta):=by intro pins s σ H R I h;refine Call_ (798 boot_range);obtain⟨j,e,q1,q2,q⟩:=q1;subst e;cases r1 with|cons r rr=>cases rr;rw[1,r];exact call_range_1 (abN I1 23 23 q1 q2 (by simpa using q))
def aaT(wi:TI)(g:TG)(tb:TS):TS:=fun D σ H=>wi σ H fun J H1=>∃W:Nat->Nat->St->Hp->Prop,(∃m,W 0 m σ H1)/\∀i m σ H,W i m σ H->
 (J.stop i H/\D.nx σ H)\/(J.go i H/\∃N:St->Hp->Prop,(∀aW H',N aW H'->∃m',m'<m/\W (i+1) m' aW H')/\∀x H',J.gG i H x H'->g x σ H' fun bq H2=>tb {D with nx:=N,ct:=N,bk:=D.nx} bq H2)
def yD(fp:261)(h:Heap):List 72:=fp.filterMap fun b=>(h.get? b).map fun o=>(b,o)
theorem Gn{fp:261}{h:Heap}{b:Addr}{o:Obj}(hb:b∈fp)(e:354 b o):(b,o)∈yD fp h:=rQ.mpr {b,hb,by rw[e];rfl}
theorem XB{fp:261}{h:Heap}{p:72}(hp:p∈yD fp h):p.1∈fp/\h.get? p.1=some p.2:=by obtain⟨b,hb,e⟩:=rQ.mp hp;cases q:h.get? b with|none=>rw[q]at e;cases e|some o=>rw[q]at e;have e':(b,o)=p:=dZ e;subst e';exact⟨hb,q⟩
theorem Inv.pinned{pins:256}{σ:St}{H:Hp}{s:Shared}{fp:261}(I:31)(hf:∀b∈fp,lP X pins H b)(ho:∀b∈fp,∃o,s.heap.get? b=some o/\∀v,o.data≠.cell v):Inv X (pins++yD fp s.heap) σ H s:=I.Ob fun p hp=>(bP.mp hp).elim (fun z=>I.pin p (mV _ z)) fun z=>by obtain⟨hb,e⟩:=XB z;obtain⟨f0,f1,f2,_⟩:=hf p.1 hb;obtain⟨o,e',d⟩:=ho p.1 hb;rw[e]at e';cases e';exact⟨e,f0,f1,f2,d⟩
theorem Inv.Bz{pins pl:256}{σ:St}{H:Hp}{s:Shared}(I:Inv X (pins++pl) σ H s):Inv X pins σ H s:=I.Ob fun p hp=>I.pin p (mV _ (rO _ hp))
theorem gZ{iter:aH}{body:List aL}{wi:TI}{g:TG}{tb:TS}{pos:Pos}(hp:PassesOwn 37 X.A X.env X.xe)(hc:347)(hi:920)(hg:PG X tg g)(hb:i9 X body tb)(hs:∀x,foldedSetIterable iter X.env x=pure x:=by intro _;rfl):PS X (.For tg iter body [] pos) (aaT wi g tb):=by
 rw[18,D];refine wpAny_For (aG 624 fun v s1 h1=>aG h1 fun HC s2 h2=>?_) hs;obtain⟨it,fp,tn,J,H2,e,I2,T,mf,f2,W,⟨m0,w0⟩,turn⟩:=h2;subst e;have tZ:∀{H':Hp},(∀b∈fp,H' b=none)->∀b∈fp,lP X pins H' b:=fun hn b hb=>{hn b hb,(f2 b hb).2};refine codeAny_forLoop_any (fun n s'=>∃i aW H',Inv X pins aW H' s'/\tn i s'.heap/\(∀b∈fp,H' b=none)/\W i n aW H') ?_ m0 {0,σ,H2,I2,mf,fun b hb=>(f2 b hb).1,w0};rintro n s3 ⟨i,mv,H3,I3,sL,Np,w3⟩;rcases turn i n mv H3 w3 with⟨stop,qn⟩|⟨go,N,hN,step⟩;refine xr hp (aG (T.done X rfl rfl rfl hc i pins s3 mv H3 X.xe I3 (tZ Np) sL stop) fun r s4 ⟨hr,I4⟩=>?_);subst hr;exact EG ⟨mv,H3,I4,qn⟩;refine xr hp (aG (T.item X rfl rfl rfl hc i pins s3 mv H3 X.xe I3 (tZ Np) sL go) fun r s4 ⟨u,hr,h4⟩=>?_);subst hr;refine xr hp (aG h4 fun _ s5 ⟨x,H5,I5,r5,y5,vo,fr5⟩=>?_);have I5':=I5.pinned (tZ fr5) (T.obj _ _ vo);refine xr hp (aG (hg _ s5 mv H5 x u _ I5' r5 (step x H5 y5)) fun _ s6 ⟨σ6,H6,I6,q6⟩=>?_);refine xr hp (aG (hb _ s6 σ6 H6 _ I6 q6) fun f s7 q7=>?_)
 have again:∀{mM:St}{H7:Hp},Inv X (pins++yD fp s5.heap) mM H7 s7->N mM H7->∃m,m<n/\∃i aW H',Inv X pins aW H' s7/\tn i s7.heap/\(∀b∈fp,H' b=none)/\W i m aW H':=fun{mM H7} I7 n7=>by obtain⟨m',hm,w7⟩:=hN mM H7 n7;refine{m',hm,i+1,mM,H7,I7.Bz,T.keep _ _ _ vo fun b hb o e=>(I7.pin (b,o) 867).1,fun b hb=>?_,w7};obtain⟨o,e,d⟩:=T.obj _ _ vo b hb;exact(I7.pin (b,o) 867).2.1
 cases f with|next=>obtain⟨mM,H7,I7,n7⟩:=q7;exact again I7 n7|cont=>obtain⟨mM,H7,I7,n7⟩:=q7;exact again I7 n7|brk=>obtain⟨mM,H7,I7,q7⟩:=q7;exact⟨mM,H7,I7.Bz,q7⟩|ret v=>obtain⟨x7,mM,H7,I7,r7,q7⟩:=q7;exact⟨x7,mM,H7,I7.Bz,r7,q7⟩
end
theorem pE{K:bv}{a:Addr}{xs:231}{g:TG}{tb:TS}{D:Ends}{σ:St}{H:Hp}(Pv:Nat->St->Hp->Prop)(h0:921)(hl:∀i σ H,i<=xs.length->Pv i σ H->aq K H a xs)(hs:∀i x σ H,xs[i]?=some x->Pv i σ H->g x σ H fun bq H2=>tb {D with nx:=Pv (i+1),ct:=Pv (i+1),bk:=D.nx} bq H2)(hd:∀σ H,Pv xs.length σ H->D.nx σ H):∃W:Nat->Nat->St->Hp->Prop,(∃m,W 0 m σ H)/\∀i m σ H,W i m σ H->((iK K a).stop i H/\D.nx σ H)\/((iK K a).go i H/\∃N:St->Hp->Prop,(∀aW H',N aW H'->∃m',m'<m/\W (i+1) m' aW H')/\∀x H',(iK K a).gG i H x H'->g x σ H' fun bq H2=>tb {D with nx:=N,ct:=N,bk:=D.nx} bq H2):=by
 ext:13;refine 546 {431,Pv (i+1),fun aW H' p'=>110,fun x H' y=>?_};obtain⟨e,y⟩:=y;subst e;exact hs i x σ _ (y xs q) p;ext:20
 subst e;exact 670
theorem GQ{lo:Int}{n:Nat}{g:TG}{tb:TS}{D:Ends}{σ:St}{H:Hp}(Pv:Nat->St->Hp->Prop)(h0:921)(hs:∀i σ H,i<n->Pv i σ H->g (.int (lo+i)) σ H fun bq H2=>tb {D with nx:=Pv (i+1),ct:=Pv (i+1),bk:=D.nx} bq H2)(hd:∀σ H,Pv n σ H->D.nx σ H):∃W:Nat->Nat->St->Hp->Prop,(∃m,W 0 m σ H)/\∀i m σ H,W i m σ H->((oU lo n).stop i H/\D.nx σ H)\/((oU lo n).go i H/\∃N:St->Hp->Prop,(∀aW H',N aW H'->∃m',m'<m/\W (i+1) m' aW H')/\∀x H',(oU lo n).gG i H x H'->g x σ H' fun bq H2=>tb {D with nx:=N,ct:=N,bk:=D.nx} bq H2):=by
 refine{fun i m σ H=>m=n-i/\i<=n/\Pv i σ H,{n,by simp,bA _,h0},?_};rintro i m σ H ⟨rfl,hi,p⟩;by_cases aY:i<n;refine 546 {aY,Pv (i+1),fun aW H' p'=>{n-(i+1),by omega,rfl,aY,p'},fun x H' y=>?_};obtain⟨e,y⟩:=y;subst e y;exact hs i σ _ aY p;have e:i=n:=by omega
 subst e;exact .inl {aV _,hd σ H p}
end L2
namespace L2
open PySem PySem.Spec PyProof.Rows
abbrev R2:=V->V->Hp->VK->Prop
def dg(X:Cx)(f:435)(r:R2):Prop:=
 ∀(pins:List 72)(s:Shared)(σ:St)(H:Hp)(x y:V)(v u:Value)(Q:VK),Inv X pins σ H s->RelV x v->RelV y u->r x y H Q->
  wpAny 37 X.A (f v u) 178 X.xe s
def FZ(X:Cx)(f:Value->Sem Value)(r:V->Hp->VK->Prop):Prop:=
 ∀(pins:List 72)(s:Shared)(σ:St)(H:Hp)(x:V)(v:Value)(Q:VK),Inv X pins σ H s->RelV x v->r x H Q->
  wpAny 37 X.A (f v) 178 X.xe s
def jw(X:Cx)(f:Value)(r:List V->Hp->VK->Prop):Prop:=
 ∀(pins:List 72)(s:Shared)(σ:St)(H:Hp)(xs:List V)(us:List Value)(Q:VK),Inv X pins σ H s->Vals xs us->r xs H Q->
  wpAny 37 X.A (call f us) 178 X.xe s
def wW(r:R2)(ta tb:TE):TE:=fun σ H Q=>ta σ H fun x H1=>tb σ H1 fun y H2=>r x y H2 Q
def tUn(r:V->Hp->VK->Prop)(ta:TE):TE:=fun σ H Q=>ta σ H fun x H1=>r x H1 Q
def rI(C:Int->Int->Prop)(g:Int->Int->V):R2:=fun x y H Q=>∃i j,x=.int i/\y=.int j/\C i j/\Q (g i j) H
def ou(g:Int->Int->V):R2:=fun x y H Q=>∃i j,x=.int i/\y=.int j/\Q (g i j) H
def rU(g:Int->V):V->Hp->VK->Prop:=fun x H Q=>∃i,x=.int i/\Q (g i) H
section
variable{X:Cx}{a b c:aH}{ta tb tc:TE}{pos:Pos}
theorem FC(ha:451)(hb:710){pins:256}{s:Shared}{σ:St}{H:Hp}{R:V->V->Hp->Prop}(I:31)(h:ta σ H fun x H1=>tb σ H1 fun y H2=>R x y H2){Q:43}{f:435}(hf:∀v u s2 x y H2,Inv X pins σ H2 s2->RelV x v->RelV y u->R x y H2->wpAny 37 X.A (f v u) Q X.xe s2):wpAny 37 X.A (217 a) 436 X.xe s:=by refine aG 125 fun v s1 ⟨x,H1,I1,r1,q1⟩=>?_;ext:112
theorem bQ{op:Operator}{r:R2}(ho:dg X (kg op) r)(ha:451)(hb:710):PE X (.BinOp a op b pos) (wW r ta tb):=by intro pins s σ H Q I h;exact wpAny_BinOp 443
theorem eP{op:UnaryOp}{r:V->Hp->VK->Prop}(ho:FZ X (unaryOp op) r)(ha:451):PE X (.UnaryOp op a pos) (tUn r ta):=by intro pins s σ H Q I h;exact UnaryOp_ (aG 125 fun v s1 ⟨x,H1,I1,r1,q1⟩=>ho pins s1 σ H1 x v Q I1 r1 q1)
theorem opI{f:435}{C:Int->Int->Prop}{g:Int->Int->Int}(rule:∀(i j:Int)(t u:Tok)(s:Shared)(Q:Value->Shared->Prop)(E:Value->Shared->Prop),C i j->Q (.int (g i j) s.toks) {s with toks:=s.toks+1}->wpAny 37 X.A 787 Q E s):dg X f (rI C fun i j=>.int (g i j)):=by intro pins s σ H x y v u Q I rx ry h;obtain⟨i,j,rfl,rfl,hc,q⟩:=h;ext:49;exact rule i j t t' s _ _ hc (276 (g i j) q)
theorem DL{f:435}{g:Int->Int->Int}(rule:∀(i j:Int)(t u:Tok)(s:Shared)(Q:Value->Shared->Prop)(E:Value->Shared->Prop),Q (.int (g i j) s.toks) {s with toks:=s.toks+1}->wpAny 37 X.A 787 Q E s):dg X f (778 (g i j)):=by intro pins s σ H x y v u Q I rx ry h;obtain⟨i,j,rfl,rfl,q⟩:=h;ext:49;exact rule i j t t' s _ _ (276 (g i j) q)
theorem D'{f:435}{g:Int->Int->Bool}(rule:∀(i j:Int)(t u:Tok)(s:Shared)(Q:Value->Shared->Prop)(E:Value->Shared->Prop),Q (.bool (g i j)) s->wpAny 37 X.A 787 Q E s):dg X f (849 (g i j)):=by intro pins s σ H x y v u Q I rx ry h;obtain⟨i,j,rfl,rfl,q⟩:=h;ext:49;exact rule i j t t' s _ _ {.bl (g i j),H,I,rfl,q}
def Hi(i j:Int):Prop:=(-(2^64)<i/\i<2^64)\/(-(2^64)<j/\j<2^64)
theorem Hi.ok{i j:Int}(h:Hi i j):IntMulOk i j:=by rcases h with⟨h1,h2⟩|⟨h1,h2⟩;exact .of_left (intBits_le_64 h1 h2);exact .of_right (intBits_le_64 h1 h2)
theorem gK:dg X (kg .Add) (778 (i+j)):=DL fun _ _ _ _ _ _ _ q=>add_int q
theorem kI:dg X (kg .Sub) (778 (i-j)):=DL fun _ _ _ _ _ _ _ q=>sub_int q
theorem agC:dg X (kg .Mult) (rI Hi fun i j=>.int (i*j)):=opI fun _ _ _ _ _ _ _ hc q=>mul_int q hc.ok
theorem ab4:dg X (kg .BitAnd) (778 (Builtin.bitAnd i j)):=DL fun _ _ _ _ _ _ _ q=>and_int q
theorem ahB:dg X (kg .BitOr) (778 (Builtin.bitOr i j)):=DL fun _ _ _ _ _ _ _ q=>or_int q
theorem unI{f:Value->Sem Value}{g:Int->Int}(rule:∀(i:Int)(t:Tok)(s:Shared)(Q:Value->Shared->Prop)(E:Value->Shared->Prop),Q (.int (g i) s.toks) {s with toks:=s.toks+1}->wpAny 37 X.A (f (.int i t)) Q E s):FZ X f (rU fun i=>.int (g i)):=by intro pins s σ H x v Q I rx h;obtain⟨i,rfl,q⟩:=h;rw[1,rx];exact rule i t s _ _ (276 (g i) q)
theorem eG:FZ X (unaryOp .USub) (rU fun i=>.int (-i)):=unI fun _ _ _ _ _ q=>neg_int q
end
def MS:V->V->Bool
 |.bo,.bo=>true|.bo,.int _=>true|.int _,.bo=>true|.bo,.bl _=>true|.bl _,.bo=>true|.bo,.str _=>true|.str _,.bo=>true
 |.int _,.int _=>true|.bl _,.bl _=>true|.str _,.str _=>true|.iN _,.iN _=>true
 |.int _,.str _=>true|.str _,.int _=>true|.bl _,.str _=>true|.str _,.bl _=>true
 |_,_=>false
def rEq:R2:=fun x y H Q=>MS x y=true/\Q (.bl (decide (x=y))) H
def rNe:R2:=fun x y H Q=>MS x y=true/\Q (.bl (!decide (x=y))) H
theorem P7{i j:Int}:decide (V.int i=V.int j)=(i==j):=by rw[h_];simp
theorem Pu{i j:Bool}:decide (V.bl i=V.bl j)=(i==j):=by rw[h_];simp
theorem Si{i j:Str}:decide (V.str i=V.str j)=(i==j):=by rw[h_];simp
theorem QL{i j:Array UInt8}:decide (V.iN i=V.iN j)=(i.toList==j.toList):=by rw[h_];cases i;cases j;simp
section
variable{X:Cx}{a b c:aH}{ta tb tc:TE}{pos:Pos}
theorem dP{pins:256}{σ:St}{H:Hp}{s:Shared}{Q:VK}{k k':Bool}(I:31)(q:Q (.bl k) H)(e:k=k'):EP X pins σ Q (.bool k') s:=by subst e;exact{.bl k,H,I,rfl,q}
theorem cD:dg X (gT .Eq) rEq:=by
 ext:82;obtain⟨hs,q⟩:=h
 cases x with|bo=>(cases rx;cases y with|bo=>cases ry;exact PySem.EqNone.eq_none_none 214|bl j=>cases ry;exact PySem.EqNone.eq_none_bool 214|int j=>obtain⟨t',rfl⟩:=ry;exact PySem.EqNone.eq_none_int 214|str j=>obtain⟨t',rfl⟩:=ry;exact PySem.EqNone.eq_none_str 214|_=>exact 384)|bl i=>(cases rx;cases y with|bo=>cases ry;exact PySem.EqNone.eq_bool_none 214|bl j=>cases ry;exact eq_bool (dP I q Pu)|str j=>obtain⟨t',rfl⟩:=ry;exact PySem.EqMixed.eq_bool_str 214|_=>exact 384)|int i=>(rw[1,rx];cases y with|bo=>cases ry;exact PySem.EqNone.eq_int_none 214|int j=>obtain⟨t',rfl⟩:=ry;exact eq_int (dP I q P7)|str j=>obtain⟨t',rfl⟩:=ry;exact PySem.EqMixed.eq_int_str 214|_=>exact 384)|str i=>(rw[1,rx];cases y with|bo=>cases ry;exact PySem.EqNone.eq_str_none 214|bl j=>cases ry;exact PySem.EqMixed.eq_str_bool 214|int j=>obtain⟨t',rfl⟩:=ry;exact PySem.EqMixed.eq_str_int 214|str j=>obtain⟨t',rfl⟩:=ry;exact eq_str (dP I q Si)|_=>exact 384)|iN i=>(rw[1,rx];cases y with|iN j=>obtain⟨t',rfl⟩:=ry;exact PySem.W.eq_bytes (dP I q QL)|_=>exact 384)|_=>cases y<;>exact 989
theorem uB:dg X (gT .NotEq) rNe:=by
 ext:82;obtain⟨hs,q⟩:=h
 cases x with|bo=>(cases rx;cases y with|bo=>cases ry;exact PySem.EqNone.ne_none_none 214|bl j=>cases ry;exact PySem.EqNone.ne_none_bool 214|int j=>obtain⟨t',rfl⟩:=ry;exact PySem.EqNone.ne_none_int 214|str j=>obtain⟨t',rfl⟩:=ry;exact PySem.EqNone.ne_none_str 214|_=>exact 384)|bl i=>(cases rx;cases y with|bo=>cases ry;exact PySem.EqNone.ne_bool_none 214|bl j=>cases ry;exact ne_bool (dP I q (eC not Pu))|str j=>obtain⟨t',rfl⟩:=ry;exact PySem.EqMixed.ne_bool_str 214|_=>exact 384)|int i=>(rw[1,rx];cases y with|bo=>cases ry;exact PySem.EqNone.ne_int_none 214|int j=>obtain⟨t',rfl⟩:=ry;exact ne_int (dP I q (eC not P7))|str j=>obtain⟨t',rfl⟩:=ry;exact PySem.EqMixed.ne_int_str 214|_=>exact 384)|str i=>(rw[1,rx];cases y with|bo=>cases ry;exact PySem.EqNone.ne_str_none 214|bl j=>cases ry;exact PySem.EqMixed.ne_str_bool 214|int j=>obtain⟨t',rfl⟩:=ry;exact PySem.EqMixed.ne_str_int 214|str j=>obtain⟨t',rfl⟩:=ry;exact ne_str (dP I q (eC not Si))|_=>exact 384)|iN i=>(rw[1,rx];cases y with|iN j=>obtain⟨t',rfl⟩:=ry;exact PySem.W.ne_bytes (dP I q (eC not QL))|_=>exact 384)|_=>cases y<;>exact 989
theorem tL:dg X (gT .Lt) (849 (decide (i<j))):=D' fun _ _ _ _ _ _ _ q=>lt_int q
theorem j8:dg X (gT .LtE) (849 (decide (i<=j))):=D' fun _ _ _ _ _ _ _ q=>le_int q
theorem mG:dg X (gT .Gt) (849 (decide (j<i))):=D' fun _ _ _ _ _ _ _ q=>gt_int q
theorem nc:dg X (gT .GtE) (849 (decide (j<=i))):=D' fun _ _ _ _ _ _ _ q=>ge_int q
theorem bi(b:aH){op:CmpOp}(h:op≠.In:=by decide)(h2:op≠.NotIn:=by decide):uF op b=false:=by
 have e1:(op==CmpOp.In)=false:=by cases op<;>first|rfl|exact 89 rfl h
 have e2:(op==CmpOp.NotIn)=false:=by cases op<;>first|rfl|exact 89 rfl h2
 cases b<;>simp[uF,e1,e2]
theorem jF{op:CmpOp}{r:R2}(ho:978)(ha:451)(hb:710)(hm:uF op b=false):PE X 539 (wW r ta tb):=by intro pins s σ H Q I h;exact wpAny_Compare1 443 hm
def RA(t:TE):TT:=fun σ H Q=>t σ H fun x H'=>∃k,x=.bl k/\Q k H'
theorem bh{op:CmpOp}{r:R2}(ho:978)(ha:451)(hb:710)(hm:uF op b=false):PT X 539 (RA (wW r ta tb)):=by intro pins s σ H Q I h;refine wpAny_isTrue_Compare1 (aG 125 fun v s1 ⟨x,H1,I1,r1,q1⟩=>aG 764 fun u s2 ⟨y,H2,I2,r2,q2⟩=>aG (ho pins s2 σ H2 x y v u _ I2 r1 r2 q2) fun c s3 ⟨z,H3,I3,r3,k,e,q3⟩=>?_) hm;subst e;cases r3;exact oC ⟨H3,I3,q3⟩
def Sk(r r':R2)(ta tb tc:TE):TE:=fun σ H Q=>ta σ H fun x H1=>tb σ H1 fun y H2=>r x y H2 fun z H3=>∃k,z=.bl k/\
 (if k=true then tc σ H3 fun w' H4=>r' y w' H4 Q else Q (.bl false) H3)
theorem zM{op t8:CmpOp}{r r':R2}(ho:978)(fR:dg X (gT t8) r')(ha:451)(hb:710)(hc:PE X c tc)(hm:lastMarks [op,t8] [b,c]=false:=by with_unfolding_all rfl):PE X (.Compare a [op,t8] [b,c] pos) (Sk r r' ta tb tc):=by intro pins s σ H Q I h;refine Compare_chain (202 chain_link) hm;subst e;cases r3;refine oC ?_;cases k with|false=>exact ite_ff {.bl false,H3,I3,rfl,q3}|true=>exact ite_tt (chain_last (aG (hc pins s3 σ H3 _ I3 q3) fun w' s4 ⟨z',H4,I4,r4,q4⟩=>fR pins s4 σ H4 y z' u w' Q I4 r2 r4 q4))
theorem XC{op t8:CmpOp}{r r':R2}(ho:978)(fR:dg X (gT t8) r')(ha:451)(hb:710)(hc:PE X c tc)(hm:lastMarks [op,t8] [b,c]=false:=by with_unfolding_all rfl):PT X (.Compare a [op,t8] [b,c] pos) (RA (Sk r r' ta tb tc)):=by intro pins s σ H Q I h;refine isTrue_chain (202 test_link) hm;subst e;cases r3;refine oC ?_;cases k with|false=>obtain⟨k',e',q'⟩:=q3;cases e';exact ite_ff ⟨H3,I3,q'⟩|true=>refine ite_tt (test_last (aG (hc pins s3 σ H3 _ I3 q3) fun w' s4 ⟨z',H4,I4,r4,q4⟩=>aG (fR pins s4 σ H4 y z' u w' _ I4 r2 r4 q4) fun d' s5 ⟨z2,H5,I5,r5,k2,e2,q5⟩=>?_));subst e2;cases r5;exact oC ⟨H5,I5,q5⟩
theorem Ah:(sizeLine:Nat)<2^63:=by rw[sizeLine_eq];decide
theorem acp:dg X (kg .Add) (fun x y H Q=>∃i j,x=.str i/\y=.str j/\i.length+j.length<=sizeLine/\Q (.str (i++j)) H):=by intro pins s σ H x y v u Q I rx ry h;obtain⟨i,j,rfl,rfl,hz,q⟩:=h;ext:49;exact add_str 865 hz
theorem aff:dg X (inplaceOp .Add) (fun x y H Q=>∃i j,x=.str i/\y=.str j/\i.length+j.length<=sizeLine/\Q (.str (i++j)) H):=by intro pins s σ H x y v u Q I rx ry h;obtain⟨i,j,rfl,rfl,hz,q⟩:=h;ext:49;exact iadd_str 865 hz
theorem vals1{x:V}{us:97}(r:Vals [x] us):∃u,us=[u]/\RelV x u:=by cases r with|cons r1 r2=>cases r2;exact{_,rfl,r1}
theorem vals2{x y:V}{us:97}(r:Vals [x,y] us):∃u w',us=[u,w']/\RelV x u/\RelV y w':=by cases r with|cons r1 r2=>cases r2 with|cons r3 r4=>cases r4;exact{_,_,rfl,r1,r3}
theorem Z0:jw X (.builtin "abs") (fun xs H Q=>∃i,xs=[.int i]/\Q (.int (if i<0 then-i else i)) H):=by intro pins s σ H xs us Q I r h;obtain⟨i,rfl,q⟩:=h;ext:108;exact call_abs_int fun u tk=>(276 (if i<0 then-i else i) q)
theorem zk(hc:347):jw X 882 (fun xs H Q=>∃i j,xs=[.int i,.int j]/\Q (.int (if j>i then j else i)) H):=by intro pins s σ H xs us Q I r h;obtain⟨i,j,rfl,q⟩:=h;obtain⟨u,w',rfl,⟨t,rfl⟩,⟨t',rfl⟩⟩:=vals2 r;refine max_two_ints 208 fun h' tk k=>{_,H,I.kept k,?_,q};by_cases hj:j>i;rw[if_pos hj,if_pos hj];exact 569;rw[if_neg hj,if_neg hj];exact 569
theorem G0:jw X (.type "str") (fun xs H Q=>∃i,xs=[.int i]/\i.natAbs.log2<1920/\Q (.str (toString i)) H):=by intro pins s σ H xs us Q I r h;obtain⟨i,rfl,hz,q⟩:=h;ext:108;exact PySem.P.str_of_int hz {.str _,H,I.tok _,569,q}
theorem Ms:jw X (.builtin "ord") (fun xs H Q=>∃x,xs=[.str x]/\x.length=1/\Q (.int (x.cps.getD 0 0:Nat)) H):=by intro pins s σ H xs us Q I r h;obtain⟨x,rfl,hz,q⟩:=h;ext:108;exact ord_of_one hz {.int _,H,I.tok _,569,q}
end
end L2
namespace L2
open PySem PySem.Spec PyProof.Rows
structure t_(h:Heap)(x dx C:Addr)(mA:Str->Option Value):Prop where
 obj:h.get? x=some (uD C dx)
 ns:h.Ns1 dx mA
 ne:dx≠x
theorem abR{h:Heap}{dx:Addr}{mA:95}(n:h.Ns1 dx mA):∃od,h.get? dx=some od/\∀name,AD name od=some (mA name):=by
 obtain⟨o,es,ep,ho,hd,hk,_,hm⟩:=n;refine{o,ho,fun name=>?_};have e:=hm name;unfold nsFind findBy at e;rw[<-VE]at e;unfold AD;rw[hd];ext:0;split;rename_i y q;rw[q]at e;exact eC some e;rename_i q;rw[q]at e;have a:es.toList.any (·.refKey)=false:=by rw[List.any_eq_false];intro y hy;obtain⟨z,t,afH⟩:=hk y (Array.mem_toList_iff.mp hy);simp[DictEntry.refKey,afH]
 have a':¬es.toList.any (·.refKey)=true:=by rw[a];exact df
 rw[if_neg a'];exact eC some e
theorem t_.look{h:Heap}{x dx C:Addr}{mA:95}(I:t_ h x dx C mA):∃od,VF h x (uD C dx) C (some od)/\∀name,AD name od=some (mA name):=let⟨od,ho,hl⟩:=abR I.ns;{od,⟨I.obj,rfl,rfl,ho⟩,hl}
section
variable{prog:aT}{w:aI}{A:bz}{E:Value->Shared->Prop}{s:Shared}{K:bv}{x dx C f:Addr}{mA:Str->Option Value}{name:Str}{v:Value}
theorem get_map{expr:Bool}{Q:43}(X:987)(I:994)(hg:J8 K C name=true)(hh:J9 K C=true)(ha:pU K 407 name=some none)(hv:mA name=some v)(lM:aiY v=true)(h:Q v {s with toks:=s.toks+1}):wpAny 35 A (getAttr 679 name expr) Q E s:=by obtain⟨od,J,hl⟩:=I.look;exact PySem.W.get_value X J (VG hg).1 (aiZ hh ha rfl (by rw[hl,hv])) lM h
theorem afk{pl:939}{Q:1049}(X:987)(I:994)(hg:J8 K C name=true)(hf:pU K 407 name=some (some 408))(ht:VH K 408=true)(hv:mA name=none)(h:Q (.ref f,[.ref x]) s):wpAny 35 A (getMethod 679 name pl) Q E s:=by obtain⟨od,J,hl⟩:=I.look;exact PySem.W.method_fn X J (VG hg).1 (VG hg).2 hf (lX.mp ht) (by show(AD name od).map (·.isSome)=some false;rw[hl,hv];rfl) h
theorem Xw{ns:132}{Q:312}(X:987)(I:994)(hs:pU K 407 "__setattr__"=some (some (.builtin "object.__setattr__")))(hp:ai0 K C=true)(ht:VI K C name=some none)(hh:J9 K C=true)(hw:VB mA ns)(hsz:ns.length<=sizeLine)(h:∀h',t_ h' x dx C (fun y=>if y=name then some v else mA y)->lW dx s.heap h'->Q () {s with heap:=h',toks:=s.toks+2}):wpAny 35 A (setAttr 679 name v) Q E s:=by obtain⟨od,J,hl⟩:=I.look;refine PySem.W.set_plain X J hs (PySem.W.osa_open (s:={s with toks:=s.toks+1}) (r:=none) X J hp ht fun b=>?_);obtain⟨cd,hc,fg⟩:=PySem.W.any_some hh;have hx:s.heap.get? x=some {.ref C,some dx,.plain,#[]}:=I.obj;rw[0,(58 (22 (22 (wpAny_loadPart hx (22 (PySem.W.Looks.here (s:={s with toks:=s.toks+1}) (PySem.W.looks_clsIn X hc) ?_))))))];rw[fg];refine wpAny_pure (a:=some dx) (22 (58 146));refine wpAny_nsSet1 (s:={s with toks:=s.toks+1}) I.ns fun h' ja nF=>?_;obtain⟨oD,esD,epD,Jr,Iq,Ie⟩:=ja.count (PySem.Within.cons name v hw);rw[0,(wpAny_lookBehind Jr (by rw[Iq];exact pastItsLine_dict (dG Ie (by rw[aR];omega))) ?_)];exact 58 (h _ {(nF.2 _ (cJ I.ne)).trans I.obj,ja,I.ne} nF)
theorem abE{R:870}{vs:97}{kw:610}(X:987)(hm:ai1 K C=true)(hi:pU K 407 "__init__"=some (some 408))(hf:PySem.W.typeIn K 408=some 1046)(h:codeAny 35 (A.under (.builtin "type.__call__" {.ref C::vs,kw})) (.call 408 {.ref 86::vs,kw}) (PySem.W.InitBack 86 R) {s with heap:=(240 rS).push 586}):codeAny 35 A (.call 407 ⟨vs,kw⟩) R s:=by obtain⟨hh,g,d,t,os⟩:=s;exact PySem.W.make_core (PySem.W.makes_of X hm) (PySem.W.looks_findIn X hi) (fun self=>PySem.W.bind_fn X self hf) 148 h
end
def fX(f:Str)(v:V):List (Str×V)->List (Str×V)
 |[]=>[(f,v)]
 |(g,x)::r=>if g=f then(g,v)::r else(g,x)::fX f v r
theorem LL(f g:Str)(v:V):∀fs:List (Str×V),(fX f v fs).lookup g=if g=f then some v else fs.lookup g
 |[]=>by show rV g [(f,v)]=_;by_cases h:g=f;have hb:(g==f)=true:=lX.mpr h;simp only[rV,hb,if_pos h];have hb:(g==f)=false:=rN.mpr h;simp only[rV,hb,if_neg h]
 |(k,x)::r=>by have ih:=LL f g v r;ext:77;rw[if_pos hk];by_cases h:g=k;have hb:(g==k)=true:=lX.mpr h;simp only[rV,hb,if_pos (h.trans hk)];have hb:(g==k)=false:=rN.mpr h;simp only[rV,hb,if_neg (fun e:g=f=>h (e.trans hk.symm))];rw[if_neg hk];by_cases h:g=k;have hb:(g==k)=true:=lX.mpr h;simp only[rV,hb,if_neg (fun e:g=f=>hk (h.symm.trans e))];have hb:(g==k)=false:=rN.mpr h;simp only[rV,hb];exact ih
theorem Jx(f:Str)(v:V):∀fs:List (Str×V),f∈(fX f v fs).map (·.1)/\∀g,g∈fs.map (·.1)->g∈(fX f v fs).map (·.1)
 |[]=>{by simp[fX],fun g h=>by simp at h}
 |(k,x)::r=>by obtain⟨i1,i2⟩:=Jx f v r;ext:77;rw[if_pos hk];subst hk;exact{by simp,fun g h=>by simpa using h};rw[if_neg hk];refine{?_,fun g h=>?_};rw[bL];exact cZ _ i1;rw[bL]at h⊢;rcases bE.mp h with e|e;exact bE.mpr (.inl e);exact cZ _ (i2 g e)
theorem Uz(f:Str)(v:V):∀fs:List (Str×V),(fX f v fs).length<=fs.length+1
 |[]=>by simp[fX]
 |(k,x)::r=>by have ih:=Uz f v r;ext:77;rw[if_pos hk,aR,aR];omega;rw[if_neg hk,aR,aR];omega
theorem hW.some_of{v:V}{o:385}(r:hW 456 o):∃u,o=some u/\RelV v u:=by cases o with|none=>exact 308|some u=>exact⟨u,rfl,r⟩
theorem hW.none_of{o:385}(r:hW none o):o=none:=by cases o with|none=>rfl|some u=>exact 308
theorem aik{v:V}{u:Value}(r:RelV v u):aiY u=true:=by cases v with|bo=>cases(show u=fh from r);rfl|bl b=>cases(show u=Ax b from r);rfl|int i=>obtain⟨t,e⟩:=(show∃t,u=eA i t from r);cases e;rfl|str x=>obtain⟨t,e⟩:=(show∃t,u=J2 x t from r);cases e;rfl|iN b=>obtain⟨t,e⟩:=(show∃t,u=Value.bytes b t from r);cases e;rfl|zX b=>obtain⟨t,e⟩:=(show∃t,u=Value.float b t from r);cases e;rfl|ref a=>cases(show u=cj a from r);rfl|ty n=>cases(show u=kf n from r);rfl
section
variable{P:aT}{w:aI}{H H':Hp}{h h':Heap}{a C dx:Addr}{fs u6:List (Str×V)}
theorem Hs(aD:243)(e:324 a 370):∃mA,t_ h a dx C mA/\(∀f,hW (fs.lookup f) (mA f))/\VB mA (fs.map (·.1))/\fs.length<=1000/\H dx=some (.own a):=by obtain⟨d,z,ne,ob,mA,n,r,q⟩:=(show cQ P w H h a 370 from aD a _ e);exact{mA,⟨ob,n,ne⟩,r,q,z,d}
end
structure iP(K:bv)(C:Addr):Prop where
 pg:J8 K C Str.empty=true
 hd:J9 K C=true
 po:ai0 K C=true
 sa:pU K (.ref C) "__setattr__"=some (some (.builtin "object.__setattr__"))
theorem iP.get{K:bv}{C:Addr}(c:iP K C)(f:Str):J8 K C f=true:=c.pg
def gk(K:bv)(C:Addr)(f:Str):Prop:=pU K 407 f=some none
theorem gk.aao{K:bv}{C:Addr}{f:Str}(n:gk K C f):VI K C f=some none:=by unfold VI;rw[show pU K 407 f=some none from n];rfl
structure Meth(K:bv)(C:Addr)(m:Str)(f:Addr):Prop where
 at_:pU K (.ref C) m=some (some (.ref f))
 fn:VH K (.ref f)=true
 kp:oE K (.ref f)=true
section
variable{X:Cx}{pins:List (Addr×Obj)}{σ:St}{H:Hp}{s:Shared}{a C dx:Addr}{fs:List (Str×V)}{f:Str}{v:V}{A:bz}{E:Value->Shared->Prop}
theorem Lw{b:Bool}{Q:43}(I:31)(e:324 a 370)(c:765)(n:gk X.K C f)(l:fs.lookup f=some v)(h:∀u s',Inv X pins σ H s'->RelV v u->Q u s'):wpAny 37 A (getAttr 152 f b) Q E s:=by obtain⟨mA,O,r,_,_,_⟩:=Hs I.aD e;obtain⟨u,hu,ru⟩:=hW.some_of (v:=v) (o:=mA f) (by rw[<-l];exact r f);exact get_map I.eU O (c.get f) c.hd n hu (aik ru) (h u _ (I.tok _) ru)
theorem Iu{m:Str}{g:Addr}{pl:939}{Q:1049}(I:31)(e:324 a 370)(c:765)(k:Meth X.K C m g)(l:fs.lookup m=none)(h:Q (.ref g,[.ref a]) s):wpAny 37 A (getMethod 152 m pl) Q E s:=by obtain⟨mA,O,r,_,_,_⟩:=Hs I.aD e;have hn:mA m=none:=hW.none_of (by rw[<-l];exact r m);exact afk I.eU O (c.get m) k.at_ k.fn hn h
theorem Oz{y:V}{u:Value}{Q:312}(I:31)(e:324 a 370)(c:765)(n:gk X.K C f)(hl:fs.length<1000)(ry:RelV y u)(h:∀s',Inv X pins σ (257 a (.ins C dx (fX f y fs))) s'->Q () s'):wpAny 37 A (setAttr 152 f u) Q E s:=by
 obtain⟨mA,O,r,wi,_,ho⟩:=Hs I.aD e;have hz:(fs.map (·.1)).length<=sizeLine:=by rw[az,sizeLine_eq];omega
 refine Xw I.eU O c.sa c.po n.aao c.hd wi hz fun h' O' sb=>h _ ?_;have hd:∃o,h'.get? dx=some o:=let⟨o,_,_,e',_⟩:=O'.ns;⟨o,e'⟩;refine I.write (x:=a) (e:=dx) (by rw[e];exact xt) (.inr ho) (fun b q hb z=>(sb.2 b hb).trans z) hd ?_;refine{by rw[ay O.ne];exact ho,?_,O.ne,O'.obj,_,O'.ns,fun g=>?_,fun g hg=>?_};have:=Uz f y fs;omega;show hW ((fX f y fs).lookup g) (if g=f then some u else mA g);rw[LL];by_cases q:g=f;rw[if_pos q,if_pos q];exact ry;rw[if_neg q,if_neg q];exact r g;by_cases q:g=f;rw[q];exact(Jx f y fs).1;refine(Jx f y fs).2 g (wi g fun z=>hg ?_);show(if g=f then some u else mA g)=none;rw[if_neg q];exact z
theorem Inv.made(I:31):Inv X pins σ (upd (190 (.own 86)) 86 (.ins C s.heap.objs.size [])) {s with heap:=(240 rS).push 586}:=by
 have e1:(240 rS).get? s.heap.objs.size=some rS:=c_ s.heap rfl;have e2:((240 rS).push 586).get? 86=some 586:=by have:=c_ (240 rS) (o:=uD C s.heap.objs.size) rfl;rwa[d8]at this
 have e3:(240 rS).Ns s.heap.objs.size (fun _=>none):={rS,#[],_,e1,rfl,(fun e he=>absurd he 42),fun _=>rfl};have I1:=I.laid (a:=s.heap.objs.size) (o:=.own 86) (h':=s.heap.push rS) (t':=s.toks) (fun b u q=>bG _ q) 227 {_,e1};refine I1.laid (a:=s.heap.objs.size+1) (o:=.ins C s.heap.objs.size []) (t':=s.toks) (fun b u q=>bG _ q) (EH (d8 _ _)) ?_;have ne:s.heap.objs.size≠s.heap.objs.size+1:=cI (rW _);refine{by rw[ay ne,aM],bA _,ne,e2,fun _=>none,(ai2 e3).at fun o q=>bG _ q,fun _=>xt,fun y hy=>absurd rfl hy}
theorem Rt{prog:aT}{w:aI}{env:Env}{e:aH}{f:Str}{pos:Pos}{s:Shared}{Q:43}(hb:xu e f env (eval e env)=eval e env)(h:wpAny 35 A (eval e env) (fun o bO=>wpAny 35 A (getAttr o f true) Q E bO) E s):wpAny 35 A (eval (.Attribute e f pos) env) Q E s:=Attribute_any_ h (by rw[arm_eval_Attribute,hb])
end
def Xg(X:Cx)(op:Operator)(rd:V->V->Hp->VK->Prop):Prop:=
 ∀(pins:List 72)(s:Shared)(σ:St)(H:Hp)(x y:V)(u v:Value)(Q:VK),Inv X pins σ H s->RelV x u->RelV y v->rd x y H Q->wpAny 37 X.A (inplaceOp op u v) 178 X.xe s
section
variable{X:Cx}{o e value:aH}{f:Str}{pos gN gH:Pos}{ta tv:TE}
def aho:V->V->Hp->VK->Prop:=fun x y H Q=>∃i j,x=.int i/\y=.int j/\Q (.int (i+j)) H
theorem afW:Xg X .Add aho:=by rintro pins s σ H x y u v Q I rx ry ⟨i,j,rfl,rfl,q⟩;rw[1,(show∃t,u=eA i t from rx)];obtain⟨t',rfl⟩:=(show∃t',v=eA j t' from ry);exact PyProof.Rows.iadd_int (276 (i+j) q)
theorem akg{pl:939}{m:Str}{di:Pos}{args:433}{pins:256}{s:Shared}{σ:St}{H:Hp}{Q:43}{te:TE}(he:414)(I:31)(h:te σ H fun x H1=>∃a C dx fs g,x=.ref a/\H1 a=some 370/\iP X.K C/\Meth X.K C m g/\fs.lookup m=none/\∀s1,Inv X pins σ H1 s1->wpAny 37 X.A (callWith pos (.ref g) [.ref a] (465 (731 args)) 181) Q X.xe s1)(ht:eval 914 X.env=(do let ov<-eval e X.env;rP di.atName;let(f,first)<-holding [ov] (657 m);callWith pos f first (465 (731 args)) 181)):wpAny 37 X.A (217 914) Q X.xe s:=by refine VJ (pl:=pl) (aG 159 fun u s1 ⟨x,H1,I1,rx,a,C,dx,fs,g,ex,ea,c,k,l,q⟩=>?_) ht;subst ex;rw[7,u];exact Iu I1 ea c k l (q s1 I1)
end
end L2
namespace L2
open PySem PySem.Spec PyProof.Rows
structure cW(k:Nat)(A:bz):Prop where
 hd:A.handled=none
 dp:A.depth+2*k+5<recursionLimit
 un:A.units+16*k+200<cLine
theorem cW.mono{j k:Nat}{A:bz}(r:cW k A)(h:j<=k):cW j A:={r.hd,by have:=r.dp;omega,by have:=r.un;omega}
theorem cW.deeper{k:Nat}{A:bz}(r:cW (k+1) A)(env:Env):cW k (A.deeper env):={r.hd,by have:=r.dp;show A.depth+1+2*k+5<_;omega,by have:=r.un;show A.units+3+16*k+200<_;omega}
theorem WY{A:bz}{C:Addr}{us:97}{kw:610}:(A.under 280).depth=A.depth+1:=by first|rfl|simp[VL,Code.weight,Code.isCreation,Code.isGuard,Code.isCaller,Code.frames,VM,guardIds]
theorem Xu{A:bz}{C:Addr}{us:97}{kw:610}:(A.under 280).units=A.units+1:=by first|rfl|simp[VL,Code.cUnits,Code.frames,VM]
theorem cW.make{k:Nat}{A:bz}(r:cW (k+1) A)(C:Addr)(us:97)(kw:610):cW k (A.under 280):={r.hd,by have:=r.dp;rw[WY];omega,by have:=r.un;rw[Xu];omega}
theorem cW.depth{k:Nat}{A:bz}(r:cW k A):A.depth<recursionLimit:=by have:=r.dp;omega
theorem cW.units{k:Nat}{A:bz}(r:cW k A):A.units+64<cLine:=by have:=r.un;omega
def qR:TA:=fun _ H Q=>Q [] H
def pM(ta:TE)(tr:TA):TA:=fun σ H Q=>ta σ H fun x H1=>tr σ H1 fun xs H2=>Q (x::xs) H2
section
variable{X:Cx}{e:aH}{es:List aH}{te:TE}{t:TA}{pos:Pos}
theorem ae:PA X [] qR:=fun _ _ _ _ H Q I h=>EI {[],H,I,.nil,h}
theorem aa(ha:414)(hr:PA X es t)(hs:starEach 298 X.env=(false,eval e X.env)::starEach es X.env:=by rfl):PA X 298 (pM te t):=by intro pos pins s σ H Q I h;rw[hs];rw[3,(spliced ((false,eval e X.env)::backTo pos (731 es)))];refine AE (aG 125 fun u s1 ⟨x,H1,I1,r1,q1⟩=>?_);ext:80
end
abbrev Sp:=List V->Hp->VK->XK->Prop
abbrev gL:=List Env->Hp->Shared->XK->Value->Shared->Prop
structure um(P:aT)(w:aI)(K:bv)(mg:Str->Option Value)(base:Heap)(A:bz)(outer:List Env)(s:Shared)(H:Hp):Prop where
 frames:A.frames=some outer
 mod:Mod K mg base
 bs:∀b o,base.get? b=some o->s.heap.get? b=some o/\H b=none
 lu:base.objs.size<=s.heap.objs.size
 j_:s.heap.FunFrames base outer
 oP:∀b∈gr outer,H b=none
 aD:cP P w H s.heap
 bare:uE s.gens
def CE(outer:621)(P:aT)(w:aI)(H:Hp)(s:Shared)(Q:VK)(u:Value)(s':Shared):Prop:=
 ∃v H',s'.os=s.os/\uE s'.gens/\Un (gr outer) [] H H' s.heap s'.heap/\cP P w H' s'.heap/\RelV v u/\Q v H'
def CR(CX:gL)(outer:621)(P:aT)(w:aI)(H:Hp)(s:Shared)(Q:VK)(E:XK)(r:rR)(s':Shared):Prop:=
 match r with
 |.ok (.ret u)=>CE outer P w H s Q u s'
 |.ok _=>False
 |.error e=>CX outer H s E e s'
structure aE(P:aT)(w:aI)(K:bv)(mg:Str->Option Value)(base:Heap)(CX:gL)(k:Nat)(f:Addr)(fd:eW)(ps:List Str)(sp:Sp):Prop where
 len:∀vs H Q E,sp vs H Q E->vs.length=ps.length
 run:∀(A:bz)(outer:List Env)(s:Shared)(H:Hp)(args:Args)(us:List Value)(vs:List V)(Q:VK)(E:XK),cW k A->um P w K mg base A outer s H->BindsTo s fd args (ps.zip us)->Vals vs us->sp vs H Q E->
  codeAny (model P w) A (.call (.ref f) args) (CR CX outer P w H s Q E) s
theorem aE.mono{P:aT}{w:aI}{K:bv}{mg:95}{base:Heap}{CX:gL}{j k:Nat}{f:Addr}{fd:eW}{ps:132}{sp:Sp}(F:aE P w K mg base CX j f fd ps sp)(h:j<=k):aE P w K mg base CX k f fd ps sp:={F.len,fun A outer s H args us vs Q E hr=>F.run A outer s H args us vs Q E (hr.mono h)}
theorem aE.imp{P:aT}{w:aI}{K:bv}{mg:95}{base:Heap}{CX:gL}{k:Nat}{f:Addr}{fd:eW}{ps:132}{sp Qu:Sp}(F:aE P w K mg base CX k f fd ps sp)(h:∀vs H Q E,Qu vs H Q E->sp vs H Q E):aE P w K mg base CX k f fd ps Qu:={fun vs H Q E q=>F.len vs H Q E (h _ _ _ _ q),fun A outer s H args us vs Q E hr he hb hv hs=>F.run A outer s H args us vs Q E hr he hb hv (h _ _ _ _ hs)}
theorem um.make{P:aT}{w:aI}{K:bv}{mg:95}{base:Heap}{A:bz}{outer:621}{s:Shared}{H:Hp}(e:um P w K mg base A outer s H)(C:Addr)(us:97)(kw:610):um P w K mg base (A.under 280) outer s H:={by first|exact e.frames|(simpa[VL,Code.envs,VM,pushEnvs]using e.frames),e.mod,e.bs,e.lu,e.j_,e.oP,e.aD,e.bare}
section
variable{X:Cx}{pins:List (Addr×Obj)}{σ:St}{H:Hp}{s s':Shared}
theorem Inv.JE(I:31):um X.prog X.w X.K X.mg X.base X.A X.stack s H:={I.ok.frames,I.ok.mod,I.bs,dG I.ok.lu I.sz,I.stack,I.Ez,I.aD,I.bare}
theorem Inv.after{Q:VK}{u:Value}(I:31)(h:CE X.stack X.prog X.w H s Q u s'):EP X pins σ Q u s':=by obtain⟨v,H',os,bare,un,aD,r,q⟩:=h;obtain⟨hh,g,d,t,Hj⟩:=s';obtain rfl:Hj=s.os:=os;exact{v,H',I.call (h':=hh) (g':=g) (d':=d) (t':=t) (ch:=[]) un aD bare (fun b z=>absurd z 42),r,q}
end
def zd(sp:Sp)(fQ:231)(E:XK)(t:TA):TE:=fun σ H Q=>t σ H fun vs H1=>sp (vs++fQ) H1 Q E
def z7(C:Addr)(m:Str)(sp:Sp)(fQ:231)(E:XK)(ta:TE)(t:TA):TE:=fun σ H Q=>ta σ H fun x H1=>∃a dx fs,x=.ref a/\H1 a=some 370/\fs.lookup m=none/\
 t σ H1 fun vs H2=>sp (x::(vs++fQ)) H2 Q E
def ON(C:Addr)(sp:Sp)(fQ:231)(E:XK)(t:TA):TE:=fun σ H Q=>t σ H fun vs H1=>∀x dx,H1 x=none->H1 dx=none->dx≠x->
 sp (.ref x::(vs++fQ)) (upd (upd H1 dx (.own x)) x 809) (fun v H2=>v=.bo/\Q 679 H2) E
def Binds(K:bv)(fd:eW)(ps:132)(ds:97):Prop:=
 ∀(s:Shared)(us:List Value),K.In s.heap->(us++ds).length=ps.length->BindsTo s fd {us,[]} (ps.zip (us++ds))
theorem Binds.all{K:bv}{fd:eW}{ps:132}(h:∀us:List Value,us.length=ps.length->bindArgs fd {us,[]}=pure 672):Binds K fd ps []:=fun s us _ hl=>by rw[fN]at hl⊢;exact .of_eq (h us hl)
def Passes(CX:gL)(X:Cx)(E:XK):Prop:=∀(pins:List 72)(σ:St)(H:Hp)(s:Shared)(e:Value)(s':Shared),Inv X pins σ H s->CX X.stack H s E e s'->X.xe e s'
section
variable{X:Cx}{CX:gL}{k:Nat}{f C:Addr}{fd:eW}{ps:List Str}{sp:Sp}{fQ:List V}{ds:List Value}{E:XK}{x m:Str}{p pos di:Pos}{e o:aH}{es:List aH}{ta:TE}{t:TA}
theorem zF{pins:256}{σ:St}{H:Hp}{s:Shared}{Q:VK}{us:97}{vs:231}(F:127)(hr:cW k X.A)(hb:386)(hd:801)(hx:434)(I:31)(r:Vals vs us)(h:sp (vs++fQ) H Q E):wpAny 37 X.A (call 408 us) 178 X.xe s:=by
 have r2:Vals (vs++fQ) (us++ds):=r.append hd;have hl:(us++ds).length=ps.length:=by rw[<-r2.length];exact F.len _ _ _ _ h
 refine AF (codeAny_mono (F.run X.A X.stack s H {us,[]} (us++ds) (vs++fQ) Q E hr I.JE (hb s us I.eU hl) r2 h) fun r s' hq=>?_);cases r with|error e=>exact hx pins σ H s e s' I hq|ok fl=>cases fl with|ret u=>exact I.after hq|next=>exact gU hq|brk=>exact gU hq|cont=>exact gU hq
theorem BK(F:127)(hr:cW k X.A)(hg:Gl X x)(hm:548 408)(hk:oE X.K 408=true)(hb:386)(hd:801)(hx:434)(ha:614)(eK:81=false:=by decide)(he:starEach 298 X.env=(false,eval e X.env)::starEach es X.env:=by rfl)(dj:(117 pos).any (·.1)=false:=by rfl):PE X 311 (zd sp fQ E t):=by intro pins s σ H Q I h;refine 626;refine 364 hk;exact zF F hr hb hd hx I1 r q
theorem Sl{pl:939}(he:919)(c:765)(hm:Meth X.K C m f)(F:127)(hr:cW k X.A)(hb:386)(hd:801)(hx:434)(ha:614)(de:starEach 298 X.env=(false,eval e X.env)::starEach es X.env:=by rfl)(dj:(117 pos).any (·.1)=false:=by rfl)(ht:eval (131 (239 m)) X.env=(do let ov<-eval o X.env;rP di.atName;let(f,first)<-holding [ov] (657 m);callWith pos f first (465 (731 298)) 181):=by rfl):PE X (131 (239 m)) (z7 C m sp fQ E ta t):=by intro pins s σ H Q I h;refine 543;subst ex;rw[7,u];refine Iu I1 ea c hm l ?_;refine AG (first:=[.ref a]) (h₀:=X.base) I.ok.mod.rm hm.kp 235 de dj;exact zF (us:=.ref a::us) (vs:=.ref a::vs) F hr hb hd hx I2 (.cons rfl r) q2
theorem afr{pl:939}(he:919)(c:765)(hm:Meth X.K C m f)(F:127)(hr:cW k X.A)(hb:386)(hd:801)(hx:434)(ht:eval (652 (239 m)) X.env=(do let ov<-eval o X.env;rP di.atName;let(f,first)<-holding [ov] (657 m);callWith pos f first (465 (starEach [] X.env)) 181):=by rfl):PE X (652 (239 m)) (z7 C m sp fQ E ta qR):=by intro pins s σ H Q I h;refine 543;subst ex;rw[7,u];refine Iu I1 ea c hm l ?_;exact ai3 (first:=[.ref a]) I1.eU hm.kp (zF (us:=[.ref a]) (vs:=[.ref a]) F hr hb hd hx I1 (716 rfl) q)
structure Mk(K:bv)(C f:Addr):Prop where
 makes:ai1 K C=true
 init:pU K (.ref C) "__init__"=some (some (.ref f))
 fn:VH K (.ref f)=true
 kp:oE K (.ref C)=true
theorem QO{pins:256}{σ:St}{H:Hp}{s:Shared}{Q:VK}{us:97}{vs:231}(M:Mk X.K C f)(F:127)(hr:925)(hb:386)(hd:801)(hx:434)(I:31)(r:Vals vs us)(h:∀x dx,H x=none->H dx=none->dx≠x->sp (.ref x::(vs++fQ)) (1013 809) (fun v H2=>v=.bo/\Q 679 H2) E):wpAny 37 X.A (call 407 us) 178 X.xe s:=by
 have hq:=h 86 s.heap.objs.size (I.aD.fresh (rX _)) 346 (cI (rW _));have I2:=Inv.made (C:=C) I;have r2:Vals (V.ref 86::(vs++fQ)) (cj 86::(us++ds)):=.cons rfl (r.append hd);have hl:(cj 86::us++ds).length=ps.length:=by have e:=r2.length;rw[F.len _ _ _ _ hq]at e;exact e.symm
 refine AF (abE (f:=f) I.eU M.makes M.init (lX.mp M.fn) (codeAny_mono (F.run _ X.stack _ _ {cj 86::us,[]} (cj 86::(us++ds)) _ _ E (hr.make C us []) (I2.JE.make C us []) (hb _ (cj 86::us) I2.eU hl) r2 hq) fun r s' i_=>?_));cases r with|error e=>exact hx pins σ _ _ e s' I2 i_|ok fl=>cases fl with|ret u=>obtain⟨v,H',I3,rv,ev,q3⟩:=I2.after i_;subst ev;exact{rv,{V.ref 86,H',I3,rfl,q3}}|next=>exact gU i_|brk=>exact gU i_|cont=>exact gU i_
theorem TD(M:Mk X.K C f)(F:127)(hr:925)(hg:Gl X x)(hm:548 407)(hb:386)(hd:801)(hx:434)(ha:614)(eK:81=false:=by decide)(he:starEach 298 X.env=(false,eval e X.env)::starEach es X.env:=by rfl)(dj:(117 pos).any (·.1)=false:=by rfl):PE X 311 (ON C sp fQ E t):=by intro pins s σ H Q I h;refine 626;refine 364 M.kp;exact QO M F hr hb hd hx I1 r q
theorem abQ(M:Mk X.K C f)(F:127)(hr:925)(hg:Gl X x)(hm:548 407)(hb:386)(hd:801)(hx:434)(eK:81=false:=by decide):PE X (652 (.Name x p)) (ON C sp fQ E qR):=by intro pins s σ H Q I h;refine 626;exact ai3 I.eU M.kp (QO (us:=[]) M F hr hb hd hx I .nil h)
end
def PK(X:Cx)(yt:List AH)(t:TA):Prop:=
 ∀(pos:Pos)(pins:List 72)(s:Shared)(σ:St)(H:Hp)(Q:List V->Hp->Prop),Inv X pins σ H s->t σ H Q->wpAny 37 X.A (evalAll ((backToKw pos (keywordEach yt X.env)).map (·.2))) (AP X pins σ Q) X.xe s
section
variable{X:Cx}{CX:gL}{k:Nat}{f C:Addr}{fd:eW}{ps ks:List Str}{sp:Sp}{E:XK}{x m:Str}{p pos di kpos:Pos}{e o:aH}{es:List aH}{yt:List AH}{te ta:TE}{t tk:TA}{nm:Option Str}
theorem afV:PK X [] qR:=fun _ _ _ _ H Q I h=>wpAny_evalAll_nil {[],H,I,.nil,h}
theorem YV(ha:414)(hr:PK X yt t):PK X (⟨nm,e,kpos⟩::yt) (pM te t):=by intro pos pins s σ H Q I h;rw[3,(evalAll ((do let v<-eval e X.env;rP pos;pure v)::(backToKw pos (keywordEach yt X.env)).map (·.2)))];refine wpAny_evalAll_cons (22 (aG 125 fun u s1 ⟨x,H1,I1,r1,q1⟩=>wpAny_bind (Az 78)));ext:80
variable{g:List Value->List Value->List Value}{gV:List V->List V->List V}
end
structure bf(N P:List Str)(sc:fY):Prop where
 kind:sc.kind=.function
 co:sc.isCoroutine=false
 gen:sc.isGenerator=false
 nd:N.Nodup
 pre:N.take P.length=P
 par:∀x∈P,sc.names.lookup x=some .local\/sc.names.lookup x=some .cell
 afL:∀y∈sc.names,y.2≠.free
theorem Rv{kindOf:975}{x:Str}:∀{binds:List (Str×Value)}{m:Str->Option Value},(∀v,(x,v)∉binds)->bindL kindOf binds m x=m x
 |[],_,_=>rfl
 |(n,v)::r,m,h=>by unfold bindL;rw[Rv fun w hw=>h w (cZ _ hw)];split;(have:x≠n:=by rintro rfl;exact h v cY);simp[this];rfl
theorem Oj{kindOf:975}{x:Str}:∀{binds:List (Str×Value)}{m:Str->Option Value},(∀v,(x,v)∉binds)->bindC kindOf binds m x=m x
 |[],_,_=>rfl
 |(n,v)::r,m,h=>by unfold bindC;rw[Oj fun w hw=>h w (cZ _ hw)];split;rfl;(have:x≠n:=by rintro rfl;exact h v cY);simp[this]
theorem MX{kindOf:975}{x:Str}{v:Value}:∀{P:List Str}{vs:List Value}{i:Nat}{m:Str->Option Value},P.Nodup->P[i]?=some x->vs[i]?=some v->kindOf x=some .local->bindL kindOf (P.zip vs) m x=some v
 |[],_,_,_,_,h,_,_=>by simp at h
 |_::_,[],_,_,_,_,h,_=>by simp at h
 |p::P,w::vs,0,m,nd,h1,h2,hk=>by simp at h1 h2;subst h1;subst h2;show bindL kindOf 832 m p=_;unfold bindL;rw[Rv fun v hv=>(oF.mp nd).1 (VN hv).1,if_pos hk];simp
 |p::P,w::vs,i+1,m,nd,h1,h2,hk=>by show bindL kindOf 832 m x=_;unfold bindL;exact MX (i:=i) (oF.mp nd).2 739 (by simpa using h2) hk
theorem NJ{kindOf:975}{x:Str}{v:Value}:∀{P:List Str}{vs:List Value}{i:Nat}{m:Str->Option Value},P.Nodup->P[i]?=some x->vs[i]?=some v->kindOf x≠some .local->bindC kindOf (P.zip vs) m x=some v
 |[],_,_,_,_,h,_,_=>by simp at h
 |_::_,[],_,_,_,_,h,_=>by simp at h
 |p::P,w::vs,0,m,nd,h1,h2,hk=>by simp at h1 h2;subst h1;subst h2;show bindC kindOf 832 m p=_;unfold bindC;rw[Oj fun v hv=>(oF.mp nd).1 (VN hv).1,if_neg hk];simp
 |p::P,w::vs,i+1,m,nd,h1,h2,hk=>by show bindC kindOf 832 m x=_;unfold bindC;exact NJ (i:=i) (oF.mp nd).2 739 (by simpa using h2) hk
def start(N:132)(vs:231):St:=vs.map some++cS (N.length-vs.length) none
def bb(CX:gL)(P:aT)(w:aI)(K:bv)(mg:95)(base:Heap)(N:132)(b4:Str)(scope:fY)(f:Addr)(cd:Value)(A:bz)(outer:621)(s:Shared)(H:Hp)(E:XK):Cx where
 prog:=P
 w:=w
 K:=K
 mg:=mg
 base:=base
 A:=A.deeper (250 scope cd)
 N:=N
 fB:=s
 tz:=H
 env:=be b4 scope s.heap.objs.size f cd
 outer:=outer
 stack:=be b4 scope s.heap.objs.size f cd::outer
 ex:=[]
 calm:=true
 fn:=fun _=>true
 pn:=[]
 xe:=fun e s'=>wpAny (model P w) (A.deeper (250 scope cd)) (leaving (250 scope cd) e) (fun _ zA=>CX outer H s E e zA) (fun e' zA=>CX outer H s E e' zA) s'
theorem Ue{sc:fY}{n:Nat}{x:Str}(h:sc.names.lookup x=some .cell):∃c,(cellsFrom n sc.names []).lookup x=some c:=by have q:=ai4 sc.names n [] 834;exact ai5.mp q
theorem abU{CX:gL}{P:aT}{w:aI}{K:bv}{mg:95}{base:Heap}{N ps:132}{b4:Str}{scope:fY}{f:Addr}{cd:Value}{A:bz}{outer:621}{s s1:Shared}{H:Hp}{E:XK}{us:97}{vs:231}(S:bf N ps scope)(hd:149)(e0:um P w K mg base A outer s H)(hl:vs.length=ps.length)(r:Vals vs us)(x:InCallC s s.heap.objs.size (bindL (250 scope cd).kindOf 672 fun _=>none) (cellsFrom 86 scope.names []) (bindC (250 scope cd).kindOf 672 fun _=>none) s1):Inv (187 cd) [] 825 H s1:=by
 have dj:ps.length<=N.length:=by have:=eC pX S.pre;rw[bU]at this;omega
 obtain⟨h1,tk,rfl,hk⟩:=x.done;have xf:∀b:Addr,b∉(187 cd).ex:=fun b z=>absurd (show b∈([]:261)from z) 42;refine{{e0.mod,S.kind,rfl,rfl,aV _,fun y z c h1 h2=>?_,fun y hy=>?_,fun y c _ h=>?_,fun _=>hd,Around.frames_deeper e0.frames,.inr 669,fun b z=>absurd z (xf b),e0.bs,e0.lu,fun b _ _=>xf b,fun b z=>absurd z (xf b),e0.j_,e0.oP},rfl,e0.bare,Un.kept hk,{_,x.toInCall.ns,fun i y v h1 h2 h3=>?_},fun y c h=>{_,x.cell y c h},e0.aD.fresh 227,fun y c h=>?_,fun p hp=>absurd (show p∈([]:256)from hp) 42,e0.aD.kept hk,?_};exact name_of_addr x.apart (kh h1) (kh h2);have hy:scope.names.lookup y=some .cell\/scope.names.lookup y=some .free:=hy;rcases hy with hy|hy;exact Ue hy;exact 89 rfl (S.afL _ (kh hy));exact J3 (x.above y c (kh h));have hi:i<vs.length:=by unfold start at h2;by_cases hi:i<vs.length;exact hi;rw[J_ 1017]at h2;rw[VO]at h2;split at h2<;>cases h2
 have ha:vs[i]?=some v:=by unfold start at h2;rw[xw 1017,d_]at h2;cases e:vs[i]? with|none=>rw[e]at h2;cases h2|some a=>rw[e]at h2;cases h2;rfl
 obtain⟨u,hu,rv⟩:=r.get ha;have hp:ps[i]?=some y:=by rw[<-S.pre,List.getElem?_take_of_lt 23];exact h1
 have OA:ps.Nodup:=by rw[<-S.pre];exact S.nd.sublist (List.take_sublist _ _)
 refine{u,rv,?_};rcases S.par y (ej hp)with k|k;exact .inl {k,MX OA hp hu k};obtain⟨c,e⟩:=Ue (n:=s.heap.objs.size+1) k;refine 546 {.inl k,c,e,?_};have q:=x.cell y c e;rw[NJ OA hp hu (by show scope.names.lookup y≠_;rw[k];decide)]at q;exact q;exact e0.aD.fresh (J3 (x.above y c (kh h)));unfold start;show _=N.length;rw[bw,az,uH];omega
theorem Qm{CX:gL}{P:aT}{w:aI}{K:bv}{mg:95}{base:Heap}{k:Nat}{f:Addr}{name b4:Str}{params:Arguments}{body:List aL}{scope:fY}{dV kV iG pm aO ct oc:Value}{an od:513}{lK:274}{N ps:132}{sp:Sp}(lk:553 f {oc,od,.func 705,lK})(lA:VP K aO b4=true)(S:bf N ps scope)(len:∀vs H Q E,sp vs H Q E->vs.length=ps.length)(z8:∀(A:bz)(outer:List Env)(s:Shared)(H:Hp)(vs:List V)(Q:VK)(E:XK),cW k (A.deeper (250 scope aO))->sp vs H Q E->∃t,i9 (187 aO) body t/\t {nx:=fun _ H'=>Q .bo H',rt:=Q} 825 H):aE P w K mg base CX (k+1) f 705 ps sp:=by
 refine{len,fun A outer s H args us vs Q E hr e0 hb r ly=>?_};have hl:=len _ _ _ _ ly;have KX:K.In s.heap:=e0.mod.rm.keeps fun b o e=>(e0.bs b o e).1;have lim:s.heap.NoLimit:=e0.mod.nolimit.keeps fun b o e=>(e0.bs b o e).1;have aij:∀y∈ps.zip us,scope.names.lookup y.1=some .local\/(scope.names.lookup y.1=some .cell/\((cellsFrom 86 scope.names []).lookup y.1).isSome=true):=fun⟨n,v⟩ hy=>by rcases S.par n (VN hy).1 with q|q;rw[17,q];exact 546 {q,ai4 _ _ _ (.inl q)}
 refine codeAny_call_function hr.depth (KX _ _ lk) rfl S.co S.gen rfl (PySem.W.codeRec_of KX lA) (hb _ _ _ _ ?_);refine wpAny_newFunctionEnv_cells S.kind aij fun env he s1 x=>?_;subst he;refine{lim.keeps x.toInCall.keep,codeAny_func ?_};obtain⟨t,ht,hq⟩:=z8 A outer s H vs Q E (hr.deeper _) ly;have I:Inv (187 aO) [] 825 H s1:=abU S hr.hd e0 hl r x;refine ji (ht [] s1 825 H _ I hq) (fun fl s' hs=>?_) fun e s' hs=>hs;have fin:∀{aW:St}{H':Hp}{v:V}{u:Value},Inv (187 aO) [] aW H' s'->RelV v u->Q v H'->CE outer P w H s Q u s':=fun{aW H' v u} J rv q=>⟨v,H',J.os,J.bare,J.base,J.aD,rv,q⟩;cases fl with|ret u=>obtain⟨v,aW,H',J,rv,q⟩:=hs;exact fin J rv q|next=>obtain⟨aW,H',J,q⟩:=hs;exact fin (v:=V.bo) (u:=fh) J rfl q|brk=>obtain⟨_,_,_,q⟩:=hs;exact gU q|cont=>obtain⟨_,_,_,q⟩:=hs;exact gU q
end L2
namespace L2
open PySem PySem.Spec PyProof.Rows
section
variable{X:Cx}{x:Str}{p pos:Pos}{e:aH}{es:List aH}{t:TA}{id T:String}{r:List V->Hp->VK->Prop}
def O2(r:List V->Hp->VK->Prop)(t:TA):TE:=fun σ H Q=>t σ H fun vs H1=>r vs H1 Q
theorem cw(hc:jw X 540 r)(hg:Gl X x)(hm:X.mg x=none)(hv:gS x=some 540)(ha:614)(hn:x≠"__name__":=by decide)(eK:81=false:=by decide)(he:starEach 298 X.env=(false,eval e X.env)::starEach es X.env:=by rfl)(dj:(117 pos).any (·.1)=false:=by rfl):PE X 311 (O2 r t):=by intro pins s σ H Q I h;refine 714;exact ai6 387 he dj
theorem qW(hc:jw X (.type T) r)(hg:Gl X x)(hm:X.mg x=none)(hv:gS x=some (.type T))(ha:614)(hn:x≠"__name__":=by decide)(eK:81=false:=by decide)(he:starEach 298 X.env=(false,eval e X.env)::starEach es X.env:=by rfl)(dj:(117 pos).any (·.1)=false:=by rfl):PE X 311 (O2 r t):=by intro pins s σ H Q I h;refine 714;exact uG 387 he dj
end
end L2
namespace HT
open PySem PyProof.Rows
section
variable{prog:aT}{w:aI}{A:bz}{E:Value->Shared->Prop}{s:Shared}
theorem aaD{t b:Addr}{vs ws:97}{Q:43}(ht:IsTup s.heap t vs.toArray)(hb:IsTup s.heap b ws.toArray)(hv:vs≠[])(h1:ws=[]->Q (.ref t) s)(h2:ws≠[]->Q 84 {s with heap:=s.heap.push {cls:=.type "tuple",data:=.seq (vs++ws).toArray}})(hsz:vs.length+ws.length<=sizeLine):wpAny 35 A (kg .Add (.ref t) (.ref b)) Q E s:=by
 obtain⟨⟨cls,dd,data,sl⟩,ho,hc,n,hd⟩:=id ht;obtain⟨⟨adk,Dm,data2,Em⟩,ug,wz,n2,yT⟩:=id hb;simp only at hc hd wz yT;subst hc hd wz yT;have e:vs.toArray++ws.toArray=(vs++ws).toArray:=by simp
 by_cases hw:ws=[];exact 399 (tuple_addW1 t b vs.toArray ws.toArray n n2 dd Dm sl Em 1018 (by simp[hw])) {ho,ug,h1 hw};refine 399 (tuple_addW2 t b vs.toArray ws.toArray n n2 dd Dm sl Em 1018 (by simpa using hw) (by rw[dk,dk];exact hsz)) {ho,ug,?_};rw[e];exact h2 hw
def ba(n d:Nat):Option Int->Nat
 |none=>d
 |some v=>if v<0 then(v+(n:Int)).toNat else min v.toNat n
theorem JW(n d:Nat):ba n d none=d:=rfl
theorem tX(n d k:Nat):ba n d (some (k:Int))=min k n:=by show(if(k:Int)<0 then((k:Int)+(n:Int)).toNat else min (k:Int).toNat n)=min k n;rw[if_neg 23,pY]
theorem FG(n d:Nat)(hd:d<=n)(o:757):ba n d o<=n:=by cases o with|none=>exact hd|some v=>show 379<=n;by_cases hv:v<0;rw[if_pos hv];omega;rw[if_neg hv];exact Ka _ _
theorem O5(v:Int)(n d:Nat):723=((ba n d 456:Nat):Int):=by show 723=((379:Nat):Int);ext:171;omega
theorem aaZ(lo hi:757)(n:Nat):VV lo hi 1 (n:Int)=(((ba n 0 lo:Nat):Int),((ba n n hi:Nat):Int)):=by
 have h1:¬((1:Int)<0):=by omega
 unfold VV;simp only[h1,kS];refine Prod.ext ?_ ?_;cases lo with|none=>rfl|some v=>exact O5 v n 0
 cases hi with|none=>rfl|some v=>exact O5 v n n
theorem ahL(i j:Nat):Kb (i:Int) (j:Int) 1=j-i:=by
 unfold Kb;have h1:(1:Int)>0:=by omega
 simp only[h1,jL,Int.ediv_one];split<;>omega
theorem SI{v:Value}{o:757}{Q:192 Int}(p:IsPart v o)(h:Q o s):wpAny 35 A (Builtin.Slice.slicePartIndex v) Q E s:=by cases p with|none=>exact slicePart_none h|int i t=>exact slicePart_int h
theorem Za{sl:Addr}{vl vu:Value}{lo hi:757}{n:Nat}{Q:Int×Int×Nat->Shared->Prop}(hs:1058)(pl:IsPart vl lo)(pu:IsPart vu hi)(h:Q (((ba n 0 lo:Nat):Int),1,ba n n hi-ba n 0 lo) s):wpAny 35 A (ai7 (.ref sl) (pure (n:Int))) Q E s:=by obtain⟨os,sJ,nT,xb⟩:=id hs;unfold ai7 Builtin.Slice.sliceFields;rw[0,(22 (ib sJ xb (x:=vl) rfl (22 (ib sJ xb (x:=vu) rfl (22 (ib sJ xb (x:=.none) rfl 78))))))];rw[0,(slicePart_none ?_)];rw[3,(361 ((1:Int)==0))];rw[if_neg 29];rw[0,(SI pl (22 (SI pu (22 78))))];rw[3,(match VV lo hi 1 (n:Int)with|(lo,hi)=>pure (lo,(1:Int),Kb lo hi 1))];rw[aaZ lo hi n];rw[3,(pure (((ba n 0 lo:Nat):Int),(1:Int),Kb ((ba n 0 lo:Nat):Int) ((ba n n hi:Nat):Int) 1))];rw[ahL];exact 58 h
theorem adn(xs:136)(i k:Nat):((bu k).filterMap fun(m:Nat)=>xs[((i:Int)+(m:Int)*1).toNat]?).toArray=((xs.toList.drop i).take k).toArray:=by
 have e:(fun(m:Nat)=>xs[((i:Int)+(m:Int)*1).toNat]?)=fun m=>xs[i+m]?:=by funext m;(have:((i:Int)+(m:Int)*1).toNat=i+m:=by omega);rw[this]
 rw[e];have:=pick_run xs i k;rw[List.filterMap_map]at this;have e2:((fun x=>xs[x]?)∘fun x=>i+x)=fun m=>xs[i+m]?:=rfl;rw[e2]at this;rw[this]
theorem ah6{t sl:Addr}{items:136}{vl vu:Value}{lo hi:757}{Q:43}(ht:IsTup s.heap t items)(hs:1058)(pl:IsPart vl lo)(pu:IsPart vu hi)(hw:¬(ba items.size 0 lo=0/\ba items.size items.size hi=items.size))(h:Q 84 {s with heap:=s.heap.push {cls:=.type "tuple",data:=.seq (464 171).toArray}})(hsz:items.size<=sizeLine):wpAny 35 A (xx (.ref t) (.ref sl)) Q E s:=by
 have Ce:sizeOk (.seq (464 171).toArray):=by show(464 171).toArray.size<=sizeLine;rw[dk,bU,cy,jk];omega
 have hj:ba items.size items.size hi<=items.size:=FG _ _ 227 hi;obtain⟨os,sJ,nT,xb⟩:=id hs;have hTs:s.TypeIs (.ref sl) "slice":=⟨os,sJ,nT⟩;unfold xx;try with_reducible refine 627
 first|refine wpAny_bind (wpAny_pure ?_)|skip
 rw[0,(wpAny_sequenceKey ht.typeIs 29 ?_)];rw[0,(uI (name:=kT "__getitem__") ht.typeIs VW (wpAny_call_entry VW ht.typeIs entry_tuple_getitem ?_ (args_tuple_getitem _ _)))];rw[3,(ai8 (.ref t)>>=_)];rw[0,(tupleItemsOf_ ht ?_)];rw[0,(EJ hTs ?_)];rw[if_pos 29];rw[0,(Za hs pl pu ?_)];have ub:¬(562=true):=by intro q;rw[dm,dm]at q;have q1:((ba items.size 0 lo:Nat):Int)=0:=eq_of_beq q.1.1;have q2:ba items.size items.size hi-ba items.size 0 lo=items.size:=eq_of_beq q.2;exact hw {by omega,by omega}
 rw[3,(361 562)];rw[if_neg ub,adn];first|exact wpAny_bind (m:=Kc _) (ki (wpAny_pure ⟨_,rfl,wpAny_pure h⟩) Ce)|exact wpAny_bind (m:=Kc _) (ki (wpAny_bind (wpAny_pure (wpAny_pure ⟨_,rfl,wpAny_pure h⟩))) Ce)|exact wpAny_bind (wpAny_bind (m:=Kc _) (ki (wpAny_pure (wpAny_pure ⟨_,rfl,wpAny_pure h⟩)) Ce))|exact wpAny_bind (wpAny_bind (m:=Kc _) (ki (wpAny_pure ⟨_,rfl,wpAny_pure h⟩) Ce))
end
end HT
namespace L2
open PySem PySem.Spec PyProof.Rows
abbrev TO:=St->Hp->(Option Int->Hp->Prop)->Prop
def PO(X:Cx)(e:Option aH)(t:TO):Prop:=
 ∀(pins:List 72)(s:Shared)(σ:St)(H:Hp)(Q:Option Int->Hp->Prop),Inv X pins σ H s->t σ H Q->
  wpAny 37 X.A (evalPart e X.env) (fun u s'=>∃o H',Inv X pins σ H' s'/\IsPart u o/\Q o H') X.xe s
def adc:TO:=fun _ H Q=>Q none H
def aiF(t:TE):TO:=fun σ H Q=>t σ H fun x H1=>∃i,x=.int i/\Q (some i) H1
section
variable{X:Cx}{e:aH}{te:TE}{lo hi:Option aH}{tl th:TO}{pos p2:Pos}
theorem mi:PO X none adc:=by intro pins s σ H Q I h;rw[evalPart_none];exact 58 {none,H,I,.none,h}
theorem iI(h:414):PO X (some e) (aiF te):=by intro pins s σ H Q I hw;rw[evalPart_some];refine aG 898 fun u s1 ⟨x,H1,I1,r1,q1⟩=>?_;obtain⟨i,rfl,q⟩:=q1;rw[1,r1];exact{some i,H1,I1,.int i t,q}
def wc(X:Cx)(r:490):Prop:=
 ∀(pins:List 72)(s:Shared)(σ:St)(H:Hp)(x:V)(v vl vu:Value)(lo hi:Option Int)(sl:Addr)(Q:VK),Inv X pins σ H s->RelV x v->s.heap.IsSliceOf sl vl vu .none->IsPart vl lo->IsPart vu hi->r x lo hi H Q->
  ∃T id,typeLookup (.type T) "__getitem__"=pure (some 540)/\s.TypeIs v T/\wpAny 37 X.A (xx v (.ref sl)) 178 X.xe s
def tSl(r:490)(te:TE)(tl th:TO):TE:=fun σ H Q=>te σ H fun x H1=>tl σ H1 fun l H2=>th σ H2 fun u H3=>r x l u H3 Q
theorem j9{r:490}(hr:wc X r)(he:414)(hl:PO X lo tl)(hu:PO X hi th):PE X (642 e (.Slice lo hi none p2) pos) (tSl r te tl th):=by intro pins s σ H Q I h;refine Subscript_ (198 159);refine wpAny_Slice (aG (hl pins s1 σ H1 _ I1 q1) fun vl s2 ⟨l,H2,I2,pl,q2⟩=>aG (hu pins s2 σ H2 _ I2 q2) fun vu s3 ⟨u,H3,I3,pu,q3⟩=>?_);rw[evalPart_none];refine 78;have I4:Inv X pins σ H3 {s3 with heap:=s3.heap.push {cls:=.type "slice",data:=.fields #[vl,vu,.none]}}:=I3.kept (t':=s3.toks) fun b ob q=>bG _ q;obtain⟨T,id,hT,ht,hg⟩:=hr pins {s3 with heap:=s3.heap.push {cls:=.type "slice",data:=.fields #[vl,vu,.none]}} σ H3 x v vl vu l u s3.heap.objs.size Q I4 r1 (Heap.IsSliceOf.new ..) pl pu q3;show wpAny 37 X.A (VX e (.Slice lo hi none p2) v (.ref s3.heap.objs.size)) 178 X.xe {s3 with heap:=s3.heap.push {cls:=.type "slice",data:=.fields #[vl,vu,.none]}};exact tail_any (ops:=[.ref s3.heap.objs.size,v]) ht hT hg 77
def fP(xs:231)(lo hi:757):List V:=(xs.drop 890).take 355
theorem Ux(xs:231)(lo hi:757):(fP xs lo hi).length<=xs.length:=by unfold fP;rw[bU,cy];omega
def aer(K:bv):V->Option Int->Option Int->Hp->VK->Prop:=fun x lo hi H Q=>∃a xs,x=.ref a/\bC K H a xs/\
 ¬(388 lo hi)/\∀p,H p=none->Q 310 (257 p (.tup 742))
theorem Zo:wc X (aer X.K):=by
 intro pins s σ H x v vl vu lo hi sl Q I rx hs pl pu h;obtain⟨a,xs,rfl,hx,hw,q⟩:=h;cases rx;obtain⟨ai,r,ht,hz⟩:=I.tuple hx;have bK:ai.toArray.size=xs.length:=by rw[dk];exact r.length.symm
 refine{"tuple",_,VW.lookup,ht.typeIs,?_};refine HT.ah6 ht hs pl pu (by rw[bK];exact hw) ?_ (by rw[bK];exact hz);rw[bK];refine{.ref s.heap.objs.size,_,I.laid (t':=s.toks) (o:=.tup 742) 685 227 ?_,rfl,q _ 346};exact{dG (Ux xs lo hi) hz,_,(r.drop 890).take 355,Kd _ _}
def acX(K:bv):R2:=fun x y H Q=>∃a b xs ys,x=.ref a/\y=.ref b/\bC K H a xs/\bC K H b ys/\xs≠[]/\xs.length+ys.length<=sizeLine/\
 (ys=[]->Q 152 H)/\(ys≠[]->∀p,H p=none->Q 310 (257 p (.tup (xs++ys))))
theorem Vals.En{xs:231}{us:97}(r:Vals xs us):us=[]↔xs=[]:=by cases r with|nil=>simp|cons _ _=>simp
theorem aeE:dg X (kg .Add) (acX X.K):=by intro pins s σ H x y v u Q I rx ry h;obtain⟨a,b,xs,ys,rfl,rfl,ha,hb,hx,hz,q1,q2⟩:=h;cases rx;cases ry;obtain⟨ai,r1,p1,_⟩:=I.tuple ha;obtain⟨ir,r2,p2,_⟩:=I.tuple hb;refine HT.aaD p1 p2 (393 hx (r1.En.mp z)) (fun z=>{.ref a,H,I,rfl,q1 (r2.En.mp z)}) 164 (by rw[<-r1.length,<-r2.length];exact hz);refine{.ref s.heap.objs.size,_,I.laid (t':=s.toks) (o:=.tup (xs++ys)) 685 227 ?_,rfl,q2 (fun w=>z (r2.En.mpr w)) _ 346};exact{by rw[bw];exact hz,_,r1.append r2,Kd _ _}
end
end L2
namespace L2
open PySem PySem.Spec PyProof.Rows
def lF(n:Nat)(i:Int):Option Nat:=if 0<=i then(if i<n then some i.toNat else none)else if-(n:Int)<=i then some (i+n).toNat else none
def fL{α:Type}(xs:612)(i:Int):Option α:=(lF xs.length i).bind fun j=>xs[j]?
theorem P'{n:Nat}{i:Int}{j:Nat}(h:lF n i=some j):seqIndex? i n=some j/\j<n/\-(n:Int)<=i/\i<n:=by unfold lF at h;by_cases h0:0<=i;rw[if_pos h0]at h;by_cases h1:i<n;rw[if_pos h1]at h;have e:i.toNat=j:=dZ h;exact{by rw[seqIndex_of h0 h1,e],by omega,by omega,h1};rw[if_neg h1]at h;ext:91;rw[if_neg h0]at h;by_cases h1:-(n:Int)<=i;rw[if_pos h1]at h;have e:(i+n).toNat=j:=dZ h;exact{by rw[seqIndex_neg 23 h1,e],by omega,h1,by omega};rw[if_neg h1]at h;ext:91
theorem Ri{α:Type}{xs:612}{i:Int}{v:α}(h:fL xs i=some v):∃j,seqIndex? i xs.length=some j/\xs[j]?=some v/\j<xs.length/\-(xs.length:Int)<=i/\i<xs.length:=by unfold fL at h;cases e:lF xs.length i with|none=>rw[e]at h;cases h|some j=>rw[e]at h;obtain⟨h1,h2,h3,h4⟩:=P' e;exact⟨j,h1,h,h2,h3,h4⟩
theorem dA{α:Type}{xs:612}{j:Nat}{v:α}(h:xs[j]?=some v):fL xs (j:Int)=some v:=by
 have hj:j<xs.length:=(dH.mp h).1;have e:lF xs.length (j:Int)=some j:=by unfold lF;rw[if_pos 23,if_pos 23];simp
 unfold fL;rw[e];exact h
theorem ahG{α:Type}(xs:612)(v:α):fL (xs++[v]) (-1)=some v:=by
 have hl:(xs++[v]).length=xs.length+1:=by simp
 have e:lF (xs++[v]).length (-1)=some xs.length:=by unfold lF;rw[hl,if_neg 29,if_pos 23];congr 1;omega
 unfold fL;rw[e];show(xs++[v])[xs.length]?=some v;simp
def ae2(b:aH):Prop:=∀o i,subscripted b false o i=operate [o,i] (xx o i)
def As(X:Cx)(r:R2):Prop:=
 ∀(value slice:aH)(pins:List 72)(s:Shared)(σ:St)(H:Hp)(x y:V)(v u:Value)(Q:VK),Inv X pins σ H s->RelV x v->RelV y u->r x y H Q->
  subscripted slice false v u=operate [v,u] (xx v u)->wpAny 37 X.A (VX value slice v u) 178 X.xe s
def o9(X:Cx)(id:String)(r:268):Prop:=
 ∀(pins:List 72)(s:Shared)(σ:St)(H:Hp)(x:V)(xs:List V)(v:Value)(us:List Value)(Q:VK),Inv X pins σ H s->RelV x v->Vals xs us->r x xs H Q->
  wpAny 37 X.A (call 540 (v::us)) 178 X.xe s
section
variable{X:Cx}{a b:aH}{ta tb:TE}{pos:Pos}
theorem aN{r:R2}(hr:As X r)(ha:451)(hb:710)(hs:ae2 b):PE X (642 a b pos) (wW r ta tb):=by intro pins s σ H Q I h;exact Subscript_ (FC ha hb I h fun v u s2 x y H2 I2 rx ry q=>hr a b pins s2 σ H2 x y v u Q I2 rx ry q (hs _ _))
def acl(K:bv):R2:=fun x y H Q=>∃p xs i v,x=.ref p/\y=.int i/\aq K H p xs/\fL xs i=some v/\Q v H
def ac4(K:bv):R2:=fun x y H Q=>∃p xs i v,x=.ref p/\y=.int i/\bC K H p xs/\fL xs i=some v/\Q v H
theorem Fv:As X (acl X.K):=by
 intro value slice pins s σ H x y v u Q I rx ry h hs;obtain⟨p,xs,i,z,rfl,rfl,hq,he,q⟩:=h;cases rx;rw[1,ry];rw[11,I.list];obtain⟨j,h1,h2,h3,h4,h5⟩:=Ri he;ext:75;by_cases h0:0<=i;have hj:i.toNat=j:=by rw[seqIndex_of h0 h5]at h1;exact dZ h1
 exact item_listR pl.isList h0 23 (by rw[hj];simpa using ew) fin hs;have hj:(i+(ai.toArray.size:Int)).toNat=j:=by rw[seqIndex_neg 23 h4]at h1;rw[dk,<-hl];exact dZ h1
 exact subscriptTail_builtinR (x:=w) pl.isList.typeIs slot_list_getitem.lookup (wpAny_getItem_list_neg (Q:=fun r s'=>r=w/\EP X pins σ Q r s') pl.isList 23 (by rw[dk]<;>omega) 23 (by rw[hj];simpa using ew) ⟨rfl,fin⟩) hs
theorem Tf:As X (ac4 X.K):=by intro value slice pins s σ H x y v u Q I rx ry h hs;obtain⟨p,xs,i,z,rfl,rfl,hq,he,q⟩:=h;cases rx;rw[1,ry];rw[11,I.tuple];obtain⟨j,h1,h2,h3,h4,h5⟩:=Ri he;ext:75;exact subscriptTail_builtinR (x:=w) pl.typeIs slot_tuple_getitem.lookup (getItem_tuple (j:=j) (Q:=fun r s'=>r=w/\EP X pins σ Q r s') pl 23 23 (by rw[dk,<-hl];exact h1) (by simpa using ew) ⟨rfl,fin⟩) hs
theorem ace(ai:97)(n j:Nat)(u:Value):xz (·.setIfInBounds j u) {cls:=.type "list",data:=.seq ai.toArray n}={cls:=.type "list",data:=.seq (ai.set j u).toArray n}:=by simp[xz]
theorem Inv.lst{pins:256}{σ:St}{H:Hp}{s:Shared}{p:Addr}{xs:231}(I:31)(h:324 p 248):∃(ai:List Value)(n:Nat),Vals xs ai/\s.heap.get? p=some {cls:=.type "list",data:=.seq ai.toArray n}/\xs.length<=sizeLine:=by obtain⟨z,ai,n,r,e⟩:=I.aD p _ h;exact⟨ai,n,r,e,z⟩
theorem Inv.Xr{pins:256}{σ:St}{H:Hp}{s:Shared}{p:Addr}{xs ys:231}{ai its':97}{n n':Nat}{f:Obj->Obj}(I:31)(h:324 p 248)(ho:700 p)(hf:f {cls:=.type "list",data:=.seq ai.toArray n}={cls:=.type "list",data:=.seq its'.toArray n'})(r:Vals ys its')(hz:995)(t:Nat):Inv X pins σ (257 p 459) {s with heap:=s.heap.update p f,toks:=t}:=by
 have e:(s.heap.update p f).get? p=some {cls:=.type "list",data:=.seq its'.toArray n'}:=by rw[pZ f ho (by rw[hf]<;>rfl),hf]
 refine I.write (x:=p) (e:=p) (by rw[h];trivial) 148 (fun b u hb q=>(iy _ _ (cJ hb)).trans q) {_,e} ?_;exact⟨hz,its',n',r,e⟩
def Zp:V->V->V->Hp->(Hp->Prop)->Prop:=fun o i v H Q=>∃p xs k j,o=.ref p/\i=.int k/\H p=some 248/\lF xs.length k=some j/\Q (257 p (80 (xs.set j v)))
theorem set_list:NB X Zp:=by
 intro pins s σ H o i v ov iv u Q I ro ri rv h;obtain⟨p,xs,k,j,rfl,rfl,hp,hj,q⟩:=h;cases ro;rw[1,ri];obtain⟨ai,n,r,ho,hz⟩:=I.lst hp;obtain⟨h1,h2,h3,h4⟩:=P' hj;have hl:=r.length;have hn:=Ah;have I':Inv X pins σ (257 p (80 (xs.set j v))) {s with heap:=s.heap.update p (xz (·.setIfInBounds j u))}:=I.Xr hp ho (ace ai n j u) (r.set rv j) (by rw[VY];exact hz) s.toks;by_cases h0:0<=k;have hk:k.toNat=j:=by rw[seqIndex_of h0 h4]at h1;exact dZ h1
 exact PySem.W.ki_setAt ho h0 23 (by rw[dk,<-hl];exact h4) (by rw[hk];exact{_,I',q});have hk:(k+(ai.toArray.size:Int)).toNat=j:=by rw[seqIndex_neg 23 h3]at h1;rw[dk,<-hl];exact dZ h1
 exact PySem.W.ki_setBack ho 23 (by rw[dk,<-hl];exact h3) 23 (by rw[hk];exact{_,I',q})
theorem aae(lo hi:757)(n:Nat):(xA lo hi none n).1=((HT.ba n 0 lo:Nat):Int)/\(xA lo hi none n).2.1=((HT.ba n n hi:Nat):Int)/\(xA lo hi none n).2.2=1:=by
 refine{?_,?_,rfl};cases lo with|none=>simp[xA,HT.ba]|some i=>simp only[xA,HT.ba,VZ,show(1:Int)>0 by decide,jL];ext:179
 cases hi with|none=>simp[xA,HT.ba]|some i=>simp only[xA,HT.ba,VZ,show(1:Int)>0 by decide,jL];ext:179
theorem aah(ai:97)(lo hi:757):slicePick ai.toArray lo hi none=((ai.drop (HT.ba ai.length 0 lo)).take (HT.ba ai.length ai.length hi-HT.ba ai.length 0 lo)).toArray:=by obtain⟨h1,h2,h3⟩:=aae lo hi ai.toArray.size;unfold slicePick;rw[h1,h2,h3];simp only[sliceRange_one,pick_run,dk]<;>rfl
def ado(K:bv):V->Option Int->Option Int->Hp->VK->Prop:=fun x lo hi H Q=>∃a xs,x=.ref a/\aq K H a xs/\∀p,H p=none->Q 310 (257 p (80 742))
theorem YW:wc X (ado X.K):=by intro pins s σ H x v vl vu lo hi sl Q I rx hs pl pu h;obtain⟨a,xs,rfl,hx,q⟩:=h;cases rx;obtain⟨ai,r,ht,hz⟩:=I.list hx;have bK:=r.length;refine{"list",_,slot_list_getitem.lookup,ht.isList.typeIs,?_};refine wpAny_getItem_list_slice ht.isList hs pl pu .none 42 ?_ (by rw[dk]<;>omega);rw[aah,<-bK];refine{.ref s.heap.objs.size,_,I.laid (t':=s.toks) (o:=.lst 742) 685 227 ?_,rfl,q _ 346};exact{dG (Ux xs lo hi) hz,_,0,(r.drop 890).take 355,c_ _ rfl}
def jc:V->Bool
 |.bo=>true
 |.bl _=>true
 |.int _=>true
 |.str _=>true
 |_=>false
def jI:V->V->Bool
 |.bo,.bo=>true
 |.bl a,.bl b=>a==b
 |.bl a,.int b=>(if a then 1 else 0)==b
 |.int a,.bl b=>a==(if b then 1 else 0)
 |.int a,.int b=>a==b
 |.str a,.str b=>a==b
 |_,_=>false
theorem Z8{A:bz}{s:Shared}{y x:V}{u v:Value}(ry:RelV y u)(rx:RelV x v)(fy:jc y=true)(fx:jc x=true):V0 A s u v (jI y x):=by cases y with|bo=>(cases ry;cases x with|bo=>cases rx;exact SeqAt.EqAt.same _|bl b=>cases rx;exact SeqAt.EqAt.none_bool b|int b=>obtain⟨t,rfl⟩:=rx;exact SeqAt.EqAt.none_int b t|str b=>obtain⟨t,rfl⟩:=rx;exact SeqAt.EqAt.none_str b t|_=>exact 1048)|bl a=>(cases ry;cases x with|bo=>cases rx;exact SeqAt.EqAt.bool_none a|bl b=>cases rx;exact SeqAt.EqAt.bool_bool a b|int b=>obtain⟨t,rfl⟩:=rx;exact SeqAt.EqAt.bool_int a b t|str b=>obtain⟨t,rfl⟩:=rx;exact SeqAt.EqAt.bool_str a b t|_=>exact 1048)|int a=>(obtain⟨t',rfl⟩:=ry;cases x with|bo=>cases rx;exact SeqAt.EqAt.int_none a t'|bl b=>cases rx;exact SeqAt.EqAt.int_bool a t' b|int b=>obtain⟨t,rfl⟩:=rx;exact SeqAt.EqAt.int_int a t' b t|str b=>obtain⟨t,rfl⟩:=rx;exact aiU a t' b t|_=>exact 1048)|str a=>(obtain⟨t',rfl⟩:=ry;cases x with|bo=>cases rx;exact SeqAt.EqAt.str_none a t'|bl b=>cases rx;exact SeqAt.EqAt.str_bool a t' b|int b=>obtain⟨t,rfl⟩:=rx;exact aiV a t' b t|str b=>obtain⟨t,rfl⟩:=rx;exact SeqAt.EqAt.str_str a t' b t|_=>exact 1048)|_=>exact 89 (69 fy) df
def jd(x:V)(u:Value):Bool:=match u with
 |.none=>jI .bo x
 |.bool b=>jI (.bl b) x
 |.int i _=>jI 835 x
 |.str z _=>jI (.str z) x
 |_=>false
theorem Bx{x y:V}{u:Value}(r:RelV y u)(f:jc y=true):jd x u=jI y x:=by cases y with|bo=>cases r;rfl|bl b=>cases r;rfl|int i=>obtain⟨t,rfl⟩:=r;rfl|str z=>obtain⟨t,rfl⟩:=r;rfl|_=>exact 89 (69 f) df
theorem yn{x:V}:∀{xs:List V}{us:List Value},Vals xs us->xs.all jc=true->us.any (jd x)=xs.any fun y=>jI y x
 |_,_,.nil,_=>rfl
 |y::xs,u::us,.cons r t,f=>by rw[EK,dm]at f;rw[rY,rY,Bx r f.1,yn t f.2]
theorem v6{A:bz}{s:Shared}{x:V}{v:Value}(rx:RelV x v)(fx:jc x=true):∀{xs:List V}{us:List Value},Vals xs us->xs.all jc=true->∀u∈us,V0 A s u v (jd x u)
 |_,_,.nil,_=>fun u hu=>by cases hu
 |y::xs,u::us,.cons r t,f=>fun u' hu=>by rw[EK,dm]at f;rcases bE.mp hu with rfl|hu;rw[Bx r f.1];exact Z8 r rx f.1 fx;exact v6 rx fx t f.2 u' hu
def js(x:V)(xs:231):Bool:=xs.any fun y=>jI y x
def Pc(K:bv)(neg:Bool):R2:=fun x y H Q=>∃p xs,y=.ref p/\(aq K H p xs\/bC K H p xs)/\jc x=true/\xs.all jc=true/\Q (.bl (if neg then !js x xs else js x xs)) H
theorem qY:dg X (gT .In) (Pc X.K false):=by intro pins s σ H x y v u Q I rx ry h;obtain⟨p,xs,rfl,hq,fx,fs,q⟩:=h;cases ry;rcases hq with hq|hq;rw[11,I.list];refine SeqAt.in_listAt (jd x) pl.isList 253 500;ext:24;rw[11,I.tuple];refine SeqAt.in_tupleAt (jd x) pl 253 500;ext:24
theorem YF:dg X (gT .NotIn) (Pc X.K true):=by intro pins s σ H x y v u Q I rx ry h;obtain⟨p,xs,rfl,hq,fx,fs,q⟩:=h;cases ry;rcases hq with hq|hq;rw[11,I.list];refine SeqAt.notIn_listAt (jd x) pl.isList 253 500;ext:24;rw[11,I.tuple];refine SeqAt.notIn_tupleAt (jd x) pl 253 500;ext:24
theorem du:jw X (.builtin "len") (fun xs H Q=>∃p ys,xs=[.ref p]/\(aq X.K H p ys\/bC X.K H p ys)/\Q (.int ys.length) H):=by intro pins s σ H xs us Q I r h;obtain⟨p,ys,rfl,hq,q⟩:=h;ext:151;have hn:=Ah;rcases hq with hq|hq;rw[10,I.list];have bK:=r'.length;exact Calls.call_len_list pl.isList 391 695;rw[10,I.tuple];have bK:=r'.length;exact len_tuple pl 391 695
theorem Mo:jw X (.builtin "len") (fun xs H Q=>∃z,xs=[.str z]/\z.length<=sizeLine/\Q (.int z.length) H):=by intro pins s σ H xs us Q I r h;obtain⟨z,rfl,hz,q⟩:=h;ext:108;have hn:=Ah;exact len_str 23 (276 z.length q)
theorem aa9:jw X (.type "list") (fun xs H Q=>∃p ys,xs=[.ref p]/\(aq X.K H p ys\/bC X.K H p ys)/\∀l,H l=none->Q 283 (257 l 459)):=by intro pins s σ H xs us Q I r h;obtain⟨p,ys,rfl,hq,q⟩:=h;ext:151;have fin:∀(ai:List Value),Vals ys ai->ys.length<=sizeLine->∀(h':Heap)(c':Nat),(∀b o',s.heap.get? b=some o'->h'.get? b=some o')->h'.get? s.heap.objs.size=some {cls:=.type "list",dict:=none,data:=.seq ai.toArray c',slots:=#[]}->EP X pins σ Q 84 {s with heap:=h'}:=fun ai r' hz h' c' kp e=>{.ref s.heap.objs.size,_,I.laid (t':=s.toks) kp 227 (show cQ X.prog X.w _ h' _ 459 from⟨hz,ai,c',r',e⟩),rfl,q _ 346};rcases hq with hq|hq;rw[10,I.list];have bK:=r'.length;obtain⟨o,ho,hc,n,hd⟩:=pl.isList;exact 581 148;rw[10,I.tuple];have bK:=r'.length;obtain⟨o,ho,hc,n,hd⟩:=pl;exact 581 (546 rfl)
theorem P6:jw X 517 (fun xs H Q=>∃p ys,xs=[.ref p]/\((aq X.K H p ys/\∀l,H l=none->Q 283 (257 l (.tup ys)))\/(bC X.K H p ys/\Q 310 H))):=by intro pins s σ H xs us Q I r h;obtain⟨p,ys,rfl,h⟩:=h;ext:151;rcases h with⟨hq,q⟩|⟨hq,q⟩;rw[10,I.list];have bK:=r'.length;refine call_tuple_list pl.isList (fun h' kp=>?_) 391;have I1:Inv X pins σ H {s with heap:=h'}:=I.kept (t':=s.toks) kp;have I2:Inv X pins σ (257 h'.objs.size (.tup ys)) {s with heap:=h'.push {cls:=.type "tuple",data:=.seq ai.toArray}}:=I1.laid (t':=s.toks) (fun b o e=>bG _ e) 227 (show cQ X.prog X.w _ _ _ (.tup ys)from{hz,ai,r',Kd _ _});exact{.ref h'.objs.size,_,I2,rfl,q _ (I1.aD.fresh 227)};rw[10,I.tuple];exact call_tuple_same pl {.ref p,H,I,rfl,q}
def SQ(K:bv)(T:String)(x:V)(H:Hp):Prop:=match x with
 |.str _=>T="str"
 |.int _=>T="int"
 |.ref p=>(T="list"/\∃xs,aq K H p xs)\/(T="tuple"/\∃o,K.lookup p=some o/\o.cls=.type "tuple"/\o.dict=none)\/
  (T="dict"/\((∃am,H p=some (.dK am))\/∃am,H p=some (.dT am)))\/(T="set"/\∃S n,H p=some (.set S n))
 |_=>False
theorem acg{pins:256}{σ:St}{H:Hp}{s:Shared}{T:String}{x:V}{v:Value}(I:31)(r:RelV x v)(ty:SQ X.K T x H):s.TypeIs v T/\∀a,v=.ref a->∃ob,s.heap.get? a=some ob/\ob.dict=none:=by cases x with|str z=>obtain⟨t,rfl⟩:=r;cases(show T="str"from ty);exact{Ke s z t,fun _ e=>nomatch e}|int i=>obtain⟨t,rfl⟩:=r;cases(show T="int"from ty);exact{xB s i t,fun _ e=>nomatch e}|ref p=>(cases r;rcases ty with⟨rfl,xs,hq⟩|⟨rfl,o,hk,hc,hd⟩|⟨rfl,hk⟩|⟨rfl,S,n,hk⟩;obtain⟨ai,_,pl,_⟩:=I.list hq;refine{pl.isList.typeIs,fun a e=>?_};cases e;obtain⟨o,n,e,c,hd,_⟩:=pl;exact⟨o,e,hd⟩;refine{{o,I.eU p o hk,hc},fun a e=>?_};cases e;exact{o,I.eU _ o hk,hd};(have z:∃o,s.heap.get? p=some o/\o.ExactDict:=by rcases hk with⟨am,hk⟩|⟨am,hk⟩;ext:172;ext:172);obtain⟨o,e,ex⟩:=z;ext:161;obtain⟨o,_,_,_,e,ex,_⟩:=I.aD p _ hk;ext:161)|_=>exact gU ty
def GI(K:bv)(T:String)(r:268)(to:TE)(t:TA):TE:=fun σ H Q=>to σ H fun x H1=>SQ K T x H1/\t σ H1 fun xs H2=>r x xs H2 Q
variable{o e:aH}{es:List aH}{to:TE}{t:TA}{name:Str}{di gJ:Pos}{T id:String}{r:V->List V->Hp->VK->Prop}
theorem dQ(pa:PlainAttrs T)(slot:Slot T name id)(wO:325)(hm:o9 X id r)(ho:PE X o to)(ha:614)(tD:xu o name X.env (217 o)=eval o X.env:=by rfl)(ag5:((backTo gJ (731 298)).all (fun x=>!x.1)&&(backToKw gJ (keywordEach [] X.env)).all (fun x=>x.1.isSome)&&decide ((e::es).length+([]:List AH).length+(if([]:List AH).isEmpty then 0 else 1)<030))=true:=by rfl)(yj:(di.endLine==gJ.line)=true:=by rfl)(hs:starEach 298 X.env=(false,eval e X.env)::starEach es X.env:=by rfl)(abp:(117 gJ).any (·.1)=false:=by rfl):PE X (.Call (239 name) 298 [] gJ) (GI X.K T r to t):=by intro pins s σ H Q I h;refine wpAny_Call_method_late tD ag5 yj rfl (aG 378 fun v s1 ⟨x,H1,I1,r1,ty,q1⟩=>?_);obtain⟨h1,h2⟩:=acg I1 r1 ty;refine{T,id,pa,slot,wO,h1,h2,?_};have hA:=ha gJ pins s1 σ H1 _ I1 q1;rw[hs]at hA⊢;refine Kf (by show(false||(117 gJ).any (·.1))=false;rw[abp]<;>rfl) (V1 ?_);exact aG hA fun us s2 ⟨vs,H2,I2,r2,q2⟩=>hm pins s2 σ H2 x vs v us Q I2 r1 r2 q2
end
end L2
namespace L2
open PySem PySem.Spec PyProof.Rows
def Ul(X:Cx)(id:String)(r:268):Prop:=
 ∀(pins:List 72)(s:Shared)(σ:St)(H:Hp)(x:V)(xs:List V)(v:Value)(us:List Value)(Q:VK),Inv X pins σ H s->RelV x v->Vals xs us->r x xs H Q->
  wpAny 37 X.A (call 540 (v::us)) 178 X.xe s
theorem Vals.one:∀{x:V}{us:List Value},Vals [x] us->∃u,us=[u]/\RelV x u
 |_,_,.cons r .nil=>{_,rfl,r}
theorem Vals.rep{xs:231}{us:97}(h:Vals xs us):∀k:Nat,Vals (cS k xs).flatten (cS k us).flatten
 |0=>.nil
 |k+1=>by rw[rZ,rZ,EL,EL];exact Vals.append h (Vals.rep h k)
theorem foldl_rep(ai:97):∀(k:Nat)(acc:List Value),AJ 744 acc.toArray (cS k ai.toArray)=(acc++(cS k ai).flatten).toArray
 |0,acc=>by simp
 |k+1,acc=>by(have e:acc.toArray++ai.toArray=(acc++ai).toArray:=by simp);(have e2:(acc++ai)++(cS k ai).flatten=acc++(cS (k+1) ai).flatten:=by rw[rZ,EL,gp]);rw[<-e2,<-foldl_rep ai k (acc++ai),<-e,rZ,p6]
section
variable{X:Cx}{pins:List (Addr×Obj)}{σ:St}{H:Hp}{s:Shared}{l b:Addr}{xs ys zs:List V}
theorem Inv.Mx{ai its':97}{n:Nat}{f:Array Value->Array Value}{t':Nat}(I:31)(hH:324 l 248)(e:700 l)(hf:f ai.toArray=its'.toArray)(hv:Vals ys its')(hz:995):Inv X pins σ (257 l 459) {s with heap:=s.heap.update l (xz f),toks:=t'}:=by have q:=PySem.IsL.update e f;rw[hf]at q;refine I.write (x:=l) (e:=l) (by rw[hH];exact trivial) 148 (fun b' u hb hu=>(iy s.heap (xz f) (cJ hb)).trans hu) {_,q} ?_;exact{hz,its',_,hv,q}
theorem Inv.Lr{ai:97}{t':Nat}(I:31)(hv:Vals ys ai)(hz:995):Inv X pins σ (190 459) {s with heap:=s.heap.push {cls:=.type "list",data:=.seq ai.toArray},toks:=t'}:=I.laid (fun _ _ q=>bG _ q) 227 {hz,ai,0,hv,c_ _ rfl}
theorem Inv.fresh(I:31):H s.heap.objs.size=none:=I.aD.fresh 227
theorem Inv.vX(I:31)(hH:324 l 248):xs.length<=sizeLine/\∃(ai:List Value)(n:Nat),Vals xs ai/\xs.length=ai.length/\s.heap.get? l=some {cls:=.type "list",data:=.seq ai.toArray n}:=by obtain⟨z,ai,n,r,e⟩:=I.aD l _ hH;exact⟨z,ai,n,r,r.length,e⟩
theorem Tq{n:Nat}(h:n<=sizeLine):Kg n=false:=by unfold Kg;exact gn 23
end
section
variable{X:Cx}
def Ew:V->List V->Hp->VK->Prop:=fun x vs H Q=>∃l xs y,x=.ref l/\vs=[y]/\H l=some 248/\xs.length<sizeLine/\Q .bo (257 l (80 (xs++[y])))
theorem eS:Ul X "list.append" Ew:=by intro pins s σ H x vs v us Q I rx rv h;obtain⟨l,xs,y,rfl,rfl,hH,hz,q⟩:=h;cases rx;obtain⟨u,rfl,ru⟩:=rv.one;ext:92;refine r6 F.slot_list_append {_,e,rfl} F.entry_list_append (F.args_list_append_2 _ _) (PySem.list_append l ai.toArray n u (by rw[dk];omega)) {e,?_};refine{.bo,_,I.Mx (its':=ai++[u]) hH e 42 (r.append (716 ru)) ?_,rfl,q};rw[bw,V2];omega
def Yp:V->List V->Hp->VK->Prop:=fun x vs H Q=>∃l b xs zs,x=.ref l/\vs=[.ref b]/\H l=some 248/\H b=some 733/\xs.length+zs.length<=sizeLine/\Q .bo (257 l (80 (xs++zs)))
theorem HJ:Ul X "list.extend" Yp:=by
 intro pins s σ H x vs v us Q I rx rv h;obtain⟨l,b,xs,zs,rfl,rfl,hH,hB,hz,q⟩:=h;cases rx;obtain⟨u,rfl,ru⟩:=rv.one;cases ru;ext:92;obtain⟨z2,ir,n2,r2,iH,e2⟩:=I.vX hB;have hsz:ai.toArray.size+ir.toArray.size<=sizeLine:=by rw[dk,dk];omega
 have Jc:¬(!ai.toArray.isEmpty&&Kg (ai.toArray.size+ir.toArray.size))=true:=by rw[Tq hsz,Bool.and_false];exact df
 refine r6 F.slot_list_extend {_,e,rfl} F.entry_list_extend (F.args_list_extend_2 _ _) (AutoSeq1.list_extend_list_list_0 l ai.toArray n b ir.toArray n2 Jc (by rw[dk];omega) 23) {e,e2,?_};refine{.bo,_,I.Mx (its':=ai++ir) hH e 42 (r.append r2) ?_,rfl,q};rw[bw];omega
def adS:R2:=fun x y H Q=>∃l b xs zs,x=.ref l/\y=.ref b/\H l=some 248/\H b=some 733/\xs.length+zs.length<=sizeLine/\∀p,H p=none->Q 310 (257 p (80 (xs++zs)))
theorem acw:dg X (kg .Add) adS:=by
 ext:82;obtain⟨l,b,xs,zs,rfl,rfl,hH,hB,hz,q⟩:=h;cases rx;cases ry;ext:92;obtain⟨z2,ir,n2,r2,iH,e2⟩:=I.vX hB;refine PySem.P.add_list e e2 ?_ (by rw[dk,dk];omega);have ea:ai.toArray++ir.toArray=(ai++ir).toArray:=by simp
 rw[ea];exact{.ref _,_,I.Lr (t':=s.toks) (r.append r2) 638,rfl,q _ I.fresh}
def ahe:R2:=fun x y H Q=>∃l k xs,x=.ref l/\y=.int k/\H l=some 248/\-(2^63)<=k/\k<2^63/\xs.length*k.toNat<=sizeLine/\
 ∀p,H p=none->Q 310 (257 p (.lst (cS k.toNat xs).flatten))
theorem len_rep{α:Type}(xs:612)(k:Nat):(cS k xs).flatten.length=k*xs.length:=by induction k with|zero=>simp|succ k ih=>rw[rZ,EL,bw,ih,Nat.succ_mul,Nat.add_comm]
theorem afY:dg X (kg .Mult) ahe:=by
 ext:82;obtain⟨l,k,xs,rfl,rfl,hH,h1,h2,hz,q⟩:=h;cases rx;rw[1,ry];ext:92;have bK:ai.toArray.size*k.toNat<=sizeLine:=by rw[dk,<-hl];exact hz
 have Zr:¬ai.toArray.size*k.toNat>(2^63-1)/8:=by(have:(sizeLine:Nat)<=(2^63-1)/8:=by decide);omega
 have ah3:¬(!Builtin.List.listFitsIndex k)=true:=by rw[fitsIndex_both h1 h2];exact df
 have Jc:¬Kg (ai.toArray.size*k.toNat)=true:=by rw[Tq bK];exact df
 have xX:AJ 744 #[] (cS (if ai.toArray.isEmpty=true then 0 else k.toNat) ai.toArray)=(cS k.toNat ai).flatten.toArray:=by(have f0:∀m:Nat,AJ 744 #[] (cS m ai.toArray)=(cS m ai).flatten.toArray:=fun m=>by have:=foldl_rep ai m [];rw[V3]at this;ext:64);rw[f0];cases ai with|nil=>simp|cons a r'=>rw[if_neg 42]
 refine ai9 (T:="list") (U:="int") 29 {_,e,rfl} (fun s'=>xB s' k t) noFill_list_mul F.fills_int_mul Kh repeat_list F.slot_int_index.lookup (880 (int___rmul___int_list k t l ai.toArray n) {e,rfl,{_,e,rfl},r6 F.slot_list_mul {_,e,rfl} F.entry_list_mul (F.args_list_mul_2 _ _) (AutoListH.list___mul___list_int_3 l ai.toArray n k t ah3 Zr Jc) {e,?_}});rw[xX];exact{.ref _,_,I.Lr (t':=s.toks) (r.rep k.toNat) (by rw[len_rep,Nat.mul_comm];exact hz),rfl,q _ I.fresh}
end
end L2
namespace L2
open PySem PySem.Spec PyProof.Rows
theorem Vals.ints:∀{ns:List Int}{us:List Value},Vals 210 us->AK us ns
 |[],us,h=>by rw[lY]at h;ext:91;exact IntsAre.nil
 |n::ns,us,h=>by rw[bL]at h;cases h with|cons r t=>obtain⟨k,rfl⟩:=r;exact IntsAre.cons n k (Vals.ints t)
theorem LK:∀{us:List Value}{ns:List Int},AK us ns->Vals 210 us
 |_,_,.nil=>by rw[lY];exact Paired.nil
 |_,_,.cons n t h=>by rw[bL];exact Paired.cons (show RelV (V.int n) (eA n t)from⟨t,rfl⟩) (LK h)
theorem Vals.Nu:∀{bs:List Bool}{us:List Value},Vals (bs.map V.bl) us->us=bs.map Ax
 |[],us,h=>by rw[lY]at h;ext:91;rfl
 |b::bs,us,h=>by rw[bL]at h;cases h with|cons r t=>cases r;rw[Vals.Nu t,bL]
theorem Vals.OS{a:Addr}{us:97}(r:Vals [V.ref a] us):us=[cj a]:=by cases r with|cons r t=>cases t;cases r;rfl
section
variable{prog:aT}{w:aI}{A:bz}{E:Value->Shared->Prop}{s:Shared}{l:Addr}{ai:List Value}{ns:List Int}{Q:Value->Shared->Prop}
theorem abP(hh:149)(hl:s.heap.IsList l ai.toArray)(hi:AK ai ns)(h:∀h' tk t',(∀b o,s.heap.get? b=some o->h'.get? b=some o)->Q (.int ns.sum t') {s with heap:=h',toks:=tk}):wpAny 35 A (call (.builtin "sum") [.ref l]) Q E s:=by
 obtain⟨xs,e⟩:=hi.allInts.items;have hn:numsOf (intItems xs).toList=ns:=by rw[<-e];exact hi.numsOf
 rw[nums_intItems]at hn;rw[e]at hl;refine PySem.sum_intListG hh hl fun h' tk t' hk=>?_;have:=h h' tk t' hk;rw[preSum_eq,Ki 42,hn];ext:64
end
section
variable{X:Cx}
def aeX(K:bv):List V->Hp->VK->Prop:=fun vs H Q=>∃(a:Addr)(ns:List Int),vs=[V.ref a]/\aq K H a 210/\Q (.int ns.sum) H
theorem Pj(hc:347):jw X (.builtin "sum") (aeX X.K):=by intro pins s σ H vs us Q I r h;obtain⟨a,ns,rfl,hs,q⟩:=h;obtain⟨ai,rv,hl,_⟩:=I.list hs;rw[Vals.OS r];exact abP 208 hl.isList rv.ints fun h' tk t' hk=>{.int _,H,I.kept hk,569,q}
end
section
variable{X:Cx}
theorem P2{ys:231}(f:ys.all jc=true){j:Nat}{z:V}(h:ys[j]?=some z):jc z=true:=kU.mp f z (ej h)
end
theorem af5{prog:aT}{w:aI}{A:bz}{E:43}{s:Shared}{l:Addr}{items:136}{Q:43}(hl:s.heap.IsList l items)(h:∀eQ:Shared,eQ={s with heap:=s.heap.push {cls:=.type "list_iterator",data:=.fields #[.ref l,.int 0 0]}}->(eQ.heap.IsListIter s.heap.objs.size l 0/\eQ.heap.IsList l items)->l≠s.heap.objs.size->Q 84 eQ):wpAny 35 A (pyIter 283) Q E s:=by
 have aY:l<s.heap.objs.size:=by obtain⟨_,e,_⟩:=hl;exact bn e
 exact AB hl (h _ rfl {194,hl.push _} (cI aY))
theorem ahg{prog:aT}{w:aI}{A:bz}{bs:123}{ai:97}(e:ai=bs.map Ax):TruthOf prog w A (fun i v=>ai.toArray[i]?=some v) 820:=fun i v s Q E hv hq=>by
 have lM:ai[i]?=some v:=by simpa using hv
 rw[e,d_]at lM;obtain⟨b,hb,rfl⟩:=lZ.mp lM;have hg:bs.getD i false=b:=by rw[dI,hb]<;>rfl
 have i_:Q (bs.getD i false) s:=hq;rw[hg]at i_;exact oC i_
theorem any_range:∀bs:List Bool,(bu bs.length).any 820=bs.any id
 |[]=>rfl
 |b::bs=>by rw[aR,Kj,rY,List.any_map,rY,<-any_range bs];all_goals rfl
theorem all_range:∀bs:List Bool,(bu bs.length).all 820=bs.all id
 |[]=>rfl
 |b::bs=>by rw[aR,Kj,EK,Kk,EK,<-all_range bs];all_goals rfl
section
variable{X:Cx}
def adK(K:bv):List V->Hp->VK->Prop:=fun vs H Q=>∃(a:Addr)(bs:List Bool),vs=[V.ref a]/\aq K H a (bs.map V.bl)/\Q (.bl (bs.all id)) H
theorem abo(hc:347):jw X (.builtin "all") (adK X.K):=by intro pins s σ H vs us Q I r h;obtain⟨a,bs,rfl,hs,q⟩:=h;obtain⟨ai,rv,hl,_⟩:=I.list hs;rw[Vals.OS r];have hb:=rv.Nu;refine call_all_walk (af5 hl.isList fun eQ e2 st cC=>?_);subst e2;refine{_,_,_,_,_,_,_,rfl,V4 (A:=X.A.in1) 208 _ a cC ai.toArray,st,ahg hb,fun h' tk hk=>?_};refine{.bl _,H,I.kept fun b o eo=>hk b o (fun tO=>?_) (bG _ eo),?_,q};rcases bE.mp tO with e1|tO;exact 360 (e1▸bn eo);cases tO;show Ax _=Ax _;rw[<-all_range,hb,dk,az]
end
mutual
inductive Dp(K:bv)(H:Hp):V->p9->Prop
 |bo:Dp K H .bo .none
 |bl (b:Bool):Dp K H (.bl b) (.bool b)
 |int (i:Int):Dp K H (.int i) (.int i)
 |str (x:Str):Dp K H (.str x) (.str x)
 |lst {a:Addr} {xs:List V} {ds:List p9}:aq K H a xs->o7 K H xs ds->Dp K H (.ref a) (.list ds)
 |tup {a:Addr} {xs:List V} {ds:List p9}:bC K H a xs->o7 K H xs ds->Dp K H (.ref a) (.tuple ds)
inductive o7(K:bv)(H:Hp):List V->List p9->Prop
 |nil:o7 K H [] []
 |cons {v:V} {vs:List V} {d:p9} {ds:List p9}:Dp K H v d->o7 K H vs ds->o7 K H (v::vs) (d::ds)
end
section
variable{X:Cx}{pins:List (Addr×Obj)}{σ:St}{H:Hp}{s:Shared}
mutual
theorem Dp.reads(I:31):∀(d:p9)(v:V)(u:Value),Dp X.K H v d->RelV v u->∃as,Reads s.heap u d as
 |.none,_,_,h,r=>by cases h;cases r;exact{_,Reads.none}
 |.bool b,_,_,h,r=>by cases h;cases r;exact{_,Reads.bool b}
 |.int i,_,_,h,r=>by cases h;rw[1,r];exact{_,Reads.int i t}
 |.str x,_,_,h,r=>by cases h;rw[1,r];exact{_,Reads.str x t}
 |.list ds,_,_,h,r=>(by cases h with|lst hs ha=>cases r;obtain⟨ai,rv,⟨o,n,ho,hc,_,hd⟩,_⟩:=I.list hs;obtain⟨as,hr⟩:=Dp.readsAll I ds _ ai ha rv;exact{_,Reads.list ho hc hd hr})
 |.tuple ds,_,_,h,r=>(by cases h with|tup hs ha=>cases r;obtain⟨ai,rv,⟨o,ho,hc,n,hd⟩,_⟩:=I.tuple hs;obtain⟨as,hr⟩:=Dp.readsAll I ds _ ai ha rv;exact{_,Reads.tuple ho hc hd hr})
 |.dict _,_,_,h,_=>by cases h
theorem Dp.readsAll(I:31):∀(ds:List p9)(vs:List V)(us:List Value),o7 X.K H vs ds->Vals vs us->∃as,ReadsAll s.heap us ds as
 |[],_,_,h,r=>by cases h;cases r;exact{_,ReadsAll.nil}
 |d::ds,_,_,h,r=>by cases h with|cons h1 h2=>cases r with|cons r1 r2=>obtain⟨as,q1⟩:=Dp.reads I d _ _ h1 r1;obtain⟨bs,q2⟩:=Dp.readsAll I ds _ _ h2 r2;exact{_,ReadsAll.cons q1 q2}
end
end
section
variable{X:Cx}
def ac1(K:bv):R2:=fun x y H Q=>∃d e,Dp K H x d/\Dp K H y e/\AL d=true/\AL e=true/\Q (.bl (AM d e)) H
def ah0(K:bv):R2:=fun x y H Q=>∃d e,Dp K H x d/\Dp K H y e/\AL d=true/\AL e=true/\Q (.bl (!AM d e)) H
theorem agQ(hu:761):dg X (gT .Eq) (ac1 X.K):=by intro pins s σ H x y v u Q I rx ry h;ext:62;exact SeqAt.compareEq_shaped r1 r2 sd se hu {.bl _,H,I,rfl,q}
theorem ab0(hu:761):dg X (gT .NotEq) (ah0 X.K):=by intro pins s σ H x y v u Q I rx ry h;ext:62;exact SeqAt.compareNe_shaped r1 r2 sd se hu {.bl _,H,I,rfl,q}
end
end L2
namespace L2
open PySem PySem.Spec PyProof.Rows
abbrev Qx(h:Heap)(c:Addr)(v:385):Prop:=h.IsCell c v
def YT(scope sc:fY):fY:=
 {scope with names:=scope.names.map fun(n,k)=>if(k==.free&&sc.kind==.function&&sc.names.lookup n==some .cell)then(n,.cell)else(n,k)}
def gu(cells:List 172):List 738->List 172->List 172
 |[],acc=>acc
 |(n,k)::r,acc=>if k==.free then gu cells r ((n,(cells.lookup n).getD 0)::acc)else gu cells r acc
theorem M9(env:Env)(f:Str×jK->List 172->Sem (ForInStep (List 172)))(hf:∀n k c,f (n,k) c=if k==.free then(do let a<-cellOf env n;pure (.yield ((n,a)::c)))else pure (.yield c)):∀(names:List 738)(acc:List 172),(∀y∈names,y.2=.free->∃c,env.cells.lookup y.1=some c)->forIn names acc f=pure (gu env.cells names acc)
 |[],acc,_=>by rw[EM];rfl
 |(n,k)::r,acc,h=>by rw[Kl,hf];have ih:=fun acc=>M9 env f hf r acc fun y hy=>h y (cZ _ hy);unfold gu;by_cases hk:(k==AN)=true;rw[if_pos hk,if_pos hk];obtain⟨c,hc⟩:=h (n,k) cY (by simpa using hk);(have e:cellOf env n=pure c:=by unfold cellOf;rw[hc]);rw[e];(have e2:(env.cells.lookup n).getD 0=c:=by rw[hc];rfl);rw[e2];exact ih _;rw[if_neg hk,if_neg hk];exact ih _
theorem aiP{scope:fY}{env:Env}(h:∀y∈scope.names,y.2=.free->∃c,env.cells.lookup y.1=some c):closureFor scope env=pure (gu env.cells scope.names []):=by simp only[closureFor];rw[M9 env _ (fun n k c=>rfl) scope.names [] h];rfl
theorem mem_lookup{α:Type}:∀{l:List (Str×α)}{n:Str}{c:α},(n,c)∈l->∃c',l.lookup n=some c'
 |(k,v)::r,n,c,h=>by rw[uJ];cases hb:n==k with|true=>exact 569|false=>rcases bE.mp h with e|h;cases e;simp at hb;exact mem_lookup h
theorem CC{cells:List 172}:∀{names:List 738}{acc:List 172}{n:Str}{c:Addr},(n,c)∈gu cells names acc->(n,c)∈acc\/((n,.free)∈names/\c=(cells.lookup n).getD 0)
 |[],_,_,_,h=>.inl h
 |(m,k)::r,acc,n,c,h=>by unfold gu at h;ext:23;rename_i hk;(have hk:k=.free:=by simpa using hk);rcases CC h with h|⟨h1,h2⟩;rcases bE.mp h with e|h;cases e;exact 546 {hk▸cY,rfl};exact 834;exact 546 {cZ _ h1,h2};rcases CC h with h|⟨h1,h2⟩;exact 834;exact 546 {cZ _ h1,h2}
theorem HE{cells:List 172}:∀{names:List 738}{acc:List 172}{p:Str×Addr},p∈acc->p∈gu cells names acc
 |[],_,_,h=>h
 |(m,k)::r,acc,p,h=>by unfold gu;split;exact HE (cZ _ h);exact HE h
theorem HH{cells:List 172}:∀{names:List 738}{acc:List 172}{n:Str},(n,.free)∈names->(n,(cells.lookup n).getD 0)∈gu cells names acc
 |(m,k)::r,acc,n,h=>by unfold gu;rcases bE.mp h with e|h;cases e;exact HE cY;split;exact HH h;exact HH h
theorem yh:∀{names:List 738}{h:Heap}{acc:List 172}{x:Str}{c:Addr},(x,c)∈cellsFrom h.objs.size names acc->(x,c)∈acc\/((x,.cell)∈names/\h.objs.size<=c/\Qx (uK h names) c none)
 |[],_,_,_,_,h=>.inl h
 |(n,k)::r,h,acc,x,c,hm=>by unfold cellsFrom at hm;unfold uK;split at hm;rename_i hk;rw[if_pos hk];(have hk:k=.cell:=by simpa using hk);rw[<-d8 h {cls:=.type "cell",data:=.cell none}]at hm;rcases yh hm with hm|⟨h1,h2,h3⟩;rcases bE.mp hm with e|hm;cases e;exact 546 {hk▸cY,aV _,_,Km r _ _ _ 577,rfl};rw[17,hm];rw[d8]at h2;exact 546 {cZ _ h1,Kn h2,h3};rename_i hk;rw[if_neg hk];rcases yh hm with hm|⟨h1,h2,h3⟩;rw[17,hm];exact 546 {cZ _ h1,h2,h3}
theorem Ea:∀{names:List 738}{n:Nat}{acc:List 172}{p:Str×Addr},p∈acc->p∈cellsFrom n names acc
 |[],_,_,_,h=>h
 |(m,k)::r,n,acc,p,h=>by unfold cellsFrom;split;exact Ea (cZ _ h);exact Ea h
theorem G6:∀{names:List 738}{n:Nat}{acc:List 172}{x:Str},(x,.cell)∈names->∃c,(x,c)∈cellsFrom n names acc
 |(m,k)::r,n,acc,x,h=>by unfold cellsFrom;rcases bE.mp h with e|h;cases e;exact{n,Ea cY};split;exact G6 h;exact G6 h
theorem FP:∀{names:List 738}{h:Heap}{acc:List 172}{x y:Str}{c:Addr},(∀p∈acc,p.2<h.objs.size)->(∀x y c,(x,c)∈acc->(y,c)∈acc->x=y)->(x,c)∈cellsFrom h.objs.size names acc->(y,c)∈cellsFrom h.objs.size names acc->x=y
 |[],_,_,_,_,_,_,hi,h1,h2=>hi _ _ _ h1 h2
 |(n,k)::r,h,acc,x,y,c,hl,hi,h1,h2=>by unfold cellsFrom at h1 h2;split at h1;rename_i hk;rw[if_pos hk]at h2;rw[<-d8 h {cls:=.type "cell",data:=.cell none}]at h1 h2;refine FP (h:=h.push _) (fun p hp=>?_) (fun x y c a b=>?_) h1 h2;rw[d8];rcases bE.mp hp with rfl|hp;exact rW _;exact r9 (hl p hp);rcases bE.mp a with e|a<;>rcases bE.mp b with e'|b;cases e;cases e';rfl;cases e;exact 360 (hl _ b);cases e';exact 360 (hl _ a);exact hi _ _ _ a b;rename_i hk;rw[if_neg hk]at h2;exact FP hl hi h1 h2
theorem aaN{M:oB}{A:bz}{E:43}{s:Shared}{scope:fY}{globals:Addr}{closure:List 172}{b4:Str}{func:513}{code:Value}{around:Env}{builtins:Addr}{Q:Env->Shared->Prop}(h:Q (newEnv scope s.heap.objs.size globals (cellsFrom 86 scope.names closure) b4 func code (some around) builtins) {s with heap:=uK 237 scope.names}):wpAny M A (newFunctionEnv scope globals closure [] b4 func code (some around) builtins) Q E s:=by simp only[newFunctionEnv,aja,jL];rw[0,(wpAny_alloc ?_)];rw[0,(wpAny_layCells _ (fun n k c=>rfl) scope.names closure _ _ ?_)];rw[show({s with heap:=s.heap.push {cls:=.type "dict",data:=.dict #[]}}:Shared).heap.objs.size=s.heap.objs.size+1 from d8 ..];rw[EM];exact 22 (58 (58 h))
theorem Fx{sc:fY}:∀{names:List 738}{x:Str}{k:jK},(names.map fun(n,k)=>if(k==AN&&sc.kind==.function&&sc.names.lookup n==some .cell)then(n,V5)else(n,k)).lookup x=some k->∃k',names.lookup x=some k'/\(k=k'\/(k'=.free/\k=.cell))
 |[],_,_,h=>by simp at h
 |(n,zy)::r,x,k,h=>by have ih:=@Fx sc r x k;have h':rV x ((if 292=true then(n,V5)else(n,zy))::(r.map _))=some k:=h;cases hx:x==n with|true=>simp only[uJ,hx];ext:181;cases h';simp only[dm,lX]at hc;exact{zy,rfl,.inr ⟨hc.1.1,rfl⟩};rw[if_neg hc]at h';simp only[uJ,hx]at h';cases h';exact{_,rfl,.inl rfl}|false=>simp only[uJ,hx];ext:181;exact ih h';rw[if_neg hc]at h';simp only[uJ,hx]at h';exact ih h'
structure Bh(N:List Str)(sc scope:fY)(own:List (Str×Nat)):Prop where
 kind:scope.kind=.function
 uniq:∀y∈scope.names,scope.names.lookup y.1=some y.2
 ix:∀p∈own,N[p.2]?=some p.1
 free:∀y∈scope.names,y.2=.free->sc.names.lookup y.1=some .cell\/sc.names.lookup y.1=some .free
 own:∀y∈scope.names,y.2=.local\/y.2=.cell->y.1∈own.map (·.1)\/y.1∉N
def wipe(σ:St):List Nat->St
 |[]=>σ
 |v::vs=>(850 vs).set v none
theorem HA(σ:St):∀vs:List Nat,(850 vs).length=σ.length
 |[]=>rfl
 |v::vs=>by unfold wipe;rw[VY,HA σ vs]
theorem IB{σ:St}{i:Nat}{x:V}:∀{vs:List Nat},(850 vs)[i]?=some (some x)->σ[i]?=some (some x)/\i∉vs
 |[],h=>{h,by simp}
 |v::vs,h=>by unfold wipe at h;by_cases hi:v=i;subst hi;by_cases hv:v<(850 vs).length;rw[J4 hv]at h;ext:91;rw[kW 1018]at h;ext:91;rw[J5 hi]at h;obtain⟨h1,h2⟩:=IB h;exact{h1,by simp only[bE,not_or];exact{fun e=>hi e.symm,h2}}
abbrev Cx.g8(X:Cx)(s:Shared)(H:Hp)(scope:fY)(dW:Env)(fp:261):Cx:={X with fB:=s,tz:=H,env:=dW,outer:=X.stack,ex:=fp,fn:=fun x=>scope.names.lookup x==some .cell,pn:=[],xe:=fun _ _=>False}
section
variable{X:Cx}{pins:List (Addr×Obj)}{σ:St}{H:Hp}{s:Shared}
theorem YH{scope:fY}{own:918}{fp:261}(I:31)(ok:469)(hN:X.N.Nodup)(qy:∀b∈fp,lP X pins H b/\b<s.heap.objs.size):Inv (X.g8 s H scope (l0 scope (cellsFrom 86 scope.names 1057) s.heap.objs.size X.env) fp) [] (850 412) H {s with heap:=uK 237 scope.names}:=by
 have wo:∀y∈scope.names,y.2=.free->∃c,X.env.cells.lookup y.1=some c:=fun y hy e=>by rcases ok.free y hy e with k|k;exact I.ok.has _ (.inl k);exact I.ok.has _ (.inr k)
 generalize Au:l0 scope (cellsFrom (s.heap.objs.size+1) scope.names (gu X.env.cells scope.names [])) s.heap.objs.size X.env=dW;have kp:∀b o,s.heap.get? b=some o->(uK 237 scope.names).get? b=some o:=fun b o e=>Km _ _ _ _ (bG _ e);have hL:dW.locals=s.heap.objs.size:=by rw[<-Au];rfl
 have lI:dW.cells=cellsFrom 86 scope.names 1057:=by rw[<-Au];rfl
 have GS:dW.scope=YT scope X.env.scope:=by rw[<-Au];rfl
 rw[<-d8 s.heap {cls:=.type "dict",data:=.dict #[]}]at lI;have cm:∀{y c},(y,c)∈gu X.env.cells scope.names []->X.env.cells.lookup y=some c/\c<s.heap.objs.size:=fun{y c} hm=>by rcases CC hm with hm|⟨h1,rfl⟩;cases hm;obtain⟨c,hc⟩:=wo _ h1 rfl;rw[hc];obtain⟨w,z⟩:=I.cell _ _ hc;exact⟨rfl,z.lt⟩
 have mem:∀{y c},dW.cells.lookup y=some c->(X.env.cells.lookup y=some c/\c<s.heap.objs.size)\/(s.heap.objs.size+1<=c/\Qx (uK 237 scope.names) c none):=fun{y c} e=>by rw[lI]at e;rcases yh (kh e)with hm|⟨_,h2,h3⟩;rw[17,(cm hm)];rw[d8]at h2;exact 546 ⟨h2,h3⟩
 have look:∀{y},scope.names.lookup y=some .free->∃c,dW.cells.lookup y=some c/\X.env.cells.lookup y=some c:=fun{y} hl=>by have hy:(y,AN)∈scope.names:=kh hl;obtain⟨c',e'⟩:=mem_lookup (Ea (names:=scope.names) (n:=(s.heap.push {cls:=.type "dict",data:=.dict #[]}).objs.size) (HH (cells:=X.env.cells) (acc:=[]) hy));rw[<-lI]at e';refine{c',e',?_};rw[lI]at e';rcases yh (kh e')with hm|⟨h1,_,_⟩;exact(cm hm).1;have:=ok.uniq _ h1;rw[hl]at this;cases this
 have okB:(X.g8 s H scope dW fp).Ok:=by refine{I.ok.mod,by show dW.scope.kind=_;rw[GS];exact ok.kind,by show dW.globals=_;rw[<-Au];exact I.ok.glob,by show dW.builtins=_;rw[<-Au];exact I.ok.blt,by show s.heap.objs.size<=dW.locals;rw[hL];exact aV _,fun y z c e1 e2=>?_,fun y hy=>?_,fun y c z e=>?_,I.ok.hd,I.ok.frames,.inl rfl,fun b hb=>{?_,fun y c e z=>?_},I.bs,dG I.ok.lu I.sz,fun b o e hb=>?_,fun b hb z=>?_,I.stack,I.Ez};have e1:dW.cells.lookup y=some c:=e1;have e2:dW.cells.lookup z=some c:=e2;rw[lI]at e1 e2;refine FP (fun p hp=>?_) (fun y z c a b=>I.ok.inj y z c (cm a).1 (cm b).1) (kh e1) (kh e2);rw[d8];exact r9 (cm (y:=p.1) (c:=p.2) hp).2;show∃c,dW.cells.lookup y=some c;(have key:∀k,dW.kindOf y=some k->(k=.cell\/k=.free)->∃c,dW.cells.lookup y=some c:=fun k hk hX=>by unfold Env.kindOf at hk;rw[GS]at hk;obtain⟨k',e,r⟩:=Fx hk;(have:k'=.cell\/k'=.free:=by rcases r with rfl|⟨rfl,_⟩;exact hX;exact .inr rfl);rcases this with rfl|rfl;obtain⟨c,hm⟩:=G6 (n:=(s.heap.push {cls:=.type "dict",data:=.dict #[]}).objs.size) (acc:=gu X.env.cells scope.names []) (kh e);obtain⟨c',e'⟩:=mem_lookup hm;exact{c',by rw[lI];exact e'};obtain⟨c,h1,_⟩:=look e;exact⟨c,h1⟩);rcases hy with hy|hy;exact key _ hy 148;exact key _ hy (546 rfl);have z:(scope.names.lookup y==some V5)=true:=z;(have z:scope.names.lookup y=some .cell:=by simpa using z);ext:93;rw[lI]at e;rcases yh (kh e)with hm|⟨_,h2,_⟩;rcases CC hm with hm|⟨h1,_⟩;cases hm;have q:=ok.uniq _ h1;rw[z]at q;cases q;rw[d8]at h2;exact Kn h2;show b≠dW.locals;rw[hL];exact cI (qy b hb).2;ext:93;rcases mem e with⟨h1,_⟩|⟨h1,_⟩;exact(qy b hb).1.2.2.2.2.1 y c h1 z;(have h2:s.heap.objs.size+1<=b:=by rw[<-z];exact h1);exact 360 (dY (qy b hb).2 (Kn h2));rcases(qy b hb).1.2.2.2.1 with z|z;exact I.ok.ua b o e z;exact 360 (dY (bn e) (dG I.ok.lu z));rcases bE.mp (I.B7 b z)with z|z;exact(qy b hb).1.2.1 z;exact(qy b hb).1.2.2.1 z
 refine{okB,rfl,I.bare,Un.kept kp,{fun _=>none,?_,fun i y av e1 e2 e3=>?_},fun y c e=>?_,?_,fun y c e=>?_,fun p hp=>?_,I.aD.kept kp,by rw[HA];exact I.len};show Heap.Ns _ dW.locals _;rw[hL];exact Heap.Ns.keeps (Heap.Ns.new ..) fun b o e=>Km _ _ _ _ e;obtain⟨e2,cC⟩:=IB e2;have jg:scope.names.lookup y=some .free/\762:=by(have key:∀k,dW.scope.names.lookup y=some k->k=.local\/k=.cell\/k=.free->scope.names.lookup y=some .free/\762:=fun k hk hX=>by have OY:=hk;rw[GS]at hk;obtain⟨k',e,r⟩:=Fx hk;(have no:¬(k'=.local\/k'=.cell):=fun hh=>by rcases ok.own _ (kh e) hh with e'|e';obtain⟨p,hp,hpy⟩:=dJ.mp e';have e3:=ok.ix p hp;have:p.1=y:=hpy;rw[this]at e3;exact cC (dJ.mpr {p,hp,Ih hN e3 e1});exact e' (ej e1));rcases r with rfl|⟨rfl,rfl⟩;rcases hX with rfl|rfl|rfl;exact 89 148 no;exact 89 (546 rfl) no;exact{e,.inr OY};exact{e,.inl OY});have e3:vT dW.scope y:=e3;rcases e3 with e3|e3|e3;exact key _ e3 148;exact key _ e3 (546 148);exact key _ e3 (546 (546 rfl))
 ext:164;have ah7:vT X.env.scope y:=(ok.free _ (kh jg.1) rfl).elim (fun k=>.inr (.inl k)) (fun k=>.inr (.inr k));obtain⟨w,r,q⟩:=hl i y av e1 e2 ah7;refine{w,r,.inr {jg.2,?_}};obtain⟨c,h1,h2⟩:=look jg.1;rcases q with⟨k,_⟩|⟨_,c',e',z⟩;have k:X.env.scope.names.lookup y=some .local:=k;rcases ok.free _ (kh jg.1) rfl with k'|k'<;>rw[show X.env.scope.names.lookup y=_ from k']at k<;>cases k;rw[h2]at e';cases e';exact{c,h1,z.keeps kp};ext:93;rcases mem e with⟨h1,_⟩|⟨_,z⟩;obtain⟨w,z⟩:=I.cell y c h1;exact{w,z.keeps kp};exact{_,z};show H dW.locals=none;rw[hL];exact 346;ext:93;rcases mem e with⟨h1,_⟩|⟨h1,_⟩;exact I.gy y c h1;exact I.aD.fresh (Kn h1);exact 89 (show p∈([]:256)++[]from hp) 42
theorem ahr{E:43}{D:Addr}{xs:231}{y:V}{v:Value}{Q:43}(I:31)(hD:324 D 248)(hz:xs.length<sizeLine)(r:RelV y v)(h:∀s',Inv X pins σ (257 D (80 (xs++[y]))) s'->Q .none s'):wpAny 37 X.A (call (.builtin "list.append") [.ref D,v]) Q E s:=by obtain⟨B9,ai,n,ri,e⟩:=I.aD D _ hD;have hl:=ri.length;refine append_at (hsz:=by rw[dk];omega) e fun h' sb fR=>?_;refine h {s with heap:=h'} (I.write (t':=s.toks) (by rw[hD];trivial) 148 (fun b u hb q=>(sb.2 b hb).trans q) {_,fR} {by rw[bw];exact hz,ai++[v],n+1,ri.append (716 r),?_});rw[fR];simp
def yx(X:Cx)(ifs:433)(t:TT):Prop:=
 ∀(pins:List 72)(s:Shared)(σ:St)(H:Hp)(Q:Bool->Hp->Prop),Inv X pins σ H s->t σ H Q->
  wpAny 37 X.A (forIn ifs true fun c r=>if r=true then do let ok<-isTrue c X.env (217 c);pure (AO ok)else pure (AO r)) (TP X pins σ Q) X.xe s
def jo:TT:=fun _ H Q=>Q true H
theorem ii:yx X [] jo:=fun _ _ _ H _ I h=>wpAny_tests_nil ⟨H,I,h⟩
theorem LC{c:aH}{t:TT}(h:PT X c t):yx X [c] t:=fun pins s σ H Q I hw=>wpAny_tests_one 897
end
theorem wu{α:Type}{t:Sem α}{Q Q':α->Shared->Prop}{M:oB}{A:bz}{E:43}{s:Shared}(h:wpAny M A t Q (fun _ _=>False) s)(hQ:∀a s,Q a s->Q' a s):wpAny M A t Q' E s:=ji h hQ fun _ _ z=>gU z
theorem agw{prog:aT}{w:aI}{A:bz}{R:870}{s:Shared}{elt target iter:aH}{ifs:433}{scope:fY}{pos:Pos}{it acc:Value}{env:Env}(I:Nat->Shared->Prop)(turn:∀n s,I n s->wpAny 35 A (pyNext it) (fun r bO=>match r with|none=>R (.ok .next) bO|some v=>wpAny 35 A (J7 target it v) (fun _ Uq=>wpAny 35 A (assign target env v) (fun _ eQ=>wpAny 35 A (forIn ifs true fun c r=>if r=true then do let ok<-isTrue c env (eval c env);pure (AO ok)else pure (AO r)) (fun ok qt=>if ok=true then wpAny 35 A (eval elt env) (fun x Ol=>wpAny 35 A (call (.builtin "list.append") [acc,x]) (fun _ MM=>∃m,m<n/\I m MM) 158 Ol) 158 qt else∃m,m<n/\I m qt) 158 eQ) 158 Uq) 158 bO) 158 s)(n:Nat)(h:I n s):codeAny 35 A (.compLoop 773 0 it acc env) R s:=by refine codeAny_loop rfl I (fun n s hI=>?_) n h;show wpAny _ A ((compTurn 773 0 it acc env).onRaise (fun x=>do noteFrame x env;theTreesLotGoes x)) _ _ s;refine wpAny_noted ?_;rw[compTurn_list];rw[0,(Az (22 (637 (turn n s hI) (fun r bO Di=>?_))))];cases r with|none=>exact 58 Di|some v=>refine 22 (637 Di (fun _ Uq afO=>?_));rw[0,(637 afO (fun _ eQ zw=>wpAny_bind (637 zw (fun ok qt BD=>?_))))];cases ok with|false=>exact 58 ⟨rfl,BD⟩|true=>exact 22 (22 (637 BD (fun x Ol aed=>wpAny_bind (637 aed (fun _ MM Zg=>wpAny_pure (58 ⟨rfl,Zg⟩))))))
section
variable{X:Cx}
def Cu(wi:TI)(g:TG)(tt:TT)(te:TE)(vs:71):TE:=fun σ H Q=>wi σ H fun J H1=>∀D,H1 D=none->∃W:Nat->Nat->Hp->Prop,(∃m,W 0 m 595)/\∀i m H,W i m H->
 (J.stop i H/\Q 118 H)\/(J.go i H/\∃Nx:Hp->Prop,(∀H',Nx H'->∃m',m'<m/\W (i+1) m' H')/\∀x H',J.gG i H x H'->g x (850 vs) H' fun bq H2=>wipe bq vs=wipe σ vs/\tt bq H2 fun b H3=>
  if b=true then te bq H3 fun y H4=>∃acc,H4 D=some 484/\acc.length<sizeLine/\Nx 119 else Nx H3)
theorem NK{pins:256}{s:Shared}{σ:St}{H:Hp}{Q:VK}{elt tg iter:aH}{ifs:433}{scope:fY}{own:918}{pos gN:Pos}{wi:TI}{g:TG}{tt:TT}{te:TE}{use:96 (Value->Sem Unit)}{Qf:43}(hc:347)(hN:X.N.Nodup)(I:31)(hi:920)(ok:469)(hg:∀(s:Shared)(H:Hp)(C:Addr)(cl:List 172)(fp:List Addr),PG 109 tg g)(ht:∀(s:Shared)(H:Hp)(C:Addr)(cl:List 172)(fp:List Addr),yx 109 ifs tt)(he:∀(s:Shared)(H:Hp)(C:Addr)(cl:List 172)(fp:List Addr),PE 109 elt te)(hs:∀x,foldedSetIterable iter X.env x=pure x)(h:Cu wi g tt te 412 σ H Q)(hRR:∀D C s' m H',Inv X pins σ H' s'->Q 118 H'->s'.heap.Ns C m->lP X pins H' C->compPost 37 X.A X.xe use Qf 118 C (.ok .next) s'):wpAny 37 X.A (comprehension 138 scope X.env gN (newList []) false (217 iter) use) Qf X.xe s:=by
 have wo:∀y∈scope.names,y.2=.free->∃c,X.env.cells.lookup y.1=some c:=fun y hy e=>by rcases ok.free y hy e with k|k;exact I.ok.has _ (.inl k);exact I.ok.has _ (.inr k)
 refine wpAny_comprehension_free (use:=use) rfl hs (aiP wo) ok.kind (fun y hy e=>by rw[ok.uniq y hy,e]) (aG 624 fun xv s1 hx=>aG hx fun HC s2 h2=>?_);obtain⟨it,fp,tn,J,H2,e,I2,T,mf,f2,q⟩:=h2;subst e;refine ki (aaN ?_) (by show 0<=sizeLine;decide);generalize hD:s2.heap.objs.size=D;have W2:H2 D=none:=I2.aD.fresh (EH hD);obtain⟨W,⟨m0,w0⟩,turn⟩:=q D W2;generalize L':({s2 with heap:=s2.heap.push {cls:=.type "list",data:=.seq ([]:List Value).toArray}}:Shared)=s3;have I3:Inv X pins σ (141 H2) s3:=by rw[<-L'];refine I2.laid (t':=s2.toks) (fun b o e=>bG _ e) (EH hD) {bA _,[],0,.nil,?_};rw[<-hD];exact 577
 have h3:s3.heap=s2.heap.push {cls:=.type "list",data:=.seq ([]:97).toArray}:=by rw[<-L']
 have sz:∀b∈fp,b<s2.heap.objs.size:=fun b hb=>by obtain⟨o,e,_⟩:=T.obj _ _ mf b hb;exact bn e
 have f3:∀b∈fp,lP X pins (141 H2) b/\b<s3.heap.objs.size:=fun b hb=>by have aY:=sz b hb;refine{{?_,(f2 b hb).2},by rw[h3,d8];exact r9 aY};rw[ay (by rw[<-hD];exact cI aY)];exact(f2 b hb).1
 have sL:tn 0 s3.heap:=T.keep _ _ _ mf fun b _ o e=>by rw[h3];exact bG _ e
 have I4:=YH I3 ok hN f3;have pg:=hg s3 (141 H2) s3.heap.objs.size 150 fp;have pt:=ht s3 (141 H2) s3.heap.objs.size 150 fp;have pe:=he s3 (141 H2) s3.heap.objs.size 150 fp;show codeAny _ _ (.compStart 138 0 322 118 (l0 scope 150 s3.heap.objs.size X.env)) 713 {s3 with heap:=uK (s3.heap.push {cls:=.type "dict",data:=.dict #[]}) scope.names};have QR:∀b∈fp,(141 H2) b=none:=fun b hb=>(f3 b hb).1.1;generalize tP:l0 scope (cellsFrom (s3.heap.objs.size+1) scope.names (gu X.env.cells scope.names [])) s3.heap.objs.size X.env=ce at I4 pg pt pe⊢;have cL:ce.locals=s3.heap.objs.size:=by subst tP;rfl
 generalize EA:upd H2 D (.lst [])=H3 at I3 I4 pg pt pe w0 QR f3;generalize hs4:({s3 with heap:=uK (s3.heap.push {cls:=.type "dict",data:=.dict #[]}) scope.names}:Shared)=s4 at I4⊢;have SU:tn 0 s4.heap:=T.keep _ _ _ sL fun b _ o e=>by rw[<-hs4];exact Km _ _ _ _ (bG _ e)
 have tZ:∀{aW:St}{H':Hp}{s':Shared},Inv 267 [] aW H' s'->(∀b∈fp,H' b=none)->∀b∈fp,lP 267 [] H' b:=fun{aW H' s'} I' hn b hb=>{hn b hb,(I'.ok.vz b hb).1,I'.ok.uv b hb,.inl hb,fun x c e=>(I'.ok.vz b hb).2 x c e,fun p hp=>absurd (show p∈([]:256)++[]from hp) 42}
 have loop:codeAny 37 X.A (.compLoop 138 0 322 118 ce) 713 s4:=by refine agw (fun n s'=>∃i H',Inv 267 [] (850 412) H' s'/\tn i s'.heap/\(∀b∈fp,H' b=none)/\W i n H') ?_ m0 ⟨0,H3,I4,SU,QR,w0⟩;rintro n s5 ⟨i,H5,I5,vo,n5,w5⟩;rcases turn i n H5 w5 with⟨stop,qq⟩|⟨go,Nx,Y_,step⟩;have td:=T.done 267 rfl rfl rfl hc i [] s5 _ H5 (fun _ _=>False) I5 (tZ I5 n5) vo stop;refine wu td fun r s6 ⟨hr,I6⟩=>?_;subst hr;have I7:Inv X pins σ H5 s6:=I3.Df (ch:=fp) I6.os I6.base I6.aD I6.bare fun b hb=>{(f3 b hb).1.2.2.2.1,(f3 b hb).1.2.1,(f3 b hb).1.2.2.2.2.1,(f3 b hb).1.2.2.2.2.2};(have nC:H5 s3.heap.objs.size=none:=by have z:H5 ce.locals=none:=I6.free;rw[cL]at z;exact z);obtain⟨m,hn,_⟩:=I6.loc;have hn:s6.heap.Ns ce.locals m:=hn;rw[cL]at hn;exact hRR D s3.heap.objs.size s6 m H5 I7 qq hn (I3.oX 227 nC);have ti:=T.item 267 rfl rfl rfl hc i [] s5 _ H5 (fun _ _=>False) I5 (tZ I5 n5) vo go;refine wu ti fun r s6 ⟨u,hr,h6⟩=>?_;subst hr;refine wu h6 fun _ s7 ⟨x,H7,I7,r7,y7,IF,n7⟩=>?_;have I7':=I7.pinned (tZ I7 n7) (T.obj _ _ IF);refine wu (pg _ s7 _ H7 x u _ I7' r7 (step x H7 y7)) fun _ s8 ⟨Bu,H8,I8,SA,q8⟩=>?_;refine wu (pt _ s8 Bu H8 _ I8 q8) fun b s9 ⟨H9,I9,q9⟩=>?_;(have fin:∀{s':Shared}{H':Hp},Inv 267 ([]++yD fp s7.heap) Bu H' s'->Nx H'->∃m,m<n/\∃i H',Inv 267 [] (850 412) H' s'/\tn i s'.heap/\(∀b∈fp,H' b=none)/\W i m H':=fun{s' H'} I' nx=>by obtain⟨m',hm,w'⟩:=Y_ H' nx;have TB:∀b∈fp,∀o,s7.heap.get? b=some o->s'.heap.get? b=some o/\H' b=none:=fun b hb o e=>let z:=I'.pin (b,o) 867;⟨z.1,z.2.1⟩;(have hl:(850 412).length=Bu.length:=by rw[<-SA,HA]);refine{m',hm,i+1,H',(I'.Bz (pins:=[])).weak hl (fun j v e=>?_),T.keep _ _ _ IF fun b hb o e=>(TB b hb o e).1,fun b hb=>?_,w'};rw[<-SA]at e;exact(IB e).1;obtain⟨o,e,_⟩:=T.obj _ _ IF b hb;exact(TB b hb o e).2);cases b with|false=>simp only[oG,kS]at q9⊢;exact fin I9 q9|true=>simp only[jL]at q9⊢;refine wu (pe _ s9 Bu H9 _ I9 q9) fun z s10 ⟨yv,eI,I10,r10,acc,pb,YK,nx⟩=>?_;exact ahr (X:=X.g8 s3 H3 scope ce fp) I10 pb YK r10 fun s11 I11=>fin I11 nx
 exact codeAny_compStart_list loop (T.self X.A 0 _ _ _ SU loop)
theorem j6{elt tg iter:aH}{ifs:433}{scope:fY}{own:918}{pos:Pos}{wi:TI}{g:TG}{tt:TT}{te:TE}(hc:347)(hN:X.N.Nodup)(hi:920)(ok:469)(hg:∀(s:Shared)(H:Hp)(C:Addr)(cl:List 172)(fp:List Addr),PG 109 tg g)(ht:∀(s:Shared)(H:Hp)(C:Addr)(cl:List 172)(fp:List Addr),yx 109 ifs tt)(he:∀(s:Shared)(H:Hp)(C:Addr)(cl:List 172)(fp:List Addr),PE 109 elt te)(hs:∀x,foldedSetIterable iter X.env x=pure x:=by intro _;rfl):PE X 138 (Cu wi g tt te 412):=by intro pins s σ H Q I h;rw[eval_ListComp];refine NK hc hN I hi ok hg ht he hs h fun D C s' m H' I' q hn f=>{m,hn,fun gc sb=>?_};obtain⟨f0,f1,f2,f3,f4,f5⟩:=f;exact{.ref D,H',I'.turned (t':=s'.toks) 358 f0 f1 f3 f4 f5,rfl,q}
theorem wQ{i:Nat}{y:Str}{py:Pos}{elt tg iter:aH}{ifs:433}{scope:fY}{own:918}{pos Vt:Pos}{wi:TI}{g:TG}{tt:TT}{te:TE}(hc:347)(hN:X.N.Nodup)(hy:X.N[i]?=some y)(yH:X.env.scope.names.lookup y=some .local)(Xa:Ay 138 (some (.Name y py)) Vt.line X.env=pure true)(hi:920)(ok:469)(hg:∀(s:Shared)(H:Hp)(C:Addr)(cl:List 172)(fp:List Addr),PG 109 tg g)(ht:∀(s:Shared)(H:Hp)(C:Addr)(cl:List 172)(fp:List Addr),yx 109 ifs tt)(he:∀(s:Shared)(H:Hp)(C:Addr)(cl:List 172)(fp:List Addr),PE 109 elt te)(hs:∀x,foldedSetIterable iter X.env x=pure x:=by intro _;rfl):PS X (.Assign [.Name y py] 138 Vt) (vR (Cu wi g tt te 412) (iQ i)):=by
 rw[18,D];rw[exec_Assign_Name_used _ _ _ _ Xa];rw[0,(Az 146)];show wpAny _ X.A (do let _<-comprehension 138 scope X.env (firstIterPos [⟨tg,iter,ifs,0⟩] pos) (newList []) false (217 iter) (some (assign (.Name y py) X.env))) _ _ s;have h:Cu wi g tt te 412 σ H (fun x H1=>iQ i x σ H1 D.nx):=h;rw[0,(aG (NK (Qf:=fun _ s'=>SP X pins D .next s') hc hN I hi ok hg ht he hs h fun L C s' m H' I' q hn f=>?_) fun _ s' hq=>wpAny_pure (58 hq))];rw[2,(assign (.Name y py) X.env (.ref L))];refine wpAny_assign_Name (Uv (v:=V.ref L) I' hN hy (.inl yH) rfl (fun s2 I2 ⟨a,sb,ha⟩=>?_) (.inr yH));obtain⟨f0,f1,f2,f3,f4,f5⟩:=f;have haC:C≠a:=by rcases ha with z|z;rw[z];exact f1;exact fun e=>f4 y a z e.symm
 refine{m,hn.sameBut sb haC,fun h3 ZU=>?_};exact{_,H',I2.turned (t':=s2.toks) (fun b o hb e=>(ZU.2 b hb).trans e) f0 f1 f3 f4 f5,q}
end
theorem GC{K:bv}{a:Addr}{xs:231}{g:TG}{tt:TT}{te:TE}{vs:71}{σ:St}{H1:Hp}{D:Addr}{Qd:Hp->Prop}(Pv:Nat->Hp->Prop)(h0:Pv 0 595)(hl:∀i H,i<=xs.length->Pv i H->aq K H a xs)(hs:∀i x H,xs[i]?=some x->Pv i H->g x (850 vs) H fun bq H2=>wipe bq vs=wipe σ vs/\tt bq H2 fun b H3=>if b=true then te bq H3 fun y H4=>∃acc,H4 D=some 484/\acc.length<sizeLine/\Pv (i+1) 119 else Pv (i+1) H3)(hd:∀H,Pv xs.length H->Qd H):∃W:Nat->Nat->Hp->Prop,(∃m,W 0 m 595)/\∀i m H,W i m H->538\/((iK K a).go i H/\∃Nx:Hp->Prop,(∀H',Nx H'->∃m',m'<m/\W (i+1) m' H')/\∀x H',(iK K a).gG i H x H'->g x (850 vs) H' fun bq H2=>wipe bq vs=wipe σ vs/\tt bq H2 fun b H3=>if b=true then te bq H3 fun y H4=>∃acc,H4 D=some 484/\acc.length<sizeLine/\Nx 119 else Nx H3):=by
 ext:109;ext:173;ext:20
 subst e;exact .inl {{xs,q,aV _},hd H p}
theorem aan{K:bv}{a:Addr}{xs:231}{g:TG}{tt:TT}{te:TE}{vs:71}{σ:St}{H1:Hp}{D:Addr}{Qd:Hp->Prop}(Pv:Nat->Hp->Prop)(h0:Pv 0 595)(hl:∀i H,i<=xs.length->Pv i H->bC K H a xs)(hs:∀i x H,xs[i]?=some x->Pv i H->g x (850 vs) H fun bq H2=>wipe bq vs=wipe σ vs/\tt bq H2 fun b H3=>if b=true then te bq H3 fun y H4=>∃acc,H4 D=some 484/\acc.length<sizeLine/\Pv (i+1) 119 else Pv (i+1) H3)(hd:∀H,Pv xs.length H->Qd H):∃W:Nat->Nat->Hp->Prop,(∃m,W 0 m 595)/\∀i m H,W i m H->((qB K a).stop i H/\Qd H)\/((qB K a).go i H/\∃Nx:Hp->Prop,(∀H',Nx H'->∃m',m'<m/\W (i+1) m' H')/\∀x H',(qB K a).gG i H x H'->g x (850 vs) H' fun bq H2=>wipe bq vs=wipe σ vs/\tt bq H2 fun b H3=>if b=true then te bq H3 fun y H4=>∃acc,H4 D=some 484/\acc.length<sizeLine/\Nx 119 else Nx H3):=by
 ext:109;ext:173;ext:20
 subst e;exact .inl {{xs,q,aV _},hd H p}
end L2
namespace L2
open PySem PySem.Spec PyProof.Rows
section
variable{κ:Type} [DecidableEq κ]
def da(am:330)(k:κ):Option V:=(am.find? fun kv=>decide (kv.1=k)).map (·.2)
def putK(am:330)(k:κ)(v:V):List (κ×V):=
 if 410=true then am.map (fun kv=>if kv.1=k then(kv.1,v)else kv)else am++[(k,v)]
theorem ad6{k:κ}:da ([]:330) k=none:=rfl
theorem mr{p:κ×V}{r:330}{k:κ}(e:p.1=k):da (p::r) k=some p.2:=by simp[da,AQ,e]
theorem mz{p:κ×V}{r:330}{k:κ}(e:¬p.1=k):da (p::r) k=da r k:=by simp[da,AQ,e]
theorem G8(k:κ):∀am:List (κ×V),410=(da am k).isSome
 |[]=>rfl
 |p::r=>by rw[rY];by_cases e:p.1=k;simp only[mr e,cK e,Bool.true_or,aja];rw[mz e,gn e,Bool.false_or];exact G8 k r
theorem So(k j:κ)(y:V):∀am:List (κ×V),da 783 j=(da am j).map fun x=>if j=k then y else x
 |[]=>rfl
 |p::r=>by have ih:=So k j y r;rw[bL];by_cases h:p.1=k;rw[if_pos h];by_cases e:p.1=j;rw[mr (p:=(p.1,y)) e,mr e,uL,if_pos (e.symm.trans h)];rw[mz (p:=(p.1,y)) e,mz e,ih];rw[if_neg h];by_cases e:p.1=j;rw[mr (p:=p) e,mr e,uL,if_neg (393 h (e.trans z))];rw[mz (p:=p) e,mz e,ih]
theorem Qz(k j:κ)(y:V):∀am:List (κ×V),da am k=none->da (am++[(k,y)]) j=if j=k then some y else da am j
 |[],_=>by by_cases e:k=j;rw[if_pos e.symm];exact mr (p:=(k,y)) e;rw[if_neg (393 e z.symm)];exact mz (p:=(k,y)) e
 |p::r,hn=>by rw[V6];(have hk:¬p.1=k:=fun z=>by rw[mr z]at hn;cases hn);rw[mz hk]at hn;have ih:=Qz k j y r hn;by_cases e:p.1=j;rw[mr e,mr e,if_neg (393 hk (e.trans z))];rw[mz e,mz e,ih]
theorem ZK(am:330)(k j:κ)(y:V):da (putK am k y) j=if j=k then some y else da am j:=by
 unfold putK;by_cases a:410=true;rw[if_pos a,So];rw[G8]at a;by_cases e:j=k;obtain⟨x,hx⟩:=ai5.mp a;rw[if_pos e,e,hx,uL,if_pos rfl];rw[if_neg e];cases da am j with|none=>rfl|some x=>rw[uL,if_neg e]
 rw[if_neg a];refine Qz k j y am ?_;rw[G8]at a;cases q:da am k with|none=>rfl|some x=>rw[q]at a;exact(a rfl).elim
theorem abY(am:330)(k:κ)(v:V):(putK am k v).length<=am.length+1:=by unfold putK;split;rw[az];omega;rw[bw,aR,jl];omega
theorem hW.Xq{o:Option V}{u:385}(r:hW o u):o.isSome=u.isSome:=by cases o with|none=>(cases u with|none=>rfl|some _=>exact 308)|some _=>cases u with|none=>exact 308|some _=>rfl
theorem hW.getD{o:Option V}{u:385}{d:V}{d':Value}(r:hW o u)(rd:RelV d d'):RelV (o.getD d) (u.getD d'):=by cases o with|none=>(cases u with|none=>exact rd|some _=>exact 308)|some _=>cases u with|none=>exact 308|some _=>exact r
theorem KV.val{am:330}{vs:648}(r:KV am vs)(k:κ):hW (da am k) (xC vs k):=by unfold KV at r;induction r with|nil=>exact xt|@cons p q ps qs h t ih=>obtain⟨h1,h2⟩:=h;by_cases e:p.1=k;have e':q.1=k:=h1.symm.trans e;(have b:xC (q::qs) k=some q.2:=by simp[xC,AQ,e']);rw[mr e,b];exact h2;have e':¬q.1=k:=fun z=>e (h1.trans z);(have b:xC (q::qs) k=xC qs k:=by simp[xC,AQ,e']);rw[mz e,b];exact ih
theorem KV.any{am:330}{vs:648}(r:KV am vs)(k:κ):410=vs.any fun kv=>decide (kv.1=k):=by unfold KV at r;induction r with|nil=>rfl|cons h t ih=>rw[rY,rY,ih,h.1]
theorem KV.aeu{am:330}{vs:648}(r:KV am vs)(k:κ){y:V}{u:Value}(ry:RelV y u):KV 783 (vs.map fun kv=>if kv.1=k then(kv.1,u)else kv):=by unfold KV at r⊢;induction r with|nil=>exact .nil|@cons p q ps qs h t ih=>rw[bL,bL];refine .cons ?_ ih;obtain⟨h1,h2⟩:=h;by_cases e:p.1=k;rw[if_pos e,if_pos (h1.symm.trans e)];exact⟨h1,ry⟩;rw[if_neg e,if_neg (393 e (h1.trans z))];exact⟨h1,h2⟩
theorem KV.put{am:330}{vs:648}(r:KV am vs)(k:κ){y:V}{u:Value}(ry:RelV y u):KV (putK am k y) (stored vs k u):=by unfold putK stored;rw[r.any k];by_cases e:(vs.any fun kv=>decide (kv.1=k))=true;rw[if_pos e,if_pos e];exact r.aeu k ry;rw[if_neg e,if_neg e];exact Paired.snoc r ⟨rfl,ry⟩
theorem KV.length{am:330}{vs:648}(r:KV am vs):am.length=vs.length:=bY r
end
theorem zO{P:aT}{w:aI}{k:Key}{u:Value}(r:RelV (kV k) u):(eY P w).is k u=true:=by cases k with|inl i=>obtain⟨t,e⟩:=(show∃t,u=eA i t from r);subst e;exact af1 P w i t|inr x=>obtain⟨t,e⟩:=(show∃t,u=J2 x t from r);subst e;exact agW P w x t
theorem N_{P:aT}{w:aI}:∀{ks:List Key}{us:List Value},Vals (ks.map kV) us->ItemsAre 818 ks us
 |[],_,r=>by rw[lY]at r;cases r;exact .nil
 |k::ks,_,r=>by rw[bL]at r;cases r with|cons h t=>exact .cons (zO h) (N_ t)
abbrev KT(H:Hp):List (List Key×V)->List 856->Prop:=Paired fun p q=>p.1=q.1/\H q.2.1=some (.tup (p.1.map kV))/\RelV p.2 q.2.2
theorem KT.val{H:Hp}{am:List (List Key×V)}{xs:List 856}(r:KT H am xs)(k:List Key):hW (da am k) ((atKey xs k).map (·.2)):=by induction r with|nil=>exact xt|@cons p q ps qs h t ih=>obtain⟨h1,_,h2⟩:=h;by_cases e:p.1=k;have e':q.1=k:=h1.symm.trans e;(have b:atKey (q::qs) k=some q.2:=by simp[atKey,AQ,e']);rw[mr e,b];exact h2;have e':¬q.1=k:=fun z=>e (h1.trans z);(have b:atKey (q::qs) k=atKey qs k:=by simp[atKey,AQ,e']);rw[mz e,b];exact ih
section
variable{P:aT}{w:aI}{H:Hp}{h:Heap}{a:Addr}
theorem ui{u:HO}(ok:243)(e:Rd H a u):cQ P w H h a u:=e.ok ok
theorem Px{am:List 489}(ok:243)(e:Rd H a (.dK am)):am.length<=sizeLine/\(a==lV)=false/\∃vs,KV am vs/\h.DictOf 818 a vs:=show cQ P w H h a (.dK am)from ui ok e
theorem F2{ks:List Key}(ok:243)(e:324 a (.tup (ks.map kV))):(tupleKind 818).is h ks a:=by obtain⟨_,ai,r,o,h1,h2,n,h3⟩:=(964 (.tup (ks.map kV)) e);exact{o,ai.toArray,n,h1,h2,h3,by simpa using N_ r}
theorem O3{am:List (List Key×V)}(ok:243)(e:Rd H a (.dT am)):am.length<=sizeLine/\(a==lV)=false/\∃xs,KT H am xs/\h.DictOfH (tupleKind 818) a xs:=by
 obtain⟨z,y,xs,r,o,es,ep,h1,h2,h3,h4,h5⟩:=(show cQ P w H h a (.dT am)from ui ok e);refine{z,y,xs,r,o,es,ep,h1,h2,h3,h4,fun x hx=>?_,h5};have all:∀{l:List (List Key×V)}{m:List 856},KT H l m->∀x∈m,(tupleKind 818).is h x.1 x.2.1:=by intro l m q;induction q with|nil=>intro x hx;exact nomatch hx|@cons p q ps qs hq t ih=>intro x hx;rcases bE.mp hx with e|hx;subst e;exact F2 ok (by rw[<-hq.1];exact hq.2.1);exact ih x hx
 exact all r x hx
end
def Rb(H:Hp)(a:Addr)(y:V)(r:Option V):Prop:=
 (∃am k,Rd H a (.dK am)/\y=kV k/\r=da am k)\/∃am k b,Rd H a (.dT am)/\y=.ref b/\H b=some (.tup (k.map kV))/\r=da am k
section
variable{X:Cx}{pins:List (Addr×Obj)}{σ:St}{H:Hp}{s:Shared}{a:Addr}{y v:V}{u r:Value}{o:Option V}{A:bz}{E:Value->Shared->Prop}
theorem Inv.big(I:31):lV<s.heap.objs.size:=by have h:mainGlobals<s.heap.objs.size:=(I.mod.glob.keeps I.bk).lt;exact xD 29 h
theorem UB{h':Heap}{t':Nat}{ob:HO}(I:31)(mu:rc (H a))(hs:lW a s.heap h')(he:∃q,h'.get? a=some q)(new:cQ X.prog X.w (257 a ob) h' a ob):Inv X pins σ (257 a ob) {s with heap:=h',toks:=t'}:=I.write (x:=a) (e:=a) mu 148 (fun b q hb z=>(hs.2 b hb).trans z) he new
end
def Hn(i:aH):Prop:=∀ov iv,subscripted i false ov iv=operate [ov,iv] (xx ov iv)
theorem Lp{prog:aT}{w:aI}{A:bz}{E:43}{s:Shared}{env:Env}{value slice:aH}{pos:Pos}{T id:String}{Q:43}(hl:typeLookup (.type T) "__getitem__"=pure (some 540))(hs:Hn slice)(h:wpAny 35 A (eval value env) (fun o bO=>wpAny 35 A (eval slice env) (fun i eQ=>eQ.TypeIs o T/\wpAny 35 A (xx o i) Q E eQ) E bO) E s):wpAny 35 A (eval (642 value slice pos) env) Q E s:=by
 refine Subscript_ (ji h (fun o bO Di=>ji Di (fun i eQ zw=>?_) fun _ _ x=>x) fun _ _ x=>x);obtain⟨hT,zw⟩:=zw;unfold VX;refine 146;rw[getitemInPython_of_ne hT.not_modules];rw[0,(425 hl)];have fin:wpAny 35 A (subscripted slice false o i) (fun r qt=>wpAny 35 A (letTemporaryGo value o r>>=fun _=>pure r) Q E qt) E eQ:=by rw[hs o i];exact wpAny_operating (ji zw (fun r qt BD=>wpAny_bind (wpAny_letTemporaryGo (58 BD))) fun _ _ x=>x)
 first|exact wpAny_pure (wpAny_bind fin)|exact wpAny_bind (wpAny_pure (wpAny_bind fin))|exact 22 fin
def k9(am more:List 489):List 489:=more.foldl (fun acc kv=>putK acc kv.1 kv.2) am
theorem KV.merge:∀{more:List 489}{rs:List 972}{am:List 489}{vs:List 972},KV more rs->KV am vs->KV (k9 am more) (merged vs rs):=by intro more rs am vs r;unfold KV at r;induction r generalizing am vs with|nil=>intro q;exact q|@cons p q ps qs h t ih=>intro r0;(have e:KV (putK am p.1 p.2) (stored vs q.1 q.2):=by have:=r0.put p.1 h.2;rw[<-h.1];ext:64);exact ih e
theorem Qh:∀(more am:List 489),(k9 am more).length<=am.length+more.length
 |[],am=>by show am.length<=am.length+0;omega
 |p::r,am=>by have h1:=Qh r (putK am p.1 p.2);have h2:=abY am p.1 p.2;show(k9 (putK am p.1 p.2) r).length<=_;rw[aR];omega
structure M2(X:Cx)(o:aH)(m:Str)(di:Pos)(e f:aH)(gJ:Pos):Prop where
 base:xu o m X.env (eval o X.env)=eval o X.env
 on:((backTo gJ (starEach [e,f] X.env)).all (fun x=>!x.1)&&(backToKw gJ (keywordEach [] X.env)).all (fun x=>x.1.isSome)
  &&decide (([e,f]:List aH).length+([]:List AH).length+(if([]:List AH).isEmpty then 0 else 1)<030))=true
 line:(di.endLine==gJ.line)=true
 trees:backTo gJ (starEach [e,f] X.env)=[(false,eval e X.env),(false,eval f X.env)]
def ML(H:Hp)(a:Addr):Prop:=(∃am,Rd H a (.dK am))\/∃am,Rd H a (.dT am)
theorem afa{X:Cx}{pins:256}{σ:St}{H:Hp}{s:Shared}{a:Addr}(I:31)(d:ML H a):s.TypeIs 152 "dict"/\(∀b,cj a=.ref b->∃ob,s.heap.get? b=some ob/\ob.dict=none)/\(a==lV)=false:=by rcases d with⟨am,e⟩|⟨am,e⟩;obtain⟨_,hd,vs,_,dd⟩:=Px I.aD e;ext:88;obtain⟨_,hd,xs,_,dd⟩:=O3 I.aD e;ext:88
section
variable{X:Cx}{pins:List (Addr×Obj)}{σ:St}{H:Hp}{s:Shared}{a:Addr}{y d:V}{u r:Value}{o:Option V}{A:bz}{E:Value->Shared->Prop}
theorem adJ{Q:43}(hu:A.units+1<cLine)(I:31)(g:Rb H a y o)(ry:RelV y u)(rd:RelV d r)(h:∀w' s',Inv X pins σ H s'->RelV (o.getD d) w'->Q w' s'):wpAny 37 A (call (.builtin "dict.get") [.ref a,u,r]) Q E s:=by rcases g with⟨am,k,e,ey,l⟩|⟨am,k,b,e,ey,eb,l⟩;subst ey;obtain⟨z,hd,vs,rel,dd⟩:=Px I.aD e;refine call_meetsIn V7 dd.typeIs ajb (ajc _ _ _) (meets_dict_get_default (eY X.prog X.w) a (zO ry) hd r) {_,dd.mapOf,h _ _ (I.tok _) ?_};rw[l];exact(rel.val k).getD rd;subst ey;cases(show u=cj b from ry);obtain⟨z,hd,xs,rel,dd⟩:=O3 I.aD e;refine call_meetsIn V7 dd.typeIs ajb (ajc _ _ _) (meetsH_dict_get_default (tupleKind (eY X.prog X.w)) a b hd r) {tupleKind_room_in1 hu,k,xs,F2 I.aD eb,dd,h _ _ (I.tok _) ?_};rw[l];exact(rel.val k).getD rd
end
def XO(td ty tx:TE):TE:=fun σ H Q=>td σ H fun x H1=>∃a,x=.ref a/\ML H1 a/\ty σ H1 fun y H2=>tx σ H2 fun z H3=>∃o,Rb H3 a y o/\Q (o.getD z) H3
section
variable{X:Cx}{o e f:aH}{di gJ:Pos}{td ty tx:TE}
theorem afc(hu:X.A.units+1<cLine)(ho:PE X o td)(he:PE X e ty)(hf:PE X f tx)(m:M2 X o "get" di e f gJ):PE X (.Call (.Attribute o "get" di) [e,f] [] gJ) (XO td ty tx):=by intro pins s σ H Q I h;refine wpAny_Call_method m.base m.on m.line PySem.F.plainAttrs_dict V7 PySem.F.type_dict_get (aG 378 fun u s1 ⟨x,H1,I1,rx,a,ex,d,q1⟩=>?_);subst ex;rw[7,u];obtain⟨t1,t2,_⟩:=afa I1 d;refine{t1,t2,?_};rw[m.trees];refine Kf rfl (V1 (AE (aG (he pins s1 σ H1 _ I1 q1) fun iv s2 ⟨y,H2,I2,ry,q2⟩=>AE (aG (hf pins s2 σ H2 _ I2 q2) fun fv s3 ⟨z,H3,I3,rz,ov,g,q3⟩=>EI ?_))));exact adJ hu I3 g ry rz fun w' s4 I4 sP=>{_,H3,I4,sP,q3}
end
end L2
namespace L2
open PySem PySem.Spec PyProof.Rows
theorem aav:typeLookup (.type "list") "keys"=pure none:=am_miss_of_fast (by first|decide+kernel|rfl)
theorem MC:entryFor table "dict.update.loop"=some Builtin.«dict.update.loop»:=entryFor_of_tree 390
theorem zG:plainId "dict.update.loop"=true:=by decide+kernel
section
variable{prog:aT}{w:aI}{A:bz}{E:Value->Shared->Prop}
theorem acf{s:Shared}{a:Addr}{o:Obj}{xs:136}{k:Nat}{Q:192 Value}(hx:281 a o)(hc:o.cls=.type "list")(sZ:o.data=.seq xs k)(hd:o.dict=none)(hA:149)(h:∀h' tk,(∀b ob,s.heap.get? b=some ob->h'.get? b=some ob)->Q none {s with heap:=h',toks:=tk}):wpAny 35 A (getAttr? 152 "keys") Q E s:=by
 obtain⟨c,Db,dat,sl⟩:=o;simp only at hc sZ hd;subst hc sZ hd;obtain⟨hp,g,d,tk,os⟩:=s;have hT:∀li,(⟨hp,g,d,li,os⟩:Shared).TypeIs 152 "list":=fun _=>{_,hx,rfl};have Zn:=aav;have qj:(["__module__","__name__","__qualname__","__doc__","__annotations__"]:132).contains "keys"=false:=by decide+kernel
 have hsz:("keys":Str).length+100<=sizeLine:=by first|size_fits|decide+kernel
 have f1:=sub_AttributeError;have f3:=V8.lookup;have f4:=V8.bind 152;have f5:=am_list_getattr_none;unfold getAttr? getAttrBy? getAttrBy;repeat(any_goals(first|assumption|exact hT _|((with_reducible show wpAny _ _ (call (xE "list.__getattribute__") _ _) _ _ _);refine r6 V8 (hT _) am_entry_list_getattribute (PySem.F.args_list_getattribute_2 _ _) (meets_getattribute_miss_list a xs k sl "keys" _ Zn qj hsz) ⟨hx,hA,fun h' li e eR=>?_⟩)|wp_step))
 obtain⟨t',u',he⟩:=eR.there;rw[2,(getattributeRaised _ _ _ _ _ _ _)];unfold getattributeRaised;repeat(any_goals(first|assumption|wp_step))
 all_goals first|exact h _ _ eR.keeps|(ext:0;repeat(any_goals(first|assumption|exact h _ _ eR.keeps|wp_step)))
theorem RI{R:870}{S I l:Addr}{items:136}{res:Value}(hh:149)(Vb:l≠I)(vh:S≠I)(Mz:S≠l):∀(rest:List 972)(i:Nat)(acc:List 972)(ix:Int)(t:Tok)(s:Shared),items.size=i+rest.length->acc.length+rest.length<=sizeLine->(∀(j:Nat)(q:Key×Value),rest[j]?=some q->∃(b:Addr)(u:Value),items[i+j]?=some (.ref b)/\b≠S/\b≠I/\IsTup s.heap b #[u,q.2]/\m_ q.1 u=true)->s.heap.IsListIter I l i->s.heap.IsList l items->s.heap.DictOf (eY prog w) S acc->(∀h' tk,h'.DictOf (eY prog w) S (merged acc rest)->(∀b o,b≠S->b≠I->s.heap.get? b=some o->h'.get? b=some o)->R (.ok (.ret res)) {s with heap:=h',toks:=tk})->codeAny 35 A (.builtin "dict.update.loop" {[.ref S,.ref I,.int ix t,res],[]}) R s
 |[],i,acc,ix,t,s,hsz,C3,ht,cB,hl,hm,hR=>by refine mW MC ?_;rw[oH zG _];ext:145;rw[0,(wpAny_pyNext_list_end (A:=A.in1) hh cB hl (by first|exact Ko (EH hsz)|(simp at hsz;simp;omega)) fun h' he=>?_)];rw[9,(Builtin.Dict.addKeywords S []>>=_)];rw[0,(58 78)];exact hR h' s.toks (hm.extBut he vh) fun b o _ hb e=>he b o hb e
 |q::rest,i,acc,ix,t,s,hsz,C3,ht,cB,hl,hm,hR=>by obtain⟨b,u,hb,hJ,hbI,adF,hk⟩:=ht 0 q rfl;rw[aR]at hsz C3;refine mW MC ?_;rw[oH zG _];ext:145;rw[0,(wpAny_pyNext_list_item (x:=.ref b) cB hl (by simpa using hb) fun h1 aiK zq=>?_)];have ht1:IsTup h1 b #[u,q.2]:=adF.extBut zq.extBut hbI;have eO:h1.IsList l items:=hl.extBut zq.extBut Vb;have hm1:h1.DictOf (eY prog w) S acc:=hm.extBut zq.extBut vh;obtain⟨o,ho,hc,n,hd⟩:=id ht1;rw[9,(holding [cj b] _>>=_)];refine 22 627;rw[0,(AR ?_)];unfold Builtin.Dict.pairItems;rw[0,(EJ (T:="tuple") ⟨o,ho,hc⟩ ?_)];rw[if_pos (by first|decide|rfl|simp)];rw[0,(jM ho hd 78)];rw[9,(holding [u,q.2] (dictSet S u q.2))];refine 368 (wpAny_dictSet_pairs (knd:=eY prog w) (k:=q.1) hk hm1 (fun h2 oS nF=>?_) 23);refine 58 {mX zG _,RI (items:=items) hh Vb vh Mz rest (i+1) (stored acc q.1 q.2) (ix+1) 0 _ (show items.size=i+1+rest.length by omega) ?_ (fun j q' e=>?_) ?_ ?_ oS fun h' tk fg k=>?_};have z:=stored_length_le acc q.1 q.2;omega;obtain⟨b',u',fe,Ss,SG,abB,hX⟩:=ht (j+1) q' 1053;refine{b',u',?_,Ss,SG,(abB.extBut zq.extBut SG).extBut nF.extBut Ss,hX};rw[show i+1+j=i+(j+1) by omega];exact fe;exact aiK.at fun o' e=>nF.extBut I o' (cJ vh) e;exact eO.extBut nF.extBut (cJ Mz);exact hR h' tk fg fun c oc h3 h4 e=>k c oc h3 h4 (nF.extBut c oc h3 (zq.extBut c oc h4 e))
theorem abX{s:Shared}{l:Addr}{ol:Obj}{items:136}{n:Nat}{prs:List 972}{Q:43}(hh:149)(hl:281 l ol)(hc:ol.cls=.type "list")(hd:ol.dict=none)(sZ:ol.data=.seq items n)(hsz:items.size=prs.length)(C3:prs.length<=sizeLine)(ht:∀(j:Nat)(q:Key×Value),prs[j]?=some q->∃(b:Addr)(u:Value),items[j]?=some (.ref b)/\IsTup s.heap b #[u,q.2]/\m_ q.1 u=true)(h:∀h' tk,h'.DictOf (eY prog w) s.heap.objs.size (merged [] prs)->(∀b o,s.heap.get? b=some o->h'.get? b=some o)->Q 84 {s with heap:=h',toks:=tk}):wpAny 35 A (call (.type "dict") [.ref l]) Q E s:=by
 refine callType_codes (Q₁:=fun obj bO=>obj=.ref s.heap.objs.size/\bO={s with heap:=s.heap.push {cls:=.type "dict",data:=.dict #[]}}) PySem.F.kt_called_dict (PySem.F.kt_typeCall_dict_1 _) PySem.F.entry_dict_init (kt_code_dict_new _ 669) ?_;rintro obj bO ⟨rfl,rfl⟩;have xX:(s.heap.push {cls:=.type "dict",data:=.dict #[]}).DictOf (eY prog w) s.heap.objs.size []:=Heap.DictOf.new s.heap;have k0:∀b o,s.heap.get? b=some o->(s.heap.push {cls:=.type "dict",data:=.dict #[]}).get? b=some o:=fun b o e=>bG _ e;refine{xX.typeIs,PySem.F.args_dict_init_2 _ _,?_};unfold Builtin.«dict.__init__»;refine 146;unfold Builtin.Dict.selfAndRest;rw[0,(wpAny_notOrdered_dict xX.typeIs ?_)];rw[2,(pure (s.heap.objs.size,[cj l]))];refine 78;rw[2,(ajd "dict.__init__" s.heap.objs.size 283 [] .none)];unfold ajd;rw[0,(EJ (T:="list") {ol,k0 _ _ hl,hc} ?_)];rw[if_pos (by first|decide|rfl|simp)];rw[0,(acf (k0 _ _ hl) hc sZ hd hh fun h1 tk1 Ak=>?_)];rw[if_pos (show(none:385).isNone=true from rfl)];rw[0,(mY ?_)];have eO:h1.IsList l items:={ol,Ak _ _ (k0 _ _ hl),hc,n,sZ}
 have Dt:s.heap.objs.size<h1.objs.size:=by have e:(s.heap.push {cls:=.type "dict",data:=.dict #[]}).get? s.heap.objs.size=some {cls:=.type "dict",data:=.dict #[]}:=c_ _ rfl;exact bn (Ak _ _ e)
 rw[0,(AB eO ?_)];have k2:∀b o,h1.get? b=some o->(h1.push {cls:=.type "list_iterator",data:=.fields #[.ref l,.int 0 0]}).get? b=some o:=fun b o e=>bG _ e;have aY:l<s.heap.objs.size:=bn hl;have key:=RI (prog:=prog) (w:=w) (A:=A.in1) (R:=wants (fun r eQ=>r=.none/\Q 84 eQ) E) (S:=s.heap.objs.size) (I:=h1.objs.size) (l:=l) (items:=items) (res:=fh) hh (cI (xD aY Dt)) (cI Dt) (kR aY) prs 0 [] 0 0 {s with heap:=h1.push {cls:=.type "list_iterator",data:=.fields #[.ref l,.int 0 0]},toks:=tk1} (by rw[hsz,r_]) (by rw[jl,r_];exact C3) (fun j q e=>by obtain⟨b,u,e1,e2,e3⟩:=ht j q e;have hb:b<s.heap.objs.size:=e2.lt;exact{b,u,by rw[r_];exact e1,cI hb,cI (xD hb Dt),e2.keeps fun c o z=>k2 _ _ (Ak _ _ (k0 _ _ z)),e3}) 194 (eO.at fun o e=>k2 _ _ e) ((xX.at fun o e=>Ak _ _ e).at fun o e=>k2 _ _ e) (fun h' tk fg k=>{rfl,h h' tk fg fun b o e=>k b o (cI (bn e)) (cI (xD (bn e) Dt)) (k2 _ _ (Ak _ _ (k0 _ _ e)))});first|exact wpAny_pure ⟨mX zG _,key⟩|exact wpAny_bind (wpAny_pure (wpAny_pure ⟨mX zG _,key⟩))
end
section
variable{X:Cx}
theorem Ll{pins:256}{σ:St}{H:Hp}{s:Shared}(I:31):∀{ps:List Addr}{am:List 489},Paired 958 ps am->∃prs:List (Key×Value),KV am prs/\prs.length=ps.length/\∀(j:Nat)(q:Key×Value),prs[j]?=some q->∃(b:Addr)(u:Value),ps[j]?=some b/\IsTup s.heap b #[u,q.2]/\m_ q.1 u=true
 |_,_,.nil=>{[],.nil,rfl,fun j q e=>by simp at e}
 |_,_,.cons (a:=p) (b:=kv) h t=>by obtain⟨prs,r,hl,hp⟩:=Ll I t;obtain⟨ai,rv,ht,_⟩:=I.tuple h;obtain⟨u,y,ei,ru,ry⟩:=vals2 rv;subst ei;refine{(kv.1,y)::prs,.cons ⟨rfl,ry⟩ r,by rw[aR,aR,hl],fun j q e=>?_};cases j with|zero=>have e':(kv.1,y)=q:=dZ e;subst e';exact{p,u,rfl,ht,zO (P:=X.prog) (w:=X.w) ru}|succ j=>obtain⟨b,u',e1,e2,e3⟩:=hp j q 1053;exact{b,u',by simpa using e1,e2,e3}
theorem SK:∀{ps:List Addr}{us:List Value},Vals (ps.map V.ref) us->us=ps.map cj
 |[],us,r=>by rw[lY]at r;cases r;rfl
 |p::ps,us,r=>by rw[bL]at r;cases r with|cons h t=>cases h;rw[bL,<-SK t]
theorem aiw(Hy:347):jw X (.type "dict") (fun xs H Q=>∃(a:Addr)(ps:List Addr)(am:List 489),xs=[.ref a]/\aq X.K H a (ps.map V.ref)/\Paired 958 ps am/\∀p,H p=none->Q 310 (257 p (.dK (k9 [] am)))):=by
 intro pins s σ H xs us Q I r q;obtain⟨a,ps,am,ex,hq,hp,q⟩:=q;subst ex;obtain⟨u,eu,rx⟩:=vals1 r;subst eu;cases rx;obtain⟨ai,rv,pl,hz⟩:=I.list hq;have ei:=SK rv;subst ei;rw[az]at hz;obtain⟨prs,rel,hl,Yz⟩:=Ll I hp;obtain⟨o,n,ho,hc,hd,sZ⟩:=pl;refine abX (prs:=prs) (I.ok.hd Hy) ho hc hd sZ (by simp[hl]) (by rw[hl];exact hz) (fun j q' e=>?_) fun h' tk fg k=>?_;obtain⟨b,u,e1,e2,e3⟩:=Yz j q' e;exact{b,u,by simp[e1],e2,e3};have hm:(s.heap.objs.size==lV)=false:=rN.mpr (kR I.big);have bK:(k9 [] am).length<=sizeLine:=by refine dG (Qh am []) ?_;rw[jl,r_,rel.length,hl];exact hz
 exact{.ref s.heap.objs.size,upd H s.heap.objs.size (.dK (k9 [] am)),I.laid (t':=tk) k 227 (show cQ X.prog X.w _ _ _ (.dK (k9 [] am))from{bK,hm,merged [] prs,KV.merge rel .nil,fg}),rfl,q _ 346}
end
end L2
namespace L2
open PySem PySem.Spec PyProof.Rows
theorem afM:gS "reversed"=some (.type "reversed"):=by decide+kernel
section
variable{X:Cx}{pins:List (Addr×Obj)}{σ:St}{H:Hp}{s:Shared}{h':Heap}
theorem Inv.NL{t':Nat}{ch:261}(I:31)(k:∀b o,b∉ch->s.heap.get? b=some o->h'.get? b=some o)(hf:∀b∈ch,lP X pins H b):Inv X pins σ H {s with heap:=h',toks:=t'}:=by
 have rf:∀b u,H b=some u->b∉ch:=fun b u e z=>by have q:=(hf b z).1;rw[q]at e;cases e
 refine I.step (g':=s.gens) (d':=s.drawn) (ch:=ch) 422 (848 hc) 864 (fun _ _ _ _ n=>n) (fun b o hc e=>{o,k b o hc e}) (fun _ _ e=>e) (fun _ _ _ e=>e) 1020 (fun m hm=>?_) (fun b u e=>?_) I.bare;obtain⟨o,es,ep,ho,r⟩:=hm;exact 795;refine(I.aD b u e).eV 763 535 fun _ _ q=>q;rcases hc with z|z;ext:170
theorem Inv.Bc{t':Nat}{ch:261}{T:Addr}{ob:HO}(I:31)(k:∀b o,b∉ch->s.heap.get? b=some o->h'.get? b=some o)(hf:∀b∈ch,lP X pins H b)(hT:963 T)(new:cQ X.prog X.w (257 T ob) h' T ob):Inv X pins σ (257 T ob) {s with heap:=h',toks:=t'}:=by
 have hn:H T=none:=I.aD.fresh hT;have rf:∀b u,H b=some u->b∉ch:=fun b u e z=>by have q:=(hf b z).1;rw[q]at e;cases e
 refine I.step (g':=s.gens) (d':=s.drawn) (ch:=ch) 422 (848 hc) 864 (fun b o _ e n=>?_) (fun b o hc e=>{o,k b o hc e}) (fun b xs e=>?_) (fun b o u e=>?_) (fun b ps e=>{#[],?_}) (fun m hm=>?_) (fun b u e=>?_) I.bare;rw[ay (cI (dY (bn e) hT))];exact n;rw[ay (bF e hn)];exact e;rw[ay (bF e hn)];exact e;rw[ay (bF e hn),e];simp;obtain⟨o,es,ep,ho,r⟩:=hm;exact 795;by_cases hb:b=T;subst hb;rw[aM]at e;cases e;exact new;rw[ay hb]at e;refine(I.aD b u e).eV 763 942 fun c xs q=>by rw[ay (bF q hn)];exact q
 rcases hc with z|z;ext:170
theorem Inv.lock{d:Addr}{u:HO}(I:31)(h:324 d u)(mu:rc (some u)):∃od,Inv X pins σ 1047 s:=by
 have x:=I.aD d u h;have ex:∃od,s.heap.get? d=some od:=by cases u with|lst xs=>obtain⟨_,_,_,_,e⟩:=x;exact{_,e}|dK am=>obtain⟨_,_,_,_,o,_,_,e,_⟩:=x;exact⟨o,e⟩|dT am=>obtain⟨_,_,_,_,o,_,_,e,_⟩:=x;exact⟨o,e⟩|set S n=>obtain⟨o,_,_,_,e,_⟩:=x;exact⟨o,e⟩|ins C dx fs=>obtain⟨_,_,_,e,_⟩:=x;exact{_,e}|ext φ=>obtain⟨_,⟨_,e⟩,_⟩:=x;exact{_,e}|_=>exact gU mu
 obtain⟨od,e⟩:=ex;have new:cQ X.prog X.w 1047 s.heap d (.b_ od u):=by refine{e,x.eV (fun b v _ q=>q) (fun b q=>?_) fun b xs q=>?_};rw[ay 896];exact q;rw[ay 896];exact q
 exact{od,I.write (x:=d) (e:=d) (t':=s.toks) (h':=s.heap) (by rw[h];exact mu) 148 (fun b v _ q=>q) ⟨od,e⟩ new}
theorem Inv.agb{d:Addr}{u:HO}(I:31)(h:324 d u)(mu:rc (some u)):∀o' u',X.tz d≠some (.b_ o' u'):=fun o' u' e=>by have q:=I.base.kD d o' u' e;rw[h]at q;cases q;exact mu
theorem Inv.unlock{d:Addr}{od:Obj}{u:HO}(I:31)(h:324 d (.b_ od u))(hn:∀o' u',X.tz d≠some (.b_ o' u')):Inv X pins σ (257 d u) s:=by
 have xh:∀b o,H b=some o->(∀o' u',o≠.b_ o' u')->b≠d:=fun b o e cC z=>by rw[z,h]at e;cases e;exact cC _ _ rfl
 have neN:∀b,H b=none->b≠d:=fun b e z=>by rw[z,h]at e;cases e
 refine{I.ok,I.os,I.bare,{I.base.keep,I.base.slot,fun b o e n hx=>?_,I.base.there,fun b xs e=>?_,fun b o x e=>?_,fun b ps e=>?_},I.loc,I.cell,?_,fun x c e=>?_,fun p hp=>?_,fun b o e=>?_,I.len};rw[ay (neN b 432)];exact 432;have q:=I.base.i7 b xs e;rw[ay (xh b _ q 219)];exact q;have q:=I.base.kD b o x e;rw[ay (fun z=>by rw[z]at e;exact hn _ _ e)];exact q;obtain⟨m,q⟩:=I.base.mI b ps e;exact{m,by rw[ay (xh b _ q 219)];exact q};rw[ay (neN _ I.free)];exact I.free;rw[ay (neN c 986)];exact 986;obtain⟨e,n,r⟩:=I.pin p hp;exact{e,by rw[ay (neN _ n)];exact n,r};by_cases hb:b=d;rw[hb,aM]at e;cases e;rw[hb];obtain⟨_,x⟩:=I.aD d _ h;exact x.eV (fun c v _ q=>q) 838 fun c xs q=>by rw[ay (xh c _ q 219)];exact q
 rw[ay hb]at e;exact(I.aD b o e).eV (fun c v _ q=>q) 838 fun c xs q=>by rw[ay (xh c _ q 219)];exact q
end
def Z'(t:TE):TE:=fun σ H Q=>∃d u,H d=some u/\rc (some u)/\∀od,t σ 1047 fun v H'=>H' d=some (.b_ od u)/\Q v (upd H' d u)
section
variable{X:Cx}
theorem ac6{e:aH}{t:TE}(h:PE X e t):PE X e (Z' t):=by intro pins s σ H Q I hw;obtain⟨d,u,hd,mu,hw⟩:=hw;obtain⟨od,I1⟩:=I.lock hd mu;refine aG (h pins s σ _ _ I1 (hw od)) fun v s1 ⟨x,H1,I2,r,e2,q⟩=>?_;exact{x,_,I2.unlock e2 (I.agb hd mu),r,q}
theorem FO{tg:aH}{pins:256}{σ:St}{H:Hp}{s:Shared}{R:It->Hp->Prop}{J:It}{tn:Nat->Heap->Prop}{tk:Nat}(I:31)(o:Obj)(T:Turn X.prog X.w X.K tg J [s.heap.objs.size] s.heap.objs.size tn)(st:tn 0 (240 o))(q:R J H):FS X pins σ tg R 84 {s with heap:=s.heap.push o,toks:=tk}:=by
 refine{s.heap.objs.size,[s.heap.objs.size],tn,J,H,rfl,I.kept fun b ob e=>bG _ e,T,st,fun b hb=>?_,q};have e:b=s.heap.objs.size:=by simpa using hb
 subst e;exact I.oX 227 346
end
def yB(K:bv)(a:Addr)(n:Nat):It:=
 {fun i H=>i<n/\∃(xs:List V)(x:V),aq K H a xs/\xs[n-1-i]?=some x,fun i H x H'=>H'=H/\∀xs,aq K H a xs->xs[n-1-i]?=some x,fun i _=>n<=i}
theorem acV{P:aT}{w:aI}{K:bv}{tg:aH}(a it:Addr)(n:Nat):Turn P w K tg (yB K a n) [it] it (fun i h=>i<=n/\h.IsRevIter it a ((n:Int)-1-(i:Nat)))where
 mem:=by simp
 obj:=fun i h st b hb=>by
  have e:b=it:=by simpa using hb
  subst e
  obtain⟨_,o,e,c,d⟩:=st
  exact 359
 keep:=fun i h h' st k=>{st.1,st.2.at fun o e=>k it 42 o e}
 item:=by
  intro X hP hw hK hc i pins s σ H E I hf st hg
  subst hP hw hK
  obtain⟨lB,xs,x,hq,hx⟩:=hg
  obtain⟨ai,rv,p,hz⟩:=I.list hq
  obtain⟨u,hu,ru⟩:=rv.get hx
  obtain⟨f0,f1,f2,f3,f4,f5⟩:=hf it 42
  obtain⟨_,cB⟩:=st
  have e1:(n:Int)-1-((i:Nat):Int)=((n-1-i:Nat):Int):=by omega
  rw[e1]at cB
  refine wpAny_pyNext_rev_item cB p.isList (x:=u) 460 fun h' ju sb=>?_
  have e2:((n-1-i:Nat):Int)-1=(n:Int)-1-((i+1:Nat):Int):=by omega
  rw[e2]at ju
  have I1:Inv X pins σ H {s with heap:=h'}:=I.turned (t':=s.toks) 358 f0 f1 f3 f4 f5
  obtain⟨o,e,c,d⟩:=id ju
  exact(528 (552 ⟨lB,ju⟩))
 done:=by
  intro X hP hw hK hc i pins s σ H E I hf st hg
  subst hP hw hK
  obtain⟨f0,f1,f2,f3,f4,f5⟩:=hf it 42
  obtain⟨lB,cB⟩:=st
  have hge:n<=i:=hg
  have e1:(n:Int)-1-((i:Nat):Int)=-1:=by omega
  rw[e1]at cB
  exact wpAny_pyNext_rev_end 208 cB fun h' eb=>101
 self:=fun A i s Q E st h=>wpAny_pyIter_revIter st.2 h
def Z3(K:bv)(ta:TA):TI:=fun σ H R=>ta σ H fun vs H1=>∃(a:Addr)(xs:List V),vs=[.ref a]/\aq K H1 a xs/\R (yB K a xs.length) H1
section
variable{X:Cx}{tg:aH}
theorem adI{e:aH}{ta:TA}{p pos:Pos}(hg:Gl X "reversed")(hm:X.mg "reversed"=none)(ha:PA X [e] ta)(hs:starEach [e] X.env=[(false,eval e X.env)]:=by rfl):PI X tg (.Call (.Name "reversed" p) [e] [] pos) (Z3 X.K ta):=by intro pins s σ H R I h;refine Call_ (798 afM);obtain⟨a,xs,e,hq,q⟩:=q1;subst e;cases r1 with|cons r rr=>cases rr;cases r;obtain⟨ai,rv,p',hz⟩:=I1.list hq;have hl:=rv.length;(have e1:((ai.toArray.size:Nat):Int)-1=(xs.length:Int)-1-((0:Nat):Int):=by simp only[dk];omega);refine call_reversed_list p'.isList (wpAny_pyIter_revIter (l:=a) (i:=((ai.toArray.size:Nat):Int)-1) 194 ?_);refine FO (tk:=s1.toks) I1 _ (acV a _ xs.length) {bA _,?_} q;rw[<-e1];exact 194
end
def Its(x:Str):It:={fun i _=>i<x.cps.size,fun i H v H'=>H'=H/\∃c,x.cps[i]?=some c/\v=.str {#[c]},fun i _=>x.cps.size<=i}
theorem Nj{P:aT}{w:aI}{K:bv}{tg:aH}(it:Addr)(x:Str)(t:Tok)(ty:String)(wO:ty="str_ascii_iterator"\/ty="str_iterator"):
 Turn P w K tg (Its x) [it] it 1008 where
 mem:=by simp
 obj:=fun i h st b hb=>by
  have e:b=it:=by simpa using hb
  subst e
  obtain⟨o,e,c,d⟩:=st
  exact 359
 keep:=fun i h h' st k=>let⟨o,ho,r⟩:=st;{o,k it 42 o ho,r}
 item:=by
  intro X hP hw hK hc i pins s σ H E I hf st hg
  subst hP hw hK
  obtain⟨f0,f1,f2,f3,f4,f5⟩:=hf it 42
  have W:Walks X.prog X.w X.A it [it] [it] x.cps.size (SignAt x) 1008:=by
   rcases wO with e|e
   ·rw[e];exact Walks.strAscii 208 it x t
   ·rw[e];exact Walks.strWide 208 it x t
  have ub:["enumerate","zip","dict_itemiterator","dict_reverseitemiterator","odict_iterator","itertools.zip_longest","itertools.pairwise"].contains ty=false:=by
   rcases wO with e|e
   ·rw[e];decide
   ·rw[e];decide
  refine W.item i s _ _ hg st fun v h' tk hv ju kk=>?_
  obtain⟨c,u,hcx,rfl⟩:=hv
  have I1:Inv X pins σ H {s with heap:=h',toks:=tk}:=I.turned 819 f0 f1 f3 f4 f5
  obtain⟨oi,e,cc,dd⟩:=id ju
  exact{_,rfl,Aw (s:={s with heap:=h',toks:=tk}) e cc dd ub {.str {#[c]},H,I1,⟨u,rfl⟩,⟨rfl,c,hcx,rfl⟩,ju,fun b hb=>(hf b hb).1}}
 done:=by
  intro X hP hw hK hc i pins s σ H E I hf st hg
  subst hP hw hK
  obtain⟨f0,f1,f2,f3,f4,f5⟩:=hf it 42
  have hx:x.cps[i]?=none:=Ko hg
  rcases wO with e|e
  ·rw[e]at st
   exact wpAny_pyNext_ascii_end 208 st hx fun h' eb=>101
  ·rw[e]at st
   exact wpAny_pyNext_wide_end 208 st hx fun h' eb=>101
 self:=fun A i s Q E st h=>by
  rcases wO with e|e
  ·rw[e]at st;exact wpAny_pyIter_striter_ascii st h
  ·rw[e]at st;exact wpAny_pyIter_striter_wide st h
def ahx(te:TE):TI:=fun σ H R=>te σ H fun v H1=>∃x,v=.str x/\R (Its x) H1
theorem U8{X:Cx}{tg e:aH}{te:TE}(he:414):PI X tg e (ahx te):=by intro pins s σ H R I h;refine aG 159 fun v s1 ⟨y,H1,I1,r1,x,ex,q⟩=>?_;subst ex;rw[1,r1];cases ha:x.cps.all (·<128);exact wpAny_pyIter_wide ha (FO (tk:=s1.toks) I1 _ (Nj _ x t "str_iterator" (546 rfl)) 194 q);exact wpAny_pyIter_ascii ha (FO (tk:=s1.toks) I1 _ (Nj _ x t "str_ascii_iterator" 148) 194 q)
def zS(K:bv)(a:Addr):It:=
 {fun i H=>∃(xs:List V)(x:V),aq K H a xs/\xs[i]?=some x,fun i H v H'=>∃T x,v=.ref T/\H T=none/\H'=upd H T 175/\∀xs,aq K H a xs->xs[i]?=some x,fun i H=>∃xs:List V,aq K H a xs/\xs.length<=i}
theorem aep{P:aT}{w:aI}{K:bv}{elts:433}{kk:Nat}{gH:Pos}(a e it:Addr):
 Turn P w K 304 (zS K a) [e,it] e (fun i h=>(∃old,IsEnum h e it ((i:Nat):Int) old)/\h.IsListIter it a i/\e≠it)where
 mem:=by simp
 obj:=fun i h st b hb=>by
  obtain⟨⟨old,he⟩,⟨o,ho,hc,hd⟩,_⟩:=st
  have e':b=e\/b=it:=by simpa using hb
  rcases e' with z|z
  ·rw[z];exact(294 he)
  ·rw[z];exact 960
 keep:=fun i h h' st k=>let⟨⟨old,he⟩,hi,cC⟩:=st;{{old,k e 42 _ he},hi.at fun o q=>k it 42 o q,cC}
 item:=by
  intro X hP hw hK hc i pins s σ H E I hf st hg
  subst hP hw hK
  obtain⟨⟨old,he⟩,cB,cC⟩:=st
  obtain⟨xs,x,hq,hx⟩:=hg
  obtain⟨ai,rv,p,hz⟩:=I.list hq
  obtain⟨u,hu,ru⟩:=rv.get hx
  have x6:e<s.heap.objs.size:=bn he
  have i4:it<s.heap.objs.size:=by obtain⟨_,q,_⟩:=cB;exact bn q
  refine wpAny_pyNext_enum_item he cB p.isList (x:=u) 460 cC fun h' ho GJ hT hsz hk=>?_
  refine{_,rfl,aje (s:={s with heap:=h',toks:=s.toks+1}) ho fun gc zm sb=>?_}
  have sH:gc.get? s.heap.objs.size=some {cls:=.type "tuple",data:=.seq #[.int i s.toks,u]}:=(sb.2 _ (kR x6)).trans hT
  have new:cQ X.prog X.w (190 175) gc s.heap.objs.size 175:=
   {by show 2<=sizeLine;decide,[.int i s.toks,u],.cons 569 (716 ru),{_,sH,rfl,_,rfl}}
  have I1:Inv X pins σ (190 175) {s with heap:=gc,toks:=s.toks+1}:=
   I.Bc (ch:=[e,it]) 519 hf 227 new
  refine{.ref s.heap.objs.size,_,I1,rfl,{_,x,rfl,I.aD.fresh 227,rfl,fun ys hy=>by rw[I.wN hy hq];exact hx},{{u,?_},GJ.at fun o q=>(sb.2 it (cJ cC)).trans q,cC},fun b hb=>?_}
  ·have e1:((i+1:Nat):Int)=(i:Int)+1:=by omega
   rw[e1];exact zm
  ·have fe:b<s.heap.objs.size:=by
    have e':b=e\/b=it:=by simpa using hb
    rcases e' with z|z
    ·rw[z];exact x6
    ·rw[z];exact i4
   rw[ay (cI fe)]
   exact(hf b hb).1
 done:=by
  intro X hP hw hK hc i pins s σ H E I hf st hg
  subst hP hw hK
  obtain⟨⟨old,he⟩,cB,cC⟩:=st
  obtain⟨xs,hq,hx⟩:=hg
  obtain⟨ai,rv,p,hz⟩:=I.list hq
  obtain⟨f0,f1,f2,f3,f4,f5⟩:=hf it 42
  have hl:=rv.length
  exact wpAny_pyNext_enum_end 208 he cB p.isList 79 fun h' eb=>521
 self:=fun A i s Q E st h=>let⟨⟨_,he⟩,_⟩:=st;Kp he h
def W3(K:bv)(ta:TA):TI:=fun σ H R=>ta σ H fun vs H1=>∃a xs,vs=[.ref a]/\aq K H1 a xs/\R (zS K a) H1
theorem TC{X:Cx}{e:aH}{ta:TA}{p pos gH:Pos}{elts:433}{kk:Nat}(hg:Gl X "enumerate")(hm:X.mg "enumerate"=none)(ha:PA X [e] ta)(hs:starEach [e] X.env=[(false,eval e X.env)]:=by rfl):PI X 304 881 (W3 X.K ta):=by intro pins s σ H R I h;ext:133;cases r1 with|cons r rr=>cases rr;cases r;obtain⟨ai,rv,p',hz⟩:=I1.list hq;refine call_enumerate_list p'.isList fun h' he cB hsz hk=>Kp he ?_;ext:21;refine(295 aep {{.none,he},cB,Nat.succ_ne_self _});ext:27
theorem Qw:gS "zip"=some (.type "zip"):=by decide+kernel
def mT(K:bv)(a b:Addr):It:=
 ⟨fun i H=>∃(xs ys:List V)(x y:V),aq K H a xs/\aq K H b ys/\xs[i]?=some x/\ys[i]?=some y,
  fun i H v H'=>∃T x y,v=.ref T/\H T=none/\H'=upd H T 335/\(∀xs,aq K H a xs->xs[i]?=some x)/\∀ys,aq K H b ys->ys[i]?=some y,
  fun i H=>∃xs ys:List V,aq K H a xs/\aq K H b ys/\(xs.length<=i\/ys.length<=i)⟩
theorem aaP{P:aT}{w:aI}{K:bv}{elts:433}{kk:Nat}{gH:Pos}{a b z TI TO i1 i2:Addr}(D:AS z TI TO i1 i2 a b):
 Turn P w K 304 (mT K a b) [z,TI,TO,i1,i2] z (fun i h=>IsZip h z TI TO .none/\IsPair h TI (.ref i1) (.ref i2)/\(∃x y,IsPair h TO x y)/\h.IsListIter i1 a i/\h.IsListIter i2 b i)where
 mem:=by simp
 obj:=fun i h st c hc=>by
  obtain⟨hz,dR,⟨x,y,d7⟩,⟨o1,e1,_,d1⟩,⟨o2,e2,_,d2⟩⟩:=st
  have e':c=z\/c=TI\/c=TO\/c=i1\/c=i2:=by simpa using hc
  rcases e' with q|q|q|q|q
  ·rw[q];exact(294 hz)
  ·rw[q];exact(294 dR)
  ·rw[q];exact(294 d7)
  ·rw[q];exact 945
  ·rw[q];exact 946
 keep:=fun i h h' st k=>by
  obtain⟨hz,dR,⟨x,y,d7⟩,h1,h2⟩:=st
  exact 349
 item:=by
  intro X hP hw hK hc i pins s σ H E I hf st hg
  subst hP hw hK
  obtain⟨hz,dR,⟨x0,y0,d7⟩,h1,h2⟩:=st
  obtain⟨xs,ys,x,y,ku,kM,hx,hy⟩:=hg
  obtain⟨ai,rv,p,_⟩:=I.list ku
  obtain⟨ir,pS,p2,_⟩:=I.list kM
  obtain⟨u,hu,ru⟩:=rv.get hx
  obtain⟨u2,zE,zZ⟩:=pS.get hy
  have sM:z<s.heap.objs.size:=bn hz
  refine wpAny_pyNext_zip_item D hz dR d7 h1 h2 p.isList p2.isList (x:=u) (y:=u2) 460 (by simpa using zE) fun h' z' GD Aa jh hT hsz hk=>?_
  refine 667
  have sH:gc.get? s.heap.objs.size=some {cls:=.type "tuple",data:=.seq #[u,u2]}:=(sb.2 _ (kR sM)).trans hT
  have new:cQ X.prog X.w (190 335) gc s.heap.objs.size 335:=
   478
  have I1:Inv X pins σ (190 335) {s with heap:=gc}:=
   I.Bc (t':=s.toks) (ch:=[z,TI,TO,i1,i2]) 639 hf 227 new
  refine(618 {_,x,y,rfl,I.aD.fresh 227,rfl,fun l hl=>by rw[I.wN hl ku];exact hx,fun l hl=>by rw[I.wN hl kM];exact hy})
  ·exact 608
  ·exact(sb.2 _ D.TOz).trans GD
  ·exact Aa.at fun o q=>(sb.2 _ D.i1z).trans q
  ·exact jh.at fun o q=>(sb.2 _ D.i2z).trans q
  ·have aY:c<s.heap.objs.size:=by
    have e':c=z\/c=TI\/c=TO\/c=i1\/c=i2:=by simpa using oY
    rcases e' with q|q|q|q|q
    ·rw[q];exact sM
    ·rw[q];exact bn dR
    ·rw[q];exact bn d7
    ·rw[q];obtain⟨_,e1,_⟩:=h1;exact bn e1
    ·rw[q];obtain⟨_,e2,_⟩:=h2;exact bn e2
   rw[ay (cI aY)]
   exact(hf c oY).1
 done:=by
  intro X hP hw hK hc i pins s σ H E I hf st hg
  subst hP hw hK
  obtain⟨hz,dR,⟨x0,y0,d7⟩,h1,h2⟩:=st
  obtain⟨xs,ys,ku,kM,pP⟩:=hg
  obtain⟨ai,rv,p,_⟩:=I.list ku
  obtain⟨ir,pS,p2,_⟩:=I.list kM
  have l1:=rv.length
  have l2:=pS.length
  have he:ai.toArray[i]?=none\/ir.toArray[i]?=none:=by
   rcases pP with q|q
   ·exact .inl 79
   ·exact .inr 79
  exact wpAny_pyNext_zip_end 208 D hz dR d7 h1 h2 p.isList p2.isList he fun h' hk=>{rfl,I.NL (t':=s.toks) (ch:=[z,TI,TO,i1,i2]) (fun c o hb q=>
   hk c o 85 85 85 85 q) hf}
 self:=fun A i s Q E st h=>Kq st.1 h
def ait(K:bv)(ta:TA):TI:=fun σ H R=>ta σ H fun vs H1=>∃a b xs ys,vs=[.ref a,.ref b]/\aq K H1 a xs/\aq K H1 b ys/\R (mT K a b) H1
theorem Je{X:Cx}{e e2:aH}{ta:TA}{p pos gH:Pos}{elts:433}{kk:Nat}(hg:Gl X "zip")(hm:X.mg "zip"=none)(ha:PA X [e,e2] ta)(hs:starEach [e,e2] X.env=(false,eval e X.env)::starEach [e2] X.env:=by rfl)(dj:(465 (starEach [e2] X.env)).any (·.1)=false:=by rfl):PI X 304 950 (ait X.K ta):=by intro pins s σ H R I h;ext:104;cases r1 with|cons r rr=>cases rr with|cons r' rr=>cases rr;cases r;cases r';obtain⟨ai,rv,p1,_⟩:=I1.list ku;obtain⟨ir,pS,p2,_⟩:=I1.list kM;have la:a<s1.heap.objs.size:=p1.lt;have lb:b<s1.heap.objs.size:=p2.lt;refine call_zip_2 p1.isList p2.isList fun h' hz dR d7 h1 h2 hsz hk=>Kq hz ?_;ext:21;refine(161 aaP);ext:8
end L2
namespace L2
open PySem PySem.Spec PyProof.Rows
theorem Iv:∀{ys:List Str}{us:List Value},Vals 829 us->StrsAre us ys
 |[],_,.nil=>.nil
 |y::ys,_,.cons r t=>by obtain⟨k,rfl⟩:=r;exact .cons y k (Iv t)
section
variable{X:Cx}
theorem adD:o9 X "str.join" (fun x xs H Q=>∃a p,∃ys:List Str,x=.str a/\xs=[.ref p]/\(aq X.K H p 829\/bC X.K H p 829)/\(ys.map (·.length)).sum+ys.length*a.length<=16777216/\Q (.str (EN a ys)) H):=by intro pins s σ H x xs v us Q I rx rs h;obtain⟨a,p,ys,rfl,rfl,hp,hz,h⟩:=h;rw[1,rx];cases rs with|cons r1 rs=>cases rs;cases r1;rcases hp with hp|hp;obtain⟨ai,r,⟨o,n,ho,hc,_,hd⟩,_⟩:=I.list hp;exact PyProof.Rows.join_list (items:=ai.toArray) ⟨o,ho,hc,n,hd⟩ (by rw[ajh];exact Iv r) hz fun t' k=>{.str _,H,I.tok k,⟨t',rfl⟩,h};obtain⟨ai,r,ht,_⟩:=I.tuple hp;exact PyProof.Rows.join_tuple (items:=ai.toArray) ht (by rw[ajh];exact Iv r) hz fun t' k=>{.str _,H,I.tok k,⟨t',rfl⟩,h}
theorem mt0{id:String}{C:Str->Prop}{g:Str->V}(rule:∀(a:Str)(t:Tok)(s:Shared)(Q:Value->Shared->Prop),C a->(∀(u:Value)(k:Nat),RelV (g a) u->Q u {s with toks:=k})->wpAny 37 X.A (call 540 [.str a t]) Q X.xe s):o9 X id (fun x xs H Q=>∃a,x=.str a/\xs=[]/\C a/\Q (g a) H):=by intro pins s σ H x xs v us Q I rx rs h;obtain⟨a,rfl,rfl,hc,h⟩:=h;rw[1,rx];cases rs;exact rule a t s _ hc fun u k r=>{g a,H,I.tok k,r,h}
theorem ad9:o9 X "str.isdigit" (fun x xs H Q=>∃a,x=.str a/\xs=[]/\True/\Q (.bl (AT a)) H):=mt0 (C:=fun _=>True) (g:=fun a=>.bl (AT a)) fun _ _ s _ _ h=>PySem.SC.isdigit (h _ s.toks rfl)
theorem YX{id:String}{g:Str->Str->V}(rule:∀(a b:Str)(t u:Tok)(s:Shared)(Q:Value->Shared->Prop),(∀(v:Value)(k:Nat),RelV (g a b) v->Q v {s with toks:=k})->wpAny 37 X.A (call 540 [.str a t,.str b u]) Q X.xe s):o9 X id (fun x xs H Q=>∃a b,x=.str a/\xs=[.str b]/\Q (g a b) H):=by intro pins s σ H x xs v us Q I rx rs h;obtain⟨a,b,rfl,rfl,h⟩:=h;rw[1,rx];cases rs with|cons r1 rs=>cases rs;obtain⟨u,rfl⟩:=r1;exact rule a b t u s _ fun v k r=>{g a b,H,I.tok k,r,h}
theorem ae4:o9 X "str.startswith" (fun x xs H Q=>∃a b,x=.str a/\xs=[.str b]/\Q (.bl (EO a b)) H):=YX (g:=fun a b=>.bl (EO a b)) fun _ _ _ _ s _ h=>PySem.SC.startswith (h _ s.toks rfl)
theorem abq:jw X (.type "int") (fun xs H Q=>∃a n,xs=[.str a]/\PySem.intText? a=some n/\a.length<=0640/\Q (.int n) H):=by intro pins s σ H xs us Q I rs h;obtain⟨a,n,rfl,hn,hl,h⟩:=h;cases rs with|cons r1 rs=>cases rs;rw[1,r1];exact PySem.W.KIN.call_text hn hl (276 n h)
end
section
variable{X:Cx}{o e:aH}{to te:TE}
def tM0(r:268)(to:TE):TE:=fun σ H Q=>to σ H fun x H1=>(∃a,x=.str a)/\r x [] H1 Q
def Yy(r:268)(to te:TE):TE:=fun σ H Q=>to σ H fun x H1=>(∃a,x=.str a)/\te σ H1 fun y H2=>r x [y] H2 Q
theorem afy{id:String}{name:Str}{di pos:Pos}{r:268}(slot:Slot "str" name id)(ty:325)(rule:o9 X id r)(ho:PE X o to)(tD:xu o name X.env (217 o)=eval o X.env:=by rfl)(yj:(di.endLine==pos.line)=true:=by rfl):PE X (652 (239 name)) (tM0 r to):=by intro pins s σ H Q I h;refine PySem.Call_method0 tD yj (198 378);ext:180;exact(593 (PySem.evalArgs_none (rule pins s1 σ H1 _ [] _ [] Q I1 r1 .nil q1)))
theorem abW{id:String}{name:Str}{di pos:Pos}{r:268}(slot:Slot "str" name id)(ty:325)(rule:o9 X id r)(ho:PE X o to)(he:414)(hs:starEach [e] X.env=[(false,eval e X.env)]:=by rfl)(tD:xu o name X.env (217 o)=eval o X.env:=by rfl)(yj:(di.endLine==pos.line)=true:=by rfl):PE X (.Call (239 name) [e] [] pos) (Yy r to te):=by intro pins s σ H Q I h;refine PySem.Call_method1 tD hs yj (198 378);ext:180;refine(593 (V1 (AE ?_)));exact aG (he pins s1 σ H1 _ I1 q1) fun u s2 ⟨y,H2,I2,r2,q2⟩=>EI (rule pins s2 σ H2 _ [y] _ [u] Q I2 r1 (716 r2) q2)
end
end L2
namespace L2
open PySem PySem.Spec PyProof.Rows
section
variable{X:Cx}
theorem JA:dg X (gT .In) (fun x y H Q=>∃(c:Nat)(z:Str),x=.str {#[c]}/\y=.str z/\Q (.bl (decide (c∈z.cps.toList))) H):=by intro pins s σ H x y v u Q I rx ry h;obtain⟨c,z,rfl,rfl,q⟩:=h;ext:49;exact PyProof.Rows.in_str (dP I q (PySem.StrLaws.found_one z c).symm)
end
theorem IsPart.raw{v:Value}{o:757}(p:IsPart v o):∃l:Option (Int×Tok),v=partValue l/\l.map (·.1)=o:=by cases p with|none=>exact⟨none,rfl,rfl⟩|int i t=>exact{some (i,t),rfl,rfl}
def yY(n d:Nat):Option Int->Int
 |none=>(d:Int)
 |some i=>max 0 (min (if i<0 then i+(n:Int)else i) (n:Int))
theorem TY(n d:Nat)(o:757):yY n d o=((HT.ba n d o:Nat):Int):=by cases o with|none=>rfl|some v=>show max (0:Int) (min (if v<0 then v+(n:Int)else v) (n:Int))=((379:Nat):Int);ext:171;omega
theorem aa8(a b:757)(n:Nat):si a b 1 n=sliceRange (yY n 0 a) (yY n n b) 1:=by
 have h1:((1:Int)>0)=True:=by simp
 cases a<;>cases b<;>first|rfl|(simp only[si,yY,h1,jL];rfl)|simp[si,yY]
theorem adB(a b:757)(n:Nat):si a b 1 n=(bu (HT.ba n n b-HT.ba n 0 a)).map (fun k=>HT.ba n 0 a+k):=by
 rw[aa8,TY,TY];generalize HT.ba n 0 a=p;generalize HT.ba n n b=q;simp only[sliceRange,show((1:Int)>0)=True from by simp,jL];by_cases aY:(p:Int)<q;have e3:(((q:Int)-p+1-1)/1).toNat=q-p:=by first|omega|(simp;done)|(simp;omega)
 simp only[aY,jL,e3];rw[16,k];omega;have:q-p=0:=by omega
 simp[aY,this]
def tj(z:Str)(lo hi:757):Str:=
 {((z.cps.toList.drop 319).take 759).toArray}
theorem Le(z:Str)(lo hi:757):AU z lo hi=tj z lo hi:=by
 have h1:HT.ba z.length 0 lo<=z.length:=HT.FG _ _ (bA _) _;have h2:HT.ba z.length z.length hi<=z.length:=HT.FG _ _ 227 _;have hp:HT.ba z.length 0 lo<=max 319 338:=Nat.le_max_left _ _;have hq:max 319 338<=z.length:=Nat.max_le.mpr ⟨h1,h2⟩;have hd:max 319 338-HT.ba z.length 0 lo=HT.ba z.length z.length hi-HT.ba z.length 0 lo:=by omega
 have e:si lo hi 1 z.length=si 943 (some ((max 319 338:Nat):Int)) 1 z.length:=by rw[PySem.StrLaws.strSliceIndices_plain hp hq,hd,adB]
 have e2:AU z lo hi=AU z 943 (some ((max 319 338:Nat):Int)):=by unfold AU;rw[e]
 rw[e2,PySem.StrLaws.sliceText_nat z hp hq,hd];rfl
theorem Ye(z:Str)(lo hi:757):(tj z lo hi).length<=z.length:=by show(((z.cps.toList.drop 319).take 759).toArray).size<=z.cps.size;rw[dk,bU,cy,jk];omega
def ahw:V->Option Int->Option Int->Hp->VK->Prop:=fun x lo hi H Q=>∃z,x=.str z/\z.length<=sizeLine/\Q (.str (tj z lo hi)) H
theorem aeq{X:Cx}:wc X ahw:=by
 intro pins s σ H x v vl vu lo hi sl Q I rx hs pl pu h;obtain⟨z,rfl,hz,q⟩:=h;rw[1,rx];obtain⟨os,sJ,nT,xb⟩:=hs;obtain⟨l,rfl,rfl⟩:=IsPart.raw pl;obtain⟨u,rfl,rfl⟩:=IsPart.raw pu;refine{"str",_,F.slot_str_getitem.lookup,Ke _ _ _,?_};refine wpAny_getItem_str_slice (l:=l) (u:=u) (st:=none) ⟨os,sJ,nT,xb⟩ rfl ?_;have hl:(AU z (l.map (·.1)) (u.map (·.1))).length<=sizeLine:=by rw[Le];exact dG (Ye z _ _) hz
 rw[<-Le]at q;unfold AU at q hl;show Made.post (if 480=true then Made.val (.str z t)else Made.str {((si (l.map (·.1)) (u.map (·.1)) 1 z.length).filterMap (z.cps[·]?)).toArray}) 178 s;by_cases c:480=true;rw[if_pos c]at q⊢;exact{.str z,H,I,⟨t,rfl⟩,q};rw[if_neg c]at q hl⊢;exact{hl,.str _,H,I.tok _,569,q}
end L2
namespace L2
open PySem PySem.Spec PyProof.Rows
def inClass(s:aL)(j:Nat):aL:=match s with
 |.ClassDef _ _ _ body _ _ _ _ _ _ _=>body.getD j (.Pass ⟨0,0,0,0⟩)
 |_=>.Pass ⟨0,0,0,0⟩
def qF(s:aL):Arguments:=match s with
 |.FunctionDef _ a _ _ _ _ _ _ _ _=>a
 |_=>{posonlyargs:=[],args:=[],vararg:=none,kwonlyargs:=[],kw_defaults:=[],kwarg:=none,defaults:=[]}
def oA(s:aL):List aL:=match s with
 |.FunctionDef _ _ b _ _ _ _ _ _ _=>b
 |_=>[]
def a_(s:aL):fY:=match s with
 |.FunctionDef _ _ _ _ _ _ sc _ _ _=>sc
 |_=>{kind:=.function,names:=[],isGenerator:=false,isCoroutine:=false}
abbrev bj:gL:=fun _ _ _ _ _ _=>False
abbrev E0:XK:=fun _ _ _=>False
theorem oj{X:Cx}:Passes bj X E0:=fun _ _ _ _ _ _ _ h=>h.elim
structure mH(K:bv)(x b4:Str)(st:aL)(f:Addr)(fd:eW):Prop where
 ex:∃(oc:Value)(od:Option Addr)(kV iG pm:Value)(an:Option Addr)(aO ct:Value)(lK:Array (Option Value)),
  fd=AI x b4 (qF st) (oA st) (a_ st) .none kV iG pm an aO ct/\K.lookup f=some ⟨oc,od,.func fd,lK⟩/\VP K aO b4=true
 kp:oE K (.ref f)=true
section
variable{P:aT}{w:aI}{K:bv}{mg:Str->Option Value}{base:Heap}
theorem mH.ok{x b4:Str}{st:aL}{f:Addr}{fd:eW}{N ps:132}{k:Nat}{sp:Sp}(F:mH K x b4 st f fd)(S:bf N ps (a_ st))(len:∀vs H Q E,sp vs H Q E->vs.length=ps.length)(z8:∀(aO:Value)(A:bz)(outer:List Env)(s:Shared)(H:Hp)(vs:List V)(Q:VK)(E:XK),cW k (A.deeper (250 (a_ st) aO))->sp vs H Q E->∃t,i9 (911 bj).B4 (oA st) t/\t {nx:=fun _ H'=>Q .bo H',rt:=Q} 825 H):aE P w K mg base bj (k+1) f fd ps sp:=by obtain⟨oc,od,kV,iG,pm,an,aO,ct,lK,rfl,lk,lA⟩:=F.ex;refine Qm lk lA S len fun A outer s H vs Q E hr ly=>?_;obtain⟨t,h,q⟩:=z8 aO A outer s H vs Q E hr ly;exact⟨t,h.B4,q⟩
theorem mH.binds{x b4:Str}{st:aL}{f:Addr}{fd:eW}{ps:132}(F:mH K x b4 st f fd)(h:∀(kV iG pm:Value)(an:Option Addr)(aO ct:Value)(us:List Value),us.length=ps.length->bindArgs 303 {us,[]}=pure 672):Binds K fd ps []:=by obtain⟨oc,od,kV,iG,pm,an,aO,ct,lK,rfl,lk,lA⟩:=F.ex;exact .all (h kV iG pm an aO ct)
theorem wF{x b4:Str}{st:aL}{f:Addr}{oc:Value}{od an:513}{lK:274}{kV iG pm aO ct:Value}(l:553 f {oc,od,.func 303,lK})(c:VP K aO b4=true)(k:oE K 408=true):mH K x b4 st f 303:={⟨oc,od,kV,iG,pm,an,aO,ct,lK,rfl,l,c⟩,k}
end
theorem acC{A:bz}{k:Nat}(hr:cW k A):A.units+1<cLine:=V9 (Nat.add_le_add_left (by decide:1<=64) _) hr.units
section
variable{X:Cx}
theorem pv(i:Nat){x:Str}{pos:Pos}(hN:X.N[i]?=some x:=by rfl)(hv:vT X.env.scope x:=by first|exact aB rfl|exact aA (aB rfl)|exact aA (aA rfl))(hd:81=false:=by decide)(lA:(x==("__classdict__":Str))=false:=by decide):PE X 482 (qu i):=agX hN hv hd lA
end
def ah(H H':Hp):Prop:=∀b o,H b=some o->H' b=some o
theorem ah.refl(H:Hp):ah H H:=fun _ _ h=>h
theorem ah.trans{H H1 H2:Hp}(a:ah H H1)(b:ah H1 H2):ah H H2:=fun c o h=>b c o (a c o h)
theorem TX:∀{l:List Int}{i:Nat}{z:Int},l[i]?=some z->(l.take (i+1)).sum=(l.take i).sum+z
 |[],i,z,h=>by simp at h
 |a::r,0,z,h=>by have e:a=z:=dZ h;subst e;show([a]:33).sum=([]:33).sum+a;rw[xF];exact Int.add_comm _ _
 |a::r,i+1,z,h=>by have ih:=TX (l:=r) (i:=i) (z:=z) h;show(a::r.take (i+1)).sum=(a::r.take i).sum+z;rw[xF,xF,ih];omega
end L2
section
namespace L2
open PySem PySem.Spec PyProof.Rows
open PySem.W (WData Codec OpenSpec Well WellAll ReadsW ReadsAllW)
mutual
inductive Dw(K:bv)(H:Hp):V->fi->Prop
 |bo:Dw K H .bo .none
 |bl (b:Bool):Dw K H (.bl b) (.bool b)
 |int (i:Int):Dw K H (.int i) (.int i)
 |str (x:Str):Dw K H (.str x) (.str x)
 |iN (b:Array UInt8):Dw K H (.iN b) (.bytes b.toList)
 |lst {a:Addr} {xs:List V} {ds:List fi}:aq K H a xs->lj K H xs ds->Dw K H (.ref a) (.list ds)
 |tup {a:Addr} {xs:List V} {ds:List fi}:bC K H a xs->lj K H xs ds->Dw K H (.ref a) (.tuple ds)
inductive lj(K:bv)(H:Hp):List V->List fi->Prop
 |nil:lj K H [] []
 |cons {v:V} {vs:List V} {d:fi} {ds:List fi}:Dw K H v d->lj K H vs ds->lj K H (v::vs) (d::ds)
end
theorem Qe{K:bv}{H:Hp}:∀ns:List Int,lj K H 210 (592 WData.int)
 |[]=>.nil
 |n::r=>.cons (.int n) (Qe r)
theorem UY{K:bv}{H:Hp}:∀(ns:List Int)(xs:List V),lj K H xs (592 WData.int)->xs=ns.map V.int
 |[],xs,h=>by cases h;rfl
 |n::r,xs,h=>by cases h with|cons h1 h2=>cases h1;rw[UY r _ h2]<;>rfl
section
variable{P:aT}{w:aI}{K:bv}{H:Hp}{h:Heap}{R:aji}{cl:Str->Option Addr}
theorem aga{a:Addr}{xs:231}(aD:243)(KX:760)(q:aq K H a xs):∃(ai:List Value)(o:Obj)(n:Nat),Vals xs ai/\h.get? a=some o/\o.cls=.type "list"/\o.data=.seq ai.toArray n:=by rcases q with q|⟨o,ai,n,e,hc,_,hd,_,hv⟩;obtain⟨_,ai,n,hv,e⟩:=(show cQ P w H h a 248 from q.ok aD);exact{ai,_,n,hv,e,rfl,rfl};exact 872
theorem Z6{a:Addr}{xs:231}(aD:243)(KX:760)(q:bC K H a xs):∃(ai:List Value)(o:Obj)(n:Nat),Vals xs ai/\h.get? a=some o/\o.cls=.type "tuple"/\o.data=.seq ai.toArray n:=by rcases q with q|⟨o,ai,n,e,hc,hd,_,hv⟩;obtain⟨_,ai,hv,o,e,hc,n,hd⟩:=(show cQ P w H h a 193 from q.ok aD);exact⟨ai,o,n,hv,e,hc,hd⟩;exact 872
mutual
theorem Dw.reads(aD:243)(KX:760):∀(d:fi)(v:V)(u:Value),Dw K H v d->RelV v u->∃as,ReadsW R cl h u d as
 |.none,_,_,x,r=>by cases x;cases r;exact{_,ReadsW.none}
 |.bool b,_,_,x,r=>by cases x;cases r;exact{_,ReadsW.bool b}
 |.int i,_,_,x,r=>by cases x;rw[1,r];exact{_,ReadsW.int i t}
 |.str s,_,_,x,r=>by cases x;rw[1,r];exact{_,ReadsW.str s t}
 |.bytes b,_,_,x,r=>by cases x;rw[1,r];exact{_,ReadsW.bytes _ t}
 |.list ds,_,_,x,r=>(by cases x with|lst hs ha=>cases r;obtain⟨ai,o,n,rv,ho,hc,hd⟩:=aga aD KX hs;obtain⟨as,hr⟩:=Dw.readsAll aD KX ds _ ai ha rv;exact{_,ReadsW.list ho hc hd hr})
 |.tuple ds,_,_,x,r=>(by cases x with|tup hs ha=>cases r;obtain⟨ai,o,n,rv,ho,hc,hd⟩:=Z6 aD KX hs;obtain⟨as,hr⟩:=Dw.readsAll aD KX ds _ ai ha rv;exact{_,ReadsW.tuple ho hc hd hr})
 |.float _,_,_,x,_=>by cases x
 |.dict _,_,_,x,_=>by cases x
 |.bytearray _,_,_,x,_=>by cases x
 |.set _,_,_,x,_=>by cases x
 |.frozenset _,_,_,x,_=>by cases x
 |.obj _ _,_,_,x,_=>by cases x
theorem Dw.readsAll(aD:243)(KX:760):∀(ds:List fi)(vs:List V)(us:List Value),lj K H vs ds->Vals vs us->∃as,ReadsAllW R cl h us ds as
 |[],_,_,x,r=>by cases x;cases r;exact{_,ReadsAllW.nil}
 |d::ds,_,_,x,r=>by cases x with|cons h1 h2=>cases r with|cons r1 r2=>obtain⟨as,q1⟩:=Dw.reads aD KX d _ _ h1 r1;obtain⟨bs,q2⟩:=Dw.readsAll aD KX ds _ _ h2 r2;exact{_,ReadsAllW.cons q1 q2}
end
end
mutual
def j4:fi->Bool
 |.none=>true
 |.bool _=>true
 |.int _=>true
 |.str _=>true
 |.bytes _=>true
 |.list xs=>lR xs
 |.tuple xs=>lR xs
 |_=>false
def lR:List fi->Bool
 |[]=>true
 |x::r=>j4 x&&lR r
end
theorem MZ{α:Type}{f:α->fi}(h:∀a,j4 (f a)=true):∀l:List α,lR (l.map f)=true
 |[]=>rfl
 |x::r=>by show(j4 (f x)&&lR (r.map f))=true;rw[h x,MZ h r]<;>rfl
theorem qN:∀(c:Codec)(a:c.denote),j4 (c.enc a)=true
 |.unit,_=>rfl
 |.bool,_=>rfl
 |.int _ _,_=>rfl
 |.nat _ _,_=>rfl
 |.u8,_=>rfl
 |.bytes _ _,_=>rfl
 |.text _ _ _ _,_=>rfl
 |.list _ _ c,a=>MZ (fun x=>qN c x) a
 |.pair c d,a=>by show(j4 (c.enc a.1)&&(j4 (d.enc a.2)&&true))=true;rw[qN c a.1,qN d a.2]<;>rfl
 |.triple c d e,a=>by show(j4 (c.enc a.1)&&(j4 (d.enc a.2.1)&&(j4 (e.enc a.2.2)&&true)))=true;rw[qN c a.1,qN d a.2.1,qN e a.2.2]<;>rfl
 |.option c,none=>rfl
 |.option c,some x=>qN c x
theorem Oi:∀(cs:List Codec)(a:Kr cs),lR (AV cs a)=true
 |[],_=>rfl
 |c::cs,a=>by show(j4 (c.enc a.1)&&lR (AV cs a.2))=true;rw[qN c a.1,Oi cs a.2]<;>rfl
theorem Hr:∀{xs:List fi}{d:fi},d∈xs->d.weight<=Ks xs
 |[],d,h=>absurd h 42
 |x::r,d,h=>by show d.weight<=x.weight+1+Ks r;rcases bE.mp h with e|m;rw[e];omega;have z:=Hr m;omega
def toV:Value->V
 |.none=>.bo
 |.bool b=>.bl b
 |.int i _=>.int i
 |.str x _=>.str x
 |.bytes b _=>.iN b
 |.ref a=>.ref a
 |_=>.bo
def kC(A:261):Value->Prop
 |.none=>True
 |.bool _=>True
 |.int _ _=>True
 |.str _ _=>True
 |.bytes _ _=>True
 |.ref a=>a∈A
 |_=>False
theorem kC.mono{A B:261}(h:∀a∈A,a∈B):∀{u:Value},kC A u->kC B u:=fun{u} x=>by cases u with|ref a=>exact h a x|none=>trivial|bool b=>trivial|int i t=>trivial|str s t=>trivial|bytes b t=>trivial|_=>exact gU x
theorem ade{A:261}{u:Value}(x:kC A u):RelV (toV u) u:=by cases u with|ref a=>rfl|none=>rfl|bool b=>rfl|int i t=>exact⟨t,rfl⟩|str s t=>exact⟨t,rfl⟩|bytes b t=>exact⟨t,rfl⟩|_=>exact gU x
theorem vP{A:261}:∀{vs:List Value},(∀u∈vs,kC A u)->Vals 604 vs
 |[],_=>.nil
 |u::r,h=>.cons (ade (h u (cY ..))) (vP fun x hx=>h x (cZ _ hx))
def lE(h:Heap)(A:261)(a:Addr):Prop:=∃vs:List Value,vs.length<=sizeLine/\(∀u∈vs,kC A u)/\
 (h.get? a=some {cls:=.type "list",data:=.seq vs.toArray}\/h.get? a=some {cls:=.type "tuple",data:=.seq vs.toArray})
theorem lE.mono{h:Heap}{A B:261}{a:Addr}(k:∀a∈A,a∈B)(x:lE h A a):lE h B a:=by obtain⟨vs,h1,h2,h3⟩:=x;exact{vs,h1,fun u hu=>(h2 u hu).mono k,h3}
theorem BW{P:sk}{h:Heap}:∀{vs:List Value}{ds:List fi},sj P h vs ds->vs.length=ds.length
 |_,_,.nil=>rfl
 |_,_,.cons _ b=>by show _+1=_+1;rw[BW b]
theorem LD{P:sk}{h:Heap}{v:Value}{ds:List fi}(x:Well P h v (.list ds)):∃(a:Addr)(vs:List Value),v=.ref a/\h.get? a=some {cls:=.type "list",data:=.seq vs.toArray}/\sj P h vs ds:=by cases x with|list ho iY=>exact{_,_,rfl,ho,iY}
theorem Q6{P:sk}{h:Heap}{v:Value}{ds:List fi}(x:Well P h v (.tuple ds)):∃(a:Addr)(vs:List Value),v=.ref a/\h.get? a=some {cls:=.type "tuple",data:=.seq vs.toArray}/\sj P h vs ds:=by cases x with|tuple ho iY=>exact{_,_,rfl,ho,iY}
theorem Ti{P:sk}{h:Heap}{us:97}{d:fi}{ds:List fi}(x:sj P h us (d::ds)):∃(v:Value)(vs:List Value),us=v::vs/\Well P h v d/\sj P h vs ds:=by cases x with|cons a b=>exact{_,_,rfl,a,b}
theorem Vo{n:Nat}(h:n<=1048576):n<=sizeLine:=dG h 29
section
variable{P:sk}{h:Heap}
mutual
theorem adE:∀(d:fi)(v:Value),Well P h v d->j4 d=true->d.weight<=1048576->∃A:List Addr,kC A v/\∀a∈A,lE h A a
 |.none,_,x,_,_=>by cases x;exact 275
 |.bool b,_,x,_,_=>by cases x;exact 275
 |.int i,_,x,_,_=>by cases x;exact 275
 |.str s,_,x,_,_=>by cases x;exact 275
 |.bytes b,_,x,_,_=>by cases x;exact 275
 |.list ds,_,x,p,z=>(by obtain⟨a,vs,rfl,ho,iY⟩:=LD x;ext:29;rcases bE.mp hb with e|m;rw[e];exact{vs,Vo 991,fun u hu=>(h1 u hu).mono k,.inl ho};exact(h2 b m).mono k)
 |.tuple ds,_,x,p,z=>(by obtain⟨a,vs,rfl,ho,iY⟩:=Q6 x;ext:29;rcases bE.mp hb with e|m;rw[e];exact{vs,Vo 991,fun u hu=>(h1 u hu).mono k,.inr ho};exact(h2 b m).mono k)
 |.float _,_,_,p,_=>kX (69 p)
 |.dict _,_,_,p,_=>kX (69 p)
 |.bytearray _,_,_,p,_=>kX (69 p)
 |.set _,_,_,p,_=>kX (69 p)
 |.frozenset _,_,_,p,_=>kX (69 p)
 |.obj _ _,_,_,p,_=>kX (69 p)
theorem DM:∀(ds:List fi)(vs:List Value),sj P h vs ds->lR ds=true->(∀d∈ds,d.weight<=1048576)->∃A:List Addr,(∀u∈vs,kC A u)/\∀a∈A,lE h A a
 |[],_,x,_,_=>by cases x;exact{[],fun u m=>absurd m 42,fun a m=>absurd m 42}
 |d::ds,_,x,p,z=>by obtain⟨v,vs,rfl,x1,x2⟩:=Ti x;have q:j4 d=true/\lR ds=true:=ajk.mp p;obtain⟨A,a1,a2⟩:=adE d v x1 q.1 (z d (cY ..));obtain⟨B,b1,b2⟩:=DM ds vs x2 q.2 fun e he=>z e (cZ _ he);have kA:∀b∈A,b∈A++B:=fun b hb=>bP.mpr (.inl hb);have kB:∀b∈B,b∈A++B:=fun b hb=>bP.mpr (.inr hb);refine{A++B,fun u hu=>?_,fun b hb=>?_};rcases bE.mp hu with e|m;rw[e];exact a1.mono kA;exact(b1 u m).mono kB;rcases bP.mp hb with m|m;exact(a2 b m).mono kA;exact(b2 b m).mono kB
end
end
def Dy(o:Obj):Option HO:=match o.data with
 |.seq vs _=>if(o.cls==kf "list")=true then some (.b_ o (80 (vs.toList.map toV)))else some (.b_ o (.tup (vs.toList.map toV)))
 |_=>none
def g9(K:bv)(h:Heap)(A:261):Hp:=fun b=>if b∈A then(if(K.lookup b).isNone=true then(h.get? b).bind Dy else none)else none
def wp(H:Hp):Prop:=∀b,H b=none\/∃o u,H b=some 494
theorem Lq(vs:97):Dy {cls:=.type "list",data:=.seq vs.toArray}=some (.b_ {cls:=.type "list",data:=.seq vs.toArray} (80 604)):=by show(if(kf "list"==kf "list")=true then some (929 (80 506))else some (929 (.tup 506)))=_;rw[if_pos (beq_self_eq_true _)]
theorem R4(vs:97):Dy {cls:=.type "tuple",data:=.seq vs.toArray}=some (.b_ {cls:=.type "tuple",data:=.seq vs.toArray} (.tup 604)):=by show(if(kf "tuple"==kf "list")=true then some (909 (80 506))else some (909 (.tup 506)))=_;rw[if_neg 29]
section
variable{P:aT}{w:aI}{K:bv}{h:Heap}{A:List Addr}
theorem DH{b:Addr}{o:Obj}(hb:b∈A)(hk:K.lookup b=none)(e:354 b o):g9 K h A b=Dy o:=by unfold g9;rw[if_pos hb,hk,if_pos (show(none:96 Obj).isNone=true from rfl),e]<;>rfl
theorem afJ{b:Addr}{u:HO}(q:g9 K h A b=some u):b∈A/\K.lookup b=none:=by
 unfold g9 at q;by_cases hb:b∈A;rw[if_pos hb]at q;cases hk:K.lookup b with|none=>exact⟨hb,rfl⟩|some o=>rw[hk,if_neg 42]at q;cases q
 rw[if_neg hb]at q;cases q
theorem ED(ar:∀a∈A,lE h A a){b:Addr}{u:HO}(q:g9 K h A b=some u):K.lookup b=none/\∃vs:List Value,vs.length<=sizeLine/\(∀u∈vs,kC A u)/\((h.get? b=some {cls:=.type "list",data:=.seq vs.toArray}/\u=.b_ {cls:=.type "list",data:=.seq vs.toArray} (80 604))\/(h.get? b=some {cls:=.type "tuple",data:=.seq vs.toArray}/\u=.b_ {cls:=.type "tuple",data:=.seq vs.toArray} (.tup 604))):=by obtain⟨hb,hk⟩:=afJ q;obtain⟨vs,h1,h2,h3⟩:=ar b hb;refine{hk,vs,h1,h2,?_};rcases h3 with e|e;rw[DH hb hk e,Lq]at q;exact .inl {e,(dZ q).symm};rw[DH hb hk e,R4]at q;exact 546 {e,(dZ q).symm}
theorem ab2(ar:∀a∈A,lE h A a):wp (g9 K h A):=fun b=>by cases q:g9 K h A b with|none=>exact 148|some u=>obtain⟨_,vs,_,_,⟨_,e⟩|⟨_,e⟩⟩:=ED ar q;exact 546 {_,_,by rw[e]};exact 546 {_,_,by rw[e]}
theorem ahk(ar:∀a∈A,lE h A a):cP P w (g9 K h A) h:=fun b u q=>by obtain⟨_,vs,h1,h2,⟨e,rfl⟩|⟨e,rfl⟩⟩:=ED ar q;exact{e,by rw[az];exact h1,vs,_,vP h2,e};exact{e,by rw[az];exact h1,vs,vP h2,_,e,rfl,_,rfl}
theorem Ed{c c':Value}{vs us:97}(e:(some {cls:=c,data:=.seq vs.toArray}:96 Obj)=some {cls:=c',data:=.seq us.toArray}):c=c'/\vs=us:=by have e1:=dZ e;have e2:c=c':=eC Obj.cls e1;have e3:Kt vs.toArray=Kt us.toArray:=eC Obj.data e1;injection e3 with e4;refine{e2,?_};have e5:=eC J6 e4;simpa using e5
theorem Xo(KX:760)(ar:∀a∈A,lE h A a){a:Addr}{vs:97}(ha:a∈A)(e:h.get? a=some {cls:=.type "list",data:=.seq vs.toArray}):(∀u∈vs,kC A u)/\aq K (g9 K h A) a 604:=by
 obtain⟨us,h1,h2,h3⟩:=ar a ha;have hu:us=vs:=by rcases h3 with q|q;rw[e]at q;exact(Ed q).2.symm;rw[e]at q;exact 89 (ajl (Ed q).1) 29
 subst hu;refine{h2,?_};cases hk:K.lookup a with|none=>exact .inl (546 {_,by rw[DH ha hk e,Lq]})|some o=>have e2:=KX a o hk;rw[e]at e2;obtain rfl:=dZ e2;exact 546 {_,us.toArray,_,hk,rfl,rfl,rfl,by rw[dk];exact h1,by simpa using vP h2}
theorem acK(KX:760)(ar:∀a∈A,lE h A a){a:Addr}{vs:97}(ha:a∈A)(e:h.get? a=some {cls:=.type "tuple",data:=.seq vs.toArray}):(∀u∈vs,kC A u)/\bC K (g9 K h A) a 604:=by
 obtain⟨us,h1,h2,h3⟩:=ar a ha;have hu:us=vs:=by rcases h3 with q|q;rw[e]at q;exact 89 (ajl (Ed q).1) 29;rw[e]at q;exact(Ed q).2.symm
 subst hu;refine{h2,?_};cases hk:K.lookup a with|none=>exact .inl (546 {_,by rw[DH ha hk e,R4]})|some o=>have e2:=KX a o hk;rw[e]at e2;obtain rfl:=dZ e2;exact 546 {_,us.toArray,_,hk,rfl,rfl,by rw[dk];exact h1,by simpa using vP h2}
mutual
theorem agJ{Pm:sk}(KX:760)(ar:∀a∈A,lE h A a):∀(d:fi)(v:Value),Well Pm h v d->j4 d=true->kC A v->Dw K (g9 K h A) (toV v) d
 |.none,_,x,_,_=>by cases x;exact .bo
 |.bool b,_,x,_,_=>by cases x;exact .bl b
 |.int i,_,x,_,_=>by cases x;exact 835
 |.str s,_,x,_,_=>by cases x;exact .str s
 |.bytes b,_,x,_,_=>by cases x;have z:=Dw.iN (K:=K) (H:=g9 K h A) b.toArray;exact z
 |.list ds,_,x,p,hu=>by obtain⟨a,vs,rfl,ho,iY⟩:=LD x;obtain⟨h2,hs⟩:=Xo KX ar hu ho;exact .lst hs (Cp KX ar ds _ iY p h2)
 |.tuple ds,_,x,p,hu=>by obtain⟨a,vs,rfl,ho,iY⟩:=Q6 x;obtain⟨h2,hs⟩:=acK KX ar hu ho;exact .tup hs (Cp KX ar ds _ iY p h2)
 |.float _,_,_,p,_=>kX (69 p)
 |.dict _,_,_,p,_=>kX (69 p)
 |.bytearray _,_,_,p,_=>kX (69 p)
 |.set _,_,_,p,_=>kX (69 p)
 |.frozenset _,_,_,p,_=>kX (69 p)
 |.obj _ _,_,_,p,_=>kX (69 p)
theorem Cp{Pm:sk}(KX:760)(ar:∀a∈A,lE h A a):∀(ds:List fi)(vs:List Value),sj Pm h vs ds->lR ds=true->(∀u∈vs,kC A u)->lj K (g9 K h A) 604 ds
 |[],_,x,_,_=>by cases x;exact .nil
 |d::ds,_,x,p,hu=>by obtain⟨v,vs,rfl,x1,x2⟩:=Ti x;have q:j4 d=true/\lR ds=true:=ajk.mp p;exact .cons (agJ KX ar d v x1 q.1 (hu _ (cY ..))) (Cp KX ar ds vs x2 q.2 fun u m=>hu u (cZ _ m))
end
end
theorem aca{P:aT}{w:aI}{K:bv}{mg mb:95}{CX:gL}{k:Nat}{fa:Addr}{fd:eW}{ps:132}{sp:Sp}{bO:Shared}{vals:97}{ds:List fi}{R:aji}{cl:Str->Option Addr}{d0:fi}(KX:K.In bO.heap)(gI:bO.heap.Ns mainGlobals mg)(hb:bO.heap.Ns builtinsNs mb)(hbb:∀x:Str,x≠"__name__"->mb x=gS x)(aax:bO.heap.NoLimit)(hg:bO.gens=#[])(Ad:sj w.params bO.heap vals ds)(dj:lR ds=true)(hwt:∀d∈ds,d.weight<=1048576)(hr:cW k AW)(F:∀base:Heap,K.In base->base.Ns mainGlobals mg->aE P w K mg base CX k fa fd ps sp)(ahT:∀(s:Shared)(us:List Value),us.length=ps.length->BindsTo s fd {us,[]} 672)(bK:ds.length=ps.length)(ly:∀(H:Hp)(xs:List V),wp H->lj K H xs ds->sp xs H (fun v H'=>Dw K H' v d0) fun _ _ _=>False)(yr:∀H e s',CX [] H bO 1056 e s'->False):codeAny (model P w) AW (.call (.ref fa) {vals,[]}) (fun r s'=>∃u as,r=.ok (.ret u)/\ReadsW R cl s'.heap u d0 as/\OldK bO.heap s'.heap/\s'.os=bO.os/\uE s'.gens) bO:=by
 obtain⟨A,ho,ar⟩:=DM ds vals Ad dj hwt;have hO:wp (g9 K bO.heap A):=ab2 ar;have aD:cP P w (g9 K bO.heap A) bO.heap:=ahk ar;have hS:=Cp KX ar ds vals Ad dj ho;have hV:=vP ho;have hK:∀b u,g9 K bO.heap A b=some u->K.lookup b=none:=fun b u q=>(ED ar q).1;have xf:∀{b:Addr}{o:Obj}{es:Array DictEntry}{ep:Nat},bO.heap.get? b=some o->o.data=.dict es ep->g9 K bO.heap A b=none:=fun{b o es ep} e d=>by cases q:g9 K bO.heap A b with|none=>rfl|some u=>obtain⟨_,vs,_,_,⟨e2,_⟩|⟨e2,_⟩⟩:=ED ar q;ext:146;ext:146
 generalize g9 K bO.heap A=H at hO aD hS hK xf;have Q2:∀{b:Addr}{o:Obj},bO.heap.get? b=some o->H b=none->(oZ bO.heap H).get? b=some o:=fun e n=>aee e n;have Cc:∀{b:Addr}{m:Str->Option Value},bO.heap.Ns b m->(oZ bO.heap H).Ns b m:=fun{b m} ⟨o,es,ep,e,d,r⟩=>{o,es,ep,Q2 e (xf e d),d,r};have nK:∀b o,K.lookup b=some o->H b=none:=fun b o e=>by cases q:H b with|none=>rfl|some u=>rw[hK b u q]at e;cases e
 have QS:K.In (oZ bO.heap H):=fun b o e=>Q2 (KX b o e) (nK b o e);have hM:Mod K mg (oZ bO.heap H):={QS,Cc gI,{mb,Cc hb,hbb},let⟨mc,h1,h2⟩:=aax;{mc,Cc h1,h2}};have e0:um P w K mg (oZ bO.heap H) AW [] bO H:={rfl,hM,fun b o e=>aeA e,EH (adT _ _),trivial,fun b hb=>absurd (show b∈([]:261)from hb) 42,aD,.of_eq hg};have hl:vals.length=ps.length:=by rw[BW Ad];exact bK
 refine codeAny_mono ((F _ QS (Cc gI)).run AW [] bO H {vals,[]} vals (vals.map toV) _ _ hr e0 (ahT bO vals hl) hV (ly H _ hO hS)) fun r s' x=>?_;cases r with|error e=>exact(yr H e s' x).elim|ok fl=>cases fl with|next=>exact gU x|brk=>exact gU x|cont=>exact gU x|ret u=>obtain⟨v,H',os,bare,un,NZ,r',q⟩:=x;(have kept:∀b o,bO.heap.get? b=some o->s'.heap.get? b=some o:=fun b o e=>by cases q2:H b with|none=>exact un.keep b o e q2 (by intro z;exact 89 (show b∈([]:261)from z) 42) 42|some u2=>rcases hO b with z|⟨ob,u3,z⟩;rw[q2]at z;cases z;have z2:=un.kD b ob _ z;obtain⟨e1,_⟩:=aD b _ z;obtain⟨e2,_⟩:=NZ b _ z2;rw[e]at e1;cases e1;exact e2);have KX':K.In s'.heap:=fun b o e=>kept b o (KX b o e);obtain⟨as,k_⟩:=Dw.reads (R:=R) (cl:=cl) NZ KX' d0 v u q r';exact{u,as,rfl,k_,OldK.of_keep kept,os,bare}
theorem aa3{ds:List fi}(h:WData.layableAll ds=true):∀d∈ds,d.weight<=1048576:=fun d hd=>(PySem.W.layableW_iff.mp (kU.mp h d hd)).2.2
theorem U1:∀(cs:List Codec)(a:Kr cs),(AV cs a).length=cs.length
 |[],_=>rfl
 |c::cs,a=>by show(AV cs a.2).length+1=cs.length+1;rw[U1 cs a.2]
theorem ZP{r:OpenSpec}{k:Nat}{q:aT}{loose:132}{XP:95->Heap->Prop}{YP:aI->Heap->Prop}{d:DefRec}{K:sk->bv}{CX:aI->gL}{ps:132}{sp:aI->Sp}(JG:r.wellSaid=true)(OH:d.params.defaults=[])(bK:r.args.length=ps.length)(hr:cW k AW)(hY:∀(w:aI)(h:Heap),YP w h->(K w.params).In h)(F:∀(w:aI)(mg:Str->Option Value)(fa:Addr)(h:Heap),YP w h->(K w.params).In h->h.Ns mainGlobals mg->mg d.name=some (.ref fa)->∃fd:eW,(∀(s:Shared)(us:List Value),us.length=ps.length->BindsTo s fd {us,[]} 672)/\∀base:Heap,(K w.params).In base->base.Ns mainGlobals mg->aE r.prog w 682 mg base (CX w) k fa fd ps (sp w))(ly:∀(w:aI)(H:Hp)(xs:List V)(a:Kr r.args),wp H->Codec.withinAll r.args a=true->EQ r.args r.asked a=true->lj 682 H xs (AV r.args a)->sp w xs H (931 682) fun _ _ _=>False)(yr:∀(w:aI)(H:Hp)(s:Shared)(e:Value)(s':Shared),CX w [] H s 1056 e s'->False):PySem.W.WalkOS q loose XP YP r d [] (fun f vs=>PySem.call f vs):=by intro w fB bO mg mb G Y fa o pm cd iG dV kV ho hd lA hD Jk hg args vals as Ey WT k_ Ad hlo;obtain⟨a,e1,e2⟩:=PySem.W.os_pre_some Ey;obtain⟨e3,Il⟩:=Codec.encAll_of_decAll r.args args a e1;subst e3;have KX:=hY w _ Y;obtain⟨fd,hb,hF⟩:=F w mg fa _ Y KX G.T.g Jk;refine PySem.W.enter_call (codeAny_mono (aca (R:=[]) (cl:=classAt fB.heap) (d0:=r.ret.enc (EQ r.args r.f a)) KX G.T.g G.T.b G.T.builtins G.T.nolimit hg Ad (Oi _ _) (aa3 WT) hr hF hb (by rw[U1];exact bK) (fun H xs hO hS=>ly w H xs a hO Il e2 hS) fun H e s'=>yr w H bO e s') fun r' s' hq=>?_);obtain⟨u,as',rfl,h1,h2,h3,h4⟩:=hq;exact{.inl {u,_,as',rfl,fun _=>rfl,h1,(OpenSpec.post_iff JG Il _ _).mpr rfl,fun z=>kX (69 z)},h2,h3,h4}
theorem aih{r:OpenSpec}{k:Nat}{q:aT}{loose:132}{XP:95->Heap->Prop}{YP:aI->Heap->Prop}{d:DefRec}{K:sk->bv}{CX:gL}{ps:132}{sp:bv->Sp}(JG:r.wellSaid=true)(OH:d.params.defaults=[])(bK:r.args.length=ps.length)(hr:cW k AW)(hY:∀(w:aI)(h:Heap),YP w h->(K w.params).In h)(F:∀(w:aI)(mg:Str->Option Value)(fa:Addr)(h:Heap),YP w h->(K w.params).In h->h.Ns mainGlobals mg->mg d.name=some (.ref fa)->∃fd:eW,(∀(s:Shared)(us:List Value),us.length=ps.length->BindsTo s fd {us,[]} 672)/\∀base:Heap,(K w.params).In base->base.Ns mainGlobals mg->aE r.prog w 682 mg base CX k fa fd ps (sp 682))(ly:∀(K:bv)(H:Hp)(xs:List V)(a:Kr r.args),wp H->Codec.withinAll r.args a=true->EQ r.args r.asked a=true->lj K H xs (AV r.args a)->sp K xs H (931 K) fun _ _ _=>False)(yr:∀(H:Hp)(s:Shared)(e:Value)(s':Shared),CX [] H s 1056 e s'->False):PySem.W.WalkOS q loose XP YP r d [] (fun f vs=>PySem.call f vs):=ZP (K:=K) (CX:=fun _=>CX) (sp:=fun w=>sp 682) JG OH bK hr hY F (fun w H xs a h1 h2 h3 h4=>ly 682 H xs a h1 h2 h3 h4) fun _ H s e s'=>yr H s e s'
end L2
end
namespace XW
open PySem PySem.W PySem.Calls PyProof.Rows
structure Iz(K:Frag)(C:Addr):Prop where
 ga:uM K (.ref C) "__getattribute__"=some (some (.builtin "BaseException.__getattribute__"))
 gt:uM K (.ref C) "__getattr__"=some none
 mb:mroIn K C (.type "BaseException")=some true
theorem Z9(self:Value):bindSpecial 833 self=pure (.builtin "BaseException.__getattribute__",[self]):=by
 have h1:withoutEnding? "BaseException.__getattribute__" "#opaque"=none:=by decide+kernel
 have h2:withoutEnding? "BaseException.__getattribute__" "#data"=none:=by decide+kernel
 have h3:builtinKind "BaseException.__getattribute__"=some .slot:=by decide+kernel
 simp only[bindSpecial,typeOf,builtinType,h1,h2,h3];rfl
theorem abe:builtinKind "BaseException.__getattribute__"=some .slot:=by decide+kernel
theorem aeV:splitId "BaseException.__getattribute__"=some ("BaseException","__getattribute__"):=by decide+kernel
section
variable{prog:aT}{w:aI}{A:bz}{E:Value->Shared->Prop}{s:Shared}{K:Frag}{x C:Addr}{ox:Obj}{od:Option Obj}{name:Str}{expr:Bool}{Q:Value->Shared->Prop}
theorem abT{M:oB}{h:Heap}(X:760)(I:VF h x ox C od)(hx:Iz K C):Looks M h (Ku 679 583) true:=I.type.andThen (looks_mroIn X hx.mb)
theorem af3{v:Value}(X:987)(I:VF s.heap x ox C od)(hx:Iz K C)(hf:findObj K C od name=some (.value v))(hh:handedIn v=true)(h:Q v {s with toks:=s.toks+1}):wpAny 35 A (getAttr 679 name expr) Q E s:=by
 obtain⟨hp,g,d,t,os⟩:=s;have L0:=I.type (M:=model prog w);have L1:=looks_findIn (M:=model prog w) X hx.ga;have L2:=looks_findIn (M:=model prog w) X hx.gt;have LF:=looks_find (M:=model prog w) X I hf;unfold getAttr getAttrBy;rw[0,(wpAny_mkText (368 (22 (L0.at (22 (L1.at ?_))))))];ext:0;rw[show(onTheHeap (cj C)&&xE "BaseException.__getattribute__"==xE "object.__getattribute__")=false from by rw[show(xE "BaseException.__getattribute__"==xE "object.__getattribute__")=false from by decide+kernel,Bool.and_false]];rw[if_neg 29];unfold getAttrByItsOwn hookBefore;rw[if_pos (show onTheHeap (cj C)=true from rfl)];rw[0,(L2.at (22 (AX 627)))];unfold callGetattribute;rw[show(expr&&onTheHeap (xE "BaseException.__getattribute__"))=false from by cases expr<;>rfl];rw[if_neg 29];unfold boundAndCalled;rw[Z9];refine 22 78;refine AF ?_;refine Kv PySem.F.attr_Exception.ga.plain F.entry_bexc_ga ?_;refine @check_slot 35 _ _ _ "BaseException.__getattribute__" "BaseException" "__getattribute__" 679 [.str name t] [] _ abe aeV (abT X I hx) (F.args_bexc_ga _ _) ?_;rw[0,(58 (22 (58 (22 (L0.at (22 (LF.at ?_)))))))]
 refine 78;rw[2,(handedOut v)];rw[handedOut_of hh];exact 58 h
end
end XW
namespace XW
open PySem PySem.W PySem.Calls PyProof.Rows
def Tail(h:Heap)(e:Addr)(vs:136)(tb:513):Prop:=
 match tb with
 |none=>vs[1]?=some .none
 |some T=>vs[1]?=some (.ref T)/\T≠e/\∃oT ts,h.get? T=some oT/\oT.data=.fields ts/\ts[3]?=some .none
structure xm(fs:List Addr)(e:Addr)(oe:Obj)(tb:Option Addr)(h h':Heap):Prop where
 keep:∀b o,b≠e->b∉fs->tb≠some b->h.get? b=some o->h'.get? b=some o
 slot:∀b o,b∈fs->h.get? b=some o->∃sl,h'.get? b=some {o with slots:=sl}
 exc:∃mx T,h'.get? e=some {oe with data:=.fields mx}/\Tail h' e mx (some T)/\h.objs.size<=T
section
variable{M:oB}{A:bz}{E:Value->Shared->Prop}{s:Shared}
theorem YG(o:Obj)(vs:136)(hd:o.data=.fields vs)(f:Array Value->Array Value):mZ f o={o with data:=.fields (f vs)}:=by obtain⟨c,d,dt,sl⟩:=o;cases hd;rfl
theorem Tt{base:Heap}{env:Env}{outer:621}{L e:Addr}{oe:Obj}{vs:136}{head:Value}{W4:Bool}{Q:312}(jg:736)(hl:558)(hf:env.frame=some L)(he:281 e oe)(hd:766)(hsz:1<vs.size)(h:∀h',xm 556 e oe none s.heap h'->Q () {s with heap:=h'}):wpAny M A (do let a<-frameOf env;let pl<-entryPlaceOf L W4;let b<-ajm head a .none (rawInt L) .none pl;setField 966 1 b) 662 E s:=by
 have cC:e∉(env::outer).filterMap (·.frame):=by intro hm;obtain⟨_,o,ho,hn⟩:=hl.mem hm;rw[he]at ho;cases ho;exact hn vs hd
 rw[0,(wpAny_frameOf_fun jg hl hf fun g1 hs=>?_)];rw[0,(wpAny_entryPlaceOf fun pl dj=>?_)];unfold ajm newFields;rw[0,(ki ?_ (dj.sizeOk5 _ _ _ _ _))];have e1:g1.get? e=some oe:=(hs.2.1 e cC).trans he;generalize hN:({cls:=.type "traceback",dict:=none,data:=.fields ([head,.ref L,.none,rawInt L,.none]++(if pl.isEmpty then cS 6 fh else pl)).toArray}:Obj)=nw;have dN:nw.data=.fields ([head,.ref L,.none,rawInt L,.none]++(if pl.isEmpty then cS 6 fh else pl)).toArray:=by rw[<-hN]
 have e2:(g1.push nw).get? e=some oe:=bG _ e1;refine ER e2 hd hsz ?_;have neT:g1.objs.size≠e:=kR (bn e1);have e3:=pZ 446 e2 (Kw (ES hd (·.setIfInBounds 1 (cj g1.objs.size))));rw[YG oe vs hd]at e3;have FN:nw.isFreed=false:=Kw dN;have t3:=(iy (g1.push nw) 446 (cJ neT)).trans (c_ g1 FN);unfold setFlight;rw[0,(ib e3 rfl (x:=.ref g1.objs.size) (by simp[hsz]) ?_)];rw[if_pos (show(cj g1.objs.size !=fh)=true from by simp)];refine ER t3 dN (by simp only[dk,bw,aR,jl]<;>omega) (h _ ?_);have t4:=pZ 580 t3 (Kw (ES dN _))
 have other:∀b,b≠e->b≠g1.objs.size->∀o,g1.get? b=some o->(((g1.push nw).update e 446).update g1.objs.size 580).get? b=some o:=by intro b h1 h2 o ho;rw[iy _ _ (cJ h2),iy _ _ (cJ h1)];exact bG _ ho
 refine{fun b o h1 h2 _ ho=>?_,fun b o hb ho=>?_,?_};have q:g1.get? b=some o:=(hs.2.1 b h2).trans ho;exact other b h1 (cI (bn q)) o q;obtain⟨sl,q⟩:=hs.2.2 b o ho;refine{sl,other b (393 cC (z▸hb)) (cI (bn q)) _ q};refine{vs.setIfInBounds 1 (cj g1.objs.size),g1.objs.size,?_,{?_,neT,_,_,t4,ES dN _,?_},?_};rw[iy _ _ neT];exact e3;simp[hsz];simp;rw[<-hs.1];exact aV _
end
end XW
namespace XW
open PySem PySem.W PySem.Calls PyProof.Rows
section
variable{M:oB}{A:bz}{E:Value->Shared->Prop}{s:Shared}
theorem OP{base:Heap}{env:Env}{outer:621}{L e:Addr}{oe:Obj}{vs:136}{tb:513}{Q:312}(jg:736)(hl:558)(hf:env.frame=some L)(he:281 e oe)(hd:766)(ht:Tail s.heap e vs tb)(h:∀h',xm 556 e oe tb s.heap h'->Q () {s with heap:=h'}):wpAny M A (noteFrame 966 env) 662 E s:=by
 unfold noteFrame;simp only[hf]
 cases tb with|none=>have h1:vs[1]?=some .none:=ht;rw[0,(ib he hd h1 ?_)];rw[if_neg 29];exact Tt jg hl hf he hd (Kx.mp h1).1 h|some T=>obtain⟨h1,neT,oT,ts,hT,Eu,h3⟩:=ht;rw[0,(ib he hd h1 ?_)];rw[if_pos (show(cj T !=fh)=true from by simp)];rw[0,(ib hT Eu h3 ?_)];rw[if_neg (show¬((fh==rawInt L)=true)from by simp[rawInt])];rw[0,(ER hT Eu (Kx.mp h3).1 ?_)];have other:∀b,b≠T->(s.heap.update T 687).get? b=s.heap.get? b:=fun b hb=>iy _ _ (cJ hb);(have G5:∀b∈(env::outer).filterMap (·.frame),b≠T:=by rintro b hb rfl;obtain⟨_,o,ho,hn⟩:=hl.mem hb;rw[hT]at ho;cases ho;exact hn ts Eu);have hsz:(s.heap.update T 687).objs.size=s.heap.objs.size:=Heap.size_after_update ..;refine Tt (s:={s with heap:=s.heap.update T 687}) jg (hl.of_keeps fun b o hb FN=>{o,(other b ?_).trans hb,rfl}) hf ((other e (cJ neT)).trans he) hd (Kx.mp h1).1 fun h' x=>h h' ?_;rintro rfl;rw[hT]at hb;cases hb;exact FN ts Eu;obtain⟨k1,k2,mx,T',k3,k4,k5⟩:=x;refine{fun b o h1 h2 h3 ho=>k1 b o h1 h2 42 ((other b (393 h3 (by rw[z]))).trans ho),fun b o hb ho=>k2 b o hb ((other b (G5 b hb)).trans ho),mx,T',k3,k4,?_};rw[<-hsz];exact k5
theorem ahZ{base:Heap}{env:Env}{outer:621}{L e:Addr}{oe:Obj}{vs:136}{tb:513}{Q:312}(jg:736)(hl:558)(hf:env.frame=some L)(he:281 e oe)(hd:766)(ht:Tail s.heap e vs tb)(h:∀h',xm 556 e oe tb s.heap h'->Q () {s with heap:=h'}):wpAny M A (leaving env 966) Q E s:=by unfold leaving;exact 22 (OP jg hl hf he hd ht h)
end
end XW
namespace XW
open PySem PySem.Spec PyProof.Rows L2
def ky(C a dx:Addr):Heap->Prop:=fun h=>∃oe vs,h.get? a=some oe/\oe.cls=.ref C/\oe.dict=some dx/\oe.data=.fields vs
def tJ(C a dx:Addr)(m:Nat)(h:Heap)(H:Hp):Prop:=
 H a=some 282/\∃oe vs tb,h.get? a=some oe/\oe.data=.fields vs/\Tail h a vs tb/\∀T,tb=some T->H T=none/\m<=T
def cX(P:aT)(w:aI)(C:Addr):gL:=fun outer H s E e s'=>∃a dx H',e=.ref a/\s'.os=s.os/\uE s'.gens/\Un (gr outer) [] H H' s.heap s'.heap/\cP P w H' s'.heap/\tJ C a dx s.heap.objs.size s'.heap H'/\E 152 (some dx) H'
section
variable{X:Cx}{pins:List (Addr×Obj)}{σ:L2.St}{H:Hp}{s:Shared}{C a dx:Addr}
theorem tJ.afn{m n:Nat}{h:Heap}{H:Hp}(F:tJ C a dx n h H)(k:m<=n):tJ C a dx m h H:=by obtain⟨Aa,oe,vs,tb,e1,e2,e3,e4⟩:=F;exact{Aa,oe,vs,tb,e1,e2,e3,fun T hT=>{(e4 T hT).1,dG k (e4 T hT).2}}
theorem LZ{P:aT}{w:aI}{h h':Heap}{H:Hp}{fs:261}{oe:Obj}{tb:513}(aD:243)(ff:∀b∈fs,H b=none)(ha:324 a 282)(he:354 a oe)(hT:∀T,tb=some T->H T=none)(m:xm fs a oe tb h h'):cP P w H h':=by intro b o e;by_cases hb:b=a;subst hb;rw[ha]at e;cases e;obtain⟨⟨oe1,vs1,q1,q2,q3,q4⟩,_,st⟩:=(show cQ P w H h b (.ext (ky C b dx))from aD b _ ha);rw[he]at q1;cases q1;obtain⟨mx,T,k,_⟩:=m.exc;exact{{_,mx,k,q2,q3,rfl},{_,k},st};refine(aD b o e).eV (fun c u hc q=>m.keep c u ?_ ?_ ?_ q) 535 fun _ _ q=>q;rcases hc with rfl|hc;exact hb;rintro rfl;rw[ha]at hc;cases hc;intro hm;rcases hc with rfl|hc;rw[ff _ hm]at e;cases e;rw[ff _ hm]at hc;cases hc;intro z;rcases hc with rfl|hc;rw[hT _ z]at e;cases e;rw[hT _ z]at hc;cases hc
theorem LN{P:aT}{w:aI}{K:bv}{mg:95}{base:Heap}{N:132}{b4:Str}{scope:fY}{f:Addr}{cd:Value}{A:bz}{outer:621}{s0 s':Shared}{H0 H':Hp}{E:XK}(I:Inv (156 P) pins σ H' s')(F:tJ C a dx s0.heap.objs.size s'.heap H')(hE:E 152 (some dx) H'):(156 P).xe 152 s':=by
 obtain⟨ha,oe,vs,tb,he,hd,ht,hn⟩:=F;refine ahZ I.ok.frames I.stack rfl he hd ht fun h' m=>?_;have ff:∀b∈gr (bb (cX P w C) P w K mg base N b4 scope f cd A outer s0 H0 E).stack,H' b=none:=I.Ez;have sub:∀b∈gr outer,b∈gr (156 P).stack:=fun b hb=>by unfold gr at hb⊢;show b∈List.filterMap _ (_::outer);rw[xq];split;exact hb;exact cZ _ hb
 obtain⟨mx,T',k3,k4,k5⟩:=m.exc;refine{a,dx,H',rfl,I.os,I.bare,106,LZ I.aD ff ha he (fun T z=>(hn T z).1) m,{ha,_,mx,some T',k3,rfl,k4,fun T z=>?_},hE};have q:=I.base.keep b o e n hb hx;have q2:=I.base.free b o e n hx;refine m.keep b o 164 164 164 q;rw[z,ha]at q2;cases q2;rcases bE.mp (I.B7 b z)with y|y;exact 89 376 (by rw[y];exact iw _);exact hb y;exact 360 (dY (bn e) (hn b z).2);obtain⟨sl,q⟩:=I.base.slot b o e n hb hx;obtain⟨Fp,q'⟩:=m.slot b _ (sub b hb) q;exact⟨Fp,q'⟩;obtain⟨o',q⟩:=I.base.there b o e hx;by_cases h1:b=a;subst h1;exact{_,k3};by_cases h2:b∈gr (156 P).stack;obtain⟨sl,q'⟩:=m.slot b o' h2 q;exact{_,q'};refine{o',m.keep b o' h1 h2 164 q};exact 360 (dY (bn e) (hn b z).2);cases z;exact{I.aD.fresh k5,dG I.sz k5}
theorem Sd{P:aT}{w:aI}{K:bv}{mg:95}{base:Heap}{N:132}{b4:Str}{scope:fY}{f:Addr}{cd:Value}{A:bz}{outer:621}{s0:Shared}{H0:Hp}{E E':XK}(hE:∀v d H,E' v d H->E v d H):Passes (cX P w C) (156 P) E':=by rintro pins σ H s e s' I ⟨a,dx,H',rfl,os,bare,un,aD,F,q⟩;exact LN (I.Df os un aD bare fun b z=>absurd z 42) (F.afn I.sz) (hE _ _ _ q)
end
end XW
namespace XW
open PySem PySem.Spec PyProof.Rows L2
open PySem.W (Frag)
structure qC(K:Frag)(C N fI:Addr):Prop where
 ex:∃nm q bs sn sub ab col dd k0 k1 k2 k3 k5,K.lookup C=some (ET nm q C N bs [.type "Exception",.type "BaseException",.type "object"] true sn sub ab col dd k0 k1 k2 k3 k5 "Exception.__new__")
 ok:PySem.W.nsOkIn K N=true
 init:EU K N "__init__"=some (some (.ref fI))
 sa:EU K N "__setattr__"=some none
 word:EU K N "word"=some none
 fn:(K.lookup fI).any (fun o=>o.cls==.type "function")=true
 kp:oE K (.ref C)=true
 x:Iz K C
 hd:J9 K C=true
 fw:pU K (.ref C) "word"=some none
theorem aeR:typeLookup (.type "Exception") "word"=pure none:=by rw[V_,V'];kernel_rfl
section
variable{prog:aT}{w:aI}{A:bz}{E:Value->Shared->Prop}{h:Heap}{g:Array EF}{d:Drawn}{t:Nat}{os:OsState}{C N x:Addr}{mN:Str->Option Value}{v:Value}{o:Obj}{B newId sa owner:String}{bm:List Value}
 {nm q fld:Str} {bs:List Value} {sn:List Str} {sub:List Value} {ab:Bool} {col:Option Bool} {dd:Option Addr} {k0 k1 k2 k3 k5:Option Value}
theorem YO{tk:Tok}{Q:Fin->Shared->Prop}(SF:StoreFacts B bm sa owner)(hC:530)(hn:h.Ns N mN)(h2:mN fld=none)(hB:1010)(hx:354 x o)(hc:o.cls=.ref C)(JC:∀c,o.data≠.cls c)(Fs:o.dict=none)(hq:∀h' li,h'.get? x=some {o with dict:=some h.objs.size}->h'.Ns1 h.objs.size 927->(∀b ob,b≠x->h.get? b=some ob->h'.get? b=some ob)->Q (.done (.ret .none)) ⟨h',g,d,li,os⟩):wpAny 35 A (Builtin.«object.__setattr__» {[.ref x,.str fld tk,v],[]}) Q E ⟨h,g,d,t,os⟩:=by
 have My:=SF.passes 679;unfold Builtin.«object.__setattr__»;repeat(first|rw[refuse_eq]|(rw[refuseLoop_ref,My])|(with_reducible refine wpAny_loadPart_at hx ?_;rw[hc])|with_reducible refine wpAny_mroOf_exc hC ?_ |(with_reducible refine wpAny_typeLookup_exc hC hn SF.mro hB ?_;rw[h2])|wp_step)
 rw[Fs,if_neg (by simp[typeHasDict])];split;rename_i z;cases z;split;rename_i c z;exact 89 z (JC c)
 (·have x1:(h.push {cls:=.type "dict",data:=.dict #[]}).get? x=some o:=bG _ hx;have xs:x≠h.objs.size:=cI (bn hx);rw[0,(wpAny_alloc' (22 (wpAny_update' x1 78)))];have gd:(448 x).get? h.objs.size=some {cls:=.type "dict",data:=.dict #[]}:=(ajn _ _ _ _ xs.symm).trans (Heap.get?_push_at rfl rfl);have nd:(448 x).Ns h.objs.size (fun _=>none):={_,#[],_,gd,rfl,fun e he=>absurd he 42,fun _=>rfl};rw[2,(ajo h.objs.size (.str fld tk) fld v)];unfold ajo Builtin.ObjectAttr.newKeyGuard;rw[0,(58 (22 (wpAny_nsSet1 (ai2 nd) fun h' Ch hs=>?_)))];obtain⟨oD,esD,epD,Jr,Iq,Ie⟩:=Ch.count (Within.cons fld v Within.nil);rw[0,(wpAny_lookBehind Jr (by rw[Iq];exact pastItsLine_dict (dG Ie (by rw[aR,jl,sizeLine_eq];omega))) ?_)];wp_walk;refine hq h' _ ?_ Ch fun b ob hb ho=>?_;refine(hs.2 x xs).trans (pZ _ x1 ?_);have z:=(Heap.get?_some_iff.mp hx).2;obtain⟨oc,od,Qp,lK⟩:=o;(cases Qp<;>first|rfl|exact z);exact(hs.2 b (cI (bn ho))).trans ((ajn _ _ _ _ hb).trans (bG _ ho)))
theorem aiM{Q:312}(SF:StoreFacts B bm sa owner)(hC:530)(hn:h.Ns N mN)(h1:mN "__setattr__"=none)(h2:mN fld=none)(hB:1010)(hx:354 x o)(hc:o.cls=.ref C)(JC:∀c,o.data≠.cls c)(Fs:o.dict=none)(hq:∀h' li,h'.get? x=some {o with dict:=some h.objs.size}->h'.Ns1 h.objs.size 927->(∀b ob,b≠x->h.get? b=some ob->h'.get? b=some ob)->Q () ⟨h',g,d,li,os⟩):wpAny 35 A (setAttr 679 fld v) Q E ⟨h,g,d,t,os⟩:=by
 have f3:=SF.slot.bind 679;unfold setAttr callSpecial? specialOf;repeat(any_goals(first|assumption|(with_reducible refine wpAny_loadPart_at hx ?_;rw[hc])|(with_reducible refine wpAny_typeLookup_exc hC hn SF.mro SF.slot.lookup ?_;rw[h1])|wp_step))
 refine Kv SF.slot.plain SF.entry (wpAny_check_sa SF hC hx hc (YO SF hC hn h2 hB hx hc JC Fs fun h' li z1 z2 z3=>?_));repeat(any_goals(first|assumption|wp_step))
 exact hq h' li z1 z2 z3
end
end XW
namespace XW
open PySem PySem.Spec PyProof.Rows L2
open PySem.W (Frag)
theorem cQ.get{P:aT}{w:aI}{H:Hp}{h:Heap}{a:Addr}:∀{o:HO},cQ P w H h a o->∃u,h.get? a=some u
 |.lst _,⟨_,_,_,_,e⟩=>{_,e}
 |.tup _,⟨_,_,_,_,e,_⟩=>{_,e}
 |.dK _,⟨_,_,_,_,_,_,_,e,_⟩=>{_,e}
 |.dT _,⟨_,_,_,_,_,_,_,e,_⟩=>{_,e}
 |.set _ _,⟨_,_,_,_,e,_⟩=>{_,e}
 |.ins _ _ _,⟨_,_,_,e,_⟩=>{_,e}
 |.own _,⟨_,e⟩=>{_,e}
 |.xd _,⟨_,⟨_,_,_,e,_⟩,_⟩=>{_,e}
 |.Dv _ _,⟨_,_,_,e⟩=>{_,e}
 |.b_ _ _,⟨e,_⟩=>{_,e}
 |.ra _,e=>{_,e}
 |.met _ _,e=>{_,e}
 |.ext _,⟨_,⟨_,e⟩,_⟩=>{_,e}
theorem cP.free{P:aT}{w:aI}{H:Hp}{h:Heap}{a:Addr}(x:243)(e:h.get? a=none):H a=none:=by cases q:H a with|none=>rfl|some o=>obtain⟨u,hu⟩:=cQ.get (x a o q);rw[e]at hu;cases hu
section
variable{X:Cx}{pins:List (Addr×Obj)}{σ:L2.St}{H:Hp}{s:Shared}{C a dx:Addr}
theorem Inv.grow{o:HO}{h':Heap}{t':Nat}(I:409)(k:∀b u,s.heap.get? b=some u->h'.get? b=some u)(hn:s.heap.get? a=none)(new:cQ X.prog X.w 813 h' a o):L2.Inv X pins σ 813 {s with heap:=h',toks:=t'}:=by
 have ha:H a=none:=cP.free I.aD hn;have nb:∀b u,s.heap.get? b=some u->b≠a:=fun b u e z=>by rw[z,hn]at e;cases e
 have nt:∀b u,H b=some u->b≠a:=fun b u e=>bF e ha;refine I.un (h':=h') (t':=t') {fun b u e _ _ _=>k b u e,fun b u e _ _ _=>{u.slots,k b u e},fun b u e n _=>by rw[ay (nb b u e)];exact n,fun b u e _=>{u,k b u e},fun b xs e=>by rw[ay (nt b _ e)];exact e,fun b o u e=>by rw[ay (nt b _ e)];exact e,fun b ps e=>{#[],by rw[ay (nt b _ e),e];simp}} ?_;intro b u e;ext:117;exact new;rw[ay hb]at e;exact(I.aD b u e).eV (fun c v _ q=>k c v q) (fun c q=>by rw[ay (nt c _ q)];exact q) fun c xs q=>by rw[ay (nt c _ q)];exact q
def Dr(C a:Addr):Heap->Prop:=fun h=>∃oe vs,h.get? a=some oe/\oe.cls=.ref C/\oe.dict=none/\oe.data=.fields vs/\vs[1]?=some .none
def w9(C a dx:Addr):Heap->Prop:=fun h=>∃oe vs,h.get? a=some oe/\oe.cls=.ref C/\oe.dict=some dx/\oe.data=.fields vs/\vs[1]?=some .none
def ag1(C:Addr)(ta tv:TE):TS:=fun D σ H=>tv σ H fun y H1=>ta σ H1 fun x H2=>∃a i,x=.ref a/\y=.int i/\H2 a=some 952/\
 ∀dx,H2 dx=none->dx≠a->D.nx σ (upd (upd H2 dx 207) a 594)
theorem W0{N fI:Addr}{o value:aH}{pos gN:Pos}{ta tv:TE}(W:840)(ha:919)(hv:837)(hs:Ay value (some (.Attribute o "word" gN)) pos.line X.env=pure false):PS X (.Assign [.Attribute o "word" gN] value pos) (ag1 C ta tv):=by
 rw[18,D];refine ajp (aG 899 fun u s1 ⟨y,H1,I1,ry,q⟩=>aG (ha pins s1 σ H1 _ I1 q) fun ov s2 ⟨x,H2,I2,rx,a,i,ex,ey,ea,q2⟩=>?_) hs;subst ex;subst ey;rw[7,ov];obtain⟨tk,rfl⟩:=ry;obtain⟨⟨oe,vs,he,hc,hd,OX,hv1⟩,_,_⟩:=(show cQ X.prog X.w H2 s2.heap a 952 from I2.aD a _ ea);ext:182;have KX:=I2.eU;have hN:s2.heap.Ns N (s2.heap.nsMap N):=.of_isNs (ajq KX W.ok);obtain⟨hp,g,d,t,os⟩:=s2;refine aiM PySem.F.store_Exception (KX _ _ hC) hN (ajr KX W.ok W.sa) (ajr KX W.ok W.word) aeR he hc (fun c z=>by rw[OX]at z;cases z) hd fun h' li z1 z2 z3=>?_;have jg:H2 hp.objs.size=none:=I2.aD.fresh 227;have cC:hp.objs.size≠a:=kR (bn he);have na:∀b u,H2 b=some u->b≠a->upd (upd H2 hp.objs.size 207) a (.ext (w9 C a hp.objs.size)) b=some u:=fun b u e n=>by rw[ay n,ay (bF e jg)];exact e
 refine{σ,_,I2.un (h':=h') (t':=li) {fun b o e n _ _=>z3 b o 164 e,fun b o e n _ _=>{o.slots,z3 b o 164 e},fun b o e n _=>?_,fun b o e _=>?_,fun b xs e=>na b _ e 164,fun b o u e=>na b _ e 164,fun b ps e=>{#[],by rw[na b _ e (by rintro rfl;rw[ea]at e;cases e)];simp}} ?_,q2 _ jg cC};rw[z,ea]at n;cases n;rw[z,ea]at n;cases n;rw[ay (fun z=>by rw[z,ea]at n;cases n),ay (cI (bn e))];exact n;by_cases hb:b=a;subst hb;exact{_,z1};exact{o,z3 b o hb e};rw[z,ea]at e;cases e;rw[z,ea]at e;cases e;intro b u e;ext:117;refine{{_,vs,z1,hc,rfl,OX,hv1},{_,z1},?_};rintro h1 h2 ⟨o1,v1,x1,x2⟩ kk;exact{o1,v1,kk _ x1,x2};rw[ay hb]at e;by_cases hx:b=hp.objs.size;rw[hx,aM]at e;cases e;rw[hx];refine{_,z2,fun f=>?_};by_cases hf:f="word";subst hf;ext:143;show hW (some (V.int i)) (some (eA i tk));exact⟨tk,rfl⟩;rw[if_neg hf];have e2:rV f [(("word":Str),V.int i)]=none:=by rw[uJ,show(f==("word":Str))=false from rN.mpr hf];rfl
 rw[e2];trivial;rw[ay hx]at e;refine(I2.aD b u e).eV (fun c v iS q'=>z3 c v 164 q') (fun c q'=>na c _ q' 164) fun c xs q'=>na c _ q' 164;rcases iS with y|y;exact hb (y.symm.trans z);rw[z,ea]at y;cases y;rw[z,ea]at q';cases q';rw[z,ea]at q';cases q'
end
end XW
namespace XW
open PySem PySem.Spec PyProof.Rows L2
open PySem.W (Frag)
section
variable{M:oB}{A:bz}{E:Value->Shared->Prop}{env:Env}{s:Shared}{C N:Addr}
 {nm q:Str} {bs bm:List Value} {hdct:Bool} {sn:List Str} {sub:List Value} {ab:Bool} {col:Option Bool} {dd:Option Addr} {k0 k1 k2 k3 k5:Option Value} {newId:String}
theorem adH{x:Sem Value}{Q:Flow->Shared->Prop}(tD:bm.contains 583=true)(hh:149)(h:wpAny M A x (fun v s1=>∃e oe vs,v=.ref e/\s1.heap.get? C=some (ET nm q C N bs bm hdct sn sub ab col dd k0 k1 k2 k3 k5 newId)/\s1.heap.get? e=some oe/\oe.cls=.ref C/\oe.data=.fields vs/\vs[1]?=some .none/\E 966 s1) E s):wpAny M A (raiseStmt env (some x) none) Q E s:=by
 have hcB:(cj C::bm).contains 583=true:=by rw[List.contains_cons,tD,Bool.or_true]
 unfold raiseStmt;rw[0,(ji h (fun v s1 hv=>?_) fun _ _ z=>z)];obtain⟨e,oe,vs,rfl,hC,he,hc,hd,h1,hE⟩:=hv;obtain⟨hp,g,d,tk,os⟩:=s1;obtain⟨oc,od,Qp,lK⟩:=oe;cases hc;cases hd;repeat(first|with_reducible refine wpAny_loadPart_at he ?_ |with_reducible refine wpAny_loadPart_at hC ?_ |(with_reducible refine wpAny_isSubtype_exc hC ?_;rw[hcB])|wp_step)
 rw[h1];refine 78;rw[if_neg 29];exact 58 (wpAny_raiseNew_none hh hE)
end
theorem acP{K:Frag}{h:Heap}{N:Addr}{mN:95}{n:Str}{v:Value}(KX:760)(G:h.Ns N mN)(e:EU K N n=some 456):mN n=some v:=by obtain⟨o,es,ep,ho,hd,_,hf⟩:=G;unfold EU at e;split at e;rename_i q;rw[KX _ _ q]at ho;cases ho;cases hd;split at e;rename_i en he;cases e;rw[<-hf n,nsFind,findBy,<-VE,he]<;>rfl;split at e<;>cases e;cases e
def D_(C:Addr):Sp:=fun vs H Q _=>∃a i,vs=[.ref a,.int i]/\H a=some 952/\∀dx,H dx=none->dx≠a->Q .bo (upd (257 dx 207) a 594)
def To(C:Addr)(te:TE)(XE:955):TS:=fun _ σ H=>te σ H fun v H1=>∃i,v=.int i/\∀a dx,H1 a=none->H1 dx=none->dx≠a->XE a dx (upd (upd H1 dx 207) a 282)
section
variable{X:Cx}{C N fI:Addr}{fd:eW}{k:Nat}{x:Str}{e:aH}{te:TE}{np gJ pos:Pos}{XE:Addr->Addr->Hp->Prop}
theorem Yk{H:Hp}{a b:Addr}{o o' u:HO}:upd (upd 813 b u) a o'=upd (257 b u) a o':=by funext c;by_cases h1:c=a;simp[upd,h1];by_cases h2:c=b<;>simp[upd,h1,h2]
theorem agk{pins:256}{σ:L2.St}{H:Hp}{s:Shared}{i:Int}{tk:Tok}{Q:43}(W:840)(F:571)(hr:925)(hb:843 X.K)(I:409)(h:∀a dx s',H a=none->H dx=none->dx≠a->L2.Inv X pins σ (upd (257 dx 207) a 594) s'->Q 152 s'):wpAny 37 X.A (call 407 [.int i tk]) Q X.xe s:=by
 ext:182;have KX:=I.eU;have hN:s.heap.Ns N (s.heap.nsMap N):=.of_isNs (ajq KX W.ok);obtain⟨hp,g,d,t,os⟩:=s;obtain⟨oI,hoI,Yf⟩:∃oI,hp.get? fI=some oI/\oI.cls=.type "function":=by have z:=W.fn;cases q:X.K.lookup fI with|none=>rw[q]at z;cases z|some o=>rw[q]at z;exact{o,KX _ _ q,eq_of_beq z}
 refine wpAny_call_exc_init PySem.F.excBase_Exception (KX _ _ hC) hN ?_ hoI Yf (fun h' a m=>?_) (by show 1<=sizeLine;decide);exact acP KX hN W.init;obtain⟨t0,ht,_,_⟩:=m.there;have I2:L2.Inv X pins σ (257 a 952) ⟨h',g,d,t,os⟩:=Inv.grow (t':=t) I m.keeps m.new {{_,_,ht,rfl,rfl,rfl,rfl},{_,ht},fun h1 h2 ⟨oe,vs,q1,q2⟩ kk=>{oe,vs,kk _ q1,q2}};have r2:Vals [V.ref a,V.int i] [cj a,eA i tk]:=.cons rfl (716 ⟨tk,rfl⟩);have na:H a=none:=cP.free I.aD m.new;refine AF (codeAny_mono (F.run _ X.stack _ _ {[.ref a,.int i tk],[]} [.ref a,.int i tk] [V.ref a,V.int i] (fun v H'=>v=.bo/\∃dx,H dx=none/\dx≠a/\H'=upd (257 dx 207) a 594) E0 (hr.make C [.int i tk] []) (I2.JE.make C [.int i tk] []) (hb _ [.ref a,.int i tk] I2.eU rfl) r2 {a,i,rfl,aM,fun dx h1 h2=>{rfl,dx,?_,h2,Yk}}) fun r s' i_=>?_);rw[ay h2]at h1;exact h1;cases r with|error e=>exact gU i_|ok fl=>cases fl with|ret u=>obtain⟨v,H',I3,rv,ev,dx,n1,n2,eH⟩:=I2.after i_;subst ev;subst eH;exact{rv,h a dx s' na n1 n2 I3}|next=>exact gU i_|brk=>exact gU i_|cont=>exact gU i_
theorem aii(W:840)(F:571)(hr:925)(hg:Gl X x)(hm:548 407)(hb:843 X.K)(he:414)(hx:∀(pins:List 72)(σ:L2.St)(H:Hp)(s':Shared)(a dx:Addr),L2.Inv X pins σ H s'->tJ C a dx X.fB.heap.objs.size s'.heap H->XE a dx H->X.xe 152 s')(eK:81=false:=by decide)(de:starEach [e] X.env=[(false,eval e X.env)]:=by rfl):PS X 644 (To C te XE):=by
 rw[18,D];obtain⟨nm,qn,bs,sn,sub,ab,col,dd,k0,k1,k2,k3,k5,hC⟩:=id W.ex;rw[arm_exec_Raise];rw[0,(Az (adH (C:=C) (N:=N) (nm:=nm) (q:=qn) (bs:=bs) (bm:=[.type "Exception",.type "BaseException",.type "object"]) (hdct:=true) (sn:=sn) (sub:=sub) (ab:=ab) (col:=col) (dd:=dd) (k0:=k0) (k1:=k1) (k2:=k2) (k3:=k3) (k5:=k5) (newId:="Exception.__new__") 47 hr.hd ?_))];refine 22 626;refine AG (h₀:=X.base) I.ok.mod.rm W.kp ?_ de rfl;refine aG ((aa he ae de) gJ pins s σ H (fun vs H1=>match vs with|[v]=>∃i,v=.int i/\∀a dx,H1 a=none->H1 dx=none->dx≠a->XE a dx (upd (upd H1 dx 207) a 282)|_=>False) I h) fun us s1 ⟨vs,H1,I1,r,q⟩=>{I1.eU,?_}
 cases r with|nil=>exact q.elim|cons r1 r2=>cases r2 with|cons _ _=>exact q.elim|nil=>obtain⟨i,rfl,q⟩:=q;obtain⟨tk,rfl⟩:=r1;refine agk W F hr hb I1 fun a dx s2 n1 n2 n3 I2=>?_;rw[0,(Az 78)];obtain⟨⟨oe,vs,q1,q2,q3,q4,q5⟩,_,_⟩:=(show cQ X.prog X.w _ s2.heap a 594 from I2.aD a _ aM);have I3:=I2.write (x:=a) (e:=a) (o:=.ext (ky C a dx)) (h':=s2.heap) (t':=s2.toks) (by rw[aM];trivial) 148 (fun _ _ _ z=>z) {_,q1} {⟨oe,vs,q1,q2,q3,q4⟩,{_,q1},fun h1 h2 ⟨oe,vs,z1,z2⟩ kk=>{oe,vs,kk _ z1,z2}};rw[mD]at I3;exact{a,oe,vs,rfl,I2.eU _ _ hC,q1,q2,q4,q5,hx pins σ _ s2 a dx I3 {aM,oe,vs,none,q1,q4,q5,fun T z=>791} (q a dx n1 n2 n3)}
end
end XW
namespace XW
open PySem PySem.Spec PyProof.Rows L2
open PySem.W (Frag)
abbrev OC(X:Cx)(pins:256):Cx:={X with pn:=X.pn++pins}
abbrev kJ(X:Cx)(C:Addr)(XE:955)(pins:256):Cx:=
 {X with pn:=X.pn++pins,xe:=fun e s'=>∃a dx σ H' m,e=.ref a/\L2.Inv (OC X pins) [] σ H' s'/\tJ C a dx m s'.heap H'/\X.fB.heap.objs.size<=m/\(∀p∈X.pn++pins,p.1<m)/\XE a dx H'}
abbrev sX(X:Cx)(a:Addr):Cx:={X with A:=X.A.mark (some 152),calm:=false,xe:=fun _ _=>False}
section
variable{X:Cx}{pins:List (Addr×Obj)}{σ:L2.St}{H:Hp}{s:Shared}{C a dx:Addr}{XE:Addr->Addr->Hp->Prop}
theorem SE{X':Cx}(ok:X.Ok)(e:X'={X with pn:=X'.pn,xe:=X'.xe}):X'.Ok:=by rw[e];exact 135
theorem af6(ok:X.Ok):(sX X a).Ok:={ok.mod,ok.kind,ok.glob,ok.blt,ok.above,ok.inj,ok.has,ok.tM,fun z=>791,ok.frames,ok.u_,ok.vz,ok.bs,ok.lu,ok.ua,ok.uv,ok.j_,ok.oP}
theorem aal(I:409):L2.Inv (383 X) [] σ H s:={SE I.ok rfl,I.os,I.bare,I.base,I.loc,I.cell,I.free,I.gy,fun p hp=>I.pin p (by rw[fN]at hp;exact hp),I.aD,I.len}
theorem agu(I:L2.Inv (OC X pins) [] σ H s)(ok:X.Ok):L2.Inv X pins σ H s:={ok,I.os,I.bare,I.base,I.loc,I.cell,I.free,I.gy,fun p hp=>I.pin p (by rw[fN];exact hp),I.aD,I.len}
theorem LB(I:409):L2.Inv (sX X a) pins σ H s:={af6 I.ok,I.os,I.bare,I.base,I.loc,I.cell,I.free,I.gy,I.pin,I.aD,I.len}
theorem ago(I:L2.Inv (sX X a) pins σ H s)(ok:X.Ok):L2.Inv X pins σ H s:=⟨ok,I.os,I.bare,I.base,I.loc,I.cell,I.free,I.gy,I.pin,I.aD,I.len⟩
theorem acQ{E:XK}(hE:∀a d H,E 152 (some d) H->XE a d H):Passes (cX X.prog X.w C) (383 X) E:=by rintro CK σ H s e s' I ⟨a,dx,H',rfl,os,bare,un,aD,F,q⟩;have I2:L2.Inv (383 X) CK σ H' s':=I.Df os un aD bare fun b z=>absurd z 42;refine{a,dx,σ,H',s.heap.objs.size,rfl,{SE I2.ok rfl,I2.os,I2.bare,I2.base,I2.loc,I2.cell,I2.free,I2.gy,fun p hp=>I2.pin p (rO _ (by rw[fN]at hp;exact hp)),I2.aD,I2.len},F,I.sz,fun p hp=>?_,hE _ _ _ q};exact bn (I.pin p (rO _ hp)).1
theorem ab6{oe:Obj}{vs:136}{tb:513}{h':Heap}{m:Nat}(I:409)(ha:324 a 282)(he:281 a oe)(hd:766)(ht:Tail s.heap a vs tb)(hT:∀T,tb=some T->H T=none/\m<=T)(h0:X.fB.heap.objs.size<=m)(hp:∀p∈X.pn++pins,p.1<m)(mk:xm (gr X.stack) a oe tb s.heap h'):L2.Inv X pins σ H {s with heap:=h'}:=by
 have ff:∀b∈gr X.stack,H b=none:=I.Ez;have hTf:∀T,tb=some T->∃oT ts,s.heap.get? T=some oT/\oT.data=.fields ts:=fun T z=>by subst z;obtain⟨_,_,oT,ts,q1,q2,_⟩:=ht;exact⟨oT,ts,q1,q2⟩
 refine I.Df (s':={s with heap:=h'}) (ch:=tb.toList) rfl {fun b o e n hb hx=>mk.keep b o 164 hb (393 hx (by rw[z];simp)) e,fun b o e n hb hx=>mk.slot b o hb e,fun b o e n hx=>n,fun b o e hx=>?_,fun _ _ e=>e,fun _ _ _ e=>e,fun b ps e=>{#[],by rw[e];simp}} (LZ I.aD ff ha he (fun T z=>(hT T z).1) mk) I.bare fun b hb=>?_;rw[z,ha]at n;cases n;by_cases h1:b=a;subst h1;obtain⟨mx,T',k,_⟩:=mk.exc;exact{_,k};by_cases h2:b∈gr X.stack;obtain⟨sl,q⟩:=mk.slot b o h2 e;exact{_,q};exact{o,mk.keep b o h1 h2 (393 hx (by rw[z];simp)) e};have z:tb=some b:=by cases tb with|none=>exact 89 hb 42|some T=>simp at hb;rw[hb]
 obtain⟨oT,ts,q1,q2⟩:=hTf b z;refine{.inr (dG h0 (hT b z).2),fun y=>?_,fun x c e y=>?_,fun p pF y=>?_};obtain⟨m',⟨o,es,ep,ho,fg,_⟩,_⟩:=I.loc;rw[y,ho]at q1;cases q1;rw[fg]at q2;cases q2;obtain⟨v,o,ho,fg⟩:=I.cell x c e;rw[y,q1]at ho;cases ho;rw[q2]at fg;cases fg;have q3:=hp p pF;rw[y]at q3;exact 360 (dY q3 (hT b z).2)
theorem aco{h':Heap}{m':95}{t':Nat}(I:409)(hn:h'.Ns X.env.locals m')(hs:lW X.env.locals s.heap h'):L2.Inv X pins (cS X.N.length none) H {s with heap:=h',toks:=t'}:=by have lc:∀b o,X.fB.heap.get? b=some o->b≠X.env.locals:=fun b o e=>cI 376;refine{I.ok,I.os,I.bare,106,{m',hn,fun i x v e1 e2 e3=>?_},fun x c e=>?_,I.free,I.gy,fun p hp=>?_,fun b u e=>?_,by simp};exact(hs.2 b (lc b o e)).trans 504;obtain⟨sl,q⟩:=I.base.slot b o e n hb hx;exact{sl,(hs.2 b (lc b o e)).trans q};obtain⟨o',q⟩:=I.base.there b o e hx;exact{o',(hs.2 b (lc b o e)).trans q};rw[VO]at e2;split at e2<;>cases e2;obtain⟨v,z⟩:=I.cell x c e;exact{v,z.sameBut hs (I.qw x c e)};obtain⟨q1,q2,q3,q4⟩:=I.pin p hp;exact{(hs.2 p.1 q3).trans q1,q2,q3,q4};refine(I.aD b u e).eV (fun c v hc q=>(hs.2 c ?_).trans q) 535 fun _ _ q=>q;rintro rfl;rcases hc with y|y;rw[<-y,I.free]at e;cases e;rw[I.free]at y;cases y
def acF(X:Cx)(C:Addr)(i:Nat)(XE:955)(tb ts:TS):TS:=fun D σ H=>tb D σ H/\∀a dx H',H' a=some 282->XE a dx H'->ts {nx:=fun _ _=>False,rt:=D.rt} ((cS X.N.length none).set i (some 152)) H'
theorem ag3{N fI:Addr}{body:List aL}{x n:Str}{np XR pos:Pos}{b0:aL}{NC:List aL}{tb ts:TS}{i:Nat}(W:840)(de:X.stack=X.env::X.outer)(jg:X.env.frame=some X.env.locals)(hg:Gl X x)(hm:548 407)(hN:X.N.Nodup)(hi:X.N[i]?=some n)(hl:X.env.scope.names.lookup n=some .local)(hb:∀pins,i9 (383 X) body tb)(hs:∀a,i9 (sX X a) (b0::NC) ts)(eK:81=false:=by decide):PS X (.Try body [.ExceptHandler (some (.Name x np)) (some n) (b0::NC) XR] [] [] pos) (acF X C i XE tb ts):=by
 rintro pins s σ H D I ⟨h1,h2⟩;refine wpAny_Try_except (ji (hb pins [] s σ H D (aal I) h1) (fun f s1 q=>?_) fun e s1 q=>?_);have back:∀{aW:L2.St}{H':Hp}{s':Shared},L2.Inv (383 X) [] aW H' s'->L2.Inv X pins aW H' s':=fun J=>{I.ok,J.os,J.bare,J.base,J.loc,J.cell,J.free,J.gy,fun p hp=>J.pin p (by rw[fN];exact hp),J.aD,J.len};cases f with|next=>obtain⟨aW,H',J,q⟩:=q;exact EG {aW,H',back J,q}|brk=>obtain⟨aW,H',J,q⟩:=q;exact{aW,H',back J,q}|cont=>obtain⟨aW,H',J,q⟩:=q;exact{aW,H',back J,q}|ret u=>obtain⟨v,aW,H',J,r,q⟩:=q;exact{v,aW,H',back J,r,q}
 obtain⟨a,dx,oR,H1,m,rfl,I1,⟨ha,oe,vs,tb,he,hd,ht,hT⟩,hm0,hp0,hx⟩:=q;have qA:=agu I1 I.ok;refine OP (by rw[I.ok.frames,de]) (by have z:=qA.stack;rw[de]at z;exact z) jg he hd ht fun h' mk=>?_;have mk':xm (gr X.stack) a oe tb s1.heap h':=by rw[de];exact mk
 have I2:L2.Inv X pins oR H1 {s1 with heap:=h'}:=ab6 qA ha he hd ht hT hm0 hp0 mk';obtain⟨⟨oe',vs0,y1,y2,y3,y4⟩,_,_⟩:=(show cQ X.prog X.w H1 s1.heap a 282 from qA.aD a _ ha);rw[he]at y1;cases y1;obtain⟨mx,T,k1,⟨k2,k3,oT,tts,k4,k5,k6⟩,k7⟩:=mk.exc;obtain⟨nm,qn,bs,sn,sub,ab,col,dd,j0,j1,j2,j3,j5,hC⟩:=W.ex;refine wpAny_handleBy_cons (codeAny_handlers_test (wj (X:=sX X a) (LB I2) hg hm ?_ eK)) (by intro q;cases q);refine wpAny_excMatches_sub_self (I2.eU _ _ hC) k1 y2 47 ?_;refine codeAny_handlers_suite_as ?_;refine wpAny_setFlight_none k1 rfl k2 k4 k5 (Kx.mp k6).1 ?_
 have I3:L2.Inv X pins oR H1 {s1 with heap:=h'.update T 625,toks:=s1.toks}:=by refine Inv.turned (s:={s1 with heap:=h'}) (h':=h'.update T 625) (t':=s1.toks) (it:=T) I2 (fun b o hb q=>(iy _ _ (cJ hb)).trans q) (qA.aD.fresh k7) (fun y=>?_) (546 (dG qA.sz k7)) (fun z c e y=>?_) fun p hp y=>?_;have:=bn (show s1.heap.get? _=some _ from(qA.loc.choose_spec.1.choose_spec.choose_spec.choose_spec.1));rw[y]at k7;exact 360 (dY this k7);obtain⟨v,o,ho,_⟩:=qA.cell z c e;rw[y]at ho;exact 360 (dY (bn ho) k7);have:=bn (qA.pin p hp).1;rw[y]at this;exact 360 (dY this k7)
 have I4:L2.Inv (sX X a) pins (cS X.N.length none) H1 {s1 with heap:=h'.update T 625,toks:=s1.toks}:=LB (I3.weak (by rw[uH];exact I3.len.symm) fun j v z=>by rw[VO]at z;split at z<;>cases z);refine Ej (X:=sX X a) I4 hN hi (.inl hl) (show RelV 152 152 from rfl) (fun s2 I5=>?_) (.inr hl);refine ji (hs a pins s2 _ H1 _ I5 (h2 a dx H1 ha hx)) (fun f s3 q=>?_) fun _ _ z=>z.elim;cases f with|next=>obtain⟨_,_,_,q⟩:=q;exact q.elim|brk=>obtain⟨_,_,_,q⟩:=q;exact q.elim|cont=>obtain⟨_,_,_,q⟩:=q;exact q.elim|ret u=>obtain⟨v,aW,H',J,r,q⟩:=q;have J':=ago J I.ok;obtain⟨mm,gI,_⟩:=J'.loc;refine wpAny_nameGoes hl gI (by rw[I.ok.kind];rfl) fun jh m2 q1 q2=>{v,_,H',aco J' q1 q2,r,q}
end
end XW
namespace XW
open PySem PySem.Spec PyProof.Rows L2
open PySem.W (Frag)
theorem afZ{h:Heap}{d:Addr}{mA:95}{n:Str}{v:Value}(x:h.Ns1 d mA)(e:mA n=some v):∃od,h.get? d=some od/\AD n od=some 456:=by obtain⟨o,es,ep,h1,h2,_,_,h5⟩:=x;refine{o,h1,?_};unfold AD;rw[h2];have q:=(h5 n).trans e;unfold nsFind findBy at q;rw[<-VE]at q;ext:0;cases z:es.toList.find? (fun e=>e.key.isStr n)with|none=>rw[z]at q;cases q|some en=>rw[z]at q;exact eC some q
def acj(C:Addr)(ta:TE):TE:=fun σ H Q=>ta σ H fun x H1=>∃a dx i,x=.ref a/\H1 a=some 282/\H1 dx=some 207/\Q 835 H1
section
variable{X:Cx}{C N fI:Addr}{e:aH}{pos:Pos}{ta:TE}
theorem Yq(W:840)(he:PE X e ta)(hb:xu e "word" X.env (217 e)=eval e X.env):PE X (.Attribute e "word" pos) (acj C ta):=by
 rw[18,Q];refine Rt hb (aG 159 fun u s1 ⟨x,H1,I1,rx,a,dx,i,ex,ea,ed,q⟩=>?_);subst ex;rw[7,u];obtain⟨⟨oe,vs,q1,q2,q3,q4⟩,_,_⟩:=(show cQ X.prog X.w H1 s1.heap a 282 from I1.aD a _ ea);obtain⟨mA,n1,n2⟩:=(show cQ X.prog X.w H1 s1.heap dx 207 from I1.aD dx _ ed);obtain⟨v,hv,tk,rfl⟩:∃v,mA "word"=some v/\∃tk,v=eA i tk:=by have z:hW (some (V.int i)) (mA "word"):=n2 "word";cases y:mA "word"with|none=>rw[y]at z;exact z.elim|some v=>rw[y]at z;exact⟨v,rfl,z⟩
 obtain⟨od,o1,o2⟩:=afZ n1 hv;refine af3 (od:=some od) (C:=C) I1.eU {q1,q2,by unfold PySem.W.notCls;rw[q4],by rw[q3];exact o1} W.x (aiZ W.hd W.fw rfl o2) rfl {.int i,H1,I1.tok _,⟨tk,rfl⟩,q}
end
end XW
namespace PC
open PySem PySem.Spec PyProof.Rows L2 XW
open PySem.W (Frag)
variable{P:aT}{w:aI}{K:Frag}{mg:Str->Option Value}{base:Heap}
theorem RM{H:Hp}{o:HO}{R:Addr->Hp->Prop}(h:∀p H1,ah H H1->H p=none->H1 p=some o->R p H1):∀p,H p=none->R p (257 p o):=fun p hp=>h p _ (fun b u e=>by rw[ay (bF e hp)];exact e) hp aM
theorem ah.refl{H:Hp}:ah H H:=fun _ _ e=>e
section
variable{X:Cx}
def ZN:R2:=fun x y H Q=>∃a b xs ys,x=.ref a/\y=.ref b/\H a=some 193/\H b=some (.tup ys)/\xs.length+ys.length<=sizeLine/\∀p H1,ah H H1->H1 p=some (.tup (xs++ys))->Q 310 H1
theorem yP:dg X (kg .Add) ZN:=by intro pins s σ H x y v u Q I rx ry h;obtain⟨a,b,xs,ys,rfl,rfl,ha,hb,hz,q⟩:=h;by_cases hx:xs=[];subst hx;cases rx;cases ry;ext:121;obtain⟨ir,r2,⟨⟨adk,Dm,data2,Em⟩,ug,wz,n2,yT⟩,_⟩:=I.tuple (bC.of hb);simp only at hc hd wz yT;subst hc hd wz yT;have e1:ai=[]:=r1.En.mpr rfl;refine 399 (tuple_addW0 a b ai.toArray ir.toArray n n2 dd Dm sl Em (by simp[e1])) {ho,ug,?_};exact{.ref b,H,I,rfl,q b H ah.refl (by rw[V3];exact hb)};exact aeE pins s σ H _ _ v u Q I rx ry {a,b,xs,ys,rfl,rfl,.of ha,.of hb,hx,hz,fun z=>q a H ah.refl (by rw[z,fN];exact ha),fun _=>RM fun p H1 S _ e=>q p H1 S e}
theorem Uj(x:Value):∀(k:Nat)(acc:Array Value),AJ 744 acc (cS k #[x])=acc++(cS k x).toArray
 |0,acc=>by simp
 |k+1,acc=>by rw[rZ,p6,Uj x k,rZ,aiW];congr 1;simp
theorem YJ{z:Int}(h:z<=1000000):¬ajs z=true:=by unfold ajs;rw[sizeLine_eq];simp;omega
theorem Zd(l:Addr)(x:Value)(n:Nat)(k:Int)(u:Tok)(dd:513)(sl:274)(h0:0<=k)(h01:k≠1)(h1:k<=1000000):Meets (Builtin.«tuple.__mul__» {[.ref l,.int k u],[]}) (fun _ R s=>s.heap.get? l=some {cls:=.type "tuple",dict:=dd,data:=.seq #[x] n,slots:=sl}/\R (.ok (.ret 84)) {s with heap:=s.heap.push {cls:=.type "tuple",data:=.seq (cS k.toNat x).toArray}}):=.of_wp fun prog w A R s h=>by obtain⟨hp,g,d,tk,os⟩:=s;obtain⟨hl,h⟩:=h;wp_walk;rw[if_neg 79];by_cases hk:k<=0;(·(have e:k=0:=by omega);subst e;wp_walk;exact 831);(·have e:=Uj x k.toNat #[];rw[Array.empty_append]at e;wp_walk;rw[if_neg 79];wp_walk;rw[if_neg (YJ 79)];wp_walk;rw[e];rw[if_neg (by rw[dk,uH,sizeLine_eq];omega)];wp_walk;exact 831)
theorem acI:fillsNumberSlot 517 "mul"=pure false:=PySem.fillsNumberSlot_seq (id:="tuple.__mul__") (r:=some (.builtin "tuple.__rmul__")) Ky.lookup 47 F.slot_tuple_rmul.lookup 47
theorem agV:seqRepeat? 517=pure (some (.builtin "tuple.__mul__")):=by unfold seqRepeat?;rw[PySem.seqSlot_of (T:="tuple") (name:="__mul__") (id:="tuple.__mul__") Ky.lookup 47,PySem.seqSlot_of (T:="tuple") (name:="__rmul__") (id:="tuple.__rmul__") F.slot_tuple_rmul.lookup 47];rfl
theorem agf(a:Int)(t:Tok)(l:Addr)(o:Obj)(ai:136)(n:Nat)(hc:o.cls=.type "tuple")(hd:o.data=.seq ai n):Meets (Builtin.«int.__rmul__» {[.int a t,.ref l],[]}) (fun _ R s=>s.heap.get? l=some o/\R (.ok (.ret Value.notImplemented)) s):=.of_wp fun prog w A R s h=>by obtain⟨hp,g,d,tk,os⟩:=s;obtain⟨hl,h⟩:=h;obtain⟨c,dd,dt,sl⟩:=o;cases hc;cases hd;wp_walk;exact 831
theorem aiv(l:Addr)(x:Value)(n:Nat)(u:Tok)(dd:513)(sl:274):Meets (Builtin.«tuple.__mul__» {[.ref l,.int 1 u],[]}) (fun _ R s=>s.heap.get? l=some {cls:=.type "tuple",dict:=dd,data:=.seq #[x] n,slots:=sl}/\R (.ok (.ret 283)) s):=.of_wp fun prog w A R s h=>by obtain⟨hp,g,d,tk,os⟩:=s;obtain⟨hl,h⟩:=h;wp_walk;exact 831
def Ys:R2:=fun x y H Q=>∃a z k,x=.ref a/\y=.int k/\H a=some (.tup [z])/\0<=k/\k<=1000000/\∀p H1,ah H H1->H1 p=some (.tup (cS k.toNat z))->Q 310 H1
theorem Ov:dg X (kg .Mult) Ys:=by intro pins s σ H x y v u Q I rx ry h;obtain⟨a,z,k,rfl,rfl,ha,h0,h1,q⟩:=h;cases rx;rw[1,ry];ext:121;simp only at hc hd;subst hc hd;cases r1 with|cons r1 r2=>cases r2;refine ai9 (T:="tuple") (U:="int") 29 {_,ho,rfl} (fun s'=>xB s' k t) acI F.fills_int_mul Kh agV F.slot_int_index.lookup (880 (agf k t a _ _ _ rfl rfl) {ho,rfl,{_,ho,rfl},?_});by_cases hk:k=1;subst hk;exact 852 (aiv a _ n t dd sl) {ho,.ref a,H,I,rfl,q a H ah.refl ha};refine 852 (Zd a _ n k t dd sl h0 hk h1) {ho,?_};(have rr:∀m:Nat,Vals (cS m z) (cS m _):=fun m=>by induction m with|zero=>exact .nil|succ m ih=>exact .cons r1 ih);refine{.ref s.heap.objs.size,_,I.laid (t':=s.toks) (o:=.tup (cS k.toNat z)) 685 227 ?_,rfl,RM (fun p H1 S _ e=>q p H1 S e) _ 346};exact{by rw[uH,sizeLine_eq];omega,_,rr k.toNat,Kd _ _}
end
theorem RN(ns:33):∀j,preSum 340 j=(ns.take j).sum
 |0=>by simp[preSum]
 |j+1=>by rw[preSum,RN ns j];cases e:ns[j]? with|none=>have h:ns.length<=j:=List.getElem?_eq_none_iff.mp e;rw[Ki h,Ki 23,dI,e];simp|some z=>rw[TX e,dI,e];rfl
section
variable{X:Cx}
def aib:List V->Hp->VK->Prop:=fun vs H Q=>∃(a:Addr)(ns:List Int),vs=[V.ref a]/\H a=some (.tup 210)/\Q (.int ns.sum) H
theorem ais(hc:347):jw X (.builtin "sum") aib:=by
 intro pins s σ H xs us Q I r h;obtain⟨a,ns,rfl,ha,q⟩:=h;obtain⟨u,rfl,ru⟩:=vals1 r;cases ru;obtain⟨ai,r1,p1,_⟩:=I.tuple (bC.of ha);have aY:a<s.heap.objs.size:=by obtain⟨o,e,_⟩:=id p1;exact bn e
 have Rz:s.heap.IsTuple a ai.toArray:=p1;refine call_sum_walkG (AC Rz ?_);refine{s.heap.objs.size,[s.heap.objs.size,a],[s.heap.objs.size],ai.toArray.size,_,_,fun i=>ns.getD i 0,rfl,Walks.tuple (A:=X.A.in1) 208 _ a (cI aY) ai.toArray,{194,Rz.at fun o e=>bG _ e},?_,fun i v hv=>?_,fun h' tk t' hk=>?_};intro b hb;show b<(s.heap.push _).objs.size;rw[d8];rcases bE.mp hb with e|hb;rw[e];exact rW _;rw[cM.mp hb];exact r9 aY;have lM:ai[i]?=some v:=by simpa using hv
 have hl:=r1.length;rw[az]at hl;have hi:i<ns.length:=by rw[hl];exact(930 lM).1
 rw[22,r1.get];rw[lM]at h1;cases h1;ext:155;rfl;have hl:=r1.length;rw[az]at hl;rw[RN,dk,<-hl,gW];refine{.int ns.sum,H,I.kept (t':=tk) fun b o e=>hk b o ?_ (bG _ e),⟨t',rfl⟩,q};intro z;rw[cM.mp z]at e;exact 360 (bn e)
end
end PC
namespace PC
open PySem PySem.Spec PyProof.Rows L2 XW
open PySem.W (Frag)
structure KD(P:aT)(w:aI)(K:Frag)(a:Addr)(am:List (Key×V)):Prop where
 nm:(a==lV)=false
 ex:∃vs,KV am vs/\∀h:Heap,K.In h->h.DictOf (eY P w) a vs
section
variable{X:Cx}{a:Addr}{am:List (Key×V)}{o i:aH}{td ty:TE}{pos:Pos}
def afD(a:Addr)(am:List 489)(ty:TE):TE:=fun σ H Q=>ty σ H fun y H1=>∃k v,y=kV k/\da am k=some v/\Q v H1
theorem zx{x:Str}{np:Pos}(D:KD X.prog X.w X.K a am)(e:548 152)(hi:PE X i ty)(hs:Hn i)(hg:Gl X x:=by rfl)(hd:81=false:=by decide):PE X (642 (.Name x np) i pos) (afD a am ty):=by intro pins s σ H Q I h;refine Lp ajt.lookup hs (aG ((yE (v:=.ref a) hg e rfl hd) pins s σ H (fun v H1=>v=.ref a/\H1=H) I 669) fun u s1 ⟨x,H1,I1,rx,e1,e2⟩=>?_);subst e1;subst e2;rw[7,u];refine aG (hi pins s1 σ H1 _ I1 h) fun iv s2 ⟨y,H2,I2,ry,k,v,ey,l,q⟩=>?_;subst ey;obtain⟨vs,rel,dd⟩:=D.ex;have dd:=dd _ I2.eU;obtain⟨w',hw,sP⟩:=hW.some_of (v:=v) (o:=xC vs k) (by rw[<-l];exact rel.val k);exact{dd.typeIs,wpAny_getItem_of (zO ry) dd.mapOf hw {v,H2,I2.tok _,sP,q}}
def Y4(am:List 489)(ty:TE):TE:=fun σ H Q=>ty σ H fun y H1=>∃k,y=kV k/\Q (.bl (da am k).isSome) H1
theorem Ge{x:Str}{np:Pos}(D:KD X.prog X.w X.K a am)(e:548 152)(hi:PE X i ty)(hg:Gl X x:=by rfl)(hd:81=false:=by decide):PC X .In i (.Name x np) (Y4 am ty):=by intro pins s σ H Q I h;refine aG 624 fun iv s1 ⟨y,H1,I1,ry,k,ey,q⟩=>?_;refine aG ((yE (v:=.ref a) hg e rfl hd) pins s1 σ H1 (fun v H2=>v=.ref a/\H2=H1) I1 669) fun u s2 ⟨x,H2,I2,rx,e1,e2⟩=>?_;subst e1;subst e2;subst ey;rw[7,u];obtain⟨vs,rel,dd⟩:=D.ex;have dd:=dd _ I2.eU;refine wpAny_in_of (zO ry) D.nm dd.mapOf ?_;rw[<-(rel.val k).Xq];exact{.bl _,H2,I2.tok _,rfl,q}
end
end PC
namespace PC
open PySem PySem.Spec PyProof.Rows L2 XW
open PySem.W (Frag)
theorem afu(a b:aH)(p:Pos)(args:433)(pos:Pos)(env:Env):eval (.Call (642 a b p) args [] pos) env=(do let f<-eval (642 a b p) env;callWith pos f [] (465 (starEach args env)) (backToKw pos (keywordEach [] env))):=rfl
section
variable{X:Cx}{CX:gL}{E:XK}{a b e:aH}{es:List aH}{p pos:Pos}{tf:TE}{ta:TA}
def Q9(X:Cx)(CX:gL)(E:XK)(tf:TE)(ta:TA):TE:=fun σ H Q=>tf σ H fun x H1=>∃g fd ps sp k,x=.ref g/\aE X.prog X.w X.K X.mg X.base CX k g fd ps sp/\cW k X.A/\oE X.K (.ref g)=true/\Binds X.K fd ps []/\ta σ H1 fun vs H2=>sp vs H2 Q E
theorem Hk(hf:PE X (642 a b p) tf)(hx:434)(ha:PA X 298 ta)(he:starEach 298 X.env=(false,eval e X.env)::starEach es X.env:=by rfl)(dj:(117 pos).any (·.1)=false:=by rfl):PE X (131 (642 a b p)) (Q9 X CX E tf ta):=by intro pins s σ H Q I h;rw[afu];refine 22 444;subst ex;obtain rfl:u=cj g:=rx;refine 855;exact 830
end
end PC
namespace PC
open PySem PySem.Spec PyProof.Rows L2 XW
open PySem.W (Frag)
variable{P:aT}{w:aI}{K:Frag}{mg:Str->Option Value}{base:Heap}
def iE(n:33):p9:=.tuple 411
theorem lay_ints:∀n:List Int,sr 411=true
 |[]=>rfl
 |_::r=>lay_ints r
theorem JQ:∀ns:List (List Int),sr (592 iE)=true
 |[]=>rfl
 |n::r=>by show(sr 411&&sr (r.map iE))=true;rw[lay_ints,JQ r];rfl
theorem An:∀n:List Int,oJ 411=0
 |[]=>rfl
 |_::r=>by show max 0 (oJ (r.map gX))=0;rw[An r];rfl
theorem JI:∀n m:List Int,PyData.eqvAll 411 (m.map gX)=decide (n=m)
 |[],[]=>rfl
 |[],_::_=>rfl
 |_::_,[]=>rfl
 |a::r,b::t=>by show((a==b)&&PyData.eqvAll (r.map gX) (t.map gX))=_;rw[JI r t];by_cases h:a=b<;>by_cases h':r=t<;>simp[h,h']
theorem acR(n m:33):AM (iE n) (iE m)=decide (n=m):=JI n m
theorem JY(n:33):∀ns:List (List Int),(592 iE).any (fun y=>AM y (iE n))=decide (n∈ns)
 |[]=>by simp
 |m::r=>by rw[bL,rY,JY n r,acR];by_cases h:n=m;subst h;simp;have h':¬m=n:=fun z=>h z.symm;simp[h,h']
def gB(H:Hp)(ps:231)(ns:147):Prop:=Paired (fun p n=>∃a,p=.ref a/\H a=some (.tup 903)) ps ns
section
variable{X:Cx}
theorem wD{K:Frag}{H:Hp}:∀n:List Int,o7 K H 903 411
 |[]=>.nil
 |x::r=>.cons (.int x) (wD r)
theorem F4{K:Frag}{H:Hp}:∀{ps:List V}{ns:List 33},gB H ps ns->o7 K H ps (592 iE)
 |_,_,.nil=>.nil
 |_,_,.cons ⟨a,e,h⟩ t=>by subst e;exact .cons (.tup (.of h) (wD _)) (F4 t)
def Oc(neg:Bool):R2:=fun x y H Q=>∃a n l ps ns,x=.ref a/\y=.ref l/\H a=some (.tup 903)/\H l=some 810/\gB H ps ns/\Q (.bl (if neg then !decide (n∈ns)else decide (n∈ns))) H
theorem aki(hu:761):dg X (gT .In) (Oc false):=by
 ext:16;refine SeqAt.in_list_reads r2 r1 (JQ ns) (lay_ints n) ?_ 500;have e:(iE n).depth=1:=by show oJ 411+1=1;rw[An]
 have z:min (oJ (592 iE)) (iE n).depth<=1:=by rw[e];exact Ka _ _
 omega;rw[JY];exact q
theorem Tz(hu:761):dg X (gT .NotIn) (Oc true):=by
 ext:16;refine SeqAt.notIn_list_reads r2 r1 (JQ ns) (lay_ints n) ?_ 500;have e:(iE n).depth=1:=by show oJ 411+1=1;rw[An]
 have z:min (oJ (592 iE)) (iE n).depth<=1:=by rw[e];exact Ka _ _
 omega;rw[JY];exact q
end
end PC
namespace PC
open PySem PySem.Spec PyProof.Rows L2 XW
open PySem.W (Frag)
def sV(d:Int):List Int->Int
 |[]=>d
 |n::r=>r.foldl 623 n
section
variable{prog:aT}{w:aI}{A:bz}{R:rR->Shared->Prop}{it S:Addr}{fp wr:List Addr}{n:Nat}{P:Nat->Value->Prop}{St:Nat->Heap->Prop}{dv:Value}
abbrev zV(it S:Addr)(dv:Value):Code:=.builtin "max.loop" {[.ref it,.none,.ref S],[("default",dv)]}
theorem ac9(W:363)(hG:S∉fp){s:Shared}{v:Value}{c:Nat}(de:St n s.heap)(hS:s.heap.get? S=some {cls:=.type "list",data:=.seq #[v,v] c})(hR:∀h' tk,(∀b o,b∉wr->b≠S->s.heap.get? b=some o->h'.get? b=some o)->R (.ok (.ret v)) {s with heap:=h',toks:=tk}):codeAny 35 A (zV it S dv) R s:=by have rA:S∉wr:=fun z=>hG (W.sub _ z);refine mW Kz ?_;ext:14;refine 854;have fG:=hX S _ rA hS;rw[9,(updateSeq S (fun _=>#[])>>=_)];rw[0,(EV fG rfl (22 (xG 78)))];exact hR _ tk fun b o lL hJ e=>(iy _ _ (cJ hJ)).trans (hX b o lL e)
theorem aig(W:363)(hG:S∉fp){s:Shared}{c:Nat}(de:St n s.heap)(hS:650)(hR:∀h' tk,(∀b o,b∉wr->b≠S->s.heap.get? b=some o->h'.get? b=some o)->R (.ok (.ret dv)) {s with heap:=h',toks:=tk}):codeAny 35 A (zV it S dv) R s:=by refine mW Kz ?_;ext:14;refine 854;rw[0,(mY 78)];exact hR _ tk fun b o lL hJ e=>hX b o lL e
theorem Y3(W:363)(val:Nat->Int)(rp:∀i v,P i v->∃t,v=.int (val i) t)(hG:S∉fp):∀(k j:Nat)(s:Shared)(M:Int)(t:Tok)(c:Nat),n=j+k->St j s.heap->s.heap.get? S=some {cls:=.type "list",data:=.seq #[.int M t,.int M t] c}->(∀h' tk t',(∀b o,b∉wr->b≠S->s.heap.get? b=some o->h'.get? b=some o)->R (.ok (.ret (.int (((bu k).map fun i=>val (j+i)).foldl 623 M) t'))) {s with heap:=h',toks:=tk})->codeAny 35 A (zV it S dv) R s:=by
 have rA:S∉wr:=fun z=>hG (W.sub _ z);ext:40
 intro k
 induction k with|zero=>intro j s M t c hk de hS hR;(have e:n=j:=by omega);subst e;exact ac9 W hG de hS fun h' tk kk=>hR h' tk t kk|succ k ih=>intro j s M t c hk de hS hR;refine mW Kz ?_;ext:14;rw[0,(AR (W.item j s _ _ 23 de fun v h' tk hP qr hX=>?_))];obtain⟨u,rfl⟩:=rp j v hP;have fG:=hX S _ rA hS;(have step:((bu (k+1)).map fun i=>val (j+i))=val j::(bu k).map fun i=>val (j+1+i):=by rw[Kj,bL,gq];congr 1;apply jN;intro i _;show val (j+(i+1))=val (j+1+i);congr 1;omega);rw[step,p6]at hR;rw[9,(tryCatch (holding [eA (val j) u,eA (val j) u] (richCompare .Gt (eA (val j) u) (eA M t)>>=_)) _>>=_)];rw[0,(AR (368 (22 (richCompare_gives (op:=.Gt) (xB _ _ u) (xB _ _ t) PySem.F.slot_int_gt PySem.F.entry_int_gt (PySem.F.args_int_gt_2 _ _) (gives_int_gt _ _ u t) (fun x=>nomatch x) ?_))))];rw[0,(368 (oC (22 (xG 78))))];by_cases hb:val j>M;rw[if_pos hb]at hR;rw[cK hb];simp only[jL];rw[0,(EV fG rfl (22 (xG ?_)))];rw[qj];refine 58 {mX uN _,ih (j+1) _ (val j) u _ 23 988 (pZ _ fG rfl) fun gc yF zU kk=>?_};exact 677;exact hR gc yF zU fun b o lL hJ e=>kk b o lL hJ (697 (hX b o lL e));rw[if_neg hb]at hR;rw[gn hb];simp only[oG,kS];rw[0,(xG ?_)];rw[qj];exact 58 {mX uN _,ih (j+1) _ M t c 23 qr fG fun gc yF zU kk=>hR gc yF zU fun b o lL hJ e=>kk b o lL hJ (hX b o lL e)}
theorem acB(W:363)(val:Nat->Int)(rp:∀i v,P i v->∃t,v=.int (val i) t)(hG:S∉fp){s:Shared}{c:Nat}{d:Int}{td:Tok}(de:St 0 s.heap)(hS:650)(hR:∀h' tk t',(∀b o,b∉wr->b≠S->s.heap.get? b=some o->h'.get? b=some o)->R (.ok (.ret (.int (sV d ((bu n).map val)) t'))) {s with heap:=h',toks:=tk}):codeAny 35 A (zV it S (.int d td)) R s:=by
 have rA:S∉wr:=fun z=>hG (W.sub _ z);ext:40
 cases n with|zero=>exact aig W hG de hS fun h' tk kk=>hR h' tk td kk|succ k=>refine mW Kz ?_;ext:14;rw[0,(AR (W.item 0 s _ _ 23 de fun v h' tk hP qr hX=>?_))];obtain⟨u,rfl⟩:=rp 0 v hP;have fG:=hX S _ rA hS;rw[9,(updateSeq S (fun _=>#[eA (val 0) u,eA (val 0) u])>>=_)];rw[0,(EV fG rfl ?_)];rw[qj];refine 58 {mX uN _,Y3 W val rp hG k 1 _ (val 0) u _ 23 988 (pZ _ fG rfl) fun gc yF zU kk=>?_};exact 677;have z:=hR gc yF zU fun b o lL hJ e=>kk b o lL hJ (697 (hX b o lL e));rw[Kj,bL,gq]at z;(have e:(bu k).map (fun i=>val (1+i))=(bu k).map (val∘Nat.succ):=jN fun i _=>by show val (1+i)=val (i+1);rw[Nat.add_comm]);rw[e];exact z
end
end PC
namespace PC
open PySem PySem.Spec PyProof.Rows L2 XW
open PySem.W (Frag)
theorem aas(a b:Value):argsOk "max" {[a],[("default",b)]}:=by unfold argsOk;kernel_rfl
section
variable{prog:aT}{w:aI}{A:bz}{E:Value->Shared->Prop}{s:Shared}
theorem aac{l:Addr}{ai:97}{ns:33}{d:Int}{td:Tok}{Q:43}(hh:149)(hl:s.heap.IsList l ai.toArray)(r:Vals 210 ai)(h:∀h' tk t',(∀b o,s.heap.get? b=some o->h'.get? b=some o)->Q (.int (sV d ns) t') {s with heap:=h',toks:=tk}):wpAny 35 A (call 882 [.ref l] [("default",.int d td)]) Q E s:=by
 ext:40
 have aY:l<s.heap.objs.size:=by obtain⟨_,e,_⟩:=id hl;exact bn e
 refine AF (Kv PySem.F.plain_max PySem.F.entry_max ?_);have ha:=aas 283 (.int d td);simp only[checkBuiltinCall,PySem.F.kind_max]
 have go:wpAny 35 A.in1 (Builtin.«max» 568) (fun fin s'=>match fin with|.done f=>(match(xH f:rR)with|.ok (.ret v)=>Q v s'|.ok _=>False|.error e=>E e s')|.again c'=>c'.quiet=true/\codeAny 35 A c' (fun r s'=>match r with|.ok (.ret v)=>Q v s'|.ok _=>False|.error e=>E e s') s') E s:=by show wpAny _ A.in1 (aju "max" ["key","default"] 0 {[],[("default",.int d td)]}>>=_) _ _ s;rw[0,(EW (show aju "max" ["key","default"] 0 {[],[("default",.int d td)]}=pure [none,some (.int d td)]from rfl) ?_)];rw[0,(58 (22 (AB hl ?_)))];rw[0,(ki ?_)];rw[qj];have W:=V4 (prog:=prog) (w:=w) (A:=A.in1) hh s.heap.objs.size l (cI aY) ai.toArray;have Ca:=r.length;rw[az]at Ca;refine 58 {mX uN _,?_};generalize cB:({cls:=.type "list_iterator",data:=.fields #[.ref l,.int 0 0]}:Obj)=we;have hsz:(240 we).objs.size=s.heap.objs.size+1:=d8 ..;(have XX:(240 we).IsListIter s.heap.objs.size l 0/\(240 we).IsList l ai.toArray:=by rw[<-cB];exact{194,hl.push _});show codeAny 35 A (zV s.heap.objs.size (240 we).objs.size (.int d td)) _ {s with heap:=(240 we).push {cls:=.type "list",data:=.seq #[]}};refine acB W 340 (fun i v hv=>?_) (s:={s with heap:=(240 we).push {cls:=.type "list",data:=.seq #[]}}) ?_ (W.frame _ _ _ XX fun b _ o e=>bG _ e) 577 fun h' tk t' kk=>?_;(have lM:ai[i]?=some v:=by simpa using hv);(have hi:i<ns.length:=by rw[Ca];exact(930 lM).1);rw[22,r.get];rw[lM]at h1;cases h1;ext:155;rfl;intro z;rw[hsz]at z;rcases bE.mp z with e|e;exact 89 e (kR (rW _));have e':=cM.mp e;rw[<-e']at aY;exact 89 aY (KA.mpr (rX _));(have e:(bu ai.toArray.size).map 340=ns:=by apply xI;simp[Ca];intro i h1 h2;simp[dI,bM h2]);rw[e];refine h h' tk t' fun b o eb=>kk b o ?_ ?_ (bG _ (bG _ eb));intro z;rw[cM.mp z]at eb;exact 360 (bn eb);intro z;rw[z,hsz]at eb;exact 89 (bn eb) (KA.mpr (rX _))
 cases adh:Manifest.signature? "max"with|none=>exact 58 go|some sig=>simp only[argsOk,adh]at ha;have h2:Bind.checkArgs "max" sig 568=pure ():=ha;show wpAny _ A.in1 (Bind.checkArgs "max" sig 568) _ _ s;rw[h2];exact 58 go
end
end PC
namespace PC
open PySem PySem.Spec PyProof.Rows L2 XW
open PySem.W (Frag)
variable{P:aT}{w:aI}{K:Frag}{mg:Str->Option Value}{base:Heap}
theorem aeb:gS "max"=some 882:=by decide+kernel
section
variable{X:Cx}{x:Str}{p pos kpos:Pos}{e d:aH}{te td:TE}
def XV(te td:TE):TE:=fun σ H Q=>te σ H fun x H1=>td σ H1 fun y H2=>∃l ns i,x=.ref l/\y=.int i/\H2 l=some 971/\Q (.int (sV i ns)) H2
theorem ad7(hc:347)(hm:X.mg "max"=none)(he:414)(hd:PE X d td)(hg:Gl X "max":=by rfl)(de:starEach [e] X.env=[(false,eval e X.env)]:=by rfl):PE X (.Call (.Name "max" p) [e] [{some "default",d,kpos}] pos) (XV te td):=by intro pins s σ H Q I h;refine pV (mo I hg hm aeb ?_);refine PySem.W.callWith_of (P:=fun _=>True) (by rw[de];rfl) (fun h _=>{Keeper.machine,.inr 148,.now}) ?_;refine evalArgs_kw2 rfl ?_ de;refine aG ((aa he ae de) pos pins s σ H (fun vs H1=>match vs with|[v]=>td σ H1 fun y H2=>∃l ns i,v=.ref l/\y=.int i/\H2 l=some 971/\Q (.int (sV i ns)) H2|_=>False) I h) fun us s1 ⟨vs,H1,I1,r,q⟩=>?_;cases r with|nil=>exact q.elim|cons r1 r2=>cases r2 with|cons _ _=>exact q.elim|nil=>refine aG ((YV (nm:=some "default") (kpos:=kpos) hd afV) pos pins s1 σ H1 (fun vs H2=>match vs with|[y]=>∃l ns i,_=V.ref l/\y=.int i/\H2 l=some 971/\Q (.int (sV i ns)) H2|_=>False) I1 q) fun ws s2 ⟨zs,H2,I2,rz,q2⟩=>{xt,?_};cases rz with|nil=>exact q2.elim|cons z1 z2=>cases z2 with|cons _ _=>exact q2.elim|nil=>obtain⟨l,ns,i,e1,e2,hl,q3⟩:=q2;subst e1;subst e2;rw[1,z1];cases r1;obtain⟨ai,rv,pl,_⟩:=I2.list (549 hl);exact aac 208 pl.isList rv fun h' tk t' kk=>{.int _,H2,I2.kept kk,569,q3}
end
def jB(D:Addr)(H H':Hp):Prop:=∀b o,b≠D->H b=some o->H' b=some o
theorem ah.x{D:Addr}{H H':Hp}(S:416):jB D H H':=fun b o _ e=>S b o e
theorem kE{α β:Type}{R:300}:∀{xs:List α}{ys:List β}{x:α}{y:β},Paired R xs ys->R x y->Paired R (xs++[x]) (ys++[y])
 |_,_,_,_,.nil,h=>.cons h .nil
 |_,_,_,_,.cons a b,h=>.cons a (kE b h)
theorem bR{α β:Type}{R R':300}(h:∀x y,R x y->R' x y):∀{xs:List α}{ys:List β},Paired R xs ys->Paired R' xs ys
 |_,_,.nil=>.nil
 |_,_,.cons a b=>.cons (h _ _ a) (bR h b)
theorem gx{α:Type}:∀{l:List α}{i:Nat}{x:α},l[i]?=some x->l.take (i+1)=l.take i++[x]
 |[],i,x,h=>by simp at h
 |a::l,0,x,h=>by have e:a=x:=dZ h;subst e;rfl
 |a::l,i+1,x,h=>by have ih:=gx (l:=l) (i:=i) (x:=x) h;show a::l.take (i+1)=a::l.take i++[x];rw[ih];rfl
theorem abz{σ:L2.St}{j:Nat}{v:V}:wipe (σ.set j 456) [j]=wipe σ [j]:=by show(σ.set j 456).set j none=σ.set j none;rw[AZ]
theorem vb{σ:L2.St}{j:Nat}{v:V}:wipe ((wipe σ [j]).set j 456) [j]=wipe σ [j]:=by rw[abz];show(σ.set j none).set j none=σ.set j none;rw[AZ]
section
variable{K:Frag}{a:Addr}{xs:List V}{tt:TT}{te:TE}{j:Nat}{σ:L2.St}{H1:Hp}{D:Addr}{Qd:Hp->Prop}
structure Built(H1:Hp)(D:Addr)(Rel:Hp->V->V->Prop)(zs:List V)(H:Hp):Prop where
 same:ah H1 H
 ex:∃ys,H D=some (.lst ys)/\Paired (Rel H) zs ys
theorem Built.start(hD:524){Rel:455}:Built H1 D Rel [] 595:=715
theorem Built.turn(hD:524){Rel:455}(mono:∀H H' x y,jB D H H'->Rel H x y->Rel H' x y){zs:231}{H2 H3:Hp}{x y:V}(B:Built H1 D Rel zs H2)(S:ah H2 H3)(r:Rel H3 x y)(hz:zs.length<sizeLine):∃acc,H3 D=some 484/\acc.length<sizeLine/\Built H1 D Rel (zs++[x]) (upd H3 D 205):=by
 ext:44;have sx:jB D H3 (upd H3 D (80 (ys++[y]))):=fun b o hb q=>by rw[ay hb];exact q
 ext:165
theorem yg(Rel:455)(hD:524)(mono:∀H H' x y,jB D H H'->Rel H x y->Rel H' x y)(hl:∀H,ah H1 H->aq K H a xs)(hz:438)(hs:∀x H2(Q:VK),x∈xs->ah H1 H2->(∀y H3,ah H2 H3->Rel H3 x y->Q y H3)->te 309 H2 Q)(hq:∀H' ys,ah H1 H'->H' D=some 459->Paired (Rel H') xs ys->Qd H'):∃W:Nat->Nat->Hp->Prop,(∃m,W 0 m 595)/\∀i m H,W i m H->538\/((iK K a).go i H/\∃Nx:Hp->Prop,(∀H',Nx H'->∃m',m'<m/\W (i+1) m' H')/\∀x H',(iK K a).gG i H x H'->iQ j x 747 H' fun bq H2=>wipe bq [j]=wipe σ [j]/\jo bq H2 fun b H3=>if b=true then te bq H3 fun y H4=>∃acc,H4 D=some 484/\acc.length<sizeLine/\Nx 119 else Nx H3):=by refine 160 497;ext:30;ext:119;ext:44;exact 573
theorem zD(Rel:455)(hD:524)(mono:∀H H' x y,jB D H H'->Rel H x y->Rel H' x y)(hl:∀H,ah H1 H->bC K H a xs)(hz:438)(hs:∀x H2(Q:VK),x∈xs->ah H1 H2->(∀y H3,ah H2 H3->Rel H3 x y->Q y H3)->te 309 H2 Q)(hq:∀H' ys,ah H1 H'->H' D=some 459->Paired (Rel H') xs ys->Qd H'):∃W:Nat->Nat->Hp->Prop,(∃m,W 0 m 595)/\∀i m H,W i m H->((qB K a).stop i H/\Qd H)\/((qB K a).go i H/\∃Nx:Hp->Prop,(∀H',Nx H'->∃m',m'<m/\W (i+1) m' H')/\∀x H',(qB K a).gG i H x H'->iQ j x 747 H' fun bq H2=>wipe bq [j]=wipe σ [j]/\jo bq H2 fun b H3=>if b=true then te bq H3 fun y H4=>∃acc,H4 D=some 484/\acc.length<sizeLine/\Nx 119 else Nx H3):=by refine aan (K:=K) (a:=a) (xs:=xs) 497 (Built.start hD) (fun i H _ B=>hl H B.same) (fun i x H hi B=>?_) (fun H B=>?_);ext:30;ext:119;ext:44;exact 573
end
section
variable{X:Cx}{C:Addr}{f:Str}{e o value:aH}{pos gN gH:Pos}{ta tv:TE}
def tF(C:Addr)(ta:TE)(f:Str):TE:=fun σ H Q=>ta σ H fun x H1=>∃a dx fs v,x=.ref a/\H1 a=some 370/\fs.lookup f=some v/\Q v H1
theorem aX(c:765)(n:gk X.K C f)(he:PE X e ta)(hb:xu e f X.env (217 e)=eval e X.env:=by rfl):PE X (.Attribute e f pos) (tF C ta f):=by intro pins s σ H Q I h;refine Rt hb (aG 159 fun u s1 ⟨x,H1,I1,rx,a,dx,fs,v,ex,ea,l,q⟩=>?_);subst ex;rw[7,u];exact Lw I1 ea c n l fun u' s2 I2 ru=>⟨v,H1,I2,ru,q⟩
def sF(C:Addr)(ta tv:TE)(f:Str):TS:=fun D σ H=>tv σ H fun y H1=>ta σ H1 fun x H2=>∃a dx fs,x=.ref a/\H2 a=some 370/\fs.length<1000/\D.nx σ (upd H2 a (.ins C dx (fX f y fs)))
theorem g6(c:765)(n:gk X.K C f)(ha:919)(hv:837)(hs:Ay value (some (.Attribute o f gN)) pos.line X.env=pure false:=by rfl):PS X (.Assign [.Attribute o f gN] value pos) (sF C ta tv f):=by intro pins s σ H D I h;refine ajp (aG 899 fun u s1 ⟨y,H1,I1,ry,q⟩=>aG (ha pins s1 σ H1 _ I1 q) fun ov s2 ⟨x,H2,I2,rx,a,dx,fs,ex,ea,l,q2⟩=>?_) hs;subst ex;rw[7,ov];exact Oz I2 ea c n l ry fun s3 I3=>{σ,_,I3,q2}
def rT:R2:=fun x y H Q=>∃p xs i v,x=.ref p/\y=.int i/\H p=some 193/\fL xs i=some v/\Q v H
theorem cO:As X rT:=fun value slice pins s σ H x y v u Q I rx ry h hs=>by obtain⟨p,xs,i,v',e1,e2,e3,e4,q⟩:=h;rw[19,Tf]
def rL:R2:=fun x y H Q=>∃p xs i v,x=.ref p/\y=.int i/\H p=some 248/\fL xs i=some v/\Q v H
theorem bD:As X rL:=fun value slice pins s σ H x y v u Q I rx ry h hs=>by obtain⟨p,xs,i,v',e1,e2,e3,e4,q⟩:=h;rw[19,Fv]
theorem tw{H:Hp}{p:Addr}{o:HO}(h:H p=none):ah H (257 p o):=fun b u e=>by rw[ay (bF e h)];exact e
def aay(t:TA):TE:=fun σ H Q=>t σ H fun xs H1=>xs.length<=sizeLine/\∀p H2,ah H1 H2->H2 p=some 193->Q 310 H2
def L4(t:TA):TE:=fun σ H Q=>t σ H fun xs H1=>xs.length<=sizeLine/\∀p H2,ah H1 H2->H1 p=none->H2 p=some 248->Q 310 H2
theorem dB{es:433}{t:TA}{x1:Nat}(h:PA X es t):PE X (.Tuple es x1 pos) (aay t):=by intro pins s σ H Q I hq;refine wpAny_Tuple_spliced 400;have hf:H1 s1.heap.objs.size=none:=I1.aD.fresh 227;refine{.ref s1.heap.objs.size,upd H1 s1.heap.objs.size 193,I1.laid (t':=s1.toks) (fun b u e=>bG _ e) 227 ?_,rfl,q _ _ (tw hf) aM};exact{z,us,r,{_,c_ _ rfl,rfl,_,rfl}}
theorem bp{es:433}{t:TA}(h:PA X es t):PE X (.List es pos) (L4 t):=by intro pins s σ H Q I hq;refine wpAny_List_spliced 400;have hf:H1 s1.heap.objs.size=none:=I1.aD.fresh 227;refine{.ref s1.heap.objs.size,upd H1 s1.heap.objs.size 248,I1.laid (t':=s1.toks) (fun b u e=>bG _ e) 227 ?_,rfl,q _ _ (tw hf) hf aM};exact{z,us,0,r,c_ _ rfl}
def ahn:V->Option Int->Option Int->Hp->VK->Prop:=fun x lo hi H Q=>∃a xs,x=.ref a/\H a=some 193/\¬(388 lo hi)/\∀p H1,ah H H1->H1 p=some (.tup 742)->Q 310 H1
theorem yw:wc X ahn:=by intro pins s σ H x v vl vu lo hi sl Q I rx hs pl pu h;obtain⟨a,xs,e1,e2,e3,q⟩:=h;exact Zo pins s σ H x v vl vu lo hi sl Q I rx hs pl pu {a,xs,e1,.of e2,e3,fun p hp=>q p _ (tw hp) aM}
def ahf(K:Frag):V->Option Int->Option Int->Hp->VK->Prop:=fun x lo hi H Q=>∃a xs,x=.ref a/\aq K H a xs/\∀p H1,ah H H1->H p=none->H1 p=some (80 742)->Q 310 H1
theorem qM:wc X (ahf X.K):=by intro pins s σ H x v vl vu lo hi sl Q I rx hs pl pu h;obtain⟨a,xs,e1,e2,q⟩:=h;exact YW pins s σ H x v vl vu lo hi sl Q I rx hs pl pu {a,xs,e1,e2,fun p hp=>q p _ (tw hp) hp aM}
def agp:R2:=fun x y H Q=>∃l b xs zs,x=.ref l/\y=.ref b/\H l=some 248/\H b=some 733/\xs.length+zs.length<=sizeLine/\∀p H1,ah H H1->H p=none->H1 p=some (80 (xs++zs))->Q 310 H1
theorem jS:dg X (kg .Add) agp:=by intro pins s σ H x y v u Q I rx ry h;obtain⟨l,b,xs,zs,e1,e2,e3,e4,e5,q⟩:=h;exact acw pins s σ H x y v u Q I rx ry {l,b,xs,zs,e1,e2,e3,e4,e5,fun p hp=>q p _ (tw hp) hp aM}
def aft:R2:=fun x y H Q=>∃l k z,x=.ref l/\y=.int k/\H l=some (.lst [z])/\0<=k/\k<=1000000/\∀p H1,ah H H1->H p=none->H1 p=some (80 (cS k.toNat z))->Q 310 H1
theorem NU{α:Type}(z:α):∀n:Nat,(cS n [z]).flatten=cS n z
 |0=>rfl
 |n+1=>by rw[rZ,EL,NU z n];rfl
theorem QB:dg X (kg .Mult) aft:=by intro pins s σ H x y v u Q I rx ry h;obtain⟨l,k,z,e1,e2,e3,e4,e5,q⟩:=h;refine afY pins s σ H x y v u Q I rx ry {l,k,[z],e1,e2,e3,by omega,by omega,?_,fun p hp=>?_};rw[sizeLine_eq];simp;omega;rw[NU];exact q p _ (tw hp) hp aM
end
def top(i:Nat):aL:=PySem.Challenge.pw_pastcells_s01_answers.main.body.getD i (.Pass ⟨0,0,0,0⟩)
structure Fn(K:Frag)(mg:Str->Option Value)(x:Str)(st:aL)(ps:List Str):Type where
 a:Addr
 fd:eW
 F:mH K x x st a fd
 b:Binds K fd ps []
 m:mg x=some (.ref a)
structure Me(K:Frag)(C:Addr)(x b4:Str)(st:aL)(ps:List Str):Type where
 a:Addr
 fd:eW
 F:mH K x b4 st a fd
 b:Binds K fd ps []
 m:Meth K C x a
structure Ct(mg:Str->Option Value)(x:Str)(i:Int):Prop where
 ex:∃tk,mg x=some (.int i tk)
structure Cs(mg:Str->Option Value)(x:Str)(y:Str):Prop where
 ex:∃tk,mg x=some (.str y tk)
structure Tx(K:Frag)(mg:Str->Option Value)(x:Str)(ys:List Str):Type where
 a:Addr
 m:mg x=some (.ref a)
 sq:∀H,bC K H a (ys.map V.str)
abbrev Pr:aL:=top 6
abbrev Nh:aL:=top 7
abbrev U6:aL:=top 8
abbrev Ox:aL:=top 9
abbrev Ro:aL:=top 10
abbrev SR:aL:=top 11
abbrev Sf:aL:=top 13
abbrev QD:aL:=top 14
abbrev U9:aL:=top 15
abbrev QI:aL:=top 022
abbrev NR:aL:=top 023
abbrev Rc:aL:=top 24
abbrev U7:aL:=top 033
abbrev Ni:aL:=top 034
abbrev Ql:aL:=top 035
abbrev Pp:aL:=top 036
abbrev Re:aL:=top 037
abbrev LR:aL:=top 038
abbrev PP:aL:=top 039
abbrev UH:aL:=top 40
abbrev PZ:aL:=top 41
abbrev RU:aL:=top 042
abbrev Ru:aL:=top 043
abbrev Om:aL:=top 44
abbrev OM:aL:=top 49
abbrev Q0:aL:=top 50
abbrev Nt:aL:=top 51
abbrev Vq:aL:=top 52
abbrev Rq:aL:=top 54
abbrev Lx:aL:=top 55
abbrev NA:aL:=top 57
abbrev U0:aL:=top 058
abbrev TF:aL:=top 059
abbrev Ug:aL:=top 60
abbrev Vw:aL:=top 61
abbrev MA:aL:=top 62
abbrev MF:aL:=top 63
abbrev Vy:aL:=top 64
abbrev QJ:aL:=top 066
abbrev Sn:aL:=top 068
abbrev UK:aL:=top 069
abbrev UD:aL:=top 070
abbrev Mm:aL:=top 071
abbrev Q5:aL:=top 072
abbrev NF:aL:=top 073
abbrev Q_:aL:=top 074
abbrev P4:aL:=top 075
abbrev UZ:aL:=top 076
abbrev L_:aL:=top 077
abbrev TV:aL:=top 079
abbrev M_:aL:=top 082
abbrev NY:aL:=top 083
abbrev P1:aL:=top 096
abbrev RB:aL:=top 097
abbrev P8:aL:=top 098
abbrev RZ:aL:=top 099
abbrev OD:aL:=top 100
abbrev O6:aL:=top 0101
abbrev Sm:aL:=top 0102
abbrev Na:aL:=top 0103
abbrev Ud:aL:=top 0104
abbrev Pd:aL:=top 0105
abbrev TU:aL:=top 0106
abbrev Vz:aL:=top 0107
abbrev Uk:aL:=top 0108
abbrev OJ:aL:=top 0109
abbrev LG:aL:=top 0110
abbrev Td:aL:=top 0111
abbrev UO:aL:=top 0112
abbrev MJ:aL:=top 0113
abbrev s_again:aL:=top 0114
abbrev Rg:aL:=top 0116
abbrev P9:aL:=top 120
abbrev TR:aL:=inClass (top 5) 0
abbrev vd:aL:=inClass (top 031) 0
abbrev Vj:aL:=inClass (top 32) 0
abbrev QU:aL:=inClass (top 32) 1
abbrev Q8:aL:=inClass (top 32) 2
abbrev PL:aL:=inClass (top 32) 3
abbrev R_:aL:=inClass (top 32) 4
abbrev Sr:aL:=inClass (top 32) 5
abbrev TZ:aL:=inClass (top 32) 6
abbrev L3:aL:=inClass (top 095) 0
structure Txt(K:Frag)(mg:Str->Option Value):Type where
 Ar:Fn K mg "own_width" Pr ["kind","numbers"]
 vF:Fn K mg "cell_count" Nh ["nodes"]
 DF:Fn K mg "horizon" U6 ["nodes"]
 CT:Fn K mg "node_horizon" Ox ["node","behind"]
 Eh:Fn K mg "own_reach" Ro ["node"]
 sR:Fn K mg "comparisons_of" SR ["nodes"]
 CS:Fn K mg "form_of" Sf ["nodes"]
 Cd:Fn K mg "words_around" QD ["node","parts"]
 DU:Fn K mg "number_words" U9 ["node"]
 BJ:Fn K mg "words_of" QI ["text"]
 wG:Fn K mg "number_of" NR ["word"]
 CJ:Fn K mg "signed_number_of" Rc ["word"]
 z_:Fn K mg "nodes_of" U7 ["words"]
 kx:Fn K mg "read_formula" Ni ["reader","depth"]
 tT:Fn K mg "read_conjunction" Ql ["reader","depth"]
 yJ:Fn K mg "join_from_right" Pp ["reader","kind","parts"]
 lO:Fn K mg "read_unit" Re ["reader","depth"]
 EE:Fn K mg "read_comparison" LR ["reader"]
 vU:Fn K mg "read_holding" PP ["reader","word","depth"]
 w_:Fn K mg "read_operator" UH ["reader","word","numbers","depth"]
 wY:Fn K mg "read_pair" PZ ["reader","depth"]
 Bj:Fn K mg "read_numbers" RU ["reader","word"]
 CB:Fn K mg "read_window" Ru ["reader"]
 Be:Fn K mg "read_count" Om ["reader"]
 yS:Fn K mg "samples" OM ["reading","comparisons"]
 CH:Fn K mg "all_letters" Q0 ["comparisons"]
 DB:Fn K mg "lengthened" Nt ["rows","numbers"]
 yU:Fn K mg "letter_count" Vq ["comparisons"]
 C_:Fn K mg "holds" Rq ["comparison","readings"]
 xV:Fn K mg "plain_truth" Lx ["node","parts","readings"]
 Ec:Fn K mg "plain_row" NA ["node","parts","history"]
 uZ:Fn K mg "within" U0 ["node","row","place","earliest"]
 u4:Fn K mg "prev_row" TF ["node","parts"]
 xo:Fn K mg "rose_row" Ug ["node","parts"]
 wq:Fn K mg "once_row" Vw ["node","parts"]
 wX:Fn K mg "always_row" MA ["node","parts"]
 vp:Fn K mg "since_row" MF ["node","parts"]
 wJ:Fn K mg "count_row" Vy ["node","parts"]
 C4:Fn K mg "truth_at_end" QJ ["nodes","history"]
 uh:Fn K mg "new_cells" Sn ["nodes"]
 BE:Fn K mg "cell_row" UK ["nodes","cells"]
 wv:Fn K mg "step_prev" UD ["node","parts","own"]
 wI:Fn K mg "step_rose" Mm ["node","parts","own"]
 wE:Fn K mg "step_once" Q5 ["node","parts","own"]
 xa:Fn K mg "step_always" NF ["node","parts","own"]
 zL:Fn K mg "once_cells" Q_ ["node","now","own"]
 ve:Fn K mg "step_since" P4 ["node","parts","own"]
 zQ:Fn K mg "aged" UZ ["z","window"]
 vS:Fn K mg "step_count" L_ ["node","parts","own"]
 vG:Fn K mg "worked" TV ["nodes","cells","readings"]
 Ci:Fn K mg "searched" M_ ["nodes","others","letters","budget","is_wanted"]
 Cb:Fn K mg "told_way" NY ["way"]
 Ap:Fn K mg "all_between" P1 ["numbers","least","most"]
 oy:Fn K mg "is_formula_number" RB ["number"]
 yG:Fn K mg "is_step_number" P8 ["number"]
 x4:Fn K mg "is_budget" RZ ["number"]
 qU:Fn K mg "define" OD ["watch","text"]
 rC:Fn K mg "step" O6 ["watch","readings"]
 qO:Fn K mg "now" Sm ["watch","nothing"]
 qS:Fn K mg "meaning" Na ["watch","numbers"]
 rD:Fn K mg "cells" Ud ["watch","numbers"]
 rj:Fn K mg "facts" Pd ["watch","numbers"]
 qG:Fn K mg "form" TU ["watch","numbers"]
 ql:Fn K mg "atom" Vz ["watch","numbers"]
 qp:Fn K mg "alike" Uk ["watch","numbers"]
 re:Fn K mg "ever" OJ ["watch","numbers"]
 qQ:Fn K mg "differ" LG ["truth","other"]
 qx:Fn K mg "first_is_so" Td ["truth","other"]
 Ao:Fn K mg "search" UO ["nodes","others","budget","is_wanted"]
 qT:Fn K mg "reading" MJ ["watch","numbers"]
 qm:Fn K mg "again" s_again ["watch","nothing"]
 B_:Fn K mg "answer_to" Rg ["watch","call","arguments"]
 xi:Fn K mg "answers" P9 ["calls"]
 aJ:Addr
 ahh:mg "Node"=some (.ref aJ)
 cq:iP K aJ
 bX:Addr
 Gx:mg "WrongWord"=some (.ref bX)
 bc:Addr
 agi:mg "Reader"=some (.ref bc)
 bN:iP K bc
 bx:Addr
 abO:mg "Watch"=some (.ref bx)
 cx:iP K bx
 gm:gk K aJ "kind"
 gz:gk K aJ "numbers"
 yM:gk K aJ "parts"
 MH:gk K aJ "start"
 Fm:gk K aJ "width"
 FQ:gk K bc "words"
 wB:gk K bc "taken"
 BV:gk K bc "nodes"
 vm:gk K bc "claimed"
 ge:gk K bx "formulas"
 v8:gk K bx "comparisons"
 oz:gk K bx "history"
 u7:gk K bx "cells"
 v0:gk K bx "truths"
 yR:Me K aJ "__init__" "Node.__init__" TR ["self","kind","numbers","parts","start"]
 aex:Mk K aJ yR.a
 zo:Me K bc "__init__" "Reader.__init__" Vj ["self","words"]
 agc:Mk K bc zo.a
 jH:Me K bc "ahead" "Reader.ahead" QU ["self"]
 kP:Me K bc "take" "Reader.take" Q8 ["self"]
 oO:Me K bc "want" "Reader.want" PL ["self","word"]
 pL:Me K bc "need" "Reader.need" R_ ["self","right"]
 tH:Me K bc "take_number" "Reader.take_number" Sr ["self","least","most"]
 uz:Me K bc "put" "Reader.put" TZ ["self","kind","numbers","parts","start"]
 xZ:Me K bx "__init__" "Watch.__init__" L3 ["self"]
 ag0:Mk K bx xZ.a
 NW:Addr
 F_:Addr
 Gi:eW
 ag9:mH K "__init__" "WrongWord.__init__" vd F_ Gi
 Ra:Binds K Gi ["self","word"] []
 yC:qC K bX NW F_
 BG:Cs mg "COMPARE" "compare"
 mK:Tx K mg "OPERATORS" ["<","<=","=","!=",">=",">"]
 qi:Tx K mg "WINDOWED" ["once","always","since"]
 qV:Ct mg "NO_END" (-1)
 abn:Cs mg "SIGNS" "abcdefghijklmnopqrstuvwxyz0123456789<=>!-()[], \n"
 YR:Cs mg "STRANGE" "?"
 ae9:Cs mg "BLANKS" " \n"
 RR:Cs mg "ALONE" "()[],"
 ad2:Ct mg "MOST_DIGITS" (7)
 afT:Ct mg "DEEPEST" (40)
 C':Ct mg "MOST_BACK" (60)
 ahi:Ct mg "MOST_COMPARED" (1000000)
 II:Tx K mg "HOLDING" ["(","not","prev","rose","once","always","count","since"]
 JO:Ct mg "READING_COUNT" (8)
 UJ:Ct mg "LEAST_READING" (-1000000)
 Qt:Ct mg "MOST_READING" (1000000)
 aif:Ct mg "GIVEN_UP" (-6)
 agH:Ct mg "MOST_BYTES" (600)
 Pk:Ct mg "MOST_FORMULAS" (8)
 Uf:Ct mg "MOST_STEPS" (200)
 ahp:Ct mg "MOST_SIZE" (40)
 aa2:Ct mg "MOST_CELLS" (100)
 Ln:Ct mg "MOST_COMPARISONS" (16)
 Xs:Ct mg "MOST_LETTERS" (27)
 adj:Ct mg "MOST_BUDGET" (200)
 oq:Ct mg "OUT_OF_RANGE" (-1)
 ZQ:Ct mg "WRONG_WORD_BASE" (-1000)
 abc:Ct mg "DEFINE" (0)
 dh:mg "len"=none
 JL:mg "sum"=none
 aiA:mg "all"=none
 wZ:mg "max"=none
 akf:mg "min"=none
 aht:mg "abs"=none
 ahW:mg "sorted"=none
 aid:mg "set"=none
 YY:mg "dict"=none
 Aq:mg "zip"=none
 GN:mg "enumerate"=none
 yo:mg "range"=none
 aeN:mg "reversed"=none
 RW:mg "ord"=none
 af9:mg "int"=none
 agr:mg "list"=none
 M4:mg "tuple"=none
 HM:mg "str"=none
end PC
namespace PC
inductive Op where
 |tt|ff|cmp (x op:Nat) (n:Int)|not|and|or|prev|rose
 |once (a:Nat) (b:Option Nat)|always (a:Nat) (b:Option Nat)|since (a:Nat) (b:Option Nat)|count (k n:Nat)
def endOf:Option Nat->Int
 |none=>-1
 |some n=>(n:Int)
def Op.nums:Op->List Int
 |.cmp x op n=>[(x:Int),(op:Int),n]
 |.once a b=>[(a:Int),endOf b]
 |.always a b=>[(a:Int),endOf b]
 |.since a b=>[(a:Int),endOf b]
 |.count k n=>[(k:Int),(n:Int)]
 |_=>[]
def Op.width:Op->Nat
 |.prev=>1
 |.rose=>1
 |.once a _=>a+1
 |.always a _=>a+1
 |.since a _=>a+1
 |.count _ n=>n-1
 |_=>0
def Op.wf:Op->Prop
 |.count _ n=>1<=n
 |.cmp x op _=>x<8/\op<6
 |_=>True
def Op.reach:Op->Option Nat
 |.prev=>some 1
 |.rose=>some 1
 |.once _ b=>b
 |.always _ b=>b
 |.since _ b=>b
 |.count _ n=>some (n-1)
 |_=>some 0
structure Nd where
 op:Op
 parts:List Nat
 start:Nat
end PC
namespace PC
open Vbavaf (bit onceCells sinceCells older last total)
def g_:Op->List Bool->List Nat->Bool×List Nat
 |.prev,ts,cs=>(cs.getD 0 0==1,[bit 367])
 |.rose,ts,cs=>(ts.getD 0 false&&cs.getD 0 0==1,[1+bit 367])
 |.once a b,ts,cs=>(last (onceCells a b 367 cs) !=0,onceCells a b 367 cs)
 |.always a b,ts,cs=>(last (onceCells a b (!ts.getD 0 false) cs)==0,onceCells a b (!ts.getD 0 false) cs)
 |.since a b,ts,cs=>(last (sinceCells a b 367 (ts.getD 1 false) cs) !=0,sinceCells a b 367 (ts.getD 1 false) cs)
 |.count k n,ts,cs=>(decide (k<=bit 367+total cs),(bit 367::cs).take (n-1))
 |_,_,cs=>(false,cs)
def plainT:Op->List Bool->List Int->Bool
 |.tt,_,_=>true
 |.cmp x op n,_,xs=>EX xs {x:=x,op:=op,n:=n}
 |.not,ts,_=>!ts.getD 0 false
 |.and,ts,_=>ts.getD 0 false&&ts.getD 1 false
 |.or,ts,_=>ts.getD 0 false||ts.getD 1 false
 |_,_,_=>false
def Op.arity:Op->Nat
 |.tt|.ff|.cmp _ _ _=>0
 |.and|.or|.since _ _=>2
 |_=>1
def Op.kd:Op->Bool
 |.prev|.rose|.once _ _|.always _ _|.since _ _|.count _ _=>true
 |_=>false
structure Yd(o:Op)(ts:List Bool)(cs:List Nat):Prop where
 len:cs.length=o.width
 ar:ts.length=o.arity
 pv:o=.prev->∀c∈cs,c<=1
 small:cs.length<=1000
end PC
namespace PC
open PySem PySem.Spec PyProof.Rows L2 XW
open PySem.W (Frag)
variable{P:aT}{w:aI}{K:Frag}{mg:Str->Option Value}{base:Heap}
def Op.kind:Op->Str
 |.tt=>"true"
 |.ff=>"false"
 |.cmp _ _ _=>"compare"
 |.not=>"not"
 |.and=>"and"
 |.or=>"or"
 |.prev=>"prev"
 |.rose=>"rose"
 |.once _ _=>"once"
 |.always _ _=>"always"
 |.since _ _=>"since"
 |.count _ _=>"count"
theorem aU{c A B:Prop} [Decidable c](h:¬c)(b:B):if c then A else B:=by rw[if_neg h];exact b
theorem aS{c A B:Prop} [Decidable c](h:c)(b:A):if c then A else B:=by rw[if_pos h];exact b
theorem pI{p:Prop} [Decidable p](h:¬p):¬(decide p=true):=fun e=>h (of_decide_eq_true e)
section
variable{X:Cx}{x:Str}{pos p di:Pos}{i:Int}{y:Str}{a b e o:aH}{es:List aH}{ta tb:TE}{t:TA}{st:aL}{ps:List Str}{sp:Sp}{k m:Nat}{C:Addr}{b4:Str}
theorem cF(c:Ct X.mg x i)(hg:Gl X x:=by rfl)(hd:81=false:=by decide):PE X 482 (tC 835):=by obtain⟨tk,e⟩:=c.ex;exact yE hg e ⟨tk,rfl⟩ hd
theorem o6(c:Cs X.mg x y)(hg:Gl X x:=by rfl)(hd:81=false:=by decide):PE X 482 (tC (.str y)):=by obtain⟨tk,e⟩:=c.ex;exact yE hg e ⟨tk,rfl⟩ hd
theorem oh{q:Addr}(e:548 (.ref q))(hg:Gl X x:=by rfl)(hd:81=false:=by decide):PE X 482 (tC (.ref q)):=yE hg e rfl hd
theorem bJ(fn:984)(G:423 bj)(hr:cW m X.A)(ha:614)(hk:k<=m:=by decide)(hg:Gl X x:=by rfl)(eK:81=false:=by decide)(he:starEach 298 X.env=(false,eval e X.env)::starEach es X.env:=by rfl)(dj:(117 pos).any (·.1)=false:=by rfl):PE X 311 (zd sp [] E0 t):=BK G 601 hg fn.m fn.F.kp fn.b .nil oj ha eK he dj
end
local macro_rules|`(tactic|walk_at "rd")=>`(tactic|repeat(first
 |assumption
 |refine⟨_,rfl,?_⟩
 |refine⟨rfl,_,rfl,?_⟩
 |refine⟨_,_,rfl,rfl,?_⟩
 |refine⟨_,_,_,_,rfl,rfl,(by assumption),rfl,?_⟩
 |refine⟨_,_,_,_,rfl,(by assumption),rfl,?_⟩
 |refine⟨_,_,rfl,.inr (Tx.sq _ _),rfl,rfl,_,rfl,?_⟩
 |refine aU (by decide+kernel) ?_
 |refine aS (by decide+kernel) ?_))
def uo(nd:Nd)(pn pp:Addr):List (Str×V):=[("kind",.str nd.op.kind),("numbers",.ref pn),("parts",.ref pp),("start",.int nd.start),("width",.int nd.op.width)]
structure jt(C:Addr)(H:Hp)(a:Addr)(nd:Nd)(dx pn pp:Addr):Prop where
 at_:H a=some (.ins C dx (uo nd pn pp))
 nums:H pn=some (.tup (nd.op.nums.map V.int))
 parts:H pp=some (.tup (nd.parts.map fun(n:Nat)=>V.int (n:Int)))
 wf:nd.op.wf
theorem jt.same{C:Addr}{H H':Hp}{a:Addr}{nd:Nd}{dx pn pp:Addr}(x:jt C H a nd dx pn pp)(S:416):jt C H' a nd dx pn pp:={S _ _ x.at_,S _ _ x.nums,S _ _ x.parts,x.wf}
def IsNode(C:Addr)(H:Hp)(v:V)(nd:Nd):Prop:=∃a dx pn pp,v=.ref a/\jt C H a nd dx pn pp
theorem IsNode.same{C:Addr}{H H':Hp}{v:V}{nd:Nd}(x:IsNode C H v nd)(S:416):IsNode C H' v nd:=by obtain⟨a,dx,pn,pp,e,h⟩:=x;exact{a,dx,pn,pp,e,h.same S}
def dU(C:Addr)(H:Hp)(l:Addr)(ac:277):Prop:=∃vs,H l=some (.lst vs)/\Paired (IsNode C H) vs ac
theorem dU.same{C:Addr}{H H':Hp}{l:Addr}{ac:277}(x:dU C H l ac)(S:416):dU C H' l ac:=by obtain⟨vs,e,p⟩:=x;exact 796
def W9:Sp:=fun vs H Q _=>∃(o:Op)(p:Addr),vs=[.str o.kind,.ref p]/\H p=some 541/\o.wf/\Q (.int o.width) H
theorem Zy:bf ["kind","numbers"] ["kind","numbers"] (a_ Pr):=17
theorem Lu(T:65):aE P w K mg base bj 1 T.Ar.a T.Ar.fd ["kind","numbers"] W9:=by refine T.Ar.F.ok Zy 28 19;obtain⟨o,p,rfl,_⟩:=h;rfl;(·obtain⟨o,p,rfl,hp,wf,k⟩:=h;refine(421 (aj (554 (PW.pt (lD (73 cD 56 cu) (mU (73 cD 56 cu)))) (au (aF ap))) (aj (554 (bh qY 56 (oh T.qi.m) 77) (au (aF (606 (343 179))))) (aj (554 (73 cD 56 cu) (au (aF (bQ kI (343 179) ap)))) (au (aF ap))))));cases o;ext:53;rw[e];exact k)
def ad1(C:Addr):Sp:=fun vs H Q _=>∃(nd:Nd)(a dx pn pp:Addr),vs=[.ref a]/\jt C H a nd dx pn pp/\Q (.int (endOf nd.op.reach)) H
theorem aiE:bf ["node"] ["node"] (a_ Ro):=17
theorem aaY(T:65):aE P w K mg base bj 1 T.Eh.a T.Eh.fd ["node"] (ad1 T.aJ):=by refine T.Eh.F.ok aiE 28 19;obtain⟨nd,a,dx,pn,pp,rfl,_⟩:=h;rfl;(·obtain⟨⟨o,parts,st⟩,a,dx,pn,pp,rfl,⟨h1,h2,h3,wf⟩,k⟩:=h;refine(421 (aj (554 (PW.pt (lD 151 (mU 151))) (au (aF ap))) (aj (554 (bh qY (424 56) (oh T.qi.m) 77) (au (aF 104))) (aj (554 151 (au (aF (bQ kI 104 ap)))) (au (aF ap))))));cases o;ext:53;rw[e];exact k)
def Y5(C:Addr):Sp:=fun vs H Q _=>∃l ac,vs=[.ref l]/\dU C H l ac/\ac.length<=1000/\∀H',ah H H'->Q (.int ((ac.map fun n=>(n.op.width:Int)).sum)) H'
theorem Fj:bf ["nodes","node"] ["nodes"] (a_ Nh):=17
theorem J1{α β γ:Type}{R:300}{R2:α->V->Prop}{f:β->γ}{g:γ->V}(h:∀x b y,R x b->R2 x y->y=g (f b)):∀{xs:List α}{bs:List β}{ys:List V},Paired R xs bs->Paired R2 xs ys->ys=(bs.map f).map g
 |_,_,_,.nil,.nil=>rfl
 |_,_,_,.cons a r,.cons b t=>by rw[h _ _ _ a b,J1 h r t];rfl
theorem nM{α β:Type}{R:300}:∀{xs:List α}{bs:List β}{x:α},Paired R xs bs->x∈xs->∃b,b∈bs/\R x b
 |_,_,_,.nil,h=>by simp at h
 |_,_,_,.cons a r,h=>by rcases bE.mp h with e|h;subst e;exact{_,cY,a};obtain⟨b,h1,h2⟩:=nM r h;exact{b,cZ _ h1,h2}
theorem CY{n:Nat}(h:n<=1000):n<=sizeLine:=by rw[sizeLine_eq];omega
theorem HP(T:65):aE P w K mg base bj 1 T.vF.a T.vF.fd ["nodes"] (Y5 T.aJ):=by
 refine T.vF.F.ok Fj 28 19;obtain⟨l,ac,rfl,_⟩:=h;rfl;obtain⟨l,ac,rfl,⟨ws,hl,hn⟩,hz,k⟩:=h;refine(421 (au (aF (cw (Pj rfl) rfl T.JL boot_sum (38 (j6 rfl Fj.nd (io 56) (own:=[("node",1)]) 20 (46 (cE (i:=1) Fj.nd rfl 18)) 645 (46 (aX T.cq T.Fm 179))))))));refine 501;have bK:ws.length<=sizeLine:=by rw[bY hn];exact CY hz
 refine yg (xs:=ws) (fun _ x y=>∃nd:Nd,IsNode T.aJ H x nd/\y=.int nd.op.width) hD 134 886 bK 567 940;obtain⟨nd,_,a,dx,pn,pp,rfl,N⟩:=nM hn hx;exact{_,rfl,a,dx,_,_,rfl,S _ _ N.at_,rfl,q _ _ ah.refl {nd,⟨a,dx,pn,pp,rfl,N⟩,rfl}};have e2:ys=(ac.map fun n=>(n.op.width:Int)).map V.int:=J1 (R:=IsNode T.aJ H) (fun x nd y h1 ⟨qH,h2,e⟩=>by obtain⟨a,dx,pn,pp,rfl,N⟩:=h1;obtain⟨a',zf,iD,pp',e',N'⟩:=h2;ext:154;(have z1:nd.op.width=qH.op.width:=by simp only[uo,A0,ss,V.int.injEq]at z;omega);rw[e,<-z1]) hn p;rw[e2]at e;exact{D,_,rfl,aq.of e,k H' S}
section
open Vbavaf (bit onceCells sinceCells older last total)
local macro_rules|`(tactic|walk_at "rd")=>`(tactic|repeat(first
 |assumption
 |refine⟨_,rfl,?_⟩
 |refine⟨rfl,_,rfl,?_⟩
 |refine⟨_,_,rfl,rfl,?_⟩
 |refine⟨_,_,_,_,rfl,rfl,(by assumption),rfl,?_⟩
 |refine⟨_,_,_,_,rfl,(by assumption),rfl,?_⟩
 |refine⟨_,_,rfl,.inr (Tx.sq _ _),rfl,rfl,_,rfl,?_⟩
 |refine aU (by decide+kernel) ?_
 |refine aS (by decide+kernel) ?_))
abbrev nV(n:Nat):V:=V.int (n:Int)
abbrev bV(b:Bool):V:=V.int (bit b:Int)
def aaE:Sp:=fun vs H Q _=>∃(z a:Nat)(b:Option Nat)(p:Addr),vs=[nV z,.ref p]/\H p=some 680/\Q (nV (l6 a b z)) H
theorem Xt:bf ["z","window"] ["z","window"] (a_ UZ):=17
theorem Li(T:65):aE P w K mg base bj 1 T.zQ.a T.zQ.fd ["z","window"] aaE:=by refine T.zQ.F.ok Xt 28 19;obtain⟨z,a,b,p,rfl,_⟩:=h;rfl;(·obtain⟨z,a,b,p,rfl,h1,k⟩:=h;refine(421 (aj (554 (PW.pt (lD (725 56) (mU (73 cD (343 179) 924)))) (au (aF 56))) (au (aF (ig (73 j8 (bQ gK (343 179) 56) (343 179)) (606 56) ap)))));unfold l6 at k;by_cases hz:z=0;(·subst hz;walk_at "rd");rw[if_neg hz]at k;refine{_,rfl,rfl,_,rfl,aU 79 {_,rfl,_,_,_,_,rfl,rfl,h1,rfl,rfl,_,rfl,?_}};cases b with|none=>exact aS 47 {_,rfl,k}|some n=>refine aU (by simp[endOf]<;>omega) ?_;refine{_,rfl,_,_,_,_,rfl,rfl,h1,rfl,_,rfl,_,_,rfl,rfl,_,rfl,_,_,_,_,rfl,rfl,h1,rfl,_,_,rfl,rfl,_,rfl,?_};dsimp only at k;by_cases hn:a+z<=n;rw[if_pos hn]at k;refine aS (cK (show(a:Int)+(z:Int)<=(n:Int) by omega)) 486;exact k;rw[if_neg hn]at k;exact aU (pI (show¬(a:Int)+(z:Int)<=(n:Int) by omega)) k)
end
section
open Vbavaf (bit onceCells sinceCells older last total)
theorem mJ{xs:231}{n:Nat}(h:n<=xs.length):fP xs none (some (n:Int))=xs.take n:=by unfold fP;rw[HT.tX,HT.JW,A1 h];simp
theorem mE{xs:231}{n:Nat}(h:n<xs.length):¬(388 none (some (n:Int))):=by rw[HT.tX];omega
theorem Af{cs:71}{i:Nat}(h:i<cs.length):fL (cs.map nV) (i:Int)=some (nV (cs.getD i 0)):=by refine dA ?_;rw[d_,bM h,dI,bM h];rfl
theorem tq(n:Nat):decide (nV n=V.int 1)=decide (n=1):=by rw[h_];simp;omega
theorem wx(n:Nat):decide (nV n=V.int 0)=decide (n=0):=by rw[h_];simp
def abK(C:Addr):Sp:=fun vs H Q _=>∃(nd:Nd)(a' dx pn pp po:Addr)(v:Bool)(cs:List Nat)(a:Nat)(b:Option Nat),vs=[.ref a',bV v,.ref po]/\jt C H a' nd dx pn pp/\nd.op.nums=[(a:Int),endOf b]/\H po=some 780/\cs.length=a+1/\cs.length<=1000/\
 ∀H' q,ah H H'->H' q=some (.tup ((onceCells a b v cs).map nV))->Q (.ref q) H'
theorem Bo:bf ["node","now","own","latest","row","z"] ["node","now","own"] (a_ Q_):=17
theorem O9(T:65):aE P w K mg base bj 2 T.zL.a T.zL.fd ["node","now","own"] (abK T.aJ):=by
 refine T.zL.F.ok Bo 28 19;obtain⟨nd,a',dx,pn,pp,po,v,cs,a,b,rfl,_⟩:=h;rfl;obtain⟨nd,a',dx,pn,pp,po,v,cs,a,b,rfl,N,hn,iR,hl,hz,k⟩:=h;have kn:H pn=some 680:=by have z:=N.nums;rw[hn]at z;exact z
 refine(421 (aj (92 Bo.nd 104) (aj (170 Bo.nd (bQ yP (dB 483) (962 88))) (aj (476 Bo.nd (ig (725 (25 cO 602 174)) ap 597)) (au (aF (bQ yP (962 602) (dB (38 663)))))))));refine(804 a');refine{_,rfl,by show 1<=sizeLine;decide,fun q1 H1 S1 e1=>?_};refine 560;rw[mJ 249]at e2;refine(404 e1);ext:156;have ms:([bV v]++(cs.map nV).take a)=(728 a).map nV:=by rw[<-iV];rfl
 have aj8:(728 a).length=a+1:=by rw[aR,bU];omega
 have g7:H3 q3=some (.tup ((728 a).map nV)):=by rw[<-ms];exact e3
 have jr:fL ((728 a).map nV) (a:Int)=some (nV ((728 a).getD a 0)):=Af 23;by_cases hc:(728 a).getD a 0=1;refine{_,rfl,_,rfl,q3,_,_,_,rfl,rfl,g7,jr,rfl,_,rfl,aS 860 ?_};refine 82;rw[mJ 249]at e4;refine 105;refine 350;rw[bU,az,sizeLine_eq];simp;omega;rw[e6];unfold onceCells;ext:0;rw[if_pos hc,bH,iV];rfl;refine{_,rfl,_,rfl,q3,_,_,_,rfl,rfl,g7,jr,rfl,_,rfl,aU 585 ?_};refine(982 {_,rfl,a',dx,_,_,rfl,b5 _ _ N.at_,rfl,{_,a,b,pn,rfl,b5 _ _ kn,?_}});refine 82;rw[mJ 249]at e4;refine 105;refine 350;rw[bU,az,sizeLine_eq]
 simp;omega;rw[e6];unfold onceCells;ext:0;rw[if_neg hc,bH,iV];rfl
end
section
open Vbavaf (bit onceCells sinceCells older last total)
theorem acZ(b:Bool):decide (bV b=V.int 1)=b:=by cases b<;>rfl
theorem aiq(n:Nat)(b:Bool)(h:n<=1)(e:(n==1)=b):nV n=bV b:=by subst e;match n,h with|0,_=>rfl|1,_=>rfl
theorem GA(xs:71)(x:Nat):last (xs++[x])=x:=by simp[last]
theorem qX{xs:231}{v:V}:fL (xs++[v]) (-1)=some v:=ahG xs v
def ux(C:Addr)(is:Op->Prop):Sp:=fun vs H Q _=>∃(nd:Nd)(a dx pn pp l po:Addr)(ts:List Bool)(cs:List Nat),vs=[.ref a,.ref l,.ref po]/\jt C H a nd dx pn pp/\is nd.op/\H l=some (80 (ts.map bV))/\H po=some 780/\Yd nd.op ts cs/\
 ∀H' p q,ah H H'->H' p=some (.tup [bV (g_ nd.op ts cs).1,.ref q])->H' q=some (.tup ((g_ nd.op ts cs).2.map nV))->Q 310 H'
theorem afR:bf ["node","parts","own"] ["node","parts","own"] (a_ UD):=17
theorem ZC(T:65):aE P w K mg base bj 1 T.wv.a T.wv.fd ["node","parts","own"] (ux T.aJ (·=.prev)):=by refine T.wv.F.ok afR 28 19;ext:57;have ho:o=.prev:=ho;ext:188;have hc:c<=1:=pre.pv rfl c 42;refine(421 (au (aF (dB (aa (343 88) (38 (dB 297)))))));refine{_,rfl,po,_,_,_,rfl,rfl,iR,rfl,{_,rfl,l,_,_,_,rfl,rfl,hl,rfl,by show 1<=sizeLine;decide,fun q H1 S1 e1=>?_}};refine{by show 2<=sizeLine;decide,fun p H2 S2 e2=>?_};refine k H2 p q (910 S2) ?_ (547 e1);rw[e2,aiq c _ hc rfl];rfl
theorem RV:bf ["node","parts","own","truth"] ["node","parts","own"] (a_ Mm):=17
theorem aaq(T:65):aE P w K mg base bj 1 T.wI.a T.wI.fd ["node","parts","own"] (ux T.aJ (·=.rose)):=by
 refine T.wI.F.ok RV 28 19;ext:57;have ho:o=.rose:=ho;ext:188;refine(421 (aj (92 RV.nd (ig (PW.pt (Dh (725 66) (BP (725 (343 88))))) ap ap)) (au (aF (dB (aa 174 (38 (dB (38 (ig (725 66) ap ap))))))))));refine{_,rfl,l,_,_,_,rfl,rfl,hl,rfl,rfl,_,rfl,?_}
 cases t with|false=>refine aU 47 (aU 47 ?_);refine{_,rfl,(188 aU)};exact 447|true=>refine aS 47 {_,rfl,po,_,_,_,rfl,rfl,iR,rfl,rfl,_,rfl,?_};by_cases hc:c=1;subst hc;refine aS 47 ?_;refine{_,rfl,(188 aS)};exact 447;refine aU 585 ?_;refine{_,rfl,(188 aS)};refine{by show 2<=sizeLine;decide,fun p H2 S2 e2=>k H2 p q (910 S2) ?_ (547 e1)};(have z:(g_ .rose [true] [c]).1=false:=by show(true&&c==1)=false;simp[hc]);rw[e2,z];rfl
theorem Sv:bf ["node","parts","own","after"] ["node","parts","own"] (a_ Q5):=17
theorem ZX(T:65):aE P w K mg base bj 3 T.wE.a T.wE.fd ["node","parts","own"] (ux T.aJ (fun o=>∃a b,o=.once a b)):=by
 refine T.wE.F.ok Sv 28 19;ext:11;have ho:o=.once wa wb:=ho;subst ho;ext:32;have bK:cs.length=wa+1:=pre.len;refine(421 (aj (92 Sv.nd (442 T.zL (O9 T) (aa 56 (aa 66 336)))) 515));refine{_,rfl,{_,rfl,l,_,_,_,rfl,rfl,hl,rfl,{_,rfl,{_,a,dx,pn,pp,po,t,cs,wa,wb,rfl,N,rfl,iR,bK,pre.small,fun H1 q S1 e1=>?_}}}};have uA:H1 q=some (.tup (((bit t::cs.take wa).take wa).map nV++[nV (last (345 t))])):=by rw[e1];unfold onceCells;ext:0;rw[GA,bH];rfl
 refine 769;by_cases hz:last (345 t)=0;refine aS 861 126;have z:(g_ (.once wa wb) [t] cs).1=false:=by show(last (345 t) !=0)=false;simp[hz]
 rw[e2,z];rfl;refine aU 862 126;have z:(g_ (.once wa wb) [t] cs).1=true:=by show(last (345 t) !=0)=true;simp[hz]
 rw[e2,z];rfl
theorem Og:bf ["node","parts","own","after"] ["node","parts","own"] (a_ NF):=17
theorem adC(T:65):aE P w K mg base bj 3 T.xa.a T.xa.fd ["node","parts","own"] (ux T.aJ (fun o=>∃a b,o=.always a b)):=by
 refine T.xa.F.ok Og 28 19;ext:11;have ho:o=.always wa wb:=ho;subst ho;ext:32;have bK:cs.length=wa+1:=pre.len;have adX:V.int (1-(bit t:Int))=bV (!t):=by cases t<;>rfl
 refine(421 (aj (92 Og.nd (442 T.zL (O9 T) (aa 56 (aa (bQ kI ap 66) 336)))) 515));refine{_,rfl,{_,rfl,l,_,_,_,rfl,rfl,hl,rfl,_,_,rfl,rfl,{_,rfl,{_,a,dx,pn,pp,po,!t,cs,wa,wb,by rw[<-adX];rfl,N,rfl,iR,bK,pre.small,fun H1 q S1 e1=>?_}}}};have uA:H1 q=some (.tup (((bit (!t)::cs.take wa).take wa).map nV++[nV (last (345 (!t)))])):=by rw[e1];unfold onceCells;ext:0;rw[GA,bH];rfl
 refine 769;by_cases hz:last (345 (!t))=0;refine aS 861 126;have z:(g_ (.always wa wb) [t] cs).1=true:=by show(last (345 (!t))==0)=true;simp[hz]
 rw[e2,z];rfl;refine aU 862 126;have z:(g_ (.always wa wb) [t] cs).1=false:=by show(last (345 (!t))==0)=false;simp[hz]
 rw[e2,z];rfl
end
section
open Vbavaf (bit onceCells sinceCells older last total)
theorem LH:∀cs:List Nat,((cs.map fun(n:Nat)=>(n:Int)).sum)=(total cs:Int)
 |[]=>rfl
 |c::r=>by show((c:Int)::r.map _).sum=((c+total r:Nat):Int);rw[xF,LH r];omega
theorem HS:bf ["node","parts","own","seen","truth"] ["node","parts","own"] (a_ L_):=17
theorem aiT(T:65):aE P w K mg base bj 1 T.vS.a T.vS.fd ["node","parts","own"] (ux T.aJ (fun o=>∃a b,o=.count a b)):=by
 refine T.vS.F.ok HS 28 19;obtain⟨nd,a,dx,pn,pp,l,po,ts,cs,rfl,_⟩:=h;rfl;obtain⟨⟨o,pR,st⟩,a,dx,pn,pp,l,po,ts,cs,rfl,N,⟨kk,n,ho⟩,hl,iR,pre,k⟩:=h;have ho:o=.count kk n:=ho;subst ho;ext:32;have bK:cs.length=n-1:=pre.len;have hsm:=pre.small;refine(421 (aj (92 HS.nd (bQ yP (dB 297) 88)) (aj (170 HS.nd (ig (73 nc (cw (ais rfl) rfl T.JL boot_sum 454) 104) ap ap)) (au (aF (dB (aa 602 (38 (j9 yw 174 mi (iI (68 336)))))))))));refine 477;refine{_,rfl,q1,po,_,_,rfl,rfl,e1,S1 _ _ iR,?_,fun q2 H2 S2 e2=>?_};rw[az,sizeLine_eq];simp;omega;have dL:=S1.trans S2;have pi:H2 q2=some (.tup (((bit t::cs).map fun(n:Nat)=>(n:Int)).map V.int)):=by rw[e2,gq];rfl
 refine{_,rfl,q2,_,rfl,pi,{_,rfl,a,dx,_,_,rfl,dL _ _ N.at_,rfl,pn,_,_,_,rfl,rfl,dL _ _ N.nums,rfl,_,_,rfl,rfl,_,rfl,?_}};have hs:(((bit t::cs).map fun(n:Nat)=>(n:Int)).sum)=((bit t+total cs:Nat):Int):=LH (bit t::cs);have DG:fP ([bV t]++cs.map nV) none (some ((cs.map nV).length:Int))=((bit t::cs).take (n-1)).map nV:=by rw[mJ 42,az,bK,iV];rfl
 by_cases hk:kk<=bit t+total cs;refine aS (cK (by rw[hs];omega)) ?_;refine 333;refine 401;refine 900;have z:(g_ (948 kk n) [t] cs).1=true:=cK hk;rw[e4,z];rfl;rw[DG]at e3;exact S4 _ _ e3;rw[12,(pI (by rw[hs];omega))];refine 333;refine 401;refine 900;have z:(g_ (948 kk n) [t] cs).1=false:=gn hk;rw[e4,z];rfl;rw[DG]at e3;exact S4 _ _ e3
theorem tQ:bf ["node","parts","own","latest","going_on","row","z"] ["node","parts","own"] (a_ P4):=17
theorem adA(T:65):aE P w K mg base bj 2 T.ve.a T.ve.fd ["node","parts","own"] (ux T.aJ (fun o=>∃a b,o=.since a b)):=by
 refine T.ve.F.ok tQ 28 19;ext:11;have ho:o=.since wa wb:=ho;subst ho;obtain⟨v,w',rfl⟩:∃v w',ts=[v,w']:=by match ts,pre.ar with|[v,w'],_=>exact⟨v,w',rfl⟩
 have bK:cs.length=wa+1:=pre.len;have hsm:=pre.small;have kn:H pn=some (.tup [nV wa,.int (endOf wb)]):=N.nums
 refine(421 (aj (92 tQ.nd 104) (aj (170 tQ.nd (jF cD 66 ap (bi _))) (aj (476 tQ.nd (bQ yP (dB 297) (ig (gP 602) (962 88) (bQ Ov (dB 884) 174)))) (aj (933 tQ.nd ap) (aj (bB (725 (25 cO 663 174)) (au (933 tQ.nd ap)) (au (554 (gP 602) (au (933 tQ.nd 597))))) (au (aF (dB (aa (ig (725 (pv 6)) ap ap) (38 (bQ yP (962 663) (dB 671)))))))))))))
 refine(804 a);refine{_,rfl,l,_,_,_,rfl,rfl,hl,rfl,rfl,?_};refine 477;have tail:∀(line:List Nat)(q3:Addr)(H3:Hp),ah H H3->H3 q3=some (.tup (line.map nV))->line.length=wa+1->line=bit w'::(if v=true then cs.take wa else cS wa 0)->∀z:Nat,z=(if line.getD wa 0=1 then 1 else if v=true then l6 wa wb 1035 else 0)->∀H4 q4,ah H3 H4->H4 q4=some (.tup ((line.take wa).map nV))->∀H5 q5,ah H4 H5->H5 q5=some (.tup [nV z])->∀H6 q6,ah H5 H6->H6 q6=some (.tup ((line.take wa).map nV++[nV z]))->∀H7 p,ah H6 H7->H7 p=some (.tup [bV (z !=0),.ref q6])->Q 310 H7:=by intro line q3 H3 S3 e3 ll el z ez H4 q4 S4 e4 H5 q5 S5 e5 H6 q6 S6 e6 H7 p S7 e7;(have hn:sinceCells wa wb v w' cs=line.take wa++[z]:=by unfold sinceCells;ext:0;rw[<-el,ez]);refine k H7 p q6 ((((S3.trans S4).trans S5).trans S6).trans S7) ?_ ?_;(have y:(g_ (.since wa wb) [v,w'] cs).1=(z !=0):=by show(last (sinceCells wa wb v w' cs) !=0)=(z !=0);rw[hn,GA]);rw[e7,y];have y:(g_ (.since wa wb) [v,w'] cs).2=line.take wa++[z]:=hn;rw[S7 _ _ e6,y,bH];rfl
 have fin:∀(z:Nat),(z=0->bV (z !=0)=V.int 0)/\(¬z=0->bV (z !=0)=V.int 1):=fun z=>{fun e=>by subst e;rfl,fun e=>by(have:(z !=0)=true:=by simp[e]);rw[this];rfl}
 cases v with|true=>refine{_,rfl,_,rfl,aS 47 560};rw[mJ 249]at e2;refine(404 e1);ext:156;(have ll:(654 wa).length=wa+1:=by rw[aR,bU];omega);(have g7:H3 q3=some (.tup ((654 wa).map nV)):=by rw[e3,bL,iV];rfl);have jr:fL ((654 wa).map nV) (wa:Int)=some (nV ((654 wa).getD wa 0)):=Af 23;have tl:=tail _ q3 H3 b5 g7 ll rfl;refine 749;by_cases hc:(654 wa).getD wa 0=1;ext:162;refine aU 585 ?_;refine{_,rfl,_,rfl,aS 47 ?_};refine(982 {_,rfl,a,dx,_,_,rfl,b5 _ _ N.at_,rfl,{_,wa,wb,pn,rfl,b5 _ _ kn,?_}});refine 195;(have ez:l6 wa wb 1035=(if(654 wa).getD wa 0=1 then 1 else if true=true then l6 wa wb 1035 else 0):=by rw[if_neg hc,if_pos rfl]);by_cases hz:l6 wa wb 1035=0;refine aS 861 82;ext:60;refine 665;rw[(fin _).1 hz];exact e7;refine aU 862 82;ext:60;refine 665;rw[(fin _).2 hz];exact e7|false=>refine{_,rfl,_,rfl,aU 47 {by show 1<=sizeLine;decide,fun q0 H0 S0 e0=>?_}};refine{_,rfl,q0,_,_,rfl,rfl,e0,by omega,by omega,fun q2 H2 S2 e2=>?_};rw[pY]at e2;refine(404 (S0 _ _ e1));rw[uH,sizeLine_eq];simp;omega;have b5:ah H H3:=((910 S0).trans S2).trans S3;(have ll:(bit w'::cS wa 0).length=wa+1:=by rw[aR,uH]);(have g7:H3 q3=some (.tup ((bit w'::cS wa 0).map nV)):=by rw[e3,bL,Wb];rfl);have jr:fL ((bit w'::cS wa 0).map nV) (wa:Int)=some (nV ((bit w'::cS wa 0).getD wa 0)):=Af 23;have tl:=tail _ q3 H3 b5 g7 ll rfl;refine 749;by_cases hc:(bit w'::cS wa 0).getD wa 0=1;ext:162;refine aU 585 ?_;refine{_,rfl,_,rfl,aU 47 ?_};refine{_,rfl,rfl,_,rfl,aS 47 82};ext:60;exact tl 0 (by rw[if_neg hc,if_neg 29]) H4 q4 S4 e4 H5 q5 S5 e5 H6 q6 S6 e6 H7 p S7 e7
end
section
open Vbavaf (bit onceCells sinceCells older last total)
local macro_rules|`(tactic|walk_at "rd")=>`(tactic|repeat(first
 |assumption
 |refine⟨_,rfl,?_⟩
 |refine⟨rfl,_,rfl,?_⟩
 |refine⟨_,_,rfl,rfl,?_⟩
 |refine⟨_,_,_,_,rfl,rfl,(by assumption),rfl,?_⟩
 |refine⟨_,_,_,_,rfl,(by assumption),rfl,?_⟩
 |refine⟨_,_,rfl,.inr (Tx.sq _ _),rfl,rfl,_,rfl,?_⟩
 |refine aU (by decide+kernel) ?_
 |refine aS (by decide+kernel) ?_))
theorem aiC{xs:33}{i:Nat}(h:i<xs.length):fL 211 (i:Int)=some (V.int (xs.getD i 0)):=by refine dA ?_;rw[d_,bM h,dI,bM h];rfl
theorem six{α:Type}(f:Nat->α){op:Nat}(h:op<6):fL [f 0,f 1,f 2,f 3,f 4,f 5] (op:Int)=some (f op):=by match op,h with|0,_=>rfl|1,_=>rfl|2,_=>rfl|3,_=>rfl|4,_=>rfl|5,_=>rfl
def YM:Sp:=fun vs H Q _=>∃(p l:Addr)(x op:Nat)(n:Int)(xs:List Int),vs=[.ref p,.ref l]/\H p=some (.tup [nV x,nV op,.int n])/\H l=some (80 211)/\x<xs.length/\op<6/\∀H',ah H H'->Q (.bl 758) H'
theorem CU:bf ["comparison","readings","value","number","outcomes"] ["comparison","readings"] (a_ Rq):=17
theorem aet(T:65):aE P w K mg base bj 1 T.C_.a T.C_.fd ["comparison","readings"] YM:=by
 refine T.C_.F.ok CU 28 19;obtain⟨p,l,x,op,n,xs,rfl,_⟩:=h;rfl;obtain⟨p,l,x,op,n,xs,rfl,h1,h2,h3,h4,k⟩:=h;refine(421 (aj (90 CU.nd (25 bD 179 (343 56))) (aj (92 CU.nd (343 56)) (aj (170 CU.nd (dB (aa (607 tL) (aa (607 j8) (aa (607 cD) (aa (607 uB) (aa (607 nc) (38 (607 mG))))))))) (au (aF (25 cO 602 (343 56))))))));refine{_,rfl,_,rfl,p,_,_,_,rfl,rfl,h1,rfl,l,_,_,_,rfl,rfl,h2,aiC h3,?_};refine{_,rfl,p,_,_,_,rfl,rfl,h1,rfl,?_};refine{_,rfl,_,rfl,_,_,rfl,rfl,_,rfl,_,rfl,_,_,rfl,rfl,_,rfl,_,rfl,rfl,_,rfl,_,rfl,rfl,_,rfl,_,rfl,_,_,rfl,rfl,_,rfl,_,rfl,_,_,rfl,rfl,by show 6<=sizeLine;decide,fun q H1 S1 e1=>?_};let f:Nat->V:=fun op=>.bl 758
 have uA:H1 q=some (.tup [f 0,f 1,f 2,f 3,f 4,f 5]):=by rw[e1];(have i1:decide (V.int (xs.getD x 0)=V.int n)=decide (xs.getD x 0=n):=by rw[h_];simp);rw[i1];(have i2:(!decide (xs.getD x 0=n))=decide (xs.getD x 0≠n):=by simp);rw[i2];rfl
 exact{_,rfl,_,rfl,p,_,_,_,rfl,rfl,S1 _ _ h1,rfl,q,_,_,_,rfl,rfl,uA,six f h4,k H1 S1}
def aeM(C:Addr):Sp:=fun vs H Q _=>∃(nd:Nd)(a dx pn pp l lr:Addr)(ts:List Bool)(xs:List Int),vs=[.ref a,.ref l,.ref lr]/\jt C H a nd dx pn pp/\nd.op.kd=false/\H l=some (80 (ts.map bV))/\H lr=some (80 211)/\ts.length=nd.op.arity/\xs.length=8/\∀H',ah H H'->Q (bV (plainT nd.op ts xs)) H'
theorem ah1:bf ["node","parts","readings"] ["node","parts","readings"] (a_ Lx):=17
theorem Se(T:65):aE P w K mg base bj 2 T.xV.a T.xV.fd ["node","parts","readings"] (aeM T.aJ):=by
 refine T.xV.F.ok ah1 28 19;obtain⟨nd,a,dx,pn,pp,l,lr,ts,xs,rfl,_⟩:=h;rfl
 (·obtain⟨⟨o,pR,st⟩,a,dx,pn,pp,l,lr,ts,xs,rfl,⟨h1,h2,h3,wf⟩,hs,hl,tK,ar,h8,k⟩:=h;have k0:=k H ah.refl;refine(421 (aj (554 (73 cD (424 56) (o6 T.BG)) (au (aF (ig (gP (442 T.C_ (aet T) (aa (aX T.cq T.gz 56) 336))) ap ap)))) (aj (554 151 (au (aF (bQ kI ap 66)))) (aj (554 151 (au (aF (bQ ab4 66 66)))) (aj (554 151 (au (aF (bQ ahB 66 66)))) (au (aF (ig 151 ap ap))))))));cases o with|cmp x op n=>(obtain⟨w1,w2⟩:x<8/\op<6:=wf;walk_at "rd";refine{pn,lr,x,op,n,xs,rfl,h2,tK,by omega,w2,fun H' S=>?_};have kk:=k H' S;have kb:bV (plainT (Op.cmp x op n) ts xs)=.int ((bit 758:Nat):Int):=rfl;rw[show(bV (plainT {op:=Op.cmp x op n,parts:=pR,start:=st:Nd}.op ts xs))=_ from kb]at kk;walk_at "rd";revert kk;cases EX xs {x:=x,op:=op,n:=n}with|true=>exact fun kk=>kk|false=>exact fun kk=>kk)|not=>obtain⟨t,rfl⟩:∃t,ts=[t]:=iz.mp ar;cases t<;>walk_at "rd"<;>(first|exact k0|trace_state)|and=>(obtain⟨v,w',rfl⟩:∃v w',ts=[v,w']:=by match ts,ar with|[v,w'],_=>exact⟨v,w',rfl⟩);cases v<;>cases w'<;>walk_at "rd"<;>(first|exact k0|trace_state)|or=>(obtain⟨v,w',rfl⟩:∃v w',ts=[v,w']:=by match ts,ar with|[v,w'],_=>exact⟨v,w',rfl⟩);cases v<;>cases w'<;>walk_at "rd"<;>(first|exact k0|trace_state)|tt=>walk_at "rd"|ff=>walk_at "rd"|_=>cases hs)
end
end PC
namespace SS
open PySem PySem.SetTable
def Up(xs:706):Prop:=∀i j(hi:i<xs.size)(hj:j<xs.size),i<j->xs[i]<xs[j]
theorem GL(xs:706)(j:Nat)(U:Up xs):∀(f lo hi:Nat),hi-lo<=f->lo<=hi->hi<=xs.size->(∀i(h:i<xs.size),i<lo->xs[i]<j)->(∀i(h:i<xs.size),hi<=i->j<=xs[i])->(KC xs j f lo hi<=xs.size/\(∀i(h:i<xs.size),i<KC xs j f lo hi->xs[i]<j)/\∀i(h:i<xs.size),KC xs j f lo hi<=i->j<=xs[i])
 |0,lo,hi,hf,hl,hh,a,b=>by(have e:lo=hi:=by omega);subst e;exact⟨hh,a,b⟩
 |f+1,lo,hi,hf,hl,hh,a,b=>by unfold KC;by_cases aY:lo<hi;rw[if_pos aY];(have hm:(lo+hi)/2<xs.size:=by omega);(have em:xs.getD ((lo+hi)/2) j=xs[(lo+hi)/2]:=by simp[Wc,hm]);ext:0;rw[em];by_cases hc:xs[(lo+hi)/2]<j;rw[if_pos hc];refine GL xs j U f _ _ 23 23 hh (fun i h wg=>?_) b;by_cases e:i=(lo+hi)/2;subst e;exact hc;exact xD (U i _ h hm 23) hc;rw[if_neg hc];refine GL xs j U f _ _ 23 23 23 a (fun i h wg=>?_);by_cases e:i=(lo+hi)/2;subst e;omega;have:=U _ i hm h 23;omega;rw[if_neg aY];(have e:lo=hi:=by omega);subst e;exact⟨hh,a,b⟩
theorem Ja{xs:706}(U:Up xs)(j:Nat):below xs j<=xs.size/\(∀i(h:i<xs.size),i<below xs j->xs[i]<j)/\∀i(h:i<xs.size),below xs j<=i->j<=xs[i]:=GL xs j U _ _ _ 23 (bA _) 227 (fun i _ h=>absurd h (We _)) (fun i h h'=>absurd h' 23)
theorem Z5{xs:706}(U:Up xs){i:Nat}(h:i<xs.size):below xs (xs[i]+1)=i+1:=by
 obtain⟨h1,h2,h3⟩:=Ja U (xs[i]+1);rcases Nat.lt_trichotomy (below xs (xs[i]+1)) (i+1)with aY|e|hgt;have:=h3 i h 23;omega;exact e;have Mv:i+1<xs.size:=by omega
 have a:=h2 (i+1) Mv hgt;have b:=U i (i+1) h Mv 23;omega
theorem ac5{xs:706}(U:Up xs):below xs 0=0:=by obtain⟨h1,h2,h3⟩:=Ja U 0;cases e:below xs 0 with|zero=>rfl|succ n=>rw[e]at h1 h2;exact 89 (h2 0 23 23) (We _)
theorem Te {xs : 706} {p x : Nat} (hp : p ≤ xs.size) (i : Nat) (h : i < (insertAt xs p x).size) :
    (insertAt xs p x)[i] = if h1 : i < p then xs[i]' 23 else if h2 : i = p then x else xs[i - 1]'(by
      have e := toList_insertAt xs p x
      have e2 := eC pX e
      simp only [jk, bw, bU, aR, cy] at e2
      omega) := by
  have e := toList_insertAt xs p x
  have e0 : (insertAt xs p x)[i] = (xs.toList.take p ++ x :: xs.toList.drop p)[i]'(by rw [← e]; simpa using h) := by
    rw [← Wf]
    simp only [e]
  rw [e0]
  have lt : (xs.toList.take p).length = p := by rw [bU, jk]; omega
  by_cases h1 : i < p
  · rw [dif_pos h1, List.getElem_append_left (by rw [lt]; exact h1), KG, Wf]
  · rw [dif_neg h1, List.getElem_append_right (by rw [lt]; omega)]
    by_cases h2 : i = p
    · rw [dif_pos h2]
      have : i - (xs.toList.take p).length = 0 := by rw [lt]; omega
      simp only [this, List.getElem_cons_zero]
    · rw [dif_neg h2]
      obtain ⟨k, hk⟩ : ∃ k, i - (xs.toList.take p).length = k + 1 := {i - p - 1, by rw [lt]; omega}
      simp only [hk, Wg, KH, Wf]
      congr 1
      rw [lt] at hk
      omega
theorem aeL{xs:706}(U:Up xs){j:Nat}(hn:xs[below xs j]?≠some j):Up (insertAt xs (below xs j) j):=by
 obtain⟨hp,h2,h3⟩:=Ja U j;have qZ:∀i(h:i<xs.size),below xs j<=i->j<xs[i]:=by intro i h jU;rcases EY (below xs j) i with aY|hge;(have hb:below xs j<xs.size:=by omega);have a:=h3 _ hb 227;have b:=U _ i hb h aY;omega;(have e:i=below xs j:=by omega);subst e;have a:=h3 _ h 227;have b:xs[below xs j]≠j:=fun e=>hn (by rw[qd h,e]);omega
 intro a b ha hb kq;rw[Te hp,Te hp];by_cases a1:a<below xs j;rw[dif_pos a1];by_cases b1:b<below xs j;rw[dif_pos b1];exact U a b _ _ kq;rw[dif_neg b1];by_cases b2:b=below xs j;rw[dif_pos b2];exact h2 a _ a1;rw[dif_neg b2];exact xD (h2 a 23 a1) (qZ _ _ 23);have b1:¬b<below xs j:=by omega
 have b2:¬b=below xs j:=by omega
 rw[dif_neg a1,dif_neg b1];by_cases a2:a=below xs j;rw[dif_pos a2,dif_neg b2];exact qZ _ _ 23;rw[dif_neg a2,dif_neg b2];exact U _ _ _ _ 23
structure J(led:Bool)(t:SetTable):Prop where
 led:t.led=led
 T_:t.dummies=#[]
 up:t.plain=true->Up t.place
theorem J.fresh(led:Bool):J led (.fresh 0 0 led):={rfl,rfl,fun _ i j hi=>absurd hi (We _)}
theorem J.standIn{led:Bool}{t:SetTable}(h:J led t)(n:Nat):J led (t.standIn n):={h.led,rfl,fun e=>nomatch e}
theorem J.orStandIn{led:Bool}{t:SetTable}(h:J led t)(n:Nat):J led (t.orStandIn n):=by unfold SetTable.orStandIn;ext:183;exact h.standIn n
theorem abJ(t:SetTable)(p:Probe):(t.advance p).dummy=p.dummy:=by unfold SetTable.advance;split<;>rfl
theorem Vn{t:SetTable}(hd:t.dummies=#[])(f:Nat->Int)(h:Int)(hf:∀i,f i≠h):∀(n:Nat)(p:Probe),p.dummy=none->∀m,ajv t f h n p=some m->∃j,m=.empty j none/\t.slot j=.empty
 |0,p,_,m,e=>by cases e
 |n+1,p,hp,m,e=>by unfold ajv at e;cases hs:t.slot p.j with|empty=>rw[hs]at e;simp only[xJ]at e;exact{p.j,by rw[<-e,hp],hs}|dummy=>exfalso;unfold SetTable.slot at hs;rw[hd]at hs;dsimp only at hs;split at hs;cases hs;simp[SetTable.has]at hs|live i=>rw[hs]at e;(have cC:(f i==h)=false:=by simpa using hf i);simp only[cC,oG,kS]at e;exact Vn hd f h hf n _ (by rw[abJ];exact hp) m e
theorem aeT{t:SetTable}(hd:t.dummies=#[]){h:Int}{j:Nat}{b:Bool}(e:t.freeSlot h=some (j,b)):t.slot j=.empty:=by unfold SetTable.freeSlot at e;cases hp:t.probe (fun _=>h+1) h (t.probeStart h)with|none=>rw[hp]at e;cases e|some m=>obtain⟨i,rfl,hs⟩:=Vn hd (fun _=>h+1) h (fun _=>by omega) _ _ rfl m hp;rw[hp]at e;simp only[VZ,xJ,ss]at e;rw[<-e.1];exact hs
theorem Xp{t:SetTable}{j:Nat}(h:t.slot j=.empty):t.place[below t.place j]?≠some j:=by intro e;unfold SetTable.slot at h;simp[e]at h
theorem J.put{led:Bool}{t:SetTable}(h:J led t){j:Nat}(hs:t.slot j=.empty):J led (t.put j).1:=by refine{h.led,?_,fun e=>aeL (h.up e) (Xp hs)};show(if has t.dummies j then _ else t.dummies)=_;rw[h.T_];simp[SetTable.has]
theorem J.layNew{led:Bool}{t:SetTable}(h:J led t)(es:Array 339)(hh:Int)(x:Value):J led (KI t es hh x).2.1:=by unfold KI;split;rename_i slot wd e;exact(h.put (aeT h.T_ e)).orStandIn _;exact h.standIn _
theorem adZ{l:71}(h:l.Pairwise (·<·)):Up l.toArray:=by intro i j hi hj xg;simp only[dk]at hi hj;simpa using List.pairwise_iff_getElem.mp h i j hi hj xg
theorem Ts(own:Nat->Option Nat):∀(l:List Nat),l.Pairwise (·<·)->((l.filterMap fun j=>(own j).map (j,·)).map (·.1)).Pairwise (·<·)
 |[],_=>.nil
 |a::l,h=>by obtain⟨h1,h2⟩:=xK.mp h;have ih:=Ts own l h2;cases e:own a with|none=>simpa[xq,e]using ih|some k=>simp only[xq,e,uL,bL];refine xK.mpr {fun x hx=>?_,ih};simp only[dJ,rQ]at hx;obtain⟨q,⟨b,hb,hq⟩,rfl⟩:=hx;cases eb:own b with|none=>rw[eb]at hq;cases hq|some k'=>rw[eb]at hq;simp only[uL,xJ]at hq;rw[<-hq];exact h1 b hb
theorem J.relaid{led:Bool}{t t':SetTable}(h:J led t){hs:Array Int}{n:Nat}{o:706}(e:t.relaid hs n=some (t',o)):J led t':=by unfold SetTable.relaid SetTable.laid at e;cases hl:layClean (sizeAbove n-1) hs with|none=>simp[hl]at e|some owner=>simp only[hl,Option.bind_eq_bind,Option.bind_some,Option.pure_def,xJ,ss]at e;obtain⟨rfl,_⟩:=e;exact{h.led,rfl,fun _=>adZ (Ts (fun j=>owner.getD j none) _ List.pairwise_lt_range)}
theorem J.relayAll{led:Bool}{t:SetTable}(h:J led t)(es:Array 339)(n:Nat):J led (A2 t es n).2.1:=by unfold A2;split;rename_i t' o e;ext:0;split;exact h.relaid e;exact h.standIn _;exact h.standIn _
end SS
namespace SS
open PySem PySem.SetTable PyProof.Rows
def kv:Value->Int
 |.int n _=>n
 |_=>0
def jY(led:Bool)(h:Heap)(a:Addr)(ks:33):Prop:=∃o es ep t,h.get? a=some o/\o.ExactSet/\o.data=.set es ep t/\(∀e∈es.toList,∃n tk,e=(hashInt n,.int n tk))/\
 (es.toList.map fun e=>kv e.2).Perm ks/\es.size<su/\t.fits es.size=true/\J led t
section
variable{prog:aT}{w:aI}{A:bz}{E:Value->Shared->Prop}{s:Shared}
theorem elems{es:List 339}(h:∀e∈es,∃n tk,e=(hashInt n,eA n tk)):ElemsOf (xL prog w) es:=by intro e he;ext:147;exact{{n,KJ _ _ _ _,rfl},rfl}
theorem jY.at'{led:Bool}{h h':Heap}{a:Addr}{ks:33}(x:jY led h a ks)(k:∀o,h.get? a=some o->h'.get? a=some o):jY led h' a ks:=by obtain⟨o,es,ep,t,ho,r⟩:=x;exact{o,es,ep,t,k o ho,r}
theorem UA{led:Bool}{h:Heap}{a:Addr}{o:Obj}{es iM:Array 339}{ep:Nat}{t t':SetTable}{ks:33}(ho:354 a o)(hx:o.ExactSet)(hd:o.data=.set es ep t)(he:∀e∈iM.toList,∃n tk,e=(hashInt n,.int n tk))(hp:(iM.toList.map fun e=>kv e.2).Perm ks)(hb:iM.size<su)(hf:t'.fits iM.size=true)(hj:J led t'):(h.update a (EZ iM t')).get? a=some {o with data:=.set iM (ep+1) t'}/\jY led (h.update a (EZ iM t')) a ks:=by
 have hg:(h.update a (EZ iM t')).get? a=some {o with data:=.set iM (ep+1) t'}:=by have:=pZ (EZ iM t') ho (by rw[putSet_of iM t' hd];rfl);rw[putSet_of iM t' hd]at this;ext:64
 exact{hg,_,iM,ep+1,t',hg,hx,rfl,he,hp,hb,hf,hj}
theorem XS{es:List 339}(h:∀e∈es,∃n tk,e=(hashInt n,eA n tk)){ks:33}(hp:(es.map fun e=>kv e.2).Perm ks)(k:Int):(es.findIdx? fun e=>(xL prog w).is k e.2).isSome=ks.any (·==k):=by
 rw[List.findIdx?_isSome,<-hp.any_eq,List.any_map,h_,qe,qe];ext:67;rintro⟨e,he,q⟩;ext:147;refine{_,he,?_};have:n==k:=q;simpa[kv]using this;rintro⟨e,he,q⟩;ext:147;refine{_,he,?_};have q':n=k:=by simpa[kv]using q
 subst q';exact KJ _ _ _ _
theorem Qc{l l':List 339}(h:∀e∈l,∃n tk,e=(hashInt n,eA n tk))(p:l'.Perm l):∀e∈l',∃n tk,e=(hashInt n,eA n tk):=fun e he=>h e (p.mem_iff.mp he)
theorem Tu{led:Bool}{g:Bool->Sem Unit}(hg:∀(b:Bool)(bO:Shared)(Q':Unit->Shared->Prop),Q' () bO->wpAny 35 A (g b) Q' E bO){a:Addr}{o:Obj}{es fc:Array 339}{ep:Nat}{t t2:SetTable}{ks:33}{wd:Bool}{R:192 Bool}(ho:281 a o)(hx:o.ExactSet)(hd:o.data=.set es ep t)(he:∀e∈fc.toList,∃n tk,e=(hashInt n,.int n tk))(hp:(fc.toList.map fun e=>kv e.2).Perm ks)(hb:fc.size<su)(hf:t2.fits fc.size=true)(hj:J led t2)(h:∀h',lW a s.heap h'->jY led h' a ks->R (some true) {s with heap:=h'}):wpAny 35 A (do storeSet a fc t2;if(!wd&&t2.tooFull)=true then(do g (A2 t2 fc 828).2.2;storeSet a (A2 t2 fc 828).1 (A2 t2 fc 828).2.1;pure (some true))else pure (some true)) R E s:=by
 obtain⟨g1,k1⟩:=UA (led:=led) (ks:=ks) ho hx hd he hp hb hf hj;have sb:=KL s.heap a (EZ fc t2);rw[0,(wpAny_storeSet_of ho hd ?_ (Wh hb))];split;have pp:=relayAll_perm t2 fc 828;have ff:=relayAll_fits t2 fc 828;have jj:=hj.relayAll fc 828;generalize A2 t2 fc (xM fc.size)=Z at pp ff jj⊢;obtain⟨es2,t3,gv⟩:=Z;dsimp only at pp ff jj⊢;have sz:es2.size=fc.size:=by rw[<-jk,pp.length_eq,jk]
 rw[0,(hg _ _ _ (22 (wpAny_storeSet_of g1 rfl ?_ (Wh (by rw[sz];exact hb)))))];obtain⟨_,k2⟩:=UA (led:=led) (ks:=ks) g1 hx rfl (Qc he pp) ((pp.map _).trans hp) (by rw[sz];exact hb) ff jj;exact 58 (h _ (sb.trans (KL _ a _)) k2);exact 58 (h _ sb k1)
theorem aen{led:Bool}{a:Addr}{ks:33}{k:Int}{tk:Tok}{Q:470}(hS:jY led s.heap a ks)(room:ks.length+1<su)(h:∀b h',lW a s.heap h'->jY led h' a (step_dedup ks k)->Q b {s with heap:=h'}):wpAny 35 A (setAddHashed a (.int k tk) (hashInt k)) Q E s:=by
 obtain⟨o,es,ep,t,ho,hx,hd,he,hp,hb,hf,hj⟩:=hS;have hn:es.size=ks.length:=by rw[<-hp.length_eq,az,jk]
 have el:ElemsOf (xL prog w) es.toList:=elems he;have fa:=XS (prog:=prog) (w:=w) he hp k;unfold setAddHashed setAddHashedIn;refine 368 (22 (wpAny_setState_of ho hd hf ?_));ext:0;rw[byScan_of (knd:=xL prog w) rfl hb el];simp only[↓reduceIte];unfold setAddByScan;rw[0,(22 (mY (22 (wpAny_setScan_of (knd:=xL prog w) (k:=k) (KJ _ _ _ _) ho hd hf el ?_))))]
 cases hr:es.toList.findIdx? fun e=>(xL prog w).is k e.2 with|some j=>rw[hr]at fa;ext:0;refine 58 78;(have e:s={s with heap:=s.heap}:=by cases s;rfl);rw[e];refine h _ s.heap (Heap.SameBut.refl a s.heap) {o,es,ep,t,ho,hx,hd,he,?_,hb,hf,hj};unfold step_dedup;rw[if_pos (by rw[<-fa];rfl)];exact hp|none=>rw[hr]at fa;ext:0;have pp:=layNew_perm t es (hashInt k) (.int k tk);have ff:=layNew_fits t es (hashInt k) (.int k tk);have jj:=hj.layNew es (hashInt k) (.int k tk);change wpAny _ _ (match KI t es (hashInt k) (.int k tk)with|_=>_) _ _ _;generalize KI t es (hashInt k) (.int k tk)=Z at pp ff jj⊢;obtain⟨fc,t1,wd,gv⟩:=Z;dsimp only at pp ff jj⊢;rw[ajw]at pp;(have MR:∀e∈fc.toList,∃n tk,e=(hashInt n,eA n tk):=by refine Qc (fun e h'=>?_) pp;rcases bP.mp h' with h'|h';exact he e h';rw[cM]at h';exact⟨k,tk,h'⟩);(have RC:(fc.toList.map fun e=>kv e.2).Perm (step_dedup ks k):=by unfold step_dedup;rw[if_neg (by rw[<-fa];exact df)];refine(pp.map _).trans ?_;rw[bH];exact hp.append_right _);(have Dx:fc.size<su:=by rw[<-jk,pp.length_eq,bw,jk,hn];exact room);(have hgw:∀(b:Bool){bO:Shared}{Q':Unit->Shared->Prop},Q' () bO->wpAny 35 A (match b with|true=>rule "set.scan.the-table-gave-way"|false=>pure ()) Q' E bO:=fun b bO Q' hq=>by cases b<;>first|exact 58 hq|exact mY hq);rw[0,(hgw _ ?_)];split;refine 146;rw[hashByValue_scannable 8 (x:=.int k tk) rfl];refine 78;refine 1032;ext:78;refine 22 78;refine 1032;ext:78
end
end SS
namespace SS
open PySem PySem.SetTable PyProof.Rows
def iq(w:aI):Bool:=!1023
abbrev mB(led:Bool):Obj:={cls:=.type "set",dict:=none,data:=.set #[] 0 (.fresh 0 0 led)}
theorem YZ{h:Heap}{a:Addr}{led:Bool}(e:354 a (mB led)):jY led h a []:={_,#[],0,_,e,⟨rfl,rfl,rfl⟩,rfl,fun e he=>by simp at he,.nil,by decide,rfl,J.fresh led}
section
variable{prog:aT}{w:aI}{A:bz}{E:Value->Shared->Prop}{s:Shared}
theorem afX(a:Value){Q₁:43}(h:Q₁ 84 {s with heap:=s.heap.push 544}):codeAny 35 A (.call (.builtin "set.__new__") 981) (wants Q₁ E) s:=by refine codeAny_of_tree ?_;show wpAny _ A.in1 (do checkBuiltinCall "set.__new__" 981;again (.builtin "set.__new__" 981)) _ _ s;rw[0,(EW (PySem.F.newCall_set_1 a) (58 {mX ajx _,mW PySem.F.entry_set_new ?_}))];rw[oH ajx _];unfold Builtin.«set.__new__» Builtin.Frozenset.newClass;have ze:=sub_set_self;obtain⟨hp,g,d,tk,os⟩:=s;ext:0;wp_walk;refine Wi 78;ext:0;simp only[newObj];rw[0,(wpAny_alloc 78)];exact 58 h
end
section
variable{prog:aT}{w:aI}{A:bz}{R:rR->Shared->Prop}{I:Addr}{fp wr:List Addr}{G:Array EF->Array EF->Prop}{n:Nat}{P:Nat->Value->Prop}{St:Nat->Shared->Prop}{led:Bool}
theorem abf(W:WalksS prog w A.in1 I fp wr G n P St)(S:Addr)(hG:S∉fp)(val:Nat->Int)(rp:∀i v,P i v->∃t,v=.int (val i) t)(hb:n+1<su):∀(k i:Nat)(s:Shared),n-i=k->i<=n->St i s->jY led s.heap S (firstMet val i)->(∀s',Moved (S::wr) G s s'->jY led s'.heap S (firstMet val n)->R (.ok (.ret .none)) s')->codeAny 35 A (.builtin "set.update.loop" {[.ref S,.ref I],[]}) R s:=by
 have rA:S∉wr:=fun h=>hG (W.sub _ h);have sub:∀b∈wr,b∈S::wr:=fun b hb=>cZ _ hb;intro k
 induction k with|zero=>intro i s hk hi de hS hR;(have e:i=n:=by omega);subst e;refine mW ajy ?_;rw[oH Wj _];ext:145;rw[0,(W.done s _ _ de fun s' hm=>?_)];show wpAny _ A.in1 (ret fh) _ _ s';exact 58 (hR s' (hm.mono sub) (hS.at' fun o e=>hm.heap S o rA e))|succ k ih=>intro i s hk hi de hS hR;(have aY:i<n:=by omega);refine mW ajy ?_;rw[oH Wj _];ext:145;rw[0,(W.item i s _ _ aY de fun v s' hP qr hm=>?_)];obtain⟨t,rfl⟩:=rp i v hP;have fG:jY led s'.heap S (firstMet val i):=hS.at' fun o e=>hm.heap S o rA e;show wpAny _ A.in1 (holding [eA (val i) t] (setAdd S (.int (val i) t))>>=_) _ _ s';refine 22 627;unfold setAdd;refine 368 (22 ((xL prog w).pyHash (k:=val i) (KJ _ _ _ _) ?_));(have room:(firstMet val i).length+1<su:=by have:=KN val i;omega);refine aen (s:={s' with toks:=s'.toks+1}) fG room fun b' h' sb Ps=>?_;rw[<-Wk]at Ps;refine 58 {mX Wj _,ih (i+1) _ 23 aY (W.frame _ s' _ _ qr (rX _) fun b hb o e=>?_) Ps fun zA aaV Zv=>?_};rw[sb.2 b (fun h:b=S=>hG (by rw[<-h];exact hb))];exact e;refine hR zA (Moved.trans W.gtrans ((hm.mono sub).then_heap (rX _) fun b o hb e=>?_) aaV) Zv;rw[sb.2 b (fun h:b=S=>hb (by rw[h];exact cY))];exact e
end
section
variable{prog:aT}{w:aI}{A:bz}{E:Value->Shared->Prop}{s:Shared}
theorem agM{l:Addr}{items:136}{ns:33}{Q:43}(hh:149)(hl:s.heap.IsList l items)(hi:AK items.toList ns)(hb:items.size+1<su)(h:∀(h':Heap)(tk:Nat),jY (iq w) h' s.heap.objs.size (firstMet 340 items.size)->(∀b o,b<s.heap.objs.size->s.heap.get? b=some o->h'.get? b=some o)->Q 84 {s with heap:=h',toks:=tk}):wpAny 35 A (call (.type "set") [.ref l]) Q E s:=by
 obtain⟨c,tl,aj6⟩:=uO.mro;have aj1:=uO.made;have ze:=uO.sub;refine AF (codeAny_of_tree ?_);rw[2,(callAny (.type "set") _)];refine 58 {Code.quiet_builtin _ 47,mW PySem.F.entry_type_call ?_};rw[Around.under_plain (weight_type_call_type "set" [.ref l] []) rfl];have h1:=uO.notType;have h2:=uO.canCreate;have hct:=PySem.F.typeCall_set_1 283;repeat(any_goals(first|assumption|wp_step))
 refine codeAny_mono (afX 283 (E:=E) (Q₁:=fun obj bO=>obj=.ref s.heap.objs.size/\bO={s with heap:=s.heap.push 544}) 669) fun r bO hr=>?_
 cases r with|error e=>exact hr|ok fl=>cases fl with|ret obj=>obtain⟨rfl,rfl⟩:=hr;have hS:(240 544).get? s.heap.objs.size=some 544:=c_ _ rfl;have hT:Shared.TypeIs {s with heap:=s.heap.push 544} 84 "set":={_,hS,rfl};have hli:=uO.init.lookup;have hbi:=uO.init.bind 84;(repeat(any_goals(first|assumption|wp_step)));refine codeAny_mono (Kv (R:=wants (fun r eQ=>r=.none/\∃h' tk,eQ={s with heap:=h',toks:=tk}/\jY (iq w) h' s.heap.objs.size (firstMet 340 items.size)/\(∀b o,b<s.heap.objs.size->s.heap.get? b=some o->h'.get? b=some o)) E) uO.init.plain PySem.F.entry_set_init (check_set_init_1 hT ?_)) fun XY eQ ID=>?_;(·obtain⟨ol,ij,lI,nl,vC⟩:=hl;obtain⟨akb,YL,aj2,aiD⟩:=ol;simp only at lI vC;subst lI;subst vC;have aci:(240 544).get? l=some {cls:=.type "list",dict:=YL,data:=.seq items nl,slots:=aiD}:=bG _ ij;have aj5:=PySem.F.sub_list_set;have aj7:=PySem.F.sub_list_frozenset;(have cC:(kf "list"==kf "dict")=false:=by decide);have eO:(240 544).IsList l items:={_,aci,rfl,nl,rfl};unfold Builtin.«set.__init__» noKeywords Builtin.Frozenset.updateFrom;generalize hPI:pyIter=PI;wp_walk;subst hPI;refine AB eO (22 (wpAny_runValue ?_));have NM:l<s.heap.objs.size:=bn ij;(have Yx:A.in1.in1.in1.handled=none:=by simp[hh]);(have ahu:l≠(240 544).objs.size:=by rw[d8];exact cI (r9 NM));(have hG:s.heap.objs.size∉[(240 544).objs.size,l]:=by rw[d8];simp only[bE,cM,ic,or_false,not_or];exact{cI (rW _),kR NM});have rp:∀(i:Nat)(v:Value),items[i]?=some v->∃t,v=.int (340 i) t:=fun i v hv=>IntsAre.int_at hi i v (by rw[ajz];exact hv);refine abf ((V4 Yx _ l ahu items).toS) s.heap.objs.size hG 340 rp hb (items.size-0) 0 _ 23 (bA _) {194,(eO.push _)} (YZ (bG _ hS)) ?hR;case hR=>intro s' hm fG;obtain⟨h',g',d',li,Hj⟩:=s';have eg:g'=s.gens:=hm.gens;have ed:d'=s.drawn:=hm.drawn;have eo:Hj=s.os:=hm.os;subst eg;subst ed;subst eo;show wpAny _ _ _ _ _ _;refine 78;rw[2,(ret fh)];refine 58 {rfl,h',li,rfl,fG,fun b o hb e=>?_};have Dx:b≠s.heap.objs.size:=cI hb;(have gA:b≠(240 544).objs.size:=by rw[d8];exact cI (r9 hb));exact hm.heap b o (by simp only[bE,cM,ic,or_false,not_or];exact⟨Dx,gA⟩) (bG _ (bG _ e)));(·cases XY with|error e=>exact ID|ok aaF=>cases aaF with|ret r=>obtain⟨rfl,h',tk,rfl,fG,hX⟩:=ID;(repeat(any_goals(first|assumption|wp_step)));exact h _ _ fG hX|_=>exact ID.elim)|_=>exact hr.elim
end
end SS
namespace SS
open PySem PySem.SetTable PyProof.Rows
theorem Hx{α:Type}:∀(xs:List α)(i:Nat)(h:i<xs.length),(xs[i]::xs.eraseIdx i).Perm xs
 |x::xs,0,_=>.rfl
 |x::xs,i+1,h=>(List.Perm.swap _ _ _).trans (.cons _ (Hx xs i 785))
theorem UG{α:Type}(next:Nat->Nat):∀(f k:Nat)(l:List α)(o:Array α),f=l.length->(Wl next f k l o).toList.Perm (o.toList++l)
 |0,k,l,o,h=>by have e:l=[]:=uP.mp h.symm;subst e;unfold Wl;simp
 |f+1,k,l,o,h=>by(have hl:next k %l.length<l.length:=Nat.mod_lt _ 23);unfold Wl;rw[bM hl];ext:0;refine(UG next f _ _ _ (by rw[ajA,if_pos hl];omega)).trans ?_;rw[ajw,gp];exact List.Perm.append_left _ (Hx l _ hl)
theorem PX{α:Type}(next:Nat->Nat)(xs:Array α):(E1 next xs).toList.Perm xs.toList:=by
 have:=UG next xs.size 0 xs.toList #[] 42
 simpa[E1]using this
section
variable{M:oB}{A:bz}{E:Value->Shared->Prop}{s:Shared}
theorem wp_choose{Ur:Source}{n:Nat}{Q:Nat->Shared->Prop}(hn:n≠0)(h:∀i,i<n->Q i {s with drawn:=s.drawn.bump Ur}):wpAny M A (choose Ur n) Q E s:=fun _ _ _=>{hn,h _ (Nat.mod_lt _ (Nat.pos_of_ne_zero hn))}
theorem K'{α:Type}:∀(n:Nat)(xs:List α)(s:Shared){Q:List α->Shared->Prop},n=xs.length->(∀ys d,ys.Perm xs->Q ys {s with drawn:=d})->wpAny M A (drawOrder n xs) Q E s
 |0,xs,s,Q,hn,h=>by have e:xs=[]:=uP.mp hn.symm;subst e;unfold drawOrder;exact 58 (h [] s.drawn .nil)
 |n+1,[],s,Q,hn,h=>by simp at hn
 |n+1,x::xs,s,Q,hn,h=>by unfold drawOrder;rw[0,(wp_choose 42 fun i hi=>?_)];rw[bM hi];ext:0;rw[0,(K' n _ _ (by rw[ajA,if_pos hi];simp at hn⊢;omega) fun ys d hp=>wpAny_pure (h _ d ?_))];exact(List.Perm.cons _ hp).trans (Hx _ _ hi)
end
theorem aia:entryFor table "set.__iter__"=some Builtin.«frozenset.__iter__»:=entryFor_alias (id':="frozenset.__iter__") 390 rfl 47 390
theorem xk:Slot "set_iterator" "__next__" "set_iterator.__next__":=.of (owner:="set_iterator") (n:="__next__") (by rw[V_,V'];kernel_rfl) 47 47 47 518 893
theorem TW:entryFor table "set_iterator.__next__"=some Builtin.«set_iterator.__next__»:=entryFor_of_tree 390
theorem Ua:Manifest.owners.lookup (String.ofList ['r', 'o', 't', 'a', 'r', 'e', 't', 'i', '_', 't', 'e', 's'].reverse)=some Manifest.sig_set_iterator:=by kernel_rfl
theorem Vv(a:Value):argsOk "set_iterator.__next__" {[a],[]}:=by unfold argsOk;rw[signature?_of (id:="set_iterator.__next__") (n:=['_', '_', 't', 'x', 'e', 'n', '_', '_']) (o:=['r', 'o', 't', 'a', 'r', 'e', 't', 'i', '_', 't', 'e', 's']) 390 Ua];kernel_rfl
theorem UQ:Slot "set_iterator" "__iter__" "set_iterator.__iter__":=.of (owner:="set_iterator") (n:="__iter__") (by rw[V_,V'];kernel_rfl) 47 47 47 518 893
theorem af0:entryFor table "set_iterator.__iter__"=some Builtin.«dict_keyiterator.__iter__»:=entryFor_alias (id':="dict_keyiterator.__iter__") 390 rfl 47 390
theorem aeh(a:Value):argsOk "set_iterator.__iter__" {[a],[]}:=by unfold argsOk;rw[signature?_of (id:="set_iterator.__iter__") (n:=['_', '_', 'r', 'e', 't', 'i', '_', '_']) (o:=['r', 'o', 't', 'a', 'r', 'e', 't', 'i', '_', 't', 'e', 's']) 390 Ua];kernel_rfl
def At(h:Heap)(a:Addr)(es:Array 339)(ep:Nat)(t:SetTable):Prop:=∃o,h.get? a=some o/\o.ExactSet/\o.data=.set es ep t/\t.fits es.size=true
theorem At.at'{h h':Heap}{a:Addr}{es:Array 339}{ep:Nat}{t:SetTable}(x:At h a es ep t)(k:∀o,h.get? a=some o->h'.get? a=some o):At h' a es ep t:=by obtain⟨o,ho,r⟩:=x;exact{o,k o ho,r}
def mP(first:Value)(i:Nat)(a:Addr)(n ep:Nat):Obj:={cls:=.type "set_iterator",dict:=none,data:=.fields #[first,.int i 0,.ref a,.int n 0,.int ep 0],slots:=#[]}
section
variable{prog:aT}{w:aI}{A:bz}{E:Value->Shared->Prop}{s:Shared}{a:Addr}{es:Array (Int×Value)}{ep:Nat}{t:SetTable}
theorem D8{Q:470}(h:Q 1023 s):wpAny 35 A setsByText Q E s:=by unfold setsByText;exact 22 (Wi (58 h))
theorem vf{Q:(Array 339×Nat×SetTable)->Shared->Prop}(x:197)(h:Q (es,ep,t) s):wpAny 35 A (setState a) Q E s:=by obtain⟨o,ho,_,hd,hf⟩:=x;exact wpAny_setState_of ho hd hf h
theorem ahV{Q:Array 339->Shared->Prop}(bt:467 true)(x:197)(h:Q (E1 827 es) s):wpAny 35 A (setWalk a) Q E s:=by unfold setWalk;refine 917;ext:0;rw[0,(D8 ?_)];rw[bt,if_pos rfl];exact 22 (Wi (58 h))
theorem Ya{i slot:Nat}{Q:192 683}(bt:467 true)(x:197)(h:Q (((E1 827 es)[i]?).map fun e=>(e.2,slot)) s):wpAny 35 A (uQ a slot i ep) Q E s:=by unfold uQ;refine 917;ext:0;rw[0,(D8 ?_)];rw[bt,if_pos rfl,if_neg 42];exact 22 (ahV bt x (58 h))
theorem YE{slot given:Nat}{Q:192 683}(bt:467 false)(pl:t.plain=true\/es.size<=1)(led:t.led=true)(x:197)(h:Q (match es[below t.place slot]?,t.place[below t.place slot]? with|some (_,x),some j=>some (x,j+1)|_,_=>none) s):wpAny 35 A (uQ a slot given ep) Q E s:=by unfold uQ;refine 917;ext:0;rw[0,(D8 ?_)];rw[bt,if_neg df];refine A3 (fun hc=>?_) (fun _=>?_);exfalso;have iS:(!t.plain&&decide (es.size>1))=true:=hc;simp only[dm,sv,decide_eq_true_eq]at iS;rcases pl with e|e;rw[e]at iS;exact 89 iS.1 42;omega;(·refine 146;wp_delta;refine A3 (fun hc=>?_) (fun _=>?_);exfalso;rw[led]at hc;simp at hc;refine 78;exact 58 h)
end
end SS
namespace SS
open PySem PySem.SetTable PyProof.Rows
section
variable{prog:aT}{w:aI}{A:bz}{E:Value->Shared->Prop}{s:Shared}{a it:Addr}{es:Array (Int×Value)}{ep:Nat}{t:SetTable}
theorem JV{Q:Array 339->Shared->Prop}(x:197)(h:Q es s):wpAny 35 A (setEntries a) Q E s:=by unfold setEntries;exact 22 (vf x (58 h))
theorem P_{slot i n:Nat}{r:96 683}{Q:192 Value}(hh:149)(cB:281 it (mP (.int slot 0) i a n ep))(x:197)(hn:es.size=n)(cC:a≠it)(hN:∀(A:bz)(E:Value->Shared->Prop)(Q:Option 683->Shared->Prop),Q r s->wpAny 35 A (uQ a slot i ep) Q E s)(h1:∀v nx h',r=some (v,nx)->h'.get? it=some (mP (.int nx 0) (i+1) a n ep)->lW it s.heap h'->Q 456 {s with heap:=h'})(h2:∀h',r=none->E2 it s.heap h'->Q none {s with heap:=h'}):wpAny 35 A (pyNext 322) Q E s:=by
 ext:66;refine 22 78;ext:110;rw[0,(hN _ _ _ ?_)]
 cases r with|some q=>obtain⟨v,nx⟩:=q;ext:0;refine 429;rw[0,(m3 ga 42 fun hb gb sb=>?_)];refine 58 {_,rfl,wpAny_pure (h1 v nx hb rfl ?_ (sa.trans sb))};rw[gb];simp[mP,rawInt]|none=>dsimp only;refine 429;ext:85;ext:96;exact h2 _ rfl ((sa.extBut.push _).push _)
theorem RE{i n:Nat}{tp:Addr}{ot:Obj}{pl:136}{c:Nat}{Q:192 Value}(hh:149)(cB:281 it (mP (.ref tp) i a n ep))(x:197)(hn:es.size=n)(ht:281 tp ot)(htd:ot.data=.seq pl c)(dj:∀v∈pl,∃k:Nat,v=.int k 0/\k<es.size)(h1:∀v h',((pl[i]?).bind fun p=>(es[(kv p).toNat]?).map (·.2))=some v->h'.get? it=some (mP (.ref tp) (i+1) a n ep)->lW it s.heap h'->Q 456 {s with heap:=h'})(h2:∀h',pl[i]?=none->E2 it s.heap h'->Q none {s with heap:=h'}):wpAny 35 A (pyNext 322) Q E s:=by
 ext:66;refine 22 78;ext:110;rw[0,(jM ht htd ?_)];ext:0;rw[pY]
 cases hp:pl[i]? with|some p=>obtain⟨k,rfl,hk⟩:=dj p (Array.mem_of_getElem? hp);ext:0;refine 146;unfold setNextDrawn;refine 917;ext:0;rw[if_neg 42,pY,qd hk];refine 78;refine 429;refine 58 {_,rfl,wpAny_pure (h1 _ ha ?_ ?_ sa)};rw[hp];simp[kv,qd hk];rw[ga];simp[mP,rawInt]|none=>dsimp only;refine 429;rw[0,(m3 ga 42 fun hb gb sb=>?_)];ext:85;ext:96;exact h2 _ hp (((sa.trans sb).extBut.push _).push _)
theorem M5{first:Value}{i n:Nat}{Q:43}(cB:281 it (mP first i a n ep))(h:Q 322 s):wpAny 35 A (pyIter 322) Q E s:=by have hT:s.TypeIs 322 "set_iterator":={_,cB,rfl};refine wpAny_pyIter_slot hT UQ (502 UQ af0 (aeh _));rw[3,(ret 322)];exact 58 {_,rfl,"set_iterator",_,hT,xk.lookup,h}
end
end SS
namespace SS
open PySem PySem.SetTable PyProof.Rows
section
variable{prog:aT}{w:aI}{A:bz}{E:Value->Shared->Prop}{s:Shared}{a I:Addr}{es:Array (Int×Value)}{ep:Nat}{t:SetTable}
theorem Gu{h h':Heap}{I b:Addr}(k:E2 I h h')(hb:b≠I):∀o,h.get? b=some o->h'.get? b=some o:=fun o e=>k b o hb e
theorem Yh(hh:149)(cC:a≠I)(fst:Nat->Nat)(ord:97)(hl:ord.length=es.size)
 (hN:∀(i:Nat),i<=es.size->∀(A:bz)(E:Value->Shared->Prop)(s:Shared)(Q:Option 683->Shared->Prop),At s.heap a es ep t->Q 965 s->wpAny 35 A (uQ a (fst i) i ep) Q E s):
 Walks prog w A I [I,a] [I] es.size 789 (fun i h=>h.get? I=some (mP (.int (fst i) 0) i a es.size ep)/\At h a es ep t)where
 sub:=fun b hb=>by simp at hb;simp[hb]
 frame:=fun i h h' st k=>{k I 42 _ st.1,st.2.at' fun o e=>k a 42 o e}
 item:=fun i s Q E hi st hQ=>by
  refine 1064 (fun A E Q hq=>hN i 23 A E s Q st.2 hq) (fun h' e _=>?_)
  ·rw[bM 23]at e
   simp only[uL,xJ,ss]at e
   refine hQ v h' s.toks ?_ {?_,st.2.at' (Gu sb.extBut cC)} fun b o hb e=>sb.extBut b o 566 e
   ·rw[bM 23,e.1]
   ·rw[g,e.2]
  ·rw[bM 23]at e
   cases e
 done:=fun s Q E st hQ=>by
  refine 1064 (fun A E Q hq=>hN _ 227 A E s Q st.2 hq) (fun h' e k=>?_)
  ·rw[kW 23]at e
   cases e
  ·exact hQ h' s.toks fun b o hb e=>k b o 566 e
 self:=fun i s Q E st hQ=>M5 st.1 hQ
theorem aie{tp:Addr}(hh:149)(cC:a≠I)(ZV:tp≠I)(ys:71)(hy:ys.length=es.size)(hb:∀k∈ys,k<es.size):
 Walks prog w A I [I,a,tp] [I] es.size (fun i v=>(ys.map fun k=>((es[k]?).map (·.2)).getD .none)[i]?=some v) (fun i h=>h.get? I=some (mP (.ref tp) i a es.size ep)/\At h a es ep t/\
  ∃ot c,h.get? tp=some ot/\ot.data=.seq (ys.map fun(k:Nat)=>eA k 0).toArray c)where
 sub:=fun b hb=>by simp at hb;simp[hb]
 frame:=fun i h h' st k=>{k I 42 _ st.1,st.2.1.at' fun o e=>k a 42 o e,let⟨ot,c,e,d⟩:=st.2.2;{ot,c,k tp 42 ot e,d}}
 item:=fun i s Q E hi st hQ=>by
  obtain⟨g1,g2,ot,c,g3,g4⟩:=st
  refine 727 (fun h' e _=>?_)
  ·simp only[List.mem_toArray,dJ]at hv
   obtain⟨k,hk,rfl⟩:=hv
   exact{k,rfl,hb k hk}
  ·have wg:i<ys.length:=by omega
   refine hQ v h' s.toks ?_ {g,g2.at' (Gu sb.extBut cC),ot,c,Gu sb.extBut ZV _ g3,g4} fun b o hb e=>sb.extBut b o 566 e
   have hk:=hb _ (uS wg)
   simp[bM wg,kv,qd hk]at e⊢
   exact e
  ·simp at e
   omega
 done:=fun s Q E st hQ=>by
  obtain⟨g1,g2,ot,c,g3,g4⟩:=st
  refine 727 (fun h' e k=>?_)
  ·simp only[List.mem_toArray,dJ]at hv
   obtain⟨k,hk,rfl⟩:=hv
   exact{k,rfl,hb k hk}
  ·rw[Ko 79]at e
   cases e
  ·exact hQ h' s.toks fun b o hb e=>k b o 566 e
 self:=fun i s Q E st hQ=>M5 st.1 hQ
def slotAt(t:SetTable):Nat->Nat
 |0=>0
 |i+1=>t.place.getD i 0+1
theorem afp{t:SetTable}(U:Up t.place):∀i,i<=t.place.size->below t.place (slotAt t i)=i
 |0,_=>ac5 U
 |i+1,h=>by(have e:t.place.getD i 0=t.place[i]:=by simp[Wc,show i<t.place.size by omega]);show below t.place (t.place.getD i 0+1)=i+1;rw[e];exact Z5 U 23
theorem adv{t:SetTable}(h:t.place.size<=1):Up t.place:=fun i j hi hj xg=>by omega
theorem At.size{h:Heap}(x:At h a es ep t):t.place.size=es.size:=by obtain⟨o,_,_,_,hf⟩:=x;simp only[SetTable.fits,dm,lX]at hf;exact hf.1
theorem ads(bt:467 false)(pl:t.plain=true\/es.size<=1)(j:J (iq w) t)(i:Nat)(hi:i<=es.size)(A:bz)(E:43)(s:Shared)(Q:192 683)(x:197)(h:Q (((es.toList.map (·.2))[i]?).map fun v=>(v,slotAt t (i+1))) s):wpAny 35 A (uQ a (slotAt t i) i ep) Q E s:=by
 have sz:=x.size;have U:Up t.place:=by rcases pl with e|e;exact j.up e;exact adv 23
 refine YE bt pl (by rw[j.led];unfold iq;rw[bt];rfl) x ?_;rw[afp U i 23];by_cases aY:i<es.size;have hp:i<t.place.size:=by omega
 rw[qd aY,qd hp];simp only[d_,ajz,qd aY,uL,slotAt,Wc,hp,dif_pos]at h;exact h;rw[Ko 23];rw[kW 79]at h;exact h
theorem aiB{Q:43}(hh:149)(x:197)(j:J (iq w) t)(hz:es.size<=sizeLine)(h:∀(I:Addr)(h2:Heap)(d:Drawn)(fp:List Addr)(ord:List Value)(St:Nat->Heap->Prop),ord.Perm 377->(∀A':bz,A'.handled=none->Walks prog w A' I fp [I] es.size 789 St)->St 0 h2->(∀b o,s.heap.get? b=some o->h2.get? b=some o)->(∀b∈fp,b=a\/s.heap.objs.size<=b)->s.heap.objs.size<=I->Q (.ref I) {s with heap:=h2,drawn:=d}):wpAny 35 A (pyIter 152) Q E s:=by
 ext:134;have ha:a<s.heap.objs.size:=bn ho;refine wpAny_pyIter_slot hT ajB (502 ajB aia (PySem.F.args_set_iter_1 _));unfold Builtin.«frozenset.__iter__»;refine 146;rw[2,(pure a)];refine 78;refine 146;unfold Builtin.Frozenset.sizeOf;rw[0,(JV x 78)];refine 146;unfold setDrawn;refine 917;ext:0;rw[0,(D8 78)]
 have fin:∀(first:Value)(h1:Heap)(d:Drawn),At h1 a es ep t->(∀b o,s.heap.get? b=some o->h1.get? b=some o)->s.heap.objs.size<=h1.objs.size->(∀h2,h2.get? h1.objs.size=some (mP first 0 a es.size ep)->(∀b o,h1.get? b=some o->h2.get? b=some o)->Q (.ref h1.objs.size) {s with heap:=h2,drawn:=d})->wpAny 35 A.in1 (do let e<-setEpoch a;let v<-newFields "set_iterator" [first,rawInt 0,.ref a,rawInt es.size,rawInt e];ret v) (fun fin s'=>∃v,fin=.done (.ret v)/\∃T' r,s'.TypeIs v T'/\typeLookup (.type T') "__next__"=pure (some r)/\Q v s') E {s with heap:=h1,drawn:=d}:=by(intro first h1 d x1 k1 k2 hq);obtain⟨o1,ho1,_,Zs,hf1⟩:=id x1;rw[0,(wpAny_setEpoch_of (s:={s with heap:=h1,drawn:=d}) ho1 Zs hf1 ?_)];unfold newFields;rw[0,(ki (58 {_,rfl,"set_iterator",_,905,xk.lookup,?_}))];exact hq _ 577 fun b o e=>bG _ e
 have es0:s={s with heap:=s.heap,drawn:=s.drawn}:=by cases s;rfl
 have neI:∀{h1:Heap},s.heap.objs.size<=h1.objs.size->a≠h1.objs.size:=fun k=>cI (dY ha k);refine A3 (fun hc=>?_) (fun hc=>?_)
 (·have iS:555=true:=hc;rw[0,(K' _ _ _ 42 fun ys d hp=>?_)];(have yH:ys.length=es.size:=by rw[hp.length_eq,l8]);have Zb:∀k∈ys,k<es.size:=fun k hk=>gR.mp (hp.mem_iff.mp hk);rw[0,(wpAny_newTuple ?_ (by rw[az,yH];exact hz))];have k1:∀b o,s.heap.get? b=some o->(s.heap.push {cls:=.type "tuple",data:=.seq (932 i).toArray}).get? b=some o:=fun b o e=>bG _ e;refine fin 84 _ d (x.at' fun o e=>k1 a o e) k1 (by rw[d8];exact rX _) fun h2 g2 k2=>?_;have tp0:(s.heap.push {cls:=.type "tuple",data:=.seq (932 i).toArray}).get? s.heap.objs.size=some {cls:=.type "tuple",data:=.seq (932 i).toArray}:=c_ _ rfl;have tp:=k2 _ _ tp0;refine h _ h2 d [_,a,s.heap.objs.size] (ys.map fun k=>((es[k]?).map (·.2)).getD .none) _ ?_ (fun A' hA=>aie (t:=t) (ep:=ep) hA ?_ ?_ ys yH Zb) {g2,?_,_,_,tp,rfl} (fun b o e=>k2 b o (k1 b o e)) ?_ ?_;refine(hp.map _).trans ?_;refine .of_eq (xI 42 fun i h1 h2=>?_);(have hi:i<es.size:=by simpa using h1);simp[qd hi];exact cI (by rw[d8];exact r9 ha);exact cI (by rw[d8];exact rW _);intro b hb;simp only[bE,ic,or_false]at hb;rcases hb with rfl|rfl|rfl;right;rw[d8];exact rX _;exact 148;exact .inr 227;rw[d8];exact rX _;exact(x.at' fun o e=>k1 a o e).at' fun o e=>k2 a o e)
 (·refine 22 78;(have go:∀(fst:Nat->Nat)(ord:List Value),fst 0=0->ord.Perm 377->ord.length=es.size->(∀(i:Nat),i<=es.size->∀(A:bz)(E:Value->Shared->Prop)(s:Shared)(Q:Option 683->Shared->Prop),At s.heap a es ep t->Q 965 s->wpAny 35 A (uQ a (fst i) i ep) Q E s)->∀h2,h2.get? s.heap.objs.size=some (mP (.int 0 0) 0 a es.size ep)->(∀b o,s.heap.get? b=some o->h2.get? b=some o)->Q 84 {s with heap:=h2,drawn:=s.drawn}:=by intro fst ord f0 hp hl hN h2 g2 k2;refine h _ h2 s.drawn [_,a] ord _ hp (fun A' hA=>Yh (t:=t) (ep:=ep) hA (cI ha) fst ord hl hN) {?_,x.at' fun o e=>k2 a o e} k2 ?_ 227;rw[g2,f0];rfl;intro b hb;simp only[bE,ic,or_false]at hb;rcases hb with rfl|rfl;exact .inr 227;exact 148);rw[es0];refine fin (rawInt 0) s.heap s.drawn x (fun b o e=>e) 227 fun h2 g2 k2=>?_;cases bt:w.params.followText "set-order"with|true=>refine go (fun _=>0) ((E1 827 es).toList.map (·.2)) rfl ((PX _ es).map _) ?_ ?_ h2 g2 k2;rw[az,(PX _ es).length_eq,jk];(·intro i hi A E s Q x hq;refine Ya bt x ?_;simpa[d_,Option.map_map,Function.comp_def]using hq)|false=>(have pl:t.plain=true\/es.size<=1:=by have iS:¬(555=true):=hc;rw[bt]at iS;cases e:t.plain with|true=>exact 148|false=>rw[e]at iS;simp at iS;exact .inr iS);exact go (slotAt t) 377 rfl .rfl 42 (fun i hi A E s Q x hq=>ads bt pl j i hi A E s Q x hq) h2 g2 k2)
end
end SS
namespace SS
open PySem PySem.SetTable PyProof.Rows
section
variable{prog:aT}{w:aI}{A:bz}{E:Value->Shared->Prop}{s:Shared}{a I:Addr}{es:Array (Int×Value)}{ep:Nat}{t:SetTable}
theorem aic{Q:470}(hT:s.TypeIs 152 "set")(h:Q false s):wpAny 35 A (ajC 152) Q E s:=by unfold ajC;rw[0,(425 PySem.F.slot_set_len.lookup)];generalize Dk:("set.__len__":String)=id0;wp_delta;rw[show splitId id0=some ("set","__len__")from by subst Dk;decide+kernel];subst Dk;rw[0,(uR (T:="set") (b:=true) hT 893 ?_)];refine A3 (fun kq=>absurd kq 29) (fun _=>?_);refine A3 (fun _=>?_) (fun kq=>absurd 47 kq);rw[0,(EJ hT ?_)];exact 58 h
theorem ah9{ord:97}{acc:136}{n:Nat}(hl:ord.length=n)(h:ItemsOf 789 acc n):acc.toList=ord:=by
 refine xI (by rw[jk,h.1,hl]) fun i h1 h2=>?_;have hi:i<acc.size:=by simpa using h1
 have e:ord[i]?=some acc[i]:=h.2 i acc[i] (qd hi);rw[bM h2,xJ]at e;simpa using e.symm
theorem Z7{R:870}(hh:149)(x:197)(j:J (iq w) t)(hz:es.size<=sizeLine)(S:Addr)(UR:S≠a)(c₀:Nat)(hS:s.heap.get? S=some {cls:=.type "list",data:=.seq #[] c₀})(hR:∀h' tk d ord acc c',ord.Perm 377->acc.toList=ord->(∀b o,b≠S->s.heap.get? b=some o->h'.get? b=some o)->h'.get? S=some {cls:=.type "list",dict:=none,data:=.seq acc c',slots:=#[]}->R (.ok (.ret (.ref S))) {s with heap:=h',toks:=tk,drawn:=d}):wpAny 35 A.in1 (Wo (.ref S) 152 (.ref S)) (fun fin s'=>match fin with|.done f=>R (.ok f) s'|.again c'=>c'.quiet=true/\codeAny 35 A c' R s') (fun e s'=>R (.error e) s') s:=by
 ext:134;have vh:S<s.heap.objs.size:=bn hS;unfold Wo;rw[0,(EJ (T:="set") hT ?_)];have h1:ajD (.ref S) 152=false:=by simp[ajD,UR]
 have n1:(kf "set"==kf "list")=false:=by decide
 have n2:(kf "set"==kf "tuple")=false:=by decide
 simp only[h1,n1,n2,Bool.or_false,oG,kS];rw[0,(aiB (A:=A.in1) hh x j hz fun I h2 d fp ord St hp W st k2 qy hI=>?_)];have hl:ord.length=es.size:=by rw[hp.length_eq,az,jk]
 have hG:S∉fp:=fun h=>by rcases qy S h with e|e;exact UR e;exact 89 vh (KA.mpr e)
 have W1:=W A.in1 hh;have key:∀(h:Heap)(c₁ tk:Nat),St 0 h->(∀b o,b≠S->s.heap.get? b=some o->h.get? b=some o)->h.get? S=some {cls:=.type "list",data:=.seq #[] c₁}->codeAny 35 A (.builtin "list.extend.loop" {[.ref S,.ref I,.ref S],[]}) R {s with heap:=h,toks:=tk,drawn:=d}:=by intro h c₁ tk de hk sY;refine codeAny_extend_loopS W1.toS hz S hG (.ref S) es.size 0 _ #[] c₁ rfl (bA _) de sY (ItemsOf.nil _) fun s' mO c' hm fG om=>?_;rw[Moved.eq_with hm];refine hR s'.heap s'.toks d ord mO c' hp (ah9 hl om) (fun b o hb e=>hm.heap b o (fun tO=>?_) (hk b o hb e)) fG;rcases bE.mp tO with e'|tO;exact hb e';exact 89 (bn e) (by rw[cM.mp tO];exact KA.mpr hI)
 have sY:=k2 _ _ hS;rw[0,(368 (aic (s:={s with heap:=h2,drawn:=d}) {_,k2 _ _ ho,hx.1} ?_))];refine A3 (fun _=>?_) (fun _=>wpAny_pure {mX ajE _,key _ c₀ _ st (fun b o _ e=>k2 b o e) sY});rw[0,(mY ?_)];refine 146;rw[2,(updateSeq S (·.push .none)>>=fun _=>updateSeq S (·.pop))];rw[0,(EV sY rfl ?_)];have Ls:=pZ (xz (·.push fh)) sY rfl;refine EV (hz:=by seq_fits) Ls rfl ?_;have adO:=pZ (xz (·.pop)) Ls rfl;refine 58 {mX ajE _,key _ _ _ ?_ (fun b o hb e=>?_) adO};refine W1.frame 0 _ _ st fun b hb o e=>?_;have hJ:b≠S:=fun h=>hG (h▸hb);exact 697 (697 e);exact 698 (698 (k2 _ _ e))
theorem agx{R:List Value->Shared->Prop}(hh:149)(x:197)(j:J (iq w) t)(hz:es.size<=sizeLine)(h:∀(h':Heap)(tk:Nat)(d:Drawn)(ord:List Value),ord.Perm 377->s.heap.objs.size<h'.objs.size->(∀b o,s.heap.get? b=some o->h'.get? b=some o)->R ord {s with heap:=h',toks:=tk,drawn:=d}):wpAny 35 A (collect 152) R E s:=by
 obtain⟨o,ho,hx,hd,hf⟩:=id x;have ha:a<s.heap.objs.size:=bn ho;unfold collect;rw[0,(wpAny_runValue (mW entry_proto_collect' ?_))];rw[oH PySem.F.plain_proto_collect _];show wpAny _ A.in1 (newList []>>=fun l=>again (.builtin "list.__iadd__" {[l,.ref a],[]})) _ _ s;rw[0,(ki ?_)];refine 58 {mX ajF _,mW entry_list_iadd' ?_};rw[oH ajF _];have sY:(s.heap.push {cls:=.type "list",data:=.seq ([]:97).toArray}).get? s.heap.objs.size=some {cls:=.type "list",data:=.seq #[]}:=c_ _ rfl;rw[9,(Wo 84 152 84)]
 have key:=Z7 (prog:=prog) (w:=w) (A:=A) (s:={s with heap:=s.heap.push {cls:=.type "list",data:=.seq ([]:97).toArray}}) (R:=fun(q:rR)(s':Shared)=>∃(h':Heap)(tk:Nat)(d:Drawn)(ord:List Value)(acc:Array Value)(c':Nat),q=.ok (.ret 84)/\s'={s with heap:=h',toks:=tk,drawn:=d}/\ord.Perm 377/\acc.toList=ord/\(∀b o,s.heap.get? b=some o->h'.get? b=some o)/\h'.get? s.heap.objs.size=some {cls:=.type "list",dict:=none,data:=.seq acc c',slots:=#[]}) hh (x.at' fun o e=>bG _ e) j hz s.heap.objs.size (kR ha) 0 sY (fun h' tk d ord acc c' hp ha hk fG=>{h',tk,d,ord,acc,c',rfl,rfl,hp,ha,fun b o e=>hk b o (cI (bn e)) (bG _ e),fG});refine ji key (fun fin s' x=>?_) fun e s' x=>?_;cases fin with|done f=>obtain⟨h',tk,d,ord,acc,c',e,rfl,hp,rfl,hk,fG⟩:=x;cases e;ext:128;exact 58 (h h' tk d _ hp (bn fG) hk)|again c₁=>refine{x.1,codeAny_mono x.2 fun q eQ y=>?_};obtain⟨h',tk,d,ord,acc,c',rfl,rfl,hp,rfl,hk,fG⟩:=y;ext:128;exact 58 (h h' tk d _ hp (bn fG) hk)
 obtain⟨_,_,_,_,_,_,e',_⟩:=x;cases e'
end
end SS
namespace SS
open PySem PySem.SetTable PyProof.Rows
theorem abj{h:Heap}{D:Addr}{vs:97}{out:136}{b:Addr}{o:Obj}(hb:b≠D)(e:354 b o):(sortedHeap h D vs out).get? b=some o:=by unfold sortedHeap;refine 698 (bG _ (bG _ ?_));exact 698 e
theorem sortedHeap_at{h:Heap}{D:Addr}{vs:97}{out:136}{n:Nat}(e:354 D (seqObj "list" vs.toArray n)):∃c,(sortedHeap h D vs out).get? D=some (seqObj "list" out c):=by unfold sortedHeap;have h1:=get?_update_seq e (fun _=>(#[]:136));exact{_,get?_update_seq (bG _ (bG _ h1)) _}
theorem afb{es:List 339}(h:∀e∈es,∃n tk,e=(hashInt n,eA n tk)){ord:97}(p:ord.Perm (es.map (·.2))):AK ord (ord.map kv):=by
 have all:∀v∈ord,∃n t,v=eA n t:=by intro v hv;have:=p.mem_iff.mp hv;rw[dJ]at this;obtain⟨e,he,rfl⟩:=this;ext:147;exact⟨n,tk,rfl⟩
 clear p;induction ord with|nil=>exact .nil|cons v r ih=>obtain⟨n,tk,rfl⟩:=all v (cY ..);exact .cons n tk (ih fun x hx=>all x (cZ _ hx))
section
variable{prog:aT}{w:aI}{A:bz}{E:Value->Shared->Prop}{s:Shared}
theorem abg{a:Addr}{ks:33}{Q:43}(hh:149)(x:jY (iq w) s.heap a ks)(h64:ks.length<64)(h:∀D h' tk d(out:Array Value) xU c,AK out.toList xU->xU.Perm ks->xU.Pairwise (·<=·)->(∀b o,s.heap.get? b=some o->h'.get? b=some o)->s.heap.objs.size<=D->h'.get? D=some (seqObj "list" out c)->Q 118 {s with heap:=h',toks:=tk,drawn:=d}):wpAny 35 A (call 1014 [.ref a]) Q E s:=by
 obtain⟨o,es,ep,t,ho,hx,hd,he,hp,hb,hf,hj⟩:=x;have hn:es.size=ks.length:=by rw[<-hp.length_eq,az,jk]
 refine Calls.call_function_entry kind_sorted plain_sorted entry_sorted (args_sorted1 _) ?_;unfold Builtin.«sorted»;refine wpAny_bind (m:=checkCount "sorted" 1 1 _) 78;rw[0,(agx (A:=A.in1) hh ⟨o,ho,hx,hd,hf⟩ hj (Wh hb) fun h1 tk d ord po lt1 k1=>?_)];have hI:=afb he po;have hl:ord.length=ks.length:=by rw[po.length_eq,az,jk,hn]
 have pk:(ord.map kv).Perm ks:=(po.map kv).trans (by rw[gq];exact hp);rw[0,(wpAny_newList ?_ (by rw[hl,sizeLine_eq];omega))];have Aj:(h1.push 664).get? h1.objs.size=some 664:=c_ _ rfl;have hsz:s.heap.objs.size<=h1.objs.size:=J3 lt1;show wpAny _ _ _ _ _ {s with heap:=h1.push 664,toks:=tk,drawn:=d};rw[0,(368 (wpAny_call_entry slot_list_sort {_,Aj,rfl} entry_list_sort (list_sort_tree Aj hI 23 fun out xU a1 a2 a3=>735) (args_list_sort _)))];obtain⟨c,hc⟩:=sortedHeap_at (out:=out) Aj;refine 58 {_,rfl,h h1.objs.size _ tk d out xU c a1 (a2.trans pk) a3 (fun b o e=>?_) hsz hc};exact abj (cI (bn (k1 b o e))) (bG _ (k1 b o e))
end
end SS
namespace L2
open PySem PySem.Spec PyProof.Rows SS
theorem acD(σ:33)(k z:Int):z∈step_dedup σ k↔z∈σ\/z=k:=by
 unfold step_dedup;split;rename_i h;rw[qe]at h;obtain⟨y,hy,e⟩:=h;have e':y=k:=by simpa using e
 subst e';exact{.inl,fun h=>h.elim id fun e=>e▸hy};simp
theorem ae6{σ:33}(k:Int)(h:σ.Nodup):(step_dedup σ k).Nodup:=by unfold step_dedup;ext:183;rename_i hn;rw[Wp];refine{h,List.pairwise_singleton _ _,fun a ha b hb e=>?_};rw[cM]at hb;subst hb;subst e;exact hn (qe.mpr {_,ha,by simp})
theorem T6(val:Nat->Int):∀i,(firstMet val i).Nodup
 |0=>.nil
 |i+1=>by rw[Wk];exact ae6 _ (T6 val i)
theorem Q7(val:Nat->Int)(z:Int):∀i,z∈firstMet val i↔∃j,j<i/\val j=z
 |0=>by rw[firstMet_zero];simp
 |i+1=>by rw[Wk,acD,Q7 val z i];ext:67;rintro(⟨j,h,e⟩|rfl);exact{j,by omega,e};exact{i,by omega,rfl};rintro⟨j,h,e⟩;by_cases hj:j=i;subst hj;exact 546 e.symm;exact .inl {j,by omega,e}
theorem getD_mem{xs:33}(z:Int):(∃j,j<xs.length/\xs.getD j 0=z)↔z∈xs:=by constructor;rintro⟨j,h,rfl⟩;rw[dI,bM h];exact uS h;intro h;obtain⟨j,hj,e⟩:=KP h;exact{j,hj,by rw[dI,bM hj];exact e}
theorem strict{ys ks:33}(p:ys.Perm ks)(nd:ks.Nodup)(le:ys.Pairwise (·<=·)):ys.Pairwise (·<·):=by have qH:ys.Nodup:=p.nodup_iff.mpr nd;refine(List.Pairwise.and le qH).imp fun{a b} h=>?_;have:=h.1;have:=h.2;omega
section
variable{X:Cx}{pins:List (Addr×Obj)}{σ:St}{H:Hp}{s:Shared}
theorem Inv.drew(I:31)(d:Drawn):Inv X pins σ H {s with drawn:=d}:=⟨I.ok,I.os,I.bare,I.base,I.loc,I.cell,I.free,I.gy,I.pin,I.aD,I.len⟩
def tSS(K:bv)(te:TE):TE:=fun σ H Q=>te σ H fun v H1=>∃(a:Addr)(xs:List Int),v=.ref a/\aq K H1 a 211/\xs.length<64/\
 ∀(ys:List Int)(H2:Hp)(p:Addr),ah H1 H2->ys.length<=xs.length->ys.Pairwise (·<·)->(∀z,z∈ys↔z∈xs)->H2 p=some (80 (ys.map V.int))->Q 310 H2
variable{x y:Str}{p p2 pos DY:Pos}{e:aH}{te:TE}
theorem aiG(Hy:347)(hg:Gl X x)(hm:X.mg x=none)(hv:gS x=some 1014)(YC:Gl X y)(oS:X.mg y=none)(hv2:gS y=some (.type "set"))(h:414)(hn:x≠"__name__":=by decide)(eK:81=false:=by decide)(ja:y≠"__name__":=by decide)(acM:(y==("__debug__":Str))=false:=by decide)(hs:starEach [e] X.env=[(false,eval e X.env)]:=by rfl)(nF:starEach [.Call (.Name y p2) [e] [] DY] X.env=[(false,eval (.Call (.Name y p2) [e] [] DY) X.env)]:=by rfl):PE X (.Call (.Name x p) [.Call (.Name y p2) [e] [] DY] [] pos) (tSS X.K te):=by
 intro pins s σ H Q I hq;have hh:X.A.handled=none:=I.ok.hd Hy;refine 714;refine ai6 ?_ (by rw[nF];rfl) rfl;rw[nF];rw[2,(spliced [(false,eval (.Call (.Name y p2) [e] [] DY) X.env)])];refine AE ?_;refine pV (mo I YC oS hv2 ?_ ja acM);refine uG ?_ (by rw[hs];rfl) rfl;rw[hs];rw[2,(spliced [(false,eval e X.env)])];refine AE (aG (h pins s σ H _ I hq) fun u s1 ⟨v,H1,I1,r1,a,xs,ev,hl,h64,k⟩=>?_);refine EI ?_;subst ev;cases r1;obtain⟨ai,rv,pl,hz⟩:=I1.list hl;have hi:=rv.ints;have bK:ai.length=xs.length:=hi.length;refine agM (items:=ai.toArray) hh pl.isList 1017 (by simp only[dk];unfold su;omega) fun h2 ND SJ k2=>?_;have k2':∀b u,s1.heap.get? b=some u->h2.get? b=some u:=fun b u e=>k2 b u (bn e) e;have I2:Inv X pins σ H1 {s1 with heap:=h2,toks:=ND}:=I1.kept k2';refine EI ?_;simp only[dk,bK]at SJ;refine abg (s:={s1 with heap:=h2,toks:=ND}) hh SJ (by have:=KN (fun i=>xs.getD i 0) xs.length;omega) fun D h3 Oh d out ys c ia pm le k3 hD gD=>?_
 have Y2:(ys.map V.int).length<=sizeLine:=by rw[az,pm.length_eq,sizeLine_eq];have:=KN (fun i=>xs.getD i 0) xs.length;omega
 have I3:Inv X pins σ (upd H1 D (80 (ys.map V.int))) {s1 with heap:=h3,toks:=Oh}:=I2.laid (t':=Oh) k3 hD {Y2,out.toList,c,LK ia,by simpa using gD};refine{.ref D,_,I3.drew d,rfl,k ys _ D (fun b o e=>?_) (by rw[pm.length_eq];exact KN _ _) (strict pm (T6 _ _) le) 164 (aM ..)};have cC:b≠D:=fun e'=>by have:=I2.aD.fresh hD;rw[<-e',e]at this;cases this
 rw[ay cC];exact e;rw[pm.mem_iff,Q7,getD_mem]
end
end L2
namespace PC
open PySem PySem.Spec PyProof.Rows L2 XW
open PySem.W (Frag)
variable{P:aT}{w:aI}{K:Frag}{mg:Str->Option Value}{base:Heap}
def FH(t:pj):TG:=fun v σ H Q=>∃a x y,v=.ref a/\H a=some 335/\t [x,y] σ H Q
theorem S'{X:Cx}{e1 e2:aH}{k:Nat}{pos:Pos}{t:pj}(hc:347)(h:yX X [e1,e2] t)(hn:(assignEach [e1,e2] X.env).length=2:=by rfl)(de:(assignEach [e1,e2] X.env).findIdx? (·.1)=none:=by rfl):PG X (.Tuple [e1,e2] k pos) (FH t):=fun pins s σ H v u Q I r hw=>by obtain⟨a,x,y,e,h1,q⟩:=hw;exact uq hc h hn de pins s σ H v u Q I r {a,[x,y],e,bC.of h1,rfl,q}
section
variable{K:Frag}{a b:Addr}{xs ys:List V}{g:TG}{tb:TS}{D:Ends}{σ:L2.St}{H:Hp}
theorem WU(Pv:514)(bK:666)(h0:921)(hl:∀i σ H,i<=xs.length->Pv i σ H->aq K H a xs/\aq K H b ys)(hs:∀i x y T σ H,xs[i]?=some x->ys[i]?=some y->Pv i σ H->H T=none->g (.ref T) σ (257 T 335) fun bq H2=>tb {D with nx:=Pv (i+1),ct:=Pv (i+1),bk:=D.nx} bq H2)(hd:∀σ H,Pv xs.length σ H->D.nx σ H):∃W:Nat->Nat->L2.St->Hp->Prop,(∃m,W 0 m σ H)/\∀i m σ H,W i m σ H->((mT K a b).stop i H/\D.nx σ H)\/((mT K a b).go i H/\∃N:L2.St->Hp->Prop,(∀aW H',N aW H'->∃m',m'<m/\W (i+1) m' aW H')/\∀x H',(mT K a b).gG i H x H'->g x σ H' fun bq H2=>tb {D with nx:=N,ct:=N,bk:=D.nx} bq H2):=by
 ext:113
 refine 703;ext:83;exact 866;ext:20
 subst e;exact .inl {630,hd σ H p}
theorem Ou(Pv:514)(h0:921)(hl:∀i σ H,i<=xs.length->Pv i σ H->aq K H a xs)(hs:∀i x T σ H,xs[i]?=some x->Pv i σ H->H T=none->g (.ref T) σ (257 T 175) fun bq H2=>tb {D with nx:=Pv (i+1),ct:=Pv (i+1),bk:=D.nx} bq H2)(hd:∀σ H,Pv xs.length σ H->D.nx σ H):∃W:Nat->Nat->L2.St->Hp->Prop,(∃m,W 0 m σ H)/\∀i m σ H,W i m σ H->((zS K a).stop i H/\D.nx σ H)\/((zS K a).go i H/\∃N:L2.St->Hp->Prop,(∀aW H',N aW H'->∃m',m'<m/\W (i+1) m' aW H')/\∀x H',(zS K a).gG i H x H'->g x σ H' fun bq H2=>tb {D with nx:=N,ct:=N,bk:=D.nx} bq H2):=by
 ext:105;ext:20
 subst e;exact 670
end
section
variable{K:Frag}{a b:Addr}{xs ys:List V}{tt:TT}{te:TE}{g:TG}{j:Nat}{vs:List Nat}{σ:L2.St}{H1:Hp}{D:Addr}{Qd:Hp->Prop}
theorem NQ(Rel:455)(pass:V->Bool)(hD:524)(mono:∀H H' x y,jB D H H'->Rel H x y->Rel H' x y)(hl:∀H,ah H1 H->aq K H a xs)(hz:438)(ht:∀x H2(Q:Bool->Hp->Prop),x∈xs->ah H1 H2->(∀H3,ah H2 H3->H3 D=H2 D->Q (pass x) H3)->tt 309 H2 Q)(hs:∀x H2(Q:VK),x∈xs->pass x=true->ah H1 H2->(∀y H3,ah H2 H3->Rel H3 x y->Q y H3)->te 309 H2 Q)(hq:∀H' ys,ah H1 H'->H' D=some 459->Paired (Rel H') (xs.filter pass) ys->Qd H'):∃W:Nat->Nat->Hp->Prop,(∃m,W 0 m 595)/\∀i m H,W i m H->538\/((iK K a).go i H/\∃Nx:Hp->Prop,(∀H',Nx H'->∃m',m'<m/\W (i+1) m' H')/\∀x H',(iK K a).gG i H x H'->iQ j x 747 H' fun bq H2=>wipe bq [j]=wipe σ [j]/\tt bq H2 fun b H3=>if b=true then te bq H3 fun y H4=>∃acc,H4 D=some 484/\acc.length<sizeLine/\Nx 119 else Nx H3):=by
 have lift:∀{zs:List V}{H2 H3:Hp},Built H1 D Rel zs H2->ah H2 H3->Built H1 D Rel zs H3:=fun B S=>by obtain⟨ys,e,p⟩:=B.ex;exact 420
 refine 160 (fun i H=>Built H1 D Rel ((xs.take i).filter pass) H);refine{vb,ht x H _ (ej hi) B.same fun H3 S3 _=>?_};have B3:=lift B S3;have lz:((xs.take i).filter pass).length<sizeLine:=by have h1:=E3 pass (xs.take i);rw[bU]at h1;have:=(930 hi).1;omega
 cases hp:pass x with|true=>rw[if_pos rfl];refine hs x H3 _ (ej hi) hp B3.same fun y H4 S r=>?_;rw[gx hi,KQ,show[x].filter pass=[x] by simp[hp]];exact B3.turn hD mono S r lz|false=>rw[if_neg df,gx hi,KQ,show[x].filter pass=[] by simp[hp],fN];exact B3
 rw[gW]at B;ext:44;exact 573
theorem LJ{n:Nat}(Rel:455)(hD:524)(mono:∀H H' x y,jB D H H'->Rel H x y->Rel H' x y)(hz:n<=sizeLine)(hs:∀(i:Nat) H2(Q:VK),i<n->ah H1 H2->(∀y H3,ah H2 H3->Rel H3 835 y->Q y H3)->te ((wipe σ [j]).set j (some 835)) H2 Q)(hq:∀H' ys,ah H1 H'->H' D=some 459->Paired (Rel H') ((bu n).map fun(i:Nat)=>V.int i) ys->Qd H'):∃W:Nat->Nat->Hp->Prop,(∃m,W 0 m 595)/\∀i m H,W i m H->((oU 0 n).stop i H/\Qd H)\/((oU 0 n).go i H/\∃Nx:Hp->Prop,(∀H',Nx H'->∃m',m'<m/\W (i+1) m' H')/\∀x H',(oU 0 n).gG i H x H'->iQ j x 747 H' fun bq H2=>wipe bq [j]=wipe σ [j]/\jo bq H2 fun b H3=>if b=true then te bq H3 fun y H4=>∃acc,H4 D=some 484/\acc.length<sizeLine/\Nx 119 else Nx H3):=by
 refine{fun i m H=>m=n-i/\i<=n/\Built H1 D Rel ((bu i).map fun(i:Nat)=>V.int i) H,{n,by simp,bA _,Built.start hD},?_};ext:157;by_cases aY:i<n;refine 546 {aY,fun H'=>Built H1 D Rel ((bu (i+1)).map fun(i:Nat)=>V.int i) H',fun H' p'=>{n-(i+1),by omega,rfl,aY,p'},fun x H' y=>?_};obtain⟨e,y⟩:=y;subst e y;ext:30;rw[show(0:Int)+(i:Int)=(i:Int)from Int.zero_add _];refine hs i _ _ aY B.same fun y H3 S r=>?_;rw[xN,bH];exact B.turn hD mono S r (by rw[az,l8];omega);have e:i=n:=by omega
 subst e;ext:44;exact .inl {aV _,hq H ys B.same e p}
structure jQ{α:Type}(H1:Hp)(D:Addr)(Rel:Hp->α->V->Prop)(zs:List α)(H:Hp):Prop where
 same:ah H1 H
 ex:∃ys,H D=some (.lst ys)/\Paired (Rel H) zs ys
theorem jQ.start{α:Type}(hD:524){Rel:Hp->α->V->Prop}:jQ H1 D Rel [] 595:=715
theorem jQ.lift{α:Type}{Rel:Hp->α->V->Prop}(mono:∀H H' x y,jB D H H'->Rel H x y->Rel H' x y){zs:612}{H2 H3:Hp}(B:jQ H1 D Rel zs H2)(S:ah H2 H3):jQ H1 D Rel zs H3:=by obtain⟨ys,e,p⟩:=B.ex;exact 420
theorem jQ.turn{α:Type}(hD:524){Rel:Hp->α->V->Prop}(mono:∀H H' x y,jB D H H'->Rel H x y->Rel H' x y){zs:612}{H2 H3:Hp}{x:α}{y:V}(B:jQ H1 D Rel zs H2)(S:ah H2 H3)(r:Rel H3 x y)(hz:zs.length<sizeLine):∃acc,H3 D=some 484/\acc.length<sizeLine/\jQ H1 D Rel (zs++[x]) (upd H3 D 205):=by
 ext:44;have sx:jB D H3 (upd H3 D (80 (ys++[y]))):=fun b o hb q=>by rw[ay hb];exact q
 ext:165
theorem Rj{σ:L2.St}{j j2:Nat}{v w:V}(h:j≠j2):wipe (((wipe σ [j,j2]).set j 456).set j2 (some w)) [j,j2]=wipe σ [j,j2]:=by show((((((σ.set j2 none).set j none).set j 456).set j2 (some w)).set j2 none).set j none:L2.St)=(σ.set j2 none).set j none;rw[AZ,AZ,List.set_comm _ _ h,AZ,AZ]
theorem aeW{j2:Nat}(Rel:Hp->V×V->V->Prop)(hj:j≠j2)(hD:524)(mono:∀H H' x y,jB D H H'->Rel H x y->Rel H' x y)(bK:666)(hl:∀H,ah H1 H->aq K H a xs/\aq K H b ys)(hz:438)(hs:∀(i:Nat) x y H2(Q:VK),xs[i]?=some x->ys[i]?=some y->ah H1 H2->(∀z H3,ah H2 H3->Rel H3 (x,y) z->Q z H3)->te 702 H2 Q)(hq:∀H' zs,ah H1 H'->H' D=some 733->Paired (Rel H') (xs.zip ys) zs->Qd H'):∃W:Nat->Nat->Hp->Prop,(∃m,W 0 m 595)/\∀i m H,W i m H->((mT K a b).stop i H/\Qd H)\/((mT K a b).go i H/\∃Nx:Hp->Prop,(∀H',Nx H'->∃m',m'<m/\W (i+1) m' H')/\∀x H',(mT K a b).gG i H x H'->FH (yZ (iQ j) (yZ (iQ j2) Ia)) x (wipe σ [j,j2]) H' fun bq H2=>wipe bq [j,j2]=wipe σ [j,j2]/\jo bq H2 fun b H3=>if b=true then te bq H3 fun y H4=>∃acc,H4 D=some 484/\acc.length<sizeLine/\Nx 119 else Nx H3):=by
 refine(427 ((xs.zip ys).take i));ext:157;obtain⟨q1,q2⟩:=hl H B.same;have sM:(xs.zip ys).length=xs.length:=by rw[KR];omega
 ext:34
 refine 546 (772 ((xs.zip ys).take (i+1)));ext:83;have ex:=y1 xs q1;have ey:=y2 ys q2;have ST:ah H (257 T 335):=fun b o e=>by rw[ay (bF e hT)];exact e
 refine 793;unfold jo;ext:0;ext:143;have B2:=B.lift mono ST;refine hs i x y _ _ ex ey B2.same fun z H3 S r=>?_;have ez:(xs.zip ys)[i]?=some (x,y):=by rw[ajG];exact⟨ex,ey⟩
 rw[gx ez];exact B2.turn hD mono S r 445;ext:20
 subst e;rw[<-sM,gW]at B;ext:189
end
end PC
namespace SS
open PySem PySem.SetTable PyProof.Rows
open AutoSeq1 (wpAny_loadPart')
section
variable{prog:aT}{w:aI}{A:bz}{E:Value->Shared->Prop}{s:Shared}
theorem Uo{it t:Addr}{i:Nat} {items}{x:Value}{Q:43}(cB:1012 i)(ht:493 t items)(hx:items[i]?=some x)(hQ:∀h',h'.IsTupleIter it t (i+1)->lW it s.heap h'->Q x {s with heap:=h'}):wpAny 35 A (uT 322) Q E s:=by obtain⟨o,ho,hc,hd⟩:=id cB;ext:127;refine 1028;ext:174;rw[0,(ER ho hd 42 (58 {x,rfl,wpAny_pure (hQ _ ?_ (KL ..))}))];exact{_,pZ _ ho (Kw (ES hd _)),(Obj.cls_mapFields ..).trans hc,by rw[ES hd];simp[rawInt]}
theorem Gq{it t:Addr}{i:Nat} {items}{Q:43}(hh:149)(cB:1012 i)(ht:493 t items)(hx:items[i]?=none)(hE:∀h' e,E2 it s.heap h'->(∃o,h'.get? e=some o/\o.cls=.type "StopIteration")->E 966 {s with heap:=h'}):wpAny 35 A (uT 322) Q E s:=by
 obtain⟨o,ho,hc,hd⟩:=id cB;ext:127;refine 1028;ext:174;rw[0,(mY (22 (ER ho hd 42 ?_)))];rw[2,(newExc (.type "StopIteration") []>>=_)];ext:85;first|rw[show A.in1.handled=none from hh]|rw[hh]
 refine 799;exact hE _ _ (((KL ..).extBut.push _).push _) 905
theorem adf(hh:149)(it l:Addr)(cC:l≠it)(items:136):
 Draws prog w A it [it,l] items.size (fun i v=>items[i]?=some v) (fun i h=>h.IsTupleIter it l i/\h.IsTuple l items)where
 live:=fun _ _ st=>let⟨o,ho,_⟩:=st.1;⟨o,ho⟩
 frame:=fun _ _ _ st hk=>{let⟨o,ho,r⟩:=st.1;{o,hk it 42 o ho,r},let⟨o,ho,r⟩:=st.2;{o,hk l 42 o ho,r}}
 item:=fun i s Q E hi st hQ=>by
  refine Uo st.1 st.2 (x:=items[i]) (by simp[hi]) fun h' GJ xn=>?_
  exact hQ _ h' s.toks (by simp[hi]) {GJ,st.2.extBut xn.extBut cC} xn
 done:=fun s Q E st hE=>Gq hh st.1 st.2 42 hE
end
theorem agT(l:Addr)(items:136)(n:Nat)(Db:513)(sl:274):Meets (Builtin.«enumerate.__new__» {[.type "enumerate",.ref l],[]}) (fun _ R s=>s.heap.get? l=some {cls:=.type "tuple",dict:=Db,data:=.seq items n,slots:=sl}/\R (.ok (.ret (.ref (s.heap.push {cls:=.type "tuple_iterator",data:=.fields #[.ref l,.int 0 0]}).objs.size))) {s with heap:=(s.heap.push {cls:=.type "tuple_iterator",data:=.fields #[.ref l,.int 0 0]}).push {cls:=.type "enumerate",data:=.fields #[.none,.bool false,.ref s.heap.objs.size,rawInt 0,.none,.none]}}):=.of_wp fun prog w A R s h=>by obtain⟨hp,g,d,tk,os⟩:=s;obtain⟨hl,h⟩:=h;have ze:=sub_enumerate;have hL:Heap.IsTuple (Wq 1040) l items:={_,hl,rfl,n,rfl};wp_walk using xO hl;refine wpAny_stack_any fun st=>wpAny_pure ?_;split;(·rename_i c _ _ _ _ _;cases(c==kf "enumerate");ext:135;ext:135);ext:135
section
variable{prog:aT}{w:aI}{A:bz}{E:Value->Shared->Prop}{s:Shared}
theorem acd{l:Addr}{items:136}{Q:43}(hL:493 l items)(h:∀h',IsEnum h' 86 s.heap.objs.size 0 .none->h'.IsTupleIter s.heap.objs.size l 0->h'.objs.size=s.heap.objs.size+2->(∀b o,s.heap.get? b=some o->h'.get? b=some o)->Q (.ref 86) {s with heap:=h'}):wpAny 35 A (call (.type "enumerate") [.ref l]) Q E s:=by
 obtain⟨⟨c,Db,dt,sl⟩,hl,hc,n,hd⟩:=hL;replace hc:c=.type "tuple":=hc;replace hd:dt=.seq items n:=hd;subst hc hd;refine callType_new PySem.F.called_enumerate 29 (PySem.F.typeCall_enumerate_1 _) (PySem.F.newCall_enumerate_1 _) (fun obj=>PySem.F.args_object_init_2 obj _) PySem.F.entry_enumerate_new (agT l items n Db sl) {hl,?_};have hz:(s.heap.push {cls:=.type "tuple_iterator",data:=.fields #[.ref l,.int 0 0]}).objs.size=s.heap.objs.size+1:=d8 ..;show _/\_;rw[hz];have he:IsEnum ((s.heap.push {cls:=.type "tuple_iterator",data:=.fields #[.ref l,.int 0 0]}).push {cls:=.type "enumerate",data:=.fields #[.none,.bool false,.ref s.heap.objs.size,rawInt 0,.none,.none]}) 86 s.heap.objs.size 0 .none:=by have:=c_ (s.heap.push {cls:=.type "tuple_iterator",data:=.fields #[.ref l,.int 0 0]}) (o:={cls:=.type "enumerate",data:=.fields #[.none,.bool false,.ref s.heap.objs.size,rawInt 0,.none,.none]}) rfl;rw[hz]at this;ext:64
 refine{{_,he,rfl},h _ he {_,bG _ 577,rfl,rfl} (by rw[d8,hz]) fun b o x=>bG _ (bG _ x)}
theorem aeJ{e it t:Addr}{k:Nat} {items}{i:Int}{old:Value}{Q:192 Value}(hh:149)(he:IsEnum s.heap e it i old)(cB:1012 k)(ht:493 t items)(hx:items[k]?=none)(hQ:∀h',E2 it s.heap h'->Q none {s with heap:=h'}):wpAny 35 A (pyNext 966) Q E s:=by have hT:s.TypeIs 966 "enumerate":={_,he,rfl};unfold pyNext;rw[0,(AX (321 hT ajJ (502 ajJ PySem.F.entry_enumerate_next (PySem.F.args_enumerate_next_1 _))))];rw[2,(field 966 2>>=_)];rw[0,(ib he rfl (x:=.ref it) rfl ?_)];rw[0,(Gq (A:=A.in1) hh cB ht hx fun h' x zm eR=>?_)];obtain⟨o,ho,hc⟩:=eR;rw[0,(327 ⟨o,ho,hc⟩)];exact 58 (hQ _ zm)
end
end SS
namespace PC
open PySem PySem.Spec PyProof.Rows L2 XW SS
open PySem.W (Frag)
def x5(K:Frag)(a:Addr):It:=
 {fun i H=>∃(xs:List V)(x:V),bC K H a xs/\xs[i]?=some x,fun i H v H'=>∃T x,v=.ref T/\H T=none/\H'=upd H T 175/\∀xs,bC K H a xs->xs[i]?=some x,fun i H=>∃xs:List V,bC K H a xs/\xs.length<=i}
theorem afv{P:aT}{w:aI}{K:Frag}{elts:433}{kk:Nat}{gH:Pos}(a e it:Addr):
 Turn P w K 304 (x5 K a) [e,it] e (fun i h=>(∃old,IsEnum h e it ((i:Nat):Int) old)/\h.IsTupleIter it a i/\e≠it/\a≠it/\a≠e)where
 mem:=by simp
 obj:=fun i h st b hb=>by
  obtain⟨⟨old,he⟩,⟨o,ho,hc,hd⟩,_⟩:=st
  have e':b=e\/b=it:=by simpa using hb
  rcases e' with z|z
  ·rw[z];exact(294 he)
  ·rw[z];exact 960
 keep:=fun i h h' st k=>let⟨⟨old,he⟩,⟨o,ho,r⟩,cC⟩:=st;{{old,k e 42 _ he},{o,k it 42 o ho,r},cC}
 item:=by
  intro X hP hw hK hc i pins s σ H E I hf st hg
  subst hP hw hK
  obtain⟨⟨old,he⟩,cB,cC,Hl,JK⟩:=st
  obtain⟨xs,x,hq,hx⟩:=hg
  obtain⟨ai,rv,p,hz⟩:=I.tuple hq
  obtain⟨u,hu,ru⟩:=rv.get hx
  have x6:e<s.heap.objs.size:=bn he
  have i4:it<s.heap.objs.size:=by obtain⟨_,q,_⟩:=cB;exact bn q
  have aY:i<ai.toArray.size:=by
   have:=(930 hu).1
   simpa using this
  refine wpAny_pyNext_enum_itemD (adf (prog:=X.prog) (w:=X.w) (A:=X.A.in1) 208 it a Hl ai.toArray) he ⟨cB,p⟩ aY cC (by simp only[bE,ic,or_false,not_or];exact⟨cC,JK.symm⟩) fun x' h' tk eR ho qr hT hsz hk=>?_
  have Su:x'=u:=by
   have h1:ai[i]?=some x':=by simpa using eR
   rw[hu]at h1
   exact(dZ h1).symm
  subst Su
  refine{_,rfl,aje (s:={s with heap:=h',toks:=tk+1}) ho fun gc zm sb=>?_}
  have sH:gc.get? s.heap.objs.size=some {cls:=.type "tuple",data:=.seq #[.int i tk,x']}:=(sb.2 _ (kR x6)).trans hT
  have new:cQ X.prog X.w (190 175) gc s.heap.objs.size 175:=
   {by show 2<=sizeLine;decide,[.int i tk,x'],.cons 569 (716 ru),{_,sH,rfl,_,rfl}}
  have I1:Inv X pins σ (190 175) {s with heap:=gc,toks:=tk+1}:=
   I.Bc (ch:=[e,it]) 519 hf 227 new
  refine{.ref s.heap.objs.size,_,I1,rfl,{_,x,rfl,I.aD.fresh 227,rfl,fun ys hy=>by rw[I.IE hy hq];exact hx},{{x',?_},?_,cC,Hl,JK},fun b hb=>?_}
  ·have e1:((i+1:Nat):Int)=(i:Int)+1:=by omega
   rw[e1];exact zm
  ·obtain⟨o,ho,r⟩:=qr.1
   exact{o,(sb.2 it (cJ cC)).trans ho,r}
  ·have fe:b<s.heap.objs.size:=by
    have e':b=e\/b=it:=by simpa using hb
    rcases e' with z|z
    ·rw[z];exact x6
    ·rw[z];exact i4
   rw[ay (cI fe)]
   exact(hf b hb).1
 done:=by
  intro X hP hw hK hc i pins s σ H E I hf st hg
  subst hP hw hK
  obtain⟨⟨old,he⟩,cB,cC,Hl,JK⟩:=st
  obtain⟨xs,hq,hx⟩:=hg
  obtain⟨ai,rv,p,hz⟩:=I.tuple hq
  obtain⟨f0,f1,f2,f3,f4,f5⟩:=hf it 42
  have hl:=rv.length
  exact aeJ 208 he cB p 79 fun h' eb=>521
 self:=fun A i s Q E st h=>let⟨⟨_,he⟩,_⟩:=st;Kp he h
def Y1(K:Frag)(ta:TA):TI:=fun σ H R=>ta σ H fun vs H1=>∃a xs,vs=[.ref a]/\bC K H1 a xs/\R (x5 K a) H1
theorem aaW{X:Cx}{e:aH}{ta:TA}{p pos gH:Pos}{elts:433}{kk:Nat}(hg:Gl X "enumerate")(hm:X.mg "enumerate"=none)(ha:PA X [e] ta)(hs:starEach [e] X.env=[(false,eval e X.env)]:=by rfl):PI X 304 881 (Y1 X.K ta):=by intro pins s σ H R I h;ext:133;cases r1 with|cons r rr=>cases rr;cases r;obtain⟨ai,rv,p',hz⟩:=I1.tuple hq;(have Co:a<s1.heap.objs.size:=by obtain⟨_,q,_⟩:=p';exact bn q);refine acd p' fun h' he cB hsz hk=>Kp he ?_;ext:21;refine(295 afv {{.none,he},cB,Nat.succ_ne_self _,cI Co,cI (r9 Co)});ext:27
section
variable{K:Frag}{a:Addr}{xs:List V}{g:TG}{tb:TS}{D:Ends}{σ:L2.St}{H:Hp}
theorem ahN(Pv:514)(h0:921)(hl:∀i σ H,i<=xs.length->Pv i σ H->bC K H a xs)(hs:∀i x T σ H,xs[i]?=some x->Pv i σ H->H T=none->g (.ref T) σ (257 T 175) fun bq H2=>tb {D with nx:=Pv (i+1),ct:=Pv (i+1),bk:=D.nx} bq H2)(hd:∀σ H,Pv xs.length σ H->D.nx σ H):∃W:Nat->Nat->L2.St->Hp->Prop,(∃m,W 0 m σ H)/\∀i m σ H,W i m σ H->((x5 K a).stop i H/\D.nx σ H)\/((x5 K a).go i H/\∃N:L2.St->Hp->Prop,(∀aW H',N aW H'->∃m',m'<m/\W (i+1) m' aW H')/\∀x H',(x5 K a).gG i H x H'->g x σ H' fun bq H2=>tb {D with nx:=N,ct:=N,bk:=D.nx} bq H2):=by
 ext:105;ext:20
 subst e;exact 670
end
end PC
namespace PC
open PySem PySem.Spec PyProof.Rows L2 XW
open PySem.W (Frag)
variable{P:aT}{w:aI}{K:Frag}{mg:Str->Option Value}{base:Heap}
section
open Vbavaf (bit onceCells sinceCells older last total greater plus beyond)
local macro_rules|`(tactic|walk_at "rd")=>`(tactic|repeat(first
 |assumption
 |refine⟨_,rfl,?_⟩
 |refine⟨rfl,_,rfl,?_⟩
 |refine⟨_,_,rfl,rfl,?_⟩
 |refine⟨_,_,_,_,rfl,rfl,(by assumption),rfl,?_⟩
 |refine⟨_,_,_,_,rfl,(by assumption),rfl,?_⟩
 |refine aU (by decide+kernel) ?_
 |refine aS (by decide+kernel) ?_))
def jT:List 305->Option Nat
 |[]=>some 0
 |[h]=>h
 |h::t=>greater h (jT t)
def fF(o:Op)(bs:List 305):Option Nat:=beyond o.reach (jT bs)
theorem Hm(n:Nat):decide (V.int (endOf (some n))=V.int (-1))=false:=by refine gn fun e=>?_;have:(n:Int)=-1:=V.int.inj e;omega
theorem Vx:∀{bs:List 305},none∉bs->∃m,jT bs=some m
 |[],_=>⟨0,rfl⟩
 |[none],h=>absurd (cY ..) h
 |[some a],_=>⟨a,rfl⟩
 |none::_::_,h=>absurd (cY ..) h
 |some a::b::t,h=>by obtain⟨m,e⟩:=Vx (bs:=b::t) fun z=>h (cZ _ z);exact{max a m,by show greater (some a) (jT (b::t))=_;rw[e];rfl}
theorem Cn:∀{bs:List 305},none∈bs->jT bs=none
 |[],h=>by cases h
 |[x],h=>by rw[cM]at h;exact h.symm
 |x::b::t,h=>by show greater x (jT (b::t))=none;rcases bE.mp h with e|h';subst e;rfl;rw[Cn h'];cases x<;>rfl
theorem QM:∀(bs:List 305)(a m:Nat),jT (some a::bs)=some m->(bs.map endOf).foldl 623 (a:Int)=(m:Int)
 |[],a,m,h=>by have e:a=m:=dZ h;rw[e];rfl
 |none::t,a,m,h=>by have e:jT (some a::none::t)=none:=Cn 42;rw[e]at h;ext:91
 |some b::t,a,m,h=>by have h':greater (some a) (jT (some b::t))=some m:=h;(have key:jT (some (max a b)::t)=some m:=by cases t with|nil=>exact h'|cons c t=>show greater (some (max a b)) (jT (c::t))=some m;have h2:greater (some a) (greater (some b) (jT (c::t)))=some m:=h';cases hf:jT (c::t)with|none=>rw[hf]at h2;cases h2|some f=>rw[hf]at h2;have e:max a (max b f)=m:=dZ h2;show some (max (max a b) f)=some m;rw[<-e,Nat.max_assoc]);have ih:=QM t (max a b) m key;show(t.map endOf).foldl _ 839=_;(have e:839=((max a b:Nat):Int):=by by_cases hc:a<b;rw[if_pos 23];omega;rw[if_neg 23];omega);rw[e];exact ih
theorem adR:∀{bs:List 305}{m:Nat},jT bs=some m->sV 0 (bs.map endOf)=(m:Int)
 |[],m,h=>by have e:0=m:=dZ h;rw[<-e];rfl
 |none::t,m,h=>by rw[Cn 42]at h;ext:91
 |some a::t,m,h=>QM t a m h
theorem acx(bs:List 305):js (.int (-1)) 1050=decide (none∈bs):=by induction bs with|nil=>rfl|cons h t ih=>show(jI (.int (endOf h)) (.int (-1))||js (.int (-1)) (t.map fun h=>V.int (endOf h)))=_;rw[ih];cases h with|none=>simp[jI,endOf]|some n=>(have:jI (.int (endOf (some n))) (.int (-1))=false:=by show decide ((n:Int)=-1)=false;exact gn 23);rw[this];simp
def aak(C:Addr):Sp:=fun vs H Q _=>∃(nd:Nd)(a dx pn pp l:Addr)(bs:List 305),vs=[.ref a,.ref l]/\jt C H a nd dx pn pp/\H l=some (80 1050)/\Q (.int (endOf (fF nd.op bs))) H
theorem Vr:bf ["node","behind","own"] ["node","behind"] (a_ Ox):=17
theorem XZ(T:65):aE P w K mg base bj 2 T.CT.a T.CT.fd ["node","behind"] (aak T.aJ):=by
 refine T.CT.F.ok Vr 28 19;obtain⟨nd,a,dx,pn,pp,l,bs,rfl,_⟩:=h;rfl
 (·obtain⟨nd,a,dx,pn,pp,l,bs,rfl,N,hl,k⟩:=h;refine(421 (aj (90 Vr.nd (442 T.Eh (aaY T) 734)) (aj (554 (PW.pt (lD (73 cD 88 924) (mU (bh qY 924 179 77)))) (au (aF 924))) (au (aF (bQ gK 88 (ad7 rfl T.wZ 179 ap)))))));refine{_,rfl,nd,a,dx,pn,pp,rfl,N,?_};(have hm:bs.map (fun h=>V.int (endOf h))=(bs.map endOf).map V.int:=by rw[gq];rfl);walk_at "rd";cases Ga:nd.op.reach with|none=>refine aS 47 ?_;(have e:fF nd.op bs=none:=by unfold fF;rw[Ga];rfl);rw[e]at k;exact k|some r=>refine aU (by rw[Hm r];exact df) ?_;refine{_,rfl,l,_,rfl,.inl (.inl (.inl hl)),rfl,by simp[jc],_,rfl,?_};rw[acx];by_cases hn:none∈bs;refine aS (cK hn) ?_;(have e:fF nd.op bs=none:=by unfold fF;rw[Ga,Cn hn];rfl);rw[e]at k;exact k;rw[12,(by rw[gn hn];exact df)];obtain⟨m,hf⟩:=Vx hn;(have e:fF nd.op bs=some (r+m):=by unfold fF;rw[Ga,hf];rfl);rw[e]at k;refine{_,rfl,_,rfl,l,bs.map endOf,0,rfl,rfl,by rw[hl,hm],_,_,rfl,rfl,?_};show Q (.int ((r:Int)+sV 0 (bs.map endOf))) H;rw[adR hf];exact k)
def jG:List Nd->List 305->List 305
 |[],acc=>acc
 |nd::t,acc=>jG t (acc++[fF nd.op (488 none)])
theorem M8:∀(ac:List Nd)(acc:List 305),(jG ac acc).length=acc.length+ac.length
 |[],acc=>rfl
 |nd::t,acc=>by show(jG t _).length=_;rw[M8 t];simp;omega
theorem IK:∀(ac:List Nd)(nd:Nd)(acc:List 305),jG (ac++[nd]) acc=jG ac acc++[fF nd.op (nd.parts.map fun p=>(jG ac acc).getD p none)]
 |[],nd,acc=>rfl
 |n::t,nd,acc=>IK t nd _
theorem gg{α β:Type}{R:300}:∀{xs:List α}{bs:List β}{i:Nat}{x:α},Paired R xs bs->xs[i]?=some x->∃b,bs[i]?=some b/\R x b
 |_,_,i,_,.nil,h=>by simp at h
 |_,_,0,_,.cons a r,h=>by simp only[List.getElem?_cons_zero,xJ]at h;subst h;exact{_,rfl,a}
 |_,_,i+1,_,.cons a r,h=>gg (i:=i) r 785
theorem zn{α:Type}{f:α->V}:∀{xs:List α}{g:α->V}{ys:List V},Paired (fun x y=>∃p,x=g p/\y=f p) (xs.map g) ys->(∀p q,g p=g q->p=q)->ys=xs.map f
 |[],_,_,.nil,_=>rfl
 |x::xs,g,_,.cons ⟨p,e,e2⟩ t,h=>by rw[zn t h,e2,<-h _ _ e];rfl
theorem wP{α:Type}{xs:612}{f:α->V}{d:α}{i:Nat}(h:i<xs.length):fL (xs.map f) (i:Int)=some (f (xs.getD i d)):=by refine dA ?_;rw[d_,bM h,dI,bM h];rfl
def zb(ac:277):Prop:=∀(i:Nat)(nd:Nd),ac[i]?=some nd->nd.parts.length=nd.op.arity/\∀p∈nd.parts,p<i
theorem vY(o:Op):o.arity<=2:=by cases o<;>simp[Op.arity]
theorem abv{ac:277}(h:ac≠[]):∃L z,jG ac []=L++[z]:=by obtain⟨i,n,rfl⟩:∃i n,ac=i++[n]:={ac.dropLast,ac.getLast h,(E4 h).symm};exact{_,_,IK i n []}
def abr(C:Addr):Sp:=fun vs H Q _=>∃(ac:List Nd)(l:Addr),vs=[.ref l]/\dU C H l ac/\zb ac/\ac≠[]/\ac.length<=1000/\∀H',ah H H'->Q (.int (endOf ((jG ac []).getLast?.getD none))) H'
theorem ye:bf ["nodes","horizons","node","part"] ["nodes"] (a_ U6):=17
theorem aiy(T:65):aE P w K mg base bj 3 T.DF.a T.DF.fd ["nodes"] (abr T.aJ):=by
 refine T.DF.F.ok ye 28 19;ext:129;obtain⟨ac,l,rfl,⟨vs,hl,pn⟩,po,ne,sz,k⟩:=h;refine(421 (aj (184 ye.nd 505) (aj (419 (io 56) (264 ye.nd) (au (cr (122 179 (38 (442 T.CT (XZ T) (aa 88 (38 (j6 rfl ye.nd (ym (aX T.cq T.yM 88)) (own:=[("part",3)]) 20 (46 (351 ye.nd)) 645 (46 (25 bD 179 174))))))))))) (au (aF (605 179))))));refine 180;refine 176;ext:35
 refine pE (K:=_) (a:=l) (xs:=vs) (fun i σ H2=>ah H H2/\H2 D=some (80 ((jG 225 []).map fun h=>V.int (endOf h)))/\∃x,σ=[some 283,some 118,x,none]) ⟨S1,e1,none,rfl⟩ 244 323 366;obtain⟨S2,e2,y,rfl⟩:=p;rw[6,hi];have N:=N0.same S2;ext:72;have al:(jG 225 []).length=i:=by rw[M8,bU];simp;omega
 refine{_,rfl,.inl (142 e2),_,rfl,_,rfl,a,dx,_,_,rfl,N.at_,rfl,pp,rfl,{_,bC.of N.parts},fun D2 f2=>?_};rw[13,(fun _ x y=>∃p:Nat,x=V.int (p:Int)/\y=V.int 1019)];ext:38;exact{_,rfl,_,rfl,D,_,_,_,rfl,rfl,S _ _ e2,wP (d:=none) 23,q _ _ ah.refl ⟨p,rfl,rfl⟩};have ey:ys=(nd.parts.map fun p=>(jG 225 []).getD p none).map fun h=>V.int (endOf h):=by rw[zn (xs:=nd.parts) (g:=fun(n:Nat)=>V.int (n:Int)) (f:=fun p=>V.int 1019) p 498,gq];rfl
 rw[ey]at e3;refine{nd,a,dx,iD,pp,D2,_,rfl,N.same S3,e3,?_};refine{D,_,_,rfl,rfl,S3 _ _ e2,?_,?_};rw[az,al,sizeLine_eq];omega;refine{fun b o q=>?_,?_,_,rfl};rw[ay (bF q f1)];exact 632 (547 q);rw[aM,gx cV,IK,bH];rfl;obtain⟨S2,e2,y,rfl⟩:=p;rw[bK,gW]at e2;have kk:=k H2 S2;obtain⟨L,z,eL⟩:=abv ne;rw[eL]at kk e2;rw[oK]at kk;rw[bH]at e2;exact 908
end
local macro_rules|`(tactic|walk_at "rd")=>`(tactic|repeat(first
 |assumption
 |refine⟨_,rfl,?_⟩
 |refine⟨rfl,_,rfl,?_⟩
 |refine⟨_,_,rfl,rfl,?_⟩
 |refine⟨_,_,_,_,rfl,rfl,(by assumption),rfl,?_⟩
 |refine⟨_,_,_,_,rfl,(by assumption),rfl,?_⟩
 |refine aU (by decide+kernel) ?_
 |refine aS (by decide+kernel) ?_))
def Op.m8:Op->Bool
 |.cmp _ _ _=>true
 |_=>false
def ik(found:147)(nd:Nd):List 33:=if nd.op.m8=true/\nd.op.nums∉found then found++[nd.op.nums]else found
def dO(ac:277):List 33:=ac.foldl ik []
theorem Qi(ac:277):∀(acc:List 33),(ac.foldl ik acc).length<=acc.length+ac.length:=by induction ac with|nil=>intro acc;exact aV _|cons nd t ih=>intro acc;have h:=ih (ik acc nd);(have h2:(ik acc nd).length<=acc.length+1:=by unfold ik;split;simp;omega);simp only[p6,aR];omega
theorem gB.same{H H':Hp}{ps:231}{ns:147}(x:gB H ps ns)(S:416):gB H' ps ns:=bR (fun p n ⟨a,e,h⟩=>{a,e,S _ _ h}) x
theorem Tw:∀(o:Op),decide (V.str o.kind=V.str "compare")=o.m8
 |.tt=>(129 (V.str "true"=V.str "compare"))
 |.ff=>(129 (V.str "false"=V.str "compare"))
 |.cmp _ _ _=>(by decide+kernel:decide (V.str "compare"=V.str "compare")=true)
 |.not=>(129 (V.str "not"=V.str "compare"))
 |.and=>(129 (V.str "and"=V.str "compare"))
 |.or=>(129 (V.str "or"=V.str "compare"))
 |.prev=>(129 (V.str "prev"=V.str "compare"))
 |.rose=>(129 (V.str "rose"=V.str "compare"))
 |.once _ _=>(129 (V.str "once"=V.str "compare"))
 |.always _ _=>(129 (V.str "always"=V.str "compare"))
 |.since _ _=>(129 (V.str "since"=V.str "compare"))
 |.count _ _=>(129 (V.str "count"=V.str "compare"))
def Z1(C:Addr):Sp:=fun vs H Q _=>∃(ac:List Nd)(l:Addr),vs=[.ref l]/\dU C H l ac/\ac.length<=1000/\∀H' D ps,ah H H'->H D=none->H' D=some 810->gB H' ps (dO ac)->Q 118 H'
theorem Ft:bf ["nodes","found","node"] ["nodes"] (a_ SR):=17
theorem By(T:65):aE P w K mg base bj 1 T.sR.a T.sR.fd ["nodes"] (Z1 T.aJ):=by
 refine T.sR.F.ok Ft 28 19;ext:129;obtain⟨ac,l,rfl,⟨vs,hl,pn⟩,sz,k⟩:=h;refine(421 (aj (184 Ft.nd 505) (aj (419 (io 56) (264 Ft.nd) (au (554 (PW.pt (Dh (73 cD (424 88) (o6 T.BG)) (BP (bh (Tz hr.units) (aX T.cq T.gz 88) 179 77)))) (au (cr (122 179 (38 (aX T.cq T.gz 88)))))))) 892)));refine 180;refine 176;ext:35;refine pE (K:=_) (a:=l) (xs:=vs) (fun i σ H2=>ah H H2/\(∃ps,H2 D=some 810/\gB H2 ps (dO 225))/\∃x,σ=[some 283,some 118,x]) {S1,{[],e1,.nil},none,rfl} 244 323 366;obtain⟨S2,⟨ps,e2,tp⟩,y,rfl⟩:=p;rw[6,hi]
 have N:=N0.same S2;ext:72;have ec:dO (ac.take (i+1))=ik (dO 225) nd:=by unfold dO;rw[gx cV,m4];rfl
 refine(398 N.at_);have ek:decide (V.str nd.op.kind=V.str "compare")=nd.op.m8:=Tw nd.op;rw[ek];have eV:∀{y:V},(nd.op.m8=true->nd.op.nums∈dO 225)->ah H H2/\(∃ps,H2 D=some 810/\gB H2 ps (dO (ac.take (i+1))))/\∃x,[some (V.ref l),some (V.ref D),some y]=[some (V.ref l),some (V.ref D),x]:=fun hc=>by refine{S2,{ps,e2,?_},_,rfl};rw[ec,ik,if_neg (393 z.2 (hc z.1))];exact tp
 cases hc:nd.op.m8 with|false=>exact aU df (eV fun z=>by rw[hc]at z;cases z)|true=>refine aS rfl ?_;refine{_,rfl,a,dx,_,_,rfl,N.at_,rfl,_,rfl,iD,nd.op.nums,D,ps,_,rfl,rfl,N.nums,e2,tp,_,rfl,?_};by_cases hm:nd.op.nums∈dO 225;exact aU (by simp[hm]) (eV fun _=>hm);refine aS (by simp[hm]) ?_;refine{_,rfl,.inl (142 e2),_,rfl,a,dx,_,_,rfl,N.at_,rfl,D,ps,_,rfl,rfl,e2,?_,?_};rw[bY tp,sizeLine_eq];have:=Qi 225 [];rw[bU]at this;unfold dO;simp only[jl]at this;omega;(have qH:∀b o,H2 b=some o->b≠D->upd H2 D (80 (ps++[.ref iD])) b=some o:=fun b o q hb=>by rw[ay hb];exact q);refine{fun b o q=>qH b o (547 q) (bF q f1),{ps++[.ref iD],aM,?_},_,rfl};rw[ec,ik,if_pos ⟨hc,hm⟩];(have tn:∀{b:Addr}{n:List Int},H2 b=some (.tup 903)->b≠D:=fun q z=>by rw[z,e2]at q;cases q);exact kE (bR (fun p n ⟨b,e,q⟩=>{b,e,qH b _ q (tn q)}) tp) {iD,rfl,qH _ _ N.nums (tn N.nums)}
 obtain⟨S2,⟨ps,e2,tp⟩,y,rfl⟩:=p;rw[bK,gW]at tp;exact{_,rfl,k H2 D ps S2 f1 e2 tp}
section
variable{K:Frag}{a:Addr}{xs:List V}{tt:TT}{te:TE}{j:Nat}{σ:L2.St}{H1:Hp}{D:Addr}{Qd:Hp->Prop}
theorem O1(Rel:455)(hD:524)(mono:∀H H' x y,jB D H H'->Rel H x y->Rel H' x y)(hl:∀H,ah H1 H->aq K H a xs)(hz:438)(hs:∀x H2(Q:VK),x∈xs->ah H1 H2->(∃acc,H2 D=some 484)->(∀y H3,ah H2 H3->Rel H3 x y->Q y H3)->te 309 H2 Q)(hq:∀H' ys,ah H1 H'->H' D=some 459->Paired (Rel H') xs ys->Qd H'):∃W:Nat->Nat->Hp->Prop,(∃m,W 0 m 595)/\∀i m H,W i m H->538\/((iK K a).go i H/\∃Nx:Hp->Prop,(∀H',Nx H'->∃m',m'<m/\W (i+1) m' H')/\∀x H',(iK K a).gG i H x H'->iQ j x 747 H' fun bq H2=>wipe bq [j]=wipe σ [j]/\jo bq H2 fun b H3=>if b=true then te bq H3 fun y H4=>∃acc,H4 D=some 484/\acc.length<sizeLine/\Nx 119 else Nx H3):=by refine 160 497;ext:30;refine hs x H _ (ej hi) B.same {_,B.ex.choose_spec.1} fun y H3 S r=>?_;rw[gx hi];exact 317;rw[gW]at B;ext:44;exact 573
end
def aea:R2:=fun x y H Q=>∃p xs,y=.ref p/\H p=some 248/\jc x=true/\xs.all jc=true/\Q (.bl (js x xs)) H
theorem Ny{X:Cx}:dg X (gT .In) aea:=fun pins s σ H x y v u Q I rx ry h=>by obtain⟨p,xs,e,h1,f1,f2,q⟩:=h;exact qY pins s σ H x y v u Q I rx ry {p,xs,e,.inl (549 h1),f1,f2,q}
end PC
namespace SS
open PySem PySem.SetTable PyProof.Rows
section
variable{prog:aT}{w:aI}{A:bz}{E:Value->Shared->Prop}{s:Shared}
theorem aaH{z TI TO i1 i2 l1 l2:Addr}{k1 k2:Nat}{xs ys:136}{x y a b:Value}{Q:43}(D:598)(hz:509)(dR:329)(d7:659)(h1:511)(h2:491)(eO:545)(iH:493 l2 ys)(hx:xs[k1]?=some x)(hy:ys[k2]?=some y)(hQ:∀h',IsZip h' z TI TO (rawInt s.heap.objs.size)->IsPair h' TO x y->h'.IsListIter i1 l1 (k1+1)->h'.IsTupleIter i2 l2 (k2+1)->IsPair h' s.heap.objs.size x y->h'.objs.size=s.heap.objs.size+1->(∀c o,c≠z->c≠TO->c≠i1->c≠i2->s.heap.get? c=some o->h'.get? c=some o)->Q 84 {s with heap:=h'}):wpAny 35 A 889 (fun fin s'=>∃v,fin=.done (.ret v)/\Q v s') E s:=by
 ext:148;rw[0,(755 dR)];rw[2,(KU 812>>=_)];refine 146;unfold KU;refine 1029;simp only[jL];rw[0,(mY ?_)];refine 1005;ext:41;refine 916;rw[2,(uT (.ref i1)>>=_)];ext:50;replace o3:IsPair w3 TO x b:=o3;rw[0,(xG 78)];refine 916;rw[2,(uT (.ref i2)>>=_)]
 rw[0,(Uo 405 458 hy fun w4 j24 q4=>wpAny_pure ?_)];have o4:IsPair w4 TO x b:=q4.extBut _ _ D.TOi2 o3;rw[0,(755 o4)];rw[0,(Wr o4 fun w5 o5 q5=>?_)];replace o5:IsPair w5 TO x y:=o5;rw[0,(xG (58 78))];rw[0,(755 o5)];rw[0,(wpAny_newTuple ?_)];have hsz:w5.objs.size=s.heap.objs.size:=by rw[q5.1,q4.1,q3.1,q2.1,q1.1]
 have y5:IsZip w5 z TI TO .ellipsis:=q5.extBut _ _ D.TOz.symm (q4.extBut _ _ D.i2z.symm 640);have kk5:∀c o,c≠z->c≠TO->c≠i1->c≠i2->s.heap.get? c=some o->w5.get? c=some o:=fun c o c1 c2 c3 c4 e=>q5.extBut _ _ c2 (q4.extBut _ _ c4 (q3.extBut _ _ c2 (q2.extBut _ _ c3 (q1.extBut _ _ c1 e))));have RH:w5.IsListIter i1 l1 (k1+1):=((Lm.extBut q3.extBut D.TOi1.symm).extBut q4.extBut D.i12).extBut q5.extBut D.TOi1.symm;have Tr:w5.IsTupleIter i2 l2 (k2+1):=j24.extBut q5.extBut D.TOi2.symm;have MK:z<w5.objs.size:=bn y5;have aj3:TO<w5.objs.size:=bn o5;have aj4:i1<w5.objs.size:=by obtain⟨_,e,_⟩:=RH;exact bn e
 have akh:i2<w5.objs.size:=by obtain⟨_,e,_⟩:=Tr;exact bn e
 rw[2,(ajK 812 (.ref w5.objs.size)>>=_)];refine 146;unfold ajK;have y6:IsZip (w5.push {cls:=.type "tuple",data:=.seq #[x,y]}) z TI TO .ellipsis:=bG _ y5;rw[0,(m3 y6 42 fun w7 y7 q7=>?_)];replace y7:IsZip w7 z TI TO (rawInt w5.objs.size):=y7;refine m3 y7 42 fun w8 y8 q8=>?_;replace y8:IsZip w8 z TI TO (rawInt w5.objs.size):=y8;have up:∀c o,c≠z->w5.get? c=some o->w8.get? c=some o:=fun c o c1 e=>q8.extBut _ _ c1 (q7.extBut _ _ c1 (bG _ e));have NV:IsPair w8 w5.objs.size x y:=q8.extBut _ _ (kR MK) (q7.extBut _ _ (kR MK) 577);have LQ:w8.objs.size=w5.objs.size+1:=by rw[q8.1,q7.1,d8]
 rw[hsz]at y8 NV LQ;refine 58 735;show Q (.ref w5.objs.size) _;rw[hsz];exact hQ w8 y8 (up _ _ D.TOz o5) (RH.at fun o e=>up _ o D.i1z e) (Tr.at fun o e=>up _ o D.i2z e) NV LQ fun c o c1 c2 c3 c4 e=>up c o c1 (kk5 c o c1 c2 c3 c4 e)
theorem Zk{z TI TO i1 i2 l1 l2:Addr}{k1 k2:Nat}{xs ys:136}{a b:Value}{Q:Fin->Shared->Prop}(hh:149)(D:598)(hz:509)(dR:329)(d7:659)(h1:511)(h2:491)(eO:545)(iH:493 l2 ys)(pP:xs[k1]?=none\/ys[k2]?=none)(hE:∀h' e,(∀c o,c≠z->c≠TO->c≠i1->c≠i2->s.heap.get? c=some o->h'.get? c=some o)->(∃o,h'.get? e=some o/\o.cls=.type "StopIteration")->E 966 {s with heap:=h'}):wpAny 35 A 889 Q E s:=by
 ext:148;rw[0,(755 dR)];rw[2,(KU 812>>=_)];refine 146;unfold KU;refine 1029;simp only[jL];rw[0,(mY ?_)];refine 1005;ext:41;refine 916;rw[2,(uT (.ref i1)>>=_)]
 cases hx:xs[k1]? with|none=>refine 22 (wpAny_nextOf_list_end hh (h1.extBut q1.extBut D.i1z) (eO.extBut q1.extBut D.l1z) hx fun w2 e q2 he=>?_);obtain⟨oe,sU,tP⟩:=he;have y2:IsZip w2 z TI TO .ellipsis:=q2 _ _ D.i1z.symm y1;(have Fk:e≠z:=fun x=>by subst x;rw[y2]at sU;cases sU;simp at tP);refine m3 y2 42 fun w3 _ q3=>hE w3 e (fun c o c1 _ c3 _ x=>q3.extBut _ _ c1 (q2 _ _ c3 (q1.extBut _ _ c1 x))) {oe,q3.extBut _ _ Fk sU,tP}|some x=>(have hy:ys[k2]?=none:=by rcases pP with h|h;rw[hx]at h;ext:91;exact h);ext:50;rw[0,(xG 78)];refine 916;rw[2,(uT (.ref i2)>>=_)];rw[0,(Gq hh 405 458 hy fun w4 e q4 he=>?_)];obtain⟨oe,sU,tP⟩:=he;have y4:IsZip w4 z TI TO .ellipsis:=q4 _ _ D.i2z.symm 640;(have Fk:e≠z:=fun x=>by subst x;rw[y4]at sU;cases sU;simp at tP);refine m3 y4 42 fun w5 _ q5=>hE w5 e (fun c o c1 c2 c3 c4 x=>q5.extBut _ _ c1 (q4 _ _ c4 (q3.extBut _ _ c2 (q2.extBut _ _ c3 (q1.extBut _ _ c1 x))))) {oe,q5.extBut _ _ Fk sU,tP}
theorem ahb{z TI TO i1 i2 l1 l2:Addr}{k1 k2:Nat}{xs ys:136}{x y a b:Value}{Q:192 Value}(D:598)(hz:509)(dR:329)(d7:659)(h1:511)(h2:491)(eO:545)(iH:493 l2 ys)(hx:xs[k1]?=some x)(hy:ys[k2]?=some y)(hQ:∀h',IsZip h' z TI TO (rawInt s.heap.objs.size)->IsPair h' TO x y->h'.IsListIter i1 l1 (k1+1)->h'.IsTupleIter i2 l2 (k2+1)->IsPair h' s.heap.objs.size x y->h'.objs.size=s.heap.objs.size+1->(∀c o,c≠z->c≠TO->c≠i1->c≠i2->s.heap.get? c=some o->h'.get? c=some o)->Q (some 84) {s with heap:=h'}):wpAny 35 A (pyNext 812) Q E s:=by have hT:s.TypeIs 812 "zip":={_,hz,rfl};unfold pyNext;exact 22 (AX (321 hT KY (675 (aaH D hz dR d7 h1 h2 eO iH hx hy fun h' a1 a2 a3 a4 a5 a6 a7=>wpAny_pure (hQ h' a1 a2 a3 a4 a5 a6 a7)))))
theorem Zf{z TI TO i1 i2 l1 l2:Addr}{k1 k2:Nat}{xs ys:136}{a b:Value}{Q:192 Value}(hh:149)(D:598)(hz:509)(dR:329)(d7:659)(h1:511)(h2:491)(eO:545)(iH:493 l2 ys)(pP:xs[k1]?=none\/ys[k2]?=none)(hQ:∀h',(∀c o,c≠z->c≠TO->c≠i1->c≠i2->s.heap.get? c=some o->h'.get? c=some o)->Q none {s with heap:=h'}):wpAny 35 A (pyNext 812) Q E s:=by have hT:s.TypeIs 812 "zip":={_,hz,rfl};unfold pyNext;rw[0,(AX (321 hT KY (675 (Zk hh D hz dR d7 h1 h2 eO iH pP fun h' e hk he=>?_))))];obtain⟨o,ho,hc⟩:=he;rw[0,(327 ⟨o,ho,hc⟩)];exact 58 (hQ _ hk)
end
abbrev Cq(h:Heap)(l1:Addr):Heap:=h.push {cls:=.type "list_iterator",data:=.fields #[.ref l1,.int 0 0]}
abbrev C7(h:Heap)(l1 l2:Addr):Heap:=(Cq h l1).push {cls:=.type "tuple_iterator",data:=.fields #[.ref l2,.int 0 0]}
abbrev C6(h:Heap)(l1 l2:Addr):Heap:=(C7 h l1 l2).push {cls:=.type "tuple",data:=.seq #[.ref h.objs.size,.ref (Cq h l1).objs.size]}
abbrev CO(h:Heap)(l1 l2:Addr):Heap:=(C6 h l1 l2).push {cls:=.type "tuple",data:=.seq #[.none,.none]}
abbrev uw(h:Heap)(l1 l2:Addr):Heap:=(CO h l1 l2).push {cls:=.type "zip",data:=.fields #[.none,.bool false,.bool false,.ref (C7 h l1 l2).objs.size,.ref (C6 h l1 l2).objs.size]}
theorem aaI(l1 l2:Addr)(xs ys:136):Meets (Builtin.«zip.__new__» {[.type "zip",.ref l1,.ref l2],[]}) (fun _ R s=>s.heap.IsList l1 xs/\s.heap.IsTuple l2 ys/\R (.ok (.ret (.ref (CO s.heap l1 l2).objs.size))) {s with heap:=uw s.heap l1 l2}):=.of_wp fun prog w A R s h=>by obtain⟨hp,g,d,tk,os⟩:=s;obtain⟨eO,iH,h⟩:=h;have ze:=sub_zip;have hL1:Heap.IsList (Wq 1040) l1 xs:=eO;have hL2:Heap.IsTuple (Wq {hp.push {cls:=.type "list_iterator",data:=.fields #[.ref l1,.int 0 0]},g,d,tk,os}) l2 ys:=(let⟨o,ho,r⟩:=iH;{o,bG _ ho,r});wp_walk using AB hL1,AC hL2;exact 831
section
variable{prog:aT}{w:aI}{A:bz}{E:Value->Shared->Prop}{s:Shared}
theorem W5{l1 l2:Addr}{xs ys:136}{Q:43}(eO:545)(iH:493 l2 ys)(h:∀h',IsZip h' (s.heap.objs.size+4) (s.heap.objs.size+2) (s.heap.objs.size+3) .none->IsPair h' (s.heap.objs.size+2) 84 (.ref 86)->IsPair h' (s.heap.objs.size+3) .none .none->h'.IsListIter s.heap.objs.size l1 0->h'.IsTupleIter 86 l2 0->h'.objs.size=s.heap.objs.size+5->(∀c o,s.heap.get? c=some o->h'.get? c=some o)->Q (.ref (s.heap.objs.size+4)) {s with heap:=h'}):wpAny 35 A (call (.type "zip") [.ref l1,.ref l2]) Q E s:=by
 refine callType_new F.called_zip 29 (F.typeCall_zip_2 _ _) (F.newCall_zip_2 _ _) (fun obj=>F.args_object_init_3 obj _ _) F.entry_zip_new (aaI l1 l2 xs ys) {eO,iH,?_};have z1:(Cq s.heap l1).objs.size=s.heap.objs.size+1:=d8 ..;have z2:(C7 s.heap l1 l2).objs.size=s.heap.objs.size+2:=by rw[d8,z1]
 have z3:(C6 s.heap l1 l2).objs.size=s.heap.objs.size+3:=by rw[d8,z2]
 have z4:(CO s.heap l1 l2).objs.size=s.heap.objs.size+4:=by rw[d8,z3]
 have z5:(913 l1).objs.size=s.heap.objs.size+5:=by rw[d8,z4]
 have g5:(913 l1).get? (CO s.heap l1 l2).objs.size=some _:=c_ _ rfl;have g4:(913 l1).get? (C6 s.heap l1 l2).objs.size=some _:=bG _ 577;have g3:(913 l1).get? (C7 s.heap l1 l2).objs.size=some _:=bG _ (bG _ 577);have g2:(913 l1).get? (Cq s.heap l1).objs.size=some _:=bG _ (bG _ (bG _ 577));have g1:(913 l1).get? s.heap.objs.size=some _:=bG _ (bG _ (bG _ (bG _ 577)));show _/\_;rw[z2,z3,z4]at g5;rw[z1,z2]at g3;rw[z3]at g4;rw[z1]at g2;rw[z4];exact{{_,g5,rfl},h _ g5 g3 g4 {_,g1,rfl,rfl} {_,g2,rfl,rfl} z5 fun c o x=>bG _ (bG _ (bG _ (bG _ (bG _ x))))}
end
end SS
namespace PC
open PySem PySem.Spec PyProof.Rows L2 XW SS
open PySem.W (Frag)
def zJ(K:bv)(a b:Addr):It:=
 ⟨fun i H=>∃(xs ys:List V)(x y:V),aq K H a xs/\bC K H b ys/\xs[i]?=some x/\ys[i]?=some y,
  fun i H v H'=>∃T x y,v=.ref T/\H T=none/\H'=upd H T 335/\(∀xs,aq K H a xs->xs[i]?=some x)/\∀ys,bC K H b ys->ys[i]?=some y,
  fun i H=>∃xs ys:List V,aq K H a xs/\bC K H b ys/\(xs.length<=i\/ys.length<=i)⟩
theorem ahC{P:aT}{w:aI}{K:bv}{elts:433}{kk:Nat}{gH:Pos}{a b z TI TO i1 i2:Addr}(D:AS z TI TO i1 i2 a b):
 Turn P w K 304 (zJ K a b) [z,TI,TO,i1,i2] z (fun i h=>IsZip h z TI TO .none/\IsPair h TI (.ref i1) (.ref i2)/\(∃x y,IsPair h TO x y)/\h.IsListIter i1 a i/\h.IsTupleIter i2 b i)where
 mem:=by simp
 obj:=fun i h st c hc=>by
  obtain⟨hz,dR,⟨x,y,d7⟩,⟨o1,e1,_,d1⟩,⟨o2,e2,_,d2⟩⟩:=st
  have e':c=z\/c=TI\/c=TO\/c=i1\/c=i2:=by simpa using hc
  rcases e' with q|q|q|q|q
  ·rw[q];exact(294 hz)
  ·rw[q];exact(294 dR)
  ·rw[q];exact(294 d7)
  ·rw[q];exact 945
  ·rw[q];exact 946
 keep:=fun i h h' st k=>by
  obtain⟨hz,dR,⟨x,y,d7⟩,h1,h2⟩:=st
  exact 349
 item:=by
  intro X hP hw hK hc i pins s σ H E I hf st hg
  subst hP hw hK
  obtain⟨hz,dR,⟨x0,y0,d7⟩,h1,h2⟩:=st
  obtain⟨xs,ys,x,y,ku,kM,hx,hy⟩:=hg
  obtain⟨ai,rv,p,_⟩:=I.list ku
  obtain⟨ir,pS,p2,_⟩:=I.tuple kM
  obtain⟨u,hu,ru⟩:=rv.get hx
  obtain⟨u2,zE,zZ⟩:=pS.get hy
  have sM:z<s.heap.objs.size:=bn hz
  refine SS.ahb D hz dR d7 h1 h2 p.isList p2 (x:=u) (y:=u2) 460 (by simpa using zE) fun h' z' GD Aa jh hT hsz hk=>?_
  refine 667
  have sH:gc.get? s.heap.objs.size=some {cls:=.type "tuple",data:=.seq #[u,u2]}:=(sb.2 _ (kR sM)).trans hT
  have new:cQ X.prog X.w (190 335) gc s.heap.objs.size 335:=
   478
  have I1:Inv X pins σ (190 335) {s with heap:=gc}:=
   I.Bc (t':=s.toks) (ch:=[z,TI,TO,i1,i2]) 639 hf 227 new
  refine(618 {_,x,y,rfl,I.aD.fresh 227,rfl,fun l hl=>by rw[I.wN hl ku];exact hx,fun l hl=>by rw[I.IE hl kM];exact hy})
  ·exact 608
  ·exact(sb.2 _ D.TOz).trans GD
  ·exact Aa.at fun o q=>(sb.2 _ D.i1z).trans q
  ·exact jh.at fun o q=>(sb.2 _ D.i2z).trans q
  ·have aY:c<s.heap.objs.size:=by
    have e':c=z\/c=TI\/c=TO\/c=i1\/c=i2:=by simpa using oY
    rcases e' with q|q|q|q|q
    ·rw[q];exact sM
    ·rw[q];exact bn dR
    ·rw[q];exact bn d7
    ·rw[q];obtain⟨_,e1,_⟩:=h1;exact bn e1
    ·rw[q];obtain⟨_,e2,_⟩:=h2;exact bn e2
   rw[ay (cI aY)]
   exact(hf c oY).1
 done:=by
  intro X hP hw hK hc i pins s σ H E I hf st hg
  subst hP hw hK
  obtain⟨hz,dR,⟨x0,y0,d7⟩,h1,h2⟩:=st
  obtain⟨xs,ys,ku,kM,pP⟩:=hg
  obtain⟨ai,rv,p,_⟩:=I.list ku
  obtain⟨ir,pS,p2,_⟩:=I.tuple kM
  have l1:=rv.length
  have l2:=pS.length
  have he:ai.toArray[i]?=none\/ir.toArray[i]?=none:=by
   rcases pP with q|q
   ·exact .inl 79
   ·exact .inr 79
  exact SS.Zf 208 D hz dR d7 h1 h2 p.isList p2 he fun h' hk=>{rfl,I.NL (t':=s.toks) (ch:=[z,TI,TO,i1,i2]) (fun c o hb q=>
   hk c o 85 85 85 85 q) hf}
 self:=fun A i s Q E st h=>Kq st.1 h
def afA(K:bv)(ta:TA):TI:=fun σ H R=>ta σ H fun vs H1=>∃a b xs ys,vs=[.ref a,.ref b]/\aq K H1 a xs/\bC K H1 b ys/\R (zJ K a b) H1
theorem TQ{X:Cx}{e e2:aH}{ta:TA}{p pos gH:Pos}{elts:433}{kk:Nat}(hg:Gl X "zip")(hm:X.mg "zip"=none)(ha:PA X [e,e2] ta)(hs:starEach [e,e2] X.env=(false,eval e X.env)::starEach [e2] X.env:=by rfl)(dj:(465 (starEach [e2] X.env)).any (·.1)=false:=by rfl):PI X 304 950 (afA X.K ta):=by intro pins s σ H R I h;ext:104;cases r1 with|cons r rr=>cases rr with|cons r' rr=>cases rr;cases r;cases r';obtain⟨ai,rv,p1,_⟩:=I1.list ku;obtain⟨ir,pS,p2,_⟩:=I1.tuple kM;have la:a<s1.heap.objs.size:=p1.lt;(have lb:b<s1.heap.objs.size:=by obtain⟨_,q,_⟩:=p2;exact bn q);refine SS.W5 p1.isList p2 fun h' hz dR d7 h1 h2 hsz hk=>Kq hz ?_;ext:21;refine(161 ahC);ext:8
section
variable{K:Frag}{a b:Addr}{xs ys:List V}{g:TG}{tb:TS}{D:Ends}{σ:L2.St}{H:Hp}
theorem Vs(Pv:514)(bK:666)(h0:921)(hl:∀i σ H,i<=xs.length->Pv i σ H->aq K H a xs/\bC K H b ys)(hs:∀i x y T σ H,xs[i]?=some x->ys[i]?=some y->Pv i σ H->H T=none->g (.ref T) σ (257 T 335) fun bq H2=>tb {D with nx:=Pv (i+1),ct:=Pv (i+1),bk:=D.nx} bq H2)(hd:∀σ H,Pv xs.length σ H->D.nx σ H):∃W:Nat->Nat->L2.St->Hp->Prop,(∃m,W 0 m σ H)/\∀i m σ H,W i m σ H->((zJ K a b).stop i H/\D.nx σ H)\/((zJ K a b).go i H/\∃N:L2.St->Hp->Prop,(∀aW H',N aW H'->∃m',m'<m/\W (i+1) m' aW H')/\∀x H',(zJ K a b).gG i H x H'->g x σ H' fun bq H2=>tb {D with nx:=N,ct:=N,bk:=D.nx} bq H2):=by
 ext:113
 refine 703;ext:83;exact 866;ext:20
 subst e;exact .inl {630,hd σ H p}
end
end PC
namespace PC
open PySem PySem.Spec PyProof.Rows L2 XW
open PySem.W (Frag)
variable{P:aT}{w:aI}{K:Frag}{mg:Str->Option Value}{base:Heap}
theorem _root_.L2.mH.jZ{C:Addr}{x b4:Str}{st:aL}{f:Addr}{fd:eW}{N ps:132}{k:Nat}{sp:Sp}(F:mH K x b4 st f fd)(S:bf N ps (a_ st))(len:∀vs H Q E,sp vs H Q E->vs.length=ps.length)(z8:∀(aO:Value)(A:bz)(outer:List Env)(s:Shared)(H:Hp)(vs:List V)(Q:VK)(E:XK),cW k (A.deeper (250 (a_ st) aO))->sp vs H Q E->∃t,i9 (911 (cX P w C)) (oA st) t/\t {nx:=fun _ H'=>Q .bo H',rt:=Q} 825 H):aE P w K mg base (cX P w C) (k+1) f fd ps sp:=by obtain⟨oc,od,kV,iG,pm,an,aO,ct,lK,rfl,lk,lA⟩:=F.ex;exact Qm lk lA S len fun A outer s H vs Q E hr ly=>z8 aO A outer s H vs Q E hr ly
section
variable{X:Cx}{x:Str}{pos p di gH:Pos}{e o value:aH}{es:List aH}{ta tv:TE}{t:TA}{st:aL}{ps:List Str}{sp:Sp}{k m:Nat}{C:Addr}{b4 f:Str}
def Yo(C:Addr)(ta tv:TE)(f:Str):TS:=fun D σ H=>ta σ H fun x H1=>∃a dx fs i,x=.ref a/\H1 a=some 370/\fs.lookup f=some 835/\
 tv σ H1 fun y H2=>∃j zf u6,y=.int j/\H2 a=some (.ins C zf u6)/\u6.length<1000/\D.nx σ (upd H2 a (.ins C zf (fX f (.int (i+j)) u6)))
theorem Sh(c:765)(n:gk X.K C f)(ha:919)(hv:837):PS X (.AugAssign (.Attribute o f gH) .Add value pos) (Yo C ta tv f):=by intro pins s σ H D I h;refine wpAny_AugAssign_AttributeAny (aG 125 fun ov s1 ⟨x,H1,I1,rx,a,dx,fs,i,ex,ea,l,q⟩=>?_);subst ex;rw[7,ov];refine Lw I1 ea c n l fun u s2 I2 ru=>aG (hv pins s2 σ H1 _ I2 q) fun w3 s3 ⟨y,H2,I3,ry,j,zf,u6,ey,ea',l',q3⟩=>?_;refine aG (afW pins s3 σ H2 835 y u w3 (fun z H3=>z=.int (i+j)/\H3=H2) I3 ru ry ⟨i,j,rfl,ey,rfl,rfl⟩) fun w4 s4 ⟨z,H3,I4,rz,ez,eH⟩=>?_;subst ez;subst eH;exact Oz I4 ea' c n l' rz fun s5 I5=>{σ,_,I5,q3}
theorem El(c:765)(me:Me X.K C x b4 st ps)(G:711)(hr:cW m X.A)(he:919)(ha:614)(hk:k<=m:=by omega)(de:starEach 298 X.env=(false,eval e X.env)::starEach es X.env:=by rfl)(dj:(117 pos).any (·.1)=false:=by rfl){pl:939}(ht:eval (131 (239 x)) X.env=(do let ov<-eval o X.env;rP di.atName;let(f,first)<-holding [ov] (657 x);callWith pos f first (465 (731 298)) 181):=by rfl):PE X (131 (239 x)) (z7 C x sp [] E0 ta t):=Sl he c me.m G 601 me.b .nil oj ha de dj ht
theorem gi(c:765)(me:Me X.K C x b4 st ps)(G:711)(hr:cW m X.A)(he:919)(hk:k<=m:=by omega){pl:939}(ht:eval (652 (239 x)) X.env=(do let ov<-eval o X.env;rP di.atName;let(f,first)<-holding [ov] (657 x);callWith pos f first (465 (starEach [] X.env)) 181):=by rfl):PE X (652 (239 x)) (z7 C x sp [] E0 ta qR):=afr he c me.m G 601 me.b .nil oj ht
end
section
variable{P:aT}{w:aI}{K:Frag}{mg:Str->Option Value}{base:Heap}{N:List Str}{qf:Str}{scope:fY}{ff CW:Addr}{cd:Value}{A:bz}{outer:List Env}{s0:Shared}{H0:Hp}{E:XK}
abbrev eT(P:aT)(w:aI)(K:Frag)(mg:95)(base:Heap)(N:132)(qf:Str)(scope:fY)(ff CW:Addr)(cd:Value)(A:bz)(outer:621)(s0:Shared)(H0:Hp)(E:XK):Cx:=bb (cX P w CW) P w K mg base N qf scope ff cd A outer s0 H0 E
variable{x:Str}{pos p di:Pos}{e o:aH}{es:List aH}{ta:TE}{t:TA}{st:aL}{ps:List Str}{sp:Sp}{k m:Nat}{C:Addr}{b4:Str}
theorem i8(fn:Fn K mg x st ps)(G:aE P w K mg base (cX P w CW) k fn.a fn.fd ps sp)(hr:cW m (30 P).A)(ha:PA (30 P) 298 t)(hk:k<=m:=by omega)(hg:Gl (30 P) x:=by rfl)(eK:81=false:=by decide)(he:starEach 298 (30 P).env=(false,eval e (30 P).env)::starEach es (30 P).env:=by rfl)(dj:(465 (starEach es (30 P).env)).any (·.1)=false:=by rfl):PE (30 P) 311 (zd sp [] E t):=BK G 601 hg fn.m fn.F.kp fn.b .nil (Sd fun _ _ _ h=>h) ha eK he dj
theorem iX(c:iP K C)(me:Me K C x b4 st ps)(G:aE P w K mg base (cX P w CW) k me.a me.fd ps sp)(hr:cW m (30 P).A)(he:PE (30 P) o ta)(ha:PA (30 P) 298 t)(hk:k<=m:=by omega)(de:starEach 298 (30 P).env=(false,eval e (30 P).env)::starEach es (30 P).env:=by rfl)(dj:(465 (starEach es (30 P).env)).any (·.1)=false:=by rfl){pl:939}(ht:eval (131 (239 x)) (30 P).env=(do let ov<-eval o (30 P).env;rP di.atName;let(f,first)<-holding [ov] (657 x);callWith pos f first (465 (starEach 298 (30 P).env)) (backToKw pos (keywordEach [] (30 P).env))):=by rfl):PE (30 P) (131 (239 x)) (z7 C x sp [] E ta t):=Sl he c me.m G 601 me.b .nil (Sd fun _ _ _ h=>h) ha de dj ht
theorem Q1{fI NW:Addr}{fd:eW}{te:TE}{np gJ:Pos}(W:qC K CW NW fI)(F:aE P w K mg base bj k fI fd ["self","word"] (D_ CW))(hr:cW m (30 P).A)(hm:mg x=some (.ref CW))(hb:843 K)(he:PE (30 P) e te)(hk:k+1<=m:=by omega)(hg:Gl (30 P) x:=by rfl)(eK:81=false:=by decide)(de:starEach [e] (30 P).env=[(false,eval e (30 P).env)]:=by rfl):PS (30 P) 644 (To CW te fun a d H=>E 152 (some d) H):=aii W F 601 hg hm hb he (fun pins σ H s' a dx I Fl h=>LN I Fl h) eK de
end
structure Rs where
 pw:Addr
 pn:Addr
 dx:Addr
 ws:List Str
 k:Nat
 ac:List Nd
 c:Nat
def cN(R:Rs):List (Str×V):=[("words",.ref R.pw),("taken",.int (R.k:Int)),("nodes",.ref R.pn),("claimed",.int (R.c:Int))]
structure cU(C CN:Addr)(H:Hp)(r:Addr)(R:Rs):Prop where
 at_:H r=some (.ins C R.dx (cN R))
 words:H R.pw=some (.lst (R.ws.map V.str))
 nodes:dU CN H R.pn R.ac
 apart:R.pw≠R.pn
 on:R.ws.length<=1000
def bZ(r pn:Addr)(H H':Hp):Prop:=∀b o,b≠r->b≠pn->H b=some o->H' b=some o
theorem bZ.of{r pn:Addr}{H H':Hp}(S:416):bZ r pn H H':=fun b o _ _ h=>S b o h
theorem bZ.trans{r pn:Addr}{H H' H2:Hp}(S:bZ r pn H H')(S2:bZ r pn H' H2):bZ r pn H H2:=fun b o h1 h2 h=>S2 b o h1 h2 (S b o h1 h2 h)
theorem bZ.gj{r pn:Addr}{H:Hp}{o:HO}:bZ r pn H (257 r o):=fun b u h1 _ h=>by rw[ay h1];exact h
theorem bZ.ael{r pn:Addr}{H:Hp}{o:HO}:bZ r pn H (257 pn o):=fun b u _ h2 h=>by rw[ay h2];exact h
theorem IsNode.US{C CN r pn dx:Addr}{H H':Hp}{v:V}{nd:Nd}{R:Rs}{vs:231}(x:IsNode CN H v nd)(hr:324 r (.ins C dx (cN R)))(hn:324 pn (.lst vs))(S:bZ r pn H H'):IsNode CN H' v nd:=by obtain⟨a,d,p1,p2,e,N⟩:=x;have t:∀{b:Addr}{xs:List V},H b=some 193->H' b=some 193:=fun{b xs} h=>S _ _ (fun z=>by rw[z,hr]at h;ext:91) (fun z=>by rw[z,hn]at h;ext:91) h;refine{a,d,p1,p2,e,S _ _ 164 164 N.at_,t N.nums,t N.parts,N.wf};have h:=N.at_;rw[z,hr]at h;ext:106;exact 89 h 29;have h:=N.at_;rw[z,hn]at h;ext:91
theorem dU.Mi{CN r pn:Addr}{C dx:Addr}{R:Rs}{H H':Hp}{vs:231}{ac:277}(p:Paired (IsNode CN H) vs ac)(hr:324 r (.ins C dx (cN R)))(hn:324 pn (.lst vs))(S:bZ r pn H H'):Paired (IsNode CN H') vs ac:=bR (fun _ _ h=>h.US hr hn S) p
theorem cU.ne{C CN:Addr}{H:Hp}{r:Addr}{R:Rs}(x:cU C CN H r R):R.pw≠r/\R.pn≠r:=by refine{fun z=>?_,fun z=>?_};have h:=x.words;rw[z,x.at_]at h;ext:91;obtain⟨vs,h,_⟩:=x.nodes;rw[z,x.at_]at h;ext:91
theorem cU.same{C CN:Addr}{H H':Hp}{r:Addr}{R:Rs}(x:cU C CN H r R)(S:416):cU C CN H' r R:={S _ _ x.at_,S _ _ x.words,x.nodes.same S,x.apart,x.on}
theorem cU.nums{C CN:Addr}{H:Hp}{r:Addr}{R:Rs}(x:cU C CN H r R)(k c:Nat):cU C CN (257 r (.ins C R.dx (cN {R with k:=k,c:=c}))) r {R with k:=k,c:=c}:=by obtain⟨n1,n2⟩:=x.ne;obtain⟨vs,h,p⟩:=x.nodes;exact{aM,by show upd _ _ _ _=_;rw[ay n1];exact x.words,{vs,by show upd _ _ _ _=_;rw[ay n2];exact h,dU.Mi p x.at_ h .gj},x.apart,x.on}
def dC(CW:Addr)(E:XK)(r pn:Addr)(H:Hp)(n:Int):Prop:=∀a d H',bZ r pn H H'->H' a=some (.ext (ky CW a d))->H' d=some 853->E 152 (some d) H'
theorem dC.go{CW:Addr}{E:XK}{r pn:Addr}{H H':Hp}{n:Int}(x:dC CW E r pn H n)(S:bZ r pn H H'):dC CW E r pn H' n:=fun a d H2 S2=>x a d H2 (S.trans S2)
theorem PQ(T:65):aE P w K mg base bj 1 T.F_ T.Gi ["self","word"] (D_ T.bX):=by have sc:bf ["self","word"] ["self","word"] (a_ vd):=17;refine T.ag9.ok sc 28 19;obtain⟨a,i,rfl,_⟩:=h;rfl;obtain⟨a,i,rfl,ha,k⟩:=h;refine{_,au (W0 T.yC 56 179 rfl),?_};exact{_,rfl,_,rfl,a,i,rfl,rfl,ha,fun dx h1 h2=>k dx h1 h2}
def aeo(C:Addr):Sp:=fun vs H Q _=>∃(x dx pn pp:Addr)(o:Op)(st:Nat)(ps:List Nat),vs=[.ref x,.str o.kind,.ref pn,.ref pp,.int (st:Int)]/\H x=some 809/\H pn=some 541/\o.wf/\
 Q .bo (257 x (803 C))
theorem agS:bf ["self","kind","numbers","parts","start"] ["self","kind","numbers","parts","start"] (a_ TR):=17
theorem ZW(T:65):aE P w K mg base bj 2 T.yR.a T.yR.fd ["self","kind","numbers","parts","start"] (aeo T.aJ):=by
 refine T.yR.F.ok agS 28 19;obtain⟨x,dx,pn,pp,o,st,ps,rfl,_⟩:=h;rfl;obtain⟨x,dx,pn,pp,o,st,ps,rfl,hx,hn,wf,k⟩:=h;refine(421 (aj (g6 T.cq T.gm 56 179) (aj (g6 T.cq T.gz 56 88) (aj (g6 T.cq T.yM 56 174) (aj (g6 T.cq T.MH 56 602) (au (g6 T.cq T.Fm 56 (442 T.Ar (Lu T) (845 336)))))))));have nx:pn≠x:=fun z=>by rw[z,hx]at hn;cases hn
 refine 907;refine(805 690);refine(805 691);refine(805 692);refine{_,rfl,_,rfl,o,pn,rfl,?_,wf,_,rfl,x,dx,_,rfl,aM,485,?_};rw[mD,mD,mD,ay nx];exact hn;rw[mD,mD,mD,mD];exact k
def agI(C:Addr):Sp:=fun vs H Q _=>∃(x dx pw:Addr),vs=[.ref x,.ref pw]/\H x=some 809/\
 ∀pn H',(∀b o,b≠x->H b=some o->H' b=some o)->H pn=none->pn≠x->H' x=some (.ins C dx [("words",.ref pw),("taken",.int 0),("nodes",.ref pn),("claimed",.int 0)])->H' pn=some (.lst [])->Q .bo H'
theorem agL:bf ["self","words"] ["self","words"] (a_ Vj):=17
theorem ada(T:65):aE P w K mg base bj 1 T.zo.a T.zo.fd ["self","words"] (agI T.bc):=by
 refine T.zo.F.ok agL 28 19;obtain⟨x,dx,pw,rfl,_⟩:=h;rfl;obtain⟨x,dx,pw,rfl,hx,k⟩:=h;refine(421 (aj (g6 T.bN T.FQ 56 179) (aj (g6 T.bN T.wB 56 ap) (aj (g6 T.bN T.BV 56 505) (au (g6 T.bN T.vm 56 ap))))));refine 907;refine{_,rfl,x,dx,_,rfl,aM,690,?_};rw[mD];refine{bA _,fun pn H2 S2 f2 e2=>?_};have nx:pn≠x:=fun z=>by rw[z,aM]at f2;cases f2
 rw[ay nx]at f2;have hx2:=S2 x _ aM;refine{_,rfl,x,dx,_,rfl,hx2,691,?_};refine{_,rfl,x,dx,_,rfl,aM,692,?_};rw[mD];refine k pn _ (fun b o hb h=>?_) f2 nx aM (by rw[ay nx];exact e2);rw[ay hb];exact 547 (by rw[ay hb];exact h)
def agD(C CN:Addr):Sp:=fun vs H Q _=>∃(r:Addr)(R:Rs),vs=[.ref r]/\cU C CN H r R/\Q (.str (R.ws.getD R.k "")) H
theorem adp:bf ["self"] ["self"] (a_ QU):=17
theorem lU(T:65):aE P w K mg base bj 1 T.jH.a T.jH.fd ["self"] (agD T.bc T.aJ):=by
 refine T.jH.F.ok adp 28 19;obtain⟨r,R,rfl,_⟩:=h;rfl;obtain⟨r,R,rfl,x,k⟩:=h;refine(421 (au (aF (ig (73 tL (512 T.wB) (68 (38 (512 T.FQ)))) (25 bD (512 T.FQ) (512 T.wB)) cu))));refine{_,rfl,r,_,_,_,rfl,x.at_,rfl,_,rfl,r,_,_,_,rfl,x.at_,rfl,_,_,rfl,.inl (549 x.words),_,_,rfl,rfl,_,rfl,?_};rw[az];by_cases hk:R.k<R.ws.length;refine aS 139 {_,rfl,r,_,_,_,rfl,x.at_,rfl,_,rfl,r,_,_,_,rfl,x.at_,rfl,_,_,_,_,rfl,rfl,x.words,wP (f:=V.str) (d:=(("":String):Str)) hk,k};refine 572;have e:R.ws.getD R.k ""="":=by rw[dI,kW 23];rfl
 rw[e]at k;exact k
def aez(C CN:Addr):Sp:=fun vs H Q _=>∃(r:Addr)(R:Rs),vs=[.ref r]/\cU C CN H r R/\Q .bo (257 r (302 C))
theorem adM:bf ["self"] ["self"] (a_ Q8):=17
theorem nu(T:65):aE P w K mg base bj 1 T.kP.a T.kP.fd ["self"] (aez T.bc T.aJ):=by refine T.kP.F.ok adM 28 19;obtain⟨r,R,rfl,_⟩:=h;rfl;obtain⟨r,R,rfl,x,k⟩:=h;refine(421 (au (Sh T.bN T.wB 56 ap)));exact{_,rfl,r,_,_,_,rfl,x.at_,rfl,_,_,_,rfl,x.at_,485,k}
def ac3(CW C CN:Addr):Sp:=fun vs H Q E=>∃(r:Addr)(R:Rs)(b:Bool),vs=[.ref r,.bl b]/\cU C CN H r R/\(b=true->Q .bo H)/\(b=false->dC CW E r R.pn H ((R.k:Int)+1))
theorem agq:bf ["self","right"] ["self","right"] (a_ R_):=17
theorem wR(T:65):aE P w K mg base 154 3 T.pL.a T.pL.fd ["self","right"] (ac3 T.bX T.bc T.aJ):=by refine T.pL.F.jZ agq 28 19;obtain⟨r,R,b,rfl,_⟩:=h;rfl;obtain⟨r,R,b,rfl,x,k1,k2⟩:=h;refine(421 (au (554 (i0 (gP 179)) (au (Q1 T.yC (PQ T) hr T.Gx T.Ra (606 (512 T.wB)))))));refine{_,rfl,_,rfl,?_};cases b with|true=>exact aU 29 (k1 rfl)|false=>refine aS 29 {_,rfl,r,_,_,_,rfl,x.at_,rfl,_,_,rfl,rfl,_,rfl,fun a d h1 h2 h3=>k2 rfl a d _ (.of fun b o h=>?_) aM ?_};rw[ay 923,ay (bF h h2)];exact h;rw[ay h3,aM]
theorem oQ(a b:Str):decide (V.str a=V.str b)=decide (a=b):=by by_cases h:a=b;rw[h];simp;rw[gn h,gn fun z=>h 891]
def aeg(CW C CN:Addr):Sp:=fun vs H Q E=>∃(r:Addr)(R:Rs)(x:Str),vs=[.ref r,.str x]/\cU C CN H r R/\(R.ws.getD R.k ""=x->Q .bo (257 r (302 C)))/\(R.ws.getD R.k ""≠x->dC CW E r R.pn H ((R.k:Int)+1))
theorem YU:bf ["self","word"] ["self","word"] (a_ PL):=17
theorem wm(T:65):aE P w K mg base 154 4 T.oO.a T.oO.fd ["self","word"] (aeg T.bX T.bc T.aJ):=by refine T.oO.F.jZ YU 28 19;obtain⟨r,R,x,rfl,_⟩:=h;rfl;obtain⟨r,R,x,rfl,X,k1,k2⟩:=h;refine(421 (aj (cr (440 (38 (jF cD 144 179 (bi _))))) (au 124)));refine{_,rfl,r,_,_,rfl,X.at_,rfl,_,rfl,r,_,_,rfl,X.at_,rfl,r,R,rfl,X,_,rfl,rfl,?_};refine{r,R,_,rfl,X,fun hb=>?_,fun hb=>k2 ?_};refine{_,rfl,r,_,_,rfl,X.at_,rfl,r,R,rfl,X,k1 ?_};rw[oQ,bg]at hb;exact hb;rw[oQ,m5]at hb;exact hb
def adL(C CN:Addr):Sp:=fun vs H Q _=>∃(r pn pp:Addr)(R:Rs)(o:Op)(ps:List Nat)(st:Nat),vs=[.ref r,.str o.kind,.ref pn,.ref pp,.int (st:Int)]/\cU C CN H r R/\H pn=some 541/\H pp=some (.tup 1009)/\o.wf/\R.ac.length<=1000/\
 ∀H',bZ r R.pn H H'->cU C CN H' r {R with ac:=R.ac++[⟨o,ps,st⟩]}->Q (.int (R.ac.length:Int)) H'
theorem ah2:bf ["self","kind","numbers","parts","start"] ["self","kind","numbers","parts","start"] (a_ TZ):=17
theorem Bp(T:65):aE P w K mg base bj 4 T.uz.a T.uz.fd ["self","kind","numbers","parts","start"] (adL T.bc T.aJ):=by
 refine T.uz.F.ok ah2 28 19;obtain⟨r,pn,pp,R,o,ps,st,rfl,_⟩:=h;rfl;obtain⟨r,pn,pp,R,o,ps,st,rfl,X,hn,hp,wf,sz,k⟩:=h;refine(421 (aj (cr (122 (512 T.BV) (38 (TD T.aex (ZW T) (hr.mono 23) rfl T.ahh T.yR.b .nil oj (845 (aa 88 (aa 174 284))))))) (au (aF (bQ kI (68 (38 (512 T.BV))) ap)))));obtain⟨ws,hw,pd⟩:=X.nodes;have bK:ws.length=R.ac.length:=bY pd;refine{_,rfl,r,_,_,_,rfl,X.at_,rfl,.inl (142 hw),_,rfl,_,rfl,_,rfl,_,rfl,fun x dx h1 h2 h3=>?_};have S1:ah H (1013 (.ins T.aJ dx [])):=fun b u h=>by rw[ay 923,ay (bF h h2)];exact h
 refine{x,dx,pn,pp,o,st,ps,rfl,aM,S1 _ _ hn,wf,rfl,?_};rw[mD];have S2:ah H (1013 (803 T.aJ)):=fun b u h=>by rw[ay 923,ay (bF h h2)];exact h
 generalize hH2:upd (upd H dx (.own x)) x (.ins T.aJ dx (uo ⟨o,ps,st⟩ pn pp))=H2 at S2;have e2:H2 x=some (803 T.aJ):=by rw[<-hH2];exact aM
 have X2:=X.same S2;obtain⟨n1,n2⟩:=X.ne;have ZA:Paired (IsNode T.aJ H2) ws R.ac:=bR (466 S2) pd;have Ev:=S2 _ _ hw;refine{R.pn,_,_,rfl,rfl,Ev,by rw[bK,sizeLine_eq];omega,?_};have S3:bZ r R.pn H2 (upd H2 R.pn (80 (ws++[.ref x]))):=.ael;have r3:upd H2 R.pn (80 (ws++[.ref x])) r=some (.ins T.bc R.dx (cN R)):=by rw[ay (cJ n2)];exact X2.at_
 have N2:IsNode T.aJ H2 679 ⟨o,ps,st⟩:={x,dx,pn,pp,rfl,e2,S2 _ _ hn,S2 _ _ hp,wf};refine{_,rfl,r,_,_,_,rfl,r3,rfl,_,_,rfl,.inl (549 aM),_,_,rfl,rfl,?_};have e:((ws++[V.ref x]).length:Int)-1=(R.ac.length:Int):=by rw[bw,bK];simp
 show Q (.int (((ws++[V.ref x]).length:Int)-1)) _;rw[e];refine k _ ((bZ.of S2).trans S3) {r3,?_,{_,aM,?_},X.apart,X.on};show upd H2 R.pn _ R.pw=_;rw[ay X.apart];exact X2.words;exact kE (dU.Mi ZA X2.at_ Ev S3) (N2.US X2.at_ Ev S3)
theorem boot_int:gS "int"=some (.type "int"):=by decide+kernel
theorem Nl:∀c,c<128->Ws c=kY c:=by
 have h:∀c:Fin 128,Ws c.1=kY c.1:=by decide+kernel
 intro c hc;exact h ⟨c,hc⟩
def Cg:Option Nat->V
 |none=>.bo
 |some n=>.int (n:Int)
theorem agt(cs:71):∀a,cs.foldl (fun acc c=>acc*10+(c-48)) a=cs.foldl (fun n c=>10*n+(c-48)) a:=by induction cs with|nil=>intro a;rfl|cons c t ih=>intro a;rw[p6,p6,ih,Nat.mul_comm]
theorem RL{x:Str}(h:∀c∈x.cps.toList,c<128):AT x=(decide (1<=x.cps.toList.length)&&x.cps.toList.all kY):=by
 unfold AT;rw[<-Array.all_toList];have e:x.cps.toList.all Ws=x.cps.toList.all kY:=by rw[h_,kU,kU];refine{fun q c hc=>?_,fun q c hc=>?_};rw[<-Nl c (h c hc)];exact q c hc;rw[Nl c (h c hc)];exact q c hc
 rw[e];rfl
theorem acU{x:Str}(h:∀c∈x.cps.toList,c<128):qg x.cps.toList=if(AT x&&decide (x.length<=7))=true then some (x.cps.toList.foldl (fun n c=>10*n+(c-48)) 0)else none:=by
 unfold qg;rw[RL h];have e:x.length=x.cps.toList.length:=by simp[uU]
 rw[e];by_cases h1:x.cps.toList.all kY=true<;>by_cases h2:1<=x.cps.toList.length<;>by_cases h3:x.cps.toList.length<=7<;>simp[h1,h2,h3]
def ahP:Sp:=fun vs H Q _=>∃(x:Str),vs=[.str x]/\(∀c∈x.cps.toList,c<128)/\x.length<=1000/\Q (Cg (qg x.cps.toList)) H
theorem W_:bf ["word"] ["word"] (a_ NR):=17
theorem G_(T:65):aE P w K mg base bj 1 T.wG.a T.wG.fd ["word"] ahP:=by refine T.wG.F.ok W_ 28 19;obtain⟨x,rfl,_⟩:=h;rfl;obtain⟨x,rfl,sm,sz,k⟩:=h;refine(421 (aj (554 (PW.pt (Dh (gP (afy PySem.F.slot_str_isdigit PySem.F.type_str_isdigit ad9 56)) (BP (73 j8 (cw Mo rfl T.dh dn 734) (cF T.ad2))))) (au (aF (qW abq rfl T.af9 boot_int 734)))) (au (aF Ld))));rw[acU sm]at k;refine{_,rfl,⟨x,rfl⟩,x,rfl,rfl,trivial,?_};refine 735;cases hd:AT x with|false=>rw[hd]at k;exact aU 29 (aU 29 k)|true=>rw[hd]at k;refine aS rfl {_,rfl,x,rfl,CY sz,_,_,rfl,rfl,_,rfl,?_};by_cases h7:x.length<=7;rw[if_pos (by rw[cK h7];rfl)]at k;rw[RL sm,dm,bg,kU]at hd;refine aS 139 {_,rfl,x,_,rfl,intText_digits (fun c hc=>?_) 164 23,by omega,?_};have q:=hd.2 c hc;unfold kY at q;rw[dm,bg,bg]at q;exact q;rw[z]at hd;exact 89 hd.1 29;unfold NumText.digitsVal;rw[agt];exact k;rw[if_neg (by rw[gn h7];decide)]at k;exact aU 139 k
def vE:List Nat->V
 |45::r=>match qg r with
  |none=>.bo
  |some n=>.int (-(n:Int))
 |l=>Cg (qg l)
theorem Rl(r:71):vE (45::r)=match qg r with|none=>.bo|some n=>.int (-(n:Int)):=rfl
theorem Ot{l:71}(h:∀r,l≠45::r):vE l=Cg (qg l):=by unfold vE;ext:149
theorem Sg(x:Str):EO x "-"=true↔∃r,x.cps.toList=45::r:=by obtain⟨⟨l⟩⟩:=x;unfold EO Builtin.Str.subAt;cases l with|nil=>simp[uU];decide|cons c t=>(have e:(({{c::t}}:Str).cps.extract 0 (0+(("-":String):Str).length)==(("-":String):Str).cps)=decide (c=45):=by show(({c::t}:706).extract 0 1==#[45])=_;by_cases h:c=45<;>simp[h]);rw[e];(have e2:(0+(("-":String):Str).length<=({{c::t}}:Str).length)=True:=by show(1<=(c::t).length)=True;simp);rw[cK (of_eq_true e2),A5,bg];refine{fun z=>{t,by rw[z]},fun⟨r,z⟩=>?_};injection z
def agm:Sp:=fun vs H Q _=>∃(x:Str),vs=[.str x]/\(∀c∈x.cps.toList,c<128)/\x.length<=1000/\Q (vE x.cps.toList) H
theorem LV:bf ["word","value"] ["word"] (a_ Rc):=17
theorem abL(T:65):aE P w K mg base bj 2 T.CJ.a T.CJ.fd ["word"] agm:=by
 refine T.CJ.F.ok LV 28 19;obtain⟨x,rfl,_⟩:=h;rfl;obtain⟨x,rfl,sm,sz,k⟩:=h;refine(421 (aj (554 (i0 (gP (abW PySem.F.slot_str_startswith PySem.F.type_str_startswith ae4 56 cu))) (au (aF (442 T.wG (G_ T) 734)))) (aj (184 LV.nd (442 T.wG (G_ T) (38 (j9 aeq 56 (iI ap) mi)))) (au (aF (ig (Ag (ahX 179)) Ld (eP eG 179)))))));refine{_,rfl,⟨x,rfl⟩,x,_,rfl,rfl,_,rfl,?_};by_cases hs:EO x "-"=true;obtain⟨r,er⟩:=(Sg x).mp hs;rw[hs];refine 533;rw[er,Rl]at k;have ec:(tj x (some 1) none).cps.toList=r:=by unfold tj;(have e1:HT.ba x.length 0 (some 1)=1:=by(have hl:x.length=(45::r).length:=by rw[<-er];simp[uU]);unfold HT.ba;rw[hl];simp);have e2:HT.ba x.length x.length none=x.length:=rfl;rw[e1,e2,er];(have hl:x.length=r.length+1:=by(have:x.length=(45::r).length:=by rw[<-er];simp[uU]);ext:64);rw[hl];simp
 refine{_,rfl,{_,rfl,x,rfl,CY sz,tj x (some 1) none,rfl,?_,?_,?_}};rw[ec];exact fun c hc=>sm c (by rw[er];exact cZ _ hc);have:(tj x (some 1) none).length=r.length:=by rw[<-ec];simp[uU]
 have hl:x.length=(45::r).length:=by rw[<-er];simp[uU]
 rw[this];rw[hl]at sz;exact dG (rX _) sz;rw[ec];cases hn:qg r with|none=>rw[hn]at k;exact{_,rfl,_,rfl,aS 29 k}|some n=>rw[hn]at k;exact{_,rfl,_,rfl,aU (by rw[bg];exact fun z=>nomatch z) {_,rfl,_,rfl,k}}
 rw[Bool.not_eq_true]at hs;rw[hs];refine aS 29 {_,rfl,x,rfl,sm,sz,?_};rw[Ot (fun r z=>by rw[(Sg x).mpr ⟨r,z⟩]at hs;cases hs)]at k;exact k
theorem boot_sorted:gS "sorted"=some 1014:=by decide+kernel
theorem boot_set:gS "set"=some (.type "set"):=by decide+kernel
def CQ(H:Hp)(r:Int):V->Bool
 |.ref a=>match H a with
  |some (.tup (.int n::_))=>n==r
  |_=>false
 |_=>false
def numsOf(cs:147)(r:Int):List Int:=(cs.filter fun c=>c.getD 0 0==r).map fun c=>c.getD 2 0
def SX(H:Hp)(x y:V):Prop:=∃(a:Addr)(c:List Int),x=.ref a/\H a=some (.tup 894)/\y=.int (c.getD 2 0)
theorem Qa{H:Hp}{a:Addr}{c:33}{r:Int}(h:324 a (.tup 894))(l:c.length=3):CQ H r 152=(c.getD 0 0==r):=by
 obtain⟨x,o,n,rfl⟩:∃x o n,c=[x,o,n]:=by match c,l with|[x,o,n],_=>exact⟨x,o,n,rfl⟩
 show(match H a with|some (.tup (.int n::_))=>n==r|_=>false)=_;rw[h];rfl
theorem UE:∀{a b:List Int},a.map V.int=b.map V.int->a=b
 |[],[],_=>rfl
 |[],_::_,h=>by cases h
 |_::_,[],h=>by cases h
 |x::a,y::b,h=>by simp only[bL,A0,V.int.injEq]at h;rw[h.1,UE h.2]
theorem three{c:33}(l:c.length=3):∃x o n,c=[x,o,n]:=by match c,l with|[x,o,n],_=>exact⟨x,o,n,rfl⟩
theorem eq_int(x r:Int):decide (V.int x=V.int r)=(x==r):=by rw[h_];simp
theorem got{H:Hp}{r:Int}:∀{ps:List V}{cs:List 33}{ys:List V},gB H ps cs->(∀c∈cs,c.length=3)->Paired (SX H) (ps.filter (CQ H r)) ys->ys=(508 r).map V.int
 |_,_,_,.nil,_,.nil=>rfl
 |_,c::cs,ys,.cons ⟨a,e,h⟩ t,h3,p=>by subst e;have l3:=h3 c (cY ..);have ei:CQ H r 152=(c.getD 0 0==r):=Qa h l3;unfold numsOf;rw[List.filter_cons];rw[List.filter_cons,ei]at p;cases hb:(c.getD 0 0==r)with|false=>rw[hb]at p;exact got t (fun c hc=>h3 c (cZ _ hc)) p|true=>rw[hb]at p;cases p with|cons q p=>obtain⟨a',c',e1,e2,e3⟩:=q;cases e1;(have e4:c=c':=by have:=dZ (h.symm.trans e2);injection this with this;exact UE this);subst e4;rw[got t (fun c hc=>h3 c (cZ _ hc)) p,e3];rfl
theorem nJ(c:Int)(r:33):fL ((c::r).map V.int) 0=some (V.int c):=dA (j:=0) rfl
theorem fM{H H':Hp}{D:Addr}(S:416)(h:H' D=none):H D=none:=by cases e:H D with|none=>rfl|some o=>rw[S _ _ e]at h;ext:91
theorem branch{t:TE}{Dn:Ends}{σ:L2.St}{H:Hp}{b:Bool}(R:Hp->Prop)(rest:∀H',R H'->Dn.nx σ H')(h1:b=true->∀Q:VK,(∀v H',R H'->Q v H')->t σ H Q)(h2:b=false->R H):if b=true then De t Dn σ H else FM Dn σ H:=by cases b with|true=>exact h1 rfl _ fun _ H' r=>rest H' r|false=>exact rest H (h2 rfl)
theorem Xz(c:Int)(r:33):fP ((c::r).map V.int) (some 1) none=r.map V.int:=by
 have e:HT.ba ((c::r).map V.int).length 0 (some 1)=1:=by have:=HT.tX ((c::r).map V.int).length 0 1;rw[show((1:Nat):Int)=1 from rfl]at this;rw[this];simp
 unfold fP;rw[e,HT.JW];simp only[bL,aR,List.drop_succ_cons,KZ,E5];exact Ki 227
theorem shaped_ints(n:33):AL (.list 411)=true:=by show(sr 411&&decide (oJ 411+1<=64))=true;rw[lay_ints,An];rfl
theorem Rr{K:Frag}{H:Hp}{a:Addr}{n:33}(h:324 a (80 903)):Dp K H 152 (.list 411):=.lst (aq.of h) (wD n)
def iJ(p:Int×Int):List Int:=p.1::(if p.1+1<p.2 then[p.1+1]else[])
theorem aiH(l:List (Int×Int)):(l.flatMap iJ).length<=2*l.length:=by induction l with|nil=>simp|cons p t ih=>rw[K0,bw,aR];(have:(iJ p).length<=2:=by unfold iJ;split<;>simp);omega
theorem UC:∀(c:Int)(r:List Int),((c::r).zip (r++[1000000+1])).flatMap iJ=c::uV c r
 |c,[]=>by show iJ (c,1000001)++[]=c::uV c [];unfold iJ uV sw;by_cases h:c<1000000;rw[if_pos 79,if_pos h];rfl;rw[if_neg 79,if_neg h];rfl
 |c,d::r=>by show iJ (c,d)++((d::r).zip (r++[1000000+1])).flatMap iJ=c::uV c (d::r);rw[UC d r];unfold iJ;show _=c::((if c+1<d then[c+1]else[])++d::uV d r);rfl
def aau:Sp:=fun vs H Q _=>∃(r:Int)(l:Addr)(ps:List V)(cs:List 33),vs=[.int r,.ref l]/\H l=some 810/\gB H ps cs/\(∀c∈cs,c.length=3)/\cs.length<64/\
 ∀H' D ys,ah H H'->H D=none->ys.Pairwise (·<·)->(∀z,z∈ys↔z∈numsOf cs r)->H' D=some (80 ((sy ys).map V.int))->Q 118 H'
theorem ud:bf ["reading","comparisons","numbers","comparison","found","number","beyond"] ["reading","comparisons"] (a_ OM):=17
theorem Rh(T:65):aE P w K mg base bj 1 T.yS.a T.yS.fd ["reading","comparisons"] aau:=by
 refine T.yS.F.ok ud 28 19;obtain⟨r,l,ps,cs,rfl,_⟩:=h;rfl;obtain⟨r,l,ps,cs,rfl,hl,tp,h3,sz,k⟩:=h
 refine(421 (aj (90 ud.nd (aiG rfl rfl T.ahW boot_sorted rfl T.aid boot_set (j6 rfl ud.nd (io 179) (own:=[("comparison",3)]) 20 (46 (351 ud.nd)) (46 (LC (73 cD (343 174) 56))) (46 (343 174))))) (aj (554 (73 (agQ hr.units) 88 505) (au (aF (bp 884)))) (aj (170 ud.nd 505) (aj (554 (73 mG (25 bD 88 ap) (cF T.UJ)) (au (cr (122 602 (38 (bQ kI (25 bD 88 ap) ap)))))) (aj (419 (Je rfl T.Aq (aa 88 (38 (bQ jS (j9 qM 88 (iI ap) mi) (bp (38 (606 (cF T.Qt)))))))) (uq rfl (je (299 ud.nd) (je (cE (i:=6) ud.nd rfl 18) rH))) (aj (cr (122 602 (38 663))) (au (554 (73 tL (606 663) (pv 6)) (au (cr (122 602 (38 (606 663))))))))) (au (aF 602))))))))
 have pl:ps.length=cs.length:=bY tp;refine{_,rfl,l,rfl,{_,aq.of hl},fun D0 f0=>?_};refine NQ (xs:=ps) (fun _ x y=>SX H x y) (CQ H r) f0 134 886 (by rw[pl,sizeLine_eq];omega) 567 (fun x H2 Q' hx hp S q=>?_) (fun H1 ys S1 e1 pr=>?_);obtain⟨c,hc,a,rfl,ha⟩:=nM tp hx;have q':=q H2 ah.refl rfl;rw[Qa ha (h3 c hc)]at q';obtain⟨x,o,n,rfl⟩:=three (h3 c hc);refine{_,rfl,a,_,_,_,rfl,rfl,S _ _ ha,rfl,_,rfl,rfl,_,rfl,?_};rw[eq_int];exact q';obtain⟨c,hc,a,rfl,ha⟩:=nM tp hx;have q':=fun y=>q y H2 ah.refl;obtain⟨x,o,n,rfl⟩:=three (h3 c hc);exact{_,rfl,a,_,_,_,rfl,rfl,S _ _ ha,rfl,q' _ {a,_,rfl,ha,rfl}};have ey:=got tp h3 pr;rw[ey]at e1;refine{D0,numsOf cs r,rfl,aq.of e1,?_,fun ys H2 N S2 ll lt mem e2=>?_};unfold numsOf;rw[az];exact V9 (E3 _ _) sz;ext:107;refine{_,rfl,bA _,fun E0 H3 S3 f3 e3=>{_,_,Rr (632 e2),Rr (n:=[]) e3,shaped_ints _,shaped_ints [],_,rfl,?_}};have b5:ah H H3:=fun b o q=>S3 _ _ (dL _ _ q);rw[show AM (.list (ys.map gX)) (.list (([]:33).map gX))=decide (ys=[])from JI ys []]
 cases ys with|nil=>refine aS rfl {by show 1<=sizeLine;decide,fun D H4 S4 f4 e4=>k H4 D [] (fun b o q=>S4 _ _ (751 q)) (fM b5 f4) lt mem e4}|cons c r'=>refine aU 42 ?_;refine{bA _,fun D H4 S4 f4 e4=>?_};have gM:ah H H4:=fun b o q=>S4 _ _ (751 q);have n4:H4 N=some (80 732):=S4 _ _ (632 e2);refine{_,rfl,N,_,_,_,rfl,rfl,n4,nJ c r',_,_,rfl,rfl,_,rfl,?_};have fD:=fM b5 f4;(have CF:N≠D:=fun z=>by rw[z]at e2;rw[S3 _ _ e2]at f4;cases f4);refine branch (R:=fun H5=>ah H H5/\H5 N=some (80 732)/\H5 D=some (80 ((if-sw<c then[c-1]else[]).map V.int))) (fun H5 ⟨S5,n5,d5⟩=>?_) 314 (fun hb=>?_);generalize Ey:(if-sw<c then[c-1]else[])=pre at d5;(have eO:pre.length<=1:=by rw[<-Ey];split<;>simp);(have rl:(c::r').length<64:=by(have h1:(508 r).length<=cs.length:=by unfold numsOf;rw[az];exact E3 _ _);omega);have OV:fP 732 (some 1) none=r'.map V.int:=Xz c r';refine{_,rfl,_,rfl,_,rfl,N,_,rfl,aq.of n5,fun B1 H6 S6 f6 b6=>{_,_,rfl,rfl,by show 1<=sizeLine;decide,fun B2 H7 S7 f7 b7=>{B1,B2,_,_,rfl,rfl,S7 _ _ b6,b7,?_,fun B H8 S8 f8 b8=>?_}}};rw[OV,az,sizeLine_eq];simp only[aR,jl]at rl⊢;omega;have BC:ah H5 H8:=fun b o q=>S8 _ _ (S7 _ _ (S6 _ _ q));(have eB:H8 B=some 1007:=by rw[b8,OV,bH];rfl);refine{N,B,_,_,rfl,aq.of (BC _ _ n5),aq.of eB,?_};refine WU (K:=_) (a:=N) (b:=B) (xs:=(c::r').map V.int) (ys:=(r'++[1000000+1]).map V.int) (fun i σ H9=>ah H H9/\H9 N=some (80 732)/\H9 B=some 1007/\H9 D=some (80 ((pre++(588 i).flatMap iJ).map V.int))/\∃x y,σ=[some (.int r),some 283,some (.ref N),none,some 118,x,y]) 42 {fun b o q=>BC _ _ (S5 _ _ q),BC _ _ n5,eB,by simpa using BC _ _ d5,none,none,rfl} (fun i σ H9 _ p=>{aq.of p.2.1,aq.of p.2.2.1}) (fun i x y T σ H9 hx hy p fT=>?_) (fun σ H9 p=>?_);obtain⟨S9,n9,b9,d9,x0,y0,rfl⟩:=p;rw[d_]at hx hy;obtain⟨a,ha,rfl⟩:=lZ.mp hx;obtain⟨b,hb,rfl⟩:=lZ.mp hy;(have ez:((c::r').zip (r'++[1000000+1]))[i]?=some (a,b):=by rw[ajG];exact⟨ha,hb⟩);have il:i<(c::r').length:=(930 ha).1;generalize hZ:pre++(((c::r').zip (r'++[1000000+1])).take i).flatMap iJ=Z at d9;(have eZ:pre++(588 (i+1)).flatMap iJ=Z++iJ (a,b):=by rw[gx ez,Wu,<-gp,hZ];simp);(have zl:Z.length<=1+2*i:=by rw[<-hZ,bw];have:=aiH (588 i);rw[bU]at this;omega);(have zs:Z.length+2<sizeLine:=by rw[sizeLine_eq];omega);(have up:∀{b:Addr}{o o':HO},H9 b=some o->b≠D->∀L,upd (upd H9 T o') D L b=some o:=fun q hb L=>by rw[ay hb,ay (bF q fT)];exact q);(have dT:upd H9 T (.tup [V.int a,V.int b]) D=some (80 (Z.map V.int)):=by rw[ay (bF d9 fT)];exact d9);have nD:∀{b:Addr}{o:HO},H b=some o->b≠D:=fun q=>bF q fD;(have Jh:B≠D:=fun z=>by have q:=S7 _ _ (S6 _ _ d5);rw[<-z,f8]at q;cases q);refine{T,_,rfl,bC.of aM,rfl,_,_,rfl,_,_,rfl,rfl,?_};refine{_,rfl,.inl (142 dT),_,rfl,D,_,_,rfl,rfl,dT,by rw[az];omega,?_};refine{_,rfl,_,_,rfl,rfl,_,rfl,_,_,rfl,rfl,_,rfl,?_};refine branch _ (fun _ r=>r) 314 (fun hb=>?_);refine{_,rfl,.inl (142 aM),_,rfl,_,_,rfl,rfl,D,_,_,rfl,rfl,aM,by simp;omega,q _ _ {?_,?_,?_,?_,_,_,rfl}};intro b o q;rw[ay (nD q)];exact up (S9 _ _ q) (nD q) _;rw[ay CF];exact up n9 CF _;rw[ay Jh];exact up b9 Jh _;rw[aM,eZ,bH];(have e2:iJ (a,b)=[a,a+1]:=by unfold iJ;rw[if_pos (of_decide_eq_true hb)]);rw[e2];simp;refine{fun b o q=>up (S9 _ _ q) (nD q) _,up n9 CF _,up b9 Jh _,?_,_,_,rfl};rw[aM,eZ,bH];(have e2:iJ (a,b)=[a]:=by unfold iJ;rw[if_neg (of_decide_eq_false hb)]);rw[e2];rfl;obtain⟨S9,n9,b9,d9,x0,y0,rfl⟩:=p;refine{_,rfl,k H9 D (c::r') S9 fD lt mem ?_};(have ez:((c::r').zip (r'++[1000000+1])).length=((c::r').map V.int).length:=by rw[KR,az,bw];simp);rw[d9,<-ez,gW,UC,<-Ey];rfl;refine{_,rfl,.inl (142 e4),_,rfl,N,_,_,_,rfl,rfl,n4,nJ c r',_,_,rfl,rfl,D,[],_,rfl,rfl,e4,by rw[sizeLine_eq];decide,q _ _ {fun b o h=>?_,?_,?_}};rw[ay (bF h fD)];exact gM _ _ h;rw[ay CF];exact n4;have fe:-sw<c:=of_decide_eq_true hb;rw[aM,if_pos fe];rfl;refine{gM,n4,?_};have fe:¬-sw<c:=of_decide_eq_false hb;rw[if_neg fe];exact e4
def rise(l:33):List Int:=l.foldr l9 []
theorem IM(n z:Int):∀l:List Int,z∈l9 n l↔z=n\/z∈l
 |[]=>by simp[l9]
 |m::r=>by unfold l9;split;simp;split;rename_i h1 h2;subst h2;simp;simp only[bE,IM n z r];ext:67;rintro(h|h|h);exact 546 834;exact 834;exact 546 (.inr h);rintro(h|h|h);exact 546 834;exact 834;exact 546 (.inr h)
theorem SH(n:Int):∀l:List Int,l.Pairwise (·<·)->(l9 n l).Pairwise (·<·)
 |[],_=>by simp[l9]
 |m::r,h=>by obtain⟨h1,h2⟩:=xK.mp h;unfold l9;split;rename_i hn;refine xK.mpr {fun z hz=>?_,h};rcases bE.mp hz with e|hz;omega;have:=h1 z hz;omega;ext:183;refine xK.mpr {fun z hz=>?_,SH n r h2};rcases(IM n z r).mp hz with e|hz;omega;exact h1 z hz
theorem Ae(z:Int):∀l:List Int,z∈rise l↔z∈l
 |[]=>by simp[rise]
 |m::r=>by show z∈l9 m (rise r)↔_;rw[IM,Ae z r,bE]
theorem yQ:∀l:List Int,(rise l).Pairwise (·<·)
 |[]=>.nil
 |m::r=>SH m _ (yQ r)
theorem C5:∀{a b:List Int},a.Pairwise (·<·)->b.Pairwise (·<·)->(∀z,z∈a↔z∈b)->a=b
 |[],[],_,_,_=>rfl
 |[],y::b,_,_,h=>by have:=(h y).mpr (cY ..);cases this
 |x::a,[],_,_,h=>by have:=(h x).mp (cY ..);cases this
 |x::a,y::b,ha,hb,h=>by obtain⟨a1,a2⟩:=xK.mp ha;obtain⟨b1,b2⟩:=xK.mp hb;(have e:x=y:=by rcases bE.mp ((h x).mp (cY ..))with e|hx;exact e;rcases bE.mp ((h y).mpr (cY ..))with e|hy;exact e.symm;have:=b1 x hx;have:=a1 y hy;omega);subst e;refine eC (x::·) (C5 a2 b2 fun z=>?_);ext:67;intro hz;rcases bE.mp ((h z).mp (cZ _ hz))with e|B9;have:=a1 z hz;omega;exact B9;intro hz;rcases bE.mp ((h z).mpr (cZ _ hz))with e|B9;have:=b1 z hz;omega;exact B9
theorem LI(n:Int):∀l:List Int,(l9 n l).length<=l.length+1
 |[]=>by simp[l9]
 |m::r=>by unfold l9;have:=LI n r;split;simp;split;simp;ext:158
theorem Th:∀l:List Int,(rise l).length<=l.length
 |[]=>aV _
 |m::r=>by have:=LI m (rise r);have:=Th r;show(l9 m (rise r)).length<=_;ext:158
theorem Nm:∀(c:Int)(l:List Int),(uV c l).length<=2*l.length+1
 |c,[]=>by unfold uV;split<;>simp
 |c,d::r=>by have:=Nm d r;unfold uV;rw[bw,aR,aR];split;simp only[V2];omega;simp only[jl];omega
theorem agy(l:33):(sy l).length<=2*l.length+1:=by unfold sy;cases l with|nil=>simp|cons c r=>have:=Nm c r;ext:0;rw[bw,aR,aR];split;simp only[V2];omega;simp only[jl];omega
def lcs(cs:147)(n:Nat):Nat:=((bu n).map fun(x:Nat)=>(sy (rise (508 x))).length).foldl (·*·) 1
theorem CD(cs:147)(n:Nat):lcs cs (n+1)=lcs cs n*(sy (rise (508 n))).length:=by unfold lcs;rw[xN,bH,m4];rfl
theorem numsOf_len(cs:147)(r:Int):(508 r).length<=cs.length:=by unfold numsOf;rw[az];exact E3 _ _
theorem aek{cs:147}(h:cs.length<64)(r:Int):(sy (rise (508 r))).length<=128:=by have h1:=agy (rise (508 r));have h2:=Th (508 r);have h3:=numsOf_len cs r;omega
def ae8:Sp:=fun vs H Q _=>∃(l:Addr)(ps:List V)(cs:List 33),vs=[.ref l]/\H l=some 810/\gB H ps cs/\(∀c∈cs,c.length=3)/\cs.length<64/\∀H',ah H H'->Q (.int (lcs cs 8:Nat)) H'
theorem Eb:bf ["comparisons","product","reading"] ["comparisons"] (a_ Vq):=17
theorem UT(T:65):aE P w K mg base bj 2 T.yU.a T.yU.fd ["comparisons"] ae8:=by
 refine T.yU.F.ok Eb 28 19;obtain⟨l,ps,cs,rfl,_⟩:=h;rfl;obtain⟨l,ps,cs,rfl,hl,tp,h3,sz,k⟩:=h;refine(421 (aj (184 Eb.nd ap) (aj (419 (z6 rfl T.yo (38 (cF T.JO))) (264 Eb.nd) (au (184 Eb.nd (bQ agC 179 (68 1006))))) 892)));refine{8,rfl,by decide,by decide,?_};refine GQ (n:=8) (fun i σ H2=>ah H H2/\∃x,σ=[some 283,some (.int (lcs cs i:Nat)),x]) ⟨ah.refl,none,rfl⟩ (fun i σ H2 hi p=>?_) 366;obtain⟨S2,x,rfl⟩:=p;refine{_,rfl,_,rfl,_,rfl,(i:Int),l,ps,cs,by simp,S2 _ _ hl,tp.same S2,h3,sz,fun H3 D ys S3 fD lt mem e3=>?_};have ey:ys=rise (508 i):=C5 lt (yQ _) fun z=>by rw[mem,Ae]
 subst ey;refine{D,_,rfl,.inl (549 e3),?_};have hs:=aek sz (i:Int);have e:(((List.map V.int (sy (rise (508 i)))).length:Nat):Int)=((sy (rise (508 i))).length:Int):=by rw[az]
 refine{_,_,rfl,rfl,.inr {by rw[e];omega,by rw[e];omega},fun b o q=>S3 _ _ (547 q),some (V.int (0+(i:Int))),?_};rw[CD,e,Int.natCast_mul];rfl;obtain⟨S2,x,rfl⟩:=p;exact{_,rfl,k H2 S2}
theorem boot_tuple:gS "tuple"=some 517:=by decide+kernel
def rM(H:Hp)(v:V)(cs:71):Prop:=∃p,v=.ref p/\H p=some 780
def fC(H:Hp)(l:Addr)(aZ:611):Prop:=∃vs,H l=some (.tup vs)/\Paired (rM H) vs aZ
theorem rM.same{H H':Hp}{v:V}{cs:71}(x:rM H v cs)(S:416):rM H' v cs:=by obtain⟨p,e,h⟩:=x;exact{p,e,S _ _ h}
theorem fC.same{H H':Hp}{l:Addr}{aZ:611}(x:fC H l aZ)(S:416):fC H' l aZ:=by obtain⟨vs,e,p⟩:=x;exact 796
theorem x_{α β γ:Type}{R:300}{R2:α->γ->Prop}{R3:γ->β->Prop}(h:∀x b y,R x b->R2 x y->R3 y b):∀{xs:List α}{bs:List β}{ys:List γ},Paired R xs bs->Paired R2 xs ys->Paired R3 ys bs
 |_,_,_,.nil,.nil=>.nil
 |_,_,_,.cons a r,.cons b t=>.cons (h _ _ _ a b) (x_ h r t)
theorem ul{α β γ:Type}{R:α->γ->Prop}{f:β->γ}:∀{xs:List α}{bs:List β},Paired (fun x b=>R x (f b)) xs bs->Paired R xs (bs.map f)
 |_,_,.nil=>.nil
 |_,_,.cons a r=>.cons a (ul r)
theorem IsNode.uniq{C:Addr}{H:Hp}{v:V}{a b:Nd}(x:IsNode C H v a)(y:IsNode C H v b):a.op.width=b.op.width:=by obtain⟨p,dx,pn,pp,rfl,N⟩:=x;obtain⟨p',zf,iD,pp',e',N'⟩:=y;ext:154;simp only[uo,A0,ss,V.int.injEq]at z;omega
def rF(ac:277):List 71:=ac.map fun nd=>cS nd.op.width 0
def adG(C:Addr):Sp:=fun vs H Q _=>∃(ac:List Nd)(l:Addr),vs=[.ref l]/\dU C H l ac/\ac.length<=1000/\(∀nd∈ac,nd.op.width<=1000)/\∀H' D,ah H H'->H D=none->fC H' D (rF ac)->Q 118 H'
theorem F9:bf ["nodes","node"] ["nodes"] (a_ Sn):=17
theorem DJ(T:65):aE P w K mg base bj 1 T.uh.a T.uh.fd ["nodes"] (adG T.aJ):=by
 refine T.uh.F.ok F9 28 19;ext:129;obtain⟨ac,l,rfl,⟨ws,hl,hn⟩,sz,wd,k⟩:=h;refine(421 (au (aF (qW P6 rfl T.M4 boot_tuple (38 (j6 rfl F9.nd (io 56) (own:=[("node",1)]) 20 (46 (cE (i:=1) F9.nd rfl 18)) 645 (46 (bQ Ov (dB 884) (aX T.cq T.Fm 179)))))))));refine 501;have bK:ws.length<=sizeLine:=by rw[bY hn];exact CY sz
 refine O1 (xs:=ws) (fun H' x y=>∃(nd:Nd)(p:Addr),IsNode T.aJ H x nd/\y=.ref p/\p≠D/\H' p=some (.tup ((cS nd.op.width 0).map nV))) hD (fun H1 H2 x y S ⟨nd,p,h1,h2,h3,h4⟩=>{nd,p,h1,h2,h3,S _ _ h3 h4}) 886 bK (fun x H2 Q' hx S ⟨acc,om⟩ q=>?_) 940;obtain⟨nd,hm,a,dx,pn,pp,rfl,N⟩:=nM hn hx;have hw:=wd nd hm;refine{by show 1<=sizeLine;decide,fun p1 H3 S3 e3=>{_,rfl,a,dx,_,_,rfl,S3 _ _ (S _ _ N.at_),rfl,p1,_,_,rfl,rfl,e3,by omega,by omega,fun p H4 S4 e4=>q 310 H4 (116 S4 (632 h)) {nd,p,⟨a,dx,pn,pp,rfl,N⟩,rfl,?_,?_}}};intro z;have h:=S4 _ _ (632 om);rw[<-z,e4]at h;ext:91;rw[e4,pY,Wb];rfl;refine{D,ys,rfl,.inl {aq.of e,fun q fq=>?_}};have Sq:ah H' (upd H' q (.tup ys)):=fun b o h=>by rw[ay (bF h fq)];exact h
 refine k _ q (116 Sq (S _ _ h)) (fM S fq) {ys,aM,?_};have h:=x_ (R3:=fun y nd=>rM H' y (cS nd.op.width 0)) (fun x nd y h1 ⟨qH,p,h2,e1,_,h4⟩=>{p,e1,by rw[h4,h1.uniq h2]}) hn p;exact bR (fun _ _ z=>z.same Sq) (ul h)
theorem Z_{X:Cx}:IR X .Add (fun x y H Q=>∃i j,x=.str i/\y=.str j/\i.length+j.length<=sizeLine/\Q (.str (i++j)) H):=aff
section
variable{x:Str}{te:TE}{j:Nat}{σ:L2.St}{H1:Hp}{D:Addr}{Qd:Hp->Prop}
abbrev jf(c:Nat):V:=.str {#[c]}
theorem Pb(Rel:455)(hD:524)(mono:∀H H' x y,jB D H H'->Rel H x y->Rel H' x y)(hz:x.cps.toList.length<=sizeLine)(hs:∀c H2(Q:VK),c∈x.cps.toList->ah H1 H2->(∃acc,H2 D=some 484)->(∀y H3,ah H2 H3->Rel H3 (jf c) y->Q y H3)->te ((wipe σ [j]).set j (some (jf c))) H2 Q)(hq:∀H' ys,ah H1 H'->H' D=some 459->Paired (Rel H') (779 jf) ys->Qd H'):∃W:Nat->Nat->Hp->Prop,(∃m,W 0 m 595)/\∀i m H,W i m H->((Its x).stop i H/\Qd H)\/((Its x).go i H/\∃Nx:Hp->Prop,(∀H',Nx H'->∃m',m'<m/\W (i+1) m' H')/\∀v H',(Its x).gG i H v H'->iQ j v 747 H' fun bq H2=>wipe bq [j]=wipe σ [j]/\jo bq H2 fun b H3=>if b=true then te bq H3 fun y H4=>∃acc,H4 D=some 484/\acc.length<sizeLine/\Nx 119 else Nx H3):=by
 refine{fun i m H=>m=x.cps.toList.length-i/\i<=x.cps.toList.length/\Built H1 D Rel ((779 jf).take i) H,{x.cps.toList.length-0,rfl,bA _,Built.start hD},?_};ext:157;by_cases aY:i<x.cps.toList.length;refine 546 {(show i<x.cps.size by simpa using aY),fun H'=>Built H1 D Rel ((779 jf).take (i+1)) H',fun H' p=>{_,by omega,rfl,aY,p},fun v H' y=>?_};obtain⟨rfl,c,hc,rfl⟩:=y;have iS:x.cps.toList[i]?=some c:=by simpa using hc
 have hm:(779 jf)[i]?=some (jf c):=by rw[d_,iS];rfl
 ext:30;refine hs c H' _ (ej iS) B.same {_,B.ex.choose_spec.1} fun y H3 S r=>?_;have t:=B.turn hD mono S r (by rw[bU,az];omega);rw[<-gx hm]at t;exact t;have e:i=x.cps.toList.length:=by omega
 subst e;refine .inl {by show x.cps.size<=_;simp,?_};ext:44;rw[show x.cps.toList.length=(779 jf).length by simp,gW]at p;exact 573
end
section
open Vbavaf (tokens blank single Bytes)
theorem boot_dict:gS "dict"=some (.type "dict"):=by decide+kernel
theorem boot_ord:gS "ord"=some (.builtin "ord"):=by decide+kernel
def fS:List Nat:=[097,098,099,100,0101,0102,0103,0104,0105,0106,0107,0108,0109,0110,0111,0112,0113,0114,0115,0116,0117,0118,0119,120,0121,0122,48,49,50,51,52,53,54,55,056,57,60,61,62,033,45,40,41,91,93,44,32,10]
theorem Ve:(("abcdefghijklmnopqrstuvwxyz0123456789<=>!-()[], \n":String):Str).cps.toList=fS:=by decide+kernel
def sg(b:Nat):Nat:=if b∈fS then b else 63
def wd(w:Bytes):Str:={(w.map sg).toArray}
theorem aa4(b:Nat):sg b<128:=by
 unfold sg;split;rename_i h;have:∀c∈fS,c<128:=by decide
 exact this b h;decide
theorem zT(w:Bytes):(wd w).length=w.length:=by simp[wd,uU]
theorem aeQ(b:Nat):decide (sg b∈((" \n":String):Str).cps.toList)=blank b:=by
 have e:((" \n":String):Str).cps.toList=[32,10]:=by decide+kernel
 rw[e];unfold sg blank;by_cases h:b∈fS;rw[if_pos h];by_cases h1:b=32<;>by_cases h2:b=10<;>simp[h1,h2];rw[if_neg h];have h1:b≠32:=fun z=>h (by rw[z];decide);have h2:b≠10:=fun z=>h (by rw[z];decide);simp[h1,h2]
theorem OR(b:Nat):decide (sg b∈(("()[],":String):Str).cps.toList)=sA b:=by
 have e:(("()[],":String):Str).cps.toList=[40,41,91,93,44]:=by decide+kernel
 rw[e];unfold sg sA;by_cases h:b∈fS;rw[if_pos h,h_,bg,ajL];rw[if_neg h];have k:b∉[40,41,91,93,44]:=fun z=>h (by(have:∀c∈[40,41,91,93,44],c∈fS:=by decide);exact this b z);rw[h_,bg,ajL];exact{fun z=>absurd z 29,fun z=>absurd z k}
theorem N8(g:Nat->V):∀(cs:List Nat)(acc:List 489)(b:Nat),da (k9 acc 957) (.inl (b:Int))=if b∈cs then some (g b)else da acc (.inl (b:Int))
 |[],acc,b=>by simp[k9]
 |c::cs,acc,b=>by show da (k9 (putK acc (.inl (c:Int)) (g c)) 957) _=_;rw[N8 g cs,ZK];by_cases h:b∈cs;rw[if_pos h,if_pos (cZ _ h)];rw[if_neg h];by_cases hb:b=c;subst hb;rw[if_pos rfl,if_pos cY];rw[if_neg (393 hb (by have:=Sum.inl.inj z;omega)),if_neg (fun z=>by rcases bE.mp z with y|y;exact hb y;exact h y)]
theorem aaR{b:Nat}(h:blank b=true):sA b=false:=by unfold blank at h;rw[sB,lX,lX]at h;rcases h with z|z<;>rw[z]<;>decide
theorem MI{w:Bytes}:(!decide (V.str (wd w.reverse)=V.str ("":String)))=!w.isEmpty:=by cases w with|nil=>decide|cons b t=>rw[List.isEmpty_cons,Bool.not_false,sv,m5];intro z;injection z with z;(have h:(wd (b::t).reverse).length=(("":String):Str).length:=by rw[z]);rw[zT,ie,aR]at h;(have h0:(("":String):Str).length=0:=by decide);omega
theorem orB{p q:Bool}{B E Z:Prop}(hz:(if q=true then B else E)->Z)(h1:(p||q)=true->B)(h2:¬(p||q)=true->E):if p=true then(if true=true then B else E)else Z:=by cases p with|true=>exact h1 rfl|false=>refine hz ?_;cases q with|true=>exact h1 rfl|false=>exact h2 29
theorem Ym(w:Bytes)(b:Nat):wd w.reverse++({#[sg b]}:Str)=wd (b::w).reverse:=by show({(wd w.reverse).cps++#[sg b]}:Str)=_;unfold wd;simp
theorem Jm(w:Bytes):tokens [] w=if w.isEmpty=true then[]else[w.reverse]:=by rw[tokens]
theorem GX(b:Nat)(r w:Bytes):tokens (b::r) w=if blank b=true then 876++tokens r []else if sA b=true then 876++[b]::tokens r []else tokens r (b::w):=by rw[tokens]
theorem Ji{α β γ:Type}{R:α->γ->Prop}{f:β->α}:∀{bs:List β}{ys:List γ},Paired R (bs.map f) ys->Paired (fun b y=>R (f b) y) bs ys
 |[],_,.nil=>.nil
 |_::_,_,.cons h t=>.cons h (Ji t)
theorem Nn{R:Addr->Nat->Prop}:∀{cs:List Nat}{ys:List V},Paired (fun c y=>∃p,y=.ref p/\R p c) cs ys->∃ps:List Addr,ys=ps.map V.ref/\Paired (fun p c=>R p c) ps cs
 |_,_,.nil=>{[],rfl,.nil}
 |_,_,.cons ⟨p,e,h⟩ t=>by obtain⟨ps,e2,q⟩:=Nn t;exact{p::ps,by rw[e,e2];rfl,.cons h q}
def aaQ:Sp:=fun vs H Q _=>∃(l:Addr)(bs:List Nat),vs=[.ref l]/\H l=some (80 (bs.map fun(b:Nat)=>V.int (b:Int)))/\bs.length<=1000/\∀H' D,ah H H'->H D=none->H' D=some 800->Q 118 H'
theorem nS:bf ["text","signs","sign","words","run","byte"] ["text"] (a_ QI):=17
theorem ack(T:65):aE P w K mg base bj 1 T.BJ.a T.BJ.fd ["text"] aaQ:=by
 refine T.BJ.F.ok nS 28 19;obtain⟨l,bs,rfl,_⟩:=h;rfl;obtain⟨l,bs,rfl,hl,sz,k⟩:=h
 refine(421 (aj (184 nS.nd (qW (aiw rfl) rfl T.YY boot_dict (38 (j6 rfl nS.nd (U8 (o6 T.abn)) (own:=[("sign",2)]) 20 (46 (264 nS.nd)) 645 (46 (dB (aa (cw Ms rfl T.RW boot_ord 336) 336))))))) (aj (92 nS.nd 505) (aj (170 nS.nd cu) (aj (419 (io 56) (299 nS.nd) (aj (90 nS.nd (afc (acC hr) 179 663 (o6 T.YR) ⟨rfl,rfl,rfl,rfl⟩)) (au (bB (PW.pt (lD (bh JA 88 (o6 T.ae9) 77) (mU (bh JA 88 (o6 T.RR) 77)))) (aj 647 (aj (170 nS.nd cu) (au (554 (bh JA 88 (o6 T.RR) 77) (au (cr (122 174 336))))))) (au (Uh (i:=4) nS.nd rfl 18 88 Z_)))))) (1043 647))))))
 refine{_,rfl,fun D1 f1=>?_};refine Pb (fun H' x y=>∃(c:Nat)(p:Addr),x=jf c/\y=.ref p/\p≠D1/\H' p=some (.tup [.int (c:Int),jf c])) f1 (fun H1 H2 x y S ⟨c,p,h1,h2,h3,h4⟩=>{c,p,h1,h2,h3,S _ _ h3 h4}) (by rw[Ve];decide) (fun c H2 Q' hx S ⟨acc,om⟩ q=>?_) (fun H1 ys S1 e1 p1=>?_);refine{_,rfl,_,rfl,rfl,_,rfl,by show 2<=sizeLine;decide,fun p H3 S3 e3=>q _ H3 S3 {c,p,rfl,rfl,fun z=>?_,e3}};have h:=S3 _ _ om;rw[<-z,e3]at h;ext:91;rw[Ve]at p1;obtain⟨ps,ey,pp⟩:=Nn (R:=fun p c=>H1 p=some (.tup [.int (c:Int),jf c])) (cs:=fS) (ys:=ys) (by have:=Ji p1;refine bR (fun c y ⟨c',p,h1,h2,_,h4⟩=>{p,h2,?_}) this;(have:c=c':=by injection h1 with h1;injection h1 with h1;simpa using h1);rw[this];exact h4);subst ey;refine{D1,ps,fS.map fun(c:Nat)=>(.inl (c:Int),jf c),rfl,aq.of e1,?_,fun D2 f2=>?_};exact ul (bR (fun p c h=>bC.of h) pp);have vM:∀b:Nat,(da (k9 [] (fS.map fun(c:Nat)=>(kQ (c:Int),jf c))) (.inl (b:Int))).getD (.str ("?":String))=jf (sg b):=fun b=>by rw[N8];unfold sg;split;rfl;rw[ad6];exact eC V.str 47
 generalize hM:k9 [] (fS.map fun(c:Nat)=>(kQ (c:Int),jf c))=M at vM;have S2:ah H (upd H1 D2 (.dK M)):=fun b o h=>by rw[ay (bF 415 f2)];exact 415
 have e2:upd H1 D2 (.dK M) D2=some (.dK M):=aM;ext:51;generalize upd H1 D2 (.dK M)=H2 at S2 e2;refine{bA _,fun D H3 S3 f3 e3=>?_};rw[14,(547 h)];have fD:H D=none:=fM S2 f3;have nD:D2≠D:=fun z=>by rw[<-z,e2]at f3;cases f3
 have app:∀{H4:Hp}{zs:List V}{o:HO},ah H H4->H4 D2=some (.dK M)->ah H (upd H4 D o)/\upd H4 D o D2=some (.dK M):=fun S4 e4=>{fun b o h=>by rw[ay (bF h fD)];exact S4 _ _ h,by rw[ay nD];exact e4};refine{_,rfl,l,rfl,{_,aq.of (751 hl)},?_};refine pE (K:=_) (a:=l) (xs:=bs.map fun(b:Nat)=>V.int (b:Int)) (fun i σ H4=>ah H H4/\H4 D2=some (.dK M)/\∃done w a b,H4 D=some (80 (done.map fun t=>V.str (wd t)))/\done++tokens (bs.drop i) w=tokens bs []/\done.length<=2*i/\w.length<=i/\σ=[some 283,some (.ref D2),a,some 118,some (.str (wd w.reverse)),b]) {b5,S3 _ _ e2,[],[],none,none,e3,rfl,bA _,bA _,rfl} (fun i σ H4 _ p=>aq.of (p.1 _ _ hl)) (fun i x σ H4 q_ p=>?_) (fun σ H4 p=>?_);obtain⟨S4,d4,done,w',a0,b0,e4,ht,hd,hw,rfl⟩:=p;rw[d_]at q_;obtain⟨b,hb,rfl⟩:=lZ.mp q_;have i4:i<bs.length:=(930 hb).1;have ed:bs.drop i=b::bs.drop (i+1):=by have fe:bs[i]=b:=(930 hb).2;rw[<-fe,List.getElem_cons_drop]
 rw[ed,GX]at ht;refine{_,rfl,D2,rfl,.inl {M,.inl d4},_,rfl,_,.inl {M,.inl (b:Int),.inl d4,rfl,rfl},?_};rw[vM];refine 628;rw[aeQ];refine orB (p:=blank b) (q:=sA b) (fun h=>?_) (fun vH=>?_) (fun vH=>?_);refine 628;rw[OR];exact h;skip;refine 195;rw[MI];refine branch (fun H5=>ah H H5/\H5 D2=some (.dK M)/\H5 D=some (80 ((done++if w'.isEmpty=true then[]else[w'.reverse]).map fun t=>V.str (wd t)))) (fun H5 ⟨S5,d5,e5⟩=>?_) 314 (fun hb=>{S4,d4,?_});have Xj:(if w'.isEmpty=true then[]else[w'.reverse]:List Bytes).length<=1:=by split<;>simp
 generalize rb:(if w'.isEmpty=true then[]else[w'.reverse]:List Bytes)=before at ht e5 Xj;refine 628;rw[OR];refine branch (fun H6=>ah H H6/\H6 D2=some (.dK M)/\H6 D=some (80 ((done++before++if sA b=true then[[b]]else[]).map fun t=>V.str (wd t)))) (fun H6 ⟨S6,d6,e6⟩=>?_) 314 (fun hb=>{S5,d5,?_});refine{S6,d6,_,[],_,_,e6,?_,?_,bA _,rfl};rw[<-ht];by_cases BQ:blank b=true;rw[if_pos BQ,aaR BQ,if_neg 29,fN,gp];have M1:sA b=true:=by rw[sB]at vH;rcases vH with z|z;exact 89 z BQ;exact z
 rw[if_neg BQ,if_pos M1,if_pos M1,gp,gp];rfl;rw[bw,bw];have:(if sA b=true then[[b]]else[]:List Bytes).length<=1:=by split<;>simp
 omega;refine{_,rfl,.inl (142 e5),_,rfl,D,_,_,rfl,rfl,e5,by rw[az,bw,sizeLine_eq];omega,q _ _ {(app (zs:=[]) S5 d5).1,(app (zs:=[]) S5 d5).2,?_}};rw[aM,if_pos hb,bH (l₂:=[[b]])];rfl;rw[if_neg 1052,fN];exact e5;refine(537 {(app (zs:=[]) S4 d4).1,(app (zs:=[]) S4 d4).2,?_});rw[sv]at hb;rw[aM,if_neg 1052,bH];rfl;rw[ajM]at hb;rw[if_pos hb,fN];exact e4;skip;rw[sB,not_or]at vH;rw[if_neg vH.1,if_neg vH.2]at ht;refine{_,rfl,_,rfl,_,_,rfl,rfl,?_,?_};rw[zT,ie,sizeLine_eq];show _+1<=_;omega;rw[Ym];exact{S4,d4,done,b::w',_,_,e4,ht,by omega,by rw[aR];omega,rfl};obtain⟨S4,d4,done,w',a0,b0,e4,ht,hd,hw,rfl⟩:=p;rw[az]at ht hd hw;rw[List.drop_length,Jm]at ht;refine 195;rw[MI];refine branch (fun H5=>ah H H5/\H5 D=some 800) (fun H5 ⟨S5,e5⟩=>{_,rfl,k H5 D S5 fD e5}) 314 (fun hb=>{S4,?_})
 refine(537 {(app (zs:=[]) S4 d4).1,?_});rw[sv,]at hb;rw[aM,<-ht,if_neg 1052,bH];rfl;rw[ajM]at hb;rw[<-ht,if_pos hb,fN];exact e4
end
end PC
namespace PC
open Vbavaf (F Atom R read window compare want text place reading upTo WINDOW Bytes)
abbrev Rec:=Nat->Nat->List Atom->List Bytes->R
def i3(mode:Nat)(word:Bytes)(mk:775)(rec:Rec)(d:Nat)(l:34)(t:39):R:=
 match rec (mode+1) d l t with
 |.error e=>.error e
 |.ok (f,l1,t1)=>match t1 with
  |w::r=>if w=word then(match rec mode d l1 r with
   |.error e=>.error e
   |.ok (g,l2,t2)=>.ok (mk f g,l2,t2))else .ok (f,l1,t1)
  |[]=>.ok (f,l1,t1)
def fH(rec:Rec)(d:Nat)(l:34)(t:39)(make:F->F)(r:39):R:=
 if d=0 then .error t.length else match rec 2 (d-1) l r with
  |.error e=>.error e
  |.ok (f,l1,t1)=>.ok (make f,l1,t1)
def ml(rec:Rec)(d:Nat)(l:34)(t:39)(r:39):R:=
 if d=0 then .error t.length else match rec 0 (d-1) l r with
  |.error e=>.error e
  |.ok (f,l1,t1)=>match want [41] t1 with
   |.error e=>.error e
   |.ok t2=>.ok (f,l1,t2)
def kK(rec:Rec)(d:Nat)(l:34)(v:403)(r1:39):R:=
 match want [40] r1 with
 |.error e=>.error e
 |.ok r2=>match rec 0 (d-1) l r2 with
  |.error e=>.error e
  |.ok (f,l1,t1)=>match want [44] t1 with
   |.error e=>.error e
   |.ok t2=>match rec 0 (d-1) l1 t2 with
    |.error e=>.error e
    |.ok (g,l2,t3)=>match want [41] t3 with
     |.error e=>.error e
     |.ok t4=>.ok (.since v.1 v.2 f g,l2,t4)
def fJ(r:39):Except Nat ((Nat×Nat)×List Bytes):=match r with
 |a::b::r1=>match upTo WINDOW a with
  |none=>.error r.length
  |some k=>match upTo WINDOW b with
   |none=>.error (r.length-1)
   |some n=>if n=0\/n<k then .error (r.length-1)else .ok ((k,n),r1)
 |[a]=>(match upTo WINDOW a with
  |none=>.error 1
  |some _=>.error 0)
 |[]=>.error 0
def nh{A:Type}(x:Except Nat (A×List Bytes))(f:A->List Bytes->R):R:=match x with
 |.error e=>.error e
 |.ok (v,r1)=>f v r1
def dq(rec:Rec)(d:Nat)(l:34)(t:39):R:=match t with
 |[]=>.error 0
 |w::r=>
  if w=text "true"then .ok (.const true,l,r)
  else if w=text "false"then .ok (.const false,l,r)
  else if w=text "not"then fH rec d l t .not r
  else if w=text "prev"then fH rec d l t .prev r
  else if w=text "rose"then fH rec d l t .rose r
  else if w=text "once"then nh (window r) fun v r1=>fH rec d l t (.once v.1 v.2) r1
  else if w=text "always"then nh (window r) fun v r1=>fH rec d l t (.always v.1 v.2) r1
  else if w=text "count"then nh (fJ r) fun v r1=>fH rec d l t (948 v.1 v.2) r1
  else if w=text "since"then nh (window r) fun v r1=>if d=0 then .error t.length else kK rec d l v r1
  else if w=[40]then ml rec d l t r
  else match reading w with
   |some x=>jO l x r
   |none=>.error t.length
def sW(rec:Rec)(mode d:Nat)(l:34)(t:39):R:=
 if mode<2 then(if mode=0 then i3 0 (text "or") .or rec d l t else i3 mode (text "and") .and rec d l t)else dq rec d l t
theorem vB(k mode d:Nat)(l:34)(t:39):read (k+1) mode d l t=sW (read k) mode d l t:=by
 unfold Vbavaf.read;unfold sW;by_cases hm:mode<2;rw[if_pos hm,if_pos hm];by_cases h0:mode=0;subst h0;rfl;rw[if_neg h0];simp only[if_neg h0];rfl;rw[if_neg hm,if_neg hm]
 cases t with|nil=>rfl|cons w r=>unfold dq;ext:0;by_cases h1:w=text "true";rw[if_pos h1,if_pos h1];rw[if_neg h1,if_neg h1];by_cases h2:w=text "false";rw[if_pos h2,if_pos h2];rw[if_neg h2,if_neg h2];by_cases h3:w=text "not";rw[if_pos h3,if_pos h3];rfl;rw[if_neg h3,if_neg h3];by_cases h4:w=text "prev";rw[if_pos h4,if_pos h4];rfl;rw[if_neg h4,if_neg h4];by_cases h5:w=text "rose";rw[if_pos h5,if_pos h5];rfl;rw[if_neg h5,if_neg h5];by_cases h6:w=text "once";rw[if_pos h6,if_pos h6];cases window r<;>rfl;rw[if_neg h6,if_neg h6];by_cases h7:w=text "always";rw[if_pos h7,if_pos h7];cases window r<;>rfl;rw[if_neg h7,if_neg h7];by_cases h8:w=text "count";rw[if_pos h8,if_pos h8];unfold fJ;rcases r with _|⟨a,_|⟨b,r1⟩⟩;rfl;ext:0;cases upTo WINDOW a<;>rfl;ext:0;(cases upTo WINDOW a with|none=>rfl|some k'=>dsimp only;cases upTo WINDOW b with|none=>rfl|some n=>dsimp only;by_cases h:n=0\/n<k';rw[if_pos h,if_pos h];rfl;rw[if_neg h,if_neg h];rfl);rw[if_neg h8,if_neg h8];by_cases h9:w=text "since";rw[if_pos h9,if_pos h9];cases window r<;>rfl;rw[if_neg h9,if_neg h9];by_cases rk:w=[40];rw[if_pos rk,if_pos rk];rfl;rw[if_neg rk,if_neg rk];cases reading w<;>rfl
end PC
namespace PC
open Vbavaf (F Atom R read window compare want text place reading upTo WINDOW Bytes signed opOf)
theorem nU{w:Bytes}{t r:39}(h:want w t=.ok r):t=w::r:=by unfold want at h;cases t with|nil=>exact 245|cons v q=>dsimp only at h;by_cases e:v=w;rw[if_pos e]at h;injection h with h;rw[e,h];rw[if_neg e]at h;exact 245
theorem nQ{t r:39}{v:403}(h:window t=.ok (v,r)):r.length<=t.length:=by
 unfold window at h;repeat' split at h
 all_goals(cases h<;>first|(ext:158)|exact aV _)
theorem DN{t r:39}{v:Nat×Nat}(h:fJ t=.ok (v,r)):r.length<=t.length:=by
 unfold fJ at h;repeat' split at h
 all_goals(cases h<;>first|(ext:158)|exact aV _)
theorem aaz{l l1:34}{x:Nat}{t r:39}{f:F}(h:jO l x t=.ok (f,l1,r)):r.length<t.length:=by
 unfold jO at h;repeat' split at h
 all_goals(cases h<;>(ext:158))
def Good(rec:Rec):Prop:=∀m d l t f l1 t1,rec m d l t=.ok (f,l1,t1)->t1.length<t.length
theorem Mh{rec:Rec}(g:Good rec){m:Nat}{w:Bytes}{mk:775}{d:Nat}{l:34}{t:39}{f:F}{l1:34}{t1:39}(h:1022):t1.length<t.length:=by unfold i3 at h;cases e:rec (m+1) d l t with|error q=>rw[e]at h;exact 245|ok x=>obtain⟨f1,l2,t2⟩:=x;rw[e]at h;ext:73;ext:22;cases t2 with|nil=>(ext:3;exact hl)|cons w' r=>dsimp only at h;by_cases hw:w'=w;rw[if_pos hw]at h;(cases e2:rec m d l2 r with|error q=>rw[e2]at h;exact 245|ok y=>obtain⟨f2,l3,t3⟩:=y;rw[e2]at h;have iH:=g _ _ _ _ _ _ _ e2;ext:3;rw[aR]at hl;omega);rw[if_neg hw]at h;ext:3;exact hl
theorem v9{rec:Rec}(g:Good rec){d:Nat}{l:34}{t r:39}{mk:F->F}{f:F}{l1:34}{t1:39}(h:1055):t1.length<r.length:=by unfold fH at h;ext:23;exact 245;cases e:rec 2 (d-1) l r with|error q=>rw[e]at h;exact 245|ok x=>obtain⟨f1,l2,t2⟩:=x;rw[e]at h;ext:73;ext:3;exact hl
theorem ahK{rec:Rec}(g:Good rec){d:Nat}{l:34}{t r:39}{f:F}{l1:34}{t1:39}(h:ml rec d l t r=.ok (f,l1,t1)):t1.length<r.length:=by unfold ml at h;ext:23;exact 245;cases e:rec 0 (d-1) l r with|error q=>rw[e]at h;exact 245|ok x=>obtain⟨f1,l2,t2⟩:=x;rw[e]at h;ext:73;ext:22;cases e2:want [41] t2 with|error q=>rw[e2]at h;exact 245|ok y=>rw[e2]at h;have:=nU e2;ext:84;ext:3;rw[aR]at hl;omega
theorem ahd{rec:Rec}(g:Good rec){d:Nat}{l:34}{v:403}{r:39}{f:F}{l1:34}{t1:39}(h:kK rec d l v r=.ok (f,l1,t1)):t1.length<r.length:=by unfold kK at h;cases e0:want [40] r with|error q=>rw[e0]at h;exact 245|ok r2=>rw[e0]at h;have:=nU e0;ext:84;ext:22;cases e:rec 0 (d-1) l r2 with|error q=>rw[e]at h;exact 245|ok x=>obtain⟨f1,l2,t2⟩:=x;rw[e]at h;ext:73;ext:22;cases e1:want [44] t2 with|error q=>rw[e1]at h;exact 245|ok y=>rw[e1]at h;have:=nU e1;ext:84;ext:22;cases e2:rec 0 (d-1) l2 y with|error q=>rw[e2]at h;exact 245|ok z=>obtain⟨f2,l3,t3⟩:=z;rw[e2]at h;have iH:=g _ _ _ _ _ _ _ e2;ext:22;cases e3:want [41] t3 with|error q=>rw[e3]at h;exact 245|ok y2=>rw[e3]at h;have:=nU e3;ext:84;ext:3;simp only[aR]at*;omega
theorem aag{rec:Rec}(g:Good rec){d:Nat}{l:34}{t:39}{f:F}{l1:34}{t1:39}(h:dq rec d l t=.ok (f,l1,t1)):t1.length<t.length:=by
 unfold dq at h
 cases t with|nil=>exact 245|cons w r=>dsimp only at h;(have fin:∀{b:Bool},(xH (F.const b,l,r):R)=.ok (f,l1,t1)->t1.length<(w::r).length:=by intro b h;ext:3;exact rW _);have nx:∀{n:Nat},n<r.length->n<(w::r).length:=fun q=>r9 q;ext:166;ext:166;ext:163;(ext:23;·exact nx (v9 g h));ext:45;(cases e:window r with|error q=>rw[e]at h;exact 245|ok x=>obtain⟨v,r1⟩:=x;rw[e]at h;exact nx (dY (v9 g h) (nQ e)));ext:23;(cases e:fJ r with|error q=>rw[e]at h;exact 245|ok x=>obtain⟨v,r1⟩:=x;rw[e]at h;exact nx (dY (v9 g h) (DN e)));ext:23;(cases e:window r with|error q=>rw[e]at h;exact 245|ok x=>obtain⟨v,r1⟩:=x;rw[e]at h;change(if d=0 then _ else _)=_ at h;ext:23;exact 245;exact nx (dY (ahd g h) (nQ e)));(ext:23;·exact nx (ahK g h));cases e:reading w with|none=>rw[e]at h;exact 245|some x=>rw[e]at h;exact nx (aaz h)
theorem pN:∀k,Good (read k)
 |0=>fun m d l t f l1 t1 h=>nomatch h
 |k+1=>fun m d l t f l1 t1 h=>by rw[vB]at h;unfold sW at h;ext:23;ext:23;exact Mh (pN k) h;exact Mh (pN k) h;exact aag (pN k) h
theorem DI{rec o8:Rec}(g:Good rec){m:Nat}{w:Bytes}{mk:775}{d:Nat}{l:34}{t:39}(h1:rec (m+1) d l t=o8 (m+1) d l t)(h:∀l' t',t'.length<t.length->rec m d l' t'=o8 m d l' t'):i3 m w mk rec d l t=i3 m w mk o8 d l t:=by unfold i3;rw[<-h1];cases e:rec (m+1) d l t with|error q=>rfl|ok x=>obtain⟨f1,l2,t2⟩:=x;ext:73;ext:0;cases t2 with|nil=>rfl|cons w' r=>dsimp only;rw[h l2 r (by rw[aR]at hl;omega)]
theorem OQ{rec o8:Rec}(g:Good rec){d:Nat}{l:34}{t:39}(h:∀m' d' l' t',m'<=2->t'.length<t.length->rec m' d' l' t'=o8 m' d' l' t'):dq rec d l t=dq o8 d l t:=by
 unfold dq
 cases t with|nil=>rfl|cons w r=>dsimp only;(have o:∀{mk:F->F}{q:List Bytes},q.length<=r.length->fH rec d l (w::r) mk q=fH o8 d l (w::r) mk q:=by intro mk q hq;unfold fH;rw[h 2 (d-1) l q 227 (Nat.lt_succ_of_le hq)]);(have pa:ml rec d l (w::r) r=ml o8 d l (w::r) r:=by unfold ml;rw[h 0 (d-1) l r 23 (rW _)]);(have pr:∀{v:Nat×Option Nat}{q:List Bytes},q.length<=r.length->kK rec d l v q=kK o8 d l v q:=by intro v q hq;unfold kK;cases e0:want [40] q with|error _=>rfl|ok r2=>have e0':=nU e0;subst e0';rw[aR]at hq;ext:0;rw[<-h 0 (d-1) l r2 23 (by rw[aR];omega)];cases e:rec 0 (d-1) l r2 with|error q=>rfl|ok x=>obtain⟨f1,l2,t2⟩:=x;ext:73;ext:0;cases e1:want [44] t2 with|error q=>rfl|ok y=>have uA:=nU e1;subst uA;rw[aR]at hl;ext:0;rw[h 0 (d-1) l2 y 23 (by rw[aR];omega)]);rw[o 227,o 227,o 227,pa];(have wb:∀{A:Type}(x:Except Nat (A×List Bytes))(f f':A->List Bytes->R),(∀v r1,x=.ok (v,r1)->f v r1=f' v r1)->nh x f=nh x f':=by intro A x f f' hf;cases x with|error _=>rfl|ok y=>exact hf _ _ rfl);rw[wb (window r) (754 (.once v.1 v.2)) _ fun v r1 e=>o (nQ e),wb (window r) (754 (.always v.1 v.2)) _ fun v r1 e=>o (nQ e),wb (fJ r) (754 (948 v.1 v.2)) _ fun v r1 e=>o (DN e),wb (window r) (fun v r1=>if d=0 then .error (w::r).length else kK rec d l v r1) _ fun v r1 e=>by rw[pr (nQ e)]]
theorem FD:∀(k k' m d:Nat)(l:List Atom)(t:List Bytes),m<=2->3*t.length+3<=k+m->3*t.length+3<=k'+m->read k m d l t=read k' m d l t
 |0,_,m,_,_,t,hm,h,_=>by omega
 |_+1,0,m,_,_,t,hm,_,h=>by omega
 |k+1,k'+1,m,d,l,t,hm,h,h'=>by rw[vB,vB];have sub:∀m' d' l' t',m'<=2->t'.length<t.length->read k m' d' l' t'=read k' m' d' l' t':=fun m' d' l' t' hm' hl=>FD k k' m' d' l' t' hm' 23 23;unfold sW;split;rename_i oS;have up:=FD k k' (m+1) d l t 23 23 23;split;rename_i h0;subst h0;exact DI (pN k) up fun l' t' hl=>sub _ _ _ _ 23 hl;exact DI (pN k) up fun l' t' hl=>sub _ _ _ _ 23 hl;exact OQ (pN k) sub
def rd(m d:Nat)(l:34)(t:39):R:=read (3*t.length+3) m d l t
theorem ui{k m d:Nat}{l:34}{t:39}(hm:m<=2)(h:3*t.length+3<=k+m):read k m d l t=rd m d l t:=FD _ _ _ _ _ _ hm h 23
theorem Lh{m:Nat}{d:Nat}{l:34}{t:39}(hm:m<2):rd m d l t=if m=0 then i3 0 (text "or") .or rd d l t else i3 m (text "and") .and rd d l t:=by unfold rd;rw[vB];unfold sW;rw[if_pos hm];have up:read (3*t.length+2) (m+1) d l t=rd (m+1) d l t:=ui 23 23;have sub:∀l' t',t'.length<t.length->read (3*t.length+2) m d l' t'=rd m d l' t':=fun l' t' hl=>ui 23 23;split;rename_i h0;subst h0;exact DI (pN _) up sub;exact DI (pN _) up sub
theorem Mn{d:Nat}{l:34}{t:39}:rd 0 d l t=i3 0 (text "or") .or rd d l t:=Lh 23
theorem Pz{d:Nat}{l:34}{t:39}:rd 1 d l t=i3 1 (text "and") .and rd d l t:=Lh 23
theorem agG{d:Nat}{l:34}{t:39}:rd 2 d l t=dq rd d l t:=by unfold rd;rw[vB];unfold sW;rw[if_neg 23];exact OQ (pN _) fun m' d' l' t' hm hl=>ui hm 23
end PC
namespace PC
open PySem PySem.Spec PyProof.Rows L2 XW
open PySem.W (Frag)
variable{P:aT}{w:aI}{K:Frag}{mg:Str->Option Value}{base:Heap}
structure Dd(P:aT)(w:aI)(K:Frag)(mg:Str->Option Value)(x:Str)(am:List (Key×V)):Type where
 a:Addr
 m:mg x=some (.ref a)
 d:KD P w K a am
def mw{K:Frag}{mg:95}(T:65):List 489:=[(.inr "x0",.int 0),(.inr "x1",.int 1),(.inr "x2",.int 2),(.inr "x3",.int 3),(.inr "x4",.int 4),(.inr "x5",.int 5),(.inr "x6",.int 6),(.inr "x7",.int 7)]
def JD{K:Frag}{mg:95}(T:65):List 489:=[(.inr "prev",.ref T.u4.a),(.inr "rose",.ref T.xo.a),(.inr "once",.ref T.wq.a),(.inr "always",.ref T.wX.a),(.inr "since",.ref T.vp.a),(.inr "count",.ref T.wJ.a)]
def I0{K:Frag}{mg:95}(T:65):List 489:=[(.inr "prev",.ref T.wv.a),(.inr "rose",.ref T.wI.a),(.inr "once",.ref T.wE.a),(.inr "always",.ref T.xa.a),(.inr "since",.ref T.ve.a),(.inr "count",.ref T.vS.a)]
def ad0{K:Frag}{mg:95}(T:65):List 489:=[(.inl 0,.ref T.qU.a),(.inl 1,.ref T.rC.a),(.inl 2,.ref T.qO.a),(.inl 3,.ref T.qS.a),(.inl 4,.ref T.rD.a),(.inl 5,.ref T.rj.a),(.inl 6,.ref T.qG.a),(.inl 7,.ref T.ql.a),(.inl 8,.ref T.qp.a),(.inl 9,.ref T.re.a),(.inl 10,.ref T.qT.a),(.inl 11,.ref T.qm.a)]
def Xb{K:Frag}{mg:95}(T:65):List 489:=[(.inl 1,.int 8),(.inl 2,.int 0),(.inl 3,.int 2),(.inl 4,.int 1),(.inl 5,.int 1),(.inl 6,.int 1),(.inl 7,.int 1),(.inl 8,.int 3),(.inl 9,.int 2),(.inl 10,.int 1),(.inl 11,.int 0)]
structure jb(P:aT)(w:aI)(K:Frag)(mg:Str->Option Value)(T:Txt K mg):Type where
 DV:Dd P w K mg "READINGS" (mw T)
 Et:Dd P w K mg "ROWS" (JD T)
 CA:Dd P w K mg "STEPS" (I0 T)
 Ph:Dd P w K mg "CALLS" (ad0 T)
 M6:Dd P w K mg "ARGUMENTS" (Xb T)
def partsOf(ts:123)(nd:Nd):List Bool:=nd.parts.map fun p=>ts.getD p false
def eX(xs:33)(ts:123)(nd:Nd)(cs:71):Bool×List Nat:=
 if nd.op.kd=true then g_ nd.op 959 cs else(plainT nd.op 959 xs,cs)
def eM(ac:277)(aZ:611)(xs:33):Nat->List Bool×List 71
 |0=>([],[])
 |i+1=>match ac[i]?,aZ[i]? with
  |some nd,some cs=>((318 i).1++[(912 xs).1],(318 i).2++[(912 xs).2])
  |_,_=>eM ac aZ xs i
theorem GY(ac:277)(aZ:611)(xs:33)(hl:990):∀i,i<=ac.length->(318 i).1.length=i/\(318 i).2.length=i
 |0,_=>669
 |i+1,h=>by obtain⟨h1,h2⟩:=GY ac aZ xs hl i 23;ext:126;rw[e1,e2];simp[h1,h2]
def CellsOk(ac:277)(aZ:611):Prop:=∀(i:Nat)(nd:Nd)(cs:List Nat),ac[i]?=some nd->aZ[i]?=some cs->cs.length=nd.op.width/\(nd.op=.prev->∀c∈cs,c<=1)/\cs.length<=1000
theorem XF{t u:TE}{j:Nat}{Dn:Ends}{σ:L2.St}{H:Hp}{b:Bool}(R:V->Hp->Prop)(rest:∀v H',R v H'->Dn.nx (σ.set j 456) H')(h1:b=true->∀Q:VK,(∀v H',R v H'->Q v H')->t σ H Q)(h2:b=false->∀Q:VK,(∀v H',R v H'->Q v H')->u σ H Q):if b=true then vR t (iQ j) Dn σ H else vR u (iQ j) Dn σ H:=by cases b with|true=>exact h1 rfl _ fun v H' r=>rest v H' r|false=>exact h2 rfl _ fun v H' r=>rest v H' r
theorem ZF(T:65):∀o:Op,(da (I0 T) (546 o.kind)).isSome=o.kd
 |.tt=>by rfl
 |.ff=>by rfl
 |.cmp _ _ _=>by rfl
 |.not=>by rfl
 |.and=>by rfl
 |.or=>by rfl
 |.prev=>by rfl
 |.rose=>by rfl
 |.once _ _=>by rfl
 |.always _ _=>by rfl
 |.since _ _=>by rfl
 |.count _ _=>by rfl
theorem aiz(T:65)(o:Op)(h:o.kd=true):∃(g:Addr)(fd:eW)(is:Op->Prop)(k:Nat),k<=3/\da (I0 T) (546 o.kind)=some (.ref g)/\aE P w K mg base bj k g fd ["node","parts","own"] (ux T.aJ is)/\is o/\oE K (.ref g)=true/\Binds K fd ["node","parts","own"] []:=by cases o with|prev=>exact(719 ZC T.wv.F.kp T.wv.b)|rose=>exact(719 aaq T.wI.F.kp T.wI.b)|once a b=>exact(167 ZX T.wE.F.kp T.wE.b)|always a b=>exact(167 adC T.xa.F.kp T.xa.b)|since a b=>exact(167 adA T.ve.F.kp T.ve.b)|count a b=>exact(167 aiT T.vS.F.kp T.vS.b)|_=>cases h
def afP(C:Addr):Sp:=fun vs H Q _=>∃(ac:List Nd)(aZ:List 71)(xs:List Int)(l lc lr:Addr),vs=[.ref l,.ref lc,.ref lr]/\dU C H l ac/\fC H lc aZ/\H lr=some (80 211)/\xs.length=8/\zb ac/\ac≠[]/\ac.length<=1000/\aZ.length=ac.length/\CellsOk ac aZ/\
 ∀H' p q,ah H H'->H' p=some (.tup [bV ((318 ac.length).1.getLast?.getD false),.ref q])->fC H' q (318 ac.length).2->Q 310 H'
theorem pG:bf ["nodes","cells","readings","truths","after","node","own","parts","part","done"] ["nodes","cells","readings"] (a_ TV):=17
theorem Gp(T:65)(Dc:213):aE P w K mg base bj 4 T.vG.a T.vG.fd ["nodes","cells","readings"] (afP T.aJ):=by
 refine T.vG.F.ok pG 28 19;obtain⟨ac,aZ,xs,l,lc,lr,rfl,_⟩:=h;rfl;obtain⟨ac,aZ,xs,l,lc,lr,rfl,⟨vs,hl,pn⟩,⟨us,hc,pc⟩,hx,h8,po,ne,sz,cl,ck,k⟩:=h
 refine(421 (aj (92 pG.nd 505) (aj (170 pG.nd 505) (aj (419 (TQ rfl T.Aq 599) (uq rfl (je (299 pG.nd) (je (cE (i:=6) pG.nd rfl 18) rH))) (aj (wQ (i:=7) rfl pG.nd rfl rfl rfl (ym (aX T.cq T.yM 663)) (own:=[("part",8)]) 20 (46 (cE (i:=8) pG.nd rfl 18)) 645 (46 (25 bD 174 (pv 8)))) (aj (bB (Ag (Ge Dc.CA.d Dc.CA.m (424 663)) 77) (au (aQ (i:=9) pG.nd rfl 18 (Hk (zx Dc.CA.d Dc.CA.m (424 663) 291) oj (aa 663 (aa (pv 7) 671))))) (au (aQ (i:=9) pG.nd rfl 18 (dB (aa (442 T.xV (Se T) (aa 663 (aa (pv 7) 336))) 671))))) (aj (cr (122 174 (38 (343 (pv 9))))) (au (cr (122 602 (38 (343 (pv 9)))))))))) (au (aF (dB (aa (605 174) (38 (qW P6 rfl T.M4 boot_tuple 284))))))))))
 ext:35;have agE:us.length=aZ.length:=bY pc;refine{bA _,fun DT H1 S1 f1 e1=>{bA _,fun DA H2 S2 f2 e2=>?_}};ext:107;have fA:H DA=none:=fM S1 f2;have L7:DT≠DA:=fun z=>by rw[z]at e1;rw[e1]at f2;cases f2
 refine{_,rfl,_,rfl,l,lc,vs,us,rfl,aq.of (dL _ _ hl),bC.of (dL _ _ hc),?_};refine Vs (K:=_) (a:=l) (b:=lc) (xs:=vs) (ys:=us) (fun i σ H3=>ah H H3/\H3 DT=some (80 ((318 i).1.map bV))/\(∃zs,H3 DA=some 733/\Paired (rM H3) zs (318 i).2)/\∃a b c d,σ=[some 283,some (.ref lc),some (.ref lr),some (.ref DT),some (.ref DA),a,b,c,none,d]) 23 {dL,S2 _ _ e1,{[],e2,.nil},none,none,none,none,rfl} (fun i σ H3 _ p=>928) (fun i x y T0 σ H3 q_ Hh p fT=>?_) (fun σ H3 p=>?_);obtain⟨S3,t3,⟨zs,a3,pz⟩,a0,b0,c0,d0,rfl⟩:=p;rw[6,q_];obtain⟨cs,nT,pq,rfl,BM⟩:=gg pc Hh;ext:72;obtain⟨t9,DR⟩:=GY ac aZ xs cl.symm i 23;have ew:eM ac aZ xs (i+1)=((318 i).1++[(912 xs).1],(318 i).2++[(912 xs).2]):=by show(match ac[i]?,aZ[i]? with|some nd,some cs=>_|_,_=>_)=_;rw[cV,nT]
 generalize Dz:(eM ac aZ xs i).1=ts at t3 ew t9;generalize haf:(eM ac aZ xs i).2=af at pz ew DR;have xp:ah H3 (upd H3 T0 542):=fun b o q=>by rw[ay (bF q fT)];exact q
 generalize hH4:upd H3 T0 (.tup [V.ref a,V.ref pq])=H4 at xp;have e4:H4 T0=some 542:=by rw[<-hH4];exact aM
 have gM:ah H H4:=fun b o q=>xp _ _ (632 q);have N4:=N0.same gM;refine(307 e4);refine{_,rfl,a,dx,_,_,rfl,N4.at_,rfl,pp,rfl,{_,bC.of N4.parts},fun D2 xW=>?_};refine zD (xs:=nd.parts.map fun(n:Nat)=>V.int (n:Int)) (fun _ x y=>∃p:Nat,x=V.int (p:Int)/\y=bV (ts.getD p false)) xW 134 (847 (S _ _ N4.parts)) ?_ (fun x H5 Q' hx S q=>?_) (fun H5 ys S5 e5 p=>?_);ext:38;exact{_,rfl,_,rfl,DT,_,_,_,rfl,rfl,S _ _ (xp _ _ t3),wP (d:=false) 23,q _ _ ah.refl ⟨p,rfl,rfl⟩};have ey:ys=(partsOf ts nd).map bV:=by rw[zn (xs:=nd.parts) (g:=fun(n:Nat)=>V.int (n:Int)) (f:=fun p=>bV (ts.getD p false)) p 498,partsOf,gq];rfl
 rw[ey]at e5;have j':ah H H5:=fun b o q=>S5 _ _ (gM _ _ q);have N5:=N0.same j';have t5:=S5 _ _ (xp _ _ t3);have a5:=S5 _ _ (xp _ _ a3);have pz5:Paired (rM H5) zs af:=bR (fun _ _ h=>h.same fun b o q=>S5 _ _ (xp _ _ q)) pz;have Q3:=j' _ _ BM;have W7:=j' _ _ hx;obtain⟨ck1,Yi,ck3⟩:=ck i nd cs cV nT;have ar:(partsOf ts nd).length=nd.op.arity:=by rw[partsOf,az];exact(730 i).1
 refine(851 N5.at_);rw[ZF];refine XF (R:=fun v H6=>ah H5 H6/\∃p q,v=.ref p/\H6 p=some 953/\H6 q=some (.tup ((eX xs ts nd cs).2.map nV))) (fun v H6 ⟨S6,p,q,ev,ep,eq⟩=>?_) 314 314;subst ev;have S06:ah H H6:=fun b o q=>S6 _ _ (j' _ _ q);have t6:=S6 _ _ t5;have a6:=S6 _ _ a5;have PD:Paired (rM H6) zs af:=bR (466 S6) pz5;have l1:(ts.map bV).length<sizeLine:=by rw[az,t9,sizeLine_eq];omega
 have l2:zs.length<sizeLine:=by rw[bY PD,DR,sizeLine_eq];omega
 have npT:p≠DT:=fun z=>by rw[z,t6]at ep;cases ep
 have up:∀{b:Addr}{o:HO},H6 b=some o->b≠DT->b≠DA->∀L M,upd (upd H6 DT L) DA M b=some o:=fun h h1 h2 L M=>by rw[ay h2,ay h1];exact h
 have Pg:∀{b:Addr}{xs:List V},H6 b=some 193->b≠DT:=fun h z=>by rw[z,t6]at h;ext:91
 have QX:∀{b:Addr}{xs:List V},H6 b=some 193->b≠DA:=fun h z=>by rw[z,a6]at h;ext:91
 refine{_,rfl,.inl (142 t6),_,rfl,p,_,_,_,rfl,rfl,ep,rfl,DT,_,_,rfl,rfl,t6,l1,?_};have a7:∀L,upd H6 DT L DA=some 733:=fun L=>by rw[ay (cJ L7)];exact a6
 have p7:∀L,upd H6 DT L p=some 953:=fun L=>by rw[ay npT];exact ep
 refine{_,rfl,.inl (142 (a7 _)),_,rfl,p,_,_,_,rfl,rfl,p7 _,rfl,DA,_,_,rfl,rfl,a7 _,l2,?_};refine{fun b o h=>up (S06 _ _ h) (bF h f1) (bF h fA) _ _,?_,{_,aM,?_},_,_,_,_,rfl};rw[ay L7,aM,ew,bH];rfl;rw[ew];exact kE (bR (fun v lN ⟨b,e,h⟩=>{b,e,up h (Pg h) (QX h) _ _}) PD) {q,rfl,up eq (Pg eq) (QX eq) _ _};rw[20,aiz];have ed:eX xs ts nd cs=g_ nd.op 959 cs:=by unfold eX;rw[if_pos hb]
 refine{_,rfl,a,dx,_,_,rfl,N5.at_,rfl,.inr nd.op.kind,_,rfl,hv,g,fd,_,_,kk,rfl,ok,hr.mono 23,kp,bd,_,rfl,_,rfl,_,rfl,?_};refine{nd,a,dx,iD,pp,D2,pq,partsOf ts nd,cs,rfl,N5,Ho,e5,Q3,⟨ck1,ar,Yi,ck3⟩,fun H6 p q' S6 hp hq=>q _ H6 {S6,p,q',rfl,?_,?_}};rw[ed];exact hp;rw[ed];exact hq;have ed:eX xs ts nd cs=(plainT nd.op 959 xs,cs):=by unfold eX;rw[if_neg (by rw[hb];exact df)]
 refine{_,rfl,_,rfl,_,rfl,nd,a,dx,iD,pp,D2,lr,partsOf ts nd,xs,rfl,N5,hb,e5,W7,ar,h8,fun H6 S6=>?_};refine{_,rfl,by show 2<=sizeLine;decide,fun p H7 S7 e7=>q _ H7 {fun b o h=>S7 _ _ (S6 _ _ h),p,pq,rfl,?_,?_}};rw[ed];exact e7;rw[ed];exact S7 _ _ (S6 _ _ Q3);obtain⟨S3,t3,⟨zs,a3,pz⟩,a0,b0,c0,d0,rfl⟩:=p;rw[bK]at t3 pz;obtain⟨t9,_⟩:=GY ac aZ xs cl.symm ac.length 227;obtain⟨L,z,eL⟩:∃L z,(eM ac aZ xs ac.length).1=L++[z]:=by(have cC:(318 ac.length).1≠[]:=fun e=>by rw[e]at t9;exact ne (uP.mp t9.symm));exact{_,_,(E4 cC).symm}
 have t3':H3 DT=some (80 (L.map bV++[bV z])):=by rw[t3,eL,bH];rfl
 refine{_,rfl,{_,rfl,DT,_,_,_,rfl,rfl,t3',qX,{_,rfl,DA,zs,rfl,.inl {aq.of a3,fun q fq=>?_}}}};have Sq:ah H3 (upd H3 q (.tup zs)):=fun b o h=>by rw[ay (bF h fq)];exact h
 refine 401;refine k H4 p q (116 S4 (Sq _ _ (632 h))) ?_ {zs,S4 _ _ aM,bR (fun _ _ h=>(h.same Sq).same S4) pz};rw[e4,eL,oK];rfl
def setFrom(row:71)(st:Nat):List Nat->List Nat
 |[]=>row
 |c::cs=>setFrom 1036 (st+1) cs
theorem IH:∀(cs row:List Nat)(st:Nat),(setFrom row st cs).length=row.length
 |[],_,_=>rfl
 |c::cs,row,st=>by show(setFrom 1036 (st+1) cs).length=_;rw[IH cs];simp
theorem M3:∀(cs row:List Nat)(st c:Nat),setFrom row st (cs++[c])=(setFrom row st cs).set (st+cs.length) c
 |[],row,st,c=>rfl
 |d::cs,row,st,c=>by show setFrom (row.set st d) (st+1) (cs++[c])=(setFrom (row.set st d) (st+1) cs).set (st+(cs.length+1)) c;rw[M3 cs];congr 1;omega
def rowAt(ac:277)(aZ:611):Nat->List Nat
 |0=>cS (1042 n.op.width).sum 0
 |i+1=>match ac[i]?,aZ[i]? with
  |some nd,some cs=>setFrom (1061 i) nd.start cs
  |_,_=>rowAt ac aZ i
theorem x3(ac:277)(aZ:611):∀i,(1061 i).length=(1042 n.op.width).sum
 |0=>uH
 |i+1=>by unfold rowAt;split;rw[IH];exact x3 ac aZ i;exact x3 ac aZ i
theorem Ai(ac:277):(ac.map fun n=>(n.op.width:Int)).sum=(((1042 n.op.width).sum:Nat):Int):=by induction ac with|nil=>rfl|cons n t ih=>simp only[bL,xF,ih];omega
theorem afh{n k:Nat}(h:k<n):lF n (k:Int)=some k:=by unfold lF;rw[if_pos 23,if_pos 23,pY]
def adV(C:Addr):Sp:=fun vs H Q _=>∃(ac:List Nd)(aZ:List 71)(l lc:Addr),vs=[.ref l,.ref lc]/\dU C H l ac/\fC H lc aZ/\ac.length<=1000/\aZ.length=ac.length/\(1042 n.op.width).sum<=100000/\
 (∀(i:Nat)(nd:Nd)(cs:List Nat),ac[i]?=some nd->aZ[i]?=some cs->nd.start+cs.length<=(1042 n.op.width).sum)/\
 ∀H' D,ah H H'->H D=none->H' D=some (80 ((1061 ac.length).map nV))->Q 118 H'
theorem vV:bf ["nodes","cells","row","node","own","place","cell"] ["nodes","cells"] (a_ UK):=17
theorem abV(T:65):aE P w K mg base bj 2 T.BE.a T.BE.fd ["nodes","cells"] (adV T.aJ):=by
 refine T.BE.F.ok vV 28 19;obtain⟨ac,aZ,l,lc,rfl,_⟩:=h;rfl;obtain⟨ac,aZ,l,lc,rfl,Um,⟨us,hc,pc⟩,sz,cl,sm,fit,k⟩:=h;refine(421 (aj (90 vV.nd (bQ QB (bp 884) (442 T.vF (HP T) 734))) (846 (419 (TQ rfl T.Aq 599) (uq rfl (je (351 vV.nd) (je (352 vV.nd) rH))) (au (419 (aaW rfl T.GN 284) (uq rfl (je (299 vV.nd) (je (cE (i:=6) vV.nd rfl 18) rH))) (au (abM (pv 6) (aec 88 (bQ gK (aX T.cq T.MH 174) 663) set_list)))))))));obtain⟨vs,hl,pn⟩:=id Um;ext:35;have agE:us.length=aZ.length:=bY pc
 refine(452 {_,rfl,l,ac,rfl,Um.same S1,sz,fun H2 S2=>{D1,_,_,rfl,rfl,S2 _ _ e1,by rw[Ai];omega,by rw[Ai];omega,fun D H3 S3 f3 e3=>?_}});ext:107;have b5:ah H H3:=fun b o q=>S3 _ _ (dL _ _ q);have fD:H D=none:=fM dL f3;have g7:H3 D=some (80 ((rowAt ac aZ 0).map nV)):=by rw[e3,Ai,pY];show _=some (HO.lst ((cS _ 0).map nV));rw[Wb];rfl
 refine{_,rfl,_,rfl,l,lc,vs,us,rfl,aq.of (751 hl),bC.of (751 hc),?_};refine Vs (K:=_) (a:=l) (b:=lc) (xs:=vs) (ys:=us) (fun i σ H4=>ah H H4/\H4 D=some (80 ((1061 i).map nV))/\∃a b c d,σ=[some 283,some (.ref lc),some 118,a,b,c,d]) 23 ⟨b5,g7,none,none,none,none,rfl⟩ (fun i σ H4 _ p=>928) (fun i x y T0 σ H4 q_ Hh p fT=>?_) (fun σ H4 p=>?_);obtain⟨S4,d4,a0,b0,c0,g0,rfl⟩:=p;rw[6,q_];obtain⟨cs,nT,pq,rfl,BM⟩:=gg pc Hh;have ft:=fit i nd cs cV nT;have rl:=x3 ac aZ i;have er:rowAt ac aZ (i+1)=setFrom (1061 i) nd.start cs:=by show(match ac[i]?,aZ[i]? with|some nd,some cs=>_|_,_=>_)=_;rw[cV,nT]
 have vA:ah H4 (upd H4 T0 542):=fun b o q=>by rw[ay (bF q fT)];exact q
 generalize hH5:upd H4 T0 (.tup [V.ref a,V.ref pq])=H5 at vA;have e5:H5 T0=some 542:=by rw[<-hH5];exact aM
 have j':ah H H5:=fun b o q=>vA _ _ (S4 _ _ q);refine(307 e5);refine{_,rfl,pq,_,rfl,bC.of (j' _ _ BM),?_};refine ahN (K:=_) (a:=pq) (xs:=cs.map nV) (fun j σ H6=>ah H H6/\H6 D=some (80 ((setFrom (1061 i) nd.start (cs.take j)).map nV))/\∃c d,σ=[some 283,some (.ref lc),some 118,some 152,some (.ref pq),c,d]) {j',vA _ _ d4,_,_,rfl} (fun j σ H6 _ p=>bC.of (p.1 _ _ BM)) (fun j x T1 σ H6 MB p fT1=>?_) (fun σ H6 p=>?_);obtain⟨S6,d6,c1,g1,rfl⟩:=p;rw[d_]at MB;obtain⟨c,Nb,rfl⟩:=lZ.mp MB;have Ib:j<cs.length:=(930 Nb).1;have N6:=N0.same S6;have Cj:ah H6 (upd H6 T1 (.tup [.int (j:Nat),nV c])):=fun b o q=>by rw[ay (bF q fT1)];exact q
 generalize hH7:upd H6 T1 (.tup [.int (j:Nat),nV c])=H7 at Cj;have e7:H7 T1=some (.tup [.int (j:Nat),nV c]):=by rw[<-hH7];exact aM
 refine{T1,_,rfl,bC.of e7,rfl,_,_,rfl,_,_,rfl,rfl,?_};refine{_,rfl,_,rfl,_,rfl,a,dx,_,_,rfl,Cj _ _ N6.at_,rfl,_,rfl,_,_,rfl,rfl,D,_,_,nd.start+j,rfl,rfl,Cj _ _ d6,?_,?_};have e:(nd.start:Int)+(j:Int)=((nd.start+j:Nat):Int):=by omega
 show lF _ ((nd.start:Int)+(j:Int))=_;rw[e];refine afh ?_;rw[az,IH];omega;refine{fun b o q=>?_,?_,_,_,rfl};rw[ay (bF q fD)];exact Cj _ _ (S6 _ _ q);rw[aM,gx Nb,M3,List.map_set,bU];rw[show min j cs.length=j by omega];obtain⟨S6,d6,c1,g1,rfl⟩:=p;rw[az,gW]at d6;rw[er];exact{S6,d6,_,_,_,_,rfl};obtain⟨S4,d4,a0,b0,c0,g0,rfl⟩:=p;rw[bK]at d4;exact{_,rfl,k H4 D S4 fD d4}
theorem boot_max:gS "max"=some 882:=by decide+kernel
def Op.i6:Op->Option 403
 |.once a b=>some (a,b)
 |.always a b=>some (a,b)
 |.since a b=>some (a,b)
 |_=>none
theorem afB{o:Op}{a:Nat}{b:305}(h:o.i6=some (a,b)):o.nums=[(a:Int),endOf b]:=by cases o<;>simp[Op.i6]at h;all_goals(obtain⟨rfl,rfl⟩:=h;rfl)
def jV(b:305)(p e:Nat):Nat:=match b with
 |none=>e
 |some n=>max e (p-n)
def dM(a:Nat)(b:305)(r:123)(p e:Nat):List Bool:=(r.drop (min (jV b p e) r.length)).take (min (p+1-a) r.length-min (jV b p e) r.length)
theorem Qs(r:123)(i j:Nat):fP 689 (some (i:Int)) (some (j:Int))=((r.drop (min i r.length)).take (min j r.length-min i r.length)).map bV:=by unfold fP;rw[HT.tX,HT.tX,az,iV,Wv]
def aeG(C:Addr):Sp:=fun vs H Q _=>∃(nd:Nd)(a0 dx pn pp l:Addr)(a:Nat)(b:Option Nat)(r:List Bool)(p e:Nat),vs=[.ref a0,.ref l,.int p,.int e]/\jt C H a0 nd dx pn pp/\nd.op.i6=some (a,b)/\H l=some (80 689)/\
 ∀H' D,ah H H'->H D=none->H' D=some (80 ((dM a b r p e).map bV))->Q 118 H'
theorem G':bf ["node","row","place","earliest","latest"] ["node","row","place","earliest"] (a_ U0):=17
theorem F3(T:65):aE P w K mg base bj 1 T.uZ.a T.uZ.fd ["node","row","place","earliest"] (aeG T.aJ):=by
 refine T.uZ.F.ok G' 28 19;obtain⟨nd,a0,dx,pn,pp,l,a,b,r,p,e,rfl,_⟩:=h;rfl;obtain⟨nd,a0,dx,pn,pp,l,a,b,r,p,e,rfl,N,hw,hl,k⟩:=h;refine(421 (aj (170 G'.nd 104) (aj (554 (73 uB 104 924) (au (92 G'.nd (353 (aa 174 (38 (bQ kI 88 104))))))) (au (aF (j9 qM 179 (iI 174) (iI (353 (aa ap (38 (606 (bQ kI 88 602))))))))))));have hn:H pn=some (.tup [V.int (a:Int),V.int (endOf b)]):=by rw[N.nums,afB hw];rfl
 refine{_,rfl,a0,dx,_,_,rfl,N.at_,rfl,pn,_,_,_,rfl,rfl,hn,rfl,?_};refine{_,rfl,a0,dx,_,_,rfl,N.at_,rfl,pn,_,_,_,rfl,rfl,hn,rfl,rfl,_,rfl,?_};have YQ:686=((p+1-a:Nat):Int):=by split<;>omega
 have fin:∀(e':Int)(D:Addr)(H1:Hp),e'=((jV b p e:Nat):Int)->H1 D=some (80 (fP 689 (some e') (some 686)))->H1 D=some (80 ((dM a b r p e).map bV)):=fun e' D H1 he h=>by rw[h,he,YQ,Qs];rfl
 cases b with|none=>refine aU 47 ?_;exact{_,rfl,{_,rfl,_,rfl,{_,rfl,_,rfl,_,_,rfl,rfl,_,_,rfl,rfl,_,_,rfl,_,rfl,l,_,rfl,aq.of hl,fun D H1 S f e1=>k H1 D S f (fin _ D H1 rfl e1)}}}|some n=>refine aS (by rw[Hm n];rfl) ?_;refine{_,rfl,{_,rfl,{_,rfl,a0,dx,_,_,rfl,N.at_,rfl,pn,_,_,_,rfl,rfl,hn,rfl,_,_,rfl,rfl,_,_,rfl,?_}}};refine{_,rfl,{_,rfl,_,rfl,{_,rfl,_,rfl,_,_,rfl,rfl,_,_,rfl,rfl,_,_,rfl,_,rfl,l,_,rfl,aq.of hl,fun D H1 S f e1=>k H1 D S f (fin _ D H1 ?_ e1)}}};show(if(p:Int)-(n:Int)>(e:Int)then(p:Int)-(n:Int)else(e:Int))=((max e (p-n):Nat):Int);split<;>omega
def jR(H:Hp)(v:V)(r:123):Prop:=∃p,v=.ref p/\H p=some (80 689)
def tE(H:Hp)(l:Addr)(rs:List 123):Prop:=∃vs,H l=some (.lst vs)/\Paired (jR H) vs rs
theorem jR.same{H H':Hp}{v:V}{r:123}(x:jR H v r)(S:416):jR H' v r:=by obtain⟨p,e,h⟩:=x;exact{p,e,S _ _ h}
theorem tE.one{H:Hp}{l:Addr}{r:123}(x:tE H l [r]):∃p,H l=some (.lst [.ref p])/\H p=some (80 689):=by obtain⟨vs,e,p⟩:=x;cases p with|cons a t=>cases t;obtain⟨p,rfl,h⟩:=a;exact⟨p,e,h⟩
theorem tE.two{H:Hp}{l:Addr}{r q:123}(x:tE H l [r,q]):∃p p',H l=some (.lst [.ref p,.ref p'])/\H p=some (80 689)/\H p'=some (80 (q.map bV)):=by obtain⟨vs,e,p⟩:=x;cases p with|cons a t=>cases t with|cons b t=>cases t;obtain⟨p,rfl,h⟩:=a;obtain⟨p',rfl,h'⟩:=b;exact⟨p,p',e,h,h'⟩
theorem BU(r:123):fP 689 none (some (-1))=r.dropLast.map bV:=by
 unfold fP;rw[HT.JW];have e:HT.ba (r.map bV).length (r.map bV).length (some (-1))=r.length-1:=by show(if(-1:Int)<0 then((-1:Int)+((r.map bV).length:Int)).toNat else min (-1:Int).toNat (r.map bV).length)=_;rw[if_pos 29,az];omega
 rw[e,KZ,List.dropLast_eq_take,iV];rfl
theorem JB{a b:Bool}(h:bV a=bV b):a=b:=by cases a<;>cases b<;>first|rfl|(exact absurd (V.int.inj h) (by decide))
theorem Ma{f:450}:∀{xs ys:List Bool}{zs:List V},Paired (fun(xy:V×V) z=>∃x y:Bool,xy=(bV x,bV y)/\z=bV (f x y)) ((xs.map bV).zip (ys.map bV)) zs->zs=((xs.zip ys).map fun p=>f p.1 p.2).map bV
 |[],_,_,h=>by cases h;rfl
 |_::_,[],_,h=>by cases h;rfl
 |x::xs,y::ys,_,.cons ⟨x',y',e,e2⟩ t=>by have e':=Prod.mk.inj e;rw[Ma t,e2,<-JB e'.1,<-JB e'.2];rfl
def seenOf(n:Nat)(r:123)(i:Nat):List Bool:=(r.drop (min (i+1-n) r.length)).take (min (i+1) r.length-min (i+1-n) r.length)
def fK(r:123):Nat->Nat
 |0=>0
 |i+1=>if r.getD i false=true then fK r i else i
def wt:Op->List 123->List Bool
 |.prev,rs=>false::(rs.getD 0 []).dropLast
 |.rose,rs=>((rs.getD 0 []).zip (true::(rs.getD 0 []).dropLast)).map fun p=>p.1&&!p.2
 |.once a b,rs=>(bu (rs.getD 0 []).length).map fun i=>(dM a b 1037 i 0).any id
 |.always a b,rs=>(bu (rs.getD 0 []).length).map fun i=>(dM a b 1037 i 0).all id
 |.count k n,rs=>(bu (rs.getD 0 []).length).map fun i=>decide (k<=((seenOf n 1037 i).map kZ).sum)
 |.since a b,rs=>(bu (rs.getD 0 []).length).map fun i=>(dM a b (rs.getD 1 []) i (fK 1037 (i+1))).any id
 |_,rs=>rs.getD 0 []
theorem PY(r:123):js (.int 1) 689=r.any id:=by induction r with|nil=>rfl|cons x t ih=>show(jI (bV x) (.int 1)||js (.int 1) (t.map bV))=_;rw[ih];cases x<;>rfl
theorem aef(r:123):js (.int 0) 689=!r.all id:=by induction r with|nil=>rfl|cons x t ih=>show(jI (bV x) (.int 0)||js (.int 0) (t.map bV))=_;rw[ih];cases x<;>rfl
theorem GG(r:123):(r.map bV).all jc=true:=by rw[Kk,kU];intro x _;rfl
def ur(C:Addr)(is:Op->Prop):Sp:=fun vs H Q _=>∃(nd:Nd)(a dx pn pp l:Addr)(rs:List 123),vs=[.ref a,.ref l]/\jt C H a nd dx pn pp/\is nd.op/\tE H l rs/\rs.length=nd.op.arity/\(∀r∈rs,1<=r.length/\r.length<=1000)/\
 ∀H' D,ah H H'->H D=none->H' D=some (80 ((wt nd.op rs).map bV))->Q 118 H'
theorem abx:bf ["node","parts"] ["node","parts"] (a_ TF):=17
theorem aat(T:65):aE P w K mg base bj 1 T.u4.a T.u4.fd ["node","parts"] (ur T.aJ (·=.prev)):=by refine T.u4.F.ok abx 28 19;ext:70;have ho:o=.prev:=ho;subst ho;ext:6;refine(421 (au (aF 722)));refine(452 (426 {D1,D2,_,_,rfl,rfl,S2 _ _ e1,e2,?_,fun D H3 S3 f3 e3=>k H3 D (fun b o q=>S3 _ _ (547 (S1 _ _ q))) ?_ ?_}));rw[BU,az,A6,sizeLine_eq];simp only[aR,jl];omega;exact fM (fun b o q=>S2 _ _ (S1 _ _ q)) f3;rw[e3,BU];rfl
theorem Al:bf ["node","parts","before","now","earlier"] ["node","parts"] (a_ Ug):=17
theorem Xe(T:65):aE P w K mg base bj 1 T.xo.a T.xo.fd ["node","parts"] (ur T.aJ (·=.rose)):=by
 refine T.xo.F.ok Al 28 19;ext:70;have ho:o=.rose:=ho;subst ho;ext:6;refine(421 (aj (90 Al.nd 722) (au (aF (j6 rfl Al.nd (Je rfl T.Aq (aa 66 336)) (own:=[("now",3),("earlier",4)]) 20 (46 (S' rfl (je (351 Al.nd) (je (352 Al.nd) rH)))) 645 (46 (ig (PW.pt (Dh (725 174) (BP (725 602)))) ap ap)))))))
 refine(452 (426 {D1,D2,_,_,rfl,rfl,S2 _ _ e1,e2,?_,fun B H3 S3 f3 e3=>?_}));rw[BU,az,A6,sizeLine_eq];simp only[aR,jl];omega;have b5:ah H H3:=fun b o q=>S3 _ _ (547 (S1 _ _ q));have eB:H3 B=some (80 ((true::r.dropLast).map bV)):=by rw[e3,BU];rfl
 refine{_,rfl,l,_,_,_,rfl,rfl,b5 _ _ hl,rfl,_,rfl,p,B,_,_,rfl,aq.of (751 hp),aq.of eB,fun D hD=>?_};refine aeW (xs:=r.map bV) (ys:=(true::r.dropLast).map bV) (fun _ xy z=>∃x y:Bool,xy=(bV x,bV y)/\z=bV (x&&!y)) 29 hD 134 ?_ (fun H' S=>{aq.of (S _ _ (751 hp)),aq.of (S _ _ eB)}) ?_ (fun i x y H4 Q' hx hy S q=>?_) 895;simp only[az,aR,A6];omega;rw[az,sizeLine_eq];omega;rw[d_]at hx hy;obtain⟨x,_,rfl⟩:=lZ.mp hx;obtain⟨y,_,rfl⟩:=lZ.mp hy;have q':=q (bV (x&&!y)) H4 ah.refl ⟨x,y,rfl,rfl⟩;refine 195;cases x with|false=>exact aU 47 (aU 47 q')|true=>refine aS 47 195;cases y with|false=>exact aS 47 q'|true=>exact aU 47 q'
 refine k H' D (fun b o q=>S _ _ (751 q)) (fM b5 hD) ?_;rw[e,Ma (f:=fun x y=>x&&!y) pr];rfl
theorem IX{f:709}:∀{is:List Nat}{zs:List V},Paired (fun x z=>∃i:Nat,x=V.int (i:Int)/\z=bV (f i)) (is.map fun(i:Nat)=>V.int (i:Int)) zs->zs=(is.map f).map bV
 |[],_,h=>by cases h;rfl
 |i::is,_,.cons ⟨i',e,e2⟩ t=>by(have e':i=i':=by have:=V.int.inj e;omega);rw[IX t,e2,e'];rfl
theorem GU:bf ["node","parts","place"] ["node","parts"] (a_ Vw):=17
theorem ZI(T:65):aE P w K mg base bj 2 T.wq.a T.wq.fd ["node","parts"] (ur T.aJ (fun o=>∃a b,o=.once a b)):=by
 refine T.wq.F.ok GU 28 19;ext:15;ext:6;refine(421 (au (aF (216 GU.nd (46 (264 GU.nd))))));refine 356;have en:((r.map bV).length:Int).toNat=r.length:=by rw[az];omega
 rw[en];rw[15,(fun _ x z=>∃i:Nat,x=V.int (i:Int)/\z=bV ((752 r).any id))];have q':=fun H3 S3=>q (bV ((752 r).any id)) H3 S3 ⟨i,rfl,rfl⟩;refine 185;have q3:=q' H3 S3;rw[<-PY]at q3;revert q3;cases hh:js (.int 1) ((dM wa wb r i 0).map bV)with|true=>exact fun q3=>q3|false=>exact fun q3=>q3
 refine k H' D S hD ?_;rw[e,IX (f:=fun i=>(752 r).any id) pr,ho];rfl
theorem Fh:bf ["node","parts","place"] ["node","parts"] (a_ MA):=17
theorem ahs(T:65):aE P w K mg base bj 2 T.wX.a T.wX.fd ["node","parts"] (ur T.aJ (fun o=>∃a b,o=.always a b)):=by
 refine T.wX.F.ok Fh 28 19;ext:15;ext:6;refine(421 (au (aF (216 Fh.nd (46 (264 Fh.nd))))));refine 356;have en:((r.map bV).length:Int).toNat=r.length:=by rw[az];omega
 rw[en];rw[15,(fun _ x z=>∃i:Nat,x=V.int (i:Int)/\z=bV ((752 r).all id))];have q':=fun H3 S3=>q (bV ((752 r).all id)) H3 S3 ⟨i,rfl,rfl⟩;refine 185;have q3:=q' H3 S3;have ez:=aef (752 r);revert q3 ez;cases hh:js (.int 0) ((dM wa wb r i 0).map bV)with|true=>(cases(dM wa wb r i 0).all id with|true=>intro _ z;cases z|false=>exact fun q3 _=>q3)|false=>cases(dM wa wb r i 0).all id with|true=>exact fun q3 _=>q3|false=>intro _ z;cases z
 refine k H' D S hD ?_;rw[e,IX (f:=fun i=>(752 r).all id) pr,ho];rfl
theorem acO(r:123):r.map bV=(r.map fun b=>((kZ b:Nat):Int)).map V.int:=by rw[gq];rw[16,b];cases b<;>rfl
theorem abZ(r:123):(r.map fun b=>((kZ b:Nat):Int)).sum=(((r.map kZ).sum:Nat):Int):=by induction r with|nil=>rfl|cons x t ih=>simp only[bL,xF,ih];omega
theorem Bi:bf ["node","parts","row","place","seen"] ["node","parts"] (a_ Vy):=17
theorem afl(T:65):aE P w K mg base bj 1 T.wJ.a T.wJ.fd ["node","parts"] (ur T.aJ (fun o=>∃a b,o=.count a b)):=by
 refine T.wJ.F.ok Bi 28 19;obtain⟨nd,a,dx,pn,pp,l,rs,rfl,_⟩:=h;rfl;obtain⟨nd,a,dx,pn,pp,l,rs,rfl,N,⟨ck,cn,ho⟩,mF,ar,ln,k⟩:=h;rw[ho]at ar;ext:6;have hn:H pn=some (.tup [V.int (ck:Int),V.int (cn:Int)]):=by rw[N.nums,ho];rfl
 refine(421 (aj (90 Bi.nd 505) (846 (419 413 (351 Bi.nd) (aj (170 Bi.nd (j9 qM 66 (iI (353 (aa ap (38 (bQ kI (606 174) 104))))) (iI (606 174)))) (au (cr (122 88 (38 (ig (73 nc (cw (Pj rfl) rfl T.JL boot_sum 284) 104) ap ap))))))))));refine 180;refine{_,rfl,l,_,_,_,rfl,rfl,S1 _ _ hl,rfl,p,_,rfl,.inl (549 (S1 _ _ hp)),_,rfl,by omega,by rw[az];omega,?_};have en:((r.map bV).length:Int).toNat=r.length:=by rw[az];omega
 rw[en];refine GQ (n:=r.length) (fun i σ H2=>ah H H2/\H2 D=some (80 ((631 168).map bV))/\∃x y,σ=[some 152,some 283,some 118,x,y]) 944 (fun i σ H2 hi q=>?_) (fun σ H2 q=>?_);obtain⟨S2,d2,x,y,rfl⟩:=q;have UM:=(N.same S2).at_;refine{_,rfl,l,_,_,_,rfl,rfl,S2 _ _ hl,rfl,{_,rfl,_,_,rfl,rfl,{_,rfl,a,dx,_,_,rfl,UM,rfl,pn,_,_,_,rfl,rfl,S2 _ _ hn,rfl,_,_,rfl,rfl,_,_,rfl,_,rfl,{_,rfl,_,_,rfl,rfl,_,rfl,p,_,rfl,aq.of (547 hp),fun B H3 S3 f3 e3=>?_}}}};have g7:H3 B=some (80 (((seenOf cn r i).map fun b=>((kZ b:Nat):Int)).map V.int)):=by rw[e3];(have h1:(if(0+(i:Int))+1-(cn:Int)>0 then(0+(i:Int))+1-(cn:Int)else 0)=((i+1-cn:Nat):Int):=by split<;>omega);(have h2:(0+(i:Int))+1=((i+1:Nat):Int):=by omega);rw[h1,h2,Qs,<-acO];rfl
 have d3:=S3 _ _ d2;refine{_,rfl,.inl (142 d3),{_,rfl,B,_,rfl,aq.of g7,{_,rfl,a,dx,_,_,rfl,S3 _ _ UM,rfl,pn,_,_,_,rfl,rfl,S3 _ _ (547 hn),rfl,_,_,rfl,rfl,_,rfl,?_}}};have eb:decide ((ck:Int)<=((seenOf cn r i).map fun b=>((kZ b:Nat):Int)).sum)=decide 168:=by rw[abZ,h_];simp only[decide_eq_true_eq];omega
 rw[eb];have done:∀v:V,v=bV (decide 168)->ah H (upd H3 D (80 ((631 168).map bV++[v])))/\upd H3 D (80 ((631 168).map bV++[v])) D=some (80 (((bu (i+1)).map fun i=>decide 168).map bV)):=fun v hv=>by refine{fun b o q=>?_,?_};rw[ay (bF q f1)];exact 632 (547 q);rw[aM,xN,bH,bH,hv];rfl
 have len:((631 168).map bV).length<sizeLine:=by rw[az,az,l8,sizeLine_eq];omega
 cases hd:decide (ck<=((seenOf cn r i).map kZ).sum)with|true=>obtain⟨z1,z2⟩:=done (.int 1) (by rw[hd];rfl);exact aS rfl (468 d3)|false=>obtain⟨z1,z2⟩:=done (.int 0) (by rw[hd];rfl);exact aU df (468 d3)
 obtain⟨S2,d2,x,y,rfl⟩:=q;refine{_,rfl,k H2 D S2 f1 ?_};rw[d2,ho];rfl
theorem ahQ{i j:Nat}{Dn:Ends}{σ aW:L2.St}{H:Hp}{b:Bool}(rest:Dn.nx aW H)(h1:b=true->∃v,σ[i]?=some 456/\σ.set j 456=aW)(h2:b=false->σ=aW):if b=true then vR (qu i) (iQ j) Dn σ H else FM Dn σ H:=by cases b with|true=>obtain⟨v,e,z⟩:=h1 rfl;rw[<-z]at rest;exact⟨v,e,rest⟩|false=>rw[<-h2 rfl]at rest;exact rest
theorem vZ:bf ["node","parts","row","earliest","place","truth"] ["node","parts"] (a_ MF):=17
theorem Yj(T:65):aE P w K mg base bj 2 T.vp.a T.vp.fd ["node","parts"] (ur T.aJ (fun o=>∃a b,o=.since a b)):=by
 refine T.vp.F.ok vZ 28 19;ext:15;obtain⟨r,q,rfl⟩:∃r q,rs=[r,q]:=by match rs,ar with|[r,q],_=>exact⟨r,q,rfl⟩
 obtain⟨p,p',hl,hp,pF⟩:=mF.two;have tK:=ln r 42;refine(421 (aj (90 vZ.nd 505) (aj (92 vZ.nd ap) (846 (419 (TC rfl T.GN 297) (uq rfl (je (352 vZ.nd) (je (299 vZ.nd) rH))) (aj (554 (725 663) (au (92 vZ.nd 602))) (au (cr (122 88 (38 (ig (bh qY ap (442 T.uZ (F3 T) (aa 56 (aa 66 (aa 602 454)))) 77) ap ap)))))))))));refine 180;refine{_,rfl,l,_,_,_,rfl,rfl,S1 _ _ hl,rfl,p,_,rfl,aq.of (S1 _ _ hp),?_}
 refine Ou (K:=_) (a:=p) (xs:=r.map bV) (fun i σ H2=>ah H H2/\H2 D=some (80 ((507 id).map bV))/\∃x y,σ=[some 152,some 283,some 118,some (.int (fK r i:Nat)),x,y]) 944 (1044 (z.1 _ _ hp)) (fun i x T0 σ H2 hx z fT=>?_) (fun σ H2 z=>?_);obtain⟨S2,d2,x0,y0,rfl⟩:=z;rw[d_]at hx;obtain⟨t,ht,rfl⟩:=lZ.mp hx;have i4:i<r.length:=(930 ht).1;have nZ:ah H2 (upd H2 T0 (.tup [.int (i:Nat),bV t])):=fun b o z=>by rw[ay (bF z fT)];exact z
 generalize EA:upd H2 T0 (.tup [.int (i:Nat),bV t])=H3 at nZ;have e3:H3 T0=some (.tup [.int (i:Nat),bV t]):=by rw[<-EA];exact aM
 rw[21,nZ];have d3:=nZ _ _ d2;have er:fK r (i+1)=if t=true then fK r i else i:=by show(if r.getD i false=true then fK r i else i)=_;rw[dI,ht];rfl
 refine(307 e3);refine 195;refine ahQ (aW:=[some 152,some 283,some 118,some (.int (fK r (i+1):Nat)),some (.int (i:Nat)),some (bV t)]) ?_ (fun hb=>735) (fun hb=>?_);refine{_,rfl,.inl (142 d3),{_,rfl,{_,rfl,l,_,_,_,rfl,rfl,b5 _ _ hl,rfl,{_,rfl,_,rfl,nd,a,dx,pn,pp,p',wa,wb,q,i,fK r (i+1),rfl,N.same b5,by rw[ho];rfl,b5 _ _ pF,fun H4 B S4 f4 e4=>{B,_,rfl,.inl (549 e4),rfl,GG _,_,rfl,?_}}}}};have d4:=S4 _ _ d3;have ei:js (.int 1) ((246 q).map bV)=(246 q).any id:=PY _;have done:∀v:V,v=bV ((246 q).any id)->ah H (upd H4 D (80 ((507 id).map bV++[v])))/\upd H4 D (80 ((507 id).map bV++[v])) D=some (80 (((bu (i+1)).map fun i=>(246 q).any id).map bV)):=fun v hv=>by refine{fun b o z=>?_,?_};rw[ay (bF z f1)];exact S4 _ _ (751 z);rw[aM,xN,bH,bH,hv];rfl
 have len:((507 id).map bV).length<sizeLine:=by rw[az,az,l8,sizeLine_eq];omega
 cases hd:js (.int 1) ((dM wa wb q i (fK r (i+1))).map bV)with|true=>obtain⟨z1,z2⟩:=done (.int 1) (by rw[<-ei,hd];rfl);exact aS rfl (468 d4)|false=>obtain⟨z1,z2⟩:=done (.int 0) (by rw[<-ei,hd];rfl);exact aU 29 (468 d4)
 cases t with|true=>exact 89 hb 47|false=>rw[er];rfl
 cases t with|true=>rw[er];rfl|false=>exact 89 hb 47
 obtain⟨S2,d2,x0,y0,rfl⟩:=z;rw[az]at d2;refine{_,rfl,k H2 D S2 f1 ?_};rw[d2,ho];rfl
def Eg(H:Hp)(v:V)(xs:33):Prop:=∃p,v=.ref p/\H p=some (80 211)
def j7(H:Hp)(l:Addr)(aC:147):Prop:=∃vs,H l=some (.lst vs)/\Paired (Eg H) vs aC
theorem Eg.same{H H':Hp}{v:V}{xs:33}(x:Eg H v xs)(S:416):Eg H' v xs:=by obtain⟨p,e,h⟩:=x;exact{p,e,S _ _ h}
theorem j7.same{H H':Hp}{l:Addr}{aC:147}(x:j7 H l aC)(S:416):j7 H' l aC:=by obtain⟨vs,e,p⟩:=x;exact 796
theorem Ta:∀{a b:List Bool},a.map bV=b.map bV->a=b
 |[],[],_=>rfl
 |[],_::_,h=>by cases h
 |_::_,[],h=>by cases h
 |x::a,y::b,h=>by simp only[bL,A0]at h;rw[JB h.1,Ta h.2]
theorem jR.uniq{H:Hp}{v:V}{r q:123}(x:jR H v r)(y:jR H v q):r=q:=by obtain⟨p,rfl,h⟩:=x;obtain⟨p',e,h'⟩:=y;cases e;have:=dZ (h.symm.trans h');injection this with this;exact Ta this
def zB(o:Op)(rs:List 123)(aC:147):List Bool:=(bu aC.length).map fun i=>plainT o (879 i) (aC.getD i [])
def abi(C:Addr):Sp:=fun vs H Q _=>∃(nd:Nd)(a dx pn pp l lh:Addr)(rs:List 123)(aC:List 33),vs=[.ref a,.ref l,.ref lh]/\jt C H a nd dx pn pp/\nd.op.kd=false/\tE H l rs/\rs.length=nd.op.arity/\(∀r∈rs,r.length=aC.length)/\j7 H lh aC/\(∀xs∈aC,xs.length=8)/\aC.length<=1000/\
 ∀H' D,ah H H'->H D=none->H' D=some (80 ((zB nd.op rs aC).map bV))->Q 118 H'
theorem wK:bf ["node","parts","history","row","place","readings","truths","part"] ["node","parts","history"] (a_ NA):=17
theorem WX(T:65):aE P w K mg base bj 3 T.Ec.a T.Ec.fd ["node","parts","history"] (abi T.aJ):=by
 refine T.Ec.F.ok wK 28 19;obtain⟨nd,a,dx,pn,pp,l,lh,rs,aC,rfl,_⟩:=h;rfl;obtain⟨nd,a,dx,pn,pp,l,lh,rs,aC,rfl,N,hs,⟨vs,hl,hU⟩,ar,rl,⟨us,hh,pu⟩,h8,sz,k⟩:=h;have bK:us.length=aC.length:=bY pu
 refine(421 (aj (92 wK.nd 505) (1043 (419 (TC rfl T.GN 336) (uq rfl (je (352 wK.nd) (je (299 wK.nd) rH))) (aj (wQ (i:=6) rfl wK.nd rfl rfl rfl (io 179) (own:=[("part",7)]) 20 (46 (cE (i:=7) wK.nd rfl 18)) 645 (46 (25 bD (pv 7) 602))) (au (cr (122 174 (38 (442 T.xV (Se T) (aa 56 (aa (pv 6) (38 663)))))))))))));refine 180;refine{_,rfl,lh,us,rfl,aq.of (S1 _ _ hh),?_}
 refine Ou (K:=_) (a:=lh) (xs:=us) (fun i σ H2=>ah H H2/\H2 D=some (80 (((bu i).map fun i=>plainT nd.op (879 i) (aC.getD i [])).map bV))/\∃x y z,σ=[some 152,some 283,some (.ref lh),some 118,x,y,z,none]) ⟨S1,e1,none,none,none,rfl⟩ (1044 (z.1 _ _ hh)) (fun i x T0 σ H2 hx z fT=>?_) (fun σ H2 z=>?_);obtain⟨S2,d2,x0,y0,z0,rfl⟩:=z;obtain⟨xs,nX,px,rfl,hpx⟩:=gg pu hx;have i4:i<aC.length:=(930 nX).1;have eh:aC.getD i []=xs:=by rw[dI,nX];rfl
 have x8:xs.length=8:=h8 xs (ej nX);have nZ:ah H2 (upd H2 T0 (.tup [.int (i:Nat),.ref px])):=fun b o z=>by rw[ay (bF z fT)];exact z
 generalize EA:upd H2 T0 (.tup [.int (i:Nat),.ref px])=H3 at nZ;have e3:H3 T0=some (.tup [.int (i:Nat),.ref px]):=by rw[<-EA];exact aM
 rw[21,nZ];have d3:=nZ _ _ d2;refine(307 e3);refine{_,rfl,l,rfl,{_,aq.of (751 hl)},fun D2 xW=>?_};refine yg (xs:=vs) (fun _ x y=>∃r,jR H x r/\y=bV (r.getD i false)) xW 134 (397 (S _ _ (751 hl))) ?_ (fun x H4 Q' hx S q=>?_) (fun H4 ys S4 e4 pr=>?_);rw[bY hU,ar,sizeLine_eq];have:=vY nd.op;omega;obtain⟨r,f_,p,rfl,hp⟩:=nM hU hx;have hrl:=rl r f_;exact{_,rfl,_,rfl,p,_,_,_,rfl,rfl,S _ _ (751 hp),wP (d:=false) 23,q _ _ ah.refl {r,⟨p,rfl,hp⟩,rfl}};have ey:ys=(879 i).map bV:=J1 (R:=jR H) (fun x r y h1 ⟨r',h2,e⟩=>by rw[e,h1.uniq h2]) hU pr;rw[ey]at e4;have gM:ah H H4:=fun b o z=>S4 _ _ (751 z);have d4:=S4 _ _ d3;refine{_,rfl,.inl (142 d4),{_,rfl,_,rfl,_,rfl,nd,a,dx,pn,pp,D2,px,_,xs,rfl,N.same gM,hs,e4,gM _ _ hpx,by rw[az];exact ar,x8,fun H5 S5=>{D,_,_,rfl,rfl,S5 _ _ d4,?_,fun b o z=>?_,?_,_,_,_,rfl}}};rw[az,az,l8,sizeLine_eq];omega;rw[ay (bF z f1)];exact S5 _ _ (gM _ _ z);rw[aM,xN,bH,bH,<-eh];rfl;obtain⟨S2,d2,x0,y0,z0,rfl⟩:=z;rw[bK]at d2
 exact{_,rfl,k H2 D S2 f1 d2}
def rowOne(aC:147)(acc:List 123)(nd:Nd):List Bool:=
 if nd.op.kd=true then wt nd.op (247 p)else zB nd.op (247 p) aC
def iU(aC:147):List Nd->List 123->List 123
 |[],acc=>acc
 |nd::t,acc=>iU aC t (acc++[rowOne aC acc nd])
theorem Fo(aC:147):∀(ac:List Nd)(nd:Nd)(acc:List 123),iU aC (ac++[nd]) acc=iU aC ac acc++[rowOne aC (iU aC ac acc) nd]
 |[],_,_=>rfl
 |n::t,nd,acc=>Fo aC t nd _
theorem TJ(aC:147):∀(ac:List Nd)(acc:List 123),(iU aC ac acc).length=acc.length+ac.length
 |[],acc=>rfl
 |nd::t,acc=>by show(iU aC t _).length=_;rw[TJ aC t];simp;omega
theorem adb{o:Op}{rs:List 123}{n:Nat}(hs:o.kd=true)(ha:rs.length=o.arity)(hn:1<=n)(h:∀r∈rs,r.length=n):(wt o rs).length=n:=by
 have h0:(rs.getD 0 []).length=n:=by cases rs with|nil=>cases o<;>simp[Op.kd,Op.arity]at hs ha|cons r t=>exact h r (cY ..)
 cases o<;>simp only[wt,aR,A6,az,KR,l8,h0]<;>first|omega|(cases hs)
theorem aaL{KK:Frag}{j:Nat}{t u:TE}{Dn:Ends}{σ:L2.St}{H:Hp}{b:Bool}{D:Addr}{zs:231}(QK:σ[j]?=some (some 118))(hd:324 D 733)(R:V->Hp->Prop)(rest:∀v H',R v H'->∃vI,H' D=some (.lst vI)/\vI.length<sizeLine/\Dn.nx σ (upd H' D (80 (vI++[v]))))(h1:b=true->∀Q:VK,(∀v H',R v H'->Q v H')->t σ H Q)(h2:b=false->∀Q:VK,(∀v H',R v H'->Q v H')->u σ H Q):if b=true then De (GI KK "list" Ew (qu j) (pM t qR)) Dn σ H else De (GI KK "list" Ew (qu j) (pM u qR)) Dn σ H:=by
 have fin:∀v H',R v H'->Ew 118 [v] H' fun _ H1=>Dn.nx σ H1:=fun v H' r=>by obtain⟨vI,e,l,n⟩:=rest v H' r;exact⟨D,vI,v,rfl,rfl,e,l,n⟩
 cases b with|true=>exact{_,QK,.inl (142 hd),h1 rfl _ fin}|false=>exact{_,QK,.inl (142 hd),h2 rfl _ fin}
theorem RT{H:Hp}{zs:231}{acc:List 123}(h:∀(p:Nat)(y:V),zs[p]?=some y->jR H y (acc.getD p [])):∀{ps:List Nat}{ys:List V},Paired (fun x y=>∃p:Nat,x=V.int (p:Int)/\zs[p]?=some y) 1009 ys->Paired (jR H) ys (ps.map fun p=>acc.getD p [])
 |[],_,.nil=>.nil
 |p::ps,_,.cons ⟨p',e,z⟩ t=>by(have e':p=p':=by have:=V.int.inj e;omega);subst e';exact .cons (h _ _ z) (RT h t)
theorem L5{α β:Type}{R:300}:∀{ys:List β}{xs:List α}{y:β},Paired R xs (ys++[y])->∃jC x,xs=jC++[x]/\R x y
 |[],_,_,.cons a .nil=>{[],_,rfl,a}
 |_::ys,_,_,.cons a t=>by obtain⟨jC,x,e,r⟩:=L5 (ys:=ys) t;exact{_::jC,x,by rw[e];rfl,r}
theorem getD_some{α:Type}{l:612}{i:Nat}{d x:α}(h:l[i]?=some x):l.getD i d=x:=by rw[dI,h];rfl
theorem ZB(T:65):∀o:Op,(da (JD T) (546 o.kind)).isSome=o.kd
 |.tt=>by rfl
 |.ff=>by rfl
 |.cmp _ _ _=>by rfl
 |.not=>by rfl
 |.and=>by rfl
 |.or=>by rfl
 |.prev=>by rfl
 |.rose=>by rfl
 |.once _ _=>by rfl
 |.always _ _=>by rfl
 |.since _ _=>by rfl
 |.count _ _=>by rfl
theorem aeH(T:65)(o:Op)(h:o.kd=true):∃(g:Addr)(fd:eW)(is:Op->Prop)(k:Nat),k<=3/\da (JD T) (546 o.kind)=some (.ref g)/\aE P w K mg base bj k g fd ["node","parts"] (ur T.aJ is)/\is o/\oE K (.ref g)=true/\Binds K fd ["node","parts"] []:=by cases o with|prev=>exact(719 aat T.u4.F.kp T.u4.b)|rose=>exact(719 Xe T.xo.F.kp T.xo.b)|once a b=>exact(167 ZI T.wq.F.kp T.wq.b)|always a b=>exact(167 ahs T.wX.F.kp T.wX.b)|since a b=>exact(167 Yj T.vp.F.kp T.vp.b)|count a b=>exact(167 afl T.wJ.F.kp T.wJ.b)|_=>cases h
def aaA(C:Addr):Sp:=fun vs H Q _=>∃(ac:List Nd)(aC:List 33)(l lh:Addr),vs=[.ref l,.ref lh]/\dU C H l ac/\j7 H lh aC/\zb ac/\ac≠[]/\ac.length<=1000/\aC≠[]/\aC.length<=1000/\(∀xs∈aC,xs.length=8)/\
 ∀H',ah H H'->Q (bV (((iU aC ac []).getLast?.getD []).getLast?.getD false)) H'
theorem yA:bf ["nodes","history","rows","node","parts","part"] ["nodes","history"] (a_ QJ):=17
theorem ZR(T:65)(Dc:213):aE P w K mg base bj 4 T.C4.a T.C4.fd ["nodes","history"] (aaA T.aJ):=by
 refine T.C4.F.ok yA 28 19;obtain⟨ac,aC,l,lh,rfl,_⟩:=h;rfl;obtain⟨ac,aC,l,lh,rfl,⟨vs,hl,pn⟩,hh,po,ne,sz,cC,hsz,h8,k⟩:=h;ext:35;have Mq:1<=aC.length:=by cases aC with|nil=>exact 89 rfl cC|cons=>simp
 refine(421 (aj (90 yA.nd 505) (aj (419 (io 56) (351 yA.nd) (aj (wQ (i:=4) rfl yA.nd rfl rfl rfl (ym (aX T.cq T.yM 174)) (own:=[("part",5)]) 20 (46 (299 yA.nd)) 645 (46 (25 bD 88 663))) (au (bB (Ag (Ge Dc.Et.d Dc.Et.m (424 174)) 77) (au (cr (122 88 (38 (Hk (zx Dc.Et.d Dc.Et.m (424 174) 291) oj (aa 174 284)))))) (au (cr (122 88 (38 (442 T.Ec (WX T) (aa 174 (aa 602 483))))))))))) (au (aF (605 (605 88)))))))
 refine 180;refine 176;refine pE (K:=_) (a:=l) (xs:=vs) (fun i σ H2=>ah H H2/\(∃zs,H2 D=some 733/\Paired (fun v r=>jR H2 v r/\v≠.ref D) zs (iU aC 225 []))/\(∀r∈iU aC (ac.take i) [],r.length=aC.length)/\∃x y,σ=[some 283,some (.ref lh),some 118,x,y,none]) {S1,{[],e1,.nil},(fun r hr=>by cases hr),none,none,rfl} (1044 (z.1 _ _ hl)) (fun i x σ H2 q_ z=>?_) (fun σ H2 z=>?_);obtain⟨S2,⟨zs,d2,pz⟩,rl,x0,y0,rfl⟩:=z;rw[6,q_];ext:72;have eu:iU aC (ac.take (i+1)) []=iU aC 225 []++[rowOne aC (iU aC 225 []) nd]:=by rw[gx cV,Fo]
 have al:(iU aC 225 []).length=i:=by rw[TJ,bU];simp;omega
 generalize hA:iU aC (ac.take i) []=acc at pz rl eu al;have N2:=N0.same S2;have zl:zs.length=i:=by rw[bY pz,al]
 refine{_,rfl,a,dx,_,_,rfl,N2.at_,rfl,pp,rfl,{_,bC.of N2.parts},fun D2 xW=>?_};refine zD (xs:=nd.parts.map fun(n:Nat)=>V.int (n:Int)) (fun _ x y=>∃p:Nat,x=V.int (p:Int)/\zs[p]?=some y) xW 134 (847 (S _ _ N2.parts)) ?_ 821 863;ext:38;have hz:zs[p]?=some zs[p]:=bM 23;exact{_,rfl,_,rfl,D,_,_,_,rfl,rfl,S _ _ d2,dA hz,q _ _ ah.refl ⟨p,rfl,hz⟩};rw[21,S3];have MT:tE H3 D2 (247 p):=by refine{ys,e3,RT (fun p y hy=>?_) p};obtain⟨r,f_,h1,_⟩:=gg pz hy;rw[getD_some f_];exact h1.same S3
 have Cz:∀r∈(nd.parts.map fun p=>acc.getD p []),r.length=aC.length:=by intro r f_;rw[dJ]at f_;obtain⟨p,hp,rfl⟩:=f_;have CP:=(730 i).2 p hp;have hz:acc[p]?=some acc[p]:=bM 23;rw[getD_some hz];exact rl _ (uS _)
 have ar:(247 p).length=nd.op.arity:=by rw[az];exact(730 i).1
 have one:(rowOne aC acc nd).length=aC.length:=by unfold rowOne;split;rename_i hb;exact adb hb ar Mq Cz;rw[zB,az,l8]
 have N3:=N0.same b5;have d3:=S3 _ _ d2;refine(851 N3.at_);rw[ZB];refine aaL rfl d3 (R:=fun v H4=>ah H3 H4/\jR H4 v (rowOne aC acc nd)/\v≠.ref D) (fun v H4 ⟨S4,hv,Pq⟩=>?_) 314 314;have gM:ah H H4:=fun b o z=>S4 _ _ (751 z);refine{zs,S4 _ _ d3,by rw[zl,sizeLine_eq];omega,fun b o z=>?_,{_,aM,?_},?_,_,_,rfl};rw[ay (bF z f1)];exact gM _ _ z;rw[eu];have lM:jR (upd H4 D (80 (zs++[v]))) v (rowOne aC acc nd)/\v≠.ref D:=by obtain⟨p,e,h⟩:=hv;exact{{p,e,by rw[ay (393 Pq (by rw[e,z]))];exact h},Pq}
 refine kE (bR (fun v' r f_=>?_) pz) lM;obtain⟨⟨p,e,h⟩,h2⟩:=f_;exact{{p,e,by rw[ay (393 h2 (by rw[e,z]))];exact S4 _ _ (632 h)},h2};intro r f_;rw[eu]at f_;rcases bP.mp f_ with h|h;exact rl r h;rw[cM]at h;rw[h];exact one;rw[20,aeH];have ed:rowOne aC acc nd=wt nd.op (247 p):=by unfold rowOne;rw[if_pos hb]
 refine{_,rfl,a,dx,_,_,rfl,N3.at_,rfl,.inr nd.op.kind,_,rfl,hv,g,fd,_,_,kk,rfl,ok,hr.mono 23,kp,bd,_,rfl,_,rfl,?_};refine{nd,a,dx,iD,pp,D2,_,rfl,N3,Ho,MT,ar,fun r f_=>{by rw[Cz r f_];exact Mq,by rw[Cz r f_];exact hsz},fun H4 D4 S4 f4 e4=>q _ H4 871};have z':D4=D:=V.ref.inj z;rw[z',d3]at f4;cases f4;have ed:rowOne aC acc nd=zB nd.op (247 p) aC:=by unfold rowOne;rw[if_neg (by rw[hb];exact df)]
 refine{_,rfl,_,rfl,_,rfl,nd,a,dx,iD,pp,D2,lh,_,aC,rfl,N3,hb,MT,ar,Cz,hh.same b5,h8,hsz,fun H4 D4 S4 f4 e4=>q _ H4 871};have z':D4=D:=V.ref.inj z;rw[z',d3]at f4;cases f4;obtain⟨S2,⟨zs,d2,pz⟩,rl,x0,y0,rfl⟩:=z;rw[bK,gW]at pz rl;have kk:=k H2 S2;obtain⟨n0,n1,en⟩:∃i n,ac=i++[n]:={ac.dropLast,ac.getLast ne,(E4 ne).symm};have eu:=Fo aC n0 n1 [];rw[<-en]at eu;rw[eu]at pz rl kk;rw[oK]at kk;obtain⟨vI,v,rfl,pr⟩:=L5 pz;obtain⟨⟨p,rfl,hp⟩,_⟩:=pr;have ll:=rl _ (mV _ (cM.mpr rfl));generalize rowOne aC (iU aC n0 []) n1=r at hp ll kk;have Va:r≠[]:=fun z=>by rw[z]at ll;simp at ll;omega
 obtain⟨r0,r1,rfl⟩:∃i n,r=i++[n]:={r.dropLast,r.getLast Va,(E4 Va).symm};rw[bH]at hp;simp only[ajN,oK]at kk;exact{_,rfl,_,rfl,D,_,_,_,rfl,rfl,d2,qX,_,rfl,p,_,_,_,rfl,rfl,hp,qX,kk}
theorem boot_all:gS "all"=some (.builtin "all"):=by decide+kernel
theorem T4{f:Int->Bool}:∀{ns:List Int}{ys:List V},Paired (fun x y=>∃n:Int,x=V.int n/\y=.bl (f n)) 210 ys->ys=(592 f).map V.bl
 |[],_,h=>by cases h;rfl
 |n::ns,_,.cons ⟨m,e,e2⟩ t=>by have e':n=m:=V.int.inj e;rw[T4 t,e2,e'];rfl
def agz:Sp:=fun vs H Q _=>∃n:Int,vs=[.int n]/\Q (.bl (279 (0<=n) (n<8))) H
theorem afN:bf ["number"] ["number"] (a_ RB):=17
theorem sI(T:65):aE P w K mg base bj 1 T.oy.a T.oy.fd ["number"] agz:=by refine T.oy.F.ok afN 28 19;ext:90;refine(421 (au (aF (zM j8 tL ap 56 (cF T.Pk)))));refine 341;cases hd:decide (0<=n)with|true=>rw[hd]at k;exact 874|false=>rw[hd]at k;exact aU df k
def YB:Sp:=fun vs H Q _=>∃n:Int,vs=[.int n]/\Q (.bl 936) H
theorem abh:bf ["number"] ["number"] (a_ P8):=17
theorem S_(T:65):aE P w K mg base bj 1 T.yG.a T.yG.fd ["number"] YB:=by refine T.yG.F.ok abh 28 19;ext:90;refine(421 (au (aF (zM j8 j8 ap 56 (cF T.Uf)))));refine 341;cases hd:decide (1<=n)with|true=>rw[hd]at k;exact 874|false=>rw[hd]at k;exact aU df k
def mQ(lo hi n:Int):Bool:=decide (lo<=n)&&decide (n<=hi)
def acm:Sp:=fun vs H Q _=>∃(l:Addr)(ns:List Int)(lo hi:Int),vs=[.ref l,.int lo,.int hi]/\H l=some 971/\ns.length<=100000/\∀H',ah H H'->Q (.bl (ns.all (mQ lo hi))) H'
theorem Jq:bf ["numbers","least","most","number"] ["numbers","least","most"] (a_ P1):=17
theorem Lg(T:65):aE P w K mg base bj 1 T.Ap.a T.Ap.fd ["numbers","least","most"] acm:=by
 refine T.Ap.F.ok Jq 28 19;obtain⟨l,ns,lo,hi,rfl,_⟩:=h;rfl;obtain⟨l,ns,lo,hi,rfl,hl,sz,k⟩:=h;refine(421 (au (aF (cw (abo rfl) rfl T.aiA boot_all (38 (j6 rfl Jq.nd (io 56) (own:=[("number",3)]) 20 (46 (351 Jq.nd)) 645 (46 (zM j8 j8 179 174 88))))))));refine 501;refine yg (xs:=ns.map V.int) (fun _ x y=>∃n:Int,x=V.int n/\y=.bl (mQ lo hi n)) hD 134 886 (by rw[az,sizeLine_eq];omega) 567 940;rw[dJ]at hx;obtain⟨n,_,rfl⟩:=hx;have q':=q (.bl (mQ lo hi n)) H2 ah.refl ⟨n,rfl,rfl⟩;refine 1011;unfold mQ at q';cases hd:decide (lo<=n)with|true=>rw[hd]at q';exact aS rfl {_,rfl,_,_,rfl,rfl,q'}|false=>rw[hd]at q';exact aU df q'
 have ey:ys=(592 (mQ lo hi)).map V.bl:=T4 p;rw[ey]at e;refine{D,_,rfl,aq.of e,?_};have kk:=k H' S;rw[Kk];exact kk
end PC
namespace PC
open Vbavaf (onceAt alwaysAt inside)
theorem aab(r:123)(s k:Nat):((r.drop s).take k).any id=true↔∃j,s<=j/\j<s+k/\r.getD j false=true:=by
 rw[qe];ext:67;rintro⟨b,hb,Dk⟩;obtain⟨i,hi,e⟩:=KP hb;rw[bU,cy]at hi;rw[KG,KH]at e;refine{s+i,by omega,by omega,?_};rw[dI,bM 23,e];exact Dk;rintro⟨j,h1,h2,h3⟩;have hj:j<r.length:=by rcases EY j r.length with h|h;exact h;rw[dI,kW h]at h3;cases h3
 refine{true,?_,rfl};rw[dI,bM hj]at h3;have qZ:r[j]=true:=h3;rw[<-qZ];have:((r.drop s).take k)[j-s]?=some r[j]:=by rw[E6,if_pos 23,K1,show s+(j-s)=j by omega,bM hj]
 exact ej this
theorem Vg{a:Nat}{b:305}{r:123}{i e:Nat}(hi:i<r.length)(he:e<=i):(dM a b r i e).any id=true↔∃j,e<=j/\j+a<=i/\(∀n,b=some n->i<=j+n)/\r.getD j false=true:=by
 unfold dM;rw[aab];have hf:jV b i e<=i:=by unfold jV;cases b with|none=>exact he|some n=>dsimp only;omega
 ext:67;rintro⟨j,h1,h2,h3⟩;refine{j,?_,by omega,fun n hn=>?_,h3};unfold jV at h1;cases b<;>dsimp only at h1<;>omega;subst hn;unfold jV at h1;dsimp only at h1;omega;rintro⟨j,h1,h2,h3,h4⟩;have hs:jV b i e<=j:=by unfold jV;cases b with|none=>exact h1|some n=>have:=h3 n rfl;ext:0;omega
 exact{j,by omega,by omega,h4}
theorem wC(a:Nat)(b:305)(d:Nat):inside a b d=true↔a<=d/\∀n,b=some n->d<=n:=by unfold inside;rw[dm,decide_eq_true_eq];cases b with|none=>simp|some n=>simp
theorem acL{a:Nat}{b:305}{r:123}{i:Nat}(hi:i<r.length):(dM a b r i 0).any id=uW a b r i:=by rw[h_,Vg hi (bA _)];unfold uW;rw[qe];ext:67;rintro⟨j,_,h2,h3,h4⟩;refine{i-j,gR.mpr 23,?_};rw[dm,wC,show i-(i-j)=j by omega];exact⟨842,h4⟩;rintro⟨d,hd,h⟩;rw[gR]at hd;rw[dm,wC]at h;exact{i-d,bA _,by omega,fun n hn=>by have:=h.1.2 n hn;omega,h.2}
end PC
namespace PC
open Vbavaf (onceAt alwaysAt sinceAt countAt inside bit total)
theorem ZM(r:123)(s k:Nat):((r.drop s).take k).all id=true↔∀j,s<=j->j<s+k->j<r.length->r.getD j false=true:=by
 rw[kU];ext:67;intro h j h1 h2 hj;have hm:((r.drop s).take k)[j-s]?=some r[j]:=by rw[E6,if_pos 23,K1,show s+(j-s)=j by omega,bM hj]
 have:=h _ (ej hm);rw[dI,bM hj];ext:64;intro h b hb;obtain⟨i,hi,e⟩:=KP hb;rw[bU,cy]at hi;rw[KG,KH]at e;have:=h (s+i) 23 23 23;rw[dI,bM 23,e]at this;ext:64
theorem afx{a:Nat}{b:305}{r:123}{i:Nat}(hi:i<r.length):(dM a b r i 0).all id=uX a b r i:=by
 rw[h_];unfold dM uX;rw[ZM,kU];have hf:jV b i 0<=i:=by unfold jV;cases b with|none=>exact bA _|some n=>dsimp only;omega
 ext:67;intro h d hd;rw[gR]at hd;rw[sB,sv];by_cases lB:inside a b d=true;right;rw[wC]at lB;have hs:jV b i 0<=i-d:=by unfold jV;cases b with|none=>exact bA _|some n=>have:=lB.2 n rfl;ext:0;omega
 exact h (i-d) 23 23 23;left;simpa using lB;intro h j h1 h2 h3;have:=h (i-j) (gR.mpr 23);rw[sB,sv,show i-(i-j)=j by omega]at this;rcases this with h4|h4;exfalso;have lB:inside a b (i-j)=true:=by rw[wC];refine{by omega,fun n hn=>?_};subst hn;unfold jV at h1;dsimp only at h1;omega
 rw[lB]at h4;cases h4;exact h4
theorem ya(r:123):∀(i j:Nat),j<=i->(fK r (i+1)<=j↔∀m,j<m->m<=i->r.getD m false=true)
 |0,j,h=>by(have e:j=0:=by omega);subst e;ext:67;intro _ m h1 h2;omega;intro _;unfold fK;split;exact aV _;exact aV _
 |i+1,j,h=>by have e:fK r (i+1+1)=if r.getD (i+1) false=true then fK r (i+1)else i+1:=rfl;rw[e];by_cases hj:j=i+1;subst hj;ext:67;intro _ m h1 h2;omega;intro _;split;(have h0:fK r (i+1)<=i:=(ya r i i 227).mpr fun m h1 h2=>by omega);omega;exact aV _;have ih:=ya r i j 23;split;rename_i hr;rw[ih];ext:67;intro hm m h1 h2;by_cases F8:m=i+1;rw[F8];exact hr;exact hm m h1 23;intro hm m h1 h2;exact hm m h1 23;rename_i hr;ext:67;intro jU;omega;intro hm;exact 89 (hm (i+1) 23 227) hr
theorem ab3{a:Nat}{b:305}{r q:123}{i:Nat}(hi:i<q.length):(dM a b q i (fK r (i+1))).any id=xP a b r q i:=by
 have h0:fK r (i+1)<=i:=(ya r i i 227).mpr fun m h1 h2=>by omega
 rw[h_,Vg hi h0];unfold xP;rw[qe];ext:67;rintro⟨j,h1,h2,h3,h4⟩;refine{i-j,gR.mpr 23,?_};rw[dm,wC,dm,show i-(i-j)=j by omega,kU];refine{842,h4,fun m hm=>?_};rw[gR]at hm;exact(ya r i j 23).mp h1 (i-m) 23 23;rintro⟨d,hd,h⟩;rw[gR]at hd;rw[dm,wC,dm,kU]at h;refine{i-d,(ya r i (i-d) 23).mpr fun m h1 h2=>?_,by omega,fun n hn=>by have:=h.1.2 n hn;omega,h.2.1};have:=h.2.2 (i-m) (gR.mpr 23);rw[show i-(i-m)=m by omega]at this;ext:64
theorem NP:∀l:List Nat,total l=l.sum
 |[]=>rfl
 |x::t=>by show x+total t=_;rw[NP t];simp
theorem ad5{k n:Nat}{r:123}{i:Nat}(hi:i<r.length):decide (k<=((seenOf n r i).map bit).sum)=xQ k n r i:=by
 unfold xQ;rw[NP];have e:((seenOf n r i).map bit).reverse=(bu (min n (i+1))).map fun d=>bit (r.getD (i-d) false):=by(have hl:(seenOf n r i).length=min n (i+1):=by unfold seenOf;rw[bU,cy];omega);refine xI (by rw[ie,az,hl,az,l8]) fun d h1 h2=>?_;rw[az,l8]at h2;rw[List.getElem_reverse,E7,E7,Ww];congr 1;unfold seenOf;rw[KG,KH,dI,bM 23];simp only[ajN,az,bU,cy];congr 1;omega
 rw[<-e,List.sum_reverse]
end PC
namespace PC
open Vbavaf (F Atom size cells horizon)
def dE(l:34)(i:Nat):Op:=match l[i]? with
 |some a=>.cmp a.x a.op a.n
 |none=>.ff
def flat(l:34):F->Nat->Nat->List Nd
 |.const b,_,st=>[996]
 |.atom i,_,st=>[{dE l i,[],st}]
 |.not f,n,st=>flat l f n st++[{.not,[n+size f-1],st}]
 |.and f g,n,st=>flat l f n st++flat l g 220 603++[316]
 |.or f g,n,st=>flat l f n st++flat l g 220 603++[320]
 |.prev f,n,st=>flat l f n (st+1)++[{.prev,[n+size f-1],st}]
 |.rose f,n,st=>flat l f n (st+1)++[{.rose,[n+size f-1],st}]
 |.once a b f,n,st=>flat l f n 693++[{.once a b,[n+size f-1],st}]
 |.always a b f,n,st=>flat l f n 693++[{.always a b,[n+size f-1],st}]
 |.since a b f g,n,st=>flat l f n 693++flat l g 220 1059++[792]
 |.count k m f,n,st=>flat l f n (st+(m-1))++[{.count k m,[n+size f-1],st}]
theorem size_pos:∀f:F,1<=size f:=by intro f;cases f<;>simp[size]<;>omega
theorem dX(l:34):∀(f:F)(n st:Nat),(228 st).length=size f:=by intro f;induction f<;>intro n st<;>simp_all[flat,size]<;>omega
def fV{α:Type}(d:α)(G:570):List Nd->List α->List α
 |[],acc=>acc
 |nd::t,acc=>fV d G t (acc++[G nd.op (488 d)])
theorem vc{α:Type}(d:α)(G:570):∀(a b:List Nd)(acc:List α),fV d G (a++b) acc=fV d G b (fV d G a acc)
 |[],_,_=>rfl
 |_::a,b,acc=>vc d G a b _
def aK{α:Type}(l:34)(G:570):F->α
 |.const b=>G (if b=true then .tt else .ff) []
 |.atom i=>G (dE l i) []
 |.not f=>G .not [aK l G f]
 |.and f g=>G .and [aK l G f,aK l G g]
 |.or f g=>G .or [aK l G f,aK l G g]
 |.prev f=>G .prev [aK l G f]
 |.rose f=>G .rose [aK l G f]
 |.once a b f=>G 406 [aK l G f]
 |.always a b f=>G 296 [aK l G f]
 |.since a b f g=>G 389 [aK l G f,aK l G g]
 |.count k n f=>G (948 k n) [aK l G f]
theorem getD_last{α:Type}{d x:α}{l:612}{n:Nat}(h:l.length=n):(l++[x]).getD n d=x:=by subst h;simp[dI]
theorem tu{α:Type}{d:α}{l m:612}{n:Nat}(h:n<l.length):(l++m).getD n d=l.getD n d:=by rw[dI,dI,xw h]
theorem rK{α:Type}(l:34)(d:α)(G:570):∀(f:F)(n st:Nat)(acc:List α),acc.length=n->∃mid,fV d G 968 acc=acc++mid++[aK l G f]/\mid.length+1=size f:=by
 have one:∀(f:F)(o:Op)(s1 s2:Nat)(n:Nat)(acc:List α),acc.length=n->(∃mid,fV d G (228 s1) acc=acc++mid++[aK l G f]/\mid.length+1=size f)->∃mid,fV d G (635 l) acc=acc++mid++[G o [aK l G f]]/\mid.length+1=1+size f:=by intro f o s1 s2 n acc hn ⟨mid,e,hm⟩;refine{mid++[aK l G f],?_,by simp;omega};rw[vc,e];show acc++mid++[aK l G f]++[G o ([n+size f-1].map fun p=>(acc++mid++[aK l G f]).getD p d)]=_;rw[bL,lY,getD_last 638];simp
 have two:∀(f g:F)(o:Op)(s1 s2 s3:Nat)(n:Nat)(acc:List α),acc.length=n->(∃mid,fV d G (228 s1) acc=acc++mid++[aK l G f]/\mid.length+1=size f)->(∀mO:List α,mO.length=n+size f->∃mid,fV d G (flat l g 220 s2) mO=mO++mid++[aK l G g]/\mid.length+1=size g)->∃mid,fV d G (527 l) acc=acc++mid++[G o [aK l G f,aK l G g]]/\mid.length+1=1+size f+size g:=by intro f g o s1 s2 s3 n acc hn ⟨mid,e,hm⟩ hg;obtain⟨iO,e2,oS⟩:=hg (acc++mid++[aK l G f]) 79;refine{mid++[aK l G f]++iO++[aK l G g],?_,by simp;omega};rw[vc,vc,e,e2];show acc++mid++[aK l G f]++iO++[aK l G g]++[G o ([n+size f-1,n+size f+size g-1].map fun p=>(653 iO).getD p d)]=_;(have h1:(653 iO).getD 286 d=aK l G f:=by rw[tu 79,tu 79,getD_last 79]);(have h2:(653 iO).getD 461 d=aK l G g:=by rw[getD_last 79]);rw[bL,bL,lY,h1,h2];simp
 intro f;induction f with|const b=>intro n st acc h;exact{[],by simp[flat,fV,aK],rfl}|atom i=>intro n st acc h;exact{[],by simp[flat,fV,aK],rfl}|not f ih=>intro n st acc h;exact 206|prev f ih=>intro n st acc h;exact 206|rose f ih=>intro n st acc h;exact 206|once a b f ih=>intro n st acc h;exact 206|always a b f ih=>intro n st acc h;exact 206|count k m f ih=>intro n st acc h;exact 206|and f g ih aP=>intro n st acc h;exact 263|or f g ih aP=>intro n st acc h;exact 263|since a b f g ih aP=>intro n st acc h;exact 263
end PC
namespace PC
open Vbavaf (F Atom size cells horizon plus greater beyond rows nowOf)
theorem PF:∀(ac:List Nd)(acc:List 305),jG ac acc=fV none fF ac acc
 |[],_=>rfl
 |_::t,acc=>PF t _
theorem IN(h:305):plus 0 h=h:=by cases h with|none=>rfl|some n=>show some (0+n)=some n;rw[r_]
theorem aar(l:34)(i:Nat):(dE l i).reach=some 0:=by unfold dE;split<;>rfl
theorem ahm(l:34):∀f:F,aK l fF f=horizon f:=by intro f;induction f with|const b=>cases b<;>rfl|atom i=>show beyond (dE l i).reach (some 0)=some 0;rw[aar];rfl|not f ih=>show plus 0 922=_;rw[IN,ih];rfl|and f g ih aP=>show plus 0 578=_;rw[IN,ih,aP];rfl|or f g ih aP=>show plus 0 578=_;rw[IN,ih,aP];rfl|prev f ih=>show plus 1 922=_;rw[ih];rfl|rose f ih=>show plus 1 922=_;rw[ih];rfl|once a b f ih=>show beyond b 922=_;rw[ih];rfl|always a b f ih=>show beyond b 922=_;rw[ih];rfl|since a b f g ih aP=>show beyond b 578=_;rw[ih,aP];rfl|count k n f ih=>show plus (n-1) 922=_;rw[ih];rfl
theorem Zc(l:34)(f:F):(jG 721 []).getLast?.getD none=horizon f:=by obtain⟨mid,e,_⟩:=rK l none fF f 0 0 [] rfl;rw[PF,e,oK,ahm];rfl
theorem ahE(h:305):Vbavaf.optInt h=endOf h:=by cases h<;>rfl
theorem Yc(l:34):∀(f:F)(n st i:Nat)(nd:Nd),(228 st)[i]?=some nd->nd.parts.length=nd.op.arity/\∀p∈nd.parts,p<n+i:=by
 have one:∀(f:F)(o:Op)(s1 s2 n i:Nat)(nd:Nd),o.arity=1->(∀(i:Nat)(nd:Nd),(228 s1)[i]?=some nd->nd.parts.length=nd.op.arity/\∀p∈nd.parts,p<n+i)->(635 l)[i]?=some nd->nd.parts.length=nd.op.arity/\∀p∈nd.parts,p<n+i:=by intro f o s1 s2 n i nd ha ih h;have hl:=dX l f n s1;have hp:=size_pos f;rcases EY i (flat l f n s1).length with hi|hi;rw[xw hi]at h;exact ih i nd h;rw[J_ hi]at h;(have JX:i-(228 s1).length=0:=by rcases Nat.eq_zero_or_pos (i-(flat l f n s1).length)with h0|h0;exact h0;rw[kW 79]at h;ext:91);rw[JX]at h;have e:nd={o,[n+size f-1],s2}:=(dZ h).symm;subst e;refine{ha.symm,fun p pF=>?_};rw[cM]at pF;omega
 have two:∀(f g:F)(o:Op)(s1 s2 s3 n i:Nat)(nd:Nd),o.arity=2->(∀(i:Nat)(nd:Nd),(228 s1)[i]?=some nd->nd.parts.length=nd.op.arity/\∀p∈nd.parts,p<n+i)->(∀(i:Nat)(nd:Nd),(flat l g 220 s2)[i]?=some nd->nd.parts.length=nd.op.arity/\∀p∈nd.parts,p<n+size f+i)->(527 l)[i]?=some nd->nd.parts.length=nd.op.arity/\∀p∈nd.parts,p<n+i:=by intro f g o s1 s2 s3 n i nd ha ih aP h;have hl:=dX l f n s1;have iH:=dX l g 220 s2;have hp:=size_pos f;have hp2:=size_pos g;rcases EY i (flat l f n s1).length with hi|hi;rw[gp,xw hi]at h;exact ih i nd h;rcases EY i (size f+size g)with hj|hj;rw[xw 638,J_ hi]at h;obtain⟨h1,h2⟩:=aP _ nd h;refine{h1,fun p pF=>?_};have:=h2 p pF;omega;rw[J_ 638]at h;(have JX:i-(flat l f n s1++flat l g 220 s2).length=0:=by rcases Nat.eq_zero_or_pos (i-(flat l f n s1++flat l g (n+size f) s2).length)with h0|h0;exact h0;rw[kW (by simp only[aR,jl];omega)]at h;ext:91);rw[JX]at h;have e:nd=(183 s3):=(dZ h).symm;subst e;refine{ha.symm,fun p pF=>?_};simp only[bE,ic,or_false]at pF;omega
 have leaf:∀(o:Op)(st n i:Nat)(nd:Nd),o.arity=0->[(668:Nd)][i]?=some nd->nd.parts.length=nd.op.arity/\∀p∈nd.parts,p<n+i:=by intro o st n i nd ha h;(have e:nd=668:=by have:=ej h;rw[cM]at this;ext:64);subst e;exact{ha.symm,fun p hp=>by cases hp}
 intro f;induction f with|const b=>intro n st i nd h;exact leaf _ st n i nd (by cases b<;>rfl) h|atom j=>intro n st i nd h;exact leaf _ st n i nd (by unfold dE;split<;>rfl) h|not f ih=>intro n st i nd h;exact 133|prev f ih=>intro n st i nd h;exact 133|rose f ih=>intro n st i nd h;exact 133|once a b f ih=>intro n st i nd h;exact 133|always a b f ih=>intro n st i nd h;exact 133|count k m f ih=>intro n st i nd h;exact 133|and f g ih aP=>intro n st i nd h;exact 191|or f g ih aP=>intro n st i nd h;exact 191|since a b f g ih aP=>intro n st i nd h;exact 191
theorem vK(l:34)(f:F):zb 721:=fun i nd h=>by obtain⟨h1,h2⟩:=Yc l f 0 0 i nd h;exact{h1,fun p hp=>by have:=h2 p hp;omega}
end PC
namespace PC
open Vbavaf (F Atom size cells horizon rows nowOf onceAt alwaysAt sinceAt countAt holds)
def fb(aC:147)(o:Op)(vs:List 123):List Bool:=if o.kd=true then wt o vs else zB o vs aC
theorem UU(aC:147):∀(ac:List Nd)(acc:List 123),iU aC ac acc=fV [] 788 ac acc
 |[],_=>rfl
 |_::t,acc=>UU aC t _
theorem O7(h:List 123):∀f:F,(rows f h).length=h.length:=by intro f;induction f<;>simp_all[rows]
def bT(l:34):F->Prop
 |.const _=>True
 |.atom i=>i<l.length
 |.not f=>bT l f
 |.and f g=>bT l f/\bT l g
 |.or f g=>bT l f/\bT l g
 |.prev f=>bT l f
 |.rose f=>bT l f
 |.once _ _ f=>bT l f
 |.always _ _ f=>bT l f
 |.since _ _ f g=>bT l f/\bT l g
 |.count _ _ f=>bT l f
theorem qI{α:Type}{n m:Nat}{f g:Nat->α}(e:n=m)(h:∀i,i<n->f i=g i):(bu n).map f=(bu m).map g:=by subst e;exact jN fun i hi=>h i (gR.mp hi)
theorem FI{α β:Type}(d:α)(xs:612)(f:α->β):xs.map f=(bu xs.length).map fun i=>f (xs.getD i d):=by
 refine xI 42 fun i h1 h2=>?_;have hi:i<xs.length:=by simpa using h1
 simp[dI,bM hi]
theorem acJ(l:34)(aC:147)(hn:1<=aC.length):∀f:F,bT l f->aK l 788 f=rows f (aC.map 824):=by
 have len:∀f:F,(153 f).length=aC.length:=fun f=>by rw[O7,az]
 intro f
 induction f with|const b=>intro _;(have e:rows (.const b) (aC.map 824)=(bu aC.length).map fun _=>b:=by show(aC.map 824).map (fun _=>b)=_;rw[gq,FI []];rfl);rw[e];cases b<;>rfl|atom i=>intro h;have hi:i<l.length:=h;ext:159;show fb aC (dE l i) []=(aC.map 824).map fun x=>x.getD i false;rw[ea,gq,FI []];show(bu aC.length).map _=_;refine qI rfl fun j hj=>?_;show holds (aC.getD j []) _=(nowOf l (aC.getD j [])).getD i false;unfold nowOf;rw[dI (l:=l.map _),d_,bM hi];rfl|not f ih=>intro h;have ih:=ih h;show fb aC .not [aK l 788 f]=(153 f).map fun v=>!v;rw[ih,FI false];show(bu aC.length).map _=_;refine qI (len f).symm fun j hj=>rfl|and f g ih aP=>intro h;show fb aC .and [aK l 788 f,aK l 788 g]=_;ext:130;exact qI (by rw[az]) fun j hj=>rfl|or f g ih aP=>intro h;show fb aC .or [aK l 788 f,aK l 788 g]=_;ext:130;exact qI (by rw[az]) fun j hj=>rfl|prev f ih=>(intro h;show fb aC .prev [aK l 788 f]=_;rw[ih h];show false::(153 f).dropLast=(bu (aC.map 824).length).map fun i=>decide (0<i)&&(153 f).getD (i-1) false;have hl:=len f;refine xI 79 fun j h1 h2=>?_;simp only[aR,A6]at h1;rw[E7,Ww];cases j with|zero=>rfl|succ j=>rw[Wg,ajO];simp[dI,bM 1038])|rose f ih=>(intro h;show fb aC .rose [aK l 788 f]=_;rw[ih h];show(((153 f).zip (true::(153 f).dropLast)).map fun p=>p.1&&!p.2)=(bu (aC.map 824).length).map fun i=>decide (0<i)&&((153 f).getD i false&&!(153 f).getD (i-1) false);have hl:=len f;refine xI 79 fun j h1 h2=>?_;simp only[az,KR,aR,A6]at h1;rw[E7,E7,Ww,List.getElem_zip];cases j with|zero=>simp|succ j=>dsimp only;rw[Wg,ajO];simp[dI,bM 1038,bM (show j+1<(153 f).length by omega)])|once a b f ih=>intro h;show fb aC 406 [aK l 788 f]=_;rw[ih h];exact qI 584 fun j hj=>acL hj|always a b f ih=>intro h;show fb aC 296 [aK l 788 f]=_;rw[ih h];exact qI 584 fun j hj=>afx hj|since a b f g ih aP=>intro h;show fb aC 389 [aK l 788 f,aK l 788 g]=_;rw[ih h.1,aP h.2];exact qI 584 fun j hj=>ab3 (by show j<(153 g).length;rw[len g,<-len f];exact hj)|count k n f ih=>intro h;show fb aC (948 k n) [aK l 788 f]=_;rw[ih h];exact qI 584 fun j hj=>ad5 hj
theorem Z2(l:34)(aC:147)(hn:1<=aC.length)(f:F)(h:bT l f):(iU aC 721 []).getLast?.getD []=rows f (aC.map 824):=by obtain⟨mid,e,_⟩:=rK l [] 788 f 0 0 [] rfl;rw[UU,e,oK,acJ l aC hn f h];rfl
end PC
namespace PC
open Vbavaf (F Atom R read window want text place reading upTo WINDOW Bytes signed opOf size sameAtom MOST)
def dF(l:34):F->List Atom
 |.const _=>[]
 |.atom i=>(l[i]?).toList
 |.not f=>dF l f
 |.and f g=>dF l f++dF l g
 |.or f g=>dF l f++dF l g
 |.prev f=>dF l f
 |.rose f=>dF l f
 |.once _ _ f=>dF l f
 |.always _ _ f=>dF l f
 |.since _ _ f g=>dF l f++dF l g
 |.count _ _ f=>dF l f
def u0(a:Nat)(b:305):Prop:=a<=60/\∀n,b=some n->a<=n/\n<=60
def gl:F->Prop
 |.const _=>True
 |.atom _=>True
 |.not f=>gl f
 |.and f g=>gl f/\gl g
 |.or f g=>gl f/\gl g
 |.prev f=>gl f
 |.rose f=>gl f
 |.once a b f=>u0 a b/\gl f
 |.always a b f=>u0 a b/\gl f
 |.since a b f g=>u0 a b/\gl f/\gl g
 |.count k n f=>(k<=n/\1<=n/\n<=60)/\gl f
def rG(a:Atom):Prop:=a.x<8/\a.op<6/\-1000000<=a.n/\a.n<=1000000
def nG(l:34)(a:Atom):List Atom:=(place l a).2
structure gf(l:List Atom)(f:F)(l1:List Atom):Prop where
 ext:∃e,l1=l++e
 bW:bT l1 f
 fold:l1=(dF l1 f).foldl nG l
 wf:gl f
 aw:∀a∈dF l1 f,rG a
theorem bT.ext{l:34}(e:34):∀{f:F},bT l f->bT (l++e) f
 |.const _,_=>trivial
 |.atom i,h=>by show i<(l++e).length;have:i<l.length:=h;rw[bw];omega
 |.not f,h=>bT.ext e (f:=f) h
 |.and f g,h=>474
 |.or f g,h=>474
 |.prev f,h=>bT.ext e (f:=f) h
 |.rose f,h=>bT.ext e (f:=f) h
 |.once _ _ f,h=>bT.ext e (f:=f) h
 |.always _ _ f,h=>bT.ext e (f:=f) h
 |.since _ _ f g,h=>474
 |.count _ _ f,h=>bT.ext e (f:=f) h
theorem kN{l:34}(e:34):∀{f:F},bT l f->dF (l++e) f=dF l f
 |.const _,_=>rfl
 |.atom i,h=>by have hi:i<l.length:=h;show((l++e)[i]?).toList=(l[i]?).toList;rw[xw hi]
 |.not f,h=>kN e (f:=f) h
 |.and f g,h=>by show _++_=_++_;ext:175
 |.or f g,h=>by show _++_=_++_;ext:175
 |.prev f,h=>kN e (f:=f) h
 |.rose f,h=>kN e (f:=f) h
 |.once _ _ f,h=>kN e (f:=f) h
 |.always _ _ f,h=>kN e (f:=f) h
 |.since _ _ f g,h=>by show _++_=_++_;ext:175
 |.count _ _ f,h=>kN e (f:=f) h
theorem jy{l:34}(e:34):∀{f:F}{n c:Nat},bT l f->flat (l++e) f n c=flat l f n c
 |.const _,_,_,_=>rfl
 |.atom i,n,c,h=>by have hi:i<l.length:=h;unfold flat dE;rw[xw hi]
 |.not f,n,c,h=>by unfold flat;rw[jy e (f:=f) h]
 |.and f g,n,c,h=>by unfold flat;ext:176
 |.or f g,n,c,h=>by unfold flat;ext:176
 |.prev f,n,c,h=>by unfold flat;rw[jy e (f:=f) h]
 |.rose f,n,c,h=>by unfold flat;rw[jy e (f:=f) h]
 |.once _ _ f,n,c,h=>by unfold flat;rw[jy e (f:=f) h]
 |.always _ _ f,n,c,h=>by unfold flat;rw[jy e (f:=f) h]
 |.since _ _ f g,n,c,h=>by unfold flat;ext:176
 |.count _ _ f,n,c,h=>by unfold flat;rw[jy e (f:=f) h]
theorem gf.bin{l l1 l2:34}{f g h:F}(x:gf l f l1)(y:gf l1 g l2)(e1:∀q,dF q h=dF q f++dF q g)(e2:∀q,bT q f->bT q g->bT q h)(w:gl h):gf l h l2:=by
 obtain⟨a,ea⟩:=x.ext;obtain⟨b,eb⟩:=y.ext;have el:dF l2 f=dF l1 f:=by rw[eb];exact kN b x.bW
 refine{{a++b,by rw[eb,ea,gp]},e2 _ (by rw[eb];exact x.bW.ext b) y.bW,?_,w,fun z hz=>?_};rw[e1,el,m4,<-x.fold];exact y.fold;rw[e1,el]at hz;rcases bP.mp hz with q|q;exact x.aw z q;exact y.aw z q
theorem gf.un{l l1:34}{f h:F}(x:gf l f l1)(e1:dF l1 h=dF l1 f)(e2:bT l1 f->bT l1 h)(w:gl h):gf l h l1:={x.ext,e2 x.bW,by rw[e1];exact x.fold,w,by rw[e1];exact x.aw}
theorem Ml{a b:Atom}(q:qh a b=true):a=b:=by unfold qh at q;rw[dm,dm,lX,lX,lX]at q;obtain⟨q1,q2,q3⟩:=q;cases a;cases b;simp_all
theorem place_spec(l:34)(a:Atom):(place l a).1<(place l a).2.length/\(∃e,(place l a).2=l++e)/\∃b,(place l a).2[(place l a).1]?=some b/\b=a:=by unfold place;ext:0;split;rename_i h;refine{h,{[],(fN _).symm},l[l.findIdx (qh a)],bM h,?_};exact(Ml (ajP (w:=h))).symm;refine{by simp,{[a],rfl},a,by simp,rfl}
theorem aix{l l1:34}{x:Nat}{t r:39}{f:F}(hx:x<8)(h:jO l x t=.ok (f,l1,r)):gf l f l1/\size f+r.length<=t.length:=by
 unfold jO at h
 cases t with|nil=>cases h|cons o t2=>dsimp only at h;cases ho:opOf o with|none=>rw[ho]at h;cases h|some op=>rw[ho]at h;ext:22;cases t2 with|nil=>cases h|cons n r1=>dsimp only at h;cases hn:l_ n with|none=>rw[hn]at h;cases h|some z=>rw[hn]at h;ext:22;ext:91;obtain⟨p1,p2,b,p3,p4⟩:=place_spec l {x:=x,op:=op,n:=z};subst p4;refine{{p2,p1,?_,trivial,?_},?_};show _=AJ nG l (((229 l).2[(229 l).1]?).toList);rw[p3];rfl;intro a ha;have tG:a∈((229 l).2[(229 l).1]?).toList:=ha;rw[p3]at tG;(have e:a={x:=x,op:=op,n:=z}:=by simpa using tG);subst e;(have wM:op<6:=by unfold opOf at ho;dsimp only at ho;split at ho;cases ho;assumption;cases ho);refine{hx,wM,?_};(have up:∀{w:Bytes}{m:Nat},upTo 1000000 w=some m->m<=1000000:=by intro w m q;unfold upTo at q;cases e:qg w with|none=>rw[e]at q;cases q|some v=>rw[e]at q;change(if v<=1000000 then some v else none)=some m at q;split at q;cases q;assumption;cases q);show-1000000<=z/\z<=1000000;unfold l_ at hn;split at hn;(cases e:upTo 1000000 _ with|none=>rw[e]at hn;cases hn|some m=>rw[e]at hn;have:=up e;cases hn;show-1000000<=-(m:Int)/\-(m:Int)<=1000000;omega);(cases e:upTo 1000000 _ with|none=>rw[e]at hn;cases hn|some m=>rw[e]at hn;have:=up e;cases hn;show-1000000<=(m:Int)/\(m:Int)<=1000000;omega);show 1+_<=_;ext:158
end PC
namespace PC
open Vbavaf (F Atom R read window want text place reading upTo WINDOW Bytes signed opOf size sameAtom MOST)
theorem C1{m n:Nat}{w:Bytes}(q:upTo m w=some n):n<=m:=by unfold upTo at q;cases e:qg w with|none=>rw[e]at q;cases q|some v=>rw[e]at q;change(if v<=m then some v else none)=some n at q;split at q;cases q;assumption;cases q
theorem JF{t r:39}{v:403}(h:window t=.ok (v,r)):u0 v.1 v.2:=by
 unfold window at h;repeat' split at h
 all_goals cases h
 rename_i q _ _ _ _;exact{C1 956,fun n z=>nomatch z};rename_i hb _ _;refine{C1 956,fun n z=>?_};cases z;exact{by omega,C1 956};exact{bA _,fun n z=>nomatch z}
theorem Oe{t r:39}{v:Nat×Nat}(h:fJ t=.ok (v,r)):v.1<=v.2/\1<=v.2/\v.2<=60:=by
 unfold fJ at h;repeat' split at h
 all_goals cases h
 rename_i hb;exact{by omega,by omega,C1 956}
def sN(rec:Rec):Prop:=∀m d l t f l1 t1,rec m d l t=.ok (f,l1,t1)->gf l f l1/\size f+t1.length<=t.length
theorem Us{rec:Rec}(g:sN rec){m:Nat}{w:Bytes}{mk:775}(hm:(∀f g,mk f g=.or f g)\/∀f g,mk f g=.and f g){d:Nat}{l:34}{t:39}{f:F}{l1:34}{t1:39}(h:1022):gf l f l1/\size f+t1.length<=t.length:=by unfold i3 at h;cases e:rec (m+1) d l t with|error q=>rw[e]at h;cases h|ok x=>obtain⟨f1,l2,t2⟩:=x;ext:52;ext:22;cases t2 with|nil=>cases h;exact⟨o1,s1⟩|cons w' r=>dsimp only at h;by_cases hw:w'=w;rw[if_pos hw]at h;(cases e2:rec m d l2 r with|error q=>rw[e2]at h;cases h|ok y=>obtain⟨f2,l3,t3⟩:=y;rw[e2]at h;obtain⟨o2,s2⟩:=g _ _ _ _ _ _ _ e2;ext:91;rw[aR]at s1;rcases hm with q|q;rw[q];exact 382;rw[q];exact 382);rw[if_neg hw]at h;ext:91;exact⟨o1,s1⟩
theorem v_{rec:Rec}(g:sN rec){d:Nat}{l:34}{t r:39}{mk:F->F}{f:F}{l1:34}{t1:39}(e1:∀q f,dF q (mk f)=dF q f)(e2:∀q f,bT q f->bT q (mk f))(e3:∀f,gl f->gl (mk f))(e4:∀f,size (mk f)=1+size f)(h:1055):gf l f l1/\size f+t1.length<=r.length+1:=by unfold fH at h;ext:184;cases e:rec 2 (d-1) l r with|error q=>rw[e]at h;cases h|ok x=>obtain⟨f1,l2,t2⟩:=x;ext:52;ext:91;exact{o1.un (e1 _ _) (e2 _ _) (e3 _ o1.wf),by rw[e4];omega}
theorem aim{rec:Rec}(g:sN rec){d:Nat}{l:34}{t r:39}{f:F}{l1:34}{t1:39}(h:ml rec d l t r=.ok (f,l1,t1)):gf l f l1/\size f+t1.length<=r.length:=by unfold ml at h;ext:184;cases e:rec 0 (d-1) l r with|error q=>rw[e]at h;cases h|ok x=>obtain⟨f1,l2,t2⟩:=x;ext:52;ext:22;cases e2:want [41] t2 with|error q=>rw[e2]at h;cases h|ok y=>rw[e2]at h;have:=nU e2;ext:84;ext:91;rw[aR]at s1;exact{o1,by omega}
theorem OZ{rec:Rec}(g:sN rec){d:Nat}{l:34}{v:403}{r:39}{f:F}{l1:34}{t1:39}(hv:u0 v.1 v.2)(h:kK rec d l v r=.ok (f,l1,t1)):gf l f l1/\size f+t1.length<=r.length+1:=by unfold kK at h;cases e0:want [40] r with|error q=>rw[e0]at h;cases h|ok r2=>rw[e0]at h;have:=nU e0;ext:84;ext:22;cases e:rec 0 (d-1) l r2 with|error q=>rw[e]at h;cases h|ok x=>obtain⟨f1,l2,t2⟩:=x;ext:52;ext:22;cases e1:want [44] t2 with|error q=>rw[e1]at h;cases h|ok y=>rw[e1]at h;have:=nU e1;ext:84;ext:22;cases e2:rec 0 (d-1) l2 y with|error q=>rw[e2]at h;cases h|ok z=>obtain⟨f2,l3,t3⟩:=z;rw[e2]at h;obtain⟨o2,s2⟩:=g _ _ _ _ _ _ _ e2;ext:22;cases e3:want [41] t3 with|error q=>rw[e3]at h;cases h|ok y2=>rw[e3]at h;have:=nU e3;ext:84;ext:91;refine{o1.bin o2 684 (fun _ a b=>⟨a,b⟩) ⟨hv,o1.wf,o2.wf⟩,?_};show 1+size f1+size f2+_<=_;simp only[aR]at*;omega
theorem ae1{w:Bytes}{x:Nat}(h:reading w=some x):x<8:=by unfold reading at h;ext:23;ext:184;omega;ext:91;ext:91
theorem XH{rec:Rec}(g:sN rec){d:Nat}{l:34}{t:39}{f:F}{l1:34}{t1:39}(h:dq rec d l t=.ok (f,l1,t1)):gf l f l1/\size f+t1.length<=t.length:=by
 unfold dq at h
 cases t with|nil=>cases h|cons w r=>dsimp only at h;(have fin:∀{b:Bool},(xH (F.const b,l,r):R)=.ok (f,l1,t1)->gf l f l1/\size f+t1.length<=(w::r).length:=by intro b h;ext:91;exact{{{[],(fN _).symm},trivial,rfl,trivial,fun a ha=>nomatch ha},by show 1+_<=_;rw[aR];omega});have nx:∀{n:Nat},gf l f l1/\n<=r.length->gf l f l1/\n<=(w::r).length:=fun q=>{q.1,Nat.le_succ_of_le q.2};ext:166;ext:166;(ext:23;·exact v_ (mk:=.not) g 291 661 535 684 h);(ext:23;·exact v_ (mk:=.prev) g 291 661 535 684 h);(ext:23;·exact v_ (mk:=.rose) g 291 661 535 684 h);ext:23;(cases e:window r with|error q=>rw[e]at h;cases h|ok x=>obtain⟨v,r1⟩:=x;rw[e]at h;obtain⟨q1,q2⟩:=v_ (mk:=fun f=>.once v.1 v.2 f) g 291 661 (fun _ q=>{JF e,q}) 684 h;exact 629);ext:23;(cases e:window r with|error q=>rw[e]at h;cases h|ok x=>obtain⟨v,r1⟩:=x;rw[e]at h;obtain⟨q1,q2⟩:=v_ (mk:=fun f=>.always v.1 v.2 f) g 291 661 (fun _ q=>{JF e,q}) 684 h;exact 629);ext:23;(cases e:fJ r with|error q=>rw[e]at h;cases h|ok x=>obtain⟨v,r1⟩:=x;rw[e]at h;obtain⟨q1,q2⟩:=v_ (mk:=fun f=>.count v.1 v.2 f) g 291 661 (fun _ q=>{Oe e,q}) 684 h;exact{q1,by have:=DN e;rw[aR];omega});ext:23;(cases e:window r with|error q=>rw[e]at h;cases h|ok x=>obtain⟨v,r1⟩:=x;rw[e]at h;change(if d=0 then _ else _)=_ at h;ext:184;obtain⟨q1,q2⟩:=OZ g (JF e) h;exact 629);(ext:23;·exact nx (aim g h));cases e:reading w with|none=>rw[e]at h;cases h|some x=>rw[e]at h;exact nx (aix (ae1 e) h)
theorem Bf:∀k,sN (read k)
 |0=>fun m d l t f l1 t1 h=>nomatch h
 |k+1=>fun m d l t f l1 t1 h=>by rw[vB]at h;unfold sW at h;ext:23;ext:23;exact Us (Bf k) (.inl fun _ _=>rfl) h;exact Us (Bf k) (.inr fun _ _=>rfl) h;exact XH (Bf k) h
theorem nP:sN rd:=fun m d l t f l1 t1 h=>Bf _ _ _ _ _ _ _ _ h
end PC
namespace PC
open Vbavaf (F Atom R read window want text place reading upTo WINDOW Bytes signed opOf size cells sameAtom MOST)
def nextJ(m:Nat)(word:Bytes)(d:Nat)(l:34)(t:39):Except Nat 1015:=match t with
 |w::r=>if w=word then(match rd m d l r with
  |.error e=>.error e
  |.ok (g,l2,t2)=>.ok (some g,l2,t2))else .ok (none,l,t)
 |[]=>.ok (none,l,t)
def vt(mk:775)(done:List F)(last:F):Except Nat 1015->R
 |.error e=>.error e
 |.ok (none,l,t)=>.ok (done.foldr mk last,l,t)
 |.ok (some g,l,t)=>.ok (done.foldr mk (mk last g),l,t)
theorem FL{m:Nat}{word:Bytes}{mk:775}{d:Nat}{l:34}{t:39}(h:rd m d l t=i3 m word mk rd d l t):rd m d l t=match rd (m+1) d l t with|.error e=>.error e|.ok (f,l1,t1)=>vt mk [] f (nextJ m word d l1 t1):=by rw[h];unfold i3;cases rd (m+1) d l t with|error e=>rfl|ok x=>obtain⟨f,l1,t1⟩:=x;ext:0;unfold nextJ;cases t1 with|nil=>rfl|cons w r=>dsimp only;by_cases hw:w=word;rw[if_pos hw,if_pos hw];(cases rd m d l1 r with|error e=>rfl|ok y=>rfl);rw[if_neg hw,if_neg hw];rfl
theorem MV{m:Nat}{word:Bytes}{mk:775}{d:Nat}{l:34}{r:39}{done:List F}{last:F}(h:rd m d l r=i3 m word mk rd d l r):vt mk done last (nextJ m word d l (word::r))=match rd (m+1) d l r with|.error e=>.error e|.ok (f,l1,t1)=>vt mk 67 f (nextJ m word d l1 t1):=by
 have e:nextJ m word d l (word::r)=(match rd m d l r with|.error e=>.error e|.ok (g,l2,t2)=>.ok (some g,l2,t2)):=by unfold nextJ;ext:0;ext:143
 rw[e,FL h];cases rd (m+1) d l r with|error e=>rfl|ok x=>obtain⟨f,l1,t1⟩:=x;ext:0;cases nextJ m word d l1 t1 with|error e=>rfl|ok y=>obtain⟨g,l2,t2⟩:=y;cases g with|none=>show xH (done.foldr mk (mk last ([].foldr mk f)),l2,t2)=xH ((done++[last]).foldr mk f,l2,t2);rw[List.foldr_append];rfl|some g=>show xH (done.foldr mk (mk last ([].foldr mk (mk f g))),l2,t2)=xH ((done++[last]).foldr mk (mk f g),l2,t2);rw[List.foldr_append];rfl
theorem Q4{m:Nat}{word:Bytes}{mk:775}{d:Nat}{l:34}{t:39}{done:List F}{last:F}(h:∀r,t≠word::r):vt mk done last (nextJ m word d l t)=.ok (done.foldr mk last,l,t):=by unfold nextJ;cases t with|nil=>rfl|cons w r=>dsimp only;rw[if_neg fun z=>h r (by rw[z])];rfl
def cR(l:34):List F->Nat->Nat->List Nd
 |[],_,_=>[]
 |f::fs,n,c=>flat l f n c++cR l fs 220 (c+cells f)
def idxs:List F->Nat->List Nat
 |[],_=>[]
 |f::fs,n=>286::idxs fs 220
def db(fs:List F):Nat:=(fs.map size).sum
def dD(fs:List F):Nat:=(fs.map cells).sum
theorem Gw(l:34):∀(fs:List F)(f:F)(n c:Nat),cR l (fs++[f]) n c=cR l fs n c++flat l f (n+db fs) (c+dD fs)
 |[],f,n,c=>by simp[cR,db,dD]
 |g::gs,f,n,c=>by show flat l g n c++cR l (gs++[f]) _ _=_;rw[Gw l gs];simp[cR,db,dD,eE]
theorem Am:∀(fs:List F)(f:F)(n:Nat),idxs (fs++[f]) n=idxs fs n++[n+db fs+size f-1]
 |[],f,n=>by simp[idxs,db]
 |g::gs,f,n=>by show _::idxs (gs++[f]) _=_;rw[Am gs];simp[idxs,db,eE]
theorem vx(fs:List F)(f:F):db (fs++[f])=db fs+size f:=by simp[db]
theorem QC(fs:List F)(f:F):dD (fs++[f])=dD fs+cells f:=by simp[dD]
theorem Gh{l:34}(e:34):∀{fs:List F}{n c:Nat},(∀f∈fs,bT l f)->cR (l++e) fs n c=cR l fs n c
 |[],_,_,_=>rfl
 |f::fs,n,c,h=>by unfold cR;rw[jy e (h f cY),Gh e fun g hg=>h g (cZ _ hg)]
theorem sQ:∀(fs:List F)(n:Nat),(idxs fs n).length=fs.length
 |[],_=>rfl
 |f::fs,n=>by show(idxs fs _).length+1=fs.length+1;rw[sQ fs]
def Jn(op:Op)(C:Nat):List Nat->Nat->Nat->List Nd
 |[],_,_=>[]
 |p::ps,whole,len=>{op,[p,whole],C}::Jn op C ps len (len+1)
def whole(ps:71)(w len:Nat):Nat:=if ps=[]then w else len+ps.length-1
theorem Io(op:Op)(C:Nat):∀(ps:List Nat)(p w len:Nat),Jn op C (ps++[p]) w len=Jn op C ps w len++[{op,[p,whole ps w len],C}]
 |[],p,w,len=>rfl
 |q::ps,p,w,len=>by show _::Jn op C (ps++[p]) len (len+1)=_::(Jn op C ps len (len+1)++_);rw[Io op C ps];congr 2;unfold whole;cases ps with|nil=>simp|cons a as=>simp;omega
theorem Gd(op:Op)(C:Nat):∀(ps:List Nat)(w len:Nat),(Jn op C ps w len).length=ps.length
 |[],_,_=>rfl
 |p::ps,w,len=>by show(Jn op C ps len (len+1)).length+1=ps.length+1;rw[Gd op C ps]
structure Joins(mk:F->F->F)(op:Op):Prop where
 flat:∀l f g n c,flat l (mk f g) n c=PC.flat l f n c++PC.flat l g (n+size f) (c+cells f)++[⟨op,[n+size f-1,n+size f+size g-1],c+cells f+cells g⟩]
 size:∀f g,size (mk f g)=1+size f+size g
 cells:∀f g,cells (mk f g)=cells f+cells g
theorem GW:Joins .or .or:=794
theorem Jf:Joins .and .and:=794
theorem JP{mk:775}{op:Op}(J:Joins mk op):∀(done:List F)(last:F),size (326 mk)=db 67+done.length
 |[],last=>by simp[db]
 |f::ds,last=>by show size 790=_;rw[J.size,JP J ds];simp[db];omega
theorem Do{mk:775}{op:Op}(J:Joins mk op):∀(done:List F)(last:F),cells (326 mk)=dD 67
 |[],last=>by simp[dD]
 |f::ds,last=>by show cells 790=_;rw[J.cells,Do J ds];simp[dD]
theorem GK{mk:775}{op:Op}(J:Joins mk op)(l:34):∀(done:List F)(last:F)(n c:Nat),flat l (326 mk) n c=cR l 67 n c++Jn op (c+dD 67) (idxs done n).reverse (n+db 67-1) (n+db 67)
 |[],last,n,c=>by simp[cR,idxs,Jn]
 |f::ds,last,n,c=>by show flat l 790 n c=flat l f n c++cR l (ds++[last]) 220 (c+cells f)++Jn op _ (286::idxs ds 220).reverse _ _;rw[J.flat,GK J l ds,K2,Io];(have e1:c+cells f+dD (ds++[last])=c+dD (f::ds++[last]):=by simp[dD];omega);(have e2:n+size f+db (ds++[last])=n+db (f::ds++[last]):=by simp[db];omega);have hs:=JP J ds last;have hp:=size_pos last;(have hz:1<=db (ds++[last]):=by rw[vx];omega);rw[e1,e2,gp,gp,gp];congr 3;rw[Do J,e1];congr 4;unfold whole;rw[hs];cases ds with|nil=>rw[show(idxs [] 220).reverse=[]from rfl,if_pos rfl];have:([]:List F).length=0:=rfl;omega|cons a as=>rw[if_neg (by simp[idxs]),ie,sQ];omega
end PC
namespace PC
open PySem PySem.Spec PyProof.Rows L2 XW
open PySem.W (Frag)
variable{P:aT}{w:aI}{K:Frag}{mg:Str->Option Value}{base:Heap}
section
open Vbavaf (Bytes number upTo window text)
structure At(toks:List Bytes)(ws:List Str)(k:Nat)(t:List Bytes):Prop where
 ws:ws=toks.map wd
 drop:toks.drop k=t
 le:k<=toks.length
 ne:∀w∈toks,w≠[]
 on:∀w∈toks,w.length<=1000
def hd:List Bytes->Str
 |[]=>("":String)
 |w::_=>wd w
theorem At.head{toks t:39}{ws:132}{k:Nat}(x:774):ws.getD k (("":String):Str)=hd t:=by
 have e:ws.getD k (("":String):Str)=(ws.drop k).headD (("":String):Str):=by rw[dI,List.headD_eq_head?_getD,List.head?_drop]
 rw[e,x.ws,<-Wv,x.drop];cases t<;>rfl
theorem At.next{toks t:39}{ws:132}{k:Nat}{w:Bytes}(x:At toks ws k (w::t)):At toks ws (k+1) t:=by refine{x.ws,?_,?_,x.ne,x.on};rw[<-kj,x.drop];rfl;have h:=eC pX x.drop;rw[cy,aR]at h;omega
theorem At.len{toks t:39}{ws:132}{k:Nat}(x:774):t.length+k=toks.length:=by have h:=eC pX x.drop;rw[cy]at h;have:=x.le;omega
def pB(toks:39)(e:Nat):Int:=((toks.length+1-e:Nat):Int)
theorem At.err{toks t:39}{ws:132}{k:Nat}(x:774):(k:Int)+1=pB toks t.length:=by have:=x.len;unfold pB;omega
theorem At.mem{toks t:39}{ws:132}{k:Nat}(x:774):∀w∈t,w∈toks:=fun w h=>ajQ (by rw[x.drop];exact h)
theorem Lo{b c:Nat}(hc:c∈fS)(h:sg b=c):b=c:=by unfold sg at h;ext:23;exact h;rw[<-h]at hc;exact 89 hc 29
theorem ab8{u:Bytes}(hu:∀c∈u,c∈fS):∀{w:Bytes},w.map sg=u->w=u:=by induction u with|nil=>intro w h;exact List.map_eq_nil_iff.mp h|cons c t ih=>intro w h;cases w with|nil=>cases h|cons b r=>rw[bL]at h;injection h with h1 h2;rw[Lo (hu c cY) h1,ih (fun a ha=>hu a (cZ _ ha)) h2]
theorem SY{u:Bytes}(hu:∀c∈u,c∈fS):u.map sg=u:=by induction u with|nil=>rfl|cons c t ih=>rw[bL,ih fun a ha=>hu a (cZ _ ha)];unfold sg;rw[if_pos (hu c cY)]
theorem IG{u:Bytes}(hu:∀c∈u,c∈fS)(w:Bytes):wd w=(⟨u.toArray⟩:Str)↔w=u:=by refine{fun h=>?_,fun h=>?_};refine ab8 hu ?_;have:=eC (fun s:Str=>s.cps.toList) h;simpa[wd]using this;rw[h];unfold wd;rw[SY hu]
theorem gE{u:Bytes}{t:39}{s:Str}(hs:s=⟨u.toArray⟩)(hu:∀c∈u,c∈fS)(hn:u≠[]):hd t=s↔∃r,t=u::r:=by rw[hs];cases t with|nil=>refine{fun h=>?_,fun⟨r,h⟩=>nomatch h};(have q:(("":String):Str).cps.toList=u:=by have:=eC (fun s:Str=>s.cps.toList) h;simpa[hd]using this);(have q0:(("":String):Str).cps.toList=[]:=by decide);rw[q0]at q;exact 89 q.symm hn|cons w r=>show wd w=_↔_;rw[IG hu];exact{fun h=>{r,by rw[h]},fun⟨r',h⟩=>(List.cons.inj h).1}
theorem ah5(b:Nat):kY (sg b)=kY b:=by
 unfold sg;split;rfl;rename_i h;by_cases hd:kY b=true;exfalso;unfold kY at hd;rw[dm,bg,bg]at hd;have k:∀c,48<=c->c<=57->c∈fS:=by intro c h1 h2;ext:125;rcases this with z|z|z|z|z|z|z|z|z|z<;>rw[z]<;>decide
 exact h (k b hd.1 hd.2);rw[Bool.not_eq_true]at hd;rw[hd];decide
theorem Ht(w:Bytes):number (w.map sg)=number w:=by
 unfold number;rw[az,Kk];have e:(kY∘sg)=kY:=funext ah5;rw[e];by_cases h:w.all kY=true;have e2:w.map sg=w:=SY fun c hc=>by have q:=kU.mp h c hc;unfold kY at q;rw[dm,bg,bg]at q;ext:125;rcases this with z|z|z|z|z|z|z|z|z|z<;>rw[z]<;>decide
 rw[e2];rw[if_neg fun z=>h z.1,if_neg fun z=>h z.1]
theorem NI(t:39):∀c∈(hd t).cps.toList,c<128:=by cases t with|nil=>intro c h;(have q0:(hd []).cps.toList=[]:=by decide);rw[q0]at h;cases h|cons w r=>intro c h;(have h':c∈w.map sg:=by simpa[hd,wd]using h);obtain⟨b,_,rfl⟩:=dJ.mp h';exact aa4 b
def numOf:List Bytes->Option Nat
 |[]=>none
 |w::_=>number w
theorem aeI(t:39):number (hd t).cps.toList=numOf t:=by cases t with|nil=>decide|cons w r=>show number (wd w).cps.toList=number w;rw[<-Ht w];simp[wd]
theorem At.short{toks t:39}{ws:132}{k:Nat}(x:774):(hd t).length<=1000:=by cases t with|nil=>show(("":String):Str).length<=_;decide|cons w r=>show(wd w).length<=_;rw[zT];exact x.on w (x.mem w cY)
def numAt(lo hi:Nat)(t:39):Option (Nat×List Bytes):=match t with
 |[]=>none
 |w::r=>match number w with
  |none=>none
  |some n=>if lo<=n/\n<=hi then some (n,r)else none
def adP(CW C CN:Addr):Sp:=fun vs H Q E=>∃(r:Addr)(R:Rs)(toks t:List Bytes)(lo hi:Nat),vs=[.ref r,.int (lo:Int),.int (hi:Int)]/\cU C CN H r R/\At toks R.ws R.k t/\
 (∀n t1,numAt lo hi t=some (n,t1)->Q (.int (n:Int)) (257 r (302 C)))/\(numAt lo hi t=none->dC CW E r R.pn H (pB toks t.length))
theorem Od:bf ["self","least","most","value"] ["self","least","most"] (a_ Sr):=17
theorem Ep(T:65):aE P w K mg base 154 4 T.tH.a T.tH.fd ["self","least","most"] (adP T.bX T.bc T.aJ):=by
 refine T.tH.F.jZ Od 28 19;obtain⟨r,R,toks,t,lo,hi,rfl,_⟩:=h;rfl;obtain⟨r,R,toks,t,lo,hi,rfl,X,a,k1,k2⟩:=h;refine(421 (aj (92 Od.nd (bJ T.wG (G_ T) hr (38 144) (hk:=by omega))) (aj (cr (440 (38 (MQ (SM (P0 174)) (Ff (zM j8 j8 179 174 88)))))) (1043 124))));refine(165 R);rw[a.head];refine{_,rfl,NI t,a.short,?_};rw[aeI]
 cases hn:numOf t with|none=>(have e0:numAt lo hi t=none:=by cases t with|nil=>rfl|cons w r=>unfold numAt;ext:0;rw[show number w=none from hn]);refine(522 X.at_);refine{_,rfl,aU 29 ?_};refine{r,R,false,rfl,X,fun z=>791,fun _=>?_};rw[a.err];exact k2 e0|some n=>(obtain⟨w0,t1,et⟩:∃w0 t1,t=w0::t1:=by cases t with|nil=>cases hn|cons w r=>exact⟨w,r,rfl⟩);subst et;have hw:number w0=some n:=hn;refine(522 X.at_);refine{_,rfl,aS (show(!decide (Cg (some n)=V.bo))=true by rw[sv,m5];exact fun z=>nomatch z) ?_};refine 1011;by_cases h1:lo<=n;refine aS 139 486;by_cases h2:n<=hi;(have e0:numAt lo hi (w0::t1)=some (n,t1):=by unfold numAt;ext:0;rw[hw];ext:0;rw[if_pos ⟨h1,h2⟩]);refine{r,R,_,rfl,X,fun _=>?_,fun z=>?_};exact{_,rfl,r,_,_,rfl,X.at_,rfl,r,R,rfl,X,_,rfl,k1 _ _ e0};rw[m5]at z;exact 89 (show(n:Int)<=hi by omega) z;refine{r,R,_,rfl,X,fun z=>?_,fun _=>?_};rw[bg]at z;omega;rw[a.err];refine k2 ?_;unfold numAt;ext:0;rw[hw];ext:0;rw[if_neg fun z=>h2 z.2];refine 572;refine{r,R,_,rfl,X,fun z=>791,fun _=>?_};rw[a.err];refine k2 ?_;unfold numAt;ext:0;rw[hw];ext:0;rw[if_neg fun z=>h1 z.1]
end
section
open Vbavaf (Bytes number upTo window text WINDOW)
theorem mq{lo hi:Nat}{t t1:39}{n:Nat}(h:numAt lo hi t=some (n,t1)):∃w,t=w::t1/\number w=some n/\lo<=n/\n<=hi:=by unfold numAt at h;cases t with|nil=>cases h|cons w r=>dsimp only at h;cases hn:number w with|none=>rw[hn]at h;cases h|some m=>rw[hn]at h;ext:22;ext:23;rename_i q;ext:91;exact⟨w,rfl,hn,q.1,q.2⟩;ext:91
theorem LY{m:Nat}{w:Bytes}{t:39}:upTo m w=(numAt 0 m (w::t)).map (·.1):=by unfold K3 numAt;ext:0;cases hn:number w with|none=>rfl|some n=>show(if n<=m then some n else none)=_;ext:0;by_cases h:n<=m;rw[if_pos h,if_pos {bA _,h}];rfl;rw[if_neg h,if_neg fun z=>h z.2];rfl
theorem EC{m n:Nat}{w:Bytes}{t t1:39}(h:numAt 0 m (w::t)=some (n,t1)):upTo m w=some n/\t1=t:=by obtain⟨w',e,_⟩:=mq h;injection e with _ e;rw[LY (t:=t),h];exact⟨rfl,e.symm⟩
theorem Ij{m:Nat}{w:Bytes}{t:39}(h:numAt 0 m (w::t)=none):upTo m w=none:=by rw[LY (t:=t),h];rfl
theorem agB{t:39}(h:∀r,t≠[91]::r):window t=.ok ((0,none),t):=by unfold window;ext:149
abbrev WR:=Except Nat (403×List Bytes)
def u5(a b:Nat)(r3:39):WR:=match r3 with
 |[93]::r4=>.ok ((a,some b),r4)
 |_=>.error r3.length
def ue(a:Nat)(r2:39):WR:=match r2 with
 |[93]::r3=>.ok ((a,none),r3)
 |b::r3=>match upTo WINDOW b with
  |none=>.error r2.length
  |some b=>if b<a then .error r2.length else u5 a b r3
 |[]=>.error 0
def yy(a:Nat)(r1:39):WR:=match r1 with
 |[44]::r2=>ue a r2
 |_=>.error r1.length
def yd(r:39):WR:=match r with
 |a::r1=>(match upTo WINDOW a with
  |none=>.error r.length
  |some a=>yy a r1)
 |[]=>.error 0
theorem aes(r:39):window ([91]::r)=yd r:=rfl
theorem afi{r:39}(h:numAt 0 60 r=none):yd r=.error r.length:=by cases r with|nil=>rfl|cons a r1=>unfold yd;ext:0;ext:160
theorem afe{r r1:39}{a:Nat}(h:numAt 0 60 r=some (a,r1)):yd r=yy a r1:=by obtain⟨w,e,_⟩:=mq h;subst e;unfold yd;ext:0;rw[show upTo WINDOW w=some a from(EC h).1]
theorem adY{a:Nat}{r1:39}(h:∀r2,r1≠[44]::r2):yy a r1=.error r1.length:=by unfold yy;ext:149
theorem aeF{a:Nat}{r2:39}:yy a ([44]::r2)=ue a r2:=rfl
theorem ahS{a:Nat}{r3:39}:ue a ([93]::r3)=.ok ((a,none),r3):=rfl
theorem WZ{a b:Nat}{r4:39}:u5 a b ([93]::r4)=.ok ((a,some b),r4):=rfl
theorem acS{a b:Nat}{r3:39}(h:∀r4,r3≠[93]::r4):u5 a b r3=.error r3.length:=by unfold u5;ext:149
theorem T7{a:Nat}{b:Bytes}{r3:39}(h:∀q,b::r3≠[93]::q):ue a (b::r3)=match upTo WINDOW b with|none=>.error (b::r3).length|some b'=>if b'<a then .error (b::r3).length else u5 a b' r3:=by unfold ue;split;rename_i e;exact 89 e (h _);rename_i e;injection e with e1 e2;subst e1;subst e2;rfl;rename_i e;cases e
theorem Xl{a:Nat}{r2:39}(h2:∀r3,r2≠[93]::r3)(h3:numAt a 60 r2=none):ue a r2=.error r2.length:=by cases r2 with|nil=>rfl|cons b r3=>rw[T7 h2];unfold numAt at h3;dsimp only at h3;unfold K3;cases hn:number b with|none=>rfl|some n=>rw[hn]at h3;dsimp only at h3;ext:81;refine Nat.lt_of_not_le fun z=>?_;rw[if_pos ⟨z,uj⟩]at h3;cases h3;ext:177
theorem FX{a n:Nat}{w:Bytes}{t t1:39}(h:numAt a 60 (w::t)=some (n,t1)):upTo WINDOW w=some n/\¬n<a:=by obtain⟨w',e,e2,e3,e4⟩:=mq h;injection e with e0 e;subst e0;unfold K3;rw[e2];exact{by show 285=_;rw[if_pos e4],by omega}
theorem afU{a b:Nat}{r2 r3:39}(h2:∀r3,r2≠[93]::r3)(h3:numAt a 60 r2=some (b,r3)):ue a r2=u5 a b r3:=by obtain⟨w2,e2,_⟩:=mq h3;subst e2;rw[T7 h2,(FX h3).1];ext:0;rw[if_neg (FX h3).2]
theorem acN{t:39}(h:numAt 0 60 t=none):fJ t=.error t.length:=by unfold fJ;split;rename_i a b r;ext:160;rename_i a;ext:160;rfl;rfl
theorem aaX{t t1:39}{k:Nat}(h:numAt 0 60 t=some (k,t1))(h1:numAt (max 1 k) 60 t1=none):fJ t=.error t1.length:=by obtain⟨w,e,_⟩:=mq h;subst e;cases t1 with|nil=>unfold fJ;ext:0;rw[show upTo WINDOW w=some k from(EC h).1];rfl|cons b r=>unfold fJ;ext:0;rw[show upTo WINDOW w=some k from(EC h).1];ext:0;unfold numAt at h1;dsimp only at h1;unfold K3;cases hn:number b with|none=>rfl|some n=>rw[hn]at h1;dsimp only at h1;ext:81;rfl;refine Decidable.byContradiction fun z=>?_;rw[if_pos {by omega,uj}]at h1;cases h1;ext:177;rfl
theorem aaa{t t1 t2:39}{k n:Nat}(h:numAt 0 60 t=some (k,t1))(h1:numAt (max 1 k) 60 t1=some (n,t2)):fJ t=.ok ((k,n),t2):=by obtain⟨w,e,_⟩:=mq h;subst e;obtain⟨w2,e2,Ev,lo,hi⟩:=mq h1;subst e2;unfold fJ;ext:0;rw[show upTo WINDOW w=some k from(EC h).1,(FX h1).1];ext:0;rw[if_neg 23]
end
section
open Vbavaf (Bytes number upTo window text WINDOW)
theorem CI{u:Bytes}{t:39}{s:Str}(hs:s=⟨u.toArray⟩)(hu:∀c∈u,c∈fS)(hn:u≠[]):(!decide (V.str (hd t)=V.str s))=true↔∀r,t≠u::r:=by rw[sv,m5];refine{fun h r z=>h ?_,fun h z=>?_};rw[(gE hs hu hn).mpr ⟨r,z⟩];obtain⟨r,e⟩:=(gE hs hu hn).mp 891;exact h r e
theorem R7:(("[":String):Str)={([91]:Bytes).toArray}:=by decide+kernel
theorem yc:(("]":String):Str)={([93]:Bytes).toArray}:=by decide+kernel
theorem BI:((",":String):Str)={([44]:Bytes).toArray}:=by decide+kernel
theorem MP:(("(":String):Str)={([40]:Bytes).toArray}:=by decide+kernel
theorem C2:((")":String):Str)={([41]:Bytes).toArray}:=by decide+kernel
theorem DD(x:Str)(ys:132):js (.str x) 829=decide (x∈ys):=by unfold js;induction ys with|nil=>rfl|cons y t ih=>rw[bL,rY,ih];show(decide (y=x)||decide (x∈t))=_;by_cases h:y=x;subst h;simp;have h':¬x=y:=fun z=>h z.symm;by_cases h2:x∈t<;>simp[h,h',h2]
def HQ(CW C CN:Addr)(r:Addr)(R:Rs)(toks:39)(H:Hp)(Q:VK)(E:XK):WR->Prop
 |.error e=>dC CW E r R.pn H (pB toks e)
 |.ok ((a,b),t1)=>∀H' p k',bZ r R.pn H H'->At toks R.ws k' t1->cU C CN H' r {R with k:=k'}->H' p=some 680->Q 310 H'
def acq(CW C CN:Addr):Sp:=fun vs H Q E=>∃(r:Addr)(R:Rs)(toks t:List Bytes),vs=[.ref r]/\cU C CN H r R/\At toks R.ws R.k t/\HQ CW C CN r R toks H Q E (window t)
theorem Dq:bf ["reader","latest","earliest"] ["reader"] (a_ Ru):=17
theorem ab7(T:65):aE P w K mg base 154 5 T.CB.a T.CB.fd ["reader"] (acq T.bX T.bc T.aJ):=by
 refine T.CB.F.jZ Dq 28 19;ext:136;refine(421 (aj (554 (73 uB 144 cu) (au (aF (dB (aa ap (38 924)))))) (aj 124 (aj (184 Dq.nd (591 (aa ap 1030))) (162 (aj (90 Dq.nd 924) (aj (554 (73 uB 144 cu) (au (90 Dq.nd (591 (845 1030))))) (162 (au (aF (dB (845 336))))))))))))
 refine{_,rfl,r,_,_,rfl,X.at_,rfl,r,R,rfl,X,rfl,_,rfl,?_};rw[a.head];by_cases h0:∀q,t≠[91]::q;rw[agB h0]at k;refine aS ((CI R7 29 29).mpr h0) {by show 2<=sizeLine;decide,fun p H1 S1 e1=>?_};exact k H1 p R.k (.of S1) a (X.same S1) e1;rw[12,(393 h0 ((CI R7 29 29).mp z))];obtain⟨t1,rfl⟩:∃t1,t=[91]::t1:=by refine ajR fun z=>h0 fun q e=>z ⟨q,e⟩
 rw[aes]at k;ext:97;refine(165 R);ext:122;refine(221 X1.at_);refine{r,_,toks,t1,0,60,rfl,X1,a1,fun la t2 hn=>?_,fun hn=>?_};rw[afe hn]at k;obtain⟨w0,et,_⟩:=mq hn;subst et;have a2:=a1.next;have X2:=X1.nums (R.k+1+1) R.c;have S2:bZ r R.pn H (upd H1 r (.ins T.bc R.dx (cN {R with k:=R.k+1+1}))):=S1.trans .gj;ext:51;generalize upd H1 r (.ins T.bc R.dx (cN {R with k:=R.k+1+1}))=H2 at X2 S2;refine(221 X2.at_);refine(199 X2);rw[a2.head]at hw;obtain⟨t3,et⟩:=(656 BI).mp hw;subst et;rw[aeF]at k;have a3:=a2.next;have X3:=X2.nums (R.k+1+1+1) R.c;have S3:bZ r R.pn H (upd H2 r (.ins T.bc R.dx (cN {R with k:=R.k+1+1+1}))):=S2.trans .gj;ext:51;generalize upd H2 r (.ins T.bc R.dx (cN {R with k:=R.k+1+1+1}))=H3 at X3 S3;refine 342;rw[a3.head];by_cases h3:∀q,t3≠[93]::q
 refine aS ((CI yc 29 29).mpr h3) ?_;refine(522 X3.at_);refine{r,_,toks,t3,la,60,rfl,X3,a3,fun lb t4 ja=>?_,fun ja=>?_};rw[afU h3 ja]at k;obtain⟨w1,et,_⟩:=mq ja;subst et;have a4:=a3.next;have X4:=X3.nums (R.k+1+1+1+1) R.c;have S4:bZ r R.pn H (upd H3 r (.ins T.bc R.dx (cN {R with k:=R.k+1+1+1+1}))):=S3.trans .gj;ext:51;generalize upd H3 r (.ins T.bc R.dx (cN {R with k:=R.k+1+1+1+1}))=H4 at X4 S4;refine(221 X4.at_);refine(199 X4);rw[a4.head]at hw;obtain⟨t5,et⟩:=(656 yc).mp hw;subst et;rw[WZ]at k;have a5:=a4.next;have X5:=X4.nums (R.k+1+1+1+1+1) R.c;refine 293;exact k H5 p _ (S4.trans 806) a5 (X5.same S5) e5;rw[a4.head]at hw;rw[acS (718 ((656 yc).mpr ⟨q,z⟩))]at k;have:=dC.go k S4;rw[<-a4.err]at this;ext:64;rw[Xl h3 ja]at k;exact dC.go k S3;rw[12,(393 h3 ((CI yc 29 29).mp z))];obtain⟨t4,rfl⟩:∃t4,t3=[93]::t4:=by refine ajR fun z=>h3 fun q e=>z ⟨q,e⟩
 rw[ahS]at k;have a4:=a3.next;have X4:=X3.nums (R.k+1+1+1+1) R.c;refine(221 X3.at_);refine(199 X3);refine 293;exact k H5 p _ (S3.trans 806) a4 (X4.same S5) e5;rw[a3.head]at hw;exact 89 ((656 yc).mpr 569) hw;rw[a2.head]at hw;rw[adY (718 ((656 BI).mpr ⟨q,z⟩))]at k;have:=dC.go k S2;rw[<-a2.err]at this;ext:64;rw[afi hn]at k;exact dC.go k S1
abbrev CR2:=Except Nat ((Nat×Nat)×List Bytes)
def Hz(CW C CN:Addr)(r:Addr)(R:Rs)(toks:39)(H:Hp)(Q:VK)(E:XK):CR2->Prop
 |.error e=>dC CW E r R.pn H (pB toks e)
 |.ok ((a,b),t1)=>∀H' p k',bZ r R.pn H H'->At toks R.ws k' t1->cU C CN H' r {R with k:=k'}->H' p=some (.tup [nV a,nV b])->Q 310 H'
def abk(CW C CN:Addr):Sp:=fun vs H Q E=>∃(r:Addr)(R:Rs)(toks t:List Bytes),vs=[.ref r]/\cU C CN H r R/\At toks R.ws R.k t/\Hz CW C CN r R toks H Q E (fJ t)
theorem G4:bf ["reader","least","steps"] ["reader"] (a_ Om):=17
theorem aiR(T:65):aE P w K mg base 154 5 T.Be.a T.Be.fd ["reader"] (abk T.bX T.bc T.aJ):=by
 refine T.Be.F.jZ G4 28 19;ext:136;refine(421 (aj (184 G4.nd (591 (aa ap 1030))) (aj (90 G4.nd (591 (aa (353 (aa ap 483)) 1030))) (au (aF (dB (845 336)))))));refine(221 X.at_);refine{r,R,toks,t,0,60,rfl,X,a,fun la t1 hn=>?_,fun hn=>?_};obtain⟨w0,et,_⟩:=mq hn;subst et;ext:97;ext:122;refine{_,rfl,r,_,_,rfl,X1.at_,rfl,_,rfl,_,_,rfl,?_};have em:(if(la:Int)>1 then(la:Int)else 1)=((max 1 la:Nat):Int):=by split<;>omega
 rw[em];refine{r,_,toks,t1,max 1 la,60,rfl,X1,a1,fun lb t2 ja=>?_,fun ja=>?_};rw[aaa hn ja]at k;obtain⟨w1,et,_⟩:=mq ja;subst et;have a2:=a1.next;have X2:=X1.nums (R.k+1+1) R.c;refine 293;exact k H5 p _ (910 806) a2 (X2.same S5) e5;rw[aaX hn ja]at k;exact dC.go k S1;rw[acN hn]at k;exact k
inductive M':Type where
 |i6|cnt|bo
def gQ(x:Str):M':=if x=("once":String)\/x=("always":String)\/x=("since":String)then .i6 else if x=("count":String)then .cnt else .bo
def adr(CW C CN:Addr):Sp:=fun vs H Q E=>∃(r:Addr)(R:Rs)(toks t:List Bytes)(x:Str),vs=[.ref r,.str x]/\cU C CN H r R/\At toks R.ws R.k t/\match gQ x with
 |.i6=>HQ CW C CN r R toks H Q E (window t)
 |.cnt=>Hz CW C CN r R toks H Q E (fJ t)
 |.bo=>∀H' p,ah H H'->H' p=some (.tup [])->Q 310 H'
theorem abC:bf ["reader","word"] ["reader","word"] (a_ RU):=17
theorem aaG(T:65):aE P w K mg base 154 6 T.Bj.a T.Bj.fd ["reader","word"] (adr T.bX T.bc T.aJ):=by refine T.Bj.F.jZ abC 28 19;obtain⟨r,R,toks,t,x,rfl,_⟩:=h;rfl;obtain⟨r,R,toks,t,x,rfl,X,a,k⟩:=h;refine(421 (aj (554 (bh qY 179 (oh T.qi.m) 77) (au (aF (i8 T.CB (ab7 T) hr 734)))) (aj (554 (73 cD 179 cu) (au (aF (i8 T.Be (aiR T) hr 734)))) (au (aF (dB ae))))));refine{_,rfl,T.qi.a,_,rfl,.inr (T.qi.sq _),rfl,rfl,_,rfl,?_};rw[if_neg 29,DD];unfold gQ at k;by_cases hw:x=("once":String)\/x=("always":String)\/x=("since":String);rw[if_pos hw]at k;refine aS (by rw[bg];simpa using hw) {_,rfl,r,R,toks,t,rfl,X,a,k};rw[if_neg hw]at k;refine aU (by rw[bg];simpa using hw) 195;rw[oQ];by_cases hc:x=("count":String);rw[if_pos hc]at k;exact aS (cK hc) {_,rfl,r,R,toks,t,rfl,X,a,k};rw[if_neg hc]at k;exact aU (by rw[bg];exact hc) {bA _,fun p H1 S1 e1=>k H1 p S1 e1}
end
open AutoSeq1 (wpAny_loadPart')
theorem abI(l:Addr)(items:136)(n:Nat)(dd:513)(sl:274)(x:Value)(e:Value->Bool)(j:Nat)(hj:j<items.size)(cB:e items[j]=true)(ub:∀m(hm:m<items.size),m<j->e items[m]=false):Meets (Builtin.«tuple.index» {[.ref l,x],[]}) (fun A R s=>s.heap.get? l=some {cls:=.type "tuple",dict:=dd,data:=.seq items n,slots:=sl}/\(∀y,y∈items->V0 A.in1 s y x (e y))/\R (.ok (.ret (.int j s.toks))) {s with toks:=s.toks+1}):=.of_wp fun prog w A R s h=>by obtain⟨hp,g,d,tk,os⟩:=s;obtain⟨hl,he,h⟩:=h;wp_walk using xO hl;change wpAny 35 A.in1 (forIn [:min items.size items.size] ((none:96 Fin),()) (fun(i:Nat)(_:Option Fin×Unit)=>(match items[i]? with|some y=>do let b<-eqBool y x;if b=true then(do let v<-retInt (i:Int);pure (ForInStep.done (some v,())))else pure (AO (none,()))|_=>pure (AO (none,())):Sem (ForInStep (Option Fin×Unit))))) _ _ _;rw[Std.Legacy.Range.forIn_eq_forIn_range'];simp only[Std.Legacy.Range.size,K4,E5,Nat.div_one,Nat.min_self];refine E8 _ (fun rest r s'=>r=(none,())/\s'=1040/\∃i,i<=j/\rest=List.range' i (items.size-i)) _ ?_ ?_ _ _ {rfl,rfl,0,bA _,by simp};rintro i rest r s' ⟨rfl,rfl,i',hi,er⟩;(have aY:i'<items.size:=by omega);ext:102;injection er with ei er;subst ei;rw[qd aY];rw[0,(he items[i] (Array.getElem_mem aY) prog w _ _ ?_)];by_cases xg:i=j;subst xg;rw[cB];ext:143;unfold retInt;rw[0,(22 (wpAny_mkInt (s:=1040) 78))];exact 58 (58 831);rw[ub i aY 23,if_neg 29];exact 58 {rfl,rfl,i+1,by omega,er};rintro r s' ⟨rfl,rfl,i',hi,er⟩;exfalso;ext:102;cases er
def aeD(K:Frag):V->List V->Hp->VK->Prop:=fun x xs H Q=>∃(a:Addr)(ys:List V)(y:V)(j:Nat)(z:V),x=V.ref a/\xs=[y]/\bC K H a ys/\jc y=true/\ys.all jc=true/\ys[j]?=some z/\jI z y=true/\
 (∀(m:Nat)(z':V),m<j->ys[m]?=some z'->jI z' y=false)/\Q (.int (j:Nat)) H
theorem ahM{X:Cx}:o9 X "tuple.index" (aeD X.K):=by intro pins s σ H x xs v us Q I rx rxs h;obtain⟨a,ys,y,j,z,rfl,rfl,hs,fy,Hd,hz,Y9,ub,q⟩:=h;cases rx;cases rxs with|cons ry rt=>rename_i uy ut;cases rt;obtain⟨ai,rv,⟨⟨cls,dd,data,sl⟩,ho,hc,n,hd⟩,bK⟩:=I.tuple hs;simp only at hc hd;subst hc hd;obtain⟨u,hu,ru⟩:=rv.get hz;obtain⟨Ib,hje⟩:=dH.mp hu;have hvl:=rv.length;(have hj:j<ai.toArray.size:=by simpa using Ib);refine r6 ajS {_,ho,rfl} PySem.F.entry_tuple_index (PySem.F.args_tuple_index_2 _ _) (abI a ai.toArray n dd sl uy (jd y) j hj ?_ ?_) {ho,fun u' IW=>v6 ry fy rv Hd u' (by simpa using IW),?_};(have e1:ai.toArray[j]=u:=by simpa using hje);rw[e1,Bx ru (P2 Hd hz)];exact Y9;intro m hm hmj;(have hml:m<ai.length:=by simpa using hm);(have hmy:m<ys.length:=by omega);have nI:ys[m]?=some ys[m]:=bM hmy;obtain⟨u2,zE,zZ⟩:=rv.get nI;obtain⟨_,XI⟩:=dH.mp zE;(have e1:ai.toArray[m]=u2:=by simpa using XI);rw[e1,Bx zZ (P2 Hd nI)];exact ub m _ hmj nI;exact{.int (j:Nat),H,I.tok _,569,q}
section
open Vbavaf (F Atom R Bytes number upTo text signed opOf OPS reading size cells place)
theorem boot_abs:gS "abs"=some (.builtin "abs"):=by decide+kernel
def lT:List Bytes:=[[60],[60,61],[61],[033,61],[62,61],[62]]
theorem Xk:OPS=lT:=by decide+kernel
def jn:List Str:=[("<":String),("<=":String),("=":String),("!=":String),(">=":String),(">":String)]
theorem ahq:jn=lT.map wd:=by decide+kernel
theorem yI{w u:Bytes}(hu:∀c∈u,c∈fS):wd w=wd u↔w=u:=by have:wd u=(⟨u.toArray⟩:Str):=(IG hu u).mpr rfl;rw[this];exact IG hu w
theorem Oq:∀u∈lT,∀c∈u,c∈fS:=by decide
theorem Oo(w:Bytes):(opOf w=none/\wd w∉jn)\/∃j,j<6/\opOf w=some j/\jn[j]?=some (wd w)/\∀m z',m<j->jn[m]?=some z'->z'≠wd w:=by unfold Vbavaf.opOf;rw[Xk,ahq];ext:0;by_cases h:lT.idxOf w<6;right;rw[if_pos h];have hl:lT.idxOf w<lT.length:=h;have hg:lT[lT.idxOf w]=w:=List.getElem_idxOf hl;refine{_,h,rfl,?_,fun m z' hm e=>?_};rw[d_,bM hl,hg];rfl;rw[d_,bM (xD hm hl)]at e;cases e;intro z;have hu:lT[m]∈lT:=uS _;have:lT[m]=w:=((yI (Oq _ hu)).mp z.symm).symm;have:=List.not_of_lt_findIdx (p:=(·==w)) (xs:=lT) (i:=m) hm;simp_all;left;rw[if_neg h];refine{rfl,fun z=>?_};obtain⟨u,hu,e⟩:=dJ.mp z;have:w=u:=(yI (Oq u hu)).mp e.symm;ext:84;exact h (List.idxOf_lt_length_of_mem hu)
theorem XJ{b:Nat}:sg b=45↔b=45:={fun h=>Lo 29 h,fun h=>by rw[h];decide}
theorem ahI(w:Bytes):(vE (w.map sg)=.bo/\l_ w=none)\/∃z:Int,vE (w.map sg)=.int z/\l_ w=if(if z<0 then-z else z)<=1000000 then some z else none:=by
 have up:∀u:Bytes,upTo 1000000 u=(number u).bind fun n=>if n<=1000000 then some n else none:=fun _=>rfl;by_cases h:∃r,w=45::r;obtain⟨r,rfl⟩:=h;have e1:(45::r).map sg=45::r.map sg:=by rw[bL,show sg 45=45 from by decide]
 rw[e1,Rl,Ht];have e2:l_ (45::r)=(upTo 1000000 r).map fun n=>-(n:Int):=rfl;rw[e2,up];cases number r with|none=>exact .inl 669|some n=>refine 546 {-(n:Int),rfl,?_};ext:76;rfl;rw[if_neg hn,if_neg 786];rfl
 have h1:∀r,w.map sg≠45::r:=by intro r z;cases w with|nil=>cases z|cons b t=>rw[bL]at z;injection z with z1 z2;exact h {t,by rw[XJ.mp z1]}
 have e2:l_ w=(upTo 1000000 w).map fun n=>(n:Int):=by unfold Vbavaf.signed;split;exact 89 569 h;rfl
 rw[Ot h1,Ht,e2,up];cases number w with|none=>exact .inl 669|some n=>refine 546 {(n:Int),rfl,?_};ext:76;rfl;rw[if_neg hn,if_neg 786];rfl
theorem agv{l:34}{x op:Nat}{o:Bytes}(ho:opOf o=some op):jO l x [o]=.error 0:=by unfold jO;ext:0;rw[ho]
theorem LW{l:34}{x op:Nat}{o n:Bytes}{r:39}(ho:opOf o=some op)(hs:l_ n=none):jO l x (o::n::r)=.error (n::r).length:=by unfold jO;ext:0;rw[ho];ext:0;rw[hs]
theorem abF{l:34}{x op:Nat}{z:Int}{o n:Bytes}{r:39}(ho:opOf o=some op)(hs:l_ n=some z):jO l x (o::n::r)=.ok (.atom (229 l).1,(229 l).2,r):=by unfold jO;ext:0;rw[ho];ext:0;rw[hs]
structure Ex(K:Frag)(mg:Str->Option Value)(T:Txt K mg):Prop where
 ops:∃o,K.lookup T.mK.a=some o/\o.cls=.type "tuple"/\o.dict=none
def pD(CW C CN:Addr)(r:Addr)(S:Rs)(toks:39)(H:Hp)(Q:VK)(E:XK):R->Prop
 |.error e=>dC CW E r S.pn H (pB toks e)
 |.ok (f,l1,t1)=>∀H' k',bZ r S.pn H H'->At toks S.ws k' t1->cU C CN H' r {S with k:=k',ac:=S.ac++flat l1 f S.ac.length S.c,c:=S.c+cells f}->Q (.int ((S.ac.length+size f-1:Nat):Int)) H'
theorem Ly(T:65){w:Bytes}{x:Nat}(h:reading w=some x):da (mw T) (546 (wd w))=some (.int (x:Int))/\x<8:=by
 unfold Wx at h;ext:23;rename_i d;ext:23;rename_i hd;ext:91;ext:185
 rcases this with z|z|z|z|z|z|z|z<;>subst z<;>exact⟨by rfl,by decide⟩;ext:91;ext:91
def aiu(CW C CN:Addr):Sp:=fun vs H Q E=>∃(r:Addr)(S:Rs)(toks t:List Bytes)(w0:Bytes)(x:Nat)(l:List Atom),vs=[.ref r]/\cU C CN H r S/\At toks S.ws S.k (w0::t)/\reading w0=some x/\S.ac.length+t.length<=1000/\pD CW C CN r S toks H Q E (jO l x t)
theorem CM:bf ["reader","reading","operator","number"] ["reader"] (a_ LR):=17
theorem air(T:65)(Dc:213)(Ee:707):aE P w K mg base 154 5 T.EE.a T.EE.fd ["reader"] (aiu T.bX T.bc T.aJ):=by
 refine T.EE.F.jZ CM 28 19;obtain⟨r,S,toks,t,w0,x,l,rfl,_⟩:=h;rfl;obtain⟨r,S,toks,t,w0,x,l,rfl,X,a,hx,sz,k⟩:=h
 refine(421 (aj (184 CM.nd (zx Dc.DV.d Dc.DV.m 144 291)) (aj 124 (aj (cr (440 (38 (jF qY 144 (oh T.mK.m) 77)))) (aj (90 CM.nd (dQ PySem.F.plainAttrs_tuple ajS PySem.F.type_tuple_index ahM (oh T.mK.m) (38 144))) (aj 124 (aj (92 CM.nd (bJ T.CJ (abL T) hr (38 144) (hk:=by omega))) (aj (cr (440 (38 (MQ (SM (P0 174)) (Ff (jF j8 (cw Z0 rfl T.aht boot_abs 454) (cF T.ahi) (bi _))))))) (aj 124 (au (aF (589 (aa (o6 T.BG) (aa (dB (845 (aa 88 454))) (aa (dB ae) (38 (512 T.vm)))))))))))))))))
 obtain⟨hv,O4⟩:=Ly T hx;refine{_,rfl,r,_,_,rfl,X.at_,rfl,r,S,rfl,X,.inr (wd w0),_,by rw[a.head];rfl,hv,?_};ext:9;refine(165 S);ext:51;ext:10;refine{_,rfl,r,_,_,rfl,X1.at_,rfl,_,rfl,r,_,_,rfl,X1.at_,rfl,r,_,rfl,X1,T.mK.a,_,rfl,.inr (T.mK.sq _),rfl,rfl,?_};rw[if_neg 29,DD,a1.head];refine{r,_,_,rfl,X1,fun hb=>?_,fun hb=>?_};rw[bg]at hb;have hJ:hd t∈jn:=hb;obtain⟨o,t2,et⟩:∃o t2,t=o::t2:=by cases t with|nil=>(have:hd []∉jn:=by decide);exact 89 hJ this|cons o t2=>exact⟨o,t2,rfl⟩
 subst et;rcases Oo o with⟨_,hn⟩|⟨op,wM,ho,jr,MO⟩;exact 89 hJ hn;refine{.inr (.inl ⟨rfl,Ee.ops⟩),_,rfl,r,_,_,rfl,X1.at_,rfl,r,_,rfl,X1,?_};rw[a1.head];refine{T.mK.a,_,_,op,.str (wd o),rfl,rfl,T.mK.sq _,rfl,by decide,?_,?_,?_,?_};show(jn.map V.str)[op]?=_;rw[d_,jr];rfl;show((wd o)==(wd o))=true;simp;intro m z' hm e;have e':(jn.map V.str)[m]?=some z':=e;rw[d_]at e';obtain⟨y,hy,rfl⟩:=lZ.mp e';show(y==wd o)=false;rw[rN];exact MO m y hm hy;have a2:=a1.next;have X2:=X1.nums (S.k+1+1) S.c;have S2:bZ r S.pn H (upd H1 r (.ins T.bc S.dx (cN {S with k:=S.k+1+1}))):=S1.trans .gj;refine(369 X1.at_ X1);ext:51;generalize upd H1 r (.ins T.bc S.dx (cN {S with k:=S.k+1+1}))=H2 at X2 S2;refine(369 X2.at_ X2);rw[a2.head];refine{_,rfl,NI t2,a2.short,?_};refine(522 X2.at_);have bad:∀{e:Nat},jO l x (o::t2)=.error e->e=t2.length->dC T.bX E r S.pn H2 (((S.k+1+1:Nat):Int)+1):=fun q1 q2=>by rw[q1,q2]at k;have:=dC.go k S2;rw[<-a2.err]at this;ext:64
 cases t2 with|nil=>refine{_,rfl,aU 29 ?_};exact{r,_,_,rfl,X2,fun z=>791,fun _=>bad (agv ho) rfl}|cons n r1=>(have eh:(hd (n::r1)).cps.toList=n.map sg:=by show(wd n).cps.toList=_;simp[wd]);rw[eh];rcases ahI n with⟨q1,q2⟩|⟨z,q1,q2⟩;rw[q1];refine{_,rfl,aU 29 ?_};exact{r,_,_,rfl,X2,fun z=>791,fun _=>bad (LW ho q2) rfl};rw[q1];refine{_,rfl,aS (show(!decide (V.int z=V.bo))=true by rw[sv,m5];exact fun z=>nomatch z) ?_};refine 487;refine{r,_,_,rfl,X2,fun gA=>?_,fun gA=>?_};rw[bg]at gA;rw[if_pos gA]at q2;rw[abF ho q2]at k;have a3:=a2.next;have X3:=X2.nums (S.k+1+1+1) S.c;have S3:bZ r S.pn H (upd H2 r (.ins T.bc S.dx (cN {S with k:=S.k+1+1+1}))):=S2.trans .gj;refine(369 X2.at_ X2);ext:0;generalize upd H2 r (.ins T.bc S.dx (cN {S with k:=S.k+1+1+1}))=H3 at X3 S3;refine{_,rfl,r,_,_,rfl,X3.at_,rfl,_,rfl,_,rfl,_,rfl,by show 3<=sizeLine;decide,fun p4 H4 S4 e4=>{bA _,fun p5 H5 S5 e5=>?_}};have X5:=(X3.same S4).same S5;refine(273 X5.at_);obtain⟨g1,g2,b,g3,g4⟩:=place_spec l {x:=x,op:=op,n:=z};subst g4;refine{r,p4,p5,_,.cmp x op z,[],S.c,rfl,X5,S5 _ _ e4,e5,⟨O4,wM⟩,by show S.ac.length<=1000;omega,fun H6 S6 X6=>?_};(have ef:flat (229 l).2 (.atom (229 l).1) S.ac.length S.c=[{.cmp x op z,[],S.c}]:=by unfold flat dE;rw[g3]);have k2:=k H6 _ (S3.trans ((bZ.of S4).trans ((bZ.of S5).trans S6))) a3;rw[ef]at k2;exact k2 X6;rw[m5]at gA;rw[if_neg gA]at q2;exact bad (LW ho q2) rfl
 rw[m5]at hb;have hJ:hd t∉jn:=hb;have ee:jO l x t=.error t.length:=by unfold jO;cases t with|nil=>rfl|cons o t2=>dsimp only;rcases Oo o with⟨hn,_⟩|⟨op,wM,ho,jr,MO⟩;rw[hn];exact 89 (ej jr) hJ
 rw[ee]at k;have:=dC.go k S1;rw[<-a1.err]at this;ext:64
end
section
variable{K:Frag}{a:Addr}{xs:List V}{g:TG}{tb:TS}{D:Ends}{σ:L2.St}{H:Hp}
theorem ahH(Pv:514)(h0:921)(hl:∀i σ H,i<=xs.length->Pv i σ H->aq K H a xs)(hs:∀i x σ H,xs.reverse[i]?=some x->Pv i σ H->g x σ H fun bq H2=>tb {D with nx:=Pv (i+1),ct:=Pv (i+1),bk:=D.nx} bq H2)(hd:∀σ H,Pv xs.length σ H->D.nx σ H):∃W:Nat->Nat->L2.St->Hp->Prop,(∃m,W 0 m σ H)/\∀i m σ H,W i m σ H->((yB K a xs.length).stop i H/\D.nx σ H)\/((yB K a xs.length).go i H/\∃N:L2.St->Hp->Prop,(∀aW H',N aW H'->∃m',m'<m/\W (i+1) m' aW H')/\∀x H',(yB K a xs.length).gG i H x H'->g x σ H' fun bq H2=>tb {D with nx:=N,ct:=N,bk:=D.nx} bq H2):=by
 ext:13;refine 546 {?_,Pv (i+1),fun aW H' p'=>110,fun v H' y=>?_};exact{aY,xs,xs[xs.length-1-i],q,bM _};obtain⟨rfl,y⟩:=y;refine hs i v σ H' ?_ p;rw[List.getElem?_reverse aY];exact y xs q;ext:20
 subst e;exact .inl {aV _,hd σ H p}
end
theorem afC(ps:71)(p w len:Nat):whole (ps++[p]) w len=len+ps.length:=by unfold whole;rw[if_neg 42,bw];simp
theorem Xv(xs:71)(x:Nat):fL (997 nV) (-1)=some (nV x):=by rw[bH];exact qX
theorem WQ(xs:71)(x:Nat):fP (997 nV) none (some (-1))=xs.map nV:=by
 unfold fP;have e2:HT.ba (997 nV).length (997 nV).length (some (-1))=xs.length:=by unfold HT.ba;rw[az,bw];simp;omega
 have e1:HT.ba (997 nV).length 0 none=0:=rfl;rw[e1,e2,bH];simp
def aiI(C CN:Addr):Sp:=fun vs H Q _=>∃(r pl:Addr)(S:Rs)(o:Op)(ps:List Nat)(w0:Nat),vs=[.ref r,.str o.kind,.ref pl]/\cU C CN H r S/\(o=.and\/o=.or)/\H pl=some (80 ((ps++[w0]).map nV))/\pl≠S.pn/\S.ac.length+ps.length<=1000/\
 ∀H',bZ r S.pn H H'->cU C CN H' r {S with ac:=S.ac++Jn o S.c ps.reverse w0 S.ac.length}->Q (nV (whole ps.reverse w0 S.ac.length)) H'
theorem B5:bf ["reader","kind","parts","whole","part"] ["reader","kind","parts"] (a_ Pp):=17
theorem Mp(T:65):aE P w K mg base bj 5 T.yJ.a T.yJ.fd ["reader","kind","parts"] (aiI T.bc T.aJ):=by
 refine T.yJ.F.ok B5 28 19;obtain⟨r,pl,S,o,ps,w0,rfl,_⟩:=h;rfl;obtain⟨r,pl,S,o,ps,w0,rfl,X,ho,hl,nl,sz,k⟩:=h;refine(421 (aj (92 B5.nd (605 88)) (1043 (419 (adI rfl T.aeN (38 (j9 qM 88 mi (iI (eP eG ap))))) (352 B5.nd) (au (92 B5.nd (589 (845 (aa (dB ae) (aa (dB (aa 602 454)) (38 (512 T.vm))))))))))));have nr:pl≠r:=fun z=>by rw[z,X.at_]at hl;cases hl
 refine{_,rfl,_,rfl,pl,_,_,_,rfl,rfl,hl,Xv ps w0,?_};refine{_,rfl,_,rfl,_,rfl,pl,_,rfl,aq.of hl,fun D H1 S1 f1 e1=>?_};rw[WQ]at e1;have nD:D≠S.pn:=fun z=>by obtain⟨vs,h,_⟩:=X.nodes;rw[<-z,f1]at h;ext:91
 have pO:D≠r:=fun z=>by have h:=X.at_;rw[<-z,f1]at h;ext:91
 refine{D,_,rfl,aq.of e1,?_};refine ahH (K:=_) (a:=D) (xs:=ps.map nV) (fun i σ H2=>bZ r S.pn H H2/\H2 D=some (80 (ps.map nV))/\cU T.bc T.aJ H2 r {S with ac:=S.ac++Jn o S.c 746 w0 S.ac.length}/\∃b,σ=[some (.ref r),some (.str o.kind),some (.ref pl),some (nV (whole 746 w0 S.ac.length)),b]) {.of S1,e1,?_,none,rfl} (fun i σ H2 _ p=>aq.of p.2.1) 323 366;have:=X.same S1;show cU _ _ _ _ {S with ac:=S.ac++Jn o S.c [] w0 S.ac.length};rw[show S.ac++Jn o S.c [] w0 S.ac.length=S.ac from fN _];ext:64;obtain⟨S2,d2,X2,b0,rfl⟩:=p;rw[<-List.map_reverse,d_]at hi;obtain⟨q,hq,rfl⟩:=lZ.mp hi;have i4:i<ps.length:=by have:=(930 hq).1;rwa[ie]at this
 refine{_,rfl,r,_,_,rfl,X2.at_,rfl,_,rfl,bA _,fun p3 H3 S3 e3=>{_,rfl,_,rfl,by show 2<=sizeLine;decide,fun p4 H4 S4 e4=>?_}};have X4:=(X2.same S3).same S4;refine(273 X4.at_);have tl:(ps.reverse.take i).length=i:=by rw[bU,ie];omega
 refine{r,p3,p4,_,o,[q,whole 746 w0 S.ac.length],S.c,rfl,X4,?_,e4,?_,?_,fun H5 S5 X5=>?_};rw[S4 _ _ e3];rcases ho with z|z<;>rw[z]<;>rfl;rcases ho with z|z<;>rw[z]<;>trivial;show(S.ac++Jn _ _ _ _ _).length<=1000;rw[bw,Gd,tl];omega;have et:ps.reverse.take (i+1)=ps.reverse.take i++[q]:=gx hq;refine{S2.trans 481,S5 _ _ pO nD (S4 _ _ (632 d2)),?_,some (nV q),?_};rw[et,Io,<-gp];exact X5;rw[et,afC,tl];have e:(S.ac++Jn o S.c 746 w0 S.ac.length).length=S.ac.length+i:=by rw[bw,Gd,tl]
 show _=[some (.ref r),_,_,some (V.int ((S.ac.length+i:Nat):Int)),_];rw[<-e];rfl;obtain⟨S2,d2,X2,b0,rfl⟩:=p;rw[az,show ps.length=ps.reverse.length by simp,gW]at X2;refine 735;rw[az,show ps.length=ps.reverse.length by simp,gW];exact k H2 S2 X2
section
open Vbavaf (F Atom R Bytes text size cells)
theorem JU(l:34):∀(fs:List F)(n c:Nat),(cR l fs n c).length=db fs
 |[],_,_=>rfl
 |f::fs,n,c=>by show(flat l f n c++cR l fs _ _).length=_;rw[bw,dX,JU l fs];simp[db]
theorem NS:(("or":String):Str)={(text "or").toArray}:=by decide+kernel
theorem Sz:(("and":String):Str)={(text "and").toArray}:=by decide+kernel
theorem cU.QA{C CN:Addr}{H:Hp}{r D:Addr}{S:Rs}{zs ys:231}(x:cU C CN H r S)(h:324 D 733)(n1:D≠S.pn)(n2:D≠S.pw):cU C CN (257 D 459) r S:=by
 have t:∀{b:Addr}{o:HO},H b=some o->(∀vs,o≠.lst vs)->upd H D 459 b=some o:=fun{b o} q hb=>by rw[ay (fun z=>by rw[z,h]at q;cases q;exact hb _ rfl)];exact q
 obtain⟨vs,hv,p⟩:=x.nodes;refine{t x.at_ 536,by rw[ay (cJ n2)];exact x.words,{vs,by rw[ay (cJ n1)];exact hv,bR (fun v nd ⟨a,d,p1,p2,e,N⟩=>{a,d,p1,p2,e,t N.at_ 536,t N.nums 536,t N.parts 536,N.wf}) p},x.apart,x.on}
theorem Rm{mk:775}{op:Op}(J:Joins mk op)(done:List F)(last:F)(n:Nat):whole (idxs done n).reverse (n+db done+size last-1) (n+db 67)=n+size (326 mk)-1:=by rw[JP J,vx];unfold whole;have:=size_pos last;cases done with|nil=>rw[show(idxs [] n).reverse=[]from rfl,if_pos rfl];simp[db]|cons a as=>rw[if_neg (by simp[idxs]),ie,sQ];omega
def n_(CW C CN:Addr)(m d:Nat):Sp:=fun vs H Q E=>∃(r:Addr)(S:Rs)(toks t:List Bytes)(l:List Atom),vs=[.ref r,.int 970]/\cU C CN H r S/\At toks S.ws S.k t/\S.ac.length+t.length<=1000/\pD CW C CN r S toks H Q E (rd m d l t)
theorem Ut:bf ["reader","depth","parts"] ["reader","depth"] (a_ Ql):=17
theorem R6(T:65)(d k:Nat)(DK:5<=k)(CG:771 (n_ T.bX T.bc T.aJ (1+1) d)):aE P w K mg base 154 (k+1) T.tT.a T.tT.fd ["reader","depth"] (n_ T.bX T.bc T.aJ 1 d):=by
 refine T.tT.F.jZ Ut 28 19;ext:18;refine(421 (aj (90 Ut.nd (bp (38 (334 T.lO CG)))) (aj (C9 ajT (73 cD 144 cu) (aj 124 (au (cr (122 88 (38 (334 T.lO CG))))))) 563)));have lits:∀c∈text "and",c∈fS:=by decide
 have zR:text "and"≠[]:=by decide
 refine 906;rw[FL Pz]at kk
 cases er:rd (1+1) d l t with|error e=>rw[er]at kk;exact kk|ok x=>obtain⟨f,l1,t1⟩:=x;rw[er]at kk;ext:79;intro H1 k1 S1 a1 X1;refine 724;have X2:=X1.same S2;ext:4;refine{fun n σ H'=>∃(done:List F)(last:F)(lc:List Atom)(tc:List Bytes)(kc:Nat),n=tc.length/\σ=[some (.ref r),some (.int 970),some 118]/\bZ r S.pn H H'/\At toks S.ws kc tc/\cU T.bc T.aJ H' r {S with k:=kc,ac:=S.ac++cR lc 67 S.ac.length S.c,c:=S.c+dD 67}/\H' D=some 620/\(∀f∈done++[last],bT lc f)/\db 67+done.length+tc.length<=t.length/\pD T.bX T.bc T.aJ r S toks H Q E (vt F.and done last (nextJ 1 (text "and") d lc tc)),587,?_};ext:42;rw[e2];rfl;ext:186;simp[db];exact u1;ext:33;by_cases hw:∃q,tc=text "and"::q;obtain⟨q,rfl⟩:=hw;refine 633 (cK ((gE Sz lits zR).mpr ⟨q,rfl⟩));ext:71;rw[aR]at He;refine 301;rw[MV Pz]at k3;(cases jp:rd (1+1) d lc q with|error e=>rw[jp]at k3;exact dC.go k3 S4|ok y=>obtain⟨g,l2,t2⟩:=y;rw[jp]at k3;ext:152;ext:28;refine 418;rw[aR];omega;refine fun b o h1 h2 h=>?_;rw[ay (bF h fD)];ext:7;rw[e1,e2];exact X6;rw[aM,Am 67 g,bH (l₂:=[_]),fU];rfl;intro z hz;rcases bP.mp hz with hz|hz;rw[mn];ext:131;rw[vx,bw];show _+(done.length+1)+_<=_;omega);rw[12,(by rw[bg];exact fun z=>hw ((gE Sz lits zR).mp z))];rw[Q4 (718 ⟨q,z⟩)]at k3;refine{_,rfl,_,rfl,r,D,_,.and,idxs done S.ac.length,S.ac.length+db done+size last-1,rfl,X3,.inl rfl,?_,kl,?_,fun H4 S4 X4=>?_};rw[d3,Am];ext:101;(have ew:whole (241 done).reverse 1016 (155 cR).length=S.ac.length+size (326 F.and)-1:=by rw[fU,Rm Jf]);(have X5:cU T.bc T.aJ H4 r {S with k:=kc,ac:=S.ac++flat lc (326 F.and) S.ac.length S.c,c:=S.c+cells (326 F.and)}:=by rw[GK Jf,Do Jf,<-gp];ext:86);show Q 373 H4;rw[ew];exact k4 X5
theorem Vp:bf ["reader","depth","parts"] ["reader","depth"] (a_ Ni):=17
theorem QP(T:65)(d k:Nat)(DK:5<=k)(RY:aE P w K mg base 154 k T.tT.a T.tT.fd ["reader","depth"] (n_ T.bX T.bc T.aJ (0+1) d)):aE P w K mg base 154 (k+1) T.kx.a T.kx.fd ["reader","depth"] 868:=by
 refine T.kx.F.jZ Vp 28 19;ext:18;refine(421 (aj (90 Vp.nd (bp (38 (334 T.tT RY)))) (aj (C9 ajT (73 cD 144 cu) (aj 124 (au (cr (122 88 (38 (334 T.tT RY))))))) 563)));have lits:∀c∈text "or",c∈fS:=by decide
 have zR:text "or"≠[]:=by decide
 refine 906;rw[FL Mn]at kk
 cases er:rd (0+1) d l t with|error e=>rw[er]at kk;exact kk|ok x=>obtain⟨f,l1,t1⟩:=x;rw[er]at kk;ext:79;intro H1 k1 S1 a1 X1;refine 724;have X2:=X1.same S2;ext:4;refine{fun n σ H'=>∃(done:List F)(last:F)(lc:List Atom)(tc:List Bytes)(kc:Nat),n=tc.length/\σ=[some (.ref r),some (.int 970),some 118]/\bZ r S.pn H H'/\At toks S.ws kc tc/\cU T.bc T.aJ H' r {S with k:=kc,ac:=S.ac++cR lc 67 S.ac.length S.c,c:=S.c+dD 67}/\H' D=some 620/\(∀f∈done++[last],bT lc f)/\db 67+done.length+tc.length<=t.length/\pD T.bX T.bc T.aJ r S toks H Q E (vt F.or done last (nextJ 0 (text "or") d lc tc)),587,?_};ext:42;rw[e2];rfl;ext:186;simp[db];exact u1;ext:33;by_cases hw:∃q,tc=text "or"::q;obtain⟨q,rfl⟩:=hw;refine 633 (cK ((gE NS lits zR).mpr ⟨q,rfl⟩));ext:71;rw[aR]at He;refine 301;rw[MV Mn]at k3;(cases jp:rd (0+1) d lc q with|error e=>rw[jp]at k3;exact dC.go k3 S4|ok y=>obtain⟨g,l2,t2⟩:=y;rw[jp]at k3;ext:152;ext:28;refine 418;rw[aR];omega;refine fun b o h1 h2 h=>?_;rw[ay (bF h fD)];ext:7;rw[e1,e2];exact X6;rw[aM,Am 67 g,bH (l₂:=[_]),fU];rfl;intro z hz;rcases bP.mp hz with hz|hz;rw[mn];ext:131;rw[vx,bw];show _+(done.length+1)+_<=_;omega);rw[12,(by rw[bg];exact fun z=>hw ((gE NS lits zR).mp z))];rw[Q4 (718 ⟨q,z⟩)]at k3;refine{_,rfl,_,rfl,r,D,_,.or,idxs done S.ac.length,S.ac.length+db done+size last-1,rfl,X3,.inr rfl,?_,kl,?_,fun H4 S4 X4=>?_};rw[d3,Am];ext:101;(have ew:whole (241 done).reverse 1016 (155 cR).length=S.ac.length+size (326 F.or)-1:=by rw[fU,Rm GW]);(have X5:cU T.bc T.aJ H4 r {S with k:=kc,ac:=S.ac++flat lc (326 F.or) S.ac.length S.c,c:=S.c+cells (326 F.or)}:=by rw[GK GW,Do GW,<-gp];ext:86);show Q 373 H4;rw[ew];exact k4 X5
end
section
open Vbavaf (F Atom R Bytes text size cells window want)
instance:DecidableEq M':=fun a b=>by
 cases a<;>cases b<;>first|exact isTrue rfl|exact isFalse (fun z=>nomatch z)
def gO(x:Str)(t:39):Except Nat (List Int×List Bytes):=match gQ x with
 |.i6=>(match window t with
  |.error e=>.error e
  |.ok ((a,b),r)=>.ok ([(a:Int),endOf b],r))
 |.cnt=>(match fJ t with
  |.error e=>.error e
  |.ok ((a,b),r)=>.ok ([(a:Int),(b:Int)],r))
 |.bo=>.ok ([],t)
def tS(d:Nat)(l:34)(t:39):Except Nat 428:=match want [40] t with
 |.error e=>.error e
 |.ok r2=>match rd 0 d l r2 with
  |.error e=>.error e
  |.ok (f,l1,t1)=>match want [44] t1 with
   |.error e=>.error e
   |.ok t2=>match rd 0 d l1 t2 with
    |.error e=>.error e
    |.ok (g,l2,t3)=>match want [41] t3 with
     |.error e=>.error e
     |.ok t4=>.ok ((f,l1),(g,l2,t4))
def SD(a:Nat)(b:305):Except Nat 428->R
 |.error e=>.error e
 |.ok ((f,_),(g,l2,t4))=>.ok (.since a b f g,l2,t4)
theorem Ui(d:Nat)(l:34)(v:403)(t:39):kK rd (d+1) l v t=SD v.1 v.2 (tS d l t):=by unfold kK tS;cases want [40] t with|error e=>rfl|ok r2=>dsimp only;rw[E5];cases rd 0 d l r2 with|error e=>rfl|ok x=>obtain⟨f,l1,t1⟩:=x;ext:0;cases want [44] t1 with|error e=>rfl|ok t2=>dsimp only;cases rd 0 d l1 t2 with|error e=>rfl|ok y=>obtain⟨g,l2,t3⟩:=y;ext:0;cases want [41] t3 with|error e=>rfl|ok t4=>rfl
structure qJ(mk:F->F)(o:Op):Prop where
 flat:∀l f n c,flat l (mk f) n c=PC.flat l f n (c+o.width)++[⟨o,[n+size f-1],c⟩]
 size:∀f,size (mk f)=1+size f
 cells:∀f,cells (mk f)=o.width+cells f
 un:∀a b,o≠.since a b
def mapR(mk:F->F):R->R
 |.error e=>.error e
 |.ok (f,l1,t1)=>.ok (mk f,l1,t1)
theorem ahA(d:Nat)(l:34)(t r:39)(mk:F->F):fH rd (d+1) l t mk r=mapR mk (rd 2 d l r):=by unfold fH;rw[if_neg 23,E5];cases rd 2 d l r with|error e=>rfl|ok x=>rfl
theorem aew(l:34)(t r:39)(mk:F->F):fH rd 0 l t mk r=.error t.length:=by unfold fH;ext:143
def qz:List Bytes:=[[40],text "not",text "prev",text "rose",text "once",text "always",text "count",text "since"]
def Bw:List Str:=[("(":String),("not":String),("prev":String),("rose":String),("once":String),("always":String),("count":String),("since":String)]
theorem ae0:Bw=qz.map wd:=by decide+kernel
theorem abA:∀u∈qz,∀c∈u,c∈fS:=by decide+kernel
theorem Md(w:Bytes):wd w∈Bw↔w∈qz:=by rw[ae0];refine{fun h=>?_,fun h=>dJ.mpr ⟨w,h,rfl⟩};obtain⟨u,hu,e⟩:=dJ.mp h;rw[(yI (abA u hu)).mp e.symm];exact hu
inductive aa6(d:Nat)(l:List Atom)(w0:Bytes)(t:List Bytes):Prop where
 |par (e0:w0=[40]) (en:gO (wd w0) t=.ok ([],t)) (ez:∀d',dq rd d' l (w0::t)=ml rd d' l (w0::t) t)
 |err (e:Nat) (ne:w0≠[40]) (en:gO (wd w0) t=.error e) (es:dq rd d l (w0::t)=.error e)
 |m9 (o:Op) (mk:F->F) (r1:List Bytes) (U:qJ mk o) (ne:w0≠[40]) (ek:wd w0=o.kind) (wf:o.wf) (en:gO (wd w0) t=.ok (o.nums,r1)) (es:dq rd d l (w0::t)=fH rd d l (w0::t) mk r1)
 |xY (a:Nat) (b:Option Nat) (r1:List Bytes) (ne:w0≠[40]) (ek:wd w0=(Op.since a b).kind) (en:gO (wd w0) t=.ok ((Op.since a b).nums,r1)) (es:dq rd d l (w0::t)=if d=0 then .error (w0::t).length else kK rd d l (a,b) r1)
theorem adq:qJ .not .not:={fun l f n c=>by show PC.flat l f n c++_=_;rfl,fun _=>rfl,fun f=>by show cells f=0+cells f;omega,fun _ _ z=>nomatch z}
theorem adQ:qJ .prev .prev:=145
theorem ab5:qJ .rose .rose:=145
theorem aai(a:Nat)(b:305):qJ 406 406:=145
theorem Zw(a:Nat)(b:305):qJ 296 296:=145
theorem Yb(a b:Nat):qJ (948 a b) (948 a b):=145
theorem afm(d:Nat)(l:34)(w0:Bytes)(t:39)(h:w0∈qz):aa6 d l w0 t:=by
 have nw:∀(s:Bytes),gQ (wd s)=gQ (wd s):=fun _=>rfl;simp only[qz,bE,ic,or_false]at h;rcases h with rfl|rfl|rfl|rfl|rfl|rfl|rfl|rfl;exact .par rfl (by unfold gO;rw[show gQ (wd [40])=.bo from by decide+kernel]) (fun d'=>by unfold dq;rfl);exact .m9 .not .not t adq 29 47 trivial (by unfold gO;rw[show gQ (wd (text "not"))=.bo from by decide+kernel];rfl) 1054;exact .m9 .prev .prev t adQ 29 47 trivial (by unfold gO;rw[show gQ (wd (text "prev"))=.bo from by decide+kernel];rfl) 1054;exact .m9 .rose .rose t ab5 29 47 trivial (by unfold gO;rw[show gQ (wd (text "rose"))=.bo from by decide+kernel];rfl) 1054;have e1:dq rd d l (text "once"::t)=nh (window t) fun v r1=>fH rd d l (text "once"::t) (.once v.1 v.2) r1:=by unfold dq;rfl
 cases hw:window t with|error e=>exact .err e 29 (by unfold gO;ext:153) 331|ok x=>obtain⟨⟨a,b⟩,r1⟩:=x;exact .m9 406 406 r1 (aai a b) 29 (show wd (text "once")=(("once":String):Str) by decide+kernel) trivial (by unfold gO;ext:153;rfl) 331
 have e1:dq rd d l (text "always"::t)=nh (window t) fun v r1=>fH rd d l (text "always"::t) (.always v.1 v.2) r1:=by unfold dq;rfl
 cases hw:window t with|error e=>exact .err e 29 (by unfold gO;ext:137) 331|ok x=>obtain⟨⟨a,b⟩,r1⟩:=x;exact .m9 296 296 r1 (Zw a b) 29 (show wd (text "always")=(("always":String):Str) by decide+kernel) trivial (by unfold gO;ext:137;rfl) 331
 have e1:dq rd d l (text "count"::t)=nh (fJ t) fun v r1=>fH rd d l (text "count"::t) (948 v.1 v.2) r1:=by unfold dq;rfl
 cases hw:fJ t with|error e=>exact .err e 29 (by unfold gO;ext:138) 331|ok x=>obtain⟨⟨a,b⟩,r1⟩:=x;exact .m9 (948 a b) (948 a b) r1 (Yb a b) 29 (show wd (text "count")=(("count":String):Str) by decide+kernel) (Oe hw).2.1 (by unfold gO;ext:138;rfl) 331
 have e1:dq rd d l (text "since"::t)=nh (window t) fun v r1=>if d=0 then .error (text "since"::t).length else kK rd d l v r1:=by unfold dq;rfl
 cases hw:window t with|error e=>exact .err e 29 (by unfold gO;ext:150) 331|ok x=>obtain⟨⟨a,b⟩,r1⟩:=x;exact .xY a b r1 29 (show wd (text "since")=(("since":String):Str) by decide+kernel) (by unfold gO;ext:150;rfl) 331
theorem Bv(u:Bytes)(q:39):want u (u::q)=.ok q:=by unfold want;ext:0;ext:143
theorem BF{u:Bytes}{t:39}(h:∀q,t≠u::q):want u t=.error t.length:=by unfold want;cases t with|nil=>rfl|cons v q=>dsimp only;rw[if_neg fun z=>h q (by rw[z])]
end
section
open Vbavaf (F Atom R Bytes text size cells window want)
def agd(CW C CN:Addr)(r:Addr)(S:Rs)(toks:39)(H:Hp)(Q:VK)(E:XK):Except Nat 428->Prop
 |.error e=>dC CW E r S.pn H (pB toks e)
 |.ok ((f,_),(g,l2,t4))=>∀H' p k',bZ r S.pn H H'->At toks S.ws k' t4->cU C CN H' r {S with k:=k',ac:=S.ac++flat l2 f S.ac.length S.c++flat l2 g 974 (S.c+cells f),c:=S.c+cells f+cells g}->
  H' p=some (.tup [nV (S.ac.length+size f-1),nV (S.ac.length+size f+size g-1)])->Q 310 H'
def R1(CW C CN:Addr)(d:Nat):Sp:=fun vs H Q E=>∃(r:Addr)(S:Rs)(toks t:List Bytes)(l:List Atom),vs=[.ref r,.int 970]/\cU C CN H r S/\At toks S.ws S.k t/\S.ac.length+t.length<=1000/\agd CW C CN r S toks H Q E (tS d l t)
theorem HR:bf ["reader","depth","first","second"] ["reader","depth"] (a_ PZ):=17
theorem afE(T:65)(d k:Nat)(DK:5<=k)(BS:770 868):aE P w K mg base 154 (k+1) T.wY.a T.wY.fd ["reader","depth"] (R1 T.bX T.bc T.aJ d):=by
 refine T.wY.F.jZ HR 28 19;ext:18;refine(421 (162 (aj (90 HR.nd (334 T.kx BS)) (162 (aj (92 HR.nd (334 T.kx BS)) (162 (au (aF (dB (aa 88 454))))))))));unfold tS at kk;refine(221 X.at_);refine(199 X);rw[a.head]at hw;obtain⟨t0,rfl⟩:=(656 MP).mp hw;rw[Bv]at kk;dsimp only at kk;ext:9;ext:0;ext:10;rw[aR]at sz
 refine{_,rfl,_,rfl,r,_,toks,t0,l,rfl,X1,a1,by show S.ac.length+_<=_;omega,?_}
 cases er:rd 0 d l t0 with|error e=>rw[er]at kk;exact dC.go kk S1|ok x=>obtain⟨f,l1,t1⟩:=x;rw[er]at kk;dsimp only at kk;ext:79;intro H2 k2 S2 a2 X2;have dL:=S1.trans S2;refine(221 X2.at_);refine(199 X2);replace hw:=a2.head.symm.trans hw;obtain⟨t2,rfl⟩:=(656 BI).mp hw;rw[Bv]at kk;dsimp only at kk;have a3:=a2.next;have X3:=X2.nums (k2+1) (S.c+cells f);have S3:bZ r S.pn H (upd H2 r (.ins T.bc S.dx (cN {S with k:=k2+1,ac:=S.ac++flat l1 f S.ac.length S.c,c:=S.c+cells f}))):=dL.trans .gj;ext:0;dsimp only at X3;generalize upd H2 r (.ins T.bc S.dx (cN {S with k:=k2+1,ac:=S.ac++flat l1 f S.ac.length S.c,c:=S.c+cells f}))=H3 at X3 S3;rw[aR]at u1;(have fU:(844 S.c).length=S.ac.length+size f:=by rw[bw,dX]);refine{_,rfl,_,rfl,r,_,toks,t2,l1,rfl,X3,a3,by show(S.ac++flat _ _ _ _).length+_<=_;rw[fU];omega,?_};(cases jp:rd 0 d l1 t2 with|error e=>rw[jp]at kk;exact dC.go kk S3|ok y=>obtain⟨g,l2,t3⟩:=y;rw[jp]at kk;dsimp only at kk;ext:152;obtain⟨ex,mn⟩:=sK.ext;intro H4 k4 S4 a4 X4;have gM:=S3.trans S4;refine(221 X4.at_);refine(199 X4);replace hw:=a4.head.symm.trans hw;obtain⟨t4,rfl⟩:=(656 C2).mp hw;rw[Bv]at kk;have a5:=a4.next;have X5:=X4.nums (k4+1) (S.c+cells f+cells g);refine{_,rfl,_,rfl,by show 2<=sizeLine;decide,fun p H6 S6 e6=>?_};refine kk H6 p (k4+1) (gM.trans ((bZ.gj).trans (.of S6))) a5 ?_ ?_;have X6:=X5.same S6;dsimp only at X6;rw[fU]at X6;(have e1:flat l2 f S.ac.length S.c=flat l1 f S.ac.length S.c:=by rw[mn];exact jy ex wL.bW);rw[e1];exact X6;rw[e6];ext:0;rw[fU];replace hw:=fun z=>hw (a4.head.trans z);rw[BF (718 ((656 C2).mpr ⟨q,z⟩))]at kk;have:=dC.go kk gM;rw[<-a4.err]at this;ext:64);replace hw:=fun z=>hw (a2.head.trans z);rw[BF (718 ((656 BI).mpr ⟨q,z⟩))]at kk;have:=dC.go kk dL;rw[<-a2.err]at this;ext:64
 rw[a.head]at hw;rw[BF (718 ((656 MP).mpr ⟨q,z⟩))]at kk;have k2:dC T.bX E r S.pn H (pB toks t.length):=kk;rw[<-a.err]at k2;exact k2
end
section
open Vbavaf (F Atom R Bytes text size cells window want)
theorem adN{d:Nat}{l l1 l2:34}{t t4:39}{f g:F}(h:tS d l t=.ok ((f,l1),(g,l2,t4))):gf l (.since 0 none f g) l2/\size f+size g+t4.length<=t.length:=by have e:=Ui d l (0,none) t;rw[h]at e;obtain⟨q1,q2⟩:=OZ nP (v:=(0,none)) {by decide,fun n z=>nomatch z} e;refine{q1,?_};change 1+size f+size g+t4.length<=t.length+1 at q2;omega
theorem Du{o:Op}:decide (V.str o.kind=V.str ("since":String))=true↔∃a b,o=.since a b:=by rw[bg];cases o with|since a b=>exact{fun _=>⟨a,b,rfl⟩,fun _=>rfl}|_=>exact{fun z=>absurd 891 510,fun⟨_,_,z⟩=>nomatch z}
def OG(CW C CN:Addr)(d:Nat):Sp:=fun vs H Q E=>∃(r o_:Addr)(S:Rs)(toks t:List Bytes)(l:List Atom)(o:Op),vs=[.ref r,.str o.kind,.ref o_,.int (41-((d+1:Nat):Int))]/\cU C CN H r S/\At toks S.ws S.k t/\S.ac.length+t.length+1<=1000/\H o_=some 541/\o.wf/\
 ((∃mk,qJ mk o/\pD CW C CN r S toks H Q E (mapR mk (rd 2 d l t)))\/∃a b,o=.since a b/\pD CW C CN r S toks H Q E (SD a b (tS d l t)))
theorem DQ:bf ["reader","word","numbers","depth","start","parts"] ["reader","word","numbers","depth"] (a_ UH):=17
theorem afS(T:65)(d k:Nat)(DK:5<=k)(agh:aE P w K mg base 154 k T.wY.a T.wY.fd ["reader","depth"] (R1 T.bX T.bc T.aJ d))(CG:771 869):aE P w K mg base 154 (k+1) T.w_.a T.w_.fd ["reader","word","numbers","depth"] (OG T.bX T.bc T.aJ d):=by
 refine T.w_.F.jZ DQ 28 19;obtain⟨r,o_,S,toks,t,l,o,rfl,_⟩:=h;rfl;obtain⟨r,o_,S,toks,t,l,o,rfl,X,a,sz,hn,wf,kk⟩:=h;refine(421 (aj (170 DQ.nd (512 T.vm)) (aj (Sh T.bN T.vm 56 (bJ T.Ar (Lu T) hr (845 336) (hk:=by omega))) (aj (bB (73 cD 179 cu) (au (476 DQ.nd (i8 T.wY agh hr (aa 56 (38 (606 174)))))) (au (476 DQ.nd (dB (38 (i8 T.lO CG hr (aa 56 (38 (606 174))))))))) (au (aF (589 (845 (aa 88 (aa 663 284))))))))));refine(273 X.at_);refine{_,rfl,r,_,_,_,rfl,X.at_,rfl,_,rfl,_,rfl,o,o_,rfl,hn,wf,_,_,_,rfl,X.at_,485,?_};have X1:=X.nums S.k (S.c+o.width)
 have S1:bZ r S.pn H (257 r 678):=.gj;have ec:(S.c:Int)+(o.width:Int)=((S.c+o.width:Nat):Int):=by omega
 have eH:upd H r (.ins T.bc S.dx (fX "claimed" (.int ((S.c:Int)+(o.width:Int))) (cN S)))=upd H r 678:=by rw[ec];rfl
 rw[eH];ext:0;generalize upd H r (.ins T.bc S.dx (cN {S with k:=S.k,c:=S.c+o.width}))=H1 at X1 S1;have nr:o_≠r:=fun z=>by rw[z,X.at_]at hn;cases hn
 have nn:o_≠S.pn:=fun z=>by obtain⟨vs,h,_⟩:=X.nodes;rw[z,h]at hn;cases hn
 have ed:(41:Int)-((d+1:Nat):Int)+1=41-(d:Int):=by omega
 refine 195;rcases kk with⟨mk,U,kk⟩|⟨wa,wb,rfl,kk⟩;rw[12,(fun z=>by obtain⟨x,y,e⟩:=Du.mp z;exact U.un x y e)];refine 487;ext:0;rw[ed];refine(453 X1 a);cases er:rd 2 d l t with|error e=>rw[er]at kk;exact dC.go kk S1|ok x=>obtain⟨f,l1,t1⟩:=x;rw[er]at kk;ext:79;intro H2 k2 S2 a2 X2;refine{by show 1<=sizeLine;decide,fun pp H3 S3 e3=>?_};have X3:=X2.same S3;have tI:=S3 _ _ (S2 _ _ nr nn (S1 _ _ nr nn hn));refine(947 X3.at_);(have fU:(844 (S.c+o.width)).length=S.ac.length+size f:=by rw[bw,dX]);have hp:=size_pos f;refine{r,o_,pp,_,o,[S.ac.length+size f-1],S.c,rfl,X3,tI,e3,wf,by show(S.ac++flat _ _ _ _).length<=_;rw[fU];omega,fun H4 S4 X4=>?_};have k4:=kk H4 k2 (910 (S2.trans ((bZ.of S3).trans S4))) a2;rw[U.flat,U.size,U.cells]at k4;(have e1:S.ac.length+(1+size f)-1=(844 (S.c+o.width)).length:=by rw[fU];omega);rw[e1,<-gp,<-eE]at k4;exact k4 X4
 refine aS (Du.mpr ⟨wa,wb,rfl⟩) ?_;refine 487;ext:0;rw[ed];refine(453 X1 a)
 cases er:tS d l t with|error e=>rw[er]at kk;exact dC.go kk S1|ok x=>obtain⟨⟨f,l1⟩,g,l2,t4⟩:=x;rw[er]at kk;have szP:=(adN er).2;intro H2 pp k2 S2 a2 X2 e2;have ja:=S2 _ _ nr nn (S1 _ _ nr nn hn);refine(947 X2.at_);(have fU:(288 f).length=S.ac.length+size f+size g:=by rw[bw,bw,dX,dX]);have hp:=size_pos f;refine{r,o_,pp,_,.since wa wb,[S.ac.length+size f-1,S.ac.length+size f+size g-1],S.c,rfl,X2,ja,e2,trivial,by show(S.ac++flat _ _ _ _++flat _ _ _ _).length<=_;rw[fU];omega,fun H4 S4 X4=>?_};have k4:=kk H4 k2 (910 (S2.trans S4)) a2;have e0:size 737=1+size f+size g:=rfl;(have e1:S.ac.length+size 737-1=(288 f).length:=by rw[fU,e0];omega);(have pi:S.c+cells 737=S.c+(Op.since wa wb).width+cells f+cells g:=by show S.c+(wa+1+cells f+cells g)=S.c+(wa+1)+cells f+cells g;omega);(have e3:S.ac++flat l2 737 S.ac.length S.c=S.ac++flat l2 f S.ac.length (S.c+(Op.since wa wb).width)++flat l2 g 974 (S.c+(Op.since wa wb).width+cells f)++[{.since wa wb,[S.ac.length+size f-1,S.ac.length+size f+size g-1],S.c}]:=by show S.ac++(flat l2 f S.ac.length (S.c+(wa+1))++flat l2 g 974 (S.c+(wa+1)+cells f)++[_])=_;rw[gp,gp,gp];rfl);rw[e1,pi,e3]at k4;exact k4 X4
end
section
open Vbavaf (F Atom R Bytes text size cells window want reading)
theorem acv{CW C CN r:Addr}{S:Rs}{toks t:39}{H:Hp}{Q:VK}{E:XK}{x:Str}(a:At toks S.ws S.k t)(X:cU C CN H r S)(h:∀H' p k' nums r1,gO x t=.ok (nums,r1)->bZ r S.pn H H'->At toks S.ws k' r1->cU C CN H' r {S with k:=k'}->H' p=some (.tup (nums.map V.int))->Q 310 H')(he:∀e,gO x t=.error e->dC CW E r S.pn H (pB toks e)):match gQ x with|.i6=>HQ CW C CN r S toks H Q E (window t)|.cnt=>Hz CW C CN r S toks H Q E (fJ t)|.bo=>∀H' p,ah H H'->H' p=some (.tup [])->Q 310 H':=by unfold gO at h he;cases hn:gQ x with|i6=>(rw[hn]at h he;dsimp only at h he⊢;cases hw:window t with|error e=>rw[hw]at he;exact he e rfl|ok y=>obtain⟨⟨wa,wb⟩,r1⟩:=y;ext:139)|cnt=>(rw[hn]at h he;dsimp only at h he⊢;cases hw:fJ t with|error e=>rw[hw]at he;exact he e rfl|ok y=>obtain⟨⟨wa,wb⟩,r1⟩:=y;ext:139)|bo=>rw[hn]at h he;dsimp only at h he⊢;exact fun H' p q1 q2=>h H' p S.k [] t rfl (.of q1) a (X.same q1) q2
def agN(CW C CN:Addr)(m:Nat):Nat->Sp
 |0=>fun _ _ _ _=>False
 |d+1=>n_ CW C CN m d
def af4(CW C CN:Addr):Nat->Sp
 |0=>fun _ _ _ _=>False
 |d+1=>OG CW C CN d
def SW(CW C CN:Addr)(d:Nat):Sp:=fun vs H Q E=>∃(r:Addr)(S:Rs)(toks t:List Bytes)(l:List Atom)(w0:Bytes),vs=[.ref r,.str (wd w0),.int 970]/\cU C CN H r S/\At toks S.ws S.k (w0::t)/\S.ac.length+(w0::t).length<=1000/\w0∈qz/\pD CW C CN r S toks H Q E (dq rd d l (w0::t))
theorem BH:bf ["reader","word","depth","own_word","numbers","whole"] ["reader","word","depth"] (a_ PP):=17
theorem LX(T:65)(d k:Nat)(hk6:6<=k)(BS:770 (agN T.bX T.bc T.aJ 0 d))(aeB:aE P w K mg base 154 k T.w_.a T.w_.fd ["reader","word","numbers","depth"] (af4 T.bX T.bc T.aJ d)):aE P w K mg base 154 (k+1) T.vU.a T.vU.fd ["reader","word","depth"] (SW T.bX T.bc T.aJ d):=by
 refine T.vU.F.jZ BH 28 19;obtain⟨r,S,toks,t,l,w0,rfl,_⟩:=h;rfl;obtain⟨r,S,toks,t,l,w0,rfl,X,a,sz,hw0,kk⟩:=h;refine(421 (aj 124 (aj (92 BH.nd (512 T.wB)) (aj (170 BH.nd (334 T.Bj (aaG T))) (aj (554 (73 mG 88 (cF T.afT)) (au (Q1 T.yC (PQ T) hr T.Gx T.Ra 174))) (aj (554 (73 cD 179 cu) (aj (476 BH.nd (i8 T.kx BS hr (aa 56 (38 (606 88))))) (162 (au (aF 663))))) (au (aF (i8 T.w_ aeB hr (aa 56 (845 (aa 602 336))))))))))));ext:9
 refine(165 S);ext:0;ext:10;refine(273 X1.at_);refine{_,rfl,_,rfl,r,_,toks,t,_,rfl,X1,a1,?_};have hc:=afm d l w0 t hw0;rw[aR]at sz;refine acv a1 X1 (fun H2 p k2 nums r1 en S2 a2 X2 e2=>?_) (fun e en=>?_);have dL:=S1.trans S2;refine 341
 cases d with|zero=>(have es:dq rd 0 l (w0::t)=.error (w0::t).length:=by cases hc with|par e0 _ ez=>rw[ez];unfold ml;rw[if_pos rfl]|err e _ iB _=>rw[iB]at en;cases en|m9 o mk r1 _ _ _ _ _ es=>rw[es,aew]|xY wa wb r1 _ _ _ es=>rw[es,if_pos rfl]);rw[es]at kk;refine aS 29 {_,rfl,_,rfl,fun ax dx h1 h2 h3=>?_};have ke:=dC.go kk dL;rw[<-a.err]at ke;refine ke ax dx _ (.of fun b o h=>?_) aM (by rw[ay h3,aM];rfl);rw[ay 923,ay (bF h h2)];exact h|succ d=>(have ed:(41:Int)-((d+1:Nat):Int)+1=41-(d:Int):=by omega);refine 572;refine 195;rw[oQ];(have Ow:((("(":String):Str))=wd [40]:=by decide+kernel);(have Ca:r1.length<=t.length:=by unfold gO at en;cases hn:gQ (wd w0)with|i6=>(rw[hn]at en;dsimp only at en;cases hw:window t with|error e=>rw[hw]at en;cases en|ok y=>rw[hw]at en;cases en;exact nQ hw)|cnt=>(rw[hn]at en;dsimp only at en;cases hw:fJ t with|error e=>rw[hw]at en;cases en|ok y=>rw[hw]at en;cases en;exact DN hw)|bo=>rw[hn]at en;cases en;exact aV _);by_cases hp:w0=[40];refine aS (by rw[bg,Ow,hp]) ?_;(cases hc with|err e ne _ _=>exact 89 hp ne|m9 o mk r1 _ ne _ _ _ _=>exact 89 hp ne|xY wa wb r1 ne _ _ _=>exact 89 hp ne|par _ iB ez=>rw[iB]at en;cases en;rw[ez]at kk;unfold ml at kk;rw[if_neg 23,E5]at kk;refine 487;ext:0;rw[ed];refine(453 X2 a2);cases er:rd 0 d l t with|error e=>rw[er]at kk;exact dC.go kk dL|ok x=>obtain⟨f,l1,t1⟩:=x;rw[er]at kk;dsimp only at kk;intro H3 k3 S3 a3 X3;refine(221 X3.at_);refine(199 X3);replace hw:=a3.head.symm.trans hw;obtain⟨t2,rfl⟩:=(656 C2).mp hw;rw[Bv]at kk;have a4:=a3.next;have X4:=X3.nums (k3+1) (S.c+cells f);exact{_,rfl,kk _ (k3+1) (dL.trans (S3.trans .gj)) a4 X4};replace hw:=fun z=>hw (a3.head.trans z);rw[BF (718 ((656 C2).mpr ⟨q,z⟩))]at kk;have:=dC.go kk (dL.trans S3);rw[<-a3.err]at this;ext:64);rw[12,(by rw[bg,Ow];exact fun z=>hp ((yI 29).mp z))];refine{_,rfl,_,rfl,_,rfl,_,rfl,?_};(have back:∀{z:R},pD T.bX T.bc T.aJ r S toks H Q E z->pD T.bX T.bc T.aJ r {S with k:=k2} toks H2 Q E z:=by intro z hz;cases z with|error e=>exact dC.go hz dL|ok y=>obtain⟨f,l1,t1⟩:=y;exact fun H' k' q1 q2 q3=>hz H' k' (dL.trans q1) q2 q3);cases hc with|par e0 _ _=>exact 89 e0 hp|err e _ iB _=>rw[iB]at en;cases en|m9 o mk YN U _ ek wf iB es=>rw[iB]at en;cases en;rw[es,ahA]at kk;exact{r,p,_,toks,r1,l,o,by rw[ek];rfl,X2,a2,by show S.ac.length+_+1<=_;omega,e2,wf,.inl {mk,U,back kk}}|xY wa wb YN _ ek iB es=>rw[iB]at en;cases en;rw[es,if_neg 23,Ui]at kk;exact{r,p,_,toks,r1,l,.since wa wb,by rw[ek];rfl,X2,a2,by show S.ac.length+_+1<=_;omega,e2,trivial,.inr {wa,wb,rfl,back kk}}
 cases hc with|par _ iB _=>rw[iB]at en;cases en|err e' _ iB es=>rw[iB]at en;cases en;rw[es]at kk;exact dC.go kk S1|m9 o mk r1 _ _ _ _ iB _=>rw[iB]at en;cases en|xY wa wb r1 _ _ iB _=>rw[iB]at en;cases en
end
section
open Vbavaf (F Atom R Bytes text size cells window want reading)
theorem XQ{d:Nat}{l:34}{w0:Bytes}{t:39}{x:Nat}(h:reading w0=some x):dq rd d l (w0::t)=jO l x t:=by
 have e:∃c,w0=[120,c]:=by unfold Wx at h;ext:23;exact 569;ext:91
 obtain⟨c,rfl⟩:=e;unfold dq;ext:0;have n:∀(u:Bytes),u.length≠2->[120,c]≠u:=fun u hu z=>hu (by rw[<-z];rfl);rw[if_neg 902,if_neg 902,if_neg 902,if_neg 902,if_neg 902,if_neg 902,if_neg 902,if_neg 902,if_neg 902,if_neg 902,h]
theorem adw{d:Nat}{l:34}{w0:Bytes}{t:39}(h1:w0∉qz)(h2:reading w0=none)(h3:w0≠text "true")(h4:w0≠text "false"):dq rd d l (w0::t)=.error (w0::t).length:=by simp only[qz,bE,ic,or_false,not_or]at h1;obtain⟨n1,n2,n3,n4,n5,n6,n7,n8⟩:=h1;unfold dq;ext:0;rw[if_neg h3,if_neg h4,if_neg n2,if_neg n3,if_neg n4,if_neg n5,if_neg n6,if_neg n7,if_neg n8,if_neg n1,h2]
theorem ahY{d:Nat}{l:34}{t:39}:dq rd d l (text "true"::t)=.ok (.const true,l,t):=by unfold dq;rfl
theorem ab1{d:Nat}{l:34}{t:39}:dq rd d l (text "false"::t)=.ok (.const false,l,t):=by unfold dq;rfl
theorem ain(T:65):(mw T).map (·.1)=[[120,48],[120,49],[120,50],[120,51],[120,52],[120,53],[120,54],[120,55]].map fun u=>(uC (wd u):Key):=by show[_,_,_,_,_,_,_,_]=_;decide+kernel
theorem MY(T:65){x:Str}(h:∀u,reading u≠none->x≠wd u):da (mw T) (.inr x)=none:=by
 unfold da;rw[Option.map_eq_none_iff,List.find?_eq_none];intro kv xc z;have z':kv.1=.inr x:=of_decide_eq_true z;have hm:kv.1∈(mw T).map (·.1):=dJ.mpr ⟨kv,xc,rfl⟩;rw[ain,z']at hm;obtain⟨u,hu,e⟩:=dJ.mp hm;have hr:∀u∈[[120,48],[120,49],[120,50],[120,51],[120,52],[120,53],[120,54],[120,55]],reading u≠none:=by decide
 exact h u (hr u hu) (Sum.inr.inj e).symm
theorem ahF{u:Bytes}(h:reading u≠none):∀c∈u,c∈fS:=by
 unfold Wx at h;ext:23;rename_i d;ext:23;ext:185
 rcases this with z|z|z|z|z|z|z|z<;>subst z<;>decide;exact 89 rfl h;exact 89 rfl h
theorem acn(T:65){w0:Bytes}(h:reading w0=none):da (mw T) (546 (wd w0))=none:=by refine MY T fun u hu z=>hu ?_;rw[<-(yI (ahF hu)).mp z];exact h
theorem acA(T:65):da (mw T) (546 (hd []))=none:=by
 refine MY T fun u hu z=>?_;have:(hd []).length=(wd u).length:=by rw[z]
 rw[zT]at this;have h0:(hd []).length=0:=by decide
 rw[h0]at this;have:u=[]:=uP.mp this.symm;ext:84;exact hu 29
theorem MW:bf ["reader","depth","word"] ["reader","depth"] (a_ Re):=17
theorem Lf(T:65)(Dc:213)(Ee:707)(d k:Nat)(DK:5<=k)(aiS:aE P w K mg base 154 k T.vU.a T.vU.fd ["reader","word","depth"] (SW T.bX T.bc T.aJ d)):aE P w K mg base 154 (k+1) T.lO.a T.lO.fd ["reader","depth"] 869:=by
 refine T.lO.F.jZ MW 28 19;ext:18;refine(421 (aj (90 MW.nd 144) (aj (554 (bh qY 88 (oh T.II.m) 77) (au (aF (i8 T.vU aiS hr (aa 56 (aa 88 483)))))) (aj (554 (Ag (Ge Dc.DV.d Dc.DV.m 88) 77) (au (aF (i8 T.EE (air T Dc Ee) hr 734)))) (aj (cr (440 (38 (adt (jF cD 88 cu (bi _)) (Ff (jF cD 88 cu (bi _))))))) (aj 124 (au (aF (589 (aa 88 (aa (dB ae) (aa (dB ae) (38 (512 T.vm))))))))))))));rw[agG]at kk;refine(165 S);rw[a.head];refine{_,rfl,T.II.a,_,rfl,.inr (T.II.sq _),rfl,rfl,_,rfl,?_};rw[if_neg 29,DD]
 by_cases hh:hd t∈Bw;refine aS (cK hh) ?_;cases t with|nil=>(have:hd []∉Bw:=by decide);exact 89 hh this|cons w0 t1=>exact{_,rfl,_,rfl,_,rfl,r,S,toks,t1,l,w0,rfl,X,a,sz,(Md w0).mp hh,kk}
 rw[12,(by rw[bg];exact hh)];refine{_,rfl,.inr (hd t),rfl,_,rfl,?_};by_cases hx:∃w0 t1 x,t=w0::t1/\reading w0=some x;obtain⟨w0,t1,x,rfl,hx⟩:=hx;rw[XQ hx]at kk;have ev:(da (mw T) (546 (hd (w0::t1)))).isSome=true:=by show(da (mw T) (546 (wd w0))).isSome=true;rw[(Ly T hx).1];rfl
 rw[ev];rw[aR]at sz;exact aS rfl {_,rfl,r,S,toks,t1,w0,x,l,rfl,X,a,hx,by omega,kk};have ev:(da (mw T) (546 (hd t))).isSome=false:=by cases t with|nil=>rw[acA];rfl|cons w0 t1=>show(da (mw T) (546 (wd w0))).isSome=false;rw[acn T 496];rfl
 rw[ev];refine 533;refine{_,rfl,r,_,_,rfl,X.at_,rfl,_,rfl,rfl,?_};rw[oQ];by_cases ht:hd t=("true":String);refine{_,rfl,aS (cK ht) ?_};refine{r,S,true,rfl,X,fun _=>?_,fun z=>791};obtain⟨t1,rfl⟩:=(gE (u:=text "true") 47 29 29).mp ht;rw[ahY]at kk;ext:9;refine(165 S);ext:0;ext:10;ext:140;refine{r,p3,p4,_,.tt,[],S.c,by rw[ht];rfl,X4,S4 _ _ e3,e4,trivial,by show S.ac.length<=_;omega,fun H5 S5 X5=>?_};exact kk H5 (S.k+1) (910 481) a1 X5;refine{_,rfl,aU (by rw[bg];exact ht) ?_};refine{_,rfl,rfl,?_};rw[oQ];refine{r,S,_,rfl,X,fun hb=>?_,fun hb=>?_};rw[bg]at hb;have nt:=ht;clear ht;have ht:=hb;obtain⟨t1,rfl⟩:=(gE (u:=text "false") 47 29 29).mp ht
 rw[ab1]at kk;ext:9;refine(165 S);ext:0;ext:10;ext:140;refine{r,p3,p4,_,.ff,[],S.c,by rw[ht];rfl,X4,S4 _ _ e3,e4,trivial,by show S.ac.length<=_;omega,fun H5 S5 X5=>?_};exact kk H5 (S.k+1) (910 481) a1 X5;rw[m5]at hb;rw[a.err];cases t with|nil=>exact kk|cons w0 t1=>rw[adw (393 hh ((Md w0).mpr z)) 496 (393 ht (by rw[z];show wd (text "true")=_;decide+kernel)) (393 hb (by rw[z];show wd (text "false")=_;decide+kernel))]at kk;exact kk
end
section
open Vbavaf (F Atom R Bytes text size cells window want reading tokens)
def tY(l:34)(toks:39):Except Nat (F×List Atom):=match rd 0 40 l toks with
 |.error e=>.error (toks.length+1-e)
 |.ok (f,l1,[])=>.ok (f,l1)
 |.ok (_,_,r)=>.error (toks.length+1-r.length)
theorem BZ(l:34)(b:Bytes):sC l b=tY l (tokens b []):=by unfold sC tY;ext:0;rw[show Vbavaf.read (4*(tokens b []).length+4) 0 Vbavaf.DEEP l (tokens b [])=rd 0 40 l (tokens b [])from ui 23 23];rfl
theorem Jb:∀(b w:Bytes),∀t∈tokens b w,t≠[]
 |[],w=>by rw[Jm];intro t h;ext:184;rename_i hw;ext:114;intro z;rw[Wy]at z;rw[z]at hw;exact hw rfl
 |c::r,w=>by have Pe:=Jb r [];have FV:=Jb r (c::w);(have hb:∀t∈(if w.isEmpty=true then[]else[w.reverse]:List Bytes),t≠[]:=by intro t h;ext:184;rename_i hw;ext:114;intro z;rw[Wy]at z;rw[z]at hw;exact hw rfl);rw[GX];intro t h;ext:23;rcases bP.mp h with q|q;exact hb t q;exact Pe t q;ext:23;rcases bP.mp h with q|q;exact hb t q;rcases bE.mp q with q|q;rw[q];simp;exact Pe t q;exact FV t h
theorem IA:∀(b w:Bytes),(tokens b w).length+579<=b.length+1/\∀t∈tokens b w,t.length<=b.length+w.length
 |[],w=>(by rw[Jm];cases w with|nil=>exact{by decide,fun t h=>by cases h}|cons a as=>refine{by simp,fun t h=>?_};(have e:t=(a::as).reverse:=by simpa using h);rw[e];simp)
 |c::r,w=>by obtain⟨i1,i2⟩:=IA r [];obtain⟨j1,j2⟩:=IA r (c::w);(have hb:∀t∈(if w.isEmpty=true then[]else[w.reverse]:List Bytes),t.length<=w.length:=by intro t h;ext:184;ext:114;simp);(have hl:(if w.isEmpty=true then[]else[w.reverse]:List Bytes).length+579<=1:=by split<;>simp);rw[GX];simp only[List.isEmpty_nil,jL]at i1;simp only[List.isEmpty_cons,oG,kS]at j1;split;refine{?_,fun t h=>?_};rw[bw,aR];omega;rcases bP.mp h with q|q;have:=hb t q;omega;have:=i2 t q;rw[aR];simp at this;omega;split;refine{?_,fun t h=>?_};rw[bw,aR,aR];omega;rcases bP.mp h with q|q;have:=hb t q;omega;rcases bE.mp q with q|q;rw[q,aR,aR];simp;omega;have:=i2 t q;rw[aR];simp at this;omega;refine{?_,fun t h=>?_};rw[aR];(have:579<=1:=by split<;>omega);omega;have:=j2 t h;simp only[aR]at this⊢;omega
theorem QW{CX:gL}{k:Nat}{f:Addr}{fd:eW}{ps:132}:aE P w K mg base CX k f fd ps (fun _ _ _ _=>False):={fun _ _ _ _ h=>h.elim,fun _ _ _ _ _ _ _ _ _ _ _ _ _ h=>h.elim}
theorem Qj(T:65)(Dc:213)(Ee:707):∀d,aE P w K mg base 154 (8+6*d) T.lO.a T.lO.fd ["reader","depth"] 869/\aE P w K mg base 154 (10+6*d) T.kx.a T.kx.fd ["reader","depth"] 868
 |0=>by have h:=LX (P:=P) (w:=w) (base:=base) T 0 6 23 QW QW;have u:=Lf T Dc Ee 0 7 23 h;have c:=R6 T 0 8 23 u;exact{u,QP T 0 9 23 c}
 |d+1=>by obtain⟨u,f⟩:=Qj T Dc Ee d;have p:=afE T d (10+6*d) 23 f;have o:=afS T d (11+6*d) 23 (p.mono 23) (u.mono 23);have h:=LX (P:=P) (w:=w) (base:=base) T (d+1) (12+6*d) 23 (f.mono 23) (o.mono 23);have u2:=Lf T Dc Ee (d+1) (13+6*d) 23 (h.mono 23);have c:=R6 T (d+1) (14+6*d) 23 (u2.mono 23);have f2:=QP T (d+1) (15+6*d) 23 (c.mono 23);exact{u2.mono 23,f2.mono 23}
def agO(CW:Addr)(E:XK)(H:Hp)(n:Int):Prop:=∀a d H',ah H H'->H' a=some (.ext (ky CW a d))->H' d=some 853->E 152 (some d) H'
def agl(CW CN:Addr):Sp:=fun vs H Q E=>∃(pw:Addr)(toks:List Bytes)(l:List Atom),vs=[.ref pw]/\H pw=some (80 ((toks.map wd).map V.str))/\toks.length<=1000/\(∀t∈toks,t≠[])/\(∀t∈toks,t.length<=1000)/\match tY l toks with
 |.error n=>agO CW E H (n:Int)
 |.ok (f,l1)=>∀H' pn,ah H H'->H pn=none->dU CN H' pn (70 l1)->Q (.ref pn) H'
theorem Vh:bf ["words","reader"] ["words"] (a_ U7):=17
theorem U2(T:65)(Dc:213)(Ee:707):aE P w K mg base 154 0251 T.z_.a T.z_.fd ["words"] (agl T.bX T.aJ):=by
 refine T.z_.F.jZ Vh 28 19;obtain⟨pw,toks,l,rfl,_⟩:=h;rfl;obtain⟨pw,toks,l,rfl,hw,sz,ne,fw,kk⟩:=h;refine(421 (aj (184 Vh.nd (TD T.agc (ada T) (hr.mono 23) rfl T.agi T.zo.b .nil oj 734)) (aj (cr (i8 T.kx ((Qj T Dc Ee 40).2) hr (845 884))) (aj (cr (iX T.bN T.pL (wR T) hr 179 (38 (jF cD (gi T.bN T.jH (lU T) hr 179) cu (bi _))))) (au (aF (aX T.bN T.BV 179)))))));refine{_,rfl,fun r dx h1 h2 h3=>?_};refine{r,dx,pw,rfl,aM,fun pn H1 k1 k2 k3 k4 k5=>{rfl,?_}};have S1:ah H H1:=fun b o h=>k1 b o 923 (by rw[ay 923,ay (bF h h2)];exact h);have wU:H pn=none:=by rw[ay k3]at k2;by_cases z:pn=dx;rw[z,aM]at k2;cases k2;rw[ay z]at k2;exact k2
 have hw1:=S1 _ _ hw;have X1:cU T.bc T.aJ H1 r {pw:=pw,pn:=pn,dx:=dx,ws:=toks.map wd,k:=0,ac:=[],c:=0}:={k4,hw1,{[],k5,.nil},(fun z=>by rw[show pw=pn from z]at hw;rw[hw]at wU;cases wU),by show(toks.map wd).length<=1000;rw[az];exact sz};have a1:At toks (toks.map wd) 0 toks:={rfl,rfl,bA _,ne,fw};have up:∀{H2:Hp},bZ r pn H1 H2->ah H H2:=fun S2 b o h=>S2 b o 923 (bF h wU) 415;unfold tY at kk;refine{_,rfl,r,_,toks,toks,l,rfl,X1,a1,by show 0+_<=_;omega,?_}
 cases er:rd 0 40 l toks with|error e=>rw[er]at kk;exact fun ax d H2 S2 h1 h2=>kk ax d H2 (up S2) h1 h2|ok x=>obtain⟨f,l1,t1⟩:=x;rw[er]at kk;intro H2 k2 S2 a2 X2;refine{_,rfl,r,_,_,rfl,X2.at_,rfl,_,rfl,r,_,_,rfl,X2.at_,rfl,r,_,rfl,X2,rfl,?_};rw[show(toks.map wd).getD k2 (("":String):Str)=hd t1 from a2.head,oQ];refine{r,_,_,rfl,X2,fun hb=>?_,fun hb=>?_};rw[bg]at hb;(cases t1 with|nil=>refine(273 X2.at_);exact kk H2 pn (up S2) wU X2.nodes|cons w0 t2=>exfalso;have h0:(wd w0).length=(("":String):Str).length:=eC uU hb;rw[zT]at h0;exact ne w0 (a2.mem w0 cY) (uP.mp (h0.trans 29)));rw[m5]at hb;cases t1 with|nil=>exact 89 rfl hb|cons w0 t2=>rw[a2.err];exact fun ax d H3 S3 h1 h2=>kk ax d H3 (up (S2.trans S3)) h1 h2
end
end PC
namespace PC
open Vbavaf (F Atom size cells watch nowOf bit onceCells sinceCells last total holds)
def wk(xs:33):List Nd->List 71->List Bool->List 71->List Bool×List 71
 |nd::t,cs::aZ,ts,af=>wk xs t aZ (ts++[(eX xs ts nd cs).1]) (af++[(eX xs ts nd cs).2])
 |_,_,ts,af=>(ts,af)
theorem yb(xs:33):∀(a b:List Nd)(ca cb:List 71)(ts:List Bool)(af:List 71),a.length=ca.length->wk xs (a++b) (ca++cb) ts af=wk xs b cb (wk xs a ca ts af).1 (wk xs a ca ts af).2
 |[],b,[],cb,ts,af,_=>rfl
 |[],_,_::_,_,_,_,h=>by cases h
 |_::_,_,[],_,_,_,h=>by cases h
 |nd::a,b,cs::ca,cb,ts,af,h=>by(have h':a.length=ca.length:=by simpa using h);exact yb xs a b ca cb _ _ h'
theorem K_(ac:277)(aZ:611)(xs:33)(hl:990):∀i,i<=ac.length->eM ac aZ xs i=wk xs 225 (aZ.take i) [] []
 |0,_=>by simp[eM,wk]
 |i+1,h=>by have ih:=K_ ac aZ xs hl i 23;ext:126;rw[e1,e2,gx e1,gx e2,yb _ _ _ _ _ _ _ (by rw[bU,bU];omega),<-ih];rfl
theorem aem(ac:277)(aZ:611)(xs:33)(hl:990):eM ac aZ xs ac.length=wk xs ac aZ [] []:=by rw[K_ ac aZ xs hl _ 227,gW,hl,gW]
theorem mL(l:34):∀(f:F)(n st:Nat)(nd:Nd),nd∈flat l f n st->st<=nd.start/\nd.start+nd.op.width<=st+cells f:=by
 have aw:∀i,(dE l i).width=0:=fun i=>by unfold dE;split<;>rfl
 intro f
 induction f with|const b=>intro n st nd h;rw[flat,cM]at h;subst h;cases b<;>simp[Op.width,cells]|atom i=>intro n st nd h;rw[flat,cM]at h;subst h;simp[aw,cells]|not f ih=>(ext:36;rcases h with h|h;exact ih n st nd h;subst h;simp[Op.width,cells])|prev f ih=>(ext:36;rcases h with h|h;ext:141)|rose f ih=>(ext:36;rcases h with h|h;ext:141)|once a b f ih=>(ext:36;rcases h with h|h;ext:141)|always a b f ih=>(ext:36;rcases h with h|h;ext:141)|count k m f ih=>(ext:36;rcases h with h|h;ext:141)|and f g ih aP=>(intro n st nd h;rw[flat,bP,bP,cM]at h;rcases h with(h|h)|h;ext:68;ext:5;omega)|or f g ih aP=>(intro n st nd h;rw[flat,bP,bP,cM]at h;rcases h with(h|h)|h;ext:68;ext:5;omega)|since a b f g ih aP=>intro n st nd h;rw[flat,bP,bP,cM]at h;rcases h with(h|h)|h;ext:68;ext:5;omega
def own(st:Nat)(c:71)(nd:Nd):List Nat:=(212 (nd.start-st)).take nd.op.width
def kz(xs:33)(c:71)(ac:277)(n st k:Nat)(t:Bool)(new:71):Prop:=
 new.length=k/\∀(ts:List Bool)(af:List 71),ts.length=n->∃mid,wk xs ac (ac.map (own 0 c)) ts af=(ts++mid++[t],af++ac.map (own st new))/\mid.length+1=ac.length
end PC
namespace PC
open Vbavaf (F Atom size cells watch nowOf bit onceCells sinceCells last total holds)
theorem Cy{st w:Nat}{a b:71}{nd:Nd}(hl:a.length=w)(hs:st+w<=nd.start):own st (a++b) nd=own (st+w) b nd:=by
 unfold own;have e:nd.start-st=a.length+(nd.start-(st+w)):=by omega
 rw[e,Wz,List.drop_of_length_le 23,V3];congr 2;omega
theorem ag8{st k:Nat}{a b:71}{nd:Nd}(hl:a.length=k)(hs:st<=nd.start)(he:nd.start+nd.op.width<=st+k):own st (a++b) nd=own st a nd:=by unfold own;rw[List.drop_append_of_le_length 23,List.take_append_of_le_length 111]
theorem ah8{xs:33}{c:71}{oV:277}{nd:Nd}{n st w k:Nat}{t tr:Bool}{new eJ:71}(S:kz xs c oV n (st+w) k t new)(ze:∀x∈oV,st+w<=x.start)(ij:eJ.length=w)(hn:own st (eJ++new) nd=eJ)(hd:∀ts:List Bool,ts.length=n+oV.length->ts.getD (n+oV.length-1) false=t->eX xs ts nd (own 0 c nd)=(tr,eJ))(hp:1<=oV.length):kz xs c (oV++[nd]) n st (w+k) tr (eJ++new):=by obtain⟨hl,S⟩:=S;refine{by rw[bw];omega,fun ts af Dz=>?_};obtain⟨mid,e,hm⟩:=S ts af Dz;refine{mid++[t],?_,by simp;omega};rw[bH,yb _ _ _ _ _ _ _ (by rw[az]),e];have fg:=hd 826 79 (getD_last 79);show(826++[(753 826).1],(af++oV.map 688)++[(753 826).2])=_;rw[fg];have e1:oV.map (own st (eJ++new))=oV.map 688:=jN fun x hx=>Cy ij (ze x hx);rw[bH,bL,lY,hn,e1];simp
theorem aeZ{xs:33}{c:71}{fs gs:277}{nd:Nd}{n st w k k2:Nat}{t t2 tr:Bool}{new lS eJ:71}(S:kz xs c fs n (st+w) k t new)(S2:kz xs c gs (n+fs.length) (st+w+k) k2 t2 lS)(hf:∀x∈fs,st+w<=x.start/\x.start+x.op.width<=st+w+k)(hg:∀x∈gs,st+w+k<=x.start)(ij:eJ.length=w)(hn:own st 616 nd=eJ)(hd:∀ts:List Bool,ts.getD (n+fs.length-1) false=t->ts.getD (n+fs.length+gs.length-1) false=t2->eX xs ts nd (own 0 c nd)=(tr,eJ))(hp:1<=fs.length)(hp2:1<=gs.length):kz xs c (fs++gs++[nd]) n st (w+k+k2) tr 616:=by
 obtain⟨hl,S⟩:=S;obtain⟨iH,S2⟩:=S2;refine{by rw[bw,bw];omega,fun ts af Dz=>?_};obtain⟨mid,e,hm⟩:=S ts af Dz;obtain⟨iO,e2,oS⟩:=S2 826 (af++fs.map 688) 79;refine{mid++[t]++iO++[t2],?_,by simp;omega};rw[bH,bH,yb _ _ _ _ _ _ _ 42,yb _ _ _ _ _ _ _ 42,e,e2];have h1:(492 iO).getD (n+fs.length-1) false=t:=by rw[tu 79,tu 79,getD_last 79]
 have h2:(492 iO).getD (n+fs.length+gs.length-1) false=t2:=getD_last 79;have fg:=hd (492 iO) h1 h2;show((492 iO)++[(753 (492 iO)).1],(af++fs.map 688++gs.map (own (st+w+k) lS))++[(753 (492 iO)).2])=_;rw[fg];have ef:fs.map (own st 616)=fs.map 688:=jN fun x hx=>by rw[Cy ij (hf x hx).1,ag8 hl (hf x hx).1 (by have:=(hf x hx).2;omega)]
 have eg:gs.map (own st 616)=gs.map (own (st+w+k) lS):=jN fun x hx=>by rw[Cy ij (by have:=hg x hx;omega),Cy hl (hg x hx)]
 rw[bH,bH,bL,lY,hn,ef,eg];simp
theorem Po{st w:Nat}{a b:71}{o:Op}{ps:71}(hl:a.length=w)(hw:o.width=w):own st (a++b) ⟨o,ps,st⟩=a:=by unfold own;rw[Nat.sub_self,KZ,hw,<-hl,List.take_left]
theorem IY{st s:Nat}{b:71}{o:Op}{ps:71}(hw:o.width=0):own st b ⟨o,ps,s⟩=[]:=by unfold own;rw[hw];rfl
theorem vy{a:Nat}{b:305}{v:Bool}{c:71}(h:c.length=a+1):(onceCells a b v c).length=a+1:=by unfold onceCells;simp;omega
theorem JR{a:Nat}{b:305}{v w:Bool}{c:71}(h:c.length=a+1):(sinceCells a b v w c).length=a+1:=by unfold sinceCells;cases v<;>simp<;>omega
end PC
namespace PC
open Vbavaf (F Atom size cells watch nowOf bit onceCells sinceCells last total holds)
theorem Nc{c:71}{st w:Nat}{o:Op}{ps:71}(hw:o.width=w):own 0 c ⟨o,ps,st⟩=(212 st).take w:=by unfold own;rw[hw,K4]
theorem UI{c:71}{w:Nat}(h:1<=w):(c.take w).getD 0 0=c.getD 0 0:=by cases c with|nil=>simp|cons x t=>cases w with|zero=>omega|succ w=>rfl
theorem vO(c:71)(a b:Nat):(212 a).drop b=c.drop (a+b):=by rw[kj]
theorem GR{xs:33}{c:71}{o:Op}{n st:Nat}(hs:o.kd=false)(hw:o.width=0):kz xs c [668] n st 0 (plainT o [] xs) []:=by
 refine{rfl,fun ts af _=>{[],?_,rfl}};show(ts++[(eX xs ts 668 (own 0 c 668)).1],af++[(eX xs ts 668 (own 0 c 668)).2])=_;have e:eX xs ts 668 (own 0 c 668)=(plainT o [] xs,[]):=by unfold eX;rw[if_neg (by rw[show(Nd.mk o [] st).op.kd=o.kd from rfl,hs];exact df),IY hw];rfl
 rw[e];show _=(ts++[]++[plainT o [] xs],af++[own st [] 668]);rw[IY hw,fN]
theorem aiN(l:34)(xs:33):∀(f:F),bT l f->∀(n st:Nat)(c:List Nat),st+cells f<=c.length->kz xs c 968 n st 817 (112 967).1 (112 967).2.1/\(112 967).2.2=c.drop 603:=by
 have one:∀(f:F)(o:Op)(w n st:Nat)(c:List Nat)(t tr:Bool)(new eJ:List Nat),o.width=w->kz xs c (228 (st+w)) n (st+w) 817 t new->eJ.length=w->(∀ts:List Bool,ts.getD 286 false=t->eX xs ts {o,[n+size f-1],st} ((212 st).take w)=(tr,eJ))->kz xs c (flat l f n (st+w)++[{o,[n+size f-1],st}]) n st (w+cells f) tr (eJ++new):=by intro f o w n st c t tr new eJ hw S ij hd;refine ah8 S (fun x hx=>(mL l f n _ x hx).1) ij (Po ij hw) (fun ts _ h=>?_) (by rw[dX];exact size_pos f);rw[dX]at h;rw[Nc hw];exact hd ts h
 have two:∀(f g:F)(o:Op)(w n st s:Nat)(c:List Nat)(t t2 tr:Bool)(new lS eJ:List Nat),o.width=w->(w=0\/s=st)->kz xs c (228 (st+w)) n (st+w) 817 t new->kz xs c (flat l g 220 (st+w+cells f)) 220 (st+w+cells f) (cells g) t2 lS->eJ.length=w->(∀ts:List Bool,ts.getD 286 false=t->ts.getD 461 false=t2->eX xs ts (183 s) ((212 s).take w)=(tr,eJ))->kz xs c (flat l f n (st+w)++flat l g 220 (st+w+cells f)++[(183 s)]) n st (w+cells f+cells g) tr 616:=by intro f g o w n st s c t t2 tr new lS eJ hw hs S S2 ij hd;(have hn:own st 616 (183 s)=eJ:=by rcases hs with h0|h0;have e0:eJ=[]:=uP.mp (by rw[ij,h0]);rw[IY (by rw[hw,h0]),e0];subst h0;exact Po ij hw);refine aeZ S (by rw[dX];exact S2) (fun x hx=>by have:=mL l f n _ x hx;omega) (fun x hx=>(mL l g _ _ x hx).1) ij hn (fun ts h1 h2=>?_) (by rw[dX];exact size_pos f) (by rw[dX];exact size_pos g);rw[dX]at h1;rw[dX,dX]at h2;rw[Nc hw];exact hd ts h1 h2
 intro f
 induction f with|const b=>(intro _ n st c h;cases b with|true=>exact{GR rfl rfl,rfl}|false=>exact{GR rfl rfl,rfl})|atom i=>intro ha n st c h;have hi:i<l.length:=ha;ext:159;refine{?_,rfl};show kz xs c [{dE l i,[],st}] n st 0 ((nowOf l xs).getD i false) [];(have e:(nowOf l xs).getD i false=plainT (dE l i) [] xs:=by rw[ea];unfold nowOf;rw[dI,d_,bM hi];rfl);rw[e];exact GR (by rw[ea];rfl) (by rw[ea];rfl)|not f ih=>intro ha n st c h;obtain⟨S,r⟩:=ih ha n st c h;refine{?_,r};(have:=one f .not 0 n st c _ (!(112 967).1) _ [] rfl S rfl fun ts ht=>by show((plainT .not [ts.getD 286 false] xs,(212 st).take 0):Bool×List Nat)=_;rw[ht];rfl);rw[r_]at this;exact this|and f g ih aP=>intro ha n st c h;rw[5,(.and f g)];ext:54;(have:=two f g .and 0 n st 694 c _ _ ((112 967).1&&(watch g (nowOf l xs) (112 967).2.2).1) _ _ [] rfl 148 S S2 rfl fun ts h1 h2=>by show((plainT .and [ts.getD 286 false,ts.getD 461 false] xs,(212 694).take 0):Bool×List Nat)=_;rw[h1,h2];rfl);rw[r_]at this;exact this|or f g ih aP=>intro ha n st c h;rw[5,(.or f g)];ext:54;(have:=two f g .or 0 n st 694 c _ _ ((112 967).1||(watch g (nowOf l xs) (112 967).2.2).1) _ _ [] rfl 148 S S2 rfl fun ts h1 h2=>by show((plainT .or [ts.getD 286 false,ts.getD 461 false] xs,(212 694).take 0):Bool×List Nat)=_;rw[h1,h2];rfl);rw[r_]at this;exact this|prev f ih=>intro ha n st c h;rw[8,(.prev f)];obtain⟨S,r⟩:=ih ha n (st+1) c 23;rw[<-vO]at S r;refine{one f .prev 1 n st c _ _ _ [bit (112 ((212 st).drop 1)).1] rfl S rfl fun ts ht=>?_,by rw[hc,<-eE];exact r};show g_ .prev [ts.getD 286 false] ((212 st).take 1)=((212 st).getD 0 0==1,[bit _]);rw[ht];show(((212 st).take 1).getD 0 0==1,_)=_;rw[UI 227];rfl|rose f ih=>intro ha n st c h;rw[8,(.rose f)];obtain⟨S,r⟩:=ih ha n (st+1) c 23;rw[<-vO]at S r;refine{one f .rose 1 n st c _ _ _ [1+bit (112 ((212 st).drop 1)).1] rfl S rfl fun ts ht=>?_,by rw[hc,<-eE];exact r};show g_ .rose [ts.getD 286 false] ((212 st).take 1)=_;rw[ht];show(_&&((212 st).take 1).getD 0 0==1,_)=_;rw[UI 227];rfl|once a b f ih=>intro ha n st c h;ext:58;obtain⟨S,r⟩:=ih ha n 693 c 23;rw[<-vO]at S r;refine{one f 406 (a+1) n st c _ _ _ (onceCells a b (112 643).1 402) rfl S (vy 977) fun ts ht=>?_,by rw[hc,<-eE];exact r};show g_ 406 [ts.getD 286 false] 402=_;rw[ht];rfl|always a b f ih=>intro ha n st c h;ext:94;obtain⟨S,r⟩:=ih ha n 693 c 23;rw[<-vO]at S r;refine{one f 296 (a+1) n st c _ _ _ (onceCells a b (!(112 643).1) 402) rfl S (vy 977) fun ts ht=>?_,by rw[hc,<-eE];exact r};show g_ 296 [ts.getD 286 false] 402=_;rw[ht];rfl|since a b f g ih aP=>intro ha n st c h;ext:65;obtain⟨S,r⟩:=ih ha.1 n 693 c 23;obtain⟨S2,r2⟩:=aP ha.2 220 1059 c 23;rw[<-r]at S2 r2;rw[<-vO c st]at S S2 r2;refine{two f g 389 (a+1) n st st c _ _ _ _ _ (sinceCells a b (112 643).1 (watch g (nowOf l xs) (112 643).2.2).1 402) rfl (546 rfl) S S2 (JR 977) fun ts h1 h2=>?_,by rw[hc,<-eE,<-eE];exact r2};show g_ 389 [ts.getD 286 false,ts.getD 461 false] 402=_;rw[h1,h2];rfl|count k m f ih=>intro ha n st c h;ext:87;obtain⟨S,r⟩:=ih ha n (st+(m-1)) c 23;rw[<-vO]at S r;refine{one f (948 k m) (m-1) n st c _ _ _ ((bit (112 ((212 st).drop (m-1))).1::(212 st).take (m-1)).take (m-1)) rfl S 79 fun ts ht=>?_,by rw[hc,<-eE];exact r};show g_ (948 k m) [ts.getD 286 false] ((212 st).take (m-1))=_;rw[ht];rfl
end PC
namespace PC
open Vbavaf (F Atom size cells watch nowOf bit onceCells sinceCells last total holds fresh)
theorem acu(l:34)(i:Nat):(dE l i).width=0:=by unfold dE;cases l[i]?<;>rfl
theorem im(l:34):∀(f:F)(n st:Nat),((228 st).map fun nd=>nd.op.width).sum=cells f
 |.const b,n,st=>by cases b<;>rfl
 |.atom i,n,st=>by show(dE l i).width+0=0;rw[acu]
 |.not f,n,st=>by show((968++[_]).map _).sum=cells f;rw[bH,ma,im l f];show cells f+(0+0)=_;omega
 |.and f g,n,st=>by show((968++flat l g _ _++[_]).map _).sum=cells f+cells g;ext:167
 |.or f g,n,st=>by show((968++flat l g _ _++[_]).map _).sum=cells f+cells g;ext:167
 |.prev f,n,st=>by show((660++[_]).map _).sum=1+cells f;rw[bH,ma,im l f];show cells f+(1+0)=_;omega
 |.rose f,n,st=>by show((660++[_]).map _).sum=1+cells f;rw[bH,ma,im l f];show cells f+(1+0)=_;omega
 |.once a b f,n,st=>by show((660++[_]).map _).sum=a+1+cells f;rw[bH,ma,im l f];show cells f+(a+1+0)=_;omega
 |.always a b f,n,st=>by show((660++[_]).map _).sum=a+1+cells f;rw[bH,ma,im l f];show cells f+(a+1+0)=_;omega
 |.since a b f g,n,st=>by show((660++flat l g _ _++[_]).map _).sum=a+1+cells f+cells g;rw[bH,bH,ma,ma,im l f,im l g];show cells f+cells g+(a+1+0)=_;omega
 |.count k m f,n,st=>by show((660++[_]).map _).sum=(m-1)+cells f;rw[bH,ma,im l f];show cells f+(m-1+0)=_;omega
def gC(ac:277)(lo hi:Nat):Prop:=∀i,lo<=i->i<hi->∃nd∈ac,nd.start<=i/\i<nd.start+nd.op.width
theorem gC.none{ac:277}{lo:Nat}:gC ac lo lo:=fun i h1 h2=>by omega
theorem gC.app{a b:277}{lo mid hi:Nat}(x:gC a lo mid)(y:gC b mid hi):gC (a++b) lo hi:=fun i h1 h2=>by by_cases h:i<mid;obtain⟨nd,hm,q⟩:=x i h1 h;exact{nd,rO _ hm,q};obtain⟨nd,hm,q⟩:=y i 23 h2;exact{nd,mV _ hm,q}
theorem gC.left{a b:277}{lo hi:Nat}(x:gC a lo hi):gC (a++b) lo hi:=fun i h1 h2=>by obtain⟨nd,hm,q⟩:=x i h1 h2;exact{nd,rO _ hm,q}
theorem gC.own{a:277}{o:Op}{ps:71}{lo hi:Nat}(x:gC a (lo+o.width) hi):gC (a++[⟨o,ps,lo⟩]) lo hi:=fun i h1 h2=>by by_cases h:i<lo+o.width;exact{_,mV _ cY,h1,h};obtain⟨nd,hm,q⟩:=x i 23 h2;exact{nd,rO _ hm,q}
theorem kL(l:34):∀(f:F)(n st:Nat),gC 968 st 603
 |.const b,n,st=>.none
 |.atom i,n,st=>.none
 |.not f,n,st=>(kL l f n st).left
 |.and f g,n,st=>by have:=((kL l f n st).app (kL l g 220 603)).left (b:=[316]);show gC _ st (st+(cells f+cells g));rw[<-eE];ext:64
 |.or f g,n,st=>by have:=((kL l f n st).app (kL l g 220 603)).left (b:=[320]);show gC _ st (st+(cells f+cells g));rw[<-eE];ext:64
 |.prev f,n,st=>by have:=gC.own (o:=.prev) (ps:=[n+size f-1]) (kL l f n (st+1));rw[eE]at this;ext:64
 |.rose f,n,st=>by have:=gC.own (o:=.rose) (ps:=[n+size f-1]) (kL l f n (st+1));rw[eE]at this;ext:64
 |.once a b f,n,st=>by have:=gC.own (o:=.once a b) (ps:=[n+size f-1]) (kL l f n 693);rw[eE]at this;ext:64
 |.always a b f,n,st=>by have:=gC.own (o:=.always a b) (ps:=[n+size f-1]) (kL l f n 693);rw[eE]at this;ext:64
 |.since a b f g,n,st=>by have:=gC.own (o:=.since a b) (ps:=[n+size f-1,n+size f+size g-1]) ((kL l f n 693).app (kL l g 220 1059));rw[show st+(a+1)+cells f+cells g=st+(a+1+cells f+cells g) by omega]at this;ext:64
 |.count k m f,n,st=>by have:=gC.own (o:=.count k m) (ps:=[n+size f-1]) (kL l f n (st+(m-1)));rw[eE]at this;ext:64
theorem UF:∀(cs row:List Nat)(st i:Nat),st+cs.length<=row.length->(setFrom row st cs)[i]?=if st<=i/\i<st+cs.length then cs[i-st]? else row[i]?
 |[],row,st,i,h=>by rw[if_neg (fun z=>by have:=z.2;rw[jl]at this;omega)];rfl
 |c::cs,row,st,i,h=>by show(setFrom 1036 (st+1) cs)[i]?=_;rw[aR]at h;rw[UF cs 1036 (st+1) i (by rw[VY];omega),aR];by_cases h1:i=st;subst h1;rw[if_neg 23,if_pos 23,Nat.sub_self,J4 23];rfl;by_cases h2:st+1<=i/\i<st+1+cs.length;rw[if_pos h2,if_pos 23,show i-st=(i-(st+1))+1 by omega];rfl;rw[if_neg h2,if_neg 23,J5 23]
theorem Im{l:34}{f:F}{c:71}(hc:534):rowAt 721 189 (70 l).length=c:=by
 have key:∀i,i<=(70 l).length->(rowAt 721 189 i).length=cells f/\∀j,j<cells f->((∃m nd,m<i/\(70 l)[m]?=some nd/\nd.start<=j/\j<nd.start+nd.op.width)->(rowAt 721 189 i)[j]?=c[j]?):=by intro i;induction i with|zero=>intro _;refine{by rw[x3,im],fun j hj ⟨m,nd,hm,_⟩=>by omega}|succ i ih=>intro hi;obtain⟨FV,aP⟩:=ih 23;(have aY:i<(70 l).length:=by omega);refine{by rw[x3,im],fun j hj hex=>?_};have e1:(70 l)[i]?=some (70 l)[i]:=bM aY;(have er:rowAt 721 189 (i+1)=setFrom (rowAt 721 189 i) (70 l)[i].start (own 0 c (70 l)[i]):=by show(match(70 l)[i]?,((70 l).map (own 0 c))[i]? with|some nd,some cs=>_|_,_=>_)=_;rw[d_,e1];rfl);obtain⟨s1,s2⟩:=mL l f 0 0 _ (uS aY);(have ol:(own 0 c (70 l)[i]).length=(70 l)[i].op.width:=by unfold own;rw[bU,cy,hc];omega);rw[er,UF _ _ _ _ (by rw[ol,FV];omega),ol];by_cases lB:(70 l)[i].start<=j/\j<(70 l)[i].start+(70 l)[i].op.width;rw[if_pos lB];unfold own;rw[K4,E6,if_pos 23,K1];congr 1;omega;rw[if_neg lB];refine aP j hj ?_;obtain⟨m,nd,hm,cV,q⟩:=hex;by_cases F8:m=i;subst F8;rw[e1]at cV;cases cV;exact 89 q lB;exact{m,nd,by omega,cV,q}
 obtain⟨k1,k2⟩:=key _ 227;refine List.ext_getElem? fun j=>?_;by_cases hj:j<cells f;refine k2 j hj ?_;obtain⟨nd,hm,q⟩:=kL l f 0 0 j (bA _) 23;obtain⟨m,aY,e⟩:=KP hm;exact{m,nd,aY,by rw[bM aY,e],q};rw[kW 23,kW 23]
end PC
namespace PC
open Vbavaf (F Atom Now size cells watch nowOf bit onceCells sinceCells last total holds fresh)
theorem vN:∀(f:F)(x:Now)(c:List Nat),cells f<=c.length->(362 c).2.1.length=cells f/\(362 c).2.2=c.drop 817:=by
 intro f
 induction f with|const b=>intro x c h;exact 669|atom i=>intro x c h;exact 669|not f ih=>intro x c h;exact ih x c h|and f g ih aP=>intro x c h;rw[5,(.and f g)];ext:37;rw[bw,i1,j1,hc];show(218 g).2.2=_;rw[j2,i2,kj,hc]|or f g ih aP=>intro x c h;rw[5,(.or f g)];ext:37;rw[bw,i1,j1,hc];show(218 g).2.2=_;rw[j2,i2,kj,hc]|prev f ih=>intro x c h;rw[8,(.prev f)];ext:95;omega;show(362 622).2.2=_;rw[i2,kj,hc]|rose f ih=>intro x c h;rw[8,(.rose f)];ext:95;omega;show(362 622).2.2=_;rw[i2,kj,hc]|once a b f ih=>intro x c h;ext:58;ext:100;show(137 f).2.2=_;rw[i2,kj,hc]|always a b f ih=>intro x c h;ext:94;ext:100;show(137 f).2.2=_;rw[i2,kj,hc]|since a b f g ih aP=>intro x c h;ext:65;obtain⟨i1,i2⟩:=ih x 782 111;obtain⟨j1,j2⟩:=aP x (137 f).2.2 (by rw[i2,cy,cy];omega);refine{?_,?_};show(636 ((137 f).2.1++(watch g x (137 f).2.2).2.1)).length=_;rw[bw,bw,JR 445,i1,j1,hc];omega;show(watch g x (137 f).2.2).2.2=_;rw[j2,i2,kj,kj,hc];congr 1;omega|count k m f ih=>intro x c h;ext:87;obtain⟨i1,i2⟩:=ih x (212 (m-1)) 111;refine{?_,?_};show(878 (m-1)).length=_;rw[bw,i1,hc,bU,aR,bU];omega;show(362 (212 (m-1))).2.2=_;rw[i2,kj,hc]
def dz:F->List Nat->Prop
 |.const _,_=>True
 |.atom _,_=>True
 |.not f,c=>dz f c
 |.and f g,c=>dz f c/\dz g (212 817)
 |.or f g,c=>dz f c/\dz g (212 817)
 |.prev f,c=>c.getD 0 0<=1/\dz f 622
 |.rose f,c=>dz f 622
 |.once a _ f,c=>dz f 782
 |.always a _ f,c=>dz f 782
 |.since a _ f g,c=>dz f 782/\dz g (212 (a+1+cells f))
 |.count _ m f,c=>dz f (212 (m-1))
theorem afK:∀(f:F)(c:List Nat),(∀x∈c,x<=1)->dz f c:=by have dr:∀{c:List Nat}{n:Nat},(∀x∈c,x<=1)->∀x∈c.drop n,x<=1:=fun h x hx=>h x (ajQ hx);intro f;induction f with|const b=>intro c h;trivial|atom i=>intro c h;trivial|not f ih=>intro c h;exact ih c h|and f g ih aP=>intro c h;exact{ih c h,aP _ (dr h)}|or f g ih aP=>intro c h;exact{ih c h,aP _ (dr h)}|prev f ih=>(intro c h;refine{?_,ih _ (dr h)};cases c with|nil=>exact bA _|cons x t=>exact h x cY)|rose f ih=>intro c h;exact ih _ (dr h)|once a b f ih=>intro c h;exact ih _ (dr h)|always a b f ih=>intro c h;exact ih _ (dr h)|since a b f g ih aP=>intro c h;exact{ih _ (dr h),aP _ (dr h)}|count k m f ih=>intro c h;exact ih _ (dr h)
theorem acz(b:Bool):bit b<=1:=by cases b<;>decide
theorem Fq:∀(f:F)(c e:List Nat),cells f<=c.length->dz f c->dz f (c++e):=by
 have dr:∀{c e:List Nat}{n:Nat},n<=c.length->(c++e).drop n=c.drop n++e:=fun h=>by rw[Wz,Nat.sub_eq_zero_of_le h];rfl
 intro f
 induction f with|const b=>intro c e h p;trivial|atom i=>intro c e h p;trivial|not f ih=>intro c e h p;exact ih c e h p|and f g ih aP=>intro c e h p;rw[5,(.and f g)];refine{ih c e 23 p.1,?_};rw[dr 23];exact aP _ e 111 p.2|or f g ih aP=>intro c e h p;rw[5,(.or f g)];refine{ih c e 23 p.1,?_};rw[dr 23];exact aP _ e 111 p.2|prev f ih=>intro c e h p;rw[8,(.prev f)];refine{?_,?_};rw[tu 23];exact p.1;rw[dr 23];exact ih _ e 111 p.2|rose f ih=>intro c e h p;rw[8,(.rose f)];show dz f ((c++e).drop 1);rw[dr 23];exact ih _ e 111 p|once a b f ih=>intro c e h p;ext:58;show dz f ((c++e).drop (a+1));rw[dr 23];exact ih _ e 111 p|always a b f ih=>intro c e h p;ext:94;show dz f ((c++e).drop (a+1));rw[dr 23];exact ih _ e 111 p|since a b f g ih aP=>intro c e h p;ext:65;refine{?_,?_};rw[dr 23];exact ih _ e 111 p.1;rw[dr 23];exact aP _ e 111 p.2|count k m f ih=>intro c e h p;ext:87;show dz f ((c++e).drop (m-1));rw[dr 23];exact ih _ e 111 p
theorem Jv:∀(f:F)(x:Now)(c:List Nat),cells f<=c.length->dz f (362 c).2.1:=by
 have dl:∀{a b:List Nat}{n:Nat},a.length=n->(a++b).drop n=b:=fun h=>by rw[<-h,List.drop_left]
 intro f
 induction f with|const b=>intro x c h;trivial|atom i=>intro x c h;trivial|not f ih=>intro x c h;exact ih x c h|and f g ih aP=>intro x c h;rw[5,(.and f g)];ext:98;exact 673|or f g ih aP=>intro x c h;rw[5,(.or f g)];ext:98;exact 673|prev f ih=>intro x c h;rw[8,(.prev f)];exact{acz _,ih x 622 111}|rose f ih=>intro x c h;rw[8,(.rose f)];exact ih x 622 111|once a b f ih=>intro x c h;ext:58;show dz f ((306 a).drop (a+1));rw[dl (vy 445)];exact ih x _ 111|always a b f ih=>intro x c h;ext:94;show dz f ((306 a).drop (a+1));rw[dl (vy 445)];exact ih x _ 111|since a b f g ih aP=>intro x c h;ext:65;obtain⟨i1,i2⟩:=vN f x 782 111;have sl:(sinceCells a b (137 f).1 (watch g x (137 f).2.2).1 (c.take (a+1))).length=a+1:=JR 445;show dz f ((636 ((137 f).2.1++_)).drop (a+1))/\dz g ((636 ((137 f).2.1++_)).drop (a+1+cells f));(have d2:∀(a' b':List Nat),a'.length=a+1->(a'++b').drop (a+1+cells f)=b'.drop 817:=fun a' b' q=>by rw[Wz,q,ajU 23,Nat.add_sub_cancel_left];rfl);rw[dl sl,d2 _ _ sl,dl i1];exact{Fq f _ _ 23 (ih x _ 111),aP x _ (by rw[i2,cy,cy];omega)}|count k m f ih=>intro x c h;ext:87;show dz f ((878 (m-1)).drop (m-1));rw[dl (by rw[bU,aR,bU];omega)];exact ih x _ 111
end PC
namespace PC
open Vbavaf (F Atom Now size cells watch nowOf bit onceCells sinceCells last total holds fresh)
theorem aad(l:34):∀(f:F)(n st:Nat)(c:List Nat),dz f 967->∀nd∈flat l f n st,nd.op=.prev->∀x∈own 0 c nd,x<=1:=by
 have dd:∀(c:List Nat)(a b:Nat),(212 a).drop b=c.drop (a+b):=fun c a b=>kj;intro f
 induction f with|const b=>intro n st c p nd hm ho;(have:nd=996:=by simpa[flat]using hm);ext:84;cases b<;>cases ho|atom i=>intro n st c p nd hm ho;(have:nd={dE l i,[],st}:=by simpa[flat]using hm);ext:84;have fR:dE l i=.prev:=ho;unfold dE at fR;cases hh:l[i]?<;>rw[hh]at fR<;>cases fR|not f ih=>(ext:55;rcases bP.mp hm with q|q;exact ih n st c p nd q ho;(have:nd={.not,[n+size f-1],st}:=by simpa using q);ext:178)|and f g ih aP=>(ext:55;rcases bP.mp hm with q|q;rcases bP.mp q with q|q;exact ih n st c p.1 nd q ho;exact aP _ _ c 859 nd q ho;(have:nd=316:=by simpa using q);ext:178)|or f g ih aP=>(ext:55;rcases bP.mp hm with q|q;rcases bP.mp q with q|q;exact ih n st c p.1 nd q ho;exact aP _ _ c 859 nd q ho;(have:nd=320:=by simpa using q);ext:178)|prev f ih=>(ext:55;rcases bP.mp hm with q|q;exact ih n _ c 859 nd q ho;(have:nd={.prev,[n+size f-1],st}:=by simpa using q);ext:84;intro x hx;(have eR:x∈(212 st).take 1:=by unfold own at hx;rw[K4]at hx;exact hx);have p1:=p.1;cases hc:c.drop st with|nil=>rw[hc]at eR;cases eR|cons y t=>rw[hc]at eR p1;(have:x=y:=by simpa using eR);rw[this];exact p1)|rose f ih=>(ext:55;rcases bP.mp hm with q|q;exact 315;(have:nd={.rose,[n+size f-1],st}:=by simpa using q);ext:178)|once a b f ih=>(ext:55;rcases bP.mp hm with q|q;exact 315;(have:nd={.once a b,[n+size f-1],st}:=by simpa using q);ext:178)|always a b f ih=>(ext:55;rcases bP.mp hm with q|q;exact 315;(have:nd={.always a b,[n+size f-1],st}:=by simpa using q);ext:178)|since a b f g ih aP=>(ext:55;rcases bP.mp hm with q|q;rcases bP.mp q with q|q;exact ih n _ c (by rw[<-dd];exact p.1) nd q ho;refine aP _ _ c ?_ nd q ho;have:=p.2;rw[dd,<-eE]at this;ext:64;(have:nd=792:=by simpa using q);ext:178)|count k m f ih=>intro n st c p nd hm ho;rcases bP.mp hm with q|q;exact 315;(have:nd={.count k m,[n+size f-1],st}:=by simpa using q);ext:178
theorem HV{l:34}{f:F}{c:71}(hc:534){nd:Nd}(h:nd∈flat l f 0 0):(own 0 c nd).length=nd.op.width:=by obtain⟨s1,s2⟩:=mL l f 0 0 nd h;unfold own;rw[bU,cy,hc];omega
theorem HG{l:34}{f:F}{c:71}(hc:534)(hp:dz f c)(hb:cells f<=1000):CellsOk 721 189:=by intro i nd cs h1 h2;rw[d_,h1]at h2;cases h2;have hm:=ej h1;obtain⟨s1,s2⟩:=mL l f 0 0 nd hm;refine{HV hc hm,fun ho=>aad l f 0 0 c hp nd hm ho,?_};rw[HV hc hm];omega
theorem HF(l:34)(f:F):rF 721=(70 l).map (own 0 926):=by unfold rF;refine jN fun nd hm=>?_;obtain⟨s1,s2⟩:=mL l f 0 0 nd hm;unfold own WA;rw[List.drop_replicate,List.take_replicate];congr 1;omega
theorem CL(f:F):(fresh f).length=cells f:=by unfold WA;exact uH
theorem DP(f:F):dz f 926:=afK f _ fun x hx=>by unfold WA at hx;rw[(List.mem_replicate.mp hx).2];exact bA _
theorem F5{l:34}{f:F}{c:71}(xs:33)(ha:bT l f)(hc:534):(eM 721 189 xs (70 l).length).1.getLast?.getD false=(112 c).1/\(eM 721 189 xs (70 l).length).2=(70 l).map (own 0 (112 c).2.1):=by obtain⟨⟨_,S⟩,_⟩:=aiN l xs f ha 0 0 c 23;obtain⟨mid,e,_⟩:=S [] [] rfl;rw[aem _ _ _ (by rw[az]),e];refine{?_,rfl};show([]++mid++[(112 c).1]).getLast?.getD false=_;rw[oK];rfl
end PC
namespace PC
open Vbavaf (F Atom size cells uses place sameAtom against letterCount samples letters products)
def cA(a:Atom):List Int:=[(a.x:Int),(a.op:Int),a.n]
theorem IP{a b:Atom}(h:cA a=cA b):a=b:=by cases a;cases b;simp only[cA,A0]at h;obtain⟨h1,h2,h3,_⟩:=h;rw[Atom.mk.injEq];exact{by omega,by omega,h3}
def dS(acc:147)(x:33):List 33:=if x∉acc then acc++[x]else acc
def bW:F->List Nat
 |.const _=>[]
 |.atom i=>[i]
 |.not f=>bW f
 |.and f g=>bW f++bW g
 |.or f g=>bW f++bW g
 |.prev f=>bW f
 |.rose f=>bW f
 |.once _ _ f=>bW f
 |.always _ _ f=>bW f
 |.since _ _ f g=>bW f++bW g
 |.count _ _ f=>bW f
theorem PB:∀(f:F)(i:Nat),uses f i=true↔i∈bW f:=by intro f;induction f with|const b=>intro i;simp[uses,bW]|atom j=>intro i;simp[uses,bW];exact eq_comm|not f ih=>intro i;exact ih i|and f g ih aP=>intro i;show 980=true↔i∈bW f++bW g;rw[sB,bP,ih,aP]|or f g ih aP=>intro i;show 980=true↔i∈bW f++bW g;rw[sB,bP,ih,aP]|prev f ih=>intro i;exact ih i|rose f ih=>intro i;exact ih i|once a b f ih=>intro i;exact ih i|always a b f ih=>intro i;exact ih i|since a b f g ih aP=>intro i;show 980=true↔i∈bW f++bW g;rw[sB,bP,ih,aP]|count k n f ih=>intro i;exact ih i
theorem Xx(l:34):∀(f:F),bT l f->dF l f=(bW f).filterMap (l[·]?):=by intro f;induction f with|const b=>intro _;rfl|atom j=>intro h;have hj:j<l.length:=h;show(l[j]?).toList=List.filterMap (l[·]?) [j];rw[bM hj];simp[bM hj]|not f ih=>exact ih|and f g ih aP=>intro h;ext:187;rw[WB,ih h.1,aP h.2]|or f g ih aP=>intro h;ext:187;rw[WB,ih h.1,aP h.2]|prev f ih=>exact ih|rose f ih=>exact ih|once a b f ih=>exact ih|always a b f ih=>exact ih|since a b f g ih aP=>intro h;ext:187;rw[WB,ih h.1,aP h.2]|count k n f ih=>exact ih
theorem F'{acc:147}{nd:Nd}(h:nd.op.m8=false):ik acc nd=acc:=by unfold ik;rw[if_neg (fun z=>by rw[h]at z;exact 89 z.1 29)]
theorem Eo(l:34):∀(f:F)(n st:Nat)(acc:List 33),bT l f->(228 st).foldl ik acc=((dF l f).map cA).foldl dS acc:=by
 have one:∀(f:F)(o:Op)(ps:List Nat)(n st mf:Nat)(acc:List 33),o.m8=false->(228 st).foldl ik acc=((dF l f).map cA).foldl dS acc->(flat l f n st++[(⟨o,ps,mf⟩:Nd)]).foldl ik acc=((dF l f).map cA).foldl dS acc:=by intro f o ps n st mf acc ho h;rw[m4,h];exact F' ho
 have two:∀(f g:F)(o:Op)(ps:List Nat)(n st n2 mf sL:Nat)(acc:List 33),o.m8=false->(228 st).foldl ik acc=((dF l f).map cA).foldl dS acc->(∀a,(flat l g n2 mf).foldl ik a=((dF l g).map cA).foldl dS a)->(flat l f n st++flat l g n2 mf++[(⟨o,ps,sL⟩:Nd)]).foldl ik acc=((dF l f++dF l g).map cA).foldl dS acc:=by intro f g o ps n st n2 mf sL acc ho h h2;rw[m4,m4,h,h2,bH,m4];exact F' ho
 intro f;induction f with|const b=>intro n st acc _;show ik acc _=_;rw[F' (by cases b<;>rfl)];rfl|atom j=>intro n st acc h;have hj:j<l.length:=h;show ik acc {dE l j,[],st}=(((l[j]?).toList).map cA).foldl dS acc;unfold dE;rw[bM hj];show(if true=true/\cA l[j]∉acc then _ else _)=dS acc (cA l[j]);unfold dS;by_cases hm:cA l[j]∉acc;rw[if_pos ⟨rfl,hm⟩,if_pos hm];rfl;rw[if_neg (393 hm z.2),if_neg hm]|not f ih=>intro n st acc h;exact one f .not _ _ _ _ _ rfl (ih _ _ _ h)|and f g ih aP=>intro n st acc h;exact two f g .and _ _ _ _ _ _ _ rfl (ih _ _ _ h.1) 941|or f g ih aP=>intro n st acc h;exact two f g .or _ _ _ _ _ _ _ rfl (ih _ _ _ h.1) 941|prev f ih=>intro n st acc h;exact one f .prev _ _ _ _ _ rfl (ih _ _ _ h)|rose f ih=>intro n st acc h;exact one f .rose _ _ _ _ _ rfl (ih _ _ _ h)|once a b f ih=>intro n st acc h;exact 674 406|always a b f ih=>intro n st acc h;exact 674 296|since a b f g ih aP=>intro n st acc h;exact two f g 389 _ _ _ _ _ _ _ rfl (ih _ _ _ h.1) 941|count k m f ih=>intro n st acc h;exact 674 (948 k m)
theorem abd(acc:147):∀(xs:List 33),xs.foldl dS acc=acc++(xs.foldl dS []).filter (fun x=>decide (x∉acc)):=by
 have key:∀(ys xs:List 33),xs=ys.reverse->xs.foldl dS acc=acc++(xs.foldl dS []).filter (fun x=>decide (x∉acc)):=by intro ys;induction ys with|nil=>intro xs e;subst e;simp|cons y t ih=>intro xs e;rw[K2]at e;subst e;rw[m4,m4,ih _ rfl];generalize AJ dS [] t.reverse=D;show dS (acc++D.filter _) y=acc++(dS D y).filter _;unfold dS;by_cases h1:y∈acc;rw[if_neg (393 z (rO _ h1))];by_cases h2:y∈D;rw[if_neg (393 z h2)];rw[if_pos h2,KQ,WC 739];simp;by_cases h2:y∈D;rw[if_neg (393 z (mV _ (pT.mpr {h2,by simpa using h1}))),if_neg (393 z h2)];rw[if_pos (fun z=>by rcases bP.mp z with q|q;exact h1 q;exact h2 (pT.mp q).1),if_pos h2,KQ,WD 739,gp];rfl
 exact fun xs=>key xs.reverse xs (List.reverse_reverse _).symm
theorem ZG(l:34)(a:Atom):(nG l a).map cA=dS (l.map cA) (cA a):=by unfold nG place dS;ext:0;by_cases h:l.findIdx (qh a)<l.length;rw[if_pos h,if_neg];intro z;refine z (dJ.mpr {a,?_,rfl});have:=Ml (ajP (w:=h));rw[this];exact uS _;rw[if_neg h,if_pos,bH];rfl;intro z;obtain⟨b,hb,e⟩:=dJ.mp z;rw[IP e]at hb;refine h (List.findIdx_lt_length_of_exists {a,hb,?_});unfold qh;simp
theorem Mb:∀(xs:List Atom)(l:List Atom),(xs.foldl nG l).map cA=(xs.map cA).foldl dS (l.map cA)
 |[],_=>rfl
 |a::t,l=>by show((t.foldl nG (nG l a))).map cA=(t.map cA).foldl dS (dS (l.map cA) (cA a));rw[Mb t,ZG]
theorem U_{l l1:34}{f:F}(h:gf l f l1):l1.map cA=l.map cA++(dO (70 l1)).filter (fun x=>decide (x∉l.map cA)):=by have e:=eC (List.map cA) h.fold;rw[Mb,abd]at e;unfold dO;rw[Eo l1 f 0 0 [] h.bW];exact e
end PC
namespace PC
open Vbavaf (F Atom size cells uses usedBy place sameAtom against letterCount samples letters products)
theorem OO:∀(xs acc:List 33)(z:List Int),z∈xs.foldl dS acc↔z∈acc\/z∈xs
 |[],acc,z=>by simp
 |x::t,acc,z=>by show z∈t.foldl dS (dS acc x)↔_;rw[OO t];(have:z∈dS acc x↔z∈acc\/z=x:=by unfold dS;split;simp;rename_i h;refine{.inl,fun q=>?_};rcases q with q|q;exact q;rw[q];exact Decidable.not_not.mp h);rw[this,bE];ext:67;rintro((h|h)|h);exact 834;exact 546 834;exact 546 (.inr h);rintro(h|h|h);exact .inl 834;rw[17,(.inr h)];exact .inr h
theorem G2:∀(xs acc:List 33),acc.Nodup->(xs.foldl dS acc).Nodup
 |[],acc,h=>h
 |x::t,acc,h=>by show(t.foldl dS (dS acc x)).Nodup;refine G2 t _ ?_;unfold dS;split;rename_i hx;rw[Wp];refine{h,by simp,fun a ha b hb e=>?_};(have:b=x:=by simpa using hb);exact hx (by rw[<-this,<-e];exact ha);exact h
theorem F1:∀{a b:List 33},a.Nodup->(∀z∈a,z∈b)->a.length<=b.length
 |[],_,_,_=>bA _
 |x::t,b,h,k=>by obtain⟨h1,h2⟩:=oF.mp h;have hx:=k x cY;(have ih:=F1 (b:=b.erase x) h2 fun z hz=>by have cC:z≠x:=fun e=>h1 (e▸hz);exact(List.mem_erase_of_ne cC).mpr (k z (cZ _ hz)));rw[List.length_erase_of_mem hx]at ih;have:0<b.length:=List.length_pos_of_mem hx;rw[aR];omega
def qP(l:34)(used:709)(cs:147):Prop:=∀c,c∈cs↔∃i a,l[i]?=some a/\used i=true/\c=cA a
theorem zg{l:34}{f:F}(h:bT l f):qP l (uses f) (dO 721):=by intro c;unfold dO;rw[Eo l f 0 0 [] h,OO,Xx l f h];ext:67;rintro(q|q);cases q;obtain⟨a,ha,rfl⟩:=dJ.mp q;obtain⟨i,hi,e⟩:=rQ.mp ha;exact{i,a,e,(PB f i).mpr hi,rfl};rintro⟨i,a,e,hu,rfl⟩;exact 546 (dJ.mpr {a,rQ.mpr {i,(PB f i).mp hu,e},rfl})
theorem ahv{l:34}{u v:709}{a b:147}(x:qP l u a)(y:qP l v b):qP l (fun i=>u i||v i) (a++b):=by intro c;rw[bP,x c,y c];ext:67;rintro(⟨i,z,e,h,q⟩|⟨i,z,e,h,q⟩);exact{i,z,e,by show(u i||v i)=true;rw[h];rfl,q};exact{i,z,e,by show(u i||v i)=true;rw[h,Bool.or_true],q};rintro⟨i,z,e,h,q⟩;rw[sB]at h;rcases h with h|h;rw[17,⟨i,z,e,h,q⟩];exact 546 ⟨i,z,e,h,q⟩
theorem UV{l:34}{used:709}{cs:147}(h:qP l used cs)(x:Nat):rise (numsOf cs (x:Int))=against l used x:=by
 unfold against;refine C5 (yQ _) (yQ _) fun z=>?_;rw[Ae,show List.foldr l9 []=rise from rfl,Ae];unfold numsOf;ext:67;intro q;obtain⟨c,hc,rfl⟩:=dJ.mp q;obtain⟨hm,hx⟩:=pT.mp hc;obtain⟨i,a,e,hu,rfl⟩:=(h c).mp hm;have hi:i<l.length:=(dH.mp e).1;refine rQ.mpr {i,gR.mpr hi,?_};have eR:a.x=x:=by have:((a.x:Int)==(x:Int))=true:=hx;rw[lX]at this;omega
 rw[e];ext:0;rw[if_pos ⟨hu,eR⟩];rfl;intro q;obtain⟨i,hi,e⟩:=rQ.mp q;rw[gR]at hi;rw[bM hi]at e;dsimp only at e;split at e;rename_i hc;cases e;refine dJ.mpr {cA l[i],pT.mpr {(h _).mpr {i,l[i],bM hi,hc.1,rfl},?_},rfl};show((l[i].x:Int)==(x:Int))=true;rw[hc.2];simp;cases e
theorem Tc:∀(xs:List Nat)(a:Nat),xs.foldl (·*·) a=a*xs.foldr (fun a b=>a*b) 1
 |[],a=>(Nat.mul_one a).symm
 |x::t,a=>by show t.foldl (·*·) (a*x)=a*(x*t.foldr (fun a b=>a*b) 1);rw[Tc t,Nat.mul_assoc]
theorem JT{l:34}{used:709}{cs:147}(h:qP l used cs):lcs cs 8=letterCount l used:=by unfold lcs letterCount;rw[Tc,Nat.one_mul];congr 1;rw[16,x];rw[UV h x]
theorem SN{l:34}{f:F}(h:bT l f)(hn:l.Nodup):(dO 721).length=((bu l.length).filter (uses f)).length:=by
 have th:=zg h;have e0:((bu l.length).filter (uses f)).length=(696 cA).length:=by(have:∀(is:List Nat),(∀i∈is,i<l.length)->(is.filterMap fun i=>(l[i]?).map cA).length=is.length:=by intro is;induction is with|nil=>intro _;rfl|cons i t ih=>intro q;rw[xq,bM (q i cY)];show(_::_).length=_;rw[aR,aR,ih fun j hj=>q j (cZ _ hj)]);rw[this _ fun i hi=>gR.mp (pT.mp hi).1]
 rw[e0];have nd1:(dO 721).Nodup:=by unfold dO;rw[Eo l f 0 0 [] h];exact G2 _ _ sD
 have nd2:(696 cA).Nodup:=by refine List.Pairwise.filterMap _ (S:=fun a b=>a≠b) (R:=fun a b=>a≠b) ?_ (ajV _ List.nodup_range);intro i j xg b hb b' fe e;rw[lZ]at hb fe;obtain⟨a,ha,rfl⟩:=hb;obtain⟨a',tG,rfl⟩:=fe;have:=IP e;ext:84;exact xg ((List.getElem?_inj (930 ha).1 hn).mp (ha.trans tG.symm))
 refine Nat.le_antisymm (F1 nd1 fun c hc=>?_) (F1 nd2 fun c hc=>?_);obtain⟨i,a,e,hu,rfl⟩:=(th c).mp hc;exact rQ.mpr {i,pT.mpr {gR.mpr (dH.mp e).1,hu},by rw[e];rfl};obtain⟨i,hi,e⟩:=rQ.mp hc;obtain⟨a,ha,rfl⟩:=lZ.mp e;exact(th _).mpr {i,a,ha,(pT.mp hi).2,rfl}
end PC
namespace PC
open PySem PySem.Spec PyProof.Rows L2 XW
open PySem.W (Frag)
variable{P:aT}{w:aI}{K:Frag}{mg:Str->Option Value}{base:Heap}
section
open Vbavaf (F Atom Watcher size cells)
structure Wa where
 a:Addr
 dx:Addr
 pf:Addr
 pc:Addr
 ph:Addr
 pl:Addr
 pt:Addr
def Wa.own(W:Wa):List Addr:=[W.pf,W.pc,W.ph,W.pl,W.pt]
def cv(W:Wa):List (Str×V):=[("formulas",.ref W.pf),("comparisons",.ref W.pc),("history",.ref W.ph),("cells",.ref W.pl),("truths",.ref W.pt)]
def BX(CN:Addr)(H:Hp)(W:Wa)(l:34)(v:V)(x:dw):Prop:=∃q,v=.ref q/\q∉W.own/\dU CN H q (flat l x.f 0 0)
def Bl(H:Hp)(W:Wa)(v:V)(xs:33):Prop:=∃q,v=.ref q/\q∉W.own/\H q=some (80 211)
def IQ(H:Hp)(l:34)(v:V)(x:dw):Prop:=∃q,v=.ref q/\fC H q ((flat l x.f 0 0).map (PC.own 0 x.c))
structure cT(C CN:Addr)(H:Hp)(W:Wa)(s:fm):Prop where
 at_:H W.a=some (.ins C W.dx (cv W))
 fs:∃vs,H W.pf=some (.lst vs)/\Paired (BX CN H W s.atoms) vs s.fs
 cs:∃vs,H W.pc=some (.lst vs)/\gB H vs (s.atoms.map cA)
 aC:∃vs,H W.ph=some (.lst vs)/\Paired (Bl H W) vs s.past.reverse
 cells:∃vs,H W.pl=some (.lst vs)/\Paired (IQ H s.atoms) vs s.fs
 truths:H W.pt=some (.lst (s.fs.map fun x=>bV x.v))
 nd:W.own.Nodup
structure vi(l:List Atom)(x:dw):Prop where
 bW:bT l x.f
 wf:gl x.f
 size:size x.f<=40
 cells:cells x.f<=100
 len:x.c.length=A7 x.f
 prev:dz x.f x.c
structure mR(s:fm):Prop where
 nf:s.fs.length<=8
 na:s.atoms.length<=16
 nd:s.atoms.Nodup
 aw:∀a∈s.atoms,rG a
 jv:∀x∈s.fs,vi s.atoms x
 np:s.past.length<=200
 rows:∀xs∈s.past,xs.length=8
theorem cT.same{C CN:Addr}{H H':Hp}{W:Wa}{s:fm}(x:269)(S:416):cT C CN H' W s:=by obtain⟨h1,⟨v2,h2,p2⟩,⟨v3,h3,p3⟩,⟨v4,h4,p4⟩,⟨v5,h5,p5⟩,h6,h7⟩:=x;exact{S _ _ h1,{v2,S _ _ h2,bR (fun _ _ ⟨q,e,n,h⟩=>{q,e,n,h.same S}) p2},{v3,S _ _ h3,p3.same S},{v4,S _ _ h4,bR (fun _ _ ⟨q,e,n,h⟩=>{q,e,n,S _ _ h}) p4},{v5,S _ _ h5,bR (fun _ _ ⟨q,e,h⟩=>{q,e,h.same S}) p5},S _ _ h6,h7}
def nz(C CN:Addr)(ok:List Int->Prop)(c:List Int->xR):Sp:=fun vs H Q _=>∃(W:Wa)(l:Addr)(s:fm)(ns:List Int),vs=[.ref W.a,.ref l]/\cT C CN H W s/\mR s/\H l=some 971/\ok ns/\
 ∀H' D,ah H H'->H' D=some 1031->Q 118 H'
theorem agY(xs:List dw):(xs.map fun x=>bV x.v)=(xs.map fun x=>sE x.v).map V.int:=by rw[gq];rw[16,x];show bV x.v=V.int (sE x.v);cases x.v<;>rfl
theorem aba:bf ["watch","nothing"] ["watch","nothing"] (a_ Sm):=17
theorem agn(T:65):aE P w K mg base bj 1 T.qO.a T.qO.fd ["watch","nothing"] (nz T.bx T.aJ (fun _=>True) (fun _=>.now)):=by refine T.qO.F.ok aba 28 19;ext:99;obtain⟨W,l,s,ns,rfl,X,ok,hl,_,k⟩:=h;refine(421 (au (aF (bQ jS (bp (aa 503 (38 143))) (121 T.v0)))));obtain⟨v2,h2,p2⟩:=X.fs;rw[23,X.aC];have l2:=bY p2;ext:168;refine{_,rfl,W.a,_,_,_,rfl,X.at_,rfl,_,_,rfl,.inl (549 h4),?_};refine{_,rfl,W.a,_,_,_,rfl,X.at_,rfl,_,_,rfl,.inl (549 h2),by show 2<=sizeLine;decide,fun D1 H1 S1 f1 e1=>?_};have X1:=X.same S1;refine{_,rfl,W.a,_,_,_,rfl,X1.at_,rfl,D1,W.pt,_,_,rfl,rfl,e1,X1.truths,?_,fun D H2 S2 f2 e2=>k H2 D (116 S2 415) ?_};rw[az,sizeLine_eq];show 2+_<=_;have:=ok.nf;omega;rw[e2,l2,l4];show _=some (HO.lst (((s.past.length:Int)::iA (s.fs.map fun w=>sE w.v)).map V.int));rw[agY];unfold iA;rw[az];rfl
theorem Mg:bf ["watch","numbers","number"] ["watch","numbers"] (a_ MJ):=17
theorem aev(T:65):aE P w K mg base bj 2 T.qT.a T.qT.fd ["watch","numbers"] (278 (fun ns=>.reading 236)):=by
 refine T.qT.F.ok Mg 28 19;ext:1;refine(421 (aj (90 Mg.nd 66) (aj (113 (i0 (gP (442 T.yG (S_ T) 336)))) (aj (75 (73 mG 88 503)) (au (aF (bQ jS (bp (38 (cF T.JO))) (25 bD 781 (bQ kI 88 ap)))))))));obtain⟨n,rfl⟩:=iz.mp gI;rw[23,X.aC];ext:168;refine(289 n);refine(222 n);have er:fz (.reading n)=936:=rfl;rw[4,(80 ((103 (.reading n) (.reading n)).2.map V.int))];rw[er]at k'
 cases hb:(decide (1<=n)&&decide (n<=200))with|false=>rw[hb,if_pos rfl]at k';exact 59 29|true=>rw[hb,if_neg 29]at k';rw[dm,bg,bg]at hb;refine 533;refine(76 (549 h4));rw[l4];have ea:cz s (.reading n)=match s.past.reverse[n.toNat-1]? with|none=>(s,[-3])|some x=>(s,iA x):=rfl;rw[ea]at k';by_cases hn:(s.past.length:Int)<n;rw[kW (by rw[ie];omega)]at k';exact 472;refine 232;(have aY:n.toNat-1<s.past.reverse.length:=by rw[ie];omega);have hx:s.past.reverse[n.toNat-1]?=some s.past.reverse[n.toNat-1]:=bM aY;rw[hx]at k';have hv:v4[n.toNat-1]?=some (v4[n.toNat-1]'(by rw[l4];rwa[ie]at aY)):=bM _;obtain⟨xs,nX,q,eq,nq,hq⟩:=gg p4 hv;rw[hx]at nX;cases nX;refine 357;have X1:=X.same S1;(have eN:n-1=((n.toNat-1:Nat):Int):=by omega);refine{_,rfl,W.a,_,_,_,rfl,X1.at_,rfl,_,rfl,_,_,rfl,rfl,W.ph,_,_,.ref q,rfl,rfl,S1 _ _ h4,?_,?_};show fL v4 (n-1)=_;rw[eN];rw[eq]at hv;exact dA hv;have r8:=ok.rows s.past.reverse[n.toNat-1] (E9.mp (uS aY));refine{D1,q,_,_,rfl,rfl,e1,S1 _ _ hq,?_,fun D H2 S2 f2 e2=>k' H2 D (116 S2 415) ?_};rw[az,r8];show 1+8<=sizeLine;decide;rw[e2];unfold iA;rw[bL,r8];rfl
end
section
open Vbavaf (F Atom Watcher size)
theorem boot_list:gS "list"=some (.type "list"):=by decide+kernel
theorem cT.get{C CN:Addr}{H:Hp}{W:Wa}{s:fm}(X:269){f:Int}(h0:0<=f)(h1:f<s.fs.length):∃x q qc vs vl,jm s f=some x/\x∈s.fs/\H W.pf=some (.lst vs)/\fL vs f=some (.ref q)/\dU CN H q (196 x.f)/\q∉W.own/\H W.pl=some (.lst vl)/\fL vl f=some (.ref qc)/\fC H qc ((196 x.f).map (own 0 x.c)):=by
 obtain⟨vs,h2,p2⟩:=X.fs;obtain⟨vl,h5,p5⟩:=X.cells;have l2:=bY p2;have l5:=bY p5;have aY:f.toNat<s.fs.length:=by omega
 have hv:vs[f.toNat]?=some (vs[f.toNat]' 23):=bM _;have hw:vl[f.toNat]?=some (vl[f.toNat]' 23):=bM _;obtain⟨x,hx,q,eq,nq,hq⟩:=gg p2 hv;obtain⟨x',eR,qc,eqc,nY⟩:=gg p5 hw;rw[hx]at eR;cases eR;have ef:f=((f.toNat:Nat):Int):=by omega
 rw[eq]at hv;rw[eqc]at hw;refine{x,q,qc,vs,vl,hx,ej hx,h2,?_,hq,nq,h5,?_,nY};rw[ef];exact dA hv;rw[ef];exact dA hw
theorem tm{s:fm}{f:Int}(h:(s.fs.length:Int)<=f):jm s f=none:=kW 23
theorem sO{f:Int}:m6 f=(279 (0<=f) (f<8)):=by unfold m6 xS;by_cases h:f<=7;rw[cK h,cK (show f<8 by omega)];rw[gn h,gn (show¬f<8 by omega)]
theorem Lj:bf ["watch","numbers","comparison"] ["watch","numbers"] (a_ Vz):=17
theorem aip(T:65):aE P w K mg base bj 1 T.ql.a T.ql.fd ["watch","numbers"] (278 (fun ns=>.atom 236)):=by
 refine T.ql.F.ok Lj 28 19;ext:1;refine(421 (aj (90 Lj.nd 66) (aj (113 (i0 (XC j8 tL ap 88 (cF T.Ln)))) (aj (75 (73 nc 88 (68 (38 (121 T.v8))))) (au (aF (qW aa9 rfl T.agr boot_list (38 (25 bD (121 T.v8) 88)))))))));obtain⟨n,rfl⟩:=iz.mp gI;obtain⟨v3,h3,p3⟩:=X.cs;have l3:=bY p3;rw[az]at l3;rw[4,(80 ((103 (.atom n) (.atom n)).2.map V.int))];have er:fz (.atom n)=969:=rfl;rw[er]at k';refine(289 n);refine 341
 have out:¬(0<=n/\n<16)->∀H' D,ah H H'->H' D=some (.lst [V.int (-1)])->Q 118 H':=fun z=>by(have eb:969=false:=by rw[Bool.and_eq_false_iff,m5,m5];omega);rw[eb,if_pos rfl]at k';exact k'
 by_cases h0:0<=n;refine aS (cK h0) 904;by_cases h1:n<16;rw[cK h1];refine 533;have eb:969=true:=by rw[cK h0,cK (show n<=15 by omega)];rfl
 rw[eb,if_neg 29]at k';have ea:cz s (.atom n)=match s.atoms[n.toNat]? with|none=>(s,[-3])|some a=>(s,[(a.x:Int),a.op,a.n]):=rfl;rw[ea]at k';refine(76 (549 h3));rw[l3];by_cases h2:(s.atoms.length:Int)<=n;rw[kW 23]at k';exact aS (cK h2) (74 k');rw[12,(by rw[bg];exact h2)];have aY:n.toNat<s.atoms.length:=by omega
 rw[bM aY]at k';have hv:v3[n.toNat]?=some (v3[n.toNat]' 23):=bM _;obtain⟨c,hc,q,eq,hq⟩:=gg p3 hv;rw[d_,bM aY]at hc;cases hc;rw[eq]at hv;have ef:n=((n.toNat:Nat):Int):=by omega
 refine{_,rfl,W.a,_,_,_,rfl,X.at_,rfl,_,rfl,W.pc,_,_,.ref q,rfl,rfl,h3,by rw[ef];exact dA hv,q,_,rfl,.inr (bC.of hq),fun D fD=>k' _ D (tw fD) ?_};rw[aM];rfl;rw[gn h1];exact aS 29 (701 (393 h1 z.2));rw[12,(by rw[bg];exact h0)];refine{_,rfl,aS 29 ?_};exact(701 (393 h0 z.1))
theorem GZ:bf ["watch","numbers","formula","row"] ["watch","numbers"] (a_ Ud):=17
theorem ad4(T:65):aE P w K mg base bj 3 T.rD.a T.rD.fd ["watch","numbers"] (278 (fun ns=>.cells 236)):=by
 refine T.rD.F.ok GZ 28 19;ext:1;refine(421 (aj (90 GZ.nd 66) (aj (113 182) (186 (aj (92 GZ.nd (442 T.BE (abV T) (aa 658 (38 (25 bD (121 T.u7) 88))))) (au (aF (bQ jS (bp (38 (68 454))) 174))))))));obtain⟨f,rfl⟩:=iz.mp gI;ext:26;refine(289 f);refine(222 f)
 rw[4,(80 ((103 (.cells f) (.cells f)).2.map V.int))];rw[show fz (.cells f)=m6 f from rfl,sO]at k'
 cases hb:(decide (0<=f)&&decide (f<8))with|false=>rw[hb,if_pos rfl]at k';exact 59 29|true=>rw[hb,if_neg 29]at k';rw[dm,bg,bg]at hb;ext:89;have ea:cz s (.cells f)=match jm s f with|none=>(s,[-3])|some w=>(s,iA (999 w.c)):=rfl;ext:12;ext:2;have fl:=dX s.atoms x.f 0 0;refine 99;refine{_,rfl,W.a,_,_,_,rfl,X.at_,rfl,_,rfl,W.pl,_,_,.ref qc,rfl,rfl,hc,vg,?_};have hs:=fo.size;have lI:=fo.cells;refine{_,_,q,qc,rfl,hq,nY,by rw[fl];omega,by rw[az],by rw[im];omega,fun i nd cs e1 e2=>?_,fun H1 D1 S1 f1 e1=>?_};rw[d_,e1]at e2;cases e2;have La:=ej e1;rw[HV fo.len La,im];have:=(mL s.atoms x.f 0 0 nd La).2;omega;rw[Im fo.len]at e1;refine{_,rfl,_,_,rfl,.inl (549 e1),by show 1<=sizeLine;decide,fun D2 H2 S2 f2 e2=>?_};refine{_,rfl,D2,D1,_,_,rfl,rfl,e2,S2 _ _ e1,?_,fun D H3 S3 f3 e3=>k' H3 D (116 S3 (547 415)) ?_};rw[az,fo.len,sizeLine_eq];show 1+_<=_;omega;rw[e3];show _=some (HO.lst ((iA (999 x.c)).map V.int));unfold iA Vbavaf.ints;rw[az,az,bL,gq];rfl
end
end PC
namespace PC
open Vbavaf (F Atom Now rows onceAt alwaysAt sinceAt countAt inside total bit)
theorem lv{α:Type}{l:612}{i j:Nat}{d:α}(h:j<i):(l.take i).getD j d=l.getD j d:=by rw[dI,dI,E6,if_pos h]
theorem qo{α:Type}{n i:Nat}{f g:Nat->α}(h:∀j,j<i->f j=g j):(bu (min i n)).map f=((bu n).map g).take i:=by rw[<-iV,List.take_range];refine jN fun j hj=>h j ?_;have:=gR.mp hj;omega
theorem Vl{n:Nat}{f g:709}(h:∀d,d<n->f d=g d):(bu n).any f=(bu n).any g:=by rw[h_,qe,qe];ext:67;rintro⟨d,hd,q⟩;exact{d,hd,by rw[<-h d (gR.mp hd)];exact q};rintro⟨d,hd,q⟩;exact{d,hd,by rw[h d (gR.mp hd)];exact q}
theorem T3{n:Nat}{f g:709}(h:∀d,d<n->f d=g d):(bu n).all f=(bu n).all g:=by rw[h_,kU,kU];ext:67;intro q d hd;rw[<-h d (gR.mp hd)];exact q d hd;intro q d hd;rw[h d (gR.mp hd)];exact q d hd
theorem afg(h:List Now)(i:Nat):∀f:F,rows f (h.take i)=(rows f h).take i:=by
 have hl:(h.take i).length=min i h.length:=bU;intro f
 induction f with|const b=>show(h.take i).map _=(h.map _).take i;rw[iV]|atom j=>show(h.take i).map _=(h.map _).take i;rw[iV]|not f ih=>show(215 f).map _=((rows f h).map _).take i;rw[ih,iV]|and f g ih aP=>show(bu (h.take i).length).map (fun j=>(215 f).getD j false&&(215 g).getD j false)=((bu h.length).map _).take i;rw[hl,ih,aP];exact qo fun j hj=>by rw[lv hj,lv hj]|or f g ih aP=>show(bu (h.take i).length).map (fun j=>(215 f).getD j false||(215 g).getD j false)=((bu h.length).map _).take i;rw[hl,ih,aP];exact qo fun j hj=>by rw[lv hj,lv hj]|prev f ih=>show(bu (h.take i).length).map (fun j=>decide (0<j)&&(215 f).getD (j-1) false)=((bu h.length).map _).take i;rw[hl,ih];exact qo fun j hj=>by rw[lv 23]|rose f ih=>show(bu (h.take i).length).map (fun j=>decide (0<j)&&((215 f).getD j false&&!(215 f).getD (j-1) false))=((bu h.length).map _).take i;rw[hl,ih];exact qo fun j hj=>by rw[lv hj,lv 23]|once a b f ih=>show(bu (h.take i).length).map (uW a b (215 f))=((bu h.length).map _).take i;rw[hl,ih];refine qo fun j hj=>?_;unfold uW;exact Vl fun d hd=>by rw[lv 23]|always a b f ih=>show(bu (h.take i).length).map (uX a b (215 f))=((bu h.length).map _).take i;rw[hl,ih];refine qo fun j hj=>?_;unfold uX;exact T3 fun d hd=>by rw[lv 23]|since a b f g ih aP=>show(bu (h.take i).length).map (xP a b (215 f) (215 g))=((bu h.length).map _).take i;rw[hl,ih,aP];refine qo fun j hj=>?_;unfold xP;refine Vl fun d hd=>?_;rw[lv 23,T3 (g:=fun m=>(rows f h).getD (j-m) false) fun m hm=>by rw[lv 23]]|count k n f ih=>show(bu (h.take i).length).map (xQ k n (215 f))=((bu h.length).map _).take i;rw[hl,ih];refine qo fun j hj=>?_;unfold xQ;rw[jN fun d hd=>by rw[lv (by have:=gR.mp hd;omega)]]
theorem adz{h:List Now}{i:Nat}{f:F}(h1:1<=i)(h2:i<=h.length):(215 f).getLast?.getD false=(rows f h).getD (i-1) false:=by rw[afg,List.getLast?_eq_getElem?,bU,O7,E6,if_pos 23,dI];congr 2;omega
end PC
namespace PC
open PySem PySem.Spec PyProof.Rows L2 XW
open PySem.W (Frag)
variable{P:aT}{w:aI}{K:Frag}{mg:Str->Option Value}{base:Heap}
section
open Vbavaf (F Atom Watcher size uses letterCount rows nowOf)
theorem Gy{l:34}{f:F}(h:bT l f)(hn:l.Nodup)(hl:l.length<=16):(dO 721).length<=16:=by rw[SN h hn];have:=E3 (uses f) (bu l.length);rw[l8]at this;omega
theorem G1{l:34}{f:F}(h:bT l f):∀c∈dO (flat l f 0 0),c.length=3:=by intro c hc;obtain⟨i,a,_,_,rfl⟩:=(zg h c).mp hc;rfl
theorem QT{α β:Type}{R:300}:∀{xs:List α}{ys:List β},Paired R xs ys->∀n,Paired R (xs.take n) (ys.take n)
 |_,_,.nil,n=>by rw[List.take_nil,List.take_nil];exact .nil
 |_,_,.cons h t,0=>.nil
 |_,_,.cons h t,n+1=>.cons h (QT t n)
theorem vW(l:34)(f:F):flat l f 0 0≠[]:=fun z=>by have:=dX l f 0 0;rw[z]at this;have:=size_pos f;simp at*;omega
theorem BR:bf ["watch","numbers","formula","nodes","unlike"] ["watch","numbers"] (a_ Pd):=17
theorem ahl(T:65):aE P w K mg base bj 4 T.rj.a T.rj.fd ["watch","numbers"] (278 (fun ns=>.facts 236)):=by
 refine T.rj.F.ok BR 28 19;ext:1
 refine(421 (aj (90 BR.nd 66) (aj (113 182) (186 (aj (92 BR.nd 658) (aj (170 BR.nd (442 T.sR (By T) 454)) (au (aF (bp (aa (68 454) (aa (442 T.vF (HP T) 454) (aa (442 T.DF (aiy T) 454) (aa (68 284) (38 (442 T.yU (UT T) 284)))))))))))))));obtain⟨f,rfl⟩:=iz.mp gI;ext:26
 refine(289 f);refine(222 f);rw[4,(80 ((103 (.facts f) (.facts f)).2.map V.int))];rw[show fz (.facts f)=m6 f from rfl,sO]at k'
 cases hb:(decide (0<=f)&&decide (f<8))with|false=>rw[hb,if_pos rfl]at k';exact 59 29|true=>rw[hb,if_neg 29]at k';rw[dm,bg,bg]at hb;ext:89;have ea:cz s (.facts f)=match jm s f with|none=>(s,[-3])|some w=>(s,[(size w.f:Int),A7 w.f,Vbavaf.optInt (Vbavaf.horizon w.f),((bu s.atoms.length).filter (uses w.f)).length,letterCount s.atoms (uses w.f)]):=rfl;ext:12;ext:2;ext:59;(have sm:(196 x.f).length<=1000:=by rw[fl];omega);refine 99;refine{_,rfl,_,q,rfl,hq,sm,fun H1 D1 ps S1 f1 e1 t1=>?_};have lt:=bY t1;obtain⟨vq,hvq,pq⟩:=id (hq.same S1);have lq:=bY pq;refine{_,rfl,_,_,rfl,.inl (549 hvq),?_};refine{_,rfl,q,_,rfl,hq.same S1,sm,fun H2 S2=>?_};refine{_,rfl,_,q,rfl,(hq.same S1).same S2,vK _ _,vW _ _,sm,fun H3 S3=>?_};have gh:ah H1 H3:=fun b o h=>S3 _ _ (547 h);refine{_,rfl,_,_,rfl,.inl (549 (gh _ _ e1)),?_};refine{_,rfl,D1,ps,_,rfl,gh _ _ e1,t1.same gh,G1 fo.bW,by have:=Gy fo.bW ok.nd ok.na;omega,fun H4 S4=>?_};refine{by show 5<=sizeLine;decide,fun D H5 S5 f5 e5=>k' H5 D (116 S5 (S4 _ _ (gh _ _ 415))) ?_};rw[e5,lq,fl,lt,SN fo.bW ok.nd,Ai,im,Zc,<-ahE,JT (zg fo.bW)];rfl
theorem IL:bf ["watch","numbers","formula","until"] ["watch","numbers"] (a_ Na):=17
theorem abb(T:65)(Dc:213):aE P w K mg base bj 5 T.qS.a T.qS.fd ["watch","numbers"] (nz T.bx T.aJ (fun ns=>ns.length=2) (fun ns=>.meaning 236 745)):=by
 refine T.qS.F.ok IL 28 19;ext:1
 refine(421 (aj (90 IL.nd 66) (aj (92 IL.nd 66) (aj (113 (PW.pt (lD 182 (mU (i0 (gP (442 T.yG (S_ T) 454))))))) (186 (aj (75 (73 mG 174 503)) (au (aF (bp (38 (442 T.C4 (ZR T Dc) (aa 658 (38 (j9 qM 781 mi (iI 174)))))))))))))));obtain⟨f,i,rfl⟩:∃f i,ns=[f,i]:=by match ns,gI with|[x,y],_=>exact⟨x,y,rfl⟩
 ext:26;rw[23,X.aC];ext:168;refine{_,rfl,l,_,_,_,rfl,rfl,hl,nJ f [i],?_};refine(479 i);rw[4,(80 ((103 811 811).2.map V.int))];rw[show fz 811=(m6 f&&(279 (1<=i) (i<=200)))from rfl,sO]at k';refine(222 f)
 cases hb:(decide (0<=f)&&decide (f<8))with|false=>rw[hb,AA,if_pos rfl]at k';exact 976|true=>refine aU 29 (222 i);rw[hb,A5]at k';cases gA:(decide (1<=i)&&decide (i<=200))with|false=>rw[gA,if_pos rfl]at k';exact 59 29|true=>rw[gA,if_neg 29]at k';rw[dm,bg,bg]at hb gA;ext:89;have ea:cz s 811=match jm s f with|none=>(s,[-3])|some w=>if s.past.length<i.toNat then(s,[-4])else(s,[sE ((rows w.f (E_ s)).getD (i.toNat-1) false)]):=rfl;ext:12;ext:2;ext:59;refine(76 (549 h4));rw[l4];dsimp only at k';by_cases hi:(s.past.length:Int)<i;rw[if_pos 23]at k';exact aS (cK hi) (74 k');rw[if_neg 23]at k';rw[12,(by rw[bg];exact hi)];refine 99;refine{_,rfl,W.a,_,_,_,rfl,X.at_,rfl,_,rfl,_,rfl,W.ph,_,rfl,aq.of h4,fun D1 H1 S1 f1 e1=>?_};(have ei:i=((i.toNat:Nat):Int):=by omega);(have i4:i.toNat<=v4.length:=by omega);rw[ei,mJ i4]at e1;have hh:j7 H1 D1 (s.past.reverse.take i.toNat):={_,e1,QT (bR (fun v xs ⟨qq,e,_,h⟩=>{qq,e,S1 _ _ h}) p4) _};(have lh:(s.past.reverse.take i.toNat).length=i.toNat:=by rw[bU,ie];omega);have np:=ok.np;refine{_,_,q,D1,rfl,hq.same S1,hh,vK _ _,vW _ _,by rw[fl];omega,(fun z=>by rw[z]at lh;simp at lh;omega),by rw[lh];omega,(fun xs hx=>ok.rows xs (E9.mp (ajW hx))),fun H2 S2=>?_};refine{by show 1<=sizeLine;decide,fun D H3 S3 f3 e3=>k' H3 D (116 S3 (547 415)) ?_};rw[e3,Z2 _ _ (by rw[lh];omega) _ fo.bW,iV];(have eh:s.past.reverse.map (nowOf s.atoms)=E_ s:=by unfold E_;rw[List.map_reverse]);rw[eh,adz 23 (by unfold E_;rw[ie,az];omega)];show some (HO.lst [bV _])=some (HO.lst [V.int (sE _)]);cases(rows x.f (E_ s)).getD (i.toNat-1) false<;>rfl
end
section
open Vbavaf (F Atom Watcher size fresh)
def cG(W:Wa)(H H':Hp):Prop:=∀b o,b≠W.a->b∉W.own->H b=some o->H' b=some o
theorem cG.of{W:Wa}{H H':Hp}(S:416):cG W H H':=fun b o _ _ h=>S b o h
theorem cG.trans{W:Wa}{H H' H2:Hp}(S:634)(S2:cG W H' H2):cG W H H2:=fun b o h1 h2 h=>S2 b o h1 h2 (S b o h1 h2 h)
theorem cG.yN{W:Wa}{H:Hp}{o:HO}:cG W H (257 W.a o):=fun b u h1 _ h=>by rw[ay h1];exact h
theorem cG.uk{W:Wa}{H:Hp}{o:HO}{p:Addr}(hp:p∈W.own):cG W H (257 p o):=fun b u _ h2 h=>by rw[ay (393 h2 (by rw[z];exact hp))];exact h
structure jX(W W':Wa)(H:Hp):Prop where
 a:W'.a=W.a
 own:∀b∈W'.own,b∈W.own\/H b=none
theorem jX.out{W W':Wa}{H:Hp}(N:jX W W' H){q:Addr}{o:HO}(h:q∉W.own)(e:324 q o):q∉W'.own:=fun z=>by rcases N.own q z with y|y;exact h y;rw[y]at e;cases e
section
variable{C CN:Addr}{H H':Hp}{W W':Wa}{s:fm}
theorem cT.lists(X:269){b:Addr}(h:b∈W.own):∃vs,H b=some (.lst vs):=by obtain⟨v2,h2,_⟩:=X.fs;obtain⟨v3,h3,_⟩:=X.cs;obtain⟨v4,h4,_⟩:=X.aC;obtain⟨v5,h5,_⟩:=X.cells;simp only[Wa.own,bE,ic,or_false]at h;rcases h with z|z|z|z|z<;>rw[z];exact{_,h2};exact{_,h3};exact{_,h4};exact{_,h5};exact{_,X.truths}
theorem cT.tup(X:269)(S:634){b:Addr}{xs:231}(h:324 b 193):H' b=some 193:=by refine S b _ 164 164 h;rw[z,X.at_]at h;ext:91;obtain⟨vs,e⟩:=X.lists z;rw[e]at h;ext:91
theorem cT.lst(X:269)(S:634){b:Addr}{xs:231}(n:b∉W.own)(h:324 b 248):H' b=some 248:=by refine S b _ 164 n h;rw[z,X.at_]at h;ext:91
theorem cT.node(X:269)(S:634){v:V}{nd:Nd}(h:IsNode CN H v nd):IsNode CN H' v nd:=by obtain⟨a,d,p1,p2,e,N⟩:=h;refine{a,d,p1,p2,e,S a _ 164 164 N.at_,X.tup S N.nums,X.tup S N.parts,N.wf};have h:=N.at_;rw[z,X.at_]at h;ext:106;exact 89 h 29;obtain⟨vs,e⟩:=X.lists z;have h:=N.at_;rw[e]at h;ext:91
theorem cT.nodes(X:269)(S:634){q:Addr}{ac:277}(n:q∉W.own)(h:dU CN H q ac):dU CN H' q ac:=by obtain⟨vs,e,p⟩:=h;exact{vs,X.lst S n e,bR (fun _ _ z=>X.node S z) p}
theorem cT.LP(X:269)(S:634){q:Addr}{aZ:611}(h:fC H q aZ):fC H' q aZ:=by obtain⟨vs,e,p⟩:=h;exact{vs,X.tup S e,bR (344 {b,e1,X.tup S e2}) p}
theorem cT.FW(X:269)(S:634)(N:jX W W' H){l:34}{v:V}{x:dw}(h:BX CN H W l v x):BX CN H' W' l v x:=by obtain⟨q,e,n,i⟩:=h;obtain⟨vs,hv,_⟩:=id i;exact{q,e,N.out n hv,X.nodes S n i}
theorem cT.FA(X:269)(S:634)(N:jX W W' H){v:V}{xs:33}(h:Bl H W v xs):Bl H' W' v xs:=by obtain⟨q,e,n,i⟩:=h;exact{q,e,N.out n i,X.lst S n i}
theorem cT.aa1(X:269)(S:634){l:34}{v:V}{x:dw}(h:IQ H l v x):IQ H' l v x:=by obtain⟨q,e,i⟩:=h;exact{q,e,X.LP S i}
theorem cT.i7(X:269)(S:634){vs:231}{ns:147}(h:gB H vs ns):gB H' vs ns:=bR (fun _ _ ⟨a,e,i⟩=>{a,e,X.tup S i}) h
end
def lx(D:Addr)(H:Hp)(l:Addr)(aZ:611):Prop:=∃vs,l≠D/\H l=some (.tup vs)/\Paired (fun v cs=>∃p,v=.ref p/\p≠D/\H p=some 780) vs aZ
theorem lx.of{D:Addr}{H:Hp}{l:Addr}{aZ:611}{acc:231}(x:fC H l aZ)(h:324 D 484):lx D H l aZ:=by
 obtain⟨vs,e,p⟩:=x;have n:∀{b:Addr}{xs:List V},H b=some 193->b≠D:=fun q z=>by rw[z,h]at q;cases q
 exact{vs,n e,e,bR (344 {b,e1,n e2,e2}) p}
theorem lx.go{D:Addr}{H H':Hp}{l:Addr}{aZ:611}(x:lx D H l aZ)(S:jB D H H'):lx D H' l aZ:=by obtain⟨vs,n,e,p⟩:=x;exact{vs,n,S _ _ n e,bR (fun _ _ ⟨b,e1,m,e2⟩=>{b,e1,m,S _ _ m e2}) p}
theorem lx.cells{D:Addr}{H:Hp}{l:Addr}{aZ:611}(x:lx D H l aZ):fC H l aZ:=by obtain⟨vs,n,e,p⟩:=x;exact{vs,e,bR (fun _ _ ⟨b,e1,m,e2⟩=>⟨b,e1,e2⟩) p}
theorem Zt{C:Addr}{H:Hp}{q:Addr}{n1 n2:277}(x:dU C H q n1)(y:dU C H q n2):rF n1=rF n2:=by obtain⟨vs,e,p⟩:=x;obtain⟨mx,e',p'⟩:=y;rw[e]at e';cases e';clear e;induction p generalizing n2 with|nil=>cases p';rfl|cons h t ih=>cases p' with|cons h' t'=>show cS _ 0::rF _=cS _ 0::rF _;rw[h.uniq h',ih t']
def Ds(C CN:Addr)(ok:List Int->Prop)(c:List Int->xR):Sp:=fun vs H Q _=>∃(W:Wa)(l:Addr)(s:fm)(ns:List Int),vs=[.ref W.a,.ref l]/\cT C CN H W s/\mR s/\H l=some 971/\l∉W.own/\ok ns/\
 ∀H' W' D,jX W W' H->cG W H H'->cT C CN H' W' (gF s (c ns)).1->H' D=some 1031->Q 118 H'
theorem o0{CX:gL}{k:Nat}{f:Addr}{fd:eW}{ps:132}{C CN:Addr}{ok:List Int->Prop}{c:List Int->xR}(h:aE P w K mg base CX k f fd ps (nz C CN ok c))(hs:∀s ns,(gF s (c ns)).1=s):aE P w K mg base CX k f fd ps (Ds C CN ok c):=h.imp fun vs H Q E ⟨W,l,s,ns,e,X,so,hl,nl,ho,q⟩=>{W,l,s,ns,e,X,so,hl,ho,fun H' D S e=>q H' W D 873 (.of S) (by rw[hs];exact X.same S) e}
theorem Hf:bf ["watch","nothing","nodes"] ["watch","nothing"] (a_ s_again):=17
theorem Z4(T:65):aE P w K mg base bj 2 T.qm.a T.qm.fd ["watch","nothing"] (Ds T.bx T.aJ (fun _=>True) (fun _=>.again)):=by
 refine T.qm.F.ok Hf 28 19;ext:99;obtain⟨W,l,s,ns,rfl,X,ok,hl,nl,_,k⟩:=h;refine(421 (aj (729 T.oz) (aj (g6 T.cx T.u7 56 (j6 rfl Hf.nd (io 265) (own:=[("nodes",2)]) 20 (46 (264 Hf.nd)) 645 (46 (442 T.uh (DJ T) 336)))) (aj (g6 T.cx T.v0 56 (bQ QB (bp 884) 143)) (au (aF (bp 884)))))));ext:26;obtain⟨v3,h3,p3⟩:=X.cs;have HL:W.pf≠W.a:=fun z=>by have:=X.at_;rw[<-z,h2]at this;cases this
 have Ii:W.pc≠W.a:=fun z=>by have:=X.at_;rw[<-z,h3]at this;cases this
 refine{bA _,fun D1 H1 S1 f1 e1=>?_};refine{_,rfl,W.a,W.dx,_,rfl,S1 _ _ X.at_,(show(5:Nat)<1000 by decide),?_};have Gv:D1≠W.a:=fun z=>by have:=X.at_;rw[<-z,f1]at this;cases this
 have S2:cG W H (upd H1 W.a 258):=(cG.of S1).trans .yN;have a2:upd H1 W.a 258 W.a=some 258:=aM;have d2:upd H1 W.a 258 D1=some (.lst []):=by rw[ay Gv];exact e1
 have B':upd H1 W.a 258 W.pf=some (.lst v2):=by rw[ay HL];exact S1 _ _ h2
 have TM:upd H1 W.a 258 W.pc=some (.lst v3):=by rw[ay Ii];exact S1 _ _ h3
 have Gs:∀b,upd H1 W.a 258 b=none->H b=none:=fun b z=>by by_cases hb:b=W.a;rw[hb,aM]at z;cases z;rw[ay hb]at z;exact fM S1 z
 ext:51;have eF:fX "history" (.ref D1) (cv W)=cv {W with ph:=D1}:=rfl;rw[eF];generalize upd H1 W.a (.ins T.bx W.dx (cv {W with ph:=D1}))=H2 at S2 a2 d2 B' TM Gs;refine{_,rfl,W.a,_,_,_,rfl,a2,rfl,W.pf,rfl,{_,aq.of B'},fun D3 f3=>?_};have Pn:∀{v:V}{x:dw},BX T.aJ H W s.atoms v x->∃q,v=.ref q/\dU T.aJ H2 q (196 x.f):=fun⟨q,e,n,i⟩=>{q,e,X.nodes S2 n i};have nf:=ok.nf;have wd:∀x∈s.fs,∀nd∈flat s.atoms x.f 0 0,nd.op.width<=1000:=fun x hx nd hn=>by have h1:=(mL s.atoms x.f 0 0 nd hn).2;have h2:=(ok.jv x hx).cells;omega
 have sm:∀x∈s.fs,(196 x.f).length<=1000:=fun x hx=>by rw[dX];have:=(ok.jv x hx).size;omega
 refine O1 (xs:=v2) (fun H' v y=>∃(x:dw)(q qc:Addr),v=.ref q/\dU T.aJ H2 q (196 x.f)/\y=.ref qc/\lx D3 H' qc (rF (196 x.f))) f3 (fun Ha Hb v y Sx ⟨x,q,qc,e1,e2,e3,e4⟩=>{x,q,qc,e1,e2,e3,e4.go Sx}) (397 (S _ _ B')) (by rw[l2,sizeLine_eq];omega) (fun v Ha Q' hv Sa ⟨acc,om⟩ q'=>?_) (fun H3 ys S3 e3 v7=>?_);obtain⟨x,hx,hn⟩:=nM p2 hv;obtain⟨q,rfl,hq⟩:=Pn hn;refine{_,rfl,_,q,rfl,hq.same Sa,sm x hx,wd x hx,fun Hb D4 Sb f4 c4=>q' _ _ Sb {x,q,D4,rfl,hq,rfl,lx.of c4 (Sb _ _ om)}};have pc:Paired (fun y(x:dw)=>∃qc,y=V.ref qc/\fC H3 qc 983) ys s.fs:=by refine x_ (fun v x y h1 jh=>?_) p2 v7;obtain⟨x',q,qc,e1,i_,e4,c4⟩:=jh;obtain⟨q2,e2,hq⟩:=Pn h1;rw[e1]at e2;cases e2;refine{qc,e4,?_};rw[<-HF,Zt hq i_];exact c4.cells
 have a3:=S3 _ _ a2;refine(230 a3);have Jg:fX "cells" (.ref D3) (cv {W with ph:=D1})=cv {W with ph:=D1,pl:=D3}:=rfl;rw[Jg];have PV:D3≠W.a:=fun z=>by rw[z,a2]at f3;cases f3
 have S4:cG W H (upd H3 W.a 223):=(S2.trans (.of S3)).trans .yN;have w6:∀{b:Addr}{o:HO},b≠W.a->H3 b=some o->upd H3 W.a 223 b=some o:=fun hb h=>by rw[ay hb];exact h
 have a4:upd H3 W.a 223 W.a=some 223:=aM;have Jy:=w6 Gv (632 d2);have Hv:=w6 PV e3;have HX:=w6 HL (632 B');have NX:=w6 Ii (632 TM);have QV:Paired (fun y(x:dw)=>∃qc,y=V.ref qc/\fC (upd H3 W.a 223) qc 983) ys s.fs:=by(have nt:∀{b:Addr}{xs:List V},H3 b=some 193->b≠W.a:=fun h z=>by rw[z,a3]at h;ext:91);exact bR (fun y x ⟨qc,e,vs,hv,hU⟩=>{qc,e,vs,w6 (nt hv) hv,bR (344 {b,e1,w6 (nt e2) e2}) hU}) pc
 have OL:∀b,upd H3 W.a 223 b=none->H2 b=none:=fun b z=>by by_cases hb:b=W.a;rw[hb,aM]at z;cases z;rw[ay hb]at z;exact fM S3 z
 ext:51;generalize upd H3 W.a (.ins T.bx W.dx (cv {W with ph:=D1,pl:=D3}))=H4 at S4 a4 Jy Hv HX NX QV OL;refine{by show 1<=sizeLine;decide,fun D5 H5 S5 f5 e5=>?_};have a5:=S5 _ _ a4;refine{_,rfl,W.a,_,_,_,rfl,a5,rfl,_,_,rfl,.inl (549 (S5 _ _ HX)),D5,_,_,rfl,rfl,e5,by rw[l2];omega,by rw[l2];omega,fun D6 H6 S6 f6 e6=>?_};have a6:=S6 _ _ a5;refine(230 a6);have Yl:fX "truths" (.ref D6) (cv {W with ph:=D1,pl:=D3})=cv {W with ph:=D1,pl:=D3,pt:=D6}:=rfl;rw[Yl];have nD6:D6≠W.a:=fun z=>by rw[z,a5]at f6;cases f6
 have Mr:ah H4 H6:=fun b o h=>S6 _ _ (S5 _ _ h);have S7:cG W H (upd H6 W.a 495):=(S4.trans (.of Mr)).trans .yN;have wS:∀{b:Addr}{o:HO},b≠W.a->H4 b=some o->upd H6 W.a 495 b=some o:=fun hb h=>by rw[ay hb];exact Mr _ _ h
 refine{by show 1<=sizeLine;decide,fun D H8 S8 f8 e8=>?_};have FK:H D1=none:=f1;have Hq:H D3=none:=Gs _ f3;have Gg:H D6=none:=Gs _ (OL _ (fM S5 f6));have N:jX W {W with ph:=D1,pl:=D3,pt:=D6} H:=by refine{rfl,fun b hb=>?_};simp only[Wa.own,bE,ic,or_false]at hb⊢;rcases hb with z|z|z|z|z;rw[17,(.inl z)];rw[17,(546 (.inl z))];rw[z];exact .inr FK;rw[z];exact .inr Hq;rw[z];exact .inr Gg
 have rJ:=S7.trans (cG.of S8);refine k H8 {W with ph:=D1,pl:=D3,pt:=D6} D N rJ {S8 _ _ aM,{v2,S8 _ _ (wS HL HX),?_},{v3,?_,X.i7 rJ p3},{[],S8 _ _ (wS Gv Jy),.nil},{ys,S8 _ _ (wS PV Hv),?_},?_,?_} e8;exact ul (bR (fun v x h=>X.FW rJ N h) p2);exact S8 _ _ (wS Ii NX);have nt:∀{b:Addr}{xs:List V},H4 b=some 193->b≠W.a:=fun h z=>by rw[z,a4]at h;ext:91
 exact ul (bR (fun y x ⟨qc,e,vs,hv,hU⟩=>{qc,e,vs,S8 _ _ (wS (nt hv) hv),bR (344 {b,e1,S8 _ _ (wS (nt e2) e2)}) hU}) QV);have e7:upd H6 W.a 495 D6=some (80 (cS ((v2.length:Int)).toNat (V.int 0))):=by rw[ay nD6];exact e6
 show H8 D6=some (80 ((s.fs.map fun w=>{w with c:=fresh w.f,v:=false}).map fun x=>bV x.v));rw[S8 _ _ e7,pY,l2,gq];congr 2;have:∀xs:List dw,cS xs.length (V.int 0)=xs.map ((fun x=>bV x.v)∘fun w=>({w with c:=fresh w.f,v:=false}:dw)):=by intro xs;induction xs with|nil=>rfl|cons x t ih=>rw[aR,rZ,bL,ih];rfl
 exact this s.fs;have nd:=X.nd;have ne:∀{b D:Addr}{o:HO},H b=some o->H D=none->b≠D:=fun h1 h2 z=>by rw[z,h2]at h1;cases h1
 have n1:W.pf≠W.pc:=by simp only[Wa.own,oF,bE,not_or]at nd;exact nd.1.1
 have vQ:D1≠D3:=fun z=>by rw[<-z,d2]at f3;cases f3
 have n16:D1≠D6:=fun z=>by have q:=S5 _ _ Jy;rw[z,f6]at q;cases q
 have n36:D3≠D6:=fun z=>by have q:=S5 _ _ Hv;rw[z,f6]at q;cases q
 ext:39;exact{{n1,ne h2 FK,ne h2 Hq,ne h2 Gg},{ne h3 FK,ne h3 Hq,ne h3 Gg},⟨vQ,n16⟩,n36}
end
section
variable{K:Frag}{a b:Addr}{xs ys:List V}{tt:TT}{te:TE}{g:TG}{j:Nat}{vs:List Nat}{σ:L2.St}{H1:Hp}{D:Addr}{Qd:Hp->Prop}
theorem ail{j2:Nat}(Rel:Hp->Nat->V->Prop)(hj:j≠j2)(hD:524)(mono:∀H H' x y,jB D H H'->Rel H x y->Rel H' x y)(bK:666)(hl:∀H,ah H1 H->aq K H a xs/\aq K H b ys)(hz:438)(hs:∀(i:Nat) x y H2(Q:VK),xs[i]?=some x->ys[i]?=some y->ah H1 H2->(∃acc,H2 D=some 484)->(∀z H3,ah H2 H3->Rel H3 i z->Q z H3)->te 702 H2 Q)(hq:∀H' zs,ah H1 H'->H' D=some 733->Paired (Rel H') (bu xs.length) zs->Qd H'):∃W:Nat->Nat->Hp->Prop,(∃m,W 0 m 595)/\∀i m H,W i m H->((mT K a b).stop i H/\Qd H)\/((mT K a b).go i H/\∃Nx:Hp->Prop,(∀H',Nx H'->∃m',m'<m/\W (i+1) m' H')/\∀x H',(mT K a b).gG i H x H'->FH (yZ (iQ j) (yZ (iQ j2) Ia)) x (wipe σ [j,j2]) H' fun bq H2=>wipe bq [j,j2]=wipe σ [j,j2]/\jo bq H2 fun b H3=>if b=true then te bq H3 fun y H4=>∃acc,H4 D=some 484/\acc.length<sizeLine/\Nx 119 else Nx H3):=by
 refine(427 (bu i));ext:157;obtain⟨q1,q2⟩:=hl H B.same;ext:34
 refine 546 (772 (bu (i+1)));ext:83;have ex:=y1 xs q1;have ey:=y2 ys q2;have ST:ah H (257 T 335):=fun b o e=>by rw[ay (bF e hT)];exact e
 refine 793;unfold jo;ext:0;ext:143;have B2:=B.lift mono ST;refine hs i x y _ _ ex ey B2.same {_,B2.ex.choose_spec.1} fun z H3 S r=>?_;rw[xN];exact B2.turn hD mono S r (by rw[l8];omega);ext:20
 subst e;ext:189
end
section
open Vbavaf (F Atom Watcher size fresh watch nowOf)
theorem Pa{α β:Type}{R:300}:∀{xs:List α}{ys:List β},xs.length=ys.length->(∀(i:Nat) x y,xs[i]?=some x->ys[i]?=some y->R x y)->Paired R xs ys
 |[],[],_,_=>.nil
 |x::xs,y::ys,h,k=>.cons (k 0 x y rfl rfl) (Pa 785 fun i a b e1 e2=>k (i+1) a b e1 e2)
theorem Nv{α β:Type}{P:β->α->Prop}{fs:612}{ys:List β}(h:Paired (fun y i=>∃x,fs[i]?=some x/\P y x) ys (bu fs.length)):Paired P ys fs:=by have hl:=bY h;rw[l8]at hl;refine Pa hl fun i y x e1 e2=>?_;obtain⟨j,hj,x',e3,p⟩:=gg h e1;have hi:i<fs.length:=(930 e2).1;rw[List.getElem?_range hi]at hj;cases hj;rw[e2]at e3;cases e3;exact p
theorem Bs{α β:Type}{R:300}:∀{xs:List α}{ys:List β},Paired R xs ys->Paired (fun y x=>R x y) ys xs
 |_,_,.nil=>.nil
 |_,_,.cons h t=>.cons h (Bs t)
theorem rq:bf ["watch","readings","done","nodes","before","pair"] ["watch","readings"] (a_ O6):=17
theorem aeS(T:65)(Dc:213):aE P w K mg base bj 5 T.rC.a T.rC.fd ["watch","readings"] (Ds T.bx T.aJ (fun ns=>ns.length=8) (fun ns=>.step ns)):=by
 refine T.rC.F.ok rq 28 19;ext:99;obtain⟨W,l,s,ns,rfl,X,ok,hl,nl,h8,k⟩:=h
 refine(421 (aj (113 (i0 (gP (442 T.Ap (Lg T) (845 (aa (cF T.UJ) (38 (cF T.Qt)))))))) (aj (75 (73 cD 503 (cF T.Uf))) (aj (cr (122 781 483)) (aj (wQ (i:=2) rfl rq.nd rfl rfl rfl (Je rfl T.Aq (aa 265 (38 (121 T.u7)))) (own:=[("nodes",3),("before",4)]) 20 (46 (S' rfl (je (351 rq.nd) (je (352 rq.nd) rH)))) 645 (46 (442 T.vG (Gp T Dc) (aa 174 (aa 602 483))))) (aj (365 T.v0) (aj (365 T.u7) (au (aF (bQ jS (bp (38 143)) (121 T.v0)))))))))))
 refine{_,rfl,l,ns,-1000000,1000000,rfl,hl,by omega,fun H0 S0=>?_};have k':∀H' W' D,jX W W' H->cG W H H'->cT T.bx T.aJ H' W' (103 (.step ns) (.step ns)).1->H' D=some (80 ((103 (.step ns) (.step ns)).2.map V.int))->Q 118 H':=k;have er:fz (.step ns)=ns.all (mQ (-1000000) 1000000):=by show(ns.length==8&&ns.all fun v=>xS v (-sw) sw)=_;rw[h8];rfl
 rw[er]at k';have zK:jX W W H:=873;refine 735
 cases hb:ns.all (mQ (-1000000) 1000000)with|false=>rw[hb,if_pos rfl]at k';exact aS 29 {by show 1<=sizeLine;decide,fun D H1 S1 f1 e1=>k' H1 W D zK 1001 ((X.same S0).same S1) e1}|true=>rw[hb,if_neg 29]at k';refine 533;have X0:=X.same S0;obtain⟨v2,h2,p2⟩:=X0.fs;have l2:=bY p2;obtain⟨v3,h3,p3⟩:=X0.cs;rw[23,X0.aC];ext:168;obtain⟨v5,h5,p5⟩:=X0.cells;have l5:=bY p5;have np:=ok.np;have nf:=ok.nf;refine(1025 X0.at_ (549 h4));(have ed:decide (V.int (v4.length:Int)=V.int 200)=decide (s.past.length=200):=by rw[l4,h_,bg,bg];exact 651);rw[ed];have ea:cz s (.step ns)=if 200<=s.past.length then(s,[-3])else({s with fs:=s.fs.map fun w=>{w with c:=(107 w.f w.c).2.1,v:=(107 w.f w.c).1},past:=ns::s.past},iA ((s.fs.map fun w=>{w with c:=(107 w.f w.c).2.1,v:=(107 w.f w.c).1}).map fun w=>sE w.v)):=rfl;rw[ea]at k';by_cases Ip:s.past.length=200;rw[if_pos 23]at k';exact aS (cK Ip) {_,rfl,by show 1<=sizeLine;decide,fun D H1 S1 f1 e1=>k' H1 W D zK 1001 (X0.same S1) e1};rw[if_neg 23]at k';rw[12,(by rw[bg];exact Ip)];ext:31;refine{_,rfl,W.a,_,_,_,rfl,X0.at_,rfl,.inl (142 h4),_,rfl,W.ph,_,_,rfl,rfl,h4,by rw[l4,sizeLine_eq];omega,?_};(have npa:W.ph≠W.a:=fun z=>by have:=X0.at_;rw[<-z,h4]at this;cases this);have S1:cG W H0 (upd H0 W.ph 266):=.uk (by simp[Wa.own]);(have a1:upd H0 W.ph 266 W.a=some (98 (cv W)):=by rw[ay (cJ npa)];exact X0.at_);(have CZ:upd H0 W.ph 266 W.pf=some (.lst v2):=by rw[ay vQ];exact h2);(have OW:upd H0 W.ph 266 W.pc=some (.lst v3):=by rw[ay DO];exact h3);have QY:upd H0 W.ph 266 W.ph=some 266:=aM;(have IU:upd H0 W.ph 266 W.pl=some (.lst v5):=by rw[ay (cJ Gz)];exact h5);have eO:upd H0 W.ph 266 l=some 971:=X0.lst S1 nl (S0 _ _ hl);(have F7:∀b,upd H0 W.ph 266 b=none->H b=none:=fun b z=>by by_cases fe:b=W.ph;rw[fe,aM]at z;cases z;rw[ay fe]at z;exact fM S0 z);ext:51;generalize upd H0 W.ph (.lst (v4++[.ref l]))=H1 at S1 a1 CZ OW QY IU eO F7;refine{_,rfl,W.a,_,_,_,rfl,a1,rfl,_,rfl,W.a,_,_,_,rfl,a1,rfl,W.pf,W.pl,_,_,rfl,aq.of CZ,aq.of IU,fun D2 f2=>?_};have rE:cG W H H1:=(cG.of S0).trans S1;refine ail (K:=_) (a:=W.pf) (b:=W.pl) (xs:=v2) (ys:=v5) (j:=3) (j2:=4) (fun H' i z=>∃(x:dw)(p q:Addr),s.fs[i]?=some x/\z=.ref p/\p≠D2/\H' p=some 1002/\lx D2 H' q 287) 29 f2 (fun Ha Hb i z Sx ⟨x,p,q,e1,e2,e3,e4,e5⟩=>{x,p,q,e1,e2,e3,Sx _ _ e3 e4,e5.go Sx}) 23 (fun H' S=>{aq.of (S _ _ CZ),aq.of (S _ _ IU)}) (by rw[l2,sizeLine_eq];omega) (fun i v c Ha Q' hv hc Sa ⟨acc,om⟩ q'=>?_) (fun H3 zs S3 e3 v7=>?_);obtain⟨x,hx,q,rfl,nq,hq⟩:=gg p2 hv;obtain⟨x',eR,qc,rfl,nY⟩:=gg p5 hc;rw[hx]at eR;cases eR;have fo:=ok.jv x (ej hx);ext:59;have lI:=fo.cells;obtain⟨w1,w2⟩:=F5 ns fo.bW fo.len;refine{_,rfl,_,rfl,_,rfl,_,_,ns,q,qc,l,rfl,(X0.nodes S1 nq hq).same Sa,(X0.LP S1 nY).same Sa,Sa _ _ eO,h8,vK _ _,vW _ _,by rw[fl];omega,by rw[az],HG fo.len fo.prev 23,fun Hb p qn Sb e1 e2=>q' _ _ Sb {x,p,qn,hx,rfl,?_,?_,?_}};intro z;have h:=Sb _ _ om;rw[<-z,e1]at h;ext:91;rw[e1,w1];rw[<-w2];exact lx.of e2 (Sb _ _ om);have l3:=bY v7;rw[l8,l2]at l3;have a3:=S3 _ _ a1;refine{_,rfl,D2,rfl,{_,aq.of e3},fun D4 f4=>?_};(have zt:∀z∈zs,∃p t q,z=.ref p/\H3 p=some (.tup [t,.ref q]):=fun z hz=>by obtain⟨i,hi,x,p,q,_,e2,_,e4,_⟩:=nM (R:=fun z i=>∃(x:dw)(p q:Addr),s.fs[i]?=some x/\z=.ref p/\p≠D2/\H3 p=some 1002/\lx D2 H3 q 287) (Bs v7) hz;exact{p,_,q,e2,e4});refine yg (xs:=zs) (fun _ z y=>∃p q,z=.ref p/\H3 p=some (.tup [y,.ref q])) f4 134 (397 (S _ _ e3)) 1051 (fun z Ha Q' hz Sa q'=>?_) (fun H5 ys S5 e5 Mc=>?_);obtain⟨p,t,q,rfl,hp⟩:=zt z hz;exact{_,rfl,p,_,_,t,rfl,rfl,Sa _ _ hp,dA (j:=0) rfl,q' _ _ ah.refl ⟨p,q,rfl,hp⟩};(have py:Paired (fun y(x:dw)=>y=bV (107 x.f x.c).1) ys s.fs:=by refine Nv ?_;rw[<-l2];refine x_ (fun z i y h1 jh=>?_) (Bs v7) Mc;obtain⟨x,p,q,e1,e2,_,e4,_⟩:=h1;obtain⟨p',q',pi,zH⟩:=jh;rw[e2]at pi;cases pi;rw[e4]at zH;cases zH;exact⟨x,e1,rfl⟩);(have ey:ys=s.fs.map fun x=>bV (107 x.f x.c).1:=by clear Mc e5;generalize s.fs=fs at py;induction py with|nil=>rfl|cons h t ih=>rw[h,ih];rfl);have a5:=S5 _ _ a3;refine(230 a5);have eF:fX "truths" (.ref D4) (cv W)=cv {W with pt:=D4}:=rfl;rw[eF];(have ni:∀{b:Addr}{xs:List V},H5 b=some 248->b≠W.a:=fun h z=>by rw[z,a5]at h;ext:91);(have nt5:∀{b:Addr}{xs:List V},H5 b=some 193->b≠W.a:=fun h z=>by rw[z,a5]at h;ext:91);have nD4:=ni e5;(have Bn:∀{b:Addr}{o:HO},b≠W.a->H5 b=some o->upd H5 W.a 259 b=some o:=fun hb h=>by rw[ay hb];exact h);have S6:cG W H (upd H5 W.a 259):=(rE.trans (.of fun b o h=>S5 _ _ (632 h))).trans .yN;have a6:upd H5 W.a 259 W.a=some 259:=aM;have L:∀{b:Addr}{xs:List V},H1 b=some 248->upd H5 W.a 259 b=some 248:=fun h=>Bn (ni (S5 _ _ (632 h))) (S5 _ _ (632 h));have U4:=L CZ;have OF:=L OW;have No:=L QY;have GH:=Bn (ni (S5 _ _ e3)) (S5 _ _ e3);have Fu:=Bn nD4 e5;have Cm:∀{b:Addr}{xs:List V},H3 b=some 193->upd H5 W.a 259 b=some 193:=fun h=>Bn (nt5 (S5 _ _ h)) (S5 _ _ h);(have Ng:∀b,upd H5 W.a 259 b=none->H3 b=none:=fun b z=>by by_cases fe:b=W.a;rw[fe,aM]at z;cases z;rw[ay fe]at z;exact fM S5 z);ext:51;generalize upd H5 W.a (.ins T.bx W.dx (cv {W with pt:=D4}))=H6 at S6 a6 U4 OF No GH Fu Cm Ng;refine{_,rfl,D2,rfl,{_,aq.of GH},fun D7 f7=>?_};refine yg (xs:=zs) (fun _ z y=>∃p t q,z=.ref p/\H3 p=some (.tup [t,.ref q])/\y=.ref q) f7 134 (397 (S _ _ GH)) 1051 (fun z Ha Q' hz Sa q'=>?_) (fun H8 cs S8 e8 p8'=>?_);obtain⟨p,t,q,rfl,hp⟩:=zt z hz;exact{_,rfl,p,_,_,.ref q,rfl,rfl,Sa _ _ (Cm hp),dA (j:=1) rfl,q' _ _ ah.refl ⟨p,t,q,rfl,hp,rfl⟩};(have pcs:Paired (fun y(x:dw)=>∃q,y=V.ref q/\fC H8 q 287) cs s.fs:=by refine Nv ?_;rw[<-l2];refine x_ (fun z i y h1 jh=>?_) (Bs v7) p8';obtain⟨x,p,q,e1,e2,_,e4,e5'⟩:=h1;obtain⟨p',t',q',pi,zH,XU⟩:=jh;rw[e2]at pi;cases pi;rw[e4]at zH;cases zH;obtain⟨vs,hv,hU⟩:=e5'.cells;exact{x,e1,q,XU,vs,S8 _ _ (Cm hv),bR (344 {b,e1,S8 _ _ (Cm e2)}) hU});have a8:=S8 _ _ a6;refine(230 a8);have Jg:fX "cells" (.ref D7) (cv {W with pt:=D4})=cv {W with pt:=D4,pl:=D7}:=rfl;rw[Jg];(have Xn:∀{b:Addr}{xs:List V},H8 b=some 248->b≠W.a:=fun h z=>by rw[z,a8]at h;ext:91);(have VA:∀{b:Addr}{xs:List V},H8 b=some 193->b≠W.a:=fun h z=>by rw[z,a8]at h;ext:91);(have vj:∀{b:Addr}{o:HO},b≠W.a->H8 b=some o->upd H8 W.a 224 b=some o:=fun hb h=>by rw[ay hb];exact h);have S9:cG W H (upd H8 W.a 224):=(S6.trans (.of S8)).trans .yN;have a9:upd H8 W.a 224 W.a=some 224:=aM;have L9:∀{b:Addr}{xs:List V},H8 b=some 248->upd H8 W.a 224 b=some 248:=fun h=>vj (Xn h) h;have Ju:=L9 (S8 _ _ U4);have UN:=L9 (S8 _ _ OF);have zY:=L9 (S8 _ _ No);have Jt:=L9 (S8 _ _ Fu);have OK:=L9 e8;have Qy:Paired (fun y(x:dw)=>∃q,y=V.ref q/\fC (upd H8 W.a 224) q 287) cs s.fs:=bR (fun y x ⟨q,e,vs,hv,hU⟩=>{q,e,vs,vj (VA hv) hv,bR (344 {b,e1,vj (VA e2) e2}) hU}) pcs;(have Zl:D4≠D7:=fun z=>by rw[<-z,Fu]at f7;cases f7);ext:0;generalize upd H8 W.a (.ins T.bx W.dx (cv {W with pt:=D4,pl:=D7}))=H9 at S9 a9 Ju UN zY Jt OK Qy;refine{_,rfl,W.a,_,_,_,rfl,a9,rfl,_,_,rfl,.inl (549 Ju),by show 1<=sizeLine;decide,fun lH eI fZ ZS lJ=>?_};refine{_,rfl,W.a,_,_,_,rfl,fZ _ _ a9,rfl,lH,D4,_,_,rfl,rfl,lJ,fZ _ _ Jt,?_,fun D jP qK B8 wn=>?_};rw[ey,az,sizeLine_eq];show 1+_<=_;omega;have qk:ah H9 jP:=fun b o h=>qK _ _ (fZ _ _ h);have yV:=S9.trans (cG.of qk);have Bk:H D4=none:=F7 _ (fM S3 f4);have DZ:H D7=none:=F7 _ (fM S3 (Ng _ f7));(have N:jX W {W with pt:=D4,pl:=D7} H:=by refine{rfl,fun b fe=>?_};simp only[Wa.own,bE,ic,or_false]at fe⊢;rcases fe with z|z|z|z|z;rw[17,(.inl z)];rw[17,(546 (.inl z))];rw[17,(546 (546 (.inl z)))];rw[z];exact .inr DZ;rw[z];exact .inr Bk);obtain⟨nv,jh,Xy⟩:=X.fs;obtain⟨Lz,qZ,ae5⟩:=X.cs;obtain⟨IT,yK,Fg⟩:=X.aC;(have eq2:nv=v2:=by have:=S0 _ _ jh;rw[h2]at this;cases this;rfl);(have eq3:Lz=v3:=by have:=S0 _ _ qZ;rw[h3]at this;cases this;rfl);(have eq4:IT=v4:=by have:=S0 _ _ yK;rw[h4]at this;cases this;rfl);subst eq2 eq3 eq4;refine k' jP {W with pt:=D4,pl:=D7} D N yV {qk _ _ a9,{nv,qk _ _ Ju,?_},{Lz,qk _ _ UN,X.i7 yV ae5},{IT++[.ref l],qk _ _ zY,?_},{cs,qk _ _ OK,?_},?_,?_} ?_;exact ul (bR (fun v x h=>X.FW yV N h) Xy);rw[show(ns::s.past).reverse=s.past.reverse++[ns]from K2];exact kE (bR (fun v x h=>X.FA yV N h) Fg) (X.FA yV N ⟨l,rfl,nl,hl⟩);exact ul (bR (fun y x ⟨q,e,i⟩=>{q,e,i.same qk}) Qy);rw[qk _ _ Jt,ey,gq];rfl;(have ne:∀{b D:Addr}{o:HO},H b=some o->H D=none->b≠D:=fun h1 h2 z=>by rw[z,h2]at h1;cases h1);ext:39;exact{{Bt,vQ,ne jh DZ,ne jh Bk},{DO,ne qZ DZ,ne qZ Bk},{ne yK DZ,ne yK Bk},cJ Zl};rw[wn,ey];unfold iA;rw[az,az,bL,gq,gq];(have eb:∀xs:List dw,(xs.map fun x=>bV (107 x.f x.c).1)=xs.map (V.int∘((fun w=>sE w.v)∘fun(w:dw)=>({w with c:=(107 w.f w.c).2.1,v:=(107 w.f w.c).1}:dw))):=by intro xs;rw[16,x];show bV _=V.int (sE (107 x.f x.c).1);cases(watch x.f (nowOf s.atoms ns) x.c).1<;>rfl);rw[eb,l2];rfl
end
def ad8(H:Hp)(n:Int)(p:Prop):Addr->Addr->Hp->Prop:=fun _ dx H'=>p/\ah H H'/\H' dx=some 853
section
variable{X:Cx}{x:Str}{pos p:Pos}{e:aH}{es:List aH}{t:TA}{st:aL}{ps:List Str}{sp:Sp}{k m:Nat}{C:Addr}{XE:Addr->Addr->Hp->Prop}{pins:List (Addr×Obj)}
theorem acr(fn:984)(G:423 (cX X.prog X.w C))(hr:cW m X.A)(ha:PA (383 X) 298 t)(hk:k<=m:=by omega)(hg:Gl (383 X) x:=by rfl)(eK:81=false:=by decide)(he:starEach 298 (383 X).env=(false,eval e (383 X).env)::starEach es (383 X).env:=by rfl)(dj:(465 (starEach es (383 X).env)).any (·.1)=false:=by rfl):PE (383 X) 311 (zd sp [] (fun v d H=>∃a d',v=.ref a/\d=some d'/\XE a d' H) t):=BK (X:=kJ X C XE pins) G 601 hg fn.m fn.F.kp fn.b .nil (acQ fun a d H ⟨a',d',e1,e2,h⟩=>by cases e1;cases e2;exact h) ha eK he dj
end
section
open Vbavaf (F Atom Watcher size fresh watch nowOf tokens)
def nO(n:33):p9:=.list 411
theorem TK:∀ns:List (List Int),sr (592 nO)=true
 |[]=>rfl
 |n::r=>by show(sr 411&&sr (r.map nO))=true;rw[lay_ints,TK r];rfl
theorem NN:∀ns:List (List Int),oJ (592 nO)<=1
 |[]=>bA _
 |n::r=>by show max (oJ 411+1) (oJ (r.map nO))<=1;rw[An];have:=NN r;omega
theorem abw(ns:147):AL (.list (592 nO))=true:=by show(sr (592 nO)&&decide (oJ (592 nO)+1<=64))=true;rw[TK,cK (by have:=NN ns;omega)];rfl
theorem NG{K:Frag}{H:Hp}{W:Wa}:∀{vs:List V}{rs:List 33},Paired (Bl H W) vs rs->o7 K H vs (rs.map nO)
 |_,_,.nil=>.nil
 |_,_,.cons ⟨q,e,_,h⟩ t=>by rw[e];exact .cons (.lst (aq.of h) (wD _)) (NG t)
theorem aaK(rs:147):AM (.list (rs.map nO)) (.list [])=rs.isEmpty:=by cases rs<;>rfl
theorem UW:∀{ns:List Int},ns.all (mQ 0 255)=true->ns.map V.int=(592 oM).map fun(b:Nat)=>V.int (b:Int)
 |[],_=>rfl
 |n::t,h=>by rw[EK,dm]at h;have h1:=h.1;unfold mQ at h1;rw[dm,bg,bg]at h1;rw[bL,bL,bL,UW h.2,show((n.toNat:Nat):Int)=n by omega]
def intsOf(xs:231):List Int:=xs.filterMap fun|.int i=>some i|_=>none
theorem Qk:∀c:List Int,intsOf 894=c
 |[]=>rfl
 |n::t=>by show n::intsOf (t.map V.int)=_;rw[Qk t]
def og(H:Hp)(old:147):V->Bool
 |.ref a=>match H a with
  |some (.tup xs)=>decide (intsOf xs∉old)
  |_=>false
 |_=>false
theorem JJ{H:Hp}{old:147}{a:Addr}{c:33}(h:324 a (.tup 894)):og H old 152=decide (c∉old):=by show(match H a with|some (.tup xs)=>decide (intsOf xs∉old)|_=>false)=_;rw[h];show decide (intsOf 894∉old)=_;rw[Qk]
theorem TL{H:Hp}{old:147}:∀{ps:List V}{cs:List 33},gB H ps cs->gB H (ps.filter (og H old)) (cs.filter fun c=>decide (c∉old))
 |_,_,.nil=>.nil
 |_,_,.cons ⟨a,e,h⟩ t=>by rw[e];have ih:=TL (old:=old) t;by_cases hc:og H old 152=true;rw[WD hc,WD (by rw[<-JJ h];exact hc)];exact .cons ⟨a,rfl,h⟩ ih;rw[WC hc,WC (by rw[<-JJ h];exact hc)];exact ih
theorem Hw{α β:Type}{R R':300}:∀{xs:List α}{ys:List β},(∀x y,y∈ys->R x y->R' x y)->Paired R xs ys->Paired R' xs ys
 |_,_,_,.nil=>.nil
 |_,_,k,.cons h t=>.cons (k _ _ cY h) (Hw (fun x y hy q=>k x y (cZ _ hy) q) t)
theorem Ir{α β:Type}{R:300}:∀{xs jC:List α}{ys qL:List β},Paired R xs ys->Paired R jC qL->Paired R (xs++jC) (ys++qL)
 |_,_,_,_,.nil,q=>q
 |_,_,_,_,.cons h t,q=>.cons h (Ir t q)
theorem O8{α:Type}:∀{xs ys:List α},Paired (fun x y=>y=x) xs ys->ys=xs
 |_,_,.nil=>rfl
 |_,_,.cons h t=>by rw[h,O8 t]
def HI(s:fm)(ns:33):Int:=match sC s.atoms (592 oM)with
 |.error e=>(e:Int)
 |.ok _=>0
theorem zC:bf ["watch","text","nodes","wrong","added","comparison"] ["watch","text"] (a_ OD):=17
theorem afs(T:65)(Dc:213)(Ee:707):aE P w K mg base bj 252 T.qU.a T.qU.fd ["watch","text"] (Ds T.bx T.aJ (fun ns=>ns.length<=998) (fun ns=>.define ns)):=by
 refine T.qU.F.ok zC 28 19;ext:99;obtain⟨W,l,s,ns,rfl,X,ok,hl,nl,Of,k⟩:=h;obtain⟨nW,RK⟩:∃nW,nW=HI s ns:=569;obtain⟨pW,Nr⟩:∃pW:Prop,pW=∃e,sC s.atoms (ns.map oM)=.error e:=569
 refine(421 (aj (113 (PW.pt (lD (73 mG (68 483) (cF T.agH)) (mU (i0 (gP (442 T.Ap (Lg T) (845 (aa ap 884))))))))) (aj (75 (73 (ab0 hr.units) 781 505)) (aj (75 (73 cD 143 (cF T.Pk))) (aj (ag3 (i:=3) (XE:=ad8 H nW pW) T.yC rfl rfl rfl T.Gx zC.nd rfl rfl (fun pins=>(au (90 zC.nd (acr T.z_ (U2 T Dc Ee) hr (38 (442 T.BJ (ack T) 483)))))) (fun a=>(au (aF (bp (38 (bQ kI (cF T.ZQ) (Yq T.yC 174 rfl)))))))) (aj (75 (PW.pt (lD (73 mG (68 336) (cF T.ahp)) (mU (73 mG (442 T.vF (HP T) 336) (cF T.aa2)))))) (aj (wQ (i:=4) rfl zC.nd rfl rfl rfl (io (442 T.sR (By T) 336)) (own:=[("comparison",5)]) 20 (46 (299 zC.nd)) (46 (LC (bh (Tz hr.units) 663 (121 T.v8) 77))) (46 663)) (aj (75 (73 mG (bQ gK (68 (38 (121 T.v8))) (68 284)) (cF T.Ln))) (aj (cr (dQ eD WE WF HJ (121 T.v8) 284)) (aj (cr (122 265 336)) (aj (cr (122 (121 T.u7) (38 (442 T.uh (DJ T) 336)))) (aj (cr (122 (121 T.v0) 884)) (au (aF (bp (38 (bQ kI 143 ap)))))))))))))))))
 have k':∀H' W' D,jX W W' H->cG W H H'->cT T.bx T.aJ H' W' (103 808 808).1->H' D=some (80 ((103 808 808).2.map V.int))->Q 118 H':=k;have er:fz 808=(decide (ns.length<=600)&&ns.all (mQ 0 255)):=rfl;rw[er]at k';have zK:jX W W H:=873;refine(1063 (549 hl));rw[az];have eV:∀{st:fm×List Int}{n:Int},(∀H' W' D,jX W W' H->cG W H H'->cT T.bx T.aJ H' W' st.1->H' D=some 938->Q 118 H')->st=(s,[n])->∀H' D,ah H H'->H' D=some (.lst [V.int n])->Q 118 H':=fun kk e H' D S ed=>by subst e;exact kk H' W D zK (.of S) (X.same S) ed
 by_cases NH:ns.length<=600;rw[cK NH,A5]at k';refine 572;refine{_,rfl,l,ns,0,255,rfl,hl,by omega,fun H0 S0=>?_};refine 735
 cases hb:ns.all (mQ 0 255)with|false=>rw[hb,if_pos rfl]at k';exact aS 29 {by show 1<=sizeLine;decide,fun D H1 S1 f1 e1=>eV k' rfl H1 D (116 S1 (S0 _ _ h)) e1}|true=>rw[hb,if_neg 29]at k';refine 533;have X0:=X.same S0;rw[23,X0.aC];have l4:=bY p4;obtain⟨v2,h2,p2⟩:=X0.fs;have l2:=bY p2;refine{_,rfl,W.a,_,_,_,rfl,X0.at_,rfl,bA _,fun D1 H1 S1 f1 e1=>?_};have X1:=X0.same S1;obtain⟨IT,yK,Fg⟩:=X1.aC;refine{.list (s.past.reverse.map nO),.list [],.lst (549 yK) (NG Fg),.lst (549 e1) .nil,abw _,by decide,_,rfl,?_};rw[aaK];have ea:cz s 808=if s.past≠[]then(s,[-3])else if 8<=s.fs.length then(s,[-4])else match sC s.atoms (592 oM)with|.error w=>(s,[-1000-(w:Int)])|.ok (f,l)=>if 40<size f\/100<A7 f then(s,[-5])else if 16<l.length then(s,[-6])else({s with atoms:=l,fs:=s.fs++[{f:=f,c:=fresh f}]},[(s.fs.length:Int)]):=rfl;rw[ea]at k';have rE:ah H H1:=fun b o h=>S1 _ _ (S0 _ _ h);by_cases hp:s.past=[];rw[if_neg (393 z hp)]at k';rw[12,(by rw[hp];decide)];refine(1025 X1.at_ (549 (S1 _ _ h2)));have nf:=ok.nf;(have ed:decide (V.int (v2.length:Int)=V.int 8)=decide (s.fs.length=8):=by rw[l2,h_,bg,bg];exact 651);rw[ed];by_cases TN:s.fs.length=8;rw[if_pos 23]at k';exact aS (cK TN) 395;rw[if_neg 23]at k';rw[12,(by rw[bg];exact TN)];refine{?_,fun ax dx H2 YA hx=>?_};have eO:=rE _ _ hl;rw[UW hb]at eO;obtain⟨Vi,Mf⟩:=IA (592 oM) [];rw[az]at Vi Mf;simp only[List.isEmpty_nil,jL]at Vi;refine{_,rfl,l,ns.map oM,rfl,eO,by rw[az];omega,fun H2 DW S2 f2 e2=>?_};refine{DW,tokens (592 oM) [],s.atoms,rfl,by rw[e2,gq];rfl,by omega,Jb _ _,fun t ht=>by have:=Mf t ht;simp at this;omega,?_};rw[<-BZ];have dL:ah H H2:=fun b o h=>S2 _ _ (rE _ _ h);(cases jD:sC s.atoms (ns.map oM)with|error e=>intro ax d H3 S3 h1 jh;refine{ax,d,rfl,rfl,by rw[Nr];exact⟨e,jD⟩,fun b o h=>S3 _ _ (dL _ _ h),?_};(have en:nW=(e:Int):=by rw[RK];unfold HI;rw[jD]);rw[jh,en]|ok y=>obtain⟨f,l1⟩:=y;rw[jD]at k';intro H3 pn S3 f3 tI;rw[14,(dL _ _ h)];have wU:H pn=none:=fM dL f3;(have k_:gf s.atoms f l1:=by rw[BZ]at jD;unfold tY at jD;cases sS:rd 0 40 s.atoms (tokens (ns.map oM) [])with|error e=>rw[sS]at jD;cases jD|ok z=>obtain⟨f',l',t'⟩:=z;rw[sS]at jD;cases t' with|nil=>cases jD;exact(nP _ _ _ _ _ _ _ sS).1|cons _ _=>cases jD);obtain⟨vn,hvn,pn3⟩:=id tI;(have ln:vn.length=size f:=by rw[bY pn3,dX]);have X3:=X.same b5;dsimp only at k';refine(1063 (549 hvn));rw[ln];by_cases h40:40<size f;rw[if_pos (.inl h40)]at k';exact aS 139 (aS rfl {_,rfl,by show 1<=sizeLine;decide,fun D H4 S4 f4 e4=>eV k' rfl H4 D (116 S4 (751 h)) e4});refine 572;(have sm:(70 l1).length<=1000:=by rw[dX];omega);refine{_,rfl,pn,_,rfl,tI,sm,fun H4 S4=>904};rw[Ai,im];have gM:ah H H4:=fun b o h=>S4 _ _ (751 h);by_cases ag7:100<A7 f;rw[if_pos (546 ag7)]at k';exact aS 139 {_,rfl,by show 1<=sizeLine;decide,fun D H5 S5 f5 e5=>eV k' rfl H5 D (116 S5 (gM _ _ h)) e5};rw[if_neg 23]at k';refine 572;have ZL:=tI.same S4;refine{_,rfl,_,pn,rfl,ZL,sm,fun H5 D5 tW S5 f5 e5 t5=>{D5,rfl,{_,aq.of e5},fun D6 f6=>?_}};have j':ah H H5:=fun b o h=>S5 _ _ (gM _ _ h);have X5:=X.same j';obtain⟨v3,h3,p3⟩:=X5.cs;have lc5:=bY t5;(have on:(dO (70 l1)).length<=40:=by have:=Qi (70 l1) [];rw[dX]at this;unfold dO;simp only[jl]at this;omega);refine NQ (xs:=tW) (fun _ x y=>y=x) (og H5 (s.atoms.map cA)) f6 134 (397 (S _ _ e5)) (by rw[lc5,sizeLine_eq];omega) (fun x Ha Q' hx Sa q'=>?_) (fun x Ha Q' hx My Sa q'=>?_) (fun H7 ys S7 e7 p7=>?_);obtain⟨c,hc,a,rfl,ha⟩:=nM t5 hx;rw[JJ ha]at q';refine{_,rfl,_,rfl,W.a,_,_,_,rfl,Sa _ _ X5.at_,rfl,a,c,W.pc,v3,_,rfl,rfl,Sa _ _ ha,Sa _ _ h3,p3.same Sa,_,rfl,?_};(have en:(!decide (c∈s.atoms.map cA))=decide (c∉s.atoms.map cA):=by by_cases hm:c∈s.atoms.map cA;rw[cK hm,gn (not_not_intro hm)];rfl;rw[gn hm,cK hm];rfl);show Q' (!decide (c∈s.atoms.map cA)) Ha;rw[en];exact q' Ha ah.refl rfl;exact{_,rfl,q' _ _ ah.refl rfl};have ey:=O8 p7;subst ey;have t7:=(TL (old:=s.atoms.map cA) t5).same S7;have l7:=bY t7;have rJ:ah H H7:=fun b o h=>S7 _ _ (j' _ _ h);have X7:=X.same rJ;have Hg:=S7 _ _ h3;have Sj:=p3.same S7;have l3:=bY Sj;rw[az]at l3;have add:=U_ k_;(have la:l1.length=s.atoms.length+(tW.filter (og H5 (s.atoms.map cA))).length:=by have:=eC pX add;rw[az,bw,az]at this;rw[this,l7]);have na:=ok.na;refine{_,rfl,W.a,_,_,_,rfl,X7.at_,rfl,_,_,rfl,.inl (549 Hg),_,rfl,_,_,rfl,.inl (549 e7),_,_,rfl,rfl,_,_,rfl,rfl,_,rfl,?_};by_cases HD:16<l1.length;rw[if_pos HD]at k';exact aS 139 {_,rfl,by show 1<=sizeLine;decide,fun D H8 S8 f8 e8=>eV k' rfl H8 D (116 S8 (rJ _ _ h)) e8};rw[if_neg HD]at k';refine 572;obtain⟨nv,Ef,T9⟩:=X7.fs;have uc:=bY T9;obtain⟨tN,h57,LO⟩:=X7.cells;have l57:=bY LO;obtain⟨af2,Xf,Yw⟩:=X7.aC;ext:31;(have nA:∀{b:Addr},b∈W.own->b≠W.a:=fun hb z=>by obtain⟨vs,e⟩:=X7.lists hb;rw[z,X7.at_]at e;cases e);(have iF:W.pf∈W.own:=by simp[Wa.own]);(have iC:W.pc∈W.own:=by simp[Wa.own]);(have iL:W.pl∈W.own:=by simp[Wa.own]);(have iT:W.pt∈W.own:=by simp[Wa.own]);refine{_,rfl,W.a,_,_,_,rfl,X7.at_,rfl,.inl (142 Hg),_,rfl,W.pc,D6,_,_,rfl,rfl,Hg,e7,by rw[l3,sizeLine_eq];omega,?_};have S8:cG W H (upd H7 W.pc 262):=(cG.of rJ).trans (.uk iC);(have u8:∀{b:Addr}{o:HO},b≠W.pc->H7 b=some o->upd H7 W.pc 262 b=some o:=fun hb h=>by rw[ay hb];exact h);have c8:upd H7 W.pc 262 W.pc=_:=aM;have a8:=u8 (cJ (nA iC)) X7.at_;have FJ:=u8 Bt Ef;have QZ:=u8 (cJ FT) h57;have Uy:=u8 (cJ DO) Xf;have Nz:=u8 (cJ F0) X7.truths;have pA:cG W H7 (upd H7 W.pc 262):=.uk iC;(have yp:pn∉W.own:=fun z=>by obtain⟨vs,e⟩:=X.lists z;rw[wU]at e;cases e);have hn8:=X7.nodes pA yp 1026;ext:0;generalize upd H7 W.pc (.lst (v3++tW.filter (og H5 (s.atoms.map cA))))=H8 at S8 u8 c8 a8 FJ QZ Uy Nz pA hn8;refine{_,rfl,W.a,_,_,_,rfl,a8,rfl,.inl (142 FJ),_,rfl,W.pf,_,_,rfl,rfl,FJ,by rw[uc,sizeLine_eq];omega,?_};(have u9:∀{b:Addr}{o:HO},b≠W.pf->H8 b=some o->upd H8 W.pf 531 b=some o:=fun hb h=>by rw[ay hb];exact h);have S9:cG W H (upd H8 W.pf 531):=S8.trans (.uk iF);have f9:upd H8 W.pf 531 W.pf=_:=aM;have a9:=u9 (cJ (nA iF)) a8;have c9:=u9 (cJ Bt) c8;have IJ:=u9 (cJ Iy) QZ;have zY:=u9 (cJ vQ) Uy;have Qn:=u9 (cJ Gj) Nz;have vj:∀{b:Addr}{o:HO},b∉W.own->b≠W.a->H7 b=some o->upd H8 W.pf 531 b=some o:=fun hb gA h=>u9 (393 hb (z▸iF)) (u8 (393 hb (z▸iC)) h);have FU:dU T.aJ (upd H8 W.pf 531) pn (70 l1):=X7.nodes (pA.trans (.uk iF)) yp 1026;ext:0;generalize upd H8 W.pf (.lst (nv++[.ref pn]))=H9 at u9 S9 f9 a9 c9 IJ zY Qn FU vj;(have wd:∀nd∈flat l1 f 0 0,nd.op.width<=1000:=fun nd cV=>by have h1:=(mL l1 f 0 0 nd cV).2;omega);refine{_,rfl,W.a,_,_,_,rfl,a9,rfl,.inl (142 IJ),_,rfl,_,pn,rfl,FU,sm,wd,fun eI lH fZ ZS lJ=>?_};rw[HF]at lJ;have Cf:=fZ _ _ IJ;refine{W.pl,_,_,rfl,rfl,Cf,by rw[l57,sizeLine_eq];omega,?_};(have kG:∀{b:Addr}{o:HO},b≠W.pl->eI b=some o->upd eI W.pl 532 b=some o:=fun hb h=>by rw[ay hb];exact h);have qK:cG W H (upd eI W.pl 532):=(S9.trans (.of fZ)).trans (.uk iL);have QF:upd eI W.pl 532 W.pl=_:=aM;have GP:=kG (cJ (nA iL)) (fZ _ _ a9);have RX:=kG FT (fZ _ _ c9);have B8:=kG Iy (fZ _ _ f9);have L6:=kG Gz (fZ _ _ zY);have x9:=kG (cJ FY) (fZ _ _ Qn);(have wn:fC (upd eI W.pl 532) lH ((70 l1).map (own 0 926)):=by(have nt:∀{b:Addr}{xs:List V},eI b=some 193->b≠W.pl:=fun h z=>by rw[z,Cf]at h;ext:91);obtain⟨vs,hv,hU⟩:=lJ;exact{vs,kG (nt hv) hv,bR (344 {b,e1,kG (nt e2) e2}) hU});have ZD:pn≠W.pl:=fun z=>yp (z▸iL);(have Sy:dU T.aJ (upd eI W.pl 532) pn (70 l1):=by(have nt:∀{b:Addr}{xs:List V},eI b=some 193->b≠W.pl:=fun h z=>by rw[z,Cf]at h;ext:91);obtain⟨vs,hv,hU⟩:=FU.same fZ;refine{vs,kG ZD hv,bR (fun _ _ ⟨a,d,p1,p2,e,N⟩=>{a,d,p1,p2,e,kG 164 N.at_,kG (nt N.nums) N.nums,kG (nt N.parts) N.parts,N.wf}) hU};have h:=N.at_;rw[z,Cf]at h;ext:91);ext:0;generalize upd eI W.pl (.lst (tN++[.ref lH]))=jP at kG qK QF GP RX B8 L6 x9 wn Sy;refine{_,rfl,W.a,_,_,_,rfl,GP,rfl,.inl (142 x9),W.pt,_,_,rfl,rfl,x9,by rw[az,sizeLine_eq];omega,?_};(have km:∀{b:Addr}{o:HO},b≠W.pt->jP b=some o->upd jP W.pt 166 b=some o:=fun hb h=>by rw[ay hb];exact h);have vv:cG W jP 841:=.uk iT;have Tp:upd jP W.pt 166 W.pt=_:=aM;have J0:=km (cJ (nA iT)) GP;have Sw:=km F0 RX;have Av:=km Gj B8;have QN:=km FY QF;have PH:=km OB L6;(have Dg:∀{b:Addr}{xs:List V},jP b=some 193->b≠W.pt:=fun h z=>by rw[z,x9]at h;ext:91);(have Es:fC 841 lH ((70 l1).map (own 0 926)):=by obtain⟨vs,hv,hU⟩:=wn;exact{vs,km (Dg hv) hv,bR (344 {b,e1,km (Dg e2) e2}) hU});(have Vc:dU T.aJ 841 pn (70 l1):=by obtain⟨vs,hv,hU⟩:=Sy;refine{vs,km (393 yp (z▸iT)) hv,bR (fun _ _ ⟨a,d,p1,p2,e,N⟩=>{a,d,p1,p2,e,km 164 N.at_,km (Dg N.nums) N.nums,km (Dg N.parts) N.parts,N.wf}) hU};have h:=N.at_;rw[z,x9]at h;ext:91);have Py:cG W H7 841:=fun b o h1 h2 h=>km (393 h2 (z▸iT)) (kG (393 h2 (z▸iL)) (fZ _ _ (vj h2 h1 h)));ext:0;generalize upd jP W.pt (.lst ((s.fs.map fun x=>bV x.v)++[.int 0]))=zN at km vv Tp J0 Sw Av QN PH Es Vc Py;refine{_,rfl,W.a,_,_,_,rfl,J0,rfl,_,_,rfl,.inl (549 Av),_,_,rfl,rfl,by show 1<=sizeLine;decide,fun D mj gh f13 Ac=>?_};have wH:cG W H7 mj:=Py.trans (.of gh);have abS:cG W H mj:=(cG.of rJ).trans wH;have N7:jX W W H7:={rfl,fun b fe=>.inl fe};obtain⟨ex,mn⟩:=k_.ext;(have Lb:∀x∈s.fs,flat l1 x.f 0 0=flat s.atoms x.f 0 0:=fun x hx=>by rw[mn];exact jy ex (ok.jv x hx).bW);refine k' mj W D zK abS {gh _ _ J0,{nv++[.ref pn],gh _ _ Av,?_},{_,gh _ _ Sw,?_},{af2,gh _ _ PH,?_},{tN++[.ref lH],gh _ _ QN,?_},?_,X.nd} ?_;refine kE (Hw (fun v x hx h=>?_) T9) {pn,rfl,yp,Vc.same gh};obtain⟨q,e,n,i⟩:=X7.FW wH N7 h;exact{q,e,n,by rw[Lb x hx];exact i};rw[show({s with atoms:=l1,fs:=s.fs++[{f:=f,c:=fresh f}]}:fm).atoms=l1 from rfl,add];exact Ir (X7.i7 wH Sj) (X7.i7 wH t7);exact bR (fun v x h=>X7.FA wH N7 h) Yw;refine kE (Hw (fun v x hx h=>?_) LO) {lH,rfl,Es.same gh};obtain⟨q,e,i⟩:=X7.aa1 wH h;exact{q,e,by rw[Lb x hx];exact i};rw[gh _ _ Tp];show _=some (HO.lst ((s.fs++[({f:=f,c:=fresh f}:dw)]).map fun(x:dw)=>bV x.v));rw[bH];rfl;rw[Ac,bw,uc];show some (HO.lst [V.int (((s.fs.length+1:Nat):Int)-1)])=some (HO.lst [V.int (s.fs.length:Int)]);rw[show((s.fs.length+1:Nat):Int)-1=(s.fs.length:Int) by omega]);obtain⟨U3,Sx,ex⟩:=hx;rw[Nr]at U3;obtain⟨e,jD⟩:=U3;rw[jD]at k';(have en:nW=(e:Int):=by rw[RK];unfold HI;rw[jD]);refine{_,rfl,ax,dx,nW,rfl,YA,ex,_,_,rfl,rfl,by show 1<=sizeLine;decide,fun D H3 S3 f3 e3=>eV k' rfl H3 D (116 S3 (Sx _ _ h)) ?_};rw[e3,en];rw[if_pos hp]at k';refine aS (by cases hq:s.past.reverse with|nil=>exact 89 (Wy.mp hq) hp|cons _ _=>rfl) 395
 rw[gn NH,AA,if_pos rfl]at k';exact aS 139 (aS rfl {by show 1<=sizeLine;decide,fun D H1 S1 f1 e1=>eV k' rfl H1 D S1 e1})
end
end PC
namespace PC
open Vbavaf (F Atom Watcher size fresh watch nowOf)
theorem PM:∀(xs l:List Atom)(a:Atom),a∈xs.foldl nG l->a∈l\/a∈xs
 |[],_,_,h=>.inl h
 |x::t,l,a,h=>by rcases PM t (nG l x) a h with q|q;unfold nG Vbavaf.place at q;dsimp only at q;split at q;rw[17,q];rcases bP.mp q with q|q;rw[17,q];(have:a=x:=by simpa using q);rw[this];exact .inr cY;exact 546 (cZ _ q)
theorem Xc{l:34}(h:l.Nodup):(l.map cA).Nodup:=by refine List.Pairwise.map cA (fun a b kq e=>kq (IP e)) h
theorem aam{l:34}(h:(l.map cA).Nodup):l.Nodup:=by refine List.Pairwise.of_map cA (fun a b kq e=>kq (by rw[e])) h
theorem afF{l l1:34}{f:F}(h:gf l f l1)(hn:l.Nodup):l1.Nodup:=by refine aam ?_;rw[U_ h,Wp];refine{Xc hn,?_,fun a ha b hb e=>?_};refine ajV _ ?_;unfold dO;rw[Eo l1 f 0 0 [] h.bW];exact G2 _ _ sD;have:=(pT.mp hb).2;rw[bg]at this;exact this (e▸ha)
theorem acH{l l1:34}{f:F}{b:71}(h:sC l b=.ok (f,l1)):gf l f l1:=by rw[BZ]at h;unfold tY at h;cases sS:rd 0 40 l (Vbavaf.tokens b [])with|error e=>rw[sS]at h;cases h|ok z=>obtain⟨f',l',t'⟩:=z;rw[sS]at h;cases t' with|nil=>cases h;exact(nP _ _ _ _ _ _ _ sS).1|cons _ _=>cases h
theorem vi.ext{l:34}{x:dw}(h:vi l x)(e:34):vi (l++e) x:={h.bW.ext e,h.wf,h.size,h.cells,h.len,h.prev}
section
variable(s:fm)
theorem Tk(f i:Int):(cz s 811).1=s:=by simp only[cz];split;rfl;split<;>rfl
theorem UP(f:Int):(cz s (.cells f)).1=s:=by simp only[cz];split<;>rfl
theorem Vk(f:Int):(cz s (.facts f)).1=s:=by simp only[cz];split<;>rfl
theorem U5(f:Int):(cz s (.form f)).1=s:=by simp only[cz];split<;>rfl
theorem LA(i:Int):(cz s (.atom i)).1=s:=by simp only[cz];split<;>rfl
theorem QE(i:Int):(cz s (.reading i)).1=s:=by simp only[cz];split<;>rfl
theorem R5(f g k:Int):(cz s (.alike f g k)).1=s:=by simp only[cz];split;split<;>rfl;rfl
theorem Uw(f k:Int):(cz s (.ever f k)).1=s:=by simp only[cz];split;rfl;split<;>rfl
end
theorem P5{s:fm}(h:mR s)(c:xR):mR (gF s c).1:=by
 unfold gF;by_cases hr:fz c=false;rw[if_pos hr];exact h;rw[if_neg hr]
 cases c with|define b=>(show mR (if s.past≠[]then(s,[-3])else if 8<=s.fs.length then(s,[-4])else match sC s.atoms (b.map oM)with|.error w=>(s,[-1000-(w:Int)])|.ok (f,l)=>if 40<size f\/100<A7 f then(s,[-5])else if 16<l.length then(s,[-6])else({s with atoms:=l,fs:=s.fs++[{f:=f,c:=fresh f}]},[(s.fs.length:Int)]):fm×List Int).1;ext:183;ext:183;rename_i h8;cases jD:sC s.atoms (b.map oM)with|error e=>exact h|ok y=>obtain⟨f,l1⟩:=y;ext:0;ext:183;rename_i hsz;ext:183;rename_i HD;have k_:=acH jD;obtain⟨ex,mn⟩:=k_.ext;refine{?_,by show l1.length<=16;omega,afF k_ h.nd,fun a ha=>?_,fun x hx=>?_,h.np,h.rows};show(s.fs++[_]).length<=8;rw[bw];show _+1<=8;omega;have tG:a∈l1:=ha;rw[k_.fold]at tG;rcases PM _ _ _ tG with q|q;exact h.aw a q;exact k_.aw a q;have eR:x∈s.fs++[{f:=f,c:=fresh f}]:=hx;rcases bP.mp eR with q|q;show vi l1 x;rw[mn];exact(h.jv x q).ext ex;(have e:x={f:=f,c:=fresh f}:=by simpa using q);rw[e];exact{k_.bW,k_.wf,by show size f<=40;omega,by show A7 f<=100;omega,CL f,DP f})|step x=>(show mR (if 200<=s.past.length then(s,[-3])else({s with fs:=s.fs.map fun w=>{w with c:=(551 w.f).2.1,v:=(551 w.f).1},past:=x::s.past},iA ((s.fs.map fun w=>{w with c:=(551 w.f).2.1,v:=(551 w.f).1}).map fun w=>sE w.v)):fm×List Int).1;ext:183;rename_i Ip;refine{by show(s.fs.map _).length<=8;rw[az];exact h.nf,h.na,h.nd,h.aw,fun y hy=>?_,by show(x::s.past).length<=200;rw[aR];omega,fun xs nX=>?_};obtain⟨w,hw,rfl⟩:=dJ.mp hy;have fo:=h.jv w hw;exact{fo.bW,fo.wf,fo.size,fo.cells,(vN w.f _ w.c (by rw[fo.len];exact aV _)).1,Jv w.f _ w.c (by rw[fo.len];exact aV _)};rcases bE.mp nX with q|q;have f_:(x.length==8&&x.all fun v=>xS v (-sw) sw)≠false:=hr;rw[q];by_cases h8:x.length=8;exact h8;exact 89 (by rw[rN.mpr h8];rfl) f_;exact h.rows xs q)|again=>refine{by show(s.fs.map _).length<=8;rw[az];exact h.nf,h.na,h.nd,h.aw,fun y hy=>?_,bA _,fun xs nX=>nomatch nX};obtain⟨w,hw,rfl⟩:=dJ.mp hy;have fo:=h.jv w hw;exact{fo.bW,fo.wf,fo.size,fo.cells,CL w.f,DP w.f}|now=>exact h|meaning f i=>rw[Tk];exact h|cells f=>rw[UP];exact h|facts f=>rw[Vk];exact h|form f=>rw[U5];exact h|atom i=>rw[LA];exact h|alike f g k=>rw[R5];exact h|ever f k=>rw[Uw];exact h|reading i=>rw[QE];exact h
theorem pC{s:fm}{c:xR}(h:(cz s c).1=s):(gF s c).1=s:=by unfold gF;split;rfl;exact h
theorem acW:mR Fa:={by decide,by decide,sD,(fun a h=>nomatch h),(fun x h=>nomatch h),by decide,(fun x h=>nomatch h)}
end PC
namespace PC
open PySem PySem.Spec PyProof.Rows L2 XW
open PySem.W (Frag)
variable{P:aT}{w:aI}{K:Frag}{mg:Str->Option Value}{base:Heap}
section
open Vbavaf (F Atom Watcher products samples)
def longer(rows:147)(ns:33):List 33:=rows.flatMap fun r=>ns.map fun n=>r++[n]
theorem Lk:∀(ls:List 33)(rows:List 33),ls.foldl longer rows=rows.flatMap fun r=>(products ls).map fun t=>r++t
 |[],rows=>by show rows=rows.flatMap fun r=>[r++[]];simp
 |l::ls,rows=>by show ls.foldl longer (longer rows l)=_;rw[Lk ls];show(rows.flatMap fun r=>l.map fun n=>r++[n]).flatMap _=rows.flatMap fun r=>(l.flatMap fun n=>(products ls).map fun t=>n::t).map fun t=>r++t;rw[List.flatMap_assoc];congr 1;funext r;rw[List.flatMap_map,List.map_flatMap];congr 1;funext n;rw[gq];rw[16,t];show r++[n]++t=r++(n::t);simp
theorem aaC(ls:147):ls.foldl longer [[]]=products ls:=by rw[Lk];simp
def afq:Sp:=fun vs H Q _=>∃n:Int,vs=[.int n]/\Q (.bl 936) H
theorem agg:bf ["number"] ["number"] (a_ RZ):=17
theorem PR(T:65):aE P w K mg base bj 1 T.x4.a T.x4.fd ["number"] afq:=by refine T.x4.F.ok agg 28 19;ext:90;refine(421 (au (aF (zM j8 j8 ap 56 (cF T.adj)))));refine 341;cases hd:decide (1<=n)with|true=>rw[hd]at k;exact 874|false=>rw[hd]at k;exact aU df k
def Cr(want:450):Sp:=fun vs H Q _=>∃a b:Bool,vs=[bV a,bV b]/\Q (.bl (want a b)) H
theorem aaM:bf ["truth","other"] ["truth","other"] (a_ LG):=17
theorem adu(T:65):aE P w K mg base bj 1 T.qQ.a T.qQ.fd ["truth","other"] (Cr fun a b=>a !=b):=by
 refine T.qQ.F.ok aaM 28 19;obtain⟨a,b,rfl,_⟩:=h;rfl;obtain⟨a,b,rfl,k⟩:=h;refine(421 (au (aF (jF uB 56 179 (bi _)))));refine{_,rfl,_,rfl,rfl,?_};have e:(!decide (bV a=bV b))=(a !=b):=by cases a<;>cases b<;>decide
 rw[e];exact k
theorem aa0:bf ["truth","other"] ["truth","other"] (a_ Td):=17
theorem aeK(T:65):aE P w K mg base bj 1 T.qx.a T.qx.fd ["truth","other"] (Cr fun a _=>a):=by refine T.qx.F.ok aa0 28 19;obtain⟨a,b,rfl,_⟩:=h;rfl;obtain⟨a,b,rfl,k⟩:=h;refine(421 (au (aF (jF cD 56 ap (bi _)))));refine{_,rfl,rfl,?_};rw[acZ];exact k
def aej:Sp:=fun vs H Q _=>∃(l ln:Addr)(rows:List 33)(ns:List Int),vs=[.ref l,.ref ln]/\j7 H l rows/\H ln=some 971/\rows.length*ns.length<=10000/\(∀r∈rows,r.length<=8)/\
 ∀H' D,ah H H'->H D=none->j7 H' D (longer rows ns)->Q 118 H'
theorem DE:bf ["rows","numbers","longer","row","number"] ["rows","numbers"] (a_ Nt):=17
theorem X_(T:65):aE P w K mg base bj 1 T.DB.a T.DB.fd ["rows","numbers"] aej:=by
 refine T.DB.F.ok DE 28 19;obtain⟨l,ln,rows,ns,rfl,_⟩:=h;rfl;obtain⟨l,ln,rows,ns,rfl,⟨vs,hl,pr⟩,hn,sz,r8,k⟩:=h;refine(421 (aj (90 DE.nd 505) (846 (419 (io 56) (351 DE.nd) (au (419 (io 179) (352 DE.nd) (au (cr (122 88 (38 (bQ jS 174 (bp 284))))))))))));have lr:=bY pr;refine 180;refine 176;have up:∀{H2:Hp}{o:HO},ah H H2->ah H (upd H2 D o):=fun S b u h=>by rw[ay (bF h f1)];exact S _ _ h
 have ll:∀i,i<=rows.length->(longer (rows.take i) ns).length=i*ns.length:=fun i hi=>by(have:∀rs:List (List Int),(longer rs ns).length=rs.length*ns.length:=by intro rs;induction rs with|nil=>show 0=0*_;omega|cons r t ih=>show(ns.map _++longer t ns).length=_;rw[bw,az,ih,aR,Nat.add_mul];omega);rw[this,bU,A1 hi]
 refine pE (K:=_) (a:=l) (xs:=vs) (fun i σ H2=>ah H H2/\(∃ps,H2 D=some 810/\Paired (fun v xs=>∃q,v=.ref q/\q≠D/\H2 q=some (80 211)) ps (longer (rows.take i) ns))/\∃a b,σ=[some 283,some (.ref ln),some 118,a,b]) {S1,{[],e1,.nil},none,none,rfl} 244 323 366;obtain⟨S2,⟨ps,d2,p2⟩,a0,b0,rfl⟩:=p;obtain⟨row,ms,q,rfl,hq⟩:=gg pr hi;have i4:i<rows.length:=(930 ms).1;have hr8:=r8 row (ej ms);refine{_,rfl,ln,rfl,{_,aq.of (547 hn)},?_};refine pE (K:=_) (a:=ln) (xs:=ns.map V.int) (fun j σ H3=>ah H H3/\(∃ps,H3 D=some 810/\Paired (fun v xs=>∃q,v=.ref q/\q≠D/\H3 q=some (80 211)) ps (longer (rows.take i) ns++(ns.take j).map fun n=>row++[n]))/\∃b,σ=[some 283,some (.ref ln),some 118,some (.ref q),b]) {S2,{ps,d2,by rw[List.take_zero,lY,fN];exact p2},_,rfl} (fun j σ H3 _ p=>aq.of (p.1 _ _ hn)) (fun j x σ H3 hj p=>?_) (fun σ H3 p=>?_);obtain⟨S3,⟨Mt,d3,p3⟩,b3,rfl⟩:=p;rw[d_]at hj;obtain⟨n,Ub,rfl⟩:=lZ.mp hj;have Ib:j<ns.length:=(930 Ub).1;refine{_,rfl,.inl (142 d3),_,rfl,_,rfl,by show 1<=sizeLine;decide,fun D4 H4 S4 f4 e4=>?_}
 refine{q,D4,_,_,rfl,rfl,S4 _ _ (632 hq),e4,by rw[az,sizeLine_eq];show _+1<=_;omega,fun D5 H5 S5 f5 e5=>?_};have d5:=S5 _ _ (S4 _ _ d3);have n5:D5≠D:=fun z=>by rw[z,S4 _ _ d3]at f5;cases f5
 have lp:=bY p3;rw[bw,ll i 23,az,bU]at lp;refine{D,_,_,rfl,rfl,d5,?_,up (116 S5 (S4 _ _ (632 h))),{_,aM,?_},_,rfl};rw[lp,sizeLine_eq];have h1:i*ns.length<=rows.length*ns.length:=ajX _ 23;have h2:min j ns.length<=ns.length:=Ka _ _;have h3:ns.length<=rows.length*ns.length:=by have:1*ns.length<=rows.length*ns.length:=ajX _ 23;omega
 omega;rw[gx Ub,bH,<-gp];refine kE (bR (fun v xs ⟨qq,e,nn,h⟩=>{qq,e,nn,by rw[ay nn];exact S5 _ _ (S4 _ _ h)}) p3) {D5,rfl,n5,?_};rw[ay n5,e5,bH];rfl;obtain⟨S3,⟨Mt,d3,p3⟩,b3,rfl⟩:=p;rw[az,gW]at p3;refine{S3,{Mt,d3,?_},_,_,rfl};rw[gx ms];unfold longer at p3⊢;rw[Wu];simpa using p3;obtain⟨S2,⟨ps,d2,p2⟩,a0,b0,rfl⟩:=p;rw[lr,gW]at p2;exact{_,rfl,k H2 D S2 f1 {ps,d2,bR (fun v xs ⟨qq,e,nn,h⟩=>⟨qq,e,h⟩) p2}}
end
section
open Vbavaf (F Atom Watcher products samples)
def BB(cs:147)(n:Nat):List 33:=(bu n).map fun(x:Nat)=>samples (rise (508 x))
theorem acb(ys:33):1<=(samples ys).length:=by unfold sy;cases ys with|nil=>decide|cons c r=>simp;omega
theorem acE(rows:147)(ns:33):(longer rows ns).length=rows.length*ns.length:=by induction rows with|nil=>show 0=0*_;omega|cons r t ih=>show(ns.map _++longer t ns).length=_;rw[bw,az,ih,aR,Nat.add_mul];omega
def nj(cs:147)(n:Nat):List 33:=(BB cs n).foldl longer [[]]
theorem JN(cs:147)(n:Nat):nj cs (n+1)=longer (nj cs n) (samples (rise (508 n))):=by unfold nj BB;rw[xN,bH,m4];rfl
theorem Hu(cs:147):∀n,(nj cs n).length=lcs cs n
 |0=>rfl
 |n+1=>by rw[JN,acE,Hu cs n,CD]
theorem Jj(cs:147):∀n,∀r∈nj cs n,r.length=n
 |0,r,h=>by(have:r=[]:=by simpa[nj,BB]using h);rw[this];rfl
 |n+1,r,h=>by rw[JN]at h;obtain⟨t,ht,q⟩:=List.mem_flatMap.mp h;obtain⟨z,_,rfl⟩:=dJ.mp q;rw[bw,Jj cs n t ht];rfl
theorem Tv(cs:147):∀k n,lcs cs n<=lcs cs (n+k)
 |0,n=>aV _
 |k+1,n=>by refine dG (Tv cs k n) ?_;rw[<-eE,CD];exact Nat.le_mul_of_pos_right _ (acb _)
theorem aby{l:34}{used:709}{cs:147}(h:qP l used cs):nj cs 8=WG l used:=by unfold nj WG;rw[aaC];unfold BB;congr 1;rw[16,x];rw[UV h x]
def ahD:Sp:=fun vs H Q _=>∃(l:Addr)(ps:List V)(cs:List 33),vs=[.ref l]/\H l=some 810/\gB H ps cs/\(∀c∈cs,c.length=3)/\cs.length<64/\lcs cs 8<=27/\∀H' D,ah H H'->H D=none->j7 H' D (nj cs 8)->Q 118 H'
theorem Bq:bf ["comparisons","rows","reading"] ["comparisons"] (a_ Q0):=17
theorem af7(T:65):aE P w K mg base bj 2 T.CH.a T.CH.fd ["comparisons"] ahD:=by
 refine T.CH.F.ok Bq 28 19;obtain⟨l,ps,cs,rfl,_⟩:=h;rfl;obtain⟨l,ps,cs,rfl,hl,tp,c3,Bd,uc,k⟩:=h;refine(421 (aj (184 Bq.nd (bp (38 505))) (aj (419 (z6 rfl T.yo (38 (cF T.JO))) (264 Bq.nd) (au (184 Bq.nd (442 T.DB (X_ T) (845 1006))))) 892)));refine{bA _,fun D0 H0 S0 f0 e0=>357};have rE:ah H H1:=fun b o h=>S1 _ _ (S0 _ _ h);refine{8,rfl,by decide,by decide,?_};refine GQ (n:=8) (fun i σ H2=>ah H H2/\∃D x,H D=none/\j7 H2 D (nj cs i)/\σ=[some 283,some 118,x]) {rE,D1,none,fM S0 f1,{_,e1,.cons {D0,rfl,S1 _ _ e0} .nil},rfl} (fun i σ H2 hi p=>?_) 366;obtain⟨S2,D,x,fD,hD,rfl⟩:=p;refine{_,rfl,_,rfl,_,rfl,(i:Int),l,ps,cs,by simp,S2 _ _ hl,tp.same S2,c3,Bd,fun H3 D3 ys S3 f3 py my e3=>?_}
 have ey:ys=rise (508 i):=C5 py (yQ _) fun z=>by rw[my,Ae]
 subst ey;have lm:lcs cs (i+1)<=27:=dG (by have:=Tv cs (8-(i+1)) (i+1);rwa[show i+1+(8-(i+1))=8 by omega]at this) uc;refine{D,D3,_,_,rfl,hD.same S3,e3,?_,fun r f_=>by rw[Jj cs i r f_];omega,fun H4 D4 S4 f4 e4=>?_};rw[Hu,<-CD];omega;have nZ:ah H H3:=fun b o h=>S3 _ _ (547 h);rw[<-JN]at e4;exact{fun b o h=>S4 _ _ (nZ _ _ h),D4,_,fM nZ f4,e4,rfl};obtain⟨S2,D,x,fD,hD,rfl⟩:=p;exact{_,rfl,k H2 D S2 fD hD}
end
section
open Vbavaf (F Atom Watcher)
theorem U':∀(ws:List 33),(∀r∈ws,r.length=8)->(ws.flatMap fun r=>r).length=8*ws.length
 |[],_=>rfl
 |r::t,h=>by show(r++t.flatMap fun r=>r).length=_;rw[bw,h r cY,U' t fun x hx=>h x (cZ _ hx),aR];omega
def ZO:Sp:=fun vs H Q _=>∃(l:Addr)(way:List 33),vs=[.ref l]/\j7 H l way/\way.length<=10000/\(∀r∈way,r.length=8)/\∀H' D,ah H H'->H D=none->H' D=some (80 ((0::(way.length:Int)::way.flatMap fun r=>r).map V.int))->Q 118 H'
theorem JS:bf ["way","told","letter"] ["way"] (a_ NY):=17
theorem Yt(T:65):aE P w K mg base bj 1 T.Cb.a T.Cb.fd ["way"] ZO:=by
 refine T.Cb.F.ok JS 28 19;obtain⟨l,way,rfl,_⟩:=h;rfl;obtain⟨l,way,rfl,⟨vs,hl,pw⟩,sz,r8,k⟩:=h;refine(421 (aj (184 JS.nd (bp (aa ap (38 (68 734))))) (aj (419 (io 56) (264 JS.nd) (au (cr (dQ eD WE WF HJ 179 336)))) 892)));have lw:=bY pw;refine{_,rfl,_,_,rfl,.inl (549 hl),by show 2<=sizeLine;decide,fun D H1 S1 f1 e1=>?_};refine 176;refine pE (K:=_) (a:=l) (xs:=vs) (fun i σ H2=>ah H H2/\H2 D=some (80 ((0::(way.length:Int)::(way.take i).flatMap fun r=>r).map V.int))/\∃x,σ=[some 283,some 118,x]) {S1,by rw[e1,lw];rfl,none,rfl} 244 323 366;obtain⟨S2,d2,x0,rfl⟩:=p;obtain⟨row,ms,q,rfl,hq⟩:=gg pw hi;have i4:i<way.length:=(930 ms).1;have h8:=r8 row (ej ms)
 have fl:=U' (way.take i) fun r f_=>r8 r (ajW f_);rw[bU]at fl;refine{_,rfl,.inl (142 d2),_,rfl,D,q,_,_,rfl,rfl,d2,S2 _ _ hq,?_,fun b o h=>?_,?_,_,rfl};rw[az,az,aR,aR,fl,h8,sizeLine_eq];omega;rw[ay (bF h f1)];exact S2 _ _ h;rw[aM,gx ms,Wu,<-bH];congr 3;simp;obtain⟨S2,d2,x0,rfl⟩:=p;rw[lw,gW]at d2;exact{_,rfl,k H2 D S2 f1 d2}
def Zz(C CN:Addr):Sp:=fun vs H Q _=>∃(x dx:Addr),vs=[.ref x]/\H x=some 809/\
 ∀(W:Wa) H',W.a=x->(∀b∈W.own,H b=none)->(∀b o,b≠x->H b=some o->H' b=some o)->cT C CN H' W Fa->Q .bo H'
theorem acT:bf ["self"] ["self"] (a_ L3):=17
theorem ZE(T:65):aE P w K mg base bj 1 T.xZ.a T.xZ.fd ["self"] (Zz T.bx T.aJ):=by
 refine T.xZ.F.ok acT 28 19;obtain⟨x,dx,rfl,_⟩:=h;rfl;obtain⟨x,dx,rfl,hx,k⟩:=h;refine(421 (aj (729 T.ge) (aj (729 T.v8) (aj (729 T.oz) (aj (729 T.u7) (au (729 T.v0)))))));have zu:∀{Ha:Hp}{fs:List (Str×V)}{D:Addr}{Hb:Hp}{o:HO},Ha x=some (.ins T.bx dx fs)->ah Ha Hb->Ha D=none->Hb D=some (.lst [])->D≠x/\upd Hb x o D=some (.lst []):=fun{Ha fs D Hb o} h S f e=>by(have n:D≠x:=fun z=>by rw[z,h]at f;cases f);exact{n,by rw[ay n];exact e}
 refine{bA _,fun D1 H1 S1 f1 e1=>{_,rfl,x,dx,_,rfl,S1 _ _ hx,by decide,?_}};obtain⟨n1,d1⟩:=zu (o:=.ins T.bx dx [("formulas",.ref D1)]) hx S1 f1 e1;refine{bA _,fun D2 H2 S2 f2 e2=>(641 S2 690)};obtain⟨n2,d2⟩:=zu (o:=.ins T.bx dx [("formulas",.ref D1),("comparisons",.ref D2)]) aM S2 f2 e2;refine{bA _,fun D3 H3 S3 f3 e3=>(641 S3 691)};obtain⟨n3,d3⟩:=zu (o:=.ins T.bx dx [("formulas",.ref D1),("comparisons",.ref D2),("history",.ref D3)]) aM S3 f3 e3;refine{bA _,fun D4 H4 S4 f4 e4=>(641 S4 692)};obtain⟨n4,d4⟩:=zu (o:=.ins T.bx dx [("formulas",.ref D1),("comparisons",.ref D2),("history",.ref D3),("cells",.ref D4)]) aM S4 f4 e4;refine{bA _,fun D5 H5 S5 f5 e5=>(641 S5 485)};obtain⟨n5,d5⟩:=zu (o:=.ins T.bx dx 392) aM S5 f5 e5;have back:∀{Ha Hb:Hp}{o:HO}{b:Addr},ah Ha Hb->upd Hb x o b=none->Ha b=none:=fun{Ha Hb o b} S z=>by(have hb:b≠x:=fun q=>by rw[q,aM]at z;cases z);rw[ay hb]at z;exact fM S z
 have g2:H D2=none:=back S1 f2;have g3:H D3=none:=back S1 (back S2 f3);have g4:H D4=none:=back S1 (back S2 (back S3 f4));have g5:H D5=none:=back S1 (back S2 (back S3 (back S4 f5)));have go:∀{Ha Hb:Hp}{o:HO}{b:Addr}{u:HO},b≠x->ah Ha Hb->Ha b=some u->upd Hb x o b=some u:=fun n S h=>by rw[ay n];exact S _ _ h
 have l1:=go (o:=.ins T.bx dx 392) n1 S5 (go n1 S4 822);have l2:=go (o:=.ins T.bx dx 392) n2 S5 (go n2 S4 (go n2 S3 d2));have l3:=go (o:=.ins T.bx dx 392) n3 S5 (go n3 S4 d3);have l4:=go (o:=.ins T.bx dx 392) n4 S5 d4;have ne:∀{Ha:Hp}{b D:Addr}{u:HO},Ha b=some u->Ha D=none->b≠D:=fun h f z=>by rw[z,f]at h;ext:91
 refine k ⟨x,dx,D1,D2,D3,D4,D5⟩ _ rfl (fun b hb=>?_) (fun b o hb h=>?_) {aM,{[],l1,.nil},{[],l2,.nil},{[],l3,.nil},{[],l4,.nil},d5,?_};simp only[Wa.own,bE,ic,or_false]at hb;rcases hb with z|z|z|z|z<;>rw[z];exact f1;exact g2;exact g3;exact g4;exact g5;exact go hb S5 (go hb S4 (go hb S3 (go hb S2 (go hb S1 h))));have m12:D1≠D2:=ne d1 f2;have YD:D1≠D3:=ne (go n1 S2 d1) f3;have m14:D1≠D4:=ne 822 f4;have m15:D1≠D5:=ne (go n1 S4 822) f5;have m23:D2≠D3:=ne d2 f3;have m24:D2≠D4:=ne (go n2 S3 d2) f4;have m25:D2≠D5:=ne (go n2 S4 (go n2 S3 d2)) f5;have Xi:D3≠D4:=ne d3 f4;have m35:D3≠D5:=ne (go n3 S4 d3) f5;have m45:D4≠D5:=ne d4 f5;ext:39;exact{⟨m12,YD,m14,m15⟩,⟨m23,m24,m25⟩,⟨Xi,m35⟩,m45}
end
end PC
namespace SS
open PySem PyProof.Rows
structure HK(prog:aT)(w:aI)(K:Type) [DecidableEq K]where
 is:Heap->K->Addr->Prop
 hash:K->Int
 draws:K->Nat
 lvl:Nat
 inj:∀{h:Heap}{a:Addr}{x y:K},is h x a->is h y a->x=y
 keeps:∀{h h':Heap}{k:K}{a d:Addr}{o:Obj} {es ep},is h k a->h.get? d=some o->o.data=.dict es ep->lW d h h'->is h' k a
 pyHash:∀{A:bz}{E:Value->Shared->Prop}{s:Shared}{k:K}{a:Addr}{Q:Int->Shared->Prop},A.units+lvl<cLine->is s.heap k a->Q (hash k) {s with toks:=s.toks+draws k}->wpAny (model prog w) A (PySem.pyHash (.ref a)) Q E s
 eqBool:∀{A:bz}{E:Value->Shared->Prop}{s:Shared}{x y:K}{a b:Addr}{Q:Bool->Shared->Prop},A.units+lvl<cLine->is s.heap x a->is s.heap y b->Q (decide (x=y)) s->wpAny (model prog w) A (PySem.eqBool (.ref a) (.ref b)) Q E s
 quiet:∀{A:bz}{E:Value->Shared->Prop}{s:Shared}{k:K}{a:Addr}{Q:Bool->Shared->Prop}{n:Nat},lvl<=n->is s.heap k a->Q true s->wpAny (model prog w) A (Fb n (.ref a)) Q E s
section
variable{prog:aT}{w:aI}{K:Type} [DecidableEq K]
theorem adm{knd:KeyKind prog w K}{A:bz}{E:43}{s:Shared}{ks:776}{a:Addr}{Q:470}{n:Nat}(hn:1<=n)(hk:IsTupleKey knd s.heap ks a)(h:Q true s):wpAny 35 A (Fb n 152) Q E s:=by have hT:=hk.typeIs;ext:63;rw[3,(Ku 152 517>>=_)];ext:103;rw[<-WI];refine E8 _ (fun rest r s'=>r.1=none/\s'=s/\∀v∈rest,carriedByValue v=true) _ ?_ ?_ _ _ ⟨rfl,rfl,hi.byValue⟩;rintro v rest r s' ⟨hr,rfl,iY⟩;rw[eqIsQuiet_byValue _ (iY v cY)];refine 22 78;simp only[A8,oG,kS];exact 58 {rfl,rfl,fun u IW=>iY u (cZ _ IW)};ext:142
def Fy(knd:KeyKind prog w K):HK prog w 776 where
 is:=IsTupleKey knd
 hash:=tupleKeyHash knd
 draws:=fun ks=>ks.length+1
 lvl:=1
 inj:=fun hx hy=>hx.inj hy
 keeps:=fun x ho hd hs=>x.keeps ho hd hs
 pyHash:=fun hu hk h=>wpAny_pyHash_tuple 23 hk h
 eqBool:=fun hu hx hy h=>wpAny_eqBool_tuple 23 hx hy h
 quiet:=fun hn hk h=>adm hn hk h
inductive jA(k:HK prog w K)(h:Heap):List K->List Value->Prop
 |nil:jA k h [] []
 |cons {x:K} {a:Addr} {xs:List K} {vs:List Value}:k.is h x a->jA k h xs vs->jA k h (x::xs) (.ref a::vs)
def IsTup(k:985)(h:Heap)(ks:776)(a:Addr):Prop:=∃o items n,h.get? a=some o/\o.cls=.type "tuple"/\o.data=.seq items n/\jA k h ks items.toList
variable{k:HK prog w K}
theorem jA.inj{h:Heap}{x y:776}{vs:97}(hx:jA k h x vs)(hy:jA k h y vs):x=y:=by induction hx generalizing y with|nil=>cases hy;rfl|cons h1 _ ih=>cases hy with|cons h2 t2=>rw[k.inj h1 h2,ih t2]
theorem jA.keeps{h h':Heap}{xs:776}{vs:97}{d:Addr}{o:Obj} {es ep}(x:jA k h xs vs)(ho:354 d o)(hd:o.data=.dict es ep)(hs:lW d h h'):jA k h' xs vs:=by induction x with|nil=>exact .nil|cons h1 _ ih=>exact .cons (k.keeps h1 ho hd hs) ih
theorem IsTup.keeps{h h':Heap}{ks:776}{a d:Addr}{o:Obj} {es ep}(x:IsTup k h ks a)(ho:354 d o)(hd:o.data=.dict es ep)(hs:lW d h h'):IsTup k h' ks a:=by
 obtain⟨o',items,n,fR,hc,fg,hi⟩:=x;have cC:a≠d:=by rintro rfl;obtain rfl:o'=o:=dZ (fR.symm.trans ho);rw[hd]at fg;exact nomatch fg
 exact{o',items,n,(hs.2 a cC).trans fR,hc,fg,hi.keeps ho hd hs}
theorem IsTup.inj{h:Heap}{a:Addr}{x y:776}(hx:IsTup k h x a)(hy:IsTup k h y a):x=y:=by obtain⟨o,items,n,ho,_,hd,hi⟩:=hx;obtain⟨o',aka,n',fR,_,fg,wg⟩:=hy;obtain rfl:o=o':=dZ (ho.symm.trans fR);rw[hd]at fg;injection fg with h1 _;subst h1;exact hi.inj wg
theorem IsTup.typeIs{s:Shared}{ks:776}{a:Addr}(x:676 ks a):s.TypeIs 152 "tuple":=let⟨o,_,_,ho,hc,_⟩:=x;⟨o,ho,hc⟩
def Ik(k:985)(ks:776):Int:=reduceHash (A9 (ks.map k.hash))
def Jd(k:985)(ks:776):Nat:=(ks.map k.draws).sum+1
variable{A:bz}{E:Value->Shared->Prop}{s:Shared}
theorem age{ks:776}{a:Addr}{Q:470}{n:Nat}(hn:k.lvl+1<=n)(hk:676 ks a)(h:Q true s):wpAny 35 A (Fb n 152) Q E s:=by
 have hT:=hk.typeIs;ext:63;rw[3,(Ku 152 517>>=_)];ext:103;rw[<-WI];refine E8 _ (fun rest r s'=>r.1=none/\s'=s/\∃xs,jA k s.heap xs rest) _ ?_ ?_ _ _ ⟨rfl,rfl,ks,hi⟩;rintro v rest r s' ⟨hr,rfl,xs,hx⟩;cases hx with|cons h1 h2=>refine 22 (k.quiet 23 h1 ?_);simp only[A8,oG,kS];exact 58 {rfl,rfl,_,h2}
 ext:142
theorem ag2{ks:776}{a:Addr}{Q:Int->Shared->Prop}(hu:A.units+(k.lvl+1)<cLine)(hk:676 ks a)(h:Q (Ik k ks) {s with toks:=s.toks+Jd k ks}):wpAny 35 A (pyHash 152) Q E s:=by
 have hT:=hk.typeIs;obtain⟨o,items,n,ho,_,hd,hi⟩:=hk;unfold pyHash;first|unfold pyHashByItsType|skip
 first|refine wpAny_bind (wpAny_cRoomFor_or (.inr (show A.units<cLine by omega)) ?_)|skip
 rw[0,(425 K6.lookup)];show wpAny _ _ (361 (some (xE "tuple.__hash__")==some fh)) Q E s;rw[if_neg (by rw[beq_builtin_none];exact df)];rw[0,(425 K6.lookup)];show wpAny _ _ (callSpecialIfBoundUnlessNone? 152 "__hash__" _>>=_) Q E s;rw[0,(wpAny_callSpecialIfBoundUnlessNone?_slot hT K6 (502 K6 PySem.F.entry_tuple_hash (PySem.F.args_tuple_hash_1 _)))];rw[3,(ai8 152>>=_)];rw[0,(WJ ho hd 146)];rw[<-WI];refine E8 _ (fun rest(b:Array Int) s'=>∃done left,ks=done++left/\jA k s.heap left rest/\b.toList=done.map k.hash/\s'={s with toks:=s.toks+(done.map k.draws).sum}) _ ?_ ?_ _ _ {[],ks,rfl,hi,rfl,rfl};rintro x rest b s' ⟨done,left,rfl,hl,hb,rfl⟩;cases hl with|@cons x' a' jC _ h1 DS=>refine 22 (k.pyHash (show A.in1.units+k.lvl<cLine by show A.units+1+k.lvl<cLine;omega) h1 ?_);first|exact wpAny_pure ⟨done++[x'],jC,by simp,DS,by simp[hb],by simp[eE]⟩|exact wpAny_bind (wpAny_pure (wpAny_pure ⟨done++[x'],jC,by simp,DS,by simp[hb],by simp[eE]⟩))
 rintro b s' ⟨done,left,rfl,hl,hb,rfl⟩;cases hl;rw[fN]at h;rw[2,(retInt (A9 b.toList))];rw[hb];refine wpAny_ret_mkInt ?_;show wpAny _ _ (361 523) Q E _;unfold Ik reduceHash Jd at h;by_cases hr:523=true;rw[if_pos hr];rw[if_pos hr]at h;exact 58 (by simpa[eE]using h);rw[if_neg hr];rw[if_neg hr]at h;exact 22 (mY (58 (by simpa[eE]using h)))
theorem abm{x y:776}{a b:Addr}{P:Fin->Shared->Prop}(hu:A.units+k.lvl<cLine)(hx:676 x a)(hy:676 y b)(h:P (.done (.ret (.bool (decide (x=y))))) s):wpAny 35 A (Builtin.«tuple.__eq__» {[.ref a,.ref b],[]}) P E s:=by
 have hTb:=hy.typeIs;obtain⟨oa,xs,na,Y0,_,XD,YS⟩:=hx;obtain⟨ob,ys,nb,hob,_,eK,hib⟩:=hy;rw[3,(Ku (.ref b) 517>>=_)];rw[0,(uR hTb WH ?_)];simp only[A8,oG,kS];rw[0,(WJ Y0 XD (22 (WJ hob eK 146)))];refine E8 _ (fun rest r s'=>r.1=none/\s'=s/\∃x' y' jC qL,rest=List.zip jC qL/\jA k s.heap x' jC/\jA k s.heap y' qL/\decide (x'=y')=decide (x=y)/\(jC.length==qL.length)=1060) _ ?_ ?_ _ _ {rfl,rfl,x,y,xs.toList,ys.toList,rfl,YS,hib,rfl,by simp};rintro⟨u,v⟩ rest r s' ⟨hr,rfl,x',y',jC,qL,hz,eR,nI,Cw,bK⟩
 cases eR with|nil=>simp at hz|@cons k1 a1 Mu adx h1 afo=>cases nI with|nil=>simp at hz|@cons k2 a2 RO aaf h2 YI=>simp only[List.zip_cons_cons,A0,ss]at hz;obtain⟨⟨rfl,rfl⟩,rfl⟩:=hz;rw[0,(k.eqBool (x:=k1) (y:=k2) hu h1 h2 ?_)];by_cases hk:k1=k2;subst hk;rw[cK rfl];simp only[A8,oG,kS];refine 58 {rfl,rfl,Mu,RO,adx,aaf,rfl,afo,YI,?_,by simpa using bK};rw[<-Cw];by_cases Nf:Mu=RO;simp[Nf];simp[Nf];rw[gn hk];simp only[Bool.not_false,jL];(have hf:decide (x=y)=false:=by rw[<-Cw];simp[hk]);rw[hf]at h;exact 22 (58 (58 (58 h)))
 rintro⟨r1,r2⟩ s' ⟨hr,rfl,x',y',jC,qL,hz,eR,nI,Cw,bK⟩;simp only at hr;subst hr;refine 78;have af8:1060=decide (x=y):=by rw[<-Cw,<-bK];cases eR with|nil=>(cases nI with|nil=>simp|cons _ _=>simp)|cons _ _=>cases nI with|nil=>simp|cons _ _=>simp at hz
 show P (.done (.ret (.bool 1060))) s';rw[af8];exact h
theorem aeP{x y:776}{a b:Addr}{Q:470}(hu:A.units+(k.lvl+1)<cLine)(hx:676 x a)(hy:676 y b)(h:Q (decide (x=y)) s):wpAny 35 A (eqBool 152 (.ref b)) Q E s:=by
 unfold PySem.eqBool;try with_reducible refine 627
 show wpAny _ _ (361 (cj a==cj b)) Q E s;by_cases kq:(cj a==cj b)=true;rw[if_pos kq];have e:a=b:=by have:=eq_of_beq kq;injection this
 subst e;obtain rfl:=hx.inj hy;exact 22 (mY (58 785));rw[if_neg kq];rw[0,(wpAny_richCompare_same_room (op:=.Eq) hx.typeIs hy.typeIs K5 (wpAny_call_entry K5 hx.typeIs PySem.F.entry_tuple_eq (abm ?_ hx hy {_,rfl,(fun e=>nomatch e),oC h}) (PySem.F.args_tuple_eq_2 _ _)) 23)];show A.units+1+k.lvl<cLine;omega
def Gb(k:985):HK prog w 776 where
 is:=IsTup k
 hash:=Ik k
 draws:=Jd k
 lvl:=k.lvl+1
 inj:=fun hx hy=>hx.inj hy
 keeps:=fun x ho hd hs=>x.keeps ho hd hs
 pyHash:=fun hu hk h=>ag2 hu hk h
 eqBool:=fun hu hx hy h=>aeP hu hx hy h
 quiet:=fun hn hk h=>age hn hk h
def HK.kind(k:985)(hl:k.lvl<=8):HeapKind prog w K where
 is:=k.is
 hash:=k.hash
 draws:=k.draws
 room:=fun A=>A.units+k.lvl<cLine
 inj:=fun hx hy=>k.inj hx hy
 keeps:=fun x ho hd hs=>k.keeps x ho hd hs
 pyHash:=fun hu hk h=>k.pyHash hu hk h
 eqBool:=fun hu hx hy h=>k.eqBool hu hx hy h
 quiet:=fun hk h=>k.quiet hl hk h
end
end SS
namespace PC
open PySem PySem.Spec PyProof.Rows L2 XW
open PySem.W (Frag)
variable{P:aT}{w:aI}{K:Frag}{mg:Str->Option Value}{base:Heap}
abbrev Pl:=List (List (List Key))
def Zm(P:aT)(w:aI):SS.HK P w Pl:=SS.Gb (SS.Gb (SS.Fy 818))
def wT(P:aT)(w:aI):HeapKind P w Pl:=(Zm P w).kind (show 3<=8 by decide)
def nE(H:Hp)(a:Addr)(k:Pl):Prop:=∃ps,H a=some (.tup ps)/\Paired (fun v c=>∃q,v=V.ref q/\∃vs,H q=some (.tup vs)/\Paired (fun v(ns:List Key)=>∃p,v=V.ref p/\H p=some (.tup (592 kV))) vs c) ps k
theorem nE.same{H H':Hp}{a:Addr}{k:Pl}(x:nE H a k)(S:∀b xs,H b=some 193->H' b=some 193):nE H' a k:=by obtain⟨ps,e,r⟩:=x;exact{ps,S _ _ e,Paired.Ei r fun v c ⟨q,e1,vs,e2,r2⟩=>{q,e1,vs,S _ _ e2,Paired.Ei r2 fun v ns ⟨p,e3,e4⟩=>{p,e3,S _ _ e4}}}
section
variable{P:aT}{w:aI}{H:Hp}{h:Heap}
theorem ME{κ:Type} [DecidableEq κ]{k:SS.HK P w κ}{R:V->κ->Prop}(hR:∀v c,R v c->∃q,v=V.ref q/\k.is h c q):∀{vs:List V}{cs:List κ}{ai:List Value},Paired R vs cs->Vals vs ai->SS.jA k h cs ai
 |_,_,_,.nil,r=>by cases r;exact .nil
 |_,_,_,.cons x t,r=>by cases r with|cons y t2=>obtain⟨q,rfl,i⟩:=hR _ _ x;cases(show _=cj q from y);exact .cons i (ME hR t t2)
theorem tup_is{κ:Type} [DecidableEq κ]{k:SS.HK P w κ}{R:V->κ->Prop}{a:Addr}{vs:231}{cs:List κ}(ok:243)(e:324 a (.tup vs))(r:Paired R vs cs)(hR:∀v c,R v c->∃q,v=V.ref q/\k.is h c q):SS.IsTup k h cs a:=by obtain⟨_,ai,r2,o,h1,h2,n,h3⟩:=(964 (.tup vs) e);exact{o,ai.toArray,n,h1,h2,h3,ME hR r r2}
theorem yu{a:Addr}{k:Pl}(ok:243)(x:nE H a k):(wT P w).is h k a:=by obtain⟨ps,e,r⟩:=x;show SS.IsTup (SS.Gb (SS.Fy 818)) h k a;refine tup_is ok e r fun v c ⟨q,e1,vs,e2,r2⟩=>{q,e1,?_};show SS.IsTup (SS.Fy 818) h c q;exact tup_is ok e2 r2 fun v ns ⟨p,e3,e4⟩=>{p,e3,F2 ok e4}
abbrev iu:=List (Pl×Addr×Addr)
def kr(am:iu):List (Pl×Addr×Value):=am.map fun x=>(x.1,x.2.1,.ref x.2.2)
def jE(am:iu):List Pl:=am.map (·.1)
theorem Bm(am:iu):(kr am).map (·.1)=jE am:=by unfold kr jE;rw[gq];rfl
def Er(P:aT)(w:aI)(a:Addr)(am:iu)(h:Heap):Prop:=(a==lV)=false/\am.length<=sizeLine/\∃o es ep,h.get? a=some o/\o.ExactDict/\o.data=.dict es ep/\es.toList=(kr am).map (entryOfKey (wT P w))/\(jE am).Nodup
def kH(P:aT)(w:aI)(a:Addr)(am:iu):HO:=.ext (Er P w a am)
structure vk(P:aT)(w:aI)(H:Hp)(a:Addr)(am:iu):Prop where
 at_:H a=some (kH P w a am)
 keys:∀x∈am,nE H x.2.1 x.1
theorem F6{H':Hp}{a:Addr}{am:iu}(f:Er P w a am h):cQ P w H' h a (kH P w a am):=by refine{f,let⟨_,_,o,_,_,e,_⟩:=f;⟨o,e⟩,fun h1 h2 ⟨z,z2,o,es,ep,e,r⟩ k=>{z,z2,o,es,ep,k _ e,r}}
theorem BY{a:Addr}{am:iu}(ok:243)(x:vk P w H a am):(a==lV)=false/\am.length<=sizeLine/\(jE am).Nodup/\h.DictOfH (wT P w) a (kr am):=by obtain⟨⟨z,z2,o,es,ep,e,h1,h2,h3,h4⟩,_⟩:=(964 (kH P w a am) x.at_);refine{z,z2,h4,o,es,ep,e,h1,h2,h3,fun y hy=>?_,by rw[Bm];exact h4};obtain⟨y',nI,rfl⟩:=dJ.mp hy;exact yu ok (x.keys y' nI)
theorem Rw{am:iu}(nd:(jE am).Nodup){k:Pl}{p q:Addr}(m:(k,p,q)∈am):atKey (kr am) k=some (p,.ref q):=by obtain⟨i,hi⟩:=List.getElem?_of_mem m;refine atKey_of_get (by rw[Bm];exact nd) (i:=i) ?_;rw[kr,d_,hi];rfl
theorem Qq{am:iu}{k:Pl}(m:k∉jE am):atKey (kr am) k=none:=by refine atKey_none_of_get fun j p e=>m ?_;rw[<-Bm];exact dJ.mpr {_,ej e,rfl}
theorem aaB{am:iu}{k:Pl}(m:k∈jE am)(nd:(jE am).Nodup):(atKey (kr am) k).isSome=true:=by obtain⟨⟨k',p,q⟩,hx,rfl⟩:=dJ.mp m;rw[Rw nd hx];rfl
end
section
variable(P:aT)(w:aI)
def ac8(td ty:TE):TE:=fun σ H Q=>td σ H fun x H1=>ty σ H1 fun y H2=>∃a b am k p q,x=.ref a/\y=.ref b/\vk P w H2 a am/\nE H2 b k/\(k,p,q)∈am/\Q (.ref q) H2
def XA(ty td:TE):TE:=fun σ H Q=>ty σ H fun y H1=>td σ H1 fun x H2=>∃a b am k,x=.ref a/\y=.ref b/\vk P w H2 a am/\nE H2 b k/\∀t:Bool,(t=true↔k∉jE am)->Q (.bl t) H2
def aaw(td ty tv:TE):TS:=fun D σ H=>tv σ H fun v H1=>td σ H1 fun x H2=>ty σ H2 fun y H3=>∃a b q am k,x=.ref a/\y=.ref b/\v=.ref q/\vk P w H3 a am/\nE H3 b k/\k∉jE am/\am.length<sizeLine/\
 D.nx σ (upd H3 a (kH P w a (am++[(k,b,q)])))
def aaU(ty tv:TE):TE:=fun σ H Q=>∀p,H p=none->ty σ (257 p (kH P w p [])) fun y H1=>tv σ H1 fun v H2=>∃b q k,y=.ref b/\v=.ref q/\H2 p=some (kH P w p [])/\nE H2 b k/\Q 310 (upd H2 p (kH P w p [(k,b,q)]))
end
section
variable{X:Cx}{o i e value:aH}{pos gN gH:Pos}{td ty tv:TE}
theorem Bg{k:Nat}{A:bz}(hr:cW k A):A.units+9<cLine:=by have:=hr.units;omega
theorem FF{A:bz}{P:aT}{w:aI}(hu:A.units+9<cLine):(wT P w).room A.in1:=by show A.units+1+3<cLine;omega
theorem ZZ(hu:802)(ho:PE X o td)(hi:PE X i ty)(hs:Hn i):PE X (642 o i pos) (ac8 X.prog X.w td ty):=by intro pins s σ H Q I h;refine Lp ajt.lookup hs (aG 378 fun u s1 ⟨x,H1,I1,rx,q1⟩=>aG (hi pins s1 σ H1 _ I1 q1) fun iv s2 ⟨y,H2,I2,ry,a,b,am,k,p,q,ex,ey,D,kb,m,q2⟩=>?_);ext:123;exact{dd.typeIs,wpAny_getItem_heap (FF hu) (yu I2.aD kb) dd (Rw nd m) {.ref q,H2,I2.tok _,rfl,q2}}
theorem aa7(hu:802)(hi:PE X i ty)(ho:PE X o td):PC X .NotIn i o (XA X.prog X.w ty td):=by intro pins s σ H Q I h;refine aG 624 fun iv s1 ⟨y,H1,I1,ry,q1⟩=>aG (ho pins s1 σ H1 _ I1 q1) fun u s2 ⟨x,H2,I2,rx,a,b,am,k,ex,ey,D,kb,q2⟩=>?_;ext:123;refine wpAny_notIn_heap (FF hu) (yu I2.aD kb) z dd ?_;refine{.bl _,H2,I2.tok _,rfl,q2 _ ?_};ext:67;intro e m;rw[aaB m nd]at e;cases e;intro m;rw[Qq m];rfl
theorem Pt{P:aT}{w:aI}{H:Hp}{h h':Heap}{a b q:Addr}{am:iu}{k:Pl}(z:(a==lV)=false)(lk:am.length<sizeLine)(hk:k∉jE am)(dd:h'.DictOfH (wT P w) a (storedH (kr am) k b (.ref q))):Er P w a (am++[(k,b,q)]) h':=by
 rw[storedH_new (Qq hk)]at dd;have e:kr am++[(k,b,cj q)]=kr (am++[(k,b,q)]):=by unfold kr;rw[bH];rfl
 rw[e]at dd;obtain⟨o,es,ep,h1,h2,h3,h4,_,h5⟩:=dd;exact{z,by rw[bw];show am.length+1<=_;omega,o,es,ep,h1,h2,h3,h4,by rw[<-Bm];exact h5}
theorem adg(hu:802)(ho:PE X o td)(hi:PE X i ty)(hv:837)(hs:Ay value (some (642 o i gN)) pos.line X.env=pure false):PS X (.Assign [.Subscript o i gN] value pos) (aaw X.prog X.w td ty tv):=by intro pins s σ H D I h;refine wpAny_Assign_Subscript (aG 899 fun r s1 ⟨v,H1,I1,rv,q1⟩=>aG (ho pins s1 σ H1 _ I1 q1) fun u s2 ⟨x,H2,I2,rx,q2⟩=>aG (hi pins s2 σ H2 _ I2 q2) fun iv s3 ⟨y,H3,I3,ry,a,b,q,am,k,ex,ey,ev,Dd,kb,nk,lk,q3⟩=>?_) hs;subst ex ey ev;rw[7,u];obtain rfl:iv=cj b:=ry;obtain rfl:r=cj q:=rv;obtain⟨z,z2,nd,dd⟩:=BY I3.aD Dd;refine wpAny_setItem_heap (hsz:=by rw[kr,az];exact z2) (FF hu) (yu I3.aD kb) dd fun h' Gm xn=>{σ,_,?_,q3};have f:=Pt (H:=H3) (h:=h') z lk nk Gm;exact 961 (by rw[Dd.at_];exact xt)
theorem aiO{P:aT}{w:aI}(h:Heap)(hb:lV<h.objs.size):Er P w h.objs.size [] (h.push {cls:=.type "dict",data:=.dict #[]}):={rN.mpr (cJ (cI hb)),bA _,_,#[],0,c_ _ rfl,⟨rfl,rfl,rfl⟩,rfl,rfl,sD}
theorem ah4(hu:802)(hi:PE X i ty)(hv:837):PE X (.Dict [some i] [value] pos) (aaU X.prog X.w ty tv):=by intro pins s σ H Q I h;have hn:=I.aD.fresh (aV s.heap.objs.size);have I1:=I.laid (a:=s.heap.objs.size) (o:=kH X.prog X.w s.heap.objs.size []) (h':=s.heap.push {cls:=.type "dict",data:=.dict #[]}) (t':=s.toks) (fun _ _ q=>bG _ q) 227 (F6 (aiO s.heap I.big));refine wpAny_Dict_any rfl rfl 42 (by show 1<=15;decide) ?_;refine pairTrees_cons_walk (aG (hi pins _ σ _ _ I1 (h _ hn)) fun iv s1 ⟨y,H1,I2,ry,q1⟩=>aG (hv pins s1 σ H1 _ I2 q1) fun u s2 ⟨v,H2,I3,rv,b,q,k,ey,ev,ea,kb,q2⟩=>pairTrees_nil_walk ?_);subst ey ev;obtain rfl:iv=cj b:=ry;obtain rfl:u=cj q:=rv;have Dd:vk X.prog X.w H2 s.heap.objs.size []:={ea,fun x hx=>nomatch hx};obtain⟨z,z2,nd,dd⟩:=BY I3.aD Dd;unfold storeAll;rw[Kl];rw[0,(22 (wpAny_dictSet_heap (hsz:=by show 0<=_;exact bA _) (show(wT X.prog X.w).room X.A by show X.A.units+3<cLine;omega) (yu I3.aD kb) dd fun h' Gm xn=>wpAny_pure ?_))];rw[2,(forIn ([]:List (Value×Value)) PUnit.unit _)];rw[EM];refine 58 {.ref s.heap.objs.size,_,?_,rfl,q2};have f:=Pt (H:=H2) (h:=h') z (by rw[sizeLine_eq];show 0<_;decide) (fun n=>by simp[jE]at n) Gm;exact 961 (by rw[ea];exact xt)
end
section
variable{X:Cx}{CX:gL}{E:XK}{e:aH}{es:List aH}{x:Str}{p pos:Pos}{tf:TE}{ta:TA}
theorem ahU(hf:PE X (.Name x p) tf)(hx:434)(ha:PA X 298 ta)(he:starEach 298 X.env=(false,eval e X.env)::starEach es X.env:=by rfl)(dj:(117 pos).any (·.1)=false:=by rfl):PE X 311 (Q9 X CX E tf ta):=by intro pins s σ H Q I h;refine pV 444;subst ex;obtain rfl:u=cj g:=rx;refine 855;exact 830
end
end PC
namespace PC
open PySem PySem.Spec PyProof.Rows L2 XW
open Vbavaf (F Atom Found tryStep has watch nowOf fresh begin_ told cells)
def zW(l:34)(f:F)(c:71):List (List Key):=((70 l).map (own 0 c)).map fun cs=>cs.map fun(n:Nat)=>(kQ (n:Int):Key)
def keyOf(l:34)(f g:F)(c d:71):Pl:=[zW l f c,zW l g d]
theorem ZY:∀{a b:List Nat},(a.map fun(n:Nat)=>(kQ (n:Int):Key))=(b.map fun(n:Nat)=>(kQ (n:Int):Key))->a=b:=by intro a;induction a with|nil=>(intro b h;cases b with|nil=>rfl|cons _ _=>cases h)|cons x t ih=>intro b h;cases b with|nil=>cases h|cons y r=>rw[bL,bL]at h;injection h with h1 h2;injection h1 with h1;rw[ih h2,Int.ofNat.inj h1]
theorem XN{α β:Type}{φ:α->β}(hφ:∀a b,φ a=φ b->a=b):∀{x y:List α},x.map φ=y.map φ->x=y:=by intro x;induction x with|nil=>(intro b h;cases b with|nil=>rfl|cons _ _=>cases h)|cons a t ih=>intro b h;cases b with|nil=>cases h|cons y r=>rw[bL,bL]at h;injection h with h1 h2;rw[hφ _ _ h1,ih h2]
theorem Ry{l:34}{f:F}{c d:71}(hc:534)(hd:d.length=cells f)(h:zW l f c=zW l f d):c=d:=by have e:(70 l).map (own 0 c)=(70 l).map (own 0 d):=XN (fun a b=>ZY) h;rw[<-Im (l:=l) hc,<-Im (l:=l) hd,e]
structure zi(f g:F)(p:oN):Prop where
 c:p.c.length=cells f
 cp:dz f p.c
 d:p.d.length=cells g
 dp:dz g p.d
 way:∀r∈p.way,r.length=8
theorem ahz{l:34}{f g:F}{all:List oN}{c d:71}(ok:∀p∈all,zi f g p)(hc:534)(hd:d.length=cells g):has all c d=true↔keyOf l f g c d∈all.map fun p=>keyOf l f g p.c p.d:=by unfold has;rw[qe,dJ];ext:67;rintro⟨p,hp,e⟩;rw[dm]at e;refine{p,hp,?_};rw[show p.c=c from eq_of_beq e.1,show p.d=d from eq_of_beq e.2];rintro⟨p,hp,e⟩;have o:=ok p hp;unfold keyOf at e;injection e with e1 e2;injection e2 with e2 _;refine{p,hp,?_};rw[Ry o.c hc e1,Ry o.d hd e2];simp
section
variable{l:List Atom}{f g:F}{want:Bool->Bool->Bool}{p:oN}{x:md}{n:List Int}
theorem OI:∀{ns:List 33}{x:md},x.way.isSome=true->ns.foldl 115 x=x
 |[],_,_=>rfl
 |n::t,x,h=>by(have e:tryStep l f g want p x n=x:=by unfold tryStep;rw[if_pos h]);rw[p6,e];exact OI h
abbrev outF(l:34)(f:F)(c:71)(n:33):Bool:=(watch f (nowOf l n) c).1
abbrev fE(l:34)(f:F)(c:71)(n:33):List Nat:=(watch f (nowOf l n) c).2.1
theorem Yr(hx:x.way=none)(h:561 true):tryStep l f g want p x n={x with way:=some (n::p.way)}:=by unfold tryStep;rw[hx,if_neg 29];exact if_pos h
theorem Zi(hx:x.way=none)(h:561 false)(h2:has x.all 564 565=true):tryStep l f g want p x n=x:=by unfold tryStep;rw[hx,if_neg 29];ext:0;rw[if_neg 374,if_pos h2,]
theorem ac2(hx:x.way=none)(h:561 false)(h2:has x.all 564 565=false):tryStep l f g want p x n={x with all:=x.all++[{c:=fE l f p.c n,d:=fE l g p.d n,way:=n::p.way}]}:=by unfold tryStep;rw[hx,if_neg 29];ext:0;rw[if_neg 374,if_neg (by rw[show has x.all (watch f (nowOf l n) p.c).2.1 (watch g (nowOf l n) p.d).2.1=false from h2];decide)]
structure uu(f g:F)(m d:Nat)(x:md):Prop where
 way:x.way=none
 ok:∀p∈x.all,zi f g p
 len:x.all.length<=m
 deep:∀p∈x.all,p.way.length<=d
theorem HZ(hp:zi f g p)(h8:n.length=8):zi f g {c:=fE l f p.c n,d:=fE l g p.d n,way:=n::p.way}:={(vN f _ _ (by rw[hp.c];exact aV _)).1,Jv f _ _ (by rw[hp.c];exact aV _),(vN g _ _ (by rw[hp.d];exact aV _)).1,Jv g _ _ (by rw[hp.d];exact aV _),fun r hr=>by rcases bE.mp hr with rfl|hr;exact h8;exact hp.way r hr}
theorem aa5{m d:Nat}(hx:uu f g m (d+1) x)(hp:zi f g p)(hd:p.way.length<=d)(h8:n.length=8):uu f g (m+1) (d+1) {x with all:=x.all++[{c:=fE l f p.c n,d:=fE l g p.d n,way:=n::p.way}]}:=by refine{hx.way,fun q hq=>?_,?_,fun q hq=>?_};rcases bP.mp hq with hq|hq;exact hx.ok q hq;rw[cM.mp hq];exact HZ hp h8;show(x.all++[_]).length<=m+1;rw[bw];have:=hx.len;show x.all.length+1<=m+1;omega;rcases bP.mp hq with hq|hq;exact hx.deep q hq;rw[cM.mp hq];show p.way.length+1<=d+1;omega
theorem uu.mono{m d m2 d2:Nat}(hx:uu f g m d x)(h1:m<=m2)(h2:d<=d2):uu f g m2 d2 x:={hx.way,hx.ok,dG hx.len h1,fun p hp=>dG (hx.deep p hp) h2}
theorem Rf:∀(al:List 33)(x:md),x.all.length<=(al.foldl 115 x).all.length
 |[],_=>aV _
 |n::t,x=>by rw[p6];refine dG ?_ (Rf t _);unfold tryStep;split;exact aV _;ext:0;split;exact aV _;split;exact aV _;show x.all.length<=(x.all++[_]).length;rw[bw];omega
variable{al:List (List Int)}{b k:Nat}
theorem Yv(h:x.way=none)(h2:x.all[x.at_]?=none):k8 l f g al want b (k+1) x=some x:=by show 417=_;rw[h,if_neg 29,h2]
theorem agP{w:147}(h:x.way=some w):k8 l f g al want b (k+1) x=some x:=by show(if x.way.isSome=true then some x else _)=_;exact if_pos (by rw[h];rfl)
theorem UL(h:x.way=none)(h2:x.all[x.at_]?=some p):k8 l f g al want b (k+1) x=(let y:=al.foldl 115 x;if y.way.isNone=true/\b<y.all.length then none else k8 l f g al want b k {y with at_:=x.at_+1}):=by show 417=_;rw[if_neg (by rw[h];decide),h2]
end
end PC
namespace PC
open PySem PySem.Spec PyProof.Rows L2 XW
open PySem.W (Frag)
variable{P:aT}{w:aI}{K:Frag}{mg:Str->Option Value}{base:Heap}
section
open Vbavaf (F Atom Found tryStep has watch nowOf fresh begin_ told cells size)
def cut(D W:Addr)(H:Hp):Hp:=fun b=>if b=D\/b=W then none else H b
section
variable{D W:Addr}{H H':Hp}{o:HO}{b:Addr}
theorem zI(h:324 b o)(n1:b≠D)(n2:b≠W):cut D W H b=some o:=by unfold cut;rw[if_neg (fun z=>z.elim n1 n2)];exact h
theorem nB:ah (cut D W H) H:=fun b o h=>by unfold cut at h;ext:184;exact h
theorem vJ(S:416):ah (cut D W H) (cut D W H'):=fun b o h=>by unfold cut at h⊢;ext:184;rename_i z;rw[if_neg z];exact S _ _ h
theorem nN:cut D W (257 D o)=cut D W H:=by funext b;unfold cut;by_cases z:b=D\/b=W;rw[if_pos z,if_pos z];rw[if_neg z,if_neg z,ay (fun e=>z (.inl e))]
theorem B6:cut D W (257 W o)=cut D W H:=by funext b;unfold cut;by_cases z:b=D\/b=W;rw[if_pos z,if_pos z];rw[if_neg z,if_neg z,ay (fun e=>z (.inr e))]
theorem QQ(S:416)(h1:H D=none)(h2:H W=none):ah H (cut D W H'):=fun b o h=>zI (S _ _ h) 923 (bF h h2)
end
theorem MG{α β γ:Type}{R:α->γ->Prop}{φ:β->γ}:∀{vs:List α}{cs:List β},Paired (fun v c=>R v (φ c)) vs cs->Paired R vs (cs.map φ)
 |_,_,.nil=>.nil
 |_,_,.cons h t=>.cons h (MG t)
def rg(H:Hp)(l:34)(f g:F)(a:Addr)(c d:71):Prop:=∃c1 c2,H a=some (.tup [.ref c1,.ref c2])/\fC H c1 189/\fC H c2 ((flat l g 0 0).map (own 0 d))
theorem rg.same{H H':Hp}{l:34}{f g:F}{a:Addr}{c d:71}(x:rg H l f g a c d)(S:416):rg H' l f g a c d:=by obtain⟨c1,c2,h1,h2,h3⟩:=x;exact{c1,c2,S _ _ h1,h2.same S,h3.same S}
theorem Tj{H:Hp}{q:Addr}{l:34}{f:F}{c:71}(x:fC H q 189):∃vs,H q=some (.tup vs)/\Paired (fun v(ns:List Key)=>∃p,v=V.ref p/\H p=some (.tup (592 kV))) vs (zW l f c):=by obtain⟨vs,e,r⟩:=x;refine{vs,e,MG (bR (fun v cs ⟨p,e1,e2⟩=>{p,e1,?_}) r)};rw[e2,gq];rfl
theorem rg.pl{H:Hp}{l:34}{f g:F}{a:Addr}{c d:71}(x:rg H l f g a c d):nE H a (keyOf l f g c d):=by obtain⟨c1,c2,h1,h2,h3⟩:=x;exact{_,h1,.cons {c1,rfl,Tj h2} (716 {c2,rfl,Tj h3})}
def tU(H:Hp)(l:34)(f g:F)(kv:Pl×Addr×Addr)(p:oN):Prop:=kv.1=keyOf l f g p.c p.d/\rg H l f g kv.2.1 p.c p.d/\j7 H kv.2.2 p.way.reverse
theorem tU.same{H H':Hp}{l:34}{f g:F}{kv:Pl×Addr×Addr}{p:oN}(x:tU H l f g kv p)(S:416):tU H' l f g kv p:={x.1,x.2.1.same S,x.2.2.same S}
def rB(am:iu):List V:=am.map fun kv=>.ref kv.2.1
structure Row(P:aT)(w:aI)(l:List Atom)(f g:F)(H0:Hp)(D W:Addr)(H:Hp)(all:List oN)(am:iu):Prop where
 row:H D=some (.lst (rB am))
 dict:H W=some (kH P w W am)
 same:ah H0 (cut D W H)
 all:Paired (tU (cut D W H) l f g) am all
section
variable{P:aT}{w:aI}{l:List Atom}{f g:F}{H0 H H':Hp}{D W:Addr}{all:List oN}{am:iu}
theorem Row.go(x:140)(S:416):Row P w l f g H0 D W H' all am:={S _ _ x.row,S _ _ x.dict,fun b o h=>vJ S _ _ (x.same _ _ h),bR (466 (vJ S)) x.all}
theorem Row.len(x:140):am.length=all.length:=bY x.all
theorem B0(am:iu):(rB am).length=am.length:=az _
theorem Row.keys(x:140):jE am=all.map fun p=>keyOf l f g p.c p.d:=by have r:=x.all;clear x;unfold jE;induction r with|nil=>rfl|cons h t ih=>rw[bL,bL,h.1,ih]
theorem Row.JZ(x:140):vk P w H W am:=by refine{x.dict,fun kv xc=>?_};obtain⟨p,_,h⟩:=nM x.all xc;rw[h.1];exact(h.2.1.same nB).pl
theorem Row.get(x:140){i:Nat}{p:oN}(e:all[i]?=some p):∃kv,am[i]?=some kv/\tU (cut D W H) l f g kv p:=by
 have hi:i<all.length:=(dH.mp e).1;have hk:i<am.length:=by rw[x.len];exact hi
 have ek:am[i]?=some am[i]:=bM hk;obtain⟨p',e',h⟩:=gg x.all ek;rw[e]at e';cases e';exact{_,ek,h}
theorem Row.oW(x:140):ah H0 H:=fun b o h=>nB _ _ (x.same _ _ h)
theorem Row.put(x:140){kv:Pl×Addr×Addr}{p:oN}(h:tU (cut D W H) l f g kv p):Row P w l f g H0 D W 559 (all++[p]) (am++[kv]):=by
 have Gc:W≠D:=fun z=>by have h1:=x.row;rw[<-z,x.dict]at h1;cases h1
 have e:cut D W 559=cut D W H:=by rw[nN,B6]
 refine{?_,?_,?_,?_};rw[aM];unfold rB;rw[bH];rfl;rw[ay Gc,aM];rw[e];exact x.same;rw[e];exact kE x.all h
theorem Row.ne{a:Addr}{o:HO}(x:140)(h:H a=none)(S:416)(h':H' a=some o):cut D W H' a=some o:=zI h' 993 979
theorem Row.tup{a:Addr}{xs:231}(x:140)(h:324 a 193):cut D W H a=some 193:=zI h 993 979
theorem Row.cells{a:Addr}{aZ:611}(x:140)(h:fC H a aZ):fC (cut D W H) a aZ:=by obtain⟨vs,e,r⟩:=h;exact{vs,x.tup e,bR (fun _ _ ⟨p,e1,e2⟩=>{p,e1,x.tup e2}) r}
end
theorem RP{l:34}{f:F}(h:cells f<=100):∀nd∈flat l f 0 0,nd.op.width<=1000:=fun nd hn=>by have:=(mL l f 0 0 nd hn).2;omega
def aiQ(P:aT)(w:aI)(K:Frag)(mg:95)(base:Heap)(CN:Addr):Sp:=fun vs H Q _=>∃(l:List Atom)(f g:F)(want:Bool->Bool->Bool)(al:List 33)(b:Nat)(lf lg ll fw:Addr)(fd:eW),
 vs=[.ref lf,.ref lg,.ref ll,.int (b:Int),.ref fw]/\dU CN H lf 721/\dU CN H lg (flat l g 0 0)/\j7 H ll al/\(∀r∈al,r.length=8)/\al.length<=27/\1<=b/\b<=200/\
 aE P w K mg base bj 1 fw fd ["truth","other"] (Cr want)/\oE K (.ref fw)=true/\Binds K fd ["truth","other"] []/\bT l f/\bT l g/\size f<=40/\size g<=40/\cells f<=100/\cells g<=100/\
 ∀H' D,ah H H'->H' D=some (80 ((told (582 al (b+1))).map V.int))->Q 118 H'
theorem lQ:bf ["nodes","others","letters","budget","is_wanted","start","row","ways","looked","place","letter","first","second","way","after"] ["nodes","others","letters","budget","is_wanted"] (a_ M_):=17
theorem ag6(T:65)(Dc:213):aE P w K mg base bj 5 T.Ci.a T.Ci.fd ["nodes","others","letters","budget","is_wanted"] (aiQ P w K mg base T.aJ):=by
 refine T.Ci.F.ok lQ 28 19;obtain⟨l,f,g,want,al,b,lf,lg,ll,fw,fd,rfl,_⟩:=h;rfl;obtain⟨l,f,g,want,al,b,lf,lg,ll,fw,fd,rfl,nf,ng,Co,a8,a27,b1,b2,Fw,IS,HB,af,ag,sf,sg,cf,cg,k⟩:=h
 refine(421 (aj (476 lQ.nd (dB (aa (442 T.uh (DJ T) 734) (38 (442 T.uh (DJ T) 483))))) (aj (933 lQ.nd (bp (38 663))) (aj (aQ (i:=7) lQ.nd rfl 18 (ah4 (Bg hr) 663 505)) (aj (aQ (i:=8) lQ.nd rfl 18 ap) (aj (C9 gY (73 tL (pv 8) 887) (aj (aQ (i:=9) lQ.nd rfl 18 (25 bD (pv 6) (pv 8))) (aj (419 (io 88) (cE (i:=10) lQ.nd rfl 18) (aj (aQ (i:=11) lQ.nd rfl 18 (442 T.vG (Gp T Dc) (aa 56 (aa (343 (pv 9)) (38 (pv 10)))))) (aj (aQ (i:=12) lQ.nd rfl 18 (442 T.vG (Gp T Dc) (845 (aa (343 (pv 9)) (38 (pv 10)))))) (aj (aQ (i:=13) lQ.nd rfl 18 (bQ jS (ZZ (Bg hr) (pv 7) (pv 9) 291) (bp (38 (pv 10))))) (aj (554 (gP (ahU (CX:=bj) (E:=E0) 602 oj 858)) (au (aF (442 T.Cb (Yt T) (38 (pv 13)))))) (aj (aQ (i:=14) lQ.nd rfl 18 (dB 858)) (au (554 (Ag (aa7 (Bg hr) (pv 14) (pv 7)) 77) (aj (adg (Bg hr) (pv 7) (pv 14) (pv 13) rfl) (au (cr (122 (pv 6) (38 (pv 14)))))))))))))) (aj (554 (73 mG 887 174) (au (aF (bp (38 (cF T.aif)))))) (au (Uh (i:=8) lQ.nd rfl 18 ap abG)))))) (au (aF (bp (aa ap (38 887)))))))))))
 have DC:=dX l f 0 0;have Br:=dX l g 0 0;refine{_,rfl,flat l f 0 0,lf,rfl,nf,by rw[DC];omega,RP cf,fun H1 c1 S1 f1 i1=>?_};refine{_,rfl,flat l g 0 0,lg,rfl,ng.same S1,by rw[Br];omega,RP cg,fun H2 c2 S2 f2 i2=>?_};refine{by show 2<=sizeLine;decide,fun p0 H3 S3 e3=>?_};rw[HF]at i1 i2;refine{_,rfl,by show 1<=sizeLine;decide,fun D H4 S4 f4 e4=>?_};intro Wd fW;refine{_,rfl,bA _,fun q0 H5 S5 f5 e5=>?_};rw[14,(547 415)];have vA:ah H4 H5:=fun b o h=>S5 _ _ (by rw[ay (bF h fW)];exact h);have fW3:H3 Wd=none:=fM S4 fW;have HY:ah H3 (cut D Wd H5):=fun b o h=>vJ vA _ _ (QQ S4 f4 fW3 _ _ h);have QH:rg H3 l f g p0 926 (fresh g):={c1,c2,e3,(i1.same S2).same S3,i2.same S3};refine{p0,q0,keyOf l f g 926 (fresh g),rfl,rfl,S5 _ _ aM,(QH.same fun b o h=>nB _ _ (HY _ _ h)).pl,?_};have nq:q0≠D/\q0≠Wd:=by refine{fun z=>?_,fun z=>?_};rw[z,ay (bF e4 fW),e4]at f5;cases f5;rw[z,aM]at f5;cases f5
 have R0:Row P w l f g H D Wd (upd H5 Wd (kH P w Wd [(keyOf l f g 926 (fresh g),p0,q0)])) (begin_ f g).all [(keyOf l f g 926 (fresh g),p0,q0)]:=by refine{?_,aM,?_,?_};rw[ay (bF e4 fW)];exact vA _ _ e4;rw[B6];exact fun b o h=>HY _ _ (751 h);rw[B6];exact 716 {rfl,QH.same HY,[],zI e5 nq.1 nq.2,.nil}
 refine{fun n σ H7=>∃(x:md)(am:iu)(y9 zp zh yL za yi:Option V),n=b+1-x.at_/\σ=[some (.ref lf),some (.ref lg),some (.ref ll),some (.int (b:Int)),some (.ref fw),some (.ref p0),some 118,some (.ref Wd),some (.int (x.at_:Int)),y9,zp,zh,yL,za,yi]/\Row P w l f g H D Wd H7 x.all am/\uu f g b x.at_ x/\x.at_<=x.all.length/\told (582 al (b+1))=told (k8 l f g al want b (b+1-x.at_) x),{_,begin_ f g,_,none,none,none,none,none,none,rfl,rfl,R0,?_,bA _,rfl},?_};refine{rfl,fun p hp=>?_,b1,fun p hp=>?_};rw[cM.mp hp];exact{CL f,DP f,CL g,DP g,fun r hr=>nomatch hr};rw[cM.mp hp];exact bA _;rintro m σ H7 ⟨x,am,y9,zp,zh,yL,za,yi,rfl,rfl,R,so,jr,kt⟩;refine{_,rfl,_,rfl,_,_,rfl,.inl (549 R.row),_,_,rfl,rfl,_,rfl,?_};rw[B0,R.len];have jU:=so.len;by_cases aY:x.at_<x.all.length;refine 633 (cK 23);obtain⟨p,hp⟩:∃p,x.all[x.at_]?=some p:={_,bM aY};obtain⟨⟨key,pa,qa⟩,xc,pat⟩:=R.get hp;have pK:=so.ok p (ej hp);have abt:=so.deep p (ej hp);have ms:(rB am)[x.at_]?=some (.ref pa):=by unfold rB;rw[d_,xc];rfl
 refine{_,rfl,_,rfl,D,_,_,.ref pa,rfl,rfl,R.row,dA ms,?_};obtain⟨va,M7,M0⟩:=Co;have lva:=bY M0;refine{_,rfl,ll,rfl,{_,aq.of (R.oW _ _ M7)},?_};refine pE (K:=_) (a:=ll) (xs:=va) (fun j σ H8=>∃(PJ:iu)(zp zh yL za yi:Option V),σ=[some (.ref lf),some (.ref lg),some (.ref ll),some (.int (b:Int)),some (.ref fw),some (.ref p0),some 118,some (.ref Wd),some (.int (x.at_:Int)),some (.ref pa),zp,zh,yL,za,yi]/\Row P w l f g H D Wd H8 (750 x).all PJ/\uu f g (b+j) (x.at_+1) (750 x)/\(key,pa,qa)∈PJ/\tU 740 l f g (key,pa,qa) p) {am,zp,zh,yL,za,yi,rfl,R,so.mono 23 23,ej xc,pat} (fun j σ H8 _ ⟨_,_,_,_,_,_,_,R8,_⟩=>aq.of (R8.oW _ _ M7)) (fun j v σ H8 hv p8=>?_) (fun σ H8 p8=>?_);obtain⟨nL,z10,z11,z12,z13,z14,rfl,R8,jW,BL,zj⟩:=p8;obtain⟨n,hn,rn,rfl,HN⟩:=gg M0 hv;have n8:=a8 n (ej hn);have hj:j<al.length:=(930 hn).1;have Js:(al.take (j+1)).foldl 115 x=tryStep l f g want p (750 x) n:=by rw[gx hn,m4];rfl
 have Vm:al.foldl 115 x=(al.drop (j+1)).foldl 115 (tryStep l f g want p (750 x) n):=by rw[<-Js,<-m4,WK]
 rw[Js];generalize(al.take j).foldl (tryStep l f g want p) x=y at R8 jW Js Vm;have Lv:=jW.len;have lk8:=R8.len;obtain⟨ek,⟨H_,Ix,BO,ic1,Zq⟩,⟨vw,Jw,MU⟩⟩:=id zj;have ek:key=keyOf l f g p.c p.d:=ek;have BO:cut D Wd H8 pa=some (.tup [.ref H_,.ref Ix]):=BO;have Jw:cut D Wd H8 qa=some (.lst vw):=Jw;have Uu:=bY MU;rw[ie]at Uu;have OU:ah 740 H8:=nB;obtain⟨w1,w2⟩:=F5 n af pK.c;obtain⟨w3,w4⟩:=F5 n ag pK.d;refine{_,rfl,_,rfl,pa,_,_,.ref H_,rfl,rfl,OU _ _ BO,dA (j:=0) rfl,_,rfl,flat l f 0 0,_,n,lf,H_,rn,rfl,nf.same R8.oW,ic1.same OU,R8.oW _ _ HN,n8,vK _ _,vW _ _,by rw[DC];omega,by rw[az],HG pK.c pK.cp 23,fun H9 r1 q1 S9 Gk SO=>?_};have R9:=R8.go S9;have Fi:ah 740 H9:=fun b o h=>S9 _ _ (nB _ _ h);refine{_,rfl,_,rfl,pa,_,_,.ref Ix,rfl,rfl,Fi _ _ BO,dA (j:=1) rfl,_,rfl,flat l g 0 0,_,n,lg,Ix,rn,rfl,ng.same R9.oW,Zq.same Fi,R9.oW _ _ HN,n8,vK _ _,vW _ _,by rw[Br];omega,by rw[az],HG pK.d pK.dp 23,fun eI r2 q2 fZ jp Oa=>?_};rw[w1]at Gk;rw[w2]at SO;rw[w3]at jp;rw[w4]at Oa;have Vu:=R9.go fZ;have UX:ah 740 eI:=fun b o h=>fZ _ _ (Fi _ _ h)
 refine{_,rfl,_,rfl,Wd,pa,nL,key,pa,qa,rfl,rfl,Vu.JZ,by rw[ek];exact(zj.2.1.same UX).pl,BL,?_};refine{_,rfl,by show 1<=sizeLine;decide,fun Dl jP qK B8 wn=>?_};have MN:=Vu.go qK;refine{qa,Dl,_,_,rfl,rfl,qK _ _ (UX _ _ Jw),wn,by rw[Uu,sizeLine_eq];show _+1<=_;omega,fun wa zN vv Av Es=>?_};have FE:=MN.go vv;have IZ:ah H9 zN:=fun b o h=>vv _ _ (qK _ _ (fZ _ _ h));have Dj:ah eI zN:=fun b o h=>vv _ _ (qK _ _ h);refine{_,rfl,fw,fd,_,_,1,rfl,Fw,hr.mono 23,IS,HB,_,rfl,r1,_,_,_,rfl,rfl,IZ _ _ Gk,dA (j:=0) rfl,_,rfl,r2,_,_,_,rfl,rfl,Dj _ _ jp,dA (j:=0) rfl,_,_,rfl,_,rfl,?_};have RF:ah 740 (cut D Wd zN):=vJ fun b o h=>Dj _ _ (fZ _ _ (S9 _ _ h));have RG:j7 (cut D Wd zN) wa (n::p.way).reverse:=by rw[K2];exact{_,MN.ne Av vv Es,kE (bR (466 RF) MU) {rn,rfl,FE.same _ _ HN}}
 cases hw:want (Vbavaf.watch f (nowOf l n) p.c).1 (Vbavaf.watch g (nowOf l n) p.d).1 with|true=>refine aS rfl {_,rfl,wa,(n::p.way).reverse,rfl,RG.same nB,by rw[ie,aR];omega,fun r f_=>(HZ (l:=l) pK n8).way r (E9.mp f_),fun mj D13 gh f13 Ac=>k mj D13 (116 gh (FE.oW _ _ h)) ?_};rw[Ac,kt];congr 2;obtain⟨fu,z9⟩:∃fu,b+1-x.at_=fu+1+1:={b-x.at_-1,by omega};rw[z9,UL so.way hp];ext:0;rw[Vm,Yr jW.way hw,OI rfl,if_neg (393 kX (69 z.1)),agP rfl];show _=(0::((n::p.way).length:Int)::(n::p.way).reverse.flatMap fun r=>r).map V.int;rw[ie]|false=>refine 533;refine{_,rfl,r1,_,_,.ref q1,rfl,rfl,IZ _ _ Gk,dA (j:=1) rfl,_,rfl,r2,_,_,.ref q2,rfl,rfl,Dj _ _ jp,dA (j:=1) rfl,by show 2<=sizeLine;decide,fun pn mj gh Ac=>?_};have mh:=FE.go gh;have Yn:ah H9 mj:=fun b o h=>gh _ _ (IZ _ _ h);have afj:ah eI mj:=fun b o h=>gh _ _ (Dj _ _ h);have Jp:rg (cut D Wd mj) l f g pn 564 565:={q1,q2,mh.tup Ac,mh.cells (SO.same Yn),mh.cells (Oa.same afj)};refine{_,rfl,_,rfl,Wd,pn,nL,keyOf l f g 564 565,rfl,rfl,mh.JZ,(Jp.same nB).pl,fun t ht=>735};have ao:=HZ (l:=l) pK n8;have hi:=ahz (l:=l) jW.ok ao.c ao.d;rw[<-mh.keys]at hi;have NO:ah 740 (cut D Wd mj):=fun b o h=>vJ gh _ _ (RF _ _ h);cases hh:has y.all (fE l f p.c n) (fE l g p.d n)with|true=>refine aU (393 (ht.mp z) (hi.mp hh)) ?_;rw[Zi jW.way hw hh];exact{nL,_,_,_,_,_,rfl,mh,jW.mono 23 23,BL,zj.same NO}|false=>(have nk:keyOf l f g 564 565∉jE nL:=fun z=>by have:=hi.mpr z;rw[hh]at this;cases this);refine aS (ht.mpr nk) ?_;(have sl:nL.length<sizeLine:=by rw[lk8,sizeLine_eq];omega);refine{_,rfl,_,rfl,_,rfl,Wd,pn,wa,nL,_,rfl,rfl,rfl,mh.JZ,(Jp.same nB).pl,nk,sl,?_};(have Gc:D≠Wd:=fun z=>by have h1:=mh.row;rw[z,mh.dict]at h1;cases h1);(have OT:upd mj Wd (kH P w Wd (nL++[(keyOf l f g 564 565,pn,wa)])) D=some (80 (rB nL)):=by rw[ay Gc];exact mh.row);refine{_,rfl,.inl (142 OT),_,rfl,D,_,_,rfl,rfl,OT,by rw[B0];exact sl,?_};rw[ac2 jW.way hw hh];have Rn:=mh.put (kv:=(keyOf l f g 564 565,pn,wa)) (p:={c:=fE l f p.c n,d:=fE l g p.d n,way:=n::p.way}) {rfl,Jp,RG.same (vJ gh)};exact{_,_,_,_,_,_,rfl,Rn,aa5 jW pK abt n8,rO _ BL,by rw[nN,B6];exact zj.same NO}
 obtain⟨nL,z10,z11,z12,z13,z14,rfl,R8,jW,BL,zj⟩:=p8;rw[lva,gW]at R8 jW;refine{_,rfl,_,_,rfl,.inl (549 R8.row),_,rfl,_,_,rfl,rfl,_,rfl,?_};rw[B0,R8.len];obtain⟨fu,z9⟩:∃fu,b+1-x.at_=fu+1:={b-x.at_,by omega};rw[z9,UL so.way hp]at kt;dsimp only at kt;by_cases hb:b<(al.foldl 115 x).all.length;rw[if_pos {by rw[jW.way];rfl,hb}]at kt;refine aS (cK 23) {by show 1<=sizeLine;decide,fun D9 H9 S9 f9 e9=>k H9 D9 (116 S9 (R8.oW _ _ h)) ?_};rw[e9,kt];rfl;rw[if_neg (393 hb z.2)]at kt;refine 572;refine 486;refine{b+1-(x.at_+1),by omega,{al.foldl 115 x with at_:=x.at_+1},nL,_,_,_,_,_,_,rfl,rfl,R8,{jW.way,jW.ok,by show(al.foldl 115 x).all.length<=b;omega,jW.deep},?_,?_};have:=Rf (l:=l) (f:=f) (g:=g) (want:=want) (p:=p) al x;show x.at_+1<=(al.foldl 115 x).all.length;omega;rw[kt];congr 2;show fu=b+1-(x.at_+1);omega;refine 572;have pP:x.all[x.at_]?=none:=kW 23;obtain⟨fu,z9⟩:∃fu,b+1-x.at_=fu+1:={b-x.at_,by omega};rw[z9,Yv so.way pP]at kt
 refine{_,rfl,_,_,rfl,.inl (549 R.row),by show 2<=sizeLine;decide,fun D9 H9 S9 f9 e9=>k H9 D9 (116 S9 (R.oW _ _ h)) ?_};rw[e9,kt,B0,R.len];unfold Vbavaf.told;ext:0;rw[so.way];rfl
end
section
open Vbavaf (F Atom Watcher)
theorem boot_str:gS "str"=some (.type "str"):=by decide+kernel
def dy(n:Int):Str:=((toString n:String):Str)
def jz(o:Op):List Str:=match o with
 |.once a b|.always a b|.since a b=>(match b with
  |none=>[("[":String),dy a,(",":String),("]":String)]
  |some n=>[("[":String),dy a,(",":String),dy n,("]":String)])
 |o=>o.nums.map dy
def Op.small:Op->Prop:=fun o=>∀n∈o.nums,n.natAbs.log2<1920
def pH(a:Nat):Option Nat->List Str
 |none=>[("[":String),dy a,(",":String),("]":String)]
 |some n=>[("[":String),dy a,(",":String),dy n,("]":String)]
theorem agR(o:Op):(o.kind∉[(("once":String):Str),(("always":String):Str),(("since":String):Str)]/\jz o=o.nums.map dy)\/(o.kind∈[(("once":String):Str),(("always":String):Str),(("since":String):Str)]/\∃(a:Nat)(b:Option Nat),o.nums=[(a:Int),endOf b]/\jz o=pH a b):=by cases o with|once a b=>exact 251|always a b=>exact 251|since a b=>exact 251|_=>exact .inl {by dsimp only[Op.kind];decide+kernel,rfl}
def agF(C:Addr):Sp:=fun vs H Q _=>∃(nd:Nd)(a dx pn pp:Addr),vs=[.ref a]/\jt C H a nd dx pn pp/\nd.op.small/\∀H' D,ah H H'->H D=none->H' D=some (80 ((jz nd.op).map V.str))->Q 118 H'
theorem GF:bf ["node","numbers","number"] ["node"] (a_ U9):=17
theorem ahj(T:65):aE P w K mg base bj 1 T.DU.a T.DU.fd ["node"] (agF T.aJ):=by
 refine T.DU.F.ok GF 28 19;obtain⟨nd,a,dx,pn,pp,rfl,_⟩:=h;rfl;obtain⟨nd,a,dx,pn,pp,rfl,N,sm,k⟩:=h;refine(421 (aj (wQ (i:=1) rfl GF.nd rfl rfl rfl (ym (aX T.cq T.gz 56)) (own:=[("number",2)]) 20 (46 (264 GF.nd)) 645 (46 (qW G0 rfl T.HM boot_str 336))) (aj (554 (bh YF (424 56) (oh T.qi.m) 77) 892) (aj (554 (73 cD 104 924) (au (aF (bp (aa cu (aa 66 (aa cu (38 cu)))))))) (au (aF 816))))))
 refine{_,rfl,a,dx,_,_,rfl,N.at_,rfl,pn,rfl,{_,bC.of N.nums},fun D fD=>?_};refine zD (xs:=nd.op.nums.map V.int) (fun _ x y=>∃n:Int,x=V.int n/\y=.str (dy n)) fD 134 (847 (S _ _ N.nums)) (by rw[az,sizeLine_eq];cases nd.op<;>simp[Op.nums]) 567 (fun H1 ys S1 e1 p1=>?_);obtain⟨n,hn,rfl⟩:=dJ.mp hx;exact{_,rfl,n,rfl,sm n hn,q _ _ ah.refl ⟨n,rfl,rfl⟩};have ey:ys=(nd.op.nums.map dy).map V.str:=by rw[gq];exact zn (xs:=nd.op.nums) (g:=V.int) (f:=fun n=>.str (dy n)) p1 (fun p q e=>V.int.inj e)
 subst ey;have N1:=N.same S1;refine{_,rfl,a,dx,_,_,rfl,N1.at_,rfl,T.qi.a,_,rfl,.inr (T.qi.sq _),rfl,rfl,_,rfl,?_};rw[if_pos rfl,DD];obtain⟨o,ps,st⟩:=nd;dsimp only at N1 e1 k⊢;rcases agR o with⟨hk,he⟩|⟨hk,wa,wb,hn,he⟩;refine aS (by rw[gn hk];rfl) 735;rw[he]at k;exact k H1 D S1 fD e1;rw[12,(by rw[cK hk];decide)];have kn:=N1.nums;dsimp only at kn;rw[hn]at kn e1;refine{_,rfl,a,dx,_,_,rfl,N1.at_,rfl,pn,_,_,.int (endOf wb),rfl,rfl,kn,dA (j:=1) rfl,rfl,_,rfl,?_};rw[he]at k;cases wb with|none=>refine aS 29 {_,rfl,D,_,_,.str (dy wa),rfl,rfl,e1,dA (j:=0) rfl,by show 4<=sizeLine;decide,fun D2 H2 S2 f2 e2=>k H2 D2 (116 S2 415) (fM S1 f2) e2}|some n=>refine aU (by rw[Hm];decide) {_,rfl,D,_,_,.str (dy wa),rfl,rfl,e1,dA (j:=0) rfl,_,rfl,D,_,_,.str (dy n),rfl,rfl,e1,dA (j:=1) rfl,by show 5<=sizeLine;decide,fun D2 H2 S2 f2 e2=>k H2 D2 (116 S2 415) (fM S1 f2) e2}
end
section
open Vbavaf (F Atom Watcher)
def around(o:Op)(ps:132):List Str:=match o with
 |.cmp x op n=>[(("x":String):Str)++dy x,jn.getD op ("":String),dy n]
 |.and=>[("(":String),ps.getD 0 ("":String),("and":String),ps.getD 1 ("":String),(")":String)]
 |.or=>[("(":String),ps.getD 0 ("":String),("or":String),ps.getD 1 ("":String),(")":String)]
 |.since a b=>(Op.since a b).kind::jz 389++([("(":String),ps.getD 0 ("":String),(",":String),ps.getD 1 ("":String),(")":String)]:132)
 |o=>o.kind::jz o++ps
theorem ag4(o:Op):(jz o).length<=5:=by cases o with|once a b=>(cases b with|none=>exact 767|some n=>exact 768)|always a b=>(cases b with|none=>exact 767|some n=>exact 768)|since a b=>(cases b with|none=>exact 767|some n=>exact 768)|_=>simp[jz,Op.nums]
theorem aeY(o:Op)(h1:o≠.and)(h2:o≠.or):V.str o.kind≠V.str ("and":String)/\V.str o.kind≠V.str ("or":String):=by cases o with|and=>exact 89 rfl h1|or=>exact 89 rfl h2|_=>exact{fun z=>absurd 891 510,fun z=>absurd 891 510}
def afQ(C:Addr):Sp:=fun vs H Q _=>∃(nd:Nd)(a dx pn pp l:Addr)(ps:List Str),vs=[.ref a,.ref l]/\jt C H a nd dx pn pp/\nd.op.small/\H l=some (80 (ps.map V.str))/\ps.length=nd.op.arity/\(∀n∈nd.op.nums,(dy n).length<=1000)/\∀H' D,ah H H'->H D=none->H' D=some (80 ((around nd.op ps).map V.str))->Q 118 H'
theorem RJ:bf ["node","parts","ahead"] ["node","parts"] (a_ QD):=17
theorem agK(T:65):aE P w K mg base bj 2 T.Cd.a T.Cd.fd ["node","parts"] (afQ T.aJ):=by
 refine T.Cd.F.ok RJ 28 19;obtain⟨nd,a,dx,pn,pp,l,ps,rfl,_⟩:=h;rfl;obtain⟨nd,a,dx,pn,pp,l,ps,rfl,N,sm,hl,ar,sl,k⟩:=h
 refine(421 (aj (554 (73 cD (424 56) (o6 T.BG)) (au (aF (bp (aa (bQ acp cu 574) (aa (25 Tf (oh T.mK.m) 104) (38 574))))))) (aj (554 (PW.pt (lD 151 (mU 151))) (au (aF (bp (aa cu (aa 66 (aa (424 56) (aa 66 (38 cu))))))))) (aj (90 RJ.nd (bQ jS (bp (38 (424 56))) (442 T.DU (ahj T) 734))) (aj (554 151 (au (aF (bQ jS 88 816)))) (au (aF (bQ jS 88 179))))))))
 refine(398 N.at_);rw[show decide (V.str nd.op.kind=V.str ("compare":String))=nd.op.m8 from Tw nd.op]
 cases hc:nd.op.m8 with|true=>(obtain⟨o,I_,st⟩:=nd;dsimp only at hc N sm ar sl k;cases o with|cmp x op n=>obtain⟨O4,wM⟩:=(show x<8/\op<6 from N.wf);have kn:H pn=some (.tup [.int (x:Int),.int (op:Int),.int n]):=N.nums;refine aS rfl {_,rfl,a,dx,_,_,rfl,N.at_,rfl,pn,_,_,_,rfl,rfl,kn,dA (j:=0) rfl,_,rfl,sm x 260,_,_,rfl,rfl,?_,?_};(have h1:(("x":String):Str).length=1:=by decide);have h2:=sl x 260;unfold dy at h2;rw[h1,sizeLine_eq];omega;refine{_,rfl,a,dx,_,_,rfl,N.at_,rfl,pn,_,_,_,rfl,rfl,kn,dA (j:=1) rfl,T.mK.a,_,(op:Int),.str (jn.getD op ("":String)),rfl,rfl,T.mK.sq _,?_,?_};exact wP (f:=V.str) (d:=(("":String):Str)) (xs:=jn) wM;refine{_,rfl,a,dx,_,_,rfl,N.at_,rfl,pn,_,_,_,rfl,rfl,kn,dA (j:=2) rfl,n,rfl,sm n 260,by show 3<=sizeLine;decide,fun D H1 S1 f1 e1=>k H1 D S1 f1 e1}|_=>cases hc)|false=>refine 533;obtain⟨o,I_,st⟩:=nd;dsimp only at hc N sm ar sl k;refine(398 N.at_);by_cases hj:o=.and\/o=.or;(obtain⟨p0,p1,rfl⟩:∃p0 p1,ps=[p0,p1]:=by(have:ps.length=2:=by rcases hj with z|z<;>rw[ar,z]<;>rfl);match ps,this with|[x,y],_=>exact⟨x,y,rfl⟩);(have body:∀(o:Op),jt T.aJ H a ⟨o,I_,st⟩ dx pn pp->(∀H' D,ah H H'->H D=none->H' D=some (.lst [V.str ("(":String),.str p0,.str o.kind,.str p1,.str (")":String)])->Q 118 H')->L8 (L4 (pM (tC (V.str (kT "("))) (pM (wW rL (qu 1) (tC (V.int 0))) (pM (tF T.aJ (qu 0) (kT "kind")) (pM (wW rL (qu 1) (tC (V.int 1))) (pM (tC (V.str (kT ")"))) qR)))))) {nx:=fun x H'=>Q V.bo H',rt:=Q} (L2.start [kT "node",kT "parts",kT "ahead"] [V.ref a,V.ref l]) H:=by intro o N kk;exact{_,rfl,l,_,_,.str p0,rfl,rfl,hl,dA (j:=0) rfl,_,rfl,a,dx,_,_,rfl,N.at_,rfl,_,rfl,l,_,_,.str p1,rfl,rfl,hl,dA (j:=1) rfl,by show 5<=sizeLine;decide,fun D H1 S1 f1 e1=>kk H1 D S1 f1 e1});rcases hj with rfl|rfl;exact aS (show decide (V.str Op.and.kind=V.str ("and":String))=true by decide+kernel) (aS rfl (body .and N k));exact aU (show¬decide (V.str Op.or.kind=V.str ("and":String))=true by decide+kernel) {_,rfl,a,dx,_,_,rfl,N.at_,rfl,rfl,_,rfl,aS (show decide (V.str Op.or.kind=V.str ("or":String))=true by decide+kernel) (body .or N k)};rw[not_or]at hj;obtain⟨ka,ko⟩:=aeY o hj.1 hj.2;refine aU (by rw[bg];exact ka) {_,rfl,a,dx,_,_,rfl,N.at_,rfl,rfl,_,rfl,aU (by rw[bg];exact ko) ?_};refine{_,rfl,a,dx,_,_,rfl,N.at_,rfl,by show 1<=sizeLine;decide,fun D1 H1 S1 f1 e1=>?_};refine{_,rfl,⟨o,I_,st⟩,a,dx,pn,pp,rfl,N.same S1,sm,fun H2 D2 S2 f2 e2=>?_};dsimp only at e2;have nl:=ag4 o;refine{D1,D2,_,_,rfl,rfl,S2 _ _ e1,e2,by rw[az,sizeLine_eq];show 1+_<=_;omega,fun D3 H3 S3 f3 e3=>?_};rw[14,(547 415)];have N3:=N.same b5;have Hc:=b5 _ _ hl;have fr:∀{b:Addr},H3 b=none->H b=none:=fun h=>fM b5 h;refine(398 N3.at_);by_cases hs:∃wa wb,o=.since wa wb;obtain⟨wa,wb,rfl⟩:=hs;(obtain⟨p0,p1,rfl⟩:∃p0 p1,ps=[p0,p1]:=by match ps,ar with|[x,y],_=>exact⟨x,y,rfl⟩);refine aS (Du.mpr ⟨wa,wb,rfl⟩) {_,rfl,_,rfl,l,_,_,.str p0,rfl,rfl,Hc,dA (j:=0) rfl,_,rfl,l,_,_,.str p1,rfl,rfl,Hc,dA (j:=1) rfl,by show 5<=sizeLine;decide,fun D4 H4 S4 f4 e4=>?_};refine{D3,D4,_,_,rfl,rfl,S4 _ _ e3,e4,by rw[bw,az,sizeLine_eq];show 1+_+5<=_;omega,fun D5 H5 S5 f5 e5=>k H5 D5 (116 S5 (S4 _ _ (751 h))) (fr (fM S4 f5)) ?_};rw[e5];show _=some (HO.lst ((_::jz (.since wa wb)++_).map V.str));rw[bH,bL];rfl;refine aU (393 hs (Du.mp z)) {_,rfl,_,rfl,D3,l,_,_,rfl,rfl,e3,Hc,by rw[bw,az,az,ar,sizeLine_eq];have:=vY o;show 1+_+_<=_;omega,fun D5 H5 S5 f5 e5=>k H5 D5 (116 S5 (751 h)) (fr f5) ?_};(have ea:around o ps=o.kind::jz o++ps:=by cases o with|cmp x op n=>cases hc|and=>exact 89 rfl hj.1|or=>exact 89 rfl hj.2|since wa wb=>exact 89 ⟨wa,wb,rfl⟩ hs|_=>rfl);rw[e5,ea,bH,bL];rfl
end
section
open Vbavaf (F Atom Watcher)
theorem G7{α:Type}(d:α)(G:570):∀(ac:List Nd)(acc:List α),(fV d G ac acc).length=acc.length+ac.length
 |[],_=>rfl
 |nd::t,acc=>by show(fV d G t _).length=_;rw[G7 d G t,bw];show acc.length+1+t.length=acc.length+(t.length+1);omega
theorem ady{α:Type}(d:α)(G:570)(ac:277)(nd:Nd)(acc:612):fV d G (ac++[nd]) acc=fV d G ac acc++[G nd.op (nd.parts.map fun p=>(fV d G ac acc).getD p d)]:=by rw[vc];rfl
def e_:Str:=("":String)
def br(o:Op)(ps:132):Str:=EN (" ":String) (around o ps)
def jx(ac:277):List Str:=fV e_ br ac []
def wV(ac:277)(i:Nat)(nd:Nd):List Str:=nd.parts.map fun p=>(jx 225).getD p e_
def Short(ac:277):Prop:=∀i nd,ac[i]?=some nd->((around nd.op (wV ac i nd)).map (·.length)).sum+(around nd.op (wV ac i nd)).length<=100000
def Zu(C:Addr):Sp:=fun vs H Q _=>∃(ac:List Nd)(l:Addr),vs=[.ref l]/\dU C H l ac/\zb ac/\ac≠[]/\ac.length<=1000/\(∀nd∈ac,nd.op.small/\∀n∈nd.op.nums,(dy n).length<=1000)/\Short ac/\∀H',ah H H'->Q (.str ((jx ac).getLast?.getD e_)) H'
theorem wA:bf ["nodes","forms","node","words","part"] ["nodes"] (a_ Sf):=17
theorem ae3(T:65):aE P w K mg base bj 3 T.CS.a T.CS.fd ["nodes"] (Zu T.aJ):=by
 refine T.CS.F.ok wA 28 19;ext:129;obtain⟨ac,l,rfl,⟨vs,hl,pn⟩,po,ne,sz,sm,sh,k⟩:=h;refine(421 (aj (184 wA.nd 505) (aj (419 (io 56) (264 wA.nd) (aj (92 wA.nd (442 T.Cd (agK T) (aa 88 (38 (j6 rfl wA.nd (ym (aX T.cq T.yM 88)) (own:=[("part",4)]) 20 (46 (352 wA.nd)) 645 (46 (25 bD 179 602))))))) (au (cr (122 179 (38 (dQ PySem.F.plainAttrs_str PySem.F.slot_str_join PySem.F.type_str_join adD cu 454))))))) (au (aF (605 179))))));refine 180
 refine 176;ext:35;refine pE (K:=_) (a:=l) (xs:=vs) (fun i σ H2=>ah H H2/\H2 D=some (80 ((jx 225).map V.str))/\∃x y,σ=[some 283,some 118,x,y,none]) 944 244 323 366;obtain⟨S2,e2,y,y2,rfl⟩:=p;rw[6,hi];have N:=N0.same S2;ext:72;have al:(jx 225).length=i:=by unfold jx;rw[G7,bU];simp;omega
 obtain⟨s1,s2⟩:=sm nd (ej cV);refine{_,rfl,_,rfl,a,dx,_,_,rfl,N.at_,rfl,pp,rfl,{_,bC.of N.parts},fun D2 f2=>?_};rw[13,(fun _ x y=>∃p:Nat,x=V.int (p:Int)/\y=V.str ((jx 225).getD p e_))];ext:38;exact{_,rfl,_,rfl,D,_,_,_,rfl,rfl,S _ _ e2,wP (f:=V.str) (d:=e_) 23,q _ _ ah.refl ⟨p,rfl,rfl⟩};have ey:ys=(wV ac i nd).map V.str:=by rw[zn (xs:=nd.parts) (g:=fun(n:Nat)=>V.int (n:Int)) (f:=fun p=>V.str ((jx 225).getD p e_)) p 498,wV,gq];rfl
 rw[ey]at e3;have pl:(wV ac i nd).length=nd.op.arity:=by rw[wV,az];exact(730 i).1
 refine{nd,a,dx,iD,pp,D2,_,rfl,N.same S3,s1,e3,pl,s2,fun H4 D4 S4 f4 e4=>?_};have NT:=S4 _ _ (632 e2);have hsh:=sh i nd cV;refine{_,rfl,.inl (142 NT),rfl,_,rfl,_,D4,_,rfl,rfl,.inl (549 e4),?_,D,_,_,rfl,rfl,NT,?_,?_};have h1:((" ":String):Str).length=1:=by decide
 rw[h1];omega;rw[az,al,sizeLine_eq];omega;refine{fun b o q=>?_,?_,_,_,rfl};rw[ay (bF q f1)];exact S4 _ _ (632 (547 q));rw[aM,gx cV];unfold jx;rw[ady,bH];rfl;obtain⟨S2,e2,y,y2,rfl⟩:=p;rw[bK,gW]at e2;have kk:=k H2 S2;obtain⟨L,z,eL⟩:∃L z,jx ac=L++[z]:=by(have cC:jx ac≠[]:=fun e=>by have:=G7 e_ br ac [];rw[show fV e_ br ac []=[]from e]at this;simp at this;exact ne (uP.mp this.symm));exact{_,_,(E4 cC).symm}
 rw[eL]at kk e2;rw[oK]at kk;rw[bH]at e2;exact 908
end
end PC
namespace PC
open PySem PySem.Spec
open Vbavaf (F Atom parted Bytes)
def bS(s:Str):List Nat:=s.cps.toList
theorem ae7(a b:Str):bS (a++b)=bS a++bS b:=by show(a.cps++b.cps).toList=_;simp[bS]
theorem xj{w:Bytes}{r:39}(h:r≠[]):parted (w::r)=w++(32::parted r):=by cases r with|nil=>exact 89 rfl h|cons x t=>rfl
theorem EB:∀{a b:List Bytes},a≠[]->b≠[]->parted (a++b)=parted a++(32::parted b)
 |[],_,h,_=>absurd rfl h
 |[w],b,_,hb=>by rw[List.singleton_append,xj hb];rfl
 |w::x::t,b,_,hb=>by show parted (w::((x::t)++b))=_;rw[xj (show(x::t)++b≠[] by simp),EB (a:=x::t) 42 hb,xj (w:=w) (r:=x::t) 42];simp
theorem LU:∀(w:Bytes)(t:List Bytes),parted (w::t)=w++t.flatMap fun p=>32::p
 |w,[]=>by show w=w++[];rw[fN]
 |w,x::t=>by rw[xj 42,LU x t];rfl
theorem Rx:∀(t:List Str)(acc:Array Nat),(t.foldl 743 acc).toList=acc.toList++(t.map bS).flatMap fun p=>32::p
 |[],acc=>by simp
 |p::t,acc=>by(have e:(((" ":String):Str)).cps.toList=[32]:=by decide);rw[p6,Rx t,bL,K0,ajY,ajY,e];simp[bS]
theorem BA{ys:132}(h:ys≠[]):bS (EN ((" ":String):Str) ys)=parted (ys.map bS):=by cases ys with|nil=>exact 89 rfl h|cons w t=>show(t.foldl 743 w.cps).toList=_;rw[Rx,bL,LU];rfl
theorem fO(s:String):bS (s:Str)=Fc s:=by unfold bS;rw[Str.ofString_eq_toList];rfl
theorem s_(n:Int):bS (dy n)=Vbavaf.decI n:=fO _
theorem HU{a b:39}{f:39}(hf:f≠[]):parted (a++parted f::b)=parted (a++(f++b)):=by
 have one:∀b:List Bytes,parted (parted f::b)=parted (f++b):=by intro b;cases b with|nil=>rw[fN];rfl|cons x t=>rw[xj 42,EB hf 42]
 cases a with|nil=>exact one b|cons w t=>rw[EB (a:=w::t) (b:=parted f::b) 42 42,one b,EB (a:=w::t) (b:=f++b) 42 (fun z=>hf (List.append_eq_nil_iff.mp z).1)]
end PC
namespace PC
open PySem PySem.Spec
open Vbavaf (F Atom parted Bytes windowWords text dec decI)
theorem lC(l:34):∀f:F,bT l f->K7 l f≠[]:=by intro f h;cases f with|atom i=>have hi:i<l.length:=h;show 901≠[];rw[bM hi];simp[WL]|_=>simp[K7]
theorem G9(a:Nat)(b:305):(pH a b).map bS=Fd a b:=by cases b with|none=>show[bS _,bS _,bS _,bS _]=_;rw[s_,fO,fO,fO];rfl|some n=>show[bS _,bS _,bS _,bS _,bS _]=_;rw[s_,s_,fO,fO,fO];rfl
theorem Yg:∀x:Nat,x<8->bS ((("x":String):Str)++dy (x:Int))=[120,48+x]:=by
 intro x h;have:x=0\/x=1\/x=2\/x=3\/x=4\/x=5\/x=6\/x=7:=by omega
 rcases this with z|z|z|z|z|z|z|z<;>subst z<;>decide+kernel
theorem acy:∀op:Nat,op<6->bS (jn.getD op (("":String):Str))=Vbavaf.OPS.getD op []:=by
 intro x h;have:x=0\/x=1\/x=2\/x=3\/x=4\/x=5:=by omega
 rcases this with z|z|z|z|z|z<;>subst z<;>decide+kernel
theorem wy{o:Op}{v:Str}{pre fw:39}(h:(around o [v]).map bS=pre++[bS v])(hn:around o [v]≠[])(hv:bS v=parted fw)(hf:fw≠[]):bS (br o [v])=parted (pre++fw):=by unfold br;rw[BA hn,h,hv,HU hf,fN]
theorem GO{o:Op}{v u:Str}{pre mid post fw gw:39}(h:(around o [v,u]).map bS=pre++bS v::(mid++bS u::post))(hn:around o [v,u]≠[])(hv:bS v=parted fw)(hu:bS u=parted gw)(hf:fw≠[])(hg:gw≠[]):bS (br o [v,u])=parted (pre++(fw++(mid++(gw++post)))):=by unfold br;rw[BA hn,h,hv,hu,HU hf];have:=HU (a:=pre++(fw++mid)) (b:=post) hg;simp only[gp]at this⊢;ext:64
theorem WW{l:34}(aw:∀a∈l,rG a):∀f:F,bT l f->bS (717 f)=parted (K7 l f):=by
 intro f
 induction f with|const b=>(intro _;cases b with|true=>exact(show bS (br .tt [])=parted [text "true"] by decide+kernel)|false=>exact(show bS (br .ff [])=parted [text "false"] by decide+kernel))|atom i=>intro h;have hi:i<l.length:=h;have hw:=aw l[i] (uS hi);show bS (br (dE l i) [])=parted 901;unfold dE;rw[bM hi];show bS (EN _ [_,_,_])=parted [_,_,_];rw[BA 42,bL,bL,bL,lY,Yg _ hw.1,acy _ hw.2.1,s_]|not f ih=>intro h;exact wy (o:=.not) (pre:=[text "not"]) (by show[bS _,bS _]=_;rw[show Op.kind .not=(("not":String):Str)from rfl,fO];rfl) 313 (ih h) (lC l f h)|prev f ih=>intro h;exact wy (o:=.prev) (pre:=[text "prev"]) (by show[bS _,bS _]=_;rw[show Op.kind .prev=(("prev":String):Str)from rfl,fO];rfl) 313 (ih h) (lC l f h)|rose f ih=>intro h;exact wy (o:=.rose) (pre:=[text "rose"]) (by show[bS _,bS _]=_;rw[show Op.kind .rose=(("rose":String):Str)from rfl,fO];rfl) 313 (ih h) (lC l f h)|once a b f ih=>intro h;(have e:(around 406 [aK l br f]).map bS=(text "once"::Fd a b)++[bS (717 f)]:=by rw[<-G9,show around 406 [aK l br f]=(("once":String):Str)::pH a b++[aK l br f]from by cases b<;>rfl,bH,bL,fO];rfl);exact 748|always a b f ih=>intro h;(have e:(around 296 [aK l br f]).map bS=(text "always"::Fd a b)++[bS (717 f)]:=by rw[<-G9,show around 296 [aK l br f]=(("always":String):Str)::pH a b++[aK l br f]from by cases b<;>rfl,bH,bL,fO];rfl);exact 748|count k n f ih=>intro h;(have e:(around (948 k n) [aK l br f]).map bS=[text "count",dec k,dec n]++[bS (717 f)]:=by show[bS _,bS _,bS _,bS _]=_;rw[s_,s_,show Op.kind (948 k n)=(("count":String):Str)from rfl,fO];rfl);exact 748|and f g ih aP=>intro h;(have e:(around .and [aK l br f,aK l br g]).map bS=[[40]]++bS (717 f)::([text "and"]++bS (717 g)::[[41]]):=by show[bS _,bS _,bS _,bS _,bS _]=_;rw[fO,fO,fO];rfl);exact 681|or f g ih aP=>intro h;(have e:(around .or [aK l br f,aK l br g]).map bS=[[40]]++bS (717 f)::([text "or"]++bS (717 g)::[[41]]):=by show[bS _,bS _,bS _,bS _,bS _]=_;rw[fO,fO,fO];rfl);exact 681|since a b f g ih aP=>intro h;(have e:(around 389 [aK l br f,aK l br g]).map bS=(text "since"::(Fd a b++[[40]]))++bS (717 f)::([[44]]++bS (717 g)::[[41]]):=by rw[<-G9,show around 389 [aK l br f,aK l br g]=(("since":String):Str)::pH a b++([("(":String),aK l br f,(",":String),aK l br g,(")":String)]:132)from by cases b<;>rfl,bH,bL,fO];show _++[bS _,bS _,bS _,bS _,bS _]=_;rw[fO,fO,fO];simp;exact{by decide,by decide,by decide});have:=GO e 313 (ih h.1) (aP h.2) (lC l f h.1) (lC l g h.2);show bS (br 389 [aK l br f,aK l br g])=_;simpa[K7]using this
theorem T8{l:34}(aw:∀a∈l,rG a){f:F}(h:bT l f):bS ((jx 721).getLast?.getD e_)=K8 l f:=by obtain⟨mid,e,_⟩:=rK l e_ br f 0 0 [] rfl;unfold jx;rw[e,oK];exact WW aw f h
end PC
namespace PC
open PySem PySem.Spec
open Vbavaf (F Atom parted Bytes size)
theorem mS(s:Str):(bS s).length=s.length:=jk
theorem Vd{m:Nat}(h:m<=1000000):(toString m).toList.length<=7:=by show m.repr.toList.length<=7;rw[Nat.toList_repr];exact(Nat.length_toDigits_le_iff 29 29).mpr 23
theorem abl{n:Int}(h:n.natAbs<=1000000):(dy n).length<=8:=by rw[<-mS,s_];show((toString n).toList.map _).length<=8;rw[az];cases n with|ofNat m=>show(toString m).toList.length<=8;have:=Vd (m:=m) h;omega|negSucc m=>show("-"++toString (m+1)).toList.length<=8;have:=Vd (m:=m+1) h;rw[String.toList_append,bw];(have:("-":String).toList.length=1:=by decide);omega
def wl(ws:132):Nat:=(ws.map (·.length)).sum+ws.length
theorem jJ:wl []=0:=rfl
theorem cH(x:Str)(t:132):wl (x::t)=x.length+1+wl t:=by unfold wl;rw[bL,xF,aR];omega
theorem LM(a b:132):wl (a++b)=wl a+wl b:=by unfold wl;rw[bH,ma,bw];omega
theorem aiJ:∀{ws:List Str},ws≠[]->(EN ((" ":String):Str) ws).length+1=wl ws:=by
 have key:∀ws:List Str,ws≠[]->(parted (ws.map bS)).length+1=wl ws:=by intro ws;induction ws with|nil=>intro h;exact 89 rfl h|cons w t ih=>intro _;cases t with|nil=>show(bS w).length+1=_;rw[cH,mS,jJ]|cons x r=>rw[bL,xj 42,bw,aR,cH,mS];have:=ih 42;omega
 intro ws h;rw[<-mS,BA h];exact key ws h
theorem kind_len(o:Op):o.kind.length<=7:=by cases o<;>(dsimp only[Op.kind];decide+kernel)
theorem Nk:(("[":String):Str).length=1/\((",":String):Str).length=1/\(("]":String):Str).length=1/\(("(":String):Str).length=1/\((")":String):Str).length=1/\(("and":String):Str).length=3/\(("or":String):Str).length=2/\(("x":String):Str).length=1:=by refine{?_,?_,?_,?_,?_,?_,?_,?_}<;>decide+kernel
theorem GV{a:Nat}{b:305}(h:∀n∈([(a:Int),endOf b]:List Int),(dy n).length<=8):wl (pH a b)<=24:=by obtain⟨c1,c2,c3,_⟩:=Nk;have ha:=h (a:Int) 42;cases b with|none=>show wl [_,_,_,_]<=24;rw[cH,cH,cH,cH,jJ,c1,c2,c3];omega|some n=>have hb:=h (n:Int) (by simp[endOf]);show wl [_,_,_,_,_]<=24;rw[cH,cH,cH,cH,cH,jJ,c1,c2,c3];omega
theorem afw{o:Op}(h:∀n∈o.nums,(dy n).length<=8):wl (jz o)<=27:=by cases o with|once a b=>have:=GV (a:=a) (b:=b) h;rw[show jz 406=pH a b by cases b<;>rfl];omega|always a b=>have:=GV (a:=a) (b:=b) h;rw[show jz 296=pH a b by cases b<;>rfl];omega|since a b=>have:=GV (a:=a) (b:=b) h;rw[show jz 389=pH a b by cases b<;>rfl];omega|cmp x op n=>have h1:=h (x:Int) 260;have h2:=h (op:Int) 260;have h3:=h n 260;show wl [dy _,dy _,dy _]<=27;rw[cH,cH,cH,jJ];omega|count k n=>have h1:=h (k:Int) 260;have h2:=h (n:Int) 260;show wl [dy _,dy _]<=27;rw[cH,cH,jJ];omega|_=>exact bA _
theorem Ze(op:Nat):(jn.getD op ((("":String):Str))).length<=2:=by
 by_cases h:op<6;have:op=0\/op=1\/op=2\/op=3\/op=4\/op=5:=by omega
 rcases this with z|z|z|z|z|z<;>subst z<;>decide+kernel;rw[dI,kW (by show 6<=op;omega)];decide+kernel
theorem BN{o:Op}{ps:132}(hl:ps.length=o.arity)(h:∀n∈o.nums,(dy n).length<=8):wl (around o ps)<=50+wl ps:=by
 obtain⟨c1,c2,c3,c4,c5,c6,c7,c8⟩:=Nk;have hn:=afw h;have hk:=kind_len o;have gen:wl (o.kind::jz o++ps)<=50+wl ps:=by rw[V6,cH,LM];omega
 have two:∀{x y:Str}{pre:List Str},True:=fun{_ _ _}=>trivial;cases o with|cmp x op n=>have h1:=h (x:Int) 260;have h3:=h n 260;have h2:=Ze op;show wl [((("x":String):Str)++dy x),jn.getD op ("":String),dy n]<=_;rw[cH,cH,cH,jJ,<-mS ((("x":String):Str)++dy x),ae7,bw,mS,mS,c8];omega|and=>(match ps,hl with|[p,q],_=>show wl [_,p,_,q,_]<=50+wl [p,q];rw[cH,cH,cH,cH,cH,jJ,cH,cH,jJ,c4,c5,c6];omega)|or=>(match ps,hl with|[p,q],_=>show wl [_,p,_,q,_]<=50+wl [p,q];rw[cH,cH,cH,cH,cH,jJ,cH,cH,jJ,c4,c5,c7];omega)|since a b=>(match ps,hl with|[p,q],_=>show wl ((Op.since a b).kind::jz 389++[_,p,_,q,_])<=50+wl [p,q];rw[V6,cH,LM,cH,cH,cH,cH,cH,jJ,cH,cH,jJ,c4,c5,c2];omega)|_=>exact gen
theorem ac0(o:Op)(ps:132):around o ps≠[]:=by cases o<;>simp[around]
theorem G3{o:Op}{ps:132}(hl:ps.length=o.arity)(h:∀n∈o.nums,(dy n).length<=8):(br o ps).length+1<=50+wl ps:=by unfold br;rw[aiJ (ac0 o ps)];exact BN hl h
def kF(o:Op):Prop:=∀n∈o.nums,n.natAbs<=1000000
theorem kF.short{o:Op}(x:kF o):∀n∈o.nums,(dy n).length<=8:=fun n h=>abl (x n h)
theorem kF.small{o:Op}(x:kF o):o.small:=by intro n h;have:=x n h;by_cases z:n.natAbs=0;rw[z];decide;rw[Nat.log2_lt z];exact V9 this (dY (show 1000000<2^020 by decide) (Nat.pow_le_pow_right 29 29))
theorem vD{a:Nat}{b:305}(h:u0 a b):∀n∈([(a:Int),endOf b]:List Int),n.natAbs<=1000000:=by
 intro n hn;obtain⟨h1,h2⟩:=h;rcases bE.mp hn with rfl|hn;omega;rcases bE.mp hn with rfl|hn;cases b with|none=>decide|some m=>have:=h2 m rfl;show(m:Int).natAbs<=_;omega
 exact nomatch hn
theorem Gf{l:34}(aw:∀a∈l,rG a):∀(f:F),gl f->∀n st,∀nd∈flat l f n st,kF nd.op:=by
 have none_:∀o:Op,o.nums=[]->kF o:=fun o e n h=>by rw[e]at h;exact 245
 intro f
 induction f with|const b=>intro _ n st nd h;rw[cM.mp h];cases b<;>exact 499|atom i=>(intro _ n st nd h;rw[cM.mp h];show kF (dE l i);unfold dE;cases e:l[i]? with|none=>exact 499|some a=>obtain⟨h1,h2,h3,h4⟩:=aw a (ej e);intro n hn;rcases bE.mp hn with rfl|hn;omega;rcases bE.mp hn with rfl|hn;omega;rcases bE.mp hn with rfl|hn;omega;exact nomatch hn)|not f ih=>intro w n st nd h;exact 157 (655 w)|prev f ih=>intro w n st nd h;exact 157 (655 w)|rose f ih=>intro w n st nd h;exact 157 (655 w)|once a b f ih=>intro w n st nd h;exact 396 (655 w.2)|always a b f ih=>intro w n st nd h;exact 396 (655 w.2)|count k m f ih=>(intro w n st nd h;rcases bP.mp h with h|h;exact ih w.2 _ _ nd h;rw[cM.mp h];obtain⟨⟨h1,h2,h3⟩,_⟩:=w;intro n hn;rcases bE.mp hn with rfl|hn;omega;rcases bE.mp hn with rfl|hn;omega;exact nomatch hn)|and f g ih aP=>intro w n st nd h;exact 609|or f g ih aP=>intro w n st nd h;exact 609|since a b f g ih aP=>intro w n st nd h;exact 396 (fun h=>(bP.mp h).elim (ih w.2.1 _ _ nd) (aP w.2.2 _ _ nd))
def lG:List Nd->List Str->Prop
 |[],_=>True
 |nd::t,acc=>wl (around nd.op (488 e_))<=100000/\lG t (acc++[br nd.op (488 e_)])
theorem C0:∀(a b:List Nd)(acc:List Str),lG a acc->lG b (fV e_ br a acc)->lG (a++b) acc
 |[],_,_,_,h=>h
 |_::a,b,_,h,h2=>{h.1,C0 a b _ h.2 h2}
theorem Qb:∀{ac:List Nd}{acc:List Str},lG ac acc->∀(i:Nat)(nd:Nd),ac[i]?=some nd->wl (around nd.op (nd.parts.map fun p=>(fV e_ br 225 acc).getD p e_))<=100000
 |_::_,_,h,0,nd,e=>by cases e;exact h.1
 |_::t,_,h,i+1,nd,e=>Qb h.2 i nd e
theorem t9(x:Str):wl [x]=x.length+1:=by rw[cH,jJ]
theorem DR(x y:Str):wl [x,y]=x.length+1+(y.length+1):=by rw[cH,cH,jJ]
theorem ad3{l:34}(aw:∀a∈l,rG a):∀(f:F),gl f->50*size f<=100000->(717 f).length+1<=50*size f/\∀n st(acc:List Str),acc.length=n->lG 968 acc:=by
 have one:∀(f:F)(o:Op),o.arity=1->kF o->50*(1+size f)<=100000->((717 f).length+1<=50*size f/\∀n st(acc:List Str),acc.length=n->lG 968 acc)->(br o [aK l br f]).length+1<=50*(1+size f)/\∀n s1 s2(acc:List Str),acc.length=n->lG (635 l) acc:=by intro f o ar no sz ⟨h1,h2⟩;have q:=G3 (o:=o) (ps:=[aK l br f]) 615 no.short;have q2:=BN (o:=o) (ps:=[aK l br f]) 615 no.short;rw[t9]at q q2;refine{by omega,fun n s1 s2 acc ha=>C0 _ _ _ (h2 _ _ _ ha) {?_,trivial}};obtain⟨mid,e,hm⟩:=rK l e_ br f n s1 acc ha;rw[e];show wl (around o ([n+size f-1].map fun p=>(acc++mid++[aK l br f]).getD p e_))<=100000;rw[bL,lY,getD_last 638];omega
 have two:∀(f g:F)(o:Op),o.arity=2->kF o->50*(1+size f+size g)<=100000->((717 f).length+1<=50*size f/\∀n st(acc:List Str),acc.length=n->lG 968 acc)->((717 g).length+1<=50*size g/\∀n st(acc:List Str),acc.length=n->lG (flat l g n st) acc)->(br o [aK l br f,aK l br g]).length+1<=50*(1+size f+size g)/\∀n s1 s2 s3(acc:List Str),acc.length=n->lG (527 l) acc:=by intro f g o ar no sz ⟨h1,h2⟩ ⟨h3,h4⟩;have q:=G3 (o:=o) (ps:=[aK l br f,aK l br g]) 615 no.short;have q2:=BN (o:=o) (ps:=[aK l br f,aK l br g]) 615 no.short;rw[DR]at q q2;refine{by omega,fun n s1 s2 s3 acc ha=>?_};obtain⟨mid,e,hm⟩:=rK l e_ br f n s1 acc ha;obtain⟨iO,e2,oS⟩:=rK l e_ br g 220 s2 (acc++mid++[aK l br f]) 79;refine C0 _ _ _ (C0 _ _ _ (h2 _ _ _ ha) ?_) {?_,trivial};rw[e];exact h4 _ _ _ 79;rw[vc,e,e2];show wl (around o ([n+size f-1,n+size f+size g-1].map fun p=>(617 iO).getD p e_))<=100000;(have k1:(617 iO).getD 286 e_=aK l br f:=by rw[tu 79,tu 79,getD_last 79]);(have k2:(617 iO).getD 461 e_=aK l br g:=by rw[getD_last 79]);rw[bL,bL,lY,k1,k2];omega
 have leaf:∀(o:Op),o.arity=0->kF o->(br o []).length+1<=50*1/\∀n st(acc:List Str),acc.length=n->lG [668] acc:=by intro o ar no;have q:=G3 (o:=o) (ps:=[]) 615 no.short;have q2:=BN (o:=o) (ps:=[]) 615 no.short;rw[jJ]at q q2;refine{by omega,fun n st acc ha=>{?_,trivial}};show wl (around o [])<=100000;omega
 have none_:∀o:Op,o.nums=[]->kF o:=fun o e n h=>by rw[e]at h;exact 245
 intro f
 induction f with|const b=>(intro w sz;cases b with|true=>exact leaf .tt rfl 499|false=>exact leaf .ff rfl 499)|atom i=>intro w sz;have no:kF (dE l i):=Gf aw (.atom i) w 0 0 {dE l i,[],0} (cM.mpr rfl);exact leaf (dE l i) (by unfold dE;cases l[i]?<;>rfl) no|not f ih=>intro w sz;have q:=one f .not rfl 499 sz (ih w 108);exact 173|prev f ih=>intro w sz;have q:=one f .prev rfl 499 sz (ih w 108);exact 173|rose f ih=>intro w sz;have q:=one f .rose rfl 499 sz (ih w 108);exact 173|once a b f ih=>intro w sz;have q:=one f 406 rfl (vD w.1) sz (ih w.2 108);exact 173|always a b f ih=>intro w sz;have q:=one f 296 rfl (vD w.1) sz (ih w.2 108);exact 173|count k m f ih=>intro w sz;have no:kF (948 k m):=Gf aw 807 w 0 0 {.count k m,[0+size f-1],0} (bP.mpr (546 (cM.mpr rfl)));have q:=one f (948 k m) rfl no sz (ih w.2 108);exact 173|and f g ih aP=>intro w sz;have q:=two f g .and rfl 499 sz (ih w.1 108) (aP w.2 108);exact 475|or f g ih aP=>intro w sz;have q:=two f g .or rfl 499 sz (ih w.1 108) (aP w.2 108);exact 475|since a b f g ih aP=>intro w sz;have q:=two f g 389 rfl (vD w.1) sz (ih w.2.1 108) (aP w.2.2 108);exact 475
theorem O_{l:34}(aw:∀a∈l,rG a){f:F}(w:gl f)(sz:size f<=40):Short 721/\(717 f).length<=2000:=by obtain⟨h1,h2⟩:=ad3 aw f w 23;exact{fun i nd e=>Qb (h2 0 0 [] rfl) i nd e,by omega}
end PC
namespace PC
open PySem PySem.Spec PyProof.Rows L2 XW
open PySem.W (Frag)
variable{P:aT}{w:aI}{K:Frag}{mg:Str->Option Value}{base:Heap}
section
open Vbavaf (F Atom Watcher)
theorem y_:bf ["watch","numbers","formula","told","sign"] ["watch","numbers"] (a_ TU):=17
theorem agj(T:65):aE P w K mg base bj 4 T.qG.a T.qG.fd ["watch","numbers"] (278 (fun ns=>.form 236)):=by
 refine T.qG.F.ok y_ 28 19;ext:1
 refine(421 (aj (90 y_.nd 66) (aj (113 182) (186 (aj (92 y_.nd (442 T.CS (ae3 T) (38 658))) (au (aF (bQ jS (bp (38 (cw Mo rfl T.dh dn 454))) (j6 rfl y_.nd (U8 174) (own:=[("sign",4)]) 20 (46 (352 y_.nd)) 645 (46 (cw Ms rfl T.RW boot_ord 284)))))))))));obtain⟨f,rfl⟩:=iz.mp gI;obtain⟨v2,h2,p2⟩:=X.fs
 have l2:=bY p2;refine(289 f);refine(222 f);rw[4,(80 ((103 (.form f) (.form f)).2.map V.int))];rw[show fz (.form f)=m6 f from rfl,sO]at k'
 cases hb:(decide (0<=f)&&decide (f<8))with|false=>rw[hb,if_pos rfl]at k';exact 59 29|true=>rw[hb,if_neg 29]at k';rw[dm,bg,bg]at hb;ext:89;have ea:cz s (.form f)=match jm s f with|none=>(s,[-3])|some w=>(s,iA (999 (K8 s.atoms w.f))):=rfl;ext:12;ext:2;ext:59;obtain⟨sh,Qg⟩:=O_ ok.aw fo.wf hs;have GB:=T8 ok.aw fo.bW;(have Qo:(jx (196 x.f)).getLast?.getD e_=aK s.atoms br x.f:=by obtain⟨mid,e,_⟩:=rK s.atoms e_ br x.f 0 0 [] rfl;unfold jx;rw[e,oK];rfl);rw[Qo]at GB;refine 99;refine{_,q,rfl,hq,vK _ _,vW _ _,by rw[fl];omega,fun nd cV=>?_,sh,fun H1 S1=>?_};have no:=Gf ok.aw x.f fo.wf 0 0 nd cV;exact{no.small,fun n hn=>dG (no.short n hn) 29};rw[Qo];generalize aK s.atoms br x.f=tx at GB Qg;refine{_,rfl,_,rfl,by rw[sizeLine_eq];omega,by show 1<=sizeLine;decide,fun D1 H2 S2 f2 e2=>?_};refine{_,rfl,_,rfl,fun D2 f3=>?_};refine Pb (fun _ x y=>∃c:Nat,x=jf c/\y=.int (c:Int)) f3 134 (by have:=mS tx;unfold bS at this;rw[this,sizeLine_eq];omega) (fun c H3 Q' hx S3 _ q'=>?_) (fun H3 ys S3 e3 p3=>?_);exact{_,rfl,_,rfl,rfl,q' _ _ ah.refl ⟨c,rfl,rfl⟩};(have ey:ys=(999 (bS tx)).map V.int:=by have p4:=Ji p3;unfold Vbavaf.ints;rw[gq];show ys=(tx.cps.toList).map _;generalize tx.cps.toList=cs at p4;clear e3 p3;induction p4 with|nil=>rfl|cons h t ih=>obtain⟨c',h1,h2⟩:=h;injection h1 with h1;injection h1 with h1;have h1:_=[c']:=eC J6 h1;injection h1 with h1;rw[ih,h2,<-h1];rfl);rw[ey]at e3;refine{D1,D2,_,_,rfl,rfl,S3 _ _ e2,e3,?_,fun D H4 S4 f4 e4=>k' H4 D (116 S4 (632 (547 415))) ?_};unfold Vbavaf.ints;rw[az,az,mS,sizeLine_eq];show 1+_<=_;omega;rw[e4];show _=some (HO.lst ((iA (999 (K8 s.atoms x.f))).map V.int));rw[<-GB];show _=some (HO.lst ((iA (999 (bS tx))).map V.int));unfold iA Vbavaf.ints;rw[az,mS,bL];rfl
end
section
open Vbavaf (F Atom begin_ told cells size letters letterCount usedBy)
theorem Y6{X:Cx}{P:aT}{w:aI}{C:Addr}:Passes (cX P w C) X E0:=fun _ _ _ _ _ _ _ ⟨_,_,_,_,_,_,_,_,_,q⟩=>q.elim
section
variable{X:Cx}{x:Str}{pos p:Pos}{e:aH}{es:List aH}{t:TA}{st:aL}{ps:List Str}{sp:Sp}{k m:Nat}{C:Addr}
theorem aha(fn:984)(G:423 (cX X.prog X.w C))(hr:cW m X.A)(ha:614)(hk:k<=m:=by omega)(hg:Gl X x:=by rfl)(eK:81=false:=by decide)(he:starEach 298 X.env=(false,eval e X.env)::starEach es X.env:=by rfl)(dj:(117 pos).any (·.1)=false:=by rfl):PE X 311 (zd sp [] E0 t):=BK G 601 hg fn.m fn.F.kp fn.b .nil Y6 ha eK he dj
end
def found(l:34)(f g:F)(want:450)(b:Nat):List Int:=if 27<letterCount l (usedBy f g)then[-5]else told (582 (letters l (usedBy f g)) (b+1))
def ahJ(P:aT)(w:aI)(K:Frag)(mg:95)(base:Heap)(CN:Addr):Sp:=fun vs H Q _=>∃(l:List Atom)(f g:F)(want:Bool->Bool->Bool)(b:Nat)(lf lg fw:Addr)(fd:eW),
 vs=[.ref lf,.ref lg,.int (b:Int),.ref fw]/\dU CN H lf 721/\dU CN H lg (flat l g 0 0)/\1<=b/\b<=200/\l.Nodup/\l.length<=16/\
 aE P w K mg base bj 1 fw fd ["truth","other"] (Cr want)/\oE K (.ref fw)=true/\Binds K fd ["truth","other"] []/\bT l f/\bT l g/\size f<=40/\size g<=40/\cells f<=100/\cells g<=100/\
 ∀H' D,ah H H'->H' D=some (80 ((found l f g want b).map V.int))->Q 118 H'
theorem Mw:bf ["nodes","others","budget","is_wanted","comparisons"] ["nodes","others","budget","is_wanted"] (a_ UO):=17
theorem N9(T:65)(Dc:213):aE P w K mg base bj 6 T.Ao.a T.Ao.fd ["nodes","others","budget","is_wanted"] (ahJ P w K mg base T.aJ):=by
 refine T.Ao.F.ok Mw 28 19;obtain⟨l,f,g,want,b,lf,lg,fw,fd,rfl,_⟩:=h;rfl;obtain⟨l,f,g,want,b,lf,lg,fw,fd,rfl,nf,ng,b1,b2,nd,na,Fw,IS,HB,af,ag,sf,sg,cf,cg,k⟩:=h;refine(421 (aj (170 Mw.nd (bQ jS (442 T.sR (By T) 734) (442 T.sR (By T) 483))) (aj (75 (73 mG (442 T.yU (UT T) 284) (cF T.Xs))) (au (aF (442 T.Ci (ag6 T Dc) (aa 56 (845 (aa (442 T.CH (af7 T) 284) (aa 88 454))))))))));have DC:=dX l f 0 0;have Br:=dX l g 0 0;have fw1:=Gy af nd na;have fw2:=Gy ag nd na;refine{_,rfl,flat l f 0 0,lf,rfl,nf,by rw[DC];omega,fun H1 D1 ps1 S1 f1 e1 t1=>?_};refine{_,rfl,flat l g 0 0,lg,rfl,ng.same S1,by rw[Br];omega,fun H2 D2 ps2 S2 f2 e2 t2=>?_};have l1:=bY t1;have l2:=bY t2;refine{D1,D2,_,_,rfl,rfl,S2 _ _ e1,e2,by rw[l1,l2,sizeLine_eq];omega,fun D3 H3 S3 f3 e3=>?_}
 have t3:gB H3 (ps1++ps2) (590 dO):=Ir ((gB.same t1 S2).same S3) (gB.same t2 S3);have c3:∀c∈dO (flat l f 0 0)++dO (flat l g 0 0),c.length=3:=fun c hc=>(bP.mp hc).elim (G1 af c) (G1 ag c);have Bd:(590 dO).length<64:=by rw[bw];omega
 have th:qP l (usedBy f g) (590 dO):=ahv (zg af) (zg ag);refine{_,rfl,D3,_,_,rfl,e3,t3,c3,Bd,fun H4 S4=>?_};refine 904;have gM:ah H H4:=fun b o h=>S4 _ _ (632 (547 415));unfold found at k;rw[JT th];by_cases Ef:27<letterCount l (usedBy f g);rw[if_pos Ef]at k;exact aS (cK 23) {_,rfl,by show 1<=sizeLine;decide,fun D H5 S5 f5 e5=>k H5 D (116 S5 (gM _ _ h)) e5};rw[if_neg Ef]at k;refine 572;have uc:lcs (590 dO) 8<=27:=by rw[JT th];omega
 refine{_,rfl,_,rfl,_,rfl,D3,_,_,rfl,S4 _ _ e3,gB.same t3 S4,c3,Bd,uc,fun H5 D5 S5 f5 i5=>?_};have j':ah H H5:=fun b o h=>S5 _ _ (gM _ _ h);refine{_,rfl,_,rfl,l,f,g,want,_,b,lf,lg,D5,fw,fd,rfl,nf.same j',ng.same j',i5,Jj _ 8,by rw[Hu];exact uc,b1,b2,Fw,IS,HB,af,ag,sf,sg,cf,cg,fun H6 D6 S6 e6=>k H6 D6 (116 S6 (j' _ _ h)) ?_};rw[e6,aby th]
theorem Ck:bf ["watch","numbers","formula","other","budget"] ["watch","numbers"] (a_ Uk):=17
theorem adW(T:65)(Dc:213):aE P w K mg base bj 7 T.qp.a T.qp.fd ["watch","numbers"] (nz T.bx T.aJ (fun ns=>ns.length=3) (fun ns=>.alike 236 745 (ns.getD 2 0))):=by
 refine T.qp.F.ok Ck 28 19;ext:1
 refine(421 (aj (90 Ck.nd 66) (aj (92 Ck.nd 66) (aj (170 Ck.nd 66) (aj (113 (PW.pt (lD 182 (lD (i0 (gP (442 T.oy (sI T) 454))) (mU (i0 (gP (442 T.x4 (PR T) 284)))))))) (aj (75 (73 nc (353 (aa 88 454)) 143)) (au (aF (442 T.Ao (N9 T Dc) (aa 658 (aa (25 bD 265 174) (aa 602 (38 (oh T.qQ.m))))))))))))))
 obtain⟨f,g,b,rfl⟩:∃f g b,ns=[f,g,b]:=by match ns,gI with|[x,y,z],_=>exact⟨x,y,z,rfl⟩
 ext:26;refine{_,rfl,l,_,_,_,rfl,rfl,hl,nJ f [g,b],?_};refine(479 g);refine{_,rfl,l,_,_,.int b,rfl,rfl,hl,dA (j:=2) rfl,?_};rw[4,(80 ((103 1027 1027).2.map V.int))];rw[show fz 1027=(m6 f&&(m6 g&&(279 (1<=b) (b<=200))))from rfl,sO,sO]at k';refine(222 f)
 cases hb:(decide (0<=f)&&decide (f<8))with|false=>rw[hb,AA,if_pos rfl]at k';exact 976|true=>refine aU 29 (222 g);rw[hb,A5]at k';cases gA:(decide (0<=g)&&decide (g<8))with|false=>rw[gA,AA,if_pos rfl]at k';exact 976|true=>refine aU 29 (222 b);rw[gA,A5]at k';cases uf:(decide (1<=b)&&decide (b<=200))with|false=>rw[uf,if_pos rfl]at k';exact 59 29|true=>rw[uf,if_neg 29]at k';rw[dm,bg,bg]at hb gA uf;refine 533;refine{_,rfl,_,rfl,_,_,rfl,_,rfl,W.a,_,_,_,rfl,X.at_,rfl,_,_,rfl,.inl (549 h2),_,_,rfl,rfl,_,rfl,?_};rw[l2];(have ea:cz s 1027=match jm s f,jm s g with|some v,some w=>(s,found s.atoms v.f w.f (fun a b=>a !=b) b.toNat)|_,_=>(s,[-3]):=by unfold found;show(match jm s f,jm s g with|some v,some w=>if A_<letterCount s.atoms (usedBy v.f w.f)then(s,[-5])else(s,told (k8 s.atoms v.f w.f (letters s.atoms (usedBy v.f w.f)) (fun a b=>a !=b) b.toNat (b.toNat+1) (begin_ v.f w.f)))|_,_=>(s,[-3]))=_;cases jm s f with|none=>rfl|some v=>cases jm s g with|none=>rfl|some w=>dsimp only;by_cases z:27<letterCount s.atoms (usedBy v.f w.f);ext:120);rw[ea]at k';by_cases hn:(s.fs.length:Int)<=(if g>f then g else f);(have hk:∀H' D,ah H H'->H' D=some (.lst [V.int (-3)])->Q 118 H':=by rcases(show(s.fs.length:Int)<=f\/(s.fs.length:Int)<=g by split at hn<;>omega)with z|z;rw[tm z]at k';exact k';rw[tm z]at k';cases q:jm s f with|none=>rw[q]at k';exact k'|some v=>rw[q]at k';exact k');exact aS (cK hn) (74 hk);refine 232;(have Oy:f<s.fs.length/\g<s.fs.length:=by split at hn<;>omega);obtain⟨x,q,qc,vs,vl,ex,hm,hf,mC,hq,nq,hc,vg,nY⟩:=X.get hb.1 Oy.1;obtain⟨x2,q2,qc2,vs2,Qg,ex2,oS,hf2,WV,hq2,nq2,wz,akd,aj9⟩:=X.get gA.1 Oy.2;rw[ex,ex2]at k';have fo:=ok.jv x hm;have Ic:=ok.jv x2 oS;refine 99;refine{_,rfl,W.a,_,_,_,rfl,X.at_,rfl,_,rfl,W.pf,_,_,.ref q2,rfl,rfl,hf2,WV,?_};(have eb:b=((b.toNat:Nat):Int):=by omega);refine{_,rfl,s.atoms,x.f,x2.f,_,b.toNat,q,q2,T.qQ.a,T.qQ.fd,by rw[<-eb];rfl,hq,hq2,by omega,by omega,ok.nd,ok.na,adu T,T.qQ.F.kp,T.qQ.b,fo.bW,Ic.bW,fo.size,Ic.size,fo.cells,Ic.cells,fun H1 D1 S1 e1=>k' H1 D1 S1 e1}
theorem ab9(f:F):usedBy f (.const true)=Fe f:=by funext i;show(Fe f i||false)=_;rw[Bool.or_false]
theorem IC:bf ["watch","numbers","formula","budget"] ["watch","numbers"] (a_ OJ):=17
theorem ags(T:65)(Dc:213)(Ee:707):aE P w K mg base bj 252 T.re.a T.re.fd ["watch","numbers"] (nz T.bx T.aJ (fun ns=>ns.length=2) (fun ns=>.ever 236 745)):=by
 refine T.re.F.ok IC 28 19;ext:1;refine(421 (aj (90 IC.nd 66) (aj (92 IC.nd 66) (aj (113 (PW.pt (lD 182 (mU (i0 (gP (442 T.x4 (PR T) 454))))))) (186 (au (aF (442 T.Ao (N9 T Dc) (aa 658 (aa (aha T.z_ (U2 T Dc Ee) hr (38 (bp (38 cu)))) (aa 174 (38 (oh T.qx.m)))))))))))));obtain⟨f,b,rfl⟩:∃f b,ns=[f,b]:=by match ns,gI with|[x,y],_=>exact⟨x,y,rfl⟩
 ext:26;refine{_,rfl,l,_,_,_,rfl,rfl,hl,nJ f [b],?_};refine(479 b);rw[4,(80 ((103 (.ever f b) (.ever f b)).2.map V.int))];rw[show fz (.ever f b)=(m6 f&&(279 (1<=b) (b<=200)))from rfl,sO]at k';refine(222 f)
 cases hb:(decide (0<=f)&&decide (f<8))with|false=>rw[hb,AA,if_pos rfl]at k';exact 976|true=>refine aU 29 (222 b);rw[hb,A5]at k';cases uf:(decide (1<=b)&&decide (b<=200))with|false=>rw[uf,if_pos rfl]at k';exact 59 29|true=>rw[uf,if_neg 29]at k';rw[dm,bg,bg]at hb uf;ext:89;(have ea:cz s (.ever f b)=match jm s f with|none=>(s,[-3])|some v=>(s,found s.atoms v.f (.const true) (fun a _=>a) b.toNat):=by unfold found;show(match jm s f with|none=>(s,[-3])|some v=>if A_<letterCount s.atoms (Fe v.f)then(s,[-5])else(s,told (k8 s.atoms v.f (.const true) (letters s.atoms (Fe v.f)) (fun a _=>a) b.toNat (b.toNat+1) (begin_ v.f (.const true)))))=_;cases jm s f with|none=>rfl|some v=>dsimp only;rw[ab9];by_cases z:27<letterCount s.atoms (Fe v.f);ext:120);ext:12;ext:2;refine 99;refine 357;refine{D1,[Fc "true"],[],rfl,e1,by show 1<=1000;decide,fun t ht=>by rw[cM.mp ht];decide,fun t ht=>by rw[cM.mp ht];decide,?_};(have er:tY [] [Fc "true"]=.ok (.const true,[]):=by rw[show[Fc "true"]=Vbavaf.tokens (Fc "true") []from by decide,<-BZ];rfl);rw[er];intro H2 pn S2 f2 i2;have dL:ah H H2:=fun b o h=>S2 _ _ 415;(have eb:b=((b.toNat:Nat):Int):=by omega);refine{_,rfl,s.atoms,x.f,.const true,_,b.toNat,q,pn,T.qx.a,T.qx.fd,by rw[<-eb];rfl,hq.same dL,i2,by omega,by omega,ok.nd,ok.na,aeK T,T.qx.F.kp,T.qx.b,fo.bW,trivial,fo.size,by decide,fo.cells,by decide,fun H3 D3 S3 e3=>k' H3 D3 (116 S3 (dL _ _ h)) e3}
end
end PC
namespace PC
def jq(p:Int)(ns:33):xR:=
 if p=0 then .define ns else if p=1 then .step ns else if p=2 then .now else if p=3 then .meaning 236 745 else if p=4 then .cells 236 else if p=5 then .facts 236
 else if p=6 then .form 236 else if p=7 then .atom 236 else if p=8 then .alike 236 745 (ns.getD 2 0)else if p=9 then .ever 236 745 else if p=10 then .reading 236 else .again
def pJ:List (Int×Nat):=[(1,8),(2,0),(3,2),(4,1),(5,1),(6,1),(7,1),(8,3),(9,2),(10,1),(11,0)]
def Fits(p:Int)(ns:33):Prop:=(p=0/\ns.length<=998)\/(p,ns.length)∈pJ
theorem len0{ns:33}(h:ns.length=0):ns=[]:=uP.mp h
theorem yO{ns:33}(h:ns.length=1):∃a,ns=[a]:=iz.mp h
theorem Tg{ns:33}(h:ns.length=2):∃a b,ns=[a,b]:=by match ns,h with|[a,b],_=>exact⟨a,b,rfl⟩
theorem aeO{ns:33}(h:ns.length=3):∃a b c,ns=[a,b,c]:=by match ns,h with|[a,b,c],_=>exact⟨a,b,c,rfl⟩
theorem Lv{ns:33}(h:ns.length=8):∃a b c d e f g i,ns=[a,b,c,d,e,f,g,i]:=by match ns,h with|[a,b,c,d,e,f,g,i],_=>exact⟨a,b,c,d,e,f,g,i,rfl⟩
theorem XG(s:fm)(ns:33):Ba s (xT [[0],ns])=gF s (jq 0 ns):=by show Vbavaf.does s ([0]++((ns.length:Nat):Int)::ns)=_;show(match(if((ns.length:Nat):Int)=((ns.length:Nat):Int)then some (Vbavaf.Call.define ns)else none)with|none=>(s,[-100])|some x=>gF s x)=_;ext:143;rfl
theorem agU(s:fm)(p:Int)(ns:33)(h:(p,ns.length)∈pJ):Ba s (xT [p::ns])=gF s 823:=by simp only[pJ,bE,ss,ic,or_false]at h;rcases h with⟨rfl,h⟩|⟨rfl,h⟩|⟨rfl,h⟩|⟨rfl,h⟩|⟨rfl,h⟩|⟨rfl,h⟩|⟨rfl,h⟩|⟨rfl,h⟩|⟨rfl,h⟩|⟨rfl,h⟩|⟨rfl,h⟩;obtain⟨a,b,c,d,e,f,g,i,rfl⟩:=Lv h;rfl;rw[len0 h];rfl;obtain⟨a,b,rfl⟩:=Tg h;ext:74;obtain⟨a,rfl⟩:=yO h;ext:74;obtain⟨a,rfl⟩:=yO h;rfl;obtain⟨a,b,c,rfl⟩:=aeO h;rfl;obtain⟨a,b,rfl⟩:=Tg h;ext:74;rw[len0 h];rfl
theorem WS{p:Int}{n k:Nat}(h:m7 p=some (n,k)):(p=0/\n=0/\k=1)\/((p,n)∈pJ/\k=0):=by unfold m7 at h;by_cases h0:p=0;rw[if_pos h0]at h;ext:91;rw[17,⟨h0,rfl,rfl⟩];rw[if_neg h0]at h;by_cases h1:p=1;rw[if_pos h1]at h;ext:91;rw[h1];exact 177;rw[if_neg h1]at h;by_cases h2:p=2;rw[if_pos h2]at h;ext:91;rw[h2];exact 177;rw[if_neg h2]at h;by_cases h3:p=3;rw[if_pos h3]at h;ext:91;rw[h3];exact 177;rw[if_neg h3]at h;by_cases h4:p=4;rw[if_pos h4]at h;ext:91;rw[h4];exact 177;rw[if_neg h4]at h;by_cases h5:p=5;rw[if_pos h5]at h;ext:91;rw[h5];exact 177;rw[if_neg h5]at h;by_cases h6:p=6;rw[if_pos h6]at h;ext:91;rw[h6];exact 177;rw[if_neg h6]at h;by_cases h7:p=7;rw[if_pos h7]at h;ext:91;rw[h7];exact 177;rw[if_neg h7]at h;by_cases h8:p=8;rw[if_pos h8]at h;ext:91;rw[h8];exact 177;rw[if_neg h8]at h;by_cases h9:p=9;rw[if_pos h9]at h;ext:91;rw[h9];exact 177;rw[if_neg h9]at h;by_cases rk:p=10;rw[if_pos rk]at h;ext:91;rw[rk];exact 177;rw[if_neg rk]at h;by_cases Fz:p=11;rw[if_pos Fz]at h;ext:91;rw[Fz];exact 177;rw[if_neg Fz]at h;ext:91
theorem adi{l:33}{c:147}{t:33}(h:WM m7 l=some (c,t)):(∃ns,c=[[0],ns]/\l=0::(ns.length:Int)::(ns++t))\/∃p ns,c=[p::ns]/\(p,ns.length)∈pJ/\l=p::(ns++t):=by cases l with|nil=>cases h|cons p r=>unfold WM at h;ext:22;cases es:m7 p with|none=>rw[es]at h;cases h|some nk=>obtain⟨n,k⟩:=nk;rw[es]at h;ext:22;ext:184;rename_i hn;rcases WS es with⟨rfl,rfl,rfl⟩|⟨hm,rfl⟩;left;(cases r with|nil=>cases h|cons m r'=>rw[KZ]at h;unfold WN PyFlat.row at h;ext:22;by_cases hm:0<=m/\m.toNat<=r'.length;rw[if_pos hm]at h;unfold WN at h;ext:22;ext:91;refine 735;rw[WK,bU,A1 hm.2,Int.toNat_of_nonneg hm.1];rw[if_neg hm]at h;ext:91);right;unfold WN at h;ext:22;ext:91;refine{p,r.take n,rfl,?_,by rw[WK]};rw[bU,A1 23];exact hm
def qD(s:fm)(cs:List 147):List Int:=WO (PyFlat.played Ba s (cs.map xT))
theorem TH(s:fm)(c:147)(cs:List 147):qD s (c::cs)=((Ba s (xT c)).2.length:Int)::(Ba s (xT c)).2++qD (Ba s (xT c)).1 cs:=by unfold qD;rw[bL];show WO (_::_)=_;unfold WO;rw[K0]
def Ask(cs:List 147):Prop:=∀c∈cs,VbavafNeutral.asked1 (xT c)=true
theorem afI{f:Nat}{l:33}{cs:List 147}(h:uY m7 f l=some cs)(hl:l≠[])(ha:Ask cs):∃p ns rest f' lN,Fits p ns/\((p=0/\l=0::(ns.length:Int)::(ns++rest))\/((p,ns.length)∈pJ/\l=p::(ns++rest)))/\uY m7 f' rest=some lN/\Ask lN/\cs.length=lN.length+1/\∀s,qD s cs=((gF s 823).2.length:Int)::(gF s 823).2++qD (gF s 823).1 lN:=by cases l with|nil=>exact 89 rfl hl|cons q r=>cases f with|zero=>cases h|succ f=>unfold uY at h;cases ec:WM m7 (q::r)with|none=>rw[ec]at h;cases h|some ct=>obtain⟨c,t⟩:=ct;rw[ec]at h;ext:22;cases et:uY m7 f t with|none=>rw[et]at h;cases h|some lN=>rw[et]at h;ext:91;have hc:=ha c (cY);have hr:Ask lN:=fun x hx=>ha x (cZ _ hx);rcases adi ec with⟨ns,rfl,e⟩|⟨p,ns,rfl,hm,e⟩;refine{0,ns,t,f,lN,.inl {rfl,?_},.inl ⟨rfl,e⟩,et,hr,rfl,fun s=>?_};have:(decide (ns.length<=998)&&(ns.all (fun(z:Int)=>VbavafNeutral.whole64 z)))=true:=hc;rw[dm,bg]at this;exact this.1;rw[TH,XG];refine{p,ns,t,f,lN,.inr hm,.inr ⟨hm,e⟩,et,hr,rfl,fun s=>?_};rw[TH,agU _ _ _ hm]
theorem aaJ{f:Nat}{cs:List 147}(h:uY m7 f []=some cs):cs=[]:=by cases f<;>(ext:91;rfl)
theorem aaS(s:fm):qD s []=[]:=rfl
theorem aey{l:33}(h:WP l=true):∃cs,uY m7 l.length l=some cs/\Ask cs/\cs.length<=0400/\K9 l=qD Fa cs:=by unfold WP ajZ at h;cases e:uY m7 l.length l with|none=>rw[e]at h;cases h|some cs=>rw[e]at h;ext:22;rw[dm]at h;obtain⟨h1,h2⟩:=h;unfold VbavafNeutral.asked at h2;rw[dm,kU]at h2;unfold PyFlat.atMost at h1;rw[bg,az]at h1;refine{cs,rfl,fun c hc=>h2.1 _ (dJ.mpr ⟨c,hc,rfl⟩),h1,?_};unfold K9 ajZ;rw[e];rfl
end PC
namespace PC
open PySem PySem.Spec
open Vbavaf (F Atom Found tryStep has watch nowOf fresh begin_ told cells products)
theorem SV:∀(ls:List 33)(r:List Int),r∈products ls->r.length=ls.length
 |[],r,h=>by(have:r=[]:=by simpa[Vbavaf.products]using h);rw[this];rfl
 |l::t,r,h=>by obtain⟨n,_,h2⟩:=List.mem_flatMap.mp (show r∈l.flatMap fun n=>(products t).map fun t=>n::t from h);obtain⟨q,hq,rfl⟩:=dJ.mp h2;rw[aR,aR,SV t q hq]
theorem RQ{l:34}{u:709}:∀r∈WG l u,r.length=8:=fun r h=>by rw[SV _ r h];rfl
def W8(d:Nat)(w:147):Prop:=w.length<=d/\∀r∈w,r.length=8
def Wd(d:Nat)(x:md):Prop:=(∀p∈x.all,W8 d p.way)/\∀w,x.way=some w->W8 d w
theorem W8.cons{d:Nat}{w:147}{n:33}(h:W8 d w)(hn:n.length=8):W8 (d+1) (n::w):={Nat.succ_le_succ h.1,fun r hr=>by rcases bE.mp hr with rfl|hr;exact hn;exact h.2 r hr}
theorem Yu{l:34}{f g:F}{want:450}{p:oN}{x:md}{n:33}{d:Nat}(h:Wd (d+1) x)(hp:W8 d p.way)(hn:n.length=8):Wd (d+1) (tryStep l f g want p x n):=by unfold tryStep;ext:183;ext:0;split;exact{h.1,fun w e=>by cases e;exact hp.cons hn};ext:183;refine{fun q hq=>?_,h.2};rcases bP.mp hq with hq|hq;exact h.1 q hq;rw[cM.mp hq];exact hp.cons hn
theorem Tn{l:34}{f g:F}{want:450}{p:oN}{d:Nat}(hp:W8 d p.way):∀(al:List 33)(x:md),(∀r∈al,r.length=8)->Wd (d+1) x->Wd (d+1) (al.foldl 115 x)
 |[],_,_,h=>h
 |n::t,x,h8,h=>by rw[p6];exact Tn hp t _ (fun r hr=>h8 r (cZ _ hr)) (Yu h hp (h8 n (cY)))
theorem Wd.mono{d e:Nat}{x:md}(h:Wd d x)(le:d<=e):Wd e x:={fun p hp=>{dG (h.1 p hp).1 le,(h.1 p hp).2},fun w hw=>{dG (h.2 w hw).1 le,(h.2 w hw).2}}
theorem RS{l:34}{f g:F}{want:450}{al:147}{b:Nat}(h8:∀r∈al,r.length=8):∀(k:Nat)(x y:md),Wd x.at_ x->k8 l f g al want b k x=some y->Wd (x.at_+k) y
 |0,_,_,_,e=>by cases e
 |k+1,x,y,h,e=>by unfold k8 at e;split at e;cases e;exact h.mono 23;split at e;cases e;exact h.mono 23;rename_i p hp;dsimp only at e;split at e;cases e;have hm:=ej hp;have q:=Tn (l:=l) (f:=f) (g:=g) (want:=want) (h.1 p hm) al x h8 (h.mono 23);have:=RS h8 k {al.foldl 115 x with at_:=x.at_+1} y q e;exact this.mono (by show x.at_+1+k<=_;omega)
theorem Lc:∀(w:List 33),(∀r∈w,r.length=8)->(w.flatMap fun r=>r).length=8*w.length
 |[],_=>rfl
 |r::t,h=>by rw[K0,bw,h r (cY),Lc t (fun q hq=>h q (cZ _ hq)),aR];omega
theorem Rk{l:34}{f g:F}{want:450}{al:147}{b k:Nat}(h8:∀r∈al,r.length=8):(told (582 al k)).length<=2+8*k:=by cases e:k8 l f g al want b k (begin_ f g)with|none=>show 1<=_;omega|some y=>have h:=RS h8 k (begin_ f g) y {fun p hp=>by have:p={c:=fresh f,d:=fresh g,way:=[]}:=cM.mp hp;rw[this];exact{aV _,fun r hr=>nomatch hr},fun w hw=>nomatch hw} e;unfold Vbavaf.told;ext:0;cases ew:y.way with|none=>show 2<=_;omega|some w=>obtain⟨h1,h2⟩:=h.2 w ew;show(0::(w.length:Int)::w.reverse.flatMap fun r=>r).length<=_;rw[aR,aR,Lc _ (fun r hr=>h2 r (E9.mp hr)),ie];have:(begin_ f g).at_+k=k:=r_ k;omega
theorem Zj{l:34}(aw:∀a∈l,rG a){f:F}(h:bT l f)(w:gl f)(sz:Vbavaf.size f<=40):(K8 l f).length<=2000:=by rw[<-T8 aw h,mS];obtain⟨mid,e,_⟩:=rK l e_ br f 0 0 [] rfl;unfold jx;rw[e,oK];exact(O_ aw w sz).2
theorem Qv{s:fm}(h:mR s){f:Int}{x:Vbavaf.Watcher}(e:jm s f=some x):vi s.atoms x:=h.jv x (ej e)
theorem Sc{s:fm}(h:mR s)(c:xR):(gF s c).2.length<=4000:=by
 unfold gF;by_cases hr:fz c=false;rw[if_pos hr];show 1<=_;omega
 (·rw[if_neg hr];have hf:=h.nf;cases c with|define b=>show(cz s (.define b)).2.length<=4000;unfold cz;ext:0;(repeat' split);all_goals(show 1<=_;omega)|step x=>unfold cz;ext:47;unfold iA;simp only[aR,az];omega|now=>unfold cz iA;simp only[aR,az];omega|meaning f i=>unfold cz;ext:0;(repeat' split);all_goals(show 1<=_;omega)|cells f=>unfold cz;ext:47;rename_i x e;have o:=Qv h e;have:=o.len;have:=o.cells;unfold iA Vbavaf.ints;simp only[aR,az];omega|facts f=>unfold cz;ext:47;show 5<=_;omega|form f=>unfold cz;ext:47;rename_i x e;have o:=Qv h e;have:=Zj h.aw o.bW o.wf o.size;unfold iA Vbavaf.ints;simp only[aR,az];omega|atom i=>unfold cz;ext:47;show 3<=_;omega|alike f g k=>(have hk:k.toNat<=200:=by(have:(m6 f&&(m6 g&&xS k 1 200))=true:=by simpa[fz]using hr);rw[dm,dm]at this;have h3:=this.2.2;unfold xS at h3;rw[dm,bg,bg]at h3;omega);unfold cz;ext:0;split;split;show 1<=_;omega;refine dG (Rk RQ) ?_;omega;show 1<=_;omega|ever f k=>(have hk:k.toNat<=200:=by(have:(m6 f&&xS k 1 200)=true:=by simpa[fz]using hr);rw[dm]at this;have h3:=this.2;unfold xS at h3;rw[dm,bg,bg]at h3;omega);unfold cz;ext:47;split;show 1<=_;omega;refine dG (Rk RQ) ?_;omega|reading i=>unfold cz;ext:47;rename_i x e;have:=h.rows x (E9.mp (ej e));unfold iA;rw[aR];omega|again=>show 1<=_;omega)
end PC
namespace PC
open PySem PySem.Spec PyProof.Rows L2 XW
open PySem.W (Frag)
variable{P:aT}{w:aI}{K:Frag}{mg:Str->Option Value}{base:Heap}
def XM(C CN:Addr):Sp:=fun vs H Q _=>∃(W:Wa)(l:Addr)(s:fm)(p:Int)(ns:List Int),vs=[.ref W.a,.int p,.ref l]/\cT C CN H W s/\mR s/\H l=some 971/\l∉W.own/\Fits p ns/\
 ∀H' W' D,jX W W' H->cG W H H'->cT C CN H' W' (gF s 823).1->H' D=some (80 ((gF s 823).2.map V.int))->Q 118 H'
theorem acG:bf ["watch","call","arguments"] ["watch","call","arguments"] (a_ Rg):=17
theorem ahO(T:65)(Dc:213)(Ee:707):aE P w K mg base bj 0253 T.B_.a T.B_.fd ["watch","call","arguments"] (XM T.bx T.aJ):=by
 refine T.B_.F.ok acG 28 19;obtain⟨W,l,s,p,ns,rfl,_⟩:=h;rfl;obtain⟨W,l,s,p,ns,rfl,X,ok,hl,nl,fit,k⟩:=h;refine(421 (au (aF (Hk (zx Dc.Ph.d Dc.Ph.m 179 291) oj (aa 56 336)))));rcases fit with⟨rfl,Of⟩|fit;exact{_,rfl,.inl 0,_,rfl,rfl,T.qU.a,T.qU.fd,_,_,252,rfl,afs T Dc Ee,hr.mono 23,T.qU.F.kp,T.qU.b,_,rfl,_,rfl,W,l,s,ns,rfl,X,ok,hl,nl,Of,k};simp only[pJ,bE,ss,ic,or_false]at fit;rcases fit with⟨rfl,h⟩|⟨rfl,h⟩|⟨rfl,h⟩|⟨rfl,h⟩|⟨rfl,h⟩|⟨rfl,h⟩|⟨rfl,h⟩|⟨rfl,h⟩|⟨rfl,h⟩|⟨rfl,h⟩|⟨rfl,h⟩;exact{_,rfl,.inl 1,_,rfl,rfl,T.rC.a,T.rC.fd,_,_,5,rfl,aeS T Dc,hr.mono 23,T.rC.F.kp,T.rC.b,_,rfl,_,rfl,W,l,s,ns,rfl,X,ok,hl,nl,h,k};exact{_,rfl,.inl 2,_,rfl,rfl,T.qO.a,T.qO.fd,_,_,1,rfl,o0 (agn T) (550 rfl),hr.mono 23,T.qO.F.kp,T.qO.b,_,rfl,_,rfl,W,l,s,ns,rfl,X,ok,hl,nl,trivial,k};exact{_,rfl,.inl 3,_,rfl,rfl,T.qS.a,T.qS.fd,_,_,5,rfl,o0 (abb T Dc) (550 (Tk _ _ _)),hr.mono 23,T.qS.F.kp,T.qS.b,_,rfl,_,rfl,W,l,s,ns,rfl,X,ok,hl,nl,h,k}
 exact{_,rfl,.inl 4,_,rfl,rfl,T.rD.a,T.rD.fd,_,_,3,rfl,o0 (ad4 T) (550 (UP _ _)),hr.mono 23,T.rD.F.kp,T.rD.b,_,rfl,_,rfl,W,l,s,ns,rfl,X,ok,hl,nl,h,k};exact{_,rfl,.inl 5,_,rfl,rfl,T.rj.a,T.rj.fd,_,_,4,rfl,o0 (ahl T) (550 (Vk _ _)),hr.mono 23,T.rj.F.kp,T.rj.b,_,rfl,_,rfl,W,l,s,ns,rfl,X,ok,hl,nl,h,k};exact{_,rfl,.inl 6,_,rfl,rfl,T.qG.a,T.qG.fd,_,_,4,rfl,o0 (agj T) (550 (U5 _ _)),hr.mono 23,T.qG.F.kp,T.qG.b,_,rfl,_,rfl,W,l,s,ns,rfl,X,ok,hl,nl,h,k};exact{_,rfl,.inl 7,_,rfl,rfl,T.ql.a,T.ql.fd,_,_,1,rfl,o0 (aip T) (550 (LA _ _)),hr.mono 23,T.ql.F.kp,T.ql.b,_,rfl,_,rfl,W,l,s,ns,rfl,X,ok,hl,nl,h,k};exact{_,rfl,.inl 8,_,rfl,rfl,T.qp.a,T.qp.fd,_,_,7,rfl,o0 (adW T Dc) (550 (R5 _ _ _ _)),hr.mono 23,T.qp.F.kp,T.qp.b,_,rfl,_,rfl,W,l,s,ns,rfl,X,ok,hl,nl,h,k};exact{_,rfl,.inl 9,_,rfl,rfl,T.re.a,T.re.fd,_,_,252,rfl,o0 (ags T Dc Ee) (550 (Uw _ _ _)),hr.mono 23,T.re.F.kp,T.re.b,_,rfl,_,rfl,W,l,s,ns,rfl,X,ok,hl,nl,h,k}
 exact{_,rfl,.inl 10,_,rfl,rfl,T.qT.a,T.qT.fd,_,_,2,rfl,o0 (aev T) (550 (QE _ _)),hr.mono 23,T.qT.F.kp,T.qT.b,_,rfl,_,rfl,W,l,s,ns,rfl,X,ok,hl,nl,h,k};exact{_,rfl,.inl 11,_,rfl,rfl,T.qm.a,T.qm.fd,_,_,2,rfl,Z4 T,hr.mono 23,T.qm.F.kp,T.qm.b,_,rfl,_,rfl,W,l,s,ns,rfl,X,ok,hl,nl,trivial,k}
def qE(H H':Hp):Prop:=∀b o,H b=some o->(∀q u,o≠.b_ q u)->H' b=some o
section
variable{C CN:Addr}{H H':Hp}{W:Wa}{s:fm}{D l:Addr}{xs:List V}
theorem qE.ls(S:qE H H'){b:Addr}{ys:231}(h:324 b 459):H' b=some 459:=S _ _ h 219
theorem qE.t(S:qE H H'){b:Addr}{ys:231}(h:324 b (.tup ys)):H' b=some (.tup ys):=S _ _ h 219
theorem qE.i(S:qE H H'){b c d:Addr}{fs:List (Str×V)}(h:324 b (.ins c d fs)):H' b=some (.ins c d fs):=S _ _ h 219
theorem cT.QG(x:269)(S:qE H H'):cT C CN H' W s:=by obtain⟨h1,⟨v2,h2,p2⟩,⟨v3,h3,p3⟩,⟨v4,h4,p4⟩,⟨v5,h5,p5⟩,h6,h7⟩:=x;refine{S.i h1,{v2,S.ls h2,bR (fun _ _ ⟨q,e,n,vs,hv,p⟩=>{q,e,n,vs,S.ls hv,bR (fun _ _ ⟨a,dx,pn,pp,e,N⟩=>{a,dx,pn,pp,e,S.i N.at_,S.t N.nums,S.t N.parts,N.wf}) p}) p2},{v3,S.ls h3,bR (fun _ _ ⟨a,e,i⟩=>{a,e,S.t i}) p3},{v4,S.ls h4,bR (fun _ _ ⟨q,e,n,h⟩=>{q,e,n,S.ls h}) p4},{v5,S.ls h5,bR (fun _ _ ⟨q,e,vs,hv,p⟩=>{q,e,vs,S.t hv,bR (fun _ _ ⟨a,e,i⟩=>{a,e,S.t i}) p}) p5},S.ls h6,h7}
theorem T5{o:Obj}{u:HO}(h:324 D 494):qE H (cut D D H):=fun b p hb n=>by
 have ne:b≠D:=fun z=>by rw[z,h]at hb;exact n _ _ (dZ hb).symm
 exact zI hb ne ne
def iZ(K:Frag)(H:Hp)(l:Addr)(xs:231):Prop:=(∃o,H l=some (.b_ o 248))\/∀H',aq K H' l xs
variable{K:Frag}
theorem iZ.sq(x:iZ K H l xs):aq K H l xs:=by rcases x with⟨o,e⟩|h;rw[17,(546 ⟨o,e⟩)];exact h H
theorem iZ.over(x:iZ K H l xs){ys:231}(hD:324 D 459)(S:∀b o u,b≠D->H b=some 494->H' b=some 494):iZ K H' l xs:=by rcases x with⟨o,e⟩|h;exact .inl {o,S _ _ _ (fun z=>by rw[z,hD]at e;cases e) e};exact .inr h
theorem iZ.same(x:iZ K H l xs)(S:416):iZ K H' l xs:=by rcases x with⟨o,e⟩|h;exact .inl {o,S _ _ e};exact .inr h
end
theorem Mj{xs:33}{i:Nat}{ns rest:33}(h:xs.drop i=ns++rest)(hi:i<=xs.length):fP 211 (some (i:Int)) (some ((i+ns.length:Nat):Int))=ns.map V.int:=by
 have hl:i+ns.length<=xs.length:=by have:=eC pX h;rw[cy,bw]at this;omega
 unfold fP;rw[HT.tX,HT.tX,az,A1 hi,A1 hl,<-Wv,h,<-iV,show i+ns.length-i=ns.length by omega,List.take_left]
theorem RD{xs:33}{i:Nat}{ns rest:33}(h:xs.drop i=ns++rest):xs.drop (i+ns.length)=rest:=by rw[<-kj,h,List.drop_left]
def Iw(K:Frag):Sp:=fun vs H Q _=>∃(l:Addr)(xs:List Int),vs=[.ref l]/\iZ K H l 211/\WP xs=true/\∀H' D,H' D=some (80 ((K9 xs).map V.int))->Q 118 H'
theorem nR:bf ["calls","watch","told","place","call","begin","answer"] ["calls"] (a_ P9):=17
theorem ahc(T:65)(Dc:213)(Ee:707):aE P w K mg base bj 254 T.xi.a T.xi.fd ["calls"] (Iw K):=by
 refine T.xi.F.ok nR 28 19;obtain⟨l,xs,rfl,_⟩:=h;rfl;obtain⟨l,xs,rfl,ip,asked,k⟩:=h
 refine(421 (aj (184 nR.nd (abQ T.ag0 (ZE T) (hr.mono 23) rfl T.abO T.xZ.b .nil oj)) (aj (90 nR.nd 505) (aj (92 nR.nd ap) (846 (C9 gY (73 tL 174 (68 734)) (aj (170 nR.nd (25 Fv 56 174)) (aj (bB (73 cD 602 (cF T.abc)) (aj (476 nR.nd (606 174)) (au (92 nR.nd (bQ gK 663 (25 Fv 56 (bQ kI 663 ap)))))) (aj (476 nR.nd (606 174)) (au (92 nR.nd (bQ gK 663 (zx Dc.M6.d Dc.M6.m 602 291)))))) (aj (933 nR.nd (ac6 (442 T.B_ (ahO T Dc Ee) (845 (aa 602 (38 (j9 qM 56 (iI 663) (iI 174)))))))) (aj (cr (122 88 (38 887))) (au (cr (dQ eD WE WF HJ 88 671)))))))))))))
 obtain⟨cs,ec,ak,ake,ea⟩:=aey asked;intro x dx fx fdx nx;refine{x,dx,rfl,aM,fun Wt H1 ew ow S1 X1=>{rfl,?_}};have aio:∀b o,H b=some o->H1 b=some o:=fun b o h=>S1 b o (bF h fx) (by rw[ay (bF h fx),ay (bF h fdx)];exact h);have ip1:iZ K H1 l 211:=ip.same aio;refine{bA _,fun D H2 S2 f2 e2=>?_};have ip2:=ip1.same S2;have X2:cT T.bx T.aJ (cut D D H2) Wt Fa:=X1.same (QQ S2 f2 f2);refine{fun m σ H7=>∃(i:Nat)(Wt:Wa)(s:fm)(cs:List 147)(fu:Nat)(acc:List Int)(y4 y5 y6:Option V),m=xs.length-i/\σ=[some 283,some (.ref Wt.a),some 118,some (.int (i:Int)),y4,y5,y6]/\i<=xs.length/\iZ K H7 l 211/\H7 D=some 94/\cT T.bx T.aJ (cut D D H7) Wt s/\mR s/\uY m7 fu (xs.drop i)=some cs/\Ask cs/\K9 xs=acc++qD s cs/\acc.length+cs.length*5000<=0400*5000,{_,0,Wt,Fa,cs,xs.length,[],none,none,none,rfl,by rw[ew];rfl,bA _,ip2,e2,X2,acW,ec,ak,ea,by rw[jl];omega},?_};rintro m σ H7 ⟨i,Wt,s,cs,fu,acc,y4,y5,y6,rfl,rfl,hi,rh,hD,X7,so,ec,ak,ea,sz⟩;refine{_,rfl,_,rfl,l,_,rfl,.inl rh.sq,_,_,rfl,rfl,_,rfl,?_};rw[az];by_cases aY:i<xs.length
 refine 633 (cK 23);obtain⟨p,ns,rest,PU,lN,fit,DG,Tb,Pf,lcs,pl⟩:=afI ec (fun z=>by have:=eC pX z;rw[cy]at this;simp at this;omega) ak;have jr:∀(j:Nat)(v:Int),(xs.drop i)[j]?=some v->fL 211 ((i+j:Nat):Int)=some (.int v):=fun j v h=>dA (by rw[d_,<-K1,h];rfl);rcases DG with⟨rfl,oo⟩|⟨hm,oo⟩;refine{_,rfl,_,rfl,l,_,_,.int 0,rfl,rfl,rh.sq,jr 0 0 (by rw[oo];rfl),?_};refine 195;refine aS 29 ?_;refine 486;refine{_,rfl,_,rfl,_,rfl,_,_,rfl,rfl,l,_,_,.int (ns.length:Int),rfl,rfl,rh.sq,?_,_,_,rfl,rfl,?_};have:=jr 1 (ns.length:Int) (by rw[oo];rfl);rw[<-this];congr 1;omega;have sT:xs.drop (i+2)=ns++rest:=by rw[<-kj,oo];rfl
 have eb:(i:Int)+2=((i+2:Nat):Int):=by omega
 have ep:(i:Int)+2+(ns.length:Int)=((i+2+ns.length:Nat):Int):=by omega
 have gA:i+2<=xs.length:=by have:=eC pX oo;rw[cy,aR,aR]at this;omega
 refine{D,_,hD,trivial,fun od=>?_};have zr:iZ K 381 l 211:=rh.over hD fun b o u n h=>by rw[ay n];exact h
 have yk:upd H7 D 915 D=some 915:=aM;have X8:cT T.bx T.aJ 381 Wt s:=X7.same fun b o h=>by(have h2:cut D D 381 b=some o:=by rw[nN];exact h);exact nB _ _ h2
 have pA:∀b o u,b≠D->H7 b=some 494->upd H7 D 915 b=some 494:=fun b o u n h=>by rw[ay n];exact h
 ext:0;ext:56;have kl:Dn∉Wt.own:=fun z=>by obtain⟨vs,hv⟩:=X8.lists z;rw[hv]at f9;cases f9
 refine 575;have zc:∀b o u,H8 b=some 494->eI b=some 494:=fun b o u h=>by have h9:=S9 _ _ h;ext:115;rw[hv]at h9;cases h9
 have pb:=zc _ _ _ yk;refine{pb,?_};have yl:Da≠D:=fun z=>by rw[z,pb]at lJ;cases lJ
 have yW:=Jl.QG (T5 pb);have yz:=P5 so (jq 0 ns);have al:=Sc so (jq 0 ns);ext:132;have tV:upd eI D 94 Da=some (80 ((gF s (jq 0 ns)).2.map V.int)):=by rw[ay yl];exact lJ
 generalize gF s (jq 0 ns)=st at yW yz al ea tV;refine 348;have yf:upd (upd eI D 94) D 114 D=some 114:=aM;have JH:upd (upd eI D 94) D 114 Da=some 938:=by rw[ay yl];exact tV
 refine 332;have bK:i+2+ns.length<=xs.length:=by have:=eC pX sT;rw[cy,bw]at this;omega
 refine{xs.length-(i+2+ns.length),by omega,i+2+ns.length,W',st.1,lN,PU,acc++[(st.2.length:Int)]++st.2,_,_,_,rfl,by rw[Nw.a,<-ep];rfl,bK,?_,?_,?_,yz,by rw[RD sT];exact Tb,Pf,by rw[ea];simp,by simp only[bw,aR,jl];omega};exact rh.over hD fun b o u n h=>by rw[ay n,ay n,ay n];exact zc _ _ _ (pA _ _ _ n h)
 rw[aM,bH,bH,az];rfl;rw[nN,nN,nN];exact yW;have p0:p≠0:=by rintro rfl;simp[pJ]at hm
 refine{_,rfl,_,rfl,l,_,_,.int p,rfl,rfl,rh.sq,jr 0 p (by rw[oo];rfl),?_};refine 195;rw[12,(by rw[bg];intro z;exact p0 (V.int.inj z))];refine 486;refine{_,rfl,_,rfl,.inl p,.int (ns.length:Int),rfl,?_,_,_,rfl,rfl,?_};clear oo pl;simp only[pJ,bE,ss,ic,or_false]at hm;rcases hm with⟨rfl,h⟩|⟨rfl,h⟩|⟨rfl,h⟩|⟨rfl,h⟩|⟨rfl,h⟩|⟨rfl,h⟩|⟨rfl,h⟩|⟨rfl,h⟩|⟨rfl,h⟩|⟨rfl,h⟩|⟨rfl,h⟩<;>(rw[h];rfl);have sT:xs.drop (i+1)=ns++rest:=by rw[<-kj,oo];rfl
 have eb:(i:Int)+1=((i+1:Nat):Int):=by omega
 have ep:(i:Int)+1+(ns.length:Int)=((i+1+ns.length:Nat):Int):=by omega
 have gA:i+1<=xs.length:=by omega
 refine{D,_,hD,trivial,fun od=>?_};have zr:iZ K 381 l 211:=rh.over hD fun b o u n h=>by rw[ay n];exact h
 have yk:upd H7 D 915 D=some 915:=aM;have X8:cT T.bx T.aJ 381 Wt s:=X7.same fun b o h=>by(have h2:cut D D 381 b=some o:=by rw[nN];exact h);exact nB _ _ h2
 have pA:∀b o u,b≠D->H7 b=some 494->upd H7 D 915 b=some 494:=fun b o u n h=>by rw[ay n];exact h
 ext:0;ext:56;have kl:Dn∉Wt.own:=fun z=>by obtain⟨vs,hv⟩:=X8.lists z;rw[hv]at f9;cases f9
 refine 575;have zc:∀b o u,H8 b=some 494->eI b=some 494:=fun b o u h=>by have h9:=S9 _ _ h;ext:115;rw[hv]at h9;cases h9
 have pb:=zc _ _ _ yk;refine{pb,?_};have yl:Da≠D:=fun z=>by rw[z,pb]at lJ;cases lJ
 have yW:=Jl.QG (T5 pb);have yz:=P5 so 823;have al:=Sc so 823;ext:132;have tV:upd eI D 94 Da=some (80 ((gF s 823).2.map V.int)):=by rw[ay yl];exact lJ
 generalize gF s (jq p ns)=st at yW yz al ea tV;refine 348;have yf:upd (upd eI D 94) D 114 D=some 114:=aM;have JH:upd (upd eI D 94) D 114 Da=some 938:=by rw[ay yl];exact tV
 refine 332;have bK:i+1+ns.length<=xs.length:=by have:=eC pX sT;rw[cy,bw]at this;omega
 refine{xs.length-(i+1+ns.length),by omega,i+1+ns.length,W',st.1,lN,PU,acc++[(st.2.length:Int)]++st.2,_,_,_,rfl,by rw[Nw.a,<-ep];rfl,bK,?_,?_,?_,yz,by rw[RD sT];exact Tb,Pf,by rw[ea];simp,by simp only[bw,aR,jl];omega};exact rh.over hD fun b o u n h=>by rw[ay n,ay n,ay n];exact zc _ _ _ (pA _ _ _ n h)
 rw[aM,bH,bH,az];rfl;rw[nN,nN,nN];exact yW;refine 572;have oo:xs.drop i=[]:=ajU 23;rw[oo]at ec;rw[aaJ ec,aaS,fN]at ea;refine{_,rfl,k H7 D ?_};rw[hD,ea]
end PC
namespace PC
open PySem PySem.Spec PyProof.Rows L2 XW
open PySem.W (Frag nsIn findIn isFn keepIn codeIn fnOf plainGet hasDictIn plainOver makesIn mroIn nsOkIn)
section
variable{P:aT}{w:aI}{K:Frag}{h:Heap}{mg:Str->Option Value}
def T2(x q:Str)(st:aL)(ps:132):Prop:=∀(kV iG pm:Value)(an:Option Addr)(aO ct:Value)(us:List Value),us.length=ps.length->bindArgs (fnOf x q (qF st) (oA st) (a_ st) .none kV iG pm an aO ct) {us,[]}=pure 672
abbrev fn{x:Str}{st:aL}{ps:132}{f:Addr}{oc:Value}{od an:513}{kV dc pm cd ct:Value}{sl:274}(X:760)(G:437)(hb:T2 x x st ps)(a:441 (some 408))(l:553 f {oc,od,.func (797 x),sl})(c:codeIn K cd x=true)(k:1045 408):Fn K mg x st ps:={f,_,wF l c k,(wF l c k).binds hb,sG X G a}
abbrev me{x q:Str}{st:aL}{ps:132}{f C:Addr}{oc:Value}{od an:513}{kV dc pm cd ct:Value}{sl:274}(hb:T2 x q st ps)(a:uM K 407 x=some (some 408))(i:isFn K 408=true)(l:553 f {oc,od,.func (797 q),sl})(c:codeIn K cd q=true)(k:1045 408):Me K C x q st ps:={f,_,wF l c k,(wF l c k).binds hb,⟨a,i,k⟩}
theorem Jo{q:Str}{st:aL}{ps:132}{C:Addr}{M:Me K C "__init__" q st ps}(a:makesIn K C=true)(b:1045 407):Mk K C M.a:=⟨a,M.m.at_,M.m.fn,b⟩
theorem na{C:Addr}{f:Str}(a:uM K 407 f=some none):gk K C f:=a
theorem ct{x:Str}{i:Int}{tk:Tok}(X:760)(G:437)(a:441 (some (.int i tk))):Ct mg x i:={tk,sG X G a}
theorem cs{x y:Str}{tk:Tok}(X:760)(G:437)(a:441 (some (.str y tk))):Cs mg x y:={tk,sG X G a}
abbrev tx{x:Str}{ys:132}{D:Addr}{ai:136}{n:Nat}{sl:274}(X:760)(G:437)(a:441 (some 118))(l:553 D {.type "tuple",none,.seq ai n,sl})(z:ai.size<=sizeLine)(v:Vals 829 ai.toList):Tx K mg x ys:=
 {D,sG X G a,fun H=>.inr {_,ai,n,l,rfl,rfl,z,v}}
def Ek(w:aI)(e:DictEntry)(kv:489):Prop:=m_ kv.1 e.key=true/\e.hash=LS w kv.1/\RelV kv.2 e.val
theorem Qr:∀{es:List DictEntry}{am:List 489},Paired (Ek w) es am->∃vs,KV am vs/\Pairs 818 es vs/\vs.map (·.1)=am.map (·.1)/\∀e∈es,∃k,(eY P w).is k e.key=true/\e.hash=(eY P w).hash k
 |_,_,.nil=>{[],.nil,.nil,rfl,fun e he=>nomatch he}
 |_,_,@Paired.cons _ _ _ e kv es am r t=>by obtain⟨vs,h1,h2,h3,h4⟩:=Qr t;obtain⟨r1,r2,r3⟩:=r;refine{(kv.1,e.val)::vs,.cons ⟨rfl,r3⟩ h1,.cons r1 rfl h2,?_,fun e' he=>?_};rw[bL,bL,h3];rcases bE.mp he with rfl|he;exact⟨kv.1,r1,r2⟩;exact h4 e' he
abbrev dd{x:Str}{am:List 489}{D:Addr}{es:Array DictEntry}{ep:Nat}(X:760)(G:437)(a:441 (some 118))(l:553 D {.type "dict",none,.dict es ep,#[]})(nm:(D==lV)=false)(r:Paired (Ek w) es.toList am)(nd:(am.map (·.1)).Nodup):Dd P w K mg x am:=
 ⟨D,sG X G a,nm,by
  obtain⟨vs,h1,h2,h3,h4⟩:=Qr (P:=P) r
  exact{vs,h1,fun g hg=>{_,es,ep,hg _ _ l,⟨rfl,rfl,rfl⟩,rfl,fun e he=>h4 e (by simpa using he),h2,by rw[h3];exact nd}}⟩
theorem acs{f:Addr}(e:isFn K 408=true):(K.lookup f).any (fun o=>o.cls==.type "function")=true:=by have e:(K.lookup f).map (·.cls)=some 1046:=eq_of_beq (show(PySem.W.typeIn K 408==some 1046)=true from e);cases l:K.lookup f with|none=>rw[l]at e;cases e|some o=>rw[l]at e;have e:o.cls=.type "function":=dZ e;show(o.cls==kf "function")=true;rw[e];decide
theorem ww{Go:Prop}{C NW f:Addr}{nm q:Str}{bs:97}{sn:132}{sub:97}{ab:Bool}{col:96 Bool}{Uc:513}{k0 k1 k2 k3 k5:385}{oc:Value}{od an:513}{kV dc pm cd ct:Value}{sl:274}(X:760)(G:437)(g:nsIn K mainGlobals "WrongWord"=some (some 407))(xl:553 C (ET nm q C NW bs [.type "Exception",.type "BaseException",.type "object"] true sn sub ab col Uc k0 k1 k2 k3 k5 "Exception.__new__"))(xok:nsOkIn K NW=true)(xin:nsIn K NW "__init__"=some (some 408))(Zh:nsIn K NW "__setattr__"=some none)(xwd:nsIn K NW "word"=some none)(xfn:isFn K 408=true)(W6:1045 407)(xga:uM K 407 "__getattribute__"=some (some 833))(xgt:uM K 407 "__getattr__"=some none)(xmb:mroIn K C 583=some true)(xhd:hasDictIn K C=true)(ZJ:uM K 407 "word"=some none)(l:553 f {oc,od,.func (fnOf "__init__" "WrongWord.__init__" (qF vd) (oA vd) (a_ vd) .none kV dc pm an cd ct),sl})(c:codeIn K cd "WrongWord.__init__"=true)(k:1045 408)(go:∀(C NW f:Addr)(fd:eW),mg "WrongWord"=some 407->mH K "__init__" "WrongWord.__init__" vd f fd->Binds K fd ["self","word"] []->qC K C NW f->Go):Go:=go C NW f _ (sG X G g) (wF l c k) ((wF l c k).binds fun _ _ _ _ _ _ us hl=>match us,hl with|[_,_],_=>rfl) {⟨nm,q,bs,sn,sub,ab,col,Uc,k0,k1,k2,k3,k5,xl⟩,xok,xin,Zh,xwd,acs xfn,W6,⟨xga,xgt,xmb⟩,xhd,ZJ}
theorem exx{T:65}{o:Obj}(l:553 T.mK.a o)(c:o.cls=.type "tuple")(d:o.dict=none):Ex K mg T:=⟨o,l,c,d⟩
theorem iZ.of{H:Hp}{l:Addr}{xs:231}(hO:wp H)(s:aq K H l xs):iZ K H l xs:=by rcases s with(r|⟨o,r⟩)|r;rcases hO l with z|⟨o,u,z⟩;rw[z]at r;cases r;rw[z]at r;cases r;rw[17,⟨o,r⟩];exact .inr fun H'=>.inr r
theorem fin{fa:Addr}(hfa:mg "answers"=some (.ref fa))(T:65)(Dc:213)(Ee:707):∃fd:eW,(∀(s:Shared)(us:List Value),us.length=(["calls"]:132).length->BindsTo s fd {us,[]} ((["calls"]:132).zip us))/\∀base:Heap,K.In base->base.Ns mainGlobals mg->aE P w K mg base bj 254 fa fd ["calls"] (Iw K):=by have e:=hfa.symm.trans T.xi.m;cases e;refine{T.xi.fd,fun s us hu=>?_,fun base _ _=>ahc T Dc Ee};obtain⟨oc,od,kV,dc,pm,an,aO,ct,lK,e,lk,lA⟩:=T.xi.F.ex;rw[e];match us,hu with|[_],_=>exact .of_eq rfl
end
end PC
open PySem PySem.W PyProof.Rows
theorem PySem.Challenge.cw_pastcells_s01_answers_holds : PySem.Challenge.rw_pastcells_s01_answers.Holds := by
 w_on;k_headS;(case hw=>exact{[.list [.int 2]],by decide+kernel,by decide+kernel})
 k_fillS
 refine L2.aih (r:=aj0) (k:=254) (CX:=L2.bj) (ps:=["calls"]) (sp:=PC.Iw) 47 rfl rfl {rfl,by decide,by decide} (fun w h Y=>PySem.W.kIn_of Y) ?F ?S (fun _ _ _ _ z=>z)
 case F=>
  intro w mg fa h Y KX G Jk
  refine' PC.ww KX G _ _ _ _ _ _ _ _ _ _ _ _ _ _ _ _ fun C N f fd g F b W=>?_
  any_goals k_is
  kernel_rfl
  refine' PC.fin Jk {21,26,26,21,26,26,26,21,26,26,26,26,26,21,21,36,21,26,36,209,21,21,26,26,21,26,21,26,21,36,36,209,21,21,21,21,21,21,21,26,21,36,36,36,36,36,36,21,36,36,(PC.fn KX G (fun _ _ _ _ _ _ us hl=>match us,hl with|[_,_,_,_,_],_=>rfl) _ _ _ _),26,36,26,26,26,21,21,21,21,21,21,21,21,21,21,21,21,209,21,21,36,26,_,(sG KX G _),{_,_,_,_},C,g,_,(sG KX G _),{_,_,_,_},_,(sG KX G _),{_,_,_,_},526,526,526,526,526,526,526,526,526,526,526,526,526,526,471,(PC.Jo _ _),234,(PC.Jo _ _),242,242,234,234,(PC.me (fun _ _ _ _ _ _ us hl=>match us,hl with|[_,_,_],_=>rfl) _ _ _ _ _),471,242,(PC.Jo _ _),N,f,fd,F,b,W,815,973,973,163,815,815,815,815,163,163,163,163,973,163,163,163,163,163,163,163,163,163,163,163,163,163,163,163,270,270,270,270,270,270,270,270,270,270,270,270,270,270,270,270,270,270} {PC.dd KX G _ _ _ _ _,PC.dd KX G _ _ _ _ _,PC.dd KX G _ _ _ _ _,PC.dd KX G _ _ _ _ _,PC.dd KX G _ _ _ _ _} (PC.exx _ _ _)
  any_goals k_is
  iterate 3 (decide;(repeat refine .cons 569 ?_);exact .nil)
  iterate 5 (rfl;(repeat refine .cons {rfl,rfl,by first|exact rfl|exact⟨_,rfl⟩} ?_);exact .nil;exact of_decide_eq_true 390)
  rfl
  rfl
 case S=>
  intro K H xs a hO Il ahR hx
  cases hx with
  |cons h1 h2=>
   cases h2
   cases h1 with
   |lst hs ha=>
    have e:=L2.UY a.1 _ ha
    subst e
    exact{_,a.1,rfl,PC.iZ.of hO hs,ahR,fun H' p hp=>.lst (L2.aq.of hp) (L2.Qe _)}
