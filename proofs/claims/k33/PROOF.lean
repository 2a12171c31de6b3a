import PyProof.Rows.All
import KE.RegKTryMore
import KE.KFromBytes
import KE.KDictOf
import KE.KLam
import KE.KNestM
import KE.KEqDict
import KE.KRevIter
import KE.KUnpack
import KE.KDictSum
import KE.RegKIsAll
import KE.KSortTup
import KE.KPairComp
import Lean
import PySem.Challenge.RW_copykin_k33_whole_a_tree_or_a_clash
local macro_rules|`(command|abbrev $d:declId $s:optDeclSig $v:declVal)=>`(command|noncomputable def $d:declId $s:optDeclSig $v:declVal)
open Array renaming length_toList->aV,getElem?_toList->bS,getElem?_eq_getElem->ck,getElem?_eq_some_iff->cq,getD_eq_getD_getElem?->cD,size_map->fB,forIn_toList->gP,getElem?_setIfInBounds->gU,perm_iff_toList_perm->iH,mem_toList_iff->kX,getElem?_map->mM,replicate->qa,getElem?_setIfInBounds_self_of_lt->qO,find?_toList->uQ,toList_push->vL,ext'->BZ,getElem?_eq_none->Ga,toList_filter->JU,getD->N2
open Bool renaming false_ne_true->aq,and_eq_true->aB,false_eq_true->aJ,or_eq_true->cR,eq_iff_iff->de,false_and->dR,and_false->dS,and_eq_true_iff->eE,not_true->eK,true_and->eY,eq_false_iff->ix,beq_eq_decide_eq->JO
open Classical renaming byContradiction->au,not_forall->gZ,not_imp->tE
open False renaming elim->iG
open ForInStep renaming yield->iW
open Int renaming toNat_natCast->bo,emod_nonneg->bU,emod_lt_of_pos->cn,eq_ofNat_of_zero_le->dA,zero_add->dP,fdiv_eq_ediv_of_nonneg->D1
open Lean.Name renaming str->cS,anonymous->Eh
open List renaming getElem?_eq_getElem->ae,getD_eq_getElem?_getD->ah,length_map->ao,getElem?_eq_some_iff->av,mem_cons_of_mem->ax,getElem?_map->ay,size_toArray->aE,range->aF,mem_cons_self->aG,mem_of_getElem?->aH,mem_map->aI,mem_cons->aK,mem_range->aR,mem_iff_getElem?->aS,mem_singleton->aU,lookup_cons->bg,map_cons->bw,all_eq_true->bx,mem_append_right->bz,length_range->bC,map_map->bF,length_cons->bG,length_take->bJ,nodup_cons->bN,length_eq_zero_iff->bP,getElem_mem->bQ,length_append->bX,getElem?_range->bZ,replicate->cu,any_eq_true->cz,mem_append_left->cF,getElem_map->cH,take_add_one->cJ,pairwise_map->cK,map_congr_left->cN,ext_getElem->cQ,mem_append->cX,getElem?_append_left->da,take_length->dg,not_mem_nil->dh,nodup_append->du,lookup->dH,getElem?_append_right->dI,map_append->dM,mem_filter->d4,foldl_cons->d8,mem_iff_getElem->eD,length_pos_iff->eN,getElem?_eq_none->eR,toArray->eW,getElem?_take_of_lt->eX,getElem_inj->fu,nodup_nil->fC,pairwise_iff_getElem->fN,mem_of_mem_take->fS,append_assoc->fT,replicate_succ->gD,take_of_length_le->gR,filter_append->gS,perm_ext_iff_of_nodup->iJ,map_id->iK,length->iM,getElem?_eq_none_iff->i8,forIn_cons->jq,find?_cons->jr,getElem?_drop->ju,find?_eq_none->jv,nodup_range->kE,mem_reverse->kF,mem_erase_of_ne->k9,getElem?_set_ne->la,length_nil->lH,append_nil->lJ,mem_map_of_mem->lR,filterMap_cons->lS,forIn_nil->mP,mem_of_find?_eq_some->nC,flatten_cons->nY,ext_getElem?->nZ,any_cons->oG,mem_flatMap->oN,filter_cons_of_pos->oO,filter_cons_of_neg->oP,pairwise_lt_range->p7,map_nil->p8,getElem?_set_self->p9,length_singleton->qL,getElem?_toArray->qM,perm_cons_erase->rF,mem_of_mem_drop->rG,toList_toArray->tK,filter_sublist->tL,zip_cons_cons->vo,mem_filterMap->vp,lookup_append->vq,take_sublist->wj,reverse_cons->wk,foldl_append->wm,eraseIdx_eq_take_drop_succ->yg,map_snd_zip->yl,cons_append->ym,of_mem_zip->zY,nil_append->zZ,length_set->z6,find?_some->z7,length_eraseIdx_of_lt->B3,length_erase_of_mem->Ef,all_cons->Eg,getElem?_cons_succ->F9,length_pos_of_mem->Hy,any_map->Hz,take_append_drop->JM,length_filter_le->JN,flatMap_append->N1
open List.Pairwise renaming and_mem->gE,nil->i9
open List.Perm renaming refl->fm,swap->pI,eq_of_pairwise->yK
open List.cons renaming injEq->oF
open Nat renaming le_refl->aC,ne_of_lt->aM,le_trans->aT,zero_le->bf,lt_of_lt_of_le->bu,lt_succ_of_lt->bA,lt_succ_self->dj,le_succ->dk,lt_of_le_of_lt->dJ,lt_irrefl->dW,not_lt_zero->d9,ne_of_gt->eM,le_add_right->fA,lt_trans->fX,le_succ_of_le->fY,le_of_not_lt->i6,le_of_lt->i7,mod_lt->nr,le_of_eq->qd,eq_of_testBit_eq->tD,not_lt->vK,zero_add->yf,strongRecOn->BV,le_antisymm->BW,sub_self->JK,and_self->JL
open Nat.succ renaming inj->jt
open Ne renaming symm->bI
open Option renaming isSome_iff_exists->cW,bind_some->gp,isSome_some->gK,isNone_iff_eq_none->iU,map_some->k7,map_eq_some_iff->oM,getD_none->wg,isSome_none->JT
open Option.some renaming inj->aW,injEq->lG
open Prod renaming fst->JS
open Prod.mk renaming injEq->BU
open PyProof.Rows renaming IntsAre->cM,callWith_type1->cP,slot_tuple_getitem->di,callWith_builtin1->fM,listUpdate_at->gG,boot_list->mO,AllBare->qb,subscriptTail_builtinR->tm,get?_update_seq->tH,entry_list_sort->tI,slot_list_sort->vF,seqEpoch_at->vI,boot_tuple->ye,tupleItemsOf_->yh,size_push'->yH,boot_int->yJ,plain_sorted->BF,entry_sorted->BJ,StrsAre->BO,kind_sorted->D6,sortedHeap->Jy,args_list_sort->JI,subscriptTail->NL,sortedAll_old->NM
open PyProof.Rows.F renaming plain_set_update_loop->bE,entry_set_update_loop->cT
open PySem renaming wpAny_bind->aa,wpAny_pure->aj,SetTable->aQ,wpAny_holding->ba,IsTupleKey->bD,starEach->bH,mem_of_lookup->bO,wpAny_newObj_type->bR,mainGlobals->bY,wpAny_setState_of->cf,wpAny_call_entry->cB,codeAny_builtin->cY,cellsFrom->cZ,compareOp->dc,wpAny_mono->dy,wpAny_callSpecial?_slot->dN,wpAny_truthy_bool->dZ,wpAny_setField_rec->eH,Fin->eL,wpAny_seqItems->eP,NameKind->eZ,plainId_quiet->fj,wpAny_field->fK,wpAny_Call_Name_kw->fO,FuncData->fP,scanBound->gm,codeAny_call_builtin->gz,codeAny->gA,bootBuiltins->gB,binaryOp->gC,wpAny_typeOf->hO,wpAny_rule->hU,wpAny_call->hV,sysModules->hZ,codeAny_mono->ip,wpAny_passesOwn->iE,GenState->iF,wpAny_standAt->iI,wpAny_richCompare_same_room->iV,strIterType->je,assignEach->jf,wpAny_askSetting->jo,wpAny_attempt->jH,wpAny_pyIter_tuple->jW,wpAny_eqBool_tuple->jX,seqItems?->jY,pickOrder->jZ,excClassObj->j6,wpAny_storeSet_of->kN,wpAny_pyIter_list->kO,wpAny_loadPart_at->kP,recursionLimit->kQ,foldedSetIterable->kT,Value->kU,wpAny_eqIsQuiet_tuple->lF,wpAny_forIn_list->lL,call_meets->lM,Within->lO,wpAny_newList->me,wpAny_of_eq->mI,sliceBounds->mJ,sizeLine_eq->mK,setAddHashed->nW,noteFrame->oE,builtinsNs->oK,wpAny_letGo->pW,searchCouldBeSeen->pX,ofAClassStatement->pY,keywordEach->pZ,fits_of_scanBound->p5,atKey_none_of_get->p6,wpAny_isInstance->rm,wpAny_eqBool_int->rn,tupleKind->rq,swapsWith->rA,relayAll->rB,bindArgs->rC,wpAny_specialOf->tF,letOwnedTupleGo->tG,codeAny_of_tree->tJ,wpAny_tryCatch->vD,wpAny_setField->vE,setField->vG,seqIndex_of->vH,firstArgMember->vJ,putSet_of->wc,standAt->BE,getItem->BI,backToKw->BK,Addr->BS,setFlight->DU,onTheHeap->DV,checkBuiltinCall->DW,hashByValue->D7,Str->Ed,wpAny_updateSeq->F5,wpAny_execs_nil->F6,Shared->F8,callerA->Hu,wpAny_runValue->Jv,wpAny_loadPart->Jw,wpAny_Name->Jx,setsByText->Jz,setAddHashedIn->JA,raiseNew->JB,isSubtype_type->JC,isInstance->JD,entryFor->JE,dictSetDefault->JF,closureFor->JG,checkCount->JH,swapsWithSole->NK,setSearchFrom->NO,behindInMarks->NP,attributeBase->NQ
open PySem.Around renaming under_plainId->cE,under->Ej,under_plain->JV
open PySem.AutoSeq1 renaming wpAny_loadPart'->mS
open PySem.Builtin renaming bitAnd->jw,bitXor->lU
open PySem.Builtin.Builtins renaming bindParams->gd
open PySem.Builtin.Frozenset renaming updateFrom->qe
open PySem.Builtin.List renaming listTooLong->iA,listTouch->mR,listLengthHint->uO,listExtendWith->uP
open PySem.Builtin.Range renaming rangeSize->wq
open PySem.Builtin.Slice renaming slicePlaces->gW,sliceAdjust->kW,sliceApplied->uN
open PySem.Builtin.SmallTypes renaming nextOf->fg
open PySem.Builtin.Str renaming occurrences->iY,strSliceIndices->vv
open PySem.Builtin.Tuple renaming tupleExact->iu,tupleItemsOf->uL,tupleIsExact->uM,tupleHashOf->vt
open PySem.Calls renaming call_function_entry->iX,spliced_cons->mL,Name_function_global->BY
open PySem.Code renaming quiet_builtin->mQ,isFrame->HA
open PySem.EntryCells renaming newEntry->D5
open PySem.F renaming attrBase_ValueError->gV,slot_tuple_iterator_next->ja,slot_tuple_lt->jx,excBase_ValueError->lQ,slot_dict_setdefault->yd,args_tuple_lt_2->yL,entry_tuple_lt->BX,plainAttrs_list->B2,args_tuple_iterator_next_1->D4,entry_bexc_ga->Ee,entry_tuple_iterator_next->Ei
open PySem.Heap renaming get?_push_of_some->af,get?_push_size->az,lt_size->aA,get?_update_other->aX,get?_update_self->bK,size_push->bL,SameBut->cU,size_update->oQ,get?_none_of_le->rH,MadeExcOf->rJ
open PySem.Heap.SameBut renaming update->bM,refl->qN
open PySem.IsL renaming update->JJ
open PySem.Moved renaming trans->rE
open PySem.NameKind renaming free->cL,cell->dz
open PySem.Obj renaming mapSeq->bq,putSet->fH,data_mapFields->fJ,mapFields->gc,isFreed_of_fields->kD,data_mapDictKeys->NZ
open PySem.Paired renaming length->ny
open PySem.PyData renaming keyHash->aw
open PySem.SeqAt renaming notIn_listAt->NT,EqAt->NU
open PySem.SeqAt.EqAt renaming str_int->D9,int_str->Ea
open PySem.SetTable renaming insertAt->bc,below->cG,grown->fo,advance->iz,fits->rD,turns->yi,probe->yj,Probe->yk,slot->zW,fill->zX,has->B1,sameMemory->F7,orStandIn->Hv,tooFull->JP,relaid->NR
open PySem.SetTable.below renaming go->BP
open PySem.SetTable.probe renaming go->dG
open PySem.Shared renaming TypeIs->B0
open PySem.Str renaming ofString->bh,length->DX
open PySem.Value renaming ref->aN,none->cg,type->gO,int->iT,builtin->jg,str->js,isInt_shape->nu,bool->BN
open PySem.W renaming Frag->ak,fnOf->aP,keepIn->cO,kas_sort->dO,kia_one->dQ,mg_of->eG,nsIn->eI,codeIn->fq,findIn->gb,kitOne->iq,kas_descPart->kR,kmHook->lP,kas_sort->nX,looks_findIn->tw,callWith_K->tB,specialIn->uJ,methodObj->uK,findObj->we,instObj->yc,lookIn->yI,kas_rev->BH,mroIn->BQ,cellsFrom_some->DZ,looks_clsIn->Hw,codeHd_of_K->Hx,kitx_list->JQ,kitx_dict->JR,plainGet->NV,openEnds->NW,km_in_of->NX,codeHdIn->NY
open PySem.W.Hook renaming val->Eb,obs->Ec
open PySem.W.KasT renaming ret->wo
open PySem.W.Looks renaming here->BR
open PySem.Walks renaming list->BL
open PySem.Within renaming cons->DY
open PySem.pickOrder renaming go->BG
open Sum renaming inl->eQ,inr->fW
open PySem PySem.Spec PyProof.Rows
set_option compiler.extract_closed false
set_option bootstrap.genMatcherCode false
theorem W0{p:Prop}[Decidable p](h:decide p=true):p:=of_decide_eq_true h
local macro_rules|`(($a,$b,*))=>if b.elemsAndSeps.size%2==0 then`(⟨$a,$b,*⟩)else Lean.Macro.throwUnsupported
local macro_rules|`(⇑$s)=>`(($s).heap.objs.size)
local macro_rules|`($a<*$b)=>`($a=some $b)
local macro_rules|`(↥$s)=>`(by simpa using $s)
local macro_rules|`($c:char)=>let i:=Lean.mkIdent;match c.getChar with|'A'=>`($(i `Inv) $(i `X) $(i `pins) $(i `σ) $(i `H) $(i `s))|'B'=>`(wpAny (model $(i `prog) $(i `w)) $(i `A))|'C'=>`(wpAny (model ($(i `X)).prog ($(i `X)).w) ($(i `X)).A)|'D'=>`(by lia)|'E'=>`(by decide)|'F'=>`(by simp)|'I'=>`(PySem.Value->PySem.Shared->Prop)|_=>Lean.Macro.throwUnsupported
set_option Elab.async false
set_option linter.all false
set_option maxRecDepth 100000
set_option maxHeartbeats 0
variable {es es' bi:Array (Int×kU)}{bv s0 s2 s3 ce:Array (Option kU)}{ac items:Array kU}{led:Bool}{NS ps rows:List (List Int)}{pins pins':List (BS×PySem.Obj)}{hs ns qs r v:List Int}{as ch fp tabs:List BS}{N ks loose:List Ed}{args bmB ds ad its' kv out rest us vs ws:List kU}{ep i j k m n p q t':Nat}{nf:Nat->Ed}{cr func o0 o1 o2 o3 od cs:Option BS}{C CC I L S T a ab ar b be c c' dx f fI fa fl it kS kd l pl sl x0:BS}{A:PySem.Around}{e o tg:PySem.Expr}{Qf:eL->F8->Prop}{base h h' h0 h1:PySem.Heap}{bn np p' pos pos' pp:PySem.Pos}{P prog:PySem.Program}{sc sc' scope:PySem.Scope}{s s':F8}{qual x z:Ed}{mA mN mb mg:Ed->Option kU}{ai ct cb dV am oc pm u vl vu:kU}{E QQ Q₁ xe:kU->F8->Prop}{K:ak}{w:PySem.World}
namespace L2
abbrev bV(s:Stmt):Arguments:=match s with
 |.FunctionDef _ a _ _ _ _ _ _ _ _=>a
 |_=>{posonlyargs:=[],args:=[],vararg:=none,kwonlyargs:=[],kw_defaults:=[],kwarg:=none,defaults:=[]}
abbrev bB(s:Stmt):List Stmt:=match s with
 |.FunctionDef _ _ b _ _ _ _ _ _ _=>b
 |_=>[]
abbrev aZ(s:Stmt):Scope:=match s with
 |.FunctionDef _ _ _ _ _ _ sc _ _ _=>sc
 |_=>{kind:=.function,names:=[],isGenerator:=false,isCoroutine:=false}
end L2
namespace K33
open PySem.Calls
abbrev top(i:Nat):Stmt:=PySem.Challenge.pw_copykin_k33_whole_a_tree_or_a_clash.main.body.getD i (.Pass (0,0,0,0,))
abbrev kj(i j:Nat):Stmt:=match top i with
 |.ClassDef _ _ _ b .. =>b.getD j (.Pass (0,0,0,0,))
 |s=>s
abbrev vw:Program:=
 {PySem.Challenge.pw_copykin_k33_whole_a_tree_or_a_clash with main:={PySem.Challenge.pw_copykin_k33_whole_a_tree_or_a_clash.main with body:=[top 1,top 2,top 3,top 5,top 6,top 7,top 8,top 9,top 10,top 11,top 12,top 13,top 14,top 15,top 16,top 17,top 19,top 20,top 21,top 22,top 24,top 25,top 26,top 27,top 29,top 30,top 31,top 32,top 33,top 34,top 35,top 36,top 37,top 38,top 39,top 40,top 41,top 42,top 43,top 44]}}
abbrev loo:List Str:=[]
abbrev xt(s:Shared):Bool:=PySem.W.xlAt vw [] s&&PySem.W.recOk [] s
abbrev lhsA(p q:Program)(l:List Str)(w:World):=(NW treeTable p w 3470).map (PySem.W.openSeen q l (importedModules p.main.body) (λs=>PySem.W.xlAt q [] s&&PySem.W.recOk [] s) true)
abbrev seen{α:Type _}(_:α):Bool:=true
def laidA:(seen lhsA)=true:=by k_qdec
abbrev lhsW(l:PySem.W.OpenLaw):Bool:=PySem.W.OpenLaw.wellSaid l
def laidW:(seen lhsW)=true:=by k_qdec
def saidW:lhsW PySem.Challenge.rw_copykin_k33_whole_a_tree_or_a_clash=true:=by
 have _:=laidW;rw[PySem.W.Fast.te9360813571250759583]
 kernel_rfl
def left0(w:World):lhsA PySem.Challenge.pw_copykin_k33_whole_a_tree_or_a_clash vw loo w<*(PySem.W.openGood vw loo):=by
 have _:=laidA;rw[PySem.W.Fast.te7645303812914601]
 kernel_rfl
def leftA(w:World):(NW treeTable PySem.Challenge.pw_copykin_k33_whole_a_tree_or_a_clash w 3470).map (PySem.W.openSeen vw loo (importedModules PySem.Challenge.pw_copykin_k33_whole_a_tree_or_a_clash.main.body) xt true)<*(PySem.W.openGood vw loo):=left0 w
def both{c d e:Type}{o:Option c}{f:c->d}{g:c->e}{a:d}{b:e}(h:o.map f<*a)(k:o.map g<*b):(o.map λs=>(f s,g s))<*(a,b):=by
 cases o with
 |none=>cases h
 |some x=>injection h with h;injection k with k;rw[<-h,<-k];rfl
end K33
namespace K33
open PySem.Calls L2
set_option hygiene false in
local macro_rules
 | `(#v[$x:str,$t,$r])=>`((aw P $x,.str $x $t,.ref $r,))
 | `(#v[252])=>`(.str "copykin.tables" 252)
 | `(#v[321])=>`(.str "copykin.clashes" 321)
 | `(#v[358])=>`(.str "copykin.trees" 358)
 | `(#v[392])=>`(.str "law_copykin_k33_whole_a_tree_or_a_clash" 392)
 | `(#v[$c:num,$x,$t,$e,$f,$l,$k,$a,$b,$d,$u,$v,$g:num,$i,$m,$z])=>`((nat_lit $c,(.type "code",none,(.fields #[.str $x $t,.str $x $e,.str "/claim/cut.py" $f,.int $l 0,.int $k 0,.int 0 0,.int 0 0,.int 3 0,.ref $a,.bool true,.int 181 0,.ref $b,.none,.none,.none,.ref $d,.int $u 0,.int $l 0,.str "/claim/cut.py" $v]),#[],))::(nat_lit $g,(.type "function",none,(.func (aP $x $x (bV (top $i)) (bB (top $i)) (aZ (top $i)) .none .none .none $m none (.ref $c) .none)),#[],))::$z)
 | `(#v[$c:num,$x,$t,$e,$f,$l,$k,$a,$b,$d,$u,$v,$g:num,$i,$m,$o,$p,$z])=>`((nat_lit $c,(.type "code",none,(.fields #[.str $x $t,.str $x $e,.str "/claim/cut.py" $f,.int $l 0,.int $k 0,.int 0 0,.int 0 0,.int 3 0,.ref $a,.bool true,.int 181 0,.ref $b,.none,.ref $o,.ref $p,.ref $d,.int $u 0,.int $l 0,.str "/claim/cut.py" $v]),#[],))::(nat_lit $g,(.type "function",none,(.func (aP $x $x (bV (top $i)) (bB (top $i)) (aZ (top $i)) .none .none .none $m none (.ref $c) .none)),#[],))::$z)
abbrev Dp(P:PySem.Params):ak:=
 (nat_lit 2,(.none,none,(.dict #[] 0),#[],))::
 (nat_lit 3,(.type "dict",none,(.dict #[(aw P "__name__",.str "__name__" 165,.str "law_copykin_k33_whole_a_tree_or_a_clash" 392,),(aw P "__doc__",.str "__doc__" 166,.none,),(aw P "__package__",.str "__package__" 167,.none,),(aw P "__loader__",.str "__loader__" 168,.builtin "__main__.__loader__#opaque",),(aw P "__spec__",.str "__spec__" 169,.none,),#v["__annotations__",170,6],#v["__builtins__",171,4],(aw P "__file__",.str "__file__" 173,.str "/claim/cut.py" 172,),(aw P "__cached__",.str "__cached__" 174,.none,),#v["KinError",206,24],#v["Clash",235,44],#v["NoTable",251,56],(aw P "LETTERS",.str "LETTERS" 255,.str "abcdefghijklmnopqrstuvwxyz" 254,),(aw P "LONGEST_NAME",.str "LONGEST_NAME" 257,.int 8 256,),(aw P "MOST_PLACES",.str "MOST_PLACES" 259,.int 60 258,),(aw P "MOST_COPIES",.str "MOST_COPIES" 261,.int 40 260,),#v["is_whole",268,65],#v["is_name",274,70],#v["is_reading",281,77],#v["are_readings",287,82],#v["is_copy",294,89],#v["is_table",300,94],#v["need_table",307,101],#v["table_list",313,106],#v["place_count",320,113],#v["KINDS",331,118],#v["first_of_kinds",337,123],#v["clash",349,130],#v["refuse_clash",357,137],#v["group_at",371,144],#v["turned",377,149],#v["grown",383,154],#v["tree",391,161],#v["_law_cell_at",401,168],#v["_law_whole",408,175],#v["_law_draw",418,182],#v["_law_names",433,189],#v["_law_random",439,194],#v["_law_otherwise",445,199],#v["_law_grown",451,204],#v["_law_held",462,211],#v["_law_reached",474,218],#v["_law_apart",480,223],#v["_law_holds",486,228],#v["_law_table",492,233],#v["_law_any_clash",498,238],#v["_law_four",504,243],#v["_law_told",515,250],#v["law",521,255]] 49),#[],))::
 (nat_lit 23,(.type "dict",none,(.dict #[(aw P "__module__",.str "__module__" 196,.str "copykin.errors" 187,),(aw P "__firstlineno__",.str "__firstlineno__" 200,.int 2 199,),#v["__static_attributes__",201,22],#v["__weakref__",203,25],(aw P "__doc__",.str "__doc__" 204,.none,)] 3),#[],))::
 (nat_lit 24,(.type "type",none,(.cls {name:="KinError",bases:=[.type "ValueError"],mro:=[.ref 24,.type "ValueError",.type "Exception",.type "BaseException",.type "object"],ns:=23,qualname:="KinError",hasDict:=true,slotNames:=[],subclasses:=[.ref 44,.ref 56],abstract:=false,collection:=none,hasDel:=false}),#[(some (.ref 15)),none,(some (.str "KinError" 189)),(some (.str "KinError" 197)),(some (.builtin "ValueError.__new__")),(some (.bool true))],))::
 (nat_lit 40,(.type "code",none,(.fields #[.str "__init__" 219,.str "Clash.__init__" 220,.str "/claim/cut.py" 221,.int 6 0,.int 4 0,.int 0 0,.int 0 0,.int 3 0,.ref 35,.bool true,.int 181 0,.ref 36,.none,.ref 37,.ref 38,.ref 39,.int 226 0,.int 6 0,.str "/claim/cut.py" 227]),#[],))::
 (nat_lit 41,(.type "function",none,(.func (aP "__init__" "Clash.__init__" (bV (kj 2 0)) (bB (kj 2 0)) (aZ (kj 2 0)) .none .none .none (.str "copykin.errors" 187) none (.ref 40) .none)),#[],))::
 (nat_lit 43,(.type "dict",none,(.dict #[(aw P "__module__",.str "__module__" 214,.str "copykin.errors" 187,),(aw P "__firstlineno__",.str "__firstlineno__" 218,.int 4 217,),#v["__init__",228,41],#v["__static_attributes__",232,42],(aw P "__doc__",.str "__doc__" 233,.none,)] 2),#[],))::
 (nat_lit 44,(.type "type",none,(.cls {name:="Clash",bases:=[.ref 24],mro:=[.ref 44,.ref 24,.type "ValueError",.type "Exception",.type "BaseException",.type "object"],ns:=43,qualname:="Clash",hasDict:=true,slotNames:=[],subclasses:=[],abstract:=false,collection:=none,hasDel:=false}),#[(some (.ref 28)),none,(some (.str "Clash" 207)),(some (.str "Clash" 215)),(some (.builtin "ValueError.__new__")),(some (.bool true))],))::
 (nat_lit 55,(.type "dict",none,(.dict #[(aw P "__module__",.str "__module__" 243,.str "copykin.errors" 187,),(aw P "__firstlineno__",.str "__firstlineno__" 247,.int 11 246,),#v["__static_attributes__",248,54],(aw P "__doc__",.str "__doc__" 249,.none,)] 2),#[],))::
 (nat_lit 56,(.type "type",none,(.cls {name:="NoTable",bases:=[.ref 24],mro:=[.ref 56,.ref 24,.type "ValueError",.type "Exception",.type "BaseException",.type "object"],ns:=55,qualname:="NoTable",hasDict:=true,slotNames:=[],subclasses:=[],abstract:=false,collection:=none,hasDel:=false}),#[(some (.ref 47)),none,(some (.str "NoTable" 236)),(some (.str "NoTable" 244)),(some (.builtin "ValueError.__new__")),(some (.bool true))],))::
 #v[64,"is_whole",262,263,264,18,1,59,60,63,266,267,65,9,#v[252],61,62,
 #v[69,"is_name",269,270,271,20,1,66,67,68,272,273,70,10,#v[252],
 #v[76,"is_reading",275,276,277,26,1,71,72,75,279,280,77,11,#v[252],73,74,
 #v[81,"are_readings",282,283,284,28,1,78,79,80,285,286,82,12,#v[252],
 #v[88,"is_copy",288,289,290,32,1,83,84,87,292,293,89,13,#v[252],85,86,
 #v[93,"is_table",295,296,297,36,1,90,91,92,298,299,94,14,#v[252],
 #v[100,"need_table",301,302,303,44,1,95,96,99,305,306,101,15,#v[252],97,98,
 #v[105,"table_list",308,309,310,47,1,102,103,104,311,312,106,16,#v[252],
 #v[112,"place_count",314,315,316,51,1,107,108,111,318,319,113,17,#v[252],109,110,
 (nat_lit 114,(.type "tuple",none,(.seq #[.int 0 323,.int 0 324] 0),#[],))::
 (nat_lit 115,(.type "tuple",none,(.seq #[.int 0 325,.int 1 326] 0),#[],))::
 (nat_lit 116,(.type "tuple",none,(.seq #[.int 1 327,.int 0 328] 0),#[],))::
 (nat_lit 117,(.type "tuple",none,(.seq #[.int 1 329,.int 1 330] 0),#[],))::
 (nat_lit 118,(.type "tuple",none,(.seq #[.ref 114,.ref 115,.ref 116,.ref 117] 0),#[],))::
 #v[122,"first_of_kinds",332,333,334,58,3,119,120,121,335,336,123,20,#v[321],
 #v[129,"clash",338,339,340,65,1,124,125,128,347,348,130,21,#v[321],126,127,
 #v[136,"refuse_clash",350,351,352,74,1,131,132,135,355,356,137,22,#v[321],133,134,
 #v[143,"group_at",360,361,362,79,2,138,139,142,369,370,144,24,#v[358],140,141,
 #v[148,"turned",372,373,374,85,2,145,146,147,375,376,149,25,#v[358],
 #v[153,"grown",378,379,380,87,1,150,151,152,381,382,154,26,#v[358],
 #v[160,"tree",384,385,386,102,1,155,156,159,389,390,161,27,#v[358],157,158,
 #v[167,"_law_cell_at",394,395,396,109,2,162,163,166,399,400,168,29,#v[392],164,165,
 #v[181,"_law_draw",409,410,411,115,2,176,177,180,416,417,182,31,#v[392],178,179,
 #v[188,"_law_names",419,420,421,121,2,183,184,187,431,432,189,32,#v[392],185,186,
 #v[193,"_law_random",434,435,436,132,3,190,191,192,437,438,194,33,#v[392],
 #v[198,"_law_otherwise",440,441,442,144,2,195,196,197,443,444,199,34,#v[392],
 #v[203,"_law_grown",446,447,448,146,2,200,201,202,449,450,204,35,#v[392],
 #v[210,"_law_held",452,453,454,164,2,205,206,209,460,461,211,36,#v[392],207,208,
 #v[217,"_law_reached",463,464,465,173,2,212,213,216,472,473,218,37,#v[392],214,215,
 #v[222,"_law_apart",475,476,477,184,2,219,220,221,478,479,223,38,#v[392],
 #v[227,"_law_holds",481,482,483,186,3,224,225,226,484,485,228,39,#v[392],
 #v[232,"_law_table",487,488,489,209,2,229,230,231,490,491,233,40,#v[392],
 #v[237,"_law_any_clash",493,494,495,221,2,234,235,236,496,497,238,41,#v[392],
 #v[242,"_law_four",499,500,501,227,4,239,240,241,502,503,243,42,#v[392],
 #v[249,"_law_told",505,506,507,234,2,244,245,248,513,514,250,43,#v[392],246,247,
 #v[254,"law",516,517,518,246,1,251,252,253,519,520,255,44,#v[392],
 []]]]]]]]]]]]]]]]]]]]]]]]]]]]]]]]
abbrev Dq:List Addr:=[2,3,23,24,40,41,43,44,55,56,64,65,69,70,76,77,81,82,88,89,93,94,100,101,105,106,112,113,114,115,116,117,118,122,123,129,130,136,137,143,144,148,149,153,154,160,161,167,168,181,182,188,189,193,194,198,199,203,204,210,211,217,218,222,223,227,228,232,233,237,238,242,243,249,250,254,255]
abbrev lhsB(p:Program)(k:PySem.W.Hook)(w:World):=(NW treeTable p w 3470).map (Ec k)
abbrev rhsB(k:PySem.W.Hook)(w:World):=some (Eb k w)
def laidB:(seen lhsB&&seen rhsB)=true:=by k_qdec
def leftB(w:World):lhsB PySem.Challenge.pw_copykin_k33_whole_a_tree_or_a_clash (lP K33.Dp K33.Dq (λ_=>by kernel_rfl) [103]) w=rhsB (lP K33.Dp K33.Dq (λ_=>by kernel_rfl) [103]) w:=by
 have _:=laidB;rw[PySem.W.Fast.te9757599842689485053]
 kernel_rfl
end K33
namespace L2
noncomputable abbrev Key:=Sum Int Str
abbrev xx:Key->Value->Bool
 |.inl k,v=>Value.isInt k v
 |.inr x,v=>Value.isStrOf x v
abbrev keyH(w:World):Key->Int
 |.inl k=>hashInt k
 |.inr x=>hashStr w x
def fE:∀{k:Key}{v:Value},xx k v=true->(∃i t,k=eQ i/\v=iT i t)\/(∃x t,k=fW x/\v=js x t)
 |.inl i,v,h=>by obtain⟨t,e⟩:=nu (k:=i) (v:=v) h;exact .inl (i,t,rfl,e,)
 |.inr x,v,h=>by obtain⟨t,e⟩:=Value.isStrOf_shape (x:=x) (v:=v) h;exact .inr (x,t,rfl,e,)
def IK(i:Int)(t:Tok):xx (.inl i) (.int i t)=true:=by simp[xx,Value.isInt]
def IJ(x:Str)(t:Tok):xx (.inr x) (.str x t)=true:=by simp[xx,Value.isStrOf]
def key_ll(a b:Int):decide ((eQ a:Key)=eQ b)=(a==b):=by
 by_cases e:a=b;·subst e;simp
 .have h:¬(eQ a:Key)=eQ b:=λq=>e (eQ.inj q);rw[decide_eq_false h];exact(beq_eq_false_iff_ne.mpr e).symm
def key_rr(a b:Str):decide ((fW a:Key)=fW b)=decide (a=b):=by
 by_cases e:a=b;·subst e;simp
 .have h:¬(fW a:Key)=fW b:=λq=>e (fW.inj q);rw[decide_eq_false h,decide_eq_false e]
def key_lr(a:Int)(b:Str):decide ((eQ a:Key)=fW b)=false:=decide_eq_false (λq=>nomatch q)
def key_rl(a:Str)(b:Int):decide ((fW a:Key)=eQ b)=false:=decide_eq_false (λq=>nomatch q)
abbrev aY(prog:Program)(w:World):PySem.KeyKind prog w Key where
 is:=xx
 hash:=keyH w
 inj:=λv a b f d=>by
  rcases fE f with⟨i,t,rfl,rfl⟩ |⟨x,t,rfl,rfl⟩
  .rcases fE d with⟨j,u,rfl,e⟩ |⟨y,u,rfl,e⟩;·injection e with e1 _;rw[e1]
   .exact nomatch e
  .rcases fE d with⟨j,u,rfl,e⟩ |⟨y,u,rfl,e⟩;·exact nomatch e
   .injection e with e1 _;rw[e1]
 byValue:=λk v h=>by rcases fE h with⟨i,t,rfl,rfl⟩ |⟨x,t,rfl,rfl⟩<;>rfl
 pyHash:=λc h=>by
  rcases fE c with⟨i,t,rfl,rfl⟩ |⟨x,t,rfl,rfl⟩;·exact wpAny_pyHash_int h
  .exact wpAny_pyHash_str h
 eqBool:=λg c h=>by
  rcases fE g with⟨i,t,rfl,rfl⟩ |⟨x,t,rfl,rfl⟩
  .rcases fE c with⟨j,u,rfl,rfl⟩ |⟨y,u,rfl,rfl⟩;·rw[key_ll]at h;exact rn h
   .rw[key_lr]at h;exact Ea i t y u _ _ _ _ h
  .rcases fE c with⟨j,u,rfl,rfl⟩ |⟨y,u,rfl,rfl⟩;·rw[key_rl]at h;exact D9 x t j u _ _ _ _ h
   .rw[key_rr]at h;exact wpAny_eqBool_str h
 «strs»:=λk x t v h=>by
  rcases fE h with⟨i,u,rfl,e⟩ |⟨y,u,rfl,e⟩;·exact nomatch e
  .injection e with e1 _
   subst e1;cases v<;>rfl
theorem qS(prog:Program)(w:World)(k:Key)(v:Value):(aY prog w).is k v=xx k v:=rfl
def oY(prog:Program)(w:World)(i:Int)(t:Tok):(aY prog w).is (.inl i) (.int i t)=true:=IK i t
def C6(prog:Program)(w:World)(x:Str)(t:Tok):(aY prog w).is (.inr x) (.str x t)=true:=IJ x t
inductive V where
 |non|bl (b:Bool) |int (i:Int) |str (x:Str) |byt (b:Array UInt8) |flt (b:UInt64) |ref (a:Addr) |ty (n:String)
 deriving DecidableEq
abbrev RelV:V->Value->Prop
 |.non,u=>u=cg
 |.bl b,u=>u=BN b
 |.int i,u=>∃t,u=iT i t
 |.str x,u=>∃t,u=js x t
 |.byt b,u=>∃t,u=Value.bytes b t
 |.flt b,u=>∃t,u=Value.float b t
 |.ref a,u=>u=aN a
 |.ty n,u=>u=gO n
noncomputable abbrev bT:List V->List Value->Prop:=Paired RelV
theorem bT.length{xs:List V}(r:bT xs us):xs.length=us.length:=ny r
theorem bT.get:∀{xs:List V}{us:List Value}{i:Nat}{x:V},bT xs us->xs[i]?<*x->∃u,us[i]?<*u/\RelV x u
 |_,_,_,_,.nil,e=>by simp at e
 |_,_,0,_,.cons r _,e=>by simp at e;subst e;exact(_,rfl,r,)
 |_,_,i+1,x,.cons _ t,e=>by obtain⟨u,a,b⟩:=bT.get (i:=i) (x:=x) t ↥e;exact(u,↥a,b,)
theorem bT.set{x:V}(r:RelV x u):∀{xs:List V}{us:List Value}(i:Nat),bT xs us->bT (xs.set i x) (us.set i u)
 |_,_,_,.nil=>.nil
 |_,_,0,.cons _ t=>.cons r t
 |_,_,i+1,.cons q t=>.cons q (bT.set r i t)
theorem bT.append:∀{xs ys:List V}{us ws:List Value},bT xs us->bT ys ws->bT (xs++ys) (us++ws)
 |_,_,_,_,.nil,s=>s
 |_,_,_,_,.cons r t,s=>.cons r (bT.append t s)
theorem bT.take:∀{xs:List V}{us:List Value}(n:Nat),bT xs us->bT (xs.take n) (us.take n)
 |_,_,0,_=>.nil
 |_,_,_+1,.nil=>.nil
 |_,_,n+1,.cons r t=>.cons r (bT.take n t)
theorem bT.drop:∀{xs:List V}{us:List Value}(n:Nat),bT xs us->bT (xs.drop n) (us.drop n)
 |_,_,0,r=>r
 |_,_,_+1,.nil=>.nil
 |_,_,n+1,.cons _ t=>bT.drop n t
abbrev uH:Option V->Option Value->Prop
 |some v,some u=>RelV v u
 |none,none=>True
 |_,_=>False
abbrev KV{κ:Type}:List (κ×V)->List (κ×Value)->Prop:=Paired λ(p:κ×V)(q:κ×Value)=>p.1=q.1/\RelV p.2 q.2
abbrev kV:Key->V
 |.inl i=>.int i
 |.inr x=>.str x
inductive HO where
 |lst (xs:List V)
 |tup (xs:List V)
 |dK (kvs:List (Key×V)) |dT (kvs:List (List Key×V))
 |set (S:Int->Bool) (n:Nat)
 |ins (C dx:Addr) (fs:List (Str×V))
 |own (x:Addr)
 |xd (fs:List (Str×V))
 |met (f x:Addr)
 |rng (lo hi:Int)
 |frz (o:Obj) (u:HO)
 |tbl (ps:Array Value)
 |ext (φ:Heap->Prop)
noncomputable abbrev Hp:=Addr->Option HO
abbrev upd(H:Hp)(a:Addr)(o:HO):Hp:=λb=>if b=a then some o else H b
def aD{H:Hp}{o:HO}:upd H a o a<*o:=by unfold upd;rw[if_pos rfl]
def bj{H:Hp}{o:HO}(h:b≠a):upd H a o b=H b:=by unfold upd;rw[if_neg h]
def ne_of{H:Hp}{o u:HO}(h:H a<*o)(h':H b<*u)(d:o≠u):a≠b:=by intro e;subst e;rw[h]at h';exact d (aW h')
def cA{H:Hp}{o:HO}(h:H a<*o)(h':H b=none):a≠b:=by intro e;subst e;rw[h]at h';cases h'
section
variable(P:Program)(w:World)
abbrev eA(H:Hp)(h:Heap)(a:Addr):HO->Prop
 |.lst xs=>xs.length<=sizeLine/\∃(ad:List Value)(n:Nat),bT xs ad/\h.get? a<*{cls:=.type "list",data:=.seq ad.toArray n}
 |.tup xs=>xs.length<=sizeLine/\∃ad:List Value,bT xs ad/\IsTup h a ad.toArray
 |.dK kvs=>kvs.length<=sizeLine/\(a==hZ)=false/\∃vs,KV kvs vs/\h.DictOf (aY P w) a vs
 |.dT kvs=>kvs.length<=sizeLine/\(a==hZ)=false/\∃xs:List (List Key×Addr×Value),
   Paired (λ(p:List Key×V)(q:List Key×Addr×Value)=>p.1=q.1/\H q.2.1<*(.tup (p.1.map kV))/\RelV p.2 q.2.2) kvs xs/\
   ∃o es ep,h.get? a<*o/\o.ExactDict/\o.data=.dict es ep/\es.toList=xs.map (entryOfKey (rq (aY P w)))/\(xs.map (·.1)).Nodup
 |.set S n=>h.SetOf (intKind P w) a S n
 |.ins C dx fs=>H dx<*(.own a)/\fs.length<=1000/\dx≠a/\h.get? a<*(yc C dx)/\
   ∃mA,h.Ns1 dx mA/\(∀f,uH (fs.lookup f) (mA f))/\lO mA (fs.map (·.1))
 |.own _=>∃o,h.get? a<*o
 |.xd fs=>∃mA,h.Ns1 a mA/\∀f,uH (fs.lookup f) (mA f)
 |.rng lo hi=>∃t u v,h.get? a<*{cls:=.type "range",data:=.fields #[.int lo t,.int hi u,.int 1 v]}
 |.frz o u=>h.get? a<*o/\eA H h a u
 |.tbl ps=>h.get? a<*{cls:=.none,data:=.fields ps}
 |.met f x=>h.get? a<*(uK (.ref f) (.ref x))
 |.ext φ=>φ h/\(∃o,h.get? a<*o)/\∀h1 h2:Heap,φ h1->(∀o,h1.get? a<*o->h2.get? a<*o)->φ h2
def HOk(H:Hp)(h:Heap):Prop:=∀a o,H a<*o->eA P w H h a o
end
section
variable {H H':Hp}{a:Addr}{o:HO}
theorem eA.lt(x:eA P w H h a o):a<h.objs.size:=by
 cases o with
 |lst xs=>obtain⟨_,_,_,_,e⟩:=x;exact aA e
 |tup xs=>obtain⟨_,_,_,p⟩:=x;exact p.lt
 |dK kvs=>obtain⟨_,_,_,_,o,_,_,e,_⟩:=x;exact aA e
 |dT kvs=>obtain⟨_,_,_,_,o,_,_,e,_⟩:=x;exact aA e
 |set S n=>obtain⟨o,_,_,_,e,_⟩:=x;exact aA e
 |ins C dx fs=>obtain⟨_,_,_,e,_⟩:=x;exact aA e
 |own y=>obtain⟨_,e⟩:=x;exact aA e
 |xd fs=>obtain⟨_,⟨_,_,_,e,_⟩,_⟩:=x;exact aA e
 |rng lo hi=>obtain⟨_,_,_,e⟩:=x;exact aA e
 |frz ob u=>obtain⟨e,_⟩:=x;exact aA e
 |tbl ps=>exact aA (show h.get? a<*_ from x)
 |met f y=>exact aA (show h.get? a<*_ from x)
 |ext φ=>obtain⟨_,⟨_,e⟩,_⟩:=x;exact aA e
theorem Paired.uf{e g:Type}{F G:e->g->Prop}:∀{c:List e}{d:List g},Paired F c d->(∀a b,F a b->G a b)->Paired G c d
 |_,_,.nil,_=>.nil
 |_,_,.cons r t,f=>.cons (f _ _ r) (Paired.uf t f)
def eA.mf(x:eA P w H h a o)(k:∀b u,(b=a\/H b<*(.own a))->h.get? b<*u->h'.get? b<*u)
  (D:∀b,H b<*(.own a)->H' b<*(.own a))(E:∀b xs,H b<*(.tup xs)->H' b<*(.tup xs)):eA P w H' h' a o:=by
 induction o with
 |lst xs=>obtain⟨z,l,n,r,e⟩:=x;exact(z,l,n,r,k _ _ (.inl rfl) e,)
 |tup xs=>obtain⟨z,l,r,g,e,c⟩:=x;exact(z,l,r,g,k _ _ (.inl rfl) e,c,)
 |dK kvs=>obtain⟨z,y,F,r,g,j,i,e,c⟩:=x;exact(z,y,F,r,g,j,i,k _ _ (.inl rfl) e,c,)
 |dT kvs=>obtain⟨z,y,xs,r,g,j,i,e,c⟩:=x;exact(z,y,xs,Paired.uf r λp q z=>(z.1,E _ _ z.2.1,z.2.2,),g,j,i,k _ _ (.inl rfl) e,c,)
 |set S n=>obtain⟨g,j,i,t,e,c⟩:=x;exact(g,j,i,t,k _ _ (.inl rfl) e,c,)
 |ins C dx fs=>obtain⟨d,z,ne,e,m,⟨s,j,i,B,c⟩,r⟩:=x;exact(D _ d,z,ne,k _ _ (.inl rfl) e,m,(s,j,i,k _ _ (.inr d) B,c,),r,)
 |own y=>obtain⟨g,e⟩:=x;exact(g,k _ _ (.inl rfl) e,)
 |xd fs=>obtain⟨m,⟨s,j,i,e,c⟩,r⟩:=x;exact(m,(s,j,i,k _ _ (.inl rfl) e,c,),r,)
 |rng lo hi=>obtain⟨t,u,v,e⟩:=x;exact(t,u,v,k _ _ (.inl rfl) e,)
 |frz g u ih=>obtain⟨e,q⟩:=x;exact(k _ _ (.inl rfl) e,ih q,)
 |tbl ps=>have e:h.get? a<*{cls:=.none,data:=.fields ps}:=x;show h'.get? a<*{cls:=.none,data:=.fields ps};exact k a _ (.inl rfl) e
 |met f y=>have e:h.get? a<*(uK (.ref f) (.ref y)):=x;show h'.get? a<*(uK (.ref f) (.ref y));exact k a _ (.inl rfl) e
 |ext φ=>obtain⟨p,⟨o,e⟩,A⟩:=x;exact(A _ _ p λo q=>k _ _ (.inl rfl) q,(o,k _ _ (.inl rfl) e,),A,)
theorem HOk.lt(x:HOk P w H h)(e:H a<*o):a<h.objs.size:=(x a o e).lt
def HOk.fresh(x:HOk P w H h)(e:h.objs.size<=a):H a=none:=by
 cases q:H a with
 |none=>rfl
 |some u=>exact absurd (bu (x.lt q) e) (dW _)
def HOk.kept(x:HOk P w H h)(k:∀b u,h.get? b<*u->h'.get? b<*u):HOk P w H h':=λa o e=>
 (x a o e).mf (λb u _ q=>k b u q) (λ_ q=>q) λ_ _ q=>q
def HOk.laid(x:HOk P w H h)(k:∀b u,h.get? b<*u->h'.get? b<*u)(f:h.objs.size<=a)(g:eA P w (upd H a o) h' a o):HOk P w (upd H a o) h':=λb u e=>by
 have d:=x.fresh f;by_cases hb:b=a;·subst hb;rw[aD]at e;cases e;exact g
 .rw[bj hb]at e;exact(x b u e).mf (λc v _ q=>k c v q) (λc q=>by rw[bj (cA q d)];exact q) λc i q=>by rw[bj (cA q d)];exact q
end
def Rd(H:Hp)(a:Addr)(u:HO):Prop:=H a<*u\/∃o,H a<*(.frz o u)
def Rd.ok{H:Hp}{u:HO}(r:Rd H a u)(x:HOk P w H h):eA P w H h a u:=by
 rcases r with r|⟨o,r⟩;·exact x a u r
 .obtain⟨_,q⟩:=x a _ r;exact q
abbrev Mut:Option HO->Prop
 |some (.lst _)=>True
 |some (.dK _)=>True
 |some (.dT _)=>True
 |some (.set _ _)=>True
 |some (.ins _ _ _)=>True
 |some (.ext _)=>True
 |_=>False
section
variable {H:Hp}{x e:Addr}{o':HO}
def HOk.write(ok:HOk P w H h)(a:Mut (H x))(f:e=x\/H e<*(.own x))(k:∀b u,b≠e->h.get? b<*u->h'.get? b<*u)(j:∃u,h'.get? e<*u)
  (m:eA P w (upd H x o') h' x o'):HOk P w (upd H x o') h':=λb u q=>by
 have g:∀c y,H c<*(.own y)->c≠x:=λc y r z=>by subst z;rw[r]at a;exact a
 have n:∀c d,H c<*(.tup d)->c≠x:=λc d r z=>by subst z;rw[r]at a;exact a
 by_cases hb:b=x;·subst hb;rw[aD]at q;cases q;exact m
 .rw[bj hb]at q;by_cases hbe:b=e
  .have i:H b<*(.own x):=by
    rcases f with z|z;·exact absurd (hbe.trans z) hb
    .rw[hbe];exact z
   rw[q]at i;cases i;obtain⟨v,l⟩:=j;exact⟨v,by rw[hbe];exact l⟩
  .refine(ok b u q).mf (λc v hc r=>k c v ?_ r) (λc r=>by rw[bj (g c b r)];exact r) λc d r=>by rw[bj (n c d r)];exact r
   rcases hc with rfl|hc;·exact hbe
   .rintro rfl;rcases f with z|z;·exact g c b hc z
    .rw[hc]at z;cases z;exact hb rfl
end
structure Un(fs ex:List Addr)(H H':Hp)(h h':Heap):Prop where
 keep:∀b o,h.get? b<*o->H b=none->b∉fs->b∉ex->h'.get? b<*o
 slot:∀b o,h.get? b<*o->H b=none->b∈fs->b∉ex->∃sl,h'.get? b<*{o with slots:=sl}
 free:∀b o,h.get? b<*o->H b=none->b∉ex->H' b=none
 there:∀b o,h.get? b<*o->b∉ex->∃o',h'.get? b<*o'
 tups:∀b xs,H b<*(.tup xs)->H' b<*(.tup xs)
 frzs:∀b o u,H b<*(.frz o u)->H' b<*(.frz o u)
 tbls:∀b ps,H b<*(.tbl ps)->∃more,H' b<*(.tbl (ps++more))
section
variable {fs fs' ex ex':List Addr}{H H1 H2:Hp}{h2:Heap}{a x e:Addr}{o:HO}
def Un.any(u:Un fs ex H H1 h h1){ob:Obj}(q:h.get? b<*ob)(n:H b=none)(a:b∉ex):∃sl,h1.get? b<*{ob with slots:=sl}:=by
 by_cases hb:b∈fs;·exact u.slot b ob q n hb a
 .exact(ob.slots,u.keep b ob q n hb a,)
def Un.kept(k:∀b u,h.get? b<*u->h'.get? b<*u):Un fs ex H H h h':=
 ⟨λb a q _ _ _=>k b a q,λb a q _ _ _=>(a.slots,k b a q,),λ_ _ _ n _=>n,λb a q _=>(a,k b a q,),λ_ _ q=>q,λ_ _ _ q=>q,λ_ c q=>⟨#[],by rw[q];simp⟩⟩
def Un.refl:Un fs ex H H h h:=Un.kept λ_ _ q=>q
def Un.laid(k:∀b u,h.get? b<*u->h'.get? b<*u)(d:h.objs.size<=a)(c:H a=none):Un fs ex H (upd H a o) h h' where
 keep:=λb u q _ _ _=>k b u q
 slot:=λb u q _ _ _=>(u.slots,k b u q,)
 free:=λb u q n _=>by rw[bj (aM (bu (aA q) d))];exact n
 there:=λb u q _=>(u,k b u q,)
 tups:=λb e q=>by rw[bj (cA q c)];exact q
 frzs:=λb u e q=>by rw[bj (cA q c)];exact q
 tbls:=λb f q=>⟨#[],by rw[bj (cA q c),q];simp⟩
def Un.write(a:Mut (H x))(g:e=x\/H e<*(.own x))(k:∀b u,b≠e->h.get? b<*u->h'.get? b<*u)(i:∃u,h'.get? e<*u):Un fs ex H (upd H x o) h h':=by
 have f:∀b,H b=none->b≠x:=λb n z=>by subst z;rw[n]at a;exact a
 have d:∀b,H b=none->b≠e:=λb n z=>by
  subst z;rcases g with r|r;·exact f b n r
  .rw[n]at r;cases r
 have c:∀b u,H b<*u->¬Mut (some u)->b≠x:=λb u q nm z=>by subst z;rw[q]at a;exact nm a
 refine⟨λb u q n _ _=>k b u (d b n) q,λb u q n _ _=>(u.slots,k b u (d b n) q,),λb u q n _=>by rw[bj (f b n)];exact n,λb u q _=>?_,
  λb j q=>by rw[bj (c b _ q λz=>z)];exact q,λb u j q=>by rw[bj (c b _ q λz=>z)];exact q,λb l q=>⟨#[],by rw[bj (c b _ q λz=>z),q];simp⟩⟩
 by_cases hbe:b=e;·subst hbe;exact i
 .exact(u,k b u hbe q,)
end
abbrev trk(h:Heap)(H:Hp):List Addr:=(aF h.objs.size).filter λa=>(H a).isSome
abbrev Dm(h:Heap)(H:Hp):Heap:=PySem.W.hideAll h (trk h H)
def IU(h:Heap)(H:Hp):(Dm h H).objs.size=h.objs.size:=PySem.W.hideAll_size _ _
def xD{H:Hp}{o:Obj}(e:h.get? b<*o)(n:H b=none):(Dm h H).get? b<*o:=
 PySem.W.hideAll_get _ e λa=>by have q:(H b).isSome=true:=(d4.mp a).2;rw[n]at q;simp at q
def of_hidT{H:Hp}{o:Obj}(e:(Dm h H).get? b<*o):h.get? b<*o/\H b=none:=by
 have a:h.get? b<*o:=PySem.W.of_hideAll (trk h H) e;refine(a,?_,);cases q:H b with
 |none=>rfl
 |some x=>have c:b∈trk h H:=d4.mpr ⟨aR.mpr (aA a),by simp[q]⟩;have z:(Dm h H).get? b=none:=PySem.W.hideAll_none (trk h H) c;rw[z]at e;cases e
structure Mod(K:ak)(mg:Str->Option Value)(base:Heap):Prop where
 kin:K.In base
 glob:base.Ns bY mg
 blt:∃mb,base.Ns oK mb/\∀x:Str,x≠"__name__"->mb x=gB x
 nolimit:base.NoLimit
structure Cx where
 prog:Program
 w:World
 K:ak
 mg:Str->Option Value
 base:Heap
 A:Around
 N:List Str
 s₀:Shared
 H₀:Hp
 env:Env
 outer:List Env
 stack:List Env
 ex:List Addr
 fn:Str->Bool
 calm:Bool
 pn:List (Addr×Obj)
 xe:'I'
abbrev frs(l:List Env):List Addr:=l.filterMap (·.frame)
noncomputable abbrev Cx.fs(X:Cx):List Addr:=frs X.outer
def Vis(sc:Scope)(x:Str):Prop:=sc.names.lookup x<*.local\/sc.names.lookup x<*.cell\/sc.names.lookup x<*.free
def Loc(sc:Scope)(x:Str):Prop:=sc.names.lookup x<*.local\/sc.names.lookup x<*.cell
def Look(env:Env)(h:Heap)(m:Str->Option Value)(x:Str)(u:Value):Prop:=
 (env.kindOf x<*.local/\m x<*u)\/((env.kindOf x<*.cell\/env.kindOf x<*.free)/\∃c,env.cells.lookup x<*c/\h.IsCell c (some u))
structure Cx.Ok(X:Cx):Prop where
 mod:Mod X.K X.mg X.base
 kind:X.env.scope.kind=.function
 glob:X.env.globals=bY
 blt:X.env.builtins=oK
 above:X.s₀.heap.objs.size<=X.env.locals
 inj:∀x y c,X.env.cells.lookup x<*c->X.env.cells.lookup y<*c->x=y
 has:∀x,(X.env.kindOf x<*.cell\/X.env.kindOf x<*.free)->∃c,X.env.cells.lookup x<*c
 cab:∀x c,X.fn x=true->X.env.cells.lookup x<*c->X.s₀.heap.objs.size<=c
 hd:X.calm=true->X.A.handled=none
 frames:X.A.frames<*X.stack
 stk:X.stack=X.outer\/(X.stack=X.env::X.outer/\X.env.frame<*X.env.locals)
 exf:∀b∈X.ex,b≠X.env.locals/\∀x c,X.env.cells.lookup x<*c->c≠b
 bs:∀b o,X.base.get? b<*o->X.s₀.heap.get? b<*o/\X.H₀ b=none
 bsz:X.base.objs.size<=X.s₀.heap.objs.size
 noex:∀b o,X.base.get? b<*o->b∉X.ex
 exfs:∀b∈X.ex,b∉X.fs
 xG:X.s₀.heap.FunFrames X.base X.outer
 frf:∀b∈X.fs,X.H₀ b=none
structure Inv(X:Cx)(pins:List (Addr×Obj))(σ:List (Option V))(H:Hp)(s:Shared):Prop where
 ok:X.Ok
 os:s.os=X.s₀.os
 bare:qb s.gens
 base:Un X.fs X.ex X.H₀ H X.s₀.heap s.heap
 loc:∃m,s.heap.Ns X.env.locals m/\∀(i:Nat)(x:Str)(v:V),X.N[i]?<*x->σ[i]?<*(some v)->Vis X.env.scope x->∃u,RelV v u/\Look X.env s.heap m x u
 cell:∀x c,X.env.cells.lookup x<*c->∃v,s.heap.IsCell c v
 free:H X.env.locals=none
 freeC:∀x c,X.env.cells.lookup x<*c->H c=none
 pin:∀p∈X.pn++pins,s.heap.get? p.1<*p.2/\H p.1=none/\p.1≠X.env.locals/\p.1∉X.fs/\∀v,p.2.data≠.cell v
 hok:HOk X.prog X.w H s.heap
 len:σ.length=X.N.length
section
variable {X:Cx}{pins:List (Addr×Obj)}{σ:List (Option V)}{H H':Hp}{s:Shared}
def Cx.Ok.nofr(ok:X.Ok){o:Obj}(e:X.base.get? b<*o):b∉X.fs:=λa=>by have :=(ok.xG.mem a).1;rw[e]at this;cases this
theorem Inv.bs(I:'A'):∀b o,X.base.get? b<*o->s.heap.get? b<*o/\H b=none:=λb o e=>
 (I.base.keep b o (I.ok.bs b o e).1 (I.ok.bs b o e).2 (I.ok.nofr e) (I.ok.noex b o e),I.base.free b o (I.ok.bs b o e).1 (I.ok.bs b o e).2 (I.ok.noex b o e),)
def Inv.bk(I:'A'):∀b o,X.base.get? b<*o->s.heap.get? b<*o:=λb o e=>(I.bs b o e).1
theorem Inv.mod(I:'A'):Mod X.K X.mg X.base:=I.ok.mod
def Inv.kIn(I:'A'):X.K.In s.heap:=I.ok.mod.kin.keeps I.bk
theorem Inv.nolimit(I:'A'):s.heap.NoLimit:=I.ok.mod.nolimit.keeps I.bk
theorem Inv.lt(I:'A'):X.env.locals<⇑s:=let⟨_,hn,_⟩:=I.loc;hn.lt
def Inv.sz(I:'A'):X.s₀.heap.objs.size<=⇑s:=aT I.ok.above (i7 I.lt)
def Inv.nofs(I:'A')(h:⇑s<=a):a∉X.fs:=λb=>by obtain⟨_,o,c,_⟩:=I.ok.xG.mem b;exact absurd (bu (aA c) (aT I.sz h)) (dW _)
def Inv.cne(I:'A'):∀x c,X.env.cells.lookup x<*c->c≠X.env.locals:=λx c e z=>by obtain⟨v,o,b,a⟩:=I.cell x c e;obtain⟨m,⟨i,h,g,f,d,_⟩,_⟩:=I.loc;rw[z,f]at b;cases b;rw[d]at a;cases a
theorem Inv.xG(I:'A'):s.heap.FunFrames X.base X.outer:=by
 have all:∀(l:List Env),(∀b∈frs l,b∈X.fs)->X.s₀.heap.FunFrames X.base l->s.heap.FunFrames X.base l:=by
  intro l
  induction l with
  |nil=>intro _ _;trivial
  |cons env r ih=>intro d h;obtain⟨g,⟨L,o,hf,i,j,f⟩,k⟩:=h;have a:L∈X.fs:=d L (by unfold frs;rw[lS,hf];exact aG);obtain⟨m,e⟩:=I.base.slot L o j (I.ok.frf L a) a λz=>I.ok.exfs L z a;exact⟨g,(L,_,hf,i,e,f,),ih (λb c=>d b (by unfold frs;rw[lS,hf];exact ax _ c)) k⟩
 exact all X.outer (λ_ c=>c) I.ok.xG
theorem Inv.stack(I:'A'):s.heap.FunFrames X.base X.stack:=by
 rcases I.ok.stk with e|⟨e,hf⟩;·rw[e];exact I.xG
 .rw[e];obtain⟨m,a,_⟩:=I.loc;refine .cons (by rw[I.ok.kind];decide) hf a ?_ I.xG;exact rH (aT I.ok.bsz I.ok.above)
def Inv.EA(I:'A'):∀b∈frs X.stack,b∈X.env.locals::X.fs:=λb a=>by
 rcases I.ok.stk with e|⟨e,hf⟩;·rw[e]at a;exact ax _ a
 .rw[e]at a;unfold frs at a;rw[lS,hf]at a;exact a
def Inv.Ah(I:'A'):∀b∈frs X.stack,H b=none:=λb hb=>by
 rcases aK.mp (I.EA b hb)with e|hb;·rw[e];exact I.free
 .obtain⟨_,o,a,_⟩:=I.ok.xG.mem hb;exact I.base.free b o a (I.ok.frf b hb) λz=>I.ok.exfs b z hb
def Inv.step{g':Array iF}{d':Drawn}(I:'A')
  (t:∀b∈ch,(b∈X.ex\/X.s₀.heap.objs.size<=b)/\b≠X.env.locals/\(∀x c,X.env.cells.lookup x<*c->c≠b)/\∀p∈X.pn++pins,p.1≠b)
  (keep:∀b o,b≠X.env.locals->b∉X.fs->b∉ch->s.heap.get? b<*o->H b=none->h'.get? b<*o)
  (slot:∀b o,b≠X.env.locals->b∈X.fs->b∉ch->s.heap.get? b<*o->H b=none->∃sl,h'.get? b<*{o with slots:=sl}) (free:∀b o,b∉ch->s.heap.get? b<*o->H b=none->H' b=none)
  (R:∀b o,b∉ch->s.heap.get? b<*o->∃o',h'.get? b<*o')
  (S:∀b xs,H b<*(.tup xs)->H' b<*(.tup xs)) (F:∀b o u,H b<*(.frz o u)->H' b<*(.frz o u)) (Q:∀b ps,H b<*(.tbl ps)->∃more,H' b<*(.tbl (ps++more)))
  (O:∀m,s.heap.Ns X.env.locals m->h'.Ns X.env.locals m) (L:HOk X.prog X.w H' h') (G:qb g'):
  Inv X pins σ H' {s with heap:=h',gens:=g',drawn:=d',toks:=t'}:=by
 have neL:∀b o,X.s₀.heap.get? b<*o->b≠X.env.locals:=λb o e=>aM (bu (aA e) I.ok.above);have y:∀b o,X.s₀.heap.get? b<*o->b∉X.ex->b∉ch:=λb o e a g=>by
  rcases(t b g).1 with z|z;·exact a z
  .exact absurd (bu (aA e) z) (dW _)
 have B:∀x c,X.env.cells.lookup x<*c->∀v,s.heap.IsCell c v->h'.IsCell c v:=λx c e v ⟨o,h,A⟩=>by
  have w:c∉ch:=λz=>(t c z).2.2.1 x c e rfl;by_cases hc:c∈X.fs;·obtain⟨sl,q⟩:=slot c o (I.cne x c e) hc w h (I.freeC x c e);exact(_,q,A,)
  .exact(o,keep c o (I.cne x c e) hc w h (I.freeC x c e),A,)
 refine(I.ok,I.os,G,(λb o e n g a=>?_,λb o e n g a=>?_,λb o e n a=>?_,λb o e a=>?_,λb xs e=>S b xs (I.base.tups b xs e),λb o xs e=>F b o xs (I.base.frzs b o xs e),λb ps e=>?_,),?_,λx c e=>?_,?_,λx c e=>?_,λp C=>?_,L,I.len,);·exact keep b o (neL b o e) g (y b o e a) (I.base.keep b o e n g a) (I.base.free b o e n a)
 .obtain⟨sl,f⟩:=I.base.slot b o e n g a;obtain⟨P,j⟩:=slot b _ (neL b o e) g (y b o e a) f (I.base.free b o e n a);exact(P,j,)
 .obtain⟨o',f⟩:=I.base.there b o e a;exact free b o' (y b o e a) f (I.base.free b o e n a)
 .obtain⟨o',f⟩:=I.base.there b o e a;exact R b o' (y b o e a) f
 .obtain⟨M,f⟩:=I.base.tbls b ps e;obtain⟨N,j⟩:=Q b _ f;exact⟨M++N,by rw[j,Array.append_assoc]⟩
 .obtain⟨m,K,J⟩:=I.loc;refine(m,O m K,λi x v f j E=>?_,);obtain⟨u,r,l⟩:=J i x v f j E;refine(u,r,?_,);rcases l with l|⟨k,c,e,z⟩;·exact .inl l
  .exact .inr (k,c,e,B x c e _ z,)
 .obtain⟨v,z⟩:=I.cell x c e;exact(v,B x c e v z,)
 .obtain⟨m,⟨o,_,_,h,_⟩,_⟩:=I.loc;exact free _ o (λz=>(t _ z).2.1 rfl) h I.free
 .obtain⟨v,o,h,A⟩:=I.cell x c e;exact free c o (λz=>(t c z).2.2.1 x c e rfl) h (I.freeC x c e)
 .obtain⟨e,n,ne,D,d⟩:=I.pin p C;have w:p.1∉ch:=λz=>(t p.1 z).2.2.2 p C rfl;exact(keep p.1 p.2 ne D w e n,free p.1 p.2 w e n,ne,D,d,)
def Inv.un(I:'A')(u:Un X.fs [] H H' s.heap h')(j:HOk X.prog X.w H' h'):Inv X pins σ H' {s with heap:=h',toks:=t'}:=by obtain⟨m,⟨o,p,l,c,r⟩,_⟩:=id I.loc;obtain⟨v,h⟩:=u.any c I.free 'F';exact I.step (g':=s.gens) (d':=s.drawn) (ch:=[]) (λ_ z=>nomatch z) (λb o _ a _ e n=>u.keep b o e n a 'F') (λb o _ a _ e n=>u.slot b o e n a 'F') (λb o _ e n=>u.free b o e n 'F') (λb o _ e=>u.there b o e 'F') u.tups u.frzs u.tbls (λq i=>by obtain⟨t,g,f,d,k⟩:=i;rw[c]at d;cases d;exact(_,g,f,h,k,)) j I.bare
def Inv.call{g':Array iF}{d':Drawn}(I:'A')(u:Un (frs X.stack) ch H H' s.heap h')(t:HOk X.prog X.w H' h')(l:qb g')
  (f:∀b∈ch,(b∈X.ex\/X.s₀.heap.objs.size<=b)/\b≠X.env.locals/\(∀x c,X.env.cells.lookup x<*c->c≠b)/\∀p∈X.pn++pins,p.1≠b):
  Inv X pins σ H' {s with heap:=h',gens:=g',drawn:=d',toks:=t'}:=by
 obtain⟨m,⟨o,y,w,g,r⟩,_⟩:=id I.loc;obtain⟨C,d⟩:=u.any g I.free λz=>(f _ z).2.1 rfl;exact I.step (ch:=ch) f (λb o d k a e n=>u.keep b o e n (λz=>(aK.mp (I.EA b z)).elim d k) a) (λb o _ _ a e n=>u.any e n a) (λb o a e n=>u.free b o e n a) (λb o a e=>u.there b o e a) u.tups u.frzs u.tbls (λA q=>by obtain⟨B,j,i,h,v⟩:=q;rw[g]at h;cases h;exact(_,j,i,d,v,)) t l
def Inv.turned(I:'A')(k:∀b o,b≠it->s.heap.get? b<*o->h'.get? b<*o)(y:H it=none)(d:it≠X.env.locals)
  (i:it∈X.ex\/X.s₀.heap.objs.size<=it)(j:∀x c,X.env.cells.lookup x<*c->c≠it)(l:∀p∈X.pn++pins,p.1≠it):Inv X pins σ H {s with heap:=h',toks:=t'}:=by
 have f:∀b u,H b<*u->b≠it:=λb u e z=>by rw[z,y]at e;cases e
 refine I.step (g':=s.gens) (d':=s.drawn) (ch:=[it]) (λb t=>?_) (λb o _ _ a e _=>k b o (λz=>a (by simp[z])) e) (λb o _ _ a e _=>⟨o.slots,k b o (λz=>a (by simp[z])) e⟩) (λ_ _ _ _ n=>n)
  (λb o a e=>⟨o,k b o (λz=>a (by simp[z])) e⟩) (λ_ _ e=>e) (λ_ _ _ e=>e) (λb B e=>⟨#[],by rw[e];simp⟩) (λm w=>?_) (λb u e=>?_) I.bare
 .have e:b=it:=by simpa using t
  subst e;exact(i,d,j,l,)
 .obtain⟨o,h,g,A,r⟩:=w;exact(o,h,g,k _ o (bI d) A,r,)
 .refine(I.hok b u e).mf (λc v a q=>k c v ?_ q) (λ_ q=>q) λ_ _ q=>q;rcases a with z|z;·rw[z];exact f b u e
  .exact f c _ z
def Inv.tok(I:'A')(t:Nat):Inv X pins σ H {s with toks:=t}:=I.un (h':=s.heap) (t':=t) Un.refl I.hok
theorem Inv.kept(I:'A')(k:∀b u,s.heap.get? b<*u->h'.get? b<*u):Inv X pins σ H {s with heap:=h',toks:=t'}:=I.un (Un.kept k) (I.hok.kept k)
theorem Inv.laid{o:HO}(I:'A')(k:∀b u,s.heap.get? b<*u->h'.get? b<*u)(c:⇑s<=a)(d:eA X.prog X.w (upd H a o) h' a o):
  Inv X pins σ (upd H a o) {s with heap:=h',toks:=t'}:=I.un (Un.laid k c (I.hok.fresh c)) (I.hok.laid k c d)
theorem Inv.write{x e:Addr}{o:HO}(I:'A')(d:Mut (H x))(a:e=x\/H e<*(.own x))(k:∀b u,b≠e->s.heap.get? b<*u->h'.get? b<*u)(c:∃u,h'.get? e<*u)
  (f:eA X.prog X.w (upd H x o) h' x o):Inv X pins σ (upd H x o) {s with heap:=h',toks:=t'}:=I.un (Un.write d a k c) (I.hok.write d a k c f)
def Inv.AK(I:'A')(h:∀p∈pins',s.heap.get? p.1<*p.2/\H p.1=none/\p.1≠X.env.locals/\p.1∉X.fs/\∀v,p.2.data≠.cell v):Inv X pins' σ H s:=
 (I.ok,I.os,I.bare,I.base,I.loc,I.cell,I.free,I.freeC,λp a=>(cX.mp a).elim (λz=>I.pin p (cF _ z)) (h p),I.hok,I.len,)
def w6(e:N.Nodup)(a:N[i]?<*x)(b:N[j]?<*x):i=j:=by obtain⟨f,c⟩:=av.mp a;obtain⟨g,d⟩:=av.mp b;exact(fu e).mp (c.trans d.symm)
def HK{M:Model}{v:V}{Q:Unit->Shared->Prop}(I:'A')(S:X.N.Nodup)(hi:X.N[i]?<*x)(l:Loc X.env.scope x)(r:RelV v u)
  (h:∀s',Inv X pins (σ.set i (some v)) H s'->(∃a,cU a s.heap s'.heap/\(a=X.env.locals\/X.env.cells.lookup x<*a))->Q () s')(hf:X.fn x=true\/X.env.scope.names.lookup x<*.local:=by first |exact .inl rfl|exact .inr rfl|assumption):wpAny M A (storeName X.env x u) Q E s:=by
 obtain⟨a5,G,Y⟩:=id I.loc;have a1:(X.env.scope.kind== .class||(X.env.scope.kind== .module&&X.env.locals != X.env.globals))=false:=by rw[I.ok.kind];rfl
 have W:i<σ.length:=by rw[I.len];exact(av.mp hi).1
 have cne:=I.cne;have a0:∀{a:Addr}{w:Heap},(∃o,s.heap.get? a<*o/\H a=none)->cU a s.heap w->HOk X.prog X.w H w:=λ{a w} ha f b ob e=>by
  obtain⟨_,_,U⟩:=ha;refine(I.hok b ob e).mf (λc C hc q=>(f.2 c ?_).trans q) (λ_ q=>q) λ_ _ q=>q;rintro rfl;rcases hc with rfl|hc;·rw[U]at e;cases e
  .rw[U]at hc;cases hc
 rcases l with hk|hk
 .refine wpAny_storeName_local hk G (λw a2 f=>?_) a1;obtain⟨oL,_,_,a3,_⟩:=id G;refine h _ (I.ok,I.os,I.bare,(λb o e n t l=>?_,λb o e n t l=>?_,I.base.free,λb o e l=>?_,I.base.tups,I.base.frzs,I.base.tbls,),(_,a2,λj y R g m D=>?_,),λy c e=>?_,I.free,I.freeC,λp J=>?_,a0 (oL,a3,I.free,) f,↥I.len,) (_,f,.inl rfl,);·exact(f.2 b (aM (bu (aA e) I.ok.above))).trans (I.base.keep b o e n t l)
  .obtain⟨O,g⟩:=I.base.slot b o e n t l;exact(O,(f.2 b (aM (bu (aA e) I.ok.above))).trans g,)
  .obtain⟨L,g⟩:=I.base.there b o e l;exact(L,(f.2 b (aM (bu (aA e) I.ok.above))).trans g,)
  .by_cases hj:j=i;·subst hj;rw[hi]at g;cases g;rw[p9 W]at m;cases m;exact⟨u,r,.inl ⟨hk,'F'⟩⟩
   .rw[la (bI hj)]at m;obtain⟨P,N,q⟩:=Y j y R g m D;refine(P,N,?_,);rcases q with⟨k,e⟩ |⟨k,c,e,z⟩;·refine .inl (k,?_,);have :y≠x:=λe=>hj (w6 S g (e▸hi));simp[this,e]
    .exact .inr (k,c,e,z.sameBut f (cne y c e),)
  .obtain⟨C,z⟩:=I.cell y c e;exact(C,z.sameBut f (cne y c e),)
  .obtain⟨e,n,ne,K,d⟩:=I.pin p J;exact((f.2 p.1 ne).trans e,n,ne,K,d,)
 .have F:X.fn x=true:=by
   rcases hf with z|z;·exact z
   .rw[z]at hk;cases hk
  obtain⟨c,hc⟩:=I.ok.has x (.inl hk);obtain⟨C,z⟩:=I.cell x c hc;refine wpAny_storeName_cell I.ok.kind hk hc z (λw T f=>?_);obtain⟨oc,Z,a4⟩:=id z;refine h {s with heap:=w} (I.ok,I.os,I.bare,(λb o e n t l=>?_,λb o e n t l=>?_,I.base.free,λb o e l=>?_,I.base.tups,I.base.frzs,I.base.tbls,),(a5,G.sameBut f (bI (cne x c hc)),λj y R g m D=>?_,),λy B e=>?_,I.free,I.freeC,λp J=>?_,a0 (oc,Z,I.freeC x c hc,) f,↥I.len,) (c,f,.inr hc,);·exact(f.2 b (aM (bu (aA e) (I.ok.cab x c F hc)))).trans (I.base.keep b o e n t l)
  .obtain⟨O,g⟩:=I.base.slot b o e n t l;exact(O,(f.2 b (aM (bu (aA e) (I.ok.cab x c F hc)))).trans g,)
  .obtain⟨L,g⟩:=I.base.there b o e l;exact(L,(f.2 b (aM (bu (aA e) (I.ok.cab x c F hc)))).trans g,)
  .by_cases hj:j=i;·subst hj;rw[hi]at g;cases g;rw[p9 W]at m;cases m;exact(u,r,.inr (.inl hk,c,hc,T,),)
   .rw[la (bI hj)]at m;obtain⟨P,N,q⟩:=Y j y R g m D;refine(P,N,?_,);rcases q with q|⟨k,B,e,z'⟩;·exact .inl q
    .refine .inr (k,B,e,z'.sameBut f ?_,);rintro rfl;exact hj (w6 S g (I.ok.inj _ _ _ e hc▸hi))
  .by_cases hcc:B=c;·subst hcc;exact(_,T,)
   .obtain⟨w2,z2⟩:=I.cell y B e;exact(w2,z2.sameBut f hcc,)
  .obtain⟨e,n,ne,K,d⟩:=I.pin p J;refine((f.2 p.1 ?_).trans e,n,ne,K,d,);intro q;rw[q,Z]at e;have q':oc=p.2:=aW e;exact d C (by rw[<-q'];exact a4)
def wG{M:Model}{v:V}{Q:Unit->Shared->Prop}(I:'A')(b:X.N.Nodup)(hi:X.N[i]?<*x)(c:Loc X.env.scope x)(r:RelV v u)
  (h:∀s',Inv X pins (σ.set i (some v)) H s'->Q () s')(hf:X.fn x=true\/X.env.scope.names.lookup x<*.local:=by first |exact .inl rfl|exact .inr rfl|assumption):wpAny M A (storeName X.env x u) Q E s:=
 HK I b hi c r (λs' a _=>h s' a) hf
def Inv.call'(I:'A')(f:s'.os=s.os)(u:Un (frs X.stack) ch H H' s.heap s'.heap)(g:HOk X.prog X.w H' s'.heap)(d:qb s'.gens)
  (a:∀b∈ch,(b∈X.ex\/X.s₀.heap.objs.size<=b)/\b≠X.env.locals/\(∀x c,X.env.cells.lookup x<*c->c≠b)/\∀p∈X.pn++pins,p.1≠b):Inv X pins σ H' s':=by
 obtain⟨i,g',d',t',h⟩:=s';have e:h=s.os:=f;subst e;exact I.call (g':=g') (t':=t') (d':=d') u g d a
end
noncomputable abbrev XK:=Value->Option Addr->Hp->Prop
noncomputable abbrev St:=List (Option V)
noncomputable abbrev VK:=V->Hp->Prop
noncomputable abbrev TE:=St->Hp->VK->Prop
noncomputable abbrev TT:=St->Hp->(Bool->Hp->Prop)->Prop
noncomputable abbrev TA:=St->Hp->(List V->Hp->Prop)->Prop
structure Ends where
 nx:St->Hp->Prop
 rt:VK
 bk:St->Hp->Prop:=λ_ _=>False
 ct:St->Hp->Prop:=λ_ _=>False
noncomputable abbrev TS:=Ends->St->Hp->Prop
def EP(X:Cx)(pins:List (Addr×Obj))(σ:St)(Q:VK)(u:Value)(s':Shared):Prop:=∃v H',Inv X pins σ H' s'/\RelV v u/\Q v H'
def TP(X:Cx)(pins:List (Addr×Obj))(σ:St)(Q:Bool->Hp->Prop)(b:Bool)(s':Shared):Prop:=∃H',Inv X pins σ H' s'/\Q b H'
def AP(X:Cx)(pins:List (Addr×Obj))(σ:St)(Q:List V->Hp->Prop)(us:List Value)(s':Shared):Prop:=∃vs H',Inv X pins σ H' s'/\bT vs us/\Q vs H'
def SP(X:Cx)(pins:List (Addr×Obj))(D:Ends)(f:Flow)(s':Shared):Prop:=
 match f with
 |.next=>∃a H',Inv X pins a H' s'/\D.nx a H'
 |.brk=>∃a H',Inv X pins a H' s'/\D.bk a H'
 |.cont=>∃a H',Inv X pins a H' s'/\D.ct a H'
 |.ret u=>∃v a H',Inv X pins a H' s'/\RelV v u/\D.rt v H'
def PE(X:Cx)(e:Expr)(t:TE):Prop:=
 ∀(pins:List (Addr×Obj))(s:Shared)(σ:St)(H:Hp)(Q:VK),'A'->t σ H Q->'C' (eval e X.env) (EP X pins σ Q) X.xe s
def PT(X:Cx)(e:Expr)(t:TT):Prop:=
 ∀(pins:List (Addr×Obj))(s:Shared)(σ:St)(H:Hp)(Q:Bool->Hp->Prop),'A'->t σ H Q->'C' (isTrue e X.env (eval e X.env)) (TP X pins σ Q) X.xe s
def PW(X:Cx)(e:Expr)(t:TT):Prop:=
 ∀(a:Sem Value)(pins:List (Addr×Obj))(s:Shared)(σ:St)(H:Hp)(Q:Bool->Hp->Prop),'A'->t σ H Q->'C' (isTrue e X.env a) (TP X pins σ Q) X.xe s
def PW.pt{X:Cx}{t:TT}(h:PW X e t):PT X e t:=h _
def PA(X:Cx)(es:List Expr)(t:TA):Prop:=
 ∀(pos:Pos)(pins:List (Addr×Obj))(s:Shared)(σ:St)(H:Hp)(Q:List V->Hp->Prop),'A'->t σ H Q->'C' (spliced (backTo pos (bH es X.env))) (AP X pins σ Q) X.xe s
def PS(X:Cx)(st:Stmt)(t:TS):Prop:=
 ∀(pins:List (Addr×Obj))(s:Shared)(σ:St)(H:Hp)(D:Ends),'A'->t D σ H->'C' (exec st X.env) (SP X pins D) X.xe s
def PSs(X:Cx)(st:List Stmt)(t:TS):Prop:=
 ∀(pins:List (Addr×Obj))(s:Shared)(σ:St)(H:Hp)(D:Ends),'A'->t D σ H->'C' (execs st X.env) (SP X pins D) X.xe s
def thn{c:Type}{t:Sem c}{Q b:c->Shared->Prop}{M:Model}(h:wpAny M A t Q E s)(d:∀a s,Q a s->b a s):wpAny M A t b E s:=dy h d λ_ _ x=>x
section
variable {X:Cx}
def wA(i:Nat):TE:=λσ H Q=>∃v,σ[i]?<*(some v)/\Q v H
def tC(v:V):TE:=λ_ H Q=>Q v H
def Lp(g:X.N[i]?<*x)(p:Vis X.env.scope x)(b:(x==("__debug__":Str))=false:=by decide) (j:(x==("__classdict__":Str))=false:=by decide):PE X (.Name x pos) (wA i):=by
 intro q s t H Q I h;obtain⟨v,e,h⟩:=h;obtain⟨m,o,k⟩:=I.loc;obtain⟨u,r,l⟩:=k i x v g e p;have a:EP X q t Q u s:=(v,H,I,r,h,);rcases l with⟨hk,n⟩ |⟨hk,c,d,f⟩;·exact Jx (wpAny_loadName_local I.ok.kind hk o n a) b
 .rcases hk with hk|hk;·exact Jx (wpAny_loadName_cell I.ok.kind hk d f a) b
  .exact Jx (wpAny_loadName_free I.ok.kind hk d f a j) b
def Lz{i j pos}:PE X (.Constant (.int i) j pos) (tC (.int i)):=λ_ _ _ H _ I h=>wpAny_Constant_int (.int i,H,I.tok _,(_,rfl,),h,)
def pe_bl{b j pos}:PE X (.Constant (.bool b) j pos) (tC (.bl b)):=λ_ _ _ H _ I h=>Constant_bool (.bl b,H,I,rfl,h,)
def Lx{j pos}:PE X (.Constant .none j pos) (tC .non):=λ_ _ _ H _ I h=>Constant_none (.non,H,I,rfl,h,)
def Lr{x j pos}:PE X (.Constant (.str x) j pos) (tC (.str x)):=λ_ _ _ H _ I h=>Calls.Constant_str (.str x,H,I.tok _,(_,rfl,),h,)
def Gl(X:Cx)(x:Str):Prop:=X.env.kindOf x<*.globalImplicit
def nL{d:St}{H:Hp}{Q:'I'}(I:Inv X pins d H s)(b:Gl X x)(c:X.mg x<*u)(h:Q u s)
  (a:(x==("__debug__":Str))=false:=by decide):'C' (eval (.Name x pos) X.env) Q E s:=
 BY I.ok.kind b (Calls.loadGlobal_global (by rw[I.ok.glob];exact I.mod.glob.keeps I.bk) c h) a
def jA{i:St}{H:Hp}{Q:'I'}(I:Inv X pins i H s)(d:Gl X x)(e:X.mg x=none)(g:gB x<*u)(h:Q u s)
  (f:x≠"__name__":=by decide) (c:(x==("__debug__":Str))=false:=by decide):'C' (eval (.Name x pos) X.env) Q E s:=by
 obtain⟨j,a,b⟩:=I.mod.blt;exact BY I.ok.kind d (Calls.loadGlobal_builtin (by rw[I.ok.glob];exact I.mod.glob.keeps I.bk) e (by rw[I.ok.blt];exact a.keeps I.bk) ((b x f).trans g) h) c
def GG{v:V}(b:Gl X x)(c:X.mg x<*u)(r:RelV v u)(a:(x==("__debug__":Str))=false:=by decide):PE X (.Name x pos) (tC v):=
 λ_ _ _ H _ I h=>nL I b c (v,H,I,r,h,) a
def GI{v:V}(b:Gl X x)(c:X.mg x=none)(e:gB x<*u)(r:RelV v u)(d:x≠"__name__":=by decide) (a:(x==("__debug__":Str))=false:=by decide):PE X (.Name x pos) (tC v):=
 λ_ _ _ H _ I h=>jA I b c e (v,H,I,r,h,) d a
variable {a b:Expr}{ta tb:TE}
variable {tA tB':TT}{rest:List Expr}
def tAnd(t u:TT):TT:=λσ H Q=>t σ H λc H1=>if c=true then u σ H1 Q else Q false H1
def tOr(t u:TT):TT:=λσ H Q=>t σ H λc H1=>if c=true then Q true H1 else u σ H1 Q
def tNot(t:TT):TT:=λσ H Q=>t σ H λc H1=>Q (!c) H1
def GB(b:PT X a tA):PW X (.BoolOp .And [a] pos) tA:=by
 intro i d s f H Q I h;refine isTrue_and (thn (b d s f H Q I h) λc g e=>?_);cases c with
 |true=>exact isTrue_and_nil e
 |false=>exact e
def pw_or1(b:PT X a tA):PW X (.BoolOp .Or [a] pos) tA:=by
 intro i d s f H Q I h;refine isTrue_or (thn (b d s f H Q I h) λc g e=>?_);cases c with
 |false=>exact isTrue_or_nil e
 |true=>exact e
def EL(j:PT X a tA)(k:PW X (.BoolOp .And (b::rest) pos) tB'):PW X (.BoolOp .And (a::b::rest) pos) (tAnd tA tB'):=by
 intro m f s i H Q I h;refine isTrue_and (thn (j f s i H _ I h) λc l ⟨d,e,g⟩=>?_);cases c with
 |true=>exact k m f l i d Q e g
 |false=>exact(d,e,g,)
def pw_or(j:PT X a tA)(k:PW X (.BoolOp .Or (b::rest) pos) tB'):PW X (.BoolOp .Or (a::b::rest) pos) (tOr tA tB'):=by
 intro m f s i H Q I h;refine isTrue_or (thn (j f s i H _ I h) λc l ⟨d,e,g⟩=>?_);cases c with
 |true=>exact(d,e,g,)
 |false=>exact k m f l i d Q e g
def pt_not(d:PT X a tA):PT X (.UnaryOp .Not a pos) (tNot tA):=by intro e s f H Q I h;exact isTrue_not (d e s f H (λc b=>Q (!c) b) I h)
def Kq(ta tb:TE):TE:=λσ H Q=>ta σ H λx H1=>∃c,x=.bl c/\if c=true then tb σ H1 Q else Q (.bl false) H1
def tOrV(ta tb:TE):TE:=λσ H Q=>ta σ H λx H1=>∃c,x=.bl c/\if c=true then Q (.bl true) H1 else tb σ H1 Q
def Kl(ta:TE):TE:=λσ H Q=>ta σ H λx H1=>∃c,x=.bl c/\Q (.bl (!c)) H1
def Lw{op}{t:TE}(h:PE X a t):PE X (.BoolOp op [a] pos) t:=λc s d H Q I b=>BoolOp_one (h c s d H Q I b)
def LI(j:PE X a ta)(k:PE X (.BoolOp .And (b::rest) pos) tb):PE X (.BoolOp .And (a::b::rest) pos) (Kq ta tb):=by
 intro g s i H Q I h;refine BoolOp_and (thn (j g s i H _ I h) λv m ⟨x,e,f,l,d⟩=>?_);obtain⟨c,rfl,d⟩:=d;cases l;refine dZ ?_;cases c with
 |true=>exact k g m i e Q f d
 |false=>exact(.bl false,e,f,rfl,d,)
def pe_or(j:PE X a ta)(k:PE X (.BoolOp .Or (b::rest) pos) tb):PE X (.BoolOp .Or (a::b::rest) pos) (tOrV ta tb):=by
 intro g s i H Q I h;refine BoolOp_or (thn (j g s i H _ I h) λv m ⟨x,e,f,l,d⟩=>?_);obtain⟨c,rfl,d⟩:=d;cases l;refine dZ ?_;cases c with
 |false=>exact k g m i e Q f d
 |true=>exact(.bl true,e,f,rfl,d,)
def pe_not(f:PE X a ta):PE X (.UnaryOp .Not a pos) (Kl ta):=by intro g s j H Q I h;refine UnaryOp_ (thn (f g s j H _ I h) λv k ⟨x,d,e,i,b⟩=>?_);obtain⟨c,rfl,b⟩:=b;cases i;exact not_of (dZ (.bl (!c),d,e,rfl,b,))
def tIf(t:TT)(ta tb:TE):TE:=λσ H Q=>t σ H λc H1=>if c=true then ta σ H1 Q else tb σ H1 Q
def LA{c:Expr}(n:PT X c tA)(l:PE X a ta)(m:PE X b tb):PE X (.IfExp c a b pos) (tIf tA ta tb):=by
 intro e s f H Q I h;refine wpAny_IfExp (thn (n e s f H _ I h) λd k ⟨g,i,j⟩=>?_);cases d with
 |true=>exact l e k f g Q i j
 |false=>exact m e k f g Q i j
end
def SqL(K:ak)(H:Hp)(a:Addr)(xs:List V):Prop:=
 Rd H a (.lst xs)\/
  ∃(o:Obj)(ad:Array Value)(n:Nat),K.lookup a<*o/\o.cls=.type "list"/\o.dict=none/\o.data=.seq ad n/\ad.size<=sizeLine/\bT xs ad.toList
def SqT(K:ak)(H:Hp)(a:Addr)(xs:List V):Prop:=
 Rd H a (.tup xs)\/
  ∃(o:Obj)(ad:Array Value)(n:Nat),K.lookup a<*o/\o.cls=.type "tuple"/\o.data=.seq ad n/\ad.size<=sizeLine/\bT xs ad.toList
abbrev absV:Value->Option V
 |.none=>some .non
 |.bool b=>some (.bl b)
 |.int i _=>some (.int i)
 |.str x _=>some (.str x)
 |.bytes b _=>some (.byt b)
 |.float b _=>some (.flt b)
 |.ref a=>some (.ref a)
 |.type n=>some (.ty n)
 |_=>none
def RelV.abs{x:V}(r:RelV x u):absV u<*x:=by
 cases x with
 |non=>cases r;rfl
 |bl _=>cases r;rfl
 |int _=>obtain⟨t,rfl⟩:=r;rfl
 |str _=>obtain⟨t,rfl⟩:=r;rfl
 |byt _=>obtain⟨t,rfl⟩:=r;rfl
 |flt _=>obtain⟨t,rfl⟩:=r;rfl
 |ref _=>cases r;rfl
 |ty _=>cases r;rfl
def RelV.inj{x y:V}(r:RelV x u)(q:RelV y u):x=y:=aW (r.abs.symm.trans q.abs)
theorem bT.inj{xs ys:List V}(h:bT xs us):bT ys us->xs=ys:=by
 induction h generalizing ys with
 |nil=>intro k;cases k;rfl
 |cons r k ih=>
  intro w;cases w with
  |cons r' w'=>rw[r.inj r',ih w']
section
variable {X:Cx}{pins:List (Addr×Obj)}{σ:St}{H:Hp}{s:Shared}{a:Addr}{xs ys:List V}
def SqL.of(h:H a<*(.lst xs)):SqL K H a xs:=.inl (.inl h)
def SqT.of(h:H a<*(.tup xs)):SqT K H a xs:=.inl (.inl h)
def Inv.list(I:'A')(h:SqL X.K H a xs):∃ad:List Value,bT xs ad/\PlainL s.heap a ad.toArray/\xs.length<=sizeLine:=by
 rcases h with h|⟨o,ad,n,d,b,c,f,g,r⟩;·obtain⟨z,ad,n,r,e⟩:=h.ok I.hok;exact(ad,r,(_,n,e,rfl,rfl,rfl,),z,)
 .refine(ad.toList,r,(o,n,I.kIn a o d,b,c,↥f,),?_,);have e:=r.length;simp only[aV]at e;lia
def Inv.tuple(I:'A')(h:SqT X.K H a xs):∃ad:List Value,bT xs ad/\IsTup s.heap a ad.toArray/\xs.length<=sizeLine:=by
 rcases h with h|⟨o,ad,n,c,b,d,f,r⟩;·obtain⟨z,ad,r,p⟩:=h.ok I.hok;exact(ad,r,p,z,)
 .refine(ad.toList,r,(o,I.kIn a o c,b,n,↥d,),?_,);have e:=r.length;simp only[aV]at e;lia
def Inv.Df(I:'A')(h:SqL X.K H a xs)(h':SqL X.K H a ys):xs=ys:=by
 obtain⟨f,r,⟨o,n,e,_,_,d⟩,_⟩:=I.list h;obtain⟨g,i,⟨k,j,c,_,_,b⟩,_⟩:=I.list h';rw[e]at c;cases c;rw[d]at b;injection b with d1 _
 have :f=g:=by simpa using congrArg Array.toList d1
 subst this;exact r.inj i
def Inv.tN(I:'A')(h:SqT X.K H a xs)(h':SqT X.K H a ys):xs=ys:=by
 obtain⟨f,r,⟨o,e,_,n,d⟩,_⟩:=I.tuple h;obtain⟨g,i,⟨k,c,_,j,b⟩,_⟩:=I.tuple h';rw[e]at c;cases c;rw[d]at b;injection b with d1 _
 have :f=g:=by simpa using congrArg Array.toList d1
 subst this;exact r.inj i
end
section
variable {X:Cx}{st:Stmt}{rest:List Stmt}{t u:TS}{te:TE}
def Cb:TS:=λD σ H=>D.nx σ H
def yv(t u:TS):TS:=λD σ H=>t {D with nx:=u D} σ H
def AJ:PSs X [] Cb:=λ_ _ a H _ I h=>F6 (a,H,I,h,)
def rQ(d:PS X st t)(e:PSs X rest u):PSs X (st::rest) (yv t u):=by
 intro a s i H D I h;refine wpAny_execs_cons (thn (d a s i H {D with nx:=u D} I h) λf g q=>?_);cases f with
 |next =>obtain⟨j,b,c,q⟩:=q;exact e a g j b D c q
 |ret v=>exact q
 |brk=>exact q
 |cont=>exact q
def Ko:TS:=λD σ H=>D.bk σ H
def tCont:TS:=λD σ H=>D.ct σ H
def GC:PS X (.Pass pos) Cb:=λ_ _ a H _ I h=>wpAny_Pass (a,H,I,h,)
def Li:PS X (.Break pos) Ko:=λ_ _ a H _ I h=>wpAny_Break (a,H,I,h,)
def Cy:PS X (.Continue pos) tCont:=λ_ _ a H _ I h=>wpAny_Continue (a,H,I,h,)
def Inv.quiet{a:St}{H:Hp}(I:Inv X pins a H s):interactive X.env=false:=by simp[interactive,I.ok.kind]
def Km(te:TE):TS:=λD σ H=>te σ H λ_ H1=>D.nx σ H1
def GD(d:PE X e te)(hs:rA e none pos.line X.env=pure false:=by rfl):PS X (.Expr e pos) (Km te):=by intro f s a H D I h;exact wpAny_Expr_any (thn (d f s a H _ I h) λv j ⟨x,b,c,i,g⟩=>(a,b,c,g,)) I.quiet hs
def tRet(te:TE):TS:=λD σ H=>te σ H D.rt
def Lg(d:PE X e te):PS X (.Return (some e) pos) (tRet te):=by intro f s a H D I h;exact wpAny_Return_some (thn (d f s a H _ I h) λv j ⟨x,b,c,i,g⟩=>(x,a,b,c,i,g,))
def Kj:TS:=λD _ H=>D.rt .non H
def ps_retN:PS X (.Return none pos) Kj:=λ_ _ a H _ I h=>wpAny_Return_none (.non,a,H,I,rfl,h,)
def tIfS(c:TT)(t u:TS):TS:=λD σ H=>c σ H λb H1=>if b=true then t D σ H1 else u D σ H1
def ps_if{c:Expr}{a b:List Stmt}{l:TT}(o:PT X c l)(m:PSs X a t)(n:PSs X b u):PS X (.If c a b pos) (tIfS l t u):=by
 intro e s f H D I h;refine wpAny_If (thn (o e s f H _ I h) λd k ⟨g,i,j⟩=>?_);cases d with
 |true=>exact m e k f g D i j
 |false=>exact n e k f g D i j
end
noncomputable abbrev TG:=V->St->Hp->(St->Hp->Prop)->Prop
noncomputable abbrev TGs:=List V->St->Hp->(St->Hp->Prop)->Prop
def PG(X:Cx)(b:Expr)(t:TG):Prop:=
 ∀(pins:List (Addr×Obj))(s:Shared)(σ:St)(H:Hp)(v:V)(u:Value)(Q:St->Hp->Prop),'A'->RelV v u->t v σ H Q->
  'C' (assign b X.env u) (λ_ s'=>∃a H',Inv X pins a H' s'/\Q a H') X.xe s
def PGs(X:Cx)(ts:List Expr)(t:TGs):Prop:=
 ∀(pins:List (Addr×Obj))(s:Shared)(σ:St)(H:Hp)(vs:List V)(us:List Value)(Q:St->Hp->Prop),'A'->bT vs us->t vs σ H Q->
  'C' (assignInOrder ((jf ts X.env).map (·.2)) us) (λ_ s'=>∃a H',Inv X pins a H' s'/\Q a H') X.xe s
noncomputable abbrev TSet:=V->V->V->Hp->(Hp->Prop)->Prop
def PSet(X:Cx)(t:TSet):Prop:=
 ∀(pins:List (Addr×Obj))(s:Shared)(σ:St)(H:Hp)(o i v:V)(b a u:Value)(Q:Hp->Prop),'A'->RelV o b->RelV i a->RelV v u->t o i v H Q->
  'C' (setItem b a u) (λ_ s'=>∃H',Inv X pins σ H' s'/\Q H') X.xe s
section
variable {X:Cx}
def oa(i:Nat):TG:=λv σ H Q=>Q (σ.set i (some v)) H
def AL(b:X.N.Nodup)(hi:X.N[i]?<*x)(c:Loc X.env.scope x)(hf:X.fn x=true\/X.env.scope.names.lookup x<*.local:=by first |exact .inl rfl|exact .inr rfl|assumption):PG X (.Name x pos) (oa i):=by intro d s f H v u Q I r h;exact wpAny_assign_Name (wG I b hi c r (λe a=>(_,H,a,h,)) hf)
def gNil:TGs:=λvs σ H Q=>vs=[]/\Q σ H
def MK(t:TG)(u:TGs):TGs:=λvs σ H Q=>∃v r,vs=v::r/\t v σ H λa H'=>u r a H' Q
def pgs_nil:PGs X [] gNil:=by intro b s a H d c Q I r h;obtain⟨e,h⟩:=h;subst e;cases r;exact assignInOrder_nil (a,H,I,h,)
def Ln{a:List Expr}{t:TG}{u:TGs}(g:PG X e t)(i:PGs X a u)
  (hs:(jf (e::a) X.env).map (·.2)=assign e X.env::(jf a X.env).map (·.2):=by rfl):PGs X (e::a) (MK t u):=by
 intro b s l H p n Q I r h;obtain⟨v,o,f,h⟩:=h;subst f;cases r with
 |cons r rr=>rw[hs];refine assignInOrder_cons (thn (g b s l H _ _ _ I r h) λ_ k ⟨m,c,d,j⟩=>?_);exact i b k m c _ _ Q d rr j
def gTup(K:ak)(n:Nat)(t:TGs):TG:=λv σ H Q=>∃a xs,v=.ref a/\SqT K H a xs/\xs.length=n/\t xs σ H Q
def pg_tup{c:List Expr}{t:TGs}(p:X.calm=true)(h:PGs X c t)
  (w:(jf c X.env).length=n:=by rfl) (x:(jf c X.env).findIdx? (·.1)=none:=by rfl):PG X (.Tuple c k pos) (gTup X.K n t):=by
 intro f s i H v u Q I r d;obtain⟨a,A,l,hq,q,d⟩:=d;subst l;cases r;obtain⟨C,g,y,B⟩:=I.tuple hq;refine assign_Tuple_tuple (I.ok.hd p) y (by simp[w,<-q,g.length]) x λm z=>?_;have j:Inv X f i H {s with heap:=m}:=I.kept (t':=s.toks) λb o e=>z b o (aM (aA e)) e;exact h f _ i H A _ Q j ↥g d
def gSub(to b:TE)(t:TSet):TG:=λv σ H Q=>to σ H λo H1=>b σ H1 λi H2=>t o i v H2 λa=>Q σ a
def pg_sub{i:Expr}{f e:TE}{t:TSet}(q:PE X o f)(hi:PE X i e)(hs:PSet X t)
  (p:∀v,assign (.Subscript o i pos) X.env v=(do
   let a<-holding [v] (eval o X.env)
   let b<-holding [v,a] (eval i X.env)
   BE pos
   holding [v,a,b] (setItem a b v)
   release [v,a,b] []):=by intro _;rfl):PG X (.Subscript o i pos) (gSub f e t):=by
 intro d s c H v u Q I r h;rw[p];refine aa (ba (thn (q d s c H _ I h) λa D ⟨x,g,l,B,w⟩=>?_));refine aa (ba (thn (hi d D c g _ l w) λb E ⟨y,j,m,C,z⟩=>?_));refine aa (iI (aa (ba (thn (hs d E c j x y v a b u _ m B C r z) λ_ F ⟨k,n,A⟩=>?_))));exact wpAny_release (c,k,n,A,)
def Ag(te:TE)(g:TG):TS:=λD σ H=>te σ H λx H1=>g x σ H1 D.nx
def EN{b:TE}{g:TG}(j:PE X e b)(k:PG X tg g)(hs:NK [tg] e pos.line X.env=pure false:=by rfl) (l:swappedStores [tg] e X.env=pure none:=by rfl)
  (i:(jf [tg] X.env).map (·.2)=[assign tg X.env]:=by rfl):PS X (.Assign [tg] e pos) (Ag b g):=by
 intro a s c H D I h;refine wpAny_Assign_stores (thn (j a s c H _ I h) λv o ⟨x,d,f,n,m⟩=>?_) hs l;rw[i];exact thn (k a o c d x v _ f n m) λ_ p q=>q
def ps_set{a:TE}(f:X.N.Nodup)(hi:X.N[i]?<*x)(j:Loc X.env.scope x)(g:PE X e a)(hs:rA e (some (.Name x pos')) pos.line X.env=pure false:=by rfl) (hf:X.fn x=true\/X.env.scope.names.lookup x<*.local:=by first |exact .inl rfl|exact .inr rfl|assumption):
  PS X (.Assign [.Name x pos'] e pos) (Ag a (oa i)):=by
 intro k s n H D I h;refine wpAny_Assign_Name (thn (g k s n H _ I h) λv o ⟨y,b,c,m,l⟩=>?_) hs;exact wG c f hi j m (λp d=>(_,b,d,l,)) hf
end
section
variable {X:Cx}
def Ki(c:TT)(tb:TS):TS:=λD σ H=>∃W:Nat->St->Hp->Prop,(∃m,W m σ H)/\∀m σ H,W m σ H->
 c σ H λb H1=>if b=true then ∃N:St->Hp->Prop,(∀d H',N d H'->∃a,a<m/\W a d H')/\tb {D with nx:=N,ct:=N,bk:=D.nx} σ H1 else D.nx σ H1
def Lf{c:Expr}{w:List Stmt}{z:TT}{tb:TS}(y:PassesOwn (model X.prog X.w) X.A X.env X.xe)(E:PT X c z)(C:PSs X w tb):PS X (.While c w [] pos) (Ki z tb):=by
 intro o s O H D I h;obtain⟨W,⟨F,L⟩,turn⟩:=h;refine wpAny_While (codeAny_whileLoop (λn G=>∃A q,Inv X o A q G/\W n A q) ?_ F (O,H,I,L,));rintro n J ⟨i,r,B,M⟩;refine iE y (thn (E o J i r _ B (turn n i r M)) λb K ⟨t,u,e⟩=>?_);cases b with
 |true=>
  obtain⟨N,x,e⟩:=e;rw[if_pos rfl];refine iE y (thn (C o K i t _ u e) λf P g=>?_);cases f with
  |next =>obtain⟨d,a,j,m⟩:=g;obtain⟨l,k,p⟩:=x d a m;exact(l,k,d,a,j,p,)
  |cont=>obtain⟨d,a,j,m⟩:=g;obtain⟨l,k,p⟩:=x d a m;exact(l,k,d,a,j,p,)
  |brk=>exact g
  |ret v=>exact g
 |false=>rw[if_neg aq];exact F6 (i,t,u,e,)
end
structure It where
 go:Nat->Hp->Prop
 yld:Nat->Hp->V->Hp->Prop
 stop:Nat->Hp->Prop
def pH(X:Cx)(pins:List (Addr×Obj))(H:Hp)(b:Addr):Prop:=
 H b=none/\b≠X.env.locals/\b∉X.fs/\(b∈X.ex\/X.s₀.heap.objs.size<=b)/\(∀x c,X.env.cells.lookup x<*c->c≠b)/\∀p∈X.pn++pins,p.1≠b
def Inv.Ba{X:Cx}{g:St}{H H':Hp}(I:Inv X pins g H s)(a:⇑s<=b)(d:H' b=none):pH X pins H' b:=by
 refine(d,eM (bu I.lt a),I.nofs a,.inr (aT I.sz a),λx c e z=>?_,λp f z=>?_,);·obtain⟨v,q⟩:=I.cell x c e;exact absurd (bu q.lt (by rw[z];exact a)) (dW _)
 .exact absurd (bu (aA (I.pin p f).1) (by rw[z];exact a)) (dW _)
structure Turn(P:Program)(w:World)(K:ak)(tg:Expr)(J:It)(fp:List Addr)(it:Addr)(tn:Nat->Heap->Prop):Prop where
 mem:it∈fp
 obj:∀i h,tn i h->∀b∈fp,∃o,h.get? b<*o/\∀v,o.data≠.cell v
 keep:∀i h h',tn i h->(∀b∈fp,∀o,h.get? b<*o->h'.get? b<*o)->tn i h'
 item:∀(X:Cx),X.prog=P->X.w=w->X.K=K->X.calm=true->∀(i:Nat)(pins:List (Addr×Obj))(s:Shared)(σ:St)(H:Hp)(E:'I'),'A'->(∀b∈fp,pH X pins H b)->tn i s.heap->J.go i H->
  wpAny (model P w) X.A (pyNext (.ref it)) (λr s1=>∃u,r<*u/\
   wpAny (model P w) X.A (tG tg (.ref it) u) (λ_ s2=>∃x H',Inv X pins σ H' s2/\RelV x u/\J.yld i H x H'/\tn (i+1) s2.heap/\∀b∈fp,H' b=none) E s1) E s
 done:∀(X:Cx),X.prog=P->X.w=w->X.K=K->X.calm=true->∀(i:Nat)(pins:List (Addr×Obj))(s:Shared)(σ:St)(H:Hp)(E:'I'),'A'->(∀b∈fp,pH X pins H b)->tn i s.heap->J.stop i H->
  wpAny (model P w) X.A (pyNext (.ref it)) (λr s1=>r=none/\Inv X pins σ H s1) E s
 self:∀(A:Around)(i:Nat)(s:Shared)(Q:'I')(E:'I'),tn i s.heap->Q (.ref it) s->wpAny (model P w) A (pyIter (.ref it)) Q E s
noncomputable abbrev TI:=St->Hp->(It->Hp->Prop)->Prop
def PIE(X:Cx)(pins:List (Addr×Obj))(σ:St)(tg:Expr)(R:It->Hp->Prop)(a:Value)(s2:Shared):Prop:=
 ∃(it:Addr)(fp:List Addr)(tn:Nat->Heap->Prop)(J:It)(H':Hp),a=.ref it/\Inv X pins σ H' s2/\Turn X.prog X.w X.K tg J fp it tn/\tn 0 s2.heap/\(∀b∈fp,pH X pins H' b)/\R J H'
def PI(X:Cx)(tg iter:Expr)(wi:TI):Prop:=
 ∀(pins:List (Addr×Obj))(s:Shared)(σ:St)(H:Hp)(R:It->Hp->Prop),'A'->wi σ H R->
  'C' (eval iter X.env) (λv a=>'C' (pyIter v) (PIE X pins σ tg R) X.xe a) X.xe s
def G8{M:Model}{o:Obj}{n:String}{vs:Array Value}{Q:Unit->Shared->Prop}(e:s.heap.get? it<*o)(b:o.cls=.type n)(c:o.data=.fields vs)
  (d:["enumerate","zip","dict_itemiterator","dict_reverseitemiterator","odict_iterator","itertools.zip_longest","itertools.pairwise"].contains n=false)(a:Q () s):wpAny M A (tG tg (.ref it) u) Q E s:=by
 unfold tG;cases tg<;>first
  |exact aj a
  | (cases u<;>first
    |exact aj a
    | (refine aa (wpAny_load e ?_)
       rw[b,c];show wpAny M A (if(["enumerate","zip","dict_itemiterator","dict_reverseitemiterator","odict_iterator","itertools.zip_longest","itertools.pairwise"].contains n&&vs[0]? ==some (rawInt _))=true then _ else _) Q E s;rw[if_neg (by intro h;rw[d,dR]at h;cases h)];exact aj a))
abbrev Itl(K:ak)(a:Addr):It:=
 (λi H=>∃xs x,SqL K H a xs/\xs[i]?<*x,λi H x H'=>H'=H/\∀xs,SqL K H a xs->xs[i]?<*x,λi H=>∃xs,SqL K H a xs/\xs.length<=i,)
abbrev Itt(K:ak)(a:Addr):It:=
 (λi H=>∃xs x,SqT K H a xs/\xs[i]?<*x,λi H x H'=>H'=H/\∀xs,SqT K H a xs->xs[i]?<*x,λi H=>∃xs,SqT K H a xs/\xs.length<=i,)
abbrev Itr(lo:Int)(n:Nat):It:=(λi _=>i<n,λi H x H'=>H'=H/\x=.int (lo+i),λi _=>n<=i,)
def yN(a j:Addr):Turn P w K tg (Itl K a) [j] j (λi h=>h.IsListIter j a i) where
 mem:=by simp
 obj:=λi h f b g=>by
  have e:b=j:=by simpa using g
  subst e;obtain⟨o,e,c,d⟩:=f;exact⟨o,e,λv z=>by rw[d]at z;cases z⟩
 keep:=λi h l f k=>f.at λo e=>k j 'F' o e
 item:=by intro X A C y G i J s M H E I hf f B;subst A C y;obtain⟨Y,x,hq,D⟩:=B;obtain⟨U,F,p,T⟩:=I.list hq;obtain⟨u,R,V⟩:=F.get D;obtain⟨m,n,Q,q,r,t⟩:=hf j 'F';refine wpAny_pyNext_list_item f p.isList (x:=u) ↥R λl L W=>?_;have N:Inv X J M H {s with heap:=l}:=I.turned (t':=s.toks) (λb o g e=>(W.2 b g).trans e) m n q r t;obtain⟨o,e,c,d⟩:=id L;exact⟨u,rfl,G8 (s:={s with heap:=l}) e c d 'E' (x,H,N,V,⟨rfl,λys S=>by rw[I.Df S hq];exact D⟩,L,λb g=>(hf b g).1,)⟩
 done:=by intro X A C y G i J s M H E I hf f B;subst A C y;obtain⟨Y,hq,D⟩:=B;obtain⟨U,F,p,T⟩:=I.list hq;obtain⟨m,n,Q,q,r,t⟩:=hf j 'F';have Z:=F.length;exact wpAny_pyNext_list_end (I.ok.hd G) f p.isList (by simp;lia) λl O=>(rfl,I.turned (t':=s.toks) (λb o g e=>O b o g e) m n q r t,)
 self:=λ_ _ _ _ _ f h=>wpAny_pyIter_listiter f h
def Es(a j:Addr):Turn P w K tg (Itt K a) [j] j (λi h=>h.IsTupleIter j a i) where
 mem:=by simp
 obj:=λi h f b g=>by
  have e:b=j:=by simpa using g
  subst e;obtain⟨o,e,c,d⟩:=f;exact⟨o,e,λv z=>by rw[d]at z;cases z⟩
 keep:=λi h l f k=>f.at λo e=>k j 'F' o e
 item:=by intro X A C y J i L s N H E I hf f B;subst A C y;obtain⟨Y,x,hq,D⟩:=B;obtain⟨F,G,p,U⟩:=I.tuple hq;obtain⟨u,S,V⟩:=G.get D;obtain⟨m,n,R,q,r,t⟩:=hf j 'F';refine wpAny_pyNext_tuple_item f (show s.heap.IsTuple a F.toArray from p) (x:=u) ↥S λl M W=>?_;have O:Inv X L N H {s with heap:=l}:=I.turned (t':=s.toks) (λb o g e=>(W.2 b g).trans e) m n q r t;obtain⟨o,e,c,d⟩:=id M;exact⟨u,rfl,G8 (s:={s with heap:=l}) e c d 'E' (x,H,O,V,⟨rfl,λys T=>by rw[I.tN T hq];exact D⟩,M,λb g=>(hf b g).1,)⟩
 done:=by intro X A C y J i L s N H E I hf f B;subst A C y;obtain⟨Y,hq,D⟩:=B;obtain⟨F,G,p,U⟩:=I.tuple hq;obtain⟨m,n,R,q,r,t⟩:=hf j 'F';have Z:=G.length;exact wpAny_pyNext_tuple_end (I.ok.hd J) f (show s.heap.IsTuple a F.toArray from p) (by simp;lia) λl Q=>(rfl,I.turned (t':=s.toks) (λb o g e=>Q b o g e) m n q r t,)
 self:=λ_ _ _ _ _ f h=>wpAny_pyIter_tupleiter f h
def Et(c:Addr)(lo:Int)(n:Nat):Turn P w K tg (Itr lo n) [c] c (λi h=>IsRangeIter h c (lo+(i:Nat)*1) ((n:Int)-(i:Nat)) 1) where
 mem:=by simp
 obj:=λi h a b d=>by
  have e:b=c:=by simpa using d
  subst e;exact⟨_,a,λv z=>by have M:Data.fields _=Data.cell v:=z;cases M⟩
 keep:=λi h f a k=>k c 'F' _ a
 item:=by intro X r y q u i A s C H E I hf a x;subst r y q;obtain⟨g,j,G,l,m,p⟩:=hf c 'F';have W:=Walks.range (prog:=X.prog) (w:=X.w) (I.ok.hd u) c lo 1 n;refine W.item i s _ _ x a λv f tk J B L=>?_;obtain⟨t,rfl⟩:=J;have D:Inv X A C H {s with heap:=f,toks:=tk}:=I.turned (λb o d e=>L b o ↥d e) g j l m p;refine(_,rfl,G8 (s:={s with heap:=f,toks:=tk}) (n:="range_iterator") B rfl rfl 'E' (.int (lo+i),H,D,(t,?_,),(rfl,rfl,),B,λb d=>(hf b d).1,),);rw[Int.mul_one]
 done:=by intro X r y q u i A s C H E I hf a x;subst r y q;obtain⟨g,j,G,l,m,p⟩:=hf c 'F';exact wpAny_pyNext_range_end (I.ok.hd u) a (by have :n<=i:=x;lia) λf F=>(rfl,I.turned (t':=s.toks) (λb o d e=>F b o d e) g j l m p,)
 self:=λ_ _ _ _ _ a h=>wpAny_pyIter_rangeiter a h
section
variable {X:Cx}
def ME(K:ak)(tl:TE):TI:=λσ H R=>tl σ H λx H1=>∃a,x=.ref a/\(∃xs,SqL K H1 a xs)/\R (Itl K a) H1
def pi_list{l:Expr}{f:TE}(j:PE X l f):PI X tg l (ME X.K f):=by
 intro k s r H R I h;refine thn (j k s r H _ I h) λv d ⟨x,g,c,n,m⟩=>?_;obtain⟨a,e,⟨y,hq⟩,q⟩:=m;subst e;cases n;obtain⟨u,w,p,t⟩:=c.list hq;refine kO p.isList ?_;refine(⇑d,[⇑d],_,_,g,rfl,c.kept (t':=d.toks) λb o e=>af _ e,yN a _,(_,az _ rfl,rfl,rfl,),λb i=>?_,q,);have e:b=⇑d:=by simpa using i
 subst e;exact c.Ba (aC _) (c.hok.fresh (aC _))
def Cu{c:St}{H:Hp}{R:It->Hp->Prop}{lo hi:Int}{t u v:Tok}{tk:Nat}(I:Inv X pins c H s)(g: -(2^62)<=lo)(h:lo<2^62)(i: -(2^62)<=hi)(j:hi<2^62)
  (q:R (Itr lo (hi-lo).toNat) H):'C' (pyIter (.ref ⇑s)) (PIE X pins c tg R) E {s with heap:=s.heap.push {cls:=.type "range",data:=.fields #[.int lo t,.int hi u,.int 1 v]},toks:=tk}:=by
 refine wpAny_pyIter_range (IsRange.new ..) (small_one g h i j) ?_;have a:Inv X pins c H {s with heap:=s.heap.push {cls:=.type "range",data:=.fields #[.int lo t,.int hi u,.int 1 v]},toks:=tk}:=I.kept λb o e=>af _ e;refine((s.heap.push {cls:=.type "range",data:=.fields #[.int lo t,.int hi u,.int 1 v]}).objs.size,[(s.heap.push {cls:=.type "range",data:=.fields #[.int lo t,.int hi u,.int 1 v]}).objs.size],_,_,H,rfl,
  a.kept (t':=tk) λb o e=>af _ e,Et _ lo (hi-lo).toNat,?_,λb k=>?_,q,)
 .have d:lo+((0:Nat):Int)*1=lo:=by simp
  have f:(((hi-lo).toNat:Nat):Int)-((0:Nat):Int)=wq lo hi 1:=by rw[rangeSize_one];split <;>lia
  show IsRangeIter _ _ (lo+((0:Nat):Int)*1) ((((hi-lo).toNat:Nat):Int)-((0:Nat):Int)) 1;rw[d,f];exact az _ rfl
 .have e:b=(s.heap.push {cls:=.type "range",data:=.fields #[.int lo t,.int hi u,.int 1 v]}).objs.size:=by simpa using k
  subst e;exact a.Ba (aC _) (a.hok.fresh (aC _))
def MD(ta:TA):TI:=λσ H R=>ta σ H λvs H1=>∃j:Int,vs=[.int j]∧-(2^62)<=j/\j<2^62/\R (Itr 0 j.toNat) H1
def MC(ta:TA):TI:=λσ H R=>ta σ H λvs H1=>∃i j:Int,vs=[.int i,.int j]/\(-(2^62)<=i/\i<2^62∧-(2^62)<=j/\j<2^62)/\R (Itr i (j-i).toNat) H1
def Ij{a:Expr}{c:TA}{p:Pos}(g:Gl X "range")(i:X.mg "range"=none)(f:PA X [a] c)(hs:bH [a] X.env=[(false,eval a X.env)]:=by rfl):PI X tg (.Call (.Name "range" p) [a] [] pos) (MD c):=by
 intro k s n H R I h;refine Call_ (jA I g i boot_range (cP (thn (f pos k s n H _ I h) λv u ⟨w,o,d,m,b⟩=>?_) hs rfl));obtain⟨j,e,b,l,q⟩:=b;subst e;cases m with
 |cons r rr=>cases rr;obtain⟨t,rfl⟩:=r;exact call_range_1 (Cu d 'D' 'D' b l ↥q)
def Ii{a b:Expr}{f:TA}{p:Pos}(l:Gl X "range")(m:X.mg "range"=none)(k:PA X [a,b] f)(hs:bH [a,b] X.env=[(false,eval a X.env),(false,eval b X.env)]:=by rfl) (d:bH [b] X.env=[(false,eval b X.env)]:=by rfl):
  PI X tg (.Call (.Name "range" p) [a,b] [] pos) (MC f):=by
 intro n s x H R I h;refine Call_ (jA I l m boot_range (cP (thn (k pos n s x H _ I h) λB z ⟨C,y,g,w,c⟩=>?_) (by rw[hs,d]) (by rw[d];rfl)));obtain⟨i,j,e,⟨c,o,u,v⟩,q⟩:=c;subst e;cases w with
 |cons r rr=>
  cases rr with
  |cons r' rr=>cases rr;obtain⟨t,rfl⟩:=r;obtain⟨A,rfl⟩:=r';exact call_range_2 (Cu g c o u v q)
def tFor(wi:TI)(g:TG)(tb:TS):TS:=λD σ H=>wi σ H λJ H1=>∃W:Nat->Nat->St->Hp->Prop,(∃m,W 0 m σ H1)/\∀i m σ H,W i m σ H->
 (J.stop i H/\D.nx σ H)\/(J.go i H/\∃N:St->Hp->Prop,(∀b H',N b H'->∃a,a<m/\W (i+1) a b H')/\∀x H',J.yld i H x H'->g x σ H' λc H2=>tb {D with nx:=N,ct:=N,bk:=D.nx} c H2)
abbrev j8(fp:List Addr)(h:Heap):List (Addr×Obj):=fp.filterMap λb=>(h.get? b).map λo=>(b,o)
def jz{o:Obj}(a:b∈fp)(e:h.get? b<*o):(b,o)∈j8 fp h:=vp.mpr ⟨b,a,by rw[e];rfl⟩
def ub{p:Addr×Obj}(d:p∈j8 fp h):p.1∈fp/\h.get? p.1<*p.2:=by
 obtain⟨b,c,e⟩:=vp.mp d;cases q:h.get? b with
 |none=>rw[q]at e;cases e
 |some o=>rw[q]at e;have a:(b,o)=p:=aW e;subst a;exact(c,q,)
def Inv.pinned{f:St}{H:Hp}(I:Inv X pins f H s)(hf:∀b∈fp,pH X pins H b)(j:∀b∈fp,∃o,s.heap.get? b<*o/\∀v,o.data≠.cell v):Inv X (pins++j8 fp s.heap) f H s:=
 I.AK λp k=>(cX.mp k).elim (λz=>I.pin p (bz _ z)) λz=>by obtain⟨c,e⟩:=ub z;obtain⟨g,h,i,_⟩:=hf p.1 c;obtain⟨o,a,d⟩:=j p.1 c;rw[e]at a;cases a;exact(e,g,h,i,d,)
def Inv.jh{c:List (Addr×Obj)}{a:St}{H:Hp}(I:Inv X (pins++c) a H s):Inv X pins a H s:=I.AK λp b=>I.pin p (bz _ (cF _ b))
def ps_for{iter:Expr}{E:List Stmt}{O:TI}{g:TG}{tb:TS}(q:PassesOwn (model X.prog X.w) X.A X.env X.xe)(J:X.calm=true)(hi:PI X tg iter O)(hg:PG X tg g)(f:PSs X E tb)
  (hs:∀x,kT iter X.env x=pure x:=by intro _;rfl):PS X (.For tg iter E [] pos) (tFor O g tb):=by
 intro l a5 P H D I a3;refine wpAny_For (thn (hi l a5 P H _ I a3) λa9 s1 h1=>thn h1 λb2 s2 h2=>?_) hs;obtain⟨it,p,tn,b1,Q,e,S,T,a6,F,W,⟨m0,w0⟩,turn⟩:=h2;subst e
 --what stays true of the iterator's objects through the loop
 have z:∀{j:Hp},(∀b∈p,j b=none)->∀b∈p,pH X l j b:=λhn b f=>(hn b f,(F b f).2,);refine codeAny_forLoop_any (λn K=>∃i s j,Inv X l s j K/\tn i K.heap/\(∀b∈p,j b=none)/\W i n s j) ?_ m0 (0,P,Q,S,a6,λb f=>(F b f).1,w0,);rintro n L ⟨i,t,u,B,N,G,w3⟩;rcases turn i n t u w3 with⟨a7,qn⟩ |⟨go,a0,hN,step⟩;·refine iE q (thn (T.done X rfl rfl rfl J i l L t u X.xe B (z G) N a7) λa4 s4 ⟨v,U⟩=>?_);subst v;exact F6 (t,u,U,qn,)
 .refine iE q (thn (T.item X rfl rfl rfl J i l L t u X.xe B (z G) N go) λa4 s4 ⟨a8,v,h4⟩=>?_);subst v;refine iE q (thn h4 λ_ M ⟨x,A,V,r5,y5,y,a2⟩=>?_);have Y:=V.pinned (z a2) (T.obj _ _ y);refine iE q (thn (hg _ M t A x a8 _ Y r5 (step x A y5)) λ_ s6 ⟨b0,R,Z,q6⟩=>?_);refine iE q (thn (f _ s6 b0 R _ Z q6) λa1 w k=>?_);have C:∀{h:St}{a:Hp},Inv X (l++j8 p M.heap) h a w->a0 h a->∃m,m<n/\∃i s j,Inv X l s j w/\tn i w.heap/\(∀b∈p,j b=none)/\W i m s j:=λ{h a} c r=>by obtain⟨m',hm,w7⟩:=hN h a r;refine(m',hm,i+1,h,a,c.jh,T.keep _ _ _ y λb f o e=>(c.pin (b,o) (bz _ (bz _ (jz f e)))).1,λb f=>?_,w7,);obtain⟨o,e,d⟩:=T.obj _ _ y b f;exact(c.pin (b,o) (bz _ (bz _ (jz f e)))).2.1
  cases a1 with
  |next =>obtain⟨h,a,c,r⟩:=k;exact C c r
  |cont=>obtain⟨h,a,c,r⟩:=k;exact C c r
  |brk=>obtain⟨h,a,c,k⟩:=k;exact(h,a,c.jh,k,)
  |ret a9=>obtain⟨x7,h,a,c,r7,k⟩:=k;exact(x7,h,a,c.jh,r7,k,)
end
noncomputable abbrev R2:=V->V->Hp->VK->Prop
def OpR(X:Cx)(f:Value->Value->Sem Value)(r:R2):Prop:=
 ∀(pins:List (Addr×Obj))(s:Shared)(σ:St)(H:Hp)(x y:V)(v u:Value)(Q:VK),'A'->RelV x v->RelV y u->r x y H Q->
  'C' (f v u) (EP X pins σ Q) X.xe s
def fG(X:Cx)(f:Value)(r:List V->Hp->VK->Prop):Prop:=
 ∀(pins:List (Addr×Obj))(s:Shared)(σ:St)(H:Hp)(xs:List V)(us:List Value)(Q:VK),'A'->bT xs us->r xs H Q->
  'C' (call f us) (EP X pins σ Q) X.xe s
def TruR(X:Cx)(r:V->Hp->(Bool->Hp->Prop)->Prop):Prop:=
 ∀(pins:List (Addr×Obj))(s:Shared)(σ:St)(H:Hp)(x:V)(v:Value)(Q:Bool->Hp->Prop),'A'->RelV x v->r x H Q->
  'C' (truthy v) (TP X pins σ Q) X.xe s
def tOp(r:R2)(ta tb:TE):TE:=λσ H Q=>ta σ H λx H1=>tb σ H1 λy H2=>r x y H2 Q
def rI(C:Int->Int->Prop)(g:Int->Int->V):R2:=λx y H Q=>∃i j,x=.int i/\y=.int j/\C i j/\Q (g i j) H
def rI0(g:Int->Int->V):R2:=λx y H Q=>∃i j,x=.int i/\y=.int j/\Q (g i j) H
section
variable {X:Cx}{a b c:Expr}{ta tb tc:TE}
def binT(g:PE X a ta)(i:PE X b tb){c:St}{H:Hp}{R:V->V->Hp->Prop}(I:Inv X pins c H s)
  (h:ta c H λx H1=>tb c H1 λy H2=>R x y H2){Q:'I'}{f:Value->Value->Sem Value}
  (hf:∀v u s2 x y H2,Inv X pins c H2 s2->RelV x v->RelV y u->R x y H2->'C' (f v u) Q X.xe s2):
  'C' (eval a X.env) (λv o=>'C' (eval b X.env) (λu p=>'C' (f v u) Q X.xe p) X.xe o) X.xe s:=by
 refine thn (g pins s c H _ I h) λv n ⟨x,H1,d,l,j⟩=>?_;refine thn (i pins n c H1 _ d j) λu s2 ⟨y,H2,e,m,k⟩=>?_;exact hf v u s2 x y H2 e l m k
def pe_op{op:Operator}{r:R2}(g:OpR X (gC op) r)(e:PE X a ta)(f:PE X b tb):PE X (.BinOp a op b pos) (tOp r ta tb):=by intro i s m H Q I h;exact wpAny_BinOp (binT e f I h λv u l x y c d j k q=>g i l m c x y v u Q d j k q)
def opI{f:Value->Value->Sem Value}{C:Int->Int->Prop}{g:Int->Int->Int}
  (b:∀(i j:Int)(t u:Tok)(s:Shared)(Q:'I')(E:'I'),C i j->Q (.int (g i j) s.toks) {s with toks:=s.toks+1}->'C' (f (.int i t) (.int j u)) Q E s):
  OpR X f (rI C λi j=>.int (g i j)):=by
 intro k s l H x y v u Q I c d h;obtain⟨i,j,rfl,rfl,a,q⟩:=h;obtain⟨t,rfl⟩:=c;obtain⟨e,rfl⟩:=d;exact b i j t e s _ _ a (.int (g i j),H,I.tok _,(_,rfl,),q,)
def opI0{f:Value->Value->Sem Value}{g:Int->Int->Int}
  (a:∀(i j:Int)(t u:Tok)(s:Shared)(Q:'I')(E:'I'),Q (.int (g i j) s.toks) {s with toks:=s.toks+1}->'C' (f (.int i t) (.int j u)) Q E s):
  OpR X f (rI0 λi j=>.int (g i j)):=by
 intro e s k H x y v u Q I b c h;obtain⟨i,j,rfl,rfl,q⟩:=h;obtain⟨t,rfl⟩:=b;obtain⟨d,rfl⟩:=c;exact a i j t d s _ _ (.int (g i j),H,I.tok _,(_,rfl,),q,)
def opB0{f:Value->Value->Sem Value}{g:Int->Int->Bool}
  (a:∀(i j:Int)(t u:Tok)(s:Shared)(Q:'I')(E:'I'),Q (.bool (g i j)) s->'C' (f (.int i t) (.int j u)) Q E s):
  OpR X f (rI0 λi j=>.bl (g i j)):=by
 intro e s k H x y v u Q I b c h;obtain⟨i,j,rfl,rfl,q⟩:=h;obtain⟨t,rfl⟩:=b;obtain⟨d,rfl⟩:=c;exact a i j t d s _ _ (.bl (g i j),H,I,rfl,q,)
def NJ(i j:Int):Prop:=0<j/\j<1073741824
def Jt(i j:Int):Prop:=0<=j/\j<=1000000/\i.natAbs<2^64
def FZ(i j:Int):Prop:=(-(2^64)<i/\i<2^64)\/(-(2^64)<j/\j<2^64)
def FZ.ok{i j:Int}(h:FZ i j):IntMulOk i j:=by
 rcases h with⟨a,b⟩ |⟨a,b⟩;·exact .of_left (intBits_le_64 a b)
 .exact .of_right (intBits_le_64 a b)
def Er(k:Nat):(0:Int)<=2^k:=by rw[two_pow_cast];exact Int.natCast_nonneg _
def op_add:OpR X (gC .Add) (rI0 λi j=>.int (i+j)):=opI0 λ_ _ _ _ _ _ _ q=>add_int q
def op_sub:OpR X (gC .Sub) (rI0 λi j=>.int (i-j)):=opI0 λ_ _ _ _ _ _ _ q=>sub_int q
def op_mul:OpR X (gC .Mult) (rI FZ λi j=>.int (i*j)):=opI λ_ _ _ _ _ _ _ a q=>mul_int q a.ok
def op_fdiv:OpR X (gC .FloorDiv) (rI NJ λi j=>.int (i/j)):=opI λi j _ _ _ _ _ a q=>by have b:(0:Int)<j:=a.1;have c:j<1073741824:=a.2;exact floordiv_int 'D' (by rw[D1 i 'D'];exact q) (.inl (PyProof.noPylong_small 'D'))
def op_mod:OpR X (gC .Mod) (rI (λ_ j=>0<j) λi j=>.int (i%j)):=opI λi j _ _ _ _ _ a q=>by have b:(0:Int)<j:=a;exact mod_int' 'D' (by rw[Int.fmod_eq_emod_of_nonneg i 'D'];exact q)
def op_pow:OpR X (gC .Pow) (rI Jt λi j=>.int (i^j.toNat)):=opI λ_ _ _ _ _ _ _ a q=>pow_int_small a.1 a.2.1 a.2.2 q
def op_shl:OpR X (gC .LShift) (rI Jt λi j=>.int (i*2^j.toNat)):=opI λ_ _ _ _ _ _ _ a q=>lshift_int_small a.1 a.2.1 a.2.2 q
def op_shr:OpR X (gC .RShift) (rI (λ_ j=>0<=j) λi j=>.int (i/2^j.toNat)):=opI λi j _ _ _ _ _ a q=>
 rshift_int a (by rw[D1 i (Er _)];exact q)
def op_and:OpR X (gC .BitAnd) (rI0 λi j=>.int (jw i j)):=opI0 λ_ _ _ _ _ _ _ q=>and_int q
def op_xor:OpR X (gC .BitXor) (rI0 λi j=>.int (lU i j)):=opI0 λ_ _ _ _ _ _ _ q=>xor_int q
end
section
variable {X:Cx}{a b c:Expr}{ta tb tc:TE}
def xI{b:St}{H:Hp}{Q:VK}{k a:Bool}(I:Inv X pins b H s)(q:Q (.bl k) H)(e:k=a):EP X pins b Q (.bool a) s:=by subst e;exact(.bl k,H,I,rfl,q,)
def op_lt:OpR X (dc .Lt) (rI0 λi j=>.bl (decide (i<j))):=opB0 λ_ _ _ _ _ _ _ q=>lt_int q
def op_le:OpR X (dc .LtE) (rI0 λi j=>.bl (decide (i<=j))):=opB0 λ_ _ _ _ _ _ _ q=>le_int q
def op_gt:OpR X (dc .Gt) (rI0 λi j=>.bl (decide (j<i))):=opB0 λ_ _ _ _ _ _ _ q=>gt_int q
def op_ge:OpR X (dc .GtE) (rI0 λi j=>.bl (decide (j<=i))):=opB0 λ_ _ _ _ _ _ _ q=>ge_int q
def Ir:OpR X (dc .In) (λx y H Q=>∃i j,x=.str i/\y=.str j/\Q (.bl (!(iY j i 0 j.length 1).isEmpty)) H):=by intro c s e H x y v u Q I a b h;obtain⟨i,j,rfl,rfl,q⟩:=h;obtain⟨t,rfl⟩:=a;obtain⟨d,rfl⟩:=b;exact in_str (xI I q rfl)
def op_isN:OpR X (dc .Is) (λx y H Q=>y=.non/\Q (.bl (decide (x=.non))) H):=by
 intro c s d H x y v u Q I a b h;obtain⟨rfl,q⟩:=h;cases b;refine is_none_gen (xI I q ?_);cases x<;>first
  | (cases a;rfl)
  | (obtain⟨t,rfl⟩:=a;rfl)
def op_notN:OpR X (dc .IsNot) (λx y H Q=>y=.non/\Q (.bl (!decide (x=.non))) H):=by
 intro c s d H x y v u Q I a b h;obtain⟨rfl,q⟩:=h;cases b;refine isnot_none_gen (xI I q ?_);cases x<;>first
  | (cases a;rfl)
  | (obtain⟨t,rfl⟩:=a;rfl)
def OpR.or{f:Value->Value->Sem Value}{r r':R2}(h:OpR X f r)(h':OpR X f r'):OpR X f (λx y H Q=>r x y H Q\/r' x y H Q):=by
 intro a s d H x y v u Q I b c q;rcases q with q|q;·exact h a s d H x y v u Q I b c q
 .exact h' a s d H x y v u Q I b c q
def AM{op:CmpOp}{r:R2}(i:OpR X (dc op) r)(e:PE X a ta)(f:PE X b tb)(g:NP op b=false):PE X (.Compare a [op] [b] pos) (tOp r ta tb):=by intro j s n H Q I h;exact wpAny_Compare1 (binT e f I h λv u m x y c d k l q=>i j m n c x y v u Q d k l q) g
def wB(t:TE):TT:=λσ H Q=>t σ H λx H'=>∃k,x=.bl k/\Q k H'
def AI{op:CmpOp}{r:R2}(t:OpR X (dc op) r)(o:PE X a ta)(p:PE X b tb)(q:NP op b=false):PT X (.Compare a [op] [b] pos) (wB (tOp r ta tb)):=by
 intro d s f H Q I h;refine wpAny_isTrue_Compare1 (thn (o d s f H _ I h) λv F ⟨x,g,l,C,w⟩=>thn (p d F f g _ l w) λu G ⟨y,i,m,D,A⟩=>
  thn (t d G f i x y v u _ m C D A) λc J ⟨z,j,n,E,k,e,B⟩=>?_) q
 subst e;cases E;exact dZ (j,n,B,)
def wD(r r':R2)(ta tb tc:TE):TE:=λσ H Q=>ta σ H λx H1=>tb σ H1 λy H2=>r x y H2 λz a=>∃k,z=.bl k/\
 (if k=true then tc σ a λc b=>r' y c b Q else Q (.bl false) a)
def LC{op i:CmpOp}{r r':R2}(F:OpR X (dc op) r)(G:OpR X (dc i) r')(B:PE X a ta)(C:PE X b tb)(D:PE X c tc)
  (E:lastMarks [op,i] [b,c]=false:=by with_unfolding_all rfl):PE X (.Compare a [op,i] [b,c] pos) (wD r r' ta tb tc):=by
 intro f s g H Q I h;refine Compare_chain (thn (B f s g H _ I h) λv P ⟨x,o,t,M,J⟩=>chain_link (thn (C f P g o _ t J) λu R ⟨y,p,w,n,K⟩=>
  thn (F f R g p x y v u _ w M n K) λd S ⟨z,j,l,N,k,e,m⟩=>?_)) E
 subst e;cases N;refine dZ ?_;cases k with
 |false=>exact ite_ff (.bl false,j,l,rfl,m,)
 |true=>exact ite_tt (chain_last (thn (D f S g j _ l m) λU T ⟨V,q,A,O,L⟩=>G f T g q y V u U Q A n O L))
def Le{op i:CmpOp}{r r':R2}(J:OpR X (dc op) r)(K:OpR X (dc i) r')(D:PE X a ta)(E:PE X b tb)(F:PE X c tc)
  (G:lastMarks [op,i] [b,c]=false:=by with_unfolding_all rfl):PT X (.Compare a [op,i] [b,c] pos) (wB (wD r r' ta tb tc)):=by
 intro f s g H a1 I h;refine isTrue_chain (thn (D f s g H _ I h) λv U ⟨a0,o,w,Q,M⟩=>test_link (thn (E f U g o _ w M) λu V ⟨y,p,x,n,N⟩=>
  thn (J f V g p a0 y v u _ x Q n N) λd W ⟨a2,j,l,R,k,e,m⟩=>?_)) G
 subst e;cases R;refine dZ ?_;cases k with
 |false=>obtain⟨k',B,L⟩:=m;cases B;exact ite_ff (j,l,L,)
 |true=>refine ite_tt (test_last (thn (F f W g j _ l m) λZ Y ⟨z',q,z,S,O⟩=>thn (K f Y g q y z' u Z _ z n S O) λd' s5 ⟨z2,t,A,T,k2,C,P⟩=>?_));subst C;cases T;exact dZ (t,A,P,)
def TruV(K:ak)(x:V)(H:Hp)(k:Bool):Prop:=
 match x with
 |.non=>k=false
 |.bl b=>k=b
 |.int i=>k=(i != 0)
 |.str y=>y.length<=sizeLine/\k=((y.length:Int) != 0)
 |.byt y=>y.size<=sizeLine/\k=((y.size:Int) != 0)
 |.ref p=>(∃xs,SqL K H p xs/\k= !xs.isEmpty)\/(∃xs,SqT K H p xs/\k= !xs.isEmpty)\/∃kvs,H p<*(.dK kvs)/\k= !kvs.isEmpty
 |_=>False
def Fj{κ:Type}{a:List (κ×V)}{vs:List (κ×Value)}(r:KV a vs):(!vs.isEmpty)= !a.isEmpty:=by cases r<;>rfl
def xA{xs:List V}(r:bT xs ad):(!ad.toArray.isEmpty)= !xs.isEmpty:=by cases r<;>simp
def qT:(sizeLine:Nat)<2^63:=by rw[mK];decide
def tru_ok:TruR X (λx H Q=>∃k,TruV X.K x H k/\Q k H):=by
 intro C s D H x v Q I f h;obtain⟨k,e,q⟩:=h;have A:=qT;have B:sizeLine=16777216:=mK;cases x with
 |non=>cases f;have a:k=false:=e;subst a;exact truthy_none (H,I,q,)
 |bl b=>cases f;have a:k=b:=e;subst a;exact dZ (H,I,q,)
 |int i=>obtain⟨t,rfl⟩:=f;have a:k=(i != 0):=e;subst a;exact PySem.P.truthy_int (H,I,q,)
 |str y=>obtain⟨t,rfl⟩:=f;obtain⟨w,a⟩:y.length<=sizeLine/\k=((y.length:Int) != 0):=e;subst a;exact PySem.P.truthy_str 'D' (H,I.tok _,q,)
 |byt y=>obtain⟨t,rfl⟩:=f;obtain⟨w,a⟩:y.size<=sizeLine/\k=((y.size:Int) != 0):=e;subst a;exact PySem.W.truthy_bytes 'D' (H,I.tok _,q,)
 |ref p=>
  cases f;have a:(∃c,SqL X.K H p c/\k= !c.isEmpty)\/(∃c,SqT X.K H p c/\k= !c.isEmpty)\/∃d,H p<*(.dK d)/\k= !d.isEmpty:=e;rcases a with⟨c,g,a⟩ |⟨c,g,a⟩ |⟨d,g,a⟩;·subst a;obtain⟨z,r,l,o⟩:=I.list g;have n:=r.length;exact wpAny_truthy_list l.isList (by simp only[aE];lia) ⟨H,I.tok _,by rw[xA r];exact q⟩
  .subst a;obtain⟨z,r,l,o⟩:=I.tuple g;have n:=r.length;exact truthy_tuple l (by simp only[aE];lia) ⟨H,I.tok _,by rw[xA r];exact q⟩
  .subst a;obtain⟨o,u,j,r,m⟩:d.length<=sizeLine/\(p==hZ)=false/\∃j,KV d j/\s.heap.DictOf (aY X.prog X.w) p j:=I.hok p _ g;have n:d.length=j.length:=ny r;exact wpAny_truthy_dict u m 'D' ⟨H,I.tok _,by rw[Fj r];exact q⟩
 |_=>exact(show False from e).elim
def lj(f:PE X a ta)(g:∀c,isTrue a X.env c=(do let v<-c;BE a.pos;holding [v] (truthy v))):
  PT X a (λσ H Q=>ta σ H λx H'=>∃k,TruV X.K x H' k/\Q k H'):=by
 intro b s σ H Q I h;exact isTrue_plain (thn (f b s σ H _ I h) λv l ⟨x,d,e,j,i⟩=>tru_ok b l σ d x v Q e j i) (g _)
def E2:OpR X (gC .Add) (λx y H Q=>∃i j,x=.str i/\y=.str j/\i.length+j.length<=sizeLine/\Q (.str (i++j)) H):=by intro e s f H x y v u Q I b c h;obtain⟨i,j,rfl,rfl,a,q⟩:=h;obtain⟨t,rfl⟩:=b;obtain⟨d,rfl⟩:=c;exact add_str (λd tk=>(.str (i++j),H,I.tok _,(_,rfl,),q,)) a
def vals1{x:V}(r:bT [x] us):∃u,us=[u]/\RelV x u:=by
 cases r with
 |cons r1 r2=>cases r2;exact(_,rfl,r1,)
def vals2{x y:V}(r:bT [x,y] us):∃u a,us=[u,a]/\RelV x u/\RelV y a:=by
 cases r with
 |cons r1 r2=>
  cases r2 with
  |cons r3 r4=>cases r4;exact(_,_,rfl,r1,r3,)
def uE(a:X.calm=true):fG X (.builtin "min") (λxs H Q=>∃i j,xs=[.int i,.int j]/\Q (.int (if j<i then j else i)) H):=by
 intro c s g H xs e Q I r h;obtain⟨i,j,rfl,q⟩:=h;obtain⟨u,f,rfl,⟨t,rfl⟩,⟨d,rfl⟩⟩:=vals2 r;refine min_two_ints (I.ok.hd a) λb tk k=>(_,H,I.kept k,?_,q,);by_cases hj:j<i;·rw[if_pos hj,if_pos hj];exact(_,rfl,)
 .rw[if_neg hj,if_neg hj];exact(_,rfl,)
def Jl:fG X (.type "int") (λxs H Q=>(∃i,xs=[.int i]/\Q (.int i) H)\/∃k,xs=[.bl k]/\Q (.int (if k then 1 else 0)) H):=by
 intro b s d H xs c Q I r h;rcases h with⟨i,rfl,q⟩ |⟨k,rfl,q⟩;·obtain⟨u,rfl,t,rfl⟩:=vals1 r;exact call_int_int (.int i,H,I,(_,rfl,),q,)
 .obtain⟨u,rfl,a⟩:=vals1 r;cases a;exact call_int_bool (.int (if k then 1 else 0),H,I.tok _,(_,rfl,),q,)
end
structure ObjM(h:Heap)(x dx C:Addr)(mA:Str->Option Value):Prop where
 obj:h.get? x<*(yc C dx)
 ns:h.Ns1 dx mA
 ne:dx≠x
def IF(n:h.Ns1 dx mA):∃od,h.get? dx<*od/\∀name,yI name od<*(mA name):=by
 obtain⟨o,b,l,j,d,f,_,i⟩:=n;refine(o,j,λname=>?_,);have e:=i name;unfold nsFind findBy at e;rw[<-uQ]at e;unfold yI;rw[d];dsimp only;split;·rename_i y q;rw[q]at e;exact congrArg some e
 .rename_i q;rw[q]at e;have a:b.toList.any (·.refKey)=false:=by rw[List.any_eq_false];intro y k;obtain⟨z,t,g⟩:=f y (kX.mp k);simp[DictEntry.refKey,g]
  have c:¬b.toList.any (·.refKey)=true:=by rw[a];exact aq
  rw[if_neg c];exact congrArg some e
def ObjM.look{x:Addr}(I:ObjM h x dx C mA):∃od,PySem.W.InstAt h x (yc C dx) C (some od)/\∀name,yI name od<*(mA name):=
 let⟨od,ho,hl⟩:=IF I.ns
 (od,(I.obj,rfl,rfl,ho,),hl,)
abbrev nH(f:Str)(v:V):List (Str×V)->List (Str×V)
 | []=>[(f,v)]
 | (g,x)::r=>if g=f then(g,v)::r else(g,x)::nH f v r
theorem u4(f g:Str)(v:V):∀fs:List (Str×V),(nH f v fs).lookup g=if g=f then some v else fs.lookup g
 | []=>by
  show dH g [(f,v)]=_;by_cases h:g=f;·have a:(g==f)=true:=beq_iff_eq.mpr h;simp only[dH,a,if_pos h]
  .have a:(g==f)=false:=beq_eq_false_iff_ne.mpr h;simp only[dH,a,if_neg h]
 | (k,x)::r=>by
  have b:=u4 f g v r;rw[show nH f v ((k,x)::r)=(if k=f then(k,v)::r else(k,x)::nH f v r)from rfl];by_cases hk:k=f
  .rw[if_pos hk];by_cases h:g=k;·have a:(g==k)=true:=beq_iff_eq.mpr h;simp only[dH,a,if_pos (h.trans hk)]
   .have a:(g==k)=false:=beq_eq_false_iff_ne.mpr h;simp only[dH,a,if_neg (λe:g=f=>h (e.trans hk.symm))]
  .rw[if_neg hk];by_cases h:g=k;·have a:(g==k)=true:=beq_iff_eq.mpr h;simp only[dH,a,if_neg (λe:g=f=>hk (h.symm.trans e))]
   .have a:(g==k)=false:=beq_eq_false_iff_ne.mpr h;simp only[dH,a];exact b
theorem ui(f:Str)(v:V):∀fs:List (Str×V),f∈(nH f v fs).map (·.1)/\∀g,g∈fs.map (·.1)->g∈(nH f v fs).map (·.1)
 | []=>⟨by simp[nH],λg h=>by simp at h⟩
 | (k,x)::r=>by
  obtain⟨a,b⟩:=ui f v r;rw[show nH f v ((k,x)::r)=(if k=f then(k,v)::r else(k,x)::nH f v r)from rfl];by_cases hk:k=f;·rw[if_pos hk];subst hk;exact('F',λg h=>by simpa using h,)
  .rw[if_neg hk];refine(?_,λg h=>?_,);·rw[bw];exact ax _ a
   .rw[bw]at h⊢;rcases aK.mp h with e|e;·exact aK.mpr (.inl e)
    .exact ax _ (b g e)
def uH.some_of{v:V}{o:Option Value}(r:uH (some v) o):∃u,o<*u/\RelV v u:=by
 cases o with
 |none=>exact(show False from r).elim
 |some u=>exact(u,rfl,r,)
section
variable {H H':Hp}{a C dx:Addr}{fs fs':List (Str×V)}
def nO(b:HOk P w H h)(e:H a<*(.ins C dx fs)):∃mA,ObjM h a dx C mA/\(∀f,uH (fs.lookup f) (mA f))/\lO mA (fs.map (·.1))/\fs.length<=1000/\H dx<*(.own a):=by obtain⟨d,z,ne,c,mA,n,r,q⟩:=(show eA P w H h a (.ins C dx fs)from b a _ e);exact(mA,(c,n,ne,),r,q,z,d,)
end
structure Cls(K:ak)(C:Addr):Prop where
 pg:NV K C Str.empty=true
 hd:PySem.W.hasDictIn K C=true
 po:PySem.W.plainOver K C=true
 sa:gb K (.ref C) "__setattr__"<*(some (.builtin "object.__setattr__"))
def Cls.get(c:Cls K C)(f:Str):NV K C f=true:=c.pg
structure Meth(K:ak)(C:Addr)(m:Str)(f:Addr):Prop where
 at_:gb K (.ref C) m<*(some (.ref f))
 fn:PySem.W.isFn K (.ref f)=true
 kp:cO K (.ref f)=true
section
variable {X:Cx}{pins:List (Addr×Obj)}{σ:St}{H:Hp}{s:Shared}{E:'I'}{Q:'I'}{c:Value}{b:Bool}
inductive oH (K:ak) (H:Hp):V->Value->Prop where
 |non:oH K H .non (.type "NoneType")
 |bl (x:Bool):oH K H (.bl x) (.type "bool")
 |int (i:Int):oH K H (.int i) (.type "int")
 |str (x:Str):oH K H (.str x) (.type "str")
 |flt (x:UInt64):oH K H (.flt x) (.type "float")
 |lst {a:Addr} {xs:List V} (e:H a<*(.lst xs)):oH K H (.ref a) (.type "list")
 |frz {a:Addr} {o:Obj} {xs:List V} (e:H a<*(.frz o (.lst xs))):oH K H (.ref a) (.type "list")
 |tup {a:Addr} {xs:List V} (e:H a<*(.tup xs)):oH K H (.ref a) (.type "tuple")
 |dK {a:Addr} {kvs:List (Key×V)} (e:H a<*(.dK kvs)):oH K H (.ref a) (.type "dict")
 |dT {a:Addr} {kvs:List (List Key×V)} (e:H a<*(.dT kvs)):oH K H (.ref a) (.type "dict")
 |ins {a C dx:Addr} {fs:List (Str×V)} (e:H a<*(.ins C dx fs)) (cl:Cls K C) (ha:gb K (.ref C) "__class__"<*(some (.builtin "object.__class__")))
   (hn:uJ K (.builtin "object.__class__") "__get__"<*(some (.builtin "getset_descriptor.__get__"))) (htk:PySem.W.takesIn K (.builtin "object.__class__")<*true)
   (hm:BQ K C (.type "object")<*true):oH K H (.ref a) (.ref C)
def zj{x:V}{t:Value}(I:'A')(d:RelV x u)(ty:oH X.K H x t)(e:iq X.K t c<*b)(h:∀tk,Q (.bool b) {s with toks:=tk}):
  wpAny (model X.prog X.w) A (call (.builtin "isinstance") [u,c]) Q E s:=by
 cases ty with
 |non=>cases(show u=cg from d);exact dQ PySem.W.kitx_none I.kIn True.intro e (λz=>nomatch z) h
 |bl y=>cases(show u=BN y from d);exact dQ PySem.W.kitx_bool I.kIn True.intro e (λz=>nomatch z) h
 |int i=>obtain⟨t,q⟩:=(show ∃t,u=iT i t from d);cases q;exact dQ PySem.W.kitx_int I.kIn True.intro e (λz=>nomatch z) h
 |str y=>obtain⟨t,q⟩:=(show ∃t,u=js y t from d);cases q;exact dQ PySem.W.kitx_str I.kIn True.intro e (λz=>nomatch z) h
 |flt y=>obtain⟨t,q⟩:=(show ∃t,u=Value.float y t from d);cases q;exact dQ PySem.W.kitx_float I.kIn True.intro e (λz=>nomatch z) h
 | @lst a g ea=>cases(show u=aN a from d);obtain⟨_,_,n,_,f⟩:=(show eA X.prog X.w H s.heap a (.lst g)from I.hok a _ ea);exact dQ JQ I.kIn (_,f,rfl,) e (λz=>nomatch z) h
 | @frz a ob g ea=>cases(show u=aN a from d);obtain⟨_,_,_,n,_,f⟩:=(show eA X.prog X.w H s.heap a (.frz ob (.lst g))from I.hok a _ ea);exact dQ JQ I.kIn (_,f,rfl,) e (λz=>nomatch z) h
 | @tup a g ea=>cases(show u=aN a from d);obtain⟨_,_,_,p⟩:=(show eA X.prog X.w H s.heap a (.tup g)from I.hok a _ ea);obtain⟨o,f,j,_⟩:=p;exact dQ PySem.W.kitx_tuple I.kIn (o,f,j,) e (λz=>nomatch z) h
 | @dK a kvs ea=>cases(show u=aN a from d);obtain⟨_,_,v,_,p⟩:=(show eA X.prog X.w H s.heap a (.dK kvs)from I.hok a _ ea);obtain⟨o,l,k,f,j,_⟩:=p;exact dQ JR I.kIn (o,f,j.1,) e (λz=>nomatch z) h
 | @dT a kvs ea=>cases(show u=aN a from d);obtain⟨_,_,g,_,o,l,k,f,j,_⟩:=(show eA X.prog X.w H s.heap a (.dT kvs)from I.hok a _ ea);exact dQ JR I.kIn (o,f,j.1,) e (λz=>nomatch z) h
 | @ins a C dx fs ea cl ha hn htk hm=>cases(show u=aN a from d);obtain⟨m,O,_⟩:=nO I.hok ea;obtain⟨r,J,_⟩:=O.look;exact dQ (PySem.W.kitx_own (cl.get _) cl.hd ha hn htk hm) I.kIn J e (λz=>nomatch z) h
end
structure jG(k:Nat)(A:Around):Prop where
 hd:A.handled=none
 dp:A.depth+3*k+5<kQ
 un:A.units+16*k+200<cLine
def jG.mono(r:jG k A)(h:j<=k):jG j A:=(r.hd,by have :=r.dp;lia,by have :=r.un;lia,)
theorem jG.deeper(r:jG (k+1) A)(env:Env):jG k (A.deeper env):=
 (r.hd,by have :=r.dp;show A.depth+1+3*k+5<_;lia,by have :=r.un;show A.units+3+16*k+200<_;lia,)
def E7{a:List (Str×Value)}:(A.under (.builtin "type.__call__" (.ref C::us,a,))).depth=A.depth+1:=by first |rfl|simp[Ej,Code.weight,Code.isCreation,Code.isGuard,Code.isCaller,Code.frames,HA,guardIds]
def E6{a:List (Str×Value)}:(A.under (.builtin "type.__call__" (.ref C::us,a,))).units=A.units+1:=by first |rfl|simp[Ej,Code.cUnits,Code.frames,HA]
def jG.make(r:jG (k+1) A)(C:Addr)(us:List Value)(a:List (Str×Value)):jG k (A.under (.builtin "type.__call__" (.ref C::us,a,))):=
 ⟨r.hd,by have :=r.dp;rw[E7];lia,by have :=r.un;rw[E6];lia⟩
theorem jG.depth(r:jG k A):A.depth<kQ:=by have :=r.dp;lia
theorem jG.units(r:jG k A):A.units+64<cLine:=by have :=r.un;lia
def tO:TA:=λ_ H Q=>Q [] H
def lV(ta:TE)(a:TA):TA:=λσ H Q=>ta σ H λx H1=>a σ H1 λxs H2=>Q (x::xs) H2
section
variable {X:Cx}{es:List Expr}{te:TE}{t:TA}
def j9:PA X [] tO:=λ_ _ _ _ H Q I h=>Calls.spliced_nil ([],H,I,.nil,h,)
def gQ(j:PE X e te)(k:PA X es t)(hs:bH (e::es) X.env=(false,eval e X.env)::bH es X.env:=by rfl):PA X (e::es) (lV te t):=by intro b a s c H Q I h;rw[hs];show wpAny _ _ (spliced ((false,eval e X.env)::backTo b (bH es X.env))) _ _ s;refine mL (thn (j a s c H _ I h) λu p ⟨x,d,g,n,l⟩=>?_);exact thn (k b a p c d _ g l) λv r ⟨q,f,i,o,m⟩=>(x::q,f,i,.cons n o,m,)
def tTup(t:TA):TE:=λσ H Q=>t σ H λxs H1=>xs.length<=sizeLine/\∀p,H1 p=none->Q (.ref p) (upd H1 p (.tup xs))
def tLst(t:TA):TE:=λσ H Q=>t σ H λxs H1=>xs.length<=sizeLine/\∀p,H1 p=none->Q (.ref p) (upd H1 p (.lst xs))
def Lq{x1}(h:PA X es t):PE X (.Tuple es x1 pos) (tTup t):=by intro f s j H Q I hq;refine wpAny_Tuple_spliced (thn (h pos f s j H _ I hq) λg a ⟨i,c,d,r,z,q⟩=>(by rw[<-r.length];exact z,?_,));have hf:c ⇑a=none:=d.hok.fresh (aC _);refine(.ref ⇑a,upd c ⇑a (.tup i),d.laid (t':=a.toks) (λb u e=>af _ e) (aC _) ?_,rfl,q _ hf,);exact(z,g,r,(_,az _ rfl,rfl,_,rfl,),)
def Ly(h:PA X es t):PE X (.List es pos) (tLst t):=by intro f s j H Q I hq;refine wpAny_List_spliced (thn (h pos f s j H _ I hq) λg a ⟨i,c,d,r,z,q⟩=>(by rw[<-r.length];exact z,?_,));have hf:c ⇑a=none:=d.hok.fresh (aC _);refine(.ref ⇑a,upd c ⇑a (.lst i),d.laid (t':=a.toks) (λb u e=>af _ e) (aC _) ?_,rfl,q _ hf,);exact(z,g,0,r,az _ rfl,)
end
noncomputable abbrev Sp:=List V->Hp->VK->XK->Prop
noncomputable abbrev CXT:=List Env->Hp->Shared->XK->Value->Shared->Prop
structure FY(P:Program)(w:World)(K:ak)(mg:Str->Option Value)(base:Heap)(A:Around)(outer:List Env)(s:Shared)(H:Hp):Prop where
 frames:A.frames<*outer
 mod:Mod K mg base
 bs:∀b o,base.get? b<*o->s.heap.get? b<*o/\H b=none
 bsz:base.objs.size<=⇑s
 xG:s.heap.FunFrames base outer
 frf:∀b∈frs outer,H b=none
 hok:HOk P w H s.heap
 bare:qb s.gens
def CE(outer:List Env)(P:Program)(w:World)(H:Hp)(s:Shared)(Q:VK)(u:Value)(s':Shared):Prop:=
 ∃v H',s'.os=s.os/\qb s'.gens/\Un (frs outer) [] H H' s.heap s'.heap/\HOk P w H' s'.heap/\RelV v u/\Q v H'
def CR(CX:CXT)(outer:List Env)(P:Program)(w:World)(H:Hp)(s:Shared)(Q:VK)(E:XK)(r:Result)(s':Shared):Prop:=
 match r with
 |.ok (.ret u)=>CE outer P w H s Q u s'
 |.ok _=>False
 |.error e=>CX outer H s E e s'
structure jV(P:Program)(w:World)(K:ak)(mg:Str->Option Value)(base:Heap)(CX:CXT)(k:Nat)(f:Addr)(fd:fP)(ps:List Str)(sp:Sp):Prop where
 len:∀vs H Q E,sp vs H Q E->vs.length=ps.length
 run:∀(A:Around)(outer:List Env)(s:Shared)(H:Hp)(args:Args)(us:List Value)(vs:List V)(Q:VK)(E:XK),jG k A->FY P w K mg base A outer s H->BindsTo s fd args (ps.zip us)->bT vs us->sp vs H Q E->
  gA (model P w) A (.call (.ref f) args) (CR CX outer P w H s Q E) s
def FY.make{outer:List Env}{H:Hp}(e:FY P w K mg base A outer s H)(C:Addr)(us:List Value)(a:List (Str×Value)):
  FY P w K mg base (A.under (.builtin "type.__call__" (.ref C::us,a,))) outer s H:=(by first |exact e.frames| (simpa[Ej,Code.envs,HA,pushEnvs]using e.frames),e.mod,e.bs,e.bsz,e.xG,e.frf,e.hok,e.bare,)
section
variable {X:Cx}{pins:List (Addr×Obj)}{σ:St}{H:Hp}{s s':Shared}
def Inv.env0(I:'A'):FY X.prog X.w X.K X.mg X.base X.A X.stack s H:=
 (I.ok.frames,I.ok.mod,I.bs,aT I.ok.bsz I.sz,I.stack,I.Ah,I.hok,I.bare,)
def Inv.after{Q:VK}(I:'A')(h:CE X.stack X.prog X.w H s Q u s'):EP X pins σ Q u s':=by obtain⟨v,a,i,c,un,f,r,q⟩:=h;obtain⟨e,g,d,t,j⟩:=s';obtain rfl:j=s.os:=i;exact(v,a,I.call (h':=e) (g':=g) (d':=d) (t':=t) (ch:=[]) un f c (λb z=>absurd z 'F'),r,q,)
end
def Cc(sp:Sp)(ag:List V)(E:XK)(t:TA):TE:=λσ H Q=>t σ H λvs H1=>sp (vs++ag) H1 Q E
def Binds(K:ak)(fd:fP)(ps:List Str)(ds:List Value):Prop:=
 ∀(s:Shared)(us:List Value),K.In s.heap->(us++ds).length=ps.length->BindsTo s fd (us,[],) (ps.zip (us++ds))
def Binds.all{a:fP}{ps:List Str}(h:∀us:List Value,us.length=ps.length->rC a (us,[],)=pure (ps.zip us)):Binds K a ps []:=λs us _ b=>by rw[lJ]at b⊢;exact .of_eq (h us b)
section
variable {X:Cx}{CX:CXT}{f C:Addr}{fd:fP}{ps:List Str}{sp:Sp}{ag:List V}{ds:List Value}{E:XK}{x m:Str}{p apos:Pos}{es:List Expr}{ta:TE}{t:TA}
structure Mk(K:ak)(C f:Addr):Prop where
 makes:PySem.W.makesIn K C=true
 init:gb K (.ref C) "__init__"<*(some (.ref f))
 fn:PySem.W.isFn K (.ref f)=true
 kp:cO K (.ref C)=true
end
structure wb(N P:List Str)(sc:Scope):Prop where
 kind:sc.kind=.function
 co:sc.isCoroutine=false
 gen:sc.isGenerator=false
 nd:N.Nodup
 pre:N.take P.length=P
 par:∀x∈P,sc.names.lookup x<*.local\/sc.names.lookup x<*.cell
 nofree:∀y∈sc.names,y.2≠.free
theorem zN{b:Str->Option eZ}:∀{binds:List (Str×Value)}{m:Str->Option Value},(∀v,(x,v)∉binds)->bindL b binds m x=m x
 | [],_,_=>rfl
 | (n,v)::r,m,h=>by
  unfold bindL;rw[zN λw a=>h w (ax _ a)];split
  .have :x≠n:=by rintro rfl;exact h v aG
   simp[this]
  .rfl
theorem zP{b:Str->Option eZ}:∀{binds:List (Str×Value)}{m:Str->Option Value},(∀v,(x,v)∉binds)->bindC b binds m x=m x
 | [],_,_=>rfl
 | (n,v)::r,m,h=>by
  unfold bindC;rw[zP λw a=>h w (ax _ a)];split;·rfl
  .have :x≠n:=by rintro rfl;exact h v aG
   simp[this]
theorem zO{a:Str->Option eZ}{v:Value}:∀{P:List Str}{vs:List Value}{i:Nat}{m:Str->Option Value},P.Nodup->P[i]?<*x->vs[i]?<*v->a x<*.local->
  bindL a (P.zip vs) m x<*v
 | [],_,_,_,_,h,_,_=>by simp at h
 |_::_,[],_,_,_,_,h,_=>by simp at h
 |p::P,w::vs,0,m,nd,h1,h2,hk=>by simp at h1 h2;subst h1;subst h2;show bindL a ((p,w)::P.zip vs) m p=_;unfold bindL;rw[zN λv b=>(bN.mp nd).1 (zY b).1,if_pos hk];simp
 |p::P,w::vs,i+1,m,nd,h1,h2,hk=>by show bindL a ((p,w)::P.zip vs) m x=_;unfold bindL;exact zO (i:=i) (bN.mp nd).2 ↥h1 ↥h2 hk
theorem zQ{a:Str->Option eZ}{v:Value}:∀{P:List Str}{vs:List Value}{i:Nat}{m:Str->Option Value},P.Nodup->P[i]?<*x->vs[i]?<*v->a x≠some .local->
  bindC a (P.zip vs) m x<*v
 | [],_,_,_,_,h,_,_=>by simp at h
 |_::_,[],_,_,_,_,h,_=>by simp at h
 |p::P,w::vs,0,m,nd,h1,h2,hk=>by simp at h1 h2;subst h1;subst h2;show bindC a ((p,w)::P.zip vs) m p=_;unfold bindC;rw[zP λv b=>(bN.mp nd).1 (zY b).1,if_neg hk];simp
 |p::P,w::vs,i+1,m,nd,h1,h2,hk=>by show bindC a ((p,w)::P.zip vs) m x=_;unfold bindC;exact zQ (i:=i) (bN.mp nd).2 ↥h1 ↥h2 hk
abbrev start(N:List Str)(vs:List V):St:=vs.map some++cu (N.length-vs.length) none
abbrev Bm(CX:CXT)(P:Program)(w:World)(K:ak)(mg:Str->Option Value)(base:Heap)(N:List Str)(qual:Str)(scope:Scope)(f:Addr)(cd:Value)(A:Around)(outer:List Env)(s:Shared)(H:Hp)(E:XK):Cx where
 prog:=P
 w:=w
 K:=K
 mg:=mg
 base:=base
 A:=A.deeper (envOfC qual scope ⇑s f cd)
 N:=N
 s₀:=s
 H₀:=H
 env:=envOfC qual scope ⇑s f cd
 outer:=outer
 stack:=envOfC qual scope ⇑s f cd::outer
 ex:=[]
 calm:=true
 fn:=λ_=>true
 pn:=[]
 xe:=λe s'=>wpAny (model P w) (A.deeper (envOfC qual scope ⇑s f cd)) (leaving (envOfC qual scope ⇑s f cd) e) (λ_ a=>CX outer H s E e a) (λb a=>CX outer H s E b a) s'
def DG(h:sc.names.lookup x<*.cell):∃c,(cZ n sc.names []).lookup x<*c:=by have q:=DZ sc.names n [] (.inl h);exact cW.mp q
def IQ{CX:CXT}{ps:List Str}{cd:Value}{outer:List Env}{C:Shared}{H:Hp}{E:XK}{vs:List V}
  (S:wb N ps scope)(F:A.handled=none)(g:FY P w K mg base A outer s H)(J:vs.length=ps.length)(r:bT vs us)
  (x:InCallC s ⇑s (bindL (envOfC qual scope ⇑s f cd).kindOf (ps.zip us) λ_=>none) (cZ (⇑s+1) scope.names []) (bindC (envOfC qual scope ⇑s f cd).kindOf (ps.zip us) λ_=>none) C):
  Inv (Bm CX P w K mg base N qual scope f cd A outer s H E) [] (start N vs) H C:=by
 have L:ps.length<=N.length:=by have :=congrArg iM S.pre;rw[bJ]at this;lia
 obtain⟨l,tk,rfl,o⟩:=x.done;have m:∀b:Addr,b∉(Bm CX P w K mg base N qual scope f cd A outer s H E).ex:=λb z=>absurd (show b∈([]:List Addr)from z) 'F';refine((g.mod,S.kind,rfl,rfl,aC _,λy z c l d=>?_,λy hy=>?_,λy c _ h=>?_,λ_=>F,Around.frames_deeper g.frames,.inr (rfl,rfl,),λb z=>absurd z (m b),g.bs,g.bsz,λb _ _=>m b,λb z=>absurd z (m b),g.xG,g.frf,),
  rfl,g.bare,Un.kept o,(_,x.toInCall.ns,λi y v l d I=>?_,),λy c h=>(_,x.cell y c h,),g.hok.fresh (aC _),λy c h=>?_,λp j=>absurd (show p∈([]:List (Addr×Obj))from j) 'F',g.hok.kept o,?_,)
 .exact name_of_addr x.apart (bO l) (bO d)
 .have hy:scope.names.lookup y<*.cell\/scope.names.lookup y<*.free:=hy;rcases hy with hy|hy;·exact DG hy
  .exact absurd rfl (S.nofree _ (bO hy))
 .exact i7 (x.above y c (bO h))
 .have hi:i<vs.length:=by
   unfold start at d;by_cases hi:i<vs.length;·exact hi
   .rw[dI ↥hi]at d;rw[List.getElem?_replicate]at d;split at d<;>cases d
  have D:vs[i]?<*v:=by
   unfold start at d;rw[da ↥hi,ay]at d;cases e:vs[i]? with
   |none=>rw[e]at d;cases d
   |some a=>rw[e]at d;cases d;rfl
  obtain⟨u,t,G⟩:=r.get D;have j:ps[i]?<*y:=by rw[<-S.pre,eX 'D'];exact l
  have B:ps.Nodup:=by rw[<-S.pre];exact S.nd.sublist (wj _ _)
  refine(u,G,?_,);rcases S.par y (aH j)with k|k;·exact .inl (k,zO B j t k,)
  .obtain⟨c,e⟩:=DG (n:=⇑s+1) k;refine .inr (.inl k,c,e,?_,);have q:=x.cell y c e;rw[zQ B j t (by show scope.names.lookup y≠_;rw[k];decide)]at q;exact q
 .exact g.hok.fresh (i7 (x.above y c (bO h)))
 .unfold start;show _=N.length;rw[bX,ao,List.length_replicate];lia
def fn_of{CX:CXT}{name:Str}{B:Arguments}{h:List Stmt}{kV:Value}{an:Option Addr}
  {ps:List Str}{sp:Sp}(X:K.lookup f<*(oc,od,.func (aP name qual B h scope dV kV am pm an ai ct),bv,))(L:fq K ai qual=true)(S:wb N ps scope)
  (len:∀vs H Q E,sp vs H Q E->vs.length=ps.length)
  (G:∀(A:Around)(c:List Env)(s:Shared)(H:Hp)(vs:List V)(Q:VK)(E:XK),jG k (A.deeper (envOfC qual scope ⇑s f ai))->sp vs H Q E->
   ∃t,PSs (Bm CX P w K mg base N qual scope f ai A c s H E) h t/\t {nx:=λ_ H'=>Q .non H',rt:=Q} (start N vs) H):
  jV P w K mg base CX (k+1) f (aP name qual B h scope dV kV am pm an ai ct) ps sp:=by
 refine(len,λA c s H Z Y vs Q E i d F r z=>?_,);have R:=len _ _ _ _ z;have m:K.In s.heap:=d.mod.kin.keeps λb o e=>(d.bs b o e).1;have W:s.heap.NoLimit:=d.mod.nolimit.keeps λb o e=>(d.bs b o e).1;have O:∀y∈ps.zip Y,scope.names.lookup y.1<*.local\/(scope.names.lookup y.1<*.cell/\((cZ (⇑s+1) scope.names []).lookup y.1).isSome=true):=λ⟨n,v⟩ U=>by
  rcases S.par n (zY U).1 with q|q;·exact .inl q
  .exact .inr (q,DZ _ _ _ (.inl q),)
 refine codeAny_call_function i.depth (m _ _ X) rfl S.co S.gen rfl (PySem.W.codeRec_of m L) (F _ _ _ _ ?_);refine wpAny_newFunctionEnv_cells S.kind O λa0 M C x=>?_;subst M;refine(W.keeps x.toInCall.keep,codeAny_func ?_,);obtain⟨t,T,hq⟩:=G A c s H vs Q E (i.deeper _) z;have I:Inv (Bm CX P w K mg base N qual scope f ai A c s H E) [] (start N vs) H C:=IQ S i.hd d R r x;refine dy (T [] C (start N vs) H _ I hq) (λD l a=>?_) λe l a=>a;have p:∀{g:St}{H':Hp}{v:V}{u:Value},Inv (Bm CX P w K mg base N qual scope f ai A c s H E) [] g H' l->RelV v u->Q v H'->CE c P w H s Q u l:=
  λ{g H' v u} J j q=>(v,H',J.os,J.bare,J.base,J.hok,j,q,)
 cases D with
 |ret u=>obtain⟨v,g,H',J,j,q⟩:=a;exact p J j q
 |next =>obtain⟨g,H',J,q⟩:=a;exact p (v:=V.non) (u:=cg) J rfl q
 |brk=>obtain⟨_,_,_,q⟩:=a;exact iG q
 |cont=>obtain⟨_,_,_,q⟩:=a;exact iG q
section
variable {X:Cx}{x:Str}{p:Pos}{es:List Expr}{t:TA}{id T:String}{r:List V->Hp->VK->Prop}
def tCB(r:List V->Hp->VK->Prop)(t:TA):TE:=λσ H Q=>t σ H λvs H1=>r vs H1 Q
def LF(g:fG X (.builtin id) r)(k:Gl X x)(l:X.mg x=none)(o:gB x<*(.builtin id))(f:PA X (e::es) t)(m:x≠"__name__":=by decide) (i:(x==("__debug__":Str))=false:=by decide)
  (j:bH (e::es) X.env=(false,eval e X.env)::bH es X.env:=by rfl) (n:(backTo pos (bH es X.env)).any (·.1)=false:=by rfl):PE X (.Call (.Name x p) (e::es) [] pos) (tCB r t):=by
 intro a s b H Q I h;refine fO (jA I k l o ?_ m i);exact fM (thn (f pos a s b H _ I h) λw v ⟨y,c,d,u,q⟩=>g a v b c y w Q d u q) j n
def Ik(g:fG X (.type T) r)(k:Gl X x)(l:X.mg x=none)(o:gB x<*(.type T))(f:PA X (e::es) t)(m:x≠"__name__":=by decide) (i:(x==("__debug__":Str))=false:=by decide)
  (j:bH (e::es) X.env=(false,eval e X.env)::bH es X.env:=by rfl) (n:(backTo pos (bH es X.env)).any (·.1)=false:=by rfl):PE X (.Call (.Name x p) (e::es) [] pos) (tCB r t):=by
 intro a s b H Q I h;refine fO (jA I k l o ?_ m i);exact cP (thn (f pos a s b H _ I h) λw v ⟨y,c,d,u,q⟩=>g a v b c y w Q d u q) j n
end
end L2
variable {X:L2.Cx}{H H' H0 H1 H2:L2.Hp}{σ τ0:L2.St}{y:L2.V}{ag ts xs ys zs:List L2.V}
namespace HT
section
open PySem.SeqAt
open PySem.AutoSeq1 (wpAny_loadPart')
open PySem.MeetsSeq PySem.MeetsSeq2 PySem.MeetsSeq3
end
section
variable {E:'I'}{s:Shared}
abbrev sIx(n d:Nat):Option Int->Nat
 |none=>d
 |some v=>if v<0 then(v+(n:Int)).toNat else min v.toNat n
theorem KO(n d:Nat):sIx n d none=d:=rfl
def vO(n d k:Nat):sIx n d (some (k:Int))=min k n:=by show(if(k:Int)<0 then((k:Int)+(n:Int)).toNat else min (k:Int).toNat n)=min k n;rw[if_neg 'D',bo]
def EH(n d:Nat)(a:d<=n)(o:Option Int):sIx n d o<=n:=by
 cases o with
 |none=>exact a
 |some v=>
  show(if v<0 then(v+(n:Int)).toNat else min v.toNat n)<=n;by_cases hv:v<0;·rw[if_pos hv];lia
  .rw[if_neg hv];exact Nat.min_le_right _ _
def Bo(v:Int)(n d:Nat):(if v<0 then max (v+(n:Int)) 0 else min v (n:Int))=((sIx n d (some v):Nat):Int):=by
 show(if v<0 then max (v+(n:Int)) 0 else min v (n:Int))=(((if v<0 then(v+(n:Int)).toNat else min v.toNat n):Nat):Int);by_cases hv:v<0;·simp only[if_pos hv];lia
 .simp only[if_neg hv];lia
def FW(lo hi:Option Int)(n:Nat):kW lo hi 1 (n:Int)=(((sIx n 0 lo:Nat):Int),((sIx n n hi:Nat):Int)):=by
 have a:¬((1:Int)<0):=by lia
 unfold kW;simp only[a,if_false];refine Prod.ext ?_ ?_
 .cases lo with
  |none=>rfl
  |some v=>exact Bo v n 0
 .cases hi with
  |none=>rfl
  |some v=>exact Bo v n n
def ES(i j:Nat):gW (i:Int) (j:Int) 1=j-i:=by
 unfold gW;have a:(1:Int)>0:=by lia
 simp only[a,if_true,Int.ediv_one];split <;>lia
def wK{v:Value}{o:Option Int}{Q:Option Int->Shared->Prop}(p:IsPart v o)(h:Q o s):'B' (Builtin.Slice.slicePartIndex v) Q E s:=by
 cases p with
 |none=>exact slicePart_none h
 |int i t=>exact slicePart_int h
def mU{lo hi:Option Int}{Q:Int×Int×Nat->Shared->Prop}(hs:s.heap.IsSliceOf sl vl vu .none)(c:IsPart vl lo)(d:IsPart vu hi)
  (h:Q (((sIx n 0 lo:Nat):Int),1,sIx n n hi-sIx n 0 lo) s):'B' (uN (.ref sl) (pure (n:Int))) Q E s:=by
 obtain⟨f,b,e,a⟩:=id hs;unfold uN Builtin.Slice.sliceFields;refine aa (aa (fK b a (x:=vl) rfl (aa (fK b a (x:=vu) rfl (aa (fK b a (x:=.none) rfl (aj ?_)))))));refine aa (slicePart_none ?_);show wpAny _ _ (if((1:Int)==0)=true then _ else _) _ _ s;rw[if_neg 'E'];refine aa (wK c (aa (wK d (aa (aj ?_)))));show wpAny _ _ (match kW lo hi 1 (n:Int)with | (lo,hi)=>pure (lo,(1:Int),gW lo hi 1)) _ _ s;rw[FW lo hi n];show wpAny _ _ (pure (((sIx n 0 lo:Nat):Int),(1:Int),gW ((sIx n 0 lo:Nat):Int) ((sIx n n hi:Nat):Int) 1)) _ _ s;rw[ES];exact aj h
def Lk(xs:Array Value)(i k:Nat):((aF k).filterMap λ(m:Nat)=>xs[((i:Int)+(m:Int)*1).toNat]?).toArray=((xs.toList.drop i).take k).toArray:=by
 have e:(λ(m:Nat)=>xs[((i:Int)+(m:Int)*1).toNat]?)=λm=>xs[i+m]? :=by
  funext m
  have :((i:Int)+(m:Int)*1).toNat=i+m:=by lia
  rw[this]
 rw[e];have :=pick_run xs i k;rw[List.filterMap_map]at this;have a:((λx=>xs[x]?)∘λx=>i+x)=λm=>xs[i+m]? :=rfl;rw[a]at this;rw[this]
def sf{t:Addr}{lo hi:Option Int}{Q:'I'}(a:IsTup s.heap t items)(hs:s.heap.IsSliceOf sl vl vu .none)(j:IsPart vl lo)(k:IsPart vu hi)
  (g:¬(sIx items.size 0 lo=0/\sIx items.size items.size hi=items.size))
  (h:Q (.ref ⇑s) {s with heap:=s.heap.push {cls:=.type "tuple",data:=.seq ((items.toList.drop (sIx items.size 0 lo)).take (sIx items.size items.size hi-sIx items.size 0 lo)).toArray}})
  (o:items.size<=sizeLine):'B' (BI (.ref t) (.ref sl)) Q E s:=by
 have b:sizeOk (.seq ((items.toList.drop (sIx items.size 0 lo)).take (sIx items.size items.size hi-sIx items.size 0 lo)).toArray):=by show((items.toList.drop (sIx items.size 0 lo)).take (sIx items.size items.size hi-sIx items.size 0 lo)).toArray.size<=sizeLine;rw[aE,bJ,List.length_drop,aV];lia
 have n:sIx items.size items.size hi<=items.size:=EH _ _ (aC _) hi;obtain⟨i,f,d,l⟩:=id hs;have c:s.TypeIs (.ref sl) "slice":=(i,f,d,);unfold BI;try with_reducible refine ba ?_
 first |refine aa (aj ?_) |skip
 refine aa (wpAny_sequenceKey a.typeIs 'E' ?_);refine aa (dN (name:=bh "__getitem__") a.typeIs di
  (cB di a.typeIs entry_tuple_getitem ?_ (args_tuple_getitem _ _)))
 show wpAny _ _ (uL (.ref t)>>=_) _ _ s;refine aa (yh a ?_);refine aa (hO c ?_);rw[if_pos 'E'];refine aa (mU hs j k ?_);have e:¬((((sIx items.size 0 lo:Nat):Int)==0&&(1:Int)==1&&(sIx items.size items.size hi-sIx items.size 0 lo)==items.size)=true):=by intro q;rw[aB,aB]at q;have p:((sIx items.size 0 lo:Nat):Int)=0:=eq_of_beq q.1.1;have r:sIx items.size items.size hi-sIx items.size 0 lo=items.size:=eq_of_beq q.2;exact g ('D','D',)
 show wpAny _ _ (if(((sIx items.size 0 lo:Nat):Int)==0&&(1:Int)==1&&(sIx items.size items.size hi-sIx items.size 0 lo)==items.size)=true then _ else _) _ _ s;rw[if_neg e,Lk]
 first
  |exact aa (m:=iu _) (bR (aj ⟨_,rfl,aj h⟩) b)
  |exact aa (m:=iu _) (bR (aa (aj (aj ⟨_,rfl,aj h⟩))) b)
  |exact aa (aa (m:=iu _) (bR (aj (aj ⟨_,rfl,aj h⟩)) b))
  |exact aa (aa (m:=iu _) (bR (aj ⟨_,rfl,aj h⟩) b))
end
end HT
namespace L2
noncomputable abbrev TO:=St->Hp->(Option Int->Hp->Prop)->Prop
def PO(X:Cx)(e:Option Expr)(t:TO):Prop:=
 ∀(pins:List (Addr×Obj))(s:Shared)(σ:St)(H:Hp)(Q:Option Int->Hp->Prop),'A'->t σ H Q->
  'C' (evalPart e X.env) (λu s'=>∃o H',Inv X pins σ H' s'/\IsPart u o/\Q o H') X.xe s
def Af:TO:=λ_ H Q=>Q none H
def Kk(t:TE):TO:=λσ H Q=>t σ H λx H1=>∃i,x=.int i/\Q (some i) H1
def intsAre_of:∀{us:List Value},bT (ns.map V.int) us->cM us ns:=by
 induction ns with
 |nil=>intro us r;rw[p8]at r;cases r;exact .nil
 |cons n ns ih=>
  intro us r;rw[bw]at r;cases r with
  |cons r1 r2=>obtain⟨t,e⟩:=r1;subst e;exact .cons n t (ih r2)
section
variable {te:TE}{lo hi:Option Expr}{tl th:TO}{p2:Pos}
def po_none:PO X none Af:=by intro a s b H Q I h;rw[evalPart_none];exact aj (none,H,I,.none,h,)
def po_some(h:PE X e te):PO X (some e) (Kk te):=by intro d s j H Q I c;rw[evalPart_some];refine thn (h d s j H _ I c) λu k ⟨x,a,b,g,f⟩=>?_;obtain⟨i,rfl,q⟩:=f;obtain⟨t,rfl⟩:=g;exact(some i,a,b,.int i t,q,)
def SlR(X:Cx)(r:V->Option Int->Option Int->Hp->VK->Prop):Prop:=
 ∀(pins:List (Addr×Obj))(s:Shared)(σ:St)(H:Hp)(x:V)(v vl vu:Value)(lo hi:Option Int)(sl:Addr)(Q:VK),'A'->RelV x v->s.heap.IsSliceOf sl vl vu .none->IsPart vl lo->IsPart vu hi->r x lo hi H Q->
  ∃T id,typeLookup (.type T) "__getitem__"=pure (some (.builtin id))/\s.TypeIs v T/\'C' (BI v (.ref sl)) (EP X pins σ Q) X.xe s
def SlR.or{r r':V->Option Int->Option Int->Hp->VK->Prop}(h:SlR X r)(h':SlR X r'):SlR X (λx lo hi H Q=>r x lo hi H Q\/r' x lo hi H Q):=by
 intro b s j H x v g i lo hi f Q I e a c d q;rcases q with q|q;·exact h b s j H x v g i lo hi f Q I e a c d q
 .exact h' b s j H x v g i lo hi f Q I e a c d q
def tSl(r:V->Option Int->Option Int->Hp->VK->Prop)(te:TE)(tl th:TO):TE:=λσ H Q=>te σ H λx H1=>tl σ H1 λl H2=>th σ H2 λu a=>r x l u a Q
def Lv{r:V->Option Int->Option Int->Hp->VK->Prop}(z:SlR X r)(t:PE X e te)(y:PO X lo tl)(B:PO X hi th):PE X (.Subscript e (.Slice lo hi none p2) pos) (tSl r te tl th):=by intro c s d H Q I h;refine Subscript_ (thn (t c s d H _ I h) λv K ⟨x,i,k,J,E⟩=>?_);refine wpAny_Slice (thn (y c K d i _ k E) λf L ⟨l,j,m,C,F⟩=>thn (B c L d j _ m F) λvu a ⟨u,g,n,D,G⟩=>?_);rw[evalPart_none];refine aj ?_;have o:Inv X c d g {a with heap:=a.heap.push {cls:=.type "slice",data:=.fields #[f,vu,.none]}}:=n.kept (t':=a.toks) λb M q=>af _ q;obtain⟨T,id,p,A,w⟩:=z c {a with heap:=a.heap.push {cls:=.type "slice",data:=.fields #[f,vu,.none]}} d g x v f vu l u ⇑a Q o J (Heap.IsSliceOf.new ..) C D G;show 'C' (NL e (.Slice lo hi none p2) v (.ref ⇑a)) (EP X c d Q) X.xe {a with heap:=a.heap.push {cls:=.type "slice",data:=.fields #[f,vu,.none]}};exact tail_any (ops:=[.ref ⇑a,v]) A p w (by with_unfolding_all rfl)
abbrev uB(xs:List V)(lo hi:Option Int):List V:=(xs.drop (HT.sIx xs.length 0 lo)).take (HT.sIx xs.length xs.length hi-HT.sIx xs.length 0 lo)
def u9(xs:List V)(lo hi:Option Int):(uB xs lo hi).length<=xs.length:=by unfold uB;rw[bJ,List.length_drop];lia
def rSlT(K:ak):V->Option Int->Option Int->Hp->VK->Prop:=λx lo hi H Q=>∃a xs,x=.ref a/\SqT K H a xs/\
 ¬(HT.sIx xs.length 0 lo=0/\HT.sIx xs.length xs.length hi=xs.length)/\∀p,H p=none->Q (.ref p) (upd H p (.tup (uB xs lo hi)))
def sl_tup:SlR X (rSlT X.K):=by
 intro t s z H x v w y lo hi u Q I n g l m h;obtain⟨a,c,rfl,j,i,q⟩:=h;cases n;obtain⟨k,r,e,f⟩:=I.tuple j;have d:k.toArray.size=c.length:=by rw[aE];exact r.length.symm
 refine("tuple",_,di.lookup,e.typeIs,?_,);refine HT.sf e g l m (by rw[d];exact i) ?_ (by rw[d];exact f);rw[d];refine(.ref ⇑s,_,I.laid (t':=s.toks) (o:=.tup (uB c lo hi)) (λb p q=>af _ q) (aC _) ?_,rfl,q _ (I.hok.fresh (aC _)),);exact(aT (u9 c lo hi) f,_,(r.drop (HT.sIx c.length 0 lo)).take (HT.sIx c.length c.length hi-HT.sIx c.length 0 lo),IsTup.new _ _,)
end
abbrev ixN(n:Nat)(i:Int):Option Nat:=if 0<=i then(if i<n then some i.toNat else none)else if -(n:Int)<=i then some (i+n).toNat else none
abbrev atI{α:Type}(xs:List α)(i:Int):Option α:=(ixN xs.length i).bind λj=>xs[j]?
def G1{i:Int}(h:ixN n i<*j):seqIndex? i n<*j/\j<n∧-(n:Int)<=i/\i<n:=by
 unfold ixN at h;by_cases h0:0<=i
 .rw[if_pos h0]at h;by_cases h1:i<n;·rw[if_pos h1]at h;have e:i.toNat=j:=aW h;exact(by rw[vH h0 h1,e],'D','D',h1,)
  .rw[if_neg h1]at h;cases h
 .rw[if_neg h0]at h;by_cases h1: -(n:Int)<=i;·rw[if_pos h1]at h;have e:(i+n).toNat=j:=aW h;exact(by rw[seqIndex_neg 'D' h1,e],'D',h1,'D',)
  .rw[if_neg h1]at h;cases h
def BA{a:Type}{xs:List a}{i:Int}{v:a}(h:atI xs i<*v):∃j,seqIndex? i xs.length<*j/\xs[j]?<*v/\j<xs.length∧-(xs.length:Int)<=i/\i<xs.length:=by
 unfold atI at h;cases e:ixN xs.length i with
 |none=>rw[e]at h;cases h
 |some j=>rw[e]at h;obtain⟨b,c,d,f⟩:=G1 e;exact(j,b,h,c,d,f,)
def cy{a:Type}{xs:List a}{v:a}(h:xs[j]?<*v):atI xs (j:Int)<*v:=by
 have b:j<xs.length:=(av.mp h).1;have e:ixN xs.length (j:Int)<*j:=by unfold ixN;rw[if_pos 'D',if_pos 'D'];simp
 unfold atI;rw[e];exact h
def Ht(b:Expr):Prop:=∀o i,subscripted b false o i=operate [o,i] (BI o i)
def IxR(X:Cx)(r:R2):Prop:=
 ∀(value a:Expr)(pins:List (Addr×Obj))(s:Shared)(σ:St)(H:Hp)(x y:V)(v u:Value)(Q:VK),'A'->RelV x v->RelV y u->r x y H Q->
  subscripted a false v u=operate [v,u] (BI v u)->'C' (NL value a v u) (EP X pins σ Q) X.xe s
def MtR(X:Cx)(id:String)(r:V->List V->Hp->VK->Prop):Prop:=
 ∀(pins:List (Addr×Obj))(s:Shared)(σ:St)(H:Hp)(x:V)(xs:List V)(v:Value)(us:List Value)(Q:VK),'A'->RelV x v->bT xs us->r x xs H Q->
  'C' (call (.builtin id) (v::us)) (EP X pins σ Q) X.xe s
section
variable {a b:Expr}{ta tb:TE}
def IxR.or{r r':R2}(h:IxR X r)(h':IxR X r'):IxR X (λx y H Q=>r x y H Q\/r' x y H Q):=by
 intro f e b s g H x y v u Q I c d q a;rcases q with q|q;·exact h f e b s g H x y v u Q I c d q a
 .exact h' f e b s g H x y v u Q I c d q a
def MtR.or{id:String}{r r':V->List V->Hp->VK->Prop}(h:MtR X id r)(h':MtR X id r'):MtR X id (λx xs H Q=>r x xs H Q\/r' x xs H Q):=by
 intro a s e H x xs v d Q I c b q;rcases q with q|q;·exact h a s e H x xs v d Q I c b q
 .exact h' a s e H x xs v d Q I c b q
def pe_ix{r:R2}(g:IxR X r)(e:PE X a ta)(f:PE X b tb)(hs:Ht b):PE X (.Subscript a b pos) (tOp r ta tb):=by intro i s m H Q I h;exact Subscript_ (binT e f I h λv u l x y c d j k q=>g a b i l m c x y v u Q d j k q (hs _ _))
def rIxL(K:ak):R2:=λx y H Q=>∃p xs i v,x=.ref p/\y=.int i/\SqL K H p xs/\atI xs i<*v/\Q v H
def rIxT(K:ak):R2:=λx y H Q=>∃p xs i v,x=.ref p/\y=.int i/\SqT K H p xs/\atI xs i<*v/\Q v H
def rIxS:R2:=λx y H Q=>∃z i c,x=.str z/\y=.int i/\z.length<=sizeLine/\atI z.cps.toList i<*c/\Q (.str ⟨#[c]⟩) H
def ix_list:IxR X (rIxL X.K):=by
 intro M L g s k H x y v u Q I D E h f;obtain⟨p,N,i,z,rfl,rfl,hq,o,q⟩:=h;cases D;obtain⟨t,rfl⟩:=E;obtain⟨B,r,c,K⟩:=I.list hq;obtain⟨j,a,l,G,m,n⟩:=BA o;obtain⟨w,d,C⟩:=r.get l;have A:=r.length;have J:=qT;have e:EP X g k Q w s:=(z,H,I,C,q,);by_cases h0:0<=i
 .have b:i.toNat=j:=by rw[vH h0 n]at a;exact aW a
  exact item_listR c.isList h0 'D' (by rw[b];simpa using d) e f
 .have b:(i+(B.toArray.size:Int)).toNat=j:=by rw[seqIndex_neg 'D' m]at a;rw[aE,<-A];exact aW a
  exact tm (x:=w) c.isList.typeIs slot_list_getitem.lookup
   (wpAny_getItem_list_neg (Q:=λr F=>r=w/\EP X g k Q r F) c.isList 'D' (by rw[aE]<;>lia) 'D' (by rw[b];simpa using d) (rfl,e,)) f
def ix_tup:IxR X (rIxT X.K):=by
 intro L K a s c H x y v u Q I o A h m;obtain⟨p,M,i,z,rfl,rfl,hq,k,q⟩:=h;cases o;obtain⟨t,rfl⟩:=A;obtain⟨J,r,b,G⟩:=I.tuple hq;obtain⟨j,f,g,C,D,E⟩:=BA k;obtain⟨w,d,n⟩:=r.get g;have l:=r.length;have F:=qT;have e:EP X a c Q w s:=(z,H,I,n,q,);exact tm (x:=w) b.typeIs slot_tuple_getitem.lookup
  (getItem_tuple (j:=j) (Q:=λr B=>r=w/\EP X a c Q r B) b 'D' 'D' (by rw[aE,<-l];exact f) ↥d (rfl,e,)) m
def ix_str:IxR X rIxS:=by
 intro D B A s E H x y v u Q I n o h m;obtain⟨z,i,c,rfl,rfl,w,k,q⟩:=h;obtain⟨t,rfl⟩:=n;obtain⟨C,rfl⟩:=o;obtain⟨j,a,e,p,f,g⟩:=BA k;have l:z.cps.toList.length=z.length:=by simp[DX]
 rw[l]at a f g;have r:=qT;exact tail_any (typeIs_str s z t) slot_str_getitem.lookup (getItem_str (c:=c) (by have b:decide (i< -(2^63:Int))=false:=decide_eq_false 'D';have d:decide (i≥ 2^63)=false:=decide_eq_false 'D';rw[b,d,Bool.or_false]) (by rw[a];simpa using e) (.str ⟨#[c]⟩,H,I.tok _,(_,rfl,),q,)) m
def rIx(K:ak):R2:=λx y H Q=>rIxL K x y H Q\/rIxT K x y H Q\/rIxS x y H Q
def ix_seq:IxR X (rIx X.K):=ix_list.or (ix_tup.or ix_str)
def E5(a:List Value)(n j:Nat)(u:Value):bq (·.setIfInBounds j u) {cls:=.type "list",data:=.seq a.toArray n}={cls:=.type "list",data:=.seq (a.set j u).toArray n}:=by simp[bq]
theorem Inv.lst{a:List (Addr×Obj)}{b:St}{H:Hp}{s:Shared}{p:Addr}{xs:List V}(I:Inv X a b H s)(h:H p<*(.lst xs)):
  ∃(ad:List Value)(n:Nat),bT xs ad/\s.heap.get? p<*{cls:=.type "list",data:=.seq ad.toArray n}/\xs.length<=sizeLine:=by
 obtain⟨z,ad,n,r,e⟩:=I.hok p _ h;exact(ad,n,r,e,z,)
def Inv.lstUpd{p:Addr}{a:Nat}{f:Obj->Obj}(I:'A')(h:H p<*(.lst xs))
  (d:s.heap.get? p<*{cls:=.type "list",data:=.seq ad.toArray n}) (hf:f {cls:=.type "list",data:=.seq ad.toArray n}={cls:=.type "list",data:=.seq its'.toArray a}) (r:bT ys its') (hz:ys.length<=sizeLine) (t:Nat):
  Inv X pins σ (upd H p (.lst ys)) {s with heap:=s.heap.update p f,toks:=t}:=by
 have e:(s.heap.update p f).get? p<*{cls:=.type "list",data:=.seq its'.toArray a}:=by rw[bK f d (by rw[hf]<;>rfl),hf]
 refine I.write (x:=p) (e:=p) (by rw[h];trivial) (.inl rfl) (λb u c q=>(aX _ _ (bI c)).trans q) (_,e,) ?_;exact(hz,its',a,r,e,)
abbrev rSetL:V->V->V->Hp->(Hp->Prop)->Prop:=λo i v H Q=>∃p xs k j,o=.ref p/\i=.int k/\H p<*(.lst xs)/\ixN xs.length k<*j/\Q (upd H p (.lst (xs.set j v)))
def set_list:PSet X rSetL:=by
 intro y s D H o i v J G u Q I A z B h;obtain⟨p,C,k,j,rfl,rfl,l,w,q⟩:=h;cases A;obtain⟨t,rfl⟩:=z;obtain⟨m,n,r,d,x⟩:=I.lst l;obtain⟨a,E,f,g⟩:=G1 w;have c:=r.length;have F:=qT;have e:Inv X y D (upd H p (.lst (C.set j v))) {s with heap:=s.heap.update p (bq (·.setIfInBounds j u))}:=
  I.lstUpd l d (E5 m n j u) (r.set B j) (by rw[z6];exact x) s.toks
 by_cases h0:0<=k
 .have b:k.toNat=j:=by rw[vH h0 g]at a;exact aW a
  exact PySem.W.ki_setAt d h0 'D' (by rw[aE,<-c];exact g) (by rw[b];exact(_,e,q,))
 .have b:(k+(m.toArray.size:Int)).toNat=j:=by rw[seqIndex_neg 'D' f]at a;rw[aE,<-c];exact aW a
  exact PySem.W.ki_setBack d 'D' (by rw[aE,<-c];exact f) 'D' (by rw[b];exact(_,e,q,))
def Ay(lo hi:Option Int)(n:Nat):(mJ lo hi none n).1=((HT.sIx n 0 lo:Nat):Int)/\(mJ lo hi none n).2.1=((HT.sIx n n hi:Nat):Int)/\(mJ lo hi none n).2.2=1:=by
 refine(?_,?_,rfl,)
 .cases lo with
  |none=>simp[mJ,HT.sIx]
  |some i=>
   simp only[mJ,HT.sIx,wg,show(1:Int)>0 by decide,if_true];by_cases h:i<0;·simp only[h,if_true]<;>lia
   .simp only[h,if_false]<;>lia
 .cases hi with
  |none=>simp[mJ,HT.sIx]
  |some i=>
   simp only[mJ,HT.sIx,wg,show(1:Int)>0 by decide,if_true];by_cases h:i<0;·simp only[h,if_true]<;>lia
   .simp only[h,if_false]<;>lia
def yw(a:List Value)(lo hi:Option Int):slicePick a.toArray lo hi none=((a.drop (HT.sIx a.length 0 lo)).take (HT.sIx a.length a.length hi-HT.sIx a.length 0 lo)).toArray:=by obtain⟨b,c,d⟩:=Ay lo hi a.toArray.size;unfold slicePick;rw[b,c,d];simp only[sliceRange_one,pick_run,aE]<;>rfl
def rSlL(K:ak):V->Option Int->Option Int->Hp->VK->Prop:=λx lo hi H Q=>∃a xs,x=.ref a/\SqL K H a xs/\∀p,H p=none->Q (.ref p) (upd H p (.lst (uB xs lo hi)))
def sl_list:SlR X (rSlL X.K):=by intro p s y H x v u w lo hi t Q I l f j k h;obtain⟨a,c,rfl,g,q⟩:=h;cases l;obtain⟨m,r,d,i⟩:=I.list g;have e:=r.length;refine("list",_,slot_list_getitem.lookup,d.isList.typeIs,?_,);refine wpAny_getItem_list_slice d.isList f j k .none 'F' ?_ (by rw[aE]<;>lia);rw[yw,<-e];refine(.ref ⇑s,_,I.laid (t':=s.toks) (o:=.lst (uB c lo hi)) (λb n q=>af _ q) (aC _) ?_,rfl,q _ (I.hok.fresh (aC _)),);exact(aT (u9 c lo hi) i,_,0,(r.drop (HT.sIx c.length 0 lo)).take (HT.sIx c.length c.length hi-HT.sIx c.length 0 lo),az _ rfl,)
abbrev qo:V->Bool
 |.non=>true
 |.bl _=>true
 |.int _=>true
 |.str _=>true
 |_=>false
abbrev eqV:V->V->Bool
 |.non,.non=>true
 |.bl a,.bl b=>a==b
 |.bl a,.int b=>(if a then 1 else 0)==b
 |.int a,.bl b=>a==(if b then 1 else 0)
 |.int a,.int b=>a==b
 |.str a,.str b=>a==b
 |_,_=>false
def gY{x:V}{v:Value}(f:RelV y u)(c:RelV x v)(g:qo y=true)(e:qo x=true):NU A s u v (eqV y x):=by
 cases y with
 |non=>
  cases f;cases x with
  |non=>cases c;exact NU.same _
  |bl b=>cases c;exact NU.none_bool b
  |int b=>obtain⟨t,rfl⟩:=c;exact NU.none_int b t
  |str b=>obtain⟨t,rfl⟩:=c;exact NU.none_str b t
  |_=>exact absurd (show false=true from e) aq
 |bl a=>
  cases f;cases x with
  |non=>cases c;exact NU.bool_none a
  |bl b=>cases c;exact NU.bool_bool a b
  |int b=>obtain⟨t,rfl⟩:=c;exact NU.bool_int a b t
  |str b=>obtain⟨t,rfl⟩:=c;exact NU.bool_str a b t
  |_=>exact absurd (show false=true from e) aq
 |int a=>
  obtain⟨d,rfl⟩:=f;cases x with
  |non=>cases c;exact NU.int_none a d
  |bl b=>cases c;exact NU.int_bool a d b
  |int b=>obtain⟨t,rfl⟩:=c;exact NU.int_int a d b t
  |str b=>obtain⟨t,rfl⟩:=c;exact Ea a d b t
  |_=>exact absurd (show false=true from e) aq
 |str a=>
  obtain⟨d,rfl⟩:=f;cases x with
  |non=>cases c;exact NU.str_none a d
  |bl b=>cases c;exact NU.str_bool a d b
  |int b=>obtain⟨t,rfl⟩:=c;exact D9 a d b t
  |str b=>obtain⟨t,rfl⟩:=c;exact NU.str_str a d b t
  |_=>exact absurd (show false=true from e) aq
 |_=>exact absurd (show false=true from g) aq
abbrev eqU(x:V)(u:Value):Bool:=match u with
 |.none=>eqV .non x
 |.bool b=>eqV (.bl b) x
 |.int i _=>eqV (.int i) x
 |.str z _=>eqV (.str z) x
 |_=>false
def MW{x:V}(r:RelV y u)(f:qo y=true):eqU x u=eqV y x:=by
 cases y with
 |non=>cases r;rfl
 |bl b=>cases r;rfl
 |int i=>obtain⟨t,rfl⟩:=r;rfl
 |str z=>obtain⟨t,rfl⟩:=r;rfl
 |_=>exact absurd (show false=true from f) aq
theorem sX{x:V}:∀{xs:List V}{us:List Value},bT xs us->xs.all qo=true->us.any (eqU x)=xs.any λy=>eqV y x
 |_,_,.nil,_=>rfl
 |y::xs,u::us,.cons r t,f=>by rw[Eg,aB]at f;rw[oG,oG,MW r f.1,sX t f.2]
theorem o5{x:V}{v:Value}(b:RelV x v)(a:qo x=true):∀{xs:List V}{us:List Value},bT xs us->xs.all qo=true->∀u∈us,NU A s u v (eqU x u)
 |_,_,.nil,_=>λu hu=>by cases hu
 |y::xs,u::us,.cons r t,f=>λc hu=>by
  rw[Eg,aB]at f;rcases aK.mp hu with rfl|hu;·rw[MW r f.1];exact gY r b f.1 a
  .exact o5 b a t f.2 c hu
abbrev inV(x:V)(xs:List V):Bool:=xs.any λy=>eqV y x
def rIn(K:ak)(a:Bool):R2:=λx y H Q=>∃p xs,y=.ref p/\(SqL K H p xs\/SqT K H p xs)/\qo x=true/\xs.all qo=true/\Q (.bl (if a then !inV x xs else inV x xs)) H
def Iu:OpR X (dc .In) (rIn X.K false):=by
 intro i s k H x y v u Q I e g h;obtain⟨p,j,rfl,hq,d,fs,q⟩:=h;cases g;rcases hq with hq|hq;·obtain⟨a,r,c,f⟩:=I.list hq;refine SeqAt.in_listAt (eqU x) c.isList (λw b=>o5 e d r fs w ↥b) (.bl _,H,I,rfl,?_,);rw[show a.toArray.any (eqU x)=a.any (eqU x) by simp,sX r fs];exact q
 .obtain⟨a,r,c,f⟩:=I.tuple hq;refine SeqAt.in_tupleAt (eqU x) c (λw b=>o5 e d r fs w ↥b) (.bl _,H,I,rfl,?_,);rw[show a.toArray.any (eqU x)=a.any (eqU x) by simp,sX r fs];exact q
def AU:OpR X (dc .NotIn) (rIn X.K true):=by
 intro i s k H x y v u Q I e g h;obtain⟨p,j,rfl,hq,d,fs,q⟩:=h;cases g;rcases hq with hq|hq;·obtain⟨a,r,c,f⟩:=I.list hq;refine NT (eqU x) c.isList (λw b=>o5 e d r fs w ↥b) (.bl _,H,I,rfl,?_,);rw[show a.toArray.any (eqU x)=a.any (eqU x) by simp,sX r fs];exact q
 .obtain⟨a,r,c,f⟩:=I.tuple hq;refine SeqAt.notIn_tupleAt (eqU x) c (λw b=>o5 e d r fs w ↥b) (.bl _,H,I,rfl,?_,);rw[show a.toArray.any (eqU x)=a.any (eqU x) by simp,sX r fs];exact q
def AS:OpR X (dc .NotIn) (λx y H Q=>∃i j,x=.str i/\y=.str j/\Q (.bl (!(!(iY j i 0 j.length 1).isEmpty))) H):=by intro c s e H x y v u Q I a b h;obtain⟨i,j,rfl,rfl,q⟩:=h;obtain⟨t,rfl⟩:=a;obtain⟨d,rfl⟩:=b;exact notIn_str (.bl _,H,I,rfl,q,)
def Bv:fG X (.builtin "len") (λxs H Q=>∃p ys,xs=[.ref p]/\(SqL X.K H p ys\/SqT X.K H p ys)/\Q (.int ys.length) H):=by
 intro i s k H xs j Q I r h;obtain⟨p,ys,rfl,hq,q⟩:=h;obtain⟨u,rfl,f⟩:=vals1 r;cases f;have g:=qT;rcases hq with hq|hq;·obtain⟨e,c,b,d⟩:=I.list hq;have a:=c.length;exact Calls.call_len_list b.isList (by simp only[aE]<;>lia) (.int ys.length,H,I.tok _,⟨s.toks+1,by rw[aE,a]⟩,q,)
 .obtain⟨e,c,b,d⟩:=I.tuple hq;have a:=c.length;exact len_tuple b (by simp only[aE]<;>lia) (.int ys.length,H,I.tok _,⟨s.toks+1,by rw[aE,a]⟩,q,)
def Bu:fG X (.builtin "len") (λxs H Q=>∃z,xs=[.str z]/\z.length<=sizeLine/\Q (.int z.length) H):=by intro c s e H xs d Q I r h;obtain⟨z,rfl,b,q⟩:=h;obtain⟨u,rfl,t,rfl⟩:=vals1 r;have a:=qT;exact len_str 'D' (.int z.length,H,I.tok _,(_,rfl,),q,)
def fG.or{f:Value}{r r':List V->Hp->VK->Prop}(h:fG X f r)(h':fG X f r'):fG X f (λxs H Q=>r xs H Q\/r' xs H Q):=by
 intro a s d H xs c Q I b q;rcases q with q|q;·exact h a s d H xs c Q I b q
 .exact h' a s d H xs c Q I b q
def Bt:fG X (.type "list") (λxs H Q=>∃p ys,xs=[.ref p]/\(SqL X.K H p ys\/SqT X.K H p ys)/\∀l,H l=none->Q (.ref l) (upd H l (.lst ys))):=by
 intro y s A H xs B Q I r h;obtain⟨p,ys,rfl,hq,q⟩:=h;obtain⟨u,rfl,z⟩:=vals1 r;cases z;have v:∀(c:List Value),bT ys c->ys.length<=sizeLine->∀(a:Heap)(d:Nat),(∀b w,s.heap.get? b<*w->a.get? b<*w)->
   a.get? ⇑s<*{cls:=.type "list",dict:=none,data:=.seq c.toArray d,slots:= #[]}->EP X y A Q (.ref ⇑s) {s with heap:=a}:=λc f g a d i e=>
  (.ref ⇑s,_,I.laid (t':=s.toks) i (aC _) (show eA X.prog X.w _ a _ (.lst ys)from(g,c,d,f,e,)),rfl,q _ (I.hok.fresh (aC _)),)
 rcases hq with hq|hq;·obtain⟨c,f,t,g⟩:=I.list hq;have x:=f.length;obtain⟨o,m,j,n,k⟩:=t.isList;exact call_list_seq p (.inl rfl) m j k (λa d i e=>v c f g a d i e) (by simp only[aE]<;>lia)
 .obtain⟨c,f,t,g⟩:=I.tuple hq;have x:=f.length;obtain⟨o,m,j,n,k⟩:=t;exact call_list_seq p (.inr rfl) m j k (λa d i e=>v c f g a d i e) (by simp only[aE]<;>lia)
def yF:fG X (.type "tuple") (λxs H Q=>∃p ys,xs=[.ref p]/\((SqL X.K H p ys/\∀l,H l=none->Q (.ref l) (upd H l (.tup ys)))\/(SqT X.K H p ys/\Q (.ref p) H))):=by
 intro j s k H xs w Q I r h;obtain⟨p,ys,rfl,h⟩:=h;obtain⟨u,rfl,t⟩:=vals1 r;cases t;rcases h with⟨hq,q⟩ |⟨hq,q⟩
 .obtain⟨c,f,d,i⟩:=I.list hq;have v:=f.length;refine call_tuple_list d.isList (λa n=>?_) (by simp only[aE]<;>lia);have g:Inv X j k H {s with heap:=a}:=I.kept (t':=s.toks) n;have m:Inv X j k (upd H a.objs.size (.tup ys)) {s with heap:=a.push {cls:=.type "tuple",data:=.seq c.toArray}}:=
   g.laid (t':=s.toks) (λb o e=>af _ e) (aC _) (show eA X.prog X.w _ _ _ (.tup ys)from(i,c,f,IsTup.new _ _,))
  exact(.ref a.objs.size,_,m,rfl,q _ (g.hok.fresh (aC _)),)
 .obtain⟨c,f,d,i⟩:=I.tuple hq;exact call_tuple_same d (.ref p,H,I,rfl,q,)
def tyV(K:ak)(T:String)(x:V)(H:Hp):Prop:=match x with
 |.str _=>T="str"
 |.int _=>T="int"
 |.ref p=>(T="list"/\∃xs,SqL K H p xs)\/(T="tuple"/\∃o,K.lookup p<*o/\o.cls=.type "tuple"/\o.dict=none)\/
   (T="dict"/\((∃kvs,H p<*(.dK kvs))\/∃kvs,H p<*(.dT kvs)))\/(T="set"/\∃S n,H p<*(.set S n))
 |_=>False
def tyV_is{T:String}{x:V}{v:Value}(I:'A')(r:RelV x v)(ty:tyV X.K T x H):
  s.TypeIs v T/\∀a,v=.ref a->∃h,s.heap.get? a<*h/\h.dict=none:=by
 cases x with
 |str z=>obtain⟨t,rfl⟩:=r;cases(show T="str" from ty);exact⟨typeIs_str s z t,λ_ e=>nomatch e⟩
 |int i=>obtain⟨t,rfl⟩:=r;cases(show T="int" from ty);exact⟨typeIs_int s i t,λ_ e=>nomatch e⟩
 |ref p=>
  cases r;rcases ty with⟨rfl,q,hq⟩ |⟨rfl,o,b,k,g⟩ |⟨rfl,b⟩ |⟨rfl,S,n,b⟩;·obtain⟨m,_,j,_⟩:=I.list hq;refine(j.isList.typeIs,λa e=>?_,);cases e;obtain⟨o,n,e,c,g,_⟩:=j;exact(o,e,g,)
  .refine((o,I.kIn p o b,k,),λa e=>?_,);cases e;exact(o,I.kIn _ o b,g,)
  .have z:∃o,s.heap.get? p<*o/\o.ExactDict:=by
    rcases b with⟨l,b⟩ |⟨l,b⟩;·obtain⟨_,_,_,_,o,_,_,e,d,_⟩:=I.hok p _ b;exact(o,e,d,)
    .obtain⟨_,_,_,_,o,_,_,e,d,_⟩:=I.hok p _ b;exact(o,e,d,)
   obtain⟨o,e,d⟩:=z;refine((o,e,d.1,),λa f=>?_,);cases f;exact(o,e,d.2.1,)
  .obtain⟨o,_,_,_,e,d,_⟩:=I.hok p _ b;refine((o,e,d.1,),λa f=>?_,);cases f;exact(o,e,d.2.1,)
 |_=>exact iG ty
def tBM(K:ak)(T:String)(r:V->List V->Hp->VK->Prop)(to:TE)(t:TA):TE:=λσ H Q=>to σ H λx H1=>tyV K T x H1/\t σ H1 λxs H2=>r x xs H2 Q
variable {es:List Expr}{to:TE}{t:TA}{name:Str}{apos:Pos}{T id:String}{r:V->List V->Hp->VK->Prop}
def LG(A:PlainAttrs T)(slot:Slot T name id)(z:typeOf (.builtin id)=pure (.type "method_descriptor"))(u:MtR X id r)(w:PE X o to)(m:PA X (e::es) t)
  (n:NQ o name X.env (eval o X.env)=eval o X.env:=by rfl)
  (p:((backTo bn (bH (e::es) X.env)).all (λx=> !x.1)&&(BK bn (pZ [] X.env)).all (λx=>x.1.isSome)
   &&decide ((e::es).length+([]:List Keyword).length+(if([]:List Keyword).isEmpty then 0 else 1)<30))=true:=by rfl)
  (q:(apos.endLine==bn.line)=true:=by rfl) (hs:bH (e::es) X.env=(false,eval e X.env)::bH es X.env:=by rfl) (y:(backTo bn (bH es X.env)).any (·.1)=false:=by rfl):
  PE X (.Call (.Attribute o name apos) (e::es) [] bn) (tBM X.K T r to t):=by
 intro a s b H Q I h;refine wpAny_Call_method_late n p q rfl (thn (w a s b H _ I h) λv E ⟨x,g,c,f,ty,B⟩=>?_);obtain⟨k,l⟩:=tyV_is c f ty;refine(T,id,A,slot,z,k,l,?_,);have d:=m bn a E b g _ c B;rw[hs]at d⊢;refine Calls.callWith_builtin (by show(false||(backTo bn (bH es X.env)).any (·.1))=false;rw[y]<;>rfl) (Calls.evalArgs_plain ?_);exact thn d λG F ⟨J,i,j,D,C⟩=>u a F b i x J v G Q j f D C
end
def MtM(X:Cx)(id:String)(r:V->List V->Hp->VK->Prop):Prop:=
 ∀(pins:List (Addr×Obj))(s:Shared)(σ:St)(H:Hp)(x:V)(xs:List V)(v:Value)(us:List Value)(Q:VK),'A'->RelV x v->bT xs us->r x xs H Q->
  'C' (call (.builtin id) (v::us)) (EP X pins σ Q) X.xe s
def bT.one{x:V}(h:bT [x] us):∃u,us=[u]/\RelV x u:=by
 cases h with
 |cons r k=>cases k with
  |nil=>exact(_,rfl,r,)
def bT.two{x:V}(h:bT [x,y] us):∃u v,us=[u,v]/\RelV x u/\RelV y v:=by
 cases h with
 |cons r k=>obtain⟨v,e,q⟩:=bT.one k;exact(_,v,by rw[e],r,q,)
def bT.zero:∀{us:List Value},bT [] us->us=[]
 |_,.nil=>rfl
theorem bT.eraseIdx:∀{xs:List V}{us:List Value}(i:Nat),bT xs us->bT (xs.eraseIdx i) (us.eraseIdx i)
 |_,_,_,.nil=>.nil
 |_,_,0,.cons _ t=>t
 |_,_,i+1,.cons r t=>.cons r (bT.eraseIdx i t)
theorem bT.reverse(h:bT xs us):bT xs.reverse us.reverse:=by
 induction h with
 |nil=>exact .nil
 |cons r t ih=>rw[wk,wk];exact bT.append ih (.cons r .nil)
theorem bT.rep(h:bT xs us):∀k:Nat,bT (cu k xs).flatten (cu k us).flatten
 | 0=>.nil
 |k+1=>by rw[gD,gD,nY,nY];exact bT.append h (bT.rep h k)
theorem zg{a:Type}:∀(l:List a)(i:Nat),(l.eraseIdx i).length<=l.length
 | [],_=>aC _
 |_::_,0=>dk _
 |_::r,i+1=>Nat.succ_le_succ (zg r i)
theorem foldl_rep(a:List Value):∀(k:Nat)(ac:List Value),
  List.foldl (λc d=>c++d) ac.toArray (cu k a.toArray)=(ac++(cu k a).flatten).toArray
 | 0,ac=>by simp
 |k+1,ac=>by
  have e:ac.toArray++a.toArray=(ac++a).toArray:=by simp
  have b:(ac++a)++(cu k a).flatten=ac++(cu (k+1) a).flatten:=by rw[gD,nY,fT]
  rw[<-b,<-foldl_rep a k (ac++a),<-e,gD,d8]
section
variable {pins:List (Addr×Obj)}{s:Shared}{l b:Addr}
def Inv.Mc{f:Array Value->Array Value}(I:'A')(a:H l<*(.lst xs))
  (e:s.heap.get? l<*{cls:=.type "list",data:=.seq ad.toArray n}) (hf:f ad.toArray=its'.toArray) (d:bT ys its') (hz:ys.length<=sizeLine):
  Inv X pins σ (upd H l (.lst ys)) {s with heap:=s.heap.update l (bq f),toks:=t'}:=by
 have q:=JJ e f;rw[hf]at q;refine I.write (x:=l) (e:=l) (by rw[a];exact trivial) (.inl rfl) (λg u b c=>(aX s.heap (bq f) (bI b)).trans c) (_,q,) ?_;exact(hz,its',_,d,q,)
def Inv.lnew(I:'A')(a:bT ys ad)(hz:ys.length<=sizeLine):
  Inv X pins σ (upd H ⇑s (.lst ys)) {s with heap:=s.heap.push {cls:=.type "list",data:=.seq ad.toArray},toks:=t'}:=
 I.laid (λ_ _ q=>af _ q) (aC _) (hz,ad,0,a,az _ rfl,)
theorem Inv.fresh(I:'A'):H ⇑s=none:=I.hok.fresh (aC _)
def Inv.A2(I:'A')(a:H l<*(.lst xs)):xs.length<=sizeLine/\∃(ad:List Value)(n:Nat),bT xs ad/\xs.length=ad.length/\s.heap.get? l<*{cls:=.type "list",data:=.seq ad.toArray n}:=by obtain⟨z,ad,n,r,e⟩:=I.hok l _ a;exact(z,ad,n,r,r.length,e,)
def C2(h:n<=sizeLine):iA n=false:=by unfold iA;exact decide_eq_false 'D'
end
section
def AH:V->List V->Hp->VK->Prop:=λx vs H Q=>∃l xs y,x=.ref l/\vs=[y]/\H l<*(.lst xs)/\xs.length<sizeLine/\Q .non (upd H l (.lst (xs++[y])))
def ID:MtM X "list.append" AH:=by intro j s p H x m v k Q I f d h;obtain⟨l,o,y,rfl,rfl,a,i,q⟩:=h;cases f;obtain⟨u,rfl,c⟩:=d.one;obtain⟨z,b,n,r,g,e⟩:=I.A2 a;refine lM F.slot_list_append (_,e,rfl,) F.entry_list_append (F.args_list_append_2 _ _) (PySem.list_append l b.toArray n u (by rw[aE];lia)) (e,?_,);refine(.non,_,I.Mc (its':=b++[u]) a e 'F' (r.append (.cons c .nil)) ?_,rfl,q,);rw[bX,qL];lia
def Gz:V->List V->Hp->VK->Prop:=λx vs H Q=>∃l b xs zs,x=.ref l/\vs=[.ref b]/\H l<*(.lst xs)/\H b<*(.lst zs)/\xs.length+zs.length<=sizeLine/\Q .non (upd H l (.lst (xs++zs)))
def IC:MtM X "list.extend" Gz:=by
 intro B s K H x D v C Q I t p h;obtain⟨l,b,E,J,rfl,rfl,d,g,A,q⟩:=h;cases t;obtain⟨u,rfl,o⟩:=p.one;cases o;obtain⟨z,a,n,r,w,e⟩:=I.A2 d;obtain⟨G,c,k,m,y,f⟩:=I.A2 g;have j:a.toArray.size+c.toArray.size<=sizeLine:=by rw[aE,aE];lia
 have i:¬(!a.toArray.isEmpty&&iA (a.toArray.size+c.toArray.size))=true:=by rw[C2 j,dS];exact aq
 refine lM F.slot_list_extend (_,e,rfl,) F.entry_list_extend (F.args_list_extend_2 _ _)
  (AutoSeq1.list_extend_list_list_0 l a.toArray n b c.toArray k i (by rw[aE];lia) 'D') (e,f,?_,)
 refine(.non,_,I.Mc (its':=a++c) d e 'F' (r.append m) ?_,rfl,q,);rw[bX];lia
def La:V->List V->Hp->VK->Prop:=λx vs H Q=>∃l xs i k y,x=.ref l/\vs=[.int i]/\H l<*(.lst xs)∧-(2^63)<=i/\i<2^63/\seqIndex? i xs.length<*k/\xs[k]?<*y/\Q y (upd H l (.lst (xs.eraseIdx k)))
def LZ:MtM X "list.pop" La:=by
 intro D s J H x G v E Q I B p h;obtain⟨l,C,i,k,y,rfl,rfl,b,c,d,f,m,q⟩:=h;cases B;obtain⟨u,rfl,o⟩:=p.one;obtain⟨t,rfl⟩:=o;obtain⟨z,a,n,r,g,e⟩:=I.A2 b;obtain⟨w,j,A⟩:=r.get m;refine lM F.slot_list_pop (_,e,rfl,) F.entry_list_pop (F.args_list_pop_2 _ _)
  (MeetsSeq.list_pop_at l a.toArray n i t k w (fitsIndex_both c d) (by rw[aE,<-g];exact f) (by rw[<-bS];exact j) (by rw[aE];lia)) (e,?_,)
 refine(y,_,I.Mc (its':=a.eraseIdx k) b e ?_ (r.eraseIdx k) ?_,A,q,);·show a.toArray.eraseIdxIfInBounds k=(a.eraseIdx k).toArray;rw[List.eraseIdxIfInBounds_toArray]
 .have :=zg C k;lia
def Cw:V->List V->Hp->VK->Prop:=λx vs H Q=>∃l xs,x=.ref l/\vs=[]/\H l<*(.lst xs)/\Q .non (upd H l (.lst xs.reverse))
def E4:MtM X "list.reverse" Cw:=by intro i s o H x k v j Q I f d h;obtain⟨l,m,rfl,rfl,a,q⟩:=h;cases f;have c:=d.zero;subst c;obtain⟨z,b,n,r,g,e⟩:=I.A2 a;refine lM F.slot_list_reverse (_,e,rfl,) F.entry_list_reverse (F.args_list_reverse_1 _) (AutoSeq1.list_reverse_list_0 l b.toArray n (by rw[aE];lia)) (e,?_,);refine(.non,_,I.Mc (its':=b.reverse) a e 'F' r.reverse ?_,rfl,q,);rw[List.length_reverse];lia
def Lc:V->List V->Hp->VK->Prop:=λx vs H Q=>∃l xs,x=.ref l/\vs=[]/\H l<*(.lst xs)/\Q .non (upd H l (.lst []))
def L5:MtM X "list.clear" Lc:=by intro i s o H x k v j Q I f d h;obtain⟨l,m,rfl,rfl,a,q⟩:=h;cases f;have b:=d.zero;subst b;obtain⟨z,c,n,r,g,e⟩:=I.A2 a;refine lM F.slot_list_clear (_,e,rfl,) F.entry_list_clear (F.args_list_clear_1 _) (AutoSeq1.list_clear_list_0 l c.toArray n (by rw[aE];lia)) (e,?_,);exact(.non,_,I.Mc (its':=[]) (ys:=[]) a e rfl .nil (bf _),rfl,q,)
def rCat:R2:=λx y H Q=>∃l b xs zs,x=.ref l/\y=.ref b/\H l<*(.lst xs)/\H b<*(.lst zs)/\xs.length+zs.length<=sizeLine/\∀p,H p=none->Q (.ref p) (upd H p (.lst (xs++zs)))
def op_cat:OpR X (gC .Add) rCat:=by
 intro A s E H x y v u Q I k m h;obtain⟨l,b,B,D,rfl,rfl,i,g,t,q⟩:=h;cases k;cases m;obtain⟨z,a,n,r,o,e⟩:=I.A2 i;obtain⟨C,c,w,j,p,d⟩:=I.A2 g;refine PySem.P.add_list e d ?_ (by rw[aE,aE];lia);have f:a.toArray++c.toArray=(a++c).toArray:=by simp
 rw[f];exact(.ref _,_,I.lnew (t':=s.toks) (r.append j) (by rw[bX];lia),rfl,q _ I.fresh,)
def rRep:R2:=λx y H Q=>∃l k xs,x=.ref l/\y=.int k/\H l<*(.lst xs)∧-(2^63)<=k/\k<2^63/\xs.length*k.toNat<=sizeLine/\
 ∀p,H p=none->Q (.ref p) (upd H p (.lst (cu k.toNat xs).flatten))
def len_rep{a:Type}(xs:List a)(k:Nat):(cu k xs).flatten.length=k*xs.length:=by
 induction k with
 |zero=>simp
 |succ k ih=>rw[gD,nY,bX,ih,Nat.succ_mul,Nat.add_comm]
def op_rep:OpR X (gC .Mult) rRep:=by
 intro K s M H x y v u Q I E G h;obtain⟨l,k,L,rfl,rfl,o,i,j,f,q⟩:=h;cases E;obtain⟨t,rfl⟩:=G;obtain⟨z,b,n,r,A,e⟩:=I.A2 o;have B:b.toArray.size*k.toNat<=sizeLine:=by rw[aE,<-A];exact f
 have p:¬b.toArray.size*k.toNat>(2^63-1)/8:=by
  have :(sizeLine:Nat)<=(2^63-1)/8:=by decide
  lia
 have w:¬(!Builtin.List.listFitsIndex k)=true:=by rw[fitsIndex_both i j];exact aq
 have C:¬iA (b.toArray.size*k.toNat)=true:=by rw[C2 B];exact aq
 have D:List.foldl (λc d=>c++d) #[] (cu (if b.toArray.isEmpty=true then 0 else k.toNat) b.toArray)=(cu k.toNat b).flatten.toArray:=by
  have g:∀m:Nat,List.foldl (λc d=>c++d) #[] (cu m b.toArray)=(cu m b).flatten.toArray:=λm=>by have :=foldl_rep b m [];rw[zZ]at this;exact this
  rw[g];cases b with
  |nil=>simp
  |cons a r'=>rw[if_neg 'F']
 refine wpAny_binaryOp_repeat_ref (T:="list") (U:="int") 'E' (_,e,rfl,) (λJ=>typeIs_int J k t) noFill_list_mul F.fills_int_mul F.slot_int_rmul repeat_list F.slot_int_index.lookup
  (lM F.slot_int_rmul (typeIs_int s k t) F.entry_int_rmul (F.args_int_rmul_2 _ _) (int___rmul___int_list k t l b.toArray n)
   (e,rfl,(_,e,rfl,),lM F.slot_list_mul (_,e,rfl,) F.entry_list_mul (F.args_list_mul_2 _ _) (AutoListH.list___mul___list_int_3 l b.toArray n k t w p C) (e,?_,),))
 rw[D];exact(.ref _,_,I.lnew (t':=s.toks) (r.rep k.toNat) (by rw[len_rep,Nat.mul_comm];exact f),rfl,q _ I.fresh,)
end
section
variable {κ:Type}[DecidableEq κ]
abbrev fz(kvs:List (κ×V))(k:κ):Option V:=(kvs.find? λkv=>decide (kv.1=k)).map (·.2)
abbrev putK(kvs:List (κ×V))(k:κ)(v:V):List (κ×V):=
 if(kvs.any λkv=>decide (kv.1=k))=true then kvs.map (λkv=>if kv.1=k then(kv.1,v)else kv)else kvs++[(k,v)]
def iN{p:κ×V}{r:List (κ×V)}{k:κ}(e:p.1=k):fz (p::r) k<*p.2:=by simp[fz,jr,e]
def iO{p:κ×V}{r:List (κ×V)}{k:κ}(e:¬p.1=k):fz (p::r) k=fz r k:=by simp[fz,jr,e]
theorem lg(k:κ):∀kvs:List (κ×V),(kvs.any λkv=>decide (kv.1=k))=(fz kvs k).isSome
 | []=>rfl
 |p::r=>by
  rw[oG];by_cases e:p.1=k;·simp only[iN e,decide_eq_true e,Bool.true_or,gK]
  .rw[iO e,decide_eq_false e,Bool.false_or];exact lg k r
theorem B8(k j:κ)(y:V):∀kvs:List (κ×V),fz (kvs.map λkv=>if kv.1=k then(kv.1,y)else kv) j=(fz kvs j).map λx=>if j=k then y else x
 | []=>rfl
 |p::r=>by
  have a:=B8 k j y r;rw[bw];by_cases h:p.1=k
  .rw[if_pos h];by_cases e:p.1=j;·rw[iN (p:=(p.1,y)) e,iN e,k7,if_pos (e.symm.trans h)]
   .rw[iO (p:=(p.1,y)) e,iO e,a]
  .rw[if_neg h];by_cases e:p.1=j;·rw[iN (p:=p) e,iN e,k7,if_neg (λz=>h (e.trans z))]
   .rw[iO (p:=p) e,iO e,a]
theorem yM(k j:κ)(y:V):∀kvs:List (κ×V),fz kvs k=none->fz (kvs++[(k,y)]) j=if j=k then some y else fz kvs j
 | [],_=>by
  by_cases e:k=j;·rw[if_pos e.symm];exact iN (p:=(k,y)) e
  .rw[if_neg (λz=>e z.symm)];exact iO (p:=(k,y)) e
 |p::r,hn=>by
  rw[ym];have a:¬p.1=k:=λz=>by rw[iN z]at hn;cases hn
  rw[iO a]at hn;have b:=yM k j y r hn;by_cases e:p.1=j;·rw[iN e,iN e,if_neg (λz=>a (e.trans z))]
  .rw[iO e,iO e,b]
def J7(b:List (κ×V))(k j:κ)(y:V):fz (putK b k y) j=if j=k then some y else fz b j:=by
 unfold putK;by_cases a:(b.any λd=>decide (d.1=k))=true
 .rw[if_pos a,B8];rw[lg]at a;by_cases e:j=k;·obtain⟨x,c⟩:=cW.mp a;rw[if_pos e,e,c,k7,if_pos rfl]
  .rw[if_neg e];cases fz b j with
   |none=>rfl
   |some x=>rw[k7,if_neg e]
 .rw[if_neg a];refine yM k j y b ?_;rw[lg]at a;cases q:fz b k with
  |none=>rfl
  |some x=>rw[q]at a;exact(a rfl).elim
def u5(a:List (κ×V))(k:κ)(v:V):(putK a k v).length<=a.length+1:=by
 unfold putK;split;·rw[ao];lia
 .rw[bX,bG,lH];lia
def Ld{a:List (κ×V)}{k:κ}(v:V)(h:fz a k=none):putK a k v=a++[(k,v)]:=by unfold putK;rw[lg,h];exact if_neg 'E'
def uH.IP{o:Option V}{u:Option Value}(r:uH o u):o.isSome=u.isSome:=by
 cases o with
 |none=>cases u with
  |none=>rfl
  |some _=>exact(show False from r).elim
 |some _=>cases u with
  |none=>exact(show False from r).elim
  |some _=>rfl
end
def Mt{k:Key}(r:RelV (kV k) u):(aY P w).is k u=true:=by
 cases k with
 |inl i=>obtain⟨t,e⟩:=(show ∃t,u=iT i t from r);subst e;exact oY P w i t
 |inr x=>obtain⟨t,e⟩:=(show ∃t,u=js x t from r);subst e;exact C6 P w x t
theorem uj:∀{ks:List Key}{us:List Value},bT (ks.map kV) us->ItemsAre (aY P w) ks us
 | [],_,r=>by rw[p8]at r;cases r;exact .nil
 |k::ks,_,r=>by
  rw[bw]at r;cases r with
  |cons h t=>exact .cons (Mt h) (uj t)
noncomputable abbrev KT(H:Hp):List (List Key×V)->List (List Key×Addr×Value)->Prop:=Paired λp q=>p.1=q.1/\H q.2.1<*(.tup (p.1.map kV))/\RelV p.2 q.2.2
def KT.val{d:List (List Key×V)}{xs:List (List Key×Addr×Value)}(r:KT H d xs)(k:List Key):uH (fz d k) ((atKey xs k).map (·.2)):=by
 induction r with
 |nil=>exact True.intro
 | @cons p q ps qs h t ih=>
  obtain⟨c,_,f⟩:=h;by_cases e:p.1=k
  .have a:q.1=k:=c.symm.trans e;have b:atKey (q::qs) k<*q.2:=by simp[atKey,jr,a]
   rw[iN e,b];exact f
  .have a:¬q.1=k:=λz=>e (c.trans z);have b:atKey (q::qs) k=atKey qs k:=by simp[atKey,jr,a]
   rw[iO e,b];exact ih
def KT.repl{c:List (List Key×V)}{xs:List (List Key×Addr×Value)}(r:KT H c xs)(k:List Key)(f:RelV y u):
  KT H (c.map λkv=>if kv.1=k then(kv.1,y)else kv) (xs.map (putAt k u)):=by
 induction r with
 |nil=>exact .nil
 | @cons p q ps qs h t ih=>
  rw[bw,bw];refine .cons ?_ ih;obtain⟨a,b,d⟩:=h;unfold putAt;by_cases e:p.1=k;·rw[if_pos e,if_pos (a.symm.trans e)];exact(a,b,f,)
  .rw[if_neg e,if_neg (λz=>e (a.trans z))];exact(a,b,d,)
def KT.put{a:List (List Key×V)}{xs:List (List Key×Addr×Value)}(r:KT H a xs)(k:List Key)(d:H b<*(.tup (k.map kV)))(c:RelV y u):
  KT H (putK a k y) (storedH xs k b u):=by
 have e:(a.any λf=>decide (f.1=k))=(atKey xs k).isSome:=by rw[lg,(r.val k).IP,Option.isSome_map]
 unfold putK storedH;rw[e];by_cases q:(atKey xs k).isSome=true;·rw[if_pos q,if_pos q];exact r.repl k c
 .rw[if_neg q,if_neg q];exact Paired.snoc r (rfl,d,c,)
def KT.keeps{a:List (List Key×V)}{xs:List (List Key×Addr×Value)}(r:KT H a xs)(c:∀b ys,H b<*(.tup ys)->H' b<*(.tup ys)):KT H' a xs:=
 Paired.uf r λ_ _ z=>(z.1,c _ _ z.2.1,z.2.2,)
section
variable {a:Addr}
def rd_of{u:HO}(ok:HOk P w H h)(e:Rd H a u):eA P w H h a u:=e.ok ok
def A7{ks:List Key}(ok:HOk P w H h)(e:H a<*(.tup (ks.map kV))):(rq (aY P w)).is h ks a:=by obtain⟨_,f,r,o,b,c,n,d⟩:=(show eA P w H h a (.tup (ks.map kV))from ok a _ e);exact(o,f.toArray,n,b,c,d,↥(uj r),)
def dt_rd{b:List (List Key×V)}(ok:HOk P w H h)(e:Rd H a (.dT b)):b.length<=sizeLine/\(a==hZ)=false/\
  ∃xs,KT H b xs/\h.DictOfH (rq (aY P w)) a xs:=by
 obtain⟨z,y,xs,r,o,d,c,f,g,i,j,k⟩:=(show eA P w H h a (.dT b)from rd_of ok e);refine(z,y,xs,r,o,d,c,f,g,i,j,λx hx=>?_,k,);have all:∀{l:List (List Key×V)}{m:List (List Key×Addr×Value)},KT H l m->∀x∈m,(rq (aY P w)).is h x.1 x.2.1:=by
  intro l m q
  induction q with
  |nil=>intro x hx;exact nomatch hx
  | @cons p q ps qs hq t ih=>
   intro x hx;rcases aK.mp hx with e|hx;·subst e;exact A7 ok (by rw[<-hq.1];exact hq.2.1)
   .exact ih x hx
 exact all r x hx
def MY{b:List (List Key×V)}(ok:HOk P w H h)(e:H a<*(.dT b)):b.length<=sizeLine/\(a==hZ)=false/\
  ∃xs,KT H b xs/\h.DictOfH (rq (aY P w)) a xs:=dt_rd ok (.inl e)
end
section
variable {pins:List (Addr×Obj)}{s:Shared}{a:Addr}{v:V}{u r:Value}{o:Option V}{E:'I'}
def Inv.big(I:'A'):hZ<⇑s:=by have h:bY<⇑s:=(I.mod.glob.keeps I.bk).lt;exact fX 'E' h
def d_write{c:HO}(I:'A')(g:Mut (H a))(hs:cU a s.heap h')(f:∃q,h'.get? a<*q)(h:eA X.prog X.w (upd H a c) h' a c):
  Inv X pins σ (upd H a c) {s with heap:=h',toks:=t'}:=
 I.write (x:=a) (e:=a) g (.inl rfl) (λb q d z=>(hs.2 b d).trans z) f h
end
def MZ(h:Heap)(a:hZ<h.objs.size):eA P w H (h.push {cls:=.type "dict",data:=.dict #[]}) h.objs.size (.dT []):=
 (bf _,beq_eq_false_iff_ne.mpr (bI (aM a)),[],.nil,_,#[],0,az _ rfl,(rfl,rfl,rfl,),rfl,rfl,fC,)
def Kn:TE:=λ_ H Q=>∀p,H p=none->Q (.ref p) (upd H p (.dT []))
section
def LB:PE X (.Dict [] [] pos) Kn:=λb s c H Q I h=>
 wpAny_Dict_empty (.ref ⇑s,_,I.laid (a:=⇑s) (o:=.dT []) (t':=s.toks) (λ_ _ q=>af _ q) (aC _) (MZ s.heap I.big),rfl,h _ (I.hok.fresh (aC _)),)
end
end L2
namespace Att
open PySem.W PySem.Calls
def vA{P:Params}:∀(ns:List Int)(vs:List Value),WellAll P h vs (ns.map WData.int)->cM vs ns:=by
 intro ns
 induction ns with
 |nil=>intro vs w;rw[p8]at w;cases w;exact .nil
 |cons n ns ih=>
  intro vs w;rw[bw]at w;cases w with
  |cons a b=>cases a;exact .cons _ _ (ih _ b)
def HW{l:OpenLaw}(m:l.most<*n){P:Params}{args:List WData}{vals:List Value}
  (f:l.row.toRowW.claim.pre args=true)(p:WellAll P h vals args):
  ∃a vs ns,vals=[aN a]/\args=[WData.list (ns.map WData.int)]/\h.get? a<*{cls:=.type "list",data:=.seq vs.toArray}/\cM vs ns/\ns.length<=n:=by
 have o:WShape.hasAll [] args [.list .int]=true:=(pre_splitW f).1;have e:l.pre.holds [] {args:=args}=true:=(pre_splitW f).2;obtain⟨d,r,rfl,g,i⟩:=hasAllW_cons o;obtain rfl:=hasAllW_nil i;obtain⟨t,rfl,j⟩:=hasW_list g;obtain⟨ns,rfl⟩:=items_int j;have k:ns.length<=n:=by
  unfold OpenLaw.pre at e;have b:(WTm.not (.lt (.lit (.int (n:Int))) (.len (.arg 0)))).holds [] {args:=[.list (ns.map .int)]}=true:=by have b:=(holds_andW e).1;rw[m]at b;exact b
  have c:=condW_of b (w_not (w_lt w_lit (w_len_list (w_arg rfl))));rw[ao]at c;refine i6 λq=>?_;have s:(n:Int)<((ns.length:Nat):Int):=by lia
  first
   | (rw[decide_eq_true s]at c;exact absurd c 'E')
   | (simp at c;lia)
 cases p with
 |cons w1 w2=>
  cases w2;cases w1 with
  |list ho hall=>exact(_,_,ns,rfl,rfl,ho,vA ns _ hall,k,)
def Ih(l:OpenLaw)(args:List WData):l.row.toRowW.claim.post args (.bool true) args=true:=
 postW_of (r:=l.row.toRowW) (X:=(true==true))
  (show WShape.has [] (.bool true) .bool=true by first |rfl|decide|simp[WShape.has,WShape.arms,WShape.armsAll])
  (show(WTm.eq .res (.lit (.bool true))).value [] {args:=args,res:=some (.bool true),after:=args}<*(.bool (true==true))from w_eq_bool (w_res rfl) w_lit) rfl
def DQ{l:OpenLaw}{q:Program}{XP:(Str->Option Value)->Heap->Prop}{YP:World->Heap->Prop}{d:DefRec}
  (y:l.most<*n)(p:d.params.defaults=[])
  (call:∀(w:World)(c b:Shared)(mg mb:Str->Option Value)(fa:Addr)(o:Obj)(pm cd am:Value)(a:Addr)(vs:List Value)(ns:List Int),
   Ground q loose [] XP w c mg mb b.heap->YP w b.heap->
   b.heap.get? fa<*o->o.data=.func (docDef d.name d.params d.body d.scope pm cd am)->b.heap.CodeRec cd d.name->mg d.name<*(.ref fa)->
   b.heap.get? a<*{cls:=.type "list",data:=.seq vs.toArray}->cM vs ns->ns.length<=n->b.gens= #[]->
   gA (model l.prog w) Hu (.call (.ref fa) ([.ref a],[],)) (λr s'=>r=.ok (.ret (.bool true))/\OldK b.heap s'.heap/\s'.os=b.os/\qb s'.gens) b):
  WalkO q loose XP YP l.row.toRowW d [] (λf vs=>PySem.call f vs):=by
 intro w c b mg mb G Y fa o pm cd am g kV z m k e x s D vals E B F I C H;obtain rfl:g=.none:=Dflts.none e p;obtain rfl:kV=.none:=Dflts.noKw e;obtain⟨a,vs,ns,rfl,rfl,A,t,u⟩:=HW y B C;refine enter_call (ip (call w c b mg mb fa o pm cd am a vs ns G Y z (fd_plain m) k x A t u s) λr s' hq=>?_);obtain⟨rfl,h,i,j⟩:=hq;exact(.inl ⟨.bool true,.bool true,[],rfl,λ_=>rfl,.bool true,Ih l _,λ_=>⟨i9,λ_ v=>(nomatch v)⟩⟩,h,i,j,)
end Att
namespace L2
theorem tM:∀{vs:List Value}{ns:List Int},cM vs ns->bT (ns.map V.int) vs
 |_,_,.nil=>.nil
 |_,_,.cons n t h=>.cons (t,rfl,) (tM h)
noncomputable abbrev KOf{K:ak}{h:Heap}(_:K.In h):ak:=K
noncomputable abbrev CX0:CXT:=λ_ _ _ _ _ _=>False
noncomputable abbrev E0:XK:=λ_ _ _=>False
structure Fun(K:ak)(x qual:Str)(st:Stmt)(f:Addr)(fd:fP):Prop where
 ex:∃(oc:Value)(od:Option Addr)(kV am pm:Value)(an:Option Addr)(ai ct:Value)(bv:Array (Option Value)),
  fd=aP x qual (bV st) (bB st) (aZ st) .none kV am pm an ai ct/\K.lookup f<*(oc,od,.func fd,bv,)/\fq K ai qual=true
 kp:cO K (.ref f)=true
section
variable {mg:Str->Option Value}
def Fun.binds{st:Stmt}{a:fP}{ps:List Str}(F:Fun K x qual st f a)
  (h:∀(kV am pm:Value)(an:Option Addr)(ai ct:Value)(us:List Value),us.length=ps.length->rC (aP x qual (bV st) (bB st) (aZ st) .none kV am pm an ai ct) (us,[],)=pure (ps.zip us)):Binds K a ps []:=by
 obtain⟨d,e,kV,am,pm,an,ai,ct,g,rfl,c,b⟩:=F.ex;exact .all (h kV am pm an ai ct)
def Fo{st:Stmt}{an:Option Addr}{kV:Value}(l:K.lookup f<*(oc,od,.func (aP x qual (bV st) (bB st) (aZ st) .none kV am pm an ai ct),bv,))
  (c:fq K ai qual=true)(k:cO K (.ref f)=true):Fun K x qual st f (aP x qual (bV st) (bB st) (aZ st) .none kV am pm an ai ct):=((oc,od,kV,am,pm,an,ai,ct,bv,rfl,l,c,),k,)
end
def aO(H H':Hp):Prop:=∀b o,H b<*o->H' b<*o
def aO.refl(H:Hp):aO H H:=λ_ _ h=>h
def aO.trans(a:aO H H1)(b:aO H1 H2):aO H H2:=λc o h=>b c o (a c o h)
def aO.free(e:aO H H')(h:H' l=Option.none):H l=Option.none:=by
 cases q:H l with
 |none=>rfl
 |some o=>rw[e l o q]at h;cases h
def aO.seq(e:aO H H')(h:SqL K H a xs):SqL K H' a xs:=by
 rcases h with(h|⟨o,h⟩) |h;·exact .inl (.inl (e _ _ h))
 .exact .inl (.inr (o,e _ _ h,))
 .exact .inr h
section
variable {κ:Type}[DecidableEq κ]
def B7{a:List (κ×V)}{k:κ}(h:fz a k=none):¬k∈a.map (·.1):=by intro m;obtain⟨p,b,e⟩:=aI.mp m;have q:(a.any λc=>decide (c.1=k))=true:=cz.mpr (p,b,decide_eq_true e,);rw[lg,h]at q;exact absurd q 'F'
def valV_in{a:List (κ×V)}{k:κ}{v:V}(h:fz a k<*v):k∈a.map (·.1):=by
 have q:(a.any λc=>decide (c.1=k))=true:=by rw[lg,h];all_goals rfl
 obtain⟨p,b,e⟩:=cz.mp q;exact aI.mpr (p,b,W0 e,)
theorem GP:∀{l:List κ}{k:κ},l.Nodup->¬k∈l->(l++[k]).Nodup
 | [],k,_,_=>by simp
 |a::r,k,h,hk=>by
  obtain⟨b,c⟩:=bN.mp h;show(a::(r++[k])).Nodup;refine bN.mpr (λm=>?_,GP c λm=>hk (aK.mpr (Or.inr m)),);rcases cX.mp m with q|q;·exact b q
  .exact hk (aK.mpr (Or.inl (aU.mp q).symm))
def nd_putK{a:List (κ×V)}{k:κ}(v:V)(b:(a.map (·.1)).Nodup)(h:fz a k=none):((putK a k v).map (·.1)).Nodup:=by rw[Ld v h,dM];exact GP b (B7 h)
end
abbrev gw(cells:List (Str×Addr)):List (Str×eZ)->List (Str×Addr)->List (Str×Addr)
 | [],ac=>ac
 | (n,k)::r,ac=>gw cells r (if k=.free then(n,(cells.lookup n).getD 0)::ac else ac)
theorem qY{env:Env}{f:Str×eZ->List (Str×Addr)->Sem (ForInStep (List (Str×Addr)))}
  (hf:∀n k a c,k=.free->env.cells.lookup n<*c->f (n,k) a=pure (.yield ((n,c)::a)))(b:∀n k a,k≠.free->f (n,k) a=pure (.yield a)):
  ∀(g:List (Str×eZ))(ac:List (Str×Addr)),(∀y∈g,y.2=.free->∃c,env.cells.lookup y.1<*c)->forIn g ac f=(pure (gw env.cells g ac):Sem _)
 | [],ac,_=>rfl
 | (n,k)::r,ac,h=>by
  rw[jq];by_cases e:k=.free;·obtain⟨c,i⟩:=h (n,k) aG e;rw[hf n k ac c e i];show forIn r ((n,c)::ac) f=_;rw[qY hf b r _ λy d=>h y (ax _ d)];simp[gw,e,i]
  .rw[b n k ac e];show forIn r ac f=_;rw[qY hf b r _ λy d=>h y (ax _ d)];simp[gw,e]
def yE{env:Env}(h:∀y∈scope.names,y.2=.free->∃c,env.cells.lookup y.1<*c):JG scope env=pure (gw env.cells scope.names []):=by
 have q:=qY (env:=env) (f:=λx b=>match x with | (name,kind)=>if(kind==cL)=true then(do let a<-cellOf env name;pure (iW ((name,a)::b)))else pure (iW b))
  (λn k a c e g=>by
   subst e;simp only[cellOf,g];rfl) (λn k a e=>by
   have d:(k==cL)=false:=by simpa using e
   simp only[d,aJ,if_false]) scope.names [] h
 unfold JG;show(forIn scope.names [] _>>=λr=>pure r)=_;exact(congrArg (·>>=λr=>pure r) q).trans rfl
theorem mn{cells:List (Str×Addr)}:∀(a:List (Str×eZ))(ac:List (Str×Addr))(x:Str)(c:Addr),(gw cells a ac).lookup x<*c->
  ((x,cL)∈a/\c=(cells.lookup x).getD 0)\/ac.lookup x<*c
 | [],ac,x,c,h=>.inr h
 | (n,k)::r,ac,x,c,h=>by
  rcases mn r _ x c h with⟨q,e⟩ |q;·exact .inl (ax _ q,e,)
  .by_cases e:k=.free
   .rw[if_pos e,bg]at q;cases hx:x==n with
    |true=>
     rw[hx]at q;have b:x=n:=by simpa using hx
     subst b;subst e;exact .inl (aG,(aW q).symm,)
    |false=>rw[hx]at q;exact .inr q
   .rw[if_neg e]at q;exact .inr q
theorem xS{cells:List (Str×Addr)}:∀(a:List (Str×eZ))(ac:List (Str×Addr))(x:Str),(ac.lookup x).isSome=true->((gw cells a ac).lookup x).isSome=true
 | [],ac,x,h=>h
 | (n,k)::r,ac,x,h=>by
  refine xS r _ x ?_;split;·rw[bg];cases x==n<;>simp_all
  .exact h
theorem qZ{cells:List (Str×Addr)}:∀(a:List (Str×eZ))(ac:List (Str×Addr))(x:Str),(x,cL)∈a->((gw cells a ac).lookup x).isSome=true
 | [],ac,x,h=>by simp at h
 | (n,k)::r,ac,x,h=>by
  rcases aK.mp h with q|q;·cases q;refine xS r _ n ?_;simp[bg]
  .exact qZ r _ x q
theorem gJ:∀(a:List (Str×eZ))(n:Nat)(ac:List (Str×Addr)),cZ n a ac=cZ n a []++ac
 | [],_,_=>rfl
 | (x,k)::r,n,ac=>by
  unfold cZ;split;·rw[gJ r (n+1) ((x,n)::ac),gJ r (n+1) [(x,n)],fT];rfl
  .exact gJ r n ac
theorem mr:∀(a:List (Str×eZ))(n:Nat)(ac:List (Str×Addr))(x:Str),(ac.lookup x).isSome=true->((cZ n a ac).lookup x).isSome=true
 | [],_,_,_,h=>h
 | (y,k)::r,n,ac,x,h=>by
  unfold cZ;split;·refine mr r _ _ x ?_;rw[bg];cases x==y<;>simp_all
  .exact mr r _ _ x h
theorem jL:∀(a:List (Str×eZ))(n:Nat)(ac:List (Str×Addr))(x:Str),(x,dz)∈a->((cZ n a ac).lookup x).isSome=true
 | [],_,_,_,h=>nomatch h
 | (y,k)::r,n,ac,x,h=>by
  unfold cZ;rcases aK.mp h with q|q;·cases q;rw[if_pos (by rfl)];refine mr r _ _ _ ?_;simp[bg]
  .split;·exact jL r _ _ x q
   .exact jL r _ _ x q
theorem mo:∀(a:List (Str×eZ))(n:Nat)(ac:List (Str×Addr))(x:Str)(c:Addr),(x,c)∈cZ n a ac->(x,dz)∈a\/(x,c)∈ac
 | [],_,_,_,_,h=>.inr h
 | (y,k)::r,n,ac,x,c,h=>by
  unfold cZ at h;split at h
  .rename_i hk;rcases mo r _ _ x c h with q|q;·exact .inl (ax _ q)
   .rcases aK.mp q with e|e
    .cases e;have :k=.cell:=by simpa using hk
     subst this;exact .inl aG
    .exact .inr e
  .rcases mo r _ _ x c h with q|q;·exact .inl (ax _ q)
   .exact .inr q
def Fw{M:Model}{d:Addr}{b:List (Str×Addr)}{c:Value}{outer:Env}{a:Addr}{Q:Env->Shared->Prop}
  (h:Q (newEnv scope ⇑s d (cZ (⇑s+1) scope.names b) qual func c (some outer) a) {s with heap:=pushCells (s.heap.push {cls:=.type "dict",data:=.dict #[]}) scope.names}):
  wpAny M A (newFunctionEnv scope d b [] qual func c (some outer) a) Q E s:=by
 simp only[newFunctionEnv,gK,if_true];refine aa (wpAny_alloc ?_);refine aa (wpAny_layCells _ (λname kind e=>by cases hkc:kind==dz<;>simp[hkc]) _ _ _ _ ?_);rw[show({s with heap:=s.heap.push {cls:=.type "dict",data:=.dict #[]}}:Shared).heap.objs.size=⇑s+1 from bL ..];rw[mP];exact aa (aj (aj h))
structure pV(X:Cx)(N':List Str)(sc:Scope):Prop where
 kind:sc.kind=.function
 cellk:∀y∈sc.names,y.2=.cell->sc.names.lookup y.1<*.cell
 own:∀y∈sc.names,y.2=.local->sc.names.lookup y.1<*.local
 free:∀y∈sc.names,y.2=.free->X.env.kindOf y.1<*.cell\/X.env.kindOf y.1<*.free
abbrev eU(X:Cx)(N':List Str)(sc:Scope)(C:Addr)(s₀:Shared)(H₀:Hp)(fp:List Addr):Cx:=
 {X with N:=N',s₀:=s₀,H₀:=H₀,env:=compEnvC sc (cZ (C+1) sc.names (gw X.env.cells sc.names [])) C X.env,outer:=X.stack,stack:=X.stack,ex:=fp,fn:=λx=>sc.names.any λy=>decide (y.1=x)&&decide (y.2=.cell),pn:=[],xe:=λ_ _=>False}
theorem oV{env:Env}:∀{a:List (Str×eZ)}{x:Str}{k:eZ},
  (a.map λ(n,k)=>if(k==cL&&env.scope.kind== .function&&env.kindOf n==some .cell)then(n,dz)else(n,k)).lookup x<*k->
  a.lookup x<*k\/(a.lookup x<*.free/\k=.cell)
 | [],_,_,h=>by simp at h
 | (n,k)::r,x,k',h=>by
  have b:= @oV env r x k';rw[bw]at h;change dH x ((if(k==cL&&env.scope.kind== .function&&env.kindOf n==some .cell)=true then(n,dz)else(n,k))::_)=_ at h;cases hx:x==n with
  |true=>
   by_cases hc:(k==cL&&env.scope.kind== .function&&env.kindOf n==some .cell)=true
   .rw[if_pos hc]at h;simp only[bg,hx]at h⊢;have :k=.free:=by have :=hc;simp only[aB]at this;simpa using this.1.1
    subst this;exact .inr (rfl,(aW h).symm,)
   .rw[if_neg hc]at h;simp only[bg,hx]at h⊢;exact .inl h
  |false=>
   have e:dH x (r.map λ(n,k)=>if(k==cL&&env.scope.kind== .function&&env.kindOf n==some .cell)then(n,dz)else(n,k))<*k':=by split at h<;>simpa only[bg,hx]using h
   simp only[bg,hx];exact b e
theorem iC{env:Env}:∀{a:List (Str×eZ)}{x:Str},a.lookup x<*.free->
  (a.map λ(n,k)=>if(k==cL&&env.scope.kind== .function&&env.kindOf n==some .cell)then(n,dz)else(n,k)).lookup x<*.free\/
  (a.map λ(n,k)=>if(k==cL&&env.scope.kind== .function&&env.kindOf n==some .cell)then(n,dz)else(n,k)).lookup x<*.cell
 | [],_,h=>by simp at h
 | (n,k)::r,x,h=>by
  have b:= @iC env r x;rw[bw];change dH x ((if(k==cL&&env.scope.kind== .function&&env.kindOf n==some .cell)=true then(n,dz)else(n,k))::_)=_\/dH x ((if(k==cL&&env.scope.kind== .function&&env.kindOf n==some .cell)=true then(n,dz)else(n,k))::_)=_;cases hx:x==n with
  |true=>
   simp only[bg,hx]at h;cases h;by_cases hc:(cL==cL&&env.scope.kind== .function&&env.kindOf n==some .cell)=true;·rw[if_pos hc];right;simp only[bg,hx]
   .rw[if_neg hc];left;simp only[bg,hx]
  |false=>simp only[bg,hx]at h;split <;>simpa only[bg,hx]using b h
theorem gX{env:Env}:∀{a:List (Str×eZ)}{x:Str}{k:Option eZ},a.lookup x=k->k≠some .free->
  (a.map λ(n,k)=>if(k==cL&&env.scope.kind== .function&&env.kindOf n==some .cell)then(n,dz)else(n,k)).lookup x=k
 | [],_,_,h,_=>by simpa using h
 | (n,k)::r,x,k',h,hf=>by
  have d:= @gX env r x k';rw[bw];change dH x ((if(k==cL&&env.scope.kind== .function&&env.kindOf n==some .cell)=true then(n,dz)else(n,k))::_)=_;cases hx:x==n with
  |true=>
   simp only[bg,hx]at h;have c:k≠.free:=λe=>hf (by rw[<-h,e]);have b:(k==cL)=false:=by simpa using c
   rw[if_neg (by rw[b];simp)];simp only[bg,hx];exact h
  |false=>simp only[bg,hx]at h;split <;>simpa only[bg,hx]using d h hf
def zi{a:List (Str×Addr)}{env:Env}{k:eZ}(h:(compEnvC sc a C env).kindOf x<*k):sc.names.lookup x<*k\/(sc.names.lookup x<*.free/\k=.cell):=oV (env:=env) h
def FG{R:Result->Shared->Prop}{f d iter:Expr}{g:List Expr}{b e:Value}{env:Env}(I:Nat->Shared->Prop)
  (turn:∀n s,I n s->'B' (pyNext b) (λr i=>match r with
   |none=>R (.ok .next) i
   |some v=>'B' (tG d b v) (λ_ o=>'B' (assign d env v) (λ_ p=>
     'B' (forIn g true λc r=>if r=true then do let ok<-isTrue c env (eval c env);pure (iW ok)else pure (iW r)) (λok j=>
      if ok=true then 'B' (eval f env) (λx q=>
       'B' (call (.builtin "list.append") [e,x]) (λ_ t=>∃m,m<n/\I m t) (λ_ _=>False) q) (λ_ _=>False) j
      else ∃m,m<n/\I m j) (λ_ _=>False) p) (λ_ _=>False) o) (λ_ _=>False) i) (λ_ _=>False) s)
  (n:Nat) (h:I n s):
  gA (model prog w) A (.compLoop (.ListComp f [(d,iter,g,0,)] scope pos) 0 b e env) R s:=by
 refine codeAny_loop rfl I (λn s u=>?_) n h;show wpAny _ A ((compTurn (.ListComp f [(d,iter,g,0,)] scope pos) 0 b e env).onRaise (λx=>do oE x env;theTreesLotGoes x)) _ _ s;refine wpAny_noted ?_;rw[compTurn_list];refine aa (iI (aa (dy (turn n s u) (λr i k=>?_) λ_ _ a=>a.elim)));cases r with
 |none=>exact aj k
 |some v=>
  refine aa (dy k (λ_ o y=>?_) λ_ _ a=>a.elim);refine aa (dy y (λ_ p z=>aa (dy z (λok j l=>?_) λ_ _ a=>a.elim)) λ_ _ a=>a.elim);cases ok with
  |false=>exact aj (rfl,l,)
  |true=>exact aa (aa (dy l (λx q B=>aa (dy B (λ_ t C=>aj (aj (rfl,C,))) λ_ _ a=>a.elim)) λ_ _ a=>a.elim))
def PTs(X:Cx)(ifs:List Expr)(t:TT):Prop:=
 ∀(pins:List (Addr×Obj))(s:Shared)(σ:St)(H:Hp)(Q:Bool->Hp->Prop),'A'->t σ H Q->
  'C' (forIn ifs true λc r=>if r=true then do let ok<-isTrue c X.env (eval c X.env);pure (iW ok)else pure (iW r)) (TP X pins σ Q) X.xe s
def tYes:TT:=λ_ H Q=>Q true H
def pts_nil:PTs X [] tYes:=by intro a s b H Q I h;rw[mP];exact aj (H,I,h,)
def pts_one{c:Expr}{t:TT}(h:PT X c t):PTs X [c] t:=by intro d s f H Q I a;rw[jq];simp only[if_true];refine aa (aa (thn (h d s f H Q I a) λb e q=>?_));refine aj ?_;show wpAny _ _ (forIn ([]:List Expr) b _) _ _ e;rw[mP];exact aj q
def yQ(wi:TI)(g:TG)(tc:TT)(te:TE)(mk:St->St):TE:=λσ H Q=>wi σ H λJ H1=>∃W:Nat->Nat->St->List V->Hp->Prop,(∃m,W 0 m (mk σ) [] H1)/\
 ∀i m h ac H2,W i m h ac H2->(J.stop i H2/\∀l,H2 l=none->Q (.ref l) (upd H2 l (.lst ac)))\/(J.go i H2/\∃N:St->List V->Hp->Prop,(∀j e H',N j e H'->∃f,f<m/\W (i+1) f j e H')/\
  ∀x c,J.yld i H2 x c->g x h c λa k=>tc a k λb d=>if b=true then te a d λv n=>ac.length<sizeLine/\N a (ac++[v]) n else N a ac d)
def Inv.track{o:HO}(I:'A')(hf:pH X pins H a)(p:eA X.prog X.w (upd H a o) s.heap a o):Inv X pins σ (upd H a o) s:=by
 obtain⟨g,h,t,i,j,k⟩:=hf;have :=I.step (g':=s.gens) (d':=s.drawn) (t':=s.toks) (h':=s.heap) (H':=upd H a o) (ch:=[a]) (λb d=>by
   have e:b=a:=by simpa using d
   subst e;exact(i,h,j,k,))
  (λb f _ _ _ q _=>q) (λb f _ _ _ q _=>(f.slots,q,)) (λb f d q n=>by rw[bj (λz=>d (by simp[z]))];exact n) (λb f _ q=>(f,q,))
  (λb r q=>by rw[bj (cA q g)];exact q) (λb f u q=>by rw[bj (cA q g)];exact q) (λb w q=>⟨#[],by rw[bj (cA q g),q];simp⟩)
  (λm l=>l) (λb u q=>by
   by_cases d:b=a;·subst d;rw[aD]at q;cases q;exact p
   .rw[bj d]at q;exact(I.hok b u q).mf (λc v _ e=>e) (λc e=>by rw[bj (cA e g)];exact e) λc r e=>by rw[bj (cA e g)];exact e) I.bare
 exact this
def FV{Q:'I'}(I:'A')(hf:pH X pins H a)
  (e:s.heap.get? a<*{cls:=.type "list",data:=.seq ad.toArray n}) (hz:ad.length<sizeLine)
  (h:∀h' m,Inv X pins σ H {s with heap:=h'}->h'.get? a<*{cls:=.type "list",data:=.seq (ad++[u]).toArray m}->(∀b o,b≠a->s.heap.get? b<*o->h'.get? b<*o)->Q .none {s with heap:=h'}):
  'C' (call (.builtin "list.append") [.ref a,u]) Q E s:=by
 refine lM F.slot_list_append (_,e,rfl,) F.entry_list_append (F.args_list_append_2 _ _) (PySem.list_append a ad.toArray n u (by rw[aE];lia)) (e,?_,);have q:=JJ e (·.push u);have c:ad.toArray.push u=(ad++[u]).toArray:=by simp
 rw[c]at q;have k:∀b o,b≠a->s.heap.get? b<*o->(s.heap.update a (bq (·.push u))).get? b<*o:=λb o l z=>(aX s.heap _ (bI l)).trans z;obtain⟨d,f,p,g,i,j⟩:=hf;exact h _ _ (I.turned (t':=s.toks) k d f g i j) q k
section
variable {N':List Str}{elt iter:Expr}{ifs:List Expr}{wi:TI}{g:TG}{tc:TT}{te:TE}{mk:St->St}
def MkOk(X:Cx)(N':List Str)(sc:Scope)(mk:St->St):Prop:=
 ∀σ:St,σ.length=X.N.length->(mk σ).length=N'.length/\∀(i:Nat)(x:Str)(v:V),N'[i]?<*x->(mk σ)[i]?<*(some v)->sc.names.lookup x<*.free/\∃j:Nat,X.N[j]?<*x/\σ[j]?<*(some v)
def zy{Q:VK}{use:Option (Value->Sem Unit)}(S:pV X N' sc)(hm:MkOk X N' sc mk)(hc:X.calm=true)
  (hi:PI X tg iter wi)
  (a:∀C a5 a2 fp,(eU X N' sc C a5 a2 fp).Ok->PG (eU X N' sc C a5 a2 fp) tg g/\PTs (eU X N' sc C a5 a2 fp) ifs tc/\PE (eU X N' sc C a5 a2 fp) elt te)
  (hs:∀x,kT iter X.env x=pure x)(I:'A')(h:yQ wi g tc te mk σ H Q)
  (e7:∀(l C:Addr)(H':Hp)(s':Shared)(m:Str->Option Value),Inv X pins σ H' s'->s'.heap.Ns C m->pH X pins H' C->(∃o,s'.heap.get? C<*o/\∀v,o.data≠.cell v)->Q (.ref l) H'->compPost (model X.prog X.w) X.A X.xe use QQ (.ref l) C (.ok .next) s'):
  'C' (comprehension (.ListComp elt [(tg,iter,ifs,0,)] sc pos) sc X.env (firstIterPos [(tg,iter,ifs,0,)] pos) (newList []) false (eval iter X.env) use) QQ X.xe s:=by
 have c4:∀y∈sc.names,y.2=.free->∃c,X.env.cells.lookup y.1<*c:=λy hy hf=>I.ok.has _ (S.free y hy hf);refine wpAny_comprehension_free (use:=use) rfl hs (yE c4) S.kind S.own ?_;refine thn (hi pins s σ H _ I h) λv s1 h1=>thn h1 λh5 s2 h2=>?_;obtain⟨it,fp,tn,J,f,e,F,T,d3,Y,d9,⟨m0,w0⟩,turn⟩:=h2;subst e
 --the list
 refine bR ?_;have f1:f ⇑s2=none:=F.fresh;have fD:pH X pins f ⇑s2:=F.Ba (aC _) f1;have b9:(s2.heap.push {cls:=.type "list",dict:=none,data:=.seq ([]:List Value).toArray}).get? ⇑s2<*{cls:=.type "list",data:=.seq ([]:List Value).toArray 0}:=az _ rfl;have k:Inv X pins σ f {s2 with heap:=s2.heap.push {cls:=.type "list",dict:=none,data:=.seq ([]:List Value).toArray}}:=F.kept (t':=s2.toks) λb o e=>af _ e
 --the block's frame
 refine Fw ?_;dsimp only;have b3:(s2.heap.push {cls:=.type "list",dict:=none,data:=.seq ([]:List Value).toArray}).objs.size=⇑s2+1:=bL ..;have c2:⇑s2≠(s2.heap.push {cls:=.type "list",dict:=none,data:=.seq ([]:List Value).toArray}).objs.size:=by rw[b3];exact aM (dj _)
 have R:∀b o,s2.heap.get? b<*o->(s2.heap.push {cls:=.type "list",dict:=none,data:=.seq ([]:List Value).toArray}).get? b<*o:=λb o e=>af _ e;generalize hH3:s2.heap.push {cls:=.type "list",dict:=none,data:=.seq ([]:List Value).toArray}=P3 at k b3 b9 c2 R⊢;generalize hD:⇑s2=D0 at *;have c5:(pushCells (P3.push {cls:=.type "dict",data:=.dict #[]}) sc.names).Ns P3.objs.size (λ_=>none):=(Heap.Ns.new P3 (.type "dict")).keeps (pushCells_keeps _ _);have U:∀b o,P3.get? b<*o->(pushCells (P3.push {cls:=.type "dict",data:=.dict #[]}) sc.names).get? b<*o:=λb o e=>pushCells_keeps _ _ b o (af _ e);have V:=cellsFrom_ok sc.names (P3.push {cls:=.type "dict",data:=.dict #[]}) (P3.objs.size+1) [] (λ_ _ hm=>(nomatch hm),i9,) (by rw[bL];exact aC _);rw[bL]at V;generalize pushCells (P3.push {cls:=.type "dict",data:=.dict #[]}) sc.names=h4 at c5 U V⊢
 --the context
 have c1:∀b∈fp,b<D0:=λb a=>by obtain⟨o,e,_⟩:=T.obj _ _ d3 b a;rw[<-hD];exact aA e
 have a8:D0<P3.objs.size:=by rw[b3];exact dj _
 have B:∀x c,(gw X.env.cells sc.names []).lookup x<*c->X.env.cells.lookup x<*c/\(x,cL)∈sc.names:=λx c e=>by
  rcases mn _ _ x c e with⟨q,e'⟩ |q;·obtain⟨O,a0⟩:=c4 _ q rfl;have e9:X.env.cells.lookup x<*O:=a0;rw[e9]at e'⊢;exact(by rw[e'];rfl,q,)
  .simp at q
 have b8:∀x c,(gw X.env.cells sc.names []).lookup x<*c->c<P3.objs.size:=λx c e=>by obtain⟨v,o,j,_⟩:=k.cell x c (B x c e).1;exact aA j
 have P:∀x c,(cZ (P3.objs.size+1) sc.names (gw X.env.cells sc.names [])).lookup x<*c->((x,c)∈cZ (P3.objs.size+1) sc.names []/\P3.objs.size+1<=c/\h4.IsCell c none)\/(gw X.env.cells sc.names []).lookup x<*c:=λx c e=>by
  rw[gJ,vq]at e;cases j:(cZ (P3.objs.size+1) sc.names []).lookup x with
  |none=>rw[j]at e;exact .inr e
  |some O=>rw[j]at e;cases e;have m:=bO j;exact .inl (m,(V.empty x c m).2,(V.empty x c m).1,)
 have b7:∀x,sc.names.lookup x<*.free->(cZ (P3.objs.size+1) sc.names (gw X.env.cells sc.names [])).lookup x=(gw X.env.cells sc.names []).lookup x:=λx hf=>by
  rw[gJ,vq];cases j:(cZ (P3.objs.size+1) sc.names []).lookup x with
  |none=>rfl
  |some O=>
   rcases mo _ _ _ _ _ (bO j)with q|q;·have :=S.cellk _ q rfl;rw[hf]at this;cases this
   .cases q
 have G:∀b∈D0::fp,pH X pins f b/\b<P3.objs.size:=λb a=>by
  rcases aK.mp a with z|z;·rw[z];exact(fD,a8,)
  .exact(Y b z,fX (c1 b z) a8,)
 have ok:(eU X N' sc P3.objs.size {s2 with heap:=P3} f (D0::fp)).Ok:=by
  refine(I.ok.mod,S.kind,I.ok.glob,I.ok.blt,aC _,λx y c h1 h2=>?_,λx hx=>?_,λx c z=>?_,λz=>I.ok.hd z,I.ok.frames,.inl rfl,λb a=>(?_,λx c e=>?_,),k.bs,aT I.ok.bsz k.sz,λb o e a=>?_,λb a z=>?_,k.stack,k.Ah,)
  .rcases P x c h1 with⟨m1,l1,_⟩ |q1<;>rcases P y c h2 with⟨m2,l2,_⟩ |q2;·exact PySem.name_of_addr V.apart m1 m2
   .exact absurd l1 (Nat.not_le.mpr (bA (b8 y c q2)))
   .exact absurd l2 (Nat.not_le.mpr (bA (b8 x c q1)))
   .exact I.ok.inj x y c (B x c q1).1 (B y c q2).1
  .have q:sc.names.lookup x<*.free\/sc.names.lookup x<*.cell:=by
    rcases hx with hx|hx
    .rcases zi hx with q|q;·exact .inr q
     .exact .inl q.1
    .rcases zi hx with q|q;·exact .inl q
     .exact .inl q.1
   rcases q with q|q;·have h1:=cW.mp (qZ (cells:=X.env.cells) _ [] _ (bO q));show ∃c,(cZ (P3.objs.size+1) sc.names (gw X.env.cells sc.names [])).lookup x<*c;rw[b7 x q];exact h1
   .exact cW.mp (jL _ _ _ _ (bO q))
  .have z:(sc.names.any λy=>decide (y.1=x)&&decide (y.2=dz))=true:=z;obtain⟨y,hy,e⟩:=cz.mp z;rw[aB,decide_eq_true_eq,decide_eq_true_eq]at e;intro hc;rcases P x c hc with⟨_,l1,_⟩ |q1;·show P3.objs.size<=c;lia
   .have hk:=S.cellk y hy e.2;rw[e.1]at hk;rcases mn _ _ x c q1 with⟨q,_⟩ |q
    .have h2:(cZ (P3.objs.size+1) sc.names []).lookup x≠none:=λh=>by have :=jL sc.names (P3.objs.size+1) [] x (bO hk);rw[h]at this;cases this
     have a0:(cZ (P3.objs.size+1) sc.names (gw X.env.cells sc.names [])).lookup x<*c:=hc;rw[gJ,vq]at a0;cases j:(cZ (P3.objs.size+1) sc.names []).lookup x with
     |none=>exact absurd j h2
     |some O=>rw[j]at a0;cases a0;have :=(V.empty x c (bO j)).2;show P3.objs.size<=c;lia
    .cases q
  .exact aM (G b a).2
  .rcases P x c e with⟨_,l1,_⟩ |q1;·have :=(G b a).2;exact λz=>by subst z;lia
   .exact(G b a).1.2.2.2.2.1 x c (B x c q1).1
  .rcases(G b a).1.2.2.2.1 with z|z;·exact I.ok.noex b o e z
   .exact absurd (bu (aA e) (aT I.ok.bsz z)) (dW _)
  .rcases aK.mp (F.EA b z)with q|q;·exact(G b a).1.2.1 q
   .exact(G b a).1.2.2.1 q
 obtain⟨pg,pt,pe⟩:=a _ _ _ _ ok;have I4:Inv (eU X N' sc P3.objs.size {s2 with heap:=P3} f (D0::fp)) [] (mk σ) f {s2 with heap:=h4}:=by
  obtain⟨ml,f5⟩:=hm σ I.len;have c8:∀x c v,X.env.cells.lookup x<*c->P3.IsCell c v->h4.IsCell c v:=λx c v e ⟨o,j,hd⟩=>(o,U c o j,hd,);refine(ok,rfl,F.bare,Un.kept U,(_,c5,λi x v e1 e2 e3=>?_,),λx c e=>?_,k.hok.fresh (aC _),λx c e=>?_,λp L=>absurd (show p∈([]:List (Addr×Obj))from L) 'F',k.hok.kept U,ml,)
  .obtain⟨hf,f6,hj,hv⟩:=f5 i x v e1 e2;obtain⟨m,K,hl⟩:=k.loc;have kx:=S.free (x,.free) (bO hf) rfl;obtain⟨u,b2,l⟩:=hl f6 x v hj hv (by
    rcases kx with q|q;·exact .inr (.inl q)
    .exact .inr (.inr q))
   refine(u,b2,.inr (?_,?_,),)
   .rcases iC (env:=X.env) hf with q|q;·exact .inr q
    .exact .inl q
   .rcases l with⟨q,_⟩ |⟨_,c,c3,f0⟩;·have c7:X.env.kindOf x<*.cell\/X.env.kindOf x<*.free:=kx;rw[q]at c7;rcases c7 with z|z<;>cases z
    .obtain⟨O,q⟩:=cW.mp (qZ (cells:=X.env.cells) _ [] _ (bO hf));have :=(B x O q).1;rw[c3]at this;cases this;exact(c,by show(cZ (P3.objs.size+1) sc.names (gw X.env.cells sc.names [])).lookup x<*c;rw[b7 x hf];exact q,c8 x c _ c3 f0,)
  .rcases P x c e with⟨_,_,hv⟩ |q1;·exact(none,hv,)
   .obtain⟨v,hv⟩:=k.cell x c (B x c q1).1;exact(v,c8 x c v (B x c q1).1 hv,)
  .rcases P x c e with⟨_,l1,_⟩ |q1;·exact k.hok.fresh (by show P3.objs.size<=c;lia)
   .exact k.freeC x c (B x c q1).1
 have d4:tn 0 h4:=T.keep _ _ _ d3 λb a o e=>U b o (R b o e);have f4:∀{H':Hp}{b:Addr},b∈D0::fp->H' b=none->pH (eU X N' sc P3.objs.size {s2 with heap:=P3} f (D0::fp)) [] H' b:=λ{H' b} a K=>
  ⟨K,(ok.exf b a).1,ok.exfs b a,.inl a,(ok.exf b a).2,λp L=>absurd (show p∈([]:List (Addr×Obj))from L) 'F'⟩
 have a3:∀{b:Addr},b∈fp->b∈D0::fp:=λa=>ax _ a;have nD:∀b∈fp,b≠D0:=λb a=>aM (c1 b a)
 --the b1
 have b1:gA (model X.prog X.w) X.A (.compLoop (.ListComp elt [(tg,iter,ifs,0,)] sc pos) 0 (.ref it) (.ref D0) (compEnvC sc (cZ (P3.objs.size+1) sc.names (gw X.env.cells sc.names [])) P3.objs.size X.env))
   (compPost (model X.prog X.w) X.A X.xe use QQ (.ref D0) P3.objs.size) {s2 with heap:=h4}:=by
  refine FG (λn s'=>∃i D r H' t f7,Inv (eU X N' sc P3.objs.size {s2 with heap:=P3} f (D0::fp)) [] D H' s'/\tn i s'.heap/\(∀b∈D0::fp,H' b=none)/\bT r t/\r.length<=sizeLine/\
    s'.heap.get? D0<*{cls:=.type "list",data:=.seq t.toArray f7}/\d9 i n D r H') ?_ m0
   (0,mk σ,[],_,[],0,I4,d4,λb a=>(G b a).1.1,.nil,bf _,U _ _ b9,w0,)
  rintro n A ⟨i,D,r,E,t,kk,I5,d5,Z,a6,c6,e5,w5⟩;have b5:Inv (eU X N' sc P3.objs.size {s2 with heap:=P3} f (D0::fp)) ([]++j8 [D0] A.heap) D E A:=by
   refine I5.pinned (λb a=>?_) (λb a=>?_)
   .have z:b=D0:=by simpa using a
    rw[z];exact f4 aG (Z D0 aG)
   .have z:b=D0:=by simpa using a
    rw[z];exact⟨_,e5,λv z=>by cases z⟩
  obtain q|⟨go,NN,hN,step⟩:=turn i n D r E w5
  .obtain⟨g9,q⟩:=q;refine thn (T.done (eU X N' sc P3.objs.size {s2 with heap:=P3} f (D0::fp)) rfl rfl rfl hc i _ A D E (λ_ _=>False) b5 (λb a=>?_) d5 g9) λb2 M ⟨hr,b6⟩=>?_
   .obtain⟨g0,g1,g2,g3,g4,_⟩:=f4 (a3 a) (Z b (a3 a));refine(g0,g1,g2,g3,g4,λp L=>?_,);have b0:p∈j8 [D0] A.heap:=by simpa[eU]using L
    obtain⟨z,_⟩:=ub b0;have z':p.1=D0:=by simpa using z
    rw[z'];exact(nD b a).symm
   subst hr;have N:=b6.jh;have e6:M.heap.get? D0<*{cls:=.type "list",data:=.seq t.toArray kk}:=(b6.pin (D0,_) (bz _ (bz _ (jz 'F' e5)))).1
   --back in the context around
   have un:Un (frs X.stack) fp f E s2.heap M.heap:=by
    have u:=N.base;have nb:∀b o,s2.heap.get? b<*o->b∉fp->b∉D0::fp:=λb o e a z=>by
     rcases aK.mp z with z|z;·exact absurd (aA e) (by rw[z,hD];exact dW _)
     .exact a z
    exact(λb o e n a hx=>u.keep b o (R b o e) n a (nb b o e hx),λb o e n a hx=>u.slot b o (R b o e) n a (nb b o e hx),λb o e n hx=>u.free b o (R b o e) n (nb b o e hx),λb o e hx=>u.there b o (R b o e) (nb b o e hx),u.tups,u.frzs,u.tbls,)
   have I7:Inv X pins σ E M:=by obtain⟨hh,g6,d6,t6,g5⟩:=M;have eo:g5=s2.os:=N.os;subst eo;exact F.call (h':=hh) (g':=g6) (d':=d6) (t':=t6) (ch:=fp) un N.hok N.bare λb a=>((Y b a).2.2.2.1,(Y b a).2.1,(Y b a).2.2.2.2.1,(Y b a).2.2.2.2.2,)
   have e4:pH X pins E D0:=(Z D0 aG,fD.2,);have I8:=I7.track (o:=.lst r) e4 (show eA X.prog X.w _ M.heap D0 (.lst r)from(c6,t,kk,a6,e6,));obtain⟨m,K,_⟩:=id N.loc;refine e7 _ P3.objs.size _ M m I8 K (F.Ba (by rw[hD];exact i7 a8) (by rw[bj (bI c2)];exact N.free)) ?_ (q D0 (Z D0 aG));obtain⟨o,es,ep,j,hd,_⟩:=K;exact⟨o,j,λv z=>by rw[hd]at z;cases z⟩
  .skip
   have c0:∀{H':Hp}{b:Addr},b∈fp->H' b=none->pH (eU X N' sc P3.objs.size {s2 with heap:=P3} f (D0::fp)) ([]++j8 [D0] A.heap) H' b:=λ{H' b} a K=>by
    obtain⟨g0,g1,g2,g3,g4,_⟩:=f4 (H':=H') (a3 a) K;refine(g0,g1,g2,g3,g4,λp L=>?_,);have b0:p∈j8 [D0] A.heap:=by simpa[eU]using L
    obtain⟨z,_⟩:=ub b0;have z':p.1=D0:=by simpa using z
    rw[z'];exact(nD b a).symm
   refine thn (T.item (eU X N' sc P3.objs.size {s2 with heap:=P3} f (D0::fp)) rfl rfl rfl hc i _ A D E (λ_ _=>False) b5 (λb a=>c0 a (Z b (a3 a))) d5 go) λb2 M ⟨u,hr,h6⟩=>?_;subst hr;refine thn h6 λ_ s7 ⟨x,H7,I7,r7,y7,a4,e8⟩=>?_;have d8:=I7.pinned (λb a=>c0 a (e8 b a)) (T.obj _ _ a4);refine thn (pg _ s7 D H7 x u _ d8 r7 (step x H7 y7)) λ_ s8 ⟨W,H8,I8,q8⟩=>?_;refine thn (pt _ s8 W H8 _ I8 q8) λb s9 ⟨H9,I9,q9⟩=>?_;have c9:∀{a1:St}{H':Hp}{s':Shared},Inv (eU X N' sc P3.objs.size {s2 with heap:=P3} f (D0::fp)) ([]++j8 [D0] A.heap++j8 fp s7.heap) a1 H' s'->s'.heap.get? D0<*{cls:=.type "list",data:=.seq t.toArray kk}/\H' D0=none:=λ{a1 H' s'} J=>by have :=J.pin (D0,_) (bz _ (cF _ (bz _ (jz 'F' e5))));exact(this.1,this.2.1,)
   have d0:∀{a1:St}{H':Hp}{s':Shared},Inv (eU X N' sc P3.objs.size {s2 with heap:=P3} f (D0::fp)) ([]++j8 [D0] A.heap++j8 fp s7.heap) a1 H' s'->(∀b∈fp,∀o,s7.heap.get? b<*o->s'.heap.get? b<*o)/\(∀b∈fp,H' b=none):=λ{a1 H' s'} J=>by refine(λb a o e=>(J.pin (b,o) (bz _ (bz _ (jz a e)))).1,λb a=>?_,);obtain⟨o,e,d⟩:=T.obj _ _ a4 b a;exact(J.pin (b,o) (bz _ (bz _ (jz a e)))).2.1
   cases b with
   |false=>
    rw[if_neg 'E']at q9⊢;obtain⟨m',a9,w7⟩:=hN W r H9 q9;obtain⟨d1,d2⟩:=c9 I9;obtain⟨p1,p2⟩:=d0 I9;refine(m',a9,i+1,W,r,H9,t,kk,I9.jh.jh,T.keep _ _ _ a4 p1,λb a=>?_,a6,c6,d1,w7,);rcases aK.mp a with z|z;·rw[z];exact d2
    .exact p2 b z
   |true=>
    rw[if_pos rfl]at q9⊢;refine thn (pe _ s9 W H9 _ I9 q9) λy h7 ⟨z,b4,a7,g8,g7⟩=>?_;obtain⟨h3,f9⟩:=g7;obtain⟨m',a9,w7⟩:=hN W _ b4 f9;obtain⟨d1,d2⟩:=c9 a7;obtain⟨p1,p2⟩:=d0 a7;have h0:t.length=r.length:=a6.length.symm;refine FV (X:=eU X N' sc P3.objs.size {s2 with heap:=P3} f (D0::fp)) a7.jh.jh (f4 aG d2) d1 'D' λh' n' d7 e0 f8=>?_;refine(m',a9,i+1,W,r++[z],b4,t++[y],n',d7,T.keep _ _ _ a4 λb a o e=>f8 b o (nD b a) (p1 b a o e),λb a=>?_,a6.append (.cons g8 .nil),?_,e0,w7,)
    .rcases aK.mp a with w|w;·rw[w];exact d2
     .exact p2 b w
    .rw[bX,qL];lia
 exact codeAny_compStart_list b1 (T.self _ 0 _ _ _ d4 b1)
def pe_comp(S:pV X N' sc)(r:MkOk X N' sc mk)(p:X.calm=true)(hi:PI X tg iter wi)
  (f:∀C d c fp,(eU X N' sc C d c fp).Ok->PG (eU X N' sc C d c fp) tg g/\PTs (eU X N' sc C d c fp) ifs tc/\PE (eU X N' sc C d c fp) elt te)
  (hs:∀x,kT iter X.env x=pure x:=by intro _;rfl):PE X (.ListComp elt [(tg,iter,ifs,0,)] sc pos) (yQ wi g tc te mk):=by
 intro v s w H Q I h;rw[eval_ListComp];refine zy (use:=none) S r p hi f hs I h λl C i s' m j t a y q=>(m,t,λn u=>?_,);have k:Inv X v w i {s' with heap:=n,toks:=s'.toks}:=j.turned (λb o f e=>u.extBut b o f e) a.1 a.2.1 a.2.2.2.1 a.2.2.2.2.1 a.2.2.2.2.2;exact(.ref l,i,k,rfl,q,)
def EM{A:Pos}(S:pV X N' sc)(Q:MkOk X N' sc mk)(P:X.calm=true)(hi:PI X tg iter wi)
  (n:∀C k f fp,(eU X N' sc C k f fp).Ok->PG (eU X N' sc C k f fp) tg g/\PTs (eU X N' sc C k f fp) ifs tc/\PE (eU X N' sc C k f fp) elt te)
  (O:X.N.Nodup)(Y:X.N[i]?<*x)(w:X.env.scope.names.lookup x<*.local)
  (W:rA (.ListComp elt [(tg,iter,ifs,0,)] sc pos) (some (.Name x pos')) A.line X.env=pure true)
  (hs:∀x,kT iter X.env x=pure x:=by intro _;rfl):PS X (.Assign [.Name x pos'] (.ListComp elt [(tg,iter,ifs,0,)] sc pos) A) (Ag (yQ wi g tc te mk) (oa i)):=by
 intro j a1 B a2 D I h;rw[exec_Assign_Name_used _ _ _ _ W];refine aa (iI (aa ?_));show wpAny _ X.A (do let _<-comprehension (.ListComp elt [(tg,iter,ifs,0,)] sc pos) sc X.env (firstIterPos [(tg,iter,ifs,0,)] pos) (newList []) false (eval iter X.env) (some (assign (.Name x pos') X.env))) _ _ a1;refine aa (thn (zy (use:=some (assign (.Name x pos') X.env)) (QQ:=λ_ c=>SP X j D .next c) S Q P hi n hs I h λl C r c m t R a N q=>?_) λ_ c hq=>aj (aj hq));obtain⟨d,v,H⟩:=id N;have F:Inv X (j++[(C,d)]) B r c:=t.AK λp U=>(cX.mp U).elim (λz=>t.pin p (bz _ z)) λz=>by
  have e:p=(C,d):=by simpa using z
  subst e;exact(v,a.1,a.2.1,a.2.2.1,H,)
 show wpAny _ X.A (assign (.Name x pos') X.env (.ref l)) _ _ c;refine thn (AL (i:=i) O Y (.inl w) (.inr w) (j++[(C,d)]) c B r (.ref l) (.ref l) D.nx F rfl q) λ_ s2 ⟨E,s,u,q2⟩=>?_;obtain⟨J,Z,_,_,_⟩:=u.pin (C,d) (bz _ (bz _ 'F'));have T:s2.heap.Ns C m:=by
  obtain⟨o,L,K,y,a0⟩:=R;have :o=d:=by rw[v]at y;exact(aW y).symm
  subst this;exact(o,L,K,J,a0,)
 refine(m,T,λM V=>?_,);have G:Inv X j E s {s2 with heap:=M,toks:=s2.toks}:=u.jh.turned (λb o n e=>V.extBut b o n e) Z a.2.1 a.2.2.2.1 a.2.2.2.2.1 a.2.2.2.2.2;exact(E,s,G,q2,)
end
section
def vd:fG X (.builtin "isinstance") (λxs H Q=>∃x T t b,xs=[x,.ty T]/\oH X.K H x t/\iq X.K t (.type T)<*b/\Q (.bl b) H):=by intro g s j H xs i Q I f h;obtain⟨x,T,t,b,rfl,ty,e,q⟩:=h;obtain⟨u,c,rfl,d,a⟩:=f.two;cases a;exact zj I d ty e λtk=>(.bl b,H,I.tok tk,rfl,q,)
def sC:fG X (.builtin "isinstance") (λxs H Q=>∃x C t b,xs=[x,.ref C]/\oH X.K H x t/\iq X.K t (.ref C)<*b/\Q (.bl b) H):=by intro g s j H xs i Q I f h;obtain⟨x,T,t,b,rfl,ty,e,q⟩:=h;obtain⟨u,c,rfl,d,a⟩:=f.two;cases a;exact zj I d ty e λtk=>(.bl b,H,I.tok tk,rfl,q,)
def Kd{bs:List Bool}(r:bT (bs.map V.bl) ad):TruthOf prog w A (λi v=>ad.toArray[i]?<*v) (λi=>bs.getD i false):=by
 intro i v s Q E c h;have hi:ad[i]?<*v:=by simpa using c
 have e:v=.bool (bs.getD i false):=by
  have d:=r.length;rw[ao]at d;have a:i<bs.length:=by have :=(av.mp hi).1;lia
  obtain⟨u,b,f⟩:=bT.get (i:=i) (x:=.bl bs[i]) r (by simp[a]);rw[hi]at b;cases b;have g:v=BN bs[i]:=f;rw[g,ah,ae a];rfl
 rw[e];exact dZ h
def range_all(bs:List Bool):(aF bs.length).all (λi=>bs.getD i false)=bs.all id:=by
 have :bs=(aF bs.length).map λi=>bs.getD i false:=by
  apply cQ;·simp
  .intro i a c;simp[a]
 rw[de];simp only[bx,aR];constructor;·intro h x b;obtain⟨i,hi,rfl⟩:=eD.mp b;have :=h i hi;simpa[hi]using this
 .intro h i hi;have :=h bs[i] (bQ hi);simpa[hi]using this
def Nr(d:X.calm=true):fG X (.builtin "all") (λxs H Q=>∃(p:Addr)(bs:List Bool),xs=[.ref p]/\SqL X.K H p (bs.map V.bl)/\Q (.bl (bs.all id)) H):=by
 intro w s y H xs x Q I m h;obtain⟨p,bs,rfl,hq,q⟩:=h;obtain⟨u,rfl,l⟩:=m.one;cases l;obtain⟨c,r,a,v⟩:=I.list hq;have f:c.toArray.size=bs.length:=by rw[aE,<-r.length,ao]
 have g:p≠⇑s:=by obtain⟨o,n,j,_⟩:=id a;exact aM (aA j)
 refine call_all_walk (kO a.isList (⇑s,_,_,_,_,_,λi=>bs.getD i false,rfl,BL (A:=X.A.in1) (I.ok.hd d) _ p g c.toArray,((_,az _ rfl,rfl,rfl,),a.isList.at λo e=>af _ e,),Kd r,λt tk k=>?_,));rw[f,range_all];exact(.bl (bs.all id),H,I.kept (t':=tk) λb o e=>k b o ↥(aM (aA e)) (af _ e),rfl,q,)
abbrev FF(x:Str)(lo hi:Option Int):Str:=⟨((x.cps.toList.drop (HT.sIx x.length 0 lo)).take (HT.sIx x.length x.length hi-HT.sIx x.length 0 lo)).toArray⟩
def sIx_eq(n d:Nat)(i:Int):(max 0 (min (if i<0 then i+(n:Int)else i) (n:Int)))=((HT.sIx n d (some i):Nat):Int):=by have :=HT.Bo i n d;rw[<-this];split <;>lia
def strIx(lo hi:Option Int)(n:Nat):vv lo hi 1 n=(aF (HT.sIx n n hi-HT.sIx n 0 lo)).map λk=>HT.sIx n 0 lo+k:=by
 have key:∀a b:Nat,sliceRange (a:Int) (b:Int) 1=(aF (b-a)).map λk=>a+k:=by
  intro a b;unfold sliceRange;have e:(if(1:Int)>0 then(if(a:Int)<b then((b:Int)-a+1-1)/1 else 0)else(if(a:Int)>b then((a:Int)-b-1-1)/(-1)else 0)).toNat=b-a:=by rw[if_pos 'E'];split <;>lia
  simp only[e];apply cN;intro k j;lia
 have f:∀(o:Option Int)(d:Nat),(match o with |none=>(d:Int) |some i=>max 0 (min (if i<0 then i+(n:Int)else i) (n:Int)))=((HT.sIx n d o:Nat):Int):=by
  intro o d;cases o with
  |none=>rfl
  |some i=>exact sIx_eq n d i
 have c:=f lo 0;have g:=f hi n;unfold vv;simp only[show(1:Int)>0 by decide,if_true];have h:((0:Nat):Int)=0:=rfl;rw[h]at c;rw[<-key,<-c,<-g];cases lo<;>cases hi<;>rfl
def pickN(xs:Array Nat)(i:Nat):∀k,((aF k).map λm=>i+m).filterMap (xs[·]?)=(xs.toList.drop i).take k:=by
 intro k
 induction k with
 |zero=>simp
 |succ k ih=>
  rw[List.range_succ,dM,List.filterMap_append,ih];by_cases h:i+k<xs.size;·rw[List.take_succ,ju];simp[h]
  .rw[List.take_succ,ju];simp[h]
def HQ(x:Str)(lo hi:Option Int):Txt.slice x lo hi=FF x lo hi:=by
 have c:HT.sIx x.length 0 lo<=x.length:=HT.EH _ _ (bf _) lo;have d:HT.sIx x.length x.length hi<=x.length:=HT.EH _ _ (aC _) hi;unfold Txt.slice FF;rw[strIx];split
 .rename_i h;rw[aB,beq_iff_eq,beq_iff_eq,ao,bC]at h;have a:HT.sIx x.length 0 lo=0:=by lia
  have b:HT.sIx x.length x.length hi=x.length:=by lia
  rw[a,b];have :x.cps.toList.length=x.length:=by simp[DX]
  rw[List.drop_zero,Nat.sub_zero,<-this,dg]
 .rw[pickN]
def u6{v:Value}{o:Option Int}(p:IsPart v o):∃l:Option (Int×Tok),v=partValue l/\o=l.map (·.1):=by
 cases p with
 |none=>exact(none,rfl,rfl,)
 |int i t=>exact(some (i,t),rfl,rfl,)
def rSlS:V->Option Int->Option Int->Hp->VK->Prop:=λx lo hi H Q=>∃z,x=.str z/\z.length<=sizeLine/\Q (.str (FF z lo hi)) H
def sl_str:SlR X rSlS:=by intro i s o H x v m n lo hi j Q I f a c d h;obtain⟨z,rfl,b,q⟩:=h;obtain⟨t,rfl⟩:=f;obtain⟨l,rfl,rfl⟩:=u6 c;obtain⟨u,rfl,rfl⟩:=u6 d;refine("str",_,F.slot_str_getitem.lookup,typeIs_str _ _ _,?_,);refine wpAny_getItem_str_slice (l:=l) (u:=u) (st:=none) a rfl (post_val_or_str (aT (Txt.slice_le z _ _) b,λg k=>?_,));have e:=HQ z (l.map (·.1)) (u.map (·.1));unfold Txt.slice at e;refine(.str (FF z (l.map (·.1)) (u.map (·.1))),H,I.tok k,(g,?_,),q,);rw[<-e];rfl
abbrev Its(x:Str):It:=(λi _=>i<x.length,λi H v H'=>H'=H/\∃c,x.cps[i]?<*c/\v=.str ⟨#[c]⟩,λi _=>x.length<=i,)
end
def yS(a:Addr)(x:Str)(t:Tok)(A:Around)(b:A.handled=none):
  Walks prog w A a [a] [a] x.cps.size (SignAt x) (λi h=>h.IsStrIter a (je x) x t i):=by
 unfold je;cases ha:x.cps.all (·<128);·simp only[aJ,if_false];exact Walks.strWide b a x t
 .simp only[if_true];exact Walks.strAscii b a x t
def J9(x:Str)(f:Addr)(t:Tok):Turn P w K tg (Its x) [f] f (λi h=>h.IsStrIter f (je x) x t i) where
 mem:=by simp
 obj:=λi h j b a=>by
  have e:b=f:=by simpa using a
  subst e;obtain⟨o,e,c,d⟩:=j;exact⟨o,e,λv z=>by rw[d]at z;cases z⟩
 keep:=λi h l j k=>let⟨o,ho,r⟩:=j;(o,k f 'F' o ho,r,)
 item:=by intro X G L F C i O s R H E I hf j J;subst G L F;obtain⟨m,p,U,q,y,B⟩:=hf f 'F';have W:=yS (prog:=X.prog) (w:=X.w) f x t X.A (I.ok.hd C);refine W.item i s _ _ J j λv l tk Z Q M=>?_;obtain⟨c,u,V,rfl⟩:=Z;have S:Inv X O R H {s with heap:=l,toks:=tk}:=I.turned (λb o a e=>M b o ↥a e) m p q y B;obtain⟨o,e,T,d⟩:=id Q;refine(_,rfl,G8 (s:={s with heap:=l,toks:=tk}) (n:=je x) e T d ?_ (.str ⟨#[c]⟩,H,S,(u,rfl,),(rfl,c,V,rfl,),Q,λb a=>(hf b a).1,),);unfold je;split <;>decide
 done:=by
  intro X G L F C i O s R H E I hf j J;subst G L F;obtain⟨m,p,U,q,y,B⟩:=hf f 'F';have Y:x.length<=i:=J;by_cases hi:i=x.cps.size;·subst hi;have W:=yS (prog:=X.prog) (w:=X.w) f x t X.A (I.ok.hd C);exact W.done s _ _ j λl tk M=>(rfl,I.turned (λb o a e=>M b o ↥a e) m p q y B,)
  .have N:x.cps[i]? =none:=by rw[Array.getElem?_eq_none_iff];exact Y
   have g:s.heap.IsStrIter f (je x) x t i:=j;unfold je at g;cases ha:x.cps.all (·<128);·rw[ha]at g;exact wpAny_pyNext_wide_end (I.ok.hd C) g N λl D=>(rfl,I.turned (t':=s.toks) (λb o a e=>D b o a e) m p q y B,)
   .rw[ha]at g;exact wpAny_pyNext_ascii_end (I.ok.hd C) g N λl D=>(rfl,I.turned (t':=s.toks) (λb o a e=>D b o a e) m p q y B,)
 self:=λA i s a0 E j h=>by
  have g:s.heap.IsStrIter f (je x) x t i:=j;unfold je at g;cases ha:x.cps.all (·<128);·rw[ha]at g;exact wpAny_pyIter_striter_wide g h
  .rw[ha]at g;exact wpAny_pyIter_striter_ascii g h
def Inv.turnedL(I:'A')(k:∀b o,b∉ch->s.heap.get? b<*o->h'.get? b<*o)(hf:∀b∈ch,pH X pins H b):Inv X pins σ H {s with heap:=h'}:=by
 have g:∀b u,H b<*u->b∉ch:=λb u e z=>by rw[(hf b z).1]at e;cases e
 refine I.step (g':=s.gens) (d':=s.drawn) (ch:=ch) (λb v=>?_) (λb o _ _ a e _=>k b o a e) (λb o _ _ a e _=>(o.slots,k b o a e,)) (λ_ _ _ _ n=>n)
  (λb o a e=>(o,k b o a e,)) (λ_ _ e=>e) (λ_ _ _ e=>e) (λb B e=>⟨#[],by rw[e];simp⟩) (λm x=>?_) (λb u e=>?_) I.bare
 .obtain⟨y,j,A,l,p,t⟩:=hf b v;exact(l,j,p,t,)
 .obtain⟨o,i,h,q,r⟩:=x;exact(o,i,h,k _ o (λa=>(hf _ a).2.1 rfl) q,r,)
 .refine(I.hok b u e).mf (λd o w c=>k d o (λf=>?_) c) (λd c=>c) λd C c=>c;rcases w with zz|zz;·rw[zz]at f;exact g b u e f
  .exact g d _ zz f
def Inv.newL{o:HO}(I:'A')(k:∀b o,b∉ch->s.heap.get? b<*o->h'.get? b<*o)(hf:∀b∈ch,pH X pins H b)
  (a:eA X.prog X.w (upd H ⇑s o) h' ⇑s o):Inv X pins σ (upd H ⇑s o) {s with heap:=h',toks:=t'}:=
 ((I.turnedL k hf).tok t').track (I.Ba (aC _) (I.hok.fresh (aC _))) a
abbrev IteG(a:Hp->List V->Prop):It:=
 (λi H=>∃xs x,a H xs/\xs[i]?<*x,λi H v H'=>∃p x,H p=none/\H'=upd H p (.tup [.int i,x])/\v=.ref p/\∀xs,a H xs->xs[i]?<*x,λi H=>∃xs,a H xs/\xs.length<=i,)
structure En(a it:Addr)(Sq:ak->Hp->List V->Prop)(S:Nat->Heap->Prop):Prop where
 obj:∀i h,S i h->∃o,h.get? it<*o/\∀v,o.data≠.cell v
 kp:∀i h h',S i h->(∀o,h.get? it<*o->h'.get? it<*o)->S i h'
 one:∀{X:Cx}{pins:List (Addr×Obj)}{σ:St}{H:Hp}{s:Shared}{xs ys:List V},'A'->Sq X.K H xs->Sq X.K H ys->xs=ys
 src:∀{X:Cx}{pins:List (Addr×Obj)}{σ:St}{H:Hp}{s:Shared}{xs:List V}{i:Nat},'A'->X.A.in1.handled=none->Sq X.K H xs->S i s.heap->∃(us:List Value)(R:Heap->Prop),bT xs us/\R s.heap/\
  (∀e o,s.heap.get? e<*o->o.cls=.type "enumerate"->e≠a)/\Draws X.prog X.w X.A.in1 it [it,a] us.toArray.size (λi v=>us.toArray[i]?<*v) (λi h=>S i h/\R h)/\
  (us.toArray.size<=i->∀(Q:'I')(E:'I'),(∀h' z,Heap.ExtBut it s.heap h'->(∃o,h'.get? z<*o/\o.cls=.type "StopIteration")->E (.ref z) {s with heap:=h'})->wpAny (model X.prog X.w) X.A.in1 (fg (.ref it)) Q E s)
def Eu{es:List Expr}{kk:Nat}{L:ak->Hp->List V->Prop}{S:Nat->Heap->Prop}{e:Addr}(N:En a it L S)(t:e≠it):Turn P w K (.Tuple es kk pp) (IteG (L K)) [e,it] e (λi h=>(∃old,IsEnum h e it i old)/\S i h) where
 mem:=by simp
 obj:=λi h d b f=>by
  obtain⟨⟨old,c⟩,hs⟩:=d;have p:b=e\/b=it:=by simpa using f
  rcases p with rfl|rfl;·exact⟨_,c,λb6 z=>by cases z⟩
  .exact N.obj i h hs
 keep:=λi h l d k=>by obtain⟨⟨old,c⟩,g⟩:=d;exact⟨⟨old,k e 'F' _ c⟩,N.kp i h l g λo q=>k it 'F' o q⟩
 item:=by
  intro X n v m j i C s J H E I hf d r;subst n v m;obtain⟨xs,x,hq,A⟩:=r;obtain⟨⟨old,c⟩,g⟩:=d;obtain⟨B,a0,G,O,W,D,_⟩:=N.src I (I.ok.hd j) hq g;obtain⟨b3,U,ru⟩:=G.get A;obtain⟨f0,f1,f2,f3,f4,f5⟩:=hf e 'F';have a8:i<B.toArray.size:=by simpa using(av.mp U).1
  have a9:it<⇑s:=by obtain⟨o,q,_⟩:=N.obj i _ g;exact aA q
  refine wpAny_pyNext_enum_itemD D c (g,O,) a8 t (by simp[t,W e _ c rfl]) λy l tk hy u b0 ht b5 kp=>?_;have a2:y=b3:=by
   have :B[i]?<*y:=by simpa using hy
   rw[U]at this;exact(aW this).symm
  subst a2;have hp:H ⇑s=none:=I.hok.fresh (aC _);have Y:Inv X C J (upd H ⇑s (.tup [.int i,x])) {s with heap:=l,toks:=tk+1}:=
   I.newL (ch:=[e,it]) (λa1 o j q=>kp a1 o (λz=>j (by simp[z])) (λz=>j (by simp[z])) q) hf (by show 2<=sizeLine;decide,[.int i tk,y],.cons (tk,rfl,) (.cons ru .nil),(_,ht,rfl,_,rfl,),)
  have M:(upd H ⇑s (.tup [.int i,x])) e=none:=by rw[bj (aM (aA c))];exact f0
  refine(_,rfl,wpAny_letOwnedTupleGo_enum (s:={s with heap:=l,toks:=tk+1}) u λa4 a7 R=>?_,);have Z:Inv X C J (upd H ⇑s (.tup [.int i,x])) {s with heap:=a4,toks:=tk+1}:=Y.turned (t':=tk+1) (λb o f q=>R.extBut b o f q) M f1 f3 f4 f5;refine(.ref ⇑s,_,Z,rfl,⟨_,x,hp,rfl,rfl,λys b2=>by rw[N.one I b2 hq];exact A⟩,((y,?_,),N.kp _ _ _ b0.1 λo q=>R.extBut it o (bI t) q,),λb f=>?_,)
  .have :((i:Int)+1)=((i+1:Nat):Int):=by push_cast;rfl
   rw[<-this];exact a7
  .have p:b=e\/b=it:=by simpa using f
   rcases p with rfl|rfl;·exact M
   .rw[bj (aM a9)];exact(hf _ 'F').1
 done:=by
  intro X n v m j i C s J H E I hf d r;subst n v m;obtain⟨xs,hq,A⟩:=r;obtain⟨⟨old,c⟩,g⟩:=d;obtain⟨B,a0,G,O,W,D,a3⟩:=N.src I (I.ok.hd j) hq g;obtain⟨g0,g1,g2,g3,g4,g5⟩:=hf it 'F';have Q:s.TypeIs (.ref e) "enumerate":=(_,c,rfl,);have b4:=G.length;unfold pyNext;refine aa (jH (dN (name:=bh "__next__") Q F.slot_enumerate_next
   (cB F.slot_enumerate_next Q F.entry_enumerate_next ?_ (F.args_enumerate_next_1 _))))
  show wpAny _ _ (field (.ref e) 2>>=_) _ _ _;refine aa (fK c rfl (x:=.ref it) rfl ?_);refine aa (a3 (by simp;lia) _ _ λl z a6 b1=>?_);obtain⟨o,u,a5⟩:=b1;refine aa (rm (T:="StopIteration") (b:=true) (o,u,a5,) isSubtype_stop ?_);exact aj (rfl,I.turned (t':=s.toks) (λb o f q=>a6 b o f q) g0 g1 g3 g4 g5,)
 self:=λ_ _ _ _ _ d h=>by obtain⟨⟨old,c⟩,_⟩:=d;exact wpAny_pyIter_enum c h
def Inv.enum{f:List Expr}{j:Nat}{c:ak->Hp->List V->Prop}{S:Nat->Heap->Prop}{R:It->Hp->Prop}{Q:'I'}(I:'A')(N:En a ⇑s c S)
  (e:IsEnum h' (⇑s+1) ⇑s 0 .none)(i:S 0 h')(l:∀b o,s.heap.get? b<*o->h'.get? b<*o)(q:R (IteG (c X.K)) H)
  (k:∀(it:Addr)(fp:List Addr)(tn:Nat->Heap->Prop)(J:It),Inv X pins σ H {s with heap:=h'}->Turn X.prog X.w X.K (.Tuple f j pp) J fp it tn->tn 0 h'->(∀b∈fp,pH X pins H b)->R J H->Q (.ref it) {s with heap:=h'}):
  'C' (pyIter (.ref (⇑s+1))) Q E {s with heap:=h'}:=by
 refine wpAny_pyIter_enum (s:={s with heap:=h'}) e ?_;refine k _ [⇑s+1,⇑s] _ _ (I.kept (t':=s.toks) l) (Eu N (Nat.succ_ne_self _)) ((_,e,),i,) (λb g=>?_) q;have h:b=⇑s+1\/b=⇑s:=by simpa using g
 have d:⇑s<=b:=by
  rcases h with z|z;·rw[z];exact dk _
  .rw[z];exact aC _
 exact I.Ba d (I.hok.fresh d)
inductive D where
 |non|bl (b:Bool) |int (i:Int) |str (x:Str) |tup (ds:List D) |lst (ds:List D)
 deriving Inhabited
mutual
noncomputable def Rep(K:ak)(H:Hp):D->V->Prop
 |.non,v=>v=.non
 |.bl b,v=>v=.bl b
 |.int i,v=>v=.int i
 |.str x,v=>v=.str x
 |.tup ds,v=>∃a xs,v=.ref a/\SqT K H a xs/\gy K H ds xs
 |.lst ds,v=>∃a xs,v=.ref a/\SqL K H a xs/\gy K H ds xs
noncomputable def gy(K:ak)(H:Hp):List D->List V->Prop
 | [],xs=>xs=[]
 |d::ds,xs=>∃x r,xs=x::r/\Rep K H d x/\gy K H ds r
end
def aO.tup{K:ak}{H H':Hp}{a:Addr}{xs:List V}(e:aO H H')(h:SqT K H a xs):SqT K H' a xs:=by
 rcases h with(h|⟨o,h⟩) |h;·exact .inl (.inl (e _ _ h))
 .exact .inl (.inr (o,e _ _ h,))
 .exact .inr h
theorem gy.length:∀{ds:List D}{xs:List V},gy K H ds xs->xs.length=ds.length
 | [],_,h=>by rw[show _=[]from h];rfl
 |d::ds,_,h=>by obtain⟨x,r,rfl,_,a⟩:=h;rw[bG,bG,gy.length a]
theorem gy.at:∀{ds:List D}{xs:List V}{i:Nat}{d:D},gy K H ds xs->ds[i]?<*d->∃x,xs[i]?<*x/\Rep K H d x
 | [],_,i,d,h,e=>by simp at e
 |d::ds,_,0,d',h,e=>by obtain⟨y,r,rfl,a,b⟩:=h;simp at e;subst e;exact(y,rfl,a,)
 |d::ds,_,i+1,d',h,e=>by obtain⟨y,r,rfl,a,b⟩:=h;obtain⟨x,c,f⟩:=gy.at (i:=i) b ↥e;exact(x,↥c,f,)
theorem gy.ints:∀(ns:List Int),gy K H (ns.map D.int) (ns.map V.int)
 | []=>rfl
 |n::ns=>(_,_,rfl,rfl,gy.ints ns,)
mutual
noncomputable def eqD:D->D->Bool
 |.non,.non=>true
 |.bl a,.bl b=>a==b
 |.bl a,.int b=>(if a then 1 else 0)==b
 |.int a,.bl b=>a==(if b then 1 else 0)
 |.int a,.int b=>a==b
 |.str a,.str b=>a==b
 |.tup a,.tup b=>o9 a b
 |.lst a,.lst b=>o9 a b
 |_,_=>false
noncomputable def o9:List D->List D->Bool
 | [],[]=>true
 |a::as,b::bs=>eqD a b&&o9 as bs
 |_,_=>false
end
mutual
noncomputable def hgt:D->Nat
 |.tup ds=>fL ds+1
 |.lst ds=>fL ds+1
 |_=>0
noncomputable def fL:List D->Nat
 | []=>0
 |d::ds=>max (hgt d) (fL ds)
end
theorem ur:∀{ds:List D}{i:Nat}{d:D},ds[i]?<*d->hgt d<=fL ds
 | [],i,d,e=>by simp at e
 |d::ds,0,d',e=>by simp at e;subst e;simp only[fL];lia
 |d::ds,i+1,d',e=>by have :=ur (i:=i) (ds:=ds) (d:=d') ↥e;simp only[fL];lia
theorem Dz:∀(as bs:List D)(e:Nat->Bool),as.length=bs.length->(∀(i:Nat) a b,as[i]?<*a->bs[i]?<*b->e i=eqD a b)->(aF as.length).all e=o9 as bs
 | [],[],e,_,_=>rfl
 |a::as,b::bs,e,hl,h=>by rw[bG,List.range_succ_eq_map,Eg,List.all_map];have c:=h 0 a b rfl rfl;have g:=Dz as bs (λi=>e (i+1)) ↥hl λi x y d f=>h (i+1) x y ↥d ↥f;rw[c];show(eqD a b&&(aF as.length).all (λi=>e (i+1)))=_;rw[g];rfl
 | [],b::bs,e,hl,_=>by simp at hl
 |a::as,[],e,hl,_=>by simp at hl
theorem sv:∀(as bs:List D),as.length≠bs.length->o9 as bs=false
 | [],[],h=>absurd rfl h
 |a::as,b::bs,h=>by show(eqD a b&&o9 as bs)=false;rw[sv as bs ↥h,dS]
 | [],b::bs,_=>rfl
 |a::as,[],_=>rfl
mutual
theorem xN:∀d:D,eqD d d=true
 |.non=>rfl
 |.bl b=>beq_self_eq_true b
 |.int i=>beq_self_eq_true i
 |.str x=>beq_self_eq_true x
 |.tup ds=>uw ds
 |.lst ds=>uw ds
theorem uw:∀ds:List D,o9 ds ds=true
 | []=>rfl
 |d::ds=>eE.mpr (xN d,uw ds,)
end
section
variable {pins:List (Addr×Obj)}{s:Shared}
mutual
theorem Inv.vR(I:'A'):∀{d c:D}{v:V},Rep X.K H d v->Rep X.K H c v->d=c
 |.non,c,v,h,h'=>by cases(show v=V.non from h);cases c<;>first | (obtain⟨_,_,z,_⟩:=h';cases z;done) |rfl| (cases h';done)
 |.bl b,c,v,h,h'=>by cases(show v=V.bl b from h);cases c<;>first | (obtain⟨_,_,z,_⟩:=h';cases z;done) | (cases h';rfl) | (cases h';done)
 |.int b,c,v,h,h'=>by cases(show v=V.int b from h);cases c<;>first | (obtain⟨_,_,z,_⟩:=h';cases z;done) | (cases h';rfl) | (cases h';done)
 |.str b,c,v,h,h'=>by cases(show v=V.str b from h);cases c<;>first | (obtain⟨_,_,z,_⟩:=h';cases z;done) | (cases h';rfl) | (cases h';done)
 |.tup ds,c,v,h,h'=>by
  obtain⟨a,w,rfl,j,p⟩:=h;cases c with
  |tup ds'=>obtain⟨b,q,e,f,k⟩:=h';cases e;have :=I.tN j f;subst this;rw[Inv.wO I p k]
  |lst ds'=>obtain⟨b,q,e,f,k⟩:=h';cases e;obtain⟨r,_,⟨o,m,l,_⟩,_⟩:=I.tuple j;obtain⟨t,_,⟨u,n,i,g,_⟩,_⟩:=I.list f;rw[m]at i;cases i;rw[l]at g;exact absurd g (by decide+kernel)
  |_=>cases h'
 |.lst ds,c,v,h,h'=>by
  obtain⟨a,w,rfl,j,p⟩:=h;cases c with
  |lst ds'=>obtain⟨b,q,e,f,k⟩:=h';cases e;have :=I.Df j f;subst this;rw[Inv.wO I p k]
  |tup ds'=>obtain⟨b,q,e,f,k⟩:=h';cases e;obtain⟨r,_,⟨o,n,m,l,_⟩,_⟩:=I.list j;obtain⟨t,_,⟨u,i,g,_⟩,_⟩:=I.tuple f;rw[m]at i;cases i;rw[l]at g;exact absurd g (by decide+kernel)
  |_=>cases h'
theorem Inv.wO(I:'A'):∀{ds a:List D}{xs:List V},gy X.K H ds xs->gy X.K H a xs->ds=a
 | [],[],_,_,_=>rfl
 | [],d::ds,xs,h,h'=>by obtain⟨x,r,e,_⟩:=h';rw[show xs=[]from h]at e;cases e
 |d::ds,[],xs,h,h'=>by obtain⟨x,r,e,_⟩:=h;rw[show xs=[]from h']at e;cases e
 |d::ds,d'::a,xs,h,h'=>by obtain⟨x,r,rfl,b,f⟩:=h;obtain⟨y,i,e,c,g⟩:=h';cases e;rw[Inv.vR I b c,Inv.wO I f g]
end
open PySem.SeqAt
abbrev eqJ(ds a:List D)(j:Nat):Bool:=match ds[j]?,a[j]? with |some d,some d'=>eqD d d'|_,_=>false
def Be{ds a:List D}(b:ds.length=a.length):(aF ds.length).all (eqJ ds a)=o9 ds a:=Dz ds a _ b λi x y c d=>by simp only[eqJ,c,d]
def Hg{ds a:List D}:((aF (min ds.length a.length)).all (eqJ ds a)&&ds.length==a.length)=o9 ds a:=by
 by_cases hl:ds.length=a.length;·rw[<-hl,Nat.min_self,beq_self_eq_true,Bool.and_true,Be hl]
 .rw[sv ds a hl,beq_eq_false_iff_ne.mpr hl,dS]
def Bd{ds a:List D}(q:∀(i:Nat)(d b:D)(x y:V)(u f:Value),ds[i]?<*d->a[i]?<*b->Rep X.K H d x->Rep X.K H b y->RelV x u->RelV y f->EqAt A.in1 s u f (eqD d b))(k:gy X.K H ds xs)(l:gy X.K H a ys)(r:bT xs ad)(r':bT ys its'):ad.toArray.size=ds.length/\its'.toArray.size=a.length/\∀j (g:j<ad.toArray.size)(h:j<its'.toArray.size),EqAt A.in1 s ad.toArray[j] its'.toArray[j] (eqJ ds a j):=by
 have l1:=k.length;have l2:=l.length;have E:=r.length;have F:=r'.length;refine(by simp;lia,by simp;lia,λj g h=>?_,);have o:j<ad.length:=by simpa using g
 have p:j<its'.length:=by simpa using h
 have c:ds[j]?<*ds[j]:=ae 'D';have e:a[j]?<*a[j]:=ae 'D';unfold eqJ;rw[c,e];obtain⟨x,t,B⟩:=k.at c;obtain⟨y,v,C⟩:=l.at e;obtain⟨u,m,w⟩:=r.get t;obtain⟨f,n,z⟩:=r'.get v;rw[ae o]at m;rw[ae p]at n;cases m;cases n;exact q j _ _ x y _ _ c e B C w z
def Inv.rcTup(I:'A')(A:Around){ds g:List D}(o:∀(i:Nat)(d c:D)(x y:V)(u h:Value),ds[i]?<*d->g[i]?<*c->Rep X.K H d x->Rep X.K H c y->RelV x u->RelV y h->EqAt A.in1 s u h (eqD d c))(k:SqT X.K H a xs)(m:gy X.K H ds xs)(l:SqT X.K H b ys)(n:gy X.K H g ys)(q:A.units<cLine):RcAt A s (.ref a) (.ref b) (o9 ds g):=by
 obtain⟨w,r,p,_⟩:=I.tuple k;obtain⟨z,v,t,_⟩:=I.tuple l;obtain⟨e,j,f⟩:=Bd o m n r v;have key:=RcAt.tuples p t (A:=A) q f
 rwa [e,j,Hg]at key
def Inv.rcLst(I:'A')(A:Around){ds c:List D}(t:∀(i:Nat)(d g:D)(x y:V)(u l:Value),ds[i]?<*d->c[i]?<*g->Rep X.K H d x->Rep X.K H g y->RelV x u->RelV y l->EqAt A.in1 s u l (eqD d g))(m:SqL X.K H a xs)(o:gy X.K H ds xs)(n:SqL X.K H b ys)(q:gy X.K H c ys)(j:A.units<cLine):RcAt A s (.ref a) (.ref b) (o9 ds c):=by
 obtain⟨w,r,p,_⟩:=I.list m;obtain⟨z,v,k,_⟩:=I.list n;obtain⟨e,h,f⟩:=Bd t o q r v;by_cases hl:ds.length=c.length
 .have key:=RcAt.lists p.isList k.isList (A:=A) (by rw[e,h,hl]) j f
  rwa [e,Be hl]at key
 .have key:=RcAt.lists_lengths p.isList k.isList (A:=A) (by rw[e,h];exact bne_iff_ne.mpr hl) j
  rwa [sv ds c hl]
def Inv.shp(I:'A'){d:D}{v:V}(h:Rep X.K H d v)(r:RelV v u):(d=.non/\v=.non/\u=.none)\/(∃x,d=.bl x/\v=.bl x/\u=.bool x)\/(∃x t,d=.int x/\v=.int x/\u=.int x t)\/(∃x t,d=.str x/\v=.str x/\u=.str x t)\/(∃ds a xs ad,d=.tup ds/\v=.ref a/\u=.ref a/\SqT X.K H a xs/\gy X.K H ds xs/\IsTup s.heap a ad)\/∃ds a xs ad,d=.lst ds/\v=.ref a/\u=.ref a/\SqL X.K H a xs/\gy X.K H ds xs/\s.heap.IsList a ad:=by
 cases d with
 |non=>cases(show v=_ from h);cases r;exact .inl (rfl,rfl,rfl,)
 |bl x=>cases(show v=_ from h);cases r;exact .inr (.inl (x,rfl,rfl,rfl,))
 |int x=>cases(show v=_ from h);obtain⟨t,rfl⟩:=r;exact .inr (.inr (.inl (x,t,rfl,rfl,rfl,)))
 |str x=>cases(show v=_ from h);obtain⟨t,rfl⟩:=r;exact .inr (.inr (.inr (.inl (x,t,rfl,rfl,rfl,))))
 |tup ds=>obtain⟨a,xs,rfl,b,c⟩:=id h;cases r;obtain⟨ad,_,p,_⟩:=I.tuple b;exact .inr (.inr (.inr (.inr (.inl (ds,a,xs,_,rfl,rfl,rfl,b,c,p,)))))
 |lst ds=>obtain⟨a,xs,rfl,b,c⟩:=id h;cases r;obtain⟨ad,_,p,_⟩:=I.list b;exact .inr (.inr (.inr (.inr (.inr (ds,a,xs,_,rfl,rfl,rfl,b,c,p.isList,)))))
def Inv.eqAt1(I:'A')(A:Around)(O:∀(m:Nat)(ds k:List D)(i:Nat)(d f:D)(x y:V)(u j:Value),n=m+1->fL ds<=m->ds[i]?<*d->k[i]?<*f->Rep X.K H d x->Rep X.K H f y->RelV x u->RelV y j->EqAt A.in1 s u j (eqD d f)):
  ∀(d f:D)(v N:V)(u j:Value),Rep X.K H d v->Rep X.K H f N->RelV v u->RelV N j->hgt d<=n->A.units+n+1<cLine->EqAt A s u j (eqD d f):=by
 intro d f v N u j h B r c o T;obtain⟨rfl,rfl,rfl⟩ |⟨_,rfl,rfl,rfl⟩ |⟨_,t,rfl,rfl,rfl⟩ |⟨_,t,rfl,rfl,rfl⟩ |⟨ds,a,R,P,rfl,rfl,rfl,C,F,p⟩ |⟨ds,a,R,P,rfl,rfl,rfl,C,F,p⟩:=I.shp h r<;>obtain⟨rfl,rfl,rfl⟩ |⟨_,rfl,rfl,rfl⟩ |⟨_,l,rfl,rfl,rfl⟩ |⟨_,l,rfl,rfl,rfl⟩ |⟨k,b,S,Q,rfl,rfl,rfl,E,G,g⟩ |⟨k,b,S,Q,rfl,rfl,rfl,E,G,g⟩:=I.shp B c
 .exact gY r c rfl rfl
 .exact gY r c rfl rfl
 .exact gY r c rfl rfl
 .exact gY r c rfl rfl
 .exact EqAt.none_tuple g 'D'
 .exact EqAt.none_list g 'D'
 .exact gY r c rfl rfl
 .exact gY r c rfl rfl
 .exact gY r c rfl rfl
 .exact gY r c rfl rfl
 .exact EqAt.bool_tuple _ g 'D'
 .exact EqAt.bool_list _ g 'D'
 .exact gY r c rfl rfl
 .exact gY r c rfl rfl
 .exact gY r c rfl rfl
 .exact gY r c rfl rfl
 .exact EqAt.int_tuple _ t g 'D'
 .exact EqAt.int_list _ t g 'D'
 .exact gY r c rfl rfl
 .exact gY r c rfl rfl
 .exact gY r c rfl rfl
 .exact gY r c rfl rfl
 .exact EqAt.str_tuple _ t g 'D'
 .exact EqAt.str_list _ t g 'D'
 .exact EqAt.tuple_none p 'D'
 .exact EqAt.tuple_bool _ p 'D'
 .exact EqAt.tuple_int _ l p 'D'
 .exact EqAt.tuple_str _ l p 'D'
 .have o:fL ds+1<=_:=o;by_cases z:a=b;·subst z;have e:=I.vR h B;rw[<-e,xN];exact EqAt.same _
  .exact EqAt.of_refs z (Inv.rcTup I A (λi d f x y u j q w L M J K=>O (n-1) ds k i d f x y u j 'D' 'D' q w L M J K) C F E G 'D')
 .exact EqAt.tuple_list p g 'D'
 .exact EqAt.list_none p 'D'
 .exact EqAt.list_bool _ p 'D'
 .exact EqAt.list_int _ l p 'D'
 .exact EqAt.list_str _ l p 'D'
 .exact EqAt.list_tuple p g 'D'
 .have o:fL ds+1<=_:=o;by_cases z:a=b;·subst z;have e:=I.vR h B;rw[<-e,xN];exact EqAt.same _
  .exact EqAt.of_refs z (Inv.rcLst I A (λi d f x y u j q w L M J K=>O (n-1) ds k i d f x y u j 'D' 'D' q w L M J K) C F E G 'D')
def Inv.DA(I:'A'):∀(n:Nat)(A:Around)(d a:D)(v c:V)(u b:Value),Rep X.K H d v->Rep X.K H a c->RelV v u->RelV c b->hgt d<=n->A.units+n+1<cLine->EqAt A s u b (eqD d a):=by
 intro n
 induction n with
 |zero=>exact λA d a v c u b h e r j f g=>Inv.eqAt1 I A (λm l o i d a x y u b k _ _ _ _ _ _ _=>absurd k 'D') d a v c u b h e r j f g
 |succ n ih=>exact λA d a v c u b h e r j f g=>Inv.eqAt1 I A (λm l o i d a x y u b k C p B w z q t=>ih A.in1 d a x y u b w z q t (by have :=ur p;lia) (by show A.units+1+n+1<cLine;lia)) d a v c u b h e r j f g
end
end L2
namespace L2
open PySem.SeqAt
section
variable {pins:List (Addr×Obj)}{s:Shared}
def Inv.neTup(I:'A')(A:Around){ds g:List D}(o:∀(i:Nat)(d c:D)(x y:V)(u h:Value),ds[i]?<*d->g[i]?<*c->Rep X.K H d x->Rep X.K H c y->RelV x u->RelV y h->EqAt A.in1 s u h (eqD d c))(k:SqT X.K H a xs)(m:gy X.K H ds xs)(l:SqT X.K H b ys)(n:gy X.K H g ys)(q:A.units<cLine):RcNeAt A s (.ref a) (.ref b) (!o9 ds g):=by
 obtain⟨w,r,p,_⟩:=I.tuple k;obtain⟨z,v,t,_⟩:=I.tuple l;obtain⟨e,j,f⟩:=Bd o m n r v;have key:=RcNeAt.tuples p t (A:=A) q f
 rwa [e,j,Hg]at key
def Inv.neLst(I:'A')(A:Around){ds c:List D}(t:∀(i:Nat)(d g:D)(x y:V)(u l:Value),ds[i]?<*d->c[i]?<*g->Rep X.K H d x->Rep X.K H g y->RelV x u->RelV y l->EqAt A.in1 s u l (eqD d g))(m:SqL X.K H a xs)(o:gy X.K H ds xs)(n:SqL X.K H b ys)(q:gy X.K H c ys)(j:A.units<cLine):RcNeAt A s (.ref a) (.ref b) (!o9 ds c):=by
 obtain⟨w,r,p,_⟩:=I.list m;obtain⟨z,v,k,_⟩:=I.list n;obtain⟨e,h,f⟩:=Bd t o q r v;by_cases hl:ds.length=c.length
 .have key:=RcNeAt.lists p.isList k.isList (A:=A) (by rw[e,h,hl]) j f
  rwa [e,Be hl]at key
 .have key:=RcNeAt.lists_lengths p.isList k.isList (A:=A) (by rw[e,h];exact bne_iff_ne.mpr hl) j
  rwa [sv ds c hl]
def Inv.rcD(I:'A')(A:Around)(d d':D)(v C:V)(u f:Value)(h:Rep X.K H d v)(h':Rep X.K H d' C)(r:RelV v u)(r':RelV C f)(B:A.units+hgt d+1<cLine):RcAt A s u f (eqD d d'):=by
 obtain⟨rfl,rfl,rfl⟩ |⟨_,rfl,rfl,rfl⟩ |⟨_,t,rfl,rfl,rfl⟩ |⟨_,t,rfl,rfl,rfl⟩ |⟨g,a,K,G,rfl,rfl,rfl,k,m,p⟩ |⟨g,a,K,G,rfl,rfl,rfl,k,m,p⟩:=I.shp h r<;>obtain⟨rfl,rfl,rfl⟩ |⟨_,rfl,rfl,rfl⟩ |⟨_,c,rfl,rfl,rfl⟩ |⟨_,c,rfl,rfl,rfl⟩ |⟨E,b,L,J,rfl,rfl,rfl,l,n,e⟩ |⟨E,b,L,J,rfl,rfl,rfl,l,n,e⟩:=I.shp h' r'
 .exact RcAt.none_none
 .exact RcAt.none_bool _
 .exact RcAt.none_int _ c
 .exact RcAt.none_str _ c
 .exact RcAt.none_tuple e 'D'
 .exact RcAt.none_list e 'D'
 .exact RcAt.bool_none _
 .exact RcAt.bool_bool _ _
 .exact RcAt.bool_int _ _ c
 .exact RcAt.bool_str _ _ c
 .exact RcAt.bool_tuple _ e 'D'
 .exact RcAt.bool_list _ e 'D'
 .exact RcAt.int_none _ t
 .exact RcAt.int_bool _ t _
 .exact RcAt.int_int _ t _ c
 .exact RcAt.int_str _ t _ c
 .exact RcAt.int_tuple _ t e 'D'
 .exact RcAt.int_list _ t e 'D'
 .exact RcAt.str_none _ t
 .exact RcAt.str_bool _ t _
 .exact RcAt.str_int _ t _ c
 .exact RcAt.str_str _ t _ c
 .exact RcAt.str_tuple _ t e 'D'
 .exact RcAt.str_list _ t e 'D'
 .exact RcAt.tuple_none p 'D'
 .exact RcAt.tuple_bool _ p 'D'
 .exact RcAt.tuple_int _ c p 'D'
 .exact RcAt.tuple_str _ c p 'D'
 .exact Inv.rcTup I A (λi d d' x y u f j F w z o q=>Inv.DA I (fL g) A.in1 d d' x y u f w z o q (ur j) (by rw[hgt]at B;show A.units+1+fL g+1<cLine;lia)) k m l n 'D'
 .exact RcAt.tuple_list p e 'D'
 .exact RcAt.list_none p 'D'
 .exact RcAt.list_bool _ p 'D'
 .exact RcAt.list_int _ c p 'D'
 .exact RcAt.list_str _ c p 'D'
 .exact RcAt.list_tuple p e 'D'
 .exact Inv.rcLst I A (λi d d' x y u f j F w z o q=>Inv.DA I (fL g) A.in1 d d' x y u f w z o q (ur j) (by rw[hgt]at B;show A.units+1+fL g+1<cLine;lia)) k m l n 'D'
def Inv.rcNeD(I:'A')(A:Around)(d d':D)(v C:V)(u f:Value)(h:Rep X.K H d v)(h':Rep X.K H d' C)(r:RelV v u)(r':RelV C f)(B:A.units+hgt d+1<cLine):RcNeAt A s u f (!eqD d d'):=by
 obtain⟨rfl,rfl,rfl⟩ |⟨_,rfl,rfl,rfl⟩ |⟨_,t,rfl,rfl,rfl⟩ |⟨_,t,rfl,rfl,rfl⟩ |⟨g,a,K,G,rfl,rfl,rfl,k,m,p⟩ |⟨g,a,K,G,rfl,rfl,rfl,k,m,p⟩:=I.shp h r<;>obtain⟨rfl,rfl,rfl⟩ |⟨_,rfl,rfl,rfl⟩ |⟨_,c,rfl,rfl,rfl⟩ |⟨_,c,rfl,rfl,rfl⟩ |⟨E,b,L,J,rfl,rfl,rfl,l,n,e⟩ |⟨E,b,L,J,rfl,rfl,rfl,l,n,e⟩:=I.shp h' r'
 .exact RcNeAt.none_none
 .exact RcNeAt.none_bool _
 .exact RcNeAt.none_int _ c
 .exact RcNeAt.none_str _ c
 .exact RcNeAt.none_tuple e 'D'
 .exact RcNeAt.none_list e 'D'
 .exact RcNeAt.bool_none _
 .exact RcNeAt.bool_bool _ _
 .exact RcNeAt.bool_int _ _ c
 .exact RcNeAt.bool_str _ _ c
 .exact RcNeAt.bool_tuple _ e 'D'
 .exact RcNeAt.bool_list _ e 'D'
 .exact RcNeAt.int_none _ t
 .exact RcNeAt.int_bool _ t _
 .exact RcNeAt.int_int _ t _ c
 .exact RcNeAt.int_str _ t _ c
 .exact RcNeAt.int_tuple _ t e 'D'
 .exact RcNeAt.int_list _ t e 'D'
 .exact RcNeAt.str_none _ t
 .exact RcNeAt.str_bool _ t _
 .exact RcNeAt.str_int _ t _ c
 .exact RcNeAt.str_str _ t _ c
 .exact RcNeAt.str_tuple _ t e 'D'
 .exact RcNeAt.str_list _ t e 'D'
 .exact RcNeAt.tuple_none p 'D'
 .exact RcNeAt.tuple_bool _ p 'D'
 .exact RcNeAt.tuple_int _ c p 'D'
 .exact RcNeAt.tuple_str _ c p 'D'
 .exact Inv.neTup I A (λi d d' x y u f j F w z o q=>Inv.DA I (fL g) A.in1 d d' x y u f w z o q (ur j) (by rw[hgt]at B;show A.units+1+fL g+1<cLine;lia)) k m l n 'D'
 .exact RcNeAt.tuple_list p e 'D'
 .exact RcNeAt.list_none p 'D'
 .exact RcNeAt.list_bool _ p 'D'
 .exact RcNeAt.list_int _ c p 'D'
 .exact RcNeAt.list_str _ c p 'D'
 .exact RcNeAt.list_tuple p e 'D'
 .exact Inv.neLst I A (λi d d' x y u f j F w z o q=>Inv.DA I (fL g) A.in1 d d' x y u f w z o q (ur j) (by rw[hgt]at B;show A.units+1+fL g+1<cLine;lia)) k m l n 'D'
def rEqD(K:ak):R2:=λx y H Q=>∃d a,Rep K H d x/\Rep K H a y/\hgt d<=30/\Q (.bl (eqD d a)) H
def rNeD(K:ak):R2:=λx y H Q=>∃d a,Rep K H d x/\Rep K H a y/\hgt d<=30/\Q (.bl (!eqD d a)) H
def op_eqD(i:X.A.units+40<cLine):OpR X (dc .Eq) (rEqD X.K):=by intro j s k H x y v u Q I e f h;obtain⟨d,a,b,c,g,q⟩:=h;exact I.rcD X.A d a x y v u b c e f 'D' _ _ _ _ (xI I q rfl)
def op_neD(i:X.A.units+40<cLine):OpR X (dc .NotEq) (rNeD X.K):=by intro j s k H x y v u Q I e f h;obtain⟨d,a,b,c,g,q⟩:=h;exact I.rcNeD X.A d a x y v u b c e f 'D' _ _ _ _ (xI I q rfl)
end
end L2
namespace Q
open PySem.W
abbrev run{α:Type}(lt:Nat->Nat->Bool):KasT α->α
 |.ret a=>a
 |.ask i j k=>run lt (k (lt i j))
theorem run_bind{b c:Type}(lt:Nat->Nat->Bool)(f:b->KasT c):∀t:KasT b,run lt (t.bind f)=run lt (f (run lt t))
 |.ret a=>rfl
 |.ask i j k=>run_bind lt f (k (lt i j))
abbrev okT{α:Type}(lt:Nat->Nat->Bool)(n:Nat):KasT α->Prop
 |.ret _=>True
 |.ask i j k=>(i<n/\j<n/\i≠j)/\okT lt n (k (lt i j))
theorem pO{b c:Type}{lt:Nat->Nat->Bool}{f:b->KasT c}:∀{t:KasT b},okT lt n t->okT lt n (f (run lt t))->okT lt n (t.bind f)
 |.ret a,_,h=>h
 |.ask i j k,h,h'=>(h.1,pO h.2 h',)
structure Tot(lt:Nat->Nat->Bool)(n:Nat):Prop where
 tri:∀i j,i<n->j<n->i≠j->lt i j= !lt j i
 tr:∀i j k,i<n->j<n->k<n->lt i j=true->lt j k=true->lt i k=true
noncomputable abbrev at'(p:Array Nat)(i:Nat):Nat:=p.getD i 0
def Hr(p:Array Nat)(i:Nat):at' p i=(p[i]?).getD 0:=by simp[at',cD]
structure Pm(p:Array Nat)(n:Nat):Prop where
 perm:p.Perm (aF n).toArray
theorem Pm.size{p:Array Nat}(h:Pm p n):p.size=n:=by rw[h.perm.size_eq];simp
def Pm.lt{p:Array Nat}(h:Pm p n)(hi:i<n):at' p i<n:=by
 have a:i<p.size:=by rw[h.size];exact hi
 have e:at' p i=p[i]:=by simp[at',a]
 have m:p[i]∈(aF n).toArray:=h.perm.mem_iff.mp (Array.getElem_mem a);rw[e];simpa using m
def Pm.inj{p:Array Nat}(h:Pm p n)(hi:i<n)(f:j<n)(e:at' p i=at' p j):i=j:=by
 have a:i<p.size:=by rw[h.size];exact hi
 have b:j<p.size:=by rw[h.size];exact f
 have g:p.toList.Nodup:=by
  have q:p.toList.Perm (aF n):=by simpa using iH.mp h.perm
  exact q.nodup_iff.mpr kE
 have c:at' p i=p.toList[i]'(by simpa using a):=by simp[at',a]
 have d:at' p j=p.toList[j]'(by simpa using b):=by simp[at',b]
 rw[c,d]at e;exact(fu g).mp e
def Nz{p:Array Nat}(a:j<=p.size)(k:Nat):at' (BH p i j) k=if i<=k/\k<j then at' p (i+j-1-k)else at' p k:=by rw[Hr];unfold BH;rw[getElem?_mirror_all a];split <;>rw[Hr]
def NA{p:Array Nat}{a d:Nat}(hs:a<p.size)(b:d<=a)(k:Nat):at' (bubble p a d) k=if k=a-d then at' p a else if a-d<k/\k<=a then at' p (k-1)else at' p k:=by
 rw[Hr,getElem?_bubble hs d b];split;·simp[at',hs]
 .split <;>rw[Hr]
def Pm.rev{p:Array Nat}(h:Pm p n):Pm (BH p i j) n:=⟨(mirror_perm _ _ _ _).trans h.perm⟩
def Pm.bub{p:Array Nat}(h:Pm p n):Pm (bubble p i j) n:=⟨(bubble_perm _ _ _).trans h.perm⟩
def Up(lt:Nat->Nat->Bool)(p:Array Nat)(m:Nat):Prop:=∀i j,i<j->j<m->lt (at' p i) (at' p j)=true
def Dn(lt:Nat->Nat->Bool)(p:Array Nat)(m:Nat):Prop:=∀i j,i<j->j<m->lt (at' p j) (at' p i)=true
section
variable {lt:Nat->Nat->Bool}{N:Nat}{p:Array Nat}
theorem Tot.flip(T:Tot lt N)(P:Pm p N)(hi:i<N)(a:j<N)(n:i≠j)(h:lt (at' p i) (at' p j)=false):lt (at' p j) (at' p i)=true:=by have q:=T.tri _ _ (P.lt hi) (P.lt a) λe=>n (P.inj hi a e);rw[h]at q;simpa using q.symm
theorem Pm.ask{p:Array Nat}(P:Pm p N)(hi:i<N)(a:j<N)(n:i≠j):at' p i<N/\at' p j<N/\at' p i≠at' p j:=(P.lt hi,P.lt a,λe=>n (P.inj hi a e),)
theorem Up.succ(T:Tot lt N)(P:Pm p N)(c:1<=n)(b:n<N)(u:Up lt p n)(h:lt (at' p (n-1)) (at' p n)=true):Up lt p (n+1):=by
 intro i j a d;by_cases e:j=n
 .subst e;by_cases e2:i=j-1;·subst e2;exact h
  .exact T.tr _ _ _ (P.lt 'D') (P.lt 'D') (P.lt b) (u i (j-1) 'D' 'D') h
 .exact u i j a 'D'
theorem Dn.succ(T:Tot lt N)(P:Pm p N)(c:1<=n)(b:n<N)(u:Dn lt p n)(h:lt (at' p n) (at' p (n-1))=true):Dn lt p (n+1):=by
 intro i j a d;by_cases e:j=n
 .subst e;by_cases e2:i=j-1;·subst e2;exact h
  .exact T.tr _ _ _ (P.lt b) (P.lt 'D') (P.lt 'D') h (u i (j-1) 'D' 'D')
 .exact u i j a 'D'
theorem AF(T:Tot lt N)(P:Pm p N):∀(f n:Nat),1<=n->n+f<=N->Up lt p n->∃m,run lt (kas_asc p f n)=m/\n<=m/\m<=n+f/\Up lt p m/\(m=n+f\/lt (at' p m) (at' p (m-1))=true)/\okT lt N (kas_asc p f n)
 | 0,n,h1,h2,u=>(n,rfl,aC _,aC _,u,.inl rfl,trivial,)
 |f+1,n,h1,h2,u=>by
  unfold kas_asc;have a:=P.ask (i:=n) (j:=n-1) 'D' 'D' 'D';simp only[run,okT];by_cases c:lt (at' p n) (at' p (n-1))=true;·rw[if_pos c];exact(n,rfl,aC _,'D',u,.inr c,a,trivial,)
  .rw[if_neg c];have h:lt (at' p n) (at' p (n-1))=false:=by simpa using c
   obtain⟨m,e,k,l,b,d,g⟩:=AF T P f (n+1) 'D' 'D' (u.succ T P h1 'D' (T.flip P 'D' 'D' 'D' h));refine(m,e,'D','D',b,?_,a,g,);rcases d with z|z;·exact .inl 'D'
   .exact .inr z
theorem Cr(T:Tot lt N)(P:Pm p N):∀(f n:Nat),1<=n->n+f<=N->Dn lt p n->∃m,run lt (kas_desc f p n 0)=(p,m,0)/\n<=m/\m<=n+f/\Dn lt p m/\okT lt N (kas_desc f p n 0)
 | 0,n,h1,h2,u=>(n,rfl,aC _,aC _,u,trivial,)
 |f+1,n,h1,h2,u=>by
  unfold kas_desc;have a:=P.ask (i:=n) (j:=n-1) 'D' 'D' 'D';have k:=P.ask (i:=n-1) (j:=n) 'D' 'D' 'D';simp only[run,okT];by_cases c:lt (at' p n) (at' p (n-1))=true;·rw[if_pos c,if_neg (dW 0)];obtain⟨m,e,l,o,b,g⟩:=Cr T P f (n+1) 'D' 'D' (u.succ T P h1 'D' c);exact(m,e,'D','D',b,a,g,)
  .rw[if_neg c];have h:lt (at' p n) (at' p (n-1))=false:=by simpa using c
   have d:=T.flip P 'D' 'D' 'D' h;simp only[run,okT];rw[if_pos d];exact(n,rfl,aC _,'D',u,a,k,trivial,)
theorem K3(T:Tot lt N)(P:Pm p N)(d:1<=n)(a:n<=N)(u:Dn lt p n):∃m p',run lt (kas_tail3 n N p)=(m,p')/\1<=m/\m<=N/\Up lt p' m/\Pm p' N/\okT lt N (kas_tail3 n N p):=by
 have g:Up lt (BH p 0 n) n:=by intro i j l f;rw[Nz (by rw[P.size];exact a),Nz (by rw[P.size];exact a),if_pos (bf _,'D',),if_pos (bf _,f,)];exact u _ _ 'D' 'D'
 obtain⟨m,e,h,k,b,_,c⟩:=AF T P.rev (N-n) n d 'D' g;unfold kas_tail3;refine(m,BH p 0 n,?_,'D','D',b,P.rev,pO c trivial,);rw[run_bind,e];rfl
def AE(T:Tot lt N)(P:Pm p N)(q:n+1<=N)(u:Dn lt p (n+1)):∃m p',run lt (kR n N p)=(m,p')/\1<=m/\m<=N/\Up lt p' m/\Pm p' N/\okT lt N (kR n N p):=by
 obtain⟨m,e,l,o,a,b⟩:=Cr T P (N-(n+1)) (n+1) 'D' 'D' u;obtain⟨j,k,c,d,f,g,h,i⟩:=K3 T P 'D' 'D' a;unfold kR;refine(j,k,?_,d,f,g,h,pO b ?_,);·rw[run_bind,e];exact c
 .rw[e];exact i
theorem Ib(T:Tot lt N)(P:Pm p N)(w:1<=N):∃m p',run lt (kas_count N p)=(m,p')/\1<=m/\m<=N/\Up lt p' m/\Pm p' N/\okT lt N (kas_count N p):=by
 obtain⟨m,e,f,v,b,g,h⟩:=AF T P (N-1) 1 (aC _) 'D' (λi j s t=>by lia);have u:∃a p',run lt (if(m==N)=true then wo (m,p)else if m>1 then KasT.ask (p.getD 0 0) (p.getD (m-1) 0) λc=>if c=true then wo (m,p)else kR m N (BH p 0 m)else kR m N p)=(a,p')/\1<=a/\a<=N/\Up lt p' a/\Pm p' N/\
   okT lt N (if(m==N)=true then wo (m,p)else if m>1 then KasT.ask (p.getD 0 0) (p.getD (m-1) 0) λc=>if c=true then wo (m,p)else kR m N (BH p 0 m)else kR m N p):=by
  by_cases c:m=N;·rw[if_pos ↥c];exact(m,p,rfl,f,'D',b,P,trivial,)
  .rw[if_neg ↥c];by_cases d:m>1;·rw[if_pos d];simp only[run,okT];rw[if_pos (b 0 (m-1) 'D' 'D')];exact(m,p,rfl,f,'D',b,P,P.ask 'D' 'D' 'D',trivial,)
   .rw[if_neg d];obtain rfl:m=1:=by lia
    rcases g with z|z;·lia
    .exact AE T P 'D' λi j s t=>by
      obtain rfl:j=1:=by lia
      obtain rfl:i=0:=by lia
      exact z
 obtain⟨a,p',k,l,n,o,q,r⟩:=u;unfold kas_count;refine(a,p',?_,l,n,o,q,pO h ?_,);·rw[run_bind,e];exact k
 .rw[e];exact r
theorem tT(T:Tot lt N)(P:Pm p N)(g:k<N)(u:Up lt p k):∀(f l r:Nat),l<=r->r<=k->r-l<=f->(∀i,i<l->lt (at' p i) (at' p k)=true)->(∀i,r<=i->i<k->lt (at' p k) (at' p i)=true)->
  ∃q,run lt (kas_place p k f l r)=q/\q<=k/\(∀i,i<q->lt (at' p i) (at' p k)=true)/\(∀i,q<=i->i<k->lt (at' p k) (at' p i)=true)/\okT lt N (kas_place p k f l r)
 | 0,l,r,h1,h2,h3,a,b=>(l,rfl,'D',a,λi hi=>b i 'D',trivial,)
 |f+1,l,r,h1,h2,h3,a,b=>by
  unfold kas_place;by_cases c:l≥ r;·rw[if_pos c];exact(l,rfl,'D',a,λi hi=>b i 'D',trivial,)
  .rw[if_neg c];have v:=P.ask (i:=k) (j:=(l+r)/2) g 'D' 'D';simp only[run,okT];by_cases d:lt (at' p k) (at' p ((l+r)/2))=true
   .rw[if_pos d];have key:=tT T P g u f l ((l+r)/2) 'D' 'D' 'D' a λi hi w=>?_;obtain⟨q,h,m,n,o,s⟩:=key;exact(q,h,m,n,o,v,s,);by_cases e:i=(l+r)/2;·rw[e];exact d
    .exact T.tr _ _ _ (P.lt g) (P.lt 'D') (P.lt 'D') d (u _ _ 'D' w)
   .rw[if_neg d];have t:=T.flip P g (by lia:(l+r)/2<N) 'D' ↥d;have key:=tT T P g u f ((l+r)/2+1) r 'D' h2 'D' (λi hi=>?_) b;obtain⟨q,h,m,n,o,s⟩:=key;exact(q,h,m,n,o,v,s,);by_cases e:i=(l+r)/2;·rw[e];exact t
    .exact T.tr _ _ _ (P.lt 'D') (P.lt 'D') (P.lt g) (u _ _ 'D' 'D') t
end
theorem Gp{lt:Nat->Nat->Bool}{N:Nat}(T:Tot lt N):∀(f k:Nat)(p:Array Nat),Pm p N->k+f=N->Up lt p k->∃p',run lt (kas_bin f p k)=p'/\Up lt p' N/\Pm p' N/\okT lt N (kas_bin f p k)
 | 0,k,p,P,h,u=>(p,rfl,by rw[<-h];exact u,P,trivial,)
 |f+1,k,p,P,h,u=>by
  have c:k<N:=by lia
  obtain⟨q,e,hq,a,b,l⟩:=tT T P c u k 0 k (bf _) (aC _) 'D' (λi hi=>absurd hi (d9 _)) λi s t=>by lia
  have key:=Gp T f (k+1) (bubble p k (k-q)) P.bub 'D' λi j v w=>?_;obtain⟨p',m,n,o,r⟩:=key;unfold kas_bin;refine(p',?_,n,o,pO l ?_,);·rw[run_bind,e];exact m
  .rw[e];exact r
  have d:k<p.size:=by rw[P.size];exact c
  rw[NA d 'D',NA d 'D'];have g:k-(k-q)=q:=by lia
  rw[g];by_cases c1:i=q;·rw[if_pos c1,if_neg 'D',if_pos 'D'];exact b _ 'D' 'D'
  .rw[if_neg c1];by_cases c2:j=q;·rw[if_pos c2,if_neg 'D'];exact a i 'D'
   .rw[if_neg c2];by_cases c3:q<i;·rw[if_pos 'D',if_pos 'D'];exact u _ _ 'D' 'D'
    .rw[if_neg 'D'];by_cases c4:q<j;·rw[if_pos 'D'];exact u _ _ 'D' 'D'
     .rw[if_neg 'D'];exact u _ _ 'D' 'D'
def fV{lt:Nat->Nat->Bool}{N:Nat}(T:Tot lt N)(p:1<=N):Pm (run lt (dO N)) N/\Up lt (run lt (dO N)) N/\okT lt N (dO N):=by
 have g:Pm (eW (aF N)) N:=⟨Array.Perm.refl _⟩;obtain⟨m,a,e,s,t,d,f,h⟩:=Ib T g p;have q:max m 1=m:=by lia
 have r:∃b,run lt (if m<N then kas_bin (N-max m 1) a (max m 1)else wo a)=b/\Up lt b N/\Pm b N/\okT lt N (if m<N then kas_bin (N-max m 1) a (max m 1)else wo a):=by
  rw[q];by_cases c:m<N;·rw[if_pos c];exact Gp T (N-m) m a f 'D' d
  .rw[if_neg c];have n:m=N:=by lia
   exact(a,rfl,by rw[<-n];exact d,f,trivial,)
 obtain⟨b,i,j,k,l⟩:=r;have o:run lt (dO N)=b:=by unfold dO;rw[run_bind,e];exact i
 rw[o];refine(k,j,?_,);unfold dO;refine pO h ?_;rw[e];exact l
theorem wp_run{lt:Nat->Nat->Bool}{N:Nat}{S:Shared->Prop}{b:Nat->Nat->(Bool->Shared->Prop)->Shared->Prop}{c:Type}{G:c->Shared->Prop}
  (h:∀i j C s,i<N->j<N->i≠j->S s->(∀s',S s'->C (lt i j) s')->b i j C s):
  ∀(t:KasT c)(s:Shared),okT lt N t->S s->(∀s',S s'->G (run lt t) s')->t.kasWp b G s
 |.ret a,s,_,hs,g=>g s hs
 |.ask i j k,s,ok,hs,g=>h i j _ s ok.1.1 ok.1.2.1 ok.1.2.2 hs λs' d=>wp_run h (k (lt i j)) s' ok.2 d g
end Q
namespace L2
structure Fly(h₀ h:Heap)(H:Hp)(pn:List (Addr×Obj))(a:Addr)(c:Value)(d:Option Addr):Prop where
 ex:∃T oe vs oT ts,h.get? a<*oe/\oe.cls=c/\oe.dict=d/\oe.data=.fields vs/\vs[1]?<*(.ref T)/\T≠a/\h.get? T<*oT/\oT.data=.fields ts/\ts[3]?<*.none/\h₀.get? T=none/\H T=none/\∀p∈pn,p.1≠T
 new:h₀.get? a=none
 un:H a=none
 pins:∀p∈pn,p.1≠a
def CXx(P:Program)(w:World):CXT:=λb H s E e s'=>
 ∃a c d H',e=.ref a/\s'.os=s.os/\qb s'.gens/\Un (frs b) [] H H' s.heap s'.heap/\HOk P w H' s'.heap/\Fly s.heap s'.heap H' [] a c d/\E c d H'
section
variable {pins:List (Addr×Obj)}{s:Shared}
def Inv.vM(I:'A')(k:∀b o,b≠it->s.heap.get? b<*o->h'.get? b<*o)(M:H it=none)(J:it≠X.env.locals)
  (F:X.s₀.heap.get? it=none)(t:∀x c,X.env.cells.lookup x<*c->c≠it)(G:∀p∈X.pn++pins,p.1≠it):Inv X pins σ H {s with heap:=h',toks:=t'}:=by
 have h:∀b o,X.s₀.heap.get? b<*o->b≠it:=λb o e z=>by rw[z,F]at e;cases e
 have y:∀b u,H b<*u->b≠it:=λb u e z=>by rw[z,M]at e;cases e
 refine(I.ok,I.os,I.bare,(λb o e n g a=>k b o (h b o e) (I.base.keep b o e n g a),λb o e n g a=>?_,I.base.free,λb o e a=>?_,I.base.tups,I.base.frzs,I.base.tbls,),?_,λx c e=>?_,I.free,I.freeC,λp w=>?_,λb u e=>?_,I.len,);·obtain⟨S,q⟩:=I.base.slot b o e n g a;exact(S,k _ _ (h b o e) q,)
 .obtain⟨Q,q⟩:=I.base.there b o e a;exact(Q,k _ _ (h b o e) q,)
 .obtain⟨m,⟨o,E,D,N,r⟩,L⟩:=I.loc;refine(m,(o,E,D,k _ _ (bI J) N,r,),λi x v A B C=>?_,);obtain⟨u,R,l⟩:=L i x v A B C;refine(u,R,?_,);rcases l with l|⟨O,c,e,j,q,f⟩;·exact .inl l
  .exact .inr (O,c,e,j,k _ _ (t x c e) q,f,)
 .obtain⟨v,j,q,f⟩:=I.cell x c e;exact(v,j,k _ _ (t x c e) q,f,)
 .obtain⟨e,n,ne,P,d⟩:=I.pin p w;exact(k _ _ (G p w) e,n,ne,P,d,)
 .refine(I.hok b u e).mf (λc v K q=>k c v ?_ q) (λ_ q=>q) λ_ _ q=>q;rcases K with z|z;·rw[z];exact y b u e
  .exact y c _ z
def Inv.wQ(I:'A'){o:Obj}{vs:Array Value}(e:s.heap.get? a<*o)(f:o.data=.fields vs):a≠X.env.locals/\∀x c,X.env.cells.lookup x<*c->c≠a:=by
 refine(λz=>?_,λx c g z=>?_,);·obtain⟨m,⟨h,j,i,d,b,_⟩,_⟩:=I.loc;rw[<-z,e]at d;cases d;rw[f]at b;cases b
 .obtain⟨v,h,d,b⟩:=I.cell x c g;rw[z,e]at d;cases d;rw[f]at b;cases b
def eA.has{o:HO}(x:eA P w H h a o):∃b,h.get? a<*b:=by
 cases o with
 |lst xs=>obtain⟨_,_,_,_,e⟩:=x;exact(_,e,)
 |tup xs=>obtain⟨_,_,_,_,e,_⟩:=x;exact(_,e,)
 |dK kvs=>obtain⟨_,_,_,_,o,_,_,e,_⟩:=x;exact(_,e,)
 |dT kvs=>obtain⟨_,_,_,_,o,_,_,e,_⟩:=x;exact(_,e,)
 |set S n=>obtain⟨o,_,_,_,e,_⟩:=x;exact(_,e,)
 |ins C dx fs=>obtain⟨_,_,_,e,_⟩:=x;exact(_,e,)
 |own y=>exact x
 |xd fs=>obtain⟨_,⟨_,_,_,e,_⟩,_⟩:=x;exact(_,e,)
 |rng lo hi=>obtain⟨_,_,_,e⟩:=x;exact(_,e,)
 |frz b u=>obtain⟨e,_⟩:=x;exact(_,e,)
 |tbl ps=>exact(_,x,)
 |met f y=>exact(_,x,)
 |ext φ=>exact x.2.1
section
variable {M:Model}{E:'I'}{Q:Unit->Shared->Prop}
def enter{g:Obj}{vs:Array Value}{head:Value}{more:Bool}(I:'A')(u:X.stack=X.env::X.outer)(hf:X.env.frame<*X.env.locals)
  (A:s.heap.get? a<*g)(m:g.data=.fields vs)(S:1<vs.size)(h0:X.s₀.heap.get? a=none)(C:H a=none)(O:∀p∈X.pn++pins,p.1≠a)
  (h:∀s2,Inv X pins σ H s2->Fly X.s₀.heap s2.heap H (X.pn++pins) a g.cls g.dict->Q () s2):
  wpAny M X.A (do let f<-frameOf X.env;let l<-entryPlaceOf X.env.locals more;let b<-D5 head f .none (rawInt X.env.locals) .none l;vG (.ref a) 1 b)
   (λ_ s'=>wpAny M X.A (DU (.ref a) none) Q E s') E s:=by
 have a2:X.A.frames<*(X.env::X.outer):=by rw[<-u];exact I.ok.frames
 have L:s.heap.FunFrames X.base (X.env::X.outer):=by rw[<-u];exact I.stack
 have nofr:∀b∈frs X.stack,H b=none:=I.Ah;refine aa (wpAny_frameOf_fun a2 L hf λd R=>?_);have k:Heap.SlotsOnly (frs X.stack) s.heap d:=by rw[u];exact R
 have a1:a∉frs X.stack:=λr=>by rw[u]at r;obtain⟨_,o,N,a3⟩:=L.mem r;rw[A]at N;cases N;exact a3 vs m
 have u1:Un (frs X.stack) [] H H s.heap d:=
  ⟨λb o e _ j _=>(k.2.1 b j).trans e,λb o e _ _ _=>k.2.2 b o e,λ_ _ _ n _=>n,λb o e _=>let⟨sl,q⟩:=k.2.2 b o e;(_,q,),λ_ _ q=>q,λ_ _ _ q=>q,λ_ ps q=>⟨#[],by rw[q];simp⟩⟩
 have k1:HOk X.prog X.w H d:=λb b0 e=>by
  refine(I.hok b b0 e).mf (λc b2 hc q=>(k.2.1 c λr=>?_).trans q) (λ_ q=>q) λ_ _ q=>q;have n:=nofr c r;rcases hc with z|z;·rw[z,e]at n;cases n
  .rw[z]at n;cases n
 have V:Inv X pins σ H {s with heap:=d}:=I.call (g':=s.gens) (t':=s.toks) (d':=s.drawn) (ch:=[]) u1 k1 I.bare λ_ z=>nomatch z;have G:d.get? a<*g:=(k.2.1 a a1).trans A;refine aa (wpAny_entryPlaceOf λi a5=>?_);unfold D5 newFields;refine aa (bR ?_ (a5.sizeOk5 _ _ _ _ _));generalize hob:({cls:=.type "traceback",dict:=none,data:=.fields ([head,.ref X.env.locals,.none,rawInt X.env.locals,.none]++(if i.isEmpty then cu 6 cg else i)).toArray}:Obj)=ob;have t:ob.data=.fields ([head,.ref X.env.locals,.none,rawInt X.env.locals,.none]++(if i.isEmpty then cu 6 cg else i)).toArray:=by rw[<-hob]
 have a4:ob.isFreed=false:=by rw[<-hob];rfl
 have W:Inv X pins σ H {s with heap:=d.push ob}:=V.kept (t':=s.toks) λb o e=>af _ e;have J:(d.push ob).get? a<*g:=af _ G;have a0:(d.push ob).get? d.objs.size<*ob:=az _ a4;have w:d.objs.size≠a:=eM (aA G);have y:=fJ m (·.setIfInBounds 1 (aN d.objs.size));refine vE J m S ?_;obtain⟨a6,a7⟩:=I.wQ A m;have B:Inv X pins σ H {s with heap:=(d.push ob).update a (gc (·.setIfInBounds 1 (.ref d.objs.size)))}:=
  W.vM (t':=s.toks) (λb o j e=>by rw[aX _ _ (bI j)];exact e) C a6 h0 a7 O
 have K:=bK (gc (·.setIfInBounds 1 (aN d.objs.size))) J (kD y);have v:((d.push ob).update a (gc (·.setIfInBounds 1 (aN d.objs.size)))).get? d.objs.size<*ob:=by rw[aX _ _ (bI w)];exact a0
 have T:3<([head,.ref X.env.locals,.none,rawInt X.env.locals,.none]++(if i.isEmpty then cu 6 cg else i)).toArray.size:=by simp only[aE,bX,bG,lH];lia
 have U:(vs.setIfInBounds 1 (aN d.objs.size))[1]?<*(.ref d.objs.size):=by simp[S]
 refine wpAny_setFlight_none K y U v t T ?_;have x:⇑s<=d.objs.size:=qd R.1.symm;have D:X.s₀.heap.get? d.objs.size=none:=rH (aT I.sz x);have F:H d.objs.size=none:=I.hok.fresh x;obtain⟨a8,a9⟩:=B.wQ v t;have P:∀p∈X.pn++pins,p.1≠d.objs.size:=λp hq z=>by have q:=aA (I.pin p hq).1;exact absurd (bu (z▸q) x) (dW _)
 have Y:=B.vM (t':=s.toks) (h':=((d.push ob).update a (gc (·.setIfInBounds 1 (.ref d.objs.size)))).update d.objs.size (gc (·.setIfInBounds 3 .none)))
  (λb o j e=>by rw[aX _ _ (bI j)];exact e) F a8 D a9 P
 refine h _ Y ((d.objs.size,_,_,_,_,?_,Obj.cls_mapFields _ _,?_,y,U,w,bK _ v (kD (fJ t _)),fJ t _,?_,D,F,P,),h0,C,O,);·show(Heap.update _ _ _).get? a=_;rw[aX _ _ w];exact K
 .obtain⟨c',d',Z,b1⟩:=g;cases Z<;>rfl
 .rw[qO T]
def C0{c:Value}(I:'A')(l:X.stack=X.env::X.outer)(hf:X.env.frame<*X.env.locals)(k:X.ex=[])(b:rJ s.heap h' a c args)
  (h:∀s2,Inv X pins σ H s2->Fly X.s₀.heap s2.heap H (X.pn++pins) a c none->Q () s2):
  wpAny M X.A (oE (.ref a) X.env) (λ_ s'=>wpAny M X.A (DU (.ref a) none) Q E s') E {s with heap:=h'}:=by
 obtain⟨t,d,_,_⟩:=b.there;have f:Inv X pins σ H {s with heap:=h'}:=I.kept (t':=s.toks) b.keeps;have i:H a=none:=by
  cases q:H a with
  |none=>rfl
  |some o=>obtain⟨n,e⟩:=(I.hok a o q).has;rw[b.new]at e;cases e
 unfold oE;simp only[hf];refine aa (fK (x:=.none) d rfl (by rfl) ?_);rw[if_neg (show ¬(cg != cg)=true by simp)];have g:X.s₀.heap.get? a=none:=by
  cases q:X.s₀.heap.get? a with
  |none=>rfl
  |some o=>obtain⟨m,e⟩:=I.base.there a o q (by rw[k];simp);rw[b.new]at e;cases e
 exact enter f l hf d rfl 'F' g i (λp j z=>by have :=(I.pin p j).1;rw[z,b.new]at this;cases this) h
def C1{c:Value}{d:Option Addr}(I:'A')(R:X.stack=X.env::X.outer)(hf:X.env.frame<*X.env.locals)(L:X.ex=[])(J:s'.os=s.os)(G:qb s'.gens)(u:Un (frs X.stack) [] H H' s.heap s'.heap)(ok:HOk X.prog X.w H' s'.heap)
  (F:Fly s.heap s'.heap H' [] a c d)(h:∀s2,Inv X pins σ H' s2->Fly X.s₀.heap s2.heap H' (X.pn++pins) a c d->Q () s2):
  wpAny M X.A (oE (.ref a) X.env) (λ_ s'=>wpAny M X.A (DU (.ref a) none) Q E s') E s':=by
 obtain⟨⟨T,N,W,U,V,r,rfl,rfl,m,k,B,f,g,l,t,y,_⟩,v,A,_⟩:=F;have i:Inv X pins σ H' s':=I.call' (ch:=[]) J u ok G λ_ z=>nomatch z;have j:∀b,s.heap.get? b=none->X.s₀.heap.get? b=none:=λb n=>by
  cases q:X.s₀.heap.get? b with
  |none=>rfl
  |some o=>obtain⟨S,e⟩:=I.base.there b o q (by rw[L];simp);rw[n]at e;cases e
 have w:∀b,s.heap.get? b=none->∀p∈X.pn++pins,p.1≠b:=λb n p K z=>by have :=(I.pin p K).1;rw[z,n]at this;cases this
 unfold oE;simp only[hf];refine aa (fK r m k ?_);rw[if_pos (show(aN T != cg)=true by simp)];refine aa (fK f g l ?_);rw[if_neg (show ¬(cg==rawInt X.env.locals)=true by simp[rawInt])];refine aa (vE f g (cq.mp l).1 ?_);obtain⟨O,P⟩:=i.wQ f g;have x:=i.vM (t':=s'.toks) (h':=s'.heap.update T (gc (·.setIfInBounds 3 .none))) (λb o C e=>by rw[aX _ _ (bI C)];exact e) y O (j T t) P (w T t);have D:(s'.heap.update T (gc (·.setIfInBounds 3 .none))).get? a<*N:=by rw[aX _ _ B];exact r
 exact enter x R hf D m (cq.mp k).1 (j a v) A (w a v) h
end
end
end L2
namespace L2
open PySem.W
abbrev sr(K:ak)(C:Addr):Bool:=
 findIn K (.ref C) "__getattribute__"==some (some (.builtin "BaseException.__getattribute__"))&&findIn K (.ref C) "__getattr__"==some none&&
 findIn K (.ref C) "__class__"==some (some (.builtin "object.__class__"))&&specialIn K (.builtin "object.__class__") "__get__"==some (some (.builtin "getset_descriptor.__get__"))&&
 takesIn K (.builtin "object.__class__")==some true&&mroIn K C (.type "object")==some true&&mroIn K C (.type "BaseException")==some true&&(clsIn K C).isSome
structure ya(K:ak)(C:Addr):Prop where
 ga:findIn K (.ref C) "__getattribute__"<*(some (.builtin "BaseException.__getattribute__"))
 hook:findIn K (.ref C) "__getattr__"<*none
 cl:findIn K (.ref C) "__class__"<*(some (.builtin "object.__class__"))
 get:specialIn K (.builtin "object.__class__") "__get__"<*(some (.builtin "getset_descriptor.__get__"))
 tk:takesIn K (.builtin "object.__class__")<*true
 obj:mroIn K C (.type "object")<*true
 bex:mroIn K C (.type "BaseException")<*true
 isc:(clsIn K C).isSome=true
def Dy(h:sr K C=true):ya K C:=by unfold sr at h;simp only[aB,beq_iff_eq]at h;obtain⟨⟨⟨⟨⟨⟨⟨a,b⟩,c⟩,d⟩,e⟩,f⟩,g⟩,i⟩:=h;exact(a,b,c,d,e,f,g,i,)
def EB:splitId "BaseException.__getattribute__"<*("BaseException","__getattribute__"):=by decide+kernel
def II:builtinKind "BaseException.__getattribute__"<*.slot:=by decide+kernel
def ga_ne:(jg "BaseException.__getattribute__"==jg "object.__getattribute__")=false:=by decide+kernel
section
variable {E:'I'}{s:Shared}{a C:Addr}{o:Obj}{od:Option Obj}
def x8{M:Model}{b:Value}{Q:Unit->Shared->Prop}{g:Array iF}{d:Drawn}{t:Nat}{c:OsState}(e:K.In h)(J:InstAt h a o C od)(F:ya K C)(hq:Q () (h,g,d,t,c,)):
  wpAny M A (DW "BaseException.__getattribute__" ([.ref a,b],[],)) Q E (h,g,d,t,c,):=by
 have f:=J.type (M:=M);have i:=looks_mroIn (M:=M) e F.bex;have j:=PySem.F.args_bexc_ga (.ref a) b;simp only[DW,II,EB];unfold JD;repeat(first |lk|wp_step)
 exact hq
def Jp{tk:Tok}{R:Result->Shared->Prop}(b:K.In s.heap)(J:InstAt s.heap a o C od)(F:ya K C)(h:R (.ok (.ret (.ref C))) s):
  gA (model prog w) A (.call (.builtin "BaseException.__getattribute__") ([.ref a,.str "__class__" tk],[],)) R s:=by
 have hf:we K C od "__class__"<*(.bind (.builtin "getset_descriptor.__get__") (.builtin "object.__class__")):=by obtain⟨cd,c⟩:=cW.mp F.isc;unfold we;rw[c,gp,F.cl,gp];simp[F.get,F.tk]
 obtain⟨e,g,d,t,f⟩:=s;have i:=J.type (M:=model prog w);have j:=looks_find (M:=model prog w) b J hf;refine gz gV.ga.plain Ee (x8 b J F ?_);unfold Builtin.«object.__getattribute__»;repeat(first |with_reducible refine hV ?_ |lk|wp_step)
 refine class_get (s:=(e,g,d,t,f,)) b J F.obj ?_;repeat(first |lk|wp_step)
 exact h
def IY{Q:Option Value->Shared->Prop}(b:K.In s.heap)(J:InstAt s.heap a o C od)(F:ya K C)(h:Q (some (.ref C)) {s with toks:=s.toks+1}):
  'B' (getAttr? (.ref a) "__class__") Q E s:=by
 obtain⟨j,g,d,t,k⟩:=s;have c:=J.type (M:=model prog w);have e:=tw (M:=model prog w) b F.ga;have f:=tw (M:=model prog w) b F.hook;have hf:we K C od "__class__"<*(.bind (.builtin "getset_descriptor.__get__") (.builtin "object.__class__")):=by obtain⟨cd,i⟩:=cW.mp F.isc;unfold we;rw[i,gp,F.cl,gp];simp[F.get,F.tk]
 have l:=looks_find (M:=model prog w) b J hf;have m:=looks_mroIn (M:=model prog w) b F.bex;unfold getAttr? getAttrBy? getAttrBy;refine aa (wpAny_mkText (aa (jH (ba (aa (c.at (aa (e.at ?_))))))));show wpAny _ _ (if(DV (.ref C)&&(jg "BaseException.__getattribute__"==jg "object.__getattribute__"))=true then _ else _) _ _ _;rw[ga_ne,dS,if_neg aq];unfold getAttrByItsOwn hookBefore;rw[if_pos (show DV (.ref C)=true from rfl)];refine aa (f.at ?_);unfold callGetattribute boundAndCalled;rw[dR,if_neg aq];refine aa (jH (ba (aa ?_)));rw[gV.ga.bind (.ref a)];refine aj (hV (Jp (s:=(j,g,d,t+1,k,)) b J F ?_));exact handed_on rfl (aj h)
end
@[reducible]def bmV:List Value:=[.type "ValueError",.type "Exception",.type "BaseException",.type "object"]
abbrev oh(a:Addr)(c:Value)(d:Option Addr):HO:=.ext λh=>∃o,h.get? a<*o/\o.cls=c/\o.dict=d/\notCls o=true
section
variable {a C:Addr}
def Mp(F:ya K C):KitX K (.ref a) (.ref C) (λh=>∃o od,InstAt h a o C od) where
 ty:=λM h _ p=>by obtain⟨o,od,J⟩:=p;exact J.type
 it:=λM h c _=>by
  obtain⟨cd,b⟩:=cW.mp F.isc;unfold clsIn at b;split at b;·rename_i ho;intro A Q E s k q;unfold isType loadHead;exact aa (Jw (k _ _ (c _ _ ho)) (aj q))
  .cases b
 ne:=λh e f g n i c d=>by
  obtain⟨cd,b⟩:=cW.mp F.isc;refine ix.mpr λq=>?_;obtain rfl:C=e:=aN.inj (beq_iff_eq.mp q);unfold clsIn at b;split at b;·rename_i ho;have z:=(c _ _ ho).symm.trans d;cases z
  .cases b
 ca:=λc p k=>by obtain⟨o,od,J⟩:=p;exact IY c J F k
def Fu{d:Option Addr}(ok:HOk P w H h)(e:H a<*(oh a (.ref C) d))(i:∀dd,d<*dd->∃φ,H dd<*(.ext φ)):∃o od,InstAt h a o C od:=by
 obtain⟨⟨o,b,c,f,g⟩,_⟩:=ok a _ e;cases d with
 |none=>exact⟨o,none,b,c,g,by rw[f];exact True.intro⟩
 |some dd=>obtain⟨u,j⟩:=i dd rfl;obtain⟨od,z⟩:=(ok dd _ j).2.1;exact⟨o,some od,b,c,g,by rw[f];exact z⟩
end
section
def exc_obj{newId:String}(a:K.In h)(q:excIn K C bmB newId=true):
  ∃nm p N bs bm o sn sub ab col dd k0 k1 k2 k3 k5 mN,h.get? C<*(j6 nm p C N bs bm o sn sub ab col dd k0 k1 k2 k3 k5 newId)/\h.Ns N mN/\mN "__init__"=none/\OwnTail h bmB bm:=by
 unfold excIn at q;split at q
 case h_2=>cases q
 rename_i od cd sl ho;split at q
 case h_2=>cases q
 rename_i C' bm j0 j1 j2 j3 n j5 hm hs;rw[aB,aB,aB,aB,aB,beq_iff_eq,beq_iff_eq,beq_iff_eq]at q;obtain⟨⟨⟨⟨⟨e,f⟩,g⟩,i⟩,b⟩,j⟩:=q;subst e;subst f;obtain⟨r,t,d,u,v,w,x,y,z,s,c⟩:=cd;have k:d=.ref C'::bm:=hm;have l:c=false:=by simpa using g
 have m:sl= #[j0,j1,j2,j3,some (.builtin n),j5]:=by
  apply BZ
  exact hs
 subst k;subst l;subst m;exact(_,_,_,_,_,_,_,_,_,_,_,_,_,_,_,_,_,a _ _ ho,.of_isNs (isNs_of_in a b),nsMap_none_of_in a b j,tail_of_in a i,)
def Lh{b:List Expr}{t:TA}{E:St->XK}(y:Gl X x)(F:X.mg x<*(.ref C))(A:keepIn X.K (.ref C)=true)(hq:excIn X.K C bmV "ValueError.__new__"=true)(n:PA X (e::b) t)(p:X.calm=true)(w:(x==("__debug__":Str))=false)
  (K:bH (e::b) X.env=(false,eval e X.env)::bH b X.env)(J:(backTo bn (bH b X.env)).any (·.1)=false)
  (M:∀pins σ H s a c args h','A'->rJ s.heap h' a c args->E σ c none H->X.xe (.ref a) {s with heap:=h'}):
  PS X (.Raise (some (.Call (.Name x np) (e::b) [] bn)) none pos) (λD σ H=>t σ H λvs H1=>vs.length<=sizeLine/\E σ (.ref C) none H1):=by
 intro pins s σ H D I h;obtain⟨nm,k,N,bs,bm,j,sn,sub,ab,col,dd,k0,k1,k2,k3,k5,R,l,m,G,T⟩:=exc_obj (bmB:=bmV) I.mod.kin hq;have o:bm.contains (.type "BaseException")=true:=T.hasType (by decide+kernel);rw[arm_exec_Raise];show wpAny _ _ (do BE pos;raiseStmt X.env (some (do let v<-eval (.Call (.Name x np) (e::b) [] bn) X.env;BE pos;pure v)) none) _ _ s;refine aa (iI (wpAny_raiseStmt_made_sub (C:=C) (nm:=nm) (q:=k) (N:=N) (bs:=bs) (bm:=bm) (hdct:=j) (sn:=sn) (sub:=sub) (ab:=ab) (col:=col) (dd:=dd) (k0:=k0) (k1:=k1) (k2:=k2) (k3:=k3) (k5:=k5) (newId:="ValueError.__new__") o (I.ok.hd p) (aa (dy (Q:=λv d=>∃a u,v=.ref a/\d.heap.get? C<*(j6 nm k C N bs bm j sn sub ab col dd k0 k1 k2 k3 k5 "ValueError.__new__")/\d.heap.get? a<*{cls:=.ref C,data:=.fields #[.ref u,.none,.none,.none,.bool false,.none]}/\X.xe (.ref a) d) (E:=X.xe) ?_ (λv d z=>aa (iI (aj z))) λ_ _ z=>z))));refine fO (nL I y F ?_ w);refine tB (h₀:=X.base) I.ok.mod.kin A (thn (n bn pins s σ H _ I h) λU d ⟨vs,H1,f,r,B,q⟩=>(f.kIn,?_,)) K J;have i:=f.bk _ _ l;obtain⟨P,O,dr,tk,S⟩:=d;refine wpAny_call_exc_subT (hrest:=by rw[zZ,<-r.length];exact B) lQ (T.keeps f.bk) i (m.keeps f.bk) G λh' a g=>?_;obtain⟨u,L,_,_⟩:=g.there;exact(a,u,rfl,g.keeps _ _ i,L,M pins σ H1 _ a _ _ h' f g q,)
end
abbrev Cx.re(X:Cx)(A:Around)(calm:Bool)(pn:List (Addr×Obj))(xe:'I'):Cx:={X with A:=A,calm:=calm,pn:=pn,xe:=xe}
section
variable {pins:List (Addr×Obj)}{s:Shared}
theorem Inv.re{calm:Bool}{pn:List (Addr×Obj)}(I:'A')(a:A.frames=X.A.frames)(b:calm=true->A.handled=none)(c:∀p∈pn++pins',p∈X.pn++pins):
  Inv (X.re A calm pn xe) pins' σ H s:=
 ((I.ok.mod,I.ok.kind,I.ok.glob,I.ok.blt,I.ok.above,I.ok.inj,I.ok.has,I.ok.cab,b,a.trans I.ok.frames,I.ok.stk,I.ok.exf,I.ok.bs,I.ok.bsz,I.ok.noex,I.ok.exfs,I.ok.xG,I.ok.frf,),
  I.os,I.bare,I.base,I.loc,I.cell,I.free,I.freeC,λp q=>I.pin p (c p q),I.hok,I.len,)
def Inv.J8{calm:Bool}{pn:List (Addr×Obj)}(ok:X.Ok)(I:Inv (X.re A calm pn xe) pins' σ H s)(a:∀p∈X.pn++pins,p∈pn++pins'):'A':=
 (ok,I.os,I.bare,I.base,I.loc,I.cell,I.free,I.freeC,λp q=>I.pin p (a p q),I.hok,I.len,)
def pP{M:Model}{n:Str}{Q:Unit->Shared->Prop}(I:'A')(B:X.N.Nodup)(hi:X.N[i]?<*n)(F:X.env.scope.names.lookup n<*.local)
  (h:∀s',Inv X pins (σ.set i none) H s'->Q () s'):wpAny M A (do bindName X.env n .none;unbindBehindTheSuite X.env n pos) Q E s:=by
 obtain⟨m,u,G⟩:=id I.loc;have D:(X.env.scope.kind== .class||(X.env.scope.kind== .module&&X.env.locals != X.env.globals))=false:=by rw[I.ok.kind];rfl
 obtain⟨W,_,_,V,_⟩:=id u;refine wpAny_nameGoes_keeps F u D λU v J a=>h _ ?_;have t:∀b o,X.s₀.heap.get? b<*o->b≠X.env.locals:=λb o e=>aM (bu (aA e) I.ok.above);refine(I.ok,I.os,I.bare,(λb o e n r l=>(a.2 b (t b o e)).trans (I.base.keep b o e n r l),λb o e n r l=>?_,I.base.free,λb o e l=>?_,I.base.tups,I.base.frzs,I.base.tbls,),(_,J,λj y T f g x=>?_,),λy c e=>?_,I.free,I.freeC,λp K=>?_,λb O e=>?_,↥I.len,);·obtain⟨R,f⟩:=I.base.slot b o e n r l;exact(R,(a.2 b (t b o e)).trans f,)
 .obtain⟨N,f⟩:=I.base.there b o e l;exact(N,(a.2 b (t b o e)).trans f,)
 .by_cases hj:j=i
  .subst hj;rw[List.getElem?_set]at g;split at g;·split at g<;>cases g
   .exact absurd rfl (by assumption)
  .rw[la (bI hj)]at g;obtain⟨S,P,q⟩:=G j y T f g x;refine(S,P,?_,);rcases q with⟨k,e⟩ |⟨k,c,e,z⟩;·refine .inl (k,?_,);have :y≠n:=λe=>hj (w6 B f (e▸hi));simp[this,e]
   .exact .inr (k,c,e,z.sameBut a (I.cne y c e),)
 .obtain⟨w,z⟩:=I.cell y c e;exact(w,z.sameBut a (I.cne y c e),)
 .obtain⟨e,n,ne,L,d⟩:=I.pin p K;exact((a.2 p.1 ne).trans e,n,ne,L,d,)
 .refine(I.hok b O e).mf (λc w C q=>(a.2 c ?_).trans q) (λ_ q=>q) λ_ _ q=>q;have hf:=I.free;rintro rfl;rcases C with z|z;·rw[<-z,hf]at e;cases e
  .rw[hf]at z;cases z
def Inv.take{c:Value}{d:Option Addr}(I:'A')(K:X.ex=[])(F:Fly X.s₀.heap s.heap H (X.pn++pins) a c d):Inv X pins σ (upd H a (oh a c d)) s:=by
 obtain⟨⟨T,l,N,L,M,i,v,w,j,_⟩,y,f,A⟩:=F;obtain⟨D,E⟩:=I.wQ i j;refine(I.ok,I.os,I.bare,(I.base.keep,I.base.slot,λb o e n h=>?_,I.base.there,λb m e=>?_,λb o u e=>?_,λb C e=>?_,),I.loc,I.cell,?_,λx g e=>?_,λp q=>?_,λb u e=>?_,I.len,);·rw[bj (λz=>by rw[z,y]at e;cases e)];exact I.base.free b o e n h
 .have q:=I.base.tups b m e;rw[bj (cA q f)];exact q
 .have q:=I.base.frzs b o u e;rw[bj (cA q f)];exact q
 .obtain⟨more,q⟩:=I.base.tbls b C e;exact⟨more,by rw[bj (cA q f)];exact q⟩
 .rw[bj (bI D)];exact I.free
 .rw[bj (E x g e)];exact I.freeC x g e
 .obtain⟨e,n,ne,B,d⟩:=I.pin p q;exact(e,by rw[bj (A p q)];exact n,ne,B,d,)
 .by_cases h:b=a;·subst h;rw[aD]at e;cases e;refine(⟨l,i,v,w,by unfold notCls;rw[j]⟩,(l,i,),λG J p k=>?_,);obtain⟨o,t,r⟩:=p;exact(o,k o t,r,)
  .rw[bj h]at e;exact(I.hok b u e).mf (λ_ _ _ q=>q) (λg q=>by rw[bj (cA q f)];exact q) λg m q=>by rw[bj (cA q f)];exact q
end
abbrev Ends.drop(D:Ends)(i:Nat):Ends:={nx:=λσ H=>D.nx (σ.set i none) H,rt:=D.rt,bk:=λσ H=>D.bk (σ.set i none) H,ct:=λσ H=>D.ct (σ.set i none) H}
def uy(K:ak)(C:Addr)(i:Nat)(ts:TS)(D:Ends):St->XK:=λσ c d H=>
 c=c/\exmOne K c (.ref C)<*true/\∀a,H a=none->ts (D.drop i) (σ.set i (some (.ref a))) (upd H a (oh a c d))
def lb(X:Cx)(pins:List (Addr×Obj))(D:Ends)(hs:List ExceptHandler):'I':=λe a=>
 'C' (oE e X.env) (λ_ s2=>'C' (DU e none) (λ_ s3=>'C' (handleBy e X.env hs) (SP X pins D) X.xe s3) X.xe s2) X.xe a
section
variable {pins:List (Addr×Obj)}{s:Shared}{x n:Str}{C:Addr}{b₀:Stmt}{suite:List Stmt}{hpos:Pos}{ts:TS}{D:Ends}
structure DT(X:Cx)(x n:Str)(C:Addr)(i:Nat)(suite:List Stmt)(ts:TS):Prop where
 nd:X.N.Nodup
 at_:X.N[i]?<*n
 loc:X.env.scope.names.lookup n<*.local
 gl:Gl X x
 mg:X.mg x<*(.ref C)
 db:(x==("__debug__":Str))=false
 stk:X.stack=X.env::X.outer
 fr:X.env.frame<*X.env.locals
 ex:X.ex=[]
 su:∀(pins:List (Addr×Obj))(a:Addr),PSs (X.re (X.A.mark (some (.ref a))) false (X.pn++pins) (λ_ _=>False)) suite ts
def uD{c:Value}{d:Option Addr}(O:DT X x n C i (b₀::suite) ts)(I:'A')(F:Fly X.s₀.heap s.heap H (X.pn++pins) a c d)(h:uy X.K C i ts D σ c d H):
  'C' (handleBy (.ref a) X.env [.ExceptHandler (some (.Name x np)) (some n) (b₀::suite) hpos]) (SP X pins D) X.xe s:=by
 obtain⟨_,hm,hk⟩:=h;obtain⟨⟨T,oe,vs,oT,tv,o,t,Y,G,w,E,m,l,y,K,A,L⟩,a0,B,hp⟩:=F;refine wpAny_handleBy_cons (codeAny_handlers_test ?_) (by intro q;cases q);have Q:Inv (X.re (X.A.mark (some (.ref a))) false (X.pn++pins) (λ_ _=>False)) [] σ H s:=I.re rfl (λz=>nomatch z) λp q=>by simpa using q
 refine nL Q O.gl O.mg ?_ O.db;have W:Looks (model X.prog X.w) s.heap (typeOf (.ref a)) c:=t▸(Looks.ld o).andThen .now;refine(exm_one I.kIn W hm).here (codeAny_handlers_suite_as ?_);refine wpAny_setFlight_none o G w m l (cq.mp y).1 ?_;obtain⟨a1,a2⟩:=I.wQ m l;have R:=I.vM (t':=s.toks) (h':=s.heap.update T (gc (·.setIfInBounds 3 .none))) (λa3 a4 Z e=>by rw[aX _ _ (bI Z)];exact e) A a1 K a2 L;have P:Fly X.s₀.heap (s.heap.update T (gc (·.setIfInBounds 3 .none))) H (X.pn++pins) a c d:=by refine((T,oe,vs,_,_,by rw[aX _ _ E];exact o,t,Y,G,w,E,bK _ m (kD (fJ l _)),fJ l _,?_,K,A,L,),a0,B,hp,);rw[qO (cq.mp y).1]
 have S:=R.take O.ex P;refine wG S O.nd O.at_ (.inl O.loc) (v:=.ref a) rfl (λM U=>?_) (.inr O.loc);have V:Inv (X.re (X.A.mark (some (.ref a))) false (X.pn++pins) (λ_ _=>False)) [] (σ.set i (some (.ref a))) (upd H a (oh a c d)) M:=U.re rfl (λz=>nomatch z) λp q=>by simpa using q
 refine dy (O.su pins a [] M _ _ (D.drop i) V (hk a B)) (λf N q=>?_) λ_ _ z=>z.elim;have k:∀{j:St}{b:Hp},Inv (X.re (X.A.mark (some (.ref a))) false (X.pn++pins) (λ_ _=>False)) [] j b N->Inv X pins j b N:=λ{j b} J=>J.J8 I.ok λp q=>by simpa using q
 cases f with
 |next =>obtain⟨j,b,J,q⟩:=q;exact pP (k J) O.nd O.at_ O.loc λr g=>(_,_,g,q,)
 |brk=>obtain⟨j,b,J,q⟩:=q;exact pP (k J) O.nd O.at_ O.loc λr g=>(_,_,g,q,)
 |cont=>obtain⟨j,b,J,q⟩:=q;exact pP (k J) O.nd O.at_ O.loc λr g=>(_,_,g,q,)
 |ret u=>obtain⟨v,j,b,J,rv,q⟩:=q;exact pP (k J) O.nd O.at_ O.loc λr g=>(v,_,_,g,rv,q,)
def Ka(O:DT X x n C i (b₀::suite) ts){e:Value}(ok:X.Ok)(m:X.calm=true)
  (I:Inv (X.re X.A X.calm (X.pn++pins) (lb X pins D [.ExceptHandler (some (.Name x np)) (some n) (b₀::suite) hpos])) pins' σ H s)(h:CXx X.prog X.w X.stack H s (uy X.K C i ts D σ) e s'):
  lb X pins D [.ExceptHandler (some (.Name x np)) (some n) (b₀::suite) hpos] e s':=by
 obtain⟨a,c,d,l,rfl,j,g,u,k,F,q⟩:=h;have J:'A':=I.J8 ok λp z=>cF _ z;exact C1 J O.stk O.fr O.ex j g u k F λo f b=>uD O f b q
def Kb(O:DT X x n C i (b₀::suite) ts){c:Value}(ok:X.Ok)
  (I:Inv (X.re X.A X.calm (X.pn++pins) (lb X pins D [.ExceptHandler (some (.Name x np)) (some n) (b₀::suite) hpos])) pins' σ H s)(e:rJ s.heap h' a c args)(h:uy X.K C i ts D σ c none H):
  lb X pins D [.ExceptHandler (some (.Name x np)) (some n) (b₀::suite) hpos] (.ref a) {s with heap:=h'}:=by
 have J:'A':=I.J8 ok λp z=>cF _ z;exact C0 J O.stk O.fr O.ex e λf d b=>uD O d b h
def ps_try{g:List Stmt}{tb:Ends->TS}(j:∀pins D,X.Ok->PSs (X.re X.A X.calm (X.pn++pins) (lb X pins D [.ExceptHandler (some (.Name x np)) (some n) (b₀::suite) hpos])) g (tb D)):
  PS X (.Try g [.ExceptHandler (some (.Name x np)) (some n) (b₀::suite) hpos] [] [] pos) (λD σ H=>tb D D σ H):=by
 intro pins s σ H D I h;have i:Inv (X.re X.A X.calm (X.pn++pins) (lb X pins D [.ExceptHandler (some (.Name x np)) (some n) (b₀::suite) hpos])) [] σ H s:=I.re rfl I.ok.hd λp q=>by simpa using q
 refine wpAny_Try_except (dy (j pins D I.ok [] s σ H D i h) (λf d q=>?_) λe d q=>q);have c:∀{b:St}{a:Hp},Inv (X.re X.A X.calm (X.pn++pins) (lb X pins D [.ExceptHandler (some (.Name x np)) (some n) (b₀::suite) hpos])) [] b a d->Inv X pins b a d:=λ{b a} J=>J.J8 I.ok λp q=>by simpa using q
 cases f with
 |next =>obtain⟨b,a,J,q⟩:=q;exact AJ pins d b a D (c J) q
 |brk=>obtain⟨b,a,J,q⟩:=q;exact(_,_,c J,q,)
 |cont=>obtain⟨b,a,J,q⟩:=q;exact(_,_,c J,q,)
 |ret u=>obtain⟨v,b,a,J,k,q⟩:=q;exact(v,_,_,c J,k,q,)
end
noncomputable abbrev XS:=St->XK
noncomputable abbrev N0:XS:=λ_=>E0
def zV(CX:CXT)(X:Cx)(E:XS):Prop:=∀(pins:List (Addr×Obj))(σ:St)(H:Hp)(s:Shared)(e:Value)(s':Shared),'A'->CX X.stack H s (E σ) e s'->X.xe e s'
def MadeS(X:Cx)(E:XS):Prop:=∀(pins:List (Addr×Obj))(σ:St)(H:Hp)(s:Shared)(a:Addr)(c:Value)(args:List Value)(h':Heap),'A'->rJ s.heap h' a c args->E σ c none H->X.xe (.ref a) {s with heap:=h'}
section
variable {CX:CXT}{f:Addr}{fd:fP}{ps:List Str}{sp:Sp}{ds:List Value}{E:XS}{x:Str}{p:Pos}{es:List Expr}{t:TA}
def Gn{Q:VK}{vs:List V}(F:jV X.prog X.w X.K X.mg X.base CX k f fd ps sp)(g:jG k X.A)(b:Binds X.K fd ps ds)(c:bT ag ds)(i:zV CX X E)
  (I:'A')(r:bT vs us)(h:sp (vs++ag) H Q (E σ)):'C' (call (.ref f) us) (EP X pins σ Q) X.xe s:=by
 have a:bT (vs++ag) (us++ds):=r.append c;have d:(us++ds).length=ps.length:=a.length.symm.trans (F.len _ _ _ _ h);refine hV (ip (F.run X.A X.stack s H (us,[],) (us++ds) (vs++ag) Q (E σ) g I.env0 (b s us I.kIn d) a h) λr j hq=>?_);cases r with
 |error e=>exact i pins σ H s e j I hq
 |ok fl=>cases fl<;>first |exact I.after hq|exact iG hq
def LD(F:jV X.prog X.w X.K X.mg X.base CX k f fd ps sp)(o:jG k X.A)(j:Gl X x)(m:X.mg x<*(.ref f))(l:cO X.K (.ref f)=true)(c:Binds X.K fd ps ds)(d:bT ag ds)(u:zV CX X E)
  (b:PA X (e::es) t)(g:(x==("__debug__":Str))=false)(i:bH (e::es) X.env=(false,eval e X.env)::bH es X.env)(n:(backTo pos (bH es X.env)).any (·.1)=false):
  PE X (.Call (.Name x p) (e::es) [] pos) (λσ H Q=>Cc sp ag (E σ) t σ H Q):=by
 intro v s σ H Q I h;refine fO (nL I j m ?_ g);exact tB (h₀:=X.base) I.ok.mod.kin l (thn (b pos v s σ H _ I h) λz y ⟨A,w,a,r,q⟩=>(a.kIn,Gn F o c d u a r q,)) i n
def Il(F:jV X.prog X.w X.K X.mg X.base CX k f fd ps sp)(i:jG k X.A)(d:Gl X x)(g:X.mg x<*(.ref f))(e:cO X.K (.ref f)=true)(a:Binds X.K fd ps ds)(b:bT ag ds)(j:zV CX X E)
  (c:(x==("__debug__":Str))=false):PE X (.Call (.Name x p) [] [] pos) (λσ H Q=>Cc sp ag (E σ) tO σ H Q):=by
 intro l s σ H Q I h;refine fO (nL I d g ?_ c);exact PySem.W.callWith_K0 I.kIn e (Gn (us:=[]) F i a b j I .nil h)
end
section
variable {mg:Str->Option Value}
def Jn{cd:Value}{outer:List Env}{E:XK}:
  zV (CXx P w) (Bm (CXx P w) P w K mg base N qual scope f cd A outer s H E) (λ_=>E):=by
 intro R W Q U e S I h;obtain⟨a,c,d,i,rfl,D,C,u,G,F,q⟩:=h;show wpAny _ _ (leaving _ _) _ _ _;unfold leaving;refine aa (C1 I rfl rfl rfl D C u G F λV b g=>?_);obtain⟨⟨T,L,O,J,M,l,o,p,r,t,v,x,y,B,m,n,_⟩,j,k,_⟩:=g;exact(a,c,d,i,rfl,b.os,b.bare,b.base,b.hok,⟨⟨T,L,O,J,M,l,o,p,r,t,v,x,y,B,m,n,λ_ z=>nomatch z⟩,j,k,λ_ z=>nomatch z⟩,q,)
def Jo{cd:Value}{outer:List Env}{E:XK}:
  MadeS (Bm (CXx P w) P w K mg base N qual scope f cd A outer s H E) (λ_=>E):=by
 intro G M e J a c D F I v q;show wpAny _ _ (leaving _ _) _ _ _;unfold leaving;refine aa (C0 I rfl rfl rfl v λL b d=>?_);obtain⟨⟨T,y,C,x,B,i,l,m,n,o,p,r,t,u,j,k,_⟩,g,h,_⟩:=d;exact(a,c,none,e,rfl,b.os,b.bare,b.base,b.hok,⟨⟨T,y,C,x,B,i,l,m,n,o,p,r,t,u,j,k,λ_ z=>nomatch z⟩,g,h,λ_ z=>nomatch z⟩,q,)
def IZ{o:List Env}{e:Value}(h:CXx P w o H s E0 e s'):False:=by obtain⟨_,_,_,_,_,_,_,_,_,_,q⟩:=h;exact q
def jV.calm{a:fP}{ps:List Str}{sp:Sp}(F:jV P w K mg base (CXx P w) k f a ps sp):jV P w K mg base CX0 k f a ps (λvs H Q _=>sp vs H Q E0):=
 ⟨λvs H Q E h=>F.len vs H Q E0 h,λA l s H b m vs Q E g d c j i=>ip (F.run A l s H b m vs Q E0 g d c j i) λr n q=>by
  cases r with
  |error e=>exact IZ q
  |ok fl=>cases fl<;>exact q⟩
end
end L2
namespace Q
open PySem.W L2
abbrev gh(lt:Nat->Nat->Bool)(vs:List Value):List Value:=if vs.length<2 then vs else(run lt (dO vs.length)).toList.map λi=>vs.getD i .none
def Ju(prog:Program)(w:World)(A:Around)(lt:Nat->Nat->Bool)(vs:List Value)(h0:Heap):Prop:=
 ∀a:Shared,(∀b o,h0.get? b<*o->a.heap.get? b<*o)->
  ∃κ,(∀(c:SortKind->Shared->Prop)(d:'I'),c κ a->'B' (keyKind' vs.toArray) c d a)/\
   ∀i j (C:Bool->Shared->Prop),i<vs.length->j<vs.length->i≠j->C (lt i j) a->kas_ask prog w A κ vs i j C a
section
variable {E:'I'}{s:Shared}{lt:Nat->Nat->Bool}{vs:List Value}
def fR(h:n<64):n<=sizeLine:=by rw[mK];lia
def Gg(h:n<64):n<=sizeLine+1:=fY (fR h)
def Aw{P:eL->Shared->Prop}(T:Tot lt vs.length)(r:s.heap.get? a<*(seqObj "list" vs.toArray n))(k0:∀b o,h0.get? b<*o->s.heap.get? b<*o/\b≠a)(g:vs.length<64)
  (ask:2<=vs.length->Ju prog w A lt vs h0)(h:P (.done (.ret .none)) {s with heap:=Jy s.heap a vs (gh lt vs).toArray}):'B' (Builtin.«list.sort» ([.ref a],[],)) P E s:=by
 have f:vs.toArray.size=vs.length:=by simp
 obtain⟨c,v⟩:∃c,(s.heap.update a (bq λ_=> #[])).get? a<*(seqObj "list" #[] c):=(_,tH r _,);have l:(((s.heap.update a (bq λ_=> #[])).push (seqObj "tuple" vs.toArray 0)).push (seqObj "list" #[] 0)).get? a<*(seqObj "list" #[] c):=af _ (af _ v);have keep:∀b o,h0.get? b<*o->(((s.heap.update a (bq λ_=> #[])).push (seqObj "tuple" vs.toArray 0)).push (seqObj "list" #[] 0)).get? b<*o:=λb o e=>
  af _ (af _ ((aX _ _ (bI (k0 b o e).2)).trans (k0 b o e).1))
 rw[list_sort_plain];refine aa (listItems_at r rfl (aa (gG r rfl ?_ (by rw[f];exact fR g) (bf _))));refine aa (vI v rfl (aa (wpAny_newTuple ?_ (show vs.length<=_ from fR g))));refine aa (me (ba ?_) (bf _));by_cases hn:vs.length<2
 .have e:gh lt vs=vs:=if_pos hn;rw[e]at h;dsimp only;rw[if_pos (by rw[f];exact hn),if_pos (by rw[f];exact hn)];refine aa (aj (aa ?_));rw[StateT.run_pure];refine aj (aa (vI l rfl (aa (gG l rfl ?_ (bf _) ?_))))
  .have q:(arrOf (SortSt.mk' general' (vs.toArray.zip vs.toArray) #[] 7 none)).map (·.2)=vs.toArray:=by show(vs.toArray.zip vs.toArray).map (·.2)=vs.toArray;apply BZ;simp[yl]
   rw[q];have k:failedOf ((),SortSt.mk' general' (vs.toArray.zip vs.toArray) #[] 7 none).snd=none:=rfl;rw[k];simp only[bne_self_eq_false,aJ,if_false];exact aj h
  .show((vs.toArray.zip vs.toArray).map (·.2)).size<=_;rw[fB,Array.size_zip,f,Nat.min_self];exact fY (fR g)
 .have u:2<=vs.length:=by lia
  have e:gh lt vs=(run lt (dO vs.length)).toList.map λi=>vs.getD i .none:=if_neg hn;rw[e]at h;dsimp only;rw[if_neg (by rw[f];exact hn),if_neg (by rw[f];exact hn)];obtain⟨κ,J,K⟩:=ask u {s with heap:=((s.heap.update a (bq λ_=> #[])).push (seqObj "tuple" vs.toArray 0)).push (seqObj "list" #[] 0)} keep;obtain⟨y,N,x⟩:=fV T (by lia:1<=vs.length);refine aa (J _ _ (aa ?_));have key:=kat_run (prog:=prog) (w:=w) (A:=A) (E:=E) (κ:=κ) (ks:=vs) (vs:=vs) (s:={s with heap:=((s.heap.update a (bq λ_=> #[])).push (seqObj "tuple" vs.toArray 0)).push (seqObj "list" #[] 0)})
   (Q:=λm d=>d={s with heap:=((s.heap.update a (bq λ_=> #[])).push (seqObj "tuple" vs.toArray 0)).push (seqObj "list" #[] 0)}/\arrOf m=(run lt (dO vs.length)).map (kas_item (vs.toArray.zip vs.toArray))/\failedOf m=none)
   (G:=λp d=>d={s with heap:=((s.heap.update a (bq λ_=> #[])).push (seqObj "tuple" vs.toArray 0)).push (seqObj "list" #[] 0)}/\p=run lt (dO vs.length)) rfl u g
   (λp m d _ B q k=>(k.1,by rw[B,k.2],q,))
   (wp_run (S:=λd=>d={s with heap:=((s.heap.update a (bq λ_=> #[])).push (seqObj "tuple" vs.toArray 0)).push (seqObj "list" #[] 0)}) (λi j C d hi I H t D=>by subst t;exact K i j C hi I H (D _ rfl)) _ _ x rfl λd t=>(t,rfl,))
  refine dy key ?_ λ_ _ z=>z;rintro⟨⟨⟩,m⟩ d ⟨rfl,F,hf⟩;have M:=kat_snds (ks:=vs) (vs:=vs) rfl F;dsimp only;rw[M,hf];have L:(eW ((run lt (dO vs.length)).toList.map λi=>vs.getD i cg)).size<=sizeLine+1:=by rw[aE,ao,aV,y.size];exact fY (fR g)
  refine aa (vI l rfl (aa (gG l rfl ?_ (bf _) L)));simp only[bne_self_eq_false,aJ,if_false];exact aj h
def tS{Q:'I'}(T:Tot lt vs.length)(g:s.heap.IsList l vs.toArray)(a:vs.length<64)(ask:2<=vs.length->Ju prog w A.in1.in1 lt vs s.heap)
  (h:Q (.ref (⇑s+1)) {s with heap:=sortedAll s.heap vs (gh lt vs).toArray}):'B' (call (.builtin "sorted") [.ref l]) Q E s:=by
 refine iX D6 BF BJ (args_sorted1 _) ?_;unfold Builtin.«sorted»;refine aa (m:=JH "sorted" 1 1 _) (aj (aa (collect_list g (aa (me ?_ (show vs.length<=_ from fR a))) (fR a))));generalize hH:(s.heap.push (seqObj "list" #[] 0)).update ⇑s (bq (·++vs.toArray))=h1;have d:h1.objs.size=⇑s+1:=by rw[<-hH,oQ,yH]
 have i:∀b o,s.heap.get? b<*o->h1.get? b<*o:=λb o e=>by have f:=aA e;rw[<-hH,aX _ _ (eM f)];exact af _ e
 have c:(h1.push (seqObj "list" vs.toArray 0)).get? (⇑s+1)<*(seqObj "list" vs.toArray 0):=by rw[<-d];exact az _ rfl
 have hq:sortedAll s.heap vs (gh lt vs).toArray=Jy (h1.push (seqObj "list" vs.toArray 0)) (⇑s+1) vs (gh lt vs).toArray:=by rw[<-hH];rfl
 rw[hq]at h;show wpAny _ _ _ _ _ {s with heap:=h1.push (seqObj "list" vs.toArray 0)};rw[d];refine aa (ba (cB vF (_,c,rfl,) tI (Aw T c (λb o e=>(af _ (i b o e),aM (bA (aA e)),)) a ask (_,rfl,?_,)) (JI _)));exact aj (_,rfl,h,)
end
abbrev tlt(x y:Str):Bool:=decide (x.cps.toList<y.cps.toList)
abbrev o6(ks:List Str)(i j:Nat):Bool:=tlt (ks.getD i "") (ks.getD j "")
abbrev ord(ks:List Str):List Nat:=if ks.length<2 then aF ks.length else(run (o6 ks) (dO ks.length)).toList
abbrev sortBy{α:Type}(d:α)(ks:List Str)(ys:List α):List α:=(ord ks).map λi=>ys.getD i d
def str_ext{y:Str}(h:x.cps.toList=y.cps.toList):x=y:=by obtain⟨a⟩:=x;obtain⟨b⟩:=y;have :a=b:=Array.toList_inj.mp h;rw[this]
def yO{y:Str}(a:tlt x y=true)(b:tlt y z=true):tlt x z=true:=by unfold tlt at *;rw[decide_eq_true_eq]at *;exact List.lt_trans a b
def tlt_tri{y:Str}(h:x≠y):tlt x y= !tlt y x:=by
 unfold tlt;by_cases c:x.cps.toList<y.cps.toList;·have d:¬y.cps.toList<x.cps.toList:=λz=>List.lt_irrefl _ (List.lt_trans c z);rw[decide_eq_true c,decide_eq_false d];rfl
 .by_cases d:y.cps.toList<x.cps.toList;·rw[decide_eq_false c,decide_eq_true d];rfl
  .exact absurd (str_ext (List.le_antisymm (List.not_lt.mp d) (List.not_lt.mp c))) h
def wz(d:ks.Nodup):Tot (o6 ks) ks.length where
 tri:=λi j hi c h=>tlt_tri λe=>h (by rw[ah,ah,ae hi,ae c]at e;exact(fu d).mp e)
 tr:=λi j k _ _ _ a b=>yO a b
def ord_len(ks:List Str)(a:ks.Nodup):(ord ks).length=ks.length:=by
 unfold ord;split;·simp
 .rw[aV,(fV (wz a) 'D').1.size]
theorem LK(k:ks.Nodup)(f:ks.length=ys.length)(r:bT ys vs):bT (sortBy .non ks ys) (gh (o6 ks) vs):=by
 have p:=r.length;have e:vs.length=ks.length:=by lia
 unfold gh sortBy ord;rw[e];by_cases c:ks.length<2
 .rw[if_pos c,if_pos c];have a:(aF ks.length).map (λi=>ys.getD i V.non)=ys:=by
   rw[f];apply cQ;·simp
   .intro i o b;simp[b]
  rw[a];exact r
 .rw[if_neg c,if_neg c];have P:=(fV (wz k) 'D').1;have all:∀l:List Nat,(∀i∈l,i<ks.length)->bT (l.map λi=>ys.getD i V.non) (l.map λi=>vs.getD i cg):=by
   intro l
   induction l with
   |nil=>exact λ_=>.nil
   |cons i l ih=>
    intro h;have hi:i<ys.length:=by have :=h i (.head _);lia
    obtain⟨u,g,n⟩:=r.get (ae hi);refine .cons ?_ (ih λj d=>h j (.tail _ d));show L2.RelV (ys.getD i V.non) (vs.getD i cg);rw[ah,ae hi,ah,g];exact n
  refine all _ λi hi=>?_;have m:i∈(aF ks.length).toArray:=P.perm.mem_iff.mp (kX.mp hi);simpa using m
def Kt(r:BO vs ks)(hi:i<ks.length):∃t,vs.getD i .none=.str (ks.getD i "") t:=by
 induction r generalizing i with
 |nil=>exact absurd hi (d9 _)
 |cons y t h ih=>
  cases i with
  |zero=>exact(t,rfl,)
  |succ i=>exact ih ↥hi
def wF(r:BO vs ks):vs.length=ks.length:=by
 induction r with
 |nil=>rfl
 |cons y t h ih=>simp[ih]
section
def Jr(r:BO vs ks)(d:2<=vs.length):Ju prog w A (o6 ks) vs h0:=by
 intro g _;refine(oneType',λf e q=>?_,λi j C hi a _ q=>?_,)
 .match vs,r,d with
  |v1::v2::rest,r,_=>rw[keyKind_strs r];exact aj q
 .rw[wF r]at hi a;obtain⟨t,b⟩:=Kt r hi;obtain⟨u,c⟩:=Kt r a;unfold kas_ask;rw[b,c,keyLt'_oneType];exact oneLt_str q
end
def sY(H:Hp)(ys:List V)(ks:List Str):Prop:=Paired (λv k=>∃a rest,v=V.ref a/\H a<*(.tup (V.str k::rest))) ys ks
theorem uR:∀{ys:List V}{ks:List Str},sY H ys ks->ks.length=ys.length
 |_,_,.nil=>rfl
 |_,_,.cons _ t=>by simp[uR t]
set_option maxHeartbeats 3200000
abbrev has(ac:List Key)(k:Key):Bool:=ac.any λx=>decide (x=k)
def kK{a:List Key}{k:Key}:has a k=true↔k∈a:=by
 unfold has;rw[cz];constructor;·rintro⟨x,h,e⟩;rw[<-W0 e];exact h
 .exact λh=>(k,h,decide_eq_true rfl,)
abbrev more(ac:List Key)(k:Key):List Key:=if has ac k=true then ac else ac++[k]
abbrev met(ks:List Key):List Key:=ks.foldl more []
def L8(ks:List Key)(k:Key):met (ks++[k])=more (met ks) k:=by unfold met;rw[wm];rfl
def C7{a:List Key}{k j:Key}:j∈more a k↔j∈a\/j=k:=by
 unfold more;split
 .rename_i h;constructor;·exact .inl
  .rintro(z|rfl);·exact z
   .exact kK.mp h
 .simp
def rZ(a:List Key)(k:Key):(more a k).length=if has a k=true then a.length else a.length+1:=by unfold more;split <;>simp
def Ma(ks:List Key):(met ks).length<=ks.length:=by
 unfold met;have g:∀(l a:List Key),(l.foldl more a).length<=a.length+l.length:=by
  intro l
  induction l with
  |nil=>intro a;simp
  |cons k l ih=>intro a;have c:=ih (more a k);have b:=rZ a k;rw[d8,bG];split at b<;>lia
 simpa using g ks []
def nK{ks:List Key}{k:Key}:k∈met ks↔k∈ks:=by
 unfold met;have g:∀(l a:List Key),k∈l.foldl more a↔k∈a\/k∈l:=by
  intro l
  induction l with
  |nil=>intro a;simp
  |cons j l ih=>intro a;rw[d8,ih,C7,aK,or_assoc]
 simpa using g ks []
def IE{ks:List Key}(h:ks.Nodup):met ks=ks:=by
 unfold met;have g:∀(l a:List Key),(a++l).Nodup->l.foldl more a=a++l:=by
  intro l
  induction l with
  |nil=>intro a _;simp
  |cons k l ih=>intro a b;have c:k∉a:=λz=>(du.mp b).2.2 k z k (.head _) rfl;have e:more a k=a++[k]:=if_neg λz=>c (kK.mp z);rw[d8,e,ih (a++[k]) ↥b];simp
 simpa using g ks [] ↥h
def Iw(ks:List Key):(met ks).Nodup:=by
 unfold met;have g:∀(l d:List Key),d.Nodup->(l.foldl more d).Nodup:=by
  intro l
  induction l with
  |nil=>intro d h;exact h
  |cons k l ih=>
   intro d h;rw[d8];refine ih _ ?_;unfold more;split;·exact h
   .rename_i c;refine du.mpr (h,'F',λa i b j e=>c ?_,);have f:b=k:=by simpa using j
    rw[<-f,<-e];exact kK.mpr i
 exact g ks [] fC
def AY{ks:List Key}(h:(met ks).length=ks.length):ks.Nodup:=by
 have s:∀(l d:List Key),(l.foldl more d).length<=d.length+l.length:=by
  intro l
  induction l with
  |nil=>intro d;simp
  |cons k l ih=>intro d;have m:=ih (more d k);have f:=rZ d k;rw[d8,bG];split at f<;>lia
 have g:∀(l d:List Key),d.Nodup->(l.foldl more d).length=d.length+l.length->(d++l).Nodup:=by
  intro l
  induction l with
  |nil=>intro d h _;simpa using h
  |cons k l ih=>
   intro d q e;rw[d8,bG]at e;have m:=s l (more d k);have f:=rZ d k;by_cases c:has d k=true;·rw[if_pos c]at f;lia
   .rw[if_neg c]at f;have j:more d k=d++[k]:=if_neg c;rw[j]at e;have p:k∉d:=λz=>c (kK.mpr z);have r:(d++[k]).Nodup:=du.mpr ⟨q,'F',λa n b o e=>p (by
     have i:b=k:=by simpa using o
     rw[<-i,<-e];exact n)⟩
    have :=ih (d++[k]) r (by rw[bX,qL];lia);simpa using this
 simpa using g ks [] fC (by simpa[met]using h)
def GS{ks:List Key}:(met ks).length<=1↔∀a∈ks,∀b∈ks,a=b:=by
 constructor
 .intro h a f b g;have c:=nK.mpr f;have d:=nK.mpr g
  match e:met ks,h with
  | [],_=>rw[e]at c;cases c
  | [x],_=>rw[e]at c d;rw[aU.mp c,aU.mp d]
 .intro h
  match e:met ks with
  | []=>simp
  | [x]=>simp
  |x::y::r=>have n:=Iw ks;rw[e]at n;have i:x∈ks:=nK.mp (by rw[e];exact .head _);have j:y∈ks:=nK.mp (by rw[e];exact .tail _ (.head _));have :=h x i y j;rw[this]at n;simp at n
noncomputable abbrev gF(led:Bool):Obj:={cls:=.type "set",dict:=none,data:=.set #[] 0 (.fresh 0 0 led)}
abbrev Co(a:Addr)(n:Nat):HO:=.ext λh=>∃o es ep t,h.get? a<*o/\o.ExactSet/\o.data=.set es ep t/\es.size<gm/\t.fits es.size=true/\es.size=n
theorem A6:∀{ks:List Key}{us:List Value},bT (ks.map kV) us->∀(i:Nat)(v:Value),us[i]?<*v->∃k,ks[i]?<*k/\RelV (kV k) v
 | [],_,.nil,i,v,e=>by simp at e
 |k::ks,_,.cons r t,0,v,e=>by simp at e;subst e;exact(k,rfl,r,)
 |k::ks,_,.cons r t,i+1,v,e=>A6 t i v ↥e
def rSet(K:ak):List V->Hp->VK->Prop:=λxs H Q=>∃p ks,xs=[V.ref p]/\SqL K H p (ks.map kV)/\ks.length<4000/\∀a,H a=none->Q (.ref a) (upd H a (Co a (met ks).length))
def yG:fG X (.builtin "len") (λxs H Q=>∃a n,xs=[V.ref a]/\H a<*(Co a n)/\Q (.int n) H):=by intro k s m H xs l Q I r h;obtain⟨a,n,rfl,e,q⟩:=h;obtain⟨u,rfl,i⟩:=vals1 r;cases i;obtain⟨⟨o,b,j,t,g,f,d,c,hf,rfl⟩,_⟩:=I.hok a _ e;refine call_len_set g f d hf (by have :b.size<4096:=c;lia) ?_;exact(.int b.size,H,I.tok _,(_,rfl,),q,)
end Q
namespace L2
section
theorem zu(a b:Array Nat):∀k:Nat,((cu k a).foldl (·++·) b).size=b.size+k*a.size
 | 0=>by simp
 |k+1=>by rw[gD,d8,zu a (b++a) k,Array.size_append,Nat.succ_mul];lia
def K9:R2:=λx y H Q=>∃(z:Str)(n:Int),x=.str z/\y=.int n/\2<=n/\n<=1000/\1<=z.length/\z.length<=1000/\Q (.str ⟨(cu n.toNat z.cps).foldl (·++·) #[]⟩) H
theorem op_repS:OpR X (gC .Mult) K9:=by
 intro m s p H x y v u Q I f g h;obtain⟨z,n,rfl,rfl,i,j,k,d,q⟩:=h;obtain⟨t,rfl⟩:=f;obtain⟨o,rfl⟩:=g;have b:¬n<1:=by lia
 have c:(n==1||z.length==0)=false:=by rw[Bool.or_eq_false_iff];exact⟨by simp;lia,by simp;lia⟩
 have a:z.length*n.toNat<=1000*1000:=Nat.mul_le_mul d 'D';have e:((n.toNat:Nat):Int)=n:=by lia
 have l:(z.length:Int)*n<=1000*1000:=by rw[<-e,<-Int.natCast_mul];exact Int.ofNat_le.mpr a
 refine P.mul_str (by rw[decide_eq_false 'D',decide_eq_false 'D'];rfl) (λ_ _=>?_) (λ_ _=>?_) ?_;·exact Int.not_lt.mpr (Int.le_ediv_of_mul_le 'D' 'D')
 .exact decide_eq_false (vK.mpr (aT a 'E'))
 .rw[if_neg b,if_neg (by rw[c];exact aq)];refine(?_,.str _,H,I.tok _,(_,rfl,),q,);show((cu n.toNat z.cps).foldl (·++·) #[]).size<=_;rw[zu];exact aT (by rw[Nat.mul_comm];simpa[DX]using a) (by decide:1000*1000<=sizeLine)
end
end L2
set_option maxHeartbeats 4000000
namespace HT
section
variable {K:Type}[DecidableEq K]{knd:HeapKind prog w K}{s:Shared}{E:'I'}
def setDef{d:Addr}{xs:List (K×Addr×Value)}{k:K}{v:Value}{Q:'I'}(n:knd.room A)(h:knd.is s.heap k a)(B:s.heap.DictOfH knd d xs)
  (r:∀u,(atKey xs k).map (·.2)<*u->Q u {s with toks:=s.toks+knd.draws k})
  (t:atKey xs k=none->∀h',h'.DictOfH knd d (storedH xs k a v)->cU d s.heap h'->Q v {s with heap:=h',toks:=s.toks+knd.draws k})
  (G:xs.length<=sizeLine):'B' (JF d (.ref a) v) Q E s:=by
 obtain⟨o,F,q,c,z,b,g,l,i⟩:=B;unfold JF;refine ba ?_;refine aa (knd.pyHash n h ?_);refine aa (wpAny_dictFind_heap (s:={s with toks:=s.toks+knd.draws k}) n h c b g l i ?_ ?_)
 .intro f;have C:k∉xs.map (·.1):=not_mem_keys_of_get f;refine aa (hU (aa (wpAny_updateDictKeys (hz:=by have e:=size_of_entries g;lia) (s:={s with toks:=s.toks+knd.draws k}) c b (aj (t (p6 f) _ (_,_,q+1,bK _ c (Obj.isFreed_of_dict (NZ b _)),
   z.mapDictKeys _,NZ b _,?_,?_,?_,) (bM ..))))))
  .rw[storedH_new (p6 f)];simp[g,entryOfKey]
  .rw[storedH_new (p6 f)];intro x hx;rcases cX.mp hx with hx|hx;·exact knd.keeps (l x hx) c b (bM ..)
   .rw[aU.mp hx];exact knd.keeps h c b (bM ..)
  .rw[storedH_new (p6 f),dM,du];refine(i,'F',λx hx y D e=>?_,);have :y=k:=by simpa using D
   exact C (by rw[<-this,<-e];exact hx)
 .intro j p m;refine aa (wpAny_dictEntries (s:={s with toks:=s.toks+knd.draws k}) c b ?_);rw[entry_at g j,m];exact aa (hU (aj (r _ (by rw[atKey_of_get i m];rfl))))
variable(knd) in
def A0(d a:Addr)(g:(d==hZ)=false)(b:Value):
  MeetsIn prog w (Builtin.«dict.setdefault» ([.ref d,.ref a,b],[],)) (λA R s=>knd.room A.in1/\∃k xs,knd.is s.heap k a/\s.heap.DictOfH knd d xs/\xs.length<=sizeLine/\
   (∀u,(atKey xs k).map (·.2)<*u->R (.ok (.ret u)) {s with toks:=s.toks+knd.draws k})/\
   (atKey xs k=none->∀h',h'.DictOfH knd d (storedH xs k a b)->cU d s.heap h'->R (.ok (.ret b)) {s with heap:=h',toks:=s.toks+knd.draws k})):=
 .of_wp λA R s ⟨m,k,xs,h,c,o,e,f⟩=>by unfold Builtin.«dict.setdefault»;refine aa ?_;unfold Builtin.Dict.keyAndDefault;refine aa (wpAny_notOrdered_dict c.typeIs ?_);show wpAny _ _ (pure (d,aN a,some b)) _ _ s;refine aj ?_;show wpAny _ _ (if(d==hZ)=true then _ else(JF d (.ref a) b>>=_)) _ _ s;rw[if_neg (by rw[g];exact aq)];exact aa (setDef m h c (λv n=>aj (v,rfl,e v n,)) (λj h' i l=>aj (b,rfl,f j h' i l,)) o)
end
end HT
namespace L2
section
variable {pins:List (Addr×Obj)}{s:Shared}{a b:Addr}{v:V}{r:Value}{E:'I'}{kvs:List (List Key×V)}{k:List Key}
def M2{Q:'I'}(K:A.units+1<cLine)(I:'A')(e:H a<*(.dT kvs))(i:H b<*(.tup (k.map kV)))(O:RelV v r)(S:kvs.length<sizeLine)
  (C:∀x g s',fz kvs k<*x->Inv X pins σ H s'->RelV x g->Q g s')(D:fz kvs k=none->∀s',Inv X pins σ (upd H a (.dT (putK kvs k v))) s'->Q r s'):
  wpAny (model X.prog X.w) A (call (.builtin "dict.setdefault") [.ref a,.ref b,r]) Q E s:=by
 obtain⟨z,l,m,f,h⟩:=MY I.hok e;have N:m.length<=sizeLine:=by rw[<-ny f];exact z
 have F:(putK kvs k v).length<=sizeLine:=by have :=u5 kvs k v;lia
 have d:=f.val k;refine call_meetsIn yd h.typeIs PySem.F.entry_dict_setdefault (PySem.F.args_dict_setdefault_3 _ _ _) (HT.A0 (rq (aY X.prog X.w)) a b l r) (tupleKind_room_in1 K,k,m,A7 I.hok i,h,N,λu L=>?_,λG R n J=>?_,)
 .rw[L]at d;cases hv:fz kvs k with
  |none=>rw[hv]at d;exact absurd d (by intro z;cases z)
  |some x=>rw[hv]at d;obtain⟨g,M,P⟩:=uH.some_of d;cases M;exact C x _ _ hv (I.tok _) P
 .rw[G]at d;refine D (by
   cases hv:fz kvs k with
   |none=>rfl
   |some x=>rw[hv]at d;exact absurd d (by intro z;cases z)) _ ?_
  obtain⟨q,p,o,hq,t,w,y,_,B⟩:=n;refine d_write I (by rw[e];exact True.intro) J (q,hq,) (F,l,_,(f.put k i O).keeps λc T j=>?_,q,p,o,hq,t,w,y,B,);rw[bj (ne_of j e (λz=>nomatch z))];exact j
end
section
theorem CZ:∀{ns:List Int}{ad:List Value},bT (ns.map V.int) ad->(∀v∈ad,∃a t,v=iT a t)/\numsOf ad=ns
 | [],_,.nil=>(λ_ h=>(nomatch h),rfl,)
 |n::ns,_,.cons r t=>by
  obtain⟨tk,rfl⟩:=r;obtain⟨b,c⟩:=CZ t;refine⟨λv hv=>?_,by rw[numsOf,c]⟩;rcases aK.mp hv with rfl|hv;·exact(_,_,rfl,)
  .exact b v hv
def ints_rep(r:bT (ns.map V.int) ad):∃xs:Array (Int×Tok),ad.toArray=intItems xs/\preSum (numAt xs) xs.size=ns.sum:=by obtain⟨a,b⟩:=CZ r;obtain⟨xs,e⟩:=AllInts.items (vs:=ad.toArray) λv c=>a v ↥c;refine(xs,e,?_,);rw[preSum_eq,gR 'F',<-nums_intItems,<-e,b]
def Np(d:X.calm=true):fG X (.builtin "sum") (λxs H Q=>∃(p:Addr)(ns:List Int),xs=[.ref p]/\SqL X.K H p (ns.map V.int)/\Q (.int ns.sum) H):=by intro m s t H xs n Q I i h;obtain⟨p,ns,rfl,hq,q⟩:=h;obtain⟨u,rfl,g⟩:=i.one;cases g;obtain⟨l,r,f,k⟩:=I.list hq;obtain⟨o,b,c⟩:=ints_rep r;have a:=f.isList;rw[b]at a;refine sum_intListG (I.ok.hd d) a λj tk t' e=>?_;rw[c];exact(.int ns.sum,H,I.kept (t':=tk) e,(_,rfl,),q,)
def IG{K:Type}[DecidableEq K]{knd:HeapKind prog w K}{d:Addr}{xs:List (K×Addr×Value)}{Q:'I'}(c:(d==hZ)=false)(a:s.heap.DictOfH knd d xs)(l:(xs.length:Int)<2^63)
  (h:Q (.int xs.length (s.toks+1)) {s with toks:=s.toks+1+1}):'B' (call (.builtin "len") [.ref d]) Q E s:=by
 have i:MeetsIn prog w (Builtin.«dict.__len__» ([.ref d],[],)) (λ_ R s=>∃xs,s.heap.DictOfH knd d xs/\R (.ok (.ret (.int xs.length s.toks))) {s with toks:=s.toks+1}):=
  .of_wp λA R s ⟨xs,a,h⟩=>by obtain⟨o,b,j,g,k,e,f,_⟩:=a;show wpAny _ _ (dictSize d>>=_) _ _ s;unfold dictSize;refine aa (aa (wpAny_dictEntries g e (aj ?_)));show wpAny _ _ (Builtin.Dict.pendingCount d>>=_) _ _ s;refine aa (wpAny_pendingCount_other c ?_);refine wpAny_ret_mkInt ?_;have :b.size=xs.length:=size_of_entries f;rw[Nat.add_zero,this];exact h
 refine iX kind_len plain_len entry_len (args_len1 _) ?_;unfold Builtin.«len»;refine aa (m:=oneArg "len" _) (aj ?_);refine aa (m:=callSpecial? (.ref d) (bh "__len__")) (dN (name:=bh "__len__") a.typeIs F.slot_dict_len
  (call_meetsIn F.slot_dict_len a.typeIs F.entry_dict_len (F.args_dict_len_1 _) i (xs,a,?_,)))
 show wpAny _ _ _ _ _ {s with toks:=s.toks+1};refine aa (ba (aj ?_));refine aa (pW ?_);show wpAny _ _ (if((xs.length:Nat):Int)<0 then _ else _) _ _ _;rw[if_neg 'D'];show wpAny _ _ (if((xs.length:Nat):Int)≥ 2^63 then _ else _) _ _ _;rw[if_neg 'D'];exact aa (wpAny_mkInt (aj (_,rfl,h,)))
def DI:fG X (.builtin "len") (λxs H Q=>∃a kvs,xs=[V.ref a]/\H a<*(.dT kvs)/\Q (.int kvs.length) H):=by intro g s k H xs i Q I r h;obtain⟨a,kvs,rfl,e,q⟩:=h;obtain⟨u,rfl,f⟩:=vals1 r;cases f;obtain⟨z,d,j,b,c⟩:=MY I.hok e;refine IG d c (by rw[<-ny b];rw[mK]at z;lia) ?_;rw[<-ny b];exact(.int kvs.length,H,I.tok _,(_,rfl,),q,)
def key_seq{ks:List Key}(I:'A')(h:SqT X.K H b (ks.map kV)):(rq (aY X.prog X.w)).is s.heap ks b:=by obtain⟨e,r,⟨o,a,c,n,d⟩,_⟩:=I.tuple h;exact(o,e.toArray,n,a,c,d,↥(uj r),)
def rIxD(K:ak):R2:=λx y H Q=>∃a b kvs k v,x=.ref a/\y=.ref b/\H a<*(.dT kvs)/\SqT K H b (k.map kV)/\fz kvs k<*v/\Q v H
def ix_dict(w:X.A.units+1<cLine):IxR X (rIxD X.K):=by
 intro K J g s j H x y v u Q I F G h t;obtain⟨a,b,N,k,z,rfl,rfl,e,l,A,q⟩:=h;cases F;cases G;obtain⟨_,M,L,D,d⟩:=MY I.hok e;have f:s.TypeIs (.ref a) "dict":=d.typeIs;unfold NL;refine aa ?_;rw[getitemInPython_of_ne f.not_modules];refine aa (tF f PySem.F.slot_dict_getitem.lookup ?_);have c:'C' (subscripted J false (.ref a) (.ref b)) (λr i=>'C' (letTemporaryGo K (.ref a) r>>=λ_=>pure r) (EP X g j Q) X.xe i) X.xe s:=by rw[t];obtain⟨O,B,E⟩:=uH.some_of (v:=z) (o:=(atKey L k).map (·.2)) (by rw[<-A];exact D.val k);obtain⟨p,m,n⟩:=oM.mp B;refine wpAny_operating (dy (wpAny_getItem_heap (Q:=EP X g j Q) (tupleKind_room_in1 w) (key_seq I l) d m ?_) (λr i C=>aa (wpAny_letTemporaryGo (aj C))) λ_ _ x=>x);rw[n];exact(z,H,I.tok _,E,q,)
 first
  |exact aj (aa c)
  |exact aa (aj (aa c))
  |exact aa c
def Gy:V->List V->Hp->VK->Prop:=λx xs H Q=>∃a b kvs k v,x=.ref a/\xs=[.ref b,v]/\H a<*(.dT kvs)/\H b<*(.tup (k.map kV))/\kvs.length<sizeLine/\
 (∀z,fz kvs k<*z->Q z H)/\(fz kvs k=none->Q v (upd H a (.dT (putK kvs k v))))
def IB(j:X.A.units+1<cLine):MtR X "dict.setdefault" Gy:=by intro A s F H x E v B Q I q p h;obtain⟨a,b,w,k,y,rfl,rfl,e,f,g,m,n⟩:=h;cases q;obtain⟨u,C,rfl,o,d⟩:=vals2 p;cases o;exact M2 j I e f d g (λz D t l c r=>(z,H,c,r,m z l,)) λi t c=>(y,_,c,d,n i,)
end
section
def rInD(K:ak)(b:Bool):R2:=λx y H Q=>∃p xs ds d,y=.ref p/\SqL K H p xs/\Rep K H d x/\gy K H ds xs/\fL ds<=30/\
 Q (.bl (if b then !(ds.any λa=>eqD a d)else ds.any λa=>eqD a d)) H
open Classical in
abbrev eqW(K:ak)(H:Hp)(d:D)(u:Value):Bool:=decide (∃y a,RelV y u/\Rep K H a y/\eqD a d=true)
open Classical in
def MV(I:'A'){d d':D}(r:RelV y u)(h:Rep X.K H d' y):eqW X.K H d u=eqD d' d:=by
 unfold eqW;cases e:eqD d' d with
 |true=>exact decide_eq_true (p:=∃y a,RelV y u/\Rep X.K H a y/\eqD a d=true) (y,d',r,h,e,)
 |false=>refine decide_eq_false ?_;rintro⟨z,a,c,f,b⟩;cases c.inj r;rw[I.vR f h,e]at b;cases b
theorem wa(I:'A'){d:D}:∀{ds:List D}{xs:List V}{us:List Value},bT xs us->gy X.K H ds xs->us.any (eqW X.K H d)=ds.any λd'=>eqD d' d
 | [],_,us,r,h=>by rw[show _=[]from h]at r;cases r;rfl
 |d'::ds,_,us,r,h=>by
  obtain⟨x,t,rfl,a,b⟩:=h;cases r with
  |cons r1 r2=>rw[oG,oG,MV I r1 a,wa I r2 b]
theorem vV(I:'A'){d:D}{x:V}{v:Value}(c:Rep X.K H d x)(e:RelV x v)(a:A.units+31<cLine):∀{ds:List D}{xs:List V}{us:List Value},bT xs us->gy X.K H ds xs->fL ds<=30->∀u∈us,NU A s u v (eqW X.K H d u)
 | [],_,us,r,h,_=>by rw[show _=[]from h]at r;cases r;exact λu a=>nomatch a
 |d'::ds,_,us,r,h,hh=>by
  obtain⟨y,t,rfl,b,f⟩:=h;cases r with
  |cons r1 r2=>
   have g:max (hgt d') (fL ds)<=30:=hh;intro w hw;rcases aK.mp hw with rfl|hw;·rw[MV I r1 b];exact I.DA 30 A d' d _ x _ v b c r1 e 'D' 'D'
   .exact vV I c e a r2 f 'D' w hw
def op_inD(l:X.A.units+40<cLine):OpR X (dc .In) (rInD X.K false):=by intro n s t H x y v u Q I i j h;obtain⟨p,o,k,d,rfl,hq,c,a,e,q⟩:=h;cases j;obtain⟨b,r,g,m⟩:=I.list hq;refine SeqAt.in_listAt (eqW X.K H d) g.isList (λw f=>vV I c i (by show X.A.units+1+31<cLine;lia) r a e w ↥f) (.bl _,H,I,rfl,?_,);rw[show b.toArray.any (eqW X.K H d)=b.any (eqW X.K H d) by simp,wa I r a];exact q
def Iq(l:X.A.units+40<cLine):OpR X (dc .NotIn) (rInD X.K true):=by intro n s t H x y v u Q I i j h;obtain⟨p,o,k,d,rfl,hq,c,a,e,q⟩:=h;cases j;obtain⟨b,r,g,m⟩:=I.list hq;refine NT (eqW X.K H d) g.isList (λw f=>vV I c i (by show X.A.units+1+31<cLine;lia) r a e w ↥f) (.bl _,H,I,rfl,?_,);rw[show b.toArray.any (eqW X.K H d)=b.any (eqW X.K H d) by simp,wa I r a];exact q
end
end L2
namespace Q
open PySem.W L2
abbrev ltI(ns:List Int)(i j:Nat):Bool:=decide (ns.getD i 0<ns.getD j 0)
abbrev rT(ns:List Int):List Nat:=if ns.length<2 then aF ns.length else(run (ltI ns) (dO ns.length)).toList
abbrev sortI(ns:List Int):List V:=(rT ns).map λi=>(ns.map V.int).getD i .non
def HI(d:ns.Nodup):Tot (ltI ns) ns.length where
 tri:=λi j hi c h=>by
  have g:ns.getD i 0≠ns.getD j 0:=λe=>by rw[ah,ah,ae hi,ae c]at e;exact h ((fu d).mp e)
  unfold ltI;by_cases a:ns.getD i 0<ns.getD j 0;·rw[decide_eq_true a,decide_eq_false 'D'];rfl
  .rw[decide_eq_false a,decide_eq_true 'D'];rfl
 tr:=λi j k hi c f a b=>by unfold ltI at a b⊢;have a:=W0 a;have b:=W0 b;exact decide_eq_true 'D'
def CV(a:ns.Nodup):(rT ns).length=ns.length:=by
 unfold rT;split;·simp
 .rw[aV,(fV (HI a) 'D').1.size]
theorem outI(n:ns.Nodup)(r:bT (ns.map V.int) vs):bT (sortI ns) (gh (ltI ns) vs):=by
 have g:=r.length;rw[ao]at g;have e:vs.length=ns.length:=by lia
 unfold gh sortI rT;rw[e];by_cases c:ns.length<2
 .rw[if_pos c,if_pos c];have a:(aF ns.length).map (λi=>(ns.map V.int).getD i V.non)=ns.map V.int:=by
   apply cQ;·simp
   .intro i p b;have d:i<ns.length:=by simpa using b
    simp[d]
  rw[a];exact r
 .rw[if_neg c,if_neg c];have P:=(fV (HI n) 'D').1;have all:∀l:List Nat,(∀i∈l,i<ns.length)->bT (l.map λi=>(ns.map V.int).getD i V.non) (l.map λi=>vs.getD i cg):=by
   intro l
   induction l with
   |nil=>exact λ_=>.nil
   |cons i l ih=>
    intro h;have hi:i<(ns.map V.int).length:=by rw[ao];exact h i (.head _)
    obtain⟨u,k,o⟩:=r.get (ae hi);refine .cons ?_ (ih λj f=>h j (.tail _ f));show L2.RelV ((ns.map V.int).getD i V.non) (vs.getD i cg);rw[ah,ae hi,ah,k];exact o
  refine all _ λi hi=>?_;have m:i∈(aF ns.length).toArray:=P.perm.mem_iff.mp (kX.mp hi);simpa using m
def int_at(r:cM vs ns)(hi:i<ns.length):∃t,vs.getD i .none=.int (ns.getD i 0) t:=by
 induction r generalizing i with
 |nil=>exact absurd hi (d9 _)
 |cons y t h ih=>
  cases i with
  |zero=>exact(t,rfl,)
  |succ i=>exact ih ↥hi
def My(r:cM vs ns):vs.length=ns.length:=by
 induction r with
 |nil=>rfl
 |cons y t h ih=>simp[ih]
def zS(r:cM vs ns)(d:2<=vs.length):Ju prog w A (ltI ns) vs h0:=by
 intro g _;refine(oneType',λf e q=>?_,λi j C hi a _ q=>?_,)
 .match vs,r,d with
  |v1::v2::rest,r,_=>rw[keyKind_ints r];exact aj q
 .rw[My r]at hi a;obtain⟨t,b⟩:=int_at r hi;obtain⟨u,c⟩:=int_at r a;unfold kas_ask;rw[b,c,keyLt'_oneType];exact oneLt_int q
def K7(K:ak):List V->Hp->VK->Prop:=λxs H Q=>∃p ns,xs=[V.ref p]/\SqL K H p (ns.map V.int)/\ns.length<64/\ns.Nodup/\∀l,H l=none->Q (.ref l) (upd H l (.lst (sortI ns)))
def Bs:fG X (.builtin "sorted") (K7 X.K):=by
 intro x s A H z y Q I r h;obtain⟨p,a,rfl,hq,j,f,q⟩:=h;obtain⟨u,rfl,v⟩:=vals1 r;cases v;obtain⟨d,g,t,w⟩:=I.list hq;have l:=g.length;rw[ao]at l;have m:d.length=a.length:=by lia
 refine tS (lt:=ltI a) (vs:=d) (by rw[m];exact HI f) t.isList 'D' (λi=>zS (intsAre_of g) i) ?_;obtain⟨c,k⟩:=sortedAll_at s.heap d (gh (ltI a) d).toArray;have n:(sortI a).length<=sizeLine:=by unfold sortI;rw[ao,CV f];exact fR j
 exact(.ref (⇑s+1),_,I.laid (t':=s.toks) (λb o e=>NM e) (dk _) (show eA X.prog X.w _ _ _ (.lst (sortI a))from(n,_,c,outI f g,k,)),rfl,q _ (I.hok.fresh (dk _)),)
end Q
namespace L2
section
abbrev nats(n:Nat):List V:=(aF n).map λi:Nat=>V.int (i:Int)
def Eo:∀(n:Nat)(ac:Array Value),ItemsOf (λi v=>∃t,v=iT (0+i*1) t) ac n->bT (nats n) ac.toList:=by
 intro n ac h;have key:∀(l:List Value)(k:Nat),(∀(j:Nat) v,l[j]?<*v->∃t,v=iT ((k+j:Nat):Int) t)->bT ((List.range' k l.length).map λi:Nat=>V.int (i:Int)) l:=by
  intro l
  induction l with
  |nil=>exact λ_ _=>.nil
  |cons v l ih=>intro k a;obtain⟨t,e⟩:=a 0 v rfl;refine .cons ⟨t,by rw[e];simp⟩ ?_;refine ih (k+1) λj w f=>?_;obtain⟨g,b⟩:=a (j+1) w ↥f;exact⟨g,by rw[b];congr 2;lia⟩
 have c:ac.toList.length=n:=by rw[aV];exact h.1
 have :=key ac.toList 0 λj v d=>by obtain⟨t,e⟩:=h.2 j v (by rw[<-bS];exact d);exact⟨t,by rw[e];congr 1;lia⟩
 rw[c,<-List.range_eq_range']at this;exact this
def tLRng(ta:TA):TE:=λσ H Q=>ta σ H λvs H1=>∃n:Nat,vs=[.int n]/\n<=1000/\∀p,H1 p=none->Q (.ref p) (upd H1 p (.lst (nats n)))
def pe_lrng{a:Expr}{f:TA}{p:Pos}(k:X.calm=true)(l:Gl X "range")(w:X.mg "range"=none)(m:Gl X "list")(x:X.mg "list"=none)(j:PA X [a] f)(hs:bH [a] X.env=[(false,eval a X.env)]:=by rfl):
  PE X (.Call (.Name "list" p) [.Call (.Name "range" p') [a] [] pos'] [] pos) (tLRng f):=by
 intro A s D H Q I h;refine Call_ (jA I m x mO (cP (mL ?_) rfl rfl));refine Call_ (jA I l w boot_range (cP (thn (j pos' A s D H _ I h) λK J ⟨L,E,c,C,B⟩=>?_) hs rfl));obtain⟨n,e,G,q⟩:=B;subst e;cases C with
 |cons r rr=>
  cases rr;obtain⟨t,rfl⟩:=r;refine call_range_1 ?_;refine aj ?_;have y:wq 0 (n:Int) 1=(n:Int):=by rw[rangeSize_one];split <;>lia
  refine call_list_range (n:=n) (c.ok.hd k) (IsRange.new ..) (small_one 'E' 'E' 'D' 'D') y 'D' λF tk d g v i u=>?_;have z:=Eo n d u;refine(.ref _,_,c.laid (t':=tk) (o:=.lst (nats n)) (λb o e=>v b o (af _ e)) ?_ (?_,d.toList,g,z,i,),rfl,q _ (c.hok.fresh ?_),);·simp[Heap.push]
  .unfold nats;rw[ao,bC,mK];lia
  .simp[Heap.push]
end
end L2
namespace D8
open PySem.W L2
noncomputable abbrev four:List (Int×Int):=[(0,0),(0,1),(1,0),(1,1)]
abbrev hq(q:Int×Int):Int:=reduceHash (vt [hashInt q.1,hashInt q.2])
noncomputable abbrev key(q:Int×Int):List Key:=[.inl q.1,.inl q.2]
def hq_is(q:Int×Int):tupleKeyHash (aY prog w) (key q)=hq q:=by unfold tupleKeyHash hq;exact congrArg (λl=>reduceHash (vt l)) (show[(aY prog w).hash (.inl q.1),(aY prog w).hash (.inl q.2)]=_ from rfl)
abbrev step(st:aQ×Array Int)(h:Int):aQ×Array Int:=
 match st.1.probe (λi=>(st.2[i]?).getD 0) h (st.1.probeStart h)with
 |some (.empty j _)=>((st.1.put j).1,bc st.2 (st.1.put j).2 h)
 |_=>st
abbrev Ci(led:Bool)(ks:List (Int×Int)):aQ×Array Int:=ks.foldl (λst q=>step st (hq q)) (.fresh 0 0 led,#[])
abbrev grow(L:List (List (Int×Int))):List (List (Int×Int)):=L.flatMap λks=>(four.filter λq=> !ks.contains q).map λq=>ks++[q]
abbrev orders:List (List (Int×Int)):=[[]]++grow [[]]++grow (grow [[]])++grow (grow (grow [[]]))++grow (grow (grow (grow [[]])))
abbrev Iv(led:Bool)(ks:List (Int×Int))(q:Int×Int):Bool:=
 let st:=Ci led ks
 let m:=st.1.probe (λi=>(st.2[i]?).getD 0) (hq q) (st.1.probeStart (hq q))
 !st.1.gaveWay&&st.1.fits ks.length&&st.1.plain&&
 (if ks.contains q then match m with
  |some (.candidate _ i _)=>st.2[i]? ==some (hq q)
  |_=>false
  else match m with
  |some (.empty j none)=> !(st.1.put j).1.tooFull&&orders.contains (ks++[q])
  |_=>false)
def ok_all:(orders.all λks=>four.all λq=>Iv true ks q&&Iv false ks q)=true:=by decide+kernel
def LQ{ks:List (Int×Int)}{q:Int×Int}(h:ks∈orders)(h':q∈four):Iv led ks q=true:=by
 have a:=bx.mp (bx.mp ok_all ks h) q h';have b:=eE.mp a;cases led;·exact b.2
 .exact b.1
def AR:∀ks∈orders,ks.Nodup:=by decide+kernel
def hq_inj:∀q∈four,∀r∈four,hq q=hq r->q=r:=by decide+kernel
section
variable {E:'I'}{s:Shared}
def tf(prog:Program)(w:World)(T:Addr->Prop)(h:Heap)(S:Addr)(ks:List (Int×Int)):Prop:=
 ∃led o es ep,h.get? S<*o/\o.ExactSet/\o.data=.set es ep (Ci led ks).1/\es.map (·.1)=(Ci led ks).2/\es.size=ks.length/\
  ∀e∈es.toList,∃q a,e=(hq q,.ref a)/\q∈four/\bD (aY prog w) h (key q) a/\T a
def ly{o:Obj}{es ep t}{ks:List Key}(x:bD (aY prog w) h ks a)(i:h.get? S<*o)(f:o.data=.set es ep t)(hs:cU S h h'):bD (aY prog w) h' ks a:=by
 obtain⟨d,j,n,c,e,b,hi⟩:=x;have g:a≠S:=by rintro rfl;obtain rfl:d=o:=aW (c.symm.trans i);rw[f]at b;exact nomatch b
 exact(d,j,n,(hs.2 a g).trans c,e,b,hi,)
def items_int{q:Int×Int}(h:ItemsAre (aY prog w) (key q) vs):∃t u,vs=[.int q.1 t,.int q.2 u]:=by
 cases h with
 |cons a h=>cases h with
  |cons b h=>cases h with
   |nil=>
    rename_i v1 v2;have z:∀{k:Int}{v:Value},(aY prog w).is (.inl k) v=true->∃t,v=.int k t:=λ{k v} h=>by rw[qS]at h;exact nu (k:=k) (v:=v) h
    obtain⟨t,rfl⟩:=z a;obtain⟨u,rfl⟩:=z b;exact(t,u,rfl,)
def Nw{q:Int×Int}{Q:Bool->Shared->Prop}(b:bD (aY prog w) s.heap (key q) a)(h:Q true s):'B' (D7 8 (.ref a)) Q E s:=by have c:=b.typeIs;obtain⟨o,g,n,e,_,d,hi⟩:=b;obtain⟨t,u,f⟩:=items_int hi;unfold D7;refine aa (tF c F.slot_tuple_hash.lookup ?_);show wpAny _ _ (jY (.ref a)>>=_) _ _ s;refine aa (eP e d ?_);show wpAny _ _ (forIn g _ _>>=_) _ _ s;rw[<-gP,f];refine aa ?_;rw[jq];refine aa (aa (aj (aj ?_)));dsimp only;rw[jq];refine aa (aa (aj (aj ?_)));dsimp only;rw[mP];exact aj (aj h)
def wX{q:Int×Int}{Q:Bool->Shared->Prop}(b:bD (aY prog w) s.heap (key q) a)(h:Q false s):'B' (pY 8 (.ref a)) Q E s:=by have c:=b.typeIs;obtain⟨o,g,n,e,_,d,hi⟩:=b;obtain⟨t,u,f⟩:=items_int hi;unfold pY;refine aa (hO c ?_);show wpAny _ _ (pure true>>=_) _ _ s;refine aa (aj ?_);show wpAny _ _ (jY (.ref a)>>=_) _ _ s;refine aa (eP e d ?_);show wpAny _ _ (forIn g _ _>>=_) _ _ s;rw[<-gP,f];refine aa ?_;rw[jq];refine aa (aa (aj (aj ?_)));dsimp only;rw[jq];refine aa (aa (aj (aj ?_)));dsimp only;rw[mP];exact aj (aj h)
def Ep{q:Int×Int}{Q:Bool->Shared->Prop}(g:bD (aY prog w) s.heap (key q) a)(l:List Value)(m:∀v∈l,∃r b,v=.ref b/\bD (aY prog w) s.heap (key r) b)(h:Q false s):
  'B' (pX (.ref a) l) Q E s:=by
 unfold pX;refine aa ?_;refine lL _ (λe r c=>r.1=none/\c=s/\∀v∈e,∃r b,v=.ref b/\bD (aY prog w) s.heap (key r) b) _ ?_ ?_ _ _ (rfl,rfl,m,)
 .rintro v e r c ⟨d,rfl,f⟩;obtain⟨k,b,rfl,i⟩:=f v aG;have j:∀u∈e,∃r b,u=.ref b/\bD (aY prog w) c.heap (key r) b:=λu n=>f u (ax _ n);dsimp only;split;·exact aj (rfl,rfl,j,)
  .refine aa (lF g ?_);simp only[eK,aJ,if_false];refine aa (lF i ?_);simp only[eK,aJ,if_false];refine aa (wX g ?_);simp only[aJ,if_false];refine aa (wX i ?_);simp only[aJ,if_false];exact aj (rfl,rfl,j,)
 .rintro⟨o,p⟩ c ⟨d,rfl,_⟩;simp only at d;subst d;exact aj h
def GU(a:Array (Int×Value))(p:Nat)(h:Int)(v:Value):(bc a p (h,v)).map (·.1)=bc (a.map (·.1)) p h:=by unfold bc;simp
def mem_ins{x e:Int×Value}(h:e∈(bc es p x).toList):e∈es.toList\/e=x:=by
 unfold bc at h;simp only[Array.toList_append,vL,Array.toList_extract,cX,aU,List.extract_eq_take_drop]at h;rcases h with(h|h) |h;·exact .inl (rG (fS h))
 .exact .inr h
 .exact .inl (rG (fS h))
def Cn(a:Array (Int×Value))(p:Nat)(x:Int×Value):(bc a p x).size=a.size+1:=by unfold bc;simp;lia
def HL(led:Bool)(ks:List (Int×Int))(q:Int×Int):Ci led (ks++[q])=step (Ci led ks) (hq q):=by unfold Ci;rw[wm];rfl
def add4{T:Addr->Prop}{q:Int×Int}{ks:List (Int×Int)}{Q:Bool->Shared->Prop}(O:A.units<cLine)(p:bD (aY prog w) s.heap (key q) a)(Y:T a)(y:q∈four)(N:ks∈orders)(M:tf prog w T s.heap S ks)
  (h:∀b h' I,I∈orders->(∀r,r∈I↔r∈ks\/r=q)->cU S s.heap h'->tf prog w T h' S I->Q b {s with heap:=h'}):'B' (nW S (.ref a) (hq q)) Q E s:=by
 obtain⟨led,o,c,L,l,Z,f,z,R,D⟩:=id M;have ok:=LQ (led:=led) N y;have n:=HL led ks q;unfold Iv at ok;generalize hst:Ci led ks=st at *;obtain⟨t,B⟩:=st;simp only[aB,Bool.not_eq_true']at ok f z;obtain⟨⟨⟨b0,b1⟩,b2⟩,g⟩:=ok;have hf:t.fits c.size=true:=by rw[R];exact b1
 have a6:∀i:Nat,(B[i]?).getD 0=(c[i]?.map λe:Int×Value=>e.1).getD 0:=λi=>by rw[<-z];simp
 have a1:(λi:Nat=>(B[i]?).getD 0)=λi:Nat=>(c[i]?.map λe:Int×Value=>e.1).getD 0:=funext a6;unfold nW JA;refine ba (aa (cf l f hf ?_));dsimp only;rw[show byScan (.ref a) c=false from rfl];simp only[aJ,if_false];refine aa ?_;unfold setSearch NO;refine aa (cf l f hf ?_);dsimp only;rw[b0];simp only[aJ,if_false];generalize hpp:yj t _ (hq q) _=m;have a4:t.probe (λi=>(B[i]?).getD 0) (hq q) (t.probeStart (hq q))=m:=by rw[a1];exact hpp
 unfold step at n;dsimp only at n;rw[a4]at g n;by_cases hc:ks.contains q=true
 .rw[if_pos hc]at g;rcases m with _|m;·exact nomatch g
  cases m with
  |empty j d=>exact nomatch g
  |candidate j i nx=>
   have hi:B[i]?<*(hq q):=by simpa using g
   rw[<-z,mM]at hi;cases k:c[i]? with
   |none=>rw[k]at hi;exact nomatch hi
   |some e=>
    have a2:e∈c.toList:=by rw[<-bS]at k;exact aH k
    obtain⟨r,b,rfl,K,X,_⟩:=D e a2;rw[k]at hi;have hr:r=q:=hq_inj r K q y ↥hi;subst hr;have a3:∀v∈(Array.filter (λx:Int×Value=>x.fst==hq r) c).toList.map (λx:Int×Value=>x.snd),∃r b,v=.ref b/\bD (aY prog w) s.heap (key r) b:=λv hv=>by
     obtain⟨x,P,rfl⟩:=aI.mp hv;have a8:x∈c.toList:=by rw[JU]at P;exact(d4.mp P).1
     obtain⟨J,C,rfl,_,H,_⟩:=D x a8;exact(J,C,rfl,H,)
    have V:Q false s:=h false s.heap ks N (λx=>(.inl,λb3=>b3.elim id λe=>e▸by simpa using hc,)) (qN _ _) M;dsimp only;rw[k];dsimp only;by_cases hl:(!t.led)=true;·rw[if_pos hl];refine aa (Ep p _ a3 ?_);simp only[aJ,if_false];refine aa (ba (jX O X p (aa (cf l f hf ?_))));rw[decide_eq_true rfl];exact aj (aj V)
    .rw[if_neg hl];refine aa (ba (jX O X p (aa (cf l f hf ?_))));rw[decide_eq_true rfl];exact aj (aj V)
 .rw[if_neg hc]at g;rcases m with _|m;·exact nomatch g
  cases m with
  |candidate j i nx=>exact nomatch g
  |empty j d=>
   rcases d with _|d
   .have W:=eE.mp g;have a0:(t.put j).1.tooFull=false:=by simpa using W.1
    have F:ks++[q]∈orders:=by simpa using W.2
    have u:=LQ (led:=led) F y;unfold Iv at u;rw[n]at u;dsimp only at u n;have b4:(t.put j).1.fits (ks++[q]).length=true:=by simp only[aB]at u;exact u.1.1.2
    dsimp only;refine aj ?_;dsimp only;refine aa (cf l f hf ?_);dsimp only;have a5:(t.put j).1.plain=true:=b2;rw[a5];simp only[if_true];refine aa (Nw p ?_);simp only[if_true];have U:(bc c (t.put j).2 (hq q,aN a)).size=(ks++[q]).length:=by rw[Cn,R,bX];rfl
    have a7:(ks++[q]).length<=sizeLine:=by
     have :∀a9∈orders,a9.length<=4:=by decide+kernel
     have :=this _ F;rw[mK];lia
    refine aa (kN l f ?_ (by rw[U];exact a7));rw[a0];simp only[Bool.not_false,eY,aJ,if_false,dS];have hg:(s.heap.update S (fH (bc c (t.put j).2 (hq q,aN a)) (t.put j).1)).get? S<*{o with data:=.set (bc c (t.put j).2 (hq q,aN a)) (L+1) (t.put j).1}:=by have :=bK (fH (bc c (t.put j).2 (hq q,aN a)) (t.put j).1) l (by rw[wc _ _ f];rfl);rw[wc _ _ f]at this;exact this
    have G:=bM s.heap S (fH (bc c (t.put j).2 (hq q,aN a)) (t.put j).1);refine aj (h true _ (ks++[q]) F (λx=>by simp) G (led,_,_,L+1,hg,Z,?_,?_,U,λe k=>?_,));·rw[n]
    .rw[n,GU,z]
    .rcases mem_ins k with k|rfl;·obtain⟨J,C,rfl,K,H,tb⟩:=D e k;exact(J,C,rfl,K,ly H l f G,tb,)
     .exact(q,a,rfl,y,ly p l f G,Y,)
   .exact nomatch g
end
section
variable {R:Result->Shared->Prop}{I:Addr}{fp wr:List Addr}{G:Array iF->Array iF->Prop}{P:Nat->Value->Prop}{St:Nat->Shared->Prop}
def jk{ks:List Key}(k:∀o,h.get? a<*o->h'.get? a<*o):bD (aY prog w) h ks a->bD (aY prog w) h' ks a
 |⟨o,items,n,ho,rest⟩=>(o,items,n,k o ho,rest,)
def tf.keep{T:Addr->Prop}{ks:List (Int×Int)}(k:∀b o,(b=S\/T b)->h.get? b<*o->h'.get? b<*o):tf prog w T h S ks->tf prog w T h' S ks
 |⟨led,o,es,ep,c,hex,hd,hm,hz,hel⟩=>⟨led,o,es,ep,k S o (.inl rfl) c,hex,hd,hm,hz,λe f=>by obtain⟨q,a,d,g,i,t⟩:=hel e f;exact(q,a,d,g,jk (λo c=>k a o (.inr t) c) i,t,)⟩
theorem loop4(W:WalksS prog w A.in1 I fp wr G n P St)(x:A.in1.units<cLine)(S:Addr)(h:S∉fp)(ps:List (Int×Int))(c:List Addr)(J:ps.length=n)(V:c.length=ps.length)(L:∀i v,P i v->∃a q,c[i]?<*a/\ps[i]?<*q/\v=.ref a)(y:∀q∈ps,q∈four)(hf:∀a∈c,a∉fp):
  ∀(m i:Nat)(s:Shared)(ks:List (Int×Int)),n-i=m->i<=n->St i s->ks∈orders->(∀r,r∈ks↔r∈ps.take i)->tf prog w (·∈c) s.heap S ks->(∀(i:Nat) a q,c[i]?<*a->ps[i]?<*q->bD (aY prog w) s.heap (key q) a)->
   (∀s' f,Moved (S::wr) G s s'->f∈orders->(∀r,r∈f↔r∈ps)->tf prog w (·∈c) s'.heap S f->R (.ok (.ret .none)) s')->
   gA (model prog w) A (.builtin "set.update.loop" ([.ref S,.ref I],[],)) R s
 | 0,i,s,ks,hm,hi,st,hor,hks,hS,hT,hR=>by
  obtain rfl:i=n:=by lia
  rw[<-J,dg]at hks;refine cY cT ?_;rw[cE bE _];show wpAny _ A.in1 (pyNext (.ref I)>>=_) _ _ s;refine aa (W.done s _ _ st λs' g=>?_);refine aj (hR s' ks (g.mono λb hb=>ax _ hb) hor hks (hS.keep λb o hb e=>g.heap b o (λz=>?_) e));rcases hb with rfl|hb;·exact h (W.sub _ z)
  .exact hf b hb (W.sub _ z)
 |m+1,i,s,ks,hm,hi,st,hor,hks,hS,hT,hR=>by
  have H:i<n:=by lia
  refine cY cT ?_;rw[cE bE _];show wpAny _ A.in1 (pyNext (.ref I)>>=_) _ _ s;refine aa (W.item i s _ _ H st λv s' O a6 g=>?_);obtain⟨a,q,C,t,rfl⟩:=L i v O;have M:∀b o,(b=S\/b∈c)->s.heap.get? b<*o->s'.heap.get? b<*o:=λb o hb e=>g.heap b o (λz=>by
   rcases hb with rfl|hb;·exact h (W.sub _ z)
   .exact hf b hb (W.sub _ z)) e
  have B:=hS.keep M;have X:a∈c:=aH C;have p:∀(i:Nat) a q,c[i]?<*a->ps[i]?<*q->bD (aY prog w) s'.heap (key q) a:=λi a q d l=>jk (λo e=>M a o (.inr (aH d)) e) (hT i a q d l);have F:=p i a q C t;show wpAny _ A.in1 (holding [aN a] (setAdd S (.ref a))>>=_) _ _ s';refine aa (ba ?_);unfold setAdd;refine ba (aa (wpAny_pyHash_tuple x F ?_));rw[hq_is];refine add4 (T:=(·∈c)) (s:={s' with toks:=s'.toks+((key q).length+1)}) x F X (y q (aH t)) hor B λb h' f a2 a0 u Q=>?_;have N:ps.take (i+1)=ps.take i++[q]:=by rw[cJ,t];rfl
  have nS:∀b∈c,b≠S:=λb hb e=>by
   obtain⟨j,E⟩:=aS.mp hb;obtain⟨b0,o,es,ep,ho,a7,Y,_⟩:=B;cases hjq:ps[j]? with
   |some r=>obtain⟨o',a9,n',K,hc,D,a8⟩:=p j b r E hjq;rw[e]at K;obtain rfl:o'=o:=aW (K.symm.trans ho);rw[Y]at D;exact nomatch D
   |none=>have h1:=i8.mp hjq;have h2:=(av.mp E).1;lia
  refine aj (fj bE _,loop4 W x S h ps c J V L y hf m (i+1) _ f 'D' H (W.frame _ s' _ _ a6 (fA _ _) λb hq o e=>?_) a2 (λr=>?_) Q (λj k q' d l=>?_) λa5 a3 a4 a1 Z U=>?_,);·rw[u.2 b (λz:b=S=>h (by rw[<-z];exact hq))];exact e
  .rw[a0,hks,N,cX,aU]
  .refine jk (λo e=>?_) (p j k q' d l);rw[u.2 k (nS k (aH d))];exact e
  .refine hR a5 a3 (rE W.gtrans ((g.mono λb hb=>ax _ hb).then_heap (fA _ _) λb o hq e=>?_) a4) a1 Z U;rw[u.2 b (λz:b=S=>hq (by rw[z];exact aG))];exact e
end
section
variable {E:'I'}{s:Shared}
theorem st0(led:Bool):Ci led []=(.fresh 0 0 led,#[]):=rfl
def KH{ps:List (Int×Int)}{Q:'I'}(hh:A.handled=none)(hu:A.units+5<cLine)(hl:s.heap.IsList l items)(p:as.length=ps.length)(K:items.toList=as.map aN)(X:∀q∈ps,q∈four)
  (J:∀(i:Nat) a q,as[i]?<*a->ps[i]?<*q->bD (aY prog w) s.heap (key q) a)
  (h:∀(h':Heap)(tk:Nat)(ks:List (Int×Int)),ks∈orders->(∀r,r∈ks↔r∈ps)->tf prog w (·∈as) h' ⇑s ks->(∀b o,b<⇑s->s.heap.get? b<*o->h'.get? b<*o)->Q (.ref ⇑s) {s with heap:=h',toks:=tk}):
  'B' (call (.type "set") [.ref l]) Q E s:=by
 have d:=F.called_set;obtain⟨b7,tl,b8⟩:=d.mro;have f1:=d.made;have f2:=d.sub;have f3:=d.notType;have f4:=d.canCreate;have f5:=F.typeCall_set_1 (.ref l);refine hV (tJ ?_);show wpAny _ _ (callAny (.type "set") _) _ _ _;refine aj (mQ _ (by decide+kernel),cY F.entry_type_call ?_,);rw[JV (weight_type_call_type "set" [.ref l] []) rfl];repeat(any_goals (first |assumption|wp_step))
 refine ip (code_set_new_1 (.ref l) (E:=E) (Q₁:=λobj O=>∃c:Bool,obj=.ref ⇑s/\O={s with heap:=s.heap.push (_root_.Q.gF c)}) λc=>(c,rfl,rfl,)) λr O g=>?_;rcases r with e|fl;·exact g
 rcases fl with _|_|_|obj;·exact g.elim
 .exact g.elim
 .exact g.elim
 obtain⟨c,rfl,rfl⟩:=g;have I:(s.heap.push (_root_.Q.gF c)).get? ⇑s<*(_root_.Q.gF c):=az _ rfl;have Y:B0 {s with heap:=s.heap.push (_root_.Q.gF c)} (.ref ⇑s) "set":=(_,I,rfl,);have f6:=d.init.lookup;have f7:=d.init.bind (.ref ⇑s);repeat(any_goals (first |assumption|wp_step))
 refine ip (gz (R:=wants (λr P=>r=.none/\∃h' tk ks,P={s with heap:=h',toks:=tk}/\ks∈orders/\(∀r,r∈ks↔r∈ps)/\tf prog w (·∈as) h' ⇑s ks/\
  (∀b o,b<⇑s->s.heap.get? b<*o->h'.get? b<*o)) E) d.init.plain F.entry_set_init (check_set_init_1 Y ?_)) λr2 P k=>?_
 .obtain⟨ol,D,Z,H,a0⟩:=hl;obtain⟨oc,od,b3,b5⟩:=ol;obtain rfl:oc=.type "list":=Z;obtain rfl:b3=.seq items H:=a0;have a9:(s.heap.push (_root_.Q.gF c)).get? l<*{cls:=.type "list",dict:=od,data:=.seq items H,slots:=b5}:=af _ D;have g1:=F.sub_list_set;have g2:=F.sub_list_frozenset;have g3:(gO "list"==gO "dict")=false:=by decide
  have M:(s.heap.push (_root_.Q.gF c)).IsList l items:=(_,a9,rfl,H,rfl,);unfold Builtin.«set.__init__» noKeywords qe;generalize hPI:pyIter=PI
  wp_walk
  subst hPI;refine kO M (aa (Jv ?_));have N:l<⇑s:=aA D;have W:A.in1.in1.in1.handled=none:=by simp[hh]
  have u:(s.heap.push (_root_.Q.gF c)).objs.size=⇑s+1:=bL _ _;have a7:l≠(s.heap.push (_root_.Q.gF c)).objs.size:=by rw[u];exact aM (bA N)
  have a8:⇑s∉[(s.heap.push (_root_.Q.gF c)).objs.size,l]:=by
   rw[u];intro z;rcases aK.mp z with z|z;·exact aM (dj _) z
   .exact eM N (aU.mp z)
  have a6:ps.length=items.size:=by rw[<-p,<-aV,K,ao]
  have a3:∀a∈as,∃o G n,s.heap.get? a<*o/\o.cls=.type "tuple":=λa B=>by
   obtain⟨j,L⟩:=aS.mp B;have C:j<ps.length:=by rw[<-p];exact(av.mp L).1
   obtain⟨o,G,n,f,t,_⟩:=J j a _ L (ae C);exact(o,G,n,f,t,)
  have a1:∀a∈as,a∉[(s.heap.push (_root_.Q.gF c)).objs.size,l]:=λa B z=>by
   obtain⟨o,G,n,f,t⟩:=a3 a B;rcases aK.mp z with z|z;·exact absurd (aA f) (by rw[z,u];exact vK.mpr (dk _))
   .rw[aU.mp z,D]at f;rw[<-aW f]at t;exact absurd (show gO "list"=gO "tuple" from t) 'E'
  refine loop4 ((BL W _ l a7 items).toS) (show A.units+1+1+1<cLine by lia) ⇑s a8 ps as a6 p (λi v hv=>?_) X a1 (items.size-0) 0 _ [] 'D' (bf _) ((_,az _ rfl,rfl,rfl,),M.push _,) (by decide+kernel) (λr=>by simp) ?_ (λi a q T U=>jk (λo e=>af _ (af _ e)) (J i a q T U)) λs' b2 x b1 a5 y=>?_
  .have m:items.toList[i]?<*v:=by simpa using hv
   rw[K,ay]at m;cases ea:as[i]? with
   |none=>rw[ea]at m;exact nomatch m
   |some a=>
    rw[ea]at m;have C:i<ps.length:=by rw[<-p];exact(av.mp ea).1
    exact(a,_,rfl,ae C,(aW m).symm,)
  .have hg:((s.heap.push (_root_.Q.gF c)).push {cls:=.type "list_iterator",data:=.fields #[.ref l,.int 0 0]}).get? ⇑s<*(_root_.Q.gF c):=af _ I;exact⟨c,_root_.Q.gF c,#[],0,hg,(rfl,rfl,rfl,),by rw[st0],by rw[st0];simp,rfl,λe he=>by simp at he⟩
  .obtain⟨h',V,S,b6,b4⟩:=s';obtain rfl:V=s.gens:=x.gens;obtain rfl:S=s.drawn:=x.drawn;obtain rfl:b4=s.os:=x.os;show wpAny _ _ _ _ _ _;refine aj ?_;show wpAny _ _ (ret cg) _ _ _;refine aj (rfl,h',b6,b2,rfl,b1,a5,y,λb o hq e=>x.heap b o (λz=>?_) (af _ (af _ e)),);rcases aK.mp z with z|z;·exact aM hq z
   .exact aM (bA hq) ((aU.mp z).trans u)
 .rcases r2 with e|fl2;·exact k
  rcases fl2 with _|_|_|v;·exact k.elim
  .exact k.elim
  .exact k.elim
  obtain⟨rfl,h',tk,ks,rfl,b0,a4,y,a2⟩:=k;repeat(any_goals (first |assumption|wp_step))
  exact h _ _ ks b0 a4 y a2
end
def Prs(H:Hp)(as:List Addr)(ps:List (Int×Int)):Prop:=as.length=ps.length/\∀(i:Nat) a q,as[i]?<*a->ps[i]?<*q->H a<*(.tup [.int q.1,.int q.2])
def rSetP(K:ak):List V->Hp->VK->Prop:=λxs H Q=>∃p as ps,xs=[V.ref p]/\SqL K H p (as.map V.ref)/\Prs H as ps/\(∀q∈ps,q∈four)/\∀a (ks:List (Int×Int)),H a=none->ks.Nodup->(∀r,r∈ks↔r∈ps)->Q (.ref a) (upd H a (_root_.Q.Co a ks.length))
def Jh(C:X.calm=true)(K:X.A.units+5<cLine):fG X (.type "set") (rSetP X.K):=by
 intro Y s σ H xs us Q I r h;obtain⟨p,c,Z,rfl,hq,⟨B,A⟩,x,q⟩:=h;obtain⟨a0,rfl,P⟩:=vals1 r;cases P;obtain⟨d,N,M,_⟩:=I.list hq;have F:d=c.map aN:=by
  have :∀{c:List Addr}{d:List Value},bT (c.map V.ref) d->d=c.map aN:=by
   intro c
   induction c with
   |nil=>intro d r;cases r;rfl
   |cons a c ih=>
    intro d r;cases r with
    |cons r0 r=>cases r0;rw[ih r];rfl
  exact this N
 refine KH (I.ok.hd C) K M.isList B ↥F x (λi a u v w=>?_) λR tk ks m G y L=>?_;·exact A7 (ks:=key u) I.hok (A i a u v w)
 .refine(.ref ⇑s,_,I.laid (t':=tk) (λb o e=>L b o (aA e) e) (aC _) (show eA X.prog X.w _ _ _ (_root_.Q.Co _ ks.length)from ?_),rfl,q _ ks (I.hok.fresh (aC _)) (AR ks m) G,);obtain⟨led,o,j,g,f,E,D,W,n,U⟩:=y;have ok:=LQ (led:=led) (q:=(0,0)) m 'E';unfold Iv at ok;simp only[aB]at ok;have J:∀l∈orders,l.length<=4:=by decide+kernel
  have :=J _ m;refine((o,j,g,_,f,E,D,by rw[n];unfold gm;lia,by rw[n];exact ok.1.1.2,n,),(o,f,),λS T z k=>?_,);obtain⟨o,j,g,t,f,O⟩:=z;exact(o,j,g,t,k o f,O,)
end D8
namespace L2
def DkIn(P:Program)(w:World)(K:ak)(a:Addr)(kvs:List (Key×V)):Prop:=
 (a==hZ)=false/\∃vs,KV kvs vs/\∀h,K.In h->h.DictOf (aY P w) a vs
end L2
namespace PySem
section
variable {E:'I'}{s:Shared}
def LR{j t:Addr}{xs:Array Value}{v:Value}{Q:'I'}(c:s.heap.IsTupleIter j t k)(g:s.heap.IsTuple t xs)(h:xs[k]?<*v)
  (q:∀h',h'.IsTupleIter j t (k+1)->cU j s.heap h'->Q v {s with heap:=h'}):'B' (fg (.ref j)) Q E s:=by
 obtain⟨o,b,d,a⟩:=id c;obtain⟨p,e,_,n,f⟩:=g;unfold fg;refine aa (dN (name:=bh "__next__") c.typeIs ja (cB ja c.typeIs Ei ?_ (D4 _)));show wpAny _ _ (field (.ref j) 0>>=_) _ _ s;refine aa (fK b a (x:=.ref t) rfl ?_);show wpAny _ _ (if(aN t==cg)=true then _ else _) _ _ s;rw[if_neg (λz:(aN t==cg)=true=>absurd z aq)];show wpAny _ _ (field (.ref j) 1>>=_) _ _ s;refine aa (fK b a (x:=.int k 0) rfl ?_);show wpAny _ _ (jY (.ref t)>>=_) _ _ s;refine aa (eP e f ?_);simp only[bo,h];refine aa (vE b a 'F' (aj (v,rfl,aj (q _ ?_ (bM ..)),)));exact⟨_,bK _ b (kD (fJ a _)),(Obj.cls_mapFields ..).trans d,by rw[fJ a];simp[rawInt]⟩
def GK{j t:Addr}{xs:Array Value}{Q:'I'}(f:A.handled=none)(d:s.heap.IsTupleIter j t k)(i:s.heap.IsTuple t xs)(l:xs[k]? =none)
  (q:∀h' e,Heap.ExtBut j s.heap h'->(∃o,h'.get? e<*o/\o.cls=.type "StopIteration")->E (.ref e) {s with heap:=h'}):'B' (fg (.ref j)) Q E s:=by
 obtain⟨o,b,r,c⟩:=id d;obtain⟨p,g,_,n,h⟩:=i;unfold fg;refine aa (dN (name:=bh "__next__") d.typeIs ja (cB ja d.typeIs Ei ?_ (D4 _)));show wpAny _ _ (field (.ref j) 0>>=_) _ _ s;refine aa (fK b c (x:=.ref t) rfl ?_);show wpAny _ _ (if(aN t==cg)=true then _ else _) _ _ s;rw[if_neg (λz:(aN t==cg)=true=>absurd z aq)];show wpAny _ _ (field (.ref j) 1>>=_) _ _ s;refine aa (fK b c (x:=.int k 0) rfl ?_);show wpAny _ _ (jY (.ref t)>>=_) _ _ s;refine aa (eP g h ?_);simp only[bo,l];refine aa (hU (aa (vE b c 'F' ?_)));show wpAny _ _ (newExc (.type "StopIteration") []>>=_) _ _ _;refine aa ?_;simp only[newExc,newTuple];refine aa (bR ?_ (by size_fits));refine aa (m:=vJ _ _) (mI (a:=cg) (by first |rfl| (simp only[vJ];rfl)) ?_);refine bR ?_ (by size_fits);simp only[JB];refine aa (wpAny_handled ?_);first |rw[show A.in1.handled=none from f] |rw[f]
 refine aa (aj (wpAny_throw ?_));exact q _ _ (((bM ..).extBut.push _).push _) ⟨_,az _ rfl,rfl⟩
end
end PySem
namespace L2
def tup_ne{g:Array Value}{o:Obj}(f:h.IsTuple a g)(b:h.get? c<*o)(d:o.cls≠.type "tuple"):a≠c:=by obtain⟨i,e,k,_⟩:=f;rintro rfl;rw[e]at b;cases b;exact d k
end L2
namespace PySem
open _root_.PySem.Sem (wp)
local macro_rules | `(term| «the numeral») => return Lean.mkIdent (cS (cS (cS (Lean.Name.num (cS (cS (cS (cS (cS Eh "_private") "PySem") "Builtin") "Int") "W0All") 0) "PySem") "Builtin") "readNumeral")
local macro_rules | `(term| «a value») => return Lean.mkIdent (cS (cS (cS (cS (Lean.Name.num (cS (cS (cS (cS (cS Eh "_private") "PySem") "Builtin") "Int") "W0All") 0) "PySem") "Builtin") "Numeral") "value")
end PySem
namespace L2
inductive Fig:Str->Int->Prop
 |one {a:Nat} (h:a<10):Fig ⟨#[48+a]⟩ (a:Nat)
 |two {a b:Nat} (ha:a<10) (hb:b<10):Fig ⟨#[48+a,48+b]⟩ (10*a+b:Nat)
end L2
namespace Q
open PySem.W L2
abbrev llt:List Int->List Int->Bool
 | [],[]=>false
 | [],_::_=>true
 |_::_,[]=>false
 |a::x,b::y=>decide (a<b)||(decide (a=b)&&llt x y)
theorem ug:∀{x y z:List Int},llt x y=true->llt y z=true->llt x z=true
 | [],[],_,h,_=>nomatch h
 | [],_::_,[],_,h=>nomatch h
 | [],_::_,_::_,_,_=>rfl
 |_::_,[],_,h,_=>nomatch h
 |_::_,_::_,[],_,h=>nomatch h
 |a::x,b::y,c::z,h,k=>by
  simp only[llt,cR,aB,decide_eq_true_eq]at h k⊢;rcases h with h|⟨rfl,h⟩
  .rcases k with k|⟨rfl,k⟩;·exact .inl 'D'
   .exact .inl h
  .rcases k with k|⟨rfl,k⟩;·exact .inl k
   .exact .inr (rfl,ug h k,)
theorem kJ:∀{x y:List Int},x≠y->llt x y= !llt y x
 | [],[],h=>absurd rfl h
 | [],_::_,_=>rfl
 |_::_,[],_=>rfl
 |a::x,b::y,h=>by
  by_cases e:a=b;·subst e;have :=kJ (x:=x) (y:=y) λz=>h (by rw[z]);simp[llt,this]
  .by_cases c:a<b
   .have :¬b<a:=by lia
    simp[llt,c,this,e,bI e]
   .have :b<a:=by lia
    simp[llt,c,this,e,bI e]
abbrev ltL(ps:List (List Int))(i j:Nat):Bool:=llt (ps.getD i []) (ps.getD j [])
abbrev Ip(ps:List (List Int)):List Nat:=if ps.length<2 then aF ps.length else(run (ltL ps) (dO ps.length)).toList
abbrev dU{α:Type}(d:α)(ps:List (List Int))(ys:List α):List α:=(Ip ps).map λi=>ys.getD i d
def neL(b:ps.Nodup)(hi:i<ps.length)(a:j<ps.length)(h:i≠j):ps.getD i []≠ps.getD j []:=λe=>by rw[ah,ah,ae hi,ae a]at e;exact h ((fu b).mp e)
def HH(d:ps.Nodup):Tot (ltL ps) ps.length where
 tri:=λi j hi c h=>kJ (neL d hi c h)
 tr:=λi j k _ _ _ a b=>ug a b
theorem mV(a:ps.Nodup):(Ip ps).Perm (aF ps.length):=by
 unfold Ip;split;·exact fm _
 .have P:=(fV (HH a) 'D').1;have :=iH.mp P.perm;simpa using this
theorem tY(k:ps.Nodup)(f:ps.length=ys.length)(r:bT ys vs):bT (dU .non ps ys) (gh (ltL ps) vs):=by
 have p:=r.length;have e:vs.length=ps.length:=by lia
 unfold gh dU Ip;rw[e];by_cases c:ps.length<2
 .rw[if_pos c,if_pos c];have a:(aF ps.length).map (λi=>ys.getD i V.non)=ys:=by
   rw[f];apply cQ;·simp
   .intro i o b;simp[b]
  rw[a];exact r
 .rw[if_neg c,if_neg c];have P:=(fV (HH k) 'D').1;have all:∀l:List Nat,(∀i∈l,i<ps.length)->bT (l.map λi=>ys.getD i V.non) (l.map λi=>vs.getD i cg):=by
   intro l
   induction l with
   |nil=>exact λ_=>.nil
   |cons i l ih=>
    intro h;have hi:i<ys.length:=by have :=h i (.head _);lia
    obtain⟨u,g,n⟩:=r.get (ae hi);refine .cons ?_ (ih λj d=>h j (.tail _ d));show L2.RelV (ys.getD i V.non) (vs.getD i cg);rw[ah,ae hi,ah,g];exact n
  refine all _ λi hi=>?_;have m:i∈(aF ps.length).toArray:=P.perm.mem_iff.mp (kX.mp hi);simpa using m
def lE(h:Heap)(vs:List Value)(ps:List (List Int)):Prop:=Paired (λv k=>∃a o ad n,v=.ref a/\h.get? a<*o/\o.cls=.type "tuple"/\o.data=.seq ad n/\cM ad.toList k) vs ps
def gv(r:lE h vs ps)(hi:i<vs.length):∃a o ad n,vs.getD i .none=.ref a/\h.get? a<*o/\o.data=.seq ad n/\cM ad.toList (ps.getD i []):=by
 unfold lE at r
 induction r generalizing i with
 |nil=>exact absurd hi (d9 _)
 |cons y t ih=>
  cases i with
  |zero=>obtain⟨a,o,ad,n,b,c,f,d,e⟩:=y;exact(a,o,ad,n,b,c,d,e,)
  |succ i=>exact ih ↥hi
def Mz(s:∀b o,h.get? b<*o->h1.get? b<*o)(r:lE h vs ps)(e:∀k∈ps,k≠[]):∃fs,KatTups h1 vs fs/\fs.length=vs.length/\∀v∈fs,∃x t,v=iT x t:=by
 unfold lE at r
 induction r with
 |nil=>exact⟨[],.nil,rfl,λv hv=>nomatch hv⟩
 | @cons v k vs ps y t ih=>
  obtain⟨fs,f,g,i⟩:=ih λk c=>e k (ax _ c);obtain⟨a,o,q,n,rfl,j,m,p,d⟩:=y;have c:=e k aG;obtain⟨l⟩:=q;cases l with
  |nil=>cases d;exact absurd rfl c
  |cons u l=>
   cases d with
   |cons x t h=>
    refine(_::fs,.cons (s _ _ j) m p rfl f,by simp[g],λv hv=>?_,);rcases aK.mp hv with rfl|hv;·exact(_,_,rfl,)
    .exact i v hv
def Mh{b j:Bool}{C:Bool->Shared->Prop}{xs ys:List Value}{x y:List Int}(i:Nat)(g:cM xs x)(d:cM ys y)(f:x.length=y.length)(h:x≠y)(q:C (llt x y) s):KatLex prog w A b j C (xs.zip ys) (i+1) s:=by
 induction g generalizing ys y i with
 |nil=>cases d with
  |nil=>exact absurd rfl h
  |cons=>simp at f
 |cons a t g ih=>cases d with
  |nil=>simp at f
  |cons c u d=>
   refine kat_cons (rn ?_);by_cases e:a=c;·subst e;rw[show(a==a)=true by simp];refine kat_yes (ih (i+1) d ↥f (λz=>h (by rw[z])) ?_);simp[llt]at q;exact q
   .rw[show(a==c)=false by simpa using e];refine kat_no ?_;rw[show(b&&(i+1==0))=false by simp];refine kat_one _ _ (lt_int ?_);simp[llt,e]at q;exact q
def sV(s:ps.Nodup)(f:vs.length=ps.length)(r:lE h0 vs ps)(W:2<=vs.length)(g:∀k∈ps,k.length=m):Ju prog w A (ltL ps) vs h0:=by
 have l:m≠0:=λz=>by
  have e:∀i,i<ps.length->ps.getD i []=[]:=λi hi=>by rw[ah,ae hi];exact bP.mp ((g _ (bQ hi)).trans z)
  exact neL s (i:=0) (j:=1) 'D' 'D' 'E' ((e 0 'D').trans (e 1 'D').symm)
 intro Z p;refine(tuples' true,λU S q=>?_,λi j C hi h M q=>?_,);·obtain⟨fs,B,V,D⟩:=Mz p r λk N z=>l (by rw[<-g k N,z];rfl);refine kat_kind (T:=.type "int") B 'D' (λv P=>?_) rfl q;obtain⟨x,t,rfl⟩:=D v P;exact Looks.of_pure rfl
 .obtain⟨a,o,Q,n,E,F,G,H⟩:=gv r hi;obtain⟨b,Y,R,X,I,J,K,L⟩:=gv r h;have O:=neL s (f▸hi) (f▸h) M;have l1:(ps.getD i []).length=m:=by rw[ah,ae (f▸hi)];exact g _ (bQ _)
  have l2:(ps.getD j []).length=m:=by rw[ah,ae (f▸h)];exact g _ (bQ _)
  unfold kas_ask;unfold ltL at q;rw[E,I];generalize ps.getD i []=x at *;generalize ps.getD j []=y at *;refine kat_lt (p _ _ F) G (p _ _ J) K ?_;generalize Q.toList=xs at *;generalize R.toList=ys at *;cases H with
  |nil=>exact absurd l1.symm l
  | @cons c t xs x hx=>
   cases L with
   |nil=>exact absurd l2.symm l
   | @cons d u ys y hy=>
    refine kat_cons (rn ?_);by_cases e:c=d;·subst e;rw[show(c==c)=true by simp];refine kat_yes (Mh 0 hx hy (by simp at l1 l2;lia) (λz=>O (by rw[z])) ?_);simp[llt]at q;exact q
    .rw[show(c==d)=false by simpa using e];refine kat_no (oneLt_int ?_);simp[llt,e]at q;exact q
def IntKeys(H:Hp)(ys:List V)(ps:List (List Int)):Prop:=Paired (λv k=>∃a,v=V.ref a/\H a<*(.tup (k.map V.int))) ys ps
def Dk(h:IntKeys H ys ps):ps.length=ys.length:=by
 unfold IntKeys at h
 induction h with
 |nil=>rfl
 |cons _ _ ih=>simp[ih]
def se(ok:HOk P w H h)(k:IntKeys H ys ps):bT ys vs->lE h vs ps:=by
 unfold IntKeys at k
 induction k generalizing vs with
 |nil=>intro z;cases z;exact .nil
 |cons y t ih=>
  intro z;cases z with
  |cons r q=>obtain⟨a,rfl,e⟩:=y;cases r;obtain⟨_,f,g,o,b,c,n,d⟩:=ok a _ e;exact .cons (a,o,f.toArray,n,rfl,b,c,d,↥(intsAre_of g),) (ih q)
def K6(K:ak):List V->Hp->VK->Prop:=λxs H Q=>∃p ys ps m,xs=[V.ref p]/\SqL K H p ys/\ps.length<64/\ps.Nodup/\(∀k∈ps,k.length=m)/\IntKeys H ys ps/\∀l,H l=none->Q (.ref l) (upd H l (.lst (dU .non ps ys)))
def Bq:fG X (.builtin "sorted") (K6 X.K):=by
 intro C s F H E D Q I r h;obtain⟨p,i,a,m,rfl,hq,z,f,v,j,q⟩:=h;obtain⟨u,rfl,y⟩:=vals1 r;cases y;obtain⟨d,g,x,B⟩:=I.list hq;have t:a.length=i.length:=Dk j;have A:=g.length;have k:d.length=a.length:=by lia
 refine tS (lt:=ltL a) (vs:=d) (by rw[k];exact HH f) x.isList 'D' (λl=>sV f k (se I.hok j g) l v) ?_;obtain⟨c,n⟩:=sortedAll_at s.heap d (gh (ltL a) d).toArray;have w:(dU V.non a i).length<=sizeLine:=by unfold dU;rw[ao,(mV f).length_eq,bC];lia
 exact(.ref (⇑s+1),_,I.laid (t':=s.toks) (λb o e=>NM e) (dk _) (show eA X.prog X.w _ _ _ (.lst (dU .non a i))from(w,_,c,tY f t g,n,)),rfl,q _ (I.hok.fresh (dk _)),)
theorem xu:∀x:List Int,llt x x=false
 | []=>rfl
 |a::x=>by simp[llt,xu x]
def G0{B:Builtin}{op:CmpOp}{f:List Int->List Int->Bool}(H:(B=Builtin.«tuple.__lt__»/\op=.Lt/\f=llt)\/(B=Builtin.«tuple.__gt__»/\op=.Gt/\f=λa b=>llt b a)){p q:Addr}{a b:List Int}{P:eL->Shared->Prop}(M:IsTup s.heap p us.toArray)(J:IsTup s.heap q vs.toArray)
  (C:cM us a)(D:cM vs b)(I:a.length=b.length)
  (h:P (.done (.ret (.bool (f a b)))) s):'B' (B ([.ref p,.ref q],[],)) P E s:=by
 have⟨g,ci,fc⟩:∃g:Int->Int->Bool,(∀{m n:Int}{t u:Nat}{s:Shared}{Q:'I'},Q (.bool (g m n)) s->'B' (dc op (.int m t) (.int n u)) Q E s)/\∀{m n:Int}{x y:List Int},m≠n->f (m::x) (n::y)=g m n:=by
  rcases H with⟨_,rfl,rfl⟩ |⟨_,rfl,rfl⟩;·exact⟨λm n=>decide (m<n),λq=>lt_int q,λc=>by simp[llt,c]⟩
  .exact⟨λm n=>decide (n<m),λq=>PyProof.Rows.gt_int q,λc=>by simp[llt,bI c]⟩
 rcases H with⟨rfl,rfl,hf⟩ |⟨rfl,rfl,hf⟩
 all_goals
  show wpAny _ _ (JD (.ref q) (.type "tuple")>>=_) _ _ s;refine aa (rm J.typeIs isSubtype_tuple_tuple ?_);simp only[eK,aJ,if_false];refine aa (yh M ?_);refine aa (yh J ?_);refine aa ?_;show wpAny _ _ (forIn (us.zip vs) _ _) _ _ s;refine lL _ (λK r G=>r.1=none/\G=s/\∃k l o v,K=List.zip k l/\k.length=l.length/\cM k o/\cM l v/\f a b=f o v) _ ?_ ?_ _ _ (rfl,rfl,us,vs,a,b,rfl,by rw[C.length,D.length,I],C,D,rfl,)
  .rintro x K ⟨r,_⟩ G ⟨F,rfl,k,l,o,v,e,j,i,d,z⟩;obtain rfl:r=none:=F;cases i with
   |nil=>cases e
   |cons m t i=>
    cases d with
    |nil=>cases j
    |cons n u d=>
     rw[vo]at e;cases e;dsimp only;refine aa (rn ?_);by_cases c:m=n;·rw[show(m==n)=true by simpa using c];simp only[eK,aJ,if_false];refine aj (rfl,rfl,_,_,_,_,rfl,↥j,i,d,?_,);rw[z];simp[hf,llt,c]
     .rw[show(m==n)=false by simpa using c];simp only[Bool.not_false,if_true];rw[z,fc c]at h;refine aa (hU (aa (ci (aa (aj (aj ?_))))));exact aj h
  .rintro⟨r,_⟩ G ⟨F,rfl,k,l,o,v,e,j,i,d,z⟩;obtain rfl:r=none:=F;dsimp only;have L:f a b=false:=by
    rw[z];cases i with
    |nil=>cases d with
     |nil=>rw[hf];rfl
     |cons n u d=>cases j
    |cons m t i=>cases d with
     |nil=>cases j
     |cons n u d=>rw[vo]at e;cases e
   rw[L]at h;have N:us.toArray.size=vs.toArray.size:=by rw[aE,aE,C.length,D.length,I]
   rw[N];simp only[Builtin.Tuple.tupleCompareSizes,dW,decide_false];exact aj h
def A1{p q:Addr}{a b:List Int}{P:eL->Shared->Prop}(f:IsTup s.heap p us.toArray)(g:IsTup s.heap q vs.toArray)
  (c:cM us a)(d:cM vs b)(e:a.length=b.length)
  (h:P (.done (.ret (.bool (llt a b)))) s):'B' (Builtin.«tuple.__lt__» ([.ref p,.ref q],[],)) P E s:=G0 (.inl (rfl,rfl,rfl,)) f g c d e h
def gt_tree{p q:Addr}{a b:List Int}{P:eL->Shared->Prop}(g:IsTup s.heap p us.toArray)(i:IsTup s.heap q vs.toArray)
  (c:cM us a)(d:cM vs b)(e:a.length=b.length)
  (h:P (.done (.ret (.bool (llt b a)))) s):'B' (Builtin.«tuple.__gt__» ([.ref p,.ref q],[],)) P E s:=G0 (f:=λa b=>llt b a) (.inr (rfl,rfl,rfl,)) g i c d e h
section
variable {I:Addr}{fp wr:List Addr}{G:Array iF->Array iF->Prop}{P:Nat->Value->Prop}{St:Nat->Shared->Prop}{R:Result->Shared->Prop}
def L6{N:String}{B:Builtin}{op:CmpOp}(m:JE table N<*B)(k:plainId N=true)(n:(N="min.loop"/\B=Builtin.«min.loop»/\op=.Lt)\/(N="max.loop"/\B=Builtin.«max.loop»/\op=.Gt))(W:WalksS prog w A.in1 I fp wr G 2 P St)(q:S∉fp){v0 v1:Value}(h0:∀v,P 0 v->v=v0)(M:∀v,P 1 v->v=v1){c:Nat}{bt:Bool}(U:St 0 s)
  (J:s.heap.get? S<*{cls:=.type "list",dict:=none,data:=.seq #[] c,slots:= #[]})
  (T:∀(s':Shared)(Q:'I')(E:'I'),Moved (S::wr) G s s'->Q (.bool bt) s'->wpAny (model prog w) A.in1 (richCompare op v1 v0) Q E s')
  (O:∀s',Moved (S::wr) G s s'->R (.ok (.ret (if bt=true then v1 else v0))) s'):gA (model prog w) A (.builtin N ([.ref I,.none,.ref S],[],)) R s:=by
 have r:S∉wr:=λh=>q (W.sub _ h);have H:∀b∈wr,b∈S::wr:=λb f=>ax _ f;have nm:(toString "min"++toString ".loop":String)="min.loop":=by decide
 have C:(toString "max"++toString ".loop":String)="max.loop":=by decide
 have D:∀{b:Addr},b∉S::wr->S≠b:=λf h=>f (by rw[h];exact aG)
 --the u turn
 have u:∀(a:Shared)(x:Value)(d:Nat),St 2 a->a.heap.get? S<*{cls:=.type "list",dict:=none,data:=.seq #[x,x] d,slots:= #[]}->Moved (S::wr) G s a->x=(if bt=true then v1 else v0)->
   gA (model prog w) A (.builtin N ([.ref I,.none,.ref S],[],)) R a:=by
  intro a x d F g y L;refine cY m ?_;rw[cE k _];rcases n with⟨rfl,rfl,rfl⟩ |⟨rfl,rfl,rfl⟩
  all_goals
   show wpAny _ A.in1 (jY (.ref S)>>=_) _ _ a;refine aa (eP g rfl ?_);show wpAny _ A.in1 (tryCatch (pyNext (.ref I)) _>>=_) _ _ a;refine aa (vD (W.done a _ _ F λs' j=>?_));have i:=j.heap S _ r g;show wpAny _ A.in1 (updateSeq S (λ_=> #[])>>=_) _ _ _;refine aa (F5 i rfl (aa (pW (aj ?_))));rw[L];exact O _ (rE W.gtrans y ((j.mono H).then_heap (tk:=s'.toks) (aC _) λb o f e=>(aX _ _ (D f)).trans e))
 --the K
 have K:∀(a:Shared)(d:Nat),St 1 a->a.heap.get? S<*{cls:=.type "list",dict:=none,data:=.seq #[v0,v0] d,slots:= #[]}->Moved (S::wr) G s a->
   gA (model prog w) A (.builtin N ([.ref I,.none,.ref S],[],)) R a:=by
  intro a d F g y;refine cY m ?_;rw[cE k _];rcases n with⟨rfl,rfl,rfl⟩ |⟨rfl,rfl,rfl⟩
  all_goals
   show wpAny _ A.in1 (jY (.ref S)>>=_) _ _ a;refine aa (eP g rfl ?_);show wpAny _ A.in1 (tryCatch (pyNext (.ref I)) _>>=_) _ _ a;refine aa (vD (W.item 1 a _ _ 'E' F λv s' p l j=>?_));obtain rfl:=M v p;have i:=j.heap S _ r g;have z:=rE W.gtrans y (j.mono H);show wpAny _ A.in1 (tryCatch (holding [v,v] (richCompare _ v v0>>=_)) _>>=_) _ _ _;refine aa (vD (ba (aa (T _ _ _ z ?_))));refine aa (ba (dZ ?_));refine aa (pW (aj ?_));cases f:bt with
   |true=>
    simp only[if_true];refine aa (F5 i rfl (aa (pW ?_)))
    first |rw[nm] |rw[C]
    refine aj ⟨fj k _,u _ v _ (W.frame _ s' _ s'.toks l (aC _) λb t o e=>?_) (bK _ i rfl) (z.then_heap (aC _) λb o f e=>(aX _ _ (D f)).trans e) (by rw[f];rfl)⟩;exact(aX _ _ (λh:S=b=>q (by rw[h];exact t))).trans e
   |false=>
    simp only[aJ,if_false];refine aa (pW ?_)
    first |rw[nm] |rw[C]
    exact aj ⟨fj k _,u _ v0 _ l i z (by rw[f];rfl)⟩
 refine cY m ?_;rw[cE k _];rcases n with⟨rfl,rfl,rfl⟩ |⟨rfl,rfl,rfl⟩
 all_goals
  show wpAny _ A.in1 (jY (.ref S)>>=_) _ _ s;refine aa (eP J rfl ?_);show wpAny _ A.in1 (tryCatch (pyNext (.ref I)) _>>=_) _ _ s;refine aa (vD (W.item 0 s _ _ 'E' U λv s' p l j=>?_));obtain rfl:=h0 v p;have i:=j.heap S _ r J;show wpAny _ A.in1 (updateSeq S (λ_=> #[v,v])>>=_) _ _ _;refine aa (F5 i rfl ?_)
  first |rw[nm] |rw[C]
  refine aj ⟨fj k _,K _ _ (W.frame _ s' _ s'.toks l (aC _) λb t o e=>?_) (bK _ i rfl) ((j.mono H).then_heap (aC _) λb o f e=>(aX _ _ (D f)).trans e)⟩;exact(aX _ _ (λh:S=b=>q (by rw[h];exact t))).trans e
def mm_go{N:String}{B:Builtin}{op:CmpOp}(k:JE table N<*B)(L:plainId N=true)(t:(N="min.loop"/\B=Builtin.«min.loop»/\op=.Lt)\/(N="max.loop"/\B=Builtin.«max.loop»/\op=.Gt))(y:A.handled=none){p q:Addr}{bt:Bool}
  (x:∀(s':Shared)(Q:'I')(E:'I'),(∀c o,s.heap.get? c<*o->s'.heap.get? c<*o)->Q (.bool bt) s'->wpAny (model prog w) A.in1 (richCompare op (.ref q) (.ref p)) Q E s')
  (h:∀h' tk,(∀c o,s.heap.get? c<*o->h'.get? c<*o)->R (.ok (.ret (if bt=true then .ref q else .ref p))) {s with heap:=h',toks:=tk}) (l:n=⇑s+1) (j:m=⇑s+2):
  gA (model prog w) A (.builtin N ([.ref n,.none,.ref m],[],)) R {s with heap:=((s.heap.push {cls:=.type "tuple",data:=.seq #[.ref p,.ref q]}).push {cls:=.type "tuple_iterator",data:=.fields #[.ref ⇑s,.int 0 0]}).push {cls:=.type "list",data:=.seq #[]}}:=by
 have u:(s.heap.push {cls:=.type "tuple",data:=.seq #[.ref p,.ref q]}).IsTuple ⇑s #[.ref p,.ref q]:=(_,az _ rfl,rfl,0,rfl,);have C:(s.heap.push {cls:=.type "tuple",data:=.seq #[.ref p,.ref q]}).objs.size=⇑s+1:=bL ..;have D:∀o d:Obj,((s.heap.push o).push d).objs.size=⇑s+2:=λo d=>by rw[bL,bL]
 rw[l,j];have old:∀{G:Array iF->Array iF->Prop}{F H I:Obj}{s':Shared},Moved [⇑s+2,⇑s+1] G {s with heap:=((s.heap.push F).push H).push I} s'->∀c o,s.heap.get? c<*o->s'.heap.get? c<*o:=λa c o e=>by have z:=aA e;refine a.heap c o (λb=>?_) (af _ (af _ (af _ e)));simp only[aK,dh,or_false]at b;rcases b with e|e<;>exact absurd z (by rw[e];exact vK.mpr (fA _ _))
 refine L6 k L t (v0:=.ref p) (v1:=.ref q) (bt:=bt) ((Walks.tuple (A:=A.in1) y _ ⇑s (aM (dj _)) #[.ref p,.ref q]).toS) 'F' (λv e=>by simpa using e.symm) (λv e=>by simpa using e.symm) ((_,af _ (C▸az _ rfl),rfl,rfl,),(u.push _).push _,) (D _ _▸az _ rfl) (λs' g f a=>x s' g f (old a)) λs' a=>?_;have J:=old a;obtain⟨h',r,i,M,K⟩:=s';obtain rfl:r=s.gens:=a.gens;obtain rfl:i=s.drawn:=a.drawn;obtain rfl:K=s.os:=a.os;exact h h' M J
def uE{p q:Addr}{a b:List Int}{Q:'I'}(j:A.handled=none)(l:A.units+1<cLine)(m:IsTup s.heap p us.toArray)(n:IsTup s.heap q vs.toArray)(g:cM us a)(i:cM vs b)(k:a.length=b.length)
  (h:∀h' tk,(∀c o,s.heap.get? c<*o->h'.get? c<*o)->Q (if llt b a=true then .ref q else .ref p) {s with heap:=h',toks:=tk}):
  'B' (call (.builtin "min") [.ref p,.ref q]) Q E s:=by
 refine call_function_tree F.kind_min F.plain_min F.entry_min (F.args_min2 _ _) ?_;show wpAny _ A.in1 (gd "min" ["key","default"] 0 ([],[],)>>=_) _ _ s;refine aa (mI (show gd "min" ["key","default"] 0 ([],[],)=pure [none,none]from rfl) ?_);show wpAny _ A.in1 (newTuple [.ref p,.ref q]>>=_) _ _ s;refine aa (bR (aa (jW (_,az _ rfl,rfl,0,rfl,) (aa (bR ?_)))));rw[show(toString "min"++toString ".loop":String)="min.loop" by decide];refine aj (fj F.plain_min_loop _,mm_go F.entry_min_loop F.plain_min_loop (.inl (rfl,rfl,rfl,)) j (λv u t old r=>?_) h (bL ..) ((bL ..).trans (congrArg (·+1) (bL ..))),);have f:=m.keeps old;have d:=n.keeps old;exact iV (op:=.Lt) d.typeIs f.typeIs jx (cB jx d.typeIs BX (A1 d f i g k.symm (_,rfl,(λe=>nomatch e),r,)) (yL _ _)) l
def Jk{p q:Addr}{a b:List Int}{Q:'I'}(j:A.handled=none)(l:A.units+1<cLine)(m:IsTup s.heap p us.toArray)(n:IsTup s.heap q vs.toArray)(g:cM us a)(i:cM vs b)(k:a.length=b.length)
  (h:∀h' tk,(∀c o,s.heap.get? c<*o->h'.get? c<*o)->Q (if llt a b=true then .ref q else .ref p) {s with heap:=h',toks:=tk}):
  'B' (call (.builtin "max") [.ref p,.ref q]) Q E s:=by
 refine call_function_tree F.kind_max F.plain_max F.entry_max (F.args_max2 _ _) ?_;show wpAny _ A.in1 (gd "max" ["key","default"] 0 ([],[],)>>=_) _ _ s;refine aa (mI (show gd "max" ["key","default"] 0 ([],[],)=pure [none,none]from rfl) ?_);show wpAny _ A.in1 (newTuple [.ref p,.ref q]>>=_) _ _ s;refine aa (bR (aa (jW (_,az _ rfl,rfl,0,rfl,) (aa (bR ?_)))));rw[show(toString "max"++toString ".loop":String)="max.loop" by decide];refine aj (fj F.plain_max_loop _,mm_go F.entry_max_loop F.plain_max_loop (.inr (rfl,rfl,rfl,)) j (λv u t old r=>?_) h (bL ..) ((bL ..).trans (congrArg (·+1) (bL ..))),);have f:=m.keeps old;have d:=n.keeps old;exact iV (op:=.Gt) d.typeIs f.typeIs F.slot_tuple_gt (cB F.slot_tuple_gt d.typeIs F.entry_tuple_gt (gt_tree d f i g k.symm (_,rfl,(λe=>nomatch e),r,)) (F.args_tuple_gt_2 _ _)) l
end
def rMinL(K:ak):List V->Hp->VK->Prop:=λxs H Q=>∃(p q:Addr)(a b:List Int),xs=[V.ref p,V.ref q]/\SqT K H p (a.map V.int)/\SqT K H q (b.map V.int)/\a.length=b.length/\Q (if llt b a=true then .ref q else .ref p) H
def rMaxL(K:ak):List V->Hp->VK->Prop:=λxs H Q=>∃(p q:Addr)(a b:List Int),xs=[V.ref p,V.ref q]/\SqT K H p (a.map V.int)/\SqT K H q (b.map V.int)/\a.length=b.length/\Q (if llt a b=true then .ref q else .ref p) H
def Ji(e:X.calm=true)(g:X.A.units+1<cLine):fG X (.builtin "min") (rMinL X.K):=by intro x s B H A y Q I r h;obtain⟨p,q,a,b,rfl,c,d,f,hq⟩:=h;obtain⟨u,z,rfl,l,m⟩:=vals2 r;cases l;cases m;obtain⟨v,n,i,_⟩:=I.tuple c;obtain⟨w,o,j,_⟩:=I.tuple d;refine _root_.Q.uE (I.ok.hd e) g i j (intsAre_of n) (intsAre_of o) f λt tk k=>(_,H,I.kept k,?_,hq,);split <;>rfl
def Jj(e:X.calm=true)(g:X.A.units+1<cLine):fG X (.builtin "max") (rMaxL X.K):=by intro x s B H A y Q I r h;obtain⟨p,q,a,b,rfl,c,d,f,hq⟩:=h;obtain⟨u,z,rfl,l,m⟩:=vals2 r;cases l;cases m;obtain⟨v,n,i,_⟩:=I.tuple c;obtain⟨w,o,j,_⟩:=I.tuple d;refine _root_.Q.Jk (I.ok.hd e) g i j (intsAre_of n) (intsAre_of o) f λt tk k=>(_,H,I.kept k,?_,hq,);split <;>rfl
abbrev nR(k:List Int×List Int):List Int:=k.1++k.2
theorem GY:∀{a c:List Int}(b d:List Int),a.length=c.length->llt (a++b) (c++d)=(llt a c||(decide (a=c)&&llt b d))
 | [],[],b,d,_=>by simp[llt]
 |x::a,y::c,b,d,h=>by
  have e:=GY (a:=a) (c:=c) b d ↥h;simp only[ym,llt,e];by_cases e1:x=y;·subst e1;simp
  .simp[e1]
def P2(h:Heap)(v:Value)(k:List Int×List Int):Prop:=∃a o ad n x y rest us ws,v=.ref a/\h.get? a<*o/\o.cls=.type "tuple"/\o.data=.seq ad n/\ad.toList=.ref x::.ref y::rest/\IsTup h x (us:List Value).toArray/\IsTup h y (ws:List Value).toArray/\cM us k.1/\cM ws k.2
def P2s(h:Heap)(vs:List Value)(ps:List (List Int×List Int)):Prop:=Paired (P2 h) vs ps
def p2_at{ps:List (List Int×List Int)}(r:P2s h vs ps)(hi:i<vs.length):P2 h (vs.getD i .none) (ps.getD i ([],[])):=by
 unfold P2s at r
 induction r generalizing i with
 |nil=>exact absurd hi (d9 _)
 |cons y t ih=>
  cases i with
  |zero=>exact y
  |succ i=>exact ih ↥hi
def p2_kat(c:∀b o,h.get? b<*o->h1.get? b<*o){ps:List (List Int×List Int)}(r:P2s h vs ps):∃fs,KatTups h1 vs fs/\fs.length=vs.length/\∀v∈fs,∃x o,v=aN x/\h1.get? x<*o/\o.cls=.type "tuple":=by
 unfold P2s at r
 induction r with
 |nil=>exact⟨[],.nil,rfl,λv hv=>nomatch hv⟩
 | @cons v k vs ps y t ih=>
  obtain⟨fs,d,e,f⟩:=ih;obtain⟨a,o,s,n,x,y,u,w,z,rfl,i,j,l,m,⟨q,p,g,_⟩,_⟩:=y;refine(.ref x::fs,.cons (c _ _ i) j l (by rw[<-bS,m];rfl) d,by simp[e],λv hv=>?_,);rcases aK.mp hv with rfl|hv;·exact(x,q,rfl,c _ _ p,g,)
  .exact f v hv
section
variable {E:'I'}{s:Shared}
def nN{k:List Int}(r:cM us k):ItemsAre (aY prog w) (k.map .inl) us:=by
 induction r with
 |nil=>exact .nil
 |cons n t r ih=>exact .cons (oY _ _ _ _) ih
def Gc{x:Addr}{k:List Int}(t:IsTup h x us.toArray)(r:cM us k):bD (aY prog w) h (k.map .inl) x:=by obtain⟨o,c,a,n,b⟩:=t;exact(o,us.toArray,n,c,a,b,nN r,)
def inl_inj{a c:List Int}:decide (a.map (eQ:Int->Key)=c.map eQ)=decide (a=c):=by
 refine decide_eq_decide.mpr ⟨λh=>?_,λh=>by rw[h]⟩
 induction a generalizing c with
 |nil=>cases c with
  |nil=>rfl
  |cons=>cases h
 |cons x a ih=>cases c with
  |nil=>cases h
  |cons y c=>simp only[bw,oF,eQ.injEq]at h;rw[h.1,ih h.2]
def Hf{x y:Addr}{a c:List Int}{Q:Bool->Shared->Prop}(e:A.units<cLine)(f:IsTup s.heap x us.toArray)(g:IsTup s.heap y ws.toArray)(b:cM us a)(d:cM ws c)(h:Q (decide (a=c)) s):'B' (eqBool (.ref x) (.ref y)) Q E s:=by rw[<-inl_inj]at h;exact jX (knd:=aY prog w) e (Gc f b) (Gc g d) h
def GV{x y:Addr}{a c:List Int}{Q:Bool->Shared->Prop}(j:A.units<cLine)(b:IsTup s.heap x us.toArray)(d:IsTup s.heap y ws.toArray)(f:cM us a)(g:cM ws c)(i:a.length=c.length)(h:Q (llt a c) s):'B' (oneLt' false (.ref x) (.ref y)) Q E s:=
 kat_one _ _ (iV (op:=.Lt) b.typeIs d.typeIs jx (cB jx b.typeIs BX (A1 b d f g i (_,rfl,(λe=>nomatch e),h,)) (yL _ _)) j)
end
def DH{ps:List (List Int×List Int)}(i:Nat):(ps.map nR).getD i []=nR (ps.getD i ([],[])):=by rw[ah,ah,ay];cases ps[i]? <;>rfl
def asks_p2{ps:List (List Int×List Int)}(f:A.units<cLine)(X:(ps.map nR).Nodup)(I:vs.length=ps.length)(r:P2s h0 vs ps)(h2:2<=vs.length)(J:∀k∈ps,k.1.length=m/\k.2.length=m):Ju prog w A (ltL (ps.map nR)) vs h0:=by
 intro s1 d;refine(tuples' false,λZ Y q=>?_,λi j C hi H V q=>?_,);·obtain⟨fs,K,a2,L⟩:=p2_kat d r;refine kat_kind (T:=.type "tuple") K 'D' (λv W=>?_) rfl q;obtain⟨x,o,rfl,g,h⟩:=L v W;intro A Q E a8 k q;exact hO (o,k _ _ g,h,) q
 .obtain⟨a,o,a0,a5,x,b1,a6,us,ws,g,h,e3,M,N,s,t,u,y⟩:=p2_at r hi;obtain⟨a',o',a4,n',x',y',a7,a9,b0,O,P,f3,R,S,B,D,F,G⟩:=p2_at r H;have l:=neL X (i:=i) (j:=j) (by rw[ao];lia) (by rw[ao];lia) V;have l1:(ps.getD i ([],[])).1.length=m/\(ps.getD i ([],[])).2.length=m:=by rw[ah,ae (I▸hi)];exact J _ (bQ _)
  have l2:(ps.getD j ([],[])).1.length=m/\(ps.getD j ([],[])).2.length=m:=by rw[ah,ae (I▸H)];exact J _ (bQ _)
  unfold kas_ask;unfold ltL at q;rw[DH,DH]at q l;rw[g,O];generalize ps.getD i ([],[])=k at *;generalize ps.getD j ([],[])=k' at *;obtain⟨b,c⟩:=k;obtain⟨n,p⟩:=k';unfold nR at q l;rw[GY _ _ (l1.1.trans l2.1.symm)]at q;refine kat_lt (d _ _ h) M (d _ _ P) R ?_;rw[N,S];refine kat_cons (Hf f (s.keeps d) (B.keeps d) u F ?_);by_cases e:b=n;·subst e;rw[show decide (b=b)=true by simp];have U:c≠p:=λz=>l (by rw[z]);refine kat_yes (kat_cons (Hf f (t.keeps d) (D.keeps d) y G ?_));dsimp only;rw[show decide (c=p)=false by simpa using U];refine kat_no (GV f (t.keeps d) (D.keeps d) y G (l1.2.trans l2.2.symm) ?_);simp[xu]at q;exact q
  .rw[show decide (b=n)=false by simpa using e];refine kat_no (GV f (s.keeps d) (B.keeps d) u F (l1.1.trans l2.1.symm) ?_);simp[e]at q;exact q
def lD(H:Hp)(ys:List V)(ps:List (List Int×List Int)):Prop:=Paired (λv k=>∃a x y rest,v=V.ref a/\H a<*(.tup (.ref x::.ref y::rest))/\H x<*(.tup (k.1.map V.int))/\H y<*(.tup (k.2.map V.int))) ys ps
def Ae{ps:List (List Int×List Int)}(h:lD H ys ps):ps.length=ys.length:=by
 unfold lD at h
 induction h with
 |nil=>rfl
 |cons _ _ ih=>simp[ih]
def p2_of(ok:HOk P w H h){ps:List (List Int×List Int)}(k:lD H ys ps):bT ys vs->P2s h vs ps:=by
 unfold lD at k
 induction k generalizing vs with
 |nil=>intro z;cases z;exact .nil
 |cons y t ih=>
  intro z;cases z with
  |cons r q=>
   obtain⟨a,x,z,A,rfl,e,g,i⟩:=y;cases r;obtain⟨_,v,b,o,c,d,n,f⟩:=ok a _ e;obtain⟨_,s,j,m⟩:=ok x _ g;obtain⟨_,u,l,p⟩:=ok z _ i;cases b with
   |cons r1 b=>cases b with
    |cons r2 b=>cases r1;cases r2;exact .cons (a,o,_,n,x,z,_,s,u,rfl,c,d,f,rfl,m,p,intsAre_of j,intsAre_of l,) (ih q)
def K5(K:ak):List V->Hp->VK->Prop:=λxs H Q=>∃(p:Addr)(ys:List V)(ps:List (List Int×List Int))(m:Nat),xs=[V.ref p]/\SqL K H p ys/\ps.length<64/\(ps.map nR).Nodup/\(∀k∈ps,k.1.length=m/\k.2.length=m)/\lD H ys ps/\∀l,H l=none->Q (.ref l) (upd H l (.lst (dU .non (ps.map nR) ys)))
def Bp(w:X.A.units+2<cLine):fG X (.builtin "sorted") (K5 X.K):=by
 intro E s J H G F Q I r h;obtain⟨p,g,a,m,rfl,hq,B,f,v,j,q⟩:=h;obtain⟨u,rfl,A⟩:=vals1 r;cases A;obtain⟨d,i,z,D⟩:=I.list hq;have t:a.length=g.length:=Ae j;have n:(a.map nR).length=g.length:=by rw[ao];exact t
 have C:=i.length;have x:d.length=(a.map nR).length:=by lia
 refine tS (lt:=ltL (a.map nR)) (vs:=d) (by rw[x];exact HH f) z.isList 'D' (λk=>asks_p2 w f 'D' (p2_of I.hok j i) k v) ?_;obtain⟨c,l⟩:=sortedAll_at s.heap d (gh (ltL (a.map nR)) d).toArray;have y:(dU V.non (a.map nR) g).length<=sizeLine:=by unfold dU;rw[ao,(mV f).length_eq,bC];lia
 exact(.ref (⇑s+1),_,I.laid (t':=s.toks) (λb o e=>NM e) (dk _) (show eA X.prog X.w _ _ _ (.lst (dU .non (a.map nR) g))from(y,_,c,tY f n i,l,)),rfl,q _ (I.hok.fresh (dk _)),)
end Q
namespace PySem
noncomputable abbrev eT1(h:Heap)(t:Addr):Heap:=h.push {cls:=.type "tuple_iterator",data:=.fields #[.ref t,.int 0 0]}
noncomputable abbrev eT2(h:Heap)(t:Addr):Heap:=(eT1 h t).push {cls:=.type "enumerate",data:=.fields #[.none,.bool false,.ref h.objs.size,rawInt 0,.none,.none]}
def C9(t:Addr)(xs:Array Value)(n:Nat)(c:Option Addr)(i:Array (Option Value)):
  Meets (Builtin.«enumerate.__new__» ([.type "enumerate",.ref t],[],)) (λ_ R s=>s.heap.get? t<*{cls:=.type "tuple",dict:=c,data:=.seq xs n,slots:=i}/\R (.ok (.ret (.ref (eT1 s.heap t).objs.size))) {s with heap:=eT2 s.heap t}):=
 .of_wp λk w A R s h=>by
  obtain⟨e,g,d,tk,f⟩:=s;obtain⟨a,h⟩:=h;have j:=sub_enumerate;have b:Heap.IsTuple (Shared.heap (e,g,d,tk,f,)) t xs:=(_,a,rfl,n,rfl,)
  wp_walk using mS a
  refine wpAny_stack_any λl=>aj ?_;split;·rename_i cc _ _ _ _ _;generalize(cc==gO "enumerate")=bb;cases bb<;>(wp_walk using mS a,jW b;exact(_,rfl,h,))
  .wp_walk using mS a,jW b
   exact(_,rfl,h,)
section
variable {E:'I'}{s:Shared}
def FL{t:Addr}{xs:Array Value}{Q:'I'}(i:s.heap.IsTuple t xs)
  (q:∀h',IsEnum h' (⇑s+1) ⇑s 0 .none->h'.IsTupleIter ⇑s t 0->(∀c o,s.heap.get? c<*o->h'.get? c<*o)->Q (.ref (⇑s+1)) {s with heap:=h'}):
  'B' (call (.type "enumerate") [.ref t]) Q E s:=by
 obtain⟨⟨c,b,d,k⟩,e,f,n,g⟩:=i;obtain rfl:c=gO "tuple":=f;obtain rfl:d=Data.seq xs n:=g;have l:(eT1 s.heap t).objs.size=⇑s+1:=bL ..;have a:(eT2 s.heap t).get? (eT1 s.heap t).objs.size<*_:=az _ rfl;have h:(eT2 s.heap t).get? ⇑s<*_:=af _ (az _ rfl);refine callType_new F.called_enumerate 'E' (F.typeCall_enumerate_1 _) (F.newCall_enumerate_1 _) (λj=>F.args_object_init_2 j _) F.entry_enumerate_new (C9 t xs n b k) (e,?_,);show _/\_;rw[l]at a⊢;exact((_,a,rfl,),q _ a (_,h,rfl,rfl,) λc o x=>af _ (af _ x),)
end
def drawsT(l:A.handled=none)(j t:Addr)(n:t≠j)(xs:Array Value):
  Draws prog w A j [j,t] xs.size (λi v=>xs[i]?<*v) (λi h=>h.IsTupleIter j t i/\h.IsTuple t xs) where
 live:=λ_ _ a=>by obtain⟨⟨o,b,_⟩,_⟩:=a;exact(o,b,)
 frame:=λ_ _ _ a c=>by obtain⟨⟨o,b,r⟩,⟨e,p,q⟩⟩:=a;exact⟨(o,c j 'F' o b,r,),(e,c t 'F' e p,q,)⟩
 item:=λi s Q E hi a k=>LR a.1 a.2 (v:=xs[i]) (by simp[hi]) λf m d=>k _ f s.toks (by simp[hi]) (m,a.2.extBut d.extBut n,) d
 done:=λs Q E a g=>GK l a.1 a.2 'F' g
end PySem
namespace L2
noncomputable abbrev Itet(K:ak)(a:Addr):It:=IteG λH xs=>SqT K H a xs
def en_tup(a f:Addr):En a f (λK H xs=>SqT K H a xs) (λi h=>h.IsTupleIter f a i) where
 obj:=λi h j=>by obtain⟨o,p,c,d⟩:=j;exact⟨o,p,λv z=>by rw[d]at z;cases z⟩
 kp:=λi h l j k=>by obtain⟨o,u,r⟩:=j;exact(o,k o u,r,)
 one:=λI h l=>I.tN h l
 src:=λ{X _ _ _ s xs i} I m hq n=>by
  obtain⟨g,y,b,A⟩:=I.tuple hq;have b:s.heap.IsTuple a g.toArray:=b;have t:a≠f:=by obtain⟨B,w,x,_⟩:=id n;exact tup_ne b w (by rw[x];decide+kernel)
  exact(g,λh=>h.IsTuple a g.toArray,y,b,λe o q c=>bI (tup_ne b q (by rw[c];decide+kernel)),drawsT m f a t g.toArray,λh Q E k=>GK m n b (Ga h) k,)
section
variable {es:List Expr}{kk:Nat}
def MF(K:ak)(t:TA):TI:=λσ H R=>t σ H λvs H1=>∃a,vs=[.ref a]/\(∃xs,SqT K H1 a xs)/\R (Itet K a) H1
def Ll{l:Expr}{t:TA}{p:Pos}(k:Gl X "enumerate")(n:X.mg "enumerate"=none)(i:PA X [l] t)(hs:bH [l] X.env=[(false,eval l X.env)]:=by rfl):
  PI X (.Tuple es kk pp) (.Call (.Name "enumerate" p) [l] [] pos) (MF X.K t):=by
 intro w s C H R I h;refine Call_ (jA I k n boot_enumerate (cP (thn (i pos w s C H _ I h) λG B ⟨K,d,c,y,x⟩=>?_) hs rfl));obtain⟨a,rfl,⟨L,hq⟩,q⟩:=x;obtain⟨u,rfl,A⟩:=y.one;cases A;obtain⟨r,F,b,E⟩:=c.tuple hq;have b:B.heap.IsTuple a r.toArray:=b;exact FL b λD j m v=>c.enum (en_tup a _) j m v q λo g tn J e t z f q=>(o,g,tn,J,d,rfl,e,t,z,f,q,)
end
end L2
namespace L2
open PySem.W
section
variable {E:'I'}{g:Array iF}{d:Drawn}{t:Nat}{os:OsState}{nm q:Str}{C N:Addr}{bs bm bmB:List Value}{hdct:Bool}{sn:List Str}{sub:List Value}{ab:Bool}{col:Option Bool}{dd:Option Addr}{k0 k1 k2 k3 k5:Option Value}{B newId initId:String}
noncomputable abbrev C4(h:Heap)(C:Addr)(rest:List Value):Heap:=(h.push {cls:=.type "tuple",data:=.seq rest.toArray}).push {cls:=.ref C,data:=.fields #[.ref h.objs.size,.none,.none,.none,.bool false,.none]}
def lu{o:Obj}(e:h.get? b<*o):(C4 h C rest).get? b<*o:=af _ (af _ e)
def AZ:(C4 h C rest).get? (h.objs.size+1)<*{cls:=.ref C,data:=.fields #[.ref h.objs.size,.none,.none,.none,.bool false,.none]}:=Heap.get?_push_at (by rw[bL]) rfl
def wy(F:ExcBaseFacts B newId initId bmB)(T:OwnTail h bmB bm){f:Obj}{Q:eL->Shared->Prop}(a:h.get? C<*(j6 nm q C N bs bm hdct sn sub ab col dd k0 k1 k2 k3 k5 newId))
  (m:h.Ns N mN)(hi:mN "__init__"<*(.ref fI))(hf:h.get? fI<*f)(l:f.cls=.type "function")(hrest:rest.length<=sizeLine)
  (hq:'B' (call (.ref fI) (.ref (h.objs.size+1)::rest)) (λr s'=>r=.none/\Q (.done (.ret (.ref (h.objs.size+1)))) s') E (C4 h C rest,g,d,t,os,)):
  'B' (Builtin.«type.__call__» (.ref C::rest,[],)) Q E (h,g,d,t,os,):=by
 repeat(first
  |with_reducible refine kP a ?_
  |with_reducible refine wpAny_madeBy_exc a ?_
  |wp_step)
 refine codeAny_call_builtin_code (mQ _ F.quiet) (wpAny_check_new_subT F T a ?_);refine codeAny_exc_new_subT F T a ?_ hrest;show wpAny _ _ _ _ _ ((C4 h C rest,g,d,t,os,):Shared);have c:=lu (C:=C) (rest:=rest) a;have n:(C4 h C rest).Ns N mN:=m.keeps λb o e=>lu e;have i:=T.keeps (h':=C4 h C rest) λb o e=>lu e;have j:(aN C::bm).contains (.ref C)=true:=by simp
 have k:=AZ (h:=h) (C:=C) (rest:=rest);unfold JD;repeat(first
  |with_reducible refine kP k ?_
  | (with_reducible refine wpAny_isSubtype_exc c ?_;rw[j])
  |wp_step)
 show wpAny _ _ (typeLookup (.ref C) _) _ _ _;refine wpAny_typeLookup_tail c n i F.mroIs F.init.lookup ?_;rw[hi];refine ba (aa ?_);unfold bindSpecial;refine aa (hO (T:="function") (_,lu hf,l,) ?_);rw[if_pos 'E'];refine aj (aa (dy hq (λr s' z=>?_) λ_ _ z=>z));obtain⟨rfl,z⟩:=z
 wp_walk
 exact z
def Jm(F:ExcBaseFacts B newId initId bmB)(T:OwnTail h bmB bm){b:Obj}{Q:'I'}(a:h.get? C<*(j6 nm q C N bs bm hdct sn sub ab col dd k0 k1 k2 k3 k5 newId))
  (e:h.Ns N mN)(hi:mN "__init__"<*(.ref fI))(hf:h.get? fI<*b)(c:b.cls=.type "function")(hrest:rest.length<=sizeLine)
  (hq:wpAny (model prog w) (A.under (.builtin "type.__call__" (.ref C::rest,[],))) (call (.ref fI) (.ref (h.objs.size+1)::rest)) (λr s'=>r=.none/\Q (.ref (h.objs.size+1)) s') E (C4 h C rest,g,d,t,os,)):
  'B' (call (.ref C) rest) Q E (h,g,d,t,os,):=by
 have f:=tc_lookup;have i:=tc_bind (.ref C);have j:((h,g,d,t,os,):Shared).TypeIs (.ref C) "type":=(_,a,rfl,);refine hV (tJ ?_);show wpAny _ _ (callAny (.ref C) _) _ _ _;repeat(any_goals (first
  |assumption
  |with_reducible refine kP a ?_
  |wp_step))
 refine(rfl,?_,);exact codeAny_call_builtin_at (mQ _ (by decide+kernel)) entry_typeCall (wpAny_check_type_call_sub a (wy F T a e hi hf c hrest hq))
def Jq(F:ExcBaseFacts B newId initId bmB)(T:OwnTail h bmB bm){e:Addr}{Q:'I'}(f:h.get? C<*(j6 nm q C N bs bm hdct sn sub ab col dd k0 k1 k2 k3 k5 newId))
  (a:h.get? e<*{cls:=.ref C,data:=.fields #[.ref x0,.none,.none,.none,.bool false,.none]}) (hrest:rest.length<=sizeLine)
  (hq:∀h':Heap,(∀b o,b≠e->h.get? b<*o->h'.get? b<*o)->(∃b,h'.get? e<*{cls:=.ref C,data:=.fields #[.ref b,.none,.none,.none,.bool false,.none]})->h.objs.size<=h'.objs.size->Q .none (h',g,d,t,os,)):
  'B' (call (.builtin initId) (.ref e::rest)) Q E (h,g,d,t,os,):=by
 refine hV (gz F.init.plain F.initEntry (wpAny_check_init_subT F T f a rfl ?_))
 wp_walk
 have j:=aA a;refine hq _ (λb o i c=>?_) (h.objs.size,?_,) ?_;·rw[aX _ _ (bI i)];exact af _ c
 .rw[bK _ (af _ a) rfl];rfl
 .rw[oQ,bL];exact dk _
end
abbrev exO(e C:Addr)(d:Option Addr):HO:=.ext λh=>∃x0,h.get? e<*{cls:=.ref C,dict:=d,data:=.fields #[.ref x0,.none,.none,.none,.bool false,.none]}
abbrev xdO(d:Addr)(fs:List (Str×V)):HO:=.ext λh=>∃mA,h.Ns1 d mA/\(∀f,uH (fs.lookup f) (mA f))/\lO mA (fs.map (·.1))
abbrev isTT:Value->Bool
 |.type t=>decide (t="type")
 |_=>false
abbrev dCl(o:Option Obj)(k:ClassData->Array (Option Value)->Bool):Bool:=match o with
 |some o=>isTT o.cls&&(match o.data with
  |.cls cd=>k cd o.slots
  |_=>false)
 |none=>false
def dCl_of{o:Option Obj}{k:ClassData->Array (Option Value)->Bool}(h:dCl o k=true):∃od cd sl,o<*(.type "type",od,.cls cd,sl,)/\k cd sl=true:=by
 cases o with
 |none=>cases h
 |some o=>
  obtain⟨c,od,d,sl⟩:=o;obtain⟨a,b⟩:=eE.mp h;have e:c=.type "type":=by cases c<;>first |cases a|exact congrArg _ (W0 a)
  subst e;cases d<;>first |exact⟨_,_,_,rfl,b⟩ |cases b
abbrev dMr(l:List Value)(k:Addr->List Value->Bool):Bool:=match l with
 |.ref c::bm=>k c bm
 |_=>false
def dMr_of{l:List Value}{k:Addr->List Value->Bool}(h:dMr l k=true):∃c bm,l=.ref c::bm/\k c bm=true:=by
 cases l with
 |nil=>cases h
 |cons v bm=>cases v<;>first |exact⟨_,_,rfl,h⟩ |cases h
abbrev dBn(o:Option Value)(k:String->Bool):Bool:=match o with
 |some (.builtin n)=>k n
 |_=>false
def dBn_of{o:Option Value}{k:String->Bool}(h:dBn o k=true):∃n,o<*(.builtin n)/\k n=true:=by
 cases o with
 |none=>cases h
 |some v=>cases v<;>first |exact⟨_,rfl,h⟩ |cases h
def mZ{b:Type}{l:List b}(h:l.length=n+1):∃a r,l=a::r/\r.length=n:=by
 cases l with
 |nil=>cases h
 |cons a r=>exact(a,r,rfl,jt h,)
abbrev uu(K:ak)(C f:Addr)(bmB:List Value)(newId:String):Bool:=dCl (K.lookup C) λcd sl=>dMr cd.mro λa bm=>decide (sl.toList.length=6)&&dBn (sl.toList.getD 4 none) λn=>
 a==C&&n==newId&& !cd.hasDel&&tailIn K bmB bm&&nsOkIn K cd.ns&&nsIn K cd.ns "__init__"==some (some (.ref f))
def ns_some{N:Addr}{n:Str}{v:Value}(X:K.In h)(G:h.Ns N mg)(e:nsIn K N n<*(some v)):mg n<*v:=by
 obtain⟨o,d,c,b,a,_,hf⟩:=G;unfold nsIn at e;split at e
 .rename_i q;have z:=X _ _ q;rw[b]at z;cases z;cases a;split at e;·rename_i en he;rw[<-hf];unfold nsFind findBy;rw[<-uQ,he];simpa using e
  .split at e<;>cases e
 .cases e
def ExcO(h:Heap)(C f:Addr)(bmB:List Value)(newId:String):Prop:=∃nm b N bs bm a sn sub ab col dd k0 k1 k2 k3 k5 mN,h.get? C<*(j6 nm b C N bs bm a sn sub ab col dd k0 k1 k2 k3 k5 newId)/\h.Ns N mN/\mN "__init__"<*(.ref f)/\OwnTail h bmB bm
def xJ{newId:String}(a:K.In h)(q:uu K C f bmB newId=true):ExcO h C f bmB newId:=by
 obtain⟨W,cd,F,v,q⟩:=dCl_of q;obtain⟨k,l,u,q⟩:=dMr_of q;obtain⟨E,q⟩:=eE.mp q;obtain⟨n,c,q⟩:=dBn_of q;obtain⟨x,X,d,G⟩:=mZ (W0 E);obtain⟨y,Y,e,H⟩:=mZ G;obtain⟨z,Z,g,I⟩:=mZ H;obtain⟨A,r3,i,J⟩:=mZ I;obtain⟨B,r4,j,L⟩:=mZ J;obtain⟨D,r5,b,M⟩:=mZ L;rw[e,g,i,j,b,bP.mp M]at d;rw[d]at c;have c:B<*(.builtin n):=c;subst c;have w:=d;rw[aB,aB,aB,aB,aB,beq_iff_eq,beq_iff_eq,beq_iff_eq]at q;obtain⟨⟨⟨⟨⟨e,g⟩,i⟩,j⟩,b⟩,p⟩:=q;subst e;subst g;obtain⟨N,P,o,Q,R,S,T,U,V,O,m⟩:=cd;have r:o=.ref k::l:=u;have s:m=false:=by simpa using i
 have t:F= #[x,y,z,A,some (.builtin n),D]:=by
  apply BZ
  exact w
 subst r;subst s;subst t;exact(_,_,_,_,_,_,_,_,_,_,_,_,_,_,_,_,_,a _ _ v,.of_isNs (isNs_of_in a b),ns_some a (.of_isNs (isNs_of_in a b)) p,tail_of_in a j,)
structure MkX(K:ak)(C f:Addr):Prop where
 ex:uu K C f bmV "ValueError.__new__"=true
 fn:∃o,K.lookup f<*o/\o.cls=.type "function"
 kp:keepIn K (.ref C)=true
section
variable {CX:CXT}{C f:Addr}{fd:fP}{ps:List Str}{sp:Sp}{ds:List Value}{E:XK}
def Ia{Q:VK}{vs:List V}(M:MkX X.K C f)(F:jV X.prog X.w X.K X.mg X.base CX k f fd ps sp)(y:jG (k+1) X.A)(o:Binds X.K fd ps ds)(p:bT ag ds)
  (A:∀(H':Hp)(i:Shared)(e:Value)(s':Shared),Inv X pins σ H' i->CX X.stack H' i E e s'->X.xe e s')(I:'A')(r:bT vs us)(w:vs.length<=sizeLine)
  (h:∀x,⇑s<=x->H x=none->sp (.ref x::(vs++ag)) (upd H x (exO x C none)) (λv H2=>v=.non/\Q (.ref x) H2) E):
  'C' (call (.ref C) us) (EP X pins σ Q) X.xe s:=by
 have hq:=h (⇑s+1) (dk _) (I.hok.fresh (dk _));obtain⟨nm,qn,N,bs,K,U,sn,sub,J,L,O,W,Y,Z,k3,k5,mN,m,n,hi,T⟩:=xJ (bmB:=bmV) I.kIn M.ex;obtain⟨oI,hf,q⟩:=M.fn;have c:Inv X pins σ (upd H (⇑s+1) (exO (⇑s+1) C none)) {s with heap:=C4 s.heap C us}:=by refine I.laid (t':=s.toks) (λb a0 e=>lu e) (dk _) ?_;exact((_,AZ,),(_,AZ,),λR S ⟨G,z⟩ k=>(G,k _ z,),)
 have g:bT (V.ref (⇑s+1)::(vs++ag)) (aN (⇑s+1)::(us++ds)):=.cons rfl (r.append p);have t:(aN (⇑s+1)::us++ds).length=ps.length:=by have e:=g.length;rw[F.len _ _ _ _ hq]at e;exact e.symm
 obtain⟨d,P,dr,tk,os⟩:=s;refine Jm (fI:=f) lQ T m n hi (I.kIn _ _ hf) q (by rw[<-r.length];exact w) ?_;refine hV (ip (F.run _ X.stack _ _ (aN (d.objs.size+1)::us,[],) (aN (d.objs.size+1)::(us++ds)) _ _ E (y.make C us []) (c.env0.make C us []) (o _ (aN (d.objs.size+1)::us) c.kIn t) g hq) λr s' a=>?_);cases r with
 |error e=>exact A _ _ e s' c a
 |ok fl=>
  cases fl with
  |ret u=>obtain⟨v,H',j,D,l,B⟩:=c.after a;subst l;exact(D,(V.ref (d.objs.size+1),H',j,rfl,B,),)
  |next =>exact iG a
  |brk=>exact iG a
  |cont=>exact iG a
end
end L2
namespace L2
open PySem.W PySem.Builtin PySem.Builtin.ObjectAttr
abbrev CM:List Value->Bool
 |.ref _::r=>CM r
 |l=>l==bmV
def refuseV(a:Value):refuseLoop a "__setattr__" bmV=pure ():=by kernel_rfl
theorem Gu(a:Value):∀{l:List Value},CM l=true->refuseLoop a "__setattr__" l=pure ()
 |.ref c::r,e=>by rw[refuseLoop_ref];exact Gu a e
 | [],e=>by cases e
 |.type n::r,e=>by rw[show(.type n::r:List Value)=bmV from beq_iff_eq.mp e];exact refuseV a
 |.none::r,e=>by cases e
 |.ellipsis::r,e=>by cases e
 |.notImplemented::r,e=>by cases e
 |.bool _::r,e=>by cases e
 |.int _ _::r,e=>by cases e
 |.float _ _::r,e=>by cases e
 |.str _ _::r,e=>by cases e
 |.bytes _ _::r,e=>by cases e
 |.builtin _::r,e=>by cases e
theorem y9:∀{l:List Value},CM l=true->l.contains (.type "object")=true
 |.ref c::r,e=>by rw[List.contains_cons,y9 (l:=r) e,Bool.or_true]
 | [],e=>by cases e
 |.type n::r,e=>by rw[show(.type n::r:List Value)=bmV from beq_iff_eq.mp e];decide
 |.none::r,e=>by cases e
 |.ellipsis::r,e=>by cases e
 |.notImplemented::r,e=>by cases e
 |.bool _::r,e=>by cases e
 |.int _ _::r,e=>by cases e
 |.float _ _::r,e=>by cases e
 |.str _ _::r,e=>by cases e
 |.bytes _ _::r,e=>by cases e
 |.builtin _::r,e=>by cases e
section
variable {R:Result->Shared->Prop}{s:Shared}{x C:Addr}
def CQ{t:Obj}{od:Option Obj}{name:Str}{tk:Tok}{v:Value}(X:K.In s.heap)(I:InstAt s.heap x t C od)(o:(clsIn K C).any (λcd=>CM cd.mro)=true)(r:takerIn K C name<*none)
  (h:∀b,wpAny (model prog w) A.in1 (storeInOwnDict (.ref x) (.ref C) (.str name tk) name v b)
   (λk s'=>match k with |.done f=>R (.ok f) s'|.again c'=>c'.quiet=true/\gA (model prog w) A c' R s') (λe s'=>R (.error e) s') s):
  gA (model prog w) A (.call (.builtin "object.__setattr__") ([.ref x,.str name tk,v],[],)) R s:=by
 have c:=PySem.F.store_object;obtain⟨cd,i,d⟩:=any_some o;have ne:cd.mro.isEmpty=false:=by cases q:cd.mro with |nil=>rw[q]at d;cases d|cons _ _=>rfl
 have sub:Looks (model prog w) s.heap (JD (.ref x) (.type "object")) true:=I.type.andThen (looks_mroIn X (by unfold mroIn;rw[i,gp,if_neg (by rw[ne];decide),y9 d]));refine gz c.slot.plain c.entry (@check_slot (model prog w) _ _ s "object.__setattr__" "object" "__setattr__" (.ref x) [.str name tk,v] [] _ c.kind c.split sub (c.args (.ref x) (.str name tk) v) ?_);obtain⟨g,l,p⟩:=Option.bind_eq_some_iff.mp r;have n:Looks (model prog w) s.heap (mroOf (.ref C)) cd.mro:=(looks_clsIn X i).andThen .now;have j:Looks (model prog w) s.heap (storeTaker? g) none:=by
  cases g with
  |none=>exact .now
  |some a=>
   obtain⟨b,m,q⟩:=oM.mp p;refine(looks_takesIn X m).andThen ?_;cases b;·exact .now
   .cases q
 rw[osa_eq,refuse_eq];refine aa (aa (I.type.here (aa (n.here ?_))));rw[Gu _ d];refine aj (aa (I.type.here (aa ((tw X l).here (aa (j.here ?_))))));exact h _
end
section
variable {E:'I'}{s:Shared}{e C:Addr}{name:Str}{v:Value}{vs:Array Value}{Q:Unit->Shared->Prop}
structure StX(K:ak)(C:Addr)(name:Str):Prop where
 hs:findIn K (.ref C) "__setattr__"<*(some (.builtin "object.__setattr__"))
 hp:(clsIn K C).any (λcd=>CM cd.mro)=true
 ht:takerIn K C name<*none
 hd:(clsIn K C).any (·.hasDict)=true
noncomputable abbrev oj(C:Addr)(d:Option Addr)(vs:Array Value):Obj:={cls:=.ref C,dict:=d,data:=.fields vs}
def MU(a:h.get? e<*(oj C none vs)):InstAt h e (oj C none vs) C none:=(a,rfl,rfl,trivial,)
def MT{d:Addr}{o:Obj}(b:h.get? e<*(oj C (some d) vs))(a:h.get? d<*o):InstAt h e (oj C (some d) vs) C (some o):=(b,rfl,rfl,a,)
def EG(X:K.In s.heap)(S:StX K C name)(a:s.heap.get? e<*(oj C none vs))
  (h:∀h',h'.get? e<*(oj C (some ⇑s) vs)->h'.Ns1 ⇑s (λy=>if y=name then some v else none)->(∀b o,b≠e->s.heap.get? b<*o->h'.get? b<*o)->Q () {s with heap:=h',toks:=s.toks+2}):
  'B' (setAttr (.ref e) name v) Q E s:=by
 have I:=MU a;refine set_plain X I S.hs (CQ (s:={s with toks:=s.toks+1}) X I S.hp S.ht λb=>?_);obtain⟨cd,k,m⟩:=any_some S.hd;refine aa (aj (aa (aa (Jw a (aa (BR (s:={s with toks:=s.toks+1}) (Hw X k) ?_))))));rw[m];show wpAny _ _ (alloc {cls:=.type "dict",data:=.dict #[]}>>=_) _ _ _;have c:(s.heap.push {cls:=.type "dict",data:=.dict #[]}).get? e<*(oj C none vs):=af _ a;have r:=aA a;refine aa (wpAny_alloc (aa (wpAny_update c ?_)));show wpAny _ _ (pure (some ⇑s)) _ _ _;refine aj ?_;show wpAny _ _ (pure ()>>=_) _ _ _;refine aa (aj (aa ?_));have f:⇑s≠e:=eM r;have n:((s.heap.push {cls:=.type "dict",data:=.dict #[]}).update e λo=>{o with dict:=some ⇑s}).get? ⇑s<*{cls:=.type "dict",data:=.dict #[]}:=by rw[aX _ _ (bI f)];exact az _ rfl
 have t:((s.heap.push {cls:=.type "dict",data:=.dict #[]}).update e λo=>{o with dict:=some ⇑s}).Ns1 ⇑s (λ_=>none):=
  (_,#[],_,n,rfl,λx B=>by simp at B,i9,λy=>rfl,)
 have z:lO (λ_=>none:Str->Option Value) []:=lO.nil;refine wpAny_nsSet1 t λh' d g=>?_;obtain⟨G,F,D,u,p,l⟩:=d.count (DY name v z);refine aa (wpAny_lookBehind u (by rw[p];exact pastItsLine_dict (aT l (by show 1<=sizeLine+1;decide))) ?_);refine aj (h _ ?_ d λb o i q=>?_);·rw[g.2 _ (bI f),bK _ c rfl]
 .have j:b≠⇑s:=aM (aA q);rw[g.2 _ j,aX _ _ (bI i)];exact af _ q
def HR{d:Addr}{g:List Str}(X:K.In s.heap)(S:StX K C name)(a:s.heap.get? e<*(oj C (some d) vs))(c:s.heap.Ns1 d mA)(q:lO mA g)(B:g.length<sizeLine)
  (h:∀h',h'.Ns1 d (λy=>if y=name then some v else mA y)->cU d s.heap h'->Q () {s with heap:=h',toks:=s.toks+2}):
  'B' (setAttr (.ref e) name v) Q E s:=by
 obtain⟨o,u,r,m,z⟩:=id c;have I:=MT a m;refine set_plain X I S.hs (CQ (s:={s with toks:=s.toks+1}) X I S.hp S.ht λb=>?_);obtain⟨cd,i,k⟩:=any_some S.hd;refine aa (aj (aa (aa (Jw a (aa (BR (s:={s with toks:=s.toks+1}) (Hw X i) ?_))))));rw[k];show wpAny _ _ (pure (some d)) _ _ _;refine aj ?_;show wpAny _ _ (pure ()>>=_) _ _ _;refine aa (aj (aa ?_));refine wpAny_nsSet1 (s:={s with toks:=s.toks+1}) c λh' f p=>?_;obtain⟨D,x,t,n,l,j⟩:=f.count (DY name v q);refine aa (wpAny_lookBehind n (by rw[l];exact pastItsLine_dict (aT j (by rw[bG];lia))) ?_);exact aj (h _ f p)
end
end L2
namespace L2
open PySem.W
section
variable {pins:List (Addr×Obj)}{s:Shared}{E:'I'}{a C:Addr}{f:Str}
def xd_ok{d:Addr}{fs:List (Str×V)}(H:Hp)(n:h.Ns1 d mA)(r:∀f,uH (fs.lookup f) (mA f))(a:lO mA (fs.map (·.1))):eA P w H h d (xdO d fs):=
 ((mA,n,r,a,),let⟨o,_,_,e,_⟩:=n;(o,e,),λb c ⟨m,n,r⟩ k=>(m,n.at k,r,),)
def ex_ok{e:Addr}{d:Option Addr}(H:Hp)(q:h.get? e<*(oj C d #[.ref x0,.none,.none,.none,.bool false,.none])):eA P w H h e (exO e C d):=
 ((x0,q,),(_,q,),λa b ⟨x,z⟩ k=>(x,k _ z,),)
def KG{Q:Unit->Shared->Prop}(I:'A')(e:H a<*(exO a C none))(S:StX X.K C f)(F:RelV y u)
  (h:∀s' dd,H dd=none->Inv X pins σ (upd (upd H dd (xdO dd [(f,y)])) a (exO a C (some dd))) s'->Q () s'):wpAny (model X.prog X.w) A (setAttr (.ref a) f u) Q E s:=by
 obtain⟨⟨K,j⟩,_⟩:=I.hok a _ e;refine EG I.kIn S j λG i t B=>h _ ⇑s (I.hok.fresh (aC _)) ?_;obtain⟨c,p,n,m,r⟩:=id t;have J:H ⇑s=none:=I.hok.fresh (aC _);have z:⇑s≠a:=eM (aA j);have d:(s.heap.push c).get? ⇑s<*c:=az _ (Obj.isFreed_of_dict r.1);have D:(s.heap.push c).Ns1 ⇑s (λy=>if y=f then some u else none):=(c,p,n,d,r,);have k:Inv X pins σ (upd H ⇑s (xdO ⇑s [(f,y)])) {s with heap:=s.heap.push c,toks:=s.toks}:=by
  refine I.laid (t':=s.toks) (λb o q=>af _ q) (aC _) (xd_ok _ D (λg=>?_) λg w=>?_)
  .by_cases q:g=f;·subst q;simp[dH];exact F
   .have :(g==f)=false:=by simpa using q
    simp[dH,this,q];exact True.intro
  .by_cases q:g=f;·simp[q]
   .exact absurd (if_neg q) w
 have l:upd H ⇑s (xdO ⇑s [(f,y)]) a<*(exO a C none):=by rw[bj (bI z)];exact e
 refine k.write (x:=a) (e:=a) (t':=s.toks+2) (by rw[l];exact True.intro) (.inl rfl) (λb o v q=>?_) (_,i,) (ex_ok _ i);by_cases hbs:b=⇑s;·subst hbs;have q:(s.heap.push c).get? ⇑s<*o:=q;rw[d]at q;cases q;exact m
 .refine B b o v ?_;have q:(s.heap.push c).get? b<*o:=q;rw[Heap.get?_push_ne _ _ _ hbs]at q;exact q
def KE{dd:Addr}{fs:List (Str×V)}{Q:Unit->Shared->Prop}(I:'A')(e:H a<*(exO a C (some dd)))(c:H dd<*(xdO dd fs))(B:fs.length<1000)(S:StX X.K C f)(v:RelV y u)
  (h:∀s',Inv X pins σ (upd H dd (xdO dd (nH f y fs))) s'->Q () s'):wpAny (model X.prog X.w) A (setAttr (.ref a) f u) Q E s:=by
 obtain⟨⟨D,n⟩,_⟩:=I.hok a _ e;obtain⟨⟨d,t,r,j⟩,_⟩:=I.hok dd _ c;refine HR I.kIn S n t j (by rw[ao,mK];lia) λk i w=>h _ ?_;have m:∃o,k.get? dd<*o:=let⟨o,_,_,e',_⟩:=i;(o,e',);refine I.write (x:=dd) (e:=dd) (t':=s.toks+2) (by rw[c];exact True.intro) (.inl rfl) (λb o l q=>(w.2 b l).trans q) m (xd_ok _ i (λg=>?_) λg p=>?_)
 .show uH ((nH f y fs).lookup g) (if g=f then some u else d g);rw[u4];by_cases q:g=f;·rw[if_pos q,if_pos q];exact v
  .rw[if_neg q,if_neg q];exact r g
 .by_cases q:g=f;·rw[q];exact(ui f y fs).1
  .refine(ui f y fs).2 g (j g λz=>p ?_);show(if g=f then some u else d g)=none;rw[if_neg q];exact z
end
def sFldX(K:ak)(ta tv:TE)(f:Str):TS:=λD σ H=>tv σ H λy H1=>ta σ H1 λx H2=>∃a C,x=.ref a/\StX K C f/\
 ((H2 a<*(exO a C none)/\∀dd,H2 dd=none->D.nx σ (upd (upd H2 dd (xdO dd [(f,y)])) a (exO a C (some dd))))\/
  ∃dd fs,H2 a<*(exO a C (some dd))/\H2 dd<*(xdO dd fs)/\fs.length<1000/\D.nx σ (upd H2 dd (xdO dd (nH f y fs))))
section
variable {value:Expr}{f:Str}{ta tv:TE}
def ps_fldX(r:PE X o ta)(w:PE X value tv)(hs:rA value (some (.Attribute o f pos')) pos.line X.env=pure false):PS X (.Assign [.Attribute o f pos'] value pos) (sFldX X.K ta tv f):=by
 intro i s b H D I h;refine plainObj_wpAny_Assign_Attribute (thn (w i s b H _ I h) λu E ⟨y,l,m,j,q⟩=>thn (r i E b l _ m q) λz J ⟨x,G,d,B,a,C,p,S,A⟩=>?_) hs;subst p;obtain rfl:z=aN a:=B;rcases A with⟨e,k⟩ |⟨g,fs,e,n,v,k⟩;·exact KG d e S j λF g t c=>(b,_,c,k g t,)
 .exact KE d e n v S j λF c=>(b,_,c,k,)
end
structure BsX(K:ak)(B:Addr):Prop where
 ga:specialIn K (.ref B) "__getattribute__"<*(some (.builtin "type.__getattribute__"))
 rd:readsIn K B (.type "type")=true
 fd:findCls K (.ref B) (.type "type") "__init__"<*(.val (.builtin "ValueError.__init__"))
def tBase(K:ak)(B:Addr)(t:TA):TE:=λσ H Q=>BsX K B/\t σ H λvs H1=>∃a C f us,vs=.ref a::us/\H1 a<*(exO a C none)/\us.length<=sizeLine/\uu K C f bmV "ValueError.__new__"=true/\Q .non H1
section
variable {x:Str}{B:Addr}{es:List Expr}{t:TA}{apos:Pos}
def K4{Q:VK}(I:'A')(e:H a<*(exO a C none))(m:us.length<=sizeLine)(p:uu X.K C f bmV "ValueError.__new__"=true)(q:Q .non H):
  'C' (call (.builtin "ValueError.__init__") (.ref a::us)) (EP X pins σ Q) X.xe s:=by
 obtain⟨⟨R,l⟩,_⟩:=I.hok a _ e;obtain⟨nm,O,N,bs,v,B,P,sub,u,w,y,F,G,J,K,L,M,j,A,hi,T⟩:=xJ (bmB:=bmV) I.kIn p;obtain⟨D,h,dr,tk,t⟩:=s;refine Jq lQ T j l m λi r ⟨b,g⟩ E=>?_;have n:upd H a (exO a C none)=H:=by
  funext c
  by_cases z:c=a;·rw[z,aD,e]
  .rw[bj z]
 have d:Inv X pins σ (upd H a (exO a C none)) (i,h,dr,tk,t,):=I.write (x:=a) (e:=a) (t':=tk) (by rw[e];exact True.intro) (.inl rfl) (λb o k q=>r b o k q) (_,g,) (ex_ok _ g);rw[n]at d;exact(.non,H,d,rfl,q,)
def L7{env:Env}{name:Str}{a:List Expr}{Q:'I'}
  (g:NQ o name env (eval o env)=eval o env)
  (i:((backTo pos (bH a env)).all (λx=> !x.1)&&(BK pos (pZ [] env)).all (λx=>x.1.isSome)
   &&decide (a.length+([]:List Keyword).length+(if([]:List Keyword).isEmpty then 0 else 1)<30))=true)
  (k:(apos.endLine==pos.line)=true)
  (h:'B' (eval o env) (λc d=>∀pl,'B' (getMethod c name pl) (λb f=>'B' (callWith pos b.1 b.2 (backTo pos (bH a env)) (BK pos (pZ [] env))) Q E f) E d) E s):
  'B' (eval (.Call (.Attribute o name apos) a [] pos) env) Q E s:=by
 rw[arm_eval_Call,g];refine aa (dy h (λc d m=>?_) λ_ _ e=>e);refine aa (iI ?_);have j:methodCallForm (a.length+([]:List Keyword).length) (backTo pos (bH a env)) (BK pos (pZ [] env))=true:=i;have l:methodCallPos true o env apos pos=pure pos:=by unfold methodCallPos;simp[k]
 unfold methodCall;rw[j];refine aa (ba (dy (m _) (λb f n=>?_) λ_ _ e=>e));exact aa (mI l n)
def pe_base(m:Gl X x)(p:X.mg x<*(.ref B))(j:PA X (e::es) t)(k:(x==("__debug__":Str))=false)(u:bH (e::es) X.env=(false,eval e X.env)::bH es X.env)(r:(backTo pos (bH es X.env)).any (·.1)=false)
  (l:((backTo pos (bH (e::es) X.env)).all (λx=> !x.1)&&(BK pos (pZ [] X.env)).all (λx=>x.1.isSome)
   &&decide ((e::es).length+([]:List Keyword).length+(if([]:List Keyword).isEmpty then 0 else 1)<30))=true)
  (o:(apos.endLine==pos.line)=true):
  PE X (.Call (.Attribute (.Name x np) "__init__" apos) (e::es) [] pos) (tBase X.K B t):=by
 intro w s y H Q I h;obtain⟨b,h⟩:=h;refine L7 rfl l o (nL I m p (λD=>?_) k);refine PySem.W.method_cls I.kIn b.ga (PySem.W.cls_value I.kIn b.rd b.fd (by decide+kernel) ?_);refine fM (thn (j pos w _ y H _ (I.tok (s.toks+1)) h) λF E z=>?_) u r;obtain⟨G,A,d,c,a,C,f,J,g,i,n,v,q⟩:=z;subst g;cases c with
 |cons r0 c=>cases r0;exact K4 d i (by rw[<-c.length];exact n) v q
end
abbrev del(H:Hp)(a:Addr):Hp:=λb=>if b=a then none else H b
def m6:del H a a=none:=if_pos rfl
def kh(h:b≠a):del H a b=H b:=if_neg h
section
variable {M:Model}{E:'I'}{env:Env}{nm q:Str}{C N:Addr}{bs bm:List Value}{hdct:Bool}{sn:List Str}{sub:List Value}{ab:Bool}{col:Option Bool}{dd:Option Addr}{k0 k1 k2 k3 k5:Option Value}{newId:String}
def EK{x:Sem Value}{Q:Flow->Shared->Prop}(f:bm.contains (.type "BaseException")=true)(k:A.handled=none)
  (h:wpAny M A x (λv a=>∃e t dx,v=.ref e/\a.heap.get? C<*(j6 nm q C N bs bm hdct sn sub ab col dd k0 k1 k2 k3 k5 newId)/\
   a.heap.get? e<*(oj C dx #[.ref t,.none,.none,.none,.bool false,.none])/\E (.ref e) a) E s):
  wpAny M A (raiseStmt env (some x) none) Q E s:=by
 have i:(aN C::bm).contains (.type "BaseException")=true:=by rw[List.contains_cons,f,Bool.or_true]
 unfold raiseStmt;refine aa (dy h (λv a l=>?_) λ_ _ x=>x);obtain⟨e,t,dx,rfl,b,j,c⟩:=l;obtain⟨m,g,d,tk,n⟩:=a;repeat(first |with_reducible refine kP j ?_ |with_reducible refine kP b ?_ | (with_reducible refine wpAny_isSubtype_exc b ?_;rw[i]) |wp_step)
 exact wpAny_raiseNew_none k c
end
section
variable {pins:List (Addr×Obj)}{s:Shared}
theorem Inv.del{g:Heap->Prop}(I:'A')(e:H a<*(.ext g)):Inv X pins σ (L2.del H a) s:=by
 have ne:∀{b:Addr}{o:HO},H b<*o->(∀j,o≠.ext j)->b≠a:=λ{b o} q n z=>by rw[z,e]at q;exact n g (aW q).symm
 refine(I.ok,I.os,I.bare,(I.base.keep,I.base.slot,λb o q n d=>?_,I.base.there,λb f q=>?_,λb o u q=>?_,λb h q=>?_,),I.loc,I.cell,?_,λx c q=>?_,λp q=>?_,λb u q=>?_,I.len,)
 .by_cases z:b=a;·rw[z];exact m6
  .rw[kh z];exact I.base.free b o q n d
 .have r:=I.base.tups b f q;rw[kh (ne r λ_ z=>by cases z)];exact r
 .have r:=I.base.frzs b o u q;rw[kh (ne r λ_ z=>by cases z)];exact r
 .obtain⟨more,r⟩:=I.base.tbls b h q;exact⟨more,by rw[kh (ne r λ_ z=>by cases z)];exact r⟩
 .by_cases z:X.env.locals=a;·rw[z];exact m6
  .rw[kh z];exact I.free
 .by_cases z:c=a;·rw[z];exact m6
  .rw[kh z];exact I.freeC x c q
 .obtain⟨i,n,r⟩:=I.pin p q;refine(i,?_,r,);by_cases z:p.1=a;·rw[z];exact m6
  .rw[kh z];exact n
 .by_cases d:b=a;·rw[d,m6]at q;cases q
  .rw[kh d]at q;exact(I.hok b u q).mf (λ_ _ _ r=>r) (λc r=>by rw[kh (ne r λ_ z=>by cases z)];exact r) λc f r=>by rw[kh (ne r λ_ z=>by cases z)];exact r
structure NewX(X:Cx)(pins:List (Addr×Obj))(H:Hp)(s:Shared)(a C:Addr)(d:Option Addr):Prop where
 at_:∃x0,s.heap.get? a<*(oj C d #[.ref x0,.none,.none,.none,.bool false,.none])
 new:X.s₀.heap.get? a=none
 un:H a=none
 pins:∀p∈X.pn++pins,p.1≠a
def za{M:Model}{Q:Unit->Shared->Prop}{d:Option Addr}(I:'A')(c:X.stack=X.env::X.outer)(hf:X.env.frame<*X.env.locals)(n:NewX X pins H s a C d)
  (h:∀s2,Inv X pins σ H s2->Fly X.s₀.heap s2.heap H (X.pn++pins) a (.ref C) d->Q () s2):
  wpAny M X.A (oE (.ref a) X.env) (λ_ s'=>wpAny M X.A (DU (.ref a) none) Q E s') E s:=by
 obtain⟨e,b⟩:=n.at_;unfold oE;simp only[hf];refine aa (fK (x:=.none) b rfl (by rfl) ?_);rw[if_neg (show ¬(cg != cg)=true by simp)];exact enter I c hf b rfl 'F' n.new n.un n.pins h
def FX(X:Cx)(E:XS):Prop:=∀(pins:List (Addr×Obj))(σ:St)(H:Hp)(s:Shared)(a C:Addr)(d:Option Addr),'A'->NewX X pins H s a C d->E σ (.ref C) d H->X.xe (.ref a) s
def FO{cd:Value}{outer:List Env}{E:XK}:
  FX (Bm (CXx P w) P w K mg base N qual scope f cd A outer s H E) (λ_=>E):=by
 intro F L e G a C d I n q;show wpAny _ _ (leaving _ _) _ _ _;unfold leaving;refine aa (za I rfl rfl n λJ b c=>?_);obtain⟨⟨T,y,D,x,B,i,l,m,o,p,r,t,u,v,j,k,_⟩,g,h,_⟩:=c;exact(a,.ref C,d,e,rfl,b.os,b.bare,b.base,b.hok,⟨⟨T,y,D,x,B,i,l,m,o,p,r,t,u,v,j,k,λ_ z=>nomatch z⟩,g,h,λ_ z=>nomatch z⟩,q,)
def HF{n:Str}{b:Stmt}{c:List Stmt}{e:Pos}{g:TS}{D:Ends}(O:DT X x n C i (b::c) g){f:Addr}{d:Option Addr}(ok:X.Ok)
  (I:Inv (X.re X.A X.calm (X.pn++pins) (lb X pins D [.ExceptHandler (some (.Name x np)) (some n) (b::c) e])) pins' σ H s)(m:NewX (X.re X.A X.calm (X.pn++pins) (lb X pins D [.ExceptHandler (some (.Name x np)) (some n) (b::c) e])) pins' H s a f d)(h:uy X.K C i g D σ (.ref f) d H):
  lb X pins D [.ExceptHandler (some (.Name x np)) (some n) (b::c) e] (.ref a) s:=by
 have J:'A':=I.J8 ok λp z=>cF _ z;exact za J O.stk O.fr (m.at_,m.new,m.un,λp l=>m.pins p (cF _ l),) λo k j=>uD O k j h
def KN(C:Addr)(sp:Sp)(ag:List V)(E:XS)(t:TA):TS:=λ_ σ H=>t σ H λvs H1=>vs.length<=sizeLine/\∀a,H1 a=none->
 sp (.ref a::(vs++ag)) (upd H1 a (exO a C none)) (λv H2=>v=.non/\∃d,H2 a<*(exO a C d)/\E σ (.ref C) d (del H2 a)) (E σ)
def Ig{CX:CXT}{y:fP}{ps:List Str}{sp:Sp}{E:XS}{i:List Expr}{t:TA}(Mk:MkX X.K C f)(F:jV X.prog X.w X.K X.mg X.base CX k f y ps sp)(hr:jG (k+1) X.A)(W:Binds X.K y ps ds)(hd:bT ag ds)
  (hx:zV CX X E)(hg:Gl X x)(hm:X.mg x<*(.ref C))(S:PA X (e::i) t)(Z:X.calm=true)(a0:(x==("__debug__":Str))=false)
  (a3:bH (e::i) X.env=(false,eval e X.env)::bH i X.env)(a2:(backTo bn (bH i X.env)).any (·.1)=false)(a4:FX X E):
  PS X (.Raise (some (.Call (.Name x np) (e::i) [] bn)) none pos) (KN C sp ag E t):=by
 intro u s g H D I h;obtain⟨nm,G,N,bs,bm,A,sn,sub,ab,col,dd,k0,k1,k2,k3,k5,mN,P,hN,hi,T⟩:=xJ (bmB:=bmV) I.mod.kin Mk.ex;have Y:bm.contains (.type "BaseException")=true:=T.hasType (by decide+kernel);rw[arm_exec_Raise];show wpAny _ _ (do BE pos;raiseStmt X.env (some (do let v<-eval (.Call (.Name x np) (e::i) [] bn) X.env;BE pos;pure v)) none) _ _ s;refine aa (iI (EK (C:=C) (nm:=nm) (q:=G) (N:=N) (bs:=bs) (bm:=bm) (hdct:=A) (sn:=sn) (sub:=sub) (ab:=ab) (col:=col) (dd:=dd) (k0:=k0) (k1:=k1) (k2:=k2) (k3:=k3) (k5:=k5) (newId:="ValueError.__new__") Y (I.ok.hd Z) (aa (dy (Q:=λv c=>∃a a9 M,v=.ref a/\c.heap.get? C<*(j6 nm G C N bs bm A sn sub ab col dd k0 k1 k2 k3 k5 "ValueError.__new__")/\c.heap.get? a<*(oj C M #[.ref a9,.none,.none,.none,.bool false,.none])/\X.xe (.ref a) c) (E:=X.xe) ?_ (λv c z=>aa (iI (aj z))) λ_ _ z=>z))));refine fO (nL I hg hm ?_ a0);refine tB (h₀:=X.base) I.ok.mod.kin Mk.kp (thn (S bn u s g H _ I h) λus c ⟨vs,H1,l,a6,a1,q⟩=>(l.kIn,?_,)) a3 a2;refine dy (Ia (E:=E g) (Q:=λv b=>∃a d,⇑c<=a/\v=.ref a/\b a<*(exO a C d)/\E g (.ref C) d (del b a)) Mk F hr W hd (λK s' e a8 L z=>hx u g K s' e a8 L z) l a6 a1 (λa m U=>?_)) (λv s2 z=>?_) λ_ _ z=>z
 .have e:(λ(v:V)(b:Hp)=>v=.non/\∃d,b a<*(exO a C d)/\E g (.ref C) d (del b a))=λv b=>v=.non/\∃j d,⇑c<=j/\V.ref a=V.ref j/\b j<*(exO j C d)/\E g (.ref C) d (del b j):=by
   funext v b
   apply propext
   constructor;·rintro⟨o,d,p,r⟩;exact(o,a,d,m,rfl,p,r,)
   .rintro⟨o,b0,d,_,O,p,r⟩;cases O;exact(o,d,p,r,)
  rw[<-e];exact q a U
 .obtain⟨w',b,n,a7,a,d,m,rfl,w,R⟩:=z;cases a7;obtain⟨⟨J,B⟩,_⟩:=n.hok a _ w;refine(a,J,d,rfl,n.bk _ _ P,B,a4 u g (del b a) s2 a C d (n.del w) ((J,B,),rH (aT l.sz m),m6,λa5 hp=>?_,) R,);exact aM (bu (aA (l.pin a5 hp).1) m)
end
abbrev og(K:ak)(C:Addr)(f:Str):Bool:=
 sr K C&&findIn K (.ref C) f==some none&&(match clsIn K C with |some cd=>cd.hasDict|none=>false)
def Fn{v:V}(r:RelV v u):handedIn u=true:=by
 cases v with
 |non=>cases r;rfl
 |bl b=>cases r;rfl
 |int i=>obtain⟨t,rfl⟩:=r;rfl
 |str x=>obtain⟨t,rfl⟩:=r;rfl
 |byt b=>obtain⟨t,rfl⟩:=r;rfl
 |flt b=>obtain⟨t,rfl⟩:=r;rfl
 |ref a=>cases r;rfl
 |ty n=>cases r;rfl
def Me{d:Addr}{m:Str->Option Value}{f:Str}(N:h.Ns1 d m)(e:m f<*u):∃o,h.get? d<*o/\lookIn f o<*(some u):=by
 obtain⟨o,a,g,c,b,_,_,hf⟩:=N;refine(o,c,?_,);have q:=(hf f).trans e;unfold nsFind findBy at q;rw[<-uQ]at q;unfold lookIn;rw[b];dsimp only;cases hz:a.toList.find? (·.key.isStr f)with
 |none=>rw[hz]at q;cases q
 |some en=>rw[hz]at q;simpa using q
def Dw{f:Str}{o:Obj}(F:og K C f=true)(e:lookIn f o<*(some u)):we K C (some o) f<*(.value u):=by
 unfold og at F;rw[aB,aB,beq_iff_eq]at F;obtain⟨⟨_,b⟩,a⟩:=F;cases hc:clsIn K C with
 |none=>rw[hc]at a;cases a
 |some cd=>
  rw[hc]at a;unfold we;rw[hc,gp,b,gp];have c:PySem.W.ownOf cd (some o) f<*(some u):=by unfold PySem.W.ownOf;rw[if_pos a];exact e
  simp[c]
section
variable {E:'I'}{s:Shared}{a C:Addr}{o:Obj}{od:Option Obj}{f:Str}{u:Value}
def Nx{tk:Tok}{R:Result->Shared->Prop}(b:K.In s.heap)(J:InstAt s.heap a o C od)(F:ya K C)(hf:we K C od f<*(.value u))(h:R (.ok (.ret u)) s):
  gA (model prog w) A (.call (.builtin "BaseException.__getattribute__") ([.ref a,.str f tk],[],)) R s:=by
 obtain⟨i,g,d,t,j⟩:=s;have c:=J.type (M:=model prog w);have e:=looks_find (M:=model prog w) b J hf;refine gz gV.ga.plain Ee (x8 b J F ?_);unfold Builtin.«object.__getattribute__»;repeat(first |with_reducible refine hV ?_ |lk|wp_step)
 exact h
def exc_fld{b:Bool}{Q:'I'}(c:K.In s.heap)(J:InstAt s.heap a o C od)(F:ya K C)(hf:we K C od f<*(.value u))(l:handedIn u=true)(h:Q u {s with toks:=s.toks+1}):
  'B' (getAttr (.ref a) f b) Q E s:=by
 obtain⟨k,g,d,t,m⟩:=s;have e:=J.type (M:=model prog w);have i:=tw (M:=model prog w) c F.ga;have j:=tw (M:=model prog w) c F.hook;unfold getAttr getAttrBy;refine aa (wpAny_mkText (ba (aa (e.at (aa (i.at ?_))))));show wpAny _ _ (if(DV (.ref C)&&(jg "BaseException.__getattribute__"==jg "object.__getattribute__"))=true then _ else _) _ _ _;rw[ga_ne,dS,if_neg aq];unfold getAttrByItsOwn hookBefore;rw[if_pos (show DV (.ref C)=true from rfl)];refine aa (j.at ?_);unfold callGetattribute boundAndCalled;rw[show DV (jg "BaseException.__getattribute__")=false from rfl,dS,if_neg aq];refine aa (jH (ba (aa ?_)));rw[gV.ga.bind (.ref a)];refine aj (hV (Nx (s:=(k,g,d,t+1,m,)) c J F hf ?_));show wpAny _ _ (handedOut u) _ _ _;rw[handedOut_of l];exact aj h
end
def rFld(K:ak)(f:Str):V->Hp->VK->Prop:=λx H Q=>∃a C dd fs v,x=.ref a/\H a<*(oh a (.ref C) (some dd))/\H dd<*(xdO dd fs)/\og K C f=true/\fs.lookup f<*v/\Q v H
section
variable {pins:List (Addr×Obj)}{s:Shared}
def get_fld{x:V}{f:Str}{b:Bool}{Q:VK}(I:'A')(r:RelV x u)(h:rFld X.K f x H Q):'C' (getAttr u f b) (EP X pins σ Q) X.xe s:=by
 obtain⟨a,C,e,fs,v,rfl,l,m,F,p,q⟩:=h;obtain rfl:u=.ref a:=r;obtain⟨⟨o,g,i,j,k⟩,_⟩:=I.hok a _ l;obtain⟨⟨w,N,z,_⟩,_⟩:=I.hok e _ m;have c:=z f;rw[p]at c;cases hm:w f with
 |none=>rw[hm]at c;exact c.elim
 |some y=>
  rw[hm]at c;obtain⟨od,t,n⟩:=Me N hm;have d:sr X.K C=true:=by unfold og at F;rw[aB,aB]at F;exact F.1.1
  exact exc_fld I.kIn (od:=some od) ⟨g,i,k,by rw[j];exact t⟩ (Dy d) (Dw F n) (Fn c) (v,H,I.tok _,c,q,)
def GH{n f:Str}{t:TE}(b:PE X (.Name n np) t):PE X (.Attribute (.Name n np) f pos) (λσ H Q=>t σ H λx H1=>rFld X.K f x H1 Q):=by intro c s σ H Q I h;refine Attribute_name (thn (b c s σ H _ I h) λu d ⟨x,H1,a,r,q⟩=>?_);exact get_fld a r q
def sA:fG X (.builtin "isinstance") (λxs H Q=>∃a C d y cv b,xs=[.ref a,y]/\H a<*(oh a (.ref C) d)/\(∀dd,d<*dd->∃fs,H dd<*(xdO dd fs))/\sr X.K C=true/\((∃T,y=.ty T/\cv=gO T)\/(∃D,y=.ref D/\cv=aN D))/\kitOne X.K (.ref C) cv<*b/\Q (.bl b) H):=by
 intro o s r H xs p Q I n h;obtain⟨a,C,d,y,cv,b,rfl,g,j,ok,l,e,q⟩:=h;obtain⟨u,c,rfl,m,f⟩:=n.two;obtain rfl:u=aN a:=m;have i:c=cv:=by
  rcases l with⟨T,rfl,rfl⟩ |⟨D,rfl,rfl⟩;·cases f;rfl
  .cases f;rfl
 subst i;exact kia_one (Mp (Dy ok)) I.kIn (Fu I.hok g λdd z=>by obtain⟨fs,k⟩:=j dd z;exact(_,k,)) e (λz=>nomatch z) λtk=>(.bl b,H,I.tok tk,rfl,q,)
end
end L2
namespace HT
section
variable {E:'I'}{s:Shared}
def sg{t:Addr}{lo hi:Option Int}{Q:'I'}(a:IsTup s.heap t items)(hs:s.heap.IsSliceOf sl vl vu .none)(i:IsPart vl lo)(j:IsPart vu hi)
  (b:sIx items.size 0 lo=0)(c:sIx items.size items.size hi=items.size)(h:Q (.ref t) s):'B' (BI (.ref t) (.ref sl)) Q E s:=by
 obtain⟨g,f,e,k⟩:=id hs;have d:s.TypeIs (.ref sl) "slice":=(g,f,e,);unfold BI;try with_reducible refine ba ?_
 first |refine aa (aj ?_) |skip
 refine aa (wpAny_sequenceKey a.typeIs 'E' ?_);refine aa (dN (name:=bh "__getitem__") a.typeIs di
  (cB di a.typeIs entry_tuple_getitem ?_ (args_tuple_getitem _ _)))
 show wpAny _ _ (uL (.ref t)>>=_) _ _ s;refine aa (yh a ?_);refine aa (hO d ?_);rw[if_pos 'E'];refine aa (mU hs i j ?_);show wpAny _ _ (if(((sIx items.size 0 lo:Nat):Int)==0&&(1:Int)==1&&(sIx items.size items.size hi-sIx items.size 0 lo)==items.size)=true then _ else _) _ _ s;rw[if_pos (by rw[b,c];simp)];refine aa (m:=uM (.ref t)) ?_;unfold uM;refine aa (hO a.typeIs (aj ?_));rw[if_pos 'E'];exact aa (hU (aj ⟨_,rfl,aj h⟩))
end
end HT
namespace L2
open PySem.W
def rSlW(K:ak):V->Option Int->Option Int->Hp->VK->Prop:=λx lo hi H Q=>∃a xs,x=.ref a/\SqT K H a xs/\HT.sIx xs.length 0 lo=0/\HT.sIx xs.length xs.length hi=xs.length/\Q (.ref a) H
def sl_tupW:SlR X (rSlW X.K):=by
 intro o s w H x v t u lo hi p Q I l f j k h;obtain⟨a,m,rfl,g,d,e,q⟩:=h;cases l;obtain⟨i,r,c,n⟩:=I.tuple g;have b:i.toArray.size=m.length:=by rw[aE];exact r.length.symm
 refine("tuple",_,di.lookup,c.typeIs,?_,);exact HT.sg c f j k (by rw[b];exact d) (by rw[b];exact e) (.ref a,H,I,rfl,q,)
end L2
namespace Q
def uG(xs:Array Nat):Prop:=xs.toList.Pairwise (·<·)
structure Parts(xs:Array Nat)(j p:Nat):Prop where
 le:p<=xs.size
 lo:∀i x,i<p->xs[i]?<*x->x<j
 hi:∀i x,p<=i->xs[i]?<*x->j<=x
def vP{xs:Array Nat}(h:uG xs){x y:Nat}(e:i<k)(f:xs[i]?<*x)(j:xs[k]?<*y):x<y:=by
 have g:xs.toList[i]?<*x:=by simpa using f
 have l:xs.toList[k]?<*y:=by simpa using j
 obtain⟨c,a⟩:=av.mp g;obtain⟨d,b⟩:=av.mp l;have :=fN.mp h i k c d e;rw[a,b]at this;exact this
theorem xF{xs:Array Nat}(h:uG xs)(j:Nat):∀(fuel lo hi:Nat),hi-lo<=fuel->lo<=hi->hi<=xs.size->(∀i x,i<lo->xs[i]?<*x->x<j)->(∀i x,hi<=i->xs[i]?<*x->j<=x)->Parts xs j (BP xs j fuel lo hi)
 | 0,lo,hi,hf,hl,hs,a,b=>by
  have e:lo=hi:=by lia
  subst e;exact(hs,a,b,)
 |fuel+1,lo,hi,hf,hl,hs,a,b=>by
  unfold BP;by_cases c:lo<hi
  .rw[if_pos c];have g:(lo+hi)/2<xs.size:=by lia
   have f:xs[(lo+hi)/2]?<*xs[(lo+hi)/2]:=by simp[g]
   have l:xs.getD ((lo+hi)/2) j=xs[(lo+hi)/2]:=by simp[N2,g]
   simp only[l];by_cases d:xs[(lo+hi)/2]<j
   .rw[if_pos d];refine xF h j fuel _ hi 'D' 'D' hs (λi x m e=>?_) b;by_cases k:i=(lo+hi)/2;·subst k;rw[f]at e;cases e;exact d
    .exact fX (vP h 'D' e f) d
   .rw[if_neg d];refine xF h j fuel lo _ 'D' 'D' 'D' a λi x m e=>?_;by_cases k:i=(lo+hi)/2;·subst k;rw[f]at e;cases e;lia
    .have :=vP h (by lia:(lo+hi)/2<i) f e;lia
  .rw[if_neg c];have e:lo=hi:=by lia
   subst e;exact(hs,a,b,)
def jU{xs:Array Nat}(h:uG xs)(j:Nat):Parts xs j (cG xs j):=
 xF h j xs.size 0 xs.size 'D' (bf _) (aC _) (λi x hi _=>absurd hi (d9 _)) λi x hi e=>by have :=(cq.mp e).1;lia
def jS{a:Type}(xs:Array a)(p:Nat)(x:a):(bc xs p x).toList=xs.toList.take p++x::xs.toList.drop p:=by unfold bc;simp;exact gR 'F'
theorem Cs{xs:Array Nat}(h:uG xs)(d:∀i:Nat,xs[i]? ≠some j):uG (bc xs (cG xs j) j):=by
 have P:=jU h j;unfold uG;rw[jS];have sub:=h;unfold uG at sub;rw[List.pairwise_append];refine(sub.sublist (wj _ _),List.pairwise_cons.mpr (λy hy=>?_,sub.sublist (List.drop_sublist _ _),),λx f y hy=>?_,)
 .obtain⟨i,hi⟩:=aS.mp hy;rw[ju]at hi;have e:xs[cG xs j+i]?<*y:=by simpa using hi
  have :=P.hi _ _ (fA _ _) e;have ne:y≠j:=λz=>d _ (z▸e);lia
 .obtain⟨i,hi⟩:=aS.mp f;have a:i<cG xs j:=by have :=(av.mp hi).1;rw[bJ]at this;lia
  rw[eX a]at hi;have e:xs[i]?<*x:=by simpa using hi
  have lx:=P.lo _ _ a e;rcases aK.mp hy with rfl|hy;·exact lx
  .obtain⟨k,b⟩:=aS.mp hy;rw[ju]at b;have c:xs[cG xs j+k]?<*y:=by simpa using b
   have :=P.hi _ _ (fA _ _) c;lia
theorem FQ{xs:Array Nat}(h:uG xs){x:Nat}(e:xs[i]?<*x):cG xs (x+1)=i+1:=by
 have P:=jU h (x+1);have hi:=(cq.mp e).1;apply BW
 .apply i6
  intro c;have f:i+1<xs.size:=bu c P.le;have d:xs[i+1]?<*xs[i+1]:=by simp[f]
  have a:=P.lo _ _ c d;have b:=vP h (dj i) e d;lia
 .apply i6
  intro c;have :=P.hi i x 'D' e;lia
theorem FP{xs:Array Nat}(h:uG xs):cG xs 0=0:=by have P:=jU h 0;apply BW _ (bf _);apply i6;intro c;have a:0<xs.size:=bu c P.le;have :=P.lo 0 xs[0] c (by simp[a]);lia
theorem uF{xs:Array Nat}(h:uG xs){x:Nat}(e:xs[i]?<*x):cG xs x=i:=by
 have P:=jU h x;apply BW
 .apply i6
  intro c;exact dW _ (P.lo i x c e)
 .apply i6
  intro c;have f:cG xs x<xs.size:=fX c (cq.mp e).1;have d:xs[cG xs x]?<*xs[cG xs x]:=by simp[f]
  have a:=P.hi _ _ (aC _) d;have b:=vP h c d e;lia
def EJ(n:Nat):uG (Array.range n):=by unfold uG;rw[Array.toList_range];exact p7
structure i5(t:aQ):Prop where
 up:uG t.place
 no:t.dummies= #[]
def Gh{t:aQ}(T:i5 t)(j:Nat):t.slot j≠.dummy:=by
 unfold zW;simp only[T.no];split;·simp
 .split;·rename_i h;exact absurd h (by simp[B1])
  .simp
def kY{t:aQ}(T:i5 t)(h:t.slot j=.empty):∀i:Nat,t.place[i]? ≠some j:=λi e=>by have :=uF T.up e;unfold zW at h;simp only[this,e,beq_self_eq_true,if_true]at h;cases h
def qK(t:aQ)(p:yk):(t.advance p).dummy=p.dummy:=by unfold iz;split <;>rfl
theorem wU{t:aQ}(T:i5 t){f:Nat->Int}{h:Int}{d:Option Nat}:∀(fuel:Nat)(p:yk),p.dummy=none->dG t f h fuel p<*(.empty j d)->t.slot j=.empty/\d=none
 | 0,p,_,e=>by simp[dG]at e
 |fuel+1,p,hp,e=>by
  unfold dG at e;cases hs:t.slot p.j with
  |empty=>rw[hs]at e;simp only[lG,aQ.Met.empty.injEq]at e;exact⟨by rw[<-e.1];exact hs,by rw[<-e.2];exact hp⟩
  |dummy=>exact absurd hs (Gh T _)
  |live i=>
   rw[hs]at e;simp only at e;split at e;·cases e
   .exact wU T fuel _ (by rw[qK];exact hp) e
def yC{t:aQ}(T:i5 t){h:Int}{b:Bool}(e:t.freeSlot h<*(j,b)):(∀i:Nat,t.place[i]? ≠some j)/\b=false:=by
 unfold aQ.freeSlot at e;split at e;·rename_i j' d hm;unfold yj at hm;obtain⟨a,c⟩:=wU T _ _ (by rfl) hm;subst c;simp only[wg,JT,lG,BU]at e;obtain⟨rfl,rfl⟩:=e;exact(kY T a,rfl,)
 .cases e
def kG(t:aQ)(n:Nat):i5 (t.standIn n):=(EJ n,rfl,)
def wR{t:aQ}(T:i5 t)(a:∀i:Nat,t.place[i]? ≠some j):i5 (t.put j).1:=by refine(Cs T.up a,?_,);show(if B1 t.dummies j=true then _ else t.dummies)= #[];rw[T.no];simp[B1]
def wY{t:aQ}(T:i5 t)(n:Nat):i5 (t.orStandIn n):=by
 unfold Hv;split;·exact T
 .exact kG t n
def Dh{t:aQ}(T:i5 t)(a:Array (Int×Value))(h:Int)(x:Value):i5 (layNew t a h x).2.1/\(layNew t a h x).2.2.1=false:=by
 unfold layNew;split;·rename_i j b e;obtain⟨c,d⟩:=yC T e;subst d;exact(wY (wR T c) _,rfl,)
 .exact(kG t _,rfl,)
def pR{mask finger moves:Nat}{plain:Bool}{f:Array Int}{t:aQ}{g:Array Nat}(h:aQ.laid mask finger moves led plain f<*(t,g)):i5 t/\t.led=led/\t.plain=plain:=by
 unfold aQ.laid at h;cases e:aQ.layClean mask f with
 |none=>rw[e]at h;cases h
 |some owner=>
  rw[e]at h;have i:some (({mask,place:=(((aF (mask+1)).filterMap λj=>(owner.getD j none).map (j,·)).map (·.1)).toArray,dummies:= #[],finger,led,moves,plain}:aQ),(((aF (mask+1)).filterMap λj=>(owner.getD j none).map (j,·)).map (·.2)).toArray)<*(t,g):=h;have k:=(Prod.mk.inj (aW i)).1;subst k;refine((?_,rfl,),rfl,rfl,);show((((aF (mask+1)).filterMap λj=>(owner.getD j none).map (j,·)).map (·.1)).toArray).toList.Pairwise (·<·);rw[tK,cK,List.pairwise_filterMap];refine p7.imp λ{a b} l x c y d=>?_;cases ha:owner.getD a none with
  |none=>rw[ha]at c;cases c
  |some u=>
   cases hb:owner.getD b none with
   |none=>rw[hb]at d;cases d
   |some v=>rw[ha]at c;rw[hb]at d;cases c;cases d;exact l
def yx(t:aQ)(a:Array (Int×Value))(b:Nat):i5 (rB t a b).2.1:=by
 unfold rB;split
 .rename_i t' order e;simp only;split;·unfold NR at e;exact(pR e).1
  .exact kG t _
 .exact kG t _
theorem put_led(t:aQ)(j:Nat):(t.put j).1.led=t.led:=rfl
def yB(t:aQ)(n:Nat):(t.orStandIn n).led=t.led:=by unfold Hv;split <;>rfl
def Fe(t:aQ)(a:Array (Int×Value))(h:Int)(x:Value):(layNew t a h x).2.1.led=t.led:=by
 unfold layNew;split;·exact(yB _ _).trans (put_led _ _)
 .rfl
def AG(t:aQ)(a:Array (Int×Value))(b:Nat):(rB t a b).2.1.led=t.led:=by
 unfold rB;split
 .rename_i t' order e;simp only;split;·unfold NR at e;exact(pR e).2.1
  .rfl
 .rfl
section
variable {K:Type}[DecidableEq K]{knd:KeyKind prog w K}{E:'I'}{s:Shared}
def sZ(knd:KeyKind prog w K)(h:Heap)(a:Addr)(S:K->Bool)(n:Nat)(led:Bool):Prop:=
 ∃o es ep t,h.get? a<*o/\o.ExactSet/\o.data=.set es ep t/\ElemsOf knd es.toList/\(∀k,S k=true↔∃e∈es.toList,knd.is k e.2=true)/\es.size<gm/\t.fits es.size=true/\es.size=n/\i5 t/\t.led=led
def sZ.of{S:K->Bool}(x:sZ knd h a S n led):h.SetOf knd a S n:=by obtain⟨o,l,k,t,b,c,d,e,f,g,i,j,_⟩:=x;exact(o,l,k,t,b,c,d,e,f,g,i,j,)
def wL{o:Obj}{t:aQ}(l:h.get? a<*o)(i:o.ExactSet)(j:o.data=.set es ep t){t':aQ}{b:K->Bool}(d:ElemsOf knd es'.toList)(f:∀k,b k=true↔∃e∈es'.toList,knd.is k e.2=true)(c:es'.size<gm)(hf:t'.fits es'.size=true)(m:i5 t'):
  sZ knd (h.update a (fH es' t')) a b es'.size t'.led:=by
 have g:=(SetOf_store (knd:=knd) l i j d f c hf).1;exact(_,es',ep+1,t',g,i,rfl,d,f,c,hf,rfl,m,rfl,)
def DS{g:Bool->Sem Unit}(H:∀(b:Bool)(D:Shared)(y:Unit->Shared->Prop),y () D->'B' (g b) y E D){o:Obj}{t:aQ}(r:s.heap.get? a<*o)(v:o.ExactSet)(l:o.data=.set es ep t)
  {c:aQ}{z:K->Bool}(n:ElemsOf knd bi.toList)(p:∀i,z i=true↔∃e∈bi.toList,knd.is i e.2=true)(f:bi.size<gm)(hf:c.fits bi.size=true)(I:i5 c){J:Bool}{R:Option Bool->Shared->Prop}
  (h:∀h',cU a s.heap h'->sZ knd h' a z bi.size c.led->R (some true) {s with heap:=h'}):
  'B' (do
    storeSet a bi c
    if(!J&&c.tooFull)=true then do
      g (rB c bi (fo bi.size)).2.2
      storeSet a (rB c bi (fo bi.size)).1 (rB c bi (fo bi.size)).2.1
      pure (some true)
     else pure (some true)) R E s:=by
 refine aa (kN r l ?_ (p5 f));have B:=(SetOf_store (knd:=knd) r v l n p f hf).1;have L:=wL (knd:=knd) r v l n p f hf I;have C:=bM s.heap a (fH bi c);split
 .have d:=relayAll_perm c bi (fo bi.size);have u:=relayAll_fits c bi (fo bi.size);have k:=yx c bi (fo bi.size);have j:=AG c bi (fo bi.size);generalize rB c bi (fo bi.size)=Rl at d u k j⊢;obtain⟨G,t3,M⟩:=Rl;dsimp only at d u k j⊢;have x:G.size=bi.size:=by rw[<-aV,d.length_eq,aV]
  refine aa (H _ _ _ (aa (kN B rfl ?_ (p5 (by rw[x];exact f)))));have F:=wL (knd:=knd) B v rfl (n.perm d) (λi=>(p i).trans (λ⟨e,m,q⟩=>(e,d.mem_iff.mpr m,q,),λ⟨e,m,q⟩=>(e,d.mem_iff.mp m,q,),)) (by rw[x];exact f) u k;rw[x,j]at F;exact aj (h _ (C.trans (bM _ a _)) F)
 .exact aj (h _ C L)
def ER{t:aQ}(T:i5 t):i5 {t with plain:=false}:=(T.up,T.no,)
def addX{S:K->Bool}{k:K}{x:Value}{Q:Bool->Shared->Prop}(G:knd.is k x=true)(I:x.scannable=true)(W:sZ knd s.heap a S n led)(P:n+1<gm)
  (h:∀h',cU a s.heap h'->sZ knd h' a (λc=>S c||decide (c=k)) (if S k then n else n+1) led->Q (!S k) {s with heap:=h'}):
  'B' (nW a x (knd.hash k)) Q E s:=by
 obtain⟨o,d,V,t,v,J,r,C,D,O,hf,H,R,B⟩:=W;have a1:d.size+1<gm:=by rw[H];exact P
 unfold nW JA;refine ba (aa (cf v r hf ?_));dsimp only;rw[byScan_of I O C];simp only[↓reduceIte];unfold setAddByScan;refine aa ?_;refine aa (hU (aa (wpAny_setScan_of G v r hf C ?_)));cases hr:List.findIdx? (λe=>knd.is k e.2) d.toList with
 |some j=>
  dsimp only;obtain⟨X,f,_⟩:=List.findIdx?_eq_some_iff_getElem.mp hr;have m:S k=true:=(D k).mpr (d.toList[j],bQ X,f,);refine aj (aj ?_);have :=h s.heap (qN a s.heap) (o,d,V,t,v,J,r,C,λc=>by rw[cR,decide_eq_true_eq,<-D c];exact(λq=>q.elim id (λe=>e▸m),.inl,),O,hf,by rw[m];exact H,R,B,)
  rw[m]at this;exact this
 |none=>
  dsimp only;have m:S k=false:=by
   cases q:S k with
   |false=>rfl
   |true=>obtain⟨e,F,Z⟩:=(D k).mp q;have :=List.findIdx?_eq_none_iff.mp hr e F;rw[Z]at this;cases this
  have Y:∀(b:Bool){z:Shared}{g:Unit->Shared->Prop},g () z->'B' (match b with |true=>rule "set.scan.the-table-gave-way" |false=>pure ()) g E z:=λb z g q=>by cases b<;>first |exact aj q|exact hU q
  have f:=layNew_perm t d (knd.hash k) x;have u:=layNew_fits t d (knd.hash k) x;have p:=(Dh R d (knd.hash k) x).1;have l:=Fe t d (knd.hash k) x;generalize layNew t d (knd.hash k) x=L at f u p l⊢;obtain⟨i,t1,wd,a0⟩:=L;dsimp only at f u p l⊢;rw[vL]at f;have l1:ElemsOf knd i.toList:=(C.push G I).perm f;have F:∀c,(S c||decide (c=k))=true↔∃e∈i.toList,knd.is c e.2=true:=mem_push_iff G D f;have T:i.size=n+1:=by rw[<-aV,f.length_eq,bX,aV,H];rfl
  have M:i.size<gm:=by rw[T];exact P
  refine aa (Y _ ?_);have N:∀h',cU a s.heap h'->sZ knd h' a (λc=>S c||decide (c=k)) i.size led->Q true {s with heap:=h'}:=λh' y x=>by have :=h h' y;rw[m]at this;rw[T]at x;exact this x
  split
  .refine aa ?_;rw[hashByValue_scannable 8 I];refine aj (DS ?_ v J r l1 F M ?_ ?_ ?_);·intro b z g q;cases b<;>first |exact aj q|exact hU q
   .split;·exact u
    .exact aQ.fits_plain_off u
   .split;·exact p
    .exact ER p
   .intro h' y x;refine aj (N h' y ?_);split at x;·rw[l,B]at x;exact x
    .have U:({t1 with plain:=false}:aQ).led=led:=l.trans B;rw[U]at x;exact x
  .refine aa (aj ?_);simp only[↓reduceIte];refine DS ?_ v J r l1 F M u p ?_;·intro b z g q;cases b<;>first |exact aj q|exact hU q
   .intro h' y x;rw[l,B]at x;exact aj (N h' y x)
end
end Q
namespace TB
open PySem.SetTable Q
abbrev sq(t:aQ)(h:Int):Nat->Probe
 | 0=>t.probeStart h
 |k+1=>t.advance (sq t h k)
theorem Cj(t:aQ)(h:Int):∀k,(sq t h k).dummy=none
 | 0=>rfl
 |k+1=>(qK t _).trans (Cj t h k)
def NC{t t':aQ}(e:t.mask=t'.mask)(p:Probe):t.advance p=t'.advance p:=by unfold iz;rw[e]
theorem lW{t t':aQ}(e:t.mask=t'.mask)(h:Int):∀k,sq t h k=sq t' h k
 | 0=>by show t.probeStart h=t'.probeStart h;unfold aQ.probeStart;rw[e]
 |k+1=>by show t.advance _=t'.advance _;rw[lW e h k,NC e]
abbrev lp(mask:Nat)(h:Int):Nat->Nat×Nat
 | 0=>(bits h%(mask+1),bits h)
 |k+1=>leap mask (lp mask h k).1 (lp mask h k).2
abbrev head(mask:Nat)(x:Nat×Nat):Probe:={j:=x.1,more:=runEnd mask x.1-x.1,i:=x.1,perturb:=x.2,dummy:=none}
abbrev iter(t:aQ):Nat->Probe->Probe
 | 0,p=>p
 |k+1,p=>iter t k (t.advance p)
theorem xy(t:aQ):∀(m:Nat)(p:Probe),p.more=m->p.dummy=none->iter t (m+1) p=head t.mask (leap t.mask p.i p.perturb)
 | 0,p,hm,hd=>by show t.advance p=_;unfold iz;rw[hm];simp only[dW,gt_iff_lt,if_false];obtain⟨j,more,i,a,d⟩:=p;cases hd;rfl
 |m+1,p,hm,hd=>by
  show iter t (m+1) (t.advance p)=_;have e:t.advance p={p with j:=p.j+1,more:=m}:=by unfold iz;rw[hm,if_pos 'D'];rfl
  rw[e];exact xy t m {p with j:=p.j+1,more:=m} rfl hd
theorem Ai(t:aQ)(h:Int)(k:Nat):∀m,sq t h (k+m)=iter t m (sq t h k):=by
 intro m
 induction m generalizing k with
 |zero=>rfl
 |succ m ih=>rw[show k+(m+1)=(k+1)+m from by lia,ih (k+1)];rfl
def run_le(mask i:Nat):runEnd mask i-i<=9:=by unfold runEnd;split <;>lia
theorem heads(t:aQ)(h:Int):∀L,∃k,k<=10*L/\sq t h k=head t.mask (lp t.mask h L)
 | 0=>(0,aC _,rfl,)
 |L+1=>by obtain⟨k,a,e⟩:=heads t h L;have b:=run_le t.mask (lp t.mask h L).1;refine(k+((runEnd t.mask (lp t.mask h L).1-(lp t.mask h L).1)+1),'D',?_,);rw[Ai,e];exact xy t _ _ rfl rfl
theorem GW(mask:Nat)(h:Int):∀L,(lp mask h L).2=bits h/32^L
 | 0=>by simp[lp]
 |L+1=>by show(lp mask h L).2/32=_;rw[GW mask h L,Nat.div_div_eq_div_mul,Nat.pow_succ]
def bits_lt(h:Int):bits h<2^64:=by unfold bits;have a:=bU h (show(2^64:Int)≠0 by decide);have b:=cn h (show(0:Int)<2^64 by decide);lia
def pert0(mask:Nat)(h:Int){L:Nat}(a:13<=L):(lp mask h L).2=0:=by
 rw[GW];apply Nat.div_eq_of_lt;have :=bits_lt h;have b:32^13<=32^L:=Nat.pow_le_pow_right 'E' a;have c:(2:Nat)^64<=32^13:=by decide
 lia
abbrev orb(mask:Nat):Nat->Nat->Nat
 | 0,i=>i
 |r+1,i=>(orb mask r i*5+1)%(mask+1)
theorem E8(mask:Nat)(h:Int):∀r,(lp mask h (13+r)).1=orb mask r (lp mask h 13).1
 | 0=>rfl
 |r+1=>by show((lp mask h (13+r)).1*5+1+(lp mask h (13+r)).2/32)%(mask+1)=_;rw[E8 mask h r,pert0 mask h 'D'];rfl
def orb7:∀i<8,∀j<8,∃r,r<=7/\orb 7 r i=j:=by decide+kernel
def orb31:((aF 32).all λi=>(aF 32).all λj=>(aF 32).any λr=>orb 31 r i==j)=true:=by decide+kernel
def lp_lt(mask:Nat)(h:Int):∀L,(lp mask h L).1<mask+1
 | 0=>nr _ 'D'
 |_+1=>nr _ 'D'
def cover{t:aQ}(hm:t.mask=7\/t.mask=31)(h:Int)(b:j<=t.mask):∃k,k<=10*(13+t.mask)/\(sq t h k).j=j:=by
 have a:=lp_lt t.mask h 13;obtain⟨r,c,e⟩:∃r,r<=t.mask/\orb t.mask r (lp t.mask h 13).1=j:=by
  rcases hm with hm|hm;·rw[hm]at a b⊢;exact orb7 _ a _ 'D'
  .rw[hm]at a b⊢;have :=bx.mp (bx.mp orb31 _ (aR.mpr a)) j (aR.mpr 'D');obtain⟨r,c,e⟩:=cz.mp this;have :=aR.mp c;exact(r,'D',eq_of_beq e,)
 obtain⟨k,f,d⟩:=heads t h (13+r);refine(k,'D',?_,);rw[d];show(lp t.mask h (13+r)).1=j;rw[E8,e]
def lh{t:aQ}(T:i5 t)(j:Nat):(t.slot j=.empty/\∀i:Nat,t.place[i]? ≠some j)\/∃i,t.slot j=.live i/\t.place[i]?<*j:=by
 cases e:t.slot j with
 |empty=>exact .inl (rfl,kY T e,)
 |dummy=>exact absurd e (Gh T j)
 |live i=>
  refine .inr (i,rfl,?_,);unfold zW at e;simp only at e;split at e;·rename_i h;cases e;exact eq_of_beq h
  .split at e<;>cases e
def HP{t:aQ}(T:i5 t)(h:t.place[i]?<*j):t.slot j=.live i:=by
 rcases lh T j with⟨_,n⟩ |⟨d,e,c⟩;·exact absurd h (n i)
 .rw[e];have a:=uF T.1 h;have b:=uF T.1 c;rw[<-a,<-b]
theorem mX{c:Type}[DecidableEq c]:∀{xs ys:List c},xs.Nodup->(∀x∈xs,x∈ys)->xs.length<=ys.length
 | [],_,_,_=>bf _
 |x::xs,ys,nd,h=>by
  have a:=h x aG;have :=mX (xs:=xs) (ys:=ys.erase x) (bN.mp nd).2 λy b=>by have d:y≠x:=λz=>(bN.mp nd).1 (by rw[<-z];exact b);exact(k9 d).mpr (h y (ax _ b))
  rw[Ef a]at this;have :=Hy a;rw[bG];lia
def IW{t:aQ}(T:i5 t)(h:t.place.size<=t.mask):∃j,j<=t.mask/\t.slot j=.empty:=by
 apply au
 intro b;have :(aF (t.mask+1)).length<=t.place.toList.length:=mX kE λj a=>by
  rcases lh T j with⟨e,_⟩ |⟨i,_,e⟩;·exact absurd (j,by have :=aR.mp a;lia,e,) b
  .exact aH (by rw[bS];exact e)
 rw[bC,aV]at this;lia
def Ft{t:aQ}(T:i5 t)(i:t.mask=7\/t.mask=31)(hs:t.place.size<=t.mask)(h:Int):∃N,N<=10*(13+t.mask)/\t.slot (sq t h N).j=.empty/\∀k,k<N->t.slot (sq t h k).j≠.empty:=by
 obtain⟨j,f,e⟩:=IW T hs;obtain⟨k,g,d⟩:=cover i h f;rw[<-d]at e;clear d f
 induction k using BV with
 |_ k ih=>
  by_cases hc:∃a,a<k/\t.slot (sq t h a).j=.empty;·obtain⟨a,b,c⟩:=hc;exact ih a b c 'D'
  .exact(k,g,e,λa b c=>hc (a,b,c,),)
theorem Ds{t:aQ}(T:i5 t){f:Nat->Int}{h:Int}{N:Nat}(d:t.slot (sq t h N).j=.empty)(g:∀k,k<N->t.slot (sq t h k).j≠.empty):∀(fuel k:Nat),k<=N->N-k<fuel->
  ∃k1,k<=k1/\k1<=N/\(∀c,k<=c->c<k1->∃i,t.slot (sq t h c).j=.live i/\f i≠h)/\((k1=N/\dG t f h fuel (sq t h k)<*(.empty (sq t h N).j none))\/∃i,t.slot (sq t h k1).j=.live i/\f i=h/\k1<N/\dG t f h fuel (sq t h k)<*(.candidate (sq t h k1).j i (sq t h (k1+1))))
 | 0,k,_,hf=>by lia
 |fuel+1,k,hk,hf=>by
  rcases lh T (sq t h k).j with⟨e,_⟩ |⟨i,e,_⟩
  .have :k=N:=by
    apply au
    intro z;exact g k 'D' e
   subst this;refine(k,aC _,aC _,λc a b=>by lia,.inl (rfl,?_,),);unfold dG;rw[e];show some (Met.empty (sq t h k).j (sq t h k).dummy)=_;rw[Cj]
  .have o:k<N:=by
    rcases Nat.lt_or_eq_of_le hk with z|z;·exact z
    .rw[z,d]at e;cases e
   by_cases hfi:f i=h;·refine(k,aC _,hk,λc a b=>by lia,.inr (i,e,hfi,o,?_,),);unfold dG;rw[e];show(if(f i==h)=true then _ else _)=_;rw[if_pos (beq_iff_eq.mpr hfi)];rfl
   .obtain⟨k1,p,j,l,m⟩:=Ds T d g fuel (k+1) 'D' 'D';have step:dG t f h (fuel+1) (sq t h k)=dG t f h fuel (sq t h (k+1)):=by
     conv =>lhs;unfold dG
     rw[e];show(if(f i==h)=true then _ else _)=_;rw[if_neg (λz=>hfi (beq_iff_eq.mp z))];rfl
    refine(k1,'D',j,λc q n=>?_,?_,)
    .by_cases z:c=k;·rw[z];exact(i,e,hfi,)
     .exact l c 'D' n
    .rw[step];exact m
structure Tb(t:aQ)(hs:Array Int):Prop where
 ti:i5 t
 sz:t.place.size=hs.size
 mm:t.mask=7\/t.mask=31
 fl:t.place.size<=t.mask
 rc:∀(i:Nat) h,hs[i]?<*h->∃k,t.place[i]?<*(sq t h k).j/\∀k',k'<k->t.slot (sq t h k').j≠.empty
def nO{a:Type}(xs:Array a)(c:p<=xs.size)(x:a)(i:Nat):(insertAt xs p x)[i]? =if i<p then xs[i]? else if i=p then some x else xs[i-1]? :=by
 rw[<-bS,jS,List.getElem?_append];have b:(xs.toList.take p).length=p:=by rw[bJ,aV];lia
 rw[b];by_cases c1:i<p;·rw[if_pos c1,if_pos c1,eX c1,bS]
 .rw[if_neg c1,if_neg c1];by_cases c2:i=p;·rw[if_pos c2,c2,JK];rfl
  .rw[if_neg c2,show i-p=(i-p-1)+1 from by lia,F9,ju,bS,show p+(i-p-1)=i-1 from by lia]
def pL{t:aQ}(T:i5 t)(j:Nat):(t.put j).1.place=insertAt t.place (below t.place j) j/\(t.put j).1.mask=t.mask:=(rfl,rfl,)
def Ny{t:aQ}(T:i5 t)(j:Nat):below t.place j<=t.place.size:=(jU T.1 j).1
theorem Tb.put{t:aQ}{hs:Array Int}(b:Tb t hs){h:Int}{N:Nat}(p:t.slot (sq t h N).j=.empty)(q:∀k,k<N->t.slot (sq t h k).j≠.empty)(hf:t.place.size+1<=t.mask):
  Tb (t.put (sq t h N).j).1 (insertAt hs (below t.place (sq t h N).j) h):=by
 have s:=kY b.ti p;have m:=wR b.ti s;have c:=Ny b.ti (sq t h N).j;have e:(t.put (sq t h N).j).1.mask=t.mask:=rfl;have o:(t.put (sq t h N).j).1.place.size=t.place.size+1:=by show(insertAt t.place _ _).size=_;rw[<-aV,jS];simp;lia
 have full:∀d,t.slot d≠.empty\/d=(sq t h N).j->(t.put (sq t h N).j).1.slot d≠.empty:=λd l z=>by
  have fr:=kY m z;rcases l with l|rfl
  .rcases lh b.ti d with⟨w,_⟩ |⟨i,_,w⟩;·exact l w
   .by_cases hi:i<below t.place (sq t h N).j;·exact fr i (by rw[(pL b.ti _).1,nO _ c,if_pos hi];exact w)
    .exact fr (i+1) (by rw[(pL b.ti _).1,nO _ c,if_neg 'D',if_neg 'D'];exact w)
  .exact fr _ (by rw[(pL b.ti _).1,nO _ c,if_neg (dW _),if_pos rfl])
 have r:below t.place (sq t h N).j<=hs.size:=by rw[<-b.sz];exact c
 refine(m,?_,b.mm,by rw[o];exact hf,λi n hi=>?_,);·rw[o,b.sz,<-aV,<-aV,jS];simp;lia
 .rw[nO _ r]at hi;rw[(pL b.ti _).1,nO _ c];by_cases c1:i<below t.place (sq t h N).j;·rw[if_pos c1]at hi⊢;obtain⟨k,g,j⟩:=b.rc i n hi;refine(k,by rw[lW e];exact g,λf a=>?_,);rw[lW e];exact full _ (.inl (j f a))
  .rw[if_neg c1]at hi⊢;by_cases c2:i=below t.place (sq t h N).j;·rw[if_pos c2]at hi⊢;cases hi;refine(N,by rw[lW e],λf a=>?_,);rw[lW e];exact full _ (.inl (q f a))
   .rw[if_neg c2]at hi⊢;obtain⟨k,g,j⟩:=b.rc _ n hi;refine(k,by rw[lW e];exact g,λf a=>?_,);rw[lW e];exact full _ (.inl (j f a))
theorem G2(t:aQ):∀(m:Nat)(p:Probe),m<=p.more->iter t m p={p with j:=p.j+m,more:=p.more-m}
 | 0,p,_=>rfl
 |m+1,p,h=>by
  show iter t m (t.advance p)=_;have e:t.advance p={p with j:=p.j+1,more:=p.more-1}:=by unfold iz;rw[if_pos 'D']
  rw[e,G2 t m _ (by show m<=p.more-1;lia)];show({p with j:=p.j+1+m,more:=p.more-1-m}:Probe)=_;congr 1<;>lia
def tk(owner:Array (Option Nat))(j:Nat):Prop:=(owner.getD j (some 0)).isSome=true
def not_tk{owner:Array (Option Nat)}(h:¬tk owner j):owner[j]?<*none:=by
 unfold tk at h;rw[cD]at h;cases e:owner[j]? with
 |none=>rw[e]at h;exact absurd rfl h
 |some x=>
  cases x with
  |none=>rfl
  |some y=>rw[e]at h;exact absurd rfl h
theorem zt{t:aQ}{owner:Array (Option Nat)}{h:Int}{p:Nat}(s:¬tk owner (lp t.mask h p).1):∀(d g L b:Nat),L+d=p->d<g->sq t h b=head t.mask (lp t.mask h L)->(∀a,a<b->tk owner (sq t h a).j)->
  ∃k,layClean.free t.mask owner g (lp t.mask h L).1 (lp t.mask h L).2<*(sq t h k).j/\¬tk owner (sq t h k).j/\∀a,a<k->tk owner (sq t h a).j
 |d,0,_,_,_,hf,_,_=>by lia
 |d,g+1,L,b,hd,hf,hk,hb=>by
  have o:∀m,m<=runEnd t.mask (lp t.mask h L).1-(lp t.mask h L).1->(sq t h (b+m)).j=(lp t.mask h L).1+m:=λm i=>by rw[Ai,hk,G2 t m _ i];rfl
  unfold layClean.free;cases e:(aF (runEnd t.mask (lp t.mask h L).1+1-(lp t.mask h L).1)).find? λk=>(owner.getD ((lp t.mask h L).1+k) (some 0)).isNone with
  |some m=>
   have i:=aR.mp (nC e);have B:(lp t.mask h L).1<=runEnd t.mask (lp t.mask h L).1:=by unfold runEnd;split <;>lia
   have u:=o m 'D';refine(b+m,by rw[u],?_,λa v=>?_,)
   .rw[u];unfold tk;have :=z7 e;cases z:owner.getD ((lp t.mask h L).1+m) (some 0)with
    |none=>simp
    |some y=>rw[z]at this;cases this
   .by_cases c:a<b;·exact hb a c
    .obtain⟨q,rfl⟩:∃q,a=b+q:=(a-b,'D',);rw[o q 'D'];unfold tk;cases z:(owner.getD ((lp t.mask h L).1+q) (some 0)).isSome with
     |true=>rfl
     |false=>
      exfalso
      have C:=List.find?_eq_some_iff_append.mp e;obtain⟨_,f,bs,j,w⟩:=C;have x:q∈f:=by
       have n:(aF (runEnd t.mask (lp t.mask h L).1+1-(lp t.mask h L).1))[q]?<*q:=bZ 'D';have A:(aF (runEnd t.mask (lp t.mask h L).1+1-(lp t.mask h L).1))[m]?<*m:=bZ i;rw[j]at n A;have D:f.length=m:=by
        have l:(f++m::bs)[f.length]?<*m:=by rw[dI (aC _),JK];rfl
        rw[<-j]at l;have r:f.length<(aF (runEnd t.mask (lp t.mask h L).1+1-(lp t.mask h L).1)).length:=by rw[j];simp
        rw[bC]at r;rw[bZ r]at l;cases l;rfl
       rw[da 'D']at n;exact aH n
      have :=w q x;cases z2:owner.getD ((lp t.mask h L).1+q) (some 0)with
      |none=>rw[z2]at this;cases this
      |some y=>rw[z2]at z;cases z
  |none=>
   have all:∀m,m<=runEnd t.mask (lp t.mask h L).1-(lp t.mask h L).1->tk owner ((lp t.mask h L).1+m):=λm i=>by
    have B:(lp t.mask h L).1<=runEnd t.mask (lp t.mask h L).1:=by unfold runEnd;split <;>lia
    have :=jv.mp e m (aR.mpr 'D');unfold tk;cases z:owner.getD ((lp t.mask h L).1+m) (some 0)with
    |none=>rw[z]at this;exact absurd rfl this
    |some y=>rfl
   cases d with
   |zero=>
    exfalso
    have :=all 0 (bf _);rw[Nat.add_zero]at this hd;rw[hd]at this;exact s this
   |succ d=>
    refine zt s d g (L+1) (b+((runEnd t.mask (lp t.mask h L).1-(lp t.mask h L).1)+1)) 'D' 'D' ?_ λa v=>?_;·rw[Ai,hk];exact xy t _ _ rfl rfl
    .by_cases c:a<b;·exact hb a c
     .obtain⟨q,rfl⟩:∃q,a=b+q:=(a-b,'D',);rw[o q 'D'];exact all q 'D'
structure Ow(t:aQ)(hs:List Int)(owner:Array (Option Nat))(m:Nat):Prop where
 sz:owner.size=t.mask+1
 lt:∀(j i:Nat),owner[j]?<*(some i)->i<m
 one:∀(j j' i:Nat),owner[j]?<*(some i)->owner[j']?<*(some i)->j=j'
 rc:∀(i:Nat) h,i<m->hs[i]?<*h->∃k,owner[(sq t h k).j]?<*(some i)/\∀k',k'<k->tk owner (sq t h k').j
def sq_le(t:aQ)(h:Int)(k:Nat):(sq t h k).j+(sq t h k).more<=t.mask:=by
 induction k with
 |zero=>show bits h%(t.mask+1)+(runEnd t.mask (bits h%(t.mask+1))-bits h%(t.mask+1))<=t.mask;have :=nr (bits h) (show t.mask+1>0 by lia);unfold runEnd;split <;>lia
 |succ k ih=>
  show(t.advance (sq t h k)).j+(t.advance (sq t h k)).more<=t.mask;unfold iz;split;·show(sq t h k).j+1+((sq t h k).more-1)<=t.mask;lia
  .show(leap t.mask (sq t h k).i (sq t h k).perturb).1+(runEnd t.mask (leap t.mask (sq t h k).i (sq t h k).perturb).1-(leap t.mask (sq t h k).i (sq t h k).perturb).1)<=t.mask;have :(leap t.mask (sq t h k).i (sq t h k).perturb).1<t.mask+1:=nr _ 'D';unfold runEnd;split <;>lia
def ML{t:aQ}(hm:t.mask=7\/t.mask=31){owner:Array (Option Nat)}(o:Ow t hs owner m)(C:m<=t.mask)(h:Int):
  ∃k,layClean.free t.mask owner (turns t.mask) (bits h%(t.mask+1)) (bits h)<*(sq t h k).j/\¬tk owner (sq t h k).j/\∀p,p<k->tk owner (sq t h p).j:=by
 obtain⟨j,c,hf⟩:∃j,j<=t.mask/\¬tk owner j:=by
  apply au
  intro w;have all:∀j,j<=t.mask->∃i,owner[j]?<*(some i):=λj c=>by
   have :tk owner j:=by
    apply au
    intro z;exact w (j,c,z,)
   have s:j<owner.size:=by rw[o.sz];lia
   unfold tk at this;rw[cD,ck s]at this;rw[ck s];cases e:owner[j]with
   |none=>rw[e]at this;cases this
   |some i=>exact(i,rfl,)
  have g:∀j:Nat,∃i,j<=t.mask->owner[j]?<*(some i):=λj=>by
   by_cases c:j<=t.mask;·obtain⟨i,h⟩:=all j c;exact(i,λ_=>h,)
   .exact(0,λz=>absurd z c,)
  obtain⟨f,hf⟩:=Classical.axiomOfChoice g;have A:((aF (t.mask+1)).map f).Nodup:=by refine cK.mpr ?_;refine(gE.mp (show(aF (t.mask+1)).Pairwise (λa b=>a≠b)from kE)).imp ?_;rintro a b ⟨n,d,u⟩ e;have n:=hf a (by have :=aR.mp n;lia);have d:=hf b (by have :=aR.mp d;lia);rw[<-e]at d;exact u (o.one a b _ n d)
  have :=mX A (ys:=aF m) λx y=>by obtain⟨j,c,rfl⟩:=aI.mp y;exact aR.mpr (o.lt j _ (hf j (by have :=aR.mp c;lia)))
  rw[ao,bC,bC]at this;lia
 obtain⟨r,q,e⟩:∃r,r<=t.mask/\orb t.mask r (lp t.mask h 13).1=j:=by
  have l:=lp_lt t.mask h 13;rcases hm with hm|hm;·rw[hm]at l c⊢;exact orb7 _ l _ 'D'
  .rw[hm]at l c⊢;have :=bx.mp (bx.mp orb31 _ (aR.mpr l)) j (aR.mpr 'D');obtain⟨r,q,e⟩:=cz.mp this;have :=aR.mp q;exact(r,'D',eq_of_beq e,)
 have v:¬tk owner (lp t.mask h (13+r)).1:=by rw[E8,e];exact hf
 exact zt v (13+r) (turns t.mask) 0 0 'D' (by unfold turns;lia) rfl λp B=>by lia
def Kg{owner:Array (Option Nat)}{x:Nat}(h:tk owner x):tk (owner.setIfInBounds j (some m)) x:=by
 unfold tk at h⊢;rw[cD]at h⊢;rw[gU];split;·split <;>rfl
 .exact h
def Ow.step{t:aQ}{owner:Array (Option Nat)}(o:Ow t hs owner m){h:Int}(v:hs[m]?<*h)(hf:¬tk owner (sq t h k).j)(s:∀d,d<k->tk owner (sq t h d).j):Ow t hs (owner.setIfInBounds (sq t h k).j (some m)) (m+1):=by
 have u:(sq t h k).j<owner.size:=by rw[o.sz];have :=sq_le t h k;lia
 have w:=not_tk hf;have at':∀(x i:Nat),(owner.setIfInBounds (sq t h k).j (some m))[x]?<*(some i)->(x=(sq t h k).j/\i=m)\/owner[x]?<*(some i):=λx i e=>by
  rw[gU]at e;split at e;·rename_i hx;cases e;exact .inl (hx.symm,rfl,)
  .exact .inr e
 have old:∀(x i:Nat),owner[x]?<*(some i)->(owner.setIfInBounds (sq t h k).j (some m))[x]?<*(some i):=λx i e=>by rw[gU,if_neg (λz=>by rw[<-z,w]at e;cases e)];exact e
 refine(by rw[Array.size_setIfInBounds];exact o.sz,λx i e=>?_,λx j i e e'=>?_,λi r hi f=>?_,)
 .rcases at' x i e with⟨_,rfl⟩ |e;·exact dj _
  .exact bA (o.lt x i e)
 .rcases at' x i e with⟨a,b⟩ |e
  .rcases at' j i e' with⟨l,_⟩ |e';·rw[a,l]
   .have :=o.lt _ _ e';lia
  .rcases at' j i e' with⟨_,y⟩ |e';·have :=o.lt _ _ e;lia
   .exact o.one x j i e e'
 .by_cases c:i=m;·subst c;rw[v]at f;cases f;refine(k,?_,λd g=>Kg (s d g),);rw[gU,if_pos rfl,if_pos u]
  .obtain⟨q,n,p⟩:=o.rc i r 'D' f;exact(q,old _ _ n,λd g=>Kg (p d g),)
theorem DE{t:aQ}(d:t.mask=7\/t.mask=31)(n:hs.length<=t.mask):∀(l b:List Int)(a:Array (Option Nat)),b++l=hs->Ow t hs a b.length->
  ∃c,l.foldl (λac h=>(do let(a,k)<-ac;let j<-layClean.free t.mask a (turns t.mask) (bits h%(t.mask+1)) (bits h);pure (a.setIfInBounds j (some k),k+1):Option (Array (Option Nat)×Nat))) (some (a,b.length))<*(c,hs.length)/\Ow t hs c hs.length
 | [],b,a,e,o=>by rw[lJ]at e;subst e;exact(a,rfl,o,)
 |h::l,b,a,e,o=>by
  have p:hs[b.length]?<*h:=by rw[<-e,dI (aC _),JK];rfl
  have s:b.length<hs.length:=by rw[<-e];simp
  obtain⟨k,f,g,i⟩:=ML d o 'D' h;have q:=o.step p g i;obtain⟨c,m,r⟩:=DE d n l (b++[h]) (a.setIfInBounds (sq t h k).j (some b.length)) (by rw[fT];exact e) (by rw[bX];exact q);refine(c,?_,r,);rw[d8];have :(do let(a,k)<-(some (a,b.length):Option (Array (Option Nat)×Nat));let j<-layClean.free t.mask a (turns t.mask) (bits h%(t.mask+1)) (bits h);pure (a.setIfInBounds j (some k),k+1):Option (Array (Option Nat)×Nat))<*(a.setIfInBounds (sq t h k).j (some b.length),(b++[h]).length):=by show(do let j<-layClean.free t.mask a (turns t.mask) (bits h%(t.mask+1)) (bits h);pure (a.setIfInBounds j (some b.length),b.length+1):Option (Array (Option Nat)×Nat))=_;rw[f,bX];rfl
  rw[this];exact m
def Nk{t:aQ}(d:t.mask=7\/t.mask=31){hs:Array Int}(c:hs.size<=t.mask):∃a,layClean t.mask hs<*a/\Ow t hs.toList a hs.size:=by
 have f:Ow t hs.toList (qa (t.mask+1) none) 0:=by
  have b:∀(j i:Nat),(qa (t.mask+1) (none:Option Nat))[j]? ≠some (some i):=λj i e=>by rw[Array.getElem?_replicate]at e;split at e<;>cases e
  exact('F',λj i e=>absurd e (b j i),λj g i e=>absurd e (b j i),λi h hi=>by lia,)
 obtain⟨a,e,o⟩:=DE d (hs:=hs.toList) (by rw[aV];exact c) hs.toList [] _ rfl f;refine⟨a,?_,by rw[aV]at o;exact o⟩;unfold layClean;rw[<-Array.foldl_toList];rw[show((some (qa (t.mask+1) none,0)):Option (Array (Option Nat)×Nat))<*(qa (t.mask+1) none,([]:List Int).length)from rfl]
 erw [e]
 rfl
abbrev liv(mask:Nat)(owner:Array (Option Nat)):List (Nat×Nat):=(aF (mask+1)).filterMap λj=>(owner.getD j none).map (j,·)
def pQ{mask:Nat}{owner:Array (Option Nat)}(d:owner.size=mask+1):(j,i)∈liv mask owner↔owner[j]?<*(some i):=by
 unfold liv;rw[vp];constructor
 .rintro⟨x,a,e⟩;have a:=aR.mp a;rw[cD,ck 'D']at e;cases c:owner[x]with
  |none=>rw[c]at e;cases e
  |some y=>rw[c]at e;cases e;rw[ck 'D',c]
 .intro e;have b:j<owner.size:=(cq.mp e).1;refine(j,aR.mpr 'D',?_,);rw[cD,e];rfl
def laid_ok{mask:Nat}(s:mask=7\/mask=31){finger moves:Nat}{plain:Bool}{hs:Array Int}(p:hs.size<=mask):
  ∃t' l,laid mask finger moves led plain hs<*(t',l)/\t'.mask=mask/\Tb t' (l.map λi=>hs.getD i 0)/\l.toList.Perm (aF hs.size):=by
 obtain⟨a,e,o⟩:=Nk (t:={mask,place:= #[],dummies:= #[],finger,led,moves,plain}) s p;have e:layClean mask hs<*a:=e;have d:a.size=mask+1:=o.sz;have m:laid mask finger moves led plain hs<*({mask,place:=((liv mask a).map (·.1)).toArray,dummies:= #[],finger,led,moves,plain},((liv mask a).map (·.2)).toArray):=by unfold laid;rw[e];rfl
 have T:=(pR m).1;have H:((liv mask a).map (·.1)).Pairwise (·<·):=T.1;have I:=cK.mp H;have G:((liv mask a).map (·.2)).Nodup:=by refine cK.mpr ?_;refine(gE.mp I).imp ?_;rintro⟨j,i⟩ ⟨j',i'⟩ ⟨ha,hb,hlt⟩ (hi:i=i');subst hi;have :=o.one j j' i ((pQ d).mp ha) ((pQ d).mp hb);exact absurd this (aM hlt)
 have v:((liv mask a).map (·.2)).Perm (aF hs.size):=by
  refine(iJ G kE).mpr λi=>?_;rw[aI,aR];constructor;·rintro⟨⟨j,i⟩,h,rfl⟩;exact o.lt j i ((pQ d).mp h)
  .intro hi;obtain⟨k,g,_⟩:=o.rc i hs[i] hi (by rw[bS,ck hi]);exact((_,i),(pQ d).mpr g,rfl,)
 have w:∀h k,sq {mask,place:=((liv mask a).map (·.1)).toArray,dummies:= #[],finger,led,moves,plain} h k=sq {mask,place:= #[],dummies:= #[],finger,led,moves,plain} h k:=λh k=>lW (t:={mask,place:=((liv mask a).map (·.1)).toArray,dummies:= #[],finger,led,moves,plain}) (t':={mask,place:= #[],dummies:= #[],finger,led,moves,plain}) rfl h k;refine(_,_,m,rfl,(T,?_,s,?_,λq h hq=>?_,),v,);·simp
 .have :=v.length_eq;rw[ao,bC]at this;show(((liv mask a).map (·.1)).toArray).size<=mask;simp[this];exact p
 .rw[mM,qM,ay]at hq;cases c:(liv mask a)[q]? with
  |none=>rw[c]at hq;cases hq
  |some x=>
   obtain⟨j,i⟩:=x;rw[c]at hq;have u:=(pQ d).mp (aH c);have hi:=o.lt j i u;have B:hs.getD i 0=h:=by cases hq;rfl
   obtain⟨k,g,A⟩:=o.rc i h hi (by rw[bS,ck hi,<-B,cD,ck hi];rfl);have C:=o.one _ _ _ u g;refine(k,?_,λb D z=>?_,);·show(((liv mask a).map (·.1)).toArray)[q]? =_;rw[qM,ay,c,w];show some j=_;rw[C]
   .have f:=A b D;have n:(sq {mask,place:= #[],dummies:= #[],finger,led,moves,plain} h b).j<a.size:=by rw[d];have :=sq_le {mask,place:= #[],dummies:= #[],finger,led,moves,plain} h b;have :(sq {mask,place:= #[],dummies:= #[],finger,led,moves,plain} h b).j+(sq {mask,place:= #[],dummies:= #[],finger,led,moves,plain} h b).more<=mask:=this;lia
    unfold tk at f;rw[cD,ck n]at f;cases c2:a[(sq {mask,place:= #[],dummies:= #[],finger,led,moves,plain} h b).j]with
    |none=>rw[c2]at f;cases f
    |some y=>have E:=(pQ d).mpr (show a[(sq {mask,place:= #[],dummies:= #[],finger,led,moves,plain} h b).j]?<*(some y) by rw[ck n,c2]);obtain⟨r,F⟩:=aS.mp E;refine kY T z r ?_;show(((liv mask a).map (·.1)).toArray)[r]? =_;rw[qM,ay,F,w];rfl
end TB
namespace TB
open PySem.W L2 Q
noncomputable abbrev ky(q:List Int):List Key:=q.map eQ
section
variable {E:'I'}{s:Shared}
abbrev hq(prog:Program)(w:World)(q:List Int):Int:=tupleKeyHash (aY prog w) (ky q)
def nN{q:List Int}(h:ItemsAre (aY prog w) (ky q) vs):∀v∈vs,∃i t,v=iT i t:=by
 induction q generalizing vs with
 |nil=>cases h;intro v hv;cases hv
 |cons k q ih=>
  cases h with
  |cons a h=>
   intro v hv;rcases aK.mp hv with rfl|hv;·rw[qS]at a;obtain⟨t,e⟩:=nu (k:=k) a;exact(k,t,e,)
   .exact ih h v hv
def Nw{q:List Int}{Q:Bool->Shared->Prop}(e:bD (aY prog w) s.heap (ky q) a)(h:Q true s):'B' (D7 8 (.ref a)) Q E s:=by
 have g:=e.typeIs;obtain⟨o,p,n,k,_,j,hi⟩:=e;have m:=nN hi;unfold D7;refine aa (tF g F.slot_tuple_hash.lookup ?_);show wpAny _ _ (jY (.ref a)>>=_) _ _ s;refine aa (eP k j ?_);show wpAny _ _ (forIn p _ _>>=_) _ _ s;rw[<-gP];refine aa ?_;refine lL _ (λf r c=>r.1=none/\c=s/\∀v∈f,∃i t,v=iT i t) _ ?_ ?_ _ _ (rfl,rfl,m,);·rintro v f r c ⟨b,rfl,d⟩;obtain⟨i,t,rfl⟩:=d v aG;exact aa (aj (aj (rfl,rfl,λu l=>d u (ax _ l),)))
 .rintro⟨x,y⟩ c ⟨b,rfl,_⟩;simp only at b;subst b;exact aj h
def wX{q:List Int}{Q:Bool->Shared->Prop}(e:bD (aY prog w) s.heap (ky q) a)(h:Q false s):'B' (pY 8 (.ref a)) Q E s:=by
 have g:=e.typeIs;obtain⟨o,p,n,k,_,j,hi⟩:=e;have m:=nN hi;unfold pY;refine aa (hO g ?_);show wpAny _ _ (pure true>>=_) _ _ s;refine aa (aj ?_);show wpAny _ _ (jY (.ref a)>>=_) _ _ s;refine aa (eP k j ?_);show wpAny _ _ (forIn p _ _>>=_) _ _ s;rw[<-gP];refine aa ?_;refine lL _ (λf r c=>r.1=none/\c=s/\∀v∈f,∃i t,v=iT i t) _ ?_ ?_ _ _ (rfl,rfl,m,);·rintro v f r c ⟨b,rfl,d⟩;obtain⟨i,t,rfl⟩:=d v aG;exact aa (aj (aj (rfl,rfl,λu l=>d u (ax _ l),)))
 .rintro⟨x,y⟩ c ⟨b,rfl,_⟩;simp only at b;subst b;exact aj h
def Ep{q:List Int}{Q:Bool->Shared->Prop}(g:bD (aY prog w) s.heap (ky q) a)(l:List Value)(m:∀v∈l,∃r b,v=.ref b/\bD (aY prog w) s.heap (ky r) b)(h:Q false s):
  'B' (pX (.ref a) l) Q E s:=by
 unfold pX;refine aa ?_;refine lL _ (λe r c=>r.1=none/\c=s/\∀v∈e,∃r b,v=.ref b/\bD (aY prog w) s.heap (ky r) b) _ ?_ ?_ _ _ (rfl,rfl,m,)
 .rintro v e r c ⟨d,rfl,f⟩;obtain⟨k,b,rfl,i⟩:=f v aG;have j:∀u∈e,∃r b,u=.ref b/\bD (aY prog w) c.heap (ky r) b:=λu n=>f u (ax _ n);dsimp only;split;·exact aj (rfl,rfl,j,)
  .refine aa (lF g ?_);simp only[eK,aJ,if_false];refine aa (lF i ?_);simp only[eK,aJ,if_false];refine aa (wX g ?_);simp only[aJ,if_false];refine aa (wX i ?_);simp only[aJ,if_false];exact aj (rfl,rfl,j,)
 .rintro⟨o,p⟩ c ⟨d,rfl,_⟩;simp only at d;subst d;exact aj h
structure oJ(prog:Program)(w:World)(T:Addr->Prop)(h:Heap)(S:Addr)(kb:List (List Int×Addr))(o:Obj)(es:Array (Int×Value))(ep:Nat)(t:aQ):Prop where
 ho:h.get? S<*o
 ex:o.ExactSet
 hd:o.data=.set es ep t
 tb:Tb t (es.map (·.1))
 pl:t.plain=true
 dm:t.dummies= #[]
 es_:es.toList=kb.map λx=>(hq prog w x.1,aN x.2)
 nd:(kb.map (·.1)).Nodup
 tu:∀x∈kb,bD (aY prog w) h (ky x.1) x.2/\T x.2
 lo:t.mask=7->kb.length<=4
theorem oJ.fits{T:Addr->Prop}{c:List (List Int×Addr)}{o:Obj}{t:aQ}(x:oJ prog w T h S c o es ep t):t.fits es.size=true:=by have a:=x.tb.sz;have b:=x.tb.fl;rw[fB]at a;unfold rD zX;rw[x.dm,a];simp;lia
theorem oJ.at{T:Addr->Prop}{b:List (List Int×Addr)}{o:Obj}{t:aQ}(x:oJ prog w T h S b o es ep t){e:Int×Value}(a:es[i]?<*e):∃y,b[i]?<*y/\e=(hq prog w y.1,.ref y.2):=by
 rw[<-bS,x.es_,ay]at a;cases c:b[i]? with
 |none=>rw[c]at a;cases a
 |some y=>rw[c]at a;cases a;exact(y,rfl,rfl,)
def Mn{p q:List Int}(h:ky p=ky q):p=q:=by
 induction p generalizing q with
 |nil=>cases q with
  |nil=>rfl
  |cons=>cases h
 |cons a p ih=>cases q with
  |nil=>cases h
  |cons b q=>injection h with h1 h2;injection h1 with h1;rw[h1,ih h2]
abbrev sh(es:Array (Int×Value))(i:Nat):Int:=(es[i]?.map λe:Int×Value=>e.1).getD 0
def search{T:Addr->Prop}{C:List (List Int×Addr)}{o:Obj}{t:aQ}{q:List Int}{Q:SetFound->Shared->Prop}(I:A.units<cLine)(x:oJ prog w T s.heap S C o es ep t)(M:bD (aY prog w) s.heap (ky q) a){N:Nat}(L:t.slot (sq t (hq prog w q) N).j=.empty)(hb:∀k,k<N->t.slot (sq t (hq prog w q) k).j≠.empty)(b5:N<=10*(13+t.mask))
  (P:q∈C.map (·.1)->Q (.there none) s)(h2:q∉C.map (·.1)->Q (.free (sq t (hq prog w q) N).j false) s):
  ∀(m k B:Nat)(st:Option yk),N-k=m->k<=N->m<B->st.getD (t.probeStart (hq prog w q))=sq t (hq prog w q) k->(∀d,d<k->∀i y,t.slot (sq t (hq prog w q) d).j=.live i->C[i]?<*y->y.1≠q)->
   'B' (NO S (.ref a) (hq prog w q) true B st) Q E s:=by
 intro m
 induction m using BV with
 |_ m ih=>
  intro k B st hm a7 hf b2 b0;obtain⟨B,rfl⟩:∃f,B=f+1:=(B-1,'D',);unfold NO;refine aa (cf x.ho x.hd x.fits ?_);dsimp only;have a6:t.gaveWay=false:=by unfold aQ.gaveWay;rcases x.tb.mm with e|e<;>rw[e]<;>rfl
  rw[a6];simp only[aJ,if_false];rw[b2];generalize hpp:yj t _ (hq prog w q) _=mt;have H:t.probe (sh es) (hq prog w q) (sq t (hq prog w q) k)=mt:=hpp;have b3:N-k<10*yi t.mask:=by unfold yi;lia
  obtain⟨g,a1,a2,Y,Z⟩:=Ds x.tb.ti (f:=sh es) L hb (10*yi t.mask) k a7 b3;have W:∀{j i:Nat},t.slot j=.live i->∃y,C[i]?<*y/\es[i]?<*(hq prog w y.1,.ref y.2):=λ{j i} e=>by
   rcases lh x.tb.ti j with⟨z,_⟩ |⟨n,z,hp⟩;·rw[z]at e;cases e
   .rw[z]at e;cases e;have hi:i<es.size:=by have :=(cq.mp hp).1;rw[x.tb.sz,fB]at this;exact this
    obtain⟨y,p,e⟩:=x.at (ck hi);exact⟨y,p,by rw[ck hi,e]⟩
  have a0:∀{i:Nat}{y:List Int×Addr},es[i]?<*(hq prog w y.1,aN y.2)->sh es i=hq prog w y.1:=λ{i y} e=>by unfold sh;rw[e];rfl
  have seen:∀d,d<g->∀i y,t.slot (sq t (hq prog w q) d).j=.live i->C[i]?<*y->y.1≠q:=λd D i y e p z=>by
   by_cases c:d<k;·exact b0 d c i y e p z
   .obtain⟨n,h,ne⟩:=Y d 'D' D;rw[e]at h;cases h;obtain⟨r,l,G⟩:=W e;rw[p]at l;cases l;exact ne (by rw[a0 G,z])
  rcases Z with⟨rfl,J⟩ |⟨i,e,b6,b7,J⟩
  .have K:t.probe (sh es) (hq prog w q) (sq t (hq prog w q) k)<*(.empty (sq t (hq prog w q) g).j none):=J;rw[K]at H;subst H;dsimp only;refine aj (h2 λb1=>?_);obtain⟨y,p,rfl⟩:=aI.mp b1;obtain⟨i,hi⟩:=aS.mp p;have a5:(es.map (·.1))[i]?<*(hq prog w y.1):=by rw[mM,<-bS,x.es_,ay,hi];rfl
   obtain⟨V,p1,p2⟩:=x.tb.rc i _ a5;have F:=HP x.tb.ti p1;rcases Nat.lt_or_ge V g with c|c;·exact seen V c i y F hi rfl
   .rcases Nat.lt_or_eq_of_le c with c|c;·exact p2 g c L
    .rw[<-c,L]at F;cases F
  .have K:t.probe (sh es) (hq prog w q) (sq t (hq prog w q) k)<*(.candidate (sq t (hq prog w q) g).j i (sq t (hq prog w q) (g+1))):=J;rw[K]at H;subst H;dsimp only;obtain⟨y,p,G⟩:=W e;have O:y∈C:=aH p;have ty:=(x.tu y O).1;have a9:∀v∈(Array.filter (λz:Int×Value=>z.fst==hq prog w q) es).toList.map (λz:Int×Value=>z.snd),∃b4 b,v=.ref b/\bD (aY prog w) s.heap (ky b4) b:=λv hv=>by
    obtain⟨z,R,rfl⟩:=aI.mp hv;have U:z∈es.toList:=by rw[JU]at R;exact(d4.mp R).1
    rw[x.es_]at U;obtain⟨u,I,rfl⟩:=aI.mp U;exact(u.1,u.2,rfl,(x.tu u I).1,)
   have X:∀d,d<g+1->∀n r,t.slot (sq t (hq prog w q) d).j=.live n->C[n]?<*r->y.1≠q->r.1≠q:=λd D n r h l a8=>by
    by_cases c:d=g;·rw[c,e]at h;cases h;rw[p]at l;cases l;exact a8
    .exact seen d 'D' n r h l
   rw[G];dsimp only;by_cases F:(!t.led)=true
   .rw[if_pos F];refine aa (Ep M _ a9 ?_);simp only[aJ,if_false];refine aa (ba (jX I ty M (aa (cf x.ho x.hd x.fits ?_))));by_cases hyq:y.1=q;·rw[decide_eq_true (show ky y.1=ky q by rw[hyq])];exact aj (P (aI.mpr (y,O,hyq,)))
    .rw[decide_eq_false (λz:ky y.1=ky q=>hyq (Mn z))];simp only[dS,aJ,if_false];rw[show t.sameMemory t.moves t.mask<*true from by unfold F7;simp];dsimp only;simp only[if_true];rw[e];dsimp only;rw[G];dsimp only;refine aa (wpAny_isSame_ref_self (aa (aj ?_)));simp only[if_true];exact ih (N-(g+1)) 'D' (g+1) B (some _) rfl 'D' 'D' rfl λd D n r h l=>X d D n r h l hyq
   .rw[if_neg F];refine aa (ba (jX I ty M (aa (cf x.ho x.hd x.fits ?_))));by_cases hyq:y.1=q;·rw[decide_eq_true (show ky y.1=ky q by rw[hyq])];exact aj (P (aI.mpr (y,O,hyq,)))
    .rw[decide_eq_false (λz:ky y.1=ky q=>hyq (Mn z))];simp only[dS,aJ,if_false];rw[show t.sameMemory t.moves t.mask<*true from by unfold F7;simp];dsimp only;simp only[if_true];rw[e];dsimp only;rw[G];dsimp only;refine aa (wpAny_isSame_ref_self (aa (aj ?_)));simp only[if_true];exact ih (N-(g+1)) 'D' (g+1) B (some _) rfl 'D' 'D' rfl λd D n r h l=>X d D n r h l hyq
theorem oJ.size{T:Addr->Prop}{b:List (List Int×Addr)}{o:Obj}{t:aQ}(x:oJ prog w T h S b o es ep t):es.size=b.length/\t.place.size=b.length:=by
 have a:es.size=b.length:=by rw[<-aV,x.es_,ao]
 exact⟨a,by rw[x.tb.sz,fB,a]⟩
def Cv{a:Type}(d:a)(ys:List a):(aF ys.length).map (λi=>ys.getD i d)=ys:=by
 apply cQ;·simp
 .intro i c b;simp[b]
theorem ly{o:Obj}{es ep t}{ks:List Key}(x:bD (aY prog w) h ks a)(c:h.get? S<*o)(b:o.data=.set es ep t)(hs:cU S h h'):bD (aY prog w) h' ks a:=D8.ly x c b hs
def relay{T:Addr->Prop}{c:List (List Int×Addr)}{o:Obj}{t:aQ}{Q:Unit->Shared->Prop}(f:s.heap.get? S<*o)(K:o.ExactSet)(e:o.data=.set es ep t)(tb:Tb t (es.map (·.1)))(R:t.plain=true)(F:t.dummies= #[])(n:es.toList=c.map λx=>(hq prog w x.1,aN x.2))(P:(c.map (·.1)).Nodup)(V:∀x∈c,bD (aY prog w) s.heap (ky x.1) x.2/\T x.2)(v:c.length=5)
  (h:∀h' D o' es' J t',D.Perm c->t'.led=t.led->cU S s.heap h'->oJ prog w T h' S D o' es' J t'->Q () {s with heap:=h'}):'B' (setRelay S 20) Q E s:=by
 have g:es.size=5:=by rw[<-aV,n,ao,v]
 have hf:t.fits es.size=true:=by have a:=tb.sz;have b:=tb.fl;rw[fB]at a;unfold rD zX;rw[F,a];simp;lia
 unfold setRelay;refine aa (cf f e hf ?_);dsimp only;rw[if_neg (by decide+kernel)];obtain⟨t',d,r,I,U,k⟩:=laid_ok (mask:=31) (.inr rfl) (finger:=t.finger) (moves:=t.movedTo 31) (led:=t.led) (plain:=t.plain) (hs:=es.map (·.1)) (by rw[fB,g];decide);have N:t.relaid (es.map (·.1)) 20<*(t',d):=r;rw[N];have q:=pR r;rw[fB,g]at k;have y:∀i∈d.toList,i<5:=λi hi=>aR.mp (k.mem_iff.mp hi);have m:(d.filterMap (es[·]?)).toList=d.toList.map λi=>(hq prog w (c.getD i ([],0)).1,aN (c.getD i ([],0)).2):=by
  rw[Array.toList_filterMap];have :∀l:List Nat,(∀i∈l,i<5)->l.filterMap (es[·]?)=l.map λi=>(hq prog w (c.getD i ([],0)).1,aN (c.getD i ([],0)).2):=λl B=>by
   induction l with
   |nil=>rfl
   |cons i l ih=>
    have hi:=B i aG;have G:es[i]?<*(hq prog w (c.getD i ([],0)).1,aN (c.getD i ([],0)).2):=by rw[<-bS,n,ay,ah,ae 'D'];rfl
    rw[lS,G,bw,ih λj M=>B j (ax _ M)]
  exact this _ y
 have u:(d.filterMap (es[·]?)).size=es.size:=by rw[<-aV,m,ao,k.length_eq,g];rfl
 have p:(d.toList.map λi=>c.getD i ([],0)).Perm c:=by have :=k.map λi=>c.getD i ([],0);rw[<-v,Cv]at this;exact this
 refine aa (mI (a:=(d.filterMap (es[·]?),t')) ?_ ?_);·show(ite ((_ != _)=true) _ _)=_;rw[if_neg (by rw[u];simp)]
 dsimp only;refine kN f e ?_ (by rw[u,g];decide);have L:(s.heap.update S (fH (d.filterMap (es[·]?)) t')).get? S<*{o with data:=.set (d.filterMap (es[·]?)) (ep+1) t'}:=by have :=bK (fH (d.filterMap (es[·]?)) t') f (by rw[wc _ _ e];rfl);rw[wc _ _ e]at this;exact this
 have C:=bM s.heap S (fH (d.filterMap (es[·]?)) t');refine h _ (d.toList.map λi=>c.getD i ([],0)) _ _ (ep+1) t' p q.2.1 C ⟨L,K,rfl,?_,by rw[q.2.2];exact R,q.1.2,by rw[m,bF];rfl,(p.map _).nodup_iff.mpr P,λx O=>?_,λz=>by rw[I]at z;cases z⟩
 .have H:(d.filterMap (es[·]?)).map (·.1)=d.map λi=>(es.map (·.1)).getD i 0:=by
   apply Array.toList_inj.mp
   rw[Array.toList_map,m,Array.toList_map,bF];refine cN λi hi=>?_;have hi:=y i hi;show hq prog w (c.getD i ([],0)).1=_;rw[cD,mM,<-bS,n,ay,ah,ae 'D'];rfl
  rw[H];exact U
 .have :=V x (p.mem_iff.mp O);exact(ly this.1 f e C,this.2,)
def addT{T:Addr->Prop}{c:List (List Int×Addr)}{o:Obj}{t:aQ}{q:List Int}{Q:Bool->Shared->Prop}(hu:A.units<cLine)(x:oJ prog w T s.heap S c o es ep t)(m:bD (aY prog w) s.heap (ky q) a)(U:T a)(R:c.length+1<=18)
  (h:∀b h' d o' es' l t',(∀r,r∈d.map (·.1)↔r∈c.map (·.1)\/r=q)->d.length<=c.length+1->t'.led=t.led->cU S s.heap h'->oJ prog w T h' S d o' es' l t'->Q b {s with heap:=h'}):'B' (nW S (.ref a) (hq prog w q)) Q E s:=by
 obtain⟨P,z2⟩:=x.size;obtain⟨N,n1,u,O⟩:=Ft x.tb.ti x.tb.mm x.tb.fl (hq prog w q);unfold nW JA;refine ba (aa (cf x.ho x.hd x.fits ?_));dsimp only;rw[show byScan (.ref a) es=false from rfl];simp only[aJ,if_false];refine aa ?_;unfold setSearch;have a3:10*(13+t.mask)<=440:=by rcases x.tb.mm with e|e<;>rw[e]<;>decide
 refine search hu x m u O n1 (λn=>?_) (λn=>?_) N 0 100000 none 'D' (bf _) 'D' rfl (λk' a2=>by lia);·dsimp only;exact aj (h false s.heap c o es ep t (λr=>⟨.inl,λz=>z.elim id λe=>by rw[e];exact n⟩) 'D' rfl (qN _ _) x)
 .dsimp only;refine aa (cf x.ho x.hd x.fits ?_);dsimp only;have nj:=kY x.tb.ti u;have k:=wR x.tb.ti nj;have Z:t.place.size+1<=t.mask:=by
   rw[z2];rcases x.tb.mm with e|e;·have :=x.lo e;lia
   .lia
  have a1:=x.tb.put u O Z;have Y:(t.put (sq t (hq prog w q) N).j).1.plain=true:=x.pl;rw[Y];simp only[if_true];refine aa (Nw m ?_);simp only[if_true];have X:(t.put (sq t (hq prog w q) N).j).2=cG t.place (sq t (hq prog w q) N).j:=rfl;rw[X];generalize hpp:cG t.place (sq t (hq prog w q) N).j=p at *;generalize htt:(t.put (sq t (hq prog w q) N).j).1=t1 at *;have W:t1.mask=t.mask:=by rw[<-htt];rfl
  have I:t1.led=t.led:=by rw[<-htt];rfl
  have L:(bc es p (hq prog w q,aN a)).size=c.length+1:=by rw[D8.Cn,P]
  refine aa (kN x.ho x.hd ?_ (by rw[L];exact aT R 'E'));have H:(s.heap.update S (fH (bc es p (hq prog w q,aN a)) t1)).get? S<*{o with data:=.set (bc es p (hq prog w q,aN a)) (ep+1) t1}:=by have :=bK (fH (bc es p (hq prog w q,aN a)) t1) x.ho (by rw[wc _ _ x.hd];rfl);rw[wc _ _ x.hd]at this;exact this
  have i:=bM s.heap S (fH (bc es p (hq prog w q,aN a)) t1);have F:(bc es p (hq prog w q,aN a)).toList=(c.take p++(q,a)::c.drop p).map λx=>(hq prog w x.1,aN x.2):=by rw[jS,x.es_,dM,bw,List.map_take,List.map_drop]
  have g:(c.take p++(q,a)::c.drop p).Perm ((q,a)::c):=by have :=List.perm_middle (a:=(q,a)) (l₁:=c.take p) (l₂:=c.drop p);rw[JM]at this;exact this
  have K:((c.take p++(q,a)::c.drop p).map (·.1)).Nodup:=(g.map _).nodup_iff.mpr (bN.mpr (n,x.nd,));have M:∀y∈c.take p++(q,a)::c.drop p,bD (aY prog w) (s.heap.update S (fH (bc es p (hq prog w q,aN a)) t1)) (ky y.1) y.2/\T y.2:=λy hy=>by
   rcases aK.mp (g.mem_iff.mp hy)with rfl|hy;·exact(ly m x.ho x.hd i,U,)
   .exact(ly (x.tu y hy).1 x.ho x.hd i,(x.tu y hy).2,)
  have J:∀{d:List (List Int×Addr)},d.Perm (c.take p++(q,a)::c.drop p)->∀r,r∈d.map (·.1)↔r∈c.map (·.1)\/r=q:=λ{d} j r=>by rw[((j.trans g).map (·.1)).mem_iff,bw,aK];exact(λz=>z.elim .inr .inl,λz=>z.elim .inr .inl,)
  have v:Tb t1 ((bc es p (hq prog w q,aN a)).map (·.1)):=by rw[D8.GU];exact a1
  have G:t1.fill=c.length+1:=by unfold zX;rw[k.2,v.sz,fB,L];rfl
  have f:(c.take p++(q,a)::c.drop p).length=c.length+1:=g.length_eq;by_cases full:t1.tooFull=true
  .have B:(c.length+1)*5≥ t.mask*3:=by unfold JP at full;rw[G,W]at full;exact W0 full
   have D:t.mask=7:=by
    rcases x.tb.mm with e|e;·exact e
    .rw[e]at B;lia
   have C:c.length+1=5:=by have :=x.lo D;rw[D]at B;lia
   rw[full];simp only[Bool.not_false,eY,if_true];rw[show fo (es.size+1)=20 from by rw[P,C];rfl];refine aa (relay (T:=T) (s:={s with heap:=s.heap.update S (fH (bc es p (hq prog w q,aN a)) t1)}) H x.ex rfl v (by rw[<-htt];exact x.pl) k.2 F K M (by rw[f,C]) λh' d o' es' l t' j V a0 x'=>?_);refine aj (h true h' d o' es' l t' (J j) (qd (j.length_eq.trans f)) (by rw[V,I]) (i.trans a0) x')
  .rw[ix.mpr full];simp only[Bool.not_false,dS,aJ,if_false];refine aj (h true _ (c.take p++(q,a)::c.drop p) _ _ (ep+1) t1 (J (.refl _)) (qd f) I i (H,x.ex,rfl,v,by rw[<-htt];exact x.pl,k.2,F,K,M,λe=>?_,));rw[f];apply au;intro z;apply full;unfold JP;rw[G,e];exact decide_eq_true 'D'
end
end TB
set_option maxHeartbeats 3200000
namespace Q
open PySem.W L2
section
variable {R:Result->Shared->Prop}{I:Addr}{fp wr:List Addr}{G:Array iF->Array iF->Prop}{P:Nat->Value->Prop}{St:Nat->Shared->Prop}
theorem yW(W:WalksS prog w A.in1 I fp wr G n P St)(S:Addr)(h:S∉fp)(ks:List Key)(r:ks.length=n)(y:∀i v,P i v->∃k,ks[i]?<*k/\RelV (kV k) v)(d:n+1<gm):
  ∀(m i:Nat)(s:Shared),n-i=m->i<=n->St i s->sZ (aY prog w) s.heap S (has (met (ks.take i))) (met (ks.take i)).length led->
   (∀s',Moved (S::wr) G s s'->sZ (aY prog w) s'.heap S (has (met ks)) (met ks).length led->R (.ok (.ret .none)) s')->
   gA (model prog w) A (.builtin "set.update.loop" ([.ref S,.ref I],[],)) R s
 | 0,i,s,hm,hi,st,hS,hR=>by
  obtain rfl:i=n:=by lia
  rw[<-r,dg]at hS;refine cY cT ?_;rw[cE bE _];show wpAny _ A.in1 (pyNext (.ref I)>>=_) _ _ s;refine aa (W.done s _ _ st λs' g=>?_);obtain⟨o,c,a,t,f,p⟩:=hS;exact aj (hR s' (g.mono λb d=>ax _ d) (o,c,a,t,g.heap S _ (λz=>h (W.sub _ z)) f,p,))
 |m+1,i,s,hm,hi,st,hS,hR=>by
  have q:i<n:=by lia
  refine cY cT ?_;rw[cE bE _];show wpAny _ A.in1 (pyNext (.ref I)>>=_) _ _ s;refine aa (W.item i s _ _ q st λv s' D a0 g=>?_);obtain⟨k,O,l⟩:=y i v D;have E:sZ (aY prog w) s'.heap S (has (met (ks.take i))) (met (ks.take i)).length led:=by obtain⟨o,c,a,t,f,p⟩:=hS;exact(o,c,a,t,g.heap S _ (λz=>h (W.sub _ z)) f,p,)
  have V:v.scannable=true:=by
   cases k with
   |inl j=>obtain⟨t,rfl⟩:=l;rfl
   |inr x=>obtain⟨t,rfl⟩:=l;rfl
  show wpAny _ A.in1 (holding [v] (setAdd S v)>>=_) _ _ s';refine aa (ba ?_);unfold setAdd;refine ba (aa ((aY prog w).pyHash (k:=k) (Mt l) ?_));have Q:=Ma (ks.take i);rw[bJ]at Q;refine addX (knd:=aY prog w) (led:=led) (s:={s' with toks:=s'.toks+1}) (Mt l) V E 'D' λC u F=>?_;have B:ks.take (i+1)=ks.take i++[k]:=by rw[cJ,O];rfl
  have H:sZ (aY prog w) C S (has (met (ks.take (i+1)))) (met (ks.take (i+1))).length led:=by rw[B,L8];obtain⟨o,c,a,t,f,N,L,M,T,K,hf,U,X⟩:=F;refine(o,c,a,t,f,N,L,M,λj=>?_,K,hf,by rw[rZ];exact U,X,);rw[<-T j,kK,C7,cR,kK,decide_eq_true_eq]
  refine aj (fj bE _,yW W S h ks r y d m (i+1) _ 'D' q (W.frame _ s' _ _ a0 (dk _) λb hq o e=>?_) H λZ Y J=>?_,);·rw[u.2 b (λz:b=S=>h (by rw[<-z];exact hq))];exact e
  .refine hR Z (rE W.gtrans ((g.mono λb d=>ax _ d).then_heap (dk _) λb o hq e=>?_) Y) J;rw[u.2 b (λz:b=S=>hq (by rw[z];exact aG))];exact e
end
section
variable {E:'I'}{s:Shared}
def Jd(a:Value)(h:Q₁ (.ref ⇑s) {s with heap:=s.heap.push (gF (!w.params.followText "set-order"))}):gA (model prog w) A (.call (.builtin "set.__new__") ([.type "set",a],[],)) (wants Q₁ E) s:=by refine tJ ?_;show wpAny _ A.in1 (do DW "set.__new__" ([.type "set",a],[],);again (.builtin "set.__new__" ([.type "set",a],[],))) _ _ s;refine aa (mI (F.newCall_set_1 a) (aj (fj F.plain_set_new _,cY F.entry_set_new ?_,)));rw[cE F.plain_set_new _];unfold Builtin.«set.__new__» Builtin.Frozenset.newClass;have c:=sub_set_self;obtain⟨b,g,d,tk,e⟩:=s;dsimp only;wp_walk;refine jo (aj ?_);dsimp only;simp only[newObj];exact aa (wpAny_alloc (aj (aj h)))
def yY{P:Bool->Heap->Prop}{Q:'I'}(D:s.heap.IsList l items)
  (I:∀(led:Bool)(R:Result->Shared->Prop),(∀s',Moved (⇑s::[(s.heap.push (gF led)).objs.size]) (λa b=>b=a) {s with heap:=(s.heap.push (gF led)).push {cls:=.type "list_iterator",data:=.fields #[.ref l,.int 0 0]}} s'->P led s'.heap->R (.ok (.ret .none)) s')->gA (model prog w) A.in1.in1 (.builtin "set.update.loop" ([.ref ⇑s,.ref (s.heap.push (gF led)).objs.size],[],)) R {s with heap:=(s.heap.push (gF led)).push {cls:=.type "list_iterator",data:=.fields #[.ref l,.int 0 0]}})
  (h:∀(h':Heap)(tk:Nat),P (!w.params.followText "set-order") h'->(∀b o,b<⇑s->s.heap.get? b<*o->h'.get? b<*o)->Q (.ref ⇑s) {s with heap:=h',toks:=tk}):
  'B' (call (.type "set") [.ref l]) Q E s:=by
 have d:=F.called_set;obtain⟨c,tl,a1⟩:=d.mro;have W:=d.made;have X:=d.sub;have Y:=d.notType;have Z:=d.canCreate;have f5:=F.typeCall_set_1 (.ref l);refine hV (tJ ?_);show wpAny _ _ (callAny (.type "set") _) _ _ _;refine aj (mQ _ (by decide+kernel),cY F.entry_type_call ?_,);rw[JV (weight_type_call_type "set" [.ref l] []) rfl];repeat(any_goals (first |assumption|wp_step))
 refine ip (Jd (.ref l) (E:=E) (Q₁:=λobj n=>∃led:Bool,led=(!w.params.followText "set-order")/\obj=.ref ⇑s/\n={s with heap:=s.heap.push (gF led)}) (_,rfl,rfl,rfl,)) λr n f=>?_;rcases r with e|fl;·exact f
 rcases fl with _|_|_|obj;·exact f.elim
 .exact f.elim
 .exact f.elim
 obtain⟨led,H,rfl,rfl⟩:=f;rw[<-H]at h;have u:(s.heap.push (gF led)).get? ⇑s<*(gF led):=az _ rfl;have x:B0 {s with heap:=s.heap.push (gF led)} (.ref ⇑s) "set":=(_,u,rfl,);have f6:=d.init.lookup;have f7:=d.init.bind (.ref ⇑s);repeat(any_goals (first |assumption|wp_step))
 refine ip (gz (R:=wants (λr p=>r=.none/\∃h' tk,p={s with heap:=h',toks:=tk}/\P led h'/\
  (∀b o,b<⇑s->s.heap.get? b<*o->h'.get? b<*o)) E) d.init.plain F.entry_set_init (check_set_init_1 x ?_)) λU p g=>?_
 .obtain⟨O,m,y,k,B⟩:=D;obtain⟨L,M,N,T⟩:=O;obtain rfl:L=.type "list":=y;obtain rfl:N=.seq items k:=B;have J:(s.heap.push (gF led)).get? l<*{cls:=.type "list",dict:=M,data:=.seq items k,slots:=T}:=af _ m;have g1:=F.sub_list_set;have g2:=F.sub_list_frozenset;have g3:(gO "list"==gO "dict")=false:=by decide
  have G:(s.heap.push (gF led)).IsList l items:=(_,J,rfl,k,rfl,);unfold Builtin.«set.__init__» noKeywords qe;generalize hPI:pyIter=PI
  wp_walk
  subst hPI;refine kO G (aa (Jv ?_));have a0:l<⇑s:=aA m;have K:(s.heap.push (gF led)).objs.size=⇑s+1:=bL _ _;refine I led _ λs' i j=>?_
  .obtain⟨h',t,q,V,S⟩:=s';obtain rfl:t=s.gens:=i.gens;obtain rfl:q=s.drawn:=i.drawn;obtain rfl:S=s.os:=i.os;show wpAny _ _ _ _ _ _;refine aj ?_;show wpAny _ _ (ret cg) _ _ _;refine aj (rfl,h',V,rfl,j,λb o hq e=>i.heap b o (λz=>?_) (af _ (af _ e)),);rcases aK.mp z with z|z;·exact aM hq z
   .exact aM (bA hq) ((aU.mp z).trans K)
 .rcases U with e|fl2;·exact g
  rcases fl2 with _|_|_|v;·exact g.elim
  .exact g.elim
  .exact g.elim
  obtain⟨rfl,h',tk,rfl,j,C⟩:=g;repeat(any_goals (first |assumption|wp_step))
  exact h _ _ j C
def yX{ks:List Key}{Q:'I'}(p:A.handled=none)(a:s.heap.IsList l items)(q:ks.length=items.size)
  (u:∀(i:Nat)(v:Value),items[i]?<*v->∃k,ks[i]?<*k/\RelV (kV k) v)(m:items.size+1<gm)
  (h:∀(h':Heap)(tk:Nat),sZ (aY prog w) h' ⇑s (has (met ks)) (met ks).length (!w.params.followText "set-order")->(∀b o,b<⇑s->s.heap.get? b<*o->h'.get? b<*o)->Q (.ref ⇑s) {s with heap:=h',toks:=tk}):
  'B' (call (.type "set") [.ref l]) Q E s:=by
 have c:l<⇑s:=let⟨_,e,_⟩:=a;aA e;refine yY (P:=λled h=>sZ (aY prog w) h ⇑s (has (met ks)) (met ks).length led) a (λled R g=>?_) h;have f:A.in1.in1.in1.handled=none:=by simp[p]
 have d:(s.heap.push (gF led)).objs.size=⇑s+1:=bL _ _;have r:l≠(s.heap.push (gF led)).objs.size:=by rw[d];exact aM (bA c)
 have t:⇑s∉[(s.heap.push (gF led)).objs.size,l]:=by
  rw[d];intro z;rcases aK.mp z with z|z;·exact aM (dj _) z
  .exact eM c (aU.mp z)
 have j:(s.heap.push (gF led)).get? ⇑s<*(gF led):=az _ rfl;refine yW (led:=led) ((BL f _ l r items).toS) ⇑s t ks q u m (items.size-0) 0 _ 'D' (bf _) ((_,az _ rfl,rfl,rfl,),(a.push _).push _,) ?_ g;exact(gF led,#[],0,_,af _ j,(rfl,rfl,rfl,),rfl,λe n=>by simp at n,λk=>by simp[met,has],'E',by rfl,rfl,(i9,rfl,),rfl,)
end
def Jg(m:X.calm=true):fG X (.type "set") (rSet X.K):=by intro M s P H O N Q I r h;obtain⟨p,ks,rfl,hq,K,q⟩:=h;obtain⟨u,rfl,C⟩:=vals1 r;cases C;obtain⟨L,g,A,_⟩:=I.list hq;have f:=g.length;rw[ao]at f;refine yX (ks:=ks) (I.ok.hd m) A.isList (by rw[aE];exact f) (λi v e=>A6 g i v ↥e) (by rw[aE,<-f];unfold gm;lia) λD tk j y=>?_;refine(.ref ⇑s,_,I.laid (t':=tk) (λb o e=>y b o (aA e) e) (aC _) (show eA X.prog X.w _ _ _ (Co _ (met ks).length)from ?_),rfl,q _ (I.hok.fresh (aC _)),);obtain⟨o,d,c,t,a,w,n,G,J,l,hf,x⟩:=j.of;refine((o,d,c,t,a,w,n,l,hf,x,),(o,a,),λE F z k=>?_,);obtain⟨o,d,c,t,a,B⟩:=z;exact(o,d,c,t,k o a,B,)
end Q
set_option maxHeartbeats 4000000
namespace Q
theorem jC{c:Type}:∀{l:List c}{i:Nat}(h:i<l.length),(l[i]::l.eraseIdx i).Perm l
 |a::l,0,_=>fm _
 |a::l,i+1,h=>by
  have hi:i<l.length:=by simpa using h
  have b:=jC hi;show(l[i]::a::l.eraseIdx i).Perm (a::l);exact(pI _ _ _).trans (b.cons a)
theorem GF{c:Type}(next :Nat->Nat):∀(fuel k:Nat)(b:List c)(out:Array c),b.length<=fuel->(BG next fuel k b out).toList.Perm (out.toList++b)
 | 0,k,b,out,h=>by have e:b=[]:=bP.mp 'D';subst e;simp[BG]
 |fuel+1,k,b,out,h=>by
  unfold BG;cases b with
  |nil=>simp
  |cons a l=>
   have hi:next k%(a::l).length<(a::l).length:=nr _ 'F'
   rw[ae hi];dsimp only;refine(GF next fuel (k+1) _ _ (by rw[B3 hi];simp at h⊢;lia)).trans ?_;rw[vL,fT];exact List.Perm.append_left _ (jC hi)
def pN{a:Type}(next :Nat->Nat)(xs:Array a):(jZ next xs).toList.Perm xs.toList:=by unfold jZ;exact(GF next xs.size 0 xs.toList #[] 'F').trans 'F'
section
variable {M:Model}{E:'I'}
def yu{a:Source}{Q:Nat->Shared->Prop}(h:n≠0)(q:∀i d,i<n->Q i {s with drawn:=d}):wpAny M A (choose a n) Q E s:=λc p b=>by unfold choose;rw[Sem.wp_choose];exact(h,q _ _ (nr _ (Nat.pos_of_ne_zero h)),)
theorem zx{b:Type}:∀(n:Nat)(xs:List b)(s:Shared)(Q:List b->Shared->Prop),xs.length<=n->(∀ys d,ys.Perm xs->Q ys {s with drawn:=d})->wpAny M A (drawOrder n xs) Q E s
 | 0,xs,s,Q,h,q=>by have e:xs=[]:=bP.mp 'D';subst e;unfold drawOrder;exact aj (q [] s.drawn (fm _))
 |n+1,[],s,Q,h,q=>by unfold drawOrder;exact aj (q [] s.drawn (fm _))
 |n+1,a::l,s,Q,h,q=>by unfold drawOrder;refine aa (yu 'F' λi d hi=>?_);rw[ae hi];dsimp only;refine aa (zx n _ _ _ (by rw[B3 hi];simp at h⊢;lia) λys c f=>aj ?_);exact q _ c ((f.cons _).trans (jC hi))
end
end Q
set_option maxHeartbeats 3200000
namespace Q
open PySem.W L2
def gu:Slot "set_iterator" "__next__" "set_iterator.__next__":=
 .of (owner:="set_iterator") (n:="__next__") (by rw[typeLookup_type,builtinLookup_eq_fast];kernel_rfl) (by decide+kernel) (by decide+kernel) (by decide+kernel) (by first |exact .inl (by decide+kernel) |exact .inr (by decide+kernel)) (by rw[JC];kernel_rfl)
def qp:JE table "set_iterator.__next__"<*Builtin.«set_iterator.__next__»:=entryFor_of_tree (by kernel_rfl)
def sW(a:Value):argsOk "set_iterator.__next__" ([a],[],):=by unfold argsOk;kernel_rfl
def vB:JE table "set.__iter__"<*Builtin.«frozenset.__iter__»:=entryFor_alias (id':="frozenset.__iter__") (by kernel_rfl) rfl (by decide+kernel) (by kernel_rfl)
noncomputable abbrev siO(S:Addr)(first :Value)(i n ep:Nat):Obj:={cls:=.type "set_iterator",dict:=none,data:=.fields #[first,.int i 0,.ref S,.int n 0,.int ep 0],slots:= #[]}
section
variable {E:'I'}{s:Shared}
abbrev jK(es:Array (Int×Value))(t:aQ):Bool:= !t.plain&&es.size>1
def rK{o:Obj}{t:aQ}{Q:Bool->Shared->Prop}(c:s.heap.get? a<*o)(b:o.data=.set es ep t)(hf:t.fits es.size=true)(h:Q (!w.params.followText "set-order"&&jK es t) s):
  'B' (setDrawn a) Q E s:=by
 unfold setDrawn Jz;refine aa (cf c b hf ?_);dsimp only;refine aa (aa (jo (aj (aj ?_))));exact h
def Mv{o:Obj}{t:aQ}{Q:'I'}(b:s.heap.get? S<*o)(h:o.cls=.type "set")(a:o.data=.set es ep t)(hf:t.fits es.size=true)(l:es.size<gm)
  (f:(!w.params.followText "set-order"&&jK es t)=false->Q (.ref ⇑s) {s with heap:=s.heap.push (siO S (.int 0 0) 0 es.size ep)})
  (g:(!w.params.followText "set-order"&&jK es t)=true->∀(ps:List Nat)(d:Drawn),ps.Perm (aF es.size)->Q (.ref (⇑s+1)) {s with drawn:=d,heap:=(s.heap.push {cls:=.type "tuple",data:=.seq (ps.map λ(i:Nat)=>rawInt i).toArray}).push (siO S (.ref ⇑s) 0 es.size ep)}):
  'B' (pyIter (.ref S)) Q E s:=by
 have c:s.TypeIs (.ref S) "set":=(o,b,h,);refine wpAny_pyIter_slot c F.slot_set_iter (cB F.slot_set_iter c vB ?_ (F.args_set_iter_1 _));unfold Builtin.«frozenset.__iter__» Builtin.Frozenset.slot0 Builtin.Frozenset.sizeOf
 wp_walk
 have j:(t.place.size != es.size||decide (t.fill>t.mask))=false:=by simp only[rD,aB,beq_iff_eq,decide_eq_true_eq]at hf;simp[hf.1,vK.mpr hf.2]
 rw[a];dsimp only;rw[if_neg (by rw[j];decide)];refine aj (aj (aj ?_));refine aa (rK b a hf ?_);dsimp only;cases hb:(!w.params.followText "set-order"&&jK es t)with
 |false=>rw[if_neg 'E'];refine aa (aj (aa (wpAny_setEpoch_of b a hf ?_)));refine aa (bR (aj (_,rfl,"set_iterator",_,(_,az _ rfl,rfl,),gu.lookup,f hb,)))
 |true=>rw[if_pos rfl];refine aa (zx _ _ _ _ 'F' λps d e=>?_);refine aa (bR ?_ (by show(ps.map λ(i:Nat)=>rawInt i).toArray.size<=sizeLine;rw[aE,ao,e.length_eq,bC];exact p5 l));have k:(s.heap.push {cls:=.type "tuple",data:=.seq (ps.map λ(i:Nat)=>rawInt i).toArray}).get? S<*o:=af _ b;refine aa (wpAny_setEpoch_of (s:={s with drawn:=d,heap:=s.heap.push {cls:=.type "tuple",data:=.seq (ps.map λ(i:Nat)=>rawInt i).toArray}}) k a hf ?_);have m:(s.heap.push {cls:=.type "tuple",data:=.seq (ps.map λ(i:Nat)=>rawInt i).toArray}).objs.size=⇑s+1:=bL ..;refine aa (bR (aj (_,rfl,"set_iterator",_,(_,az _ rfl,rfl,),gu.lookup,?_,)));have :=g hb ps d e;rw[<-m]at this;exact this
end
section
variable {E:'I'}{s:Shared}
structure md(h:Heap)(S:Addr)(es:Array (Int×Value))(ep:Nat)(t:aQ):Prop where
 ob:∃o,h.get? S<*o/\o.cls=.type "set"/\o.data=.set es ep t
 fit:t.fits es.size=true
def kZ{first :Value}{t:aQ}{Q:eL->Shared->Prop}(hi:s.heap.get? I<*(siO S first i es.size ep))(hs:md s.heap S es ep t)
  (h:'B' (match first with
   |.int slot _=>do
    match<-setNext S slot.toNat i ep with
    |some (x,next)=>do
     vG (.ref I) 0 (rawInt next)
     vG (.ref I) 1 (rawInt ((i:Int)+1))
     ret x
    |none=>do
     vG (.ref I) 2 .none
     JB (<-newExc (.type "StopIteration") [])
   |_=>do
    let some places<-jY first |unsupported "internal:set_iterator"
    match places[i]? with
    |some (.int place _)=>do
     let x<-setNextDrawn S place.toNat ep
     vG (.ref I) 1 (rawInt ((i:Int)+1))
     ret x
    |some _=>unsupported "internal:set_iterator"
    |none=>do
     vG (.ref I) 0 (rawInt 0)
     vG (.ref I) 2 .none
     JB (<-newExc (.type "StopIteration") [])) Q E s):
  'B' (Builtin.«set_iterator.__next__» ([.ref I],[],)) Q E s:=by
 obtain⟨⟨o,b,c,a⟩,hf⟩:=hs;unfold Builtin.«set_iterator.__next__»;show wpAny _ _ (fieldsOf (.ref I)>>=_) _ _ _;refine aa (wpAny_fieldsOf hi rfl ?_);dsimp only;refine aa (wpAny_setEntries_of b a hf ?_);rw[if_neg 'F'];exact h
def nxA{t:aQ}{o:Obj}{Q:Option (Value×Nat)->Shared->Prop}(c:w.params.followText "set-order"=true)(b:s.heap.get? S<*o)(a:o.data=.set es ep t)(hf:t.fits es.size=true)
  (q:Q ((jZ (w.params.setOrder S ep) es)[i]?.map λe=>(e.2,k)) s):'B' (setNext S k i ep) Q E s:=by
 unfold setNext Jz;refine aa (cf b a hf ?_);dsimp only;refine aa (aa (jo (aj ?_)));dsimp only;rw[show(model prog w).w.params.followText "set-order"=true from c];simp only[if_true,bne_self_eq_false,aJ,if_false];refine aa ?_;unfold setWalk Jz;refine aa (cf b a hf ?_);dsimp only;refine aa (aa (jo (aj ?_)));dsimp only;rw[show(model prog w).w.params.followText "set-order"=true from c];simp only[if_true];exact aa (jo (aj (aj q)))
def nxB{t:aQ}{o:Obj}{Q:Option (Value×Nat)->Shared->Prop}(h:w.params.followText "set-order"=false)(e:jK es t=false)(f:t.led=true)(g:s.heap.get? S<*o)(d:o.data=.set es ep t)(hf:t.fits es.size=true)(b:cG t.place k=i)
  (l:∀x j,es[i]?<*x->t.place[i]?<*j->Q (some (x.2,j+1)) s)(m:es[i]? =none->Q none s):'B' (setNext S k n ep) Q E s:=by
 unfold setNext Jz;refine aa (cf g d hf ?_);dsimp only;refine aa (aa (jo (aj ?_)));dsimp only;rw[show(model prog w).w.params.followText "set-order"=false from h];simp only[aJ,if_false];rw[if_neg (λz=>by have c:jK es t=true:=z;rw[e]at c;cases c)];refine aa (show wpAny _ _ (if(!t.led&& !es.isEmpty)=true then unsupported "set:maker-not-led" else pure ()) _ _ _ from ?_);rw[if_neg (by rw[f];simp)];refine aj (aj ?_);cases hx:es[i]? with
 |none=>simp only[b,hx];exact m hx
 |some x=>
  have q:t.place.size=es.size:=by simp only[rD,aB,beq_iff_eq]at hf;exact hf.1
  have p:i<es.size:=(cq.mp hx).1;have a:t.place[i]?<*(t.place[i]''D'):=by simp[show i<t.place.size by lia]
  simp only[b,hx,a];exact l x _ hx a
def nextA{t:aQ}{x:Int×Value}{Q:eL->Shared->Prop}(g:w.params.followText "set-order"=true)(hi:s.heap.get? I<*(siO S (.int k 0) i es.size ep))(hs:md s.heap S es ep t)
  (j:(jZ (w.params.setOrder S ep) es)[i]?<*x)(h:∀h',h'.get? I<*(siO S (.int k 0) (i+1) es.size ep)->cU I s.heap h'->Q (.done (.ret x.2)) {s with heap:=h'}):
  'B' (Builtin.«set_iterator.__next__» ([.ref I],[],)) Q E s:=by
 refine kZ hi hs ?_;obtain⟨⟨o,f,n,e⟩,hf⟩:=hs;refine aa (nxA g f e hf ?_);rw[j,k7];dsimp only;refine aa (eH hi 'F' λd a l=>?_);have a:d.get? I<*(siO S (.int k 0) i es.size ep):=a;refine aa (eH a 'F' λc b m=>?_);have b:c.get? I<*(siO S (.int k 0) (i+1) es.size ep):=b;exact aj (h c b (l.trans m))
def nextB{t:aQ}{x:Int×Value}{Q:eL->Shared->Prop}(r:w.params.followText "set-order"=false)(m:jK es t=false)(p:t.led=true)(hi:s.heap.get? I<*(siO S (.int k 0) i es.size ep))(hs:md s.heap S es ep t)
  (n:cG t.place k=i)(e:es[i]?<*x)(h:∀h' j,t.place[i]?<*j->h'.get? I<*(siO S (.int (j+1:Nat) 0) (i+1) es.size ep)->cU I s.heap h'->Q (.done (.ret x.2)) {s with heap:=h'}):
  'B' (Builtin.«set_iterator.__next__» ([.ref I],[],)) Q E s:=by
 refine kZ hi hs ?_;obtain⟨⟨o,q,B,l⟩,hf⟩:=hs;refine aa (nxB r m p q l hf n (λy j c f=>?_) λz=>by rw[e]at z;cases z);rw[e]at c;cases c;dsimp only;refine aa (eH hi 'F' λg a u=>?_);have a:g.get? I<*(siO S (.int (j+1:Nat) 0) i es.size ep):=a;refine aa (eH a 'F' λd b v=>?_);have b:d.get? I<*(siO S (.int (j+1:Nat) 0) (i+1) es.size ep):=b;exact aj (h d _ f b (u.trans v))
def nextC{tk:Tok}{t:aQ}{ps:Array Value}{c:Obj}{x:Int×Value}{Q:eL->Shared->Prop}(hi:s.heap.get? I<*(siO S (.ref T) i es.size ep))(hs:md s.heap S es ep t)
  (d:s.heap.get? T<*c)(e:c.data=.seq ps m)(j:ps[i]?<*(.int p tk))(k:es[p]?<*x)(h:∀h',h'.get? I<*(siO S (.ref T) (i+1) es.size ep)->cU I s.heap h'->Q (.done (.ret x.2)) {s with heap:=h'}):
  'B' (Builtin.«set_iterator.__next__» ([.ref I],[],)) Q E s:=by
 refine kZ hi hs ?_;obtain⟨⟨o,g,n,f⟩,hf⟩:=hs;dsimp only;refine aa (eP d e ?_);simp only[j,bo];refine aa ?_;unfold setNextDrawn;refine aa (cf g f hf ?_);simp only[bne_self_eq_false,aJ,if_false,k];refine aj ?_;refine aa (eH hi 'F' λb a l=>?_);have a:b.get? I<*(siO S (.ref T) (i+1) es.size ep):=a;exact aj (h b a l)
end
section
variable {E:'I'}{s:Shared}
def qP{d:Type}{Q:d->Shared->Prop}(b:A.handled=none)(h:∀h' e,(∀c o,s.heap.get? c<*o->h'.get? c<*o)->(∃o,h'.get? e<*o/\o.cls=.type "StopIteration")->E (.ref e) {s with heap:=h'}):
  'B' (newExc (.type "StopIteration") []>>=λx=>JB x) Q E s:=by
 refine aa ?_;simp only[newExc,newTuple];refine aa (bR ?_ (by size_fits));refine aa (m:=vJ _ _) (mI (a:=cg) (by first |rfl| (simp only[vJ];rfl)) ?_);refine bR ?_ (by size_fits);simp only[JB];refine aa (wpAny_handled ?_);rw[b];refine aa (aj (wpAny_throw ?_));exact h _ _ (λc o e=>af _ (af _ e)) (_,az _ rfl,rfl,)
def Ends(E:'I')(I:Addr)(s:Shared):Prop:=∀h' e,(∀c o,c≠I->s.heap.get? c<*o->h'.get? c<*o)->(∃o,h'.get? e<*o/\o.cls=.type "StopIteration")->E (.ref e) {s with heap:=h'}
def endA{t:aQ}{Q:eL->Shared->Prop}(i:A.handled=none)(l:w.params.followText "set-order"=true)(hi:s.heap.get? I<*(siO S (.int k 0) es.size es.size ep))(hs:md s.heap S es ep t)(h:Ends E I s):
  'B' (Builtin.«set_iterator.__next__» ([.ref I],[],)) Q E s:=by
 have m:(jZ (w.params.setOrder S ep) es)[es.size]? =none:=by have :=(pN (w.params.setOrder S ep) es).length_eq;simp at this⊢;lia
 refine kZ hi hs ?_;obtain⟨⟨o,j,u,f⟩,hf⟩:=hs;refine aa (nxA l j f hf ?_);rw[m,Option.map_none];dsimp only;refine aa (eH hi 'F' λd r p=>?_);exact qP (s:={s with heap:=d}) i λb e n g=>h b e (λc o a q=>n c o (p.extBut c o a q)) g
def endB{t:aQ}{Q:eL->Shared->Prop}(m:A.handled=none)(u:w.params.followText "set-order"=false)(i:jK es t=false)(p:t.led=true)(hi:s.heap.get? I<*(siO S (.int k 0) es.size es.size ep))(hs:md s.heap S es ep t)
  (n:cG t.place k=es.size)(h:Ends E I s):'B' (Builtin.«set_iterator.__next__» ([.ref I],[],)) Q E s:=by
 refine kZ hi hs ?_;obtain⟨⟨o,r,C,g⟩,hf⟩:=hs;refine aa (nxB u i p r g hf n (λy j b B=>by simp at b) λ_=>?_);dsimp only;refine aa (eH hi 'F' λf z x=>?_);exact qP (s:={s with heap:=f}) m λd e v l=>h d e (λc o a q=>v c o (x.extBut c o a q)) l
def endC{t:aQ}{ps:Array Value}{d:Obj}{Q:eL->Shared->Prop}(n:A.handled=none)(hi:s.heap.get? I<*(siO S (.ref T) es.size es.size ep))(hs:md s.heap S es ep t)(j:s.heap.get? T<*d)(k:d.data=.seq ps m)(y:ps.size=es.size)(h:Ends E I s):
  'B' (Builtin.«set_iterator.__next__» ([.ref I],[],)) Q E s:=by
 refine kZ hi hs ?_;dsimp only;refine aa (eP j k ?_);have p:ps[es.size]? =none:=by simp;lia
 simp only[p];refine aa (eH hi 'F' λg a u=>?_);have a:g.get? I<*(siO S (.int 0 0) es.size es.size ep):=a;refine aa (eH a 'F' λi x v=>?_);exact qP (s:={s with heap:=i}) n λf e r l=>h f e (λc o b q=>r c o (v.extBut c o b (u.extBut c o b q))) l
end
def rO:Slot "set_iterator" "__iter__" "set_iterator.__iter__":=
 .of (owner:="set_iterator") (n:="__iter__") (by rw[typeLookup_type,builtinLookup_eq_fast];kernel_rfl) (by decide+kernel) (by decide+kernel) (by decide+kernel) (by first |exact .inl (by decide+kernel) |exact .inr (by decide+kernel)) (by rw[JC];kernel_rfl)
def yD:JE table "set_iterator.__iter__"<*Builtin.«dict_keyiterator.__iter__»:=
 entryFor_alias (id':="dict_keyiterator.__iter__") (by kernel_rfl) (by first |rfl|decide+kernel) (by decide+kernel) (by kernel_rfl)
def BB(a:Value):argsOk "set_iterator.__iter__" ([a],[],):=by unfold argsOk;kernel_rfl
section
variable {E:'I'}{s:Shared}
def AA{Q:Option Value->Shared->Prop}(b:s.TypeIs (.ref I) "set_iterator")(h:∀(a:eL->Shared->Prop)(c:'I'),(∀v h',Q (some v) {s with heap:=h'}->a (.done (.ret v)) {s with heap:=h'})->wpAny (model prog w) A.in1 (Builtin.«set_iterator.__next__» ([.ref I],[],)) a c s):
  'B' (pyNext (.ref I)) Q E s:=by
 unfold pyNext;exact aa (jH (dN (name:=bh "__next__") b gu (cB gu b qp (h _ _ λv h' q=>(_,rfl,aj q,)) (sW _))))
def AB{Q:Option Value->Shared->Prop}(d:s.TypeIs (.ref I) "set_iterator")(h:∀(f:eL->Shared->Prop)(a:'I'),(∀h' e,(∀c o,c≠I->s.heap.get? c<*o->h'.get? c<*o)->(∃o,h'.get? e<*o/\o.cls=.type "StopIteration")->a (.ref e) {s with heap:=h'})->wpAny (model prog w) A.in1 (Builtin.«set_iterator.__next__» ([.ref I],[],)) f a s)
  (q:∀h',(∀c o,c≠I->s.heap.get? c<*o->h'.get? c<*o)->Q none {s with heap:=h'}):'B' (pyNext (.ref I)) Q E s:=by
 unfold pyNext;refine aa (jH (dN (name:=bh "__next__") d gu (cB gu d qp (h _ _ λh' e k j=>?_) (sW _))));obtain⟨o,g,i⟩:=j;exact aa (rm (T:="StopIteration") (b:=true) (o,g,i,) isSubtype_stop (aj (q _ k)))
def Az{Q:'I'}(a:s.TypeIs (.ref I) "set_iterator")(h:Q (.ref I) s):'B' (pyIter (.ref I)) Q E s:=by refine wpAny_pyIter_slot a rO (cB rO a yD ?_ (BB _));show wpAny _ _ (ret (.ref I)) _ _ s;exact aj (_,rfl,"set_iterator",_,a,gu.lookup,h,)
end
def md.at{t:aQ}(x:md h S es ep t)(k:∀o,h.get? S<*o->h'.get? S<*o):md h' S es ep t:=let⟨⟨o,a,b,c⟩,f⟩:=x;((o,k o a,b,c,),f,)
def walkA(y:A.handled=none)(l:w.params.followText "set-order"=true)(ne:S≠I)(a:Array (Int×Value))(c:Nat)(t:aQ):
  Walks prog w A I [I,S] [I] a.size (λi v=>((jZ (w.params.setOrder S c) a).toList.map (·.2))[i]?<*v) (λi h=>md h S a c t/\∃k:Nat,h.get? I<*(siO S (.int k 0) i a.size c)) where
 sub:=λb d=>by simp at d⊢;exact .inl d
 frame:=λi h f ⟨x,k,e⟩ g=>⟨x.at λo q=>g S 'F' o q,k,g I 'F' _ e⟩
 item:=λi s Q E hi ⟨x,k,e⟩ j=>by
  have B:=(pN (w.params.setOrder S c) a).length_eq;simp only[aV]at B;have m:(jZ (w.params.setOrder S c) a)[i]?<*((jZ (w.params.setOrder S c) a)[i]''D'):=by simp[show i<(jZ (w.params.setOrder S c) a).size by lia]
  refine AA (_,e,rfl,) λr p q=>nextA l e x m λf u n=>q _ f ?_;exact j _ f s.toks (by simp[m]) (x.at λo z=>n.extBut S o ne z,k,u,) λb o d z=>n.extBut b o ↥d z
 done:=λs Q E ⟨x,k,e⟩ j=>AB (_,e,rfl,) (λr p q=>endA (by simp[y]) l e x q) λf g=>j f s.toks λb o d z=>g b o ↥d z
 self:=λi s Q E ⟨x,k,e⟩ q=>Az (_,e,rfl,) q
def walkB(G:A.handled=none)(r:w.params.followText "set-order"=false)(ne:S≠I)(a:Array (Int×Value))(m:Nat)(t:aQ)(n:jK a t=false)(p:t.led=true)(F:i5 t):
  Walks prog w A I [I,S] [I] a.size (λi v=>(a.toList.map (·.2))[i]?<*v) (λi h=>md h S a m t/\∃k:Nat,cG t.place k=i/\h.get? I<*(siO S (.int k 0) i a.size m)) where
 sub:=λb c=>by simp at c⊢;exact .inl c
 frame:=λi h f ⟨x,k,d,e⟩ g=>⟨x.at λo q=>g S 'F' o q,k,d,g I 'F' _ e⟩
 item:=λi s Q E hi ⟨x,k,d,e⟩ l=>by
  have u:a[i]?<*a[i]:=by simp[hi]
  refine AA (_,e,rfl,) λC B q=>nextB r n p e x d u λf j H D y=>q _ f ?_;exact l _ f s.toks (by simp[u]) (x.at λo z=>y.extBut S o ne z,j+1,FQ F.up H,D,) λb o c z=>y.extBut b o ↥c z
 done:=λs Q E ⟨x,k,d,e⟩ l=>AB (_,e,rfl,) (λC B q=>endB (by simp[G]) r n p e x d q) λf g=>l f s.toks λb o c z=>g b o ↥c z
 self:=λi s Q E ⟨x,k,d,e⟩ q=>Az (_,e,rfl,) q
def walkC(C:A.handled=none)(ne:S≠I)(F:T≠I)(a:Array (Int×Value))(m:Nat)(t:aQ)(ps:List Nat)(k:ps.Perm (aF a.size)):
  Walks prog w A I [I,S,T] [I] a.size (λi v=>(ps.map λp=>(a.getD p (0,.none)).2)[i]?<*v) (λi h=>md h S a m t/\h.get? T<*{cls:=.type "tuple",data:=.seq (ps.map λ(i:Nat)=>rawInt i).toArray}/\h.get? I<*(siO S (.ref T) i a.size m)) where
 sub:=λb c=>by simp at c⊢;exact .inl c
 frame:=λi h d ⟨x,z,e⟩ f=>⟨x.at λo q=>f S 'F' o q,f T 'F' _ z,f I 'F' _ e⟩
 item:=λi s Q E hi ⟨x,z,e⟩ g=>by
  have G:ps.length=a.size:=by rw[k.length_eq,bC]
  have j:i<ps.length:=by lia
  have n:ps[i]<a.size:=aR.mp (k.mem_iff.mp (bQ j));have D:a[ps[i]]?<*a[ps[i]]:=by simp[n]
  refine AA (_,e,rfl,) λu r q=>nextC (p:=ps[i]) (tk:=0) e x z rfl (by simp[j,rawInt]) D λd B l=>q _ d ?_;exact g _ d s.toks (by simp[j,n,N2]) (x.at λo y=>l.extBut S o ne y,l.extBut T _ F z,B,) λb o c y=>l.extBut b o ↥c y
 done:=λs Q E ⟨x,z,e⟩ g=>AB (_,e,rfl,) (λu r q=>endC (by simp[C]) e x z rfl (by simp[k.length_eq]) q) λd f=>g d s.toks λb o c y=>f b o ↥c y
 self:=λi s Q E ⟨x,z,e⟩ q=>Az (_,e,rfl,) q
end Q
namespace Q
open PySem.W L2
section
variable {E:'I'}{s:Shared}
def ite_yes{a:Type}{M:Model}{b:Bool}{x y:Sem a}{Q:a->Shared->Prop}(c:b=true)(h:wpAny M A x Q E s):wpAny M A (if b=true then x else y) Q E s:=by rw[if_pos c];exact h
def Dl{Q:Bool->Shared->Prop}(a:s.TypeIs (.ref S) "set")(h:Q false s):'B' (uO (.ref S)) Q E s:=by
 unfold uO;refine aa (tF a F.slot_set_len.lookup ?_);generalize hid:("set.__len__":String)=id0
 (fail_if_success (clear hid id0))
 wp_delta
 rw[show splitId id0<*("set","__len__")from by subst hid;decide+kernel];subst hid;refine aa (rm (b:=true) a (by rw[JC];kernel_rfl) ?_);rw[if_neg 'E'];refine ite_yes (by decide+kernel) (aa (hO a ?_));exact aj h
noncomputable abbrev ke(ac:Array Value)(c:Nat):Obj:={cls:=.type "list",dict:=none,data:=.seq ac c,slots:= #[]}
def touch{c:Nat}{Q:Unit->Shared->Prop}(f:s.heap.get? L<*(ke ac c))(hz:ac.size<=5000)(h:∀h' c',h'.get? L<*(ke ac c')->cU L s.heap h'->Q () {s with heap:=h'}):'B' (mR (.ref L)) Q E s:=by have g:ac.size<=sizeLine:=aT hz 'E';unfold mR;refine aa (gG f rfl ?_ g (by simp;lia));have a:∃e,(s.heap.update L (bq λx=>x.push cg)).get? L<*(ke (ac.push .none) e):=⟨_,by rw[bK _ f rfl];rfl⟩;obtain⟨e,a⟩:=a;refine gG (s:={s with heap:=s.heap.update L (bq λx=>x.push cg)}) a rfl ?_ (by simp;exact aT (by lia:ac.size+1<=5001) 'E') (by simp;lia);have d:∃b,((s.heap.update L (bq λx=>x.push cg)).update L (bq λx=>x.pop)).get? L<*(ke ac b):=⟨_,by rw[bK _ a rfl];simp[bq];rfl⟩;obtain⟨b,d⟩:=d;exact h _ b d ((bM ..).trans (bM ..))
def xr{k:List Addr}{P:Nat->Value->Prop}{St:Nat->Heap->Prop}{i:Value}{c:Nat}{R:Result->Shared->Prop}(hq:∀c' s',c'.quiet=true/\gA (model prog w) A c' R s'->Qf (.again c') s')(W:Walks prog w A.in1 I fp k n P St)(u:n<=sizeLine)(g:L∉fp)(q:s.heap.get? L<*(ke #[] c))(st:St 0 s.heap)
  (h:∀s' ac c',(∀b o,b∉L::k->s.heap.get? b<*o->s'.heap.get? b<*o)->s'.gens=s.gens->s'.drawn=s.drawn->s'.os=s.os->s'.heap.get? L<*(ke ac c')->ItemsOf P ac n->R (.ok (.ret i)) s'):
  wpAny (model prog w) A.in1 (do
   rule "list.extend.makes-room"
   let f<-mR (.ref L)
   (λ(f:Unit)=>again (Code.builtin "list.extend.loop" {pos:=[aN L,aN I,i]})) f) Qf E s:=by
 refine aa (hU (aa (touch q 'F' λp x m j=>?_)));have v:=W.frame 0 s.heap p st λb a o e=>j.extBut b o (λz=>g (z▸a)) e;refine aj (hq _ _ (fj F.plain_extend_loop _,codeAny_extend_loopS W.toS u _ g _ n 0 _ _ _ rfl (bf _) v m (ItemsOf.nil P) λs' l c' d r t=>?_,));exact h s' l c' (λb o a e=>d.heap b o a (j.extBut b o (λz=>a (by rw[z];exact aG)) e)) d.gens d.drawn d.os r t
end
def Fh(h:ItemsOf (λi v=>vs[i]?<*v) ac vs.length):ac.toList=vs:=by
 obtain⟨c,d⟩:=h;apply cQ;·simpa using c
 .intro i a b;have :vs[i]?<*ac[i]:=d i ac[i] 'F';rw[ae b]at this;simpa using(aW this).symm
def es_map(c:Array (Int×Value)):((aF c.size).map λp=>(c.getD p (0,.none)).2)=c.toList.map (·.2):=by
 apply cQ;·simp
 .intro i a b;have hi:i<c.size:=by simpa using a
  simp[hi,N2]
section
variable {E:'I'}{s:Shared}
def vb{o:Obj}{t:aQ}{Q:List Value->Shared->Prop}(I:A.handled=none)(N:s.heap.get? S<*o)(n:o.cls=.type "set")(H:o.data=.set es ep t)(hf:t.fits es.size=true)(P:es.size<gm)(M:i5 t)(Y:w.params.followText "set-order"=false->t.led=true)
  (U:∀(vs:List Value) s',vs.Perm (es.toList.map (·.2))->(∀b o,s.heap.get? b<*o->s'.heap.get? b<*o)->s'.gens=s.gens->s'.os=s.os->⇑s<⇑s'->Q vs s'):'B' (collect (.ref S)) Q E s:=by
 have m:S<⇑s:=aA N;have K:es.size<=sizeLine:=p5 P;unfold collect;refine aa (Jv (cY F.entry_proto_collect ?_));rw[cE F.plain_proto_collect _];show wpAny _ A.in1 (newList []>>=λa1=>again (.builtin "list.__iadd__" ([a1,.ref S],[],))) _ _ s;refine aa (bR ?_);refine aj (fj F.plain_list_iadd _,cY F.entry_list_iadd ?_,);rw[cE F.plain_list_iadd _];have G:(s.heap.push (ke #[] 0)).get? ⇑s<*(ke #[] 0):=az _ rfl;have u:(s.heap.push (ke #[] 0)).get? S<*o:=af _ N;have x:(s.heap.push (ke #[] 0)).objs.size=⇑s+1:=bL ..;have V:B0 {s with heap:=s.heap.push (ke #[] 0)} (.ref S) "set":=(o,u,n,);show wpAny _ A.in1 (uP (.ref ⇑s) (.ref S) (.ref ⇑s)) _ _ {s with heap:=s.heap.push (ke #[] 0)};unfold uP;refine aa (hO V ?_);rw[if_neg (by simp[Builtin.List.listSameRef];exact eM m)];have D:∀(vs:List Value)(s':Shared)(c:Array Value)(a:Nat),vs.length=es.size->vs.Perm (es.toList.map (·.2))->(∀b o,s.heap.get? b<*o->s'.heap.get? b<*o)->s'.gens=s.gens->s'.os=s.os->s'.heap.get? ⇑s<*(ke c a)->ItemsOf (λi a3=>vs[i]?<*a3) c es.size->
   'B' (load ⇑s>>=λa4=>match a4.data with |.seq xs _=>pure xs.toList|_=>unsupported "internal:collect") Q E s':=λvs s' c a r v j l B e g=>by
  refine aa (wpAny_load e ?_);rw[<-r]at g;have :=Fh g;exact aj (by rw[this];exact U vs s' v j l B (aA e))
 refine aa (Mv u n H hf P (λJ=>?_) λJ f d v=>?_)
 .rw[x];refine aa (ba (Dl (o,af _ u,n,) ?_));refine ite_yes (by decide+kernel) ?_;have z:((s.heap.push (ke #[] 0)).push (siO S (.int 0 0) 0 es.size ep)).get? (⇑s+1)<*(siO S (.int 0 0) 0 es.size ep):=by rw[<-x];exact az _ rfl
  have L:md ((s.heap.push (ke #[] 0)).push (siO S (.int 0 0) 0 es.size ep)) S es ep t:=((o,af _ u,n,H,),hf,);have C:⇑s∉[⇑s+1,S]:=by simp only[aK,dh,or_false,not_or];exact(aM (dj _),eM m,)
  have R:∀(s':Shared),(∀b o,b∉⇑s::[⇑s+1]->((s.heap.push (ke #[] 0)).push (siO S (.int 0 0) 0 es.size ep)).get? b<*o->s'.heap.get? b<*o)->∀b o,s.heap.get? b<*o->s'.heap.get? b<*o:=λs' k b o e=>by have p:=aA e;refine k b o ?_ (af _ (af _ e));simp only[aK,dh,or_false,not_or];exact(aM p,aM (bA p),)
  cases hw:w.params.followText "set-order" with
  |true=>
   have r:((jZ (w.params.setOrder S ep) es).toList.map (·.2)).length=es.size:=by have :=(pN (w.params.setOrder S ep) es).length_eq;simpa using this
   refine xr (s:={s with heap:=(s.heap.push (ke #[] 0)).push (siO S (.int 0 0) 0 es.size ep)}) (λa s' h=>h) (walkA (A:=A.in1) (by simp[I]) hw (aM (bA m)) es ep t) K C (af _ G) (L,0,z,) λs' c a j l B y e g=>?_;exact D _ s' c a r ((pN (w.params.setOrder S ep) es).map _) (R s' j) l y e g
  |false=>
   have X:jK es t=false:=by rw[hw]at J;simpa using J
   refine xr (s:={s with heap:=(s.heap.push (ke #[] 0)).push (siO S (.int 0 0) 0 es.size ep)}) (λa s' h=>h) (walkB (A:=A.in1) (by simp[I]) hw (aM (bA m)) es ep t X (Y hw) M) K C (af _ G) (L,0,FP M.up,z,) λs' c a j l B y e g=>?_;exact D _ s' c a 'F' (fm _) (R s' j) l y e g
 .rw[x];have Z:((s.heap.push (ke #[] 0)).push {cls:=.type "tuple",data:=.seq (f.map λ(i:Nat)=>rawInt i).toArray}).objs.size=⇑s+1+1:=by rw[bL,x]
  have W:((s.heap.push (ke #[] 0)).push {cls:=.type "tuple",data:=.seq (f.map λ(i:Nat)=>rawInt i).toArray}).get? (⇑s+1)<*{cls:=.type "tuple",data:=.seq (f.map λ(i:Nat)=>rawInt i).toArray}:=by rw[<-x];exact az _ rfl
  have O:((s.heap.push (ke #[] 0)).push {cls:=.type "tuple",data:=.seq (f.map λ(i:Nat)=>rawInt i).toArray}).get? S<*o:=af _ u;have T:((s.heap.push (ke #[] 0)).push {cls:=.type "tuple",data:=.seq (f.map λ(i:Nat)=>rawInt i).toArray}).get? ⇑s<*(ke #[] 0):=af _ G;have a0:∀b o,s.heap.get? b<*o->((s.heap.push (ke #[] 0)).push {cls:=.type "tuple",data:=.seq (f.map λ(i:Nat)=>rawInt i).toArray}).get? b<*o:=λb o e=>af _ (af _ e);generalize(s.heap.push (ke #[] 0)).push {cls:=.type "tuple",data:=.seq (f.map λ(i:Nat)=>rawInt i).toArray}=h2 at *;refine aa (ba (Dl (o,af _ O,n,) ?_));refine ite_yes (by decide+kernel) ?_;have z:(h2.push (siO S (.ref (⇑s+1)) 0 es.size ep)).get? (⇑s+1+1)<*(siO S (.ref (⇑s+1)) 0 es.size ep):=by rw[<-Z];exact az _ rfl
  have C:⇑s∉[⇑s+1+1,S,⇑s+1]:=by simp only[aK,dh,or_false,not_or];exact(aM (bA (dj _)),eM m,aM (dj _),)
  have r:(f.map λa2=>(es.getD a2 (0,.none)).2).length=es.size:=by rw[ao,v.length_eq,bC]
  refine xr (s:={s with drawn:=d,heap:=h2.push (siO S (.ref (⇑s+1)) 0 es.size ep)}) (λa s' h=>h) (walkC (A:=A.in1) (by simp[I]) (aM (bA (bA m))) (aM (dj _)) es ep t f v) K C (af _ T)
   (((o,af _ O,n,H,),hf,),af _ W,z,) λs' c a j l B y e g=>?_
  refine D _ s' c a r ((v.map _).trans (by rw[es_map])) (λb o q=>?_) l y e g;have p:=aA q;refine j b o ?_ (af _ (a0 b o q));simp only[aK,dh,or_false,not_or];exact(aM p,aM (bA (bA p)),)
end
def IS{xs:List Value}(p:vs.Perm xs):∀{ks:List Int},cM xs ks->∃c:List Int,c.Perm ks/\cM vs c:=by
 induction p with
 |nil=>intro ks h;exact(ks,fm _,h,)
 |cons x p ih=>
  intro ks h;cases h with
  |cons k t h=>obtain⟨c,a,b⟩:=ih h;exact(k::c,a.cons k,.cons k t b,)
 |swap x y l=>
  intro ks h;cases h with
  |cons k t h=>cases h with
   |cons k' t' h=>exact(k'::k::_,pI _ _ _,.cons k' t' (.cons k t h),)
 |trans p q ih1 ih2=>intro ks h;obtain⟨c,a,b⟩:=ih2 h;obtain⟨f,d,e⟩:=ih1 b;exact(f,d.trans a,e,)
section
variable {E:'I'}{s:Shared}
def EE{o:Obj}{t:aQ}{ks:List Int}{Q:'I'}(x:A.handled=none)(C:s.heap.get? S<*o)(r:o.cls=.type "set")(v:o.data=.set es ep t)(hf:t.fits es.size=true)(p:es.size<64)(q:i5 t)(B:w.params.followText "set-order"=false->t.led=true)
  (y:cM (es.toList.map (·.2)) ks)(J:ks.Nodup)
  (h:∀(a:List Int)(vs:List Value)(s':Shared)(l:Addr)(c:Nat),a.Perm ks->cM vs a->(∀b o,s.heap.get? b<*o->s'.heap.get? b<*o)->s'.gens=s.gens->s'.os=s.os->⇑s<=l->s'.heap.get? l<*(seqObj "list" (gh (ltI a) vs).toArray c)->Q (.ref l) s'):
  'B' (call (.builtin "sorted") [.ref S]) Q E s:=by
 refine iX D6 BF BJ (args_sorted1 _) ?_;unfold Builtin.«sorted»;refine aa (m:=JH "sorted" 1 1 _) (aj (aa (vb (by simp[x]) C r v hf (fX p 'E') q B λvs s' f I F G H=>aa (me ?_ ?_))))
 .obtain⟨a,k,g⟩:=IS f y;have z:vs.length=a.length:=g.length;have D:vs.length<64:=by have :=f.length_eq;simp at this;lia
  have d:(s'.heap.push (seqObj "list" vs.toArray 0)).get? ⇑s'<*(seqObj "list" vs.toArray 0):=az _ rfl;have K:a.Nodup:=k.nodup_iff.mpr J;show wpAny _ _ _ _ _ {s' with heap:=s'.heap.push (seqObj "list" vs.toArray 0)};refine aa (ba (cB vF (_,d,rfl,) tI (Aw (lt:=ltI a) (h0:=s'.heap) (by rw[z];exact HI K) d (λb o e=>(af _ e,aM (aA e),)) D (λn=>zS g n) (_,rfl,?_,)) (JI _)));refine aj (_,rfl,?_,);obtain⟨c,u⟩:=sortedHeap_at (out:=(gh (ltI a) vs).toArray) d;refine h a vs _ _ c k g (λb o e=>?_) F G (i7 H) u;have i:=I b o e;have j:=aA i;show(Jy (s'.heap.push (seqObj "list" vs.toArray 0)) ⇑s' vs (gh (ltI a) vs).toArray).get? b<*o;rw[sortedHeap_old (aM j) (by rw[yH];exact bA j)];exact af _ i
 .have :=f.length_eq;simp at this;exact aT (by lia:vs.length<=64) 'E'
end
def L9(ks:List Key):(met ks).Nodup:=by
 unfold met;have g:∀(l d:List Key),d.Nodup->(l.foldl more d).Nodup:=by
  intro l
  induction l with
  |nil=>exact λ_ h=>h
  |cons k l ih=>
   intro d h;refine ih _ ?_;unfold more;split;·exact h
   .rename_i c;refine du.mpr (h,'F',λa f b e=>?_,);rw[aU]at e;subst e;intro z;subst z;exact c (kK.mpr f)
 exact g ks [] fC
theorem y8{c:Type}[DecidableEq c]:∀{m l:List c},m.Nodup->(∀x∈m,x∈l)->l.length=m.length->l.Perm m
 | [],l,_,_,h=>by rw[lH]at h;rw[List.eq_nil_of_length_eq_zero h]
 |a::m,l,nd,hs,h=>by have d:a∈l:=hs a aG;have p:=rF d;rw[bN]at nd;have e:=p.length_eq;rw[bG]at e h;have q:=y8 (m:=m) (l:=l.erase a) nd.2 (λx b=>(k9 (λz:x=a=>nd.1 (by rw[<-z];exact b))).mpr (hs x (ax _ b))) 'D';exact p.trans (q.cons a)
section
def vX{k:Int}{v:Value}(h:(aY prog w).is (.inl k) v=true):∃t,v=.int k t:=by rw[qS]at h;exact nu (k:=k) (v:=v) h
def vW{l:List (Int×Value)}(h:ElemsOf (aY prog w) l)(hi:∀e∈l,∀k,(aY prog w).is k e.2=true->∃n:Int,k=.inl n):∃a:List Int,cM (l.map (·.2)) a:=by
 induction l with
 |nil=>exact([],.nil,)
 |cons e l ih=>obtain⟨a,r⟩:=ih h.tail λc f=>hi c (ax _ f);obtain⟨⟨k,b,_⟩,_⟩:=h.head;obtain⟨n,rfl⟩:=hi e aG k b;obtain⟨t,d⟩:=vX b;refine(n::a,?_,);rw[bw,d];exact .cons n t r
def Mx:∀{vs:List Value}{a:List Int},cM vs a->∀n,n∈a↔∃v∈vs,(aY prog w).is (.inl n) v=true:=by
 intro vs a r
 induction r with
 |nil=>simp
 |cons k t r ih=>
  intro n;rw[aK,ih n];constructor
  .rintro(rfl|⟨v,hv,e⟩);·exact(_,aG,oY _ _ _ _,)
   .exact(v,ax _ hv,e,)
  .rintro⟨v,hv,e⟩;rcases aK.mp hv with rfl|hv;·obtain⟨c,b⟩:=vX e;cases b;exact .inl rfl
   .exact .inr (v,hv,e,)
def HU(x:sZ (aY prog w) h a (has (met (ns.map .inl))) (met (ns.map .inl)).length led):
  ∃o es ep t b,h.get? a<*o/\o.cls=.type "set"/\o.data=.set es ep t/\t.fits es.size=true/\es.size<=ns.length/\i5 t/\t.led=led/\cM (es.toList.map (·.2)) b/\b.Nodup/\∀n,n∈b↔n∈ns:=by
 obtain⟨o,es,ep,t,B,g,q,u,i,E,hf,f,m,l⟩:=x;have y:=Ma (ns.map (eQ:Int->Key));rw[ao]at y;have inl:∀e∈es.toList,∀k,(aY prog w).is k e.2=true->∃n:Int,n∈ns/\k=.inl n:=λe c k d=>by have :=nK.mp (kK.mp ((i k).mpr (e,c,d,)));obtain⟨n,f,rfl⟩:=aI.mp this;exact(n,f,rfl,)
 obtain⟨b,r⟩:=vW u λe c k d=>let⟨n,_,e⟩:=inl e c k d;(n,e,);have mem:∀n,n∈b↔n∈ns:=λn=>by
  rw[Mx (prog:=prog) (w:=w) r n];constructor;·rintro⟨v,C,e⟩;obtain⟨j,s,rfl⟩:=aI.mp C;obtain⟨F,A,z⟩:=inl j s _ e;cases z;exact A
  .intro h;obtain⟨e,c,d⟩:=(i (.inl n)).mp (kK.mpr (nK.mpr (lR h)));exact(e.2,lR c,d,)
 have len:b.length=es.size:=by have :=r.length;simp at this;lia
 have p:(b.map (eQ:Int->Key)).Perm (met (ns.map .inl)):=y8 (L9 _) (λx g=>by obtain⟨n,f,rfl⟩:=aI.mp (nK.mp g);exact lR ((mem n).mpr f)) (by rw[ao];lia)
 have D:(b.map (eQ:Int->Key)).Nodup:=p.nodup_iff.mpr (L9 _);exact(o,es,ep,t,b,B,g.1,q,hf,'D',m,l,r,(cK.mp D).imp λh z=>h (congrArg _ z),mem,)
end
end Q
namespace L2
open Q
section
def Inv.same{a:List (Option V)}(I:Inv X pins a H s)(e:s'.heap=s.heap)(f:s'.gens=s.gens)(i:s'.os=s.os):Inv X pins a H s':=by obtain⟨h,g,d,t,o⟩:=s;obtain⟨c,b,k,l,j⟩:=s';obtain rfl:c=h:=e;obtain rfl:b=g:=f;obtain rfl:j=o:=i;exact(I.ok,I.os,I.bare,I.base,I.loc,I.cell,I.free,I.freeC,I.pin,I.hok,I.len,)
theorem mX{c:Type}[DecidableEq c]:∀{l m:List c},l.Nodup->(∀x∈l,x∈m)->l.length<=m.length
 | [],_,_,_=>bf _
 |a::l,m,nd,h=>by rw[bN]at nd;have d:=h a aG;have p:=(rF d).length_eq;have :=mX (m:=m.erase a) nd.2 λx b=>(k9 λz:x=a=>nd.1 (z▸b)).mpr (h x (ax _ b));rw[bG]at p⊢;lia
def Few(ns:List Int):Prop:=ns.length<1000/\∃a:List Int,a.length<64/\∀x∈ns,x∈a
def Few.of(h:ns.length<64):Few ns:=('D',ns,h,λ_ h=>h,)
def Ca(K:ak)(ta:TA):TE:=λσ H Q=>ta σ H λvs H1=>∃(p:Addr)(ns:List Int),vs=[V.ref p]/\SqL K H1 p (ns.map V.int)/\Few ns/\
 ∀(a:List Int) l,a.Nodup->(∀x,x∈a↔x∈ns)->H1 l=none->Q (.ref l) (upd H1 l (.lst (sortI a)))
def sU:gB "sorted"<*(.builtin "sorted"):=by decide+kernel
def zM:gB "set"<*(.type "set"):=by decide+kernel
def ET{a:Expr}{C:TA}{p:Pos}(v:X.calm=true)(K:Gl X "sorted")(N:X.mg "sorted"=none)(L:Gl X "set")(O:X.mg "set"=none)(G:PA X [a] C)(hs:bH [a] X.env=[(false,eval a X.env)]:=by rfl):
  PE X (.Call (.Name "sorted" p) [.Call (.Name "set" p') [a] [] pos'] [] pos) (Ca X.K C):=by
 intro a3 s σ H a8 I h;refine Call_ (jA I K N sU (fM (mL ?_) rfl rfl));refine Call_ (jA I L O zM (cP (thn (G pos' a3 s σ H _ I h) λus s1 ⟨vs,H1,d,r1,q1⟩=>?_) hs rfl));obtain⟨pl,z,e,hq,⟨a9,mm,b0,P⟩,a5⟩:=q1;subst e;obtain⟨b4,rfl,rx⟩:=vals1 r1;cases rx;obtain⟨S,A,a4,_⟩:=d.list hq;have j:=A.length;rw[ao]at j;have r2:bT ((z.map (eQ:Int->Key)).map kV) S:=by rw[bF];exact A
 refine yX (ks:=z.map .inl) (d.ok.hd v) a4.isList (by rw[aE,ao];exact j) (λi a6 e=>A6 r2 i a6 ↥e) (by rw[aE,<-j];unfold gm;lia) λh' tk E Z=>?_;obtain⟨o,u,ep,t,ms,y,m,J,hf,b3,F,D,r,n,mem⟩:=HU E;have b1:u.size<64:=by have g:=r.length;simp at g;have :=mX n λx m=>P x ((mem x).mp m);lia
 refine aj ?_;refine EE (s:={s1 with heap:=h',toks:=tk}) (d.ok.hd v) y m J hf 'D' F (λa7=>by rw[D,a7];rfl) r n λf vs B l c k Q a0 T U V W=>?_;have q:f.Nodup:=k.nodup_iff.mpr n;have b2:f.length=u.size:=by have a1:=k.length_eq;have g:=r.length;simp at g;lia
 have Y:∀b o,s1.heap.get? b<*o->B.heap.get? b<*o:=λb o e=>a0 b o (Z b o (aA e) e);have M:⇑s1<h'.objs.size:=aA y;have w:⇑s1<=l:=aT (i7 M) V;have R:(sortI f).length<=sizeLine:=by unfold sortI;rw[ao,CV q];exact fR 'D'
 exact(.ref l,_,(d.laid (h':=B.heap) (t':=s1.toks) Y w (show eA X.prog X.w _ _ _ (.lst (sortI f))from(R,_,c,outI q (tM Q),W,))).same rfl T U,rfl,a5 _ _ q (λx=>(k.mem_iff).trans (mem x)) (d.hok.fresh w),)
end
end L2
namespace TB
open PySem.W L2 Q
section
variable {R:Result->Shared->Prop}{I:Addr}{fp wr:List Addr}{G:Array iF->Array iF->Prop}{P:Nat->Value->Prop}{St:Nat->Shared->Prop}
def oJ.keep{T:Addr->Prop}{c:List (List Int×Addr)}{o:Obj}{t:aQ}(k:∀b o,(b=S\/T b)->h.get? b<*o->h'.get? b<*o)(x:oJ prog w T h S c o es ep t):oJ prog w T h' S c o es ep t:=
 (k S o (.inl rfl) x.ho,x.ex,x.hd,x.tb,x.pl,x.dm,x.es_,x.nd,λy a=>(D8.jk (λo d=>k y.2 o (.inr (x.tu y a).2) d) (x.tu y a).1,(x.tu y a).2,),x.lo,)
def Ms{T:Addr->Prop}{b:List (List Int×Addr)}{o:Obj}{t:aQ}{a:List (List Int)}(c:a.length<=17)(d:∀q∈ps,q∈a)(x:oJ prog w T h S b o es ep t)(k:∀r,r∈b.map (·.1)↔r∈ps.take i):b.length<=17:=by have :=x.nd.length_le_of_subset (l₂:=a) λr e=>d r (fS ((k r).mp e));rw[ao]at this;exact aT this c
theorem loopT(W:WalksS prog w A.in1 I fp wr G n P St)(F:A.in1.units<cLine)(S:Addr)(k:S∉fp)(ps:List (List Int))(c:List Addr)(O:ps.length=n)(l:List (List Int))(y:l.length<=17)(D:∀q∈ps,q∈l)(a2:c.length=ps.length)(V:∀i v,P i v->∃a q,c[i]?<*a/\ps[i]?<*q/\v=.ref a)(hf:∀a∈c,a∉fp):
  ∀(m i:Nat)(s:Shared)(f:List (List Int×Addr))(o:Obj)(es:Array (Int×Value))(ep:Nat)(t:aQ),n-i=m->i<=n->St i s->(∀r,r∈f.map (·.1)↔r∈ps.take i)->t.led=led->oJ prog w (·∈c) s.heap S f o es ep t->(∀(i:Nat) a q,c[i]?<*a->ps[i]?<*q->bD (aY prog w) s.heap (ky q) a)->
   (∀s' g o' es' x t',Moved (S::wr) G s s'->g.length<=17->(∀r,r∈g.map (·.1)↔r∈ps)->t'.led=led->oJ prog w (·∈c) s'.heap S g o' es' x t'->R (.ok (.ret .none)) s')->
   gA (model prog w) A (.builtin "set.update.loop" ([.ref S,.ref I],[],)) R s
 | 0,i,s,f,o,es,ep,t,hm,hi,st,hks,hle,hS,hT,hR=>by
  have M:=Ms y D hS hks;obtain rfl:i=n:=by lia
  rw[<-O,dg]at hks;refine cY cT ?_;rw[cE bE _];show wpAny _ A.in1 (pyNext (.ref I)>>=_) _ _ s;refine aa (W.done s _ _ st λs' h=>?_);refine aj (hR s' f o es ep t (h.mono λb hb=>ax _ hb) M hks hle (hS.keep λb o hb e=>h.heap b o (λz=>?_) e));rcases hb with rfl|hb;·exact k (W.sub _ z)
  .exact hf b hb (W.sub _ z)
 |m+1,i,s,f,o,es,ep,t,hm,hi,st,hks,hle,hS,hT,hR=>by
  have M:=Ms y D hS hks;have N:i<n:=by lia
  refine cY cT ?_;rw[cE bE _];show wpAny _ A.in1 (pyNext (.ref I)>>=_) _ _ s;refine aa (W.item i s _ _ N st λv s' hP b3 h=>?_);obtain⟨a,q,H,U,rfl⟩:=V i v hP;have X:∀b o,(b=S\/b∈c)->s.heap.get? b<*o->s'.heap.get? b<*o:=λb o hb e=>h.heap b o (λz=>by
   rcases hb with rfl|hb;·exact k (W.sub _ z)
   .exact hf b hb (W.sub _ z)) e
  have B:=hS.keep X;have a3:a∈c:=aH H;have C:∀(i:Nat) a q,c[i]?<*a->ps[i]?<*q->bD (aY prog w) s'.heap (ky q) a:=λi a q d u=>D8.jk (λo e=>X a o (.inr (aH d)) e) (hT i a q d u);have L:=C i a q H U;show wpAny _ A.in1 (holding [aN a] (setAdd S (.ref a))>>=_) _ _ s';refine aa (ba ?_);unfold setAdd;refine ba (aa (wpAny_pyHash_tuple F L ?_));refine addT (T:=(·∈c)) (q:=q) (s:={s' with toks:=s'.toks+((ky q).length+1)}) F B L a3 'D' λb h' g o' es' x t' a5 b6 a7 E a0=>?_;have et:ps.take (i+1)=ps.take i++[q]:=by rw[cJ,U];rfl
  have nS:∀b∈c,b≠S:=λb hb e=>by
   obtain⟨j,K⟩:=aS.mp hb;cases hjq:ps[j]? with
   |some r=>obtain⟨o',b7,n',Q,hc,J,b5⟩:=C j b r K hjq;rw[e]at Q;obtain rfl:o'=o:=aW (Q.symm.trans B.ho);rw[B.hd]at J;exact nomatch J
   |none=>have h1:=i8.mp hjq;have h2:=(av.mp K).1;lia
  refine aj (fj bE _,loopT W F S k ps c O l y D a2 V hf m (i+1) _ g o' es' x t' 'D' N (W.frame _ s' _ _ b3 (fA _ _) λb hq o e=>?_) (λr=>?_) (a7.trans hle) a0 (λj p q' d u=>?_) λb2 a9 b1 Z Y b4 b0 a8 a4 a6 a1=>?_,);·rw[E.2 b (λz:b=S=>k (by rw[<-z];exact hq))];exact e
  .rw[a5,hks,et,cX,aU]
  .refine D8.jk (λo e=>?_) (C j p q' d u);rw[E.2 p (nS p (aH d))];exact e
  .refine hR b2 a9 b1 Z Y b4 (rE W.gtrans ((h.mono λb hb=>ax _ hb).then_heap (fA _ _) λb o hq e=>?_) b0) a8 a4 a6 a1;rw[E.2 b (λz:b=S=>hq (by rw[z];exact aG))];exact e
end
section
variable {E:'I'}{s:Shared}
def HS{Q:'I'}(X:A.handled=none)(hu:A.units+5<cLine)(n:s.heap.IsList l items)(g:List (List Int))(K:g.length<=17)(T:∀q∈ps,q∈g)(f:as.length=ps.length)(y:items.toList=as.map aN)
  (v:∀(i:Nat) a q,as[i]?<*a->ps[i]?<*q->bD (aY prog w) s.heap (ky q) a)
  (h:∀(h':Heap)(tk:Nat) c o es ep t,c.length<=18->(∀r,r∈c.map (·.1)↔r∈ps)->t.led=(!w.params.followText "set-order")->oJ prog w (·∈as) h' ⇑s c o es ep t->(∀b o,b<⇑s->s.heap.get? b<*o->h'.get? b<*o)->Q (.ref ⇑s) {s with heap:=h',toks:=tk}):
  'B' (call (.type "set") [.ref l]) Q E s:=by
 obtain⟨ol,D,V,_⟩:=id n;have C:l<⇑s:=aA D;have a0:ps.length=items.size:=by rw[<-f,<-aV,y,ao]
 refine yY (P:=λled h'=>∃c o es ep t,c.length<=18/\(∀r,r∈c.map (·.1)↔r∈ps)/\t.led=led/\oJ prog w (·∈as) h' ⇑s c o es ep t) n (λled a5 O=>?_) λh' tk ⟨c,o,es,ep,t,J,L,k,M⟩ N=>h h' tk c o es ep t J L k M N;have k:A.in1.in1.in1.handled=none:=by simp[X]
 have u:(s.heap.push (gF led)).objs.size=⇑s+1:=bL _ _;have a1:l≠(s.heap.push (gF led)).objs.size:=by rw[u];exact aM (bA C)
 have a2:⇑s∉[(s.heap.push (gF led)).objs.size,l]:=by
  rw[u];intro z;rcases aK.mp z with z|z;·exact aM (dj _) z
  .exact eM C (aU.mp z)
 have W:∀a∈as,a∉[(s.heap.push (gF led)).objs.size,l]:=λa U z=>by
  obtain⟨j,B⟩:=aS.mp U;have m:j<ps.length:=by rw[<-f];exact(av.mp B).1
  obtain⟨o,a7,a8,p,x,_⟩:=v j a _ B (ae m);rcases aK.mp z with z|z;·exact absurd (aA p) (by rw[z,u];exact vK.mpr (dk _))
  .rw[aU.mp z,D]at p;rw[<-aW p,V]at x;exact absurd x 'E'
 have R:(s.heap.push (gF led)).get? ⇑s<*(gF led):=az _ rfl;refine loopT (led:=led) ((BL k _ l a1 items).toS) (show A.units+1+1+1<cLine by lia) ⇑s a2 ps as a0 g K T f (λi a4 hv=>?_) W (items.size-0) 0 _ [] (gF led) #[] 0 (aQ.fresh 0 0 led) 'D' (bf _) ((_,az _ rfl,rfl,rfl,),(n.push _).push _,) (λr=>by simp) rfl (af _ R,(rfl,rfl,rfl,),rfl,⟨(i9,rfl,),(by rw[fB];rfl),.inl rfl,bf _,λi h hp=>(by simp at hp)⟩,rfl,rfl,rfl,fC,λa9 hx=>(by cases hx),λ_=>bf _,) (λi a q F G=>D8.jk (λo e=>af _ (af _ e)) (v i a q F G)) λs' a3 o' I H t' mv a6 Y Z S=>O s' mv (a3,o',I,H,t','D',Y,Z,S,);have d:items.toList[i]?<*a4:=by simpa using hv
 rw[y,ay]at d;cases ea:as[i]? with
 |none=>rw[ea]at d;exact nomatch d
 |some a=>
  rw[ea]at d;have m:i<ps.length:=by rw[<-f];exact(av.mp ea).1
  exact(a,_,rfl,ae m,(aW d).symm,)
end
def Lo{d h:Type}{f:d->h}{vs:List h}{l:List d}(p:vs.Perm (l.map f)):∃c:List d,vs=c.map f/\c.Perm l:=by
 have g:∀{u v:List h},u.Perm v->∀l:List d,v=l.map f->∃c:List d,u=c.map f/\c.Perm l:=by
  intro u v p
  induction p with
  |nil=>intro l e;exact(l,e,.refl _,)
  |cons x p ih=>
   intro l e;cases l with
   |nil=>cases e
   |cons y l=>simp only[bw,oF]at e;obtain⟨c,a,b⟩:=ih l e.2;exact(y::c,by rw[bw,<-e.1,a],b.cons y,)
  |swap x y u=>
   intro l e
   match l,e with
   |a::b::l,e=>simp only[bw,oF]at e;exact(b::a::l,by rw[bw,bw,<-e.1,<-e.2.1,e.2.2],pI _ _ _,)
  |trans p q ih1 ih2=>intro l e;obtain⟨l1,a,b⟩:=ih2 l e;obtain⟨l2,i,j⟩:=ih1 l1 a;exact(l2,i,j.trans b,)
 exact g p l rfl
section
variable {E:'I'}{s:Shared}
def u7(k:∀b o,h.get? b<*o->h'.get? b<*o)(r:lE h vs ps):lE h' vs ps:=by
 unfold lE at *
 induction r with
 |nil=>exact .nil
 |cons y t ih=>obtain⟨a,o,f,n,c,d,e⟩:=y;exact .cons (a,o,f,n,c,k _ _ d,e,) ih
def Ck{o:Obj}{t:aQ}{Q:'I'}(H:A.handled=none)(L:s.heap.get? S<*o)(D:o.cls=.type "set")(G:o.data=.set es ep t)(hf:t.fits es.size=true)(B:es.size<64)(C:i5 t)(J:w.params.followText "set-order"=false->t.led=true)
  {g:List (List Int×Addr)}(j:es.toList.map (·.2)=g.map λx=>aN x.2)(T:(g.map (·.1)).Nodup)(K:∀x∈g,x.1.length=m)(hi:∀d:List (List Int×Addr),d.Perm g->lE s.heap (d.map λx=>aN x.2) (d.map (·.1)))
  (h:∀(d:List (List Int×Addr))(s':Shared)(l:Addr)(c:Nat),d.Perm g->(∀b o,s.heap.get? b<*o->s'.heap.get? b<*o)->s'.gens=s.gens->s'.os=s.os->⇑s<=l->s'.heap.get? l<*(seqObj "list" (gh (ltL (d.map (·.1))) (d.map λx=>aN x.2)).toArray c)->Q (.ref l) s'):
  'B' (call (.builtin "sorted") [.ref S]) Q E s:=by
 refine iX D6 BF BJ (args_sorted1 _) ?_;unfold Builtin.«sorted»;refine aa (m:=JH "sorted" 1 1 _) (aj (aa (vb (by simp[H]) L D G hf (fX B 'E') C J λf s' p v O P R=>aa (me ?_ ?_))))
 .rw[j]at p;obtain⟨d,e,i⟩:=Lo p;subst e;have u:(d.map λx:List Int×Addr=>aN x.2).length=(d.map (·.1)).length:=by simp
  have M:(d.map λx:List Int×Addr=>aN x.2).length<64:=by have a:=congrArg iM j;have b:=i.length_eq;simp at a⊢;lia
  generalize hvs:(d.map λx:List Int×Addr=>aN x.2)=f at *;have n:(s'.heap.push (seqObj "list" f.toArray 0)).get? ⇑s'<*(seqObj "list" f.toArray 0):=az _ rfl;have y:(d.map (·.1)).Nodup:=(i.map _).nodup_iff.mpr T;have I:lE s'.heap f (d.map (·.1)):=by rw[<-hvs];exact u7 v (hi d i)
  show wpAny _ _ _ _ _ {s' with heap:=s'.heap.push (seqObj "list" f.toArray 0)};refine aa (ba (cB vF (_,n,rfl,) tI (Aw (lt:=ltL (d.map (·.1))) (h0:=s'.heap) (by rw[u];exact HH y) n (λb o e=>(af _ e,aM (aA e),)) M (λz=>sV y u I z (m:=m) (λk j=>?_)) (_,rfl,?_,)) (JI _)));·obtain⟨x,N,rfl⟩:=aI.mp j;exact K x (i.mem_iff.mp N)
  refine aj (_,rfl,?_,);obtain⟨c,F⟩:=sortedHeap_at (out:=(gh (ltL (d.map (·.1))) f).toArray) n;refine h d _ _ c i (λb o e=>?_) O P (i7 R) (by rw[hvs];exact F);have q:=v b o e;have r:=aA q;show(Jy (s'.heap.push (seqObj "list" f.toArray 0)) ⇑s' f (gh (ltL (d.map (·.1))) f).toArray).get? b<*o;rw[sortedHeap_old (aM r) (by rw[yH];exact bA r)];exact af _ q
 .have :=p.length_eq;simp at this;exact aT (by lia:f.length<=64) 'E'
end
end TB
namespace L2
open Q
section
def yP(K:ak)(ta:TA):TE:=λσ H Q=>ta σ H λvs H1=>∃(p:Addr)(ys:List V)(ps:List (List Int))(m:Nat),vs=[V.ref p]/\SqL K H1 p ys/\ps.length<=60/\(∃W:List (List Int),W.length<=17/\∀q∈ps,q∈W)/\(∀k∈ps,k.length=m)/\IntKeys H1 ys ps/\
 ∀(zs:List V)(qs:List (List Int)) l,qs.Nodup->(∀x,x∈qs↔x∈ps)->IntKeys H1 zs qs->H1 l=none->Q (.ref l) (upd H1 l (.lst (dU .non qs zs)))
def ik_refs(h:IntKeys H ys ps):∃as:List Addr,ys=as.map V.ref/\as.length=ps.length/\∀(i:Nat) a q,as[i]?<*a->ps[i]?<*q->H a<*(.tup (q.map V.int)):=by
 unfold Q.IntKeys at h
 induction h with
 |nil=>exact⟨[],rfl,rfl,λi a q e=>by simp at e⟩
 |cons y t ih=>
  obtain⟨a,rfl,e⟩:=y;obtain⟨as,rfl,f,g⟩:=ih;refine(a::as,rfl,by simp[f],λi b q c d=>?_,);cases i with
  |zero=>simp at c d;rw[<-c,<-d];exact e
  |succ i=>simp at c d;exact g i b q c d
def J6:∀{as:List Addr}{ad:List Value},bT (as.map V.ref) ad->ad=as.map aN:=by
 intro as
 induction as with
 |nil=>intro ad r;cases r;rfl
 |cons a as ih=>
  intro ad r;cases r with
  |cons r0 r=>cases r0;rw[ih r];rfl
theorem tU:∀(a:List (List Int×Addr)),bT (a.map λx=>V.ref x.2) (a.map λx=>aN x.2)
 | []=>.nil
 |x::a=>.cons rfl (tU a)
theorem MB:∀{a:List (List Int×Addr)},(∀x∈a,H x.2<*(.tup (x.1.map V.int)))->IntKeys H (a.map λx=>V.ref x.2) (a.map (·.1))
 | [],_=>.nil
 |x::a,h=>.cons (x.2,rfl,h x aG,) (MB λy b=>h y (ax _ b))
def tk_inj{p q:List Int}(x:bD (aY prog w) h (TB.ky p) a)(y:bD (aY prog w) h (TB.ky q) a):p=q:=by
 obtain⟨o,u,n,j,r,g,hi⟩:=x;obtain⟨m,v,z,l,s,f,i⟩:=y;obtain rfl:o=m:=aW (j.symm.trans l);rw[g]at f;cases f;have :∀{p q:List Int}{d:List Value},ItemsAre (aY prog w) (TB.ky p) d->ItemsAre (aY prog w) (TB.ky q) d->p=q:=by
  intro p
  induction p with
  |nil=>intro q d c b;cases c;cases q with
   |nil=>rfl
   |cons k q=>cases b
  |cons k p ih=>
   intro q d c b;cases c with
   |cons e1 c=>
    cases q with
    |nil=>cases b
    |cons k' q=>
     cases b with
     |cons e2 b=>obtain⟨t,rfl⟩:=vX e1;obtain⟨A,e⟩:=vX e2;cases e;rw[ih c b]
 exact this hi i
def CA{a:Expr}{M:TA}{p:Pos}(F:X.calm=true)(hu:X.A.units+50<cLine)(W:Gl X "sorted")(hm:X.mg "sorted"=none)(Y:Gl X "set")(a3:X.mg "set"=none)(T:PA X [a] M)(hs:bH [a] X.env=[(false,eval a X.env)]:=by rfl):
  PE X (.Call (.Name "sorted" p) [.Call (.Name "set" p') [a] [] pos'] [] pos) (yP X.K M):=by
 intro a7 s σ H b0 I h;refine Call_ (jA I W hm sU (fM (mL ?_) rfl rfl));refine Call_ (jA I Y a3 zM (cP (thn (T pos' a7 s σ H _ I h) λus s1 ⟨vs,N,g,r1,q1⟩=>?_) hs rfl));obtain⟨pl,ys,K,m,e,hq,b1,⟨O,R,S⟩,a1,Z,q⟩:=q1;subst e;obtain⟨b5,rfl,rx⟩:=vals1 r1;cases rx;obtain⟨P,rfl,E,C⟩:=ik_refs Z;obtain⟨b4,r',a8,_⟩:=g.list hq;obtain rfl:=J6 r';have D:∀(i:Nat) a q,P[i]?<*a->K[i]?<*q->bD (aY X.prog X.w) s1.heap (TB.ky q) a:=λi a q Q r=>A7 (ks:=TB.ky q) g.hok (by have :=C i a q Q r;rw[bF];exact this)
 refine TB.HS (g.ok.hd F) 'D' a8.isList O R S E 'F' D λh' tk y o B ep t b2 J u d z=>?_;refine aj ?_;have G:∀x∈y,N x.2<*(.tup (x.1.map V.int)):=λx k=>by
  obtain⟨k1,U⟩:=d.tu x k;obtain⟨j,v⟩:=aS.mp U;have a0:j<K.length:=by rw[<-E];exact(av.mp v).1
  have r:=ae a0;have w:=D8.jk (λo e=>z x.2 o (aA e) e) (D j x.2 _ v r);rw[tk_inj k1 w];exact C j x.2 _ v r
 have a4:B.toList.map (·.2)=y.map λx=>aN x.2:=by rw[d.es_,bF];rfl
 have b3:B.size=y.length:=by rw[<-aV,d.es_,ao]
 refine TB.Ck (s:={s1 with heap:=h',toks:=tk}) (g.ok.hd F) d.ho d.ex.1 d.hd d.fits 'D' d.tb.ti (λa9=>by rw[u,a9];rfl) a4 d.nd (m:=m) (λx k=>a1 _ ((J _).mp (lR k))) (λf n=>?_) λf L l c n a6 w k3 k4 k5=>?_;·exact TB.u7 (λb o e=>z b o (aA e) e) (se g.hok (MB λx k=>G x (n.mem_iff.mp k)) (tU f))
 have A:(f.map (·.1)).Nodup:=(n.map _).nodup_iff.mpr d.nd;have kk:∀b o,s1.heap.get? b<*o->L.heap.get? b<*o:=λb o e=>a6 b o (z b o (aA e) e);have a2:⇑s1<h'.objs.size:=aA d.ho;have u:⇑s1<=l:=aT (i7 a2) k4;have a5:(dU V.non (f.map (·.1)) (f.map λx=>V.ref x.2)).length<=sizeLine:=by unfold dU;rw[ao,(mV A).length_eq,bC,ao,n.length_eq];exact fR 'D'
 exact(.ref l,_,(g.laid (h':=L.heap) (t':=s1.toks) kk u (show eA X.prog X.w _ _ _ (.lst (dU .non (f.map (·.1)) (f.map λx=>V.ref x.2)))from(a5,_,c,tY A 'F' (tU f),k5,))).same rfl w k3,rfl,q _ _ _ A (λx=>((n.map _).mem_iff).trans (J x)) (MB λx k=>G x (n.mem_iff.mp k)) (g.hok.fresh u),)
end
end L2
set_option maxHeartbeats 4000000
namespace Q
open PySem.W L2
section
variable {E:'I'}{s:Shared}{lt:Nat->Nat->Bool}{vs:List Value}
open Classical in
end
end Q
set_option maxHeartbeats 3200000
namespace L2
open Q
set_option maxHeartbeats 4000000
end L2
namespace Q
open PySem.W L2
noncomputable abbrev Tri:=Int×Str×Str
abbrev t3(x y:Tri):Bool:=decide (x.1<y.1)||(decide (x.1=y.1)&&(tlt x.2.1 y.2.1||(decide (x.2.1=y.2.1)&&tlt x.2.2 y.2.2)))
end Q
namespace L2
section
def rInT(K:ak):R2:=λx y H Q=>∃p xs ds d,y=.ref p/\SqT K H p xs/\Rep K H d x/\gy K H ds xs/\fL ds<=30/\Q (.bl (ds.any λa=>eqD a d)) H
def LM(l:X.A.units+40<cLine):OpR X (dc .In) (rInT X.K):=by intro n s t H x y v u Q I i j h;obtain⟨p,o,k,d,rfl,hq,c,a,e,q⟩:=h;cases j;obtain⟨b,r,g,m⟩:=I.tuple hq;refine SeqAt.in_tupleAt (eqW X.K H d) g (λw f=>vV I c i (by show X.A.units+1+31<cLine;lia) r a e w ↥f) (.bl _,H,I,rfl,?_,);rw[show b.toArray.any (eqW X.K H d)=b.any (eqW X.K H d) by simp,wa I r a];exact q
def rLtL(K:ak):R2:=λx y H Q=>∃(p q:Addr)(a b:List Int),x=.ref p/\y=.ref q/\SqT K H p (a.map V.int)/\SqT K H q (b.map V.int)/\a.length=b.length/\Q (.bl (_root_.Q.llt a b)) H
def LL(j:X.A.units<cLine):OpR X (dc .Lt) (rLtL X.K):=by intro t s w H x y v u Q I m n h;obtain⟨p,q,a,b,rfl,rfl,f,g,i,hq⟩:=h;cases m;cases n;obtain⟨o,k,c,_⟩:=I.tuple f;obtain⟨r,l,d,_⟩:=I.tuple g;exact iV (op:=.Lt) c.typeIs d.typeIs jx (cB jx c.typeIs BX (_root_.Q.A1 c d (intsAre_of k) (intsAre_of l) i (_,rfl,(λe=>nomatch e),(.bl (_root_.Q.llt a b),_,I,rfl,hq,),)) (yL _ _)) j
end
end L2
set_option genInjectivity false
set_option genSizeOf false
namespace R
open L2
inductive Bf where
 |len|isinstance|all|list|tuple|set|min|sum|int|lend|sorti|setp|isx|sortl|minl|maxl|sortt
 deriving DecidableEq
abbrev Bf.name:Bf->Str
 |.len=>"len" |.isinstance=>"isinstance" |.all=>"all" |.list=>"list" |.tuple=>"tuple" |.set=>"set" |.min=>"min" |.sum=>"sum" |.int=>"int" |.lend=>"len" |.sorti=>"sorted" |.setp=>"set" |.isx=>"isinstance" |.sortl=>"sorted" |.minl=>"min" |.maxl=>"max" |.sortt=>"sorted"
abbrev Bf.val:Bf->Value
 |.len=>.builtin "len" |.isinstance=>.builtin "isinstance" |.all=>.builtin "all" |.list=>.type "list" |.tuple=>.type "tuple" |.set=>.type "set" |.min=>.builtin "min" |.sum=>.builtin "sum" |.int=>.type "int" |.lend=>.builtin "len" |.sorti=>.builtin "sorted" |.setp=>.type "set" |.isx=>.builtin "isinstance" |.sortl=>.builtin "sorted" |.minl=>.builtin "min" |.maxl=>.builtin "max" |.sortt=>.builtin "sorted"
def Bf.boot:∀b:Bf,gB b.name<*b.val
 |.len=>PySem.boot_len|.isinstance=>boot_isinstance|.all=>boot_all|.list=>mO|.tuple=>ye
 |.set=>by decide+kernel|.min=>by decide+kernel|.sum=>by decide+kernel|.int=>yJ|.lend=>PySem.boot_len|.sorti=>by decide+kernel|.setp=>by decide+kernel|.isx=>boot_isinstance|.sortl=>by decide+kernel|.minl=>by decide+kernel|.maxl=>by decide+kernel|.sortt=>by decide+kernel
def Bf.plain:∀b:Bf,b.name≠"__name__"/\(b.name==("__debug__":Str))=false:=by intro b;cases b<;>exact(by decide+kernel,by decide+kernel,)
inductive Ty where
 |int|bool|str|list|tuple|dict|valueError
 deriving DecidableEq
abbrev Ty.name:Ty->Str
 |.int=>"int" |.bool=>"bool" |.str=>"str" |.list=>"list" |.tuple=>"tuple" |.dict=>"dict" |.valueError=>"ValueError"
abbrev Ty.t:Ty->String
 |.int=>"int" |.bool=>"bool" |.str=>"str" |.list=>"list" |.tuple=>"tuple" |.dict=>"dict" |.valueError=>"ValueError"
def Ty.boot:∀b:Ty,gB b.name<*(.type b.t)
 |.int=>yJ|.bool=>PyProof.Rows.boot_bool|.str=>PyProof.Rows.boot_str|.list=>mO|.tuple=>ye|.dict=>PyProof.Rows.boot_dict|.valueError=>by decide+kernel
def Ty.plain:∀b:Ty,b.name≠"__name__"/\(b.name==("__debug__":Str))=false:=by intro b;cases b<;>exact(by decide+kernel,by decide+kernel,)
abbrev rP(K:ak):Operator->R2
 |.Add=>λx y H Q=>(rI0 λi j=>.int (i+j)) x y H Q\/(∃i j,x=.str i/\y=.str j/\i.length+j.length<=sizeLine/\Q (.str (i++j)) H)\/rCat x y H Q\/False
 |.Sub=>rI0 λi j=>.int (i-j)
 |.Mult=>λx y H Q=>(rI FZ λi j=>.int (i*j)) x y H Q\/rRep x y H Q\/K9 x y H Q
 |.Mod=>rI (λ_ j=>0<j) λi j=>.int (i%j)
 |.FloorDiv=>rI NJ λi j=>.int (i/j)
 |.Pow=>rI Jt λi j=>.int (i^j.toNat)
 |.RShift=>rI (λ_ j=>0<=j) λi j=>.int (i/2^j.toNat)
 |.LShift=>rI Jt λi j=>.int (i*2^j.toNat)
 |.BitAnd=>rI0 λi j=>.int (jw i j)
 |.BitXor=>rI0 λi j=>.int (lU i j)
 |_=>λ_ _ _ _=>False
abbrev i3(K:ak):CmpOp->R2
 |.Eq=>rEqD K
 |.NotEq=>rNeD K
 |.Lt=>rI0 λi j=>.bl (decide (i<j))
 |.LtE=>rI0 λi j=>.bl (decide (i<=j))
 |.Gt=>rI0 λi j=>.bl (decide (j<i))
 |.GtE=>rI0 λi j=>.bl (decide (j<=i))
 |.Is=>λx y H Q=>y=.non/\Q (.bl (decide (x=.non))) H
 |.IsNot=>λx y H Q=>y=.non/\Q (.bl (!decide (x=.non))) H
 |.In=>λx y H Q=>((∃i j,x=.str i/\y=.str j/\Q (.bl (!(iY j i 0 j.length 1).isEmpty)) H)\/rInD K false x y H Q)\/rIn K false x y H Q
 |.NotIn=>λx y H Q=>((∃i j,x=.str i/\y=.str j/\Q (.bl (!(!(iY j i 0 j.length 1).isEmpty))) H)\/rInD K true x y H Q)\/rIn K true x y H Q
def K8(K:ak):V->Option Int->Option Int->Hp->VK->Prop:=λx lo hi H Q=>rSlL K x lo hi H Q\/rSlT K x lo hi H Q\/rSlS x lo hi H Q\/rSlW K x lo hi H Q
abbrev rBf(K:ak):Bf->List V->Hp->VK->Prop
 |.len=>λxs H Q=>(∃p ys,xs=[.ref p]/\(SqL K H p ys\/SqT K H p ys)/\Q (.int ys.length) H)\/(∃z:Str,xs=[.str z]/\z.length<=sizeLine/\Q (.int z.length) H)\/(∃a n,xs=[V.ref a]/\H a<*(_root_.Q.Co a n)/\Q (.int n) H)
 |.isinstance=>λxs H Q=>(∃x T t b,xs=[x,.ty T]/\oH K H x t/\iq K t (.type T)<*b/\Q (.bl b) H)\/(∃x C t b,xs=[x,.ref C]/\oH K H x t/\iq K t (.ref C)<*b/\Q (.bl b) H)
 |.all=>λxs H Q=>∃(p:Addr)(bs:List Bool),xs=[.ref p]/\SqL K H p (bs.map V.bl)/\Q (.bl (bs.all id)) H
 |.list=>λxs H Q=>∃p ys,xs=[.ref p]/\(SqL K H p ys\/SqT K H p ys)/\∀l,H l=none->Q (.ref l) (upd H l (.lst ys))
 |.tuple=>λxs H Q=>∃p ys,xs=[.ref p]/\((SqL K H p ys/\∀l,H l=none->Q (.ref l) (upd H l (.tup ys)))\/(SqT K H p ys/\Q (.ref p) H))
 |.set=>Q.rSet K
 |.min=>λxs H Q=>∃i j,xs=[.int i,.int j]/\Q (.int (if j<i then j else i)) H
 |.sum=>λxs H Q=>∃(p:Addr)(ns:List Int),xs=[.ref p]/\SqL K H p (ns.map V.int)/\Q (.int ns.sum) H
 |.int=>λxs H Q=>(∃i,xs=[.int i]/\Q (.int i) H)\/∃k,xs=[.bl k]/\Q (.int (if k then 1 else 0)) H
 |.lend=>λxs H Q=>∃a kvs,xs=[V.ref a]/\H a<*(.dT kvs)/\Q (.int kvs.length) H
 |.sorti=>Q.K7 K
 |.sortl=>Q.K6 K
 |.sortt=>Q.K5 K
 |.minl=>Q.rMinL K
 |.maxl=>Q.rMaxL K
 |.setp=>D8.rSetP K
 |.isx=>λxs H Q=>∃a C d y cv b,xs=[.ref a,y]/\H a<*(oh a (.ref C) d)/\(∀dd,d<*dd->∃fs,H dd<*(xdO dd fs))/\sr K C=true/\((∃T,y=.ty T/\cv=gO T)\/(∃D,y=.ref D/\cv=aN D))/\iq K (.ref C) cv<*b/\Q (.bl b) H
inductive Mm where
 |append|clear|reverse|pop|index|extend
 deriving DecidableEq
abbrev Mm.name:Mm->Str
 |.append=>"append" |.clear=>"clear" |.reverse=>"reverse" |.pop=>"pop" |.index=>"index" |.extend=>"extend"
abbrev Mm.id:Mm->String
 |.append=>"list.append" |.clear=>"list.clear" |.reverse=>"list.reverse" |.pop=>"list.pop" |.index=>"list.index" |.extend=>"list.extend"
abbrev rMm:Mm->V->List V->Hp->VK->Prop
 |.append=>AH
 |.clear=>Lc
 |.reverse=>Cw
 |.pop=>λx xs H Q=>False\/La x xs H Q
 |.index=>λ_ _ _ _=>False
 |.extend=>Gz
abbrev baseOk:Expr->Bool
 |.Name .. =>true|.Subscript .. =>true
 |.Call f _ _ _=>match f with
  |.Attribute .. =>true
  |_=>false
 |_=>false
inductive X2 where
 |inT|ltL
 deriving DecidableEq
abbrev X2.t(K:ak):X2->TE->TE->TE
 |.inT=>tOp (rInT K)
 |.ltL=>tOp (rLtL K)
abbrev X2.tt(K:ak):X2->TE->TE->TT
 |.inT=>λa b=>wB (tOp (rInT K) a b)
 |.ltL=>λa b=>wB (tOp (rLtL K) a b)
mutual
inductive CE where
 |var (i:Nat)
 |con (c:Const)
 |glo (x:Str)
 |ty (t:Ty)
 |bin (op:Operator) (a b:CE)
 |cmp (op:CmpOp) (a b:CE)
 |chain (op op':CmpOp) (a b c:CE)
 |not (a:CE)
 |and (a b:CE)
 |or (a b:CE)
 |ite (c a b:CE)
 |idx (a i:CE)
 |cut (a:CE) (lo hi:CO)
 |tup (es:CL)
 |lst (es:CL)
 |call (f:Str) (es:CL)
 |bfn (b:Bf) (es:CL)
 |meth1 (m:Mm) (o a:CE)
 |idxd (a i:CE)
 |dicT
 |setd (o a b:CE)
 |base (x:Str) (es:CL)
 |fld (a:CE) (f:Str)
 |lrng (a:CE)
 |sortset (a:CE)
 |ssetl (a:CE)
 |x2 (k:X2) (a b:CE)
 |comp (own:List Str) (fr:List Nat) (tg:CG) (it:CI) (cond:CO) (elt:CE)
inductive CL where
 |nil
 |cons (e:CE) (es:CL)
inductive CO where
 |no
 |yes (e:CE)
inductive CG where
 |name (i:Nat)
 |tup (gs:CGs)
 |sub (o i:CE)
inductive CGs where
 |nil
 |cons (g:CG) (gs:CGs)
inductive CI where
 |seq (e:CE)
 |lseq (e:CE)
 |range1 (e:CE)
 |range2 (a b:CE)
 |enumt (e:CE)
end
abbrev CL.len:CL->Nat
 |.nil=>0
 |.cons _ r=>r.len+1
abbrev CGs.len:CGs->Nat
 |.nil=>0
 |.cons _ r=>r.len+1
mutual
inductive CS where
 |asg (g:CG) (e:CE)
 |asgc (i:Nat) (e:CE)
 |expr (e:CE)
 |iff (c:CE) (a b:CB)
 |whl (c:CE) (b:CB)
 |forr (g:CG) (it:CI) (b:CB)
 |ret (e:CE)
 |retN
 |pass|brk|cont
 |rais (x:Str) (es:CL)
 |raisX (x:Str) (es:CL)
 |fldX (o:CE) (f:Str) (e:CE)
 |tryc (x:Str) (i:Nat) (b su:CB)
inductive CB where
 |nil
 |hole
 |cons (s:CS) (r:CB)
end
abbrev Di(sc:Scope)(x:Str):Bool:=sc.names.lookup x==some .local||sc.names.lookup x==some .cell||sc.names.lookup x==some .free
abbrev lK(sc:Scope)(x:Str):Bool:=sc.names.lookup x==some .globalImplicit
abbrev rU(x:Str):Bool:=(x==("__debug__":Str))==false&&(x==("__classdict__":Str))==false
abbrev okCon:Const->Bool
 |.none=>true|.bool _=>true|.int _=>true|.str _=>true|_=>false
abbrev cv:Const->V
 |.none=>.non|.bool b=>.bl b|.int i=>.int i|.str x=>.str x|_=>.non
abbrev namesOf(N own:List Str)(fr:List Nat):List Str:=own++fr.map λj=>N.getD j ""
abbrev pJ(own:List Str)(fr:List Nat)(σ:L2.St):L2.St:=own.map (λ_=>none)++fr.map λj=>(σ[j]?).getD none
abbrev vY:Expr->Bool
 |.Slice .. =>true
 |_=>false
abbrev isSet:Expr->Bool
 |.Set .. =>true
 |_=>false
abbrev xB:Expr->Bool
 |.ListComp .. =>true|.SetComp .. =>true|.DictComp .. =>true
 |_=>false
abbrev um:Expr->Bool
 |.Tuple .. =>true
 |_=>false
abbrev AV(sc sc':Scope)(N own:List Str)(fr:List Nat):Bool:=
 decide (sc'.kind=.function)&&sc'.names.all (λy=>decide (y.2=.cell->sc'.names.lookup y.1<*.cell))&&sc'.names.all (λy=>decide (y.2=.local->sc'.names.lookup y.1<*.local))&&
 sc'.names.all (λy=>decide (y.2=.free->sc.names.lookup y.1<*.cell\/sc.names.lookup y.1<*.free))&&decide ((namesOf N own fr).Nodup)&&
 fr.all (λj=>decide (j<N.length)&&sc'.names.lookup (N.getD j "")==some .free)&&own.all (λx=>sc'.names.lookup x==some .local||sc'.names.lookup x==some .cell)
def dD{P:Prop}(h:false=true):P:=(aq h).elim
def LS{P:Prop}(h:true=false):P:=(aq h.symm).elim
def an{a b:Bool}(h:(a&&b)=true):a=true/\b=true:=by rwa [aB]at h
def qR{a:Bool}(h:(!a)=true):a=false:=by simpa using h
def iS{a b c:Bool}(h:(a&&b&&c)=true):a=true/\b=true/\c=true:=let⟨h,z⟩:=an h;let⟨x,y⟩:=an h;(x,y,z,)
def ni{a b c d:Bool}(h:(a&&b&&c&&d)=true):a=true/\b=true/\c=true/\d=true:=let⟨h,z⟩:=an h;let⟨x,y,w⟩:=iS h;(x,y,w,z,)
def and5{a b c d e:Bool}(h:(a&&b&&c&&d&&e)=true):a=true/\b=true/\c=true/\d=true/\e=true:=let⟨h,z⟩:=an h;let⟨x,y,w,v⟩:=ni h;(x,y,w,v,z,)
section
variable {s:Stmt}
abbrev l1{α:Type}(l:List α)(f:α->Bool):Bool:=match l with
 |a::r=>r.isEmpty&&f a
 | []=>false
def lY{b:Type}{l:List b}{f:b->Bool}(h:l1 l f=true):∃a,l=[a]/\f a=true:=by
 cases l with
 |nil=>exact dD h
 |cons a r=>
  obtain⟨c,h⟩:=an h;cases r with
  |nil=>exact(a,rfl,h,)
  |cons=>exact dD c
abbrev l2{α:Type}(l:List α)(f:α->α->Bool):Bool:=match l with
 |a::r=>l1 r (f a)
 | []=>false
def zh{c:Type}{l:List c}{f:c->c->Bool}(h:l2 l f=true):∃a b,l=[a,b]/\f a b=true:=by
 cases l with
 |nil=>exact dD h
 |cons a r=>obtain⟨b,rfl,h⟩:=lY h;exact(a,b,rfl,h,)
abbrev dNm(e:Expr)(f:Str->Pos->Bool):Bool:=match e with
 |.Name x p=>f x p
 |_=>false
def iD{f}(h:dNm e f=true):∃x p,e=.Name x p/\f x p=true:=by cases e<;>first |exact⟨_,_,rfl,h⟩ |exact dD h
abbrev dCn(e:Expr)(f:Const->Bool):Bool:=match e with
 |.Constant c _ _=>f c
 |_=>false
def FD{f}(h:dCn e f=true):∃c j p,e=.Constant c j p/\f c=true:=by cases e<;>first |exact⟨_,_,_,rfl,h⟩ |exact dD h
abbrev dBi(e:Expr)(f:Expr->Operator->Expr->Bool):Bool:=match e with
 |.BinOp a op b _=>f a op b
 |_=>false
def Nh{f}(h:dBi e f=true):∃a c b p,e=.BinOp a c b p/\f a c b=true:=by cases e<;>first |exact⟨_,_,_,_,rfl,h⟩ |exact dD h
abbrev dUn(e:Expr)(f:UnaryOp->Expr->Bool):Bool:=match e with
 |.UnaryOp op a _=>f op a
 |_=>false
def Na{f}(h:dUn e f=true):∃b a p,e=.UnaryOp b a p/\f b a=true:=by cases e<;>first |exact⟨_,_,_,rfl,h⟩ |exact dD h
abbrev dCm(e:Expr)(f:Expr->List CmpOp->List Expr->Bool):Bool:=match e with
 |.Compare a os es _=>f a os es
 |_=>false
def FE{f}(h:dCm e f=true):∃a os es p,e=.Compare a os es p/\f a os es=true:=by cases e<;>first |exact⟨_,_,_,_,rfl,h⟩ |exact dD h
abbrev dC1(e:Expr)(f:Expr->CmpOp->Expr->Bool):Bool:=dCm e λa os es=>l1 os λc=>l1 es λb=> !isSet b&&f a c b
def uA{f}(h:dC1 e f=true):∃a c b p,e=.Compare a [c] [b] p/\isSet b=false/\f a c b=true:=by obtain⟨a,i,g,p,rfl,k⟩:=FE h;obtain⟨c,rfl,l⟩:=lY k;obtain⟨b,rfl,m⟩:=lY l;obtain⟨d,n⟩:=an m;exact(a,c,b,p,rfl,qR d,n,)
abbrev dBo(e:Expr)(f:BoolOp->Expr->Expr->Bool):Bool:=match e with
 |.BoolOp op es p=>match es with
  |a::r=>match r with
   |b::r=>match r with
    | []=>f op a b
    |c::r=>f op a (.BoolOp op (b::c::r) p)
   | []=>false
  | []=>false
 |_=>false
def qX{f}(h:dBo e f=true):∃d a x p,f d a x=true/\(e=.BoolOp d [a,x] p\/∃b c r,x=.BoolOp d (b::c::r) p/\e=.BoolOp d (a::b::c::r) p):=by
 cases e<;>first |exact dD h|skip
 rename_i d es p;cases es with
 |nil=>exact dD h
 |cons a r=>cases r with
  |nil=>exact dD h
  |cons b r=>cases r with
   |nil=>exact(d,a,b,p,h,.inl rfl,)
   |cons c r=>exact(d,a,_,p,h,.inr (b,c,r,rfl,rfl,),)
abbrev dIf(e:Expr)(f:Expr->Expr->Expr->Bool):Bool:=match e with
 |.IfExp c a b _=>f c a b
 |_=>false
def dIf_of{f}(h:dIf e f=true):∃c a b p,e=.IfExp c a b p/\f c a b=true:=by cases e<;>first |exact⟨_,_,_,_,rfl,h⟩ |exact dD h
abbrev dSu(e:Expr)(f:Expr->Expr->Bool):Bool:=match e with
 |.Subscript a i _=>f a i
 |_=>false
def xO{f}(h:dSu e f=true):∃a i p,e=.Subscript a i p/\f a i=true:=by cases e<;>first |exact⟨_,_,_,rfl,h⟩ |exact dD h
abbrev dSl(e:Expr)(f:Option Expr->Option Expr->Option Expr->Bool):Bool:=match e with
 |.Slice a b c _=>f a b c
 |_=>false
def dSl_of{f}(h:dSl e f=true):∃a b c p,e=.Slice a b c p/\f a b c=true:=by cases e<;>first |exact⟨_,_,_,_,rfl,h⟩ |exact dD h
abbrev dTu(e:Expr)(f:List Expr->Bool):Bool:=match e with
 |.Tuple es _ _=>f es
 |_=>false
def Fy{f}(h:dTu e f=true):∃es k p,e=.Tuple es k p/\f es=true:=by cases e<;>first |exact⟨_,_,_,rfl,h⟩ |exact dD h
abbrev dLi(e:Expr)(f:List Expr->Bool):Bool:=match e with
 |.List es _=>f es
 |_=>false
def Nc{f}(h:dLi e f=true):∃es p,e=.List es p/\f es=true:=by cases e<;>first |exact⟨_,_,rfl,h⟩ |exact dD h
abbrev dDi(e:Expr)(f:List (Option Expr)->List Expr->Bool):Bool:=match e with
 |.Dict ks vs _=>f ks vs
 |_=>false
def dDi_of{f}(h:dDi e f=true):∃ks vs p,e=.Dict ks vs p/\f ks vs=true:=by cases e<;>first |exact⟨_,_,_,rfl,h⟩ |exact dD h
abbrev dCa(e:Expr)(f:Expr->List Expr->Pos->Bool):Bool:=match e with
 |.Call g es ks p=>ks.isEmpty&&f g es p
 |_=>false
def Ng{f}(h:dCa e f=true):∃g es p,e=.Call g es [] p/\f g es p=true:=by
 cases e<;>first |exact dD h|skip
 rename_i g es ks p;obtain⟨a,h⟩:=an h;cases ks with
 |nil=>exact(g,es,p,rfl,h,)
 |cons=>exact dD a
abbrev dFn(e:Expr)(f:Str->List Expr->Bool):Bool:=dCa e λg es _=>dNm g λx _=>f x es
def ki{f}(h:dFn e f=true):∃x np es p,e=.Call (.Name x np) es [] p/\f x es=true:=by obtain⟨g,es,p,rfl,k⟩:=Ng h;obtain⟨x,np,rfl,l⟩:=iD k;exact(x,np,es,p,rfl,l,)
abbrev dAt(e:Expr)(f:Expr->Str->Pos->Bool):Bool:=match e with
 |.Attribute a x p=>f a x p
 |_=>false
def Bk{f}(h:dAt e f=true):∃a x p,e=.Attribute a x p/\f a x p=true:=by cases e<;>first |exact⟨_,_,_,rfl,h⟩ |exact dD h
abbrev dMt(m:Str)(e:Expr)(f:Expr->List Expr->Bool):Bool:=dCa e λg es b=>dAt g λo c a=>decide (m=c)&&(a.endLine==b.line)&&f o es
def Bj{m:Str}{f}(h:dMt m e f=true):∃o a es b,e=.Call (.Attribute o m a) es [] b/\(a.endLine==b.line)=true/\f o es=true:=by obtain⟨g,es,b,rfl,k⟩:=Ng h;obtain⟨o,i,a,rfl,l⟩:=Bk k;obtain⟨c,d,n⟩:=iS l;cases W0 c;exact(o,a,es,b,rfl,d,n,)
abbrev dLc(e:Expr)(f:Expr->List Comprehension->Scope->Pos->Bool):Bool:=match e with
 |.ListComp a gs sc p=>f a gs sc p
 |_=>false
def FA{f}(h:dLc e f=true):∃a b sc p,e=.ListComp a b sc p/\f a b sc p=true:=by cases e<;>first |exact⟨_,_,_,_,rfl,h⟩ |exact dD h
abbrev dAs(s:Stmt)(f:Expr->Expr->Pos->Bool):Bool:=match s with
 |.Assign ts e p=>l1 ts λg=>f g e p
 |_=>false
def Bl{f}(h:dAs s f=true):∃g e p,s=.Assign [g] e p/\f g e p=true:=by
 cases s<;>first |exact dD h|skip
 obtain⟨g,rfl,h⟩:=lY h;exact(g,_,_,rfl,h,)
abbrev dEx(s:Stmt)(f:Expr->Bool):Bool:=match s with
 |.Expr e _=>f e
 |_=>false
def Nf{f}(h:dEx s f=true):∃e p,s=.Expr e p/\f e=true:=by cases s<;>first |exact⟨_,_,rfl,h⟩ |exact dD h
abbrev dIs(s:Stmt)(f:Expr->List Stmt->List Stmt->Bool):Bool:=match s with
 |.If c a b _=>f c a b
 |_=>false
def Nd{f}(h:dIs s f=true):∃c a b p,s=.If c a b p/\f c a b=true:=by cases s<;>first |exact⟨_,_,_,_,rfl,h⟩ |exact dD h
abbrev dWh(s:Stmt)(f:Expr->List Stmt->Bool):Bool:=match s with
 |.While c a b _=>b.isEmpty&&f c a
 |_=>false
def dWh_of{f}(h:dWh s f=true):∃c a p,s=.While c a [] p/\f c a=true:=by
 cases s<;>first |exact dD h|skip
 rename_i c a b p;obtain⟨d,h⟩:=an h;cases b with
 |nil=>exact(c,a,p,rfl,h,)
 |cons=>exact dD d
abbrev dFo(s:Stmt)(f:Expr->Expr->List Stmt->Bool):Bool:=match s with
 |.For g i a b _=>b.isEmpty&&f g i a
 |_=>false
def dFo_of{f}(h:dFo s f=true):∃g i a p,s=.For g i a [] p/\f g i a=true:=by
 cases s<;>first |exact dD h|skip
 rename_i g i a b p;obtain⟨c,h⟩:=an h;cases b with
 |nil=>exact(g,i,a,p,rfl,h,)
 |cons=>exact dD c
abbrev dRt(s:Stmt)(f:Option Expr->Bool):Bool:=match s with
 |.Return e _=>f e
 |_=>false
def Fz{f}(h:dRt s f=true):∃e p,s=.Return e p/\f e=true:=by cases s<;>first |exact⟨_,_,rfl,h⟩ |exact dD h
abbrev dRa(s:Stmt)(f:Str->List Expr->Bool):Bool:=match s with
 |.Raise e c _=>match e with
  |some e=>c.isNone&&dFn e f
  |none=>false
 |_=>false
def Nb{f}(h:dRa s f=true):∃x np es a p,s=.Raise (some (.Call (.Name x np) es [] a)) none p/\f x es=true:=by
 cases s<;>first |exact dD h|skip
 rename_i e c p;cases e with
 |none=>exact dD h
 |some e=>
  obtain⟨b,k⟩:=an h;obtain⟨x,np,es,a,rfl,l⟩:=ki k;cases c with
  |none=>exact(x,np,es,a,p,rfl,l,)
  |some=>exact dD b
abbrev dTr(s:Stmt)(f:List Stmt->Str->Str->List Stmt->Bool):Bool:=match s with
 |.Try b hs o r _=>o.isEmpty&&r.isEmpty&&l1 hs λh=>match h with
  |.ExceptHandler t n ss _=>match t with
   |some t=>match n with
    |some n=>dNm t λx _=>f b x n ss
    |none=>false
   |none=>false
 |_=>false
def dTr_of{f}(h:dTr s f=true):∃b x np n a c p,s=.Try b [.ExceptHandler (some (.Name x np)) (some n) a c] [] [] p/\f b x n a=true:=by
 cases s<;>first |exact dD h|skip
 rename_i b hs o r p;obtain⟨d,e,k⟩:=iS h;obtain⟨⟨t,n,a,c⟩,rfl,l⟩:=lY k;cases o with
 |cons=>exact dD d
 |nil=>cases r with
  |cons=>exact dD e
  |nil=>cases t with
   |none=>exact dD l
   |some t=>cases n with
    |none=>exact dD l
    |some n=>obtain⟨x,np,rfl,m⟩:=iD l;exact(b,x,np,n,a,c,p,rfl,m,)
end
abbrev u1{α:Type}(l:List α)(f:α->List α->Bool):Bool:=match l with
 |a::r=>f a r
 | []=>false
def Gb{b:Type}{l:List b}{f:b->List b->Bool}(h:u1 l f=true):∃a r,l=a::r/\f a r=true:=by
 cases l with
 |nil=>exact dD h
 |cons a r=>exact(a,r,rfl,h,)
abbrev om{α:Type}(o:Option α)(f:α->Bool):Bool:=match o with
 |some x=>f x
 |none=>false
def LO{a:Type}{o:Option a}{f:a->Bool}(h:om o f=true):∃x,o<*x/\f x=true:=by
 cases o with
 |none=>exact dD h
 |some x=>exact(x,rfl,h,)
def nil_of{a:Type}{l:List a}(h:l.isEmpty=true):l=[]:=List.isEmpty_iff.mp h
abbrev dFF(f g:Str)(sc:Scope)(e:Expr)(k:Expr->Bool):Bool:=dFn e λb es=>l1 es λx=>dFn x λc es=>l1 es λa=>decide (b=f)&&decide (c=g)&&lK sc f&&lK sc g&&k a
def FC{f g:Str}{k}(h:dFF f g sc e k=true):∃p a q r t,e=.Call (.Name f p) [.Call (.Name g q) [a] [] r] [] t/\lK sc f=true/\lK sc g=true/\k a=true:=by obtain⟨_,p,_,t,rfl,i⟩:=ki h;obtain⟨x,rfl,j⟩:=lY i;obtain⟨_,q,_,r,rfl,l⟩:=ki j;obtain⟨a,rfl,m⟩:=lY l;obtain⟨b,c,d,o,n⟩:=and5 m;cases W0 b;cases W0 c;exact(p,a,q,r,t,rfl,d,o,n,)
abbrev isX:Expr->Bool
 |.Subscript .. =>true|.Compare .. =>true|.Call .. =>true|.Dict .. =>true
 |_=>false
abbrev X2.d(k:X2)(e:Expr)(f:Expr->Expr->Bool):Bool:=isX e&&match k with
 |.inT=>dC1 e λa c b=>decide (c=.In)&&f a b
 |.ltL=>dC1 e λa c b=>decide (c=.Lt)&&f a b
mutual
noncomputable def eB(sc:Scope)(N:List Str):CE->Expr->Bool
 |.var i,e=>dNm e λx _=>N[i]? ==some x&&Di sc x&&rU x
 |.con c,e=>dCn e λc'=>okCon c&&decide (c=c')
 |.glo x,e=>dNm e λy _=>decide (x=y)&&lK sc x&&rU x
 |.ty t,e=>dNm e λy _=>decide (t.name=y)&&lK sc y
 |.bin j a b,e=>dBi e λd z h=>decide (j=z)&&eB sc N a d&&eB sc N b h
 |.cmp j a b,e=>dC1 e λd z h=>decide (j=z)&&eB sc N a d&&eB sc N b h
 |.chain o1 o2 a b c,e=>dCm e λd os es=>l2 os λp q=>l2 es λh c'=>decide (o1=p)&&decide (o2=q)&& !isSet c'&&(eB sc N a d&&eB sc N b h&&eB sc N c c')
 |.not a,e=>dUn e λj d=>decide (j=.Not)&&eB sc N a d
 |.and a b,e=>dBo e λj d x=>decide (j=.And)&&eB sc N a d&&eB sc N b x
 |.or a b,e=>dBo e λj d x=>decide (j=.Or)&&eB sc N a d&&eB sc N b x
 |.ite c a b,e=>dIf e λc' d h=>eB sc N c c'&&eB sc N a d&&eB sc N b h
 |.idx a i,e=>dSu e λd w=> !vY w&&eB sc N a d&&eB sc N i w
 |.cut a lo hi,e=>dSu e λd s=>dSl s λl u t=>t.isNone&&eB sc N a d&&(chkO sc N lo l&&chkO sc N hi u)
 |.tup es,e=>dTu e λes'=>m8 sc N es es'
 |.lst es,e=>dLi e λes'=>m8 sc N es es'
 |.call f es,e=>dFn e λr es'=>decide (f=r)&&lK sc f&&rU f&&m8 sc N es es'
 |.bfn b es,e=>dFn e λr es'=>decide (b.name=r)&&lK sc r&& !es'.isEmpty&&m8 sc N es es'
 |.meth1 m o a,e=>dMt m.name e λo' es=>l1 es λd=>baseOk o'&&eB sc N o o'&&eB sc N a d
 |.idxd a i,e=>dSu e λd w=> !vY w&&eB sc N a d&&eB sc N i w
 |.dicT,e=>dDi e λks vs=>ks.isEmpty&&vs.isEmpty
 |.setd o a b,e=>dMt (bh "setdefault") e λo' es=>l2 es λd h=>baseOk o'&&eB sc N o o'&&(eB sc N a d&&eB sc N b h)
 |.base x es,e=>dMt (bh "__init__") e λo es'=>dNm o λC _=>decide (x=C)&&lK sc x&&rU x&&(decide (es.len<29)&& !es'.isEmpty&&m8 sc N es es')
 |.fld a f,e=>dAt e λv r _=>dNm v λn np=>decide (f=r)&&eB sc N a (.Name n np)
 |.sortset a,e=>dFF "sorted" "set" sc e (eB sc N a)
 |.ssetl a,e=>dFF "sorted" "set" sc e (eB sc N a)
 |.x2 k a b,e=>k.d e λd h=>eB sc N a d&&eB sc N b h
 |.lrng a,e=>dFF "list" "range" sc e (eB sc N a)
 |.comp own fr tg it cond elt,e=>dLc e λA B sc' _=>l1 B λg=>decide (g.is_async=0)&&AV sc sc' N own fr&& !isSet g.iter&&(chkI sc N it g.iter g.target&&xV sc' (namesOf N own fr) false tg g.target&&chkC sc' (namesOf N own fr) cond g.ifs&&eB sc' (namesOf N own fr) elt A)
noncomputable def m8(sc:Scope)(N:List Str):CL->List Expr->Bool
 |.nil,es=>es.isEmpty
 |.cons e r,es=>u1 es λa b=>eB sc N e a&&m8 sc N r b
noncomputable def chkO(sc:Scope)(N:List Str):CO->Option Expr->Bool
 |.no,o=>o.isNone
 |.yes e,o=>om o (eB sc N e)
noncomputable def chkC(sc:Scope)(N:List Str):CO->List Expr->Bool
 |.no,o=>o.isEmpty
 |.yes e,o=>l1 o (eB sc N e)
noncomputable def xV(sc:Scope)(N:List Str)(all:Bool):CG->Expr->Bool
 |.name i,e=>dNm e λx _=>N[i]? ==some x&&(sc.names.lookup x==some .local||sc.names.lookup x==some .cell)
 |.tup gs,e=>dTu e λes=>xU sc N all gs es
 |.sub o i,e=>dSu e λo' a=> !vY a&&eB sc N o o'&&eB sc N i a
noncomputable def xU(sc:Scope)(N:List Str)(all:Bool):CGs->List Expr->Bool
 |.nil,es=>es.isEmpty
 |.cons g gs,es=>u1 es λa es'=>xV sc N all g a&&xU sc N all gs es'
noncomputable def chkI(sc:Scope)(N:List Str):CI->Expr->Expr->Bool
 |.seq e,c,_=>eB sc N e c
 |.lseq e,c,_=>eB sc N e c
 |.range1 e,x,_=>dFn x λf es=>l1 es λc=>decide (f="range")&&lK sc f&&eB sc N e c
 |.range2 a b,x,_=>dFn x λf es=>l2 es λd g=>decide (f="range")&&lK sc f&&eB sc N a d&&eB sc N b g
 |.enumt e,x,tg'=>dFn x λf es=>l1 es λc=>decide (f="enumerate")&&lK sc f&&eB sc N e c&&um tg'
end
mutual
noncomputable def ql:CE->Bool
 |.var _=>true
 |.con _=>true
 |.glo _=>true
 |.ty _=>true
 |.lst es=>xw es
 |.tup es=>xw es
 |.bfn .isinstance es=>xw es
 |.bfn .isx es=>xw es
 |.fld a _=>ql a
 |.bin _ a b=>ql a&&ql b
 |.meth1 _ a b=>ql a&&ql b
 |_=>false
noncomputable def xw:CL->Bool
 |.nil=>true
 |.cons e es=>ql e&&xw es
end
abbrev GZ:CE->Bool
 |.bfn .isx es=>xw es
 |_=>false
abbrev liteT:CE->Bool
 |.and a b=>GZ a&&GZ b
 |c=>GZ c
mutual
noncomputable def liteS:CS->Bool
 |.asg (.name _) e=>ql e
 |.ret e=>ql e
 |.pass=>true
 |.expr e=>ql e
 |.iff c a b=>liteT c&&(De a&&De b)
 |_=>false
noncomputable def De:CB->Bool
 |.nil=>true
 |.hole=>false
 |.cons s r=>liteS s&&De r
end
abbrev isCe:CE->Bool
 |.comp .. =>true
 |_=>false
mutual
noncomputable def chkS(sc:Scope)(N:List Str):CS->Stmt->Bool
 |.asg g e,s=>dAs s λk h _=>xV sc N true g k&&eB sc N e h&& !xB h&& !(um k&&um h)
 |.asgc i e,s=>isCe e&&dAs s λg h _=>dNm g λx p=>dLc h λa b c d=>N[i]? ==some x&&(sc.names.lookup x==some .local||sc.names.lookup x==some .cell)&&eB sc N e (.ListComp a b c d)&&
   (sc.names.lookup x==some .cell||(decide (p.line=d.line)&& !(c.names.any λy=>decide (y.1=x)&&(decide (y.2=.local)||decide (y.2=.cell)))))
 |.expr e,s=>dEx s λh=>eB sc N e h&& !xB h
 |.iff c a b,s=>dIs s λc' r j=>eB sc N c c'&&rh sc N a r&&rh sc N b j
 |.whl c b,s=>dWh s λc' j=>eB sc N c c'&&rh sc N b j
 |.forr g it b,s=>dFo s λk m j=>xV sc N true g k&&chkI sc N it m k&& !isSet m&&rh sc N b j
 |.ret e,s=>dRt s λo=>om o (eB sc N e)
 |.retN,s=>dRt s λo=>o.isNone
 |.rais x es,s=>dRa s λl es'=>decide (x=l)&&lK sc x&&rU x&&(!es'.isEmpty&&m8 sc N es es')
 |.raisX x es,s=>dRa s λl es'=>decide (x=l)&&lK sc x&&rU x&&(!es'.isEmpty&&m8 sc N es es')
 |.fldX o f e,s=>dAs s λg h _=>dAt g λo' t _=>decide (f=t)&&eB sc N o o'&&eB sc N e h&& !xB h
 |.tryc x i b su,s=>dTr s λj l n q=>decide (x=l)&&lK sc x&&rU x&&(N[i]? ==some n&&sc.names.lookup n==some .local&&De su)&&(!q.isEmpty&&rh sc N su q&&rh sc N b j)
 |.pass,s=>match s with
  |.Pass _=>true
  |_=>false
 |.brk,s=>match s with
  |.Break _=>true
  |_=>false
 |.cont,s=>match s with
  |.Continue _=>true
  |_=>false
noncomputable def rh(sc:Scope)(N:List Str):CB->List Stmt->Bool
 |.hole,_=>true
 |.nil,ss=>ss.isEmpty
 |.cons s r,ss=>u1 ss λs' a=>chkS sc N s s'&&rh sc N r a
end
structure Gam where
 val:Str->Option V
 fn:Str->Nat->Option (Sp×List V)
 ini:Str->Nat->Option (Addr×Sp×List V)
 dic:Addr->Option (List (Key×V))
 mak:Str->Nat->Option (Addr×Sp×List V)
 mth:Str->Nat->Option (Addr×Sp×List V)
def IT(K:ak)(tl:TE):TI:=λσ H R=>tl σ H λx H1=>(∃a,x=.ref a/\(∃xs,SqL K H1 a xs)/\R (Itl K a) H1)\/(∃a,x=.ref a/\(∃xs,SqT K H1 a xs)/\R (Itt K a) H1)\/(∃z,x=.str z/\R (Its z) H1)
def B9(K:ak)(t:TE):TT:=λσ H Q=>t σ H λx H1=>∃k,TruV K x H1 k/\Q k H1
mutual
noncomputable def wpE(G:Gam)(K:ak)(E:XS):CE->TE
 |.var i=>wA i
 |.con c=>tC (cv c)
 |.glo x=>λσ H Q=>∃v,G.val x<*v/\Q v H
 |.ty t=>tC (.ty t.t)
 |.bin op a b=>tOp (rP K op) (wpE G K E a) (wpE G K E b)
 |.cmp op a b=>tOp (i3 K op) (wpE G K E a) (wpE G K E b)
 |.chain o1 o2 a b c=>wD (i3 K o1) (i3 K o2) (wpE G K E a) (wpE G K E b) (wpE G K E c)
 |.not a=>Kl (wpE G K E a)
 |.and a b=>Kq (wpE G K E a) (wpE G K E b)
 |.or a b=>tOrV (wpE G K E a) (wpE G K E b)
 |.ite c a b=>tIf (wpT G K E c) (wpE G K E a) (wpE G K E b)
 |.idx a i=>tOp (rIx K) (wpE G K E a) (wpE G K E i)
 |.cut a lo hi=>tSl (K8 K) (wpE G K E a) (wpO G K E lo) (wpO G K E hi)
 |.tup es=>tTup (wpL G K E es)
 |.lst es=>tLst (wpL G K E es)
 |.call f es=>λσ H Q=>∃sp ag,G.fn f es.len<*(sp,ag)/\Cc sp ag (E σ) (wpL G K E es) σ H Q
 |.bfn b es=>tCB (rBf K b) (wpL G K E es)
 |.meth1 m o a=>tBM K "list" (rMm m) (wpE G K E o) (lV (wpE G K E a) tO)
 |.idxd a i=>tOp (rIxD K) (wpE G K E a) (wpE G K E i)
 |.dicT=>Kn
 |.setd o a b=>tBM K "dict" Gy (wpE G K E o) (lV (wpE G K E a) (lV (wpE G K E b) tO))
 |.base x es=>λσ H Q=>∃B,G.val x<*(.ref B)/\tBase K B (wpL G K E es) σ H Q
 |.fld a f=>λσ H Q=>wpE G K E a σ H λx H1=>rFld K f x H1 Q
 |.lrng a=>tLRng (lV (wpE G K E a) tO)
 |.sortset a=>Ca K (lV (wpE G K E a) tO)
 |.ssetl a=>yP K (lV (wpE G K E a) tO)
 |.x2 k a b=>X2.t K k (wpE G K E a) (wpE G K E b)
 |.comp own fr tg it cond elt=>yQ (wpI G K E it) (wpG G K N0 tg) (wpC G K N0 cond) (wpE G K N0 elt) (pJ own fr)
noncomputable def wpT(G:Gam)(K:ak)(E:XS):CE->TT
 |.cmp op a b=>wB (tOp (i3 K op) (wpE G K E a) (wpE G K E b))
 |.chain o1 o2 a b c=>wB (wD (i3 K o1) (i3 K o2) (wpE G K E a) (wpE G K E b) (wpE G K E c))
 |.not a=>tNot (wpT G K E a)
 |.and a b=>tAnd (wpT G K E a) (wpT G K E b)
 |.or a b=>tOr (wpT G K E a) (wpT G K E b)
 |.ite _ _ _=>λ_ _ _=>False
 |.var i=>B9 K (wA i)
 |.con c=>B9 K (tC (cv c))
 |.glo x=>B9 K (λσ H Q=>∃v,G.val x<*v/\Q v H)
 |.idx a i=>B9 K (tOp (rIx K) (wpE G K E a) (wpE G K E i))
 |.call f es=>B9 K (λσ H Q=>∃sp ag,G.fn f es.len<*(sp,ag)/\Cc sp ag (E σ) (wpL G K E es) σ H Q)
 |.bfn b es=>B9 K (tCB (rBf K b) (wpL G K E es))
 |.x2 k a b=>X2.tt K k (wpE G K E a) (wpE G K E b)
 |_=>λ_ _ _=>False
noncomputable def wpL(G:Gam)(K:ak)(E:XS):CL->TA
 |.nil=>tO
 |.cons e es=>lV (wpE G K E e) (wpL G K E es)
noncomputable def wpO(G:Gam)(K:ak)(E:XS):CO->TO
 |.no=>Af
 |.yes e=>Kk (wpE G K E e)
noncomputable def wpC(G:Gam)(K:ak)(E:XS):CO->TT
 |.no=>tYes
 |.yes e=>wpT G K E e
noncomputable def wpG(G:Gam)(K:ak)(E:XS):CG->TG
 |.name i=>oa i
 |.tup gs=>gTup K gs.len (wpGs G K E gs)
 |.sub o i=>gSub (wpE G K E o) (wpE G K E i) rSetL
noncomputable def wpGs(G:Gam)(K:ak)(E:XS):CGs->TGs
 |.nil=>gNil
 |.cons g gs=>MK (wpG G K E g) (wpGs G K E gs)
noncomputable def wpI(G:Gam)(K:ak)(E:XS):CI->TI
 |.seq e=>IT K (wpE G K E e)
 |.lseq e=>ME K (wpE G K E e)
 |.range1 e=>MD (lV (wpE G K E e) tO)
 |.range2 a b=>MC (lV (wpE G K E a) (lV (wpE G K E b) tO))
 |.enumt e=>MF K (lV (wpE G K E e) tO)
end
mutual
noncomputable def wpS(G:Gam)(K:ak)(E:XS):CS->TS
 |.asg g e=>Ag (wpE G K E e) (wpG G K E g)
 |.asgc i e=>Ag (wpE G K E e) (oa i)
 |.expr e=>Km (wpE G K E e)
 |.iff c a b=>tIfS (wpT G K E c) (wpB G K E a) (wpB G K E b)
 |.whl c b=>Ki (wpT G K E c) (wpB G K E b)
 |.forr g it b=>tFor (wpI G K E it) (wpG G K E g) (wpB G K E b)
 |.ret e=>tRet (wpE G K E e)
 |.retN=>Kj
 |.rais x es=>λD σ H=>∃C,G.val x<*(.ref C)/\cO K (.ref C)=true/\PySem.W.excIn K C bmV "ValueError.__new__"=true/\wpL G K E es σ H λvs H1=>vs.length<=sizeLine/\E σ (.ref C) none H1
 |.raisX x es=>λD σ H=>∃C sp ag,G.ini x es.len<*(C,sp,ag)/\KN C sp ag E (wpL G K E es) D σ H
 |.fldX o f e=>sFldX K (wpE G K E o) (wpE G K E e) f
 |.tryc x i b su=>λD σ H=>∃C,G.val x<*(.ref C)/\wpB G K (uy K C i (wpB G K N0 su) D) b D σ H
 |.pass=>Cb
 |.brk=>Ko
 |.cont=>tCont
noncomputable def wpB(G:Gam)(K:ak)(E:XS):CB->TS
 |.nil=>Cb
 |.hole=>λ_ _ _=>False
 |.cons s r=>yv (wpS G K E s) (wpB G K E r)
end
noncomputable abbrev Sat(G:Gam)(K:ak)(sp:Sp)(c:CB)(N:List Str):Prop:=∀vs H Q E,sp vs H Q E->wpB G K (λ_=>E) c {nx:=λ_ H'=>Q .non H',rt:=Q} (L2.start N vs) H
abbrev jT:List Str:=["len","isinstance","all","any","list","tuple","int","bool","str","dict","range","enumerate","sorted","set","min","max","ValueError","sum","zip","reversed"]
structure Ok(CX:CXT)(G:Gam)(E:XS)(sc:Scope)(N:List Str)(all:Bool)(X:Cx):Prop where
 names:X.N=N
 top:all=true->X.stack=X.env::X.outer/\X.env.frame<*X.env.locals/\X.ex=[]
 nd:N.Nodup
 loc:∀x,sc.names.lookup x<*.local->X.env.scope.names.lookup x<*.local
 cel:∀x,sc.names.lookup x<*.cell->X.env.scope.names.lookup x<*.cell
 fre:∀x,sc.names.lookup x<*.free->X.env.scope.names.lookup x<*.cell\/X.env.scope.names.lookup x<*.free
 glo:∀x,sc.names.lookup x<*.globalImplicit->X.env.scope.names.lookup x<*.globalImplicit
 all:all=true->∀x,X.fn x=true
 own:∀x,sc.names.lookup x<*.cell->X.fn x=true
 calm:X.calm=true
 hu:X.A.units+50<cLine
 val:∀x v,G.val x<*v->∃u,X.mg x<*u/\RelV v u
 fn:∀x n sp ag,G.fn x n<*(sp,ag)->∃f fd ps ds k,jV X.prog X.w X.K X.mg X.base CX k f fd ps sp/\jG k X.A/\X.mg x<*(.ref f)/\cO X.K (.ref f)=true/\Binds X.K fd ps ds/\bT ag ds
 ini:∀x n C sp ag,G.ini x n<*(C,sp,ag)->∃f fd ps ds k,MkX X.K C f/\jV X.prog X.w X.K X.mg X.base CX k f fd ps sp/\jG (k+1) X.A/\X.mg x<*(.ref C)/\Binds X.K fd ps ds/\bT ag ds
 dic:∀a kvs,G.dic a<*kvs->DkIn X.prog X.w X.K a kvs
 mak:∀x n C sp ag,G.mak x n<*(C,sp,ag)->∃f fd ps ds k,Mk X.K C f/\jV X.prog X.w X.K X.mg X.base CX k f fd ps sp/\jG (k+1) X.A/\X.mg x<*(.ref C)/\Binds X.K fd ps ds/\bT ag ds
 mth:∀m n C sp ag,G.mth m n<*(C,sp,ag)->∃f fd ps ds k,Cls X.K C/\Meth X.K C m f/\jV X.prog X.w X.K X.mg X.base CX k f fd ps sp/\jG k X.A/\Binds X.K fd ps ds/\bT ag ds
 blt:∀x∈jT,X.mg x=none
 px:PassesOwn (model X.prog X.w) X.A X.env X.xe
 pass:zV CX X E
 made:MadeS X E
 madeX:FX X E
 cx:CX=CXx X.prog X.w
def Bf.mem:∀b:Bf,b.name∈jT:=by intro b;cases b<;>decide+kernel
def Ty.mem:∀b:Ty,b.name∈jT:=by intro b;cases b<;>decide+kernel
section
variable {CX:CXT}{G:Gam}{E:XS}{N:List Str}{all:Bool}
def Ok.vis(o:Ok CX G E sc N all X)(h:Di sc x=true):Vis X.env.scope x:=by
 unfold Di at h;rw[cR,cR,beq_iff_eq,beq_iff_eq,beq_iff_eq]at h;rcases h with(h|h) |h;·exact .inl (o.loc x h)
 .exact .inr (.inl (o.cel x h))
 .rcases o.fre x h with q|q;·exact .inr (.inl q)
  .exact .inr (.inr q)
def Ok.gl(o:Ok CX G E sc N all X)(h:lK sc x=true):Gl X x:=by unfold lK at h;rw[beq_iff_eq]at h;exact o.glo x h
def iP(h:rU x=true):(x==("__debug__":Str))=false/\(x==("__classdict__":Str))=false:=by unfold rU at h;rw[aB,beq_iff_eq,beq_iff_eq]at h;exact h
def GA:∀a,OpR X (gC a) (rP X.K a)
 |.Add=>op_add.or (E2.or (op_cat.or (r':=λ_ _ _ _=>False) λ_ _ _ _ _ _ _ _ _ _ _ _ h=>h.elim))
 |.Sub=>op_sub
 |.Mult=>op_mul.or (op_rep.or op_repS)
 |.Mod=>op_mod
 |.FloorDiv=>op_fdiv
 |.Pow=>op_pow
 |.RShift=>op_shr
 |.MatMult=>λ_ _ _ _ _ _ _ _ _ _ _ _ h=>h.elim
 |.Div=>λ_ _ _ _ _ _ _ _ _ _ _ _ h=>h.elim
 |.LShift=>op_shl
 |.BitOr=>λ_ _ _ _ _ _ _ _ _ _ _ _ h=>h.elim
 |.BitXor=>op_xor
 |.BitAnd=>op_and
def pK(b:X.A.units+50<cLine):∀a,OpR X (dc a) (i3 X.K a)
 |.Eq=>op_eqD 'D'
 |.NotEq=>op_neD 'D'
 |.Lt=>op_lt
 |.LtE=>op_le
 |.Gt=>op_gt
 |.GtE=>op_ge
 |.Is=>op_isN
 |.IsNot=>op_notN
 |.In=>(Ir.or (op_inD 'D')).or Iu
 |.NotIn=>(AS.or (Iq 'D')).or AU
def rSlc_ok:SlR X (K8 X.K):=sl_list.or (sl_tup.or (sl_str.or sl_tupW))
def rBf_ok(a:X.calm=true)(c:X.A.units+50<cLine):∀b,fG X (Bf.val b) (rBf X.K b)
 |.len=>Bv.or (Bu.or Q.yG)
 |.isinstance=>vd.or sC
 |.all=>Nr a
 |.list=>Bt
 |.tuple=>yF
 |.set=>Q.Jg a
 |.min=>uE a
 |.sum=>Np a
 |.int=>Jl
 |.lend=>DI
 |.sorti=>Q.Bs
 |.sortl=>Q.Bq
 |.sortt=>Q.Bp 'D'
 |.minl=>Q.Ji a 'D'
 |.maxl=>Q.Jj a 'D'
 |.setp=>D8.Jh a 'D'
 |.isx=>sA
def Mm.slot:∀m:Mm,Slot "list" m.name m.id
 |.append=>PySem.F.slot_list_append|.clear=>PySem.F.slot_list_clear|.reverse=>PySem.F.slot_list_reverse|.pop=>PySem.F.slot_list_pop|.index=>PySem.F.slot_list_index|.extend=>PySem.F.slot_list_extend
def Mm.ty:∀m:Mm,typeOf (.builtin m.id)=pure (.type "method_descriptor")
 |.append=>PySem.F.type_list_append|.clear=>PySem.F.type_list_clear|.reverse=>PySem.F.type_list_reverse|.pop=>PySem.F.type_list_pop|.index=>PySem.F.type_list_index|.extend=>PySem.F.type_list_extend
def Lb:∀m:Mm,MtR X m.id (rMm m)
 |.append=>ID|.clear=>L5|.reverse=>E4|.pop=>MtR.or (r:=λ_ _ _ _=>False) (λ_ _ _ _ _ _ _ _ _ _ _ _ h=>h.elim) LZ|.index=>λ_ _ _ _ _ _ _ _ _ _ _ _ h=>h.elim|.extend=>IC
def Bz(h:baseOk o=true)(nm:Str)(env:Env)(t:Sem Value):NQ o nm env t=t:=by
 cases o<;>first
  |rfl
  |exact dD h
  | (rename_i f es ks p;cases f<;>first
   |rfl
   |exact dD h)
def cC{c:CE}(h:eB sc N c e=true)(a:List Expr)(env:Env):bH (e::a) env=(false,eval e env)::bH a env:=by
 cases e<;>first
  |rfl
  | (cases c<;>exact dD h)
def k6{c:CE}{r:CL}{e:List Expr}(h:m8 sc N (.cons c r) e=true):∃b d,e=b::d/\eB sc N c b=true/\m8 sc N r d=true:=
 let⟨b,d,a,k⟩:=Gb h
 (b,d,a,an k,)
def m7{a:List Expr}(h:m8 sc N .nil a=true):a=[]:=nil_of h
theorem rg:∀{l:CL}{es:List Expr},m8 sc N l es=true->∀(env:Env)(pos:Pos),(backTo pos (bH es env)).any (·.1)=false
 |.nil,es,h,env,pos=>by rw[m7 h];rfl
 |.cons c r,es,h,env,pos=>by obtain⟨e,d,rfl,a,b⟩:=k6 h;rw[cC a];show(false||(backTo pos (bH d env)).any (·.1))=false;rw[rg b];rfl
def Cg{l:CL}{a:List Expr}(h:m8 sc N l a=true)(g:(!a.isEmpty)=true):∃e es',a=e::es'/\∀(env:Env)(pos:Pos),bH (e::es') env=(false,eval e env)::bH es' env/\(backTo pos (bH es' env)).any (·.1)=false:=by
 cases l with
 |nil=>obtain rfl:=m7 h;exact dD g
 |cons c r=>obtain⟨b,i,rfl,d,f⟩:=k6 h;exact(b,i,rfl,λenv pos=>(cC d _ _,rg f _ _,),)
theorem DF:∀{l:CL}{es:List Expr},m8 sc N l es=true->es.length=l.len
 |.nil,es,h=>by rw[m7 h];rfl
 |.cons c r,es,h=>by obtain⟨b,e,rfl,d,a⟩:=k6 h;rw[bG,DF a,CL.len]
def AX(h:isSet e=false)(env:Env):∀x,kT e env x=pure x:=by
 intro x;cases e<;>first
  |rfl
  | (exact LS h)
def jb(h:isSet e=false)(op:CmpOp):NP op e=false:=by
 cases e<;>first
  |rfl
  | (exact LS h)
def Cz(h:vY e=false):Ht e:=by
 intro o i;cases e<;>first
  |rfl
  | (exact LS h)
def rW(h:xB e=false)(t:Option Expr)(l:Nat)(env:Env):rA e t l env=pure false:=by
 cases e<;>first
  |rfl
  | (exact LS h)
def pt_tru{t:TE}(h:PE X e t)(b:∀a,isTrue e X.env a=(do let v<-a;BE e.pos;holding [v] (truthy v))):PT X e (B9 X.K t):=lj h b
def pi_any{l:Expr}{k:TE}(m:PE X l k):PI X tg l (IT X.K k):=by
 intro r s y H R I h;refine thn (m r s y H _ I h) λv c ⟨x,g,d,i,q1⟩=>?_;have key:∀{A:TE}{B:TI},True:=λ{_ _}=>trivial;rcases q1 with q1|q1|q1
 .obtain⟨a,e,⟨w,hq⟩,q⟩:=q1;subst e;cases i;obtain⟨j,u,p,n⟩:=d.list hq;refine kO p.isList ?_;refine(⇑c,[⇑c],_,_,g,rfl,d.kept (t':=c.toks) λb o e=>af _ e,yN a _,(_,az _ rfl,rfl,rfl,),λb f=>?_,q,);have e:b=⇑c:=by simpa using f
  subst e;exact d.Ba (aC _) (d.hok.fresh (aC _))
 .obtain⟨a,e,⟨w,hq⟩,q⟩:=q1;subst e;cases i;obtain⟨j,u,p,n⟩:=d.tuple hq;refine jW (show c.heap.IsTuple a j.toArray from p) ?_;refine(⇑c,[⇑c],_,_,g,rfl,d.kept (t':=c.toks) λb o e=>af _ e,Es a _,(_,az _ rfl,rfl,rfl,),λb f=>?_,q,);have e:b=⇑c:=by simpa using f
  subst e;exact d.Ba (aC _) (d.hok.fresh (aC _))
 .obtain⟨z,e,q⟩:=q1;subst e;obtain⟨t,rfl⟩:=i;refine wpAny_pyIter_strU ?_;refine(⇑c,[⇑c],_,_,g,rfl,d.kept (t':=c.toks) λb o e=>af _ e,J9 z _ t,(_,az _ rfl,rfl,rfl,),λb f=>?_,q,);have e:b=⇑c:=by simpa using f
  subst e;exact d.Ba (aC _) (d.hok.fresh (aC _))
end
set_option maxHeartbeats 4000000
section
variable {CX:CXT}{G:Gam}
structure pU(sc sc':Scope)(N own:List Str)(fr:List Nat):Prop where
 kind:sc'.kind=.function
 cellk:∀y∈sc'.names,y.2=.cell->sc'.names.lookup y.1<*.cell
 own1:∀y∈sc'.names,y.2=.local->sc'.names.lookup y.1<*.local
 free:∀y∈sc'.names,y.2=.free->sc.names.lookup y.1<*.cell\/sc.names.lookup y.1<*.free
 nd:(namesOf N own fr).Nodup
 fr:∀j∈fr,j<N.length/\sc'.names.lookup (N.getD j "")<*.free
 own2:∀x∈own,sc'.names.lookup x<*.local\/sc'.names.lookup x<*.cell
def wM{own:List Str}{fr:List Nat}(h:AV sc sc' N own fr=true):pU sc sc' N own fr:=by unfold AV at h;simp only[aB,bx,decide_eq_true_eq,beq_iff_eq,cR]at h;obtain⟨⟨⟨⟨⟨⟨a,b⟩,c⟩,d⟩,e⟩,f⟩,g⟩:=h;exact(a,b,c,d,e,f,g,)
def pU.comp{E:XS}{own:List Str}{fr:List Nat}{all:Bool}(S:pU sc sc' N own fr)(o:Ok CX G E sc N all X):pV X (namesOf N own fr) sc':=
 ⟨S.kind,S.cellk,S.own1,λy a hf=>by
  rcases S.free y a hf with q|q;·exact .inl (o.cel _ q)
  .exact o.fre _ q⟩
def pU.mkOk{E:XS}{own:List Str}{fr:List Nat}{all:Bool}(S:pU sc sc' N own fr)(o:Ok CX G E sc N all X):MkOk X (namesOf N own fr) sc' (pJ own fr):=by
 intro e g;refine(by simp[pJ,namesOf],λi x v b a=>?_,);unfold pJ at a;unfold namesOf at b;by_cases hi:i<own.length
 .rw[da ↥hi,ay]at a;cases q:own[i]? with
  |none=>rw[q]at a;cases a
  |some z=>rw[q]at a;cases a
 .rw[dI ↥hi,ay,ao]at a;rw[dI ↥hi,ay]at b;cases q:fr[i-own.length]? with
  |none=>rw[q]at a;cases a
  |some j=>
   rw[q]at b a;have d:N.getD j ""=x:=aW b;have c:(e[j]?).getD none<*v:=aW a;obtain⟨f,hf⟩:=S.fr j (aH q);refine(by rw[<-d];exact hf,j,?_,?_,);·rw[o.names,<-d,ah,ae f];rfl
   .cases w:e[j]? with
    |none=>rw[w]at c;cases c
    |some z=>rw[w]at c;exact congrArg some c
noncomputable abbrev HX(CX:CXT):Prop:=∀o H s e s',CX o H s E0 e s'->False
def Ok.comp{E:XS}{own:List Str}{fr:List Nat}{all:Bool}(c:HX CX)(S:pU sc sc' N own fr)(o:Ok CX G E sc N all X)(C:Addr)(d:Shared)(a:Hp)(b:List Addr):
  Ok CX G N0 sc' (namesOf N own fr) false (eU X (namesOf N own fr) sc' C d a b) where
 names:=rfl
 nd:=S.nd
 loc:=λx h=>lookup_relabel_local (env:=X.env) h
 cel:=λx h=>gX (env:=X.env) h 'E'
 own:=λx h=>cz.mpr ⟨(x,.cell),bO h,'F'⟩
 fre:=λx h=>(iC (env:=X.env) h).symm
 glo:=λx h=>gX (env:=X.env) h 'E'
 all:=λh=>absurd h 'E'
 calm:=o.calm
 hu:=o.hu
 val:=o.val
 fn:=o.fn
 ini:=o.ini
 dic:=o.dic
 mak:=o.mak
 mth:=o.mth
 blt:=o.blt
 px:=PassesOwn.never
 pass:=λ_ _ _ _ _ _ _ h=>(c _ _ _ _ _ h).elim
 made:=λ_ _ _ _ _ _ _ _ _ _ h=>h.elim
 madeX:=λ_ _ _ _ _ _ _ _ _ h=>h.elim
 cx:=o.cx
 top:=λh=>absurd h 'E'
def rV{all:Bool}{g:CG}(h:xV sc N all g e=true)(a:List Expr)(env:Env):jf (e::a) env=(false,assign e env)::jf a env:=by
 cases e<;>first
  |rfl
  | (cases g<;>exact dD h)
def xT{all:Bool}{g:CG}{r:CGs}{d:List Expr}(h:xU sc N all (.cons g r) d=true):∃b c,d=b::c/\xV sc N all g b=true/\xU sc N all r c=true:=
 let⟨b,c,a,k⟩:=Gb h
 (b,c,a,an k,)
def zA{all:Bool}{a:List Expr}(h:xU sc N all .nil a=true):a=[]:=nil_of h
theorem vc{all:Bool}:∀{c:CGs}{es:List Expr},xU sc N all c es=true->∀env,(jf es env).length=c.len/\(jf es env).findIdx? (·.1)=none
 |.nil,es,h,env=>by rw[zA h];exact(rfl,rfl,)
 |.cons g r,es,h,env=>by obtain⟨f,i,rfl,d,e⟩:=xT h;obtain⟨a,b⟩:=vc e env;rw[rV d];refine(by rw[bG,a,CGs.len],?_,);rw[List.findIdx?_cons];simp[b]
end
section
variable {CX:CXT}{G:Gam}
noncomputable abbrev IHE(CX:CXT)(G:Gam)(c:CE):Prop:=∀(e:Expr){E:XS}{sc:Scope}{N:List Str}{all:Bool}{X:Cx},Ok CX G E sc N all X->eB sc N c e=true->PE X e (wpE G X.K E c)
noncomputable abbrev IHT(CX:CXT)(G:Gam)(c:CE):Prop:=∀(e:Expr){E:XS}{sc:Scope}{N:List Str}{all:Bool}{X:Cx},Ok CX G E sc N all X->eB sc N c e=true->PT X e (wpT G X.K E c)
abbrev isBo:Expr->Bool
 |.BoolOp .. =>true
 |_=>false
def isBo_of(h:isBo e=true):∃a es p,e=.BoolOp a es p:=by
 cases e<;>first
  |exact⟨_,_,_,rfl⟩
  |exact dD h
noncomputable abbrev IHW(CX:CXT)(G:Gam)(c:CE):Prop:=∀(e:Expr){E:XS}{sc:Scope}{N:List Str}{all:Bool}{X:Cx},Ok CX G E sc N all X->eB sc N c e=true->isBo e=true->PW X e (wpT G X.K E c)
noncomputable abbrev IHL(CX:CXT)(G:Gam)(c:CL):Prop:=∀(es:List Expr){E:XS}{sc:Scope}{N:List Str}{all:Bool}{X:Cx},Ok CX G E sc N all X->m8 sc N c es=true->PA X es (wpL G X.K E c)
noncomputable abbrev IHO(CX:CXT)(G:Gam)(c:CO):Prop:=∀(e:Option Expr){E:XS}{sc:Scope}{N:List Str}{all:Bool}{X:Cx},Ok CX G E sc N all X->chkO sc N c e=true->PO X e (wpO G X.K E c)
noncomputable abbrev IHC(CX:CXT)(G:Gam)(c:CO):Prop:=∀(es:List Expr){E:XS}{sc:Scope}{N:List Str}{all:Bool}{X:Cx},Ok CX G E sc N all X->chkC sc N c es=true->PTs X es (wpC G X.K E c)
noncomputable abbrev IHG(CX:CXT)(G:Gam)(c:CG):Prop:=∀(e:Expr){E:XS}{sc:Scope}{N:List Str}{all:Bool}{X:Cx},Ok CX G E sc N all X->xV sc N all c e=true->PG X e (wpG G X.K E c)
noncomputable abbrev NH(CX:CXT)(G:Gam)(c:CGs):Prop:=∀(es:List Expr){E:XS}{sc:Scope}{N:List Str}{all:Bool}{X:Cx},Ok CX G E sc N all X->xU sc N all c es=true->PGs X es (wpGs G X.K E c)
noncomputable abbrev IHI(CX:CXT)(G:Gam)(c:CI):Prop:=∀(e tg:Expr){E:XS}{sc:Scope}{N:List Str}{all:Bool}{X:Cx},Ok CX G E sc N all X->chkI sc N c e tg=true->PI X tg e (wpI G X.K E c)
def KS:IHE CX G (.var i):=by intro e E g N all X o h;obtain⟨x,p,rfl,k⟩:=iD h;obtain⟨c,d,f⟩:=iS k;obtain⟨a,b⟩:=iP f;exact Lp (by rw[o.names];exact beq_iff_eq.mp c) (o.vis d) a b
def K0{c:Const}:IHE CX G (.con c):=by
  intro e E g N all X o h;obtain⟨f,j,p,rfl,k⟩:=FD h;obtain⟨a,d⟩:=an k;cases W0 d;cases c with
  |none=>exact Lx
  |bool b=>exact pe_bl
  |int i=>exact Lz
  |str x=>exact Lr
  |_=>exact dD a
def KZ:IHE CX G (.glo x):=by intro e E l N all X o h;obtain⟨y,p,rfl,k⟩:=iD h;obtain⟨a,b,c⟩:=iS k;cases W0 a;intro i s j H Q I g;obtain⟨v,f,q⟩:=g;obtain⟨u,d,r⟩:=o.val _ _ f;exact GG (o.gl b) d r (iP c).1 i s j H Q I q
def sE_ty{t:Ty}:IHE CX G (.ty t):=by intro e E c N all X o h;obtain⟨y,p,rfl,k⟩:=iD h;obtain⟨a,b⟩:=an k;cases W0 a;exact GI (o.gl b) (o.blt _ t.mem) t.boot rfl t.plain.1 t.plain.2
def sE_bin{op:Operator}{a b:CE}(g:IHE CX G a)(i:IHE CX G b):IHE CX G (.bin op a b):=by intro e E n N all X o h;obtain⟨j,m,l,p,rfl,k⟩:=Nh h;obtain⟨c,d,f⟩:=iS k;cases W0 c;exact pe_op (GA op) (g _ o d) (i _ o f)
def sE_cmp{op:CmpOp}{a b:CE}(i:IHE CX G a)(j:IHE CX G b):IHE CX G (.cmp op a b):=by intro e E q N all X o h;obtain⟨l,n,m,p,rfl,c,k⟩:=uA h;obtain⟨d,f,g⟩:=iS k;cases W0 d;exact AM (pK o.hu op) (i _ o f) (j _ o g) (jb c op)
def K1{f d:CmpOp}{a b c:CE}(t:IHE CX G a)(u:IHE CX G b)(v:IHE CX G c):IHE CX G (.chain f d a b c):=by intro e E D N all X o h;obtain⟨w,A,z,p,rfl,k⟩:=FE h;obtain⟨B,C,rfl,l⟩:=zh k;obtain⟨x,y,rfl,m⟩:=zh l;obtain⟨g,i,j,n⟩:=ni m;obtain⟨q,r,s⟩:=iS n;cases W0 g;cases W0 i;exact LC (pK o.hu f) (pK o.hu d) (t _ o q) (u _ o r) (v _ o s) (jb (qR j) d)
def sE_not{a:CE}(d:IHE CX G a):IHE CX G (.not a):=by intro e E i N all X o h;obtain⟨g,f,p,rfl,k⟩:=Na h;obtain⟨b,c⟩:=an k;cases W0 b;exact pe_not (d _ o c)
def sE_and{a b:CE}(f:IHE CX G a)(g:IHE CX G b):IHE CX G (.and a b):=by
  intro e E s N all X o h;obtain⟨q,j,x,p,k,m⟩:=qX h;obtain⟨i,c,d⟩:=iS k;cases W0 i;rcases m with rfl|⟨l,n,r,rfl,rfl⟩;·exact LI (f _ o c) (Lw (g _ o d))
  .exact LI (f _ o c) (g _ o d)
def sE_or{a b:CE}(f:IHE CX G a)(g:IHE CX G b):IHE CX G (.or a b):=by
  intro e E s N all X o h;obtain⟨q,j,x,p,k,m⟩:=qX h;obtain⟨i,c,d⟩:=iS k;cases W0 i;rcases m with rfl|⟨l,n,r,rfl,rfl⟩;·exact pe_or (f _ o c) (Lw (g _ o d))
  .exact pe_or (f _ o c) (g _ o d)
def sE_ite{c a b:CE}(l:IHT CX G c)(i:IHE CX G a)(j:IHE CX G b):IHE CX G (.ite c a b):=by intro e E r N all X o h;obtain⟨q,m,n,p,rfl,k⟩:=dIf_of h;obtain⟨d,f,g⟩:=iS k;exact LA (l _ o d) (i _ o f) (j _ o g)
def KY{a i:CE}(f:IHE CX G a)(g:IHE CX G i):IHE CX G (.idx a i):=by intro e E m N all X o h;obtain⟨j,l,p,rfl,k⟩:=xO h;obtain⟨b,c,d⟩:=iS k;exact pe_ix ix_seq (f _ o c) (g _ o d) (Cz (qR b))
def sE_cut{a:CE}{lo hi:CO}(g:IHE CX G a)(j:IHO CX G lo)(i:IHO CX G hi):IHE CX G (.cut a lo hi):=by intro e E v N all X o h;obtain⟨q,s,p,rfl,k⟩:=xO h;obtain⟨l,u,t,r,rfl,m⟩:=dSl_of k;obtain⟨b,c,n⟩:=iS m;obtain⟨d,f⟩:=an n;cases iU.mp b;exact Lv rSlc_ok (g _ o c) (j _ o d) (i _ o f)
def sE_tup{a:CL}(b:IHL CX G a):IHE CX G (.tup a):=by intro e E d N all X o h;obtain⟨c,j,p,rfl,k⟩:=Fy h;exact Lq (b _ o k)
def sE_lst{a:CL}(b:IHL CX G a):IHE CX G (.lst a):=by intro e E d N all X o h;obtain⟨c,p,rfl,k⟩:=Nc h;exact Ly (b _ o k)
def Gk{f:Str}{b:CL}(x:IHL CX G b):IHE CX G (.call f b):=by
  intro e E K N all X o h;obtain⟨A,D,u,p,rfl,k⟩:=ki h;obtain⟨v,d,g,c⟩:=ni k;cases W0 v;intro r s t H Q I a;obtain⟨L,z,hf,a⟩:=a;obtain⟨B,C,J,y,k,F,n,m,l,i,j⟩:=o.fn _ _ _ _ hf;cases u with
  |nil=>
   cases b with
   |nil=>exact Il F n (o.gl d) m l i j o.pass (iP g).1 r s t H Q I a
   |cons=>exact dD c
  |cons e1 r1=>have w:=x _ o c;obtain⟨_,_,e,q⟩:=Cg c rfl;cases e;exact LD F n (o.gl d) m l i j o.pass w (iP g).1 (q _ p).1 (q _ _).2 r s t H Q I a
def Bf.kind:∀b:Bf,(∃n,b.val=.builtin n)\/∃n,b.val=.type n:=by intro b;cases b<;>first |exact .inl ⟨_,rfl⟩ |exact .inr ⟨_,rfl⟩
def LH{b:Bf}{a:List Expr}{t:TA}{l:CL}(c:fG X b.val (rBf X.K b))(i:Gl X b.name)(j:X.mg b.name=none)(g:PA X a t)(k:(!a.isEmpty)=true)(h:m8 sc N l a=true):PE X (.Call (.Name b.name np) a [] pos) (tCB (rBf X.K b) t):=by
 obtain⟨e,m,rfl,d⟩:=Cg h k;have f:=b.boot;rcases b.kind with⟨n,q⟩ |⟨n,q⟩;·rw[q]at c f;exact LF c i j f g b.plain.1 b.plain.2 (d _ pos).1 (d _ _).2
 .rw[q]at c f;exact Ik c i j f g b.plain.1 b.plain.2 (d _ pos).1 (d _ _).2
def K2{b:Bf}{a:CL}(i:IHL CX G a):IHE CX G (.bfn b a):=by intro e E n N all X o h;obtain⟨l,m,j,p,rfl,k⟩:=ki h;obtain⟨d,f,g,c⟩:=ni k;cases W0 d;exact LH (rBf_ok o.calm o.hu b) (o.gl f) (o.blt _ b.mem) (i _ o c) g c
def KW{m:Mm}{b a:CE}(j:IHE CX G b)(i:IHE CX G a):IHE CX G (.meth1 m b a):=by intro e E t N all X o h;obtain⟨s,p,r,q,rfl,d,k⟩:=Bj h;obtain⟨n,rfl,l⟩:=lY k;obtain⟨f,g,c⟩:=iS l;exact LG B2 m.slot m.ty (Lb m) (j _ o g) (gQ (i _ o c) j9 (cC c _ _)) (Bz f _ _ _) (by rw[cC c];rfl) d (cC c _ _) rfl
def sE_idxd{a i:CE}(f:IHE CX G a)(g:IHE CX G i):IHE CX G (.idxd a i):=by intro e E m N all X o h;obtain⟨j,l,p,rfl,k⟩:=xO h;obtain⟨b,c,d⟩:=iS k;exact pe_ix (ix_dict (by have :=o.hu;lia)) (f _ o c) (g _ o d) (Cz (qR b))
def sE_dicT:IHE CX G .dicT:=by intro e E d N all X o h;obtain⟨c,f,p,rfl,k⟩:=dDi_of h;obtain⟨a,b⟩:=an k;obtain rfl:=nil_of a;obtain rfl:=nil_of b;exact LB
def sE_setd{b a c:CE}(p:IHE CX G b)(n:IHE CX G a)(q:IHE CX G c):IHE CX G (.setd b a c):=by intro e E x N all X o h;obtain⟨w,s,v,u,rfl,g,k⟩:=Bj h;obtain⟨r,t,rfl,l⟩:=zh k;obtain⟨i,j,m⟩:=iS l;obtain⟨d,f⟩:=an m;exact LG PySem.F.plainAttrs_dict yd PySem.F.type_dict_setdefault (IB (by have :=o.hu;lia)) (p _ o j) (gQ (n _ o d) (gQ (q _ o f) j9 (cC f _ _)) (cC d _ _)) (Bz i _ _ _) (by rw[cC d,cC f];rfl) g (cC d _ _) (by rw[cC f];rfl)
def Nm{l:CL}{a:List Expr}(h:m8 sc N l a=true)(d:l.len<29)(env:Env)(b:Pos):((backTo b (bH a env)).all (λx=> !x.1)&&(BK b (pZ [] env)).all (λx=>x.1.isSome)
   &&decide (a.length+([]:List Keyword).length+(if([]:List Keyword).isEmpty then 0 else 1)<30))=true:=by
 have c:=rg h env b;rw[aB,aB];refine((?_,rfl,),?_,);·rw[List.any_eq_false]at c;exact bx.mpr λx e=>by simpa using c x e
 .rw[decide_eq_true_eq,DF h];exact fX d 'E'
def sE_base{c:CL}(z:IHL CX G c):IHE CX G (.base x c):=by intro e E M N all X o h;obtain⟨L,F,J,b,rfl,f,k⟩:=Bj h;obtain⟨O,K,rfl,l⟩:=iD k;obtain⟨g,i,j,m⟩:=ni l;obtain⟨n,p,a⟩:=iS m;cases W0 g;intro A s D H Q I y;obtain⟨B,w,q⟩:=y;obtain⟨u,v,C⟩:=o.val _ _ w;obtain rfl:u=aN B:=C;have t:=z _ o a;have r:=Nm a (W0 n) X.env b;obtain⟨_,_,rfl,d⟩:=Cg a p;exact pe_base (o.gl i) v t (iP j).1 (d _ b).1 (d _ _).2 r f A s D H Q I q
def sE_fld{a:CE}{f:Str}(d:IHE CX G a):IHE CX G (.fld a f):=by intro e E j N all X o h;obtain⟨v,g,p,rfl,k⟩:=Bk h;obtain⟨n,i,rfl,l⟩:=iD k;obtain⟨b,c⟩:=an l;cases W0 b;exact GH (d _ o c)
def sE_lrng{a:CE}(f:IHE CX G a):IHE CX G (.lrng a):=by intro e E i N all X o h;obtain⟨p,g,q,r,t,rfl,c,d,b⟩:=FC h;exact pe_lrng o.calm (o.gl d) (o.blt _ (by decide+kernel)) (o.gl c) (o.blt _ (by decide+kernel)) (gQ (f _ o b) j9 (cC b _ _)) (cC b _ _)
def EI{a:CE}(f:IHE CX G a):IHE CX G (.sortset a):=by intro e E i N all X o h;obtain⟨p,g,q,r,t,rfl,c,d,b⟩:=FC h;exact ET o.calm (o.gl c) (o.blt _ (by decide+kernel)) (o.gl d) (o.blt _ (by decide+kernel)) (gQ (f _ o b) j9 (cC b _ _)) (cC b _ _)
def KU{a:CE}(f:IHE CX G a):IHE CX G (.ssetl a):=by intro e E i N all X o h;obtain⟨p,g,q,r,t,rfl,c,d,b⟩:=FC h;exact CA o.calm o.hu (o.gl c) (o.blt _ (by decide+kernel)) (o.gl d) (o.blt _ (by decide+kernel)) (gQ (f _ o b) j9 (cC b _ _)) (cC b _ _)
def sE_x2{k:X2}{a b:CE}(i:IHE CX G a)(j:IHE CX G b):IHE CX G (.x2 k a b):=by
  intro e E s N all X o n;obtain⟨_,h⟩:=an n;have r:X.A.units+1<cLine:=by have :=o.hu;lia
  cases k with
  |inT=>obtain⟨l,q,m,p,rfl,g,k⟩:=uA h;obtain⟨c,k⟩:=an k;obtain⟨d,f⟩:=an k;cases W0 c;exact AM (LM (by have :=o.hu;lia)) (i _ o d) (j _ o f) (jb g _)
  |ltL=>obtain⟨l,q,m,p,rfl,g,k⟩:=uA h;obtain⟨c,k⟩:=an k;obtain⟨d,f⟩:=an k;cases W0 c;exact AM (LL 'D') (i _ o d) (j _ o f) (jb g _)
def sT_x2{k:X2}{a b:CE}(i:IHE CX G a)(j:IHE CX G b):IHT CX G (.x2 k a b):=by
  intro e E s N all X o n;obtain⟨_,h⟩:=an n;have r:X.A.units+1<cLine:=by have :=o.hu;lia
  cases k with
  |inT=>obtain⟨l,q,m,p,rfl,g,k⟩:=uA h;obtain⟨c,k⟩:=an k;obtain⟨d,f⟩:=an k;cases W0 c;exact AI (LM (by have :=o.hu;lia)) (i _ o d) (j _ o f) (jb g _)
  |ltL=>obtain⟨l,q,m,p,rfl,g,k⟩:=uA h;obtain⟨c,k⟩:=an k;obtain⟨d,f⟩:=an k;cases W0 c;exact AI (LL 'D') (i _ o d) (j _ o f) (jb g _)
def sE_comp(c:HX CX){own:List Str}{fr:List Nat}{j:CG}{i:CI}{f:CO}{g:CE}(A:IHI CX G i)(z:IHG CX G j)(w:IHC CX G f)(x:IHE CX G g):IHE CX G (.comp own fr j i f g):=by
  intro e E I N all X o h;obtain⟨B,D,J,p,rfl,k⟩:=FA h;obtain⟨⟨K,H,F,y⟩,rfl,l⟩:=lY k;obtain⟨n,q,r,m⟩:=ni l;obtain⟨s,t,u,v⟩:=ni m;cases W0 n;have S:=wM q;exact pe_comp (S.comp o) (S.mkOk o) o.calm (A _ _ o s)
   (λC d a b _=>(z _ (o.comp c S C d a b) t,w _ (o.comp c S C d a b) u,x _ (o.comp c S C d a b) v,)) (AX (qR r) _)
def sT_cmp{op:CmpOp}{a b:CE}(i:IHE CX G a)(j:IHE CX G b):IHT CX G (.cmp op a b):=by intro e E q N all X o h;obtain⟨l,n,m,p,rfl,c,k⟩:=uA h;obtain⟨d,f,g⟩:=iS k;cases W0 d;exact AI (pK o.hu op) (i _ o f) (j _ o g) (jb c op)
def KL{f d:CmpOp}{a b c:CE}(t:IHE CX G a)(u:IHE CX G b)(v:IHE CX G c):IHT CX G (.chain f d a b c):=by intro e E D N all X o h;obtain⟨w,A,z,p,rfl,k⟩:=FE h;obtain⟨B,C,rfl,l⟩:=zh k;obtain⟨x,y,rfl,m⟩:=zh l;obtain⟨g,i,j,n⟩:=ni m;obtain⟨q,r,s⟩:=iS n;cases W0 g;cases W0 i;exact Le (pK o.hu f) (pK o.hu d) (t _ o q) (u _ o r) (v _ o s) (jb (qR j) d)
def sT_not{a:CE}(d:IHT CX G a):IHT CX G (.not a):=by intro e E i N all X o h;obtain⟨g,f,p,rfl,k⟩:=Na h;obtain⟨b,c⟩:=an k;cases W0 b;exact pt_not (d _ o c)
def sT_var:IHT CX G (.var i):=by intro e E a N all X o h;have q:=KS e o h;obtain⟨x,p,rfl,k⟩:=iD h;exact lj q λ_=>rfl
def sT_con{c:Const}:IHT CX G (.con c):=by intro e E a N all X o h;have q:=K0 e o h;obtain⟨x,j,p,rfl,k⟩:=FD h;exact lj q λ_=>rfl
def sT_glo:IHT CX G (.glo x):=by intro e E a N all X o h;have q:=KZ e o h;obtain⟨x,p,rfl,k⟩:=iD h;exact lj q λ_=>rfl
def sT_idx{a i:CE}(b:IHE CX G a)(c:IHE CX G i):IHT CX G (.idx a i):=by intro e E d N all X o h;have q:=KY b c e o h;obtain⟨x,y,p,rfl,k⟩:=xO h;exact lj q λ_=>rfl
def sT_call{f:Str}{a:CL}(b:IHL CX G a):IHT CX G (.call f a):=by intro e E d N all X o h;have q:=Gk b e o h;obtain⟨x,c,a,p,rfl,k⟩:=ki h;exact lj q λ_=>rfl
def sT_bfn{b:Bf}{a:CL}(c:IHL CX G a):IHT CX G (.bfn b a):=by intro e E f N all X o h;have q:=K2 c e o h;obtain⟨x,d,a,p,rfl,k⟩:=ki h;exact lj q λ_=>rfl
def KJ{a b:CE}(f:IHT CX G a)(i:IHT CX G b)(j:IHW CX G b):IHW CX G (.and a b):=by
  intro e E t N all X o h;obtain⟨s,l,x,p,k,m⟩:=qX h;obtain⟨g,c,d⟩:=iS k;cases W0 g;rcases m with rfl|⟨n,q,r,rfl,rfl⟩;·exact λ_=>EL (f _ o c) (GB (i _ o d))
  .exact λ_=>EL (f _ o c) (j _ o d rfl)
def sT_and{a b:CE}(c:IHW CX G (.and a b)):IHT CX G (.and a b):=by intro e E j N all X o h;obtain⟨i,d,x,p,k,m⟩:=qX h;exact(c _ o h (by rcases m with rfl|⟨f,g,r,rfl,rfl⟩<;>rfl)).pt
def sW_or{a b:CE}(f:IHT CX G a)(i:IHT CX G b)(j:IHW CX G b):IHW CX G (.or a b):=by
  intro e E t N all X o h;obtain⟨s,l,x,p,k,m⟩:=qX h;obtain⟨g,c,d⟩:=iS k;cases W0 g;rcases m with rfl|⟨n,q,r,rfl,rfl⟩;·exact λ_=>pw_or (f _ o c) (pw_or1 (i _ o d))
  .exact λ_=>pw_or (f _ o c) (j _ o d rfl)
def sT_or{a b:CE}(c:IHW CX G (.or a b)):IHT CX G (.or a b):=by intro e E j N all X o h;obtain⟨i,d,x,p,k,m⟩:=qX h;exact(c _ o h (by rcases m with rfl|⟨f,g,r,rfl,rfl⟩<;>rfl)).pt
def sL_nil:IHL CX G .nil:=by intro a E b N all X o h;obtain rfl:=m7 h;exact j9
def sL_cons{c:CE}{r:CL}(d:IHE CX G c)(e:IHL CX G r):IHL CX G (.cons c r):=by intro g E j N all X o h;obtain⟨f,i,rfl,a,b⟩:=k6 h;exact gQ (d _ o a) (e _ o b) (cC a _ _)
def sO_no:IHO CX G .no:=by intro e E a N all X o h;obtain rfl:=iU.mp h;exact po_none
def sO_yes{c:CE}(a:IHE CX G c):IHO CX G (.yes c):=by intro e E d N all X o h;obtain⟨b,rfl,k⟩:=LO h;exact po_some (a _ o k)
def sC_no:IHC CX G .no:=by intro a E b N all X o h;obtain rfl:=nil_of h;exact pts_nil
def sC_yes{c:CE}(a:IHT CX G c):IHC CX G (.yes c):=by intro d E e N all X o h;obtain⟨b,rfl,k⟩:=lY h;exact pts_one (a _ o k)
def sG_name:IHG CX G (.name i):=by
  intro e E c N all X o h;obtain⟨x,p,rfl,k⟩:=iD h;rw[aB,cR,beq_iff_eq,beq_iff_eq,beq_iff_eq]at k;obtain⟨b,a⟩:=k;refine AL (by rw[o.names];exact o.nd) (by rw[o.names];exact b) ?_ ?_
  .rcases a with q|q;·exact .inl (o.loc x q)
   .exact .inr (o.cel x q)
  .rcases a with q|q;·exact .inr (o.loc x q)
   .exact .inl (o.own x q)
def sG_tup{c:CGs}(d:NH CX G c):IHG CX G (.tup c):=by intro e E g N all X o h;obtain⟨f,j,p,rfl,k⟩:=Fy h;obtain⟨a,b⟩:=vc k X.env;exact pg_tup o.calm (d _ o k) a b
def sG_sub{b i:CE}(g:IHE CX G b)(j:IHE CX G i):IHG CX G (.sub b i):=by
  intro e E m N all X o h;obtain⟨l,f,p,rfl,k⟩:=xO h;obtain⟨a,c,d⟩:=iS k;refine pg_sub (g _ o c) (j _ o d) set_list λv=>?_;cases f<;>first
   |rfl
   |exact dD a
def sGs_nil:NH CX G .nil:=by intro a E b N all X o h;obtain rfl:=zA h;exact pgs_nil
def KR{c:CG}{r:CGs}(d:IHG CX G c)(e:NH CX G r):NH CX G (.cons c r):=by intro g E j N all X o h;obtain⟨f,i,rfl,a,b⟩:=xT h;exact Ln (d _ o a) (e _ o b) (by rw[rV a];rfl)
def sI_seq{c:CE}(a:IHE CX G c):IHI CX G (.seq c):=by intro e d E b N all X o h;exact pi_any (a _ o h)
def sI_lseq{c:CE}(a:IHE CX G c):IHI CX G (.lseq c):=by intro e d E b N all X o h;exact pi_list (a _ o h)
def HZ{c:CE}(g:IHE CX G c):IHI CX G (.range1 c):=by intro e q E n N all X o h;obtain⟨f,m,j,p,rfl,k⟩:=ki h;obtain⟨i,rfl,l⟩:=lY k;obtain⟨b,d,a⟩:=iS l;cases W0 b;exact Ij (o.gl d) (o.blt _ (by decide+kernel)) (gQ (g _ o a) j9 (cC a _ _)) (cC a _ _)
def HY{a b:CE}(j:IHE CX G a)(m:IHE CX G b):IHI CX G (.range2 a b):=by intro e u E t N all X o h;obtain⟨f,s,r,p,rfl,k⟩:=ki h;obtain⟨n,q,rfl,l⟩:=zh k;obtain⟨g,i,d,c⟩:=ni l;cases W0 g;exact Ii (o.gl i) (o.blt _ (by decide+kernel)) (gQ (j _ o d) (gQ (m _ o c) j9 (cC c _ _)) (cC d _ _)) (by rw[cC d,cC c];rfl) (cC c _ _)
def IM(h:um e=true):∃es k p,e=.Tuple es k p:=by cases e<;>first |exact⟨_,_,_,rfl⟩ |exact dD h
def KQ{c:CE}(m:IHE CX G c):IHI CX G (.enumt c):=by intro e t E s N all X o h;obtain⟨f,q,b,p,rfl,k⟩:=ki h;obtain⟨n,rfl,l⟩:=lY k;obtain⟨d,g,a,i⟩:=ni l;cases W0 d;obtain⟨b,j,r,rfl⟩:=IM i;exact Ll (o.gl g) (o.blt _ (by decide+kernel)) (gQ (m _ o a) j9 (cC a _ _)) (cC a _ _)
mutual
theorem bW(d:HX CX):∀c:CE,IHE CX G c
 |.var i=>KS
 |.con c=>K0
 |.glo x=>KZ
 |.ty t=>sE_ty
 |.bin op a b=>sE_bin (bW d a) (bW d b)
 |.cmp op a b=>sE_cmp (bW d a) (bW d b)
 |.chain o1 o2 a b c=>K1 (bW d a) (bW d b) (bW d c)
 |.not a=>sE_not (bW d a)
 |.and a b=>sE_and (bW d a) (bW d b)
 |.or a b=>sE_or (bW d a) (bW d b)
 |.ite c a b=>sE_ite (jy d c) (bW d a) (bW d b)
 |.idx a i=>KY (bW d a) (bW d i)
 |.cut a lo hi=>sE_cut (bW d a) (Ky d lo) (Ky d hi)
 |.tup es=>sE_tup (mh d es)
 |.lst es=>sE_lst (mh d es)
 |.call f es=>Gk (mh d es)
 |.bfn b es=>K2 (mh d es)
 |.meth1 m b a=>KW (bW d b) (bW d a)
 |.idxd a i=>sE_idxd (bW d a) (bW d i)
 |.dicT=>sE_dicT
 |.setd b a c=>sE_setd (bW d b) (bW d a) (bW d c)
 |.base x es=>sE_base (mh d es)
 |.fld a f=>sE_fld (bW d a)
 |.lrng a=>sE_lrng (bW d a)
 |.sortset a=>EI (bW d a)
 |.ssetl a=>KU (bW d a)
 |.x2 k a b=>sE_x2 (bW d a) (bW d b)
 |.comp own fr tg it cond elt=>sE_comp d (ED d it) (tR d tg) (Kz d cond) (bW d elt)
theorem jy(d:HX CX)(c:CE):IHT CX G c:=by
 cases c with
 |cmp op a b=>exact sT_cmp (bW d a) (bW d b)
 |chain p q a b c=>exact KL (bW d a) (bW d b) (bW d c)
 |not a=>exact sT_not (jy d a)
 |and a b=>exact sT_and (KJ (jy d a) (jy d b) (Av d b))
 |or a b=>exact sT_or (sW_or (jy d a) (jy d b) (Av d b))
 |var i=>exact sT_var
 |con c=>exact sT_con
 |glo x=>exact sT_glo
 |idx a i=>exact sT_idx (bW d a) (bW d i)
 |call f es=>exact sT_call (mh d es)
 |bfn b es=>exact sT_bfn (mh d es)
 |x2 k a b=>exact sT_x2 (bW d a) (bW d b)
 |_=>exact λ_ _ _ _ _ _ _ _ _ _ _ _ _ _ z=>z.elim
theorem Av(d:HX CX)(c:CE):IHW CX G c:=by
 cases c with
 |and a b=>exact KJ (jy d a) (jy d b) (Av d b)
 |or a b=>exact sW_or (jy d a) (jy d b) (Av d b)
 |_=>intro e E j N all X o h f;obtain⟨i,g,p,rfl⟩:=isBo_of f;exact dD h
theorem mh(a:HX CX):∀c:CL,IHL CX G c
 |.nil=>sL_nil
 |.cons c r=>sL_cons (bW a c) (mh a r)
theorem Ky(a:HX CX):∀c:CO,IHO CX G c
 |.no=>sO_no
 |.yes c=>sO_yes (bW a c)
theorem Kz(a:HX CX):∀c:CO,IHC CX G c
 |.no=>sC_no
 |.yes c=>sC_yes (jy a c)
theorem tR(a:HX CX):∀c:CG,IHG CX G c
 |.name i=>sG_name
 |.tup gs=>sG_tup (Gf a gs)
 |.sub ob i=>sG_sub (bW a ob) (bW a i)
theorem Gf(a:HX CX):∀c:CGs,NH CX G c
 |.nil=>sGs_nil
 |.cons c r=>KR (tR a c) (Gf a r)
theorem ED(d:HX CX):∀c:CI,IHI CX G c
 |.seq c=>sI_seq (bW d c)
 |.lseq c=>sI_lseq (bW d c)
 |.range1 c=>HZ (bW d c)
 |.range2 a b=>HY (bW d a) (bW d b)
 |.enumt c=>KQ (bW d c)
end
end
section
variable {CX:CXT}{G:Gam}
def w9{all:Bool}{g:CG}(h:xV sc N all g tg=true)(a:(um tg&&um e)=false)(env:Env):swappedStores [tg] e env=pure none:=by
 cases tg with
 |Tuple es k p=>
  cases e<;>first
   |rfl
   | (exact LS a)
 |List es p=>cases g<;>exact dD h
 |_=>rfl
def Cd{a:Expr}{b:List Comprehension}{c:Scope}{d p:Pos}{l:Nat}{env:Env}(h:env.kindOf x≠some .local):rA (.ListComp a b c d) (some (.Name x p)) l env=pure false:=by
 show(pure (env.blockKind== .function&&env.kindOf x==some .local&&p.line==d.line&& !(c.names.any λ(n,k)=>n==x&&(k== .local||k== .cell))):Sem Bool)=pure false;have e:(env.kindOf x==some eZ.local)=false:=by simpa using h
 rw[e,dS,dR,dR]
def Ez{a:Expr}{b:List Comprehension}{c:Scope}{d p:Pos}{l:Nat}{env:Env}(g:env.scope.kind=.function)(h:env.kindOf x<*.local)(i:p.line=d.line)
  (j:(c.names.any λy=>decide (y.1=x)&&(decide (y.2=.local)||decide (y.2=.cell)))=false):rA (.ListComp a b c d) (some (.Name x p)) l env=pure true:=by
 show(pure (env.blockKind== .function&&env.kindOf x==some .local&&p.line==d.line&& !(c.names.any λ(n,k)=>n==x&&(k== .local||k== .cell))):Sem Bool)=pure true;have e:env.blockKind=.function:=by unfold Env.blockKind;rw[g];rfl
 have f:(c.names.any λ(n,k)=>n==x&&(k==eZ.local||k==dz))=false:=by rw[<-j];congr 1
 rw[e,h,i,f];simp
def FH{c:CE}(h:isCe c=true):∃own fr tg it a elt,c=.comp own fr tg it a elt:=by
 cases c with
 |comp own fr tg it a elt=>exact(_,_,_,_,_,_,rfl,)
 |_=>exact dD h
def C3(h:xB e=false)(a:Expr)(l:Nat)(env:Env):NK [a] e l env=pure false:=by unfold NK;exact rW h _ _ _
structure OkL(G:Gam)(sc:Scope)(N:List Str)(X:Cx):Prop where
 names:X.N=N
 nd:N.Nodup
 loc:∀x,sc.names.lookup x<*.local->X.env.scope.names.lookup x<*.local
 cel:∀x,sc.names.lookup x<*.cell->X.env.scope.names.lookup x<*.cell
 fre:∀x,sc.names.lookup x<*.free->X.env.scope.names.lookup x<*.cell\/X.env.scope.names.lookup x<*.free
 glo:∀x,sc.names.lookup x<*.globalImplicit->X.env.scope.names.lookup x<*.globalImplicit
 all:∀x,X.fn x=true
 val:∀x v,G.val x<*v->∃u,X.mg x<*u/\RelV v u
 blt:∀x∈jT,X.mg x=none
def OkL.vis(o:OkL G sc N X)(h:Di sc x=true):Vis X.env.scope x:=by
 unfold Di at h;rw[cR,cR,beq_iff_eq,beq_iff_eq,beq_iff_eq]at h;rcases h with(h|h) |h;·exact .inl (o.loc x h)
 .exact .inr (.inl (o.cel x h))
 .rcases o.fre x h with q|q;·exact .inr (.inl q)
  .exact .inr (.inr q)
def OkL.gl(o:OkL G sc N X)(h:lK sc x=true):Gl X x:=by unfold lK at h;rw[beq_iff_eq]at h;exact o.glo x h
def isi_ok:fG X (.builtin "isinstance") (rBf X.K .isinstance):=vd.or sC
mutual
theorem iQ(c:CE)(e:Expr){E:XS}(o:OkL G sc N X)(l:ql c=true)(h:eB sc N c e=true):PE X e (wpE G X.K E c):=by
 cases c with
 |var i=>obtain⟨x,p,rfl,k⟩:=iD h;obtain⟨g,d,w⟩:=iS k;obtain⟨D,F⟩:=iP w;exact Lp (by rw[o.names];exact beq_iff_eq.mp g) (o.vis d) D F
 |con c=>
  obtain⟨V,j,p,rfl,k⟩:=FD h;obtain⟨g,d⟩:=an k;cases W0 d;cases c with
  |none=>exact Lx
  |bool b=>exact pe_bl
  |int i=>exact Lz
  |str x=>exact Lr
  |_=>exact dD g
 |glo x=>obtain⟨y,p,rfl,k⟩:=iD h;obtain⟨g,d,w⟩:=iS k;cases W0 g;intro R s S H Q I O;obtain⟨v,M,q⟩:=O;obtain⟨u,L,r⟩:=o.val _ _ M;exact GG (o.gl d) L r (iP w).1 R s S H Q I q
 |ty t=>obtain⟨y,p,rfl,k⟩:=iD h;obtain⟨g,d⟩:=an k;cases W0 g;exact GI (o.gl d) (o.blt _ t.mem) t.boot rfl t.plain.1 t.plain.2
 |lst z=>obtain⟨B,p,rfl,k⟩:=Nc h;exact Ly (o7 z _ o l k)
 |tup z=>obtain⟨B,j,p,rfl,k⟩:=Fy h;exact Lq (o7 z _ o l k)
 |bfn b z=>
  obtain⟨J,P,B,p,rfl,k⟩:=ki h;obtain⟨g,d,w,A⟩:=ni k;cases W0 g;cases b with
  |isinstance=>exact LH (b:=.isinstance) isi_ok (o.gl d) (o.blt _ (Bf.mem _)) (o7 z _ o l A) w A
  |isx=>exact LH (b:=.isx) sA (o.gl d) (o.blt _ (Bf.mem _)) (o7 z _ o l A) w A
  |_=>exact dD l
 |fld a f=>obtain⟨v,J,p,rfl,k⟩:=Bk h;obtain⟨n,P,rfl,m⟩:=iD k;obtain⟨g,d⟩:=an m;cases W0 g;exact GH (iQ a _ o l d)
 |meth1 m a b=>obtain⟨l1,l2⟩:=an l;obtain⟨Y,T,z,W,rfl,K,k⟩:=Bj h;obtain⟨C,rfl,n⟩:=lY k;obtain⟨g,d,w⟩:=iS n;exact LG B2 m.slot m.ty (Lb m) (iQ a _ o l1 d) (gQ (iQ b _ o l2 w) j9 (cC w _ _)) (Bz g _ _ _) (by rw[cC w];rfl) K (cC w _ _) rfl
 |bin op a b=>obtain⟨l1,l2⟩:=an l;obtain⟨C,Z,U,p,rfl,k⟩:=Nh h;obtain⟨g,d,w⟩:=iS k;cases W0 g;exact pe_op (GA op) (iQ a _ o l1 d) (iQ b _ o l2 w)
 |_=>exact dD l
theorem o7(c:CL)(a:List Expr){E:XS}(o:OkL G sc N X)(l:xw c=true)(h:m8 sc N c a=true):PA X a (wpL G X.K E c):=by
 cases c with
 |nil=>obtain rfl:=m7 h;exact j9
 |cons c r=>obtain⟨e,f,rfl,b,d⟩:=k6 h;obtain⟨l1,l2⟩:=an l;exact gQ (iQ c _ o l1 b) (o7 r _ o l2 d) (cC b _ _)
end
def xv(c:CE)(e:Expr){E:XS}(o:OkL G sc N X)(l:GZ c=true)(h:eB sc N c e=true):PT X e (wpT G X.K E c)/\∀f b p,e≠.BoolOp f b p:=by
 cases c with
 |bfn b a=>
  cases b with
  |isx=>have d:=iQ (E:=E) (.bfn .isx a) e o l h;obtain⟨x,g,a,p,rfl,k⟩:=ki h;exact⟨pt_tru d (λ_=>rfl),λ_ _ _ z=>nomatch z⟩
  |_=>exact dD l
 |_=>exact dD l
def Mf(c:CE)(e:Expr){E:XS}(o:OkL G sc N X)(l:liteT c=true)(h:eB sc N c e=true):PT X e (wpT G X.K E c):=by
 cases c with
 |and a b=>
  obtain⟨l1,l2⟩:=an l;obtain⟨s,j,x,p,k,m⟩:=qX h;obtain⟨d,f,g⟩:=iS k;cases W0 d;obtain⟨i,nb⟩:=xv (E:=E) b x o l2 g;rcases m with rfl|⟨n,q,r,rfl,rfl⟩;·exact(EL (xv a _ o l1 f).1 (GB i)).pt
  .exact absurd rfl (nb _ _ _)
 |_=>refine(xv _ e o ?_ h).1;exact l
mutual
theorem Mg(c:CS)(st:Stmt){E:XS}(o:OkL G sc N X)(l:liteS c=true)(h:chkS sc N c st=true):PS X st (wpS G X.K E c):=by
 cases c with
 |asg g e=>
  obtain⟨z,n,p,rfl,k⟩:=Bl h;obtain⟨d,f,j,A⟩:=ni k;cases g with
  |name i=>
   obtain⟨x,p,rfl,m⟩:=iD d;rw[aB,cR,beq_iff_eq,beq_iff_eq,beq_iff_eq]at m;refine EN (iQ e _ o l f) ?_ (C3 (qR j) _ _ _) rfl rfl;refine AL (by rw[o.names];exact o.nd) (by rw[o.names];exact m.1) ?_ (.inl (o.all x));rcases m.2 with q|q;·exact .inl (o.loc x q)
   .exact .inr (o.cel x q)
  |_=>exact dD l
 |ret e=>obtain⟨r,p,rfl,k⟩:=Fz h;obtain⟨n,rfl,m⟩:=LO k;exact Lg (iQ e _ o l m)
 |pass=>
  cases st<;>first
   |exact GC
   |exact dD h
 |expr e=>obtain⟨n,p,rfl,k⟩:=Nf h;obtain⟨s,t⟩:=an k;exact GD (iQ e _ o l s) (rW (qR t) _ _ _)
 |iff c a b=>obtain⟨l1,l⟩:=an l;obtain⟨l2,u⟩:=an l;obtain⟨y,v,w,p,rfl,k⟩:=Nd h;obtain⟨d,f,j⟩:=iS k;exact ps_if (Mf c _ o l1 d) (r8 a _ o l2 f) (r8 b _ o u j)
 |_=>exact dD l
theorem r8(c:CB)(st:List Stmt){E:XS}(o:OkL G sc N X)(l:De c=true)(h:rh sc N c st=true):PSs X st (wpB G X.K E c):=by
 cases c with
 |hole=>exact dD l
 |nil=>obtain rfl:=nil_of h;exact AJ
 |cons s r=>obtain⟨l1,l2⟩:=an l;obtain⟨e,d,rfl,k⟩:=Gb h;obtain⟨a,b⟩:=an k;exact rQ (Mg s _ o l1 a) (r8 r _ o l2 b)
end
mutual
theorem Kx(f:HX CX):∀(c:CS)(st:Stmt){E:XS}{sc:Scope}{N:List Str}{X:Cx},Ok CX G E sc N true X->(∀pins σ H s,'A'->X.env.scope.kind=.function)->chkS sc N c st=true->PS X st (wpS G X.K E c)
 |.asg g e,st,E,sc,N,X,o,hk,h=>by obtain⟨R,F,p,rfl,k⟩:=Bl h;obtain⟨j,r,t,v⟩:=ni k;exact EN (bW f e _ o r) (tR f g _ o j) (rW (qR t) _ _ _) (w9 j (qR v) _) (by rw[rV j];rfl)
 |.asgc i e,st,E,sc,N,X,o,hk,h=>by
  obtain⟨T,h⟩:=an h;obtain⟨R,F,sp,rfl,k⟩:=Bl h;obtain⟨x,p,rfl,l⟩:=iD k;obtain⟨a,b,c,d,rfl,m⟩:=FA l;obtain⟨j,r,t,v⟩:=ni m;rw[beq_iff_eq]at j;rw[cR,beq_iff_eq,beq_iff_eq]at r;rw[cR,beq_iff_eq]at v;obtain⟨own,fr,tg,V,a3,a4,rfl⟩:=FH T;by_cases hl:X.env.scope.names.lookup x<*.local
  .rcases v with q|q;·rw[o.cel x q]at hl;cases hl
   obtain⟨q1,q2⟩:=an q;obtain⟨b1,gs,b5,p',e1,r1⟩:=FA t;cases e1;obtain⟨⟨b6,b3,b2,b7⟩,rfl,r2⟩:=lY r1;obtain⟨g0,g1,g2,r3⟩:=ni r2;obtain⟨g3,g4,g5,g6⟩:=ni r3;cases W0 g0;have S:=wM g1;intro pins s σ H D I w;exact EM (S.comp o) (S.mkOk o) o.calm (ED f V _ _ o g3)
    (λC Z L Q _=>(tR f tg _ (o.comp f S C Z L Q) g4,Kz f a3 _ (o.comp f S C Z L Q) g5,bW f a4 _ (o.comp f S C Z L Q) g6,))
    (by rw[o.names];exact o.nd) (by rw[o.names];exact j) hl (Ez (hk pins σ H s I) hl (W0 q1) (qR q2)) (AX (qR g2) _) pins s σ H D I w
  .have hc:sc.names.lookup x<*.cell:=by
    rcases r with q|q;·exact absurd (o.loc x q) hl
    .exact q
   exact ps_set (by rw[o.names];exact o.nd) (by rw[o.names];exact j) (.inr (o.cel x hc)) (bW f _ _ o t) (Cd (by rw[show X.env.kindOf x=_ from o.cel x hc];decide)) (.inl (o.all rfl x))
 |.expr e,st,E,sc,N,X,o,hk,h=>by obtain⟨F,p,rfl,k⟩:=Nf h;obtain⟨j,r⟩:=an k;exact GD (bW f e _ o j) (rW (qR r) _ _ _)
 |.iff c a b,st,E,sc,N,X,o,hk,h=>by obtain⟨c',a',M,p,rfl,k⟩:=Nd h;obtain⟨j,r,t⟩:=iS k;exact ps_if (jy f c _ o j) (oU f a _ o hk r) (oU f b _ o hk t)
 |.whl c b,st,E,sc,N,X,o,hk,h=>by obtain⟨c',M,p,rfl,k⟩:=dWh_of h;obtain⟨j,r⟩:=an k;exact Lf o.px (jy f c _ o j) (oU f b _ o hk r)
 |.forr g V b,st,E,sc,N,X,o,hk,h=>by obtain⟨R,i',M,p,rfl,k⟩:=dFo_of h;obtain⟨j,r,t,v⟩:=ni k;exact ps_for o.px o.calm (ED f V _ _ o r) (tR f g _ o j) (oU f b _ o hk v) (AX (qR t) _)
 |.ret e,st,E,sc,N,X,o,hk,h=>by obtain⟨a8,p,rfl,k⟩:=Fz h;obtain⟨F,rfl,m⟩:=LO k;exact Lg (bW f e _ o m)
 |.retN,st,E,sc,N,X,o,hk,h=>by obtain⟨a8,p,rfl,k⟩:=Fz h;obtain rfl:=iU.mp k;exact ps_retN
 |.rais x es,st,E,sc,N,X,o,hk,h=>by obtain⟨x',W,a5,P,p,rfl,k⟩:=Nb h;obtain⟨j,r,t,m⟩:=ni k;obtain⟨v,y⟩:=an m;cases W0 j;intro pins s σ H D I w;obtain⟨C,B,a7,hq,w⟩:=w;obtain⟨u,hu,Y⟩:=o.val _ _ B;obtain rfl:u=aN C:=Y;have U:=mh f es _ o y;obtain⟨_,_,rfl,A⟩:=Cg y v;exact Lh (o.gl r) hu a7 hq U o.calm (iP t).1 (A _ P).1 (A _ _).2 o.made pins s σ H D I w
 |.raisX x es,st,E,sc,N,X,o,hk,h=>by obtain⟨x',W,a5,P,p,rfl,k⟩:=Nb h;obtain⟨j,r,t,m⟩:=ni k;obtain⟨v,y⟩:=an m;cases W0 j;intro pins s σ H D I w;obtain⟨C,sp,b0,B,w⟩:=w;obtain⟨a6,fd,ps,ds,k,hM,a2,hr,hu,hb,hd⟩:=o.ini _ _ _ _ _ B;have U:=mh f es _ o y;obtain⟨_,_,rfl,A⟩:=Cg y v;exact Ig hM a2 hr hb hd o.pass (o.gl r) hu U o.calm (iP t).1 (A _ P).1 (A _ _).2 o.madeX pins s σ H D I w
 |.fldX a a6 e,st,E,sc,N,X,o,hk,h=>by obtain⟨R,F,p,rfl,k⟩:=Bl h;obtain⟨o',f',p',rfl,l⟩:=Bk k;obtain⟨j,r,t,v⟩:=ni l;cases W0 j;exact ps_fldX (bW f a _ o r) (bW f e _ o t) (rW (qR v) _ _ _)
 |.tryc x i b su,st,E,sc,N,X,o,hk,h=>by
  obtain⟨M,x',W,n,K,hp,p,rfl,k⟩:=dTr_of h;obtain⟨j,r,t,m,m'⟩:=and5 k;obtain⟨v,y,h6⟩:=iS m;obtain⟨T,h7,h8⟩:=iS m';cases W0 j;rw[beq_iff_eq]at v y;cases K with
  |nil=>exact dD T
  |cons s0 K=>
   obtain⟨t1,t2,t3⟩:=o.top rfl;intro pins s σ H D I w;obtain⟨C,B,w⟩:=w;obtain⟨u,hu,Y⟩:=o.val _ _ B;obtain rfl:u=aN C:=Y;have O:DT X x n C i (s0::K) (wpB G X.K N0 su):=
    {nd:=by rw[o.names];exact o.nd,at_:=by rw[o.names];exact v,loc:=o.loc n y,gl:=o.gl r,mg:=hu,db:=(iP t).1,stk:=t1,fr:=t2,ex:=t3
     su:=λpins a=>r8 su _ (X:=X.re (X.A.mark (some (.ref a))) false (X.pn++pins) (λ_ _=>False)) (o.names,o.nd,o.loc,o.cel,o.fre,o.glo,o.all rfl,o.val,o.blt,) h6 h7}
   exact ps_try (X:=X) (tb:=λD=>wpB G X.K (uy X.K C i (wpB G X.K N0 su) D) b) (λpins D ok=>oU f b _ (X:=X.re X.A X.calm (X.pn++pins) (lb X pins D [.ExceptHandler (some (.Name x W)) (some n) (s0::K) hp]))
    {names:=o.names,top:=λ_=>(t1,t2,t3,),nd:=o.nd,loc:=o.loc,cel:=o.cel,fre:=o.fre,glo:=o.glo,all:=o.all,own:=o.own,calm:=o.calm,hu:=o.hu,val:=o.val,fn:=o.fn,ini:=o.ini,dic:=o.dic,mak:=o.mak,mth:=o.mth,blt:=o.blt,px:=PassesOwn.looking
     pass:=λa0 a1 H' s' e b4 J z=>Ka O ok o.calm J (by rw[o.cx]at z;exact z)
     made:=λa0 a1 H' s' a c a9 h' J hm z=>Kb O ok J hm z
     madeX:=λa0 a1 H' s' a C' d J m z=>HF O ok J m z
     cx:=o.cx} (λ_ _ _ _ J=>J.ok.kind) h8) pins s σ H D I w
 |.pass,st,E,sc,N,X,o,hk,h=>by
  cases st<;>first
   |exact GC
   |exact dD h
 |.brk,st,E,sc,N,X,o,hk,h=>by
  cases st<;>first
   |exact Li
   |exact dD h
 |.cont,st,E,sc,N,X,o,hk,h=>by
  cases st<;>first
   |exact Cy
   |exact dD h
theorem oU(a:HX CX):∀(c:CB)(st:List Stmt){E:XS}{sc:Scope}{N:List Str}{X:Cx},Ok CX G E sc N true X->(∀pins σ H s,'A'->X.env.scope.kind=.function)->rh sc N c st=true->PSs X st (wpB G X.K E c)
 |.hole,_,_,_,_,_,_,_,_=>λ_ _ _ _ _ _ z=>z.elim
 |.nil,st,E,sc,N,X,o,hk,h=>by obtain rfl:=nil_of h;exact AJ
 |.cons s r,st,E,sc,N,X,o,hk,h=>by obtain⟨f,e,rfl,k⟩:=Gb h;obtain⟨b,d⟩:=an k;exact rQ (Kx a s _ o hk b) (oU a r _ o hk d)
end
end
structure GOk(P:Program)(w:World)(K:ak)(mg:Str->Option Value)(base:Heap)(CX:CXT)(k:Nat)(G:Gam):Prop where
 val:∀x v,G.val x<*v->∃u,mg x<*u/\RelV v u
 fn:∀x n sp ag,G.fn x n<*(sp,ag)->∃f fd ps ds j,j<=k/\jV P w K mg base CX j f fd ps sp/\mg x<*(.ref f)/\cO K (.ref f)=true/\Binds K fd ps ds/\bT ag ds
 ini:∀x n C sp ag,G.ini x n<*(C,sp,ag)->∃f fd ps ds j,j+1<=k/\MkX K C f/\jV P w K mg base CX j f fd ps sp/\mg x<*(.ref C)/\Binds K fd ps ds/\bT ag ds
 dic:∀a kvs,G.dic a<*kvs->DkIn P w K a kvs
 mak:∀x n C sp ag,G.mak x n<*(C,sp,ag)->∃f fd ps ds j,j+1<=k/\Mk K C f/\jV P w K mg base CX j f fd ps sp/\mg x<*(.ref C)/\Binds K fd ps ds/\bT ag ds
 mth:∀m n C sp ag,G.mth m n<*(C,sp,ag)->∃f fd ps ds j,j<=k/\Cls K C/\Meth K C m f/\jV P w K mg base CX j f fd ps sp/\Binds K fd ps ds/\bT ag ds
 blt:∀x∈jT,mg x=none
abbrev qg(N ps:List Str)(sc:Scope):Bool:=
 decide (sc.kind=.function)&&decide (sc.isCoroutine=false)&&decide (sc.isGenerator=false)&&decide N.Nodup&&decide (N.take ps.length=ps)&&
 ps.all (λx=>sc.names.lookup x==some .local||sc.names.lookup x==some .cell)&&sc.names.all (λy=>decide (y.2≠.free))
def CY{ps:List Str}(h:qg N ps sc=true):wb N ps sc:=by unfold qg at h;simp only[aB,bx,decide_eq_true_eq,beq_iff_eq,cR]at h;obtain⟨⟨⟨⟨⟨⟨a,b⟩,c⟩,d⟩,e⟩,f⟩,g⟩:=h;exact(a,b,c,d,e,f,g,)
section
variable {mg:Str->Option Value}
def LP{ps:List Str}{G:Gam}{outer:List Env}{E:XK}(S:wb N ps sc)(g:GOk P w K mg base (CXx P w) k G)(i:jG k (A.deeper (envOfC qual sc ⇑s f ai))):Ok (CXx P w) G (λ_=>E) sc N true (Bm (CXx P w) P w K mg base N qual sc f ai A outer s H E):=
  {names:=rfl,top:=λ_=>(rfl,rfl,rfl,),nd:=S.nd,loc:=λ_ z=>z,cel:=λ_ z=>z,fre:=λy z=>absurd rfl (S.nofree _ (bO z)),glo:=λ_ z=>z,all:=λ_ _=>rfl,own:=λ_ _=>rfl,calm:=rfl,
   hu:=by have :=i.units;show _+50<cLine;exact dJ (Nat.add_le_add_left 'E' _) this
   val:=g.val
   fn:=λy n h a e=>by obtain⟨b,fd',ps',ds',j,hj,F',hm,hk,hb,d⟩:=g.fn y n h a e;exact(b,fd',ps',ds',j,F',i.mono hj,hm,hk,hb,d,)
   ini:=λy n C h a e=>by obtain⟨b,fd',ps',ds',j,hj,M,F',hm,hb,d⟩:=g.ini y n C h a e;exact(b,fd',ps',ds',j,M,F',i.mono hj,hm,hb,d,)
   dic:=g.dic
   mak:=λy n C h a e=>by obtain⟨b,fd',ps',ds',j,hj,M,F',hm,hb,d⟩:=g.mak y n C h a e;exact(b,fd',ps',ds',j,M,F',i.mono hj,hm,hb,d,)
   mth:=λy n C h a e=>by obtain⟨b,fd',ps',ds',j,hj,c,M,F',hb,d⟩:=g.mth y n C h a e;exact(b,fd',ps',ds',j,c,M,F',i.mono hj,hb,d,)
   blt:=g.blt,px:=PassesOwn.leaving,pass:=Jn,made:=Jo,madeX:=FO,cx:=rfl}
def Dv{st:Stmt}{kV:Value}{an:Option Addr}{ps:List Str}{G:Gam}{sp:Sp}{a:CB}(j:K.lookup f<*(oc,od,.func (aP x qual (bV st) (bB st) (aZ st) dV kV am pm an ai ct),bv,))(c:fq K ai qual=true)(d:qg N ps (aZ st)=true)(b:rh (aZ st) N a (bB st)=true)
  (g:GOk P w K mg base (CXx P w) k G)(len:∀vs H Q E,sp vs H Q E->vs.length=ps.length)
  (h:∀vs H Q E,sp vs H Q E->wpB G K (λ_=>E) a {nx:=λ_ H'=>Q .non H',rt:=Q} (start N vs) H):jV P w K mg base (CXx P w) (k+1) f (aP x qual (bV st) (bB st) (aZ st) dV kV am pm an ai ct) ps sp:=by
 have S:=CY d;refine fn_of j c S len λA l s H vs Q E e i=>?_;exact(_,oU (λ_ _ _ _ _ z=>IZ z) a _ (LP S g e) (λ_ _ _ _ _=>S.kind) b,h vs H Q E i,)
def He{st:Stmt}{b:fP}{ps:List Str}{G:Gam}{sp:Sp}{a:CB}(F:Fun K x qual st f b)(e:qg N ps (aZ st)=true)(c:rh (aZ st) N a (bB st)=true)
  (g:GOk P w K mg base (CXx P w) k G)(len:∀vs H Q E,sp vs H Q E->vs.length=ps.length)
  (h:∀vs H Q E,sp vs H Q E->wpB G K (λ_=>E) a {nx:=λ_ H'=>Q .non H',rt:=Q} (start N vs) H):jV P w K mg base (CXx P w) (k+1) f b ps sp:=by
 obtain⟨n,o,kV,m,q,an,j,l,p,rfl,i,d⟩:=F.ex;exact Dv i d e c g len h
end
abbrev gam(vals:List (Str×V))(c:List ((Str×Nat)×(Sp×List V)))(d:List ((Str×Nat)×(Addr×Sp×List V)):=[]) (b:List (Addr×List (Key×V)):=[]) (e f:List ((Str×Nat)×(Addr×Sp×List V)):=[]):Gam:=(λx=>vals.lookup x,λx n=>c.lookup (x,n),λx n=>d.lookup (x,n),λa=>b.lookup a,λx n=>e.lookup (x,n),λm n=>f.lookup (m,n),)
theorem C8{c:Type}{b:c}:∀{l:List (Addr×c)},l.lookup a<*b->(a,b)∈l
 | [],h=>nomatch h
 | (k,v)::l,h=>by
  rw[bg]at h;cases q:(a==k)with
  |true=>rw[q]at h;cases h;rw[beq_iff_eq.mp q];exact aG
  |false=>rw[q]at h;exact ax _ (C8 h)
section
variable {mg:Str->Option Value}{CX:CXT}
def GOk.start{vals:List (Str×V)}(i:∀x v,(x,v)∈vals->∃u,mg x<*u/\RelV v u)(f:∀x∈jT,mg x=none){b:List (Addr×List (Key×V))}(g:∀a kvs,(a,kvs)∈b->DkIn P w K a kvs:=by intro a kvs h;exact nomatch h):GOk P w K mg base CX 0 (gam vals [] [] b):=
 (λx v e=>i x v (bO e),λx n d c e=>(nomatch e),λx n C d c e=>(nomatch e),λa kvs e=>g a kvs (C8 (show dH a b<*kvs from e)),λx n C d c e=>(nomatch e),λx n C d c e=>(nomatch e),f,)
def GOk.add{vals:List (Str×V)}{s:List ((Str×Nat)×(Sp×List V))}{p:fP}{ps:List Str}{sp:Sp}{u v z:List ((Str×Nat)×(Addr×Sp×List V))}{t:List (Addr×List (Key×V))}(g:GOk P w K mg base CX k (gam vals s u t v z))
  (F:jV P w K mg base CX (k+1) f p ps sp)(G:mg x<*(.ref f))(E:cO K (.ref f)=true)(B:Binds K p ps ds)(D:bT ag ds):GOk P w K mg base CX (k+1) (gam vals (((x,n),(sp,ag))::s) u t v z):=by
 refine(g.val,λy m b a e=>?_,λy m C b a e=>?_,g.dic,λy m C b a e=>?_,λy m C b a e=>?_,g.blt,)
 rotate_left
 rotate_left
 .obtain⟨d,h,l,c,j,i,r⟩:=g.mak y m C b a e;exact(d,h,l,c,j,fY i,r,)
 .obtain⟨d,h,l,c,j,i,r⟩:=g.mth y m C b a e;exact(d,h,l,c,j,fY i,r,)
 rotate_left
 .obtain⟨d,h,l,c,j,i,r⟩:=g.ini y m C b a e;exact(d,h,l,c,j,fY i,r,)
 have o:dH (y,m) (((x,n),(sp,ag))::s)<*(b,a):=e;rw[bg]at o;cases q:((y,m)==(x,n))with
 |true=>rw[q]at o;have A:(y,m)=(x,n):=eq_of_beq q;cases A;cases o;exact(f,p,ps,ds,k+1,aC _,F,G,E,B,D,)
 |false=>rw[q]at o;obtain⟨d,h,l,c,j,i,r⟩:=g.fn y m b a o;exact(d,h,l,c,j,fY i,r,)
def GOk.addI{vals:List (Str×V)}{v:List ((Str×Nat)×(Sp×List V))}{p:fP}{ps:List Str}{sp:Sp}{s z A:List ((Str×Nat)×(Addr×Sp×List V))}{u:List (Addr×List (Key×V))}(g:GOk P w K mg base CX k (gam vals v s u z A))
  (M:MkX K C f)(F:jV P w K mg base CX (k+1) f p ps sp)(G:mg x<*(.ref C))(D:Binds K p ps ds)(E:bT ag ds):GOk P w K mg base CX (k+2) (gam vals v (((x,n),(C,sp,ag))::s) u z A):=by
 refine(g.val,λy m b a e=>?_,λy m t b a e=>?_,g.dic,λy m C b a e=>(by
  obtain⟨d,h,l,c,j,i,r⟩:=g.mak y m C b a e;exact(d,h,l,c,j,aT i 'D',r,)),λy m C b a e=>(by
  obtain⟨d,h,l,c,j,i,r⟩:=g.mth y m C b a e;exact(d,h,l,c,j,aT i 'D',r,)),g.blt,)
 .obtain⟨d,h,l,c,j,i,r⟩:=g.fn y m b a e;exact(d,h,l,c,j,aT i 'D',r,)
 have o:dH (y,m) (((x,n),(C,sp,ag))::s)<*(t,b,a):=e;rw[bg]at o;cases q:((y,m)==(x,n))with
 |true=>rw[q]at o;have B:(y,m)=(x,n):=eq_of_beq q;cases B;cases o;exact(f,p,ps,ds,k+1,aC _,M,F,G,D,E,)
 |false=>rw[q]at o;obtain⟨d,h,l,c,j,i,r⟩:=g.ini y m t b a o;exact(d,h,l,c,j,aT i 'D',r,)
end
section
variable {Q:VK}{i j:Int}
def ND:rP K .Add (.int i) (.int j) H Q↔Q (.int (i+j)) H:=by show _\/_↔_;simp[rI0,rCat]
def Ks:rP K .Sub (.int i) (.int j) H Q↔Q (.int (i-j)) H:=by show rI0 _ _ _ _ _↔_;simp[rI0]
def mul_ii:rP K .Mult (.int i) (.int j) H Q↔FZ i j/\Q (.int (i*j)) H:=by show _\/_↔_;simp[rI,rRep,K9]
def mod_ii:rP K .Mod (.int i) (.int j) H Q↔0<j/\Q (.int (i%j)) H:=by show rI _ _ _ _ _ _↔_;simp[rI]
def div_ii:rP K .FloorDiv (.int i) (.int j) H Q↔NJ i j/\Q (.int (i/j)) H:=by show rI _ _ _ _ _ _↔_;simp[rI]
def pow_ii:rP K .Pow (.int i) (.int j) H Q↔Jt i j/\Q (.int (i^j.toNat)) H:=by show rI _ _ _ _ _ _↔_;simp[rI]
def shr_ii:rP K .RShift (.int i) (.int j) H Q↔0<=j/\Q (.int (i/2^j.toNat)) H:=by show rI _ _ _ _ _ _↔_;simp[rI]
def add_ss{y:Str}:rP K .Add (.str x) (.str y) H Q↔x.length+y.length<=sizeLine/\Q (.str (x++y)) H:=by show _\/_↔_;simp[rI0,rCat]
def Dd:i3 K .Lt (.int i) (.int j) H Q↔Q (.bl (decide (i<j))) H:=by simp[i3,rI0]
def Mj:i3 K .LtE (.int i) (.int j) H Q↔Q (.bl (decide (i<=j))) H:=by simp[i3,rI0]
def G7:i3 K .Gt (.int i) (.int j) H Q↔Q (.bl (decide (j<i))) H:=by simp[i3,rI0]
def Gs{d:D}:Rep K H d (.int i)↔d=.int i:=by cases d<;>simp[Rep,eq_comm]
def rep_str{d:D}:Rep K H d (.str x)↔d=.str x:=by cases d<;>simp[Rep,eq_comm]
def zv:i3 K .Eq (.int i) (.int j) H Q↔Q (.bl (decide (i=j))) H:=by
 simp only[i3,rEqD,Gs];constructor;·rintro⟨_,_,rfl,rfl,_,q⟩;exact q
 .intro q;exact(_,_,rfl,rfl,bf _,q,)
def zc:i3 K .NotEq (.int i) (.int j) H Q↔Q (.bl (!decide (i=j))) H:=by
 simp only[i3,rNeD,Gs];constructor;·rintro⟨_,_,rfl,rfl,_,q⟩;exact q
 .intro q;exact(_,_,rfl,rfl,bf _,q,)
def eq_ss{y:Str}:i3 K .Eq (.str x) (.str y) H Q↔Q (.bl (decide (x=y))) H:=by
 simp only[i3,rEqD,rep_str];constructor;·rintro⟨_,_,rfl,rfl,_,q⟩;simpa[show eqD (.str x) (.str y)=(x==y)from rfl,JO]using q
 .intro q;exact(_,_,rfl,rfl,bf _,by simpa[show eqD (.str x) (.str y)=(x==y)from rfl,JO]using q,)
def isnot_n{x:V}:i3 K .IsNot x .non H Q↔Q (.bl (!decide (x=.non))) H:=by simp[i3]
def len_s:rBf K .len [.str z] H Q↔z.length<=sizeLine/\Q (.int z.length) H:=by simp[rBf]
def idx_s:rIx K (.str z) (.int i) H Q↔∃c,z.length<=sizeLine/\atI z.cps.toList i<*c/\Q (.str ⟨#[c]⟩) H:=by simp[rIx,rIxL,rIxT,rIxS]
def cut_s{lo hi:Option Int}:K8 K (.str z) lo hi H Q↔z.length<=sizeLine/\Q (.str (FF z lo hi)) H:=by simp[K8,rSlL,rSlT,rSlS,rSlW]
end
structure tj(J:It)(n:Nat)(it:Nat->V->Hp->Prop)(Hc:Hp->Prop):Prop where
 go:∀i H,Hc H->i<n->J.go i H
 stop:∀i H,Hc H->n<=i->J.stop i H
 yld:∀i H x H',Hc H->i<n->J.yld i H x H'->it i x H'/\aO H H'
section
def eS:tj (Itl K a) xs.length (λi x _=>xs[i]?<*x) (λH=>SqL K H a xs) where
 go:=λi H h hi=>⟨xs,xs[i],h,by simp[hi]⟩
 stop:=λi H h hi=>(xs,h,hi,)
 yld:=λi H x b h hi y=>by obtain⟨e,y⟩:=y;subst e;exact(y xs h,aO.refl _,)
def AD:tj (Itt K a) xs.length (λi x _=>xs[i]?<*x) (λH=>SqT K H a xs) where
 go:=λi H h hi=>⟨xs,xs[i],h,by simp[hi]⟩
 stop:=λi H h hi=>(xs,h,hi,)
 yld:=λi H x b h hi y=>by obtain⟨e,y⟩:=y;subst e;exact(y xs h,aO.refl _,)
def dB{lo:Int}:tj (Itr lo n) n (λi x _=>x=.int (lo+i)) (λ_=>True) where
 go:=λi H _ hi=>hi
 stop:=λi H _ hi=>hi
 yld:=λi H x a _ hi y=>by obtain⟨e,y⟩:=y;subst e;exact(y,aO.refl _,)
def seq_str:tj (Its z) z.length (λi x _=>∃c,z.cps[i]?<*c/\x=.str ⟨#[c]⟩) (λ_=>True) where
 go:=λi H _ hi=>hi
 stop:=λi H _ hi=>hi
 yld:=λi H x a _ hi y=>by obtain⟨e,y⟩:=y;subst e;exact(y,aO.refl _,)
def aL{p:Addr}{o:HO}(h:H p=none):aO H (upd H p o):=λb u e=>by rw[bj (cA e h)];exact e
def fh{p:Addr}{o:HO}(h:upd H p o=H1)(a:H p=none):aO H H1/\H1 p<*o:=by subst h;exact(aL a,aD,)
def KI{a:Hp->List V->Prop}:tj (IteG a) xs.length (λi x H=>∃p v,x=.ref p/\H p<*(.tup [.int i,v])/\xs[i]?<*v) (λH=>a H xs) where
 go:=λi H h hi=>⟨xs,xs[i],h,by simp[hi]⟩
 stop:=λi H h hi=>(xs,h,hi,)
 yld:=λi H x d h hi y=>by obtain⟨p,v,c,e,b,y⟩:=y;subst e b;exact((p,v,rfl,aD,y xs h,),aL c,)
def ForB(J:It)(g:TG)(tb:TS)(D:Ends)(σ:L2.St)(H:Hp):Prop:=∃W:Nat->Nat->L2.St->Hp->Prop,(∃m,W 0 m σ H)/\∀i m σ H,W i m σ H->
 (J.stop i H/\D.nx σ H)\/(J.go i H/\∃N:L2.St->Hp->Prop,(∀b H',N b H'->∃a,a<m/\W (i+1) a b H')/\∀x H',J.yld i H x H'->g x σ H' λc H2=>tb {D with nx:=N,ct:=N,bk:=D.nx} c H2)
def yb(J:It)(g:TG)(tc:TT)(te:TE)(τ0:L2.St)(H1:Hp)(Q:VK):Prop:=∃W:Nat->Nat->L2.St->List V->Hp->Prop,(∃m,W 0 m τ0 [] H1)/\
 ∀i m h ac H2,W i m h ac H2->(J.stop i H2/\∀l,H2 l=none->Q (.ref l) (upd H2 l (.lst ac)))\/(J.go i H2/\∃N:L2.St->List V->Hp->Prop,(∀j e H',N j e H'->∃f,f<m/\W (i+1) f j e H')/\
  ∀x c,J.yld i H2 x c->g x h c λa k=>tc a k λb d=>if b=true then te a d λv n=>ac.length<sizeLine/\N a (ac++[v]) n else N a ac d)
def Hb{J:It}{c:Nat->V->Hp->Prop}{b:Hp->Prop}{g:TG}{tb:TS}{D:Ends}(S:tj J n c b)(a:Nat->L2.St->Hp->Prop)(h0:a 0 σ H)(f:∀i σ H,i<=n->a i σ H->b H)
  (hs:∀i x σ H H',i<n->a i σ H->c i x H'->aO H H'->g x σ H' λl H2=>tb {D with nx:=a (i+1),ct:=a (i+1),bk:=D.nx} l H2) (d:∀σ H,a n σ H->D.nx σ H):
  ForB J g tb D σ H:=by
 refine(λi m σ H=>m=n-i/\i<=n/\a i σ H,(n,'F',bf _,h0,),?_,);rintro i m σ H ⟨rfl,hi,p⟩;have q:=f i σ H hi p;by_cases hlt:i<n;·refine .inr (S.go i H q hlt,a (i+1),λo H' h=>(n-(i+1),'D',rfl,hlt,h,),λx H' y=>?_,);obtain⟨j,k⟩:=S.yld i H x H' q hlt y;exact hs i x σ H H' hlt p j k
 .have e:i=n:=by lia
  subst e;exact .inl (S.stop i H q (aC _),d σ H p,)
def eT{J:It}{B:Nat->V->Hp->Prop}{w:Hp->Prop}{g:TG}{D:TE}{Q:VK}(S:tj J n B w)(Z:n<=sizeLine)(N:∀H,aO H1 H->w H)
  (F:Nat->V->Hp->Prop)(G:∀i v H H',aO H H'->F i v H->F i v H')(T:L2.St->Prop)(M:T τ0)
  (step:∀i x p o (R:L2.St->V->Hp->Prop),i<n->T p->aO H1 o->B i x o->(∀j v h,T j->aO o h->F i v h->R j v h)->g x p o λE I=>D E I (R E))
  (L:∀vs H2 l,vs.length=n->(∀(i:Nat) v,vs[i]?<*v->F i v H2)->aO H1 H2->H2 l=none->Q (.ref l) (upd H2 l (.lst vs))):
  yb J g tYes D τ0 H1 Q:=by
 refine(λi m p f H2=>m=n-i/\i<=n/\T p/\f.length=i/\aO H1 H2/\∀(k:Nat) v,f[k]?<*v->F k v H2,⟨n,'F',bf _,M,rfl,aO.refl _,λk v e=>by simp at e⟩,?_,);rintro i m p f H2 ⟨rfl,hi,W,A,s,z⟩;have q:=N H2 s;by_cases hlt:i<n
 .refine .inr (S.go i H2 q hlt,λj t H'=>T j/\t.length=i+1/\aO H1 H'/\∀(k:Nat) v,t[k]?<*v->F k v H',λj t H' ⟨a,b,c,d⟩=>(n-(i+1),'D',rfl,hlt,a,b,c,d,),λx o y=>?_,);obtain⟨Y,u⟩:=S.yld i H2 x o q hlt y;refine step i x p o (λj v h=>f.length<sizeLine/\T j/\(f++[v]).length=i+1/\aO H1 h/\∀(k:Nat) r,(f++[v])[k]?<*r->F k r h) hlt W (s.trans u) Y λj v h X C K=>('D',X,by simp[A],(s.trans u).trans C,λk r e=>?_,);by_cases hk:k<f.length;·rw[da hk]at e;exact G k r H2 h (u.trans C) (z k r e)
  .rw[dI 'D']at e;have P:k-f.length=0:=by have :=(av.mp e).1;simp at this;lia
   rw[P]at e;have O:k=i:=by lia
   simp at e;subst e;rw[O];exact K
 .have e:i=n:=by lia
  subst e;exact .inl (S.stop i H2 q (aC _),λl U=>L f H2 l A z s U,)
def dY{c:TI}{g:TG}{a:TT}{b:TE}{mk:L2.St->L2.St}{Q:VK}(h:c σ H λJ H1=>yb J g a b (mk σ) H1 Q):yQ c g a b mk σ H Q:=h
def gM{a:TI}{g:TG}{tb:TS}{D:Ends}(h:a σ H λJ H1=>ForB J g tb D σ H1):tFor a g tb D σ H:=h
def DR{R:It->Hp->Prop}(a:σ[i]?<*(some (.str z)))(h:R (Its z) H):IT K (wA i) σ H R:=(_,a,.inr (.inr (z,rfl,h,)),)
def dF{R:It->Hp->Prop}(b:σ[i]?<*(some (.ref a)))(hq:SqL K H a xs)(h:R (Itl K a) H):IT K (wA i) σ H R:=(_,b,.inl (a,rfl,(xs,hq,),h,),)
def vn{R:It->Hp->Prop}(b:σ[i]?<*(some (.ref a)))(hq:SqT K H a xs)(h:R (Itt K a) H):IT K (wA i) σ H R:=(_,b,.inr (.inl (a,rfl,(xs,hq,),h,)),)
def bool_list{vs:List V}{b:Nat->Bool}(c:vs.length=n)(h:∀(i:Nat) v,vs[i]?<*v->v=.bl (b i)):vs=((aF n).map b).map V.bl:=by
 apply cQ;·simp[c]
 .intro i a d;have :=h i vs[i] (by simp[a]);simp[this]
def x9{a:Type}(l:List a)(d:a)(f:a->Bool):((aF l.length).map λi=>f (l.getD i d)).all id=l.all f:=by
 rw[List.all_map,de];simp only[bx,aR,Function.comp,id];constructor;·intro h c b;obtain⟨i,hi,rfl⟩:=eD.mp b;have :=h i hi;rw[ah,ae hi]at this;exact this
 .intro h i hi;have :=h _ (bQ hi);rw[ah,ae hi];exact this
def getD_some{a:Type}{l:List a}{d x:a}(h:l[i]?<*x):l.getD i d=x:=by rw[ah,h];rfl
theorem jB:∀ns:List Int,fL (ns.map D.int)=0
 | []=>rfl
 |n::ns=>by rw[bw,fL,jB ns];rfl
end
def HasFn(K:ak)(x:Str)(st:Stmt):Prop:=∃(f:Addr)(oc:Value)(od an:Option Addr)(bv:Array (Option Value))(kV am pm ai ct:Value),eI K bY x<*(some (.ref f))/\
 K.lookup f<*(oc,od,.func (aP x x (bV st) (bB st) (aZ st) .none kV am pm an ai ct),bv,)/\fq K ai x=true/\cO K (.ref f)=true
def MI{st:Stmt}{an:Option Addr}{kV:Value}(a:eI K bY x<*(some (.ref f)))
  (l:K.lookup f<*(oc,od,.func (aP x x (bV st) (bB st) (aZ st) .none kV am pm an ai ct),bv,))(c:fq K ai x=true)(k:cO K (.ref f)=true):HasFn K x st:=
 (f,oc,od,an,bv,kV,am,pm,ai,ct,a,l,c,k,)
structure Def(K:ak)(mg:Str->Option Value)(x:Str)(st:Stmt):Prop where
 ex:∃f fd,Fun K x x st f fd/\mg x<*(.ref f)
def HasFn.def{st:Stmt}(X:K.In h)(b:h.Ns bY mg)(H:HasFn K x st):Def K mg x st:=by obtain⟨f,i,j,an,m,kV,g,n,d,e,a,l,c,k⟩:=H;exact(f,_,Fo l c k,eG X b a,)
section
variable {mg:Str->Option Value}
def eF{vals:List (Str×V)}{b:List ((Str×Nat)×(Sp×List V))}{st:Stmt}{ps:List Str}{sp:Sp}{l:CB}{e i j:List ((Str×Nat)×(Addr×Sp×List V))}{a:List (Addr×List (Key×V))}(g:GOk P w K mg base (CXx P w) k (gam vals b e a i j))(d:Def K mg x st)
  (c:(qg N ps (aZ st)&&rh (aZ st) N l (bB st))=true)
  (m:∀(kV am pm:Value)(an:Option Addr)(ai ct:Value)(us:List Value),us.length=ps.length->rC (aP x x (bV st) (bB st) (aZ st) .none kV am pm an ai ct) (us,[],)=pure (ps.zip us))
  (len:∀vs H Q E,sp vs H Q E->vs.length=ps.length)
  (h:∀vs H Q E,sp vs H Q E->wpB (gam vals b e a i j) K (λ_=>E) l {nx:=λ_ H'=>Q .non H',rt:=Q} (L2.start N vs) H):GOk P w K mg base (CXx P w) (k+1) (gam vals (((x,ps.length),(sp,[]))::b) e a i j):=by
 rw[aB]at c;obtain⟨f,p,F,o⟩:=d.ex;exact g.add (n:=ps.length) (He F c.1 c.2 g len h) o F.kp (F.binds m) .nil
end
end R
variable {G:R.Gam}
local macro_rules|`(tactic|ext)=>do let a:=("R.wpB R.wpS R.wpE R.wpT R.wpL R.wpO R.wpC R.wpG R.wpGs R.wpI L2.yv L2.tRet L2.Kj L2.Cb L2.Ag L2.Km L2.tIfS L2.Kq L2.tOrV L2.Kl L2.tNot L2.tAnd L2.tOr L2.wB R.B9 L2.tIf L2.tCB L2.lV L2.tO L2.wA L2.tC L2.tOp L2.wD L2.tTup L2.tLst L2.Cc L2.tBM L2.tSl L2.Kk L2.Af R.cv L2.oa L2.gSub R.X2.t R.X2.tt L2.gTup L2.MK L2.gNil R.CGs.len L2.MD L2.MC L2.ME List.getElem?_cons_zero List.getElem?_cons_succ Option.some.injEq exists_eq_left' exists_eq_left L2.V.bl.injEq L2.V.int.injEq L2.V.str.injEq List.set_cons_zero List.set_cons_succ R.CL.len R.Ty.t R.ND R.Ks R.mul_ii R.mod_ii R.div_ii R.pow_ii R.shr_ii R.add_ss R.Dd R.Mj R.G7 R.zv R.zc R.eq_ss R.isnot_n R.len_s R.idx_s R.cut_s List.append_nil R.pJ List.map_cons List.map_nil List.nil_append List.cons_append".splitOn " ").toArray.map λs=>Lean.mkIdent ("_root_."++s).toName;`(tactic|simp only[$[$a:term],*])
namespace Cp
open R
abbrev EY:List Str:=["thing"]
abbrev xm:List Str:=["thing"]
abbrev x4:CB:=
  (.cons (.ret (.and (.bfn .isinstance (.cons (.var 0) (.cons (.ty .int) .nil))) (.not (.bfn .isinstance (.cons (.var 0) (.cons (.ty .bool) .nil))))))
  .nil)
abbrev Im:List Str:=["thing"]
abbrev ze:List Str:=["thing"]
abbrev zB:CB:=
  (.cons (.iff (.not (.bfn .isinstance (.cons (.var 0) (.cons (.ty .str) .nil))))
  (.cons (.ret (.con (.bool false)))
  .nil)
  .nil)
  (.cons (.iff (.not (.chain .LtE .LtE (.con (.int 1)) (.bfn .len (.cons (.var 0) .nil)) (.glo "LONGEST_NAME")))
  (.cons (.ret (.con (.bool false)))
  .nil)
  .nil)
  (.cons (.ret (.bfn .all (.cons (.comp ["sign"] [] (.name 0) (.seq (.var 0)) .no (.cmp .In (.var 0) (.glo "LETTERS"))) .nil)))
  .nil)))
abbrev AQ:List Str:=["thing"]
abbrev rY:List Str:=["thing"]
abbrev sQ:CB:=
  (.cons (.ret (.and (.call "is_whole" (.cons (.var 0) .nil)) (.cmp .In (.var 0) (.tup (.cons (.con (.int 0)) (.cons (.con (.int 1)) .nil))))))
  .nil)
abbrev wW:List Str:=["thing"]
abbrev oX:List Str:=["thing"]
abbrev pE:CB:=
  (.cons (.iff (.or (.not (.bfn .isinstance (.cons (.var 0) (.cons (.ty .tuple) .nil)))) (.cmp .Gt (.bfn .len (.cons (.var 0) .nil)) (.glo "MOST_PLACES")))
  (.cons (.ret (.con (.bool false)))
  .nil)
  .nil)
  (.cons (.ret (.bfn .all (.cons (.comp ["part"] [] (.name 0) (.seq (.var 0)) .no (.call "is_reading" (.cons (.var 0) .nil))) .nil)))
  .nil))
end Cp
set_option maxHeartbeats 4000000
namespace Cp
open L2 R
abbrev lz:Option HO->String
 |some (.lst _)=>"list"
 |some (.frz _ (.lst _))=>"list"
 |some (.tup _)=>"tuple"
 |some (.dK _)=>"dict"
 |some (.dT _)=>"dict"
 |_=>"?"
abbrev tyName(H:Hp):V->String
 |.non=>"NoneType"
 |.bl _=>"bool"
 |.int _=>"int"
 |.str _=>"str"
 |.ref a=>lz (H a)
 |_=>"?"
def Known(H:Hp)(x:V):Prop:=tyName H x≠"?"
def Known.same{x:V}(h:Known H x)(s:aO H H'):Known H' x/\tyName H' x=tyName H x:=by
 cases x with
 |ref a=>
  have b:lz (H a)≠"?":=h;show lz (H' a)≠"?"/\lz (H' a)=lz (H a);cases e:H a with
  |none=>rw[e]at b;exact absurd rfl b
  |some o=>rw[s a o e];rw[e]at b;exact(b,rfl,)
 |_=>exact(h,rfl,)
def Known.ty{x:V}(h:Known H x):oH K H x (.type (tyName H x)):=by
 cases x with
 |non=>exact .non
 |bl b=>exact .bl b
 |int i=>exact .int i
 |str s=>exact .str s
 |ref a=>
  have c:lz (H a)≠"?":=h;show oH K H (.ref a) (.type (lz (H a)));cases e:H a with
  |none=>rw[e]at c;exact absurd rfl c
  |some o=>
   rw[e]at c;cases o with
   |lst xs=>exact .lst e
   |tup xs=>exact .tup e
   |dK kvs=>exact .dK e
   |dT kvs=>exact .dT e
   |frz ob u=>
    cases u with
    |lst xs=>exact .frz e
    |_=>exact absurd rfl c
   |_=>exact absurd rfl c
 |_=>exact absurd rfl h
def MG{P:Option HO->Prop}(o:Option HO)(c:∀xs,P (some (.lst xs)))(d:∀b xs,P (some (.frz b (.lst xs))))(e:∀xs,P (some (.tup xs)))(f:∀kvs,P (some (.dK kvs)))(g:∀kvs,P (some (.dT kvs)))(a:lz o="?"->P o):P o:=by
 cases o with
 |none=>exact a rfl
 |some o=>
  cases o with
  |lst xs=>exact c xs
  |tup xs=>exact e xs
  |dK kvs=>exact f kvs
  |dT kvs=>exact g kvs
  |frz b u=>
   cases u with
   |lst xs=>exact d b xs
   |_=>exact a rfl
  |_=>exact a rfl
def Known.mem{x:V}(h:Known H x):tyName H x∈["NoneType","bool","int","str","list","tuple","dict"]:=by
 cases x with
 |ref a=>
  have b:lz (H a)≠"?":=h;show lz (H a)∈_;cases e:H a with
  |none=>rw[e]at b;exact absurd rfl b
  |some o=>
   rw[e]at b;cases o with
   |lst xs=>show "list"∈_;decide
   |tup xs=>show "tuple"∈_;decide
   |dK kvs=>show "dict"∈_;decide
   |dT kvs=>show "dict"∈_;decide
   |frz ob u=>
    cases u with
    |lst xs=>show "list"∈_;decide
    |_=>exact absurd rfl b
   |_=>exact absurd rfl b
 |_=>first
  |exact absurd rfl h
  |exact aG
  |exact ax _ aG
  |exact ax _ (ax _ aG)
  |exact ax _ (ax _ (ax _ aG))
abbrev kC(a b:String):Bool:=a==b||(a=="bool"&&b=="int")
def kit_ty(K:ak):∀(a:String)(t:Ty),a∈["NoneType","bool","int","str","list","tuple","dict"]->iq K (.type a) (.type t.t)<*(kC a t.t):=by intro a t h;simp only[aK,dh,or_false]at h;rcases h with rfl|rfl|rfl|rfl|rfl|rfl|rfl<;>cases t<;>rfl
def isi{x:V}{Q:VK}(h:Known H x)(t:Ty)(q:Q (.bl (kC (tyName H x) t.t)) H):rBf K .isinstance [x,.ty t.t] H Q:=
 .inl (x,t.t,_,_,rfl,h.ty,kit_ty K _ t h.mem,q,)
def Mo{i:Int}:Known H (.int i):=by show "int"≠"?";decide
def kn_str:Known H (.str x):=by show "str"≠"?";decide
def Fg(h:H a<*(.tup xs)):Known H (.ref a):=by show lz (H a)≠"?";rw[h];show "tuple"≠"?";decide
def kn_lst(h:H a<*(.lst xs)):Known H (.ref a):=by show lz (H a)≠"?";rw[h];show "list"≠"?";decide
def fU{o:HO}(s:aO H H1)(h:H l=none):aO H (upd H1 l o):=λb u e=>by rw[bj (cA e h)];exact s b u e
abbrev isWhole:V->Bool
 |.int _=>true
 |_=>false
abbrev cm:V->Bool
 |.int i=>i==0||i==1
 |_=>false
def spB(f:V->Bool):Sp:=λvs H Q _=>∃x,vs=[x]/\Known H x/\∀H',aO H H'->Q (.bl (f x)) H'
def sub_int{x:V}(h:Known H x):(kC (tyName H x) "int"&& !kC (tyName H x) "bool")=isWhole x:=by
 cases x with
 |ref a=>have b:lz (H a)≠"?":=h;exact MG (P:=λo=>(kC (lz o) "int"&& !kC (lz o) "bool")=false) (H a) (λ_=>rfl) (λ_ _=>rfl) (λ_=>rfl) (λ_=>rfl) (λ_=>rfl) λe=>by rw[e];rfl
 |_=>rfl
def B5:Sat G K (spB isWhole) x4 xm:=by
 rintro c H Q E ⟨x,rfl,b,q⟩;unfold x4;change wpB G K _ _ _ [some x] H;ext;refine isi b .int (_,rfl,?_,);have e:=sub_int b;cases h1:kC (tyName H x) "int" with
 |false=>rw[h1,dR]at e;have a:=q H (aO.refl H);rw[<-e]at a;simpa[Ty.t,h1]using a
 |true=>rw[h1,eY]at e;have a:=q H (aO.refl H);rw[<-e]at a;simp only[Ty.t,h1,if_true];exact isi b .bool (_,rfl,a,)
def yt(d:G.fn "is_whole" 1<*(spB isWhole,[])):
  Sat G K (spB cm) sQ rY:=by
 rintro j H Q E ⟨x,rfl,f,q⟩;unfold sQ;change wpB G K _ _ _ [some x] H;ext;refine(_,_,d,x,rfl,f,λc b=>(_,rfl,?_,),);cases x with
 |int i=>
  refine('E',λp g=>.inr (p,_,rfl,.inr (SqT.of aD),rfl,rfl,?_,),);have h:=q _ (b.trans (aL (o:=.tup [.int 0,.int 1]) g));have e:(if false=true then !inV (.int i) [.int 0,.int 1]else inV (.int i) [.int 0,.int 1])=cm (.int i):=by show((0:Int)==i||((1:Int)==i||false))=(i==0||i==1);rw[Bool.or_false,Bool.beq_comm,Bool.beq_comm (a:=(1:Int))]
  rw[e];exact h
 |_=>exact q c b
abbrev kg(c:Nat):Bool:=decide (97<=c/\c<=122)
abbrev gL(z:Str):Bool:=decide (1<=z.length/\z.length<=8)&&z.cps.toList.all kg
abbrev isName:V->Bool
 |.str z=>gL z
 |_=>false
abbrev LETTERS:Str:="abcdefghijklmnopqrstuvwxyz"
def Dg(c:Nat):decide (c∈LETTERS.cps.toList)=kg c:=by unfold kg;rw[show LETTERS.cps.toList=List.range' 97 26 by decide+kernel,decide_eq_decide,List.mem_range'_1];exact(λh=>(h.1,Nat.le_of_lt_succ h.2,),λh=>(h.1,Nat.lt_succ_of_le h.2,),)
def Fl{c:Nat}{Q:VK}(q:Q (.bl (kg c)) H):i3 K .In (.str ⟨#[c]⟩) (.str LETTERS) H Q:=by refine .inl (.inl (_,_,rfl,rfl,?_,));rw[StrLaws.found_one,Dg];exact q
def Fc:(20000:Nat)<=sizeLine:=by decide
def spN:Sp:=λvs H Q _=>∃x,vs=[x]/\Known H x/\(∀z,x=.str z->z.length<=20000)/\∀H',aO H H'->Q (.bl (isName x)) H'
def sub_str{x:V}(h:Known H x):kC (tyName H x) "str"=(match x with |.str _=>true|_=>false):=by
 cases x with
 |ref a=>exact MG (P:=λo=>kC (lz o) "str"=false) (H a) (λ_=>rfl) (λ_ _=>rfl) (λ_=>rfl) (λ_=>rfl) (λ_=>rfl) λe=>by rw[e];rfl
 |_=>rfl
def Ek(v1:G.val "LETTERS"<*(.str LETTERS))(A:G.val "LONGEST_NAME"<*(.int 8)):
  Sat G K spN zB ze:=by
 rintro B H Q E ⟨x,rfl,m,g,q⟩;unfold zB;change wpB G K _ _ _ [some x] H;ext;refine isi m .str (_,rfl,?_,);rw[show Ty.t .str="str" from rfl,sub_str m];cases x with
 |str z=>
  have g:=g z rfl;have n:z.length<=sizeLine:=aT g Fc;have all:∀R:VK,(∀b,aO H b->R (.bl (z.cps.toList.all kg)) b)->yQ (IT K (wA 0)) (oa 0) tYes (tOp (i3 K .In) (wA 0) λF H Q=>∃v,G.val "LETTERS"<*v/\Q v H) (pJ ["sign"] []) [some (.str z)] H λx j=>rBf K .all [x] j R:=by
   intro R r;refine dY (DR rfl (eT seq_str n (λ_ _=>trivial) (λi v _=>v=.bl (kg (z.cps.toList.getD i 0))) (λ_ _ _ _ _ h=>h) (λo=>∃t,o=[t]) (none,rfl,) ?_ ?_))
   .rintro i x o C R hi ⟨t,rfl⟩ D ⟨c,s,rfl⟩ k;refine(_,rfl,_,v1,Fl (k _ _ _ (_,rfl,) (aO.refl _) ?_),);have :z.cps.toList[i]?<*c:=by simpa using s
    rw[ah,this];rfl
   .intro B j l w p y u;have e:=bool_list w p;subst e;refine(l,_,rfl,SqL.of aD,?_,);have f:((aF z.length).map λi=>kg (z.cps.toList.getD i 0)).all id=z.cps.toList.all kg:=by have :=x9 z.cps.toList 0 kg;rw[show z.cps.toList.length=z.length by simp[DX]]at this;exact this
    rw[f];exact r _ (y.trans (aL u))
  simp only[eK,aJ,if_false,A,lG,exists_eq_left',exists_eq_left,V.bl.injEq,V.int.injEq,Mj,len_s,n,true_and];have a:∀b,aO H b->Q (.bl (gL z)) b:=q;unfold gL at a;by_cases h1:1<=z.length
  .by_cases h2:z.length<=8;·have d:decide ((1:Int)<=z.length)=true:=decide_eq_true 'D';have f:decide ((z.length:Int)<=8)=true:=decide_eq_true 'D';rw[decide_eq_true (And.intro h1 h2),eY]at a;simp only[d,f,if_true,eK,aJ,if_false];exact all Q a
   .have d:decide ((1:Int)<=z.length)=true:=decide_eq_true 'D';have f:decide ((z.length:Int)<=8)=false:=decide_eq_false 'D';rw[decide_eq_false (λh=>h2 h.2),dR]at a;simp only[d,f,if_true,Bool.not_false];exact a H (aO.refl H)
  .have d:decide ((1:Int)<=z.length)=false:=decide_eq_false 'D';rw[decide_eq_false (λh=>h1 h.1),dR]at a;simp only[d,aJ,if_false,Bool.not_false,if_true];exact a H (aO.refl H)
 |_=>exact q H (aO.refl H)
abbrev eO:Option HO->Option (List V)
 |some (.tup xs)=>some xs
 |_=>none
def nP{o:Option HO}(h:eO o<*xs):o<*(.tup xs):=by
 cases o with
 |none=>cases h
 |some o=>cases o<;>first | (cases h;rfl) |cases h
def yR(o:Option HO):kC (lz o) "tuple"=(eO o).isSome:=by
 cases o with
 |none=>rfl
 |some o=>
  cases o with
  |frz ob u=>cases u<;>rfl
  |_=>rfl
abbrev eJ(H:Hp):V->Bool
 |.ref a=>match eO (H a)with
  |some xs=>decide (xs.length<=60)&&xs.all cm
  |none=>false
 |_=>false
def spR:Sp:=λvs H Q _=>∃x,vs=[x]/\Known H x/\(∀a xs,x=.ref a->H a<*(.tup xs)->xs.length<=20000/\∀y∈xs,Known H y)/\∀H',aO H H'->Q (.bl (eJ H x)) H'
def vx(m:G.fn "is_reading" 1<*(spB cm,[]))(v1:G.val "MOST_PLACES"<*(.int 60)):
  Sat G K spR pE oX:=by
 rintro I H Q E ⟨x,rfl,o,w,q⟩;unfold pE;change wpB G K _ _ _ [some x] H;ext;refine isi o .tuple (_,rfl,?_,);rw[show Ty.t .tuple="tuple" from rfl];cases x with
 |ref a=>
  show if(!kC (lz (H a)) "tuple")=true then _ else _
  rw[yR];have d:∀b,aO H b->Q (.bl (match eO (H a)with |some xs=>decide (xs.length<=60)&&xs.all cm|none=>false)) b:=q;cases e0:eO (H a)with
  |none=>rw[e0]at d;exact d H (aO.refl H)
  |some xs=>
    rw[e0]at d;have e:=nP e0;have c:∀b,aO H b->Q (.bl (decide (xs.length<=60)&&xs.all cm)) b:=d;obtain⟨p,z⟩:=w a xs rfl e;have r:xs.length<=sizeLine:=aT p Fc;simp only[gK,eK,aJ,if_false];refine Or.inl (a,xs,rfl,.inr (SqT.of e),_,v1,?_,);rw[G7];refine(_,rfl,?_,);by_cases hle:xs.length<=60
    .rw[decide_eq_true hle,eY]at c;have f:decide ((60:Int)<xs.length)=false:=decide_eq_false 'D';rw[f];simp only[aJ,if_false];refine dY (vn rfl (SqT.of e) (eT AD r (λJ B=>B.tup (SqT.of e)) (λi v _=>v=.bl (cm (xs.getD i .non))) (λ_ _ _ _ _ h=>h) (λj=>∃t,j=[t]) (none,rfl,) ?_ ?_));·rintro i y j M R hi ⟨t,rfl⟩ D g k;have A:y∈xs:=aH g;exact⟨_,_,m,y,rfl,y,rfl,((z y A).same D).1,λN F=>k _ _ _ (_,rfl,) F (by rw[getD_some g])⟩
     .intro I L l u n C s;have e:=bool_list u n;subst e;refine(l,_,rfl,SqL.of aD,?_,);rw[x9 xs .non cm];exact c _ (C.trans (aL s))
    .rw[decide_eq_false hle,dR]at c;have f:decide ((60:Int)<xs.length)=true:=decide_eq_true 'D';rw[f];simpa using c H (aO.refl H)
 |_=>exact q H (aO.refl H)
end Cp
namespace Cp
open R
abbrev Io:List Str:=["thing"]
abbrev zf:List Str:=["thing"]
abbrev zC:CB:=
  (.cons (.iff (.or (.not (.bfn .isinstance (.cons (.var 0) (.cons (.ty .tuple) .nil)))) (.cmp .NotEq (.bfn .len (.cons (.var 0) .nil)) (.con (.int 2))))
  (.cons (.ret (.con (.bool false)))
  .nil)
  .nil)
  (.cons (.ret (.and (.call "is_name" (.cons (.idx (.var 0) (.con (.int 0))) .nil)) (.call "are_readings" (.cons (.idx (.var 0) (.con (.int 1))) .nil))))
  .nil))
abbrev EZ:List Str:=["thing"]
abbrev xn:List Str:=["thing","names","counts"]
abbrev x5:CB:=
  (.cons (.iff (.or (.not (.bfn .isinstance (.cons (.var 0) (.cons (.ty .list) .nil)))) (.cmp .Gt (.bfn .len (.cons (.var 0) .nil)) (.glo "MOST_COPIES")))
  (.cons (.ret (.con (.bool false)))
  .nil)
  .nil)
  (.cons (.iff (.not (.bfn .all (.cons (.comp ["part"] [] (.name 0) (.seq (.var 0)) .no (.call "is_copy" (.cons (.var 0) .nil))) .nil)))
  (.cons (.ret (.con (.bool false)))
  .nil)
  .nil)
  (.cons (.asgc 1 (.comp ["name","readings"] [] (.tup (.cons (.name 0) (.cons (.name 1) .nil))) (.seq (.var 0)) .no (.var 0)))
  (.cons (.asgc 2 (.comp ["name","readings"] [] (.tup (.cons (.name 0) (.cons (.name 1) .nil))) (.seq (.var 0)) .no (.bfn .len (.cons (.var 1) .nil))))
  (.cons (.ret (.and (.cmp .Eq (.bfn .len (.cons (.bfn .set (.cons (.var 1) .nil)) .nil)) (.bfn .len (.cons (.var 1) .nil))) (.cmp .LtE (.bfn .len (.cons (.bfn .set (.cons (.var 2) .nil)) .nil)) (.con (.int 1)))))
  .nil)))))
abbrev AN:List Str:=["table"]
abbrev rX:List Str:=["table"]
abbrev sD:CB:=
  (.cons (.iff (.not (.call "is_table" (.cons (.var 0) .nil)))
  (.cons (.rais "NoTable" (.cons (.con (.str "this is no table")) .nil))
  .nil)
  .nil)
  .nil)
abbrev yy:List Str:=["table"]
abbrev qh:List Str:=["table"]
abbrev qt:CB:=
  (.cons (.expr (.call "need_table" (.cons (.var 0) .nil)))
  (.cons (.iff (.cmp .Eq (.bfn .len (.cons (.var 0) .nil)) (.con (.int 0)))
  (.cons (.ret (.con (.int 0)))
  .nil)
  .nil)
  (.cons (.ret (.bfn .len (.cons (.idx (.idx (.var 0) (.con (.int 0))) (.con (.int 1))) .nil)))
  .nil)))
end Cp
namespace Cp
open L2 R
def Kn1(H:Hp)(x:V):Prop:=Known H x/\∀z,x=.str z->z.length<=20000
def Kn2(H:Hp)(x:V):Prop:=Kn1 H x/\∀a xs,x=.ref a->H a<*(.tup xs)->xs.length<=20000/\∀y∈xs,Kn1 H y
def Kn3(H:Hp)(x:V):Prop:=Kn1 H x/\∀a xs,x=.ref a->H a<*(.tup xs)->xs.length<=20000/\∀y∈xs,Kn2 H y
abbrev eV:Option HO->Option (List V)
 |some (.lst xs)=>some xs
 |some (.frz _ (.lst xs))=>some xs
 |_=>none
def Kn4(H:Hp)(x:V):Prop:=Kn1 H x/\∀a xs,x=.ref a->eV (H a)<*xs->xs.length<=20000/\∀y∈xs,Kn3 H y
def zR{o:HO}(s:aO H H')(k:H a≠none)(h:H' a<*o):H a<*o:=by
 cases e:H a with
 |none=>exact absurd e k
 |some u=>rw[s a u e]at h;exact h
def Known.some(k:Known H (.ref a)):H a≠none:=λe=>by have b:lz (H a)≠"?":=k;rw[e]at b;exact b rfl
theorem Kn1.same{x:V}(h:Kn1 H x)(s:aO H H'):Kn1 H' x:=((h.1.same s).1,h.2,)
theorem Kn2.same{x:V}(h:Kn2 H x)(s:aO H H'):Kn2 H' x:=⟨h.1.same s,λa d e b=>by subst e;obtain⟨l,k⟩:=h.2 a d rfl (zR s h.1.1.some b);exact(l,λy c=>(k y c).same s,)⟩
theorem Kn3.same{x:V}(h:Kn3 H x)(s:aO H H'):Kn3 H' x:=⟨h.1.same s,λa d e b=>by subst e;obtain⟨l,k⟩:=h.2 a d rfl (zR s h.1.1.some b);exact(l,λy c=>(k y c).same s,)⟩
def zT{x:V}(h:Known H x)(s:aO H H'):eJ H' x=eJ H x:=by
 cases x with
 |ref a=>
  show(match eO (H' a)with |some xs=>_|none=>_)=(match eO (H a)with |some xs=>_|none=>_);cases e:H a with
  |none=>exact absurd e h.some
  |some o=>rw[s a o e]
 |_=>rfl
abbrev dE(H:Hp):V->Bool
 |.ref a=>match eO (H a)with
  |some [n,r]=>isName n&&eJ H r
  |_=>false
 |_=>false
def Jc{x:V}(h:Kn3 H x)(s:aO H H'):dE H' x=dE H x:=by
 cases x with
 |ref a=>
  show(match eO (H' a)with |some [n,r]=>_|_=>_)=(match eO (H a)with |some [n,r]=>_|_=>_);cases e:H a with
  |none=>exact absurd e h.1.1.some
  |some o=>
   rw[s a o e];cases o with
   |tup xs=>
    match xs with
    | []=>rfl
    | [_]=>rfl
    | [n,r]=>have k:=(h.2 a _ rfl e).2 r 'F';show(isName n&&eJ H' r)=(isName n&&eJ H r);rw[zT k.1.1 s]
    |_::_::_::_=>rfl
   |_=>rfl
 |_=>rfl
def spC:Sp:=λvs H Q _=>∃x,vs=[x]/\Kn3 H x/\∀H',aO H H'->Q (.bl (dE H x)) H'
def El(u:G.fn "is_name" 1<*(spN,[]))(v:G.fn "are_readings" 1<*(spR,[])):
  Sat G K spC zC zf:=by
 rintro C H Q E ⟨x,rfl,i,q⟩;unfold zC;change wpB G K _ _ _ [some x] H;ext;refine isi i.1.1 .tuple (_,rfl,?_,);rw[show Ty.t .tuple="tuple" from rfl];cases x with
 |ref a=>
  show if(!kC (lz (H a)) "tuple")=true then _ else _
  rw[yR];have c:∀f,aO H f->Q (.bl (match eO (H a)with |some [n,r]=>isName n&&eJ H r|_=>false)) f:=q;cases e0:eO (H a)with
  |none=>rw[e0]at c;exact c H (aO.refl H)
  |some xs=>
   have e:=nP e0;rw[e0]at c;obtain⟨z,d⟩:=i.2 a xs rfl e;simp only[gK,eK,aJ,if_false];refine Or.inl (a,xs,rfl,.inr (SqT.of e),?_,);show i3 K .NotEq (.int (xs.length:Int)) (.int 2) H _;rw[zc];refine(_,rfl,?_,)
   match xs,z,d,e,c with
   | [],_,_,_,c=>exact c H (aO.refl H)
   | [_],_,_,_,c=>exact c H (aO.refl H)
   |_::_::_::r,_,_,_,c=>rw[if_pos (by simp;lia)];exact c H (aO.refl H)
   | [n,r],_,d,e,c=>
    rw[if_neg 'F'];have j:=d n 'F';have m:=d r 'F';refine(_,_,u,.inr (.inl (a,[n,r],0,n,rfl,rfl,SqT.of e,rfl,n,rfl,j.1.1,j.1.2,λp g=>(_,rfl,?_,),)),);have h:∀f,aO H f->Q (.bl (isName n&&eJ H r)) f:=c;cases en:isName n with
    |false=>rw[en,dR]at h;rw[if_neg aq];exact h p g
    |true=>
     rw[en,eY]at h;rw[if_pos rfl];have o:=m.same g;refine(_,_,v,.inr (.inl (a,[n,r],1,r,rfl,rfl,g.tup (SqT.of e),rfl,r,rfl,o.1.1,λb B t w=>?_,λs A=>?_,)),);·obtain⟨l,k⟩:=o.2 b B t w;exact(l,λy d=>(k y d).1,)
     .rw[zT m.1.1 g];exact h s (g.trans A)
 |_=>exact q H (aO.refl H)
def Dc{vs:List V}{f:V->V}(c:vs.length=xs.length)(h:∀(i:Nat) v,vs[i]?<*v->v=f (xs.getD i .non)):vs=xs.map f:=by
 apply cQ;·simp[c]
 .intro i a d;have b:i<xs.length:=by lia
  have :=h i vs[i] (by simp[a]);rw[this,cH,ah,ae b];rfl
theorem zb:∀(l:List Str),(l.map (fW:Str->Key)).Nodup↔l.Nodup
 | []=>by simp
 |x::l=>by
  rw[bw,bN,bN,zb l];have e:fW x∈l.map (fW:Str->Key)↔x∈l:=by
   constructor
   .intro h;obtain⟨y,a,e⟩:=aI.mp h;injection e with e
    rw[<-e];exact a
   .exact λh=>aI.mpr (x,h,rfl,)
  rw[e]
def m4(h:eV (H a)<*xs):SqL K H a xs:=by
 cases e:H a with
 |none=>rw[e]at h;cases h
 |some o=>
  rw[e]at h;cases o with
  |lst ys=>cases h;exact .inl (.inl e)
  |frz ob u=>cases u<;>first | (cases h;exact .inl (.inr ⟨ob,e⟩)) |cases h
  |_=>cases h
def Kr(o:Option HO):kC (lz o) "list"=(eV o).isSome:=by
 cases o with
 |none=>rfl
 |some o=>
  cases o with
  |frz ob u=>cases u<;>rfl
  |_=>rfl
abbrev bp(H:Hp):V->Str
 |.ref a=>match eO (H a)with
  |some (.str z::_)=>z
  |_=>""
 |_=>""
abbrev cV(H:Hp):V->Nat
 |.ref a=>match eO (H a)with
  |some [_,.ref b]=>(eO (H b)).elim 0 iM
  |_=>0
 |_=>0
def i4{x:V}(h:dE H x=true):∃a z b ys,x=.ref a/\H a<*(.tup [.str z,.ref b])/\H b<*(.tup ys)/\gL z=true/\ys.length<=60/\(∀y∈ys,cm y=true)/\bp H x=z/\cV H x=ys.length:=by
 cases x with
 |ref a=>
  have d:(match eO (H a)with |some [n,r]=>isName n&&eJ H r|_=>false)=true:=h;split at d
  .rename_i n r e;rw[aB]at d;obtain⟨f,g⟩:=d;cases n with
   |str z=>
    cases r with
    |ref b=>
     have c:(match eO (H b)with |some xs=>decide (xs.length<=60)&&xs.all cm|none=>false)=true:=g;split at c
     .rename_i ys eb;rw[aB,decide_eq_true_eq,bx]at c;refine(a,z,b,ys,rfl,nP e,nP eb,f,c.1,c.2,?_,?_,);·show(match eO (H a)with |some (.str z::_)=>z|_=>"")=z;rw[e]
      .show(match eO (H a)with |some [_,.ref b]=>(eO (H b)).elim 0 iM|_=>0)=ys.length;rw[e];show(eO (H b)).elim 0 iM=ys.length;rw[eb];rfl
     .cases c
    |_=>cases g
   |_=>cases f
  .cases d
 |_=>cases h
abbrev dX(H:Hp):V->Bool
 |.ref a=>match eV (H a)with
  |some xs=>decide (xs.length<=40)&&(xs.all (dE H)&&(decide ((xs.map (bp H)).Nodup)&&decide (∀y∈xs,∀z∈xs,cV H y=cV H z)))
  |none=>false
 |_=>false
def spT:Sp:=λvs H Q _=>∃x,vs=[x]/\Kn4 H x/\∀H',aO H H'->Q (.bl (dX H x)) H'
def B6(g1:G.fn "is_copy" 1<*(spC,[]))(v1:G.val "MOST_COPIES"<*(.int 40)):
  Sat G K spT x5 xn:=by
 rintro vs H Q c0 ⟨a0,rfl,U,q⟩;unfold x5;change wpB G K _ _ _ [some a0,none,none] H;ext;refine isi U.1.1 .list (_,rfl,?_,);rw[show Ty.t .list="list" from rfl];cases a0 with
 |ref a=>
  show if(!kC (lz (H a)) "list")=true then _ else _
  rw[Kr];have x:∀f,aO H f->Q (.bl (match eV (H a)with |some xs=>decide (xs.length<=40)&&(xs.all (dE H)&&(decide ((xs.map (bp H)).Nodup)&&decide (∀y∈xs,∀z∈xs,cV H y=cV H z))) |none=>false)) f:=q;cases e0:eV (H a)with
  |none=>rw[e0]at x;exact x H (aO.refl H)
  |some xs=>
   rw[e0]at x;obtain⟨hl,hy⟩:=U.2 a xs rfl e0;have J:xs.length<=sizeLine:=aT hl Fc;simp only[gK,eK,aJ,if_false];refine Or.inl (a,xs,rfl,.inl (m4 e0),_,v1,?_,);rw[G7];refine(_,rfl,?_,);by_cases hle:xs.length<=40
   .rw[decide_eq_false (by lia:¬(40:Int)<xs.length),if_neg aq];have m:∀f,aO H f->Q (.bl (xs.all (dE H)&&(decide ((xs.map (bp H)).Nodup)&&decide (∀y∈xs,∀z∈xs,cV H y=cV H z)))) f:=λf s'=>by have z:Q (.bl (decide (xs.length<=40)&&(xs.all (dE H)&&(decide ((xs.map (bp H)).Nodup)&&decide (∀y∈xs,∀z∈xs,cV H y=cV H z))))) f:=x f s';rw[decide_eq_true hle,eY]at z;exact z
    have sq:∀{r:Hp},aO H r->SqL K r a xs:=λn=>n.seq (m4 e0);refine dY (dF rfl (m4 e0) (eT eS J (λr n=>sq n) (λi v _=>v=.bl (dE H (xs.getD i .non))) (λ_ _ _ _ _ h=>h) (λg=>∃t,g=[t]) (none,rfl,) ?_ ?_));·rintro i y g S R hi ⟨t,rfl⟩ e d k;have ky:=hy y (aH d);exact⟨_,_,g1,y,rfl,y,rfl,ky.same e,λs A=>k _ _ _ (_,rfl,) A (by rw[getD_some d,Jc ky e])⟩
    intro vs P l b5 hF s2 b0;have a1:=bool_list b5 hF;subst a1;refine(l,_,rfl,SqL.of aD,_,rfl,?_,);rw[x9 xs .non (dE H)];have e:aO H (upd P l (.lst (((aF xs.length).map λi=>dE H (xs.getD i .non)).map V.bl))):=s2.trans (aL b0);generalize upd P l (.lst (((aF xs.length).map λi=>dE H (xs.getD i .non)).map V.bl))=S at e;cases ea:xs.all (dE H)with
    |false=>rw[ea,dR]at m;rw[if_pos (by rfl)];exact m S e
    |true=>
     rw[ea,eY]at m;rw[if_neg 'F'];rw[bx]at ea;have sh:∀{i:Nat}{y:V},xs[i]?<*y->∃a z b o,y=.ref a/\H a<*(.tup [.str z,.ref b])/\H b<*(.tup o)/\bp H y=z/\cV H y=o.length:=λd=>by obtain⟨a,z,b,o,j,C,D,_,_,_,h7,h8⟩:=i4 (ea _ (aH d));exact(a,z,b,o,j,C,D,h7,h8,)
     refine dY (dF rfl (sq e) (eT eS J (λr n=>sq (e.trans n)) (λi v _=>v=.str (bp H (xs.getD i .non))) (λ_ _ _ _ _ h=>h) (λg=>∃t u,g=[t,u]) (none,none,rfl,) ?_ ?_));·rintro i y g s R hi ⟨t,u,rfl⟩ A d k;obtain⟨b,z,c,o,rfl,j,C,D,T⟩:=sh d;refine(b,_,rfl,(e.trans A).tup (SqT.of j),rfl,_,_,rfl,_,_,rfl,rfl,_,rfl,k _ _ _ (_,_,rfl,) (aO.refl _) ?_,);rw[getD_some d,D]
     intro b8 s l1 b6 a4 A b1;have e1:b8=xs.map λy=>V.str (bp H y):=Dc b6 a4;subst e1;have p:aO H (upd s l1 (.lst (xs.map λy=>V.str (bp H y)))):=e.trans (A.trans (aL b1));have N:SqL K (upd s l1 (.lst (xs.map λy=>V.str (bp H y)))) l1 (xs.map λy=>V.str (bp H y)):=SqL.of aD;generalize upd s l1 (.lst (xs.map λy=>V.str (bp H y)))=H5 at p N;refine dY (dF rfl (sq p) (eT eS J (λr n=>sq (p.trans n)) (λi v _=>v=.int (cV H (xs.getD i .non))) (λ_ _ _ _ _ h=>h) (λg=>∃t u,g=[t,u]) (none,none,rfl,) ?_ ?_));·rintro i y g B R hi ⟨t,u,rfl⟩ E d k;obtain⟨b,z,c,o,rfl,j,C,D,T⟩:=sh d;refine(b,_,rfl,(p.trans E).tup (SqT.of j),rfl,_,_,rfl,_,_,rfl,rfl,_,rfl,Or.inl (c,o,rfl,.inr ((p.trans E).tup (SqT.of C)),k _ _ _ (_,_,rfl,) (aO.refl _) ?_,),);rw[getD_some d,T]
     intro b9 B l2 b7 a5 E b2;have e2:b9=xs.map λy=>V.int (cV H y):=Dc b7 a5;subst e2;have F:aO H5 (upd B l2 (.lst (xs.map λy=>V.int (cV H y)))):=E.trans (aL b2);have X:SqL K (upd B l2 (.lst (xs.map λy=>V.int (cV H y)))) l2 (xs.map λy=>V.int (cV H y)):=SqL.of aD;generalize upd B l2 (.lst (xs.map λy=>V.int (cV H y)))=H7 at F X;have a2:(xs.map λy=>(fW (bp H y):Key)).map kV=xs.map λy=>V.str (bp H y):=by rw[bF];rfl
     have a3:(xs.map λy=>(eQ (cV H y:Int):Key)).map kV=xs.map λy=>V.int (cV H y):=by rw[bF];rfl
     refine(l1,xs.map λy=>(fW (bp H y):Key),rfl,by rw[a2];exact F.seq N,by rw[ao];lia,λw a6=>?_,);refine .inr (.inr (w,_,rfl,aD,?_,));have I:aO H7 (upd H7 w (_root_.Q.Co w (_root_.Q.met (xs.map λy=>(fW (bp H y):Key))).length)):=aL a6;generalize upd H7 w (_root_.Q.Co w (_root_.Q.met (xs.map λy=>(fW (bp H y):Key))).length)=H8 at I;refine Or.inl (l1,_,rfl,.inl (I.seq (F.seq N)),?_,);show i3 K .Eq (.int ((_root_.Q.met (xs.map λy=>(fW (bp H y):Key))).length:Int)) (.int ((xs.map λy=>V.str (bp H y)).length:Int)) H8 _;rw[zv];refine(_,rfl,?_,);have b3:decide (((_root_.Q.met (xs.map λy=>(fW (bp H y):Key))).length:Int)=((xs.map λy=>V.str (bp H y)).length:Int))=decide ((xs.map (bp H)).Nodup):=by
      rw[decide_eq_decide,ao];have W:(xs.map λy=>(fW (bp H y):Key)).Nodup↔(xs.map (bp H)).Nodup:=by
       have :(xs.map λy=>(fW (bp H y):Key))=(xs.map (bp H)).map fW:=by rw[bF];rfl
       rw[this];exact zb _
      constructor;·intro z;refine W.mp (_root_.Q.AY ?_);rw[ao];exact Int.ofNat.inj z
      .intro z;rw[_root_.Q.IE (W.mpr z),ao]
     rw[b3];have Z:aO H H8:=p.trans (F.trans I);cases en:decide ((xs.map (bp H)).Nodup)with
     |false=>rw[en,dR]at m;rw[if_neg aq];exact m H8 Z
     |true=>
      rw[en,eY]at m;rw[if_pos rfl];refine(l2,xs.map λy=>(eQ (cV H y:Int):Key),rfl,by rw[a3];exact I.seq X,by rw[ao];lia,λc2 a7=>?_,);refine .inr (.inr (c2,_,rfl,aD,?_,));show i3 K .LtE (.int ((_root_.Q.met (xs.map λy=>(eQ (cV H y:Int):Key))).length:Int)) (.int 1) _ Q;rw[Mj];have b4:decide (((_root_.Q.met (xs.map λy=>(eQ (cV H y:Int):Key))).length:Int)<=1)=decide (∀y∈xs,∀z∈xs,cV H y=cV H z):=by
       rw[decide_eq_decide];have j:((_root_.Q.met (xs.map λy=>(eQ (cV H y:Int):Key))).length:Int)<=1↔(_root_.Q.met (xs.map λy=>(eQ (cV H y:Int):Key))).length<=1:=by lia
       rw[j,_root_.Q.GS];constructor;·intro z y L O M;have :=z _ (aI.mpr (y,L,rfl,)) _ (aI.mpr (O,M,rfl,));injection this with this;lia
       .intro z k1 a8 k2 a9;obtain⟨y,L,rfl⟩:=aI.mp a8;obtain⟨O,M,rfl⟩:=aI.mp a9;rw[z y L O M]
      rw[b4];exact m _ (Z.trans (aL a7))
   .rw[decide_eq_true (by lia:(40:Int)<xs.length),if_pos rfl];have Y:Q (.bl (decide (xs.length<=40)&&(xs.all (dE H)&&(decide ((xs.map (bp H)).Nodup)&&decide (∀y∈xs,∀z∈xs,cV H y=cV H z))))) H:=x H (aO.refl H);rw[decide_eq_false hle,dR]at Y;exact Y
 |_=>exact q H (aO.refl H)
def XC(K:ak)(C:Addr):Prop:=cO K (.ref C)=true/\PySem.W.excIn K C bmV "ValueError.__new__"=true
def LN:(1:Nat)<=sizeLine:=by decide
def Ak(C:Addr):Sp:=λvs H Q E=>∃x,vs=[x]/\Kn4 H x/\(dX H x=true->∀H',aO H H'->Q .non H')/\(dX H x=false->∀H',aO H H'->E (.ref C) none H')
def yr(d:G.fn "is_table" 1<*(spT,[]))(v1:G.val "NoTable"<*(.ref C))(c:XC K C):
  Sat G K (Ak C) sD rX:=by
 rintro i H Q E ⟨x,rfl,f,g,h⟩;unfold sD;change wpB G K _ _ _ [some x] H;ext;refine(_,_,d,x,rfl,f,λa b=>(_,rfl,?_,),);cases e:dX H x with
 |true=>rw[if_neg 'F'];exact g e a b
 |false=>rw[if_pos (by rfl)];exact(C,v1,c.1,c.2,LN,h e a b,)
abbrev count(H:Hp):V->Nat
 |.ref a=>match eV (H a)with
  |some (y::_)=>cV H y
  |_=>0
 |_=>0
def fk{x:V}(h:dX H x=true):∃a xs,x=.ref a/\eV (H a)<*xs/\xs.length<=40/\(∀y∈xs,dE H y=true)/\(xs.map (bp H)).Nodup/\∀y∈xs,cV H y=count H x:=by
 cases x with
 |ref a=>
  have b:(match eV (H a)with |some xs=>decide (xs.length<=40)&&(xs.all (dE H)&&(decide ((xs.map (bp H)).Nodup)&&decide (∀y∈xs,∀z∈xs,cV H y=cV H z))) |none=>false)=true:=h;split at b
  .rename_i xs e;rw[aB,aB,aB,decide_eq_true_eq,decide_eq_true_eq,decide_eq_true_eq,bx]at b;obtain⟨d,f,g,i⟩:=b;refine(a,xs,rfl,e,d,f,g,λy c=>?_,);show _=(match eV (H a)with |some (y::_)=>cV H y|_=>0);rw[e];cases xs with
   |nil=>cases c
   |cons z r=>exact i y c z (.head _)
  .cases b
 |_=>cases h
def Ar(C:Addr):Sp:=λvs H Q E=>∃x,vs=[x]/\Kn4 H x/\(dX H x=true->∀H',aO H H'->Q (.int (count H x)) H')/\(dX H x=false->∀H',aO H H'->E (.ref C) none H')
def wt(l:G.fn "need_table" 1<*(Ak C,[])):
  Sat G K (Ar C) qt qh:=by
 rintro B H Q E ⟨x,rfl,o,i,t⟩;unfold qt;change wpB G K _ _ _ [some x] H;ext;refine(_,_,l,x,rfl,o,λe f d=>?_,t,);obtain⟨a,g,rfl,h,v,m,A,n⟩:=fk e;have sq:SqL K f a g:=d.seq (m4 h);refine Or.inl (a,g,rfl,.inl sq,?_,);show i3 K .Eq (.int (g.length:Int)) (.int 0) f _;rw[zv];refine(_,rfl,?_,);cases g with
 |nil=>
  rw[if_pos (by rfl)];have z:=i e f d;have k:count H (.ref a)=0:=by show(match eV (H a)with |some (y::_)=>cV H y|_=>0)=0;rw[h]
  rw[k]at z;exact z
 |cons y r=>rw[if_neg (by simp;lia)];obtain⟨b,z,c,u,rfl,p,q,_,_,_,_,s⟩:=i4 (m y (.head _));refine .inl (a,_,0,.ref b,rfl,rfl,sq,cy (j:=0) rfl,?_,);refine .inr (.inl (b,_,1,.ref c,rfl,rfl,d.tup (SqT.of p),rfl,?_,));refine Or.inl (c,u,rfl,.inr (d.tup (SqT.of q)),?_,);have w:=i e f d;rw[<-n _ (.head _),s]at w;exact w
abbrev isPlace(H:Hp)(x:V):V->Bool
 |.int i=>decide (0<=i/\i<count H x)
 |_=>false
abbrev tW(H:Hp):V->List V
 |.ref a=>match eO (H a)with
  |some [_,.ref b]=>(eO (H b)).getD []
  |_=>[]
 |_=>[]
abbrev at_(H:Hp)(i:Int)(y:V):V:=(tW H y).getD i.toNat .non
def lZ{x:V}(h:dE H x=true):∃a b,x=.ref a/\H a<*(.tup [.str (bp H x),.ref b])/\H b<*(.tup (tW H x))/\(tW H x).length=cV H x/\∀y∈tW H x,cm y=true:=by
 obtain⟨a,z,b,c,rfl,d,f,_,_,g,i,j⟩:=i4 h;have e:tW H (.ref a)=c:=by show(match eO (H a)with |some [_,.ref b]=>(eO (H b)).getD [] |_=>[])=c;rw[d];show(eO (H b)).getD []=c;rw[f];rfl
 refine⟨a,b,rfl,by rw[i];exact d,by rw[e];exact f,by rw[e,j],by rw[e];exact g⟩
def FU{x:V}{i:Int}(h:dE H y=true)(g:cV H y=count H x)(hi:isPlace H x (.int i)=true):atI (tW H y) i<*(at_ H i y)/\cm (at_ H i y)=true:=by
 have k:0<=i/\i<count H x:=W0 hi;obtain⟨a,b,_,_,_,f,c⟩:=lZ h;have d:i.toNat<(tW H y).length:=by lia
 have e:(tW H y)[i.toNat]?<*(at_ H i y):=by unfold at_;rw[ah,ae d];rfl
 refine(?_,c _ (aH e),);have :=cy (j:=i.toNat) e
 rwa [show((i.toNat:Nat):Int)=i by lia]at this
def gH{v:V}(h:cm v=true):v=.int 0\/v=.int 1:=by
 cases v with
 |int i=>
  have a:(i==0||i==1)=true:=h;rw[cR,beq_iff_eq,beq_iff_eq]at a;rcases a with rfl|rfl;·exact .inl rfl
  .exact .inr rfl
 |_=>cases h
def Hi{J:It}{C:Hp->Prop}{g:TG}{K:TT}{L:TE}{Q:VK}{w:Type}{ds:List w}(Y:xs.length=ds.length)(S:tj J xs.length (λi x _=>xs[i]?<*x) C)(hn:xs.length<=sizeLine)(U:∀H,aO H1 H->C H)
  (t:w->Bool)(f:V->w->V)(T:L2.St->Prop)(R:T τ0)
  (step:∀(i:Nat) x a k h (E:L2.St->V->Hp->Prop)(D:L2.St->Hp->Prop),xs[i]?<*x->ds[i]?<*a->T k->aO H1 h->(∀d j,T d->aO h j->t a=true->E d (f x a) j)->(∀d j,T d->aO h j->t a=false->D d j)->
   g x k h λo O=>K o O λb B=>if b=true then L o B (E o)else D o B)
  (P:∀H2 l,aO H1 H2->H2 l=none->Q (.ref l) (upd H2 l (.lst (((xs.zip ds).filter λp=>t p.2).map λp=>f p.1 p.2)))):yb J g K L τ0 H1 Q:=by
 have N:(xs.zip ds).length=xs.length:=by rw[List.length_zip];lia
 refine(λi m k F H2=>m=xs.length-i/\i<=xs.length/\T k/\F=(((xs.zip ds).take i).filter λp=>t p.2).map (λp=>f p.1 p.2)/\aO H1 H2,(xs.length,'F',bf _,R,'F',aO.refl _,),?_,);rintro i m k F H2 ⟨rfl,hi,X,rfl,n⟩;have q:=U H2 n;by_cases hlt:i<xs.length
 .refine .inr (S.go i H2 q hlt,λd G A=>T d/\G=(((xs.zip ds).take (i+1)).filter λp=>t p.2).map (λp=>f p.1 p.2)/\aO H1 A,λd G A ⟨a,b,c⟩=>(xs.length-(i+1),'D',rfl,hlt,a,b,c,),λx h y=>?_,);obtain⟨M,v⟩:=S.yld i H2 x h q hlt y;have I:ds[i]?<*ds[i]:=ae 'D';have e:(xs.zip ds).take (i+1)=(xs.zip ds).take i++[(x,ds[i])]:=by rw[cJ,(List.getElem?_zip_eq_some (z:=(x,ds[i]))).mpr (M,I,)];rfl
  have Z:((((xs.zip ds).take i).filter λp=>t p.2).map (λp=>f p.1 p.2)).length<=i:=by rw[ao];refine aT (JN _ _) ?_;rw[bJ];lia
  refine step i x _ k h _ _ M I X (n.trans v) (λd j r s u=>('D',r,?_,(n.trans v).trans s,)) (λd j r s u=>(r,?_,(n.trans v).trans s,));·rw[e,gS,dM];simp[u]
  .rw[e,gS,dM];simp[u]
 .have e:i=xs.length:=by lia
  subst e;rw[<-N,dg];exact .inl (S.stop _ H2 q (by rw[N];exact aC _),λl W=>P H2 l n W,)
def uC{J:It}{p:Hp->Prop}{g:TG}{u:TT}{v:TE}{Q:VK}(S:tj J xs.length (λi x _=>xs[i]?<*x) p)(C:xs.length<=sizeLine)(B:∀H,aO H1 H->p H)
  (t:V->Bool)(f:V->V)(T:L2.St->Prop)(A:T τ0)
  (step:∀x m c (k:L2.St->V->Hp->Prop)(j:L2.St->Hp->Prop),x∈xs->T m->aO H1 c->(∀e d,T e->aO c d->t x=true->k e (f x) d)->(∀e d,T e->aO c d->t x=false->j e d)->
   g x m c λn w=>u n w λb o=>if b=true then v n o (k n)else j n o)
  (y:∀H2 l,aO H1 H2->H2 l=none->Q (.ref l) (upd H2 l (.lst ((xs.filter t).map f)))):yb J g u v τ0 H1 Q:=by
 refine Hi rfl S C B t (λ_ a=>f a) T A (λi x a m c k j q r=>?_) λH2 l s h=>?_;·rw[q]at r;cases r;exact step x m c k j (aH q)
 .have z:=y H2 l s h;rw[<-yl (l₁:=xs) (l₂:=xs) (aC _),List.filter_map,bF]at z;exact z
end Cp
namespace Lt
open R
abbrev yA:List Str:=["_law_script","_law_k"]
abbrev qj:List Str:=["_law_script","_law_k"]
abbrev qJ:CB:=
  (.cons (.iff (.cmp .Lt (.var 1) (.bfn .len (.cons (.var 0) .nil)))
  (.cons (.ret (.idx (.var 0) (.var 1)))
  .nil)
  .nil)
  (.cons (.ret (.con (.int 0)))
  .nil))
end Lt
namespace Lt
open L2 R Cp
def Hj{i j:Int}(h0:0<=j)(a:j<18446744073709551616):FZ i j:=.inr ('D','D',)
def qr{i j:Int}(h0:0<=i)(a:i<18446744073709551616):FZ i j:=.inl ('D','D',)
def Au(K:ak):Sp:=λvs H Q _=>∃(a:Addr)(ns:List Int)(k:Nat),vs=[.ref a,.int k]/\SqL K H a (ns.map V.int)/\Q (.int (ns.getD k 0)) H
def wp_cell:Sat G K (Au K) qJ qj:=by
 rintro d H Q E ⟨a,b,k,rfl,c,q⟩;unfold qJ;change wpB G K _ _ _ [some (.ref a),some (.int k)] H;ext;refine Or.inl (a,_,rfl,.inl c,?_,);show i3 K .Lt (.int (k:Int)) (.int ((b.map V.int).length:Int)) H _;rw[Dd,ao];refine(_,rfl,?_,);by_cases hk:k<b.length;·rw[decide_eq_true (by lia:(k:Int)<(b.length:Int)),if_pos rfl];refine .inl (a,_,k,_,rfl,rfl,c,cy (j:=k) (v:=.int (b.getD k 0)) ?_,q,);rw[ay,ae hk,ah,ae hk];rfl
 .rw[decide_eq_false (by lia:¬(k:Int)<(b.length:Int)),if_neg aq];rw[ah,eR 'D']at q;exact q
def mod2(x:Int):cm (.int (x%2))=true:=by
 have a:0<=x%2:=bU _ 'E';have b:x%2<2:=cn _ 'E';have h:x%2=0\/x%2=1:=by lia
 rcases h with h|h<;>rw[h]<;>rfl
abbrev A5(x:Int):Nat:=97+(x%26).toNat
def lett_ok(x:Int):kg (A5 x)=true:=by have a:0<=x%26:=bU _ 'E';have b:x%26<26:=cn _ 'E';unfold kg A5;exact decide_eq_true 'D'
def Mi{x y:Int}(h:A5 x=A5 y):x%26=y%26:=by have a:0<=x%26:=bU _ 'E';have b:0<=y%26:=bU _ 'E';unfold A5 at h;have e:=Nat.add_left_cancel h;rw[<-Int.toNat_of_nonneg a,<-Int.toNat_of_nonneg b,e]
noncomputable abbrev mkS(l:List Nat):Str:=⟨l.toArray⟩
def mk_app(a b:List Nat):mkS a++mkS b=mkS (a++b):=by show(⟨a.toArray++b.toArray⟩:Str)=⟨(a++b).toArray⟩;rw[List.append_toArray]
def xp(a:List Nat):(mkS a).length=a.length:=by show a.toArray.size=_;simp
def Ni(l:List Nat)(k:Nat):FF (mkS l) none (some (k:Int))=mkS (l.take k):=by
 unfold FF;rw[HT.vO,HT.KO,xp];show mkS _=_;congr 1;show((l.toArray.toList.drop 0).take (min k l.length-0))=l.take k;rw[List.drop_zero,Nat.sub_zero];show l.take (min k l.length)=l.take k;by_cases h:k<=l.length;·rw[Nat.min_eq_left h]
 .rw[Nat.min_eq_right 'D',dg,gR 'D']
def Fd:∀j:Fin 26,LETTERS.cps.toList[j.val]?<*(97+j.val):=by decide+kernel
def FT(x:Int):atI LETTERS.cps.toList (x%26)<*(A5 x):=by have b:0<=x%26:=bU _ 'E';have c:x%26<26:=cn _ 'E';obtain⟨j,a⟩:=dA b;rw[a];refine cy ?_;have :=Fd (j,'D',);rw[this];unfold A5;rw[a];rfl
def A4:LETTERS.length<=sizeLine:=by decide+kernel
def short(h:n<=40):n<=sizeLine:=aT h 'E'
theorem mk1(x:Nat):(⟨#[x]⟩:Str)=mkS [x]:=rfl
end Lt
namespace Q
open PySem.W L2
theorem CT(a:ks.Nodup):(ord ks).Perm (aF ks.length):=by
 unfold ord;split;·exact fm _
 .have P:=(fV (wz a) 'D').1;have :=iH.mp P.perm;simpa using this
def range_getD{a:Type}(d:a)(ys:List a):(aF ys.length).map (λi=>ys.getD i d)=ys:=by
 apply cQ;·simp
 .intro i c b;simp[b]
def gf{a:Type}(d:a){ys:List a}(c:ks.Nodup)(b:ks.length=ys.length):(sortBy d ks ys).Perm ys:=by unfold sortBy;have h:=(CT c).map λi=>ys.getD i d;rw[b,range_getD]at h;exact h
theorem jJ(m:ks.Nodup):(sortBy ("":Str) ks ks).Pairwise λa b=>tlt a b=true:=by
 unfold sortBy ord;split
 .rename_i h;rw[range_getD]
  match ks,h with
  | [],_=>exact .nil
  | [x],_=>simp
  |_::_::_,h=>simp at h;lia
 .rename_i h;obtain⟨P,U,_⟩:=fV (wz m) (by lia:1<=ks.length);rw[fN];intro i j hi f d;have n:i<ks.length:=by simpa[P.size]using hi
  have g:j<ks.length:=by simpa[P.size]using f
  have u:=U i j d g;rw[cH,cH];have e:∀(k:Nat)(c:k<(run (o6 ks) (dO ks.length)).toList.length),(run (o6 ks) (dO ks.length)).toList[k]=at' (run (o6 ks) (dO ks.length)) k:=λk c=>by
   have l:k<(run (o6 ks) (dO ks.length)).size:=by simpa using c
   simp[at',l]
  rw[e,e];exact u
def HJ{y:Str}(a:tlt x y=true)(b:tlt y x=true):False:=by have c:=yO a b;unfold tlt at c;exact List.lt_irrefl _ (W0 c)
theorem mi:∀{l m:List Str},l.Perm m->l.Pairwise (λa b=>tlt a b=true)->m.Pairwise (λa b=>tlt a b=true)->l=m
 | [],m,p,_,_=>by rw[List.nil_perm.mp p]
 |x::l,[],p,_,_=>by simpa using p.length_eq
 |x::l,y::m,p,h1,h2=>by
  rw[List.pairwise_cons]at h1 h2;have e:x=y:=by
   by_cases e:x=y;·exact e
   .have c:x∈m:=by
     have :=p.mem_iff.mp (aG (a:=x) (l:=l));rcases aK.mp this with z|z;·exact absurd z e
     .exact z
    have d:y∈l:=by
     have :=p.mem_iff.mpr (aG (a:=y) (l:=m));rcases aK.mp this with z|z;·exact absurd z.symm e
     .exact z
    exact(HJ (h1.1 y d) (h2.1 x c)).elim
  subst e;rw[mi (List.perm_cons x |>.mp p) h1.2 h2.2]
def uS{g:Type}(d:g)(f:g->Str)(p:g->Bool){ys:List g}(c:(ys.map f).Nodup):((sortBy d (ys.map f) ys).filter p).map f=sortBy ("":Str) ((ys.filter p).map f) ((ys.filter p).map f):=by
 have j:((ys.filter p).map f).Nodup:=c.sublist (tL.map _);refine mi ?_ ?_ (jJ j);·exact(((gf d c 'F').filter p).map f).trans (gf ("":Str) j rfl).symm
 .have h:((sortBy d (ys.map f) ys).map f).Pairwise λa b=>tlt a b=true:=by
   have r:=jJ c;unfold sortBy at r⊢;rw[bF];have e:(ord (ys.map f)).map (f∘λi=>ys.getD i d)=(ord (ys.map f)).map λi=>(ys.map f).getD i ("":Str):=by
    apply cN
    intro i hi;have k:i<ys.length:=by have :=(CT c).mem_iff.mp hi;simpa using this
    show f (ys.getD i d)=(ys.map f).getD i ("":Str);rw[ah,ah,ay,ae k];rfl
   rw[e];exact r
  exact h.sublist (tL.map _)
end Q
namespace Lt
open L2 R Cp
mutual
theorem xM:∀d:D,eqD d d=true
 |.non=>rfl
 |.bl b=>by cases b<;>rfl
 |.int i=>by show(i==i)=true;simp
 |.str x=>by show(x==x)=true;simp
 |.tup ds=>uv ds
 |.lst ds=>uv ds
theorem uv:∀ds:List D,o9 ds ds=true
 | []=>rfl
 |d::ds=>by show(eqD d d&&o9 ds ds)=true;rw[xM d,uv ds];rfl
end
theorem Gq:∀zs:List V,(∀z∈zs,cm z=true)->∃ds,gy K H ds zs/\fL ds=0
 | [],_=>([],rfl,rfl,)
 |z::zs,h=>by
  obtain⟨ds,a,b⟩:=Gq zs λy c=>h y (.tail _ c);rcases gH (h z (.head _))with rfl|rfl;·exact⟨.int 0::ds,(_,_,rfl,rfl,a,),by show max 0 (fL ds)=0;rw[b];rfl⟩
  .exact⟨.int 1::ds,(_,_,rfl,rfl,a,),by show max 0 (fL ds)=0;rw[b];rfl⟩
theorem uT:∀ys:List V,(∀y∈ys,dE H y=true)->∃ds,gy K H ds ys/\fL ds<=2
 | [],_=>([],rfl,'E',)
 |y::ys,h=>by obtain⟨ds,f,l⟩:=uT ys λz g=>h z (.tail _ g);obtain⟨a,b,rfl,i,j,_,k⟩:=lZ (h y (.head _));obtain⟨c,d,e⟩:=Gq (K:=K) (H:=H) _ k;refine(.tup [.str (bp H (.ref a)),.tup c]::ds,(_,_,rfl,(a,_,rfl,SqT.of i,_,_,rfl,rfl,_,_,rfl,(b,_,rfl,SqT.of j,d,),rfl,),f,),?_,);show max (max 0 (max (fL c+1) 0)+1) (fL ds)<=2;rw[e];lia
end Lt
namespace L2
section
variable {κ α:Type}[DecidableEq κ](kf:α->κ)(vf:α->V)
abbrev sk(ac:List (κ×V))(y:α):List (κ×V):=if(fz ac (kf y)).isSome then ac else putK ac (kf y) (vf y)
abbrev fnd(ys:List α):List (κ×V):=ys.foldl (sk kf vf) []
theorem MP(a:List (κ×V))(y:α)(k:κ):fz (sk kf vf a y) k=if(fz a k).isSome then fz a k else if k=kf y then some (vf y)else none:=by
 unfold sk;cases h:fz a (kf y)with
 |some v=>
  show fz a k=_;cases hk:fz a k with
  |some u=>rfl
  |none=>rw[if_neg 'F',if_neg];intro e;rw[e,h]at hk;cases hk
 |none=>
  rw[if_neg 'F',J7];by_cases e:k=kf y;·rw[if_pos e,e,h];simp
  .rw[if_neg e];cases hk:fz a k<;>simp[e]
theorem fndS_nd{a:List (κ×V)}(y:α)(h:(a.map (·.1)).Nodup):((sk kf vf a y).map (·.1)).Nodup:=by
 unfold sk;cases e:fz a (kf y)with
 |some v=>exact h
 |none=>rw[if_neg 'F'];exact nd_putK _ h e
theorem MQ(a:List (κ×V))(y:α):(sk kf vf a y).length<=a.length+1:=by
 unfold sk;split;·lia
 .exact u5 _ _ _
theorem Du:∀(ys:List α)(ac:List (κ×V)),(ys.foldl (sk kf vf) ac).length<=ac.length+ys.length
 | [],ac=>aC _
 |y::ys,ac=>by have :=Du ys (sk kf vf ac y);have :=MQ kf vf ac y;simp only[d8,bG];lia
theorem Hd:∀(ys:List α){ac:List (κ×V)},(ac.map (·.1)).Nodup->((ys.foldl (sk kf vf) ac).map (·.1)).Nodup
 | [],_,h=>h
 |y::ys,_,h=>Hd ys (fndS_nd kf vf y h)
theorem Dt:∀(ys:List α)(ac:List (κ×V))(k:κ),fz (ys.foldl (sk kf vf) ac) k=if(fz ac k).isSome then fz ac k else(ys.find? λy=>decide (kf y=k)).map vf
 | [],ac,k=>by show fz ac k=_;cases fz ac k<;>rfl
 |y::ys,ac,k=>by
  rw[d8,Dt ys,MP];cases hk:fz ac k with
  |some u=>simp
  |none=>
   simp only[JT,aJ,if_false];by_cases e:k=kf y;·rw[if_pos e,jr];simp[e]
   .have a:¬kf y=k:=λz=>e z.symm;rw[if_neg e,jr];simp[a]
theorem Bb(ys:List α)(k:κ):fz (fnd kf vf ys) k=(ys.find? λy=>decide (kf y=k)).map vf:=by unfold fnd;rw[Dt];rfl
theorem fnd_nd(ys:List α):((fnd kf vf ys).map (·.1)).Nodup:=Hd kf vf ys fC
theorem fnd_len(ys:List α):(fnd kf vf ys).length<=ys.length:=by have :=Du kf vf ys [];rw[lH,yf]at this;exact this
theorem Bc{ys:List α}{k:κ}:k∈(fnd kf vf ys).map (·.1)↔∃y∈ys,kf y=k:=by
 constructor
 .intro h;cases e:fz (fnd kf vf ys) k with
  |none=>exact absurd h (B7 e)
  |some v=>rw[Bb]at e;obtain⟨y,a,_⟩:=oM.mp e;exact(y,nC a,by have :=z7 a;simpa using this,)
 .rintro⟨y,a,e⟩;cases h:fz (fnd kf vf ys) k with
  |some v=>exact valV_in h
  |none=>rw[Bb,Option.map_eq_none_iff,jv]at h;exact absurd e (by have :=h y a;simpa using this)
theorem LV:∀{l m:List κ},l.Nodup->(∀x∈l,x∈m)->l.length<=m.length
 | [],_,_,_=>bf _
 |a::l,m,h,hs=>by obtain⟨d,f⟩:=bN.mp h;have b:=hs a (.head _);have :=LV (l:=l) (m:=m.erase a) f λx c=>(k9 (λe:x=a=>d (by rw[<-e];exact c))).mpr (hs x (.tail _ c));rw[Ef b]at this;have :=Hy b;simp only[bG];lia
theorem fnd_all{ys:List α}{ks:List κ}(b:ks.Nodup)(hs:∀y∈ys,kf y∈ks):(fnd kf vf ys).length<ks.length↔∃k∈ks,∀y∈ys,kf y≠k:=by
 have l:∀k∈(fnd kf vf ys).map (·.1),k∈ks:=λk h=>by obtain⟨y,a,e⟩:=(Bc kf vf).mp h;rw[<-e];exact hs y a
 have i:=fnd_nd kf vf ys;constructor
 .intro m;apply au
  intro j;have d:∀k∈ks,k∈(fnd kf vf ys).map (·.1):=λk b=>by
   apply au
   intro c;exact j (k,b,λy a e=>c ((Bc kf vf).mpr (y,a,e,)),)
  have :=LV b d;rw[ao]at this;lia
 .rintro⟨k,g,f⟩;have c:k∉(fnd kf vf ys).map (·.1):=λh=>by obtain⟨y,a,e⟩:=(Bc kf vf).mp h;exact f y a e
  have :(k::(fnd kf vf ys).map (·.1)).Nodup:=bN.mpr (c,i,);have :=LV this (λx hx=>by
   rcases aK.mp hx with rfl|hx;·exact g
   .exact l x hx)
  rw[bG,ao]at this;lia
end
end L2
namespace Kc
open R
abbrev tX:List Str:=["copies","one","other"]
abbrev mY:List Str:=["copies","one","other","found","name","readings"]
abbrev nh:CB:=
  (.cons (.asg (.name 3) (.dicT))
  (.cons (.forr (.tup (.cons (.name 4) (.cons (.name 5) .nil))) (.seq (.var 0))
  (.cons (.expr (.setd (.var 3) (.tup (.cons (.idx (.var 5) (.var 1)) (.cons (.idx (.var 5) (.var 2)) .nil))) (.var 4)))
  .nil))
  (.cons (.iff (.cmp .Lt (.bfn .lend (.cons (.var 3) .nil)) (.bfn .len (.cons (.glo "KINDS") .nil)))
  (.cons (.ret (.con .none))
  .nil)
  .nil)
  (.cons (.ret (.bfn .tuple (.cons (.comp ["kind"] [3] (.name 0) (.seq (.glo "KINDS")) .no (.idxd (.var 1) (.var 0))) .nil)))
  .nil))))
end Kc
namespace Kc
open L2 R Cp Lt
def fF{J:It}{k:Nat->V->Hp->Prop}{j:Hp->Prop}{g:TG}{tb:TS}{D:Ends}(S:tj J n k j)(e:Nat->L2.St->Hp->Prop)(h0:e 0 σ H)(m:∀i σ H,i<=n->e i σ H->j H)
  (hs:∀i x σ H H' (D2:Ends),i<n->e i σ H->k i x H'->aO H H'->(∀f H2,e (i+1) f H2->D2.nx f H2)->D2.rt=D.rt->g x σ H' λf H2=>tb D2 f H2)(l:∀σ H,e n σ H->D.nx σ H):ForB J g tb D σ H:=
 Hb S e h0 m (λi x σ H H' a b c d=>hs i x σ H H' _ a b c d (λ_ _ h=>h) rfl) l
def jj(h:us.length=1):∃a,us=[a]:=by
 cases us with
 |nil=>exact nomatch h
 |cons a r=>exact⟨a,by rw[bP.mp (jt h)]⟩
def ji(h:us.length=2):∃a b,us=[a,b]:=by
 cases us with
 |nil=>exact nomatch h
 |cons a r=>obtain⟨b,e⟩:=jj (jt h);exact⟨a,b,by rw[e]⟩
def rM(h:us.length=3):∃a b c,us=[a,b,c]:=by
 cases us with
 |nil=>exact nomatch h
 |cons a r=>obtain⟨b,c,e⟩:=ji (jt h);exact⟨a,b,c,by rw[e]⟩
def cw{b:Type}{F:b->Prop}{vs:List V}(h:∃a,F a)(k:∀a,F a->vs.length=n):vs.length=n:=let⟨a,f⟩:=h;k a f
def iR{P:Prop}{l vs:List V}(h:vs=l/\P)(e:l.length=n):vs.length=n:=by rw[h.1];exact e
abbrev num(H:Hp)(i:Int)(y:V):Int:=match at_ H i y with
 |.int n=>n
 |_=>0
abbrev KP:List (Int×Int):=[(0,0),(0,1),(1,0),(1,1)]
abbrev qU(k:Int×Int):List Key:=[.inl k.1,.inl k.2]
abbrev kf(H:Hp)(i j:Int)(y:V):List Key:=qU (num H i y,num H j y)
abbrev mj(H:Hp)(xs:List V)(i j:Int):Bool:=KP.all λk=>xs.any λy=>decide (num H i y=k.1/\num H j y=k.2)
abbrev firstOf(H:Hp)(xs:List V)(i j:Int)(k:Int×Int):V:=((xs.find? λy=>decide (kf H i j y=qU k)).map λy=>V.str (bp H y)).getD .non
def Kinds(K:ak)(kd:Addr):Prop:=∃a b c d:Addr,∀H:Hp,SqT K H kd [.ref a,.ref b,.ref c,.ref d]/\SqT K H a [.int 0,.int 0]/\SqT K H b [.int 0,.int 1]/\SqT K H c [.int 1,.int 0]/\SqT K H d [.int 1,.int 1]
theorem Kinds.at(h:Kinds K kd):∃as:List V,as.length=4/\(∀H:Hp,SqT K H kd as)/\∀(H:Hp)(i:Nat) x,as[i]?<*x->∃(b:Addr)(k:Int×Int),x=.ref b/\KP[i]?<*k/\SqT K H b ((qU k).map kV):=by
 obtain⟨a,c,d,f,h⟩:=h;refine([.ref a,.ref c,.ref d,.ref f],rfl,λH=>(h H).1,λH i x e=>?_,);obtain⟨_,g,j,l,m⟩:=h H
 match i,e with
 | 0,e=>cases e;exact(a,_,rfl,rfl,g,)
 | 1,e=>cases e;exact(c,_,rfl,rfl,j,)
 | 2,e=>cases e;exact(d,_,rfl,rfl,l,)
 | 3,e=>cases e;exact(f,_,rfl,rfl,m,)
 |n+4,e=>simp at e
def AW{x:V}{i:Int}(h:dE H y=true)(a:cV H y=count H x)(hi:isPlace H x (.int i)=true):at_ H i y=.int (num H i y)/\(num H i y=0\/num H i y=1):=by
 have :=(FU h a hi).2;unfold num;rcases gH this with e|e;·rw[e];exact(rfl,.inl rfl,)
 .rw[e];exact(rfl,.inr rfl,)
def Mu{k l:Int×Int}(h:qU k=qU l):k=l:=by
 unfold qU at h;injection h with h1 h2
 injection h2 with h2 _;injection h1 with h1;injection h2 with h2;exact Prod.ext h1 h2
def Mq:(KP.map qU).Nodup:=by decide+kernel
def kf_eq{i j:Int}{k:Int×Int}:kf H i j y=qU k↔(num H i y=k.1/\num H j y=k.2):=by
 constructor;·intro h;have :=Mu h;rw[<-this];exact(rfl,rfl,)
 .rintro⟨a,b⟩;unfold kf;rw[a,b]
def MN{i j:Int}(c:V->V)(hs:∀y∈xs,kf H i j y∈KP.map qU):(fnd (kf H i j) c xs).length<4↔mj H xs i j=false:=by
 rw[show(4:Nat)=(KP.map qU).length from rfl,fnd_all (kf H i j) c Mq hs];unfold mj;rw[List.all_eq_false];constructor;·rintro⟨k,d,h⟩;obtain⟨p,a,rfl⟩:=aI.mp d;refine(p,a,?_,);intro z;obtain⟨y,b,e⟩:=cz.mp z;exact h y b (kf_eq.mpr (W0 e))
 .rintro⟨p,a,h⟩;refine(qU p,aI.mpr (p,a,rfl,),λy b e=>h ?_,);exact cz.mpr (y,b,decide_eq_true (kf_eq.mp e),)
def kf_in{x:V}{i j:Int}(b:∀y∈xs,dE H y=true)(c:∀y∈xs,cV H y=count H x)(hi:isPlace H x (.int i)=true)(h:isPlace H x (.int j)=true):∀y∈xs,kf H i j y∈KP.map qU:=by intro y a;have d:=(AW (b y a) (c y a) hi).2;have g:=(AW (b y a) (c y a) h).2;unfold kf;refine aI.mpr (_,?_,rfl,);rcases d with e|e<;>rcases g with f|f<;>rw[e,f]<;>simp[KP]
def Aq:Sp:=λvs H Q _=>∃a xs i j H0,vs=[.ref a,.int i,.int j]/\aO H0 H/\dX H0 (.ref a)=true/\eV (H0 a)<*xs/\isPlace H0 (.ref a) (.int i)=true/\isPlace H0 (.ref a) (.int j)=true/\
 (mj H0 xs i j=false->∀H',aO H H'->Q .non H')/\(mj H0 xs i j=true->∀H' l,aO H H'->H l=none->H' l<*(.tup (KP.map (firstOf H0 xs i j)))->Q (.ref l) H')
def J2(v1:G.val "KINDS"<*(.ref kd))(hk:Kinds K kd):
  Sat G K Aq nh mY:=by
 rintro P H a6 a5 ⟨a,f,i,j,e,rfl,O,ht,W,hi,L,q1,q2⟩;unfold nh;change wpB G K _ _ _ [some (.ref a),some (.int i),some (.int j),none,none,none] H;ext;intro d T;obtain⟨a',b0,ea,R,h2,w,h4,A⟩:=fk ht;cases ea;rw[W]at R;cases R;obtain⟨as,J,M,a2⟩:=hk.at;have sq:∀{s:Hp},aO e s->SqL K s a f:=λo=>o.seq (m4 W);have Y:aO H (upd H d (.dT [])):=aL T;refine gM (dF rfl (sq (O.trans Y)) (fF eS (λk F I=>aO H I/\I d<*(.dT (fnd (kf e i j) (λy=>V.str (bp e y)) (f.take k)))/\∃u v,F=[some (.ref a),some (.int i),some (.int j),some (.ref d),u,v])
  (Y,aD,none,none,rfl,) (λk F I _ p=>sq (O.trans p.1)) ?_ ?_))
 .rintro k y F s m D2 a9 ⟨o,q,u,v,rfl⟩ D g S _;have h:=aH D;have ei:=AW (w y h) (A y h) hi;have ej:=AW (w y h) (A y h) L;have gi:=(FU (w y h) (A y h) hi).1;have gj:=(FU (w y h) (A y h) L).1;obtain⟨b,c,rfl,k1,X,k3,k4⟩:=lZ (w y h);have x:=O.trans (o.trans g);refine(b,_,rfl,x.tup (SqT.of k1),rfl,_,_,rfl,_,_,rfl,rfl,?_,);ext;refine(.inr (.inr (.inl (rfl,.inr (_,g _ _ q,),))),?_,);refine .inr (.inl (c,_,i,_,rfl,rfl,x.tup (SqT.of X),gi,?_,));refine .inr (.inl (c,_,j,_,rfl,rfl,x.tup (SqT.of X),gj,short 'F',λp C=>?_,));have E:aO m (upd m p (.tup [at_ e i (.ref b),at_ e j (.ref b)])):=aL C;have hf:(fnd (kf e i j) (λy=>V.str (bp e y)) (f.take k)).length<=40:=aT (fnd_len _ _ _) (by rw[bJ];lia);have et:f.take (k+1)=f.take k++[V.ref b]:=by rw[cJ,D];rfl
  have Q:fnd (kf e i j) (λy=>V.str (bp e y)) (f.take (k+1))=sk (kf e i j) (λy=>V.str (bp e y)) (fnd (kf e i j) (λy=>V.str (bp e y)) (f.take k)) (.ref b):=by unfold fnd;rw[et,wm];rfl
  refine(d,p,_,kf e i j (.ref b),_,rfl,rfl,E _ _ (g _ _ q),?_,dJ hf 'E',λz N=>?_,λN=>?_,);·rw[aD,ei.1,ej.1];rfl
  .refine S _ _ (o.trans (g.trans E),?_,_,_,rfl,);rw[Q];unfold sk;rw[N];exact E _ _ (g _ _ q)
  .refine S _ _ (fU (o.trans (g.trans E)) T,?_,_,_,rfl,);rw[Q];unfold sk;rw[N];exact aD
 .rintro F s ⟨o,q,u,v,rfl⟩;rw[dg]at q;ext;refine(d,_,rfl,q,_,v1,Or.inl (kd,as,rfl,.inr (M _),?_,),);rw[J];show i3 K .Lt (.int _) (.int ((4:Nat):Int)) s _;rw[Dd];refine(_,rfl,?_,);have r:=MN (λy=>V.str (bp e y)) (kf_in w A hi L);cases hf:mj e f i j with
  |false=>have :=r.mpr hf;rw[decide_eq_true 'D',if_pos rfl];exact q1 hf s o
  |true=>
   have a8:¬(fnd (kf e i j) (λy=>V.str (bp e y)) f).length<4:=λz=>by rw[r.mp z]at hf;cases hf
   rw[decide_eq_false 'D',if_neg aq];refine dY (_,v1,.inr (.inl (kd,rfl,(_,M _,),?_,)),);refine eT AD (by rw[J];exact short 'E') (λm _=>M m) (λn v _=>v=firstOf e f i j (KP.getD n (0,0))) (λ_ _ _ _ _ a0=>a0) (λZ=>∃t,Z=[t,some (.ref d)]) (none,rfl,) ?_ ?_
   .rintro n y Z m a7 hn ⟨t,rfl⟩ g D k;obtain⟨b,p,rfl,C,B⟩:=a2 m n y D;ext;have a1:f.any (λy=>decide (num e i y=p.1/\num e j y=p.2))=true:=by unfold mj at hf;exact bx.mp hf p (aH C)
    obtain⟨y0,a4,e0⟩:=cz.mp a1;cases r:f.find? (λy=>decide (kf e i j y=qU p))with
    |none=>rw[jv]at r;exact absurd (decide_eq_true (kf_eq.mpr (W0 e0))) (r y0 a4)
    |some y1=>
     refine(d,b,_,qU p,V.str (bp e y1),rfl,rfl,g _ _ q,B,?_,?_,);·rw[Bb,r];rfl
     .refine k _ _ _ (_,rfl,) (aO.refl _) ?_;rw[getD_some C];unfold firstOf;rw[r];rfl
   .intro P m l U hF g a3;have ev:P=KP.map (firstOf e f i j):=by
     rw[J]at U;apply cQ;·rw[U];rfl
     .intro n m1 m2;have :=hF n P[n] (by simp[m1]);rw[this,cH,ah,ae ↥m2];rfl
    subst ev;refine(l,_,rfl,.inl (SqL.of aD,λb B=>?_,),);have x:aO H (upd m l (.lst (KP.map (firstOf e f i j)))):=o.trans (g.trans (aL a3));exact q2 hf _ b (x.trans (aL B)) (x.free B) aD
end Kc
namespace K21
open R
abbrev EX:List Str:=["_law_cell","_law_place"]
abbrev xl:List Str:=["_law_cell","_law_place","_law_own","_law_number"]
abbrev sP:CB:=
  (.cons (.ret (.bin .Mod (.bin .Mult (.var 3) (.var 3)) (.con (.int 2147483587))))
  .nil)
abbrev nT:CB:=
  (.cons (.asg (.name 3) (.bin .Mod (.bin .Mult (.bin .Add (.bin .Mod (.bin .FloorDiv (.var 0) (.con (.int 2))) (.bin .Pow (.con (.int 10)) (.con (.int 30)))) (.con (.int 1))) (.bin .Add (.con (.int 48271)) (.bin .Mult (.bin .Mult (.con (.int 7919)) (.var 1)) (.var 1)))) (.con (.int 2147483629))))
  sP)
abbrev nU:CB:=
  (.cons (.iff (.and (.cmp .Eq (.bin .Mod (.var 0) (.con (.int 2))) (.con (.int 1))) (.cmp .NotEq (.var 2) (.con (.int 0))))
  (.cons (.ret (.bin .Mod (.var 2) (.con (.int 2147483648))))
  .nil)
  .nil)
  nT)
abbrev x3:CB:=
  (.cons (.asg (.name 2) (.bin .RShift (.var 0) (.bin .Add (.con (.int 2)) (.bin .Mult (.con (.int 31)) (.bin .Mod (.var 1) (.con (.int 64)))))))
  nU)
abbrev CF:List Str:=["_law_cell","_law_many"]
abbrev uW:List Str:=["_law_cell","_law_many","_law_letters","_law_size","_law_at","_law_names_here","_law_k","_law_name","_law_j"]
abbrev qA:CB:=
  (.cons (.ret (.var 5))
  .nil)
abbrev ou:CB:=
  (.cons (.expr (.meth1 .append (.var 5) (.cut (.var 7) .no (.yes (.bin .Add (.bin .Add (.var 4) (.con (.int 1))) (.bin .Mod (.bin .Add (.bin .Mult (.var 6) (.var 6)) (.var 3)) (.bin .Sub (.var 3) (.var 4))))))))
  .nil)
abbrev ow:CB:=
  (.cons (.forr (.name 8) (.range1 (.var 3))
  (.cons (.asg (.name 7) (.bin .Add (.var 7) (.idx (.var 2) (.bin .Mod (.bin .Add (.call "_law_draw" (.cons (.var 0) (.cons (.bin .Add (.con (.int 10)) (.var 8)) .nil))) (.bin .Mult (.bin .Mult (.con (.int 7)) (.var 6)) (.bfn .int (.cons (.cmp .Eq (.var 8) (.var 4)) .nil)))) (.con (.int 26))))))
  .nil))
  ou)
abbrev qB:CB:=
  (.cons (.forr (.name 6) (.range1 (.var 1))
  (.cons (.asg (.name 7) (.con (.str "")))
  ow))
  qA)
abbrev qC:CB:=
  (.cons (.asg (.name 5) (.lst .nil))
  qB)
abbrev qD:CB:=
  (.cons (.asg (.name 4) (.bin .Mod (.call "_law_draw" (.cons (.var 0) (.cons (.con (.int 2)) .nil))) (.var 3)))
  qC)
abbrev qE:CB:=
  (.cons (.asg (.name 3) (.bin .Add (.con (.int 1)) (.bin .Mod (.call "_law_draw" (.cons (.var 0) (.cons (.con (.int 1)) .nil))) (.con (.int 8)))))
  qD)
abbrev vg:CB:=
  (.cons (.asg (.name 2) (.con (.str "abcdefghijklmnopqrstuvwxyz")))
  qE)
abbrev nI:List Str:=["_law_cells","_law_names_here","_law_many","_law_table","_law_k","_law_number","_law_more","_law_bits"]
abbrev pj:CB:=
  (.cons (.ret (.var 3))
  .nil)
abbrev jD:CB:=
  (.cons (.expr (.meth1 .append (.var 3) (.tup (.cons (.idx (.var 1) (.var 4)) (.cons (.bfn .tuple (.cons (.var 7) .nil)) .nil)))))
  .nil)
abbrev lB:CB:=
  (.cons (.iff (.cmp .Gt (.var 2) (.con (.int 0)))
  (.cons (.asg (.sub (.var 7) (.bin .Mod (.bin .FloorDiv (.var 6) (.con (.int 60))) (.var 2))) (.bin .Mod (.var 5) (.con (.int 2))))
  .nil)
  .nil)
  .nil)
abbrev jE:CB:=
  (.cons (.iff (.and (.cmp .NotEq (.var 3) (.lst .nil)) (.cmp .Eq (.bin .Mod (.var 6) (.con (.int 3))) (.con (.int 0))))
  (.cons (.asg (.name 7) (.bfn .list (.cons (.idx (.idx (.var 3) (.bin .Mod (.bin .FloorDiv (.var 6) (.con (.int 3))) (.bfn .len (.cons (.var 3) .nil)))) (.con (.int 1))) .nil)))
  lB)
  .nil)
  jD)
abbrev jF:CB:=
  (.cons (.asgc 7 (.comp ["_law_j"] [5] (.name 0) (.range1 (.var 2)) .no (.bin .Mod (.bin .FloorDiv (.var 1) (.bin .LShift (.con (.int 1)) (.var 0))) (.con (.int 2)))))
  jE)
abbrev ng:CB:=
  (.cons (.asg (.name 6) (.call "_law_draw" (.cons (.idx (.var 0) (.var 4)) (.cons (.bin .Add (.con (.int 31)) (.bin .Mult (.con (.int 4)) (.var 4))) .nil))))
  jF)
abbrev pq:CB:=
  (.cons (.forr (.name 4) (.range1 (.bfn .min (.cons (.bfn .len (.cons (.var 0) .nil)) (.cons (.bfn .len (.cons (.var 1) .nil)) .nil))))
  (.cons (.asg (.name 5) (.call "_law_draw" (.cons (.idx (.var 0) (.var 4)) (.cons (.bin .Add (.con (.int 30)) (.bin .Mult (.con (.int 4)) (.var 4))) .nil))))
  ng))
  pj)
abbrev sI:CB:=
  (.cons (.asg (.name 3) (.lst .nil))
  pq)
end K21
namespace K21
open L2 R Cp Lt Kc
def KD{Q:VK}{i j:Int}:rP K .LShift (.int i) (.int j) H Q↔Jt i j/\Q (.int (i*2^j.toNat)) H:=by simp[rP,rI]
def int_b{Q:VK}{b:Bool}:rBf K .int [.bl b] H Q↔Q (.int (if b then 1 else 0)) H:=by simp[rBf]
abbrev own(c k:Int):Int:=c/2^(2+31*(k%64)).toNat
abbrev nb(c k:Int):Int:=(c/2%10^Int.toNat 30+1)*(48271+7919*k*k)%2147483629
abbrev draw(c k:Int):Int:=if c%2=1/\own c k≠0 then own c k%2147483648 else nb c k*nb c k%2147483587
def Bi(c k:Int):0<=draw c k:=by
 unfold draw;split;·exact bU _ 'E'
 .exact bU _ 'E'
def j7:Sp:=λvs H Q _=>∃c k:Int,vs=[.int c,.int k]/\0<=k/\k<=200/\Q (.int (draw c k)) H
def wp_draw:Sat G K j7 x3 xl:=by
 rintro l H Q E ⟨c,k,rfl,d,f,q⟩;unfold x3;change wpB G K _ _ _ [some (.int c),some (.int k),none,none] H;ext;have j:0<=k%64:=bU _ 'E';refine('E',qr 'E' 'E','D',?_,);have e:¬(c%2=1/\own c k≠0)->wpB G K (λ_=>E) nT {nx:=λ_ g=>Q .non g,rt:=Q} [some (.int c),some (.int k),some (.int (own c k)),none] H:=λz=>by
  have i:0<=7919*k*k/\7919*k*k<=316760000:=by have a:0<=k*k:=Int.mul_nonneg d d;have b:k*k<=200*200:=Int.mul_le_mul f f d 'E';rw[Int.mul_assoc];lia
  have h:0<=nb c k/\nb c k<2147483629:=(bU _ 'E',cn _ 'E',);unfold draw at q;rw[if_neg z]at q;unfold nT sP;ext;exact(('E','E',),('E','E','E',),'E',qr 'E' 'E',Hj d 'D',Hj 'D' 'D','E',qr h.1 'D','E',q,)
 change wpB G K _ nU _ [some (.int c),some (.int k),some (.int (own c k)),none] H;generalize ho:own c k=w at e⊢;unfold nU;ext;refine('E',?_,);by_cases a:c%2=1
 .rw[decide_eq_true a,if_pos rfl];by_cases b:w=0;·rw[decide_eq_true b];exact e λz=>z.2 b
  .rw[decide_eq_false b];unfold draw at q;rw[ho,if_pos (a,b,)]at q;exact('E',q,)
 .rw[decide_eq_false a];exact e λz=>a z.1
abbrev size(c:Int):Nat:=(1+draw c 1%8).toNat
abbrev att(c:Int):Nat:=(draw c 2%(size c:Int)).toNat
def size_eq(c:Int):1+draw c 1%8=(size c:Int)/\1<=size c/\size c<=8:=by have a:0<=draw c 1%8:=bU _ 'E';have b:draw c 1%8<8:=cn _ 'E';unfold size;lia
def FR(c:Int):draw c 2%(size c:Int)=(att c:Int)/\att c<size c:=by have d:=size_eq c;have a:0<=draw c 2%(size c:Int):=bU _ 'D';have b:draw c 2%(size c:Int)<(size c:Int):=cn _ 'D';unfold att;lia
abbrev sgn(c:Int)(k j:Nat):Nat:=A5 (draw c (10+(j:Int))+7*(k:Int)*(if(j:Int)=(att c:Int)then 1 else 0))
abbrev full(c:Int)(k:Nat):List Nat:=(aF (size c)).map (sgn c k)
abbrev xP(c:Int)(k:Nat):Nat:=att c+1+(k*k+size c)%(size c-att c)
abbrev nm(c:Int)(k:Nat):Str:=mkS ((full c k).take (xP c k))
def sj(c:Int)(k:Nat):(full c k).length=size c:=by unfold full;simp
def Bn(c:Int)(k:Nat):att c+1<=xP c k/\xP c k<=size c:=by have h:=(FR c).2;have :=nr (k*k+size c) (show 0<size c-att c by lia);unfold xP;lia
def LU(c:Int)(k:Nat):gL (nm c k)=true:=by
 have e:=Bn c k;have f:=size_eq c;have b:(nm c k).length=xP c k:=by unfold nm;rw[xp,bJ,sj];lia
 unfold gL;rw[b,aB];refine(decide_eq_true 'D',?_,);show((full c k).take (xP c k)).toArray.toList.all kg=true;rw[tK,bx];intro y d;have a:=fS d;unfold full at a;obtain⟨j,_,rfl⟩:=aI.mp a;exact lett_ok _
def nm_inj{c:Int}(hi:i<16)(m:j<16)(h:nm c i=nm c j):i=j:=by
 have e:(full c i).take (xP c i)=(full c j).take (xP c j):=by have :=congrArg (λz:Str=>z.cps.toList) h;simpa[nm]using this
 have d:=(FR c).2;have b:∀k:Nat,((full c k).take (xP c k))[att c]?<*(A5 (draw c (10+(att c:Int))+7*(k:Int))):=λk=>by have g:=Bn c k;rw[eX 'D'];unfold full;rw[ay,bZ d];show some (sgn c k (att c))=_;unfold sgn;rw[if_pos rfl,Int.mul_one]
 have a:=congrArg (λl:List Nat=>l[att c]?) e;simp only[b]at a;have f:=Mi (aW a);lia
def Al:Sp:=λvs H Q _=>∃(c:Int)(m:Nat),vs=[.int c,.int m]/\m<=16/\∀H' l,aO H H'->H l=none->H' l<*(.lst ((aF m).map λk=>V.str (nm c k)))->Q (.ref l) H'
def JY(h:G.fn "_law_draw" 2<*(j7,[])):
  Sat G K Al vg uW:=by
 rintro T H Q E ⟨c,m,rfl,S,q⟩;unfold vg qE qD qC;change wpB G K _ _ _ [some (.int c),some (.int m),none,none,none,none,none,none,none] H;ext;refine(_,_,h,c,1,rfl,'E','E',?_,);have F:=size_eq c;have C:=FR c;ext;refine('E',?_,);rw[F.1];refine(_,_,h,c,2,rfl,'E','E',?_,);ext;refine('D',?_,);rw[C.1];refine(short 'F',λl i=>?_,);unfold qB;ext;refine gM ?_;ext;refine((m:Int),rfl,'D','D',?_,);refine fF dB (λk a d=>aO H d/\d l<*(.lst ((aF k).map λk=>V.str (nm c k)))/\∃u v w,a=[some (.int c),some (.int m),some (.str LETTERS),some (.int (size c)),some (.int (att c)),some (.ref l),u,v,w])
  (aL i,aD,none,none,none,rfl,) (λ_ _ _ _ _=>trivial) ?_ ?_
 .rintro k x a o f L R ⟨n,e,u,v,w,rfl⟩ rfl r A _;have p:f l<*(.lst ((aF k).map λk=>V.str (nm c k))):=r _ _ e;have I:aO H f:=n.trans r;ext;simp only[dP];unfold ow;ext;refine gM ?_;ext;refine((size c:Int),rfl,'D','D',?_,);refine fF dB (λj a d=>aO f d/\∃w,a=[some (.int c),some (.int m),some (.str LETTERS),some (.int (size c)),some (.int (att c)),some (.ref l),some (.int k),some (.str (mkS ((full c k).take j))),w])
   (aO.refl _,w,rfl,) (λ_ _ _ _ _=>trivial) ?_ ?_
  .rintro j x a s N M P ⟨b,w,rfl⟩ rfl J B _;have D:j<size c:=by lia
   ext;simp only[dP];refine(_,_,h,c,10+(j:Int),rfl,'D','D',?_,);ext;refine(qr 'E' 'E',?_,);rw[int_b];ext;have y:(if decide ((j:Int)=(att c:Int))=true then(1:Int)else 0)=if(j:Int)=(att c:Int)then 1 else 0:=by
    by_cases z:(j:Int)=(att c:Int);·rw[decide_eq_true z,if_pos rfl,if_pos z]
    .rw[decide_eq_false z,if_neg aq,if_neg z]
   rw[y];refine(Hj (by split <;>lia) (by split <;>lia),'E',_,A4,FT _,?_,B _ _ (b.trans J,some (.int j),?_,),);·rw[mk1,xp,xp,bJ,sj];exact short (by simp;lia)
   .have g:(full c k)[j]?<*(sgn c k j):=by unfold full;rw[ay,bZ D];rfl
    rw[mk1,mk_app,cJ,g];rfl
  .rintro a s ⟨b,w,rfl⟩;unfold ou;ext;have O:=Bn c k;have t:(att c:Int)+1+((k:Int)*(k:Int)+(size c:Int))%((size c:Int)-(att c:Int))=(xP c k:Int):=by
    unfold xP;have :(size c:Int)-(att c:Int)=((size c-att c:Nat):Int):=by lia
    rw[this];push_cast;rfl
   have g:(full c k).take (size c)=full c k:=gR (by rw[sj];exact aC _);rw[show((size c:Int)).toNat=size c from bo _,g];refine(.inl (rfl,_,SqL.of (b _ _ p),),qr 'D' 'D','D',?_,);rw[t,Ni];refine(by rw[xp,sj];exact short 'D',l,_,_,rfl,rfl,b _ _ p,dJ (by simp;lia:((aF k).map λk=>V.str (nm c k)).length<=40) 'E',A _ _ (fU (I.trans b) i,?_,_,_,_,rfl,),);rw[aD,List.range_succ,dM];rfl
 .rintro a o ⟨n,e,u,v,w,rfl⟩;unfold qA;ext;rw[show((m:Int)).toNat=m from bo _]at e;exact q o l n i e
def Dr(H:Hp)(nf:Nat->Str)(n:Nat)(ys:List V):Prop:=∀(i:Nat) y,ys[i]?<*y->∃b r zs,y=.ref b/\H b<*(.tup [.str (nf i),.ref r])/\H r<*(.tup zs)/\zs.length=n/\∀z∈zs,cm z=true
def Dr.same(d:Dr H nf n ys)(s:aO H H'):Dr H' nf n ys:=λi y e=>by obtain⟨b,r,h,a,c,f,g⟩:=d i y e;exact(b,r,h,a,s _ _ c,s _ _ f,g,)
def Dr.set{vs us:List V}{t:Addr}(d:Dr H nf n ys)(h:H t<*(.lst vs)):Dr (upd H t (.lst us)) nf n ys:=λi y e=>by
 obtain⟨b,r,j,f,a,c,g⟩:=d i y e;refine(b,r,j,f,?_,?_,g,);·rw[bj (λz=>by rw[z,h]at a;cases a)];exact a
 .rw[bj (λz=>by rw[z,h]at c;cases c)];exact c
def nQ(k:∀i,gL (nf i)=true)(d:Dr H nf n ys)(t:n<=60)(e:ys[i]?<*y):dE H y=true/\bp H y=nf i/\cV H y=n/\Kn3 H y:=by
 obtain⟨b,r,m,rfl,c,h,p,j⟩:=d i y e;have o:eJ H (.ref r)=true:=by show(match eO (H r)with |some g=>decide (g.length<=60)&&g.all cm|none=>false)=true;rw[h];show(decide (m.length<=60)&&m.all cm)=true;rw[decide_eq_true 'D',eY,bx];exact j
 have q:(nf i).length<=20000:=by have :=k i;unfold gL at this;rw[aB,decide_eq_true_eq]at this;lia
 refine(?_,?_,?_,⟨Fg c,λz e=>nomatch e⟩,λa g e f=>?_,);·show(match eO (H b)with |some [n,r]=>isName n&&eJ H r|_=>false)=true;rw[c];show(gL (nf i)&&eJ H (.ref r))=true;rw[k,o];rfl
 .show(match eO (H b)with |some (.str z::_)=>z|_=>("":Str))=_;rw[c];rfl
 .show(match eO (H b)with |some [_,.ref b]=>(eO (H b)).elim 0 iM|_=>0)=n;rw[c];show(eO (H r)).elim 0 iM=n;rw[h];exact p
 .injection e with e
  subst e;rw[c]at f;cases f;refine(by show 2<=20000;decide,λy l=>?_,);simp only[aK,dh,or_false]at l;rcases l with rfl|rfl;·exact⟨⟨kn_str,λz e=>by injection e with e;rw[<-e];exact q⟩,λa g e=>nomatch e⟩
  .refine(⟨Fg h,λz e=>nomatch e⟩,λa g e f=>?_,);injection e with e;subst e;rw[h]at f;cases f;refine('D',λz s=>?_,);rcases gH (j z s)with rfl|rfl
   .exact⟨Mo,λz e=>nomatch e⟩
   .exact⟨Mo,λz e=>nomatch e⟩
def sy{t:Addr}(h:∀i,gL (nf i)=true)(q:∀i j,i<ys.length->j<ys.length->nf i=nf j->i=j)(m:H t<*(.lst ys))(d:Dr H nf n ys)(r:ys.length<=40)(g:n<=60):Kn4 H (.ref t)/\dX H (.ref t)=true/\(∀y∈ys,dE H y=true)/\∀y∈ys,cV H y=n:=by
 have at':∀y∈ys,∃i,ys[i]?<*y:=λy c=>aS.mp c;have o:∀y∈ys,dE H y=true:=λy c=>let⟨i,e⟩:=at' y c;(nQ h d g e).1;have k:∀y∈ys,cV H y=n:=λy c=>let⟨i,e⟩:=at' y c;(nQ h d g e).2.2.1;refine((⟨kn_lst m,λz e=>nomatch e⟩,λa f e p=>?_,),?_,o,k,)
 .injection e with e
  subst e;rw[m]at p;cases p;exact('D',λy c=>let⟨i,e⟩:=at' y c;(nQ h d g e).2.2.2,)
 .show(match eV (H t)with |some f=>decide (f.length<=40)&&(f.all (dE H)&&(decide ((f.map (bp H)).Nodup)&&decide (∀y∈f,∀z∈f,cV H y=cV H z))) |none=>false)=true;rw[m];show(decide (ys.length<=40)&&(ys.all (dE H)&&(decide ((ys.map (bp H)).Nodup)&&decide (∀y∈ys,∀z∈ys,cV H y=cV H z))))=true;rw[decide_eq_true r,eY,aB,aB,bx,decide_eq_true_eq,decide_eq_true_eq];refine⟨o,?_,λy c z s=>by rw[k y c,k z s]⟩;show List.Pairwise (λa b=>a≠b) _;rw[fN];intro i j hi l u e;rw[ao]at hi l;rw[cH,cH,(nQ h d g (ae hi)).2.1,(nQ h d g (ae l)).2.1]at e;have :=q i j hi l e;lia
def Dr.snoc{r:Addr}(d:Dr H nf n ys)(c:H b<*(.tup [.str (nf ys.length),.ref r]))(i:H r<*(.tup zs))(h:zs.length=n)(hz:∀z∈zs,cm z=true):Dr H nf n (ys++[.ref b]):=by
 intro k y e;by_cases hk:k<ys.length;·rw[da hk]at e;exact d k y e
 .rw[dI 'D']at e;have f:k-ys.length=0:=by have :=(av.mp e).1;simp at this;lia
  rw[f]at e;have a:V.ref b=y:=by simpa using e
  have g:k=ys.length:=by lia
  subst a g;exact(b,r,zs,rfl,c,i,h,hz,)
def xQ{t p:Addr}(h:H t<*(.lst ys))(g:H p<*(.lst []))(f:∀y∈ys,dE H y=true):∃d c,Rep K H d (.ref t)/\Rep K H c (.ref p)/\hgt d<=30/\eqD d c=decide (ys=[]):=by
 obtain⟨a,e,i⟩:=uT (K:=K) ys f;refine(.lst a,.lst [],(t,ys,rfl,SqL.of h,e,),(p,[],rfl,SqL.of g,rfl,),by show fL a+1<=30;lia,?_,);have b:=gy.length e;cases a with
 |nil=>have :ys=[]:=bP.mp b;rw[decide_eq_true this];rfl
 |cons d a=>rw[decide_eq_false (λz=>by rw[z]at b;cases b)];rfl
def pow2(h:j<30):NJ 0 ((2:Int)^j):=by
 have a:(2:Nat)^j<2^30:=Nat.pow_lt_pow_right 'E' h;have b:0<(2:Nat)^j:=Nat.pow_pos 'E';have e:((2:Int)^j)=((2^j:Nat):Int):=by push_cast;rfl
 rw[e];constructor;·lia
 .exact Int.ofNat_lt.mpr a
def Rw(H:Hp)(a b t:Addr)(n:Nat)(nf:Nat->Str)(i:Nat)(σ:L2.St)(H':Hp):Prop:=aO H H'/\∃ys,H' t<*(.lst ys)/\ys.length=i/\Dr H' nf n ys/\∃u v w x,σ=[some (.ref a),some (.ref b),some (.int n),some (.ref t),u,v,w,x]
section
variable {G:Gam}{E:XS}{D2:Ends}{a b t:Addr}{nf:Nat->Str}{d1 d2:Int}
def yo(D:H t=none)(A:SqL K H b ((aF m).map λk=>V.str (nf k)))(J:m<=16)(I:i<m)(q:aO H H2)(x:H2 t<*(.lst ys))(o:ys.length=i)(v:Dr H2 nf n ys)(y:∀s H2,Rw H a b t n nf (i+1) s H2->D2.nx s H2)
  {H5:Hp}(c:aO H2 H5)(w:H5 l<*(.lst zs))(F:zs.length=n)(hz:∀z∈zs,cm z=true):
  wpB G K E jD D2 [some (.ref a),some (.ref b),some (.int n),some (.ref t),some (.int i),some (.int d1),some (.int d2),some (.ref l)] H5:=by
 unfold jD;ext;have g:=c _ _ x;have B:((aF m).map λk=>V.str (nf k))[i]?<*(.str (nf i)):=by rw[ay,bZ 'D'];rfl
 refine(.inl (rfl,_,SqL.of g,),.inl (b,_,i,_,rfl,rfl,(q.trans c).seq A,cy B,?_,),);refine⟨l,zs,rfl,.inl ⟨SqL.of w,λr C=>(short 'F',λp j=>?_,)⟩⟩;have d:aO H5 (upd (upd H5 r (.tup zs)) p (.tup [.str (nf i),.ref r])):=(aL C).trans (aL j);have f:upd (upd H5 r (.tup zs)) p (.tup [.str (nf i),.ref r]) r<*(.tup zs):=aL j _ _ aD;have e:upd (upd H5 r (.tup zs)) p (.tup [.str (nf i),.ref r]) p<*(.tup [.str (nf i),.ref r]):=aD;generalize upd (upd H5 r (.tup zs)) p (.tup [.str (nf i),.ref r])=H7 at d f e⊢;have h:=d _ _ g;refine⟨t,ys,_,rfl,rfl,h,dJ (by lia:ys.length<=40) 'E',y _ _ (fU (q.trans (c.trans d)) D,ys++[.ref p],aD,by simp[o],?_,_,_,_,_,rfl,)⟩;have u:Dr H7 nf n (ys++[.ref p]):=Dr.snoc (v.same (c.trans d)) (by rw[o];exact e) f F hz;exact u.set h
def yp(Z:H t=none)(R:SqL K H b ((aF m).map λk=>V.str (nf k)))(W:m<=16)(hn:n<=20)(X:∀i,gL (nf i)=true)(T:i<m)(s4:aO H H2)(f:H2 t<*(.lst ys))(a0:ys.length=i)(s:Dr H2 nf n ys)(Q:∀I H2,Rw H a b t n nf (i+1) I H2->D2.nx I H2)
  {e:Hp}{vs:List V}(s6:aO H2 e)(u:e l<*(.lst vs))(A:vs.length=n)(B:∀z∈vs,cm z=true):
  wpB G K E jE D2 [some (.ref a),some (.ref b),some (.int n),some (.ref t),some (.int i),some (.int d1),some (.int d2),some (.ref l)] e:=by
 have h:=λ{H5:Hp}{l:Addr}{zs:List V}=>yo (G:=G) (E:=E) (d1:=d1) (d2:=d2) Z R W T s4 f a0 s Q (H5:=H5) (l:=l) (zs:=zs);unfold jE;ext;refine(short 'F',λp0 Y=>?_,);generalize hX:upd e p0 _=H5;obtain⟨p,N⟩:=fh hX Y;clear hX;have c:aO H2 H5:=s6.trans p;have q:=s.same c;have L:∀y∈ys,dE H5 y=true:=λy g=>by obtain⟨k,j⟩:=aS.mp g;exact(nQ X q 'D' j).1
 obtain⟨d,M,r1,r2,r3,r4⟩:=xQ (K:=K) (c _ _ f) N L;refine(d,M,r1,r2,r3,_,rfl,?_,);rw[r4];by_cases hy0:ys=[];·rw[decide_eq_true hy0];exact h c (p _ _ u) A B
 .rw[decide_eq_false hy0];show if true=true then _ else _
  rw[if_pos rfl];refine('E',?_,);by_cases hd3:d2%3=0
  .rw[decide_eq_true hd3,if_pos rfl];have a2:0<ys.length:=eN.mpr hy0;refine(('E','E',),Or.inl (t,ys,rfl,.inl (SqL.of (c _ _ f)),?_,),);ext;refine('D',?_,);have P:0<=d2/3%(ys.length:Int):=bU _ 'D';have h1:d2/3%(ys.length:Int)<ys.length:=cn _ 'D';obtain⟨k,j⟩:=dA P;have U:k<ys.length:=by lia
   obtain⟨y,g⟩:∃y,ys[k]?<*y:=(ys[k],ae U,);obtain⟨J,r,zs,rfl,k1,k2,C,D⟩:=q k y g;rw[j];refine .inl (t,ys,k,_,rfl,rfl,SqL.of (c _ _ f),cy g,?_,);refine .inr (.inl (J,_,1,.ref r,rfl,rfl,SqT.of k1,rfl,?_,));refine(r,zs,rfl,.inr (SqT.of k2),λl2 x=>?_,);have F:aO H2 (upd H5 l2 (.lst zs)):=c.trans (aL x);have v:upd H5 l2 (.lst zs) l2<*(.lst zs):=aD;have S:H2 l2=none:=c.free x;unfold lB;ext;by_cases hn0:(0:Int)<(n:Int)
   .rw[decide_eq_true hn0,if_pos rfl];have O:0<=d2/60%(n:Int):=bU _ 'D';have a1:d2/60%(n:Int)<n:=cn _ hn0;obtain⟨w,hw⟩:=dA O;refine('E',('E','E',),hn0,l2,zs,_,w,rfl,rfl,v,?_,?_,);·rw[hw];unfold ixN;rw[if_pos 'D',if_pos 'D'];simp
    .refine h (zs:=zs.set w (.int (d1%2))) (fU F S) aD (by rw[z6];exact C) λz o=>?_;rcases List.mem_or_eq_of_mem_set o with o|rfl;·exact D z o
     .exact mod2 _
   .rw[decide_eq_false hn0,if_neg aq];exact h F v C D
  .rw[decide_eq_false hd3];exact h c (p _ _ u) A B
def yq(C:H t=none)(L:SqL K H a (ns.map V.int))(r:SqL K H b ((aF m).map λk=>V.str (nf k)))(w:m<=16)(A:n<=20)(B:∀i,gL (nf i)=true)(M:i<min ns.length m)(J:aO H H2)(o:H2 t<*(.lst ys))(F:ys.length=i)(g:Dr H2 nf n ys)(p:∀d H2,Rw H a b t n nf (i+1) d H2->D2.nx d H2){x:Option V}:
  wpB G K E jF D2 [some (.ref a),some (.ref b),some (.int n),some (.ref t),some (.int i),some (.int d1),some (.int d2),x] H2:=by
 unfold jF;ext;refine dY ?_;ext;refine((n:Int),rfl,'D','D',?_,);refine eT dB (short 'D') (λ_ _=>trivial) (λi v _=>cm v=true) (λ_ _ _ _ _ h=>h) (λe=>∃t,e=[t,some (.int d1)]) (none,rfl,) ?_ ?_;·rintro j y e f R N ⟨O,rfl⟩ c rfl k;ext;rw[KD];ext;simp only[dP,Int.one_mul,bo];exact(('D','D','E',),pow2 'D','E',k _ _ _ (_,rfl,) (aO.refl _) (mod2 _),)
 intro P f l D q c u;exact yp C r w A B 'D' J o F g p (c.trans (aL u)) aD (by rw[D];lia) λz I=>by obtain⟨k,s⟩:=aS.mp I;exact q k z s
end
def wI(K:ak):Sp:=λvs H Q _=>∃(a b:Addr)(ns:List Int)(nf:Nat->Str)(m n:Nat),vs=[.ref a,.ref b,.int n]/\SqL K H a (ns.map V.int)/\SqL K H b ((aF m).map λk=>V.str (nf k))/\ns.length<=16/\m<=16/\n<=20/\(∀i,gL (nf i)=true)/\
 ∀(H':Hp)(t:Addr)(ys:List V),aO H H'->H t=none->H' t<*(.lst ys)->ys.length=min ns.length m->Dr H' nf n ys->Q (.ref t) H'
def HD(s:G.fn "_law_draw" 2<*(j7,[])):
  Sat G K (wI K) sI nI:=by
 rintro T H Q E ⟨a,b,c,h,m,n,rfl,d,z,S,L,M,N,q⟩;unfold sI pq;change wpB G K _ _ _ [some (.ref a),some (.ref b),some (.int n),none,none,none,none,none] H;ext;refine(short 'F',λt g=>?_,);refine gM ?_;ext;have j:aO H (upd H t (.lst [])):=aL g;refine Or.inl (a,_,rfl,.inl (j.seq d),Or.inl (b,_,rfl,.inl (j.seq z),?_,),);have F:(if(((aF m).map λk=>V.str (h k)).length:Int)<((c.map V.int).length:Int)then(((aF m).map λk=>V.str (h k)).length:Int)else((c.map V.int).length:Int))=(min c.length m:Nat):=by simp only[ao,bC];split <;>lia
 refine(_,_,rfl,?_,);rw[F];refine(_,rfl,'D','D',?_,);refine fF dB (Rw H a b t n h)
  (j,[],aD,rfl,λi y e=>by simp at e,none,none,none,none,rfl,) (λ_ _ _ _ _=>trivial) ?_ ?_
 .rintro i x P r D R hi ⟨l,C,f,B,dr,u,v,w,O,rfl⟩ rfl o I _;have J:i<min c.length m:=by lia
  ext;simp only[dP];have A:(c.map V.int)[i]?<*(.int (c.getD i 0)):=by rw[ay,ae 'D',ah,ae 'D'];rfl
  have p:aO H D:=l.trans o;refine(_,_,s,.inl (a,_,i,_,rfl,rfl,p.seq d,cy A,?_,),);ext;refine(qr 'E' 'E',_,_,rfl,'D','D',?_,);unfold ng;ext;refine(_,_,s,.inl (a,_,i,_,rfl,rfl,p.seq d,cy A,?_,),);ext;refine(qr 'E' 'E',_,_,rfl,'D','D',?_,);generalize draw (c.getD i 0) (30+4*(i:Int))=d1;generalize draw (c.getD i 0) (31+4*(i:Int))=d2;refine yq g d z L M N J p (o _ _ f) B (dr.same o) I
 .rintro P r ⟨l,C,f,B,dr,u,v,w,O,rfl⟩;unfold pj;ext;exact q r t C l g f 'D' dr
def se{vs:List V}(h:∀(i:Nat) v,vs[i]?<*v->∃m:Int,v=.int m):∃ns:List Int,vs=ns.map V.int:=by
 induction vs with
 |nil=>exact([],rfl,)
 |cons v vs ih=>obtain⟨m,rfl⟩:=h 0 v rfl;obtain⟨ns,rfl⟩:=ih λi w e=>h (i+1) w ↥e;exact(m::ns,rfl,)
def DD(c:List Int)(lo hi:Option Int):∃b:List Int,uB (c.map V.int) lo hi=b.map V.int:=by refine se λi v e=>?_;have a:=aH e;unfold uB at a;obtain⟨m,_,rfl⟩:=aI.mp (rG (fS a));exact(m,rfl,)
end K21
namespace K22
open R
abbrev vy:List Str:=["_law_readings","_law_some"]
abbrev n8:List Str:=["_law_readings","_law_some"]
abbrev ot:CB:=
  (.cons (.ret (.bfn .tuple (.cons (.comp ["_law_j"] [1,0] (.name 0) (.range1 (.bfn .len (.cons (.var 0) .nil))) .no (.ite (.cmp .In (.var 0) (.var 1)) (.bin .Sub (.con (.int 1)) (.idx (.var 2) (.var 0))) (.idx (.var 2) (.var 0)))) .nil)))
  .nil)
abbrev CJ:List Str:=["_law_cells","_law_many"]
abbrev uY:List Str:=["_law_cells","_law_many","_law_seed","_law_nodes","_law_links","_law_fresh","_law_k","_law_number","_law_some","_law_j","_law_at"]
abbrev qF:CB:=
  (.cons (.ret (.tup (.cons (.var 3) (.cons (.var 4) .nil))))
  .nil)
abbrev jl:CB:=
  (.cons (.expr (.meth1 .append (.var 3) (.call "_law_otherwise" (.cons (.idx (.var 3) (.var 10)) (.cons (.var 8) .nil)))))
  .nil)
abbrev l6:CB:=
  (.cons (.expr (.meth1 .append (.var 4) (.tup (.cons (.var 10) (.cons (.bfn .len (.cons (.var 3) .nil)) (.cons (.bfn .sorti (.cons (.var 8) .nil)) .nil))))))
  jl)
abbrev ku:CB:=
  (.cons (.iff (.cmp .NotEq (.var 8) (.lst .nil))
  (.cons (.asg (.name 10) (.bin .Mod (.call "_law_draw" (.cons (.idx (.var 0) (.var 6)) (.cons (.bin .Add (.con (.int 41)) (.bin .Mult (.con (.int 4)) (.var 6))) .nil))) (.bfn .len (.cons (.var 3) .nil))))
  l6)
  .nil)
  .nil)
abbrev kz:CB:=
  (.cons (.forr (.name 9) (.range1 (.bin .Add (.con (.int 1)) (.bin .FloorDiv (.bin .Mod (.var 7) (.con (.int 7))) (.con (.int 5)))))
  (.cons (.iff (.cmp .NotEq (.var 5) (.lst .nil))
  (.cons (.expr (.meth1 .append (.var 8) (.meth1 .pop (.var 5) (.bin .Mod (.bin .FloorDiv (.var 7) (.idx (.lst (.cons (.con (.int 7)) (.cons (.con (.int 112)) .nil))) (.var 9))) (.bfn .len (.cons (.var 5) .nil))))))
  .nil)
  .nil)
  .nil))
  ku)
abbrev oA:CB:=
  (.cons (.asg (.name 8) (.lst .nil))
  kz)
abbrev mD:CB:=
  (.cons (.forr (.name 6) (.range1 (.bfn .len (.cons (.var 0) .nil)))
  (.cons (.asg (.name 7) (.call "_law_draw" (.cons (.idx (.var 0) (.var 6)) (.cons (.bin .Add (.con (.int 40)) (.bin .Mult (.con (.int 4)) (.var 6))) .nil))))
  oA))
  qF)
abbrev qG:CB:=
  (.cons (.asg (.name 5) (.lrng (.var 1)))
  mD)
abbrev qH:CB:=
  (.cons (.asg (.name 4) (.lst .nil))
  qG)
abbrev mE:CB:=
  (.cons (.asg (.name 3) (.lst (.cons (.bfn .tuple (.cons (.comp ["_law_j"] [2] (.name 0) (.range1 (.var 1)) .no (.bin .Mod (.bin .FloorDiv (.var 1) (.bin .LShift (.con (.int 1)) (.var 0))) (.con (.int 2)))) .nil)) .nil)))
  qH)
abbrev qI:CB:=
  (.cons (.iff (.cmp .NotEq (.var 0) (.lst .nil))
  (.cons (.asg (.name 2) (.call "_law_draw" (.cons (.idx (.var 0) (.con (.int 0))) (.cons (.con (.int 20)) .nil))))
  .nil)
  .nil)
  mE)
abbrev vi:CB:=
  (.cons (.asg (.name 2) (.con (.int 1)))
  qI)
abbrev EV:List Str:=["_law_cells","_law_nodes"]
abbrev xj:List Str:=["_law_cells","_law_nodes","_law_held_here","_law_k","_law_number"]
abbrev sJ:CB:=
  (.cons (.ret (.var 2))
  .nil)
abbrev pz:CB:=
  (.cons (.iff (.or (.cmp .Gt (.bin .Mod (.var 4) (.con (.int 5))) (.con (.int 0))) (.cmp .Eq (.var 2) (.lst .nil)))
  (.cons (.expr (.meth1 .append (.var 2) (.bin .Mod (.var 3) (.bfn .len (.cons (.var 1) .nil)))))
  .nil)
  (.cons (.expr (.meth1 .append (.var 2) (.bin .Mod (.bin .FloorDiv (.var 4) (.con (.int 5))) (.bfn .len (.cons (.var 1) .nil)))))
  .nil))
  .nil)
abbrev sL:CB:=
  (.cons (.forr (.name 3) (.range1 (.bfn .len (.cons (.var 0) .nil)))
  (.cons (.asg (.name 4) (.call "_law_draw" (.cons (.idx (.var 0) (.var 3)) (.cons (.bin .Add (.con (.int 60)) (.var 3)) .nil))))
  pz))
  sJ)
abbrev xY:CB:=
  (.cons (.asg (.name 2) (.lst .nil))
  sL)
end K22
namespace K22
open L2 R Cp Lt Kc K21
abbrev AO:List Str:=["_law_cells","_law_names_here","_law_many"]
abbrev nI:List Str:=["_law_cells","_law_names_here","_law_many","_law_table_here","_law_k","_law_number","_law_more","_law_bits"]
def lX{t p:Addr}{fs:List Int}(c:SqL K H t (fs.map V.int))(b:H p<*(.lst [])):∃d a,Rep K H d (.ref t)/\Rep K H a (.ref p)/\hgt d<=30/\eqD d a=decide (fs=[]):=by
 refine(.lst (fs.map D.int),.lst [],(t,_,rfl,c,gy.ints fs,),(p,[],rfl,SqL.of b,rfl,),by show fL (fs.map D.int)+1<=30;rw[jB];decide,?_,);cases fs with
 |nil=>rfl
 |cons x r=>rw[decide_eq_false 'F'];rfl
theorem jC:∀(l:List Int)(z:Nat)(h:z<l.length),(l[z]::l.eraseIdx z).Perm l
 | [],_,h=>absurd h (d9 _)
 |a::l,0,_=>fm _
 |a::l,z+1,h=>by
  have b:z<l.length:=by simpa using h
  exact(pI a l[z] (l.eraseIdx z)).trans ((jC l z b).cons a)
def jI(K:ak):Sp:=λvs H Q _=>∃(r b:Addr)(zs:List V)(a:List Int),vs=[.ref r,.ref b]/\SqT K H r zs/\SqL K H b (a.map V.int)/\zs.length<=40/\(∀z∈zs,cm z=true)/\
 ∀(H':Hp)(p:Addr)(ys:List V),aO H H'->H p=none->H' p<*(.tup ys)->ys.length=zs.length->(∀y∈ys,cm y=true)->Q (.ref p) H'
def JX:Sat G K (jI K) ot n8:=by
 rintro f H Q E ⟨r,b,a,u,rfl,c,C,M,I,q⟩;unfold ot;change wpB G K _ _ _ [some (.ref r),some (.ref b)] H;ext;refine dY ?_;ext;refine Or.inl (r,a,rfl,.inr c,_,rfl,'D','D',?_,);refine eT dB (short 'D') (λ_ _=>trivial) (λi v _=>cm v=true) (λ_ _ _ _ _ h=>h) (λz=>∃t,z=[t,some (.ref b),some (.ref r)]) (none,rfl,) ?_ ?_
 .rintro i x z L R hi ⟨t,rfl⟩ d rfl k;ext;simp only[dP];have j:i<a.length:=by lia
  have g:a[i]?<*a[i]:=ae j;have A:(u.map V.int).all qo=true:=by rw[bx];intro v D;obtain⟨m,_,rfl⟩:=aI.mp D;rfl
  have s:=I _ (bQ j);refine .inr (b,_,rfl,.inl (d.seq C),rfl,A,_,rfl,?_,);show if inV (V.int (i:Int)) (u.map V.int)=true then _ else _
  split
  .refine .inr (.inl (r,a,i,_,rfl,rfl,d.tup c,cy g,?_,));rcases gH s with e|e;·rw[e];ext;exact k _ _ _ (_,rfl,) (aO.refl _) rfl
   .rw[e];ext;exact k _ _ _ (_,rfl,) (aO.refl _) rfl
  .refine .inr (.inl (r,a,i,_,rfl,rfl,d.tup c,cy g,?_,));exact k _ _ _ (_,rfl,) (aO.refl _) s
 .intro f J l N B w n;refine(l,f,rfl,.inl (SqL.of aD,λp o=>q _ p f (w.trans ((aL n).trans (aL o))) ((w.trans (aL n)).free o) aD 'D' λy F=>?_,),);obtain⟨i,hi⟩:=aS.mp F;exact B i y hi
def Nds(H:Hp)(n:Nat)(ys:List V):Prop:=∀y∈ys,∃r zs,y=.ref r/\H r<*(.tup zs)/\zs.length=n/\∀z∈zs,cm z=true
def Nds.same(d:Nds H n ys)(s:aO H H'):Nds H' n ys:=λy e=>by obtain⟨r,f,a,b,c⟩:=d y e;exact(r,f,a,s _ _ b,c,)
def Nds.set{vs us:List V}{t:Addr}(d:Nds H n ys)(h:H t<*(.lst vs)):Nds (upd H t (.lst us)) n ys:=λy e=>by obtain⟨r,f,b,a,c⟩:=d y e;refine(r,f,b,?_,c,);rw[bj (λz=>by rw[z,h]at a;cases a)];exact a
def Ao(K:ak):Sp:=λvs H Q _=>∃(a:Addr)(ns:List Int)(n:Nat),vs=[.ref a,.int n]/\SqL K H a (ns.map V.int)/\ns.length<=16/\n<=10/\
 ∀(H':Hp)(p nd lk:Addr)(ys:List V),aO H H'->H' p<*(.tup [.ref nd,.ref lk])->H nd=none->H' nd<*(.lst ys)->ys≠[]->ys.length<=17->Nds H' n ys->Q (.ref p) H'
section
variable {G:Gam}
structure Fs(H:Hp)(nd lk fr:Addr):Prop where
 fnd:H nd=none
 flk:H lk=none
 ffr:H fr=none
 n1:nd≠lk
 n2:nd≠fr
 n3:lk≠fr
def Gw(H:Hp)(a nd lk fr:Addr)(n:Nat)(sd:Int)(k:Nat)(σ:L2.St)(H':Hp):Prop:=aO H H'/\∃(ys ls:List V)(fs:List Int),H' nd<*(.lst ys)/\H' lk<*(.lst ls)/\H' fr<*(.lst (fs.map V.int))/\ys≠[]/\ys.length<=k+1/\ls.length<=k/\fs.Nodup/\fs.length<=n/\Nds H' n ys/\∃u v w x y,σ=[some (.ref a),some (.int n),some (.int sd),some (.ref nd),some (.ref lk),some (.ref fr),u,v,w,x,y]
section
variable {E:XS}{D2:Ends}{a nd lk fr sm:Addr}{sd d0:Int}{ls:List V}
def Gi(H:Hp)(a nd lk fr sm:Addr)(n k:Nat)(sd d0:Int)(ys ls:List V)(j:Nat)(σ:L2.St)(H':Hp):Prop:=aO H H'/\H' nd<*(.lst ys)/\H' lk<*(.lst ls)/\Nds H' n ys/\∃(fs b:List Int),H' fr<*(.lst (fs.map V.int))/\H' sm<*(.lst (b.map V.int))/\(b++fs).Nodup/\b.length<=j/\fs.length<=n/\∃x y,σ=[some (.ref a),some (.int n),some (.int sd),some (.ref nd),some (.ref lk),some (.ref fr),some (.int k),some (.int d0),some (.ref sm),x,y]
theorem Gi.same(g:Gi H a nd lk fr sm n k sd d0 ys ls j σ H1)(s:aO H1 H2):Gi H a nd lk fr sm n k sd d0 ys ls j σ H2:=by obtain⟨c,d,t3,e,fs,b,f,h,i⟩:=g;exact(c.trans s,s _ _ d,s _ _ t3,e.same s,fs,b,s _ _ f,s _ _ h,i,)
def xE(a:k<ns.length):(ns.map V.int)[k]?<*(.int (ns.getD k 0)):=by rw[ay,ae a,ah,ae a];rfl
def wu(s:G.fn "_law_otherwise" 2<*(jI K,[]))(F:Fs H nd lk fr)(S:k<16)(T:n<=10)(Q:ys≠[])(R:ys.length<=k+1)(u:ls.length<=k+1)(t:∀m H2,Gw H a nd lk fr n sd (k+1) m H2->D2.nx m H2){f:Hp}{z:Nat}(i:z<ys.length){x y:Option V}
  (g:Gi H a nd lk fr sm n k sd d0 ys ls j [some (.ref a),some (.int n),some (.int sd),some (.ref nd),some (.ref lk),some (.ref fr),some (.int k),some (.int d0),some (.ref sm),x,y] f):
  wpB G K E jl D2 [some (.ref a),some (.int n),some (.int sd),some (.ref nd),some (.ref lk),some (.ref fr),some (.int k),some (.int d0),some (.ref sm),x,some (.int z)] f:=by
 obtain⟨C,d,D,l,fs,B,I,J,L,Y,M,_⟩:=g;unfold jl;ext;have q:fs.Nodup:=(du.mp L).2.1;have h:ys[z]?<*ys[z]:=ae i;obtain⟨r,O,o,w,X,A⟩:=l ys[z] (bQ i);rw[o]at h;refine(.inl (rfl,_,SqL.of d,),_,_,s,.inl (nd,ys,z,_,rfl,rfl,SqL.of d,cy h,?_,),);refine(r,sm,O,B,rfl,SqT.of w,SqL.of J,'D',A,λP p N b U c W v=>?_,);have e:=b _ _ d;refine(nd,ys,_,rfl,rfl,e,dJ (by lia:ys.length<=40) 'E',?_,);refine t _ _ (fU (C.trans b) F.fnd,ys++[.ref p],ls,fs,aD,?_,?_,'F',by simp;lia,u,q,M,?_,_,_,_,_,_,rfl,);·rw[bj (bI F.n1)];exact b _ _ D
 .rw[bj (bI F.n2)];exact b _ _ I
 .intro y hy;rcases cX.mp hy with hy|hy;·exact((l.same b).set e) y hy
  .rw[aU]at hy;subst hy;refine(p,N,rfl,?_,'D',v,);rw[bj (λz=>by rw[z,e]at c;cases c)];exact c
def z8(D:G.fn "_law_draw" 2<*(j7,[]))(I:G.fn "_law_otherwise" 2<*(jI K,[]))(F:Fs H nd lk fr)(W:lk≠sm)(J:SqL K H a (ns.map V.int))(M:k<ns.length)(L:k<16)(O:n<=10)(l:ys≠[])(w:ys.length<=k+1)(b6:ls.length<=k)(s:∀v H2,Gw H a nd lk fr n sd (k+1) v H2->D2.nx v H2)(a0:j<=2){i:Hp}{x y:Option V}
  (g:Gi H a nd lk fr sm n k sd d0 ys ls j [some (.ref a),some (.int n),some (.int sd),some (.ref nd),some (.ref lk),some (.ref fr),some (.int k),some (.int d0),some (.ref sm),x,y] i):
  wpB G K E ku D2 [some (.ref a),some (.int n),some (.int sd),some (.ref nd),some (.ref lk),some (.ref fr),some (.int k),some (.int d0),some (.ref sm),x,y] i:=by
 unfold ku;ext;refine(short 'F',λY P=>?_,);generalize hX:upd i Y _=H13;obtain⟨gq,B⟩:=fh hX P;clear hX
 replace g:=g.same gq
 obtain⟨e,c,t3,p,fs,b,q,f,h,t,r,_⟩:=id g;have C:fs.Nodup:=(du.mp h).2.1;have X:b.Nodup:=(du.mp h).1;obtain⟨d,A,Z,r2,r3,r4⟩:=lX (K:=K) (SqL.of f) B;refine(d,A,Z,r2,r3,_,rfl,?_,);rw[r4];by_cases hf:b=[];·rw[decide_eq_true hf];exact s _ _ (e,ys,ls,fs,c,t3,q,l,'D','D',C,r,p,_,_,_,_,_,rfl,)
 .rw[decide_eq_false hf];show if true=true then _ else _
  rw[if_pos rfl];refine(_,_,D,.inl (a,_,k,_,rfl,rfl,e.seq J,cy (xE M),?_,),);ext;refine(qr 'E' 'E',_,_,rfl,'D','D',?_,);have a1:0<ys.length:=eN.mpr l;generalize draw (ns.getD k 0) (41+4*(k:Int))=d1;refine Or.inl (nd,ys,rfl,.inl (SqL.of c),?_,);ext;refine('D',?_,);have U:0<=d1%(ys.length:Int):=bU _ 'D';have i1:d1%(ys.length:Int)<ys.length:=cn _ 'D';obtain⟨z,S⟩:=dA U;rw[S];have T:z<ys.length:=by lia
  unfold l6;ext;refine(.inl (rfl,_,SqL.of t3,),Or.inl (nd,ys,rfl,.inl (SqL.of c),?_,),);have N:b.length<64:=by lia
  refine⟨sm,b,rfl,SqL.of f,N,X,λm Q=>(short 'F',λu R=>?_,)⟩;have g:=g.same ((aL (o:=.lst (_root_.Q.sortI b)) Q).trans (aL (o:=.tup [.int z,.int ys.length,.ref m]) R));generalize upd (upd H13 m (.lst (_root_.Q.sortI b))) u (.tup [.int z,.int ys.length,.ref m])=H15 at g⊢;obtain⟨e,c,t3,p,fs,b,q,f,h,t,r,_⟩:=g;refine(lk,ls,_,rfl,rfl,t3,dJ (by lia:ls.length<=40) 'E',?_,);refine wu (j:=j) (ls:=ls++[.ref u]) I F L O l w (by simp;lia) s T (x:=x) (y:=y) (fU e F.flk,?_,aD,p.set t3,fs,b,?_,?_,h,t,r,_,_,rfl,);·rw[bj F.n1];exact c
  .rw[bj (bI F.n3)];exact q
  .rw[bj (bI W)];exact f
def z9(P:G.fn "_law_draw" 2<*(j7,[]))(Q:G.fn "_law_otherwise" 2<*(jI K,[]))(F:Fs H nd lk fr)(O:H sm=none)(m1:nd≠sm)(r:lk≠sm)(s:fr≠sm)(S:SqL K H a (ns.map V.int))(Y:k<ns.length)(X:k<16)(Z:n<=10)(a3:0<=d0)(C:ys≠[])(D:ys.length<=k+1)(I:ls.length<=k)(R:∀w H2,Gw H a nd lk fr n sd (k+1) w H2->D2.nx w H2){o:Hp}{x y:Option V}
  (g:Gi H a nd lk fr sm n k sd d0 ys ls 0 [some (.ref a),some (.int n),some (.int sd),some (.ref nd),some (.ref lk),some (.ref fr),some (.int k),some (.int d0),some (.ref sm),x,y] o):
  wpB G K E kz D2 [some (.ref a),some (.int n),some (.int sd),some (.ref nd),some (.ref lk),some (.ref fr),some (.int k),some (.int d0),some (.ref sm),x,y] o:=by
 unfold kz;ext;refine gM ?_;ext;have a6:0<=d0%7:=bU _ 'E';have a7:d0%7<7:=cn _ 'E';refine('E',('E','E',),_,rfl,'D','D',?_,);refine fF dB (Gi H a nd lk fr sm n k sd d0 ys ls) g (λ_ _ _ _ _=>trivial) ?_ ?_
 .rintro j x σ A B D3 hj g rfl a2 p _;have a5:j<2:=by lia
  have g:=g.same a2;obtain⟨_,_,_,_,_,_,_,_,_,_,_,x,y,rfl⟩:=id g;ext;simp only[dP];refine(short 'F',λp0 a0=>?_,);generalize hX:upd B p0 _=H13;obtain⟨gq,L⟩:=fh hX a0;clear hX
  replace g:=g.same gq
  obtain⟨i,l,t3,m,fs,b,c,h,v,t8,t9,_⟩:=g;obtain⟨d,J,r1,r2,r3,r4⟩:=lX (K:=K) (SqL.of c) L;refine(d,J,r1,r2,r3,_,rfl,?_,);rw[r4];by_cases hf:fs=[];·rw[decide_eq_true hf];exact p _ _ (i,l,t3,m,fs,b,c,h,v,'D',t9,_,_,rfl,)
  .rw[decide_eq_false hf];show if true=true then _ else _
   rw[if_pos rfl];have a4:0<fs.length:=eN.mpr hf;refine(.inl (rfl,_,SqL.of h,),.inl (rfl,_,SqL.of c,),short 'F',λt a1=>?_,);generalize hX:upd H13 t _=H14;obtain⟨e,M⟩:=fh hX a1;clear hX;have l:=e _ _ l;have t3:=e _ _ t3;have m:=m.same e;have c:=e _ _ c;have h:=e _ _ h;have i:=i.trans e;obtain⟨f,T,U⟩:∃f:Int,[V.int 7,V.int 112][j]?<*(.int f)/\NJ d0 f:=by
    have :j=0\/j=1:=by lia
    rcases this with rfl|rfl;·exact(7,rfl,'E','E',)
    .exact(112,rfl,'E','E',)
   refine .inl (t,_,j,_,rfl,rfl,SqL.of M,cy T,?_,);ext;refine(U,Or.inl (fr,_,rfl,.inl (SqL.of c),?_,),);rw[ao];ext;have i0:0<=d0/f%(fs.length:Int):=bU _ 'D';have i1:d0/f%(fs.length:Int)<fs.length:=cn _ 'D';obtain⟨z,hz⟩:=dA i0;rw[hz];have q:z<fs.length:=by lia
   have W:(fs.map V.int)[z]?<*(.int fs[z]):=by rw[ay,ae q];rfl
   refine('D',.inr (fr,_,z,z,_,rfl,rfl,c,'D','D',?_,W,?_,),);·rw[ao,vH 'D' 'D'];simp
   have N:(fs.map V.int).eraseIdx z=(fs.eraseIdx z).map V.int:=by rw[yg,yg,dM,List.map_take,List.map_drop]
   rw[N];have u:upd H14 fr (.lst ((fs.eraseIdx z).map V.int)) sm<*(.lst (b.map V.int)):=by rw[bj (bI s)];exact h
   refine(sm,b.map V.int,_,rfl,rfl,u,dJ (by rw[ao];lia:(b.map V.int).length<=40) 'E',?_,);have pm:((b++[fs[z]])++fs.eraseIdx z).Perm (b++fs):=by rw[fT];exact(jC fs z q).append_left b
   refine p _ _ (fU (fU i F.ffr) O,?_,?_,(m.set c).set u,fs.eraseIdx z,b++[fs[z]],?_,?_,pm.nodup_iff.mpr v,by simp;lia,by rw[List.length_eraseIdx];split <;>lia,_,_,rfl,);·rw[bj m1,bj F.n2];exact l
   .rw[bj r,bj F.n3];exact t3
   .rw[bj s];exact aD
   .rw[aD,dM];rfl
 .intro σ A g;obtain⟨_,_,_,_,_,_,_,_,_,_,_,x,y,rfl⟩:=id g;exact z8 P Q F r S Y X Z C D I R 'D' g
end
theorem Em(M:G.fn "_law_draw" 2<*(j7,[]))(S:G.fn "_law_otherwise" 2<*(jI K,[])){E:XS}{Q:VK}{w:Hp}{D:Ends}{b d fr:Addr}{h:Int}(F:Fs H b d fr)(P:aO H0 H)(r:SqL K H a (ns.map V.int))(a2:ns.length<=16)(W:n<=10)(X:D.rt=Q)
  (q:∀(H':Hp)(p b d:Addr)(ys:List V),aO H0 H'->H' p<*(.tup [.ref b,.ref d])->H0 b=none->H' b<*(.lst ys)->ys≠[]->ys.length<=17->Nds H' n ys->Q (.ref p) H')
  (g:Gw H a b d fr n h 0 [some (.ref a),some (.int n),some (.int h),some (.ref b),some (.ref d),some (.ref fr),none,none,none,none,none] w):
  wpB G K E mD D [some (.ref a),some (.int n),some (.int h),some (.ref b),some (.ref d),some (.ref fr),none,none,none,none,none] w:=by
 unfold mD;ext;refine gM ?_;ext;refine Or.inl (a,_,rfl,.inl (g.1.seq r),_,rfl,by rw[ao];lia,by rw[ao];lia,?_,);refine fF dB (Gw H a b d fr n h) g (λ_ _ _ _ _=>trivial) ?_ ?_
 .rintro k a3 σ R i D2 U ⟨v,ys,Y,fs,j,x,y,l,m,A,B,C,o,u,a0,a1,x',y',rfl⟩ rfl e T _;have O:k<ns.length:=by simpa using U
  have t:aO H i:=v.trans e;ext;simp only[dP];refine(_,_,M,.inl (a,_,k,_,rfl,rfl,t.seq r,cy (xE O),?_,),);ext;refine(qr 'E' 'E',_,_,rfl,'D','D',?_,);have N:=Bi (ns.getD k 0) (40+4*(k:Int));generalize draw (ns.getD k 0) (40+4*(k:Int))=d0 at N⊢;unfold oA;ext;refine(short 'F',λZ c=>?_,);have I:=e _ _ j;have J:=e _ _ x;have L:=e _ _ y;have f:aO i (upd i Z (.lst [])):=aL c;exact z9 M S F (t.free c) (λz=>by rw[<-z,I]at c;cases c) (λz=>by rw[<-z,J]at c;cases c) (λz=>by rw[<-z,L]at c;cases c) r O 'D' W N l m A T
   (t.trans f,f _ _ I,f _ _ J,(o.same e).same f,fs,[],f _ _ L,aD,↥B,'F',C,_,_,rfl,)
 .rintro σ R ⟨v,ys,Y,fs,j,x,y,l,m,A,B,C,o,u,a0,a1,x',y',rfl⟩;unfold qF;ext;refine(short 'F',λp s=>?_,);rw[X];exact q _ p b d ys (P.trans (v.trans (aL s))) aD (P.free F.fnd) (aL s _ _ j) l (by simp at m;lia) (o.same (aL s))
def wx(I:G.fn "_law_draw" 2<*(j7,[]))(J:G.fn "_law_otherwise" 2<*(jI K,[])){E:XS}{Q:VK}{D:Ends}{A:Int}(s0:aO H0 H)(M:SqL K H a (ns.map V.int))(R:ns.length<=16)(P:n<=10)(S:D.rt=Q)
  (q:∀(H':Hp)(p nd lk:Addr)(ys:List V),aO H0 H'->H' p<*(.tup [.ref nd,.ref lk])->H0 nd=none->H' nd<*(.lst ys)->ys≠[]->ys.length<=17->Nds H' n ys->Q (.ref p) H'):
  wpB G K E mE D [some (.ref a),some (.int n),some (.int A),none,none,none,none,none,none,none,none] H:=by
 unfold mE;ext;refine dY ?_;ext;refine((n:Int),rfl,'D','D',?_,);refine eT dB (short 'D') (λ_ _=>trivial) (λi a1 _=>cm a1=true) (λ_ _ _ _ _ h=>h) (λB=>∃t,B=[t,some (.int A)]) (none,rfl,) ?_ ?_;·rintro a4 a2 B m a3 hj ⟨t',rfl⟩ f rfl k;ext;rw[KD];ext;simp only[dP,Int.one_mul,bo];exact(('D','D','E',),pow2 'D','E',k _ _ _ (_,rfl,) (aO.refl _) (mod2 _),)
 intro b m l U L s3 O;have X:∀z∈b,cm z=true:=λz Y=>by obtain⟨k,N⟩:=aS.mp Y;exact L k z N
 have W:b.length=n:=by rw[U];lia
 refine⟨l,b,rfl,.inl ⟨SqL.of aD,λc T=>(short 'F',λnd v=>?_,)⟩⟩;have g:aO H (upd (upd m l (.lst b)) c (.tup b)):=s3.trans ((aL O).trans (aL T));have x:upd (upd m l (.lst b)) c (.tup b) c<*(.tup b):=aD;generalize upd (upd m l (.lst b)) c (.tup b)=H4 at g x v⊢;have f:aO H4 (upd H4 nd (.lst [.ref c])):=aL v;have u:upd H4 nd (.lst [.ref c]) nd<*(.lst [.ref c]):=aD;have fnd:H nd=none:=g.free v;generalize upd H4 nd (.lst [.ref c])=H5 at f u⊢;unfold qH;ext;refine(short 'F',λlk o=>?_,);have j:aO H5 (upd H5 lk (.lst [])):=aL o;have s:upd H5 lk (.lst []) lk<*(.lst []):=aD;have Z:nd≠lk:=λz=>by rw[<-z,u]at o;cases o
 have F:H lk=none:=(g.trans f).free o;generalize upd H5 lk (.lst [])=H6 at j s⊢;unfold qG;ext;refine(_,rfl,n,rfl,'D',λfr d=>?_,);have r:aO H6 (upd H6 fr (.lst (nats n))):=aL d;have w:=j _ _ u;have C:nats n=((aF n).map λi:Nat=>(i:Int)).map V.int:=by unfold nats;rw[bF];rfl
 have a0:((aF n).map λi:Nat=>(i:Int)).Nodup:=by rw[List.nodup_iff_pairwise_ne,cK];exact(kE (n:=n)).imp λh e=>h (Int.ofNat.inj e)
 refine Em I J ⟨fnd,F,(g.trans (f.trans j)).free d,Z,(λz=>by rw[<-z,w]at d;cases d),(λz=>by rw[<-z,s]at d;cases d)⟩ s0 M R P S q
  (g.trans (f.trans (j.trans r)),[.ref c],[],_,r _ _ w,r _ _ s,by rw[aD,C],'F','F','F',a0,'F',λa2 y=>?_,_,_,_,_,_,rfl,)
 rw[aU]at y;subst y;exact(c,b,rfl,r _ _ (j _ _ (f _ _ x)),W,X,)
def J0(f:G.fn "_law_draw" 2<*(j7,[]))(g:G.fn "_law_otherwise" 2<*(jI K,[])):
  Sat G K (Ao K) vi uY:=by
 rintro w H Q E ⟨a,e,n,rfl,c,k,h,q⟩;unfold vi qI;change wpB G K _ _ _ [some (.ref a),some (.int n),none,none,none,none,none,none,none,none,none] H;ext;refine(short 'F',λr p=>?_,);generalize hX:upd H r _=H1;obtain⟨b,m⟩:=fh hX p;clear hX;obtain⟨d,l,s,t,u,v⟩:=lX (K:=K) (b.seq c) m;refine(d,l,s,t,u,_,rfl,?_,);rw[v];by_cases hf:e=[];·rw[decide_eq_true hf];exact wx f g b (b.seq c) k h rfl q
 .rw[decide_eq_false hf];show if true=true then _ else _
  rw[if_pos rfl];have i:0<e.length:=eN.mpr hf;have o:(e.map V.int)[0]?<*(.int (e.getD 0 0)):=by rw[ay,ae i,ah,ae i];rfl
  refine(_,_,f,.inl (a,_,0,_,rfl,rfl,b.seq c,cy (j:=0) o,_,20,rfl,'E','E',?_,),);exact wx f g b (b.seq c) k h rfl q
end
def EC(K:ak):Sp:=λvs H Q _=>∃(a nd:Addr)(ns:List Int)(ys:List V),vs=[.ref a,.ref nd]/\SqL K H a (ns.map V.int)/\SqL K H nd ys/\ns.length<=16/\ys≠[]/\
 ∀(H':Hp)(l:Addr)(hs:List Int),aO H H'->H l=none->H' l<*(.lst (hs.map V.int))->hs.length=ns.length->(∀h∈hs,0<=h/\h<ys.length)->Q (.ref l) H'
section
variable {G:Gam}
def wp_held(L:G.fn "_law_draw" 2<*(j7,[])):
  Sat G K (EC K) xY xj:=by
 rintro vs H Q E ⟨a,g,x,f,rfl,B,t,Z,S,q⟩;unfold xY sL;change wpB G K _ _ _ [some (.ref a),some (.ref g),none,none,none] H;ext;have a0:0<f.length:=eN.mpr S;refine(short 'F',λl s=>?_,);have C:aO H (upd H l (.lst [])):=aL s;refine gM ?_;ext;refine Or.inl (a,_,rfl,.inl (C.seq B),_,rfl,by rw[ao];lia,by rw[ao];lia,?_,);refine fF dB (λk z j=>aO H j/\∃b:List Int,j l<*(.lst (b.map V.int))/\b.length=k/\(∀h∈b,0<=h/\h<f.length)/\∃u v,z=[some (.ref a),some (.ref g),some (.ref l),u,v])
  (C,[],aD,rfl,'F',none,none,rfl,) (λ_ _ _ _ _=>trivial) ?_ ?_
 .rintro k a1 z A m F O ⟨y,b,e,o,p,u,v,rfl⟩ rfl D M _;have P:k<x.length:=by simpa using O
  have i:=y.trans D;have e:=D _ _ e;ext;simp only[dP];refine(_,_,L,.inl (a,_,k,_,rfl,rfl,i.seq B,cy (xE P),?_,),);ext;refine(_,_,rfl,'D','D',?_,);have N:=Bi (x.getD k 0) (60+(k:Int));generalize draw (x.getD k 0) (60+(k:Int))=d0 at N⊢;unfold pz;ext;refine('E',?_,);have r:∀(n:Hp)(w:Int),aO m n->AH (.ref l) [.int (w%(f.length:Int))] n λ_ j=>F.nx [some (.ref a),some (.ref g),some (.ref l),some (V.int k),some (V.int d0)] j:=by
   intro n w c;refine⟨l,b.map V.int,_,rfl,rfl,c _ _ e,dJ (by rw[ao];lia:(b.map V.int).length<=40) 'E',M _ _ (fU (i.trans c) s,b++[w%(f.length:Int)],by rw[aD,dM];rfl,by simp[o],λh hh=>?_,_,_,rfl,)⟩;rcases cX.mp hh with hh|hh;·exact p h hh
   .rw[aU]at hh;subst hh;exact(bU _ 'D',cn _ 'D',)
  by_cases h5:(0:Int)<d0%5;·rw[decide_eq_true h5,if_pos rfl,if_pos trivial];refine(.inl (rfl,_,SqL.of e,),Or.inl (g,f,rfl,.inl (i.seq t),?_,),);ext;exact('D',r m _ (aO.refl _),)
  .rw[decide_eq_false h5,if_neg aq];refine(short 'F',λT R=>?_,);generalize hX:upd m T _=H3;obtain⟨c,J⟩:=fh hX R;clear hX;obtain⟨d,I,U,W,X,Y⟩:=lX (K:=K) (SqL.of (c _ _ e)) J;refine(d,I,U,W,X,_,rfl,?_,);rw[Y];by_cases hf:b=[];·rw[decide_eq_true hf,if_pos rfl];refine(.inl (rfl,_,SqL.of (c _ _ e),),Or.inl (g,f,rfl,.inl ((i.trans c).seq t),?_,),);ext;exact('D',r H3 _ c,)
   .rw[decide_eq_false hf,if_neg aq];refine(.inl (rfl,_,SqL.of (c _ _ e),),('E','E',),Or.inl (g,f,rfl,.inl ((i.trans c).seq t),?_,),);ext;exact('D',r H3 _ c,)
 .rintro z A ⟨y,b,e,o,p,u,v,rfl⟩;unfold sJ;ext;exact q A l b y s e (by simp at o;lia) p
end
end K22
namespace Lm
open PySem.W L2 Q
noncomputable abbrev Kp(h h':Heap):Prop:=∀b o,h.get? b<*o->h'.get? b<*o
section
variable {E:'I'}{s:Shared}
def Nq{Q:'I'}{u:Arguments}{k:Value}{p q t:Pos}{a:Array Value}
  (hf:s.heap.get? f<*(kla_obj "<lambda>" qual u (.Subscript (.Name x p) (.Constant (.int 0) j q) t) scope [] pm c' cb))(C:s.heap.CodeRec (.ref c') qual)(K:A.depth<kQ)(I:s.heap.NoLimit)
  (B:∀v,rC (kla_fn "<lambda>" qual u (.Subscript (.Name x p) (.Constant (.int 0) j q) t) scope [] pm (.ref c') cb) ([v],[],)=pure [(x,v)])
  (m:scope.names.lookup x<*.local)(G:(x==("__debug__":Str))=false)(d:scope.kind=.function)(D:∀y∈scope.names,y.2≠.cell)(F:scope.isCoroutine=false)(H:scope.isGenerator=false)
  (L:IsTup s.heap b a)(h0:a[0]?<*k)(h:∀h' t',Kp s.heap h'->Q k {s with heap:=h',toks:=t'}):'B' (call (.ref f) [.ref b]) Q E s:=by
 refine hV (kla_callFunE K hf rfl F H rfl C ?_);rw[B];refine aj (wpAny_newFunctionEnv D (λy M=>?_) (λn J i=>(I.fresh _ i,?_,)) d)
 .have e:y=(x,.ref b):=by simpa using M
  rw[e];exact m
 have g:Kp s.heap n:=λb o e=>i.extBut b o (aM (aA e)) (af _ e);refine kla_codeExpr (Subscript_ (Jx (wpAny_loadName_local d m J (v:=.ref b) 'F' ?_) G));refine wpAny_Constant_int ?_;have l:IsTup n b a:=by obtain⟨o,e,c⟩:=L;exact(o,g _ _ e,c,)
 have N:0<a.size:=by
  rcases Nat.eq_zero_or_pos a.size with z|z;·rw[Ga 'D']at h0;cases h0
  .exact z
 exact tm (x:=k) l.typeIs slot_tuple_getitem.lookup
  (getItem_tuple (j:=0) (Q:=λr O=>r=k/\_) l 'E' 'E' (by rw[vH 'E' 'D'];rfl) h0 (rfl,h _ _ g,)) rfl
def Keys(prog:Program)(w:World)(A:Around)(f:Value)(vs:List Value)(ks:List Str)(h0:Heap):Prop:=
 ∀(i:Nat)(v:Value)(k:Str),vs[i]?<*v->ks[i]?<*k->∀(s1:Shared)(E:'I')(a:'I'),Kp h0 s1.heap->
  (∀t h' t',Kp s1.heap h'->a (.str k t) {s1 with heap:=h',toks:=t'})->'B' (call f [v]) a E s1
theorem strs_snoc{k:Str}{t:Tok}:∀{vs:List Value}{ks:List Str},BO vs ks->BO (vs++[.str k t]) (ks++[k])
 |_,_,.nil=>.cons k t .nil
 |_,_,.cons y u h=>.cons y u (strs_snoc h)
def Ge{e f:Nat}{st:SortSt}{P:eL->Shared->Prop}(t:(arrOf st).map (·.2)=eW out)(hz:out.length<64)(p:kv.length<64)(hf:failedOf st=none)
  (n:s.heap.get? kS<*(seqObj "list" kv.toArray e))(l:s.heap.get? a<*(seqObj "list" #[] f))(r:kS≠a)
  (h:∀h' c,(∀b o,b≠a->b≠kS->s.heap.get? b<*o->h'.get? b<*o)->h'.get? a<*(seqObj "list" out.toArray c)->P (.done (.ret .none)) {s with heap:=h'}):
  'B' (ksk_tail a false f (.ref kS) st) P E s:=by
 have i:=bM s.heap kS (bq λ_=>(#[]:Array Value));have g:(s.heap.update kS (bq λ_=>(#[]:Array Value))).get? a<*(seqObj "list" #[] f):=(i.2 a (bI r)).trans l;have u:=bM (s.heap.update kS (bq λ_=>(#[]:Array Value))) a (bq λ_=>eW out);obtain⟨d,m⟩:∃d,((s.heap.update kS (bq λ_=>(#[]:Array Value))).update a (bq λ_=>eW out)).get? a<*(seqObj "list" (eW out) d):=(_,tH g λ_=>eW out,);unfold ksk_tail;try dsimp only
 rw[t];refine aa (gG n rfl ?_ (by rw[aE];exact fR p) (bf _));refine aa (pW ?_);refine aa (vI g rfl ?_);refine aa (gG g rfl ?_ (bf _) ↥(Gg hz));rw[hf];simp only[bne_self_eq_false,aJ,if_false];exact aj (h _ d (λb o j k q=>(u.2 b j).trans ((i.2 b k).trans q)) m)
def end_ok{e f:Nat}{P:eL->Shared->Prop}(R:ks.Nodup)(r:BO kv ks)(y:ks.length=vs.length)(m:vs.length<64)
  (x:s.heap.get? kS<*(seqObj "list" kv.toArray e))(v:s.heap.get? a<*(seqObj "list" #[] f))(B:kS≠a)
  (h:∀h' c,(∀b o,b≠a->b≠kS->s.heap.get? b<*o->h'.get? b<*o)->h'.get? a<*(seqObj "list" (gh (o6 ks) vs).toArray c)->P (.done (.ret .none)) {s with heap:=h'}):
  'B' (ksk_end a false vs.toArray f (.ref kS) (eW kv)) P E s:=by
 have g:vs.toArray.size=vs.length:=by simp
 have O:=wF r;have n:kv.length=vs.length:=O.trans y;unfold ksk_end;simp only[aJ,if_false];by_cases hn:vs.length<2;·have l:gh (o6 ks) vs=vs:=if_pos hn;rw[l]at h;rw[if_pos (by rw[g];exact hn),if_pos (by rw[g];exact hn)];refine aa (aj (aa ?_));rw[StateT.run_pure];refine aj (Ge (out:=vs) ?_ m 'D' rfl x v B h);show(kv.toArray.zip vs.toArray).map (·.2)=vs.toArray;apply BZ;simp[yl,n]
 .have I:2<=vs.length:=by lia
  have l:gh (o6 ks) vs=(run (o6 ks) (dO vs.length)).toList.map λi=>vs.getD i .none:=if_neg hn;rw[l]at h;rw[if_neg (by rw[g];exact hn),if_neg (by rw[g];exact hn)];obtain⟨κ,M,N⟩:=Jr (prog:=prog) (w:=w) (A:=A) (h0:=s.heap) r 'D' s (λ_ _ q=>q);have T:Tot (o6 ks) vs.length:=by rw[<-y];exact wz R
  obtain⟨F,U,D⟩:=fV T (by lia:1<=vs.length);refine aa (M _ _ (aa ?_));have key:=kat_run (prog:=prog) (w:=w) (A:=A) (E:=E) (κ:=κ) (ks:=kv) (vs:=vs) (s:=s)
   (Q:=λk d=>d=s/\arrOf k=(run (o6 ks) (dO vs.length)).map (kas_item (kv.toArray.zip vs.toArray))/\failedOf k=none)
   (G:=λp d=>d=s/\p=run (o6 ks) (dO vs.length)) n I m
   (λp k d _ f H u=>(u.1,by rw[f,u.2],H,))
   (wp_run (S:=λd=>d=s) (λi j C d hi V L t J=>by subst t;exact N i j C 'D' 'D' L (J _ rfl)) _ _ D rfl λd t=>(t,rfl,))
  refine dy key ?_ λ_ _ z=>z;rintro⟨⟨⟩,k⟩ d ⟨rfl,K,hf⟩;exact Ge (kat_snds n K) (by rw[ao,aV,F.size];exact m) 'D' hf x v B h
def KA{f:Value}{P:eL->Shared->Prop}(W:ks.Nodup)(U:ks.length=vs.length)(u:s.heap.get? a<*(seqObj "list" vs.toArray n))
  (k0:∀b o,h0.get? b<*o->s.heap.get? b<*o/\b≠a)(F:vs.length<64)(ky:Keys prog w A f vs ks h0)
  (h:∀h' t' c,(∀b o,b≠a->s.heap.get? b<*o->h'.get? b<*o)->h'.get? a<*(seqObj "list" (gh (o6 ks) vs).toArray c)->P (.done (.ret .none)) {s with heap:=h',toks:=t'}):
  'B' (ksk_tree a f false) P E s:=by
 have V:vs.toArray.size=vs.length:=by simp
 have S:a<⇑s:=aA u;have X:=bM s.heap a (bq λ_=>(#[]:Array Value));obtain⟨m,M⟩:∃m,(s.heap.update a (bq λ_=>(#[]:Array Value))).get? a<*(seqObj "list" #[] m):=(_,tH u λ_=> #[],);unfold ksk_tree;refine aa (listItems_at u rfl ?_);refine aa (gG u rfl ?_ (by rw[V];exact fR F) (bf _));refine aa (vI M rfl ?_);refine aa (wpAny_newTuple ?_ (show vs.length<=_ from fR F));refine aa (me ?_ (bf _));refine ba ?_;have J:((s.heap.update a (bq λ_=>(#[]:Array Value))).push (seqObj "tuple" vs.toArray 0)).get? a<*(seqObj "list" #[] m):=af _ M;have O:∀b o,b≠a->s.heap.get? b<*o->((s.heap.update a (bq λ_=>(#[]:Array Value))).push (seqObj "tuple" vs.toArray 0)).get? b<*o:=λb o g q=>af _ ((X.2 b g).trans q);have v:⇑s<((s.heap.update a (bq λ_=>(#[]:Array Value))).push (seqObj "tuple" vs.toArray 0)).objs.size:=by rw[yH,oQ];lia
 show wpAny _ _ (ksk_rest a f false vs.toArray m (.ref ((s.heap.update a (bq λ_=>(#[]:Array Value))).push (seqObj "tuple" vs.toArray 0)).objs.size)) _ _
  {s with heap:=((s.heap.update a (bq λ_=>(#[]:Array Value))).push (seqObj "tuple" vs.toArray 0)).push (seqObj "list" #[] 0)}
 generalize(s.heap.update a (bq λ_=>(#[]:Array Value))).push (seqObj "tuple" vs.toArray 0)=h1 at J O v⊢;have L:h1.objs.size≠a:=eM (fX S v);unfold ksk_rest;refine aa (hU ?_)
 first
  |rw[List.forIn_toArray]
  | (rw[<-gP];simp only[tK])
  |rw[<-gP]
 refine aa (ksk_fold (λi H=>∃l C d e,H={s with heap:=l,toks:=C}/\BO d (ks.take i)/\l.get? h1.objs.size<*(seqObj "list" (eW d) e)/\l.get? a<*(seqObj "list" #[] m)/\∀b o,b≠a->s.heap.get? b<*o->l.get? b<*o)
  vs 0 _ ⟨_,s.toks,[],0,rfl,by rw[List.take_zero];exact .nil,az _ rfl,af _ J,λb o g q=>af _ (O b o g q)⟩ ?_ ?_)
 .rintro j x H N ⟨l,C,d,e,rfl,r,p,G,B⟩;rw[yf]at r;have Y:j<vs.length:=(av.mp N).1;have K:ks[j]?<*(ks[j]''D'):=ae 'D';have Z:d.length=j:=by rw[wF r,bJ];lia
  refine aa (jH (ky j x _ N K _ _ _ (λb o q=>B b o (k0 b o q).2 (k0 b o q).1) λt I t3 y=>?_));have Q:=bM I h1.objs.size (bq (·.push (js (ks[j]''D') t)));have R:(eW d).push (js (ks[j]''D') t)=eW (d++[js (ks[j]''D') t]):=by simp
  obtain⟨D,T⟩:∃D,(I.update h1.objs.size (bq (·.push (js (ks[j]''D') t)))).get? h1.objs.size<*(seqObj "list" (eW (d++[js (ks[j]''D') t])) D):=⟨_,by rw[<-R];exact tH (y _ _ p) (·.push _)⟩;try dsimp only
  refine aa (gG (y _ _ p) rfl ?_ (by rw[aE];exact fR 'D') (aT (qd (Array.size_push ..)) (by rw[aE];exact Gg 'D')));refine aj (rfl,_,t3,d++[js (ks[j]''D') t],D,rfl,?_,T,(Q.2 a (bI L)).trans (y _ _ G),λb o g q=>(Q.2 b (aM (fX (aA q) v))).trans (y _ _ (B b o g q)),);rw[yf,cJ,K];exact strs_snoc r
 .rintro H ⟨l,C,d,e,rfl,r,p,G,B⟩;rw[yf,gR 'D']at r;try dsimp only
  refine aa (listItems_at p rfl ?_);exact end_ok W r U F p G L λh' c k q=>h h' C c (λb o g z=>k b o g (aM (fX (aA z) v)) (B b o g z)) q
def EF{q:Addr}{Q:'I'}(r:ks.Nodup)(n:ks.length=vs.length)(j:s.heap.IsList l vs.toArray)(a:vs.length<64)(ky:Keys prog w A.in1.in1 (.ref q) vs ks s.heap)
  (h:∀h' t' c,Kp s.heap h'->h'.get? (⇑s+1)<*(seqObj "list" (gh (o6 ks) vs).toArray c)->Q (.ref (⇑s+1)) {s with heap:=h',toks:=t'}):
  'B' (call (.builtin "sorted") [.ref l] [(bh "key",.ref q)]) Q E s:=by
 refine call_function_entry_kw D6 BF BJ (ksk_s1 _ _) ?_;unfold Builtin.«sorted»;refine aa (m:=JH "sorted" 1 1 _) (aj ?_);refine aa (collect_list j ?_ ↥(fR a));refine aa (me ?_ (show vs.length<=_ from fR a));have g:((s.heap.push (seqObj "list" #[] 0)).update ⇑s (bq (·++vs.toArray))).objs.size=⇑s+1:=by rw[oQ,yH]
 have p:Kp s.heap ((s.heap.push (seqObj "list" #[] 0)).update ⇑s (bq (·++vs.toArray))):=λb o e=>by have i:=aA e;rw[aX _ _ (eM i)];exact af _ e
 have d:(((s.heap.push (seqObj "list" #[] 0)).update ⇑s (bq (·++vs.toArray))).push (seqObj "list" vs.toArray 0)).get? (⇑s+1)<*(seqObj "list" vs.toArray 0):=by rw[<-g];exact az _ rfl
 show wpAny _ _ _ _ _ {s with heap:=((s.heap.push (seqObj "list" #[] 0)).update ⇑s (bq (·++vs.toArray))).push (seqObj "list" vs.toArray 0)};rw[g];have f:Kp s.heap (((s.heap.push (seqObj "list" #[] 0)).update ⇑s (bq (·++vs.toArray))).push (seqObj "list" vs.toArray 0)):=λb o e=>af _ (p b o e);generalize((s.heap.push (seqObj "list" #[] 0)).update ⇑s (bq (·++vs.toArray))).push (seqObj "list" vs.toArray 0)=h1 at d f⊢;refine aa (ba (wpAny_call_entry_kw vF (_,d,rfl,) tI ?_ (ksk_l1 _ _)));show wpAny (model prog w) A.in1.in1 (Builtin.«list.sort» ([.ref (⇑s+1)],[(bh "key",.ref q)],)) _ _ _;rw[ksk_t1];exact KA (s:={s with heap:=h1}) r n d (λb o e=>(f b o e,aM (bA (aA e)),)) a ky λh' t' c k z=>(_,rfl,aj (_,rfl,h h' t' c (λb o e=>k b o (aM (bA (aA e))) (f b o e)) z,),)
end
structure Tb where
 P:Addr
 pos:Pos
 q:Str
def Tab(T:Tb)(H:Hp):Prop:=H T.P<*(.tbl #[])\/∃c' oc u vs t,H T.P<*(.tbl #[rawInt T.pos.line,rawInt T.pos.col,.ref c'])/\H c'<*(.frz oc u)/\oc.data=.fields vs/\vs[1]?<*(.str T.q t)
structure Gr(T:Tb)(H H':Hp):Prop where
 keep:∀b o,b≠T.P->H b<*o->H' b<*o
 tab:Tab T H->Tab T H'
def Gr.refl(T:Tb)(H:Hp):Gr T H H:=(λ_ _ _ e=>e,λt=>t,)
def Gr.trans{T:Tb}(a:Gr T H H1)(b:Gr T H1 H2):Gr T H H2:=(λc o n e=>b.keep c o n (a.keep c o n e),λt=>b.tab (a.tab t),)
def Gr.of{T:Tb}(e:aO H H'):Gr T H H':=
 ⟨λb o _ q=>e b o q,λt=>by
  rcases t with t|⟨a,h,u,i,tk,c,d,f,g⟩;·exact .inl (e _ _ t)
  .exact .inr (a,h,u,i,tk,e _ _ c,e _ _ d,f,g,)⟩
def Tab.ne{T:Tb}(t:Tab T H){o:HO}(e:H b<*o)(n:∀ps,o≠.tbl ps):b≠T.P:=by
 intro z;subst z;rcases t with t|⟨c,h,u,i,tk,a,d,f,g⟩;·rw[t]at e;exact n _ (aW e).symm
 .rw[a]at e;exact n _ (aW e).symm
section
variable {T:Tb}{a:Addr}
def Gr.at(g:Gr T H H')(t:Tab T H){o:HO}(e:H a<*o)(n:∀ps,o≠.tbl ps):H' a<*o:=g.keep a o (t.ne e n) e
theorem Gr.lst(g:Gr T H H')(t:Tab T H)(e:H a<*(.lst xs)):H' a<*(.lst xs):=g.at t e λ_ z=>by cases z
def Gr.Ew(g:Gr T H H')(t:Tab T H)(e:H a<*(.tup xs)):H' a<*(.tup xs):=g.at t e λ_ z=>by cases z
theorem Gr.frz(g:Gr T H H')(t:Tab T H){o:Obj}{u:HO}(e:H a<*(.frz o u)):H' a<*(.frz o u):=g.at t e λ_ z=>by cases z
def Gr.seq(g:Gr T H H')(t:Tab T H)(h:SqL K H a xs):SqL K H' a xs:=by
 rcases h with(h|⟨o,h⟩) |h;·exact .inl (.inl (g.lst t h))
 .exact .inl (.inr (o,g.frz t h,))
 .exact .inr h
end
def un_tab{fs:List Addr}{p:Addr}{j:Obj}{ps more:Array Value}(r:HOk P w H h)(i:∀b o,b≠p->h.get? b<*o->h'.get? b<*o)(c:H p<*(.tbl ps))(l:h.objs.size<=c')
  (s:h'.get? p<*(tabObj (ps++more)))(k:h'.get? c'<*j):
  Un fs [] H (upd (upd H c' (.frz j (.ext λ_=>True))) p (.tbl (ps++more))) h h'/\HOk P w (upd (upd H c' (.frz j (.ext λ_=>True))) p (.tbl (ps++more))) h':=by
 have m:H c'=none:=r.fresh l;have ne:c'≠p:=bI (cA c m);have g:∀{b:Addr}{o:HO},H b<*o->b≠p->upd (upd H c' (.frz j (.ext λ_=>True))) p (.tbl (ps++more)) b<*o:=λ{b o} e n=>by rw[bj n,bj (cA e m)];exact e
 have f:∀{b:Addr}{o:HO},H b<*o->(∀t,o≠.tbl t)->b≠p:=λ{b o} e n z=>by subst z;rw[c]at e;exact n _ (aW e).symm
 refine((λb o e n _ _=>i b o (λz=>by rw[z,c]at n;cases n) e,λb o e n _ _=>⟨o.slots,i b o (λz=>by rw[z,c]at n;cases n) e⟩,λb o e n _=>?_,λb o e _=>?_,λb A e=>g e (f e λ_ z=>by cases z),
  λb o u e=>g e (f e λ_ z=>by cases z),λb t e=>?_,),λb o e=>?_,)
 .have a:b≠p:=λz=>by rw[z,c]at n;cases n
  rw[bj a,bj (aM (bu (aA e) l))];exact n
 .by_cases a:b=p;·exact⟨_,by rw[a];exact s⟩
  .exact(o,i b o a e,)
 .by_cases a:b=p;·subst a;rw[c]at e;cases e;exact(more,aD,)
  .exact⟨#[],by rw[g e a];simp⟩
 .by_cases a:b=p;·subst a;rw[aD]at e;cases e;exact s
  .rw[bj a]at e;by_cases hc2:b=c';·subst hc2;rw[aD]at e;cases e;exact(k,trivial,(_,k,),λ_ _ _ _=>trivial,)
   .rw[bj hc2]at e;refine(r b o e).mf (λd v x q=>i d v ?_ q) (λd q=>g q (f q λ_ z=>by cases z)) λd A q=>g q (f q λ_ z=>by cases z);rcases x with z|z;·rw[z];exact a
    .exact f z λ_ y=>by cases y
def BM(mg:Str->Option Value)(h:Heap):Prop:=∃bm a,mg "__builtins__"<*(.ref bm)/\bm≠oK/\bm≠bY/\h.get? bm<*a/\a.cls=.type "module"/\a.dict<*oK/\a.data=.plain
def rSortK(K:ak)(T:Tb):List V->Hp->VK->Prop:=λxs H Q=>∃a ys ks,xs=[V.ref a]/\SqL K H a ys/\ks.length<64/\ks.Nodup/\sY H ys ks/\Tab T H/\
 ∀H2 l,Gr T H H2->H2 l=none->Q (.ref l) (upd H2 l (.lst (sortBy .non ks ys)))
def wC(K:ak)(T:Tb)(te:TE):TE:=λσ H Q=>lV te tO σ H λxs H1=>rSortK K T xs H1 Q
structure NG(env:Env)(params:Arguments)(x:Str)(body:Expr)(scope:Scope):Prop where
 cl:JG scope env=pure []
 df:defaultsOf params env=([],[])
 bd:∀(qual:Str)(pm cb v:Value)(c':Addr),rC (kla_fn "<lambda>" qual params body scope [] pm (.ref c') cb) ([v],[],)=pure [(x,v)]
 lk:scope.names.lookup x<*.local
 dbg:(x==("__debug__":Str))=false
 kd:scope.kind=.function
 nc:∀y∈scope.names,y.2≠.cell
 co:scope.isCoroutine=false
 gn:scope.isGenerator=false
section
variable {te:TE}{T:Tb}{c:Addr}{p kp p1 p2 p3:Pos}{x:Str}{params:Arguments}
theorem vW(O:NG X.env params x (.Subscript (.Name x p1) (.Constant (.int 0) j p2) p3) scope)(ok:HOk X.prog X.w H s.heap)
  (hf:s.heap.get? f<*(kla_obj "<lambda>" qual params (.Subscript (.Name x p1) (.Constant (.int 0) j p2) p3) scope [] pm c' cb))(e:s.heap.CodeRec (.ref c') qual)(h:A.depth<kQ)(g:s.heap.NoLimit):
  ∀{ys:List V}{ks:List Str}{vs:List Value},sY H ys ks->bT ys vs->Keys prog w A (.ref f) vs ks s.heap
 |_,_,_,.nil,.nil=>λi v k c=>by simp at c
 |_,_,_,.cons y t,.cons r q=>by
  intro i v k c d G E l b hq;cases i with
  |zero=>
   obtain⟨a,K,rfl,p⟩:=y;cases r;have m:v=aN a:=by simpa using c.symm
   subst m;obtain⟨_,J,F,o,u,z,n,B⟩:=ok a _ p;cases F with
   |cons r0 _=>obtain⟨tk,rfl⟩:=r0;obtain rfl:=aW d;exact Nq (b _ _ hf) (e.keeps b) h (g.keeps b) (λv=>O.bd _ _ _ v _) O.lk O.dbg O.kd O.nc O.co O.gn (o,b _ _ u,z,n,B,) 'F' λC I D=>hq tk C I D
  |succ i=>exact vW O ok hf e h g t q i v k ↥c ↥d G E l b hq
def yU{Q:VK}(O:NG X.env params x (.Subscript (.Name x p1) (.Constant (.int 0) j p2) p3) scope)(I:'A')
  (hf:s.heap.get? f<*(kla_obj "<lambda>" T.q params (.Subscript (.Name x p1) (.Constant (.int 0) j p2) p3) scope [] pm c' cb))(g:s.heap.CodeRec (.ref c') T.q)(m:X.A.depth<kQ)
  (hq:SqL X.K H a ys)(u:ks.length<64)(b:ks.Nodup)(d:sY H ys ks)(q:∀l,H l=none->Q (.ref l) (upd H l (.lst (sortBy .non ks ys)))):
  'C' (call (.builtin "sorted") [.ref a] [(bh "key",.ref f)]) (EP X pins σ Q) X.xe s:=by
 obtain⟨p,c,r,w⟩:=I.list hq;have i:ks.length=ys.length:=uR d;have v:=c.length;have n:ks.length=p.length:=by lia
 refine EF b n r.isList 'D' (vW (A:=X.A.in1.in1) O I.hok hf g m I.nolimit d c) λt t' e k h=>?_;have o:(sortBy V.non ks ys).length<=sizeLine:=by unfold sortBy;rw[ao,ord_len ks b];lia
 exact(.ref (⇑s+1),_,I.laid (t':=t') k (dk _) (show eA X.prog X.w _ _ _ (.lst (sortBy .non ks ys))from(o,_,e,LK b i c,h,)),rfl,q _ (I.hok.fresh (dk _)),)
def Lu(he:PE X e te)(hs:bH [e] X.env=(false,eval e X.env)::bH [] X.env)(hg:Gl X "sorted")(hm:X.mg "sorted"=none)(B:X.env.code=.ref c)(A:CodeHd X.base c T.P)(hq:X.env.qual++"<lambda>"=T.q)(hb:BM X.mg X.base)
  (O:NG X.env params x (.Subscript (.Name x p1) (.Constant (.int 0) j p2) p3) scope)(J:X.A.depth<kQ):
  PE X (.Call (.Name "sorted" p) [e] [(some (bh "key"),.Lambda params (.Subscript (.Name x p1) (.Constant (.int 0) j p2) p3) scope T.pos,kp,)] pos) (wC X.K T te):=by
 intro a9 b9 σ H c0 I a0;refine fO (jA (u:=.builtin "sorted") I hg hm (by decide+kernel) ?_);refine callWith_kw (thn (gQ he j9 hs pos a9 b9 σ H _ I a0) λus f ⟨i,g,a,b7,c1,ys,ks,ev,sq,w,L,F,tb,q⟩=>?_) (by rw[hs];rfl) (by rw[hs];rfl);subst ev;obtain⟨u,rfl,rx⟩:=vals1 b7;cases rx;obtain⟨v,ob,Q,R,P,s,S,U,V⟩:=hb;have E:f.heap.Ns bY X.mg:=a.mod.glob.keeps a.bk;have a1:v≠T.P:=λz=>by have n:=(a.bs _ _ s).2;rw[z]at n;rcases tb with t|⟨_,_,_,_,_,t,_⟩<;>(rw[t]at n;cases n)
 have a3:bY≠T.P:=λz=>by obtain⟨o,es,ep,g1,g2,_⟩:=a.mod.glob;have n:=(a.bs _ _ g1).2;rw[z]at n;rcases tb with t|⟨_,_,_,_,_,t,_⟩<;>(rw[t]at n;cases n)
 have y:f.heap.BuiltinsAt X.mg T.P:=(v,ob,Q,R,P,a1,a.bk _ _ s,S,U,V,);refine kws_cons (kla_eval O.df ?_);rw[hq];rcases tb with t|⟨d,h,u,i,tk,t,a2,k,a6⟩
 .refine kla_makeFunction (mg:=X.mg) O.cl a.ok.glob E B (A.keeps a.bk) (ps:= #[]) (a.hok _ _ t) True.intro rfl a3 y λd m h' tk hx D c3 a4 a5=>kws_nil ?_;obtain⟨c2,h,i,M,Z,k,C,K⟩:=a4;cases Z;have a7:∀b o,b≠T.P->f.heap.get? b<*o->(h'.push (kla_obj "<lambda>" T.q params (.Subscript (.Name x p1) (.Constant (.int 0) j p2) p3) scope [] ((X.mg "__name__").getD .none) d m)).get? b<*o:=λb o n e=>af _ (hx b o n e);obtain⟨un,ok⟩:=un_tab (fs:=frs X.stack) a.hok a7 t D (af _ a5) (af _ k);have l:=a.call (g':=f.gens) (t':=tk) (d':=f.drawn) un ok a.bare (λb z=>absurd z 'F');have N:Tab T g:=.inl t;have gr:Gr T g (upd (upd g d (.frz h (.ext λ_=>True))) T.P (.tbl (#[]++ #[rawInt T.pos.line,rawInt T.pos.col,aN d]))):=by
   have G:g d=none:=a.hok.fresh D;refine(λb o n e=>by rw[bj n,bj (cA e G)];exact e,λ_=>.inr (d,h,.ext λ_=>True,i,M,?_,?_,C,K,),);·rw[aD];simp
   .rw[bj (bI (cA t G)),aD]
  exact yU O l (az _ rfl) (d,h,i,M,rfl,af _ k,C,K,) J (gr.seq N sq) w L (Paired.uf F λc6 c5 ⟨b,b8,W,Y⟩=>(b,b8,W,gr.Ew N Y,)) (q _ · gr)
 .refine kla_makeFunctionHit (mg:=X.mg) O.cl a.ok.glob E B (A.keeps a.bk) (a.hok _ _ t) (by simp[TriplesOk,rawInt]) (cv:=.ref d) (by simp[codeAmong,rawInt]) y λm h' tk r c4=>kws_nil ?_;have l:=a.call (H':=g) (h':=h'.push (kla_obj "<lambda>" T.q params (.Subscript (.Name x p1) (.Constant (.int 0) j p2) p3) scope [] ((X.mg "__name__").getD .none) d m)) (g':=f.gens) (t':=tk) (d':=f.drawn) (ch:=[])
   (Un.kept λb o e=>af _ (r b o e)) (a.hok.kept λb o e=>af _ (r b o e)) a.bare (λb z=>absurd z 'F')
  exact yU O l (az _ rfl) (d,h,i,_,rfl,af _ (r _ _ (a.hok _ _ a2).1),k,a6,) J sq w L F λa8 hl=>q g a8 (Gr.refl _ _) hl
end
end Lm
namespace Lm
open PySem.W L2 Q R
abbrev r9(lx:Str)(p:Pos):Arguments:={posonlyargs:=[],args:=[(lx,none,p,)],vararg:=none,kwonlyargs:=[],kw_defaults:=[],kwarg:=none,defaults:=[]}
abbrev isArg(lx:Str):List Arg->Bool
 |x::r=>r.isEmpty&&(x.annotation.isNone&&x.arg==lx)
 | []=>false
abbrev zk(lx:Str)(a:Arguments):Bool:=a.posonlyargs.isEmpty&&(a.vararg.isNone&&(a.kwonlyargs.isEmpty&&(a.kw_defaults.isEmpty&&(a.kwarg.isNone&&(a.defaults.isEmpty&&isArg lx a.args)))))
def kB{a b:Bool}(h:(a&&b)=true):a=true/\b=true:=by rwa [aB]at h
def emp{a:Type}{l:List a}(h:l.isEmpty=true):l=[]:=List.isEmpty_iff.mp h
def non{a:Type}{l:Option a}(h:l.isNone=true):l=none:=iU.mp h
def Ff{lx:Str}{a:Arguments}(h:zk lx a=true):∃p,a=r9 lx p:=by
 obtain⟨s,b,t,o,n,q,c⟩:=a;obtain⟨d,h⟩:=kB h;obtain⟨e,h⟩:=kB h;obtain⟨f,h⟩:=kB h;obtain⟨g,h⟩:=kB h;obtain⟨i,h⟩:=kB h;obtain⟨j,h⟩:=kB h;cases b with
 |nil=>exact(aq h).elim
 |cons x r=>obtain⟨k,h⟩:=kB h;obtain⟨l,m⟩:=kB h;obtain⟨y,an,p⟩:=x;exact⟨p,by rw[(emp d:s=[]),(non e:t=none),(emp f:o=[]),(emp g:n=[]),(non i:q=none),(emp j:c=[]),(emp k:r=[]),(non l:an=none),(eq_of_beq m:y=lx)];rfl⟩
abbrev qV(lx:Str)(sc:Scope):Bool:=decide (sc.names=[(lx,.local)])&&(decide (sc.kind=.function)&&(decide (sc.isCoroutine=false)&&(decide (sc.isGenerator=false)&&(lx==("__debug__":Str))==false)))
abbrev isNm(lx:Str):Expr->Bool
 |.Name x _=>x==lx
 |_=>false
def G4{lx:Str}(h:isNm lx e=true):∃p,e=.Name lx p:=by
 cases e with
 |Name x p=>cases eq_of_beq h;exact(p,rfl,)
 |_=>exact(aq h).elim
abbrev isZero:Expr->Bool
 |.Constant c _ _=>decide (c=.int 0)
 |_=>false
def IL(h:isZero e=true):∃j p,e=.Constant (.int 0) j p:=by
 cases e with
 |Constant c j p=>cases W0 h;exact(j,p,rfl,)
 |_=>exact(aq h).elim
abbrev G5(lx:Str):Expr->Bool
 |.Subscript a b _=>isNm lx a&&isZero b
 |_=>false
def Fi{lx:Str}(h:G5 lx e=true):∃p1 j p2 p3,e=.Subscript (.Name lx p1) (.Constant (.int 0) j p2) p3:=by
 cases e with
 |Subscript a b p=>obtain⟨c,d⟩:=kB h;obtain⟨p1,rfl⟩:=G4 c;obtain⟨j,p2,rfl⟩:=IL d;exact(_,_,_,_,rfl,)
 |_=>exact(aq h).elim
abbrev FJ(lx:Str)(pos:Pos):Expr->Bool
 |.Lambda params body scope lp=>decide (lp=pos)&&(zk lx params&&(qV lx scope&&G5 lx body))
 |_=>false
def Je{lx:Str}(h:FJ lx pos e=true):∃a scope p1 j p2 p3,e=.Lambda (r9 lx a) (.Subscript (.Name lx p1) (.Constant (.int 0) j p2) p3) scope pos/\qV lx scope=true:=by
 cases e with
 |Lambda params body scope lp=>obtain⟨b,h⟩:=kB h;obtain⟨c,h⟩:=kB h;obtain⟨d,f⟩:=kB h;cases W0 b;obtain⟨a,rfl⟩:=Ff c;obtain⟨p1,j,p2,p3,rfl⟩:=Fi f;exact(_,_,_,_,_,_,rfl,d,)
 |_=>exact(aq h).elim
abbrev Nn(lx:Str)(pos:Pos):List Keyword->Bool
 |k::r=>r.isEmpty&&(decide (k.arg<*(bh "key"))&&FJ lx pos k.value)
 | []=>false
abbrev xW(sc:Scope)(N:List Str)(a:CE)(lx:Str)(pos:Pos):Expr->Bool
 |.Call f es ks _=>isNm "sorted" f&&(lK sc "sorted"&&(m8 sc N (.cons a .nil) es&&Nn lx pos ks))
 |_=>false
abbrev Nl(sc:Scope)(N:List Str)(i:Nat):List Expr->Bool
 |g::r=>r.isEmpty&&xV sc N true (.name i) g
 | []=>false
abbrev FK(sc:Scope)(N:List Str)(i:Nat)(a:CE)(lx:Str)(pos:Pos):Stmt->Bool
 |.Assign ts v _=>Nl sc N i ts&&xW sc N a lx pos v
 |_=>false
def asg_of{a:CE}{lx:Str}{s:Stmt}(h:FK sc N i a lx pos s=true):∃ts v p,s=.Assign ts v p/\Nl sc N i ts=true/\xW sc N a lx pos v=true:=by
 cases s<;>first |exact dD h|skip
 obtain⟨b,c⟩:=kB h;exact(_,_,_,rfl,b,c,)
def tg_of{a:List Expr}(h:Nl sc N i a=true):∃g,a=[g]/\xV sc N true (.name i) g=true:=by
 cases a with
 |nil=>exact dD h
 |cons g r=>obtain⟨b,c⟩:=kB h;cases emp b;exact(g,rfl,c,)
def Nt{b:CE}{lx:Str}{v:Expr}(h:xW sc N b lx pos v=true):∃f es ks c,v=.Call f es ks c/\isNm "sorted" f=true/\lK sc "sorted"=true/\m8 sc N (.cons b .nil) es=true/\Nn lx pos ks=true:=by
 cases v<;>first |exact dD h|skip
 obtain⟨d,a⟩:=kB h;obtain⟨e,a⟩:=kB a;obtain⟨g,i⟩:=kB a;exact(_,_,_,_,rfl,d,e,g,i,)
def kw_of{lx:Str}{ks:List Keyword}(h:Nn lx pos ks=true):∃kv kp,ks=[(some (bh "key"),kv,kp,)]/\FJ lx pos kv=true:=by
 cases ks with
 |nil=>exact dD h
 |cons k ks=>obtain⟨a,b⟩:=kB h;obtain⟨c,d⟩:=kB b;cases emp a;obtain⟨e,kv,kp⟩:=k;cases W0 c;exact(_,_,rfl,d,)
def AsgO(sc:Scope)(N:List Str)(i:Nat)(a:CE)(lx:Str)(pos:Pos)(s:Stmt):Prop:=∃g e c scope p1 j p2 p3 p kp b sp,s=.Assign [g] (.Call (.Name "sorted" p) [e] [(some (bh "key"),.Lambda (r9 lx c) (.Subscript (.Name lx p1) (.Constant (.int 0) j p2) p3) scope pos,kp,)] b) sp/\
  xV sc N true (.name i) g=true/\lK sc "sorted"=true/\eB sc N a e=true/\qV lx scope=true
def Jf{a:CE}{lx:Str}{s:Stmt}(h:FK sc N i a lx pos s=true):AsgO sc N i a lx pos s:=by obtain⟨I,v,H,rfl,c,m⟩:=asg_of h;obtain⟨g,rfl,n⟩:=tg_of c;obtain⟨f,x,z,w,rfl,o,q,r,t⟩:=Nt m;obtain⟨p,rfl⟩:=G4 o;obtain⟨e,F,rfl,u,d⟩:=k6 r;cases m7 d;obtain⟨A,y,rfl,k⟩:=kw_of t;obtain⟨E,G,B,j,C,D,b,l⟩:=Je k;cases b;exact(_,_,_,_,_,_,_,_,_,_,_,_,rfl,n,q,u,l,)
abbrev chkK(sc:Scope)(N:List Str)(a:CS)(i:Nat)(c:CE)(lx:Str)(pos:Pos)(b:CB):List Stmt->Bool
 |s1::r=>chkS sc N a s1&&rst r
 | []=>false
where rst:List Stmt->Bool
 |s2::rest=>FK sc N i c lx pos s2&&rh sc N b rest
 | []=>false
section
variable {mg:Str->Option Value}
def MR{st:Stmt}{q:fP}{ps:List Str}{sp:Sp}{l:CS}{n:CE}{lx:Str}{m:CB}{T:Tb}(F:Fun K x qual st f q)(Y:qg N ps (aZ st)=true)
  (b:chkK (aZ st) N l i n lx T.pos m (bB st)=true)(W:q.code=.ref c)(O:CodeHd base c T.P)(hq:qual++".<locals>."++"<lambda>"=T.q)(U:BM mg base)
  (V:∀(p:Pos)(j:Expr)(scope:Scope)(qual:Str)(pm cb v:Value)(c':Addr),rC (kla_fn "<lambda>" qual (r9 lx p) j scope [] pm (.ref c') cb) ([v],[],)=pure [(lx,v)])
  (g:GOk P w K mg base (CXx P w) k G)(len:∀vs H Q E,sp vs H Q E->vs.length=ps.length)
  (h:∀vs H Q E,sp vs H Q E->yv (wpS G K (λ_=>E) l) (yv (Ag (wC K T (wpE G K (λ_=>E) n)) (oa i)) (wpB G K (λ_=>E) m)) {nx:=λ_ H'=>Q .non H',rt:=Q} (start N vs) H):jV P w K mg base (CXx P w) (k+1) f q ps sp:=by
 have S:=CY Y;obtain⟨oc,od,kV,a1,pm,an,C,ct,a3,rfl,lk,X⟩:=F.ex;have D:C=.ref c:=W;subst D;refine fn_of lk X S len λa0 outer a4 H vs Q E u Z=>?_;have o:=LP (outer:=outer) (E:=E) (H:=H) S g u;refine(_,?_,h vs H Q E Z,);generalize hB:bB st=j at b;cases j with
 |nil=>exact(aq b).elim
 |cons s1 r=>
  obtain⟨I,b⟩:=kB b;cases r with
  |nil=>exact(aq b).elim
  |cons s2 rest=>
  obtain⟨J,L⟩:=kB b;obtain⟨g',e,pa,scope,p1,a2,p2,p3,p,kp,cp,a5,rfl,s,M,t,a⟩:=Jf J;obtain⟨d,a⟩:=kB a;obtain⟨y,a⟩:=kB a;obtain⟨A,a⟩:=kB a;obtain⟨B,n5⟩:=kB a;rw[decide_eq_true_eq]at d y A B;have R:=tR (CX:=CXx P w) (λ_ _ _ _ _ z=>IZ z) (.name i) _ o s;refine rQ (Kx (λ_ _ _ _ _ z=>IZ z) l s1 o (λ_ _ _ _ _=>S.kind) I) (rQ ?_ (oU (λ_ _ _ _ _ z=>IZ z) m rest o (λ_ _ _ _ _=>S.kind) L));refine EN (Lu (c:=c) (T:=T) (bW (λ_ _ _ _ _ z=>IZ z) n e o t) (cC t [] _) (o.gl M) (g.blt _ (by decide+kernel)) rfl O hq U ?_ ?_) R (C3 rfl _ _ _) (w9 s (dS _) _) (by rw[rV s];rfl)
  .refine(?_,rfl,λqual pm cb v c'=>V pa _ _ qual pm cb v c',by rw[d];simp,↥n5,y,?_,A,B,);·unfold JG;rw[d];rfl
   .rw[d];intro z hz;have :z=(lx,eZ.local):=by simpa using hz
    rw[this];exact λz=>by cases z
  .exact u.depth
end
abbrev lA(K:ak)(tabs:List Addr)(a:Addr)(vs:List Value)(ns:List Int):Hp:=λb=>
 if b∈tabs then some (.tbl #[])else if b=a/\K.lookup a=none then some (.frz {cls:=.type "list",data:=.seq vs.toArray} (.lst (ns.map V.int)))else none
def IH{CX:CXT}{D:fP}{sp:Sp}{c:Shared}(B:K.In c.heap)
  (J:c.heap.Ns bY mg)(f:c.heap.Ns oK mb)(a0:∀x:Str,x≠"__name__"->mb x=gB x)(a2:c.heap.NoLimit)(hg:c.gens= #[])(j:c.heap.get? a<*{cls:=.type "list",data:=.seq vs.toArray})
  (hi:cM vs ns) (I:ns.length<=sizeLine) (hr:jG k Hu) (t:∀p∈tabs,c.heap.get? p<*(tabObj #[])/\isCodeTable c.heap p/\K.lookup p=none)
  (F:∀base:Heap,K.In base->base.Ns bY mg->(∀b o,c.heap.get? b<*o->o.cls≠.none->o.cls≠.type "list"->base.get? b<*o)->jV P w K mg base CX k fa D [x] sp)
  (a1:∀(s:Shared)(u:Value),BindsTo s D ([u],[],) [(x,u)])
  (a4:∀H:Hp,(∀p∈tabs,H p<*(.tbl #[]))->SqL K H a (ns.map V.int)->sp [.ref a] H (λv _=>v=.bl true) λ_ _ _=>False) (W:∀H e s',CX [] H c (λ_ _ _=>False) e s'->False):
  gA (model P w) Hu (.call (.ref fa) ([.ref a],[],)) (λr s'=>r=.ok (.ret (.bool true))/\OldK c.heap s'.heap/\s'.os=c.os/\qb s'.gens) c:=by
 have M:=tM hi;have a5:=hi.length;have y:∀b,(b∈tabs/\lA K tabs a vs ns b<*(.tbl #[]))\/(b=a/\K.lookup a=none/\lA K tabs a vs ns b<*(.frz {cls:=.type "list",data:=.seq vs.toArray} (.lst (ns.map V.int))))\/lA K tabs a vs ns b=none:=λb=>by
  unfold lA;by_cases i:b∈tabs;·exact .inl (i,if_pos i,)
  .rw[if_neg i];by_cases g:b=a/\K.lookup a=none;·exact .inr (.inl (g.1,g.2,if_pos g,))
   .exact .inr (.inr (if_neg g))
 have N:∀p∈tabs,lA K tabs a vs ns p<*(.tbl #[]):=λp hp=>if_pos hp;have Z:a∉tabs:=λz=>by have :=(t a z).1;rw[j]at this;cases this
 --what is neither a table nor a list is not tracked
 have O:∀{b:Addr}{o:Obj},c.heap.get? b<*o->o.cls≠.none\/(∃n l,o.data=.dict n l)->o.cls≠.type "list"\/(∃n l,o.data=.dict n l)->lA K tabs a vs ns b=none:=λ{b o} e i g=>by
  rcases y b with⟨q,_⟩ |⟨rfl,_⟩ |q
  .have :=(t b q).1;rw[e]at this;cases this;rcases i with z|⟨_,_,z⟩;·exact absurd rfl z
   .cases z
  .rw[j]at e;cases e;rcases g with z|⟨_,_,z⟩;·exact absurd rfl z
   .cases z
  .exact q
 have A:∀{b:Addr}{m:Str->Option Value},c.heap.Ns b m->(Dm c.heap (lA K tabs a vs ns)).Ns b m:=λ{b m} ⟨o,n,l,e,d,r⟩=>(o,n,l,xD e (O e (.inr (_,_,d,)) (.inr (_,_,d,))),d,r,);have G:K.In (Dm c.heap (lA K tabs a vs ns)):=λb o e=>xD (B b o e) (by
  rcases y b with⟨q,_⟩ |⟨rfl,z,_⟩ |q;·rw[(t b q).2.2]at e;cases e
  .rw[z]at e;cases e
  .exact q)
 have a3:HOk P w (lA K tabs a vs ns) c.heap:=λb o e=>by
  rcases y b with⟨q,z⟩ |⟨rfl,_,z⟩ |z;·rw[z]at e;cases e;exact(t b q).1
  .rw[z]at e;cases e;exact(j,by rw[ao];exact I,vs,_,M,j,)
  .rw[z]at e;cases e
 have Y:SqL K (lA K tabs a vs ns) a (ns.map V.int):=by
  cases hk:K.lookup a with
  |none=>refine .inl (.inr ({cls:=.type "list",data:=.seq vs.toArray},?_,));unfold lA;rw[if_neg Z,if_pos (rfl,hk,)]
  |some o=>have e:=B a o hk;rw[j]at e;cases e;exact .inr (_,vs.toArray,_,hk,rfl,rfl,rfl,by rw[aE,a5];exact I,↥M,)
 have X:Mod K mg (Dm c.heap (lA K tabs a vs ns)):=(G,A J,(mb,A f,a0,),let⟨mc,i,g⟩:=a2;(mc,A i,g,),);have S:FY P w K mg (Dm c.heap (lA K tabs a vs ns)) Hu [] c (lA K tabs a vs ns):=(rfl,X,λb o e=>of_hidT e,qd (IU _ _),trivial,λb f=>absurd (show b∈([]:List Addr)from f) 'F',a3,.of_eq hg,);have U:=F _ G (A J) λb o e i g=>xD e (O e (.inl i) (.inl g));refine ip (U.run Hu [] c (lA K tabs a vs ns) ([.ref a],[],) [.ref a] [.ref a] _ _ hr S (a1 c (.ref a)) (.cons rfl .nil) (a4 _ N Y)) λr s' h=>?_;cases r with
 |error e=>exact(W _ e s' h).elim
 |ok fl=>
  cases fl with
  |next =>exact iG h
  |brk=>exact iG h
  |cont=>exact iG h
  |ret u=>
   obtain⟨v,H',os,Q,un,L,r',q⟩:=h;have q':v=.bl true:=q;subst q';obtain rfl:u=BN true:=r';have kept:∀b o,c.heap.get? b<*o->b∉tabs->s'.heap.get? b<*o:=λb o e nt=>by
    rcases y b with⟨z,_⟩ |⟨rfl,_,z⟩ |z;·exact absurd z nt
    .have z2:=un.frzs b _ _ z;obtain⟨T,_⟩:=L b _ z2;rw[j]at e;cases e;exact T
    .exact un.keep b o e z (by intro z;exact absurd (show b∈([]:List Addr)from z) 'F') 'F'
   have E:∀b∈tabs,∃more,s'.heap.get? b<*(tabObj (#[]++more)):=λb f=>by obtain⟨more,z⟩:=un.tbls b _ (N b f);exact(more,L b _ z,)
   refine(rfl,(λb o e=>?_,λb o e=>?_,),os,Q,)
   .by_cases f:b∈tabs;·obtain⟨C,R,_⟩:=t b f;rw[e]at C;cases C;obtain⟨more,z⟩:=E b f;exact .inr (.inl (R,rfl,#[],more,rfl,z,))
    .exact .inl (kept b o e f)
   .by_cases f:b∈tabs;·obtain⟨more,z⟩:=E b f;exact(_,z,)
    .exact(o,kept b o e f,)
def bm_of(l:h.Ns bY mg)(j:∃bm a,mg "__builtins__"<*(.ref bm)/\bm≠oK/\h.get? bm<*a/\a.cls=.type "module"/\a.dict<*oK/\a.data=.plain):BM mg h:=by obtain⟨bm,a,d,f,b,g,i,c⟩:=j;refine(bm,a,d,f,λq=>?_,b,g,i,c,);obtain⟨o,n,m,e,k,_⟩:=l;rw[q,e]at b;cases b;rw[k]at c;cases c
def J4{l:PySem.W.OpenLaw}{q:Program}{XP:(Str->Option Value)->Heap->Prop}{YP:World->Heap->Prop}{d:DefRec}{K:Params->ak}{CX:CXT}{sp:ak->Sp}
  (Q:l.most<*n)(R:n<=sizeLine)(M:d.params.defaults=[])(U:jG k Hu)(I:∀(w:World)(h:Heap),YP w h->(K w.params).In h)
  (E:∀(w:World)(c:Shared)(mg mb:Str->Option Value)(h:Heap),Ground q loose [] XP w c mg mb h->YP w h->∀p∈tabs,h.get? p<*(tabObj #[])/\isCodeTable h p/\(K w.params).lookup p=none)
  (F:∀(w:World)(mg:Str->Option Value)(fa:Addr)(h:Heap),(K w.params).In h->h.Ns bY mg->mg d.name<*(.ref fa)->
   ∃fd:fP,(∀(s:Shared)(u:Value),BindsTo s fd ([u],[],) [(x,u)])/\
    ∀base:Heap,(K w.params).In base->base.Ns bY mg->BM mg base->jV l.prog w (K w.params) mg base CX k fa fd [x] (sp (K w.params)))
  (W:∀(K:ak)(H:Hp)(a:Addr)(ns:List Int),ns.length<=n->(∀p∈tabs,H p<*(.tbl #[]))->SqL K H a (ns.map V.int)->sp K [.ref a] H (λv _=>v=.bl true) λ_ _ _=>False)
  (C:∀(H:Hp)(s:Shared)(e:Value)(s':Shared),CX [] H s (λ_ _ _=>False) e s'->False):
  PySem.W.WalkO q loose XP YP l.row.toRowW d [] (λf vs=>PySem.call f vs):=by
 refine Att.DQ Q M λw c a0 mg mb fa a3 pm cd a1 a vs ns G Y ho hd a2 P T O j N=>?_;have g:=I w _ Y;obtain⟨fd,J,D⟩:=F w mg fa _ g G.T.g P;have L:=bm_of G.T.g G.T.bmain;refine IH g G.T.g G.T.b G.T.builtins G.T.nolimit N T O (aT j R) U (E w c mg mb _ G Y) (λbase X Z k3=>D base X Z ?_) J (λH t S=>W _ H a ns j t S) λH e s'=>C H a0 e s';obtain⟨i,m,r,y,o,z,b,A,B⟩:=L;exact(i,m,r,y,o,k3 i m z (by rw[b];nofun) (by rw[b];decide),b,A,B,)
end Lm
namespace Cp
open L2 R Lm
abbrev rS:List Str:=["table"]
abbrev kH:List Str:=["table","ordered"]
abbrev mG:CS:=.expr (.call "need_table" (.cons (.var 0) .nil))
abbrev mF:CB:=.cons (.ret (.comp ["name","readings"] [] (.tup (.cons (.name 0) (.cons (.name 1) .nil))) (.seq (.var 1)) .no (.tup (.cons (.var 0) (.cons (.bfn .tuple (.cons (.bfn .list (.cons (.var 1) .nil)) .nil)) .nil))))) .nil
def _root_.Lm.Gr.free{T:Tb}(g:Gr T H H')(t:Tab T H)(h:H' l=none):H l=none:=by
 cases e:H l with
 |none=>rfl
 |some o=>
  by_cases n:l=T.P
  .rcases g.tab t with z|⟨_,_,_,_,_,z,_⟩;·rw[n,z]at h;cases h
   .rw[n,z]at h;cases h
  .rw[g.keep l o n e]at h;cases h
abbrev srt(H:Hp):V->List V
 |.ref a=>match eV (H a)with
  |some ys=>_root_.Q.sortBy .non (ys.map (bp H)) ys
  |none=>[]
 |_=>[]
def Copied(H H':Hp)(us zs:List V):Prop:=zs.length=us.length/\∀(i:Nat) z,zs[i]?<*z->∃b r,z=.ref b/\H' b<*(.tup [.str (bp H (us.getD i .non)),.ref r])/\H' r<*(.tup (tW H (us.getD i .non)))
def Am(C:Addr)(T:Tb):Sp:=λvs H Q E=>∃x,vs=[x]/\Kn4 H x/\Tab T H/\(dX H x=true->∀H' l zs,Gr T H H'->H l=none->H' l<*(.lst zs)->Copied H H' (srt H x) zs->Q (.ref l) H')/\(dX H x=false->∀H',aO H H'->E (.ref C) none H')
theorem tk_of(s:aO H H'):∀{xs:List V},(∀y∈xs,dE H y=true)->_root_.Q.sY H' xs (xs.map (bp H))
 | [],_=>.nil
 |y::xs,h=>by obtain⟨a,b,e,c,_⟩:=lZ (h y (.head _));exact .cons (a,_,e,s _ _ c,) (tk_of s λz d=>h z (.tail _ d))
def yn{T:Tb}(S:G.fn "need_table" 1<*(Ak C,[])):
  ∀vs H Q E,Am C T vs H Q E->yv (R.wpS G K (λ_=>E) mG) (yv (Ag (wC K T (wpE G K (λ_=>E) (.var 0))) (oa 1)) (wpB G K (λ_=>E) mF)) {nx:=λ_ H'=>Q .non H',rt:=Q} (L2.start kH vs) H:=by
 rintro vs H Q E ⟨x,rfl,X,tb,q1,q2⟩;unfold mG mF;change yv _ _ _ [some x,none] H;unfold wC;ext;refine(_,_,S,x,rfl,X,λe M k=>?_,q2,);obtain⟨a,d,rfl,A,U,B,D,h5⟩:=fk e;have a4:Tab T M:=(Gr.of k).tab tb;refine(a,d,d.map (bp H),rfl,k.seq (m4 A),by rw[ao];lia,D,tk_of k B,a4,λm l gr Y=>?_,);have N:srt H (.ref a)=_root_.Q.sortBy V.non (d.map (bp H)) d:=by show(match eV (H a)with |some d=>_root_.Q.sortBy V.non (d.map (bp H)) d|none=>[])=_;rw[A]
 have w:(_root_.Q.sortBy V.non (d.map (bp H)) d).Perm d:=_root_.Q.gf V.non D 'F';have o:=q1 e;rw[N]at o;generalize _root_.Q.sortBy V.non (d.map (bp H)) d=us at w o⊢;have j:Gr T H (upd m l (.lst us)):=(Gr.of k).trans (gr.trans (Gr.of (aL Y)));have n:upd m l (.lst us) l<*(.lst us):=aD;generalize upd m l (.lst us)=H3 at j n⊢;have a0:us.length<=40:=by rw[w.length_eq];exact U
 refine dY (dF rfl (SqL.of n) (eT eS (aT a0 'E') (λf g=>SqL.of (g _ _ n)) (λi v H'=>∃b r,v=V.ref b/\H' b<*(.tup [.str (bp H (us.getD i .non)),.ref r])/\H' r<*(.tup (tW H (us.getD i .non))))
  (λi v f H5 h ⟨b,r,p,q,s⟩=>(b,r,p,h _ _ q,h _ _ s,)) (λL=>∃t u,L=[t,u]) (none,none,rfl,) ?_ ?_))
 .rintro a6 y L f R hi ⟨t,u,rfl⟩ g J a2;have hm:y∈d:=w.mem_iff.mp (aH J);obtain⟨b,c,rfl,k1,k2,k3,k4⟩:=lZ (B y hm);have O:=g _ _ (j.Ew tb k1);have P:=g _ _ (j.Ew tb k2);refine(b,_,rfl,SqT.of O,rfl,_,_,rfl,_,_,rfl,rfl,?_,);ext;refine⟨c,_,rfl,.inr (SqT.of P),λl1 Z=>⟨l1,_,rfl,.inl ⟨SqL.of aD,λr hr=>(aT (by simp :_<=2) 'E',λa3 I=>a2 _ _ _ (_,_,rfl,) ((aL Z).trans ((aL hr).trans (aL I))) ?_,)⟩⟩⟩;rw[getD_some J];exact⟨a3,r,rfl,aD,by rw[bj (cA aD I)];exact aD⟩
 .intro vs f l2 a1 W g F;have z:Gr T H f:=j.trans (Gr.of g);have h:aO f (upd f l2 (.lst vs)):=aL F;refine o _ l2 vs (z.trans (Gr.of h)) (z.free tb F) aD (a1,λi a5 hz=>?_,);obtain⟨b,r,p,q,s⟩:=W i a5 hz;exact(b,r,p,h _ _ q,h _ _ s,)
end Cp
namespace K22
open R
abbrev p_clash:List Str:=["table"]
abbrev GR:List Str:=["table","copies","count","one","other","names"]
abbrev zI:CB:=
  (.cons (.ret (.con .none))
  .nil)
abbrev zJ:CB:=
  (.cons (.forr (.name 3) (.range1 (.var 2))
  (.cons (.forr (.name 4) (.range2 (.bin .Add (.var 3) (.con (.int 1))) (.var 2))
  (.cons (.asg (.name 5) (.call "first_of_kinds" (.cons (.var 1) (.cons (.var 3) (.cons (.var 4) .nil)))))
  (.cons (.iff (.cmp .IsNot (.var 5) (.con .none))
  (.cons (.ret (.tup (.cons (.var 3) (.cons (.var 4) (.cons (.var 5) .nil)))))
  .nil)
  .nil)
  .nil)))
  .nil))
  zI)
abbrev zK:CB:=
  (.cons (.asg (.name 2) (.call "place_count" (.cons (.var 1) .nil)))
  zJ)
abbrev Ho:CB:=
  (.cons (.asg (.name 1) (.call "table_list" (.cons (.var 0) .nil)))
  zK)
end K22
namespace K22
open L2 R Cp Lt Kc K21 Lm
abbrev cd(H:Hp)(y:V):Str×List V:=(bp H y,tW H y)
abbrev numD(i:Int)(p:Str×List V):Int:=match p.2.getD i.toNat .non with
 |.int n=>n
 |_=>0
abbrev isK(i j:Int)(k:Int×Int)(p:Str×List V):Bool:=decide (numD i p=k.1/\numD j p=k.2)
abbrev qm(rows:List (Str×List V))(i j:Int):Bool:=KP.all λk=>rows.any (isK i j k)
abbrev uU(rows:List (Str×List V))(i j:Int)(k:Int×Int):Str:=((rows.find? (isK i j k)).map (·.1)).getD ""
def Ha{i j:Int}:mj H xs i j=qm (xs.map (cd H)) i j:=by unfold mj qm;congr 1;funext k;rw[Hz];rfl
def LW{i j:Int}(h:mj H xs i j=true):KP.map (firstOf H xs i j)=(KP.map (uU (xs.map (cd H)) i j)).map V.str:=by
 rw[bF];refine cN λk d=>?_;have c:xs.any (λy=>decide (num H i y=k.1/\num H j y=k.2))=true:=by unfold mj at h;exact bx.mp h k d
 have b:(λy=>decide (kf H i j y=qU k))=(isK i j k)∘(cd H):=by
  funext y
  exact decide_eq_decide.mpr kf_eq
 show firstOf H xs i j k=V.str (uU (xs.map (cd H)) i j k);unfold firstOf uU;rw[b,List.find?_map];obtain⟨f,e,a⟩:=cz.mp c;cases hf:xs.find? ((isK i j k)∘(cd H))with
 |none=>rw[jv]at hf;exact absurd a (hf f e)
 |some y=>rfl
structure NI(rows:List (Str×List V))(n i j:Nat):Prop where
 ij:i<j
 jn:j<n
 four:qm rows i j=true
 no:∀a b:Nat,a<b->b<n->(a<i\/a=i/\b<j)->qm rows a b=false
def NoC(rows:List (Str×List V))(n:Nat):Prop:=∀a b:Nat,a<b->b<n->qm rows a b=false
def Res(H:Hp)(rows:List (Str×List V))(n:Nat)(v:V):Prop:=(v=.non/\NoC rows n)\/∃(i j:Nat)(a l:Addr),v=.ref a/\NI rows n i j/\H a<*(.tup [.int i,.int j,.ref l])/\H l<*(.tup ((KP.map (uU rows i j)).map V.str))
abbrev rowsOf(H:Hp)(x:V):List (Str×List V):=(srt H x).map (cd H)
def tV{r:Addr}(a:H b<*(.tup [.str z,.ref r]))(e:H r<*(.tup zs)):cd H (.ref b)=(z,zs):=by
 have c:bp H (.ref b)=z:=by show(match eO (H b)with |some (.str z::_)=>z|_=>("":Str))=_;rw[a];rfl
 have d:tW H (.ref b)=zs:=by show(match eO (H b)with |some [_,.ref b]=>(eO (H b)).getD [] |_=>[])=zs;rw[a];show(eO (H r)).getD []=zs;rw[e];rfl
 unfold cd;rw[c,d]
def rN{t:Addr}(h:eV (H t)<*ys):srt H (.ref t)=_root_.Q.sortBy .non (ys.map (bp H)) ys:=by show(match eV (H t)with |some ys=>_root_.Q.sortBy V.non (ys.map (bp H)) ys|none=>[])=_;rw[h]
def IA{x:V}(h:dE H x=true):gL (bp H x)=true:=by obtain⟨_,_,_,_,_,_,_,a,_,_,b,_⟩:=i4 h;rw[b];exact a
def xR{x:V}(e:dX H x=true)(h:H' l<*(.lst zs))(c:Copied H H' (srt H x) zs):
  Kn4 H' (.ref l)/\dX H' (.ref l)=true/\count H' (.ref l)=count H x/\zs.map (cd H')=rowsOf H x:=by
 obtain⟨a,n,rfl,s,T,E,F,G⟩:=fk e;have Q:=rN s;have d:(srt H (.ref a)).Perm n:=by rw[Q];exact _root_.Q.gf V.non F 'F'
 unfold rowsOf;generalize srt H (.ref a)=us at c d⊢;have Z:us.length<=40:=by rw[d.length_eq];exact T
 have K:∀u∈us,dE H u=true/\cV H u=count H (.ref a):=λu I=>(E u (d.mem_iff.mp I),G u (d.mem_iff.mp I),);have nd:(us.map (bp H)).Nodup:=(d.map (bp H)).nodup_iff.mpr F;have get:∀{i:Nat}{z:V},zs[i]?<*z->us[i]?<*(us.getD i .non)/\us.getD i .non∈us:=λ{i z} f=>by
  have hi:i<us.length:=by have :=(av.mp f).1;rw[<-c.1];exact this
  have e:us[i]?<*(us.getD i .non):=by rw[ah,ae hi];rfl
  exact(e,aH e,)
 let nf:Nat->Str:=λi=>if i<us.length then bp H (us.getD i .non)else "a"
 have J:∀i,gL (nf i)=true:=λi=>by
  show gL (if i<us.length then bp H (us.getD i .non)else "a")=true;split
  .rename_i hi;have e:us[i]?<*(us.getD i .non):=by rw[ah,ae hi];rfl
   exact IA (K _ (aH e)).1
  .decide+kernel
 have dr:Dr H' nf (count H (.ref a)) zs:=λi z f=>by obtain⟨b,r,X,t,v⟩:=c.2 i z f;obtain⟨R,S⟩:=get f;have hi:i<us.length:=(av.mp R).1;obtain⟨N,O⟩:=K _ S;obtain⟨_,_,_,_,_,k3,k4⟩:=lZ N;refine(b,r,_,X,?_,v,by rw[k3,O],k4,);show H' b<*(.tup [.str (if i<us.length then bp H (us.getD i .non)else "a"),.ref r]);rw[if_pos hi];exact t
 have hn60:n=[]\/count H (.ref a)<=60:=by
  cases n with
  |nil=>exact .inl rfl
  |cons y r=>
   right
   rw[<-G y (.head _)];obtain⟨_,_,_,_,_,_,_,_,U,_,_,W⟩:=i4 (E y (.head _));rw[W];exact U
 have Y:∀i j,i<zs.length->j<zs.length->nf i=nf j->i=j:=λi j hi w e=>by
  rw[c.1]at hi w;have o:(if i<us.length then bp H (us.getD i .non)else "a")=(if j<us.length then bp H (us.getD j .non)else "a"):=e;rw[if_pos hi,if_pos w]at o;have g:∀k (A:k<us.length),(us.map (bp H))[k]'(by simpa using A)=bp H (us.getD k .non):=λk A=>by rw[cH,ah,ae A];rfl
  rw[<-g i hi,<-g j w]at o;exact(fu nd).mp o
 have L:zs=[]↔us=[]:=by rw[<-bP,c.1,bP]
 have M:zs.map (cd H')=us.map (cd H):=by
  apply nZ
  intro i;rw[ay,ay];cases f:zs[i]? with
  |none=>
   have :us.length<=i:=by have :=i8.mp f;rw[c.1]at this;exact this
   rw[eR this];rfl
  |some z=>obtain⟨b,r,rfl,t,v⟩:=c.2 i z f;rw[(get f).1];show some (cd H' (.ref b))<*(cd H (us.getD i .non));rw[tV t v];rfl
 rcases hn60 with m|hn60
 .have B:us=[]:=by rw[m]at d;exact List.perm_nil.mp d
  have a0:=L.mpr B;subst a0;have P:Dr H' nf 0 []:=λi y e=>by simp at e
  obtain⟨C,D,_,_⟩:=sy J (λi j hi=>absurd hi 'F') h P 'F' 'E';refine(C,D,?_,M,);have p:count H' (.ref l)=0:=by show(match eV (H' l)with |some (y::_)=>cV H' y|_=>0)=0;rw[h];rfl
  have q:count H (.ref a)=0:=by show(match eV (H a)with |some (y::_)=>cV H y|_=>0)=0;rw[s,m]
  rw[p,q]
 .obtain⟨C,D,_,t4⟩:=sy J Y h dr (by rw[c.1];exact Z) hn60;refine(C,D,?_,M,);cases zs with
  |nil=>
   have B:=L.mp rfl;have m:n=[]:=by rw[B]at d;exact List.nil_perm.mp d
   have p:count H' (.ref l)=0:=by show(match eV (H' l)with |some (y::_)=>cV H' y|_=>0)=0;rw[h];rfl
   have q:count H (.ref a)=0:=by show(match eV (H a)with |some (y::_)=>cV H y|_=>0)=0;rw[s,m]
   rw[p,q]
  |cons z r=>show(match eV (H' l)with |some (y::_)=>cV H' y|_=>0)=_;rw[h];exact t4 z (.head _)
def As(C:Addr)(T:Tb):Sp:=λvs H Q E=>∃x,vs=[x]/\Kn4 H x/\Tab T H/\(dX H x=true->∀H' v,Gr T H H'->Res H' (rowsOf H x) (count H x) v->Q v H')/\(dX H x=false->∀H',aO H H'->E (.ref C) none H')
def J3{T:Tb}(g1:G.fn "table_list" 1<*(Am C T,[]))(g2:G.fn "place_count" 1<*(Ar C,[]))(g3:G.fn "first_of_kinds" 3<*(Aq,[])):
  Sat G K (As C T) Ho GR:=by
 rintro vs H a8 a7 ⟨x,rfl,hk,tb,q1,q2⟩;unfold Ho zK;change wpB G K _ _ _ [some x,none,none,none,none,none] H;ext;refine(_,_,g1,x,rfl,hk,tb,λe d l N gr hl E Z=>?_,q2,);obtain⟨kn,tt,D,A⟩:=xR e E Z;have t:=q1 e;generalize rowsOf H x=rw0 at A t;generalize hn:count H x=n at D t;refine⟨_,_,g2,.ref l,rfl,kn,λ_ H2 s2=>?_,λz=>by rw[tt]at z;cases z⟩;rw[D];have S:eV (d l)<*N:=by rw[E];rfl
 have U:∀z:Nat,z<n->isPlace d (.ref l) (.int z)=true:=λz hz=>decide_eq_true ('D','D',);have a9:n<=60:=by
  obtain⟨P,b0,ea,R,f2,f3,f4,f5⟩:=fk tt;cases ea;rw[S]at R;cases R;rw[<-D];cases N with
  |nil=>show(match eV (d l)with |some (y::_)=>cV d y|_=>0)<=60;rw[E];exact bf _
  |cons y r=>rw[<-f5 y (.head _)];obtain⟨_,_,_,_,_,_,_,_,a1,_,_,h8⟩:=i4 (f3 y (.head _));rw[h8];exact a1
 unfold zJ;ext;refine gM ?_;ext;refine((n:Int),rfl,'D','D',?_,);refine fF dB (λi h B=>aO d B/\(∀a b:Nat,a<i->a<b->b<n->qm rw0 a b=false)/\∃u v w,h=[some x,some (.ref l),some (.int n),u,v,w])
  (s2,λa b a0=>absurd a0 'D',none,none,none,rfl,) (λ_ _ _ _ _=>trivial) ?_ ?_
 .rintro i y h O H4 D2 hi ⟨I,s,u,v,w,rfl⟩ rfl s4 a2 a5;have a4:i<n:=by lia
  ext;simp only[dP];refine gM ?_;ext;refine(_,_,rfl,('D','D','D','D',),?_,);refine fF dB (λm h B=>aO d B/\(∀b:Nat,i<b->b<i+1+m->qm rw0 i b=false)/\∃v w,h=[some x,some (.ref l),some (.int n),some (.int i),v,w])
   (I.trans s4,λb g c=>absurd c 'D',_,_,rfl,) (λ_ _ _ _ _=>trivial) ?_ ?_
  .rintro m y h W X D3 hm ⟨J,o,v,w,rfl⟩ rfl s6 a3 a6;have F:i+1+m<n:=by lia
   have ej:(i:Int)+1+(m:Int)=((i+1+m:Nat):Int):=by lia
   ext;rw[ej];generalize hjj:i+1+m=j at F o⊢;have L:aO d X:=J.trans s6;refine(_,_,g3,l,N,i,j,d,rfl,L,tt,S,U i a4,U j F,λf Y M=>?_,λf Y p M hp ep=>?_,)
   .show if(!decide (V.non=V.non))=true then _ else _
    rw[if_neg 'F'];refine a3 _ _ (L.trans M,λb g c=>?_,_,_,rfl,);by_cases hb:b=j;·rw[hb,<-A,<-Ha];exact f
    .exact o b g 'D'
   .show if(!decide (V.ref p=V.non))=true then _ else _
    rw[if_pos 'F'];refine(short 'F',λa q=>?_,);rw[a6,a5];refine t _ _ (gr.trans (Gr.of (L.trans (M.trans (aL q))))) (.inr (i,j,a,p,rfl,('D',F,by rw[<-A,<-Ha];exact f,λP Q g c k=>?_,),aD,?_,))
    .rcases k with k|⟨rfl,k⟩;·exact s P Q k g c
     .exact o Q g 'D'
    .rw[aL q _ _ ep,LW f,A]
  .rintro h W ⟨J,o,v,w,rfl⟩;refine a2 _ _ (J,λa b g c k=>?_,_,_,_,rfl,);by_cases q:a=i;·subst q;exact o b c 'D'
   .exact s a b 'D' c k
 .rintro h O ⟨I,s,u,v,w,rfl⟩;unfold zI;ext;exact t O .non (gr.trans (Gr.of I)) (.inl ⟨rfl,λa b g c=>s a b (by simp;lia) g c⟩)
theorem xq{d g:Type}{f:d->g}{ys:List d}(hf:∀a∈ys,∀b∈ys,f a=f b->a=b):∀{l m:List d},(∀a∈l,a∈ys)->(∀a∈m,a∈ys)->l.map f=m.map f->l=m
 | [],[],_,_,_=>rfl
 | [],_::_,_,_,e=>by simp at e
 |_::_,[],_,_,e=>by simp at e
 |a::l,b::m,h1,h2,e=>by
  rw[bw,bw]at e;injection e with e1 e2
  rw[hf a (h1 a (.head _)) b (h2 b (.head _)) e1,xq hf (λx c=>h1 x (.tail _ c)) (λx c=>h2 x (.tail _ c)) e2]
def Iy{c m:Type}{f:c->m}{ys:List c}(l:(ys.map f).Nodup):∀a∈ys,∀b∈ys,f a=f b->a=b:=λa g b h e=>by
 obtain⟨i,hi,rfl⟩:=eD.mp g;obtain⟨j,k,rfl⟩:=eD.mp h;have d:(ys.map f)[i]'(by simpa using hi)=(ys.map f)[j]'(by simpa using k):=by rw[cH,cH];exact e
 have :=(fu l).mp d;subst this;rfl
end K22
namespace Q
open PySem.W L2
theorem tZ(a:ns.Nodup):(rT ns).Perm (aF ns.length):=by
 unfold rT;split;·exact fm _
 .have P:=(fV (HI a) 'D').1;have :=iH.mp P.perm;simpa using this
theorem CU(h:ns.Nodup)(b:¬ns.length<2):(rT ns).Pairwise λi j=>ltI ns i j=true:=by
 unfold rT;rw[if_neg b];obtain⟨P,U,_⟩:=fV (HI h) (by lia:1<=ns.length);rw[fN];intro i j hi d c;have f:j<ns.length:=by simpa[P.size]using d
 have u:=U i j c f;have e:∀(k:Nat)(a:k<(run (ltI ns) (dO ns.length)).toList.length),(run (ltI ns) (dO ns.length)).toList[k]=at' (run (ltI ns) (dO ns.length)) k:=λk a=>by
  have g:k<(run (ltI ns) (dO ns.length)).size:=by simpa using a
  simp[at',g]
 rw[e,e];exact u
end Q
namespace M3
def and_nat(m n:Nat):jw (m:Int) (n:Int)=((m&&& n:Nat):Int):=by unfold jw;simp
def xor_bit{a b:Int}(c:a=0\/a=1)(d:b=0\/b=1):lU a b=if a=b then 0 else 1:=by rcases c with rfl|rfl<;>rcases d with rfl|rfl<;>decide
abbrev num:List Bool->Nat->Nat
 | [],n=>n
 |b::bs,n=>num bs (n*2+b.toNat)
theorem wZ:∀(bs:List Bool)(b:Bool)(n:Nat),num (bs++[b]) n=num bs n*2+b.toNat
 | [],_,_=>rfl
 |c::bs,b,n=>wZ bs b _
theorem GN:∀(bs:List Bool)(i:Nat),(num bs.reverse 0).testBit i=(bs[i]?).getD false
 | [],i=>by simp[num]
 |b::bs,i=>by
  rw[wk,wZ];cases i with
  |zero=>rw[Nat.testBit_zero];cases b<;>simp <;>lia
  |succ i=>
   rw[Nat.testBit_succ];have e:(num bs.reverse 0*2+b.toNat)/2=num bs.reverse 0:=by
    have a:b.toNat<=1:=by cases b<;>decide
    lia
   rw[e,GN bs i];simp
def and_sub:m&&& n=n↔∀i,n.testBit i=true->m.testBit i=true:=by
 constructor;·intro h i hi;rw[<-h,Nat.testBit_and]at hi;exact(aB _ _▸hi).1
 .intro h;apply tD
  intro i;rw[Nat.testBit_and];cases hn:n.testBit i with
  |true=>rw[h i hn];rfl
  |false=>simp
end M3
namespace M4
open Q
abbrev bl(f:Nat->Int)(n:Nat)(P:Nat->Bool):List Int:=(aF n).map λp=>if P p=true then 1-f p else f p
def jm(f:Nat->Int)(n:Nat)(P:Nat->Bool):(bl f n P).length=n:=by simp[bl]
def iy{f:Nat->Int}{P Q:Nat->Bool}(h:bl f n P=bl f n Q)(hf:∀p,p<n->f p=0\/f p=1)(a:p<n):P p=Q p:=by
 have e:(bl f n P)[p]? =(bl f n Q)[p]? :=by rw[h]
 simp[bl,a]at e;rcases hf p a with z|z<;>cases hP:P p<;>cases hQ:Q p<;>simp[hP,hQ,z]at e⊢
abbrev sub(grp:Nat->Nat)(g p:Nat):Bool:=decide (grp p&&& g=g)
abbrev above(grp:Nat->Nat)(g p:Nat):Bool:=decide (grp p&&& g=g/\grp p≠g)
variable {f:Nat->Int}{grp:Nat->Nat}(hf:∀p,p<n->f p=0\/f p=1)
include hf
theorem DP(a:p<n):bl f n (sub grp (grp p))≠bl f n λ_=>false:=λh=>by have :=iy h hf a;simp[sub]at this
theorem DO(d:p<n)(hq:q<n)(c:grp p≠grp q):bl f n (sub grp (grp p))≠bl f n (sub grp (grp q)):=λh=>by have a:=iy h hf d;have b:=iy h hf hq;simp[sub]at a b;exact c (by rw[<-b,Nat.and_comm,a])
theorem Nj(e:p<n)(hq:q<n)(c:bl f n (sub grp (grp p))=bl f n (above grp (grp q)))(d:bl f n (sub grp (grp q))=bl f n (above grp (grp p))):False:=by have a:=iy c hf e;have b:=iy d hf hq;simp[sub,above]at a b;exact a.2 (by rw[<-b.1,Nat.and_comm,a.1])
theorem Gj(a:p<n):bl f n (above grp (grp p))≠bl f n (sub grp (grp p)):=λh=>by have :=iy h hf a;simp[sub,above]at this
abbrev lo(a b:List Int):List Int:=if llt b a=true then b else a
abbrev hi(a b:List Int):List Int:=if llt a b=true then b else a
omit hf in
theorem lohi{a b c d:List Int}(e:lo a b=lo c d)(f:hi a b=hi c d)(g:a≠b)(h:c≠d):(a=c/\b=d)\/(a=d/\b=c):=by
 have i:=kJ (bI g);have j:=kJ (bI h);unfold lo at e;unfold hi at f;rw[i,j]at e;cases x:llt a b<;>cases y:llt c d<;>rw[x,y]at e f<;>simp only[Bool.not_false,eK,if_true,aJ,if_false]at e f
 .exact .inl (f,e,)
 .exact .inr (f,e,)
 .exact .inr (e,f,)
 .exact .inl (e,f,)
theorem zL(a:p<n)(hq:q<n)(d:grp p≠grp q):
  lo (bl f n (above grp (grp p))) (bl f n (sub grp (grp p)))++hi (bl f n (above grp (grp p))) (bl f n (sub grp (grp p)))≠
  lo (bl f n (above grp (grp q))) (bl f n (sub grp (grp q)))++hi (bl f n (above grp (grp q))) (bl f n (sub grp (grp q))):=λh=>by
 have len:∀P Q:Nat->Bool,(lo (bl f n P) (bl f n Q)).length=n:=λP Q=>by unfold lo;split <;>exact jm _ _ _
 obtain⟨b,c⟩:=List.append_inj h ((len _ _).trans (len _ _).symm);rcases lohi b c (Gj hf a) (Gj hf hq)with⟨_,z⟩ |⟨e,g⟩;·exact DO hf a hq d z
 .exact Nj hf a hq g e.symm
end M4
namespace Q
open L2
def HN(a:ns.Nodup):∃qs:List Int,sortI ns=qs.map V.int/\qs.Perm ns:=by
 refine((rT ns).map λi=>ns.getD i 0,?_,?_,);·unfold sortI;rw[bF];refine cN λi hi=>?_;have b:i<ns.length:=aR.mp ((tZ a).mem_iff.mp hi);show(ns.map V.int).getD i .non=V.int (ns.getD i 0);rw[ah,ah,ay,ae b];rfl
 .have h:=(tZ a).map λi=>ns.getD i 0;rw[range_getD]at h;exact h
end Q
namespace M5
open M3 M4 Q L2
abbrev plc(n:Nat)(P:Nat->Bool):List Int:=((aF n).filter P).map λp:Nat=>(p:Int)
def nJ{P:Nat->Bool}(h:i<n):(i:Int)∈plc n P↔P i=true:=by
 unfold plc;rw[aI];constructor
 .rintro⟨p,a,e⟩;have :p=i:=by lia
  rw[<-this];exact(d4.mp a).2
 .intro e;exact(i,d4.mpr (aR.mpr h,e,),rfl,)
abbrev trn(zs:List Int)(a:List Int):List Int:=(aF zs.length).map λi:Nat=>if(i:Int)∈a then 1-zs.getD i 0 else zs.getD i 0
def HG{zs:List Int}{P:Nat->Bool}:trn zs (plc zs.length P)=bl (λp=>zs.getD p 0) zs.length P:=by
 unfold trn bl;refine cN λi hi=>?_;have hi:=aR.mp hi;by_cases h:P i=true;·rw[if_pos ((nJ hi).mpr h),if_pos h]
 .rw[if_neg (λz=>h ((nJ hi).mp z)),if_neg h]
def Hq{f:Nat->Int}{P:Nat->Bool}(h:i<n):(bl f n P).getD i 0=if P i=true then 1-f i else f i:=by unfold bl;rw[ah,ay,bZ h];rfl
def trn_bl{f:Nat->Int}{S E:Nat->Bool}(h:∀p,E p=true->S p=true):trn (bl f n S) (plc n E)=bl f n λp=>S p&& !E p:=by
 unfold trn;rw[jm];refine cN λi hi=>?_;have hi:=aR.mp hi;rw[Hq hi];show _=if(S i&& !E i)=true then 1-f i else f i
 cases hE:E i with
 |true=>
  rw[if_pos ((nJ hi).mpr hE),h i hE,if_pos rfl];show 1-(1-f i)=if(true&& !true)=true then _ else f i
  rw[if_neg 'F'];lia
 |false=>rw[if_neg (λz=>by rw[(nJ hi).mp z]at hE;cases hE)];cases S i<;>rfl
def MS(zs:List Int):bl (λp=>zs.getD p 0) zs.length (λ_=>false)=zs:=by
 unfold bl;apply cQ;·simp
 .intro i b a;simp[a]
abbrev own(grp:Nat->Nat)(g p:Nat):Bool:=decide (grp p=g)
def own_sub{grp:Nat->Nat}{g:Nat}(h:own grp g p=true):sub grp g p=true:=by have :grp p=g:=W0 h;refine decide_eq_true ?_;rw[this];exact JL g
def NF(grp:Nat->Nat)(g:Nat):(λp=>sub grp g p&& !own grp g p)=above grp g:=by
 funext p
 unfold sub own above;by_cases h1:grp p&&& g=g<;>by_cases h2:grp p=g<;>simp[h1,h2]
abbrev nB(f:Nat->Int)(n:Nat)(grp:Nat->Nat)(q:Int):List Int:=bl f n (sub grp q.toNat)
abbrev nA(f:Nat->Int)(n:Nat)(grp:Nat->Nat)(q:Int):List Int:=bl f n (above grp q.toNat)
abbrev jc(f:Nat->Int)(n:Nat)(grp:Nat->Nat)(qs:List Int):List (List Int):=bl f n (λ_=>false)::qs.map (nB f n grp)
abbrev brK(f:Nat->Int)(n:Nat)(grp:Nat->Nat)(qs:List Int):List (List Int×List Int):=qs.map λq=>(lo (nA f n grp q) (nB f n grp q),hi (nA f n grp q) (nB f n grp q))
def Grs(n:Nat)(grp:Nat->Nat)(qs:List Int):Prop:=qs.Nodup/\∀q∈qs,∃p,p<n/\q=(grp p:Int)
section
variable {f:Nat->Int}{grp:Nat->Nat}(hf:∀p,p<n->f p=0\/f p=1)(hq:Grs n grp qs)
include hf hq
theorem Mb{j:Type}{F:Int->j}(h:∀p q,p<n->q<n->grp p≠grp q->F (grp p:Int)≠F (grp q:Int)):(qs.map F).Nodup:=by refine cK.mpr ?_;have p:List.Pairwise (λa b=>a≠b) qs:=hq.1;refine(gE.mp p).imp ?_;rintro a b ⟨c,d,f⟩;obtain⟨x,g,rfl⟩:=hq.2 a c;obtain⟨y,i,rfl⟩:=hq.2 b d;exact h x y g i (λe=>f (by rw[e]))
theorem w8:(jc f n grp qs).Nodup:=by
 unfold jc;refine bN.mpr (λz=>?_,Mb hf hq λp q a b c=>?_,);·obtain⟨q,b,e⟩:=aI.mp z;obtain⟨p,a,rfl⟩:=hq.2 q b;exact DP hf a (by unfold nB at e;rw[bo]at e;exact e)
 .unfold nB;rw[bo,bo];exact DO hf a b c
theorem FN:((brK f n grp qs).map nR).Nodup:=by unfold brK;rw[bF];refine Mb hf hq λp q b c a=>?_;show lo (nA f n grp (grp p:Int)) (nB f n grp (grp p:Int))++hi (nA f n grp (grp p:Int)) (nB f n grp (grp p:Int))≠lo (nA f n grp (grp q:Int)) (nB f n grp (grp q:Int))++hi (nA f n grp (grp q:Int)) (nB f n grp (grp q:Int));unfold nA nB;rw[bo,bo];exact zL hf b c a
end
def Iz{f:Nat->Int}{grp:Nat->Nat}:∀k∈jc f n grp qs,k.length=n:=λk hk=>by
 rcases aK.mp hk with rfl|hk;·exact jm _ _ _
 .obtain⟨q,_,rfl⟩:=aI.mp hk;exact jm _ _ _
def lo_len{a b:List Int}(c:a.length=n)(d:b.length=n):(M4.lo a b).length=n:=by unfold M4.lo;split <;>assumption
def hi_len{a b:List Int}(c:a.length=n)(d:b.length=n):(hi a b).length=n:=by unfold hi;split <;>assumption
def brK_len{f:Nat->Int}{grp:Nat->Nat}:∀k∈brK f n grp qs,k.1.length=n/\k.2.length=n:=λk a=>by obtain⟨q,_,rfl⟩:=aI.mp a;exact(lo_len (jm _ _ _) (jm _ _ _),hi_len (jm _ _ _) (jm _ _ _),)
def A9{grp:Nat->Nat}(h:Grs n grp qs):qs.length<=n:=by
 have e:qs.length<=((aF n).map λp:Nat=>(grp p:Int)).length:=by refine List.Nodup.length_le_of_subset h.1 λq hq=>?_;obtain⟨p,a,rfl⟩:=h.2 q hq;exact aI.mpr (p,aR.mpr a,rfl,)
 simpa using e
end M5
namespace K32
open R
abbrev E1:List Str:=["copies","place"]
abbrev xo:List Str:=["copies","place","first","group","name","readings"]
abbrev sR:CB:=
  (.cons (.ret (.var 3))
  .nil)
abbrev sS:CB:=
  (.cons (.forr (.tup (.cons (.name 4) (.cons (.name 5) .nil))) (.seq (.var 0))
  (.cons (.asg (.name 3) (.bin .Add (.bin .Mult (.var 3) (.con (.int 2))) (.bin .BitXor (.idx (.var 5) (.var 1)) (.var 2))))
  .nil))
  sR)
abbrev sT:CB:=
  (.cons (.asg (.name 3) (.con (.int 0)))
  sS)
abbrev x6:CB:=
  (.cons (.asg (.name 2) (.idx (.idx (.idx (.var 0) (.con (.int 0))) (.con (.int 1))) (.var 1)))
  sT)
abbrev LJ:List Str:=["readings","places"]
abbrev C5:List Str:=["readings","places"]
abbrev DJ:CB:=
  (.cons (.ret (.bfn .tuple (.cons (.comp ["place","reading"] [1] (.tup (.cons (.name 0) (.cons (.name 1) .nil))) (.enumt (.var 0)) .no (.ite (.cmp .In (.var 0) (.var 2)) (.bin .Sub (.con (.int 1)) (.var 1)) (.var 1))) .nil)))
  .nil)
abbrev p_grown:List Str:=["copies"]
abbrev GQ:List Str:=["copies","first","groups","nodes","branches","group","places","around","below","above"]
abbrev zD:CB:=
  (.cons (.ret (.tup (.cons (.bfn .sortl (.cons (.var 3) .nil)) (.cons (.bfn .sortt (.cons (.var 4) .nil)) .nil))))
  .nil)
abbrev pA:CB:=
  (.cons (.expr (.meth1 .append (.var 4) (.tup (.cons (.bfn .minl (.cons (.var 9) (.cons (.var 8) .nil))) (.cons (.bfn .maxl (.cons (.var 9) (.cons (.var 8) .nil))) (.cons (.bfn .tuple (.cons (.var 6) .nil)) .nil))))))
  .nil)
abbrev pB:CB:=
  (.cons (.expr (.meth1 .append (.var 3) (.var 8)))
  pA)
abbrev vk:CB:=
  (.cons (.asg (.name 9) (.call "turned" (.cons (.var 8) (.cons (.var 6) .nil))))
  pB)
abbrev pC:CB:=
  (.cons (.asg (.name 8) (.call "turned" (.cons (.var 1) (.cons (.var 7) .nil))))
  vk)
abbrev vm:CB:=
  (.cons (.asgc 7 (.comp ["place"] [5,2] (.name 0) (.range1 (.bfn .len (.cons (.var 1) .nil))) (.yes (.cmp .Eq (.bin .BitAnd (.idx (.var 2) (.var 0)) (.var 1)) (.var 1))) (.var 0)))
  pC)
abbrev pD:CB:=
  (.cons (.asgc 6 (.comp ["place"] [5,2] (.name 0) (.range1 (.bfn .len (.cons (.var 1) .nil))) (.yes (.cmp .Eq (.idx (.var 2) (.var 0)) (.var 1))) (.var 0)))
  vm)
abbrev zE:CB:=
  (.cons (.forr (.name 5) (.lseq (.sortset (.var 2)))
  (.cons (.iff (.cmp .Eq (.var 5) (.con (.int 0)))
  (.cons (.cont)
  .nil)
  .nil)
  pD))
  zD)
abbrev zF:CB:=
  (.cons (.asg (.name 4) (.lst .nil))
  zE)
abbrev zG:CB:=
  (.cons (.asg (.name 3) (.lst (.cons (.var 1) .nil)))
  zF)
abbrev zH:CB:=
  (.cons (.asgc 2 (.comp ["place"] [0] (.name 0) (.range1 (.bfn .len (.cons (.var 1) .nil))) .no (.call "group_at" (.cons (.var 1) (.cons (.var 0) .nil)))))
  zG)
abbrev Hn:CB:=
  (.cons (.asg (.name 1) (.idx (.idx (.var 0) (.con (.int 0))) (.con (.int 1))))
  zH)
end K32
namespace K32
open L2 R Cp Lt Kc K21 K22 Lm M3 M4 M5
def vN(h:n<=63):n<=sizeLine:=aT h 'E'
def lt60(h:n<=63):n<sizeLine:=dJ h 'E'
def xor_ii{i j:Int}{Q:VK}:rP K .BitXor (.int i) (.int j) H Q↔Q (.int (lU i j)) H:=by show rI0 _ _ _ _ _↔_;simp[rI0]
def and_ii{i j:Int}{Q:VK}:rP K .BitAnd (.int i) (.int j) H Q↔Q (.int (jw i j)) H:=by show rI0 _ _ _ _ _↔_;simp[rI0]
def in_ints(a:Int)(l:List Int):inV (V.int a) (l.map V.int)=decide (a∈l):=by
 unfold inV;rw[Hz,de,cz,decide_eq_true_eq];constructor;·rintro⟨x,b,e⟩;have :x=a:=beq_iff_eq.mp e;rw[<-this];exact b
 .intro h;exact(a,h,beq_self_eq_true a,)
def IX(b:List Int):(b.map V.int).all qo=true:=by rw[bx];intro v a;obtain⟨m,_,rfl⟩:=aI.mp a;rfl
def HV:tj (Itet K a) xs.length (λi x H=>∃p v,x=.ref p/\H p<*(.tup [.int i,v])/\xs[i]?<*v) (λH=>SqT K H a xs):=KI
def gv{zs:List Int}(h:i<zs.length):(zs.map V.int)[i]?<*(.int (zs.getD i 0)):=by rw[ay,ae h,ah,ae h];rfl
structure Cps(H:Hp)(c:Addr)(ys:List V)(n:Nat)(rows:List (List Int)):Prop where
 ec:H c<*(.lst ys)
 len:ys.length<=40
 rl:rows.length=ys.length
 n60:n<=60
 at_:∀(i:Nat) y,ys[i]?<*y->∃b z r,y=.ref b/\H b<*(.tup [.str z,.ref r])/\H r<*(.tup ((rows.getD i []).map V.int))
 rd:∀zs∈rows,zs.length=n/\∀x∈zs,x=0\/x=1
def Cps.same(d:Cps H c ys n rows)(s:aO H H'):Cps H' c ys n rows:=
 {d with ec:=s _ _ d.ec,at_:=λi y e=>let⟨b,z,r,h1,h2,h3⟩:=d.at_ i y e;(b,z,r,h1,s _ _ h2,s _ _ h3,)}
def Cps.row(d:Cps H c ys n rows)(hi:i<ys.length):(rows.getD i []).length=n/\∀p,p<n->(rows.getD i []).getD p 0=0\/(rows.getD i []).getD p 0=1:=by
 have a:i<rows.length:=by rw[d.rl];exact hi
 have e:rows.getD i []=rows[i]:=by rw[ah,ae a];rfl
 obtain⟨b,f⟩:=d.rd rows[i] (bQ a);rw[e];refine(b,λp g=>f _ ?_,);rw[ah,ae 'D'];exact bQ _
abbrev fr(rows:List (List Int))(p:Nat):Int:=(rows.getD 0 []).getD p 0
abbrev bt(rows:List (List Int))(p:Nat)(r:List Int):Bool:= !decide (r.getD p 0=fr rows p)
abbrev grp(rows:List (List Int))(p:Nat):Nat:=M3.num (rows.map (bt rows p)) 0
def Ap:Sp:=λvs H Q _=>∃(c:Addr)(p:Nat)(ys:List V)(n:Nat)(rows:List (List Int)),vs=[.ref c,.int p]/\Cps H c ys n rows/\ys≠[]/\p<n/\∀H',aO H H'->Q (.int (grp rows p)) H'
def J1:Sat G K Ap x6 xo:=by
 rintro Z H Q E ⟨c,p,e,n,a,rfl,d,O,w,q⟩;unfold x6;change wpB G K _ _ _ [some (.ref c),some (.int p),none,none,none,none] H;ext;have g:0<e.length:=eN.mpr O;obtain⟨b,a0,r,z,A,B⟩:=d.at_ 0 e[0] (ae g);obtain⟨X,S⟩:=d.row g;have L:e[0]?<*(.ref b):=by rw[ae g,z]
 refine .inl (c,e,0,_,rfl,rfl,SqL.of d.ec,cy (j:=0) L,?_,);refine .inr (.inl (b,_,1,_,rfl,rfl,SqT.of A,rfl,?_,));refine .inr (.inl (r,_,p,_,rfl,rfl,SqT.of B,cy (gv 'D'),?_,));unfold sT;ext;unfold sS;ext;refine gM (dF rfl (SqL.of d.ec) (fF eS (λk f m=>aO H m/\∃u v,f=[some (.ref c),some (.int p),some (.int (fr a p)),some (.int (M3.num ((a.take k).map (bt a p)) 0:Nat)),u,v])
  (aO.refl _,none,none,rfl,) (λk f m _ s=>s.1.seq (SqL.of d.ec)) ?_ ?_))
 .rintro k y f o W V t ⟨i,u,v,rfl⟩ P T M _;obtain⟨x,z',R,rfl,I,J⟩:=d.at_ k y P;have l:=i.trans T;obtain⟨Y,U⟩:=d.row t;have N:k<a.length:=by rw[d.rl];exact t
  refine(x,_,rfl,SqT.of (l _ _ I),rfl,_,_,rfl,_,_,rfl,rfl,?_,);ext;refine(Hj 'E' 'E',.inr (.inl (R,_,p,_,rfl,rfl,SqT.of (l _ _ J),cy (gv 'D'),?_,)),);refine xor_ii.mpr (ND.mpr ?_);rw[show lU ((a.getD k []).getD p 0) (fr a p)=if(a.getD k []).getD p 0=(a.getD 0 []).getD p 0 then 0 else 1 from xor_bit (U p w) (S p w)];have F:a.take (k+1)=a.take k++[a.getD k []]:=by rw[cJ,ah,ae N];rfl
  have D:(if(a.getD k []).getD p 0=(a.getD 0 []).getD p 0 then(0:Int)else 1)=((bt a p (a.getD k [])).toNat:Int):=by
   unfold bt fr;by_cases h:(a.getD k []).getD p 0=(a.getD 0 []).getD p 0;·rw[if_pos h,decide_eq_true h];rfl
   .rw[if_neg h,decide_eq_false h];rfl
  have C:((M3.num ((a.take k).map (bt a p)) 0:Nat):Int)*2+((bt a p (a.getD k [])).toNat:Int)=((M3.num ((a.take (k+1)).map (bt a p)) 0:Nat):Int):=by rw[F,dM,bw,p8,wZ];push_cast;rfl
  rw[D,C];exact M _ _ (l,_,_,rfl,)
 .rintro f o ⟨i,u,v,rfl⟩;unfold sR;ext;rw[<-d.rl,dg];exact q o i
def oS(K:ak):Sp:=λvs H Q _=>∃(r b:Addr)(zs a:List Int),vs=[.ref r,.ref b]/\SqT K H r (zs.map V.int)/\SqL K H b (a.map V.int)/\zs.length<=60/\
 ∀(H':Hp)(p:Addr),aO H H'->H p=none->H' p<*(.tup ((trn zs a).map V.int))->Q (.ref p) H'
def HB:Sat G K (oS K) DJ C5:=by
 rintro f H Q E ⟨r,b,g,a,rfl,m,y,B,q⟩;unfold DJ;change wpB G K _ _ _ [some (.ref r),some (.ref b)] H;ext;refine dY (_,rfl,r,rfl,(_,m,),?_,);refine eT HV (vN (by rw[ao];lia)) (λt d=>d.tup m) (λi v _=>v=.int (if(i:Int)∈a then 1-g.getD i 0 else g.getD i 0)) (λ_ _ _ _ _ h=>h) (λs=>∃u v,s=[u,v,some (.ref b)]) (none,none,rfl,) ?_ ?_
 .rintro i x s t R hi ⟨u,v,rfl⟩ d ⟨p,v,rfl,c,n⟩ k;rw[ao]at hi;rw[gv hi]at n;cases n;refine(p,_,rfl,SqT.of c,rfl,_,_,rfl,_,_,rfl,rfl,?_,);ext;refine .inr (b,_,rfl,.inl (d.seq y),rfl,IX a,_,rfl,?_,);show if inV (V.int (i:Int)) (a.map V.int)=true then _ else _
  rw[in_ints];by_cases h:(i:Int)∈a;·rw[decide_eq_true h,if_pos rfl];exact k _ _ _ (_,_,rfl,) (aO.refl _) (by rw[if_pos h])
  .rw[decide_eq_false h,if_neg aq];exact k _ _ _ (_,_,rfl,) (aO.refl _) (by rw[if_neg h])
 .intro f A l z w o j;rw[ao]at z;have e:f=(trn g a).map V.int:=by
   unfold trn;apply nZ;intro i;rw[ay,ay];by_cases hi:i<f.length;·rw[ae hi,bZ 'D',w i _ (ae hi)];rfl
   .rw[eR 'D',eR (by rw[bC];lia)];rfl
  rw[e];exact(l,_,rfl,.inl (SqL.of aD,λp c=>q _ p (o.trans ((aL j).trans (aL c))) ((o.trans (aL j)).free c) aD,),)
end K32
namespace M6
def Ok(n:Nat)(v:List Int):Prop:=v.length=n/\∀x∈v,x=0\/x=1
def Ok.at(h:Ok n v)(i:Nat):v.getD i 0=0\/v.getD i 0=1:=by
 rw[ah];cases e:v[i]? with
 |none=>exact .inl rfl
 |some x=>exact h.2 x (aH e)
def Mis(vs:List (List Int))(i j:Nat):Prop:=∃a b:Int,(a=0\/a=1)/\(b=0\/b=1)/\∀v∈vs,¬(v.getD i 0=a/\v.getD j 0=b)
def Mis.sub{vs c:List (List Int)}(h:Mis vs i j)(s:∀w∈c,w∈vs):Mis c i j:=let⟨a,b,ha,hb,k⟩:=h;(a,b,ha,hb,λw d=>k w (s w d),)
def Mis.flip{vs:List (List Int)}(h:Mis vs i j):Mis vs j i:=let⟨a,b,ha,hb,k⟩:=h;(b,a,hb,ha,λw c ⟨x,y⟩=>k w c (y,x,),)
end M6
namespace M7
open K32
def Fits(rows:List (List Int))(n:Nat)(v:List Int):Prop:=M6.Ok n v/\∀i j,i<n->j<n->∃r∈rows,r.getD i 0=v.getD i 0/\r.getD j 0=v.getD j 0
def Fits.sub{a:List (List Int)}(h:Fits rows n v)(s:∀r∈rows,r∈a):Fits a n v:=(h.1,λi j hi b=>let⟨r,hr,e⟩:=h.2 i j hi b;(r,s r hr,e,),)
section
def mH:bt rows p r=true↔r.getD p 0≠fr rows p:=by unfold bt;simp
def pF(p i:Nat):(grp rows p).testBit i=((rows.reverse[i]?).map (bt rows p)).getD false:=by unfold grp;have :=M3.GN (rows.map (bt rows p)).reverse i;rw[List.reverse_reverse]at this;rw[this,<-List.map_reverse,ay]
def gsub:grp rows p&&& grp rows q=grp rows q↔∀r∈rows,bt rows q r=true->bt rows p r=true:=by
 rw[M3.and_sub];constructor;·intro h r a hq;obtain⟨i,hi⟩:=aS.mp (kF.mpr a);have :=h i;rw[pF,pF,hi]at this;exact this hq
 .intro h i;rw[pF,pF];cases e:rows.reverse[i]? with
  |none=>exact id
  |some r=>exact h r (kF.mp (aH e))
def geq:grp rows p=grp rows q↔∀r∈rows,bt rows p r=bt rows q r:=by
 constructor;·intro h r c;have a:=gsub.mp (show grp rows p&&& grp rows q=grp rows q by rw[h,JL]) r c;have b:=gsub.mp (show grp rows q&&& grp rows p=grp rows p by rw[h,JL]) r c;exact de.mpr (b,a,)
 .intro h;apply tD
  intro i;rw[pF,pF];cases e:rows.reverse[i]? with
  |none=>rfl
  |some r=>exact h r (kF.mp (aH e))
def gnz:grp rows p≠0↔∃r∈rows,bt rows p r=true:=by
 constructor
 .intro h;apply au
  intro a;apply h;apply tD;intro i;rw[pF,Nat.zero_testBit];cases e:rows.reverse[i]? with
  |none=>rfl
  |some r=>
   cases b:bt rows p r with
   |false=>exact b
   |true=>exact absurd (r,kF.mp (aH e),b,) a
 .rintro⟨r,c,h⟩ z;obtain⟨i,hi⟩:=aS.mp (kF.mpr c);have :=pF (rows:=rows) p i;rw[hi,z,Nat.zero_testBit]at this;rw[show((some r).map (bt rows p)).getD false=bt rows p r from rfl,h]at this;cases this
end
theorem pf{b:Type}{p q:b->Bool}:∀{l:List b},(∀r∈l,q r=true->p r=true)->∀{x:b},x∈l->p x=true->q x=false->l.countP q<l.countP p
 |a::l,h,x,hx,hp,hq=>by
  rw[List.countP_cons,List.countP_cons];have d:=h a aG;have c:∀r∈l,q r=true->p r=true:=λr f=>h r (ax _ f);rcases aK.mp hx with rfl|hx;·have :=List.countP_mono_left c;rw[hp,hq,if_pos rfl,if_neg 'E'];lia
  .have :=pf c hx hp hq;cases e:q a with
   |true=>rw[d e];lia
   |false=>rw[if_neg 'E'];lia
structure Tbl(rows:List (List Int))(n:Nat):Prop where
 ok:∀r∈rows,M6.Ok n r
 ne:rows≠[]
 mis:∀i j,i<j->j<n->M6.Mis rows i j
section
def Tbl.first(t:Tbl rows n):rows.getD 0 []∈rows:=by
 cases rows with
 |nil=>exact absurd rfl t.ne
 |cons a r=>exact aG
def Tbl.f01(t:Tbl rows n)(p:Nat):fr rows p=0\/fr rows p=1:=(t.ok _ t.first).at p
def Tbl.mis'(t:Tbl rows n)(h:i≠j)(hi:i<n)(a:j<n):M6.Mis rows i j:=by
 rcases Nat.lt_or_gt_of_ne h with h|h;·exact t.mis i j h a
 .exact(t.mis j i h hi).flip
def neq{x f:Int}(a:x=0\/x=1)(hf:f=0\/f=1):x≠f↔x=1-f:=by rcases a with rfl|rfl<;>rcases hf with rfl|rfl<;>decide
def Tbl.turn(t:Tbl rows n)(a:r∈rows):bt rows p r=true↔r.getD p 0=1-fr rows p:=by rw[mH];exact neq ((t.ok r a).at p) (t.f01 p)
def Tbl.mf(t:Tbl rows n):bt rows p r=false↔r.getD p 0=fr rows p:=by unfold bt;simp
def two{x y z:Int}(a:x=0\/x=1)(b:y=0\/y=1)(hz:z=0\/z=1)(h:x≠y):x=z\/y=z:=by rcases a with rfl|rfl<;>rcases b with rfl|rfl<;>rcases hz with rfl|rfl<;>first |exact absurd rfl h|decide
def two1{x z:Int}(a:x=0\/x=1)(hz:z=0\/z=1):x=z\/1-x=z:=by rcases a with rfl|rfl<;>rcases hz with rfl|rfl<;>decide
def eqb{x y f:Int}(a:x=0\/x=1)(b:y=0\/y=1)(hf:f=0\/f=1):x=y↔(x≠f↔y≠f):=by rcases a with rfl|rfl<;>rcases b with rfl|rfl<;>rcases hf with rfl|rfl<;>decide
def Tbl.nest(t:Tbl rows n)(C:p<n)(hq:q<n)(f:r∈rows)(o:bt rows p r=true)(s:bt rows q r=true):(∀r∈rows,bt rows p r=true->bt rows q r=true)\/∀r∈rows,bt rows q r=true->bt rows p r=true:=by
 by_cases hpq:p=q;·exact .inl λr _ h=>hpq▸h
 apply au
 intro h;rw[not_or]at h;obtain⟨g,d⟩:=gZ.mp h.1;obtain⟨i,e⟩:=gZ.mp h.2;have d:g∈rows/\bt rows p g=true/\¬bt rows q g=true:=by apply au;intro z;apply d;intro a b;apply au;intro c;exact z (a,b,c,)
 have e:i∈rows/\bt rows q i=true/\¬bt rows p i=true:=by apply au;intro z;apply e;intro a b;apply au;intro c;exact z (a,b,c,)
 obtain⟨a,b,A,B,k⟩:=t.mis' hpq C hq;have v:=t.f01 p;have w:=t.f01 q;have u:=k _ t.first;have m:=k _ f;have j:=k _ d.1;have l:=k _ e.1;rw[(t.turn f).mp o,(t.turn f).mp s]at m;rw[(t.turn d.1).mp d.2.1,t.mf.mp (ix.mpr d.2.2)]at j;rw[(t.turn e.1).mp e.2.1,t.mf.mp (ix.mpr e.2.2)]at l;rcases two1 v A with x|x<;>rcases two1 w B with y|y;·exact u (x,y,)
 .exact l (x,y,)
 .exact j (x,y,)
 .exact m (x,y,)
def iy{f:Nat->Int}{P:Nat->Bool}(h:i<n):(M4.bl f n P).getD i 0=if P i=true then 1-f i else f i:=M5.Hq h
def Dx{u:List Int}(c:u.length=n)(d:v.length=n)(h:∀i,i<n->u.getD i 0=v.getD i 0):u=v:=by
 apply cQ (c.trans d.symm)
 intro i a b;have :=h i 'D'
 rwa [ah,ah,ae a,ae b]at this
def DN(t:Tbl rows n)(P:Nat->Bool):M6.Ok n (M4.bl (fr rows) n P):=⟨M4.jm _ _ _,λx a=>by obtain⟨i,_,rfl⟩:=aI.mp a;have :=t.f01 i;split <;>lia⟩
abbrev below(rows:List (List Int))(n p:Nat):List Int:=M4.bl (fr rows) n (M4.sub (grp rows) (grp rows p))
def fQ:M4.sub (grp rows) (grp rows p) q=true↔∀r∈rows,bt rows p r=true->bt rows q r=true:=by unfold M4.sub;rw[decide_eq_true_eq];exact gsub
def qW(t:Tbl rows n)(hz:grp rows p≠0):Fits rows n (below rows n p):=by
 refine(DN t _,λi j hi g=>?_,);unfold below;rw[iy hi,iy g];have pick:∀{i j:Nat},M4.sub (grp rows) (grp rows p) i=true->M4.sub (grp rows) (grp rows p) j=false->∃r∈rows,r.getD i 0=1-fr rows i/\r.getD j 0=fr rows j:=λ{i j} a b=>by
  have b:¬∀r∈rows,bt rows p r=true->bt rows j r=true:=λz=>by rw[fQ.mpr z]at b;cases b
  obtain⟨r,h⟩:=gZ.mp b;have h:r∈rows/\bt rows p r=true/\¬bt rows j r=true:=by apply au;intro z;apply h;intro a b;apply au;intro c;exact z (a,b,c,)
  exact(r,h.1,(t.turn h.1).mp (fQ.mp a r h.1 h.2.1),t.mf.mp (ix.mpr h.2.2),)
 cases a:M4.sub (grp rows) (grp rows p) i with
 |true=>
  cases b:M4.sub (grp rows) (grp rows p) j with
  |true=>obtain⟨r,d,h⟩:=gnz.mp hz;exact(r,d,(t.turn d).mp (fQ.mp a r d h),(t.turn d).mp (fQ.mp b r d h),)
  |false=>exact pick a b
 |false=>
  cases b:M4.sub (grp rows) (grp rows p) j with
  |true=>obtain⟨r,d,e,f⟩:=pick b a;exact(r,d,f,e,)
  |false=>exact(_,t.first,rfl,rfl,)
def Fq(t:Tbl rows n):Fits rows n (M4.bl (fr rows) n λ_=>false):=by refine(DN t _,λi j hi a=>(_,t.first,?_,),);rw[iy hi,iy a];exact(rfl,rfl,)
def of_fits(t:Tbl rows n)(h:Fits rows n v):v=M4.bl (fr rows) n (λ_=>false)\/∃p,p<n/\grp rows p≠0/\v=below rows n p:=by
 by_cases hS:∀p,p<n->v.getD p 0=fr rows p
 .left
  exact Dx h.1.1 (M4.jm _ _ _) λi hi=>by rw[iy hi];exact hS i hi
 .right
  have u:∃m p,p<n/\v.getD p 0≠fr rows p/\rows.countP (bt rows p)=m:=by obtain⟨p,a⟩:=gZ.mp hS;obtain⟨a,d⟩:=tE.mp a;exact(_,p,a,d,rfl,)
  obtain⟨m,⟨p,a,d,o⟩,y⟩:∃m,(∃p,p<n/\v.getD p 0≠fr rows p/\rows.countP (bt rows p)=m)/\∀k,k<m->¬∃p,p<n/\v.getD p 0≠fr rows p/\rows.countP (bt rows p)=k:=by
   obtain⟨m,o⟩:=u
   induction m using BV with
   |_ m ih=>
    by_cases f:∃k,k<m/\∃p,p<n/\v.getD p 0≠fr rows p/\rows.countP (bt rows p)=k;·obtain⟨k,f,h⟩:=f;exact ih k f h
    .exact(m,o,λk x w=>f (k,x,w,),)
  have C:=λi=>h.1.at i;have g:∀{r:List Int}{i:Nat},r∈rows->r.getD i 0=v.getD i 0->v.getD i 0≠fr rows i->bt rows i r=true:=λc e z=>mH.mpr (by rw[e];exact z);refine(p,a,gnz.mpr ?_,?_,);·obtain⟨r,c,e,_⟩:=h.2 p p a a;exact(r,c,g c e d,)
  .refine Dx h.1.1 (M4.jm _ _ _) λq hq=>?_;unfold below;rw[iy hq];by_cases hqv:v.getD q 0=fr rows q;·rw[if_neg,hqv];rw[fQ];intro hs;obtain⟨r,c,j,l⟩:=h.2 p q a hq;exact mH.mp (hs r c (g c j d)) (l.trans hqv)
   .rw[if_pos,(neq (C q) (t.f01 q)).mp hqv];rw[fQ];obtain⟨r,c,j,l⟩:=h.2 p q a hq;rcases t.nest a hq c (g c j d) (g c l hqv)with hs|hs;·exact hs
    .intro B A s;cases b:bt rows q B with
     |true=>rfl
     |false=>
      exfalso
      refine y _ ?_ (q,hq,hqv,rfl,);rw[<-o];exact pf hs A s b
def Cls(rows:List (List Int))(p q:Nat):Prop:=∀r∈rows,∀s∈rows,r.getD p 0=s.getD p 0↔r.getD q 0=s.getD q 0
def Tbl.cls(t:Tbl rows n):grp rows p=grp rows q↔Cls rows p q:=by
 rw[geq];constructor;·intro h r c s d;have a:=h r c;have b:=h s d;rw[de,mH,mH]at a b;rw[eqb ((t.ok r c).at p) ((t.ok s d).at p) (t.f01 p),eqb ((t.ok r c).at q) ((t.ok s d).at q) (t.f01 q),a,b]
 .intro h r c;rw[de,mH,mH];exact not_congr (h r c _ t.first)
structure End(rows:List (List Int))(n p:Nat)(v:List Int):Prop where
 ok:M6.Ok n v
 own:∀q,q<n->Cls rows p q->∃r∈rows,r.getD p 0=v.getD p 0/\r.getD q 0=v.getD q 0
 off:∀q,q<n->¬Cls rows p q->∃r∈rows,∃s∈rows,r.getD p 0≠s.getD p 0/\r.getD q 0=v.getD q 0/\s.getD q 0=v.getD q 0
def End.one(t:Tbl rows n)(S:p<n){w:List Int}(a:End rows n p v)(b:End rows n p w)(e:v.getD p 0=w.getD p 0):v=w:=by
 refine Dx a.ok.1 b.ok.1 λq hq=>?_;by_cases c:Cls rows p q;·obtain⟨r,d,g,i⟩:=a.own q hq c;obtain⟨s,f,j,O⟩:=b.own q hq c;rw[<-i,<-O];exact(c r d s f).mp (by rw[g,j,e])
 .apply au
  intro R;have T:p≠q:=λz=>c (by rw[z];exact λ_ _ _ _=>Iff.rfl);obtain⟨r,d,s,f,g,i,j⟩:=a.off q hq c;obtain⟨D,l,E,m,L,M,N⟩:=b.off q hq c;obtain⟨x,y,o,U,k⟩:=t.mis' T S hq;have u:=k r d;have A:=k s f;have B:=k D l;have C:=k E m;have F:=(t.ok r d).at p;have G:=(t.ok s f).at p;have H:=(t.ok D l).at p;have I:=(t.ok E m).at p;have J:=a.ok.at q;have K:=b.ok.at q;rw[i]at u;rw[j]at A;rw[M]at B;rw[N]at C;have P:=two F G o g;have Q:=two H I o L;have h3:=two J K U R;rcases h3 with h3|h3
  .rcases P with h|h;·exact u (h,h3,)
   .exact A (h,h3,)
  .rcases Q with h|h;·exact B (h,h3,)
   .exact C (h,h3,)
abbrev gT(rows:List (List Int))(n p:Nat):List Int:=M4.bl (fr rows) n (M4.above (grp rows) (grp rows p))
def jd:M4.above (grp rows) (grp rows p) q=true↔M4.sub (grp rows) (grp rows p) q=true/\grp rows q≠grp rows p:=by unfold M4.above M4.sub;rw[decide_eq_true_eq,decide_eq_true_eq]
def sub_self:M4.sub (grp rows) (grp rows p) p=true:=fQ.mpr λ_ _ h=>h
def v9(a:p<n):(below rows n p).getD p 0=1-fr rows p:=by unfold below;rw[iy a,if_pos sub_self]
def BC(a:p<n):(gT rows n p).getD p 0=fr rows p:=by unfold gT;rw[iy a,if_neg λh=>(jd.mp h).2 rfl]
def DB(t:Tbl rows n)(hz:grp rows p≠0)(c:¬Cls rows p q):∃r∈rows,∃s∈rows,r.getD p 0≠s.getD p 0/\(r.getD q 0=if M4.sub (grp rows) (grp rows p) q=true then 1-fr rows q else fr rows q)/\s.getD q 0=if M4.sub (grp rows) (grp rows p) q=true then 1-fr rows q else fr rows q:=by
 have i:∀{a b:Nat},(¬∀r∈rows,bt rows a r=true->bt rows b r=true)->∃r∈rows,bt rows a r=true/\bt rows b r=false:=λ{a b} h=>by obtain⟨r,h⟩:=gZ.mp h;obtain⟨e,h⟩:=tE.mp h;obtain⟨f,h⟩:=tE.mp h;exact(r,e,f,ix.mpr h,)
 have f01:=t.f01 p;cases a:M4.sub (grp rows) (grp rows p) q with
 |true=>obtain⟨r,d,h⟩:=gnz.mp hz;have g:¬∀r∈rows,bt rows q r=true->bt rows p r=true:=λz=>c (t.cls.mp (geq.mpr λr d=>de.mpr (fQ.mp a r d,z r d,)));obtain⟨s,g,e,f⟩:=i g;rw[if_pos rfl];exact(r,d,s,g,by rw[(t.turn d).mp h,t.mf.mp f];lia,(t.turn d).mp (fQ.mp a r d h),(t.turn g).mp e,)
 |false=>
  obtain⟨r,d,e,f⟩:=i λz=>by rw[fQ.mpr z]at a;cases a
  rw[if_neg 'E'];exact(r,d,_,t.first,by rw[(t.turn d).mp e];show _≠fr rows p;lia,t.mf.mp f,rfl,)
def pT(t:Tbl rows n)(d:p<n)(hz:grp rows p≠0):End rows n p (below rows n p):=by
 refine(DN t _,λq hq c=>?_,λq hq c=>?_,)
 .obtain⟨r,a,h⟩:=gnz.mp hz;have e:=geq.mp (t.cls.mpr c);refine(r,a,?_,?_,);·rw[v9 d];exact(t.turn a).mp h
  .unfold below;rw[iy hq,if_pos (fQ.mpr λs f b=>by rw[<-e s f];exact b)];exact(t.turn a).mp (by rw[<-e r a];exact h)
 .have :=DB t hz c;unfold below;rw[iy hq];exact this
def sx(t:Tbl rows n)(a:p<n)(hz:grp rows p≠0):End rows n p (gT rows n p):=by
 refine(DN t _,λq hq c=>(_,t.first,?_,?_,),λq hq c=>?_,);·rw[BC a];rfl
 .unfold gT;rw[iy hq,if_neg λh=>(jd.mp h).2 (t.cls.mpr c).symm];rfl
 .have :=DB t hz c;unfold gT;rw[iy hq];have e:(M4.above (grp rows) (grp rows p) q=true)↔(M4.sub (grp rows) (grp rows p) q=true):=by rw[jd];exact(λh=>h.1,λh=>(h,λz=>c (t.cls.mp z.symm),),)
  simp only[e];exact this
def pS(t:Tbl rows n)(c:p<n):gT rows n p≠below rows n p:=λh=>by have a:=BC (rows:=rows) c;have b:=v9 (rows:=rows) c;have :=t.f01 p;rw[h,b]at a;lia
def GX{a b:List Int}(h:a≠b):M4.lo a b=M4.lo b a:=by unfold M4.lo;rw[Q.kJ h];cases Q.llt b a<;>rfl
def G6{a b:List Int}(h:a≠b):M4.hi a b=M4.hi b a:=by unfold M4.hi;rw[Q.kJ h];cases Q.llt b a<;>rfl
def MX(t:Tbl rows n)(c:p<n)(hz:grp rows p≠0){u:List Int}(d:End rows n p u)(g:End rows n p v)(l:u≠v):M4.lo (gT rows n p) (below rows n p)=M4.lo u v/\M4.hi (gT rows n p) (below rows n p)=M4.hi u v:=by
 have a:=sx t c hz;have b:=pT t c hz;have h:=BC (rows:=rows) c;have i:=v9 (rows:=rows) c;have f:=t.f01 p;have u1:=d.ok.at p;have k:=g.ok.at p;have j:u.getD p 0≠v.getD p 0:=λz=>l (d.one t c g z);by_cases e:u.getD p 0=fr rows p;·have x:=d.one t c a (by rw[h];exact e);have y:=g.one t c b (by rw[i];exact(neq k f).mp λz=>j (e.trans z.symm));rw[x,y];exact(rfl,rfl,)
 .have x:=d.one t c b (by rw[i];exact(neq u1 f).mp e);have y:=g.one t c a (by rw[h];exact(two u1 k f j).resolve_left e);rw[x,y];exact(GX (pS t c),G6 (pS t c),)
end
end M7
namespace K32
open L2 R Cp Lt Kc K21 K22 Lm M3 M4 M5
def MO{J:It}{k:Nat->V->Hp->Prop}{j:Hp->Prop}{g:TG}{tb:TS}{D:Ends}(S:tj J n k j)(e:Nat->L2.St->Hp->Prop)(h0:e 0 σ H)(m:∀i σ H,i<=n->e i σ H->j H)
  (hs:∀i x σ H H' (D2:Ends),i<n->e i σ H->k i x H'->aO H H'->(∀f H2,e (i+1) f H2->D2.nx f H2)->(∀f H2,e (i+1) f H2->D2.ct f H2)->g x σ H' λf H2=>tb D2 f H2)(l:∀σ H,e n σ H->D.nx σ H):ForB J g tb D σ H:=
 Hb S e h0 m (λi x σ H H' a b c d=>hs i x σ H H' _ a b c d (λ_ _ h=>h) (λ_ _ h=>h)) l
def Cq:tj (Itr 0 n) (nats n).length (λi x _=>(nats n)[i]?<*x) (λ_=>True) where
 go:=λi H h hi=>dB.go i H h (by simpa[nats]using hi)
 stop:=λi H h hi=>dB.stop i H h (by simpa[nats]using hi)
 yld:=λi H x b h hi y=>by
  have a:i<n:=by simpa[nats]using hi
  obtain⟨e,s⟩:=dB.yld i H x b h a y;refine(?_,s,);subst e;unfold nats;rw[ay,bZ a,dP];rfl
def zd{t:V->Bool}{P:Nat->Bool}(h:∀p,p<n->t (.int p)=P p):((nats n).filter t).map id=(plc n P).map V.int:=by unfold nats plc;rw[iK,List.filter_map,bF];rw[show(aF n).filter (t∘λi:Nat=>V.int (i:Int))=(aF n).filter P from List.filter_congr λp a=>h p (aR.mp a)];rfl
def Paired.snoc{c d:Type}{F:c->d->Prop}{a:c}{b:d}(h:F a b){l:List c}{m:List d}(p:Paired F l m):Paired F (l++[a]) (m++[b]):=by
 induction p with
 |nil=>exact .cons h .nil
 |cons x r ih=>exact .cons x ih
def Tk(H H':Hp):Prop:=∀a xs,H a<*(.tup xs)->H' a<*(.tup xs)
def Tk.of(s:aO H H'):Tk H H':=λa _ e=>s a _ e
def Kh(h:H a<*(.lst xs)):Tk H (upd H a (.lst ys)):=λb _ e=>by rw[bj (λz=>by rw[z,h]at e;cases e)];exact e
def rj(t:Tk H H')(h:_root_.Q.IntKeys H ys ps):_root_.Q.IntKeys H' ys ps:=Paired.uf h λv k z=>by obtain⟨a,e,f⟩:=z;exact(a,e,t _ _ f,)
def BrOf(f:Nat->Int)(n:Nat)(g:Nat->Nat)(H:Hp)(v:V)(q:Int):Prop:=∃a x y z,v=V.ref a/\H a<*(.tup [.ref x,.ref y,.ref z])/\H x<*(.tup ((lo (nA f n g q) (nB f n g q)).map V.int))/\H y<*(.tup ((hi (nA f n g q) (nB f n g q)).map V.int))/\H z<*(.tup ((plc n (own g q.toNat)).map V.int))
def nV(f:Nat->Int)(n:Nat)(g:Nat->Nat)(H:Hp)(bs:List V)(qs:List Int):Prop:=Paired (BrOf f n g H) bs qs
def nV.tk{f:Nat->Int}{g:Nat->Nat}(t:Tk H H'){bs:List V}(h:nV f n g H bs qs):nV f n g H' bs qs:=Paired.uf h λv k w=>by obtain⟨a,x,y,z,e,b,c,d,i⟩:=w;exact(a,x,y,z,e,t _ _ b,t _ _ c,t _ _ d,t _ _ i,)
def nV.two{f:Nat->Int}{g:Nat->Nat}{bs:List V}(h:nV f n g H bs qs):_root_.Q.lD H bs (brK f n g qs):=by
 unfold nV at h
 induction h with
 |nil=>exact .nil
 |cons x r ih=>obtain⟨a,x,y,z,e,b,c,d,_⟩:=x;exact .cons (a,x,y,_,e,b,c,d,) ih
def lq{a b:Type}{F:a->b->Prop}{l:List a}{m:List b}(h:Paired F l m):m.length=l.length:=by
 induction h with
 |nil=>rfl
 |cons _ _ ih=>simp[ih]
abbrev gsI(rows:List (List Int))(n:Nat):List Int:=(aF n).map λp:Nat=>(grp rows p:Int)
def A8:(gsI rows n).length=n:=by simp[gsI]
def MJ(h:p<n):(gsI rows n).getD p 0=(grp rows p:Int):=by unfold gsI;rw[ah,ay,bZ h];rfl
abbrev dn(qs:List Int)(k:Nat):List Int:=(qs.take k).filter λq=> !decide (q=0)
def dn_zero(h:qs[k]?<*0):dn qs (k+1)=dn qs k:=by unfold dn;rw[cJ,h,gS];simp
def Hh{q:Int}(h:qs[k]?<*q)(a:q≠0):dn qs (k+1)=dn qs k++[q]:=by unfold dn;rw[cJ,h,gS];simp[a]
def M1{g:Nat->Nat}(h:Grs n g qs):Grs n g (dn qs k):=by have s:(dn qs k).Sublist qs:=tL.trans (wj k qs);exact(h.1.sublist s,λq hq=>h.2 q (s.subset hq),)
def M0{g:Nat->Nat}(h:Grs n g qs):(dn qs k).length<=n:=A9 (M1 h)
structure Fx(H:Hp)(gl nd br so:Addr):Prop where
 fnd:H nd=none
 fbr:H br=none
 n1:nd≠br
 n2:nd≠gl
 n3:nd≠so
 n4:br≠gl
 n5:br≠so
structure Gx(rows:List (List Int))(n:Nat)(qs:List Int)(H:Hp)(gl nd br so:Addr)(ds:List Int)(ks bs:List V)(H':Hp):Prop where
 s:aO H H'
 eg:H' gl<*(.lst ((gsI rows n).map V.int))
 eo:H' so<*(.lst (qs.map V.int))
 en:H' nd<*(.lst ks)
 eb:H' br<*(.lst bs)
 nk:_root_.Q.IntKeys H' ks (jc (fr rows) n (grp rows) ds)
 bk:nV (fr rows) n (grp rows) H' bs ds
section
variable {gl nd br so c r0:Addr}{ds:List Int}{ks bs:List V}{G:Gam}{E:XS}{D:Ends}
def Gx.same(g:Gx rows n qs H gl nd br so ds ks bs H')(s:aO H' H2):Gx rows n qs H gl nd br so ds ks bs H2:=
 (g.s.trans s,s _ _ g.eg,s _ _ g.eo,s _ _ g.en,s _ _ g.eb,rj (Tk.of s) g.nk,g.bk.tk (Tk.of s),)
def Gx.ksl(g:Gx rows n qs H gl nd br so ds ks bs H'):ks.length=ds.length+1:=by have :=lq g.nk;simpa[jc]using this.symm
def Gx.bsl(g:Gx rows n qs H gl nd br so ds ks bs H'):bs.length=ds.length:=(lq g.bk).symm
def Gv(rows:List (List Int))(n:Nat)(qs:List Int)(H:Hp)(c r0 gl nd br so:Addr)(k:Nat)(σ:L2.St)(H':Hp):Prop:=
 (∃ks bs,Gx rows n qs H gl nd br so (dn qs k) ks bs H')/\∃u v w x y,σ=[some (.ref c),some (.ref r0),some (.ref gl),some (.ref nd),some (.ref br),u,v,w,x,y]
def E3{f:Nat->Int}{g:Nat->Nat}{q:Int}:jc f n g (ds++[q])=jc f n g ds++[nB f n g q]:=by simp[jc]
def pick{p:Prop}[Decidable p]{x y:Addr}{A B:List Int}(a:H x<*(.tup (A.map V.int)))(b:H y<*(.tup (B.map V.int))):∃z,(if p then V.ref y else V.ref x)=V.ref z/\H z<*(.tup ((if p then B else A).map V.int)):=by
 split;·exact(y,rfl,b,)
 .exact(x,rfl,a,)
def Aa(F:Fx H gl nd br so)(T:n<=60)(hq:Grs n (grp rows) qs){q:Int}(L:qs[k]?<*q)(h0:q≠0)(J:∀u H2,Gv rows n qs H c r0 gl nd br so (k+1) u H2->D.nx u H2)
  (s:aO H H')(v:H' gl<*(.lst ((gsI rows n).map V.int)))(A:H' so<*(.lst (qs.map V.int)))(w:H' nd<*(.lst ks))(m:H' br<*(.lst bs))(P:_root_.Q.IntKeys H' ks (jc (fr rows) n (grp rows) (dn qs (k+1))))(bk:nV (fr rows) n (grp rows) H' bs (dn qs k))
  (B:H' pl<*(.lst ((plc n (own (grp rows) q.toNat)).map V.int)))(g:H' be<*(.tup ((nB (fr rows) n (grp rows) q).map V.int)))(f:H' ab<*(.tup ((nA (fr rows) n (grp rows) q).map V.int))):
  wpB G K E pA D [some (.ref c),some (.ref r0),some (.ref gl),some (.ref nd),some (.ref br),some (.int q),some (.ref pl),some (.ref ar),some (.ref be),some (.ref ab)] H':=by
 have S:(dn qs k).length<=n:=M0 hq;have R:=lq bk;unfold pA;ext;have t:(nA (fr rows) n (grp rows) q).length=(nB (fr rows) n (grp rows) q).length:=(jm _ _ _).trans (jm _ _ _).symm;obtain⟨x,C,M⟩:=pick (p:=_root_.Q.llt (nB (fr rows) n (grp rows) q) (nA (fr rows) n (grp rows) q)=true) f g;obtain⟨y,I,N⟩:=pick (p:=_root_.Q.llt (nA (fr rows) n (grp rows) q) (nB (fr rows) n (grp rows) q)=true) f g;refine(.inl (rfl,_,SqL.of m,),ab,be,_,_,rfl,SqT.of f,SqT.of g,t,ab,be,_,_,rfl,SqT.of f,SqT.of g,t,?_,);rw[C,I];refine⟨pl,_,rfl,.inl ⟨SqL.of B,λz O=>(short 'F',λa r=>?_,)⟩⟩;have d:aO H' (upd (upd H' z (.tup ((plc n (own (grp rows) q.toNat)).map V.int))) a (.tup [.ref x,.ref y,.ref z])):=(aL O).trans (aL r);have j:upd (upd H' z (.tup ((plc n (own (grp rows) q.toNat)).map V.int))) a (.tup [.ref x,.ref y,.ref z]) a<*(.tup [.ref x,.ref y,.ref z]):=aD;have l:upd (upd H' z (.tup ((plc n (own (grp rows) q.toNat)).map V.int))) a (.tup [.ref x,.ref y,.ref z]) z<*(.tup ((plc n (own (grp rows) q.toNat)).map V.int)):=aL r _ _ aD;generalize upd (upd H' z (.tup ((plc n (own (grp rows) q.toNat)).map V.int))) a (.tup [.ref x,.ref y,.ref z])=H1 at d j l⊢;have o:=d _ _ m;refine(br,bs,_,rfl,rfl,o,lt60 'D',J _ _ ((ks,bs++[.ref a],?_,),_,_,_,_,_,rfl,),);have i:Tk H1 (upd H1 br (.lst (bs++[V.ref a]))):=Kh o;have h:Tk H' (upd H1 br (.lst (bs++[V.ref a]))):=λb Q e=>i b Q (d _ _ e);refine(fU (s.trans d) F.fbr,?_,?_,?_,aD,rj h P,?_,);·rw[bj (bI F.n4)];exact d _ _ v
 .rw[bj (bI F.n5)];exact d _ _ A
 .rw[bj F.n1];exact d _ _ w
 .rw[Hh L h0];exact Paired.snoc (a,x,y,z,rfl,i _ _ j,h _ _ M,h _ _ N,i _ _ l,) (bk.tk h)
def Ab(F:Fx H gl nd br so)(j:n<=60)(hq:Grs n (grp rows) qs){q:Int}(d:qs[k]?<*q)(h0:q≠0)(i:∀e H2,Gv rows n qs H c r0 gl nd br so (k+1) e H2->D.nx e H2)
  (g:Gx rows n qs H gl nd br so (dn qs k) ks bs H')(l:pl≠nd)(h:H' pl<*(.lst ((plc n (own (grp rows) q.toNat)).map V.int)))(b:H' be<*(.tup ((nB (fr rows) n (grp rows) q).map V.int)))(f:H' ab<*(.tup ((nA (fr rows) n (grp rows) q).map V.int))):
  wpB G K E pB D [some (.ref c),some (.ref r0),some (.ref gl),some (.ref nd),some (.ref br),some (.int q),some (.ref pl),some (.ref ar),some (.ref be),some (.ref ab)] H':=by
 have m:(dn qs k).length<=n:=M0 hq;have o:=g.ksl;unfold pB;ext;refine(.inl (rfl,_,SqL.of g.en,),nd,ks,_,rfl,rfl,g.en,lt60 'D',?_,);have a:Tk H' (upd H' nd (.lst (ks++[V.ref be]))):=Kh g.en;refine Aa F j hq d h0 i (fU g.s F.fnd) ?_ ?_ aD ?_ ?_ (g.bk.tk a) ?_ (a _ _ b) (a _ _ f);·rw[bj (bI F.n2)];exact g.eg
 .rw[bj (bI F.n3)];exact g.eo
 .rw[bj (bI F.n1)];exact g.eb
 .rw[Hh d h0,E3];exact Paired.snoc (be,rfl,a _ _ b,) (rj a g.nk)
 .rw[bj l];exact h
def wN{P:Nat->Bool}{Q:VK}{d:TT}{τs:List (Option V)}(s:n<=60)
  (step:∀(p:Nat)(u:Option V)(a:Hp)(R:Bool->Hp->Prop),p<n->aO H1 a->R (P p) a->d (some (.int p)::τs) a R)
  (g:∀H2 l,aO H1 H2->H2 l=none->Q (.ref l) (upd H2 l (.lst ((plc n P).map V.int)))):
  yb (Itr 0 n) (oa 0) d (wA 0) (none::τs) H1 Q:=by
 refine uC (xs:=nats n) Cq (vN (by unfold nats;simp;lia)) (λ_ _=>trivial) (λv=>match v with |.int i=>P i.toNat|_=>false) id (λf=>∃u,f=u::τs) (none,rfl,) ?_ ?_
 .rintro x f a r q c ⟨u,rfl⟩ o k kf;unfold nats at c;obtain⟨p,b,rfl⟩:=aI.mp c;have b:=aR.mp b;refine step p u a _ b o ?_;have e:P ((p:Int)).toNat=P p:=by rw[bo]
  cases h:P p with
  |true=>rw[if_pos rfl];exact(_,rfl,k _ _ (_,rfl,) (aO.refl _) (e.trans h),)
  |false=>rw[if_neg aq];exact kf _ _ (_,rfl,) (aO.refl _) (e.trans h)
 .intro H2 l m j;rw[zd (P:=P) λp b=>by show P ((p:Int)).toNat=P p;rw[bo]];exact g H2 l m j
def Ac(h:G.fn "turned" 2<*(oS K,[]))(F:Fx H gl nd br so)(i:n<=60)(u:(rows.getD 0 []).length=n)(v:H r0<*(.tup ((rows.getD 0 []).map V.int)))(hq:Grs n (grp rows) qs){q:Int}(t:qs[k]?<*q)(h0:q≠0)(s:∀j H2,Gv rows n qs H c r0 gl nd br so (k+1) j H2->D.nx j H2){x y:Option V}
  (g:Gx rows n qs H gl nd br so (dn qs k) ks bs H')(w:pl≠nd)(f:H' pl<*(.lst ((plc n (own (grp rows) q.toNat)).map V.int)))(r:H' ar<*(.lst ((plc n (M4.sub (grp rows) q.toNat)).map V.int))):
  wpB G K E pC D [some (.ref c),some (.ref r0),some (.ref gl),some (.ref nd),some (.ref br),some (.int q),some (.ref pl),some (.ref ar),x,y] H':=by
 unfold pC;ext;refine(_,_,h,r0,ar,_,_,rfl,SqT.of (g.s _ _ v),SqL.of r,'D',λz l b _ a=>?_,);have m:trn (rows.getD 0 []) (plc n (M4.sub (grp rows) q.toNat))=nB (fr rows) n (grp rows) q:=by rw[<-u];exact HG
 rw[m]at a;unfold vk;ext;refine(_,_,h,l,pl,_,_,rfl,SqT.of a,SqL.of (b _ _ f),by unfold nB;rw[jm];exact i,λH2 A d _ e=>?_,);have o:trn (nB (fr rows) n (grp rows) q) (plc n (own (grp rows) q.toNat))=nA (fr rows) n (grp rows) q:=by unfold nB nA;rw[trn_bl λp=>own_sub,NF]
 rw[o]at e;exact Ab F i hq t h0 s (g.same (b.trans d)) w (d _ _ (b _ _ f)) (d _ _ a) e
def Ad(L:G.fn "turned" 2<*(oS K,[]))(F:Fx H gl nd br so)(i:n<=60)(t:(rows.getD 0 []).length=n)(l:H r0<*(.tup ((rows.getD 0 []).map V.int)))(hq:Grs n (grp rows) qs){q:Int}(s:qs[k]?<*q)(h0:q≠0)(M:∀I H2,Gv rows n qs H c r0 gl nd br so (k+1) I H2->D.nx I H2){v w x y:Option V}
  (g:Gx rows n qs H gl nd br so (dn qs k) ks bs H'):
  wpB G K E pD D [some (.ref c),some (.ref r0),some (.ref gl),some (.ref nd),some (.ref br),some (.int q),v,w,x,y] H':=by
 obtain⟨T,S,J⟩:=hq.2 q (aH s);have A:q=(q.toNat:Int):=by rw[J,bo]
 have B:((rows.getD 0 []).map V.int).length=n:=by rw[ao];exact t
 unfold pD;ext;refine dY ?_;ext;refine Or.inl (r0,_,rfl,.inr (SqT.of (g.s _ _ l)),_,rfl,'D','D',?_,);rw[B,bo];refine wN (P:=own (grp rows) q.toNat) (τs:=[some (.int q),some (.ref gl)]) i ?_ ?_
 .intro p u m R b a h;ext;refine .inl (gl,_,p,_,rfl,rfl,SqL.of (a _ _ g.eg),cy (gv (by rw[A8];exact b)),?_,);rw[MJ b];refine zv.mpr ?_;refine(_,rfl,?_,);have e:decide ((grp rows p:Int)=q)=own (grp rows) q.toNat p:=by unfold M5.own;rw[A,bo];exact decide_eq_decide.mpr 'D'
  rw[e];exact h
 intro f d C j;have O:aO H' (upd f d (.lst ((plc n (own (grp rows) q.toNat)).map V.int))):=C.trans (aL j);have o:upd f d (.lst ((plc n (own (grp rows) q.toNat)).map V.int)) d<*(.lst ((plc n (own (grp rows) q.toNat)).map V.int)):=aD;have N:d≠nd:=λz=>by rw[z,C _ _ g.en]at j;cases j
 have g:=g.same O;generalize upd f d (.lst ((plc n (own (grp rows) q.toNat)).map V.int))=H2 at o g⊢;unfold vm;ext;refine dY ?_;ext;refine Or.inl (r0,_,rfl,.inr (SqT.of (g.s _ _ l)),_,rfl,'D','D',?_,);rw[B,bo];refine wN (P:=M4.sub (grp rows) q.toNat) (τs:=[some (.int q),some (.ref gl)]) i ?_ ?_
 .intro p u m R b a h;ext;refine .inl (gl,_,p,_,rfl,rfl,SqL.of (a _ _ g.eg),cy (gv (by rw[A8];exact b)),?_,);rw[MJ b];refine and_ii.mpr (zv.mpr (_,rfl,?_,));have e:decide (jw (grp rows p:Int) q=q)=M4.sub (grp rows) q.toNat p:=by unfold M4.sub;rw[A,and_nat,bo];exact decide_eq_decide.mpr 'D'
  rw[e];exact h
 intro m Q a r;exact Ac L F i t l hq s h0 M (g.same (a.trans (aL r))) N ((a.trans (aL r)) _ _ o) aD
end
def uI(rows:List (List Int))(n:Nat)(H:Hp)(H':Hp)(p:Addr):Prop:=∃(a bl:Addr)(ks bs:List V)(qs:List Int),H' p<*(.tup [.ref a,.ref bl])/\H a=none/\H bl=none/\a≠bl/\Grs n (grp rows) qs/\0∉qs/\(∀p,p<n->grp rows p≠0->(grp rows p:Int)∈qs)/\
 _root_.Q.IntKeys H' ks (jc (fr rows) n (grp rows) qs)/\nV (fr rows) n (grp rows) H' bs qs/\H' a<*(.lst (_root_.Q.dU .non (jc (fr rows) n (grp rows) qs) ks))/\H' bl<*(.lst (_root_.Q.dU .non ((brK (fr rows) n (grp rows) qs).map _root_.Q.nR) bs))
def wJ:Sp:=λvs H Q _=>∃(c:Addr)(ys:List V)(n:Nat)(rows:List (List Int)),vs=[.ref c]/\Cps H c ys n rows/\ys≠[]/\∀H' p,aO H H'->H p=none->uI rows n H H' p->Q (.ref p) H'
def HE(g1:G.fn "group_at" 2<*(Ap,[]))(I:G.fn "turned" 2<*(oS K,[])):Sat G K wJ Hn GQ:=by
 rintro vs H b4 b3 ⟨c,O,n,a,rfl,d,hy,q⟩;unfold Hn;change wpB G K _ _ _ [some (.ref c),none,none,none,none,none,none,none,none,none] H;ext;have r:0<O.length:=eN.mpr hy;obtain⟨a1,z,s,e1,e2,S⟩:=d.at_ 0 O[0] (ae r);obtain⟨X,hf⟩:=d.row r;have hf:∀p,p<n->fr a p=0\/fr a p=1:=hf;have hn:=d.n60;have a9:((a.getD 0 []).map V.int).length=n:=by rw[ao];exact X
 have g0:O[0]?<*(.ref a1):=by rw[ae r,e1]
 refine .inl (c,O,0,_,rfl,rfl,SqL.of d.ec,cy (j:=0) g0,?_,);refine .inr (.inl (a1,_,1,_,rfl,rfl,SqT.of e2,rfl,?_,));unfold zH;ext;refine dY ?_;ext;refine Or.inl (s,_,rfl,.inr (SqT.of S),_,rfl,'D','D',?_,);rw[a9,bo];refine eT dB (vN 'D') (λ_ _=>trivial) (λi a0 _=>a0=.int (grp a i)) (λ_ _ _ _ _ h=>h) (λτ=>∃u,τ=[u,some (.ref c)]) (none,rfl,) ?_ ?_;·rintro i b1 τ D b5 hi ⟨u,rfl⟩ w rfl k;ext;simp only[dP];exact(_,_,g1,c,i,O,n,a,rfl,d.same w,hy,'D',λE N=>k _ _ _ (_,rfl,) N rfl,)
 intro vs H1 gl c0 hF s1 a8;have ev:vs=(gsI a n).map V.int:=by
  unfold gsI;apply nZ;intro i;rw[ay,ay];by_cases hi:i<vs.length;·rw[ae hi,bZ 'D',hF i _ (ae hi)];rfl
  .rw[eR 'D',eR (by rw[bC];lia)];rfl
 rw[ev];generalize hX:upd H1 gl _=H2;obtain⟨M,t⟩:=fh hX a8;clear hX
 replace M:=s1.trans (M)
 unfold zG;ext;refine(short 'F',λf R=>?_,);have w:aO H2 (upd H2 f (.lst [.ref s])):=aL R;have v:upd H2 f (.lst [.ref s]) f<*(.lst [.ref s]):=aD;have n2:f≠gl:=λz=>by rw[z,t]at R;cases R
 have fnd:H f=none:=M.free R;generalize upd H2 f (.lst [.ref s])=D at w v⊢;unfold zF;ext;refine(short 'F',λe y=>?_,);have N:aO D (upd D e (.lst [])):=aL y;have T:upd D e (.lst []) e<*(.lst []):=aD;have n1:f≠e:=λz=>by rw[<-z,v]at y;cases y
 have n4:e≠gl:=λz=>by rw[z,w _ _ t]at y;cases y
 have a7:H e=none:=(M.trans w).free y;have v:=N _ _ v;have t:=N _ _ (w _ _ t);have Z:=M.trans (w.trans N);generalize upd D e (.lst [])=E at Z T v t⊢;unfold zE;ext;refine gM ?_;ext;refine(_,rfl,gl,gsI a n,rfl,SqL.of t,Few.of (by rw[A8];lia),λms l a4 mem L=>?_,);obtain⟨b,eq,Y⟩:=_root_.Q.HN a4;have hq:Grs n (grp a) b:=⟨Y.nodup_iff.mpr a4,λq hq=>by have h:=(mem q).mp (Y.mem_iff.mp hq);unfold gsI at h;obtain⟨p,A,a6⟩:=aI.mp h;exact(p,aR.mp A,a6.symm,)⟩
 rw[eq];have C:aO E (upd E l (.lst (b.map V.int))):=aL L;have W:upd E l (.lst (b.map V.int)) l<*(.lst (b.map V.int)):=aD;have n3:f≠l:=λz=>by rw[<-z,v]at L;cases L
 have n5:e≠l:=λz=>by rw[<-z,T]at L;cases L
 have a5:Fx H gl f e l:=(fnd,a7,n1,n2,n3,n4,n5,);generalize upd E l (.lst (b.map V.int))=H5 at C W⊢;have gx:Gx a n b H gl f e l (dn b 0) [.ref s] [] H5:=by
  refine(Z.trans C,C _ _ t,W,C _ _ v,C _ _ T,?_,.nil,);refine .cons (s,rfl,?_,) .nil;have ef:bl (fr a) n (λ_=>false)=a.getD 0 []:=by rw[<-X];exact MS _
  rw[ef];exact(Z.trans C) _ _ S
 refine(l,rfl,(_,SqL.of W,),MO (eS (xs:=b.map V.int)) (Gv a n b H c s gl f e l) ((_,_,gx,),_,_,_,_,_,rfl,) (λk σ H' _ g=>?_) ?_ ?_,);·obtain⟨⟨m,bs,g⟩,_⟩:=g;exact SqL.of g.eo
 .rintro k b1 σ F H7 D2 hk ⟨⟨m,bs,g⟩,u,a0,b0,x',b2,rfl⟩ hx s7 hD hC;have g:=g.same s7;rw[ao]at hk;have Q:b[k]?<*b[k]:=ae hk;rw[ay,Q]at hx;cases hx;generalize b[k]=q at Q;ext;by_cases r:q=0;·rw[decide_eq_true r,if_pos rfl];refine hC _ _ ((m,bs,?_,),_,_,_,_,_,rfl,);rw[dn_zero (by rw[Q,r])];exact g
  .rw[decide_eq_false r,if_neg aq];exact Ad I a5 hn X S hq Q r hD g
 .rintro σ F ⟨⟨m,bs,g⟩,u,a0,b0,x',b2,rfl⟩;rw[ao]at g;have J:Grs n (grp a) (dn b b.length):=M1 hq;have a2:dn b b.length=b.filter λq=> !decide (q=0):=by unfold dn;rw[dg]
  have z0:(0:Int)∉dn b b.length:=λz=>by rw[a2]at z;simpa using(d4.mp z).2
  have all:∀p,p<n->grp a p≠0->(grp a p:Int)∈dn b b.length:=λp A h=>by
   rw[a2];refine d4.mpr (Y.mem_iff.mpr ((mem _).mpr ?_),?_,);·unfold gsI;exact aI.mpr (p,aR.mpr A,rfl,)
   .have :¬((grp a p:Int)=0):=by lia
    rw[decide_eq_false this];rfl
  generalize dn b b.length=ds at g J z0 all;have b8:ds.length<=n:=A9 J;have b9:=g.ksl;have b7:=g.bsl;have c1:=lq g.nk;have b6:=lq g.bk.two;unfold zD;ext;refine(f,m,_,n,rfl,SqL.of g.en,'D',w8 hf J,Iz,g.nk,λB a3=>?_,);have t1:aO F (upd F B (.lst (_root_.Q.dU .non (jc (fr a) n (grp a) ds) m))):=aL a3;have U:upd F B (.lst (_root_.Q.dU .non (jc (fr a) n (grp a) ds) m)) B<*(.lst (_root_.Q.dU .non (jc (fr a) n (grp a) ds) m)):=aD;have x:=g.same t1;generalize upd F B (.lst (_root_.Q.dU .non (jc (fr a) n (grp a) ds) m))=H7 at t1 U x⊢;refine⟨e,bs,_,n,rfl,SqL.of x.eb,'D',FN hf J,brK_len,x.bk.two,λbl P=>(short 'F',λp A=>?_,)⟩;have t2:=aL (o:=.lst (_root_.Q.dU .non ((brK (fr a) n (grp a) ds).map _root_.Q.nR) bs)) P;have t3:=aL (o:=.tup [.ref B,.ref bl]) A;have I:=x.same (t2.trans t3);refine q _ p I.s (((x.s).trans t2).free A) (B,bl,m,bs,ds,aD,g.s.free a3,x.s.free P,λz=>by(rw[<-z,U]at P;cases P),J,z0,all,I.nk,I.bk,(t2.trans t3) _ _ U,t3 _ _ aD,)
end K32
namespace K32
open R
abbrev n6:List Str:=["self","one","other","names"]
abbrev kc:List Str:=["self","one","other","names"]
abbrev l7:CB:=
  (.cons (.fldX (.var 0) "names" (.var 3))
  .nil)
abbrev l9:CB:=
  (.cons (.fldX (.var 0) "other" (.var 2))
  l7)
abbrev ma:CB:=
  (.cons (.fldX (.var 0) "one" (.var 1))
  l9)
abbrev kA:CB:=
  (.cons (.expr (.base "KinError" (.cons (.var 0) (.cons (.var 1) (.cons (.var 2) (.cons (.var 3) .nil))))))
  ma)
abbrev wV:List Str:=["table"]
abbrev oW:List Str:=["table","found"]
abbrev m9:CB:=
  (.cons (.iff (.cmp .IsNot (.var 1) (.con .none))
  (.cons (.raisX "Clash" (.cons (.idx (.var 1) (.con (.int 0))) (.cons (.idx (.var 1) (.con (.int 1))) (.cons (.idx (.var 1) (.con (.int 2))) .nil))))
  .nil)
  .nil)
  .nil)
abbrev ph:CB:=
  (.cons (.asg (.name 1) (.call "clash" (.cons (.var 0) .nil)))
  m9)
abbrev p_tree:List Str:=["table"]
abbrev LX:List Str:=["table","copies"]
abbrev DK:CB:=
  (.cons (.ret (.call "grown" (.cons (.var 1) .nil)))
  .nil)
abbrev DL:CB:=
  (.cons (.iff (.cmp .Eq (.bfn .len (.cons (.var 1) .nil)) (.con (.int 0)))
  (.cons (.ret (.tup (.cons (.lst .nil) (.cons (.lst .nil) .nil))))
  .nil)
  .nil)
  DK)
abbrev DM:CB:=
  (.cons (.expr (.call "refuse_clash" (.cons (.var 1) .nil)))
  DL)
abbrev Nu:CB:=
  (.cons (.asg (.name 1) (.call "table_list" (.cons (.var 0) .nil)))
  DM)
end K32
namespace K32
open L2 R Cp Lt Kc K21 K22 Lm M5
def put2{x:V}:nH (bh "other") y [(bh "one",x)]=[(bh "one",x),(bh "other",y)]:=by unfold nH nH;rw[if_neg (by decide+kernel)]
def put3{x z:V}:nH (bh "names") z [(bh "one",x),(bh "other",y)]=[(bh "one",x),(bh "other",y),(bh "names",z)]:=by unfold nH nH nH;rw[if_neg (by decide+kernel),if_neg (by decide+kernel)]
structure Cl(K:ak)(B C:Addr):Prop where
 bs:BsX K B
 s1:StX K C "one"
 s2:StX K C "other"
 s3:StX K C "names"
 ex:∃f,uu K C f bmV "ValueError.__new__"=true
abbrev Fp(x y z:V):List (Str×V):=[("one",x),("other",y),("names",z)]
def An(C:Addr):Sp:=λvs H Q _=>∃a x y z,vs=[.ref a,x,y,z]/\H a<*(exO a C none)/\∀dd H',dd≠a->H dd=none->H' a<*(exO a C (some dd))->H' dd<*(xdO dd (Fp x y z))->(∀b,b≠a->b≠dd->H' b=H b)->Q .non H'
def JZ{B:Addr}(v1:G.val "KinError"<*(.ref B))(n:Cl K B C):
  Sat G K (An C) kA kc:=by
 rintro j H Q E ⟨a,x,y,z,rfl,g,q⟩;unfold kA;change wpB G K _ _ _ [some (.ref a),some x,some y,some z] H;ext;obtain⟨f,hf⟩:=n.ex;refine(B,v1,n.bs,?_,);refine(_,rfl,_,rfl,_,rfl,_,rfl,a,C,f,[x,y,z],rfl,g,short (by show 3<=40;decide),hf,?_,);unfold ma;refine(_,rfl,_,rfl,a,C,rfl,n.s1,.inl (g,λc h=>?_,),);have ne:c≠a:=λe=>by rw[e,g]at h;cases h
 unfold l9;refine⟨_,rfl,_,rfl,a,C,rfl,n.s2,.inr (c,_,aD,by rw[bj ne];exact aD,'F',?_,)⟩;unfold l7;rw[put2];refine⟨_,rfl,_,rfl,a,C,rfl,n.s3,.inr (c,_,by rw[bj (bI ne)];exact aD,aD,'F',?_,)⟩;rw[put3];refine q c _ ne h ?_ aD λb i d=>?_;·rw[bj (bI ne),bj (bI ne)];exact aD
 .rw[bj d,bj d,bj i,bj d]
def wH(C CC:Addr)(T:Tb):Sp:=λvs H Q E=>∃x,vs=[x]/\Kn4 H x/\Tab T H/\(dX H x=false->∀H',aO H H'->E (.ref C) none H')/\
 (dX H x=true->(NoC (rowsOf H x) (count H x)->∀H',Gr T H H'->Q .non H')/\
  ∀H' (i j:Nat)(l dd:Addr),Gr T H H'->NI (rowsOf H x) (count H x) i j->H' l<*(.tup ((KP.map (uU (rowsOf H x) i j)).map V.str))->H' dd<*(xdO dd (Fp (.int i) (.int j) (.ref l)))->E (.ref CC) (some dd) H')
def HC{T:Tb}(w:G.fn "clash" 1<*(As C T,[]))(y:G.ini "Clash" 3<*(CC,An CC,[])):
  Sat G K (wH C CC T) ph oW:=by
 rintro O H Q E ⟨x,rfl,B,tb,I,J⟩;unfold ph;change wpB G K _ _ _ [some x,none] H;ext;refine(_,_,w,x,rfl,B,tb,λe d v gr N=>?_,I,);obtain⟨M,L⟩:=J e;unfold m9;ext;rcases N with⟨rfl,z⟩ |⟨i,j,a,l,rfl,t,f,s⟩;·rw[if_neg 'F'];exact M z d gr
 .rw[if_pos 'F'];refine(CC,_,_,y,?_,);refine(_,rfl,.inr (.inl (a,_,0,_,rfl,rfl,SqT.of f,rfl,?_,)),);refine(_,rfl,.inr (.inl (a,_,1,_,rfl,rfl,SqT.of f,rfl,?_,)),);refine(_,rfl,.inr (.inl (a,_,2,_,rfl,rfl,SqT.of f,rfl,?_,)),);refine(short (by show 3<=40;decide),λp D=>(p,_,_,_,rfl,aD,λc n ne k o q r=>(rfl,some c,o,?_,),),);have A:d c=none:=by rw[bj ne]at k;exact k
  have m:aO d (del n p):=λb u g=>by have h:b≠p:=cA g D;have F:b≠c:=cA g A;rw[kh h,r b h F,bj h];exact g
  exact L _ i j l c (gr.trans (Gr.of m)) t (m _ _ s) (by rw[kh ne];exact q)
def Cm{x:V}(e:dX H x=true)(m:H' l<*(.lst zs))(h:zs.map (cd H')=rowsOf H x)(tt:dX H' (.ref l)=true):rowsOf H' (.ref l)=rowsOf H x/\srt H' (.ref l)=zs:=by
 have i:eV (H' l)<*zs:=by rw[m];rfl
 obtain⟨w,B,o,j,y,z,b,A⟩:=fk tt;cases o;rw[i]at j;cases j;obtain⟨a,ys,rfl,p,t,u,g,v⟩:=fk e;have c:∀l:List V,l.filter (λ_=>true)=l:=λl=>List.filter_eq_self.mpr λ_ _=>rfl;have r:(_root_.Q.sortBy V.non (ys.map (bp H)) ys).map (bp H)=_root_.Q.sortBy ("":Str) (ys.map (bp H)) (ys.map (bp H)):=by
  have :=_root_.Q.uS V.non (bp H) (λ_=>true) g
  rwa [c,c]at this
 have s:(_root_.Q.sortBy V.non (zs.map (bp H')) zs).map (bp H')=_root_.Q.sortBy ("":Str) (zs.map (bp H')) (zs.map (bp H')):=by
  have :=_root_.Q.uS V.non (bp H') (λ_=>true) b
  rwa [c,c]at this
 have n:zs.map (bp H')=_root_.Q.sortBy ("":Str) (ys.map (bp H)) (ys.map (bp H)):=by rw[<-r,<-rN p];have :=congrArg (List.map JS) h;unfold rowsOf at this;rw[bF,bF]at this;exact this
 have q:=_root_.Q.gf V.non b (ys:=zs) 'F';have k:_root_.Q.sortBy V.non (zs.map (bp H')) zs=zs:=by refine xq (Iy b) (λa d=>q.mem_iff.mp d) (λa d=>d) ?_;rw[s];refine _root_.Q.mi (_root_.Q.gf ("":Str) b rfl) (_root_.Q.jJ b) ?_;rw[n];exact _root_.Q.jJ g
 have f:srt H' (.ref l)=zs:=by rw[rN i,k]
 refine(?_,f,);show(srt H' (.ref l)).map (cd H')=_;rw[f];exact h
abbrev intOf:V->Int
 |.int i=>i
 |_=>0
def uo(h:∀z∈zs,cm z=true):(zs.map intOf).map V.int=zs/\∀x∈zs.map intOf,x=0\/x=1:=by
 constructor
 .rw[bF]
  conv =>rhs;rw[<-iK zs]
  refine cN λz a=>?_;rcases gH (h z a)with e|e<;>rw[e]<;>rfl
 .intro x b;obtain⟨z,a,rfl⟩:=aI.mp b;rcases gH (h z a)with e|e<;>rw[e];·exact .inl rfl
  .exact .inr rfl
abbrev rI(R:List (Str×List V)):List (List Int):=R.map λp=>p.2.map intOf
def cps_of(d:H l<*(.lst zs))(tt:dX H (.ref l)=true):Cps H l zs (count H (.ref l)) (rI (zs.map (cd H))):=by
 have g:eV (H l)<*zs:=by rw[d];rfl
 obtain⟨x,A,q,m,w,c,z,n⟩:=fk tt;cases q;rw[g]at m;cases m;refine(d,w,by simp[rI],?_,λi y e=>?_,λr v=>?_,)
 .cases zs with
  |nil=>show(match eV (H l)with |some (y::_)=>cV H y|_=>0)<=60;rw[g];exact bf _
  |cons y r=>rw[<-n y (.head _)];obtain⟨_,_,_,_,_,_,_,_,s,_,_,t⟩:=i4 (c y (.head _));rw[t];exact s
 .obtain⟨b,r,rfl,h,j,k,a⟩:=lZ (c y (aH e));refine(b,_,r,rfl,h,?_,);have o:(rI (zs.map (cd H))).getD i []=(tW H (.ref b)).map intOf:=by unfold rI;rw[ah,ay,ay,e];rfl
  rw[o,(uo a).1];exact j
 .obtain⟨p,u,rfl⟩:=aI.mp v;obtain⟨y,f,rfl⟩:=aI.mp u;obtain⟨b,r,rfl,h,j,k,a⟩:=lZ (c y f);refine(?_,(uo a).2,);rw[ao,<-n _ f];exact k
def gr_free{T:Tb}{p:Addr}(g:Gr T H H')(t:Tab T H')(h:H' p=none):H p=none:=by
 cases e:H p with
 |none=>rfl
 |some o=>
  have a:p≠T.P:=λz=>by rw[z]at h;rcases t with t|⟨_,_,_,_,_,t,_⟩<;>(rw[h]at t;cases t)
  rw[g.keep p o a e]at h;cases h
def Cps.gr{T:Tb}(d:Cps H c ys n rows)(g:Gr T H H')(tt:Tab T H):Cps H' c ys n rows:=
 {d with ec:=g.lst tt d.ec,at_:=λi y e=>let⟨b,z,r,h1,h2,h3⟩:=d.at_ i y e;(b,z,r,h1,g.Ew tt h2,g.Ew tt h3,)}
def uI.old{p:Addr}(g:uI rows n H H' p)(f:∀p,H p=none->H0 p=none):uI rows n H0 H' p:=by obtain⟨h,bl,e,bs,i,a,b,c,d⟩:=g;exact(h,bl,e,bs,i,a,f _ b,f _ c,d,)
def TreeK(R:List (Str×List V))(n:Nat)(H H':Hp)(p:Addr):Prop:=
 (R=[]/\∃a b,H' p<*(.tup [.ref a,.ref b])/\H a=none/\H b=none/\a≠b/\H' a<*(.lst [])/\H' b<*(.lst []))\/(R≠[]/\uI (rI R) n H H' p)
def Aj(C CC:Addr)(T:Tb):Sp:=λvs H Q E=>∃x,vs=[x]/\Kn4 H x/\Tab T H/\(dX H x=false->∀H',aO H H'->E (.ref C) none H')/\
 (dX H x=true->(NoC (rowsOf H x) (count H x)->∀H' p,Gr T H H'->H p=none->TreeK (rowsOf H x) (count H x) H H' p->Q (.ref p) H')/\
  ∀H' (i j:Nat)(l dd:Addr),Gr T H H'->NI (rowsOf H x) (count H x) i j->H' l<*(.tup ((KP.map (uU (rowsOf H x) i j)).map V.str))->H' dd<*(xdO dd (Fp (.int i) (.int j) (.ref l)))->E (.ref CC) (some dd) H')
def wp_tree{T:Tb}(P:G.fn "table_list" 1<*(Am C T,[]))(Q:G.fn "refuse_clash" 1<*(wH C CC T,[]))(S:G.fn "grown" 1<*(wJ,[])):
  Sat G K (Aj C CC T) Nu LX:=by
 rintro vs H a2 a1 ⟨x,rfl,W,tb,Z,q2⟩;unfold Nu;change wpB G K _ _ _ [some x,none] H;ext;refine(_,_,P,x,rfl,W,tb,λe H1 l s gr hl u M=>?_,Z,);obtain⟨q,y⟩:=q2 e;obtain⟨X,tt,h,A⟩:=xR e u M;obtain⟨r,_⟩:=Cm e u A tt;have c:=cps_of u tt;rw[h,A]at c;have v:s.length=(rowsOf H x).length:=by rw[<-A,ao]
 have E:=gr.tab tb;generalize rowsOf H x=R at q y r c v;generalize count H x=n at q y h c;unfold DM;ext;refine(_,_,Q,.ref l,rfl,X,E,λz=>by(rw[tt]at z;cases z),λ_=>(λw t d=>?_,λt i j Y N d I F O=>?_,),)
 .rw[r,h]at w;have c:=c.gr d E;have a0:=d.tab E;have f:∀p,t p=none->H p=none:=λp=>gr_free (gr.trans d) a0;unfold DL;ext;refine Or.inl (l,s,rfl,.inl (SqL.of c.ec),?_,);refine zv.mpr (_,rfl,?_,);by_cases hz:s=[];·have V:R=[]:=bP.mp (by rw[<-v,hz];rfl);rw[hz,if_pos 'F'];refine⟨short 'F',λa J=>⟨short 'F',λb k=>(short 'F',λp m=>?_,)⟩⟩;have B:=aL (o:=.lst []) J;have D:=aL (o:=.lst []) k;have g:=aL (o:=.tup [.ref a,.ref b]) m;refine q w _ p ((gr.trans d).trans (Gr.of (B.trans (D.trans g)))) (f _ ((B.trans D).free m)) (.inl (V,a,b,aD,f _ J,f _ (B.free k),λz=>?_,(D.trans g) _ _ aD,g _ _ aD,));rw[<-z,aD]at k;cases k
  .rw[if_neg (λz=>hz (bP.mp (by have :=W0 z;lia)))];unfold DK;ext;refine(_,_,S,l,s,n,rI R,rfl,c,hz,λL p g m U=>?_,);exact q w L p ((gr.trans d).trans (Gr.of g)) (f _ m) (.inr (λz=>hz (bP.mp (by rw[v,z];rfl)),U.old f,))
 .rw[r,h]at I;rw[r]at F;exact y t i j Y N (gr.trans d) I F O
end K32
namespace K02
open L2 R Cp Lt Lm
def isi_tup{Q:VK}(h:H l<*(.tup xs))(q:Q (.bl true) H):rBf K .isinstance [.ref l,.ty (Ty.t .tuple)] H Q:=by
 refine isi (Fg h) .tuple ?_;have e:kC (tyName H (.ref l)) (Ty.t .tuple)=true:=by show kC (lz (H l)) "tuple"=true;rw[h];rfl
 rw[e];exact q
end K02
namespace K84
open L2 R Cp Lt Kc K21 K22 Lm
theorem rR{b:Type}[DecidableEq b]:∀{l m:List b},l.Nodup->m.Nodup->(∀x,x∈l↔x∈m)->l.Perm m
 | [],m,_,_,h=>by
  cases m with
  |nil=>exact .nil
  |cons x m=>exact nomatch(h x).mpr (.head _)
 |x::l,m,h1,h2,h=>by
  have d:=(h x).mp (.head _);refine .trans (.cons x (rR (bN.mp h1).2 (h2.erase x) λy=>?_)) (rF d).symm;rw[h2.mem_erase_iff];constructor;·intro a;exact(λe=>(bN.mp h1).1 (e▸a),(h y).mp (.tail _ a),)
  .rintro⟨c,a⟩;rcases aK.mp ((h y).mpr a)with e|e;·exact absurd e c
   .exact e
end K84
namespace K83
open L2 R Cp Lt Kc K84 Lm
def iB{a b:Type}{F:a->b->Prop}{l:List a}{m:List b}(p:Paired F l m):l.length=m.length:=by
 induction p with
 |nil=>rfl
 |cons _ _ ih=>rw[bG,bG,ih]
def y6{c d:Type}{F:c->d->Prop}{l:List c}{m:List d}(p:Paired F l m):∀{i:Nat}{a:c},l[i]?<*a->∃b,m[i]?<*b/\F a b:=by
 induction p with
 |nil=>intro i a h;cases h
 |cons h _ ih=>
  intro i a e;cases i with
  |zero=>cases e;exact(_,rfl,h,)
  |succ i=>exact ih e
def vT(s:aO H H')(h:_root_.Q.IntKeys H ys ps):_root_.Q.IntKeys H' ys ps:=Paired.uf h λv k ⟨a,b,c⟩=>(a,b,s _ _ c,)
def pr_set{xs':List V}(h:_root_.Q.IntKeys H ys ps)(e:H l<*(.lst xs)):_root_.Q.IntKeys (upd H l (.lst xs')) ys ps:=Paired.uf h λv k ⟨a,c,b⟩=>⟨a,c,by rw[bj (λz=>by rw[z,e]at b;cases b)];exact b⟩
def vals_eq{a:List V}{g:Nat->V}(b:a.length=n)(h:∀(i:Nat) v,a[i]?<*v->v=g i):a=(aF n).map g:=by
 apply nZ
 intro i;cases e:a[i]? with
 |none=>rw[ay,eR (by rw[bC];have :=i8.mp e;lia)];rfl
 |some v=>have :=(av.mp e).1;rw[ay,bZ 'D',h i v e];rfl
end K83
namespace K83
open L2 R Cp Lt Lm K02
theorem Ax(m:ps.Nodup):(_root_.Q.dU [] ps ps).Pairwise λa b=>_root_.Q.llt a b=true:=by
 unfold _root_.Q.dU _root_.Q.Ip;split
 .rename_i h;rw[_root_.Q.range_getD]
  match ps,h with
  | [],_=>exact .nil
  | [x],_=>simp
  |_::_::_,h=>simp at h;lia
 .rename_i h;obtain⟨P,U,_⟩:=_root_.Q.fV (_root_.Q.HH m) (by lia:1<=ps.length);rw[fN];intro i j hi f d;have g:j<ps.length:=by simpa[P.size]using f
  have u:=U i j d g;rw[cH,cH];have e:∀(k:Nat)(c:k<(_root_.Q.run (_root_.Q.ltL ps) (nX ps.length)).toList.length),(_root_.Q.run (_root_.Q.ltL ps) (nX ps.length)).toList[k]=_root_.Q.at' (_root_.Q.run (_root_.Q.ltL ps) (nX ps.length)) k:=λk c=>by
   have l:k<(_root_.Q.run (_root_.Q.ltL ps) (nX ps.length)).size:=by simpa using c
   simp[_root_.Q.at',l]
  rw[e,e];exact u
def GJ(a:ps.Nodup)(h:i∈_root_.Q.Ip ps):i<ps.length:=aR.mp ((_root_.Q.mV a).mem_iff.mp h)
def nG{a:Type}(d:a){ys:List a}(c:ps.Nodup)(b:ps.length=ys.length):(_root_.Q.dU d ps ys).Perm ys:=by unfold _root_.Q.dU;have h:=(_root_.Q.mV c).map λi=>ys.getD i d;rw[b,_root_.Q.range_getD]at h;exact h
def llt_no{a b:List Int}(h:_root_.Q.llt a b=true)(k:_root_.Q.llt b a=true):a=b:=by
 have c:=_root_.Q.ug h k;have :∀x:List Int,_root_.Q.llt x x=false:=λx=>by
  induction x with
  |nil=>rfl
  |cons a x ih=>simp[_root_.Q.llt,ih]
 rw[this]at c;cases c
def HM{a:Type}(d:a)(F:a->List Int){ys:List a}(b:(ys.map F).Nodup):(_root_.Q.dU d (ys.map F) ys).map F=_root_.Q.dU [] (ys.map F) (ys.map F):=by unfold _root_.Q.dU;rw[bF];refine cN λi hi=>?_;have :=GJ b hi;rw[ao]at this;show F (ys.getD i d)=_;rw[ah,ah,ay,ae this];rfl
def yV{f:Type}(d:f)(F:f->List Int){ys zs:List f}(c:(ys.map F).Nodup)(p:ys.Perm zs):_root_.Q.dU d (ys.map F) ys=_root_.Q.dU d (zs.map F) zs:=by
 have g:=(p.map F).nodup_iff.mp c;have n:∀{ys:List f},(ys.map F).Nodup->(_root_.Q.dU d (ys.map F) ys).Pairwise λa b=>_root_.Q.llt (F a) (F b)=true:=λ{ys} c=>by have h:=Ax c;rw[<-HM d F c]at h;exact cK.mp h
 have l:=nG d (ys:=ys) c 'F';have m:=nG d (ys:=zs) g 'F';refine yK (λa b o r h k=>?_) (n c) (n g) (l.trans (p.trans m.symm));have e:=llt_no h k;have q:=l.mem_iff.mp o;have s:=p.mem_iff.mpr (m.mem_iff.mp r);obtain⟨i,hi,rfl⟩:=eD.mp q;obtain⟨j,t,rfl⟩:=eD.mp s;have :(ys.map F)[i]'(by simpa using hi)=(ys.map F)[j]'(by simpa using t):=by rw[cH,cH];exact e
 have :=(fu c).mp this;subst this;rfl
def vS{c:Type}{F:V->c->Prop}{ks:List c}{d:c}(l:ps.Nodup)(k:ps.length=ys.length)(p:Paired F ys ks):Paired F (_root_.Q.dU .non ps ys) (_root_.Q.dU d ps ks):=by
 unfold _root_.Q.dU;have key:∀{a:List Nat},(∀i∈a,i<ys.length)->Paired F (a.map λi=>ys.getD i .non) (a.map λi=>ks.getD i d):=λ{a} h=>by
  induction a with
  |nil=>exact .nil
  |cons i a ih=>have hi:=h i aG;obtain⟨b,e,f⟩:=y6 p (ae hi);refine .cons ?_ (ih λj g=>h j (ax _ g));show F (ys.getD i .non) (ks.getD i d);rw[ah,ah,ae hi,e];exact f
 exact key λi hi=>by rw[<-k];exact GJ l hi
def GrQ(rows:List (List Int))(n:Nat)(qs:List Int):Prop:=M5.Grs n (K32.grp rows) qs/\0∉qs/\∀p,p<n->K32.grp rows p≠0->(K32.grp rows p:Int)∈qs
def GrQ.perm{ps:List Int}(a:GrQ rows n qs)(b:GrQ rows n ps):qs.Perm ps:=by
 have s:∀{qs ps:List Int},GrQ rows n qs->GrQ rows n ps->∀x∈qs,x∈ps:=λ{qs ps} a b x c=>by obtain⟨p,d,rfl⟩:=a.1.2 x c;exact b.2.2 p d λz=>a.2.1 (by rw[z]at c;exact c)
 exact K84.rR a.1.1 b.1.1 λx=>(s a b x,s b a x,)
abbrev nd1(k:List Int):L2.D:=.tup (k.map .int)
abbrev qs0(rows:List (List Int))(n:Nat):List Int:=Classical.epsilon (GrQ rows n)
def vQ{b:Type}{F:V->b->Prop}{g:b->L2.D}(f:∀v a,F v a->Rep K H (g a) v){ks:List b}(p:Paired F ys ks):gy K H (ks.map g) ys:=by
 induction p with
 |nil=>rfl
 |cons h _ ih=>exact(_,_,rfl,f _ _ h,ih,)
def iZ{k:List Int}(h:H a<*(.tup (k.map V.int))):Rep K H (nd1 k) (.ref a):=(a,_,rfl,SqT.of h,gy.ints k,)
end K83
namespace M8
open K32 M7 K83
def ex_grq(rows:List (List Int))(n:Nat):∃qs,GrQ rows n qs:=by
 induction n with
 |zero=>exact([],⟨fC,λ_ h=>by cases h⟩,'F',λp f=>by lia,)
 |succ n ih=>
  obtain⟨qs,⟨k,g⟩,i,j⟩:=ih;by_cases c:grp rows n=0\/(grp rows n:Int)∈qs
  .refine(qs,(k,λq hq=>let⟨p,f,e⟩:=g q hq;(p,'D',e,),),i,λp f d=>?_,);by_cases e:p=n
   .rw[e]at d⊢;rcases c with c|c;·exact absurd c d
    .exact c
   .exact j p 'D' d
  .rw[not_or]at c;refine(qs++[(grp rows n:Int)],(du.mpr ⟨k,'F',λa l b m e=>c.2 (by rw[aU.mp m]at e;rw[<-e];exact l)⟩,λq hq=>?_,),λz=>?_,λp f d=>?_,)
   .rcases cX.mp hq with hq|hq;·obtain⟨p,f,e⟩:=g q hq;exact(p,'D',e,)
    .exact(n,'D',aU.mp hq,)
   .rcases cX.mp z with z|z;·exact i z
    .have :=aU.mp z;lia
   .by_cases e:p=n;·rw[e];simp
    .exact cF _ (j p 'D' d)
def qQ(rows:List (List Int))(n:Nat):GrQ rows n (qs0 rows n):=Classical.epsilon_spec (ex_grq rows n)
abbrev nds(rows:List (List Int))(n:Nat):List (List Int):=M5.jc (fr rows) n (grp rows) (qs0 rows n)
noncomputable abbrev Tri:=List Int×List Int×List Int
abbrev tri(rows:List (List Int))(n p:Nat):Tri:=(M4.lo (gT rows n p) (below rows n p),M4.hi (gT rows n p) (below rows n p),M5.plc n (M5.own (grp rows) (grp rows p)))
abbrev Kf(rows:List (List Int))(n:Nat)(q:Int):Tri:=(M4.lo (M5.nA (fr rows) n (grp rows) q) (M5.nB (fr rows) n (grp rows) q),M4.hi (M5.nA (fr rows) n (grp rows) q) (M5.nB (fr rows) n (grp rows) q),M5.plc n (M5.own (grp rows) q.toNat))
theorem Gd(rows:List (List Int))(n p:Nat):Kf rows n (grp rows p:Int)=tri rows n p:=rfl
abbrev trs(rows:List (List Int))(n:Nat):List Tri:=(qs0 rows n).map (Kf rows n)
abbrev key(x:Tri):List Int:=_root_.Q.nR (x.1,x.2.1)
abbrev Ey(x:Tri):L2.D:=.tup [nd1 x.1,nd1 x.2.1,nd1 x.2.2]
abbrev mT(xs:List (List Int)):List (List Int):=_root_.Q.dU [] xs xs
abbrev fZ(xs:List Tri):List Tri:=_root_.Q.dU ([],[],[]) (xs.map key) xs
section
variable {rows2:List (List Int)}
def jR(t:Tbl rows n):v∈nds rows n↔Fits rows n v:=by
 have q:=qQ rows n;unfold nds M5.jc;rw[aK];constructor
 .rintro(rfl|h);·exact Fq t
  .obtain⟨x,a,rfl⟩:=aI.mp h;obtain⟨p,b,rfl⟩:=q.1.2 x a;exact qW t (p:=p) λz=>q.2.1 (by rw[z]at a;exact a)
 .intro h;rcases of_fits t h with h|⟨p,b,c,h⟩;·exact .inl h
  .exact .inr (aI.mpr (_,q.2.2 p b c,h.symm,))
def hJ(t:Tbl rows n){x:Tri}:x∈trs rows n↔∃p,p<n/\grp rows p≠0/\x=tri rows n p:=by
 have q:=qQ rows n;unfold trs;rw[aI];constructor;·rintro⟨y,b,rfl⟩;obtain⟨p,a,rfl⟩:=q.1.2 y b;exact(p,a,λz=>q.2.1 (by rw[z]at b;exact b),rfl,)
 .rintro⟨p,a,c,rfl⟩;exact(_,q.2.2 p a c,rfl,)
def ud(t:Tbl rows n):(nds rows n).Nodup:=M5.w8 (λp _=>t.f01 p) (qQ rows n).1
def nF(t:Tbl rows n):((trs rows n).map key).Nodup:=by have :=M5.FN (λp _=>t.f01 p) (qQ rows n).1;unfold M5.brK at this;rw[bF]at this;unfold trs;rw[bF];exact this
structure Iso(rows rows2:List (List Int))(n:Nat)(φ:List Int->List Int)(o oi:Nat->Nat):Prop where
 t:Tbl rows n
 t2:Tbl rows2 n
 lt:∀j,j<n->o j<n
 lti:∀p,p<n->oi p<n
 l1:∀j,j<n->oi (o j)=j
 l2:∀p,p<n->o (oi p)=p
 fit:∀v,Fits rows n v->Fits rows2 n (φ v)
 tif:∀w,Fits rows2 n w->∃v,Fits rows n v/\w=φ v
 inj:∀u v,M6.Ok n u->M6.Ok n v->φ u=φ v->u=v
 ed:∀j v,j<n->End rows n (o j) v->End rows2 n j (φ v)
 cls:∀i j,i<n->j<n->(Cls rows2 i j↔Cls rows (o i) (o j))
 nz:∀j,j<n->(grp rows2 j≠0↔grp rows (o j)≠0)
abbrev psi(n:Nat)(φ:List Int->List Int)(o:Nat->Nat)(x:Tri):Tri:=(M4.lo (φ x.1) (φ x.2.1),M4.hi (φ x.1) (φ x.2.1),M5.plc n λi=>decide ((o i:Int)∈x.2.2))
variable {φ:List Int->List Int}{o oi:Nat->Nat}
def Iso.nodes(I:Iso rows rows2 n φ o oi):((nds rows n).map φ).Perm (nds rows2 n):=by
 refine K84.rR ?_ (ud I.t2) λw=>?_;·refine cK.mpr ?_;have i:(nds rows n).Pairwise (λa b=>a≠b):=ud I.t;refine(gE.mp i).imp ?_;rintro a b ⟨d,g,f⟩ e;exact f (I.inj a b ((jR I.t).mp d).1 ((jR I.t).mp g).1 e)
 .rw[jR I.t2,aI];constructor;·rintro⟨v,c,rfl⟩;exact I.fit v ((jR I.t).mp c)
  .intro h;obtain⟨v,c,rfl⟩:=I.tif w h;exact(v,(jR I.t).mpr c,rfl,)
def oZ{P:Nat->Bool}{x:Int}(h:x∈M5.plc n P):∃i,i<n/\P i=true/\x=(i:Int):=by obtain⟨i,hi,rfl⟩:=aI.mp h;have :=d4.mp hi;exact(i,aR.mp this.1,this.2,rfl,)
def pM{P a:Nat->Bool}(h:∀i,i<n->P i=a i):M5.plc n P=M5.plc n a:=by unfold M5.plc;rw[List.filter_congr λi hi=>h i (aR.mp hi)]
theorem Iso.tri(I:Iso rows rows2 n φ o oi)(f:j<n)(hz:grp rows (o j)≠0):M8.tri rows2 n j=psi n φ o (M8.tri rows n (o j)):=by
 have g:=I.lt j f;have k:=(I.nz j f).mpr hz;have a:=sx I.t g hz;have b:=pT I.t g hz;have ne:=pS I.t (rows:=rows) g;have h:φ (gT rows n (o j))≠φ (below rows n (o j)):=λe=>ne (I.inj _ _ a.ok b.ok e);have c:=MX I.t2 f k (I.ed j _ f a) (I.ed j _ f b) h;have d:M4.lo (φ (M4.lo (gT rows n (o j)) (below rows n (o j)))) (φ (M4.hi (gT rows n (o j)) (below rows n (o j))))=M4.lo (φ (gT rows n (o j))) (φ (below rows n (o j)))/\M4.hi (φ (M4.lo (gT rows n (o j)) (below rows n (o j)))) (φ (M4.hi (gT rows n (o j)) (below rows n (o j))))=M4.hi (φ (gT rows n (o j))) (φ (below rows n (o j))):=by
  unfold M4.lo M4.hi;rw[_root_.Q.kJ ne];cases _root_.Q.llt (below rows n (o j)) (gT rows n (o j))with
  |false=>exact(rfl,rfl,)
  |true=>exact(GX (bI h),G6 (bI h),)
 unfold psi M8.tri;refine Prod.ext (c.1.trans d.1.symm) (Prod.ext (c.2.trans d.2.symm) (pM λi hi=>?_));rw[de,decide_eq_true_eq,M5.nJ (I.lt i hi)];unfold M5.own;rw[decide_eq_true_eq,decide_eq_true_eq,I.t2.cls,I.t.cls];exact I.cls i j hi f
def Iso.tris(I:Iso rows rows2 n φ o oi):((trs rows n).map (psi n φ o)).Perm (trs rows2 n):=by
 have G:(trs rows2 n).Nodup:=by have :=nF I.t2;exact(cK.mp this).imp λh e=>h (by rw[e])
 refine K84.rR ?_ G λx=>?_
 .unfold trs;rw[bF];refine cK.mpr ?_;have q:=qQ rows n;have F:(qs0 rows n).Pairwise (λa b=>a≠b):=q.1.1;refine(gE.mp F).imp ?_;rintro a b ⟨m,r,C⟩ e;obtain⟨p,g,rfl⟩:=q.1.2 a m;obtain⟨d,k,rfl⟩:=q.1.2 b r;have H:grp rows p≠0:=λz=>q.2.1 (by rw[z]at m;exact m);have J:grp rows d≠0:=λz=>q.2.1 (by rw[z]at r;exact r);have e:psi n φ o (M8.tri rows n p)=psi n φ o (M8.tri rows n d):=e;have i:=I.lti p g;have t:=I.lti d k;have w:=I.tri i (by rw[I.l2 p g];exact H);have A:=I.tri t (by rw[I.l2 d k];exact J);rw[I.l2 p g]at w;rw[I.l2 d k]at A;have u:M8.tri rows2 n (oi p)=M8.tri rows2 n (oi d):=by rw[w,A,e]
  have B:grp rows2 (oi p)=grp rows2 (oi d):=by
   apply au
   intro D;have :=M4.zL (f:=fr rows2) (n:=n) (grp:=grp rows2) (λp _=>I.t2.f01 p) i t D;apply this;show M4.lo (gT rows2 n (oi p)) (below rows2 n (oi p))++M4.hi (gT rows2 n (oi p)) (below rows2 n (oi p))=M4.lo (gT rows2 n (oi d)) (below rows2 n (oi d))++M4.hi (gT rows2 n (oi d)) (below rows2 n (oi d));rw[show M4.lo (gT rows2 n (oi p)) (below rows2 n (oi p))=M4.lo (gT rows2 n (oi d)) (below rows2 n (oi d))from congrArg JS u,show M4.hi (gT rows2 n (oi p)) (below rows2 n (oi p))=M4.hi (gT rows2 n (oi d)) (below rows2 n (oi d))from congrArg (λx:Tri=>x.2.1) u]
  have c:=(I.cls _ _ i t).mp (I.t2.cls.mp B);rw[I.l2 p g,I.l2 d k]at c;exact C (by rw[I.t.cls.mpr c])
 .rw[hJ I.t2,aI];constructor;·rintro⟨y,E,rfl⟩;obtain⟨p,g,l,rfl⟩:=(hJ I.t).mp E;have i:=I.lti p g;refine(oi p,i,(I.nz _ i).mpr (by rw[I.l2 p g];exact l),?_,);rw[I.tri i (by rw[I.l2 p g];exact l),I.l2 p g]
  .rintro⟨j,s,l,rfl⟩;have v:=(I.nz j s).mp l;exact(_,(hJ I.t).mpr (o j,I.lt j s,v,rfl,),(I.tri s v).symm,)
end
end M8
namespace M9
open K32 M7 M8
section
variable {rows2:List (List Int)}
def rL(t:Tbl rows n):grp rows p≠0↔∃r∈rows,∃s∈rows,r.getD p 0≠s.getD p 0:=by
 rw[gnz];constructor;·rintro⟨r,a,h⟩;exact(r,a,_,t.first,mH.mp h,)
 .rintro⟨r,a,s,b,h⟩;by_cases e:r.getD p 0=fr rows p;·exact(s,b,mH.mpr λz=>h (e.trans z.symm),)
  .exact(r,a,mH.mpr e,)
def Mw(t:Tbl rows n)(t2:Tbl rows2 n)(h:∀r,r∈rows↔r∈rows2):Iso rows rows2 n id id id where
 t:=t
 t2:=t2
 lt:=λ_ h=>h
 lti:=λ_ h=>h
 l1:=λ_ _=>rfl
 l2:=λ_ _=>rfl
 fit:=λv f=>f.sub λr a=>(h r).mp a
 tif:=λw f=>(w,f.sub λr a=>(h r).mpr a,rfl,)
 inj:=λ_ _ _ _ e=>e
 ed:=λj v d e=>⟨e.ok,λq hq c=>by
  obtain⟨r,a,x⟩:=e.own q hq λr a s b=>c r ((h r).mp a) s ((h s).mp b);exact(r,(h r).mp a,x,),λq hq c=>by
  obtain⟨r,a,s,b,x⟩:=e.off q hq λz=>c λr a s b=>z r ((h r).mpr a) s ((h s).mpr b);exact(r,(h r).mp a,s,(h s).mp b,x,)⟩
 cls:=λi j _ _=>(λc r a s b=>c r ((h r).mp a) s ((h s).mp b),λc r a s b=>c r ((h r).mpr a) s ((h s).mpr b),)
 nz:=λj _=>by rw[rL t,rL t2];exact(λ⟨r,a,s,b,x⟩=>(r,(h r).mpr a,s,(h s).mpr b,x,),λ⟨r,a,s,b,x⟩=>(r,(h r).mp a,s,(h s).mp b,x,),)
end
end M9
namespace M9
open K32 K83 M7 M8 L2
def tQ{xs ys:List (List Int)}(a:xs.Nodup)(p:xs.Perm ys):mT xs=mT ys:=by
 have :=yV [] id (ys:=xs) (zs:=ys) (by rw[iK];exact a) p
 rwa [iK,iK]at this
def tP{xs ys:List Tri}(a:(xs.map key).Nodup)(p:xs.Perm ys):fZ xs=fZ ys:=yV _ key a p
def Ku{xs:List (List Int)}(a:xs.Nodup):(mT xs).Perm xs:=nG [] a rfl
def oR{xs:List Tri}(a:(xs.map key).Nodup):(fZ xs).Perm xs:=nG _ a 'F'
def lo_lo{a b:List Int}:M4.lo (M4.lo a b) (M4.hi a b)=M4.lo a b/\M4.hi (M4.lo a b) (M4.hi a b)=M4.hi a b:=by
 by_cases h:a=b;·subst h;unfold M4.lo M4.hi;split <;>simp_all
 .have t:=_root_.Q.kJ h;cases c:_root_.Q.llt b a with
  |true=>rw[c]at t;have d:M4.lo a b=b:=if_pos c;have e:M4.hi a b=a:=if_neg (by rw[t];decide);rw[d,e];exact(if_neg (by rw[t];decide),if_pos c,)
  |false=>rw[c]at t;have d:M4.lo a b=a:=if_neg (by rw[c];decide);have e:M4.hi a b=b:=if_pos t;rw[d,e];exact(d,e,)
def psi_id{a b:List Int}{P:Nat->Bool}:psi n id id (M4.lo a b,M4.hi a b,M5.plc n P)=(M4.lo a b,M4.hi a b,M5.plc n P):=by
 unfold psi;dsimp only[id];rw[lo_lo.1,lo_lo.2];refine Prod.ext rfl (Prod.ext rfl ?_);refine pM λi hi=>?_;rw[de,decide_eq_true_eq];constructor;·intro h;obtain⟨j,_,c,e⟩:=oZ h;rw[show i=j by lia];exact c
 .intro h;unfold M5.plc;exact aI.mpr (i,d4.mpr (aR.mpr hi,h,),rfl,)
def GO(rows:List (List Int))(n:Nat):(nds rows n).length<=n+1:=by have :=M5.A9 (qQ rows n).1;unfold nds M5.jc;simp;lia
end M9
namespace K34
open L2 R Cp Lt Kc K21 K22 Lm M5 K32
structure Tn(H:Hp)(t:Addr)(nf:Nat->Str)(n:Nat)(ys:List V)(rows:List (List Int)):Prop where
 et:H t<*(.lst ys)
 ln:rows.length=ys.length
 row:∀(i:Nat) y,ys[i]?<*y->∃b r,y=.ref b/\H b<*(.tup [.str (nf i),.ref r])/\H r<*(.tup ((rows.getD i []).map V.int))
 ok:∀i,gL (nf i)=true
 inj:∀i j,i<ys.length->j<ys.length->nf i=nf j->i=j
 len:ys.length<=40
 n10:n<=60
 rd:∀r∈rows,M6.Ok n r
 mis:∀i j,i<j->j<n->M6.Mis rows i j
section
variable {t:Addr}{nf:Nat->Str}{T:Tb}
def Tn.get(d:Tn H t nf n ys rows)(h:i<ys.length):rows.getD i []∈rows:=by rw[ah,ae (by rw[d.ln];exact h)];exact bQ _
def Tn.same(d:Tn H t nf n ys rows)(s:aO H H'):Tn H' t nf n ys rows:=
 {d with et:=s _ _ d.et,row:=λi y e=>let⟨b,r,h1,h2,h3⟩:=d.row i y e;(b,r,h1,s _ _ h2,s _ _ h3,)}
def Tn.dr(d:Tn H t nf n ys rows):Dr H nf n ys:=λi y e=>by obtain⟨b,r,a,c,f⟩:=d.row i y e;have o:=d.rd _ (d.get (av.mp e).1);refine(b,r,_,a,c,f,by rw[ao];exact o.1,λz h=>?_,);obtain⟨x,g,rfl⟩:=aI.mp h;rcases o.2 x g with rfl|rfl<;>rfl
def Tn.tab(d:Tn H t nf n ys rows):Kn4 H (.ref t)/\dX H (.ref t)=true/\(∀y∈ys,dE H y=true)/\∀y∈ys,cV H y=n:=
 sy d.ok d.inj d.et d.dr (by have :=d.len;lia) (by have :=d.n10;lia)
theorem Tn.count(d:Tn H t nf n ys rows)(h:ys≠[]):Cp.count H (.ref t)=n:=by
 show(match eV (H t)with |some (y::_)=>cV H y|_=>0)=n;rw[d.et];cases ys with
 |nil=>exact absurd rfl h
 |cons y r=>exact d.tab.2.2.2 y (.head _)
def Tn.perm(d:Tn H t nf n ys rows):(rowsOf H (.ref t)).Perm (ys.map (cd H)):=by
 have f:(ys.map (bp H)).Nodup:=by obtain⟨a,j,e,b,g,h,c,i⟩:=fk d.tab.2.1;cases e;rw[show eV (H t)<*ys by rw[d.et];rfl]at b;cases b;exact c
 unfold rowsOf;rw[rN (show eV (H t)<*ys by rw[d.et];rfl)];exact(_root_.Q.gf V.non f 'F').map (cd H)
def Tn.cds(d:Tn H t nf n ys rows)(x:Str×List V):x∈ys.map (cd H)↔∃i,i<ys.length/\x=(nf i,(rows.getD i []).map V.int):=by
 constructor;·intro h;obtain⟨y,g,rfl⟩:=aI.mp h;obtain⟨i,e⟩:=aS.mp g;obtain⟨b,r,rfl,a,c⟩:=d.row i y e;exact(i,(av.mp e).1,tV a c,)
 .rintro⟨i,hi,rfl⟩;have e:=ae hi;obtain⟨b,r,f,a,c⟩:=d.row i _ e;refine aI.mpr (ys[i],bQ hi,?_,);rw[f];exact tV a c
def Dj(z:List Int):(z.map V.int).map intOf=z:=by
 rw[bF]
 conv =>rhs;rw[<-iK z]
 rfl
def Tn.mem(d:Tn H t nf n ys rows)(r:List Int):r∈K32.rI (rowsOf H (.ref t))↔r∈rows:=by
 unfold K32.rI;rw[(d.perm.map _).mem_iff];constructor;·intro h;obtain⟨x,a,rfl⟩:=aI.mp h;obtain⟨i,hi,rfl⟩:=(d.cds x).mp a;rw[Dj];exact d.get hi
 .intro h;obtain⟨i,hi,rfl⟩:=eD.mp h;refine aI.mpr ((nf i,(rows.getD i []).map V.int),(d.cds _).mpr (i,by rw[<-d.ln];exact hi,rfl,),?_,);rw[Dj,ah,ae hi];rfl
def Tn.tbl(d:Tn H t nf n ys rows)(h:ys≠[]):M7.Tbl rows n:=(d.rd,λz=>h (bP.mp (by rw[<-d.ln,z];rfl)),d.mis,)
def GL{r:Str×List V}{z:List Int}(e:r.2=z.map V.int)(i:Nat)(h:i<z.length):numD i r=z.getD i 0:=by unfold numD;rw[e,bo,ah,ay,ah,ae h];rfl
end
end K34
namespace K33
open K32 M7 M8
section
def zU(t:Tbl rows n)(hz:grp rows p≠0):Fits rows n (gT rows n p):=by
 obtain⟨s,h,v⟩:=gnz.mp hz;refine(DN t _,λi j hi g=>?_,);have u:∀q,q<n->(gT rows n p).getD q 0=if M4.above (grp rows) (grp rows p) q=true then 1-fr rows q else fr rows q:=λq hq=>iy hq
 have l:∀{q:Nat}{r:List Int},r∈rows->q<n->M4.above (grp rows) (grp rows p) q=true->bt rows q r=true->r.getD q 0=(gT rows n p).getD q 0:=λ{q r} f hq c b=>by rw[u q hq,if_pos c];exact(t.turn f).mp b
 have dn:∀{q:Nat}{r:List Int},r∈rows->q<n->M4.above (grp rows) (grp rows p) q≠true->bt rows q r=false->r.getD q 0=(gT rows n p).getD q 0:=λ{q r} f hq c b=>by rw[u q hq,if_neg c];exact t.mf.mp b
 have x:∀{a b:Nat},a<n->b<n->M4.above (grp rows) (grp rows p) a=true->M4.above (grp rows) (grp rows p) b≠true->∃r∈rows,bt rows a r=true/\bt rows b r=false:=λ{a b} C D y A=>by
  obtain⟨k,B⟩:=jd.mp y;have k:=fQ.mp k;by_cases sb:M4.sub (grp rows) (grp rows p) b=true
  .have e:grp rows b=grp rows p:=au λz=>A (jd.mpr (sb,z,));have :¬∀r∈rows,bt rows a r=bt rows p r:=λz=>B (geq.mpr z);refine au λz=>this λr f=>?_;cases c:bt rows p r with
   |true=>exact k r f c
   |false=>
    cases d:bt rows a r with
    |false=>rfl
    |true=>exact absurd ⟨r,f,d,by rw[geq.mp e r f];exact c⟩ z
  .have :¬∀r∈rows,bt rows p r=true->bt rows b r=true:=λz=>sb (fQ.mpr z);refine au λz=>this λr f c=>?_;cases d:bt rows b r with
   |true=>rfl
   |false=>exact absurd (r,f,k r f c,d,) z
 by_cases ci:M4.above (grp rows) (grp rows p) i=true
 .by_cases cj:M4.above (grp rows) (grp rows p) j=true;·exact(s,h,l h hi ci (fQ.mp (jd.mp ci).1 s h v),l h g cj (fQ.mp (jd.mp cj).1 s h v),)
  .obtain⟨r,f,m,o⟩:=x hi g ci cj;exact(r,f,l f hi ci m,dn f g cj o,)
 .by_cases cj:M4.above (grp rows) (grp rows p) j=true;·obtain⟨r,f,m,o⟩:=x g hi cj ci;exact(r,f,dn f hi ci o,l f g cj m,)
  .have w:∀q,bt rows q (rows.getD 0 [])=false:=λq=>t.mf.mpr rfl;exact(_,t.first,dn t.first hi ci (w i),dn t.first g cj (w j),)
def Fits.row(t:Tbl rows n)(h:v∈rows):Fits rows n v:=(t.ok v h,λi j _ _=>(v,h,rfl,rfl,),)
def toward(t:Tbl rows n)(g:Fits rows n v)(C:Fits rows n r)(ne:v≠r):∃p,p<n/\End rows n p v/\r.getD p 0≠v.getD p 0:=by
 have G:∀(k p:Nat),p<n->r.getD p 0≠v.getD p 0->rows.length-(rows.countP λx=>decide (x.getD p 0≠v.getD p 0))<=k->∃p,p<n/\End rows n p v/\r.getD p 0≠v.getD p 0:=by
  intro k
  induction k with
  |zero=>intro p f d c;obtain⟨x,A,e,_⟩:=g.2 p p f f;have :rows.countP (λx=>decide (x.getD p 0≠v.getD p 0))<rows.countP λ_=>true:=M7.pf (λ_ _ _=>rfl) A rfl (decide_eq_false λz=>z e);rw[List.countP_true]at this;lia
  |succ k ih=>
   intro p f d c;by_cases e:End rows n p v;·exact(p,f,e,d,)
   have :¬∀q,q<n->¬Cls rows p q->∃r∈rows,∃s∈rows,r.getD p 0≠s.getD p 0/\r.getD q 0=v.getD q 0/\s.getD q 0=v.getD q 0:=λz=>e (g.1,λq hq _=>g.2 p q f hq,z,);obtain⟨q,hq,B,I⟩:∃q,q<n/\¬Cls rows p q/\¬∃r∈rows,∃s∈rows,r.getD p 0≠s.getD p 0/\r.getD q 0=v.getD q 0/\s.getD q 0=v.getD q 0:=
    au λz=>this λq hq B=>au λy=>z (q,hq,B,y,)
   obtain⟨x,A,L,M⟩:=g.2 p q f hq;have sub:∀y∈rows,y.getD p 0≠v.getD p 0->y.getD q 0≠v.getD q 0:=λy j D E=>I (y,j,x,A,by rw[L];exact D,E,M,);obtain⟨z,H,P,Q⟩:∃z∈rows,z.getD q 0≠v.getD q 0/\z.getD p 0=v.getD p 0:=au λy=>B λa i b u=>by
    have key:∀a∈rows,a.getD p 0=v.getD p 0↔a.getD q 0=v.getD q 0:=λa i=>
     (λh=>au λw=>y (a,i,w,h,),λh=>au λw=>sub a i w h,)
    have R:=(t.ok a i).at p;have S:=(t.ok a i).at q;have T:=(t.ok b u).at p;have U:=(t.ok b u).at q;have W:=g.1.at p;have X:=g.1.at q;have m:=key a i;have o:=key b u;constructor
    .intro h;by_cases w:a.getD p 0=v.getD p 0;·rw[m.mp w,o.mp (h▸w)]
     .have J:a.getD q 0≠v.getD q 0:=λz=>w (m.mpr z);have K:b.getD q 0≠v.getD q 0:=λz=>w (h.trans (o.mpr z));lia
    .intro h;by_cases w:a.getD q 0=v.getD q 0;·rw[m.mpr w,o.mpr (h▸w)]
     .have J:a.getD p 0≠v.getD p 0:=λz=>w (m.mp z);have K:b.getD p 0≠v.getD p 0:=λz=>w (h.trans (o.mp z));lia
   have F:r.getD q 0≠v.getD q 0:=by obtain⟨y,j,N,O⟩:=C.2 p q f hq;rw[<-O];exact sub y j (by rw[N];exact d)
   have lt:rows.countP (λx=>decide (x.getD p 0≠v.getD p 0))<rows.countP λx=>decide (x.getD q 0≠v.getD q 0):=
    M7.pf (λy j h=>decide_eq_true (sub y j (W0 h))) H (decide_eq_true P) (decide_eq_false λw=>w Q)
   have V:=List.countP_le_length (p:=λx:List Int=>decide (x.getD q 0≠v.getD q 0)) (l:=rows);exact ih q hq F 'D'
 obtain⟨p,f,d⟩:∃p,p<n/\r.getD p 0≠v.getD p 0:=au λz=>ne (Dx g.1.1 C.1.1 λp f=>au λy=>z (p,f,bI y,));exact G _ p f d (aC _)
def Bh(t:Tbl rows n)(d:p<n)(hz:grp rows p≠0):End rows n p v↔v=gT rows n p\/v=below rows n p:=by
 constructor
 .intro e;have g:=sx t d hz;have h:=pT t d hz;have i:=e.ok.at p;have f:=t.f01 p;have a:=BC (rows:=rows) d;have b:=v9 (rows:=rows) d;by_cases c:v.getD p 0=fr rows p;·exact .inl (End.one t d e g (by rw[a,c]))
  .exact .inr (End.one t d e h (by rw[b];lia))
 .rintro(rfl|rfl);·exact sx t d hz
  .exact pT t d hz
def DC(t:Tbl rows n)(c:p<n)(e:End rows n p v)(f:Fits rows n r)(d:r.getD p 0≠v.getD p 0):grp rows p≠0:=by obtain⟨x,g,i,_⟩:=e.own p c λa _ b _=>Iff.rfl;obtain⟨y,h,j,_⟩:=f.2 p p c c;exact(M9.rL t).mpr ⟨x,g,y,h,λz=>d (by rw[<-j,<-i];exact z.symm)⟩
def vZ(t:Tbl rows n)(e:p<n)(hq:q<n):(gT rows n p).getD q 0≠(below rows n p).getD q 0↔grp rows q=grp rows p:=by
 have f:=t.f01 q;have a:(gT rows n p).getD q 0=if M4.above (grp rows) (grp rows p) q=true then 1-fr rows q else fr rows q:=iy hq
 have b:(below rows n p).getD q 0=if M4.sub (grp rows) (grp rows p) q=true then 1-fr rows q else fr rows q:=iy hq
 rw[a,b];have i:=jd (rows:=rows) (p:=p) (q:=q);by_cases c:grp rows q=grp rows p
 .have s:M4.sub (grp rows) (grp rows p) q=true:=fQ.mpr λr d h=>by rw[geq.mp c r d];exact h
  rw[if_neg (λz=>(i.mp z).2 c),if_pos s];exact(λ_=>c,λ_=>by lia,)
 .by_cases s:M4.sub (grp rows) (grp rows p) q=true;·rw[if_pos (i.mpr (s,c,)),if_pos s];exact(λz=>absurd rfl z,λz=>absurd z c,)
  .rw[if_neg (λz=>s (i.mp z).1),if_neg s];exact(λz=>absurd rfl z,λz=>absurd z c,)
def Ie(t:Tbl rows n)(P:List Int->Prop)(c:∀p,p<n->grp rows p≠0->(P (gT rows n p)↔P (below rows n p)))(b:Fits rows n r):∀(k:Nat)(v:List Int),Fits rows n v->P v->((aF n).countP λq=>decide (r.getD q 0≠v.getD q 0))<=k->P r:=by
 intro k
 induction k with
 |zero=>intro v f j e;have :r=v:=Dx b.1.1 f.1.1 λq hq=>au λz=>List.countP_eq_zero.mp (Nat.le_zero.mp e) q (aR.mpr hq) (decide_eq_true z);rw[this];exact j
 |succ k ih=>
  intro v f j e;by_cases z:v=r;·rw[<-z];exact j
  obtain⟨p,a,o,d⟩:=toward t f b z;have i:=DC t a o b d;have s:∀w,P w->Fits rows n w->(∀q,q<n->(w.getD q 0≠v.getD q 0↔grp rows q=grp rows p))->P r:=λw E u m=>by
   refine ih w u E ?_;have l:∀q,q<n->grp rows q=grp rows p->r.getD q 0=w.getD q 0/\r.getD q 0≠v.getD q 0:=λq hq g=>by have A:=t.cls.mp g.symm;obtain⟨x,B,F,G⟩:=f.2 p q a hq;obtain⟨y,C,H,I⟩:=b.2 p q a hq;have D:r.getD q 0≠v.getD q 0:=λz=>d (by rw[<-H,<-F];exact(A y C x B).mpr (by rw[I,G];exact z));have M:=(m q hq).mpr g;have J:=b.1.at q;have K:=f.1.at q;have L:=u.1.at q;exact('D',D,)
   have lt:((aF n).countP λq=>decide (r.getD q 0≠w.getD q 0))<(aF n).countP λq=>decide (r.getD q 0≠v.getD q 0):=by
    refine M7.pf (x:=p) (λq hq h=>?_) (aR.mpr a) (decide_eq_true d) (decide_eq_false λz=>z (l p a rfl).1);have hq:=aR.mp hq;by_cases g:grp rows q=grp rows p;·exact decide_eq_true (l q hq g).2
    .have :w.getD q 0=v.getD q 0:=au λz=>g ((m q hq).mp z);rw[<-this];exact h
   lia
  rcases(Bh t a i).mp o with rfl|rfl;·exact s _ ((c p a i).mp j) (qW t i) λq hq=>(λz=>(vZ t a hq).mp (bI z),λz=>bI ((vZ t a hq).mpr z),)
  .exact s _ ((c p a i).mpr j) (zU t i) λq hq=>vZ t a hq
end
end K33
namespace K34
open L2 R Cp Lt Kc K21 K22 Lm M5 K32
def KC(b:ns.Nodup)(j:qs.Nodup)(h:∀x,x∈qs↔x∈ns)(r:qs.Pairwise (·<·)):_root_.Q.sortI ns=qs.map V.int:=by
 have c:=_root_.Q.tZ b;have e:_root_.Q.sortI ns=((_root_.Q.rT ns).map λi=>ns.getD i 0).map V.int:=by unfold _root_.Q.sortI;rw[bF];refine cN λi hi=>?_;have f:i<ns.length:=aR.mp (c.mem_iff.mp hi);show(ns.map V.int).getD i .non=V.int (ns.getD i 0);rw[ah,ah,ay,ae f];rfl
 rw[e];congr 1;have d:((_root_.Q.rT ns).map λi=>ns.getD i 0).Perm ns:=by have h:=c.map λi=>ns.getD i 0;rw[_root_.Q.range_getD]at h;exact h
 have l:((_root_.Q.rT ns).map λi=>ns.getD i 0).Pairwise (·<·):=by
  by_cases h2:ns.length<2
  .have g:((_root_.Q.rT ns).map λi=>ns.getD i 0).length<2:=by rw[d.length_eq];exact h2
   match(_root_.Q.rT ns).map (λi=>ns.getD i 0),g with
   | [],_=>exact .nil
   | [a],_=>exact List.pairwise_singleton _ _
  .exact cK.mpr ((_root_.Q.CU b h2).imp λh=>W0 h)
 exact yK (λx y _ _ h k=>by lia) l r (d.trans (K84.rR j b h).symm)
def EO(n:Nat)(P:Nat->Bool):(plc n P).Pairwise (·<·):=by unfold plc;refine cK.mpr ?_;exact((p7 (n:=n)).filter P).imp λh=>by lia
def pG(H:Hp)(v:V)(x:M8.Tri):Prop:=∃a p q r,v=.ref a/\H a<*(.tup [.ref p,.ref q,.ref r])/\H p<*(.tup (x.1.map V.int))/\H q<*(.tup (x.2.1.map V.int))/\H r<*(.tup (x.2.2.map V.int))
def tris_tk(t:Tk H H'){vs:List V}{xs:List M8.Tri}(h:Paired (pG H) vs xs):Paired (pG H') vs xs:=Paired.uf h λv k w=>by obtain⟨a,x,y,z,e,b,c,d,f⟩:=w;exact(a,x,y,z,e,t _ _ b,t _ _ c,t _ _ d,t _ _ f,)
def Ke{vs:List V}{xs:List M8.Tri}(h:Paired (pG H) vs xs):_root_.Q.lD H vs (xs.map λx=>(x.1,x.2.1)):=by
 induction h with
 |nil=>exact .nil
 |cons x r ih=>obtain⟨a,x,y,z,e,b,c,d,_⟩:=x;exact .cons (a,x,y,_,e,b,c,d,) ih
theorem pr_mk{c d:Type}{F:c->d->Prop}:∀{l:List c}{m:List d},l.length=m.length->(∀(j:Nat) a b,l[j]?<*a->m[j]?<*b->F a b)->Paired F l m
 | [],[],_,_=>.nil
 |a::l,b::m,h,f=>.cons (f 0 a b rfl rfl) (pr_mk (jt h) λj x y e g=>f (j+1) x y ↥e ↥g)
end K34
namespace K33
open K32 M7 M8
section
def lost3(t:Tbl rows n)(f:Fits rows n v)(u:v∉rows):∃p q r,(p<n/\End rows n p v/\grp rows p≠0)/\(q<n/\End rows n q v/\grp rows q≠0)/\(r<n/\End rows n r v/\grp rows r≠0)/\grp rows p≠grp rows q/\grp rows p≠grp rows r/\grp rows q≠grp rows r:=by
 have g:∀x∈rows,∃p,(p<n/\End rows n p v/\grp rows p≠0)/\x.getD p 0≠v.getD p 0:=λx b=>by have l:=Fits.row t b;obtain⟨p,a,e,d⟩:=toward t f l λz=>u (z▸b);exact(p,(a,e,DC t a e l d,),d,)
 have i:∀{p q:Nat}{x:List Int},p<n->q<n->x∈rows->x.getD p 0=v.getD p 0->x.getD q 0≠v.getD q 0->grp rows q≠grp rows p:=λ{p q x} a hq b o s e=>by obtain⟨y,c,j,k⟩:=f.2 q p hq a;exact s (((t.cls.mp e x b y c).mpr (o.trans k.symm)).trans j)
 obtain⟨p,a,_⟩:=g _ t.first;obtain⟨x,b,w,_⟩:=f.2 p p a.1 a.1;obtain⟨q,hq,m⟩:=g x b;obtain⟨y,c,j,k⟩:=f.2 p q a.1 hq.1;obtain⟨r,h,dr⟩:=g y c;exact(p,q,r,a,hq,h,bI (i a.1 hq.1 b w m),bI (i a.1 h.1 c j dr),bI (i hq.1 h.1 c k dr),)
def A3{a b:List Int}(h:a≠b):(M4.lo a b=a/\M4.hi a b=b/\_root_.Q.llt a b=true)\/(M4.lo a b=b/\M4.hi a b=a/\_root_.Q.llt b a=true):=by
 have e:=_root_.Q.kJ h;unfold M4.lo M4.hi;cases c:_root_.Q.llt b a with
 |true=>rw[c]at e;rw[show _root_.Q.llt a b=false from e];exact .inr (rfl,rfl,rfl,)
 |false=>rw[c]at e;rw[show _root_.Q.llt a b=true from e];exact .inl (rfl,rfl,rfl,)
structure Br(rows:List (List Int))(n:Nat)(x:Tri):Prop where
 lt:_root_.Q.llt x.1 x.2.1=true
 f1:Fits rows n x.1
 f2:Fits rows n x.2.1
 pl:x.2.2=M5.plc n λi=>decide (x.1.getD i 0≠x.2.1.getD i 0)
def br_of(t:Tbl rows n)(f:p<n)(hz:grp rows p≠0):Br rows n (tri rows n p):=by
 have c:=zU t hz;have d:=qW t hz;have e:∀i,i<n->M5.own (grp rows) (grp rows p) i=decide ((gT rows n p).getD i 0≠(below rows n p).getD i 0):=λi hi=>decide_eq_decide.mpr (vZ t f hi).symm;unfold tri;rcases A3 (pS t f)with⟨a,b,l⟩ |⟨a,b,l⟩;·rw[a,b];exact(l,c,d,pM e,)
 .rw[a,b];exact(l,d,c,pM λi hi=>(e i hi).trans (decide_eq_decide.mpr ne_comm),)
def By(t:Tbl rows n){x:Tri}(h:x∈trs rows n):Br rows n x:=by obtain⟨p,a,b,rfl⟩:=(hJ t).mp h;exact br_of t a b
abbrev atN(v:List Int)(x:Tri):Bool:=decide (x.1=v)||decide (x.2.1=v)
def atN_end(t:Tbl rows n)(c:p<n)(hz:grp rows p≠0)(e:End rows n p v):atN v (tri rows n p)=true:=by
 unfold atN tri;rcases A3 (pS t c)with⟨a,b,l⟩ |⟨a,b,l⟩;·rw[a,b];rcases(Bh t c hz).mp e with rfl|rfl<;>simp
 .rw[a,b];rcases(Bh t c hz).mp e with rfl|rfl<;>simp
def xC(a:p<n):(p:Int)∈(tri rows n q).2.2↔grp rows p=grp rows q:=by refine(M5.nJ a).trans ?_;exact decide_eq_true_iff
def Ex(a:p<n)(h:grp rows p≠grp rows q):tri rows n p≠tri rows n q:=λe=>h ((xC a).mp (by rw[<-e];exact(xC a).mpr rfl))
def Md(t:Tbl rows n)(k:Fits rows n v)(m:v∉rows):3<=((fZ (trs rows n)).filter (atN v)).length:=by
 obtain⟨p,q,r,⟨a,c,b⟩,⟨hq,h,s⟩,⟨j,i,u⟩,e,f,g⟩:=lost3 t k m;have o:=M9.oR (nF t);have l:[tri rows n p,tri rows n q,tri rows n r].Nodup:=by simp only[bN,aK,dh,or_false,not_or,not_false_eq_true,and_true,fC];exact((Ex a e,Ex a f,),Ex hq g,)
 have mem:∀{p},p<n->grp rows p≠0->End rows n p v->tri rows n p∈(fZ (trs rows n)).filter (atN v):=λ{p} a b c=>
  d4.mpr (o.mem_iff.mpr ((hJ t).mpr (p,a,b,rfl,)),atN_end t a b c,)
 refine l.length_le_of_subset λx d=>?_;simp only[aK,dh,or_false]at d;rcases d with rfl|rfl|rfl;·exact mem a b c
 .exact mem hq s h
 .exact mem j u i
abbrev stood(ts:List Tri):List Int:=ts.flatMap λx=>x.2.2
def pl_nd(x:Tri)(h:Br rows n x):x.2.2.Nodup:=by rw[h.pl];exact(K34.EO n _).imp λh z=>by lia
def Js(t:Tbl rows n){x y:Tri}(f:x∈trs rows n)(g:y∈trs rows n)(ne:x≠y){i:Int}(a:i∈x.2.2)(e:i∈y.2.2):False:=by obtain⟨p,h,k,rfl⟩:=(hJ t).mp f;obtain⟨q,hq,l,rfl⟩:=(hJ t).mp g;obtain⟨j,b,_,rfl⟩:=oZ a;have c:=(xC b).mp a;have d:=(xC b).mp e;refine ne ?_;rw[<-Gd,<-Gd,<-c,<-d]
theorem Ce(t:Tbl rows n):∀{ts:List Tri},ts.Nodup->(∀x∈ts,x∈trs rows n)->(stood ts).Nodup
 | [],_,_=>fC
 |x::ts,nd,h=>by have c:=bN.mp nd;refine du.mpr (pl_nd x (By t (h x aG)),Ce t c.2 λy a=>h y (ax _ a),λi hi j b e=>?_,);obtain⟨y,a,b⟩:=oN.mp b;exact Js t (h x aG) (h y (ax _ a)) (λe=>c.1 (e▸a)) hi (e▸b)
def nd_map{a b:Type}{f:a->b}{l:List a}(h:(l.map f).Nodup):l.Nodup:=(cK.mp h).imp λh e=>h (by rw[e])
def srtT_nd(t:Tbl rows n):(fZ (trs rows n)).Nodup:=(M9.oR (nF t)).nodup_iff.mpr (nd_map (nF t))
def Cf(t:Tbl rows n):(stood (fZ (trs rows n))).Nodup/\_root_.Q.sortI (stood (fZ (trs rows n)))=(M5.plc n λp=>decide (grp rows p≠0)).map L2.V.int:=by
 have a:=M9.oR (nF t);have e:=Ce t (srtT_nd t) λx f=>a.mem_iff.mp f;refine(e,K34.KC e ((K34.EO n _).imp λh=>by lia) (λx=>?_) (K34.EO n _),);constructor;·intro h;obtain⟨p,d,z,rfl⟩:=oZ h;exact oN.mpr (tri rows n p,a.mem_iff.mpr ((hJ t).mpr (p,d,W0 z,rfl,)),(xC d).mpr rfl,)
 .intro h;obtain⟨y,g,b⟩:=oN.mp h;obtain⟨q,hq,i,rfl⟩:=(hJ t).mp (a.mem_iff.mp g);obtain⟨j,c,_,rfl⟩:=oZ b;exact(M5.nJ c).mpr (decide_eq_true (by rw[(xC c).mp b];exact i))
def len_one(rows:List (List Int))(n:Nat):(trs rows n).length+1=(nds rows n).length:=by unfold trs nds M5.jc;rw[ao,bG,ao]
def yT(t:Tbl rows n):(stood (fZ (trs rows n))).length<=n:=by
 have :=(Cf t).1.length_le_of_subset (l₂:=(aF n).map λp:Nat=>(p:Int)) λx c=>by obtain⟨y,d,a⟩:=oN.mp c;obtain⟨q,hq,e,rfl⟩:=(hJ t).mp ((M9.oR (nF t)).mem_iff.mp d);obtain⟨j,b,_,rfl⟩:=oZ a;exact aI.mpr (j,aR.mpr b,rfl,)
 rwa [ao,bC]at this
def pl_ne(t:Tbl rows n){x:Tri}(h:x∈trs rows n):x.2.2≠[]:=by obtain⟨p,a,b,rfl⟩:=(hJ t).mp h;have :=(xC (rows:=rows) (q:=p) a).mpr rfl;intro z;rw[z]at this;cases this
def FI(t:Tbl rows n){us:List (List Int)}(g:us.Nodup)(sub:∀u∈us,Fits rows n u)(ne:us≠[])(c:∀u∈us,∀x∈trs rows n,(x.1=u->x.2.1∈us)/\(x.2.1=u->x.1∈us)):us.length=(nds rows n).length:=by
 have key:∀p,p<n->grp rows p≠0->(gT rows n p∈us↔below rows n p∈us):=λp e f=>by
  have d:=(hJ t).mpr (p,e,f,rfl,);rcases A3 (pS t e)with⟨a,b,l⟩ |⟨a,b,l⟩;·exact(λh=>b▸(c _ h _ d).1 a,λh=>a▸(c _ h _ d).2 b,)
  .exact(λh=>a▸(c _ h _ d).2 b,λh=>b▸(c _ h _ d).1 a,)
 have :us.Perm (nds rows n):=by
  refine(iJ g (ud t)).mpr λx=>?_;rw[jR t];refine(λh=>sub x h,λh=>?_,);cases us with
  |nil=>exact absurd rfl ne
  |cons u us=>exact Ie t (·∈u::us) key h _ u (sub u aG) aG (aC _)
 exact this.length_eq
end
end K33
namespace K33
open R
abbrev CD:List Str:=["_law_script","_law_many"]
abbrev uV:List Str:=["_law_script","_law_many","_law_way","_law_names_here","_law_nodes","_law_links","_law_held_here","_law_table_here","_law_at"]
abbrev mw:CB:=
  (.cons (.ret (.var 7))
  .nil)
abbrev oo:CB:=
  (.cons (.asg (.sub (.var 7) (.var 8)) (.tup (.cons (.idx (.idx (.var 7) (.var 8)) (.con (.int 0))) (.cons (.call "_law_otherwise" (.cons (.idx (.idx (.var 7) (.var 8)) (.con (.int 1))) (.cons (.lst (.cons (.bin .Mod (.bin .FloorDiv (.var 2) (.con (.int 60))) (.var 1)) .nil)) .nil))) .nil))))
  .nil)
abbrev my:CB:=
  (.cons (.iff (.and (.cmp .Eq (.bin .Mod (.var 2) (.con (.int 3))) (.con (.int 1))) (.and (.cmp .Gt (.var 1) (.con (.int 0))) (.cmp .NotEq (.var 7) (.lst .nil))))
  (.cons (.asg (.name 8) (.bin .Mod (.bin .FloorDiv (.var 2) (.con (.int 3))) (.bfn .len (.cons (.var 7) .nil))))
  oo)
  .nil)
  mw)
abbrev qu:CB:=
  (.cons (.asgc 7 (.comp ["_law_k"] [3,4,6] (.name 0) (.range1 (.bfn .len (.cons (.var 6) .nil))) .no (.tup (.cons (.idx (.var 1) (.var 0)) (.cons (.idx (.var 2) (.idx (.var 3) (.var 0))) .nil)))))
  my)
abbrev qv:CB:=
  (.cons (.asg (.name 6) (.call "_law_held" (.cons (.cut (.var 0) (.yes (.con (.int 2))) (.yes (.con (.int 18)))) (.cons (.var 4) .nil))))
  qu)
abbrev qw:CB:=
  (.cons (.asg (.tup (.cons (.name 4) (.cons (.name 5) .nil))) (.call "_law_grown" (.cons (.cut (.var 0) (.yes (.con (.int 2))) (.yes (.con (.int 18)))) (.cons (.var 1) .nil))))
  qv)
abbrev qx:CB:=
  (.cons (.iff (.cmp .Eq (.bin .Mod (.var 2) (.con (.int 3))) (.con (.int 0)))
  (.cons (.ret (.call "_law_random" (.cons (.cut (.var 0) (.yes (.con (.int 2))) (.yes (.con (.int 18)))) (.cons (.var 3) (.cons (.var 1) .nil)))))
  .nil)
  .nil)
  qw)
abbrev qy:CB:=
  (.cons (.asg (.name 3) (.call "_law_names" (.cons (.call "_law_cell_at" (.cons (.var 0) (.cons (.con (.int 0)) .nil))) (.cons (.con (.int 16)) .nil))))
  qx)
abbrev ve:CB:=
  (.cons (.asg (.name 2) (.call "_law_draw" (.cons (.call "_law_cell_at" (.cons (.var 0) (.cons (.con (.int 1)) .nil))) (.cons (.con (.int 4)) .nil))))
  qy)
end K33
namespace K33
open L2 R Cp Lt Kc K21 K22
section
variable {G:Gam}
def Kv(K:ak):Sp:=λvs H Q _=>∃(b:Addr)(ns:List Int)(n:Nat),vs=[.ref b,.int n]/\n<=10/\SqL K H b (ns.map V.int)/\
 ∀(H':Hp)(t:Addr)(ys:List V)(c:Int),aO H H'->H t=none->H' t<*(.lst ys)->ys.length<=16->Dr H' (K21.nm c) n ys->Q (.ref t) H'
def Ja(xs:List V):(uB xs (some 2) (some 18)).length<=16:=by unfold uB;rw[bJ,show HT.sIx xs.length xs.length (some 18)=min 18 xs.length from HT.vO _ _ 18,show HT.sIx xs.length 0 (some 2)=min 2 xs.length from HT.vO _ _ 2];lia
def JW(Z:G.fn "_law_otherwise" 2<*(jI K,[])){E:XS}{D:Ends}{Q:VK}{t:Addr}{h c:Int}{a b e f g:Option V}(hw:0<=h)(v:aO H0 H)(Y:H0 t=none)(x:H t<*(.lst ys))(u:ys.length<=16)(hn:n<=10)(dr:Dr H (K21.nm c) n ys)(hr:D.rt=Q)
  (q:∀(H':Hp)(ys:List V),aO H0 H'->H' t<*(.lst ys)->ys.length<=16->Dr H' (K21.nm c) n ys->Q (.ref t) H'):
  wpB G K E my D [a,some (.int n),some (.int h),b,e,f,g,some (.ref t),none] H:=by
 unfold my;ext;have p:∀{F:L2.St}(H':Hp)(ys:List V),aO H0 H'->H' t<*(.lst ys)->ys.length<=16->Dr H' (K21.nm c) n ys->F[7]?<*(some (.ref t))->wpB G K E mw D F H':=by intro F H' ys s j h3 h4 h5;unfold mw;ext;rw[hr];exact(_,h5,q H' ys s j h3 h4,)
 refine('E',?_,);by_cases s:h%3=1
 .rw[decide_eq_true s,if_pos rfl];by_cases j:(0:Int)<n
  .rw[decide_eq_true j,if_pos rfl];refine(short 'F',λp0 a0=>?_,);generalize hX:upd H p0 _=H1;obtain⟨w,T⟩:=fh hX a0;clear hX;have o:=dr.same w;have i:=w _ _ x;have R:∀y∈ys,dE H1 y=true:=λy l=>by obtain⟨k,hk⟩:=aS.mp l;exact(nQ (K21.LU c) o 'D' hk).1
   obtain⟨d,S,r1,r2,r3,r4⟩:=xQ (K:=K) i T R;refine(d,S,r1,r2,r3,_,rfl,?_,);rw[r4];by_cases hy0:ys=[];·rw[decide_eq_true hy0];exact p H1 ys (v.trans w) i u o rfl
   .rw[decide_eq_false hy0];show if true=true then _ else _
    rw[if_pos rfl];have a6:0<ys.length:=eN.mpr hy0;refine(('E','E',),Or.inl (t,ys,rfl,.inl (SqL.of i),?_,),);ext;have i0:0<=h/3%(ys.length:Int):=bU _ 'D';have i1:h/3%(ys.length:Int)<ys.length:=cn _ 'D';obtain⟨z,hz⟩:=dA i0;have M:z<ys.length:=by lia
    obtain⟨y,l⟩:∃y,ys[z]?<*y:=(ys[z],ae M,);obtain⟨I,r,zs,rfl,N,k2,k3,k4⟩:=o z y l;rw[hz];refine('D',?_,);unfold oo;ext;refine .inl (t,ys,z,_,rfl,rfl,SqL.of i,cy l,?_,);refine .inr (.inl (I,_,0,.str (K21.nm c z),rfl,rfl,SqT.of N,rfl,?_,));refine(_,_,Z,.inl (t,ys,z,_,rfl,rfl,SqL.of i,cy l,?_,),);refine .inr (.inl (I,_,1,.ref r,rfl,rfl,SqT.of N,rfl,?_,));refine(('E','E',),j,short 'F',λm a1=>?_,);have A:aO H1 (upd H1 m (.lst [V.int (h/60%(n:Int))])):=aL a1;have J:upd H1 m (.lst [V.int (h/60%(n:Int))]) m<*(.lst ([h/60%(n:Int)].map V.int)):=aD;generalize upd H1 m (.lst [V.int (h/60%(n:Int))])=H2 at A J⊢;refine⟨r,m,zs,_,rfl,SqT.of (A _ _ k2),SqL.of J,'D',k4,λP a4 ws s3 hp U a5 a3=>(short 'F',λC a2=>?_,)⟩;generalize hX:upd P C _=H4;obtain⟨O,X⟩:=fh hX a2;clear hX;have B:aO H1 H4:=A.trans (s3.trans O);have L:=B _ _ i;have W:=O _ _ U;refine(t,ys,z,z,rfl,rfl,L,?_,?_,);·unfold ixN;rw[if_pos 'D',if_pos 'D'];simp
    .refine p _ (ys.set z (.ref C)) (fU (v.trans (w.trans B)) Y) aD (by rw[z6];exact u) (Dr.set ?_ L) rfl;intro k y e;by_cases hkz:k=z;·subst hkz;rw[p9 M]at e;cases e;exact(C,a4,ws,rfl,X,W,'D',a3,)
     .rw[la (bI hkz)]at e;exact o.same B k y e
  .rw[decide_eq_false j];exact p H ys v x u dr rfl
 .rw[decide_eq_false s];exact p H ys v x u dr rfl
def wp_tab(S:G.fn "_law_cell_at" 2<*(Au K,[]))(g1:G.fn "_law_draw" 2<*(j7,[]))(g2:G.fn "_law_otherwise" 2<*(jI K,[]))(g3:G.fn "_law_names" 2<*(Al,[]))(g4:G.fn "_law_random" 3<*(wI K,[]))(g5:G.fn "_law_grown" 2<*(Ao K,[]))(g6:G.fn "_law_held" 2<*(EC K,[])):
  Sat G K (Kv K) ve uV:=by
 rintro O H b6 b5 ⟨b,f,n,rfl,c1,v,q⟩;unfold ve qy;change wpB G K _ _ _ [some (.ref b),some (.int n),none,none,none,none,none,none,none] H;ext;refine(_,_,g1,_,_,S,b,f,1,rfl,v,_,4,rfl,'E','E',?_,);have W:=Bi (f.getD 1 0) 4;generalize draw (f.getD 1 0) 4=way at W⊢;refine(_,_,g3,_,_,S,b,f,0,rfl,v,_,16,rfl,'E',λE l y hl I=>?_,);generalize f.getD 0 0=c at I;obtain⟨x,B⟩:=DD f (some 2) (some 18);have J:x.length<=16:=by have :=Ja (f.map V.int);rw[B,ao]at this;exact this
 unfold qx;ext;refine('E',?_,);by_cases hw2:way%3=0;·rw[decide_eq_true hw2,if_pos rfl];refine(_,_,g4,.inl (b,_,rfl,y.seq v,λp L=>?_,),);rw[B]at *;have h:aO E (upd E p (.lst (x.map V.int))):=aL L;refine(p,l,x,K21.nm c,16,n,rfl,SqL.of aD,SqL.of (h _ _ I),J,'E','D',K21.LU c,λi t g C e et b1 dr=>?_,);exact q i t g c (y.trans (h.trans C)) ((y.trans h).free e) et 'D' dr
 .rw[decide_eq_false hw2,if_neg aq];unfold qw;ext;refine(_,_,g5,.inl (b,_,rfl,y.seq v,λp L=>?_,),);rw[B];generalize hX:upd E p _=H2;obtain⟨h,ep⟩:=fh hX L;clear hX;refine(p,x,n,rfl,SqL.of ep,J,'D',λi pr M lk g C a5 fnd R b0 b1 nds=>?_,);refine(pr,_,rfl,SqT.of a5,rfl,_,_,rfl,_,_,rfl,rfl,?_,);unfold qv;ext;have Z:aO H i:=y.trans (h.trans C);refine(_,_,g6,.inl (b,_,rfl,Z.seq v,λY a8=>?_,),);rw[B];generalize hX:upd i Y _=H4;obtain⟨s5,a4⟩:=fh hX a8;clear hX;refine(Y,M,x,g,rfl,SqL.of a4,SqL.of (s5 _ _ R),J,b0,λF l2 w s6 b9 Q b8 hh=>?_,);have D:aO i F:=s5.trans s6;have b2:=nds.same D;have a3:=D _ _ R;have a2:=D _ _ (C _ _ (h _ _ I));unfold qu;ext;refine dY ?_;ext;refine Or.inl (l2,_,rfl,.inl (SqL.of Q),_,rfl,by rw[ao];lia,by rw[ao];lia,?_,);refine eT dB (short (by simp;lia)) (λ_ _=>trivial) (λk a0 A=>∃b r a,a0=.ref b/\A b<*(.tup [.str (K21.nm c k),.ref r])/\A r<*(.tup a)/\a.length=n/\∀z∈a,cm z=true)
   (λk a0 H8 H9 s ⟨b,r,a,j,m,o,u⟩=>(b,r,a,j,s _ _ m,s _ _ o,u,)) (λτ=>∃t,τ=[t,some (.ref l),some (.ref M),some (.ref l2)]) (none,rfl,) ?_ ?_
  .rintro k c2 τ P b7 hk ⟨t,rfl⟩ d rfl kk;ext;simp only[dP];have T:k<w.length:=by simpa using hk
   have a6:((aF 16).map λk=>V.str (K21.nm c k))[k]?<*(.str (K21.nm c k)):=by rw[ay,bZ 'D'];rfl
   have a7:(w.map V.int)[k]?<*(.int w[k]):=by rw[ay,ae T];rfl
   obtain⟨i0,i1⟩:=hh w[k] (bQ T);obtain⟨z,hz⟩:=dA i0;have X:z<g.length:=by lia
   have hy:g[z]?<*g[z]:=ae X;obtain⟨r,a,ez,k1,k2,k3⟩:=b2 g[z] (bQ X);refine .inl (l,_,k,_,rfl,rfl,SqL.of (d _ _ a2),cy a6,?_,);refine .inl (l2,_,k,_,rfl,rfl,SqL.of (d _ _ Q),cy a7,?_,);rw[hz];refine .inl (M,_,z,_,rfl,rfl,SqL.of (d _ _ a3),cy hy,short 'F',λtp U=>?_,);rw[ez];refine kk _ _ _ (_,rfl,) (aL U) (tp,r,a,rfl,aD,?_,k2,k3,);exact aL U _ _ (d _ _ k1)
  .intro O P t a9 hF d e;have c0:O.length=w.length:=by simpa using a9
   have s9:aO F (upd P t (.lst O)):=d.trans (aL e);have N:aO H F:=Z.trans D;refine JW (c:=c) (n:=n) g2 W (N.trans s9) ((N.trans d).free e) aD 'D' 'D' (λk b3 a1=>?_) rfl (λA b4 j m o u=>q A t b4 c j ((N.trans d).free e) m o u);obtain⟨b,r,a,j,m,o,u⟩:=hF k b3 a1;exact(b,r,a,j,aL e _ _ m,aL e _ _ o,u,)
end
end K33
namespace K75
open L2 R Cp Lt Kc K21 K22 Lm M5 K32 K34
theorem zw:∀u v:List Int,o9 (u.map L2.D.int) (v.map .int)=decide (u=v)
 | [],[]=>rfl
 | [],_::_=>rfl
 |_::_,[]=>rfl
 |a::u,b::v=>by
  show(eqD (.int a) (.int b)&&o9 (u.map L2.D.int) (v.map .int))=_;rw[zw u v];have e:eqD (.int a) (.int b)=decide (a=b):=by show(a==b)=_;rw[de,beq_iff_eq,decide_eq_true_eq]
  rw[e,de,aB,decide_eq_true_eq,decide_eq_true_eq,decide_eq_true_eq,oF]
def Bg(u v:List Int):eqD (K83.nd1 u) (K83.nd1 v)=decide (u=v):=zw u v
theorem o8:∀ns:List (List Int),fL (ns.map K83.nd1)<=1
 | []=>bf _
 |v::ns=>by
  have :=o8 ns;have a:hgt (K83.nd1 v)=1:=by show fL (v.map L2.D.int)+1=1;rw[jB]
  show max (hgt (K83.nd1 v)) (fL (ns.map K83.nd1))<=1;lia
def NB(a:List (List Int))(v:List Int):((a.map K83.nd1).any λd=>eqD d (K83.nd1 v))=decide (v∈a):=by
 rw[Hz,de,cz,decide_eq_true_eq];constructor
 .rintro⟨x,b,e⟩;have :x=v:=by have e:eqD (K83.nd1 x) (K83.nd1 v)=true:=e;rw[Bg]at e;exact W0 e
  exact this▸b
 .intro h;refine(v,h,?_,);show eqD (K83.nd1 v) (K83.nd1 v)=true;rw[Bg,decide_eq_true rfl]
end K75
namespace K31
open L2 R Cp Lt Kc K21 K22 Lm M5 K32 K34
theorem B4{e a f:Type}(t:a->Bool)(g:a->f):∀(xs:List e)(ds:List a),xs.length=ds.length->((xs.zip ds).filter λp=>t p.2).map (λp=>g p.2)=(ds.filter t).map g
 | [],[],_=>rfl
 |x::xs,d::ds,h=>by
  have b:=B4 t g xs ds (jt h);rw[vo];cases c:t d with
  |true=>rw[oO (by exact c),oO c,bw,bw,b]
  |false=>rw[oP (by show ¬t d=true;rw[c];decide),oP (by rw[c];decide),b]
 | [],_::_,h=>by cases h
 |_::_,[],h=>by cases h
def ik_app{vs a:List (List Int)}(h:_root_.Q.IntKeys H xs vs)(g:_root_.Q.IntKeys H ys a):_root_.Q.IntKeys H (xs++ys) (vs++a):=by
 unfold _root_.Q.IntKeys at h
 induction h with
 |nil=>exact g
 |cons y0 _ ih=>exact .cons y0 ih
end K31
namespace K33
open R
abbrev yz:List Str:=["_law_branches","_law_start"]
abbrev qi:List Str:=["_law_branches","_law_start","_law_found","_law_done","_law_branch","_law_other"]
abbrev km:CB:=
  (.cons (.ret (.var 2))
  .nil)
abbrev l5:CB:=
  (.cons (.asg (.name 3) (.bin .Add (.var 3) (.con (.int 1))))
  .nil)
abbrev gN:CB:=
  (.cons (.iff (.cmp .NotIn (.var 5) (.var 2))
  (.cons (.expr (.meth1 .append (.var 2) (.var 5)))
  .nil)
  .nil)
  .nil)
abbrev kq:CB:=
  (.cons (.whl (.cmp .Lt (.var 3) (.bfn .len (.cons (.var 2) .nil)))
  (.cons (.forr (.name 4) (.seq (.var 0))
  (.cons (.iff (.x2 .inT (.idx (.var 2) (.var 3)) (.cut (.var 4) .no (.yes (.con (.int 2)))))
  (.cons (.asg (.name 5) (.idx (.var 4) (.bfn .int (.cons (.cmp .Eq (.idx (.var 4) (.con (.int 0))) (.idx (.var 2) (.var 3))) .nil))))
  gN)
  .nil)
  .nil))
  l5))
  km)
abbrev oq:CB:=
  (.cons (.asg (.name 3) (.con (.int 0)))
  kq)
abbrev qz:CB:=
  (.cons (.asg (.name 2) (.lst (.cons (.var 1) .nil)))
  oq)
abbrev CK:List Str:=["_law_one","_law_other"]
abbrev uZ:List Str:=["_law_one","_law_other"]
abbrev vj:CB:=
  (.cons (.ret (.bfn .tuple (.cons (.comp ["_law_place"] [0,1] (.name 0) (.range1 (.bfn .len (.cons (.var 0) .nil))) (.yes (.cmp .NotEq (.idx (.var 1) (.var 0)) (.idx (.var 2) (.var 0)))) (.var 0)) .nil)))
  .nil)
end K33
namespace K33
open L2 R Cp Lt Kc K21 K22 Lm M5 K32 K34 M7 M8 K75
def E9{a:List (List Int)}(t:Tbl rows n)(c:Tbl a n)(h:∀r,r∈rows↔r∈a):mT (nds rows n)=mT (nds a n)/\fZ (trs rows n)=fZ (trs a n):=by
 have I:=M9.Mw t c h;have pn:=I.nodes;rw[iK]at pn;have pt:=I.tris;have e:(trs rows n).map (psi n id id)=trs rows n:=by
  conv =>rhs;rw[<-iK (trs rows n)]
  refine cN λx b=>?_;obtain⟨p,_,_,rfl⟩:=(hJ t).mp b;exact M9.psi_id
 rw[e]at pt;exact(M9.tQ (ud t) pn,M9.tP (nF t) pt,)
structure Trh(H:Hp)(p l1 l2:Addr)(xs ts:List V)(NS:List (List Int))(TS:List Tri):Prop where
 ep:H p<*(.tup [.ref l1,.ref l2])
 e1:H l1<*(.lst xs)
 e2:H l2<*(.lst ts)
 ik:_root_.Q.IntKeys H xs NS
 tk:Paired (pG H) ts TS
def Trh.same{p l1 l2:Addr}{TS:List Tri}(d:Trh H p l1 l2 xs ts NS TS)(s:aO H H'):Trh H' p l1 l2 xs ts NS TS:=
 (s _ _ d.ep,s _ _ d.e1,s _ _ d.e2,K83.vT s d.ik,tris_tk (Tk.of s) d.tk,)
def grown_h{p:Addr}(t:Tbl rows n)(g:K32.uI rows n H H' p):∃l1 l2 xs ts,Trh H' p l1 l2 xs ts (mT (nds rows n)) (fZ (trs rows n)):=by
 obtain⟨s,bl,w,bs,a,l,_,_,_,b,m,o,e,bk,k,d⟩:=g;have hf:∀p,p<n->K32.fr rows p=0\/K32.fr rows p=1:=λp _=>t.f01 p;have q:K83.GrQ rows n a:=(b,m,o,);have i:=q.perm (qQ rows n);have f:=M5.w8 hf b;have c:=M5.FN hf b;have j:(M5.brK (K32.fr rows) n (K32.grp rows) a).map _root_.Q.nR=(a.map (Kf rows n)).map key:=by unfold M5.brK;rw[bF,bF];rfl
 rw[j]at c d;have u:mT (M5.jc (K32.fr rows) n (K32.grp rows) a)=mT (nds rows n):=M9.tQ f (.cons _ (i.map _));have v:fZ (a.map (Kf rows n))=fZ (trs rows n):=M9.tP c (i.map _);refine(s,bl,_,_,l,k,d,?_,?_,);·rw[<-u];exact K83.vS f (K83.iB e).symm e
 .rw[<-v];refine K83.vS c (by rw[ao,ao];exact(K83.iB bk).symm) ?_;have :∀{bs:List V}{a:List Int},Paired (K32.BrOf (K32.fr rows) n (K32.grp rows) H') bs a->Paired (pG H') bs (a.map (Kf rows n)):=λ{bs a} h=>by
   induction h with
   |nil=>exact .nil
   |cons x r ih=>exact .cons x ih
  exact this bk
def tree_h{t p:Addr}(d:Tn H t nf n ys rows)(e:ys≠[])(tk:K32.TreeK (rowsOf H (.ref t)) (Cp.count H (.ref t)) H H' p):∃l1 l2 xs ts,Trh H' p l1 l2 xs ts (mT (nds rows n)) (fZ (trs rows n)):=by
 have f:=d.tbl e;have h:rowsOf H (.ref t)≠[]:=λz=>e (by have :=d.perm.length_eq;rw[z,ao]at this;exact bP.mp this.symm)
 have k:M7.Tbl (K32.rI (rowsOf H (.ref t))) n:=(λr c=>f.ok r ((d.mem r).mp c),λz=>h (List.map_eq_nil_iff.mp z),λi j a b=>(f.mis i j a b).sub λr c=>(d.mem r).mp c,);rcases tk with⟨z,_⟩ |⟨_,g⟩;·exact absurd z h
 .rw[d.count e]at g;obtain⟨l,m⟩:=E9 k f d.mem;rw[<-l,<-m];exact grown_h k g
abbrev apt(n:Nat)(x y:List Int):List Int:=M5.plc n λi=>decide (x.getD i 0≠y.getD i 0)
def spAp:Sp:=λvs H Q _=>∃(a b:Addr)(x y:List Int)(n:Nat),vs=[.ref a,.ref b]/\H a<*(.tup (x.map V.int))/\H b<*(.tup (y.map V.int))/\x.length=n/\y.length=n/\n<=60/\∀H' p,aO H H'->H' p<*(.tup ((apt n x y).map V.int))->Q (.ref p) H'
def wp_ap:Sat G K spAp vj uZ:=by
 rintro t H Q E ⟨a,b,x,y,n,rfl,c,f,k,s,j,q⟩;unfold vj;change wpB G K _ _ _ [some (.ref a),some (.ref b)] H;ext;refine dY ?_;ext;refine Or.inl (a,_,rfl,.inr (SqT.of c),(n:Int),by rw[ao,k],'D','D',?_,);refine wN (P:=λi=>decide (x.getD i 0≠y.getD i 0)) (τs:=[some (.ref a),some (.ref b)]) j ?_ ?_;·intro p u r R d e h;ext;refine .inr (.inl (a,_,p,_,rfl,rfl,SqT.of (e _ _ c),cy (gv 'D'),?_,));refine .inr (.inl (b,_,p,_,rfl,rfl,SqT.of (e _ _ f),cy (gv 'D'),?_,));refine zc.mpr (_,rfl,?_,);simpa using h
 .intro o l m g;refine(l,_,rfl,.inl (SqL.of aD,λp d=>q _ _ (m.trans ((aL g).trans (aL d))) aD,),)
def Cl(TS:List Tri)(ks:List (List Int))(u:List Int):Prop:=∀x∈TS,(x.1=u->x.2.1∈ks)/\(x.2.1=u->x.1∈ks)
structure Rc(rows:List (List Int))(n:Nat)(H H':Hp)(fl:Addr)(ks:List (List Int))(us:List V):Prop where
 s:aO H H'
 ef:H' fl<*(.lst us)
 ik:_root_.Q.IntKeys H' us ks
 nd:ks.Nodup
 ft:∀k∈ks,Fits rows n k
 ne:ks≠[]
def Rc.same{ks:List (List Int)}{us:List V}(r:Rc rows n H H' fl ks us)(s:aO H' H2):Rc rows n H H2 fl ks us:={r with s:=r.s.trans s,ef:=s _ _ r.ef,ik:=K83.vT s r.ik}
def Rc.len{ks:List (List Int)}{us:List V}(r:Rc rows n H H' fl ks us)(t:Tbl rows n):us.length=ks.length/\ks.length<=(nds rows n).length:=
 (K83.iB r.ik,r.nd.length_le_of_subset λx a=>(jR t).mpr (r.ft x a),)
def ik_at{us:List V}{ks:List (List Int)}(h:_root_.Q.IntKeys H us ks){k:List Int}(e:ks[i]?<*k):∃c,us[i]?<*(.ref c)/\H c<*(.tup (k.map V.int)):=by have f:=K83.iB h;have hi:=(av.mp e).1;obtain⟨g,a,c,d,b⟩:=K83.y6 h (ae (by rw[f];exact hi));rw[e]at a;cases a;exact(c,by rw[<-d];exact ae _,b,)
def mW{p:Addr}{us:List V}{c:List (List Int)}{Q:VK}(d:H p<*(.lst us))(f:_root_.Q.IntKeys H us c)(g:H b<*(.tup (v.map V.int)))(q:Q (.bl (!decide (v∈c))) H):i3 K .NotIn (.ref b) (.ref p) H Q:=by refine .inl (.inr (p,us,c.map K83.nd1,K83.nd1 v,rfl,SqL.of d,K83.iZ g,K83.vQ (λv a ⟨x,e,h⟩=>by subst e;exact K83.iZ h) f,aT (o8 c) 'E',?_,));rw[NB];exact q
def MA{x:Tri}{u:List Int}{R:Bool->Hp->Prop}(i:pG H (.ref b) x)(j:H c<*(.tup (u.map V.int)))(q:∀H',aO H H'->R (atN u x) H'):
  K8 K (.ref b) none (some 2) H λy H2=>rInT K (.ref c) y H2 λz H'=>∃k,z=.bl k/\R k H':=by
 obtain⟨n,p,a,r,e,h,f,g,t⟩:=i;cases e;refine .inr (.inl (b,_,rfl,SqT.of h,(show ¬(HT.sIx 3 0 none=0/\HT.sIx 3 3 (some 2)=3) by decide),λm l=>?_,));have s:=aL (o:=.tup (uB [.ref p,.ref a,.ref r] none (some 2))) l;refine(m,[.ref p,.ref a],[x.1,x.2.1].map K83.nd1,K83.nd1 u,rfl,SqT.of aD,K83.iZ (s _ _ j),(_,_,rfl,K83.iZ (s _ _ f),_,_,rfl,K83.iZ (s _ _ g),rfl,),aT (o8 _) 'E',_,rfl,?_,);have e:([x.1,x.2.1].map K83.nd1).any (λd=>eqD d (K83.nd1 u))=atN u x:=by rw[NB];unfold atN;rw[de,cR,decide_eq_true_eq,decide_eq_true_eq,decide_eq_true_eq];simp[eq_comm]
 rw[e];exact q _ s
section
variable {G:Gam}{E:XS}{D:Ends}{l2 fl a:Addr}{TS:List Tri}
def qf(t:Tbl rows n)(v:n<=60)(i:H fl=none){ks:List (List Int)}{us:List V}(r:Rc rows n H H' fl ks us){w:List Int}(j:Fits rows n w)(a:H' c<*(.tup (w.map V.int))){d f g h:Option V}
  (q:∀H2 b u,Rc rows n H H2 fl b u->(∃z,b=ks++z)->w∈b->D.nx [d,f,some (.ref fl),g,h,some (.ref c)] H2):wpB G K E gN D [d,f,some (.ref fl),g,h,some (.ref c)] H':=by
 unfold gN;ext;refine mW r.ef r.ik a (_,rfl,?_,);by_cases m:w∈ks;·rw[if_neg (by simp[m])];exact q H' ks us r ⟨[],'F'⟩ m
 .rw[if_pos (by simp[m])];have l:=r.len t;have A:=M9.GO rows n;refine(.inl (rfl,_,SqL.of r.ef,),fl,us,_,rfl,rfl,r.ef,dJ (show us.length<=61 by lia) 'E',?_,);refine q _ (ks++[w]) (us++[.ref c]) ⟨fU r.s i,aD,?_,?_,?_,'F'⟩ (_,rfl,) 'F';·have s:=K83.pr_set (xs':=us++[.ref c]) r.ik r.ef;refine K31.ik_app s (.cons (c,rfl,?_,) .nil);rw[bj (λz=>by rw[z,r.ef]at a;cases a)];exact a
  .exact du.mpr ⟨r.nd,'F',λx o y p e=>m (by rw[aU.mp p]at e;exact e▸o)⟩
  .intro k hk;rcases cX.mp hk with hk|hk;·exact r.ft k hk
   .rw[aU.mp hk];exact j
def Fv(rows:List (List Int))(n:Nat)(H:Hp)(l2 a fl:Addr)(TS:List Tri)(ks:List (List Int))(i:Nat)(u:List Int)(k:Nat)(σ:L2.St)(H':Hp):Prop:=
 ∃b c v w,Rc rows n H H' fl b c/\(∃z,b=ks++z)/\(∀x∈TS.take k,(x.1=u->x.2.1∈b)/\(x.2.1=u->x.1∈b))/\σ=[some (.ref l2),some (.ref a),some (.ref fl),some (.int i),v,w]
def wp_re_3(t:Tbl rows n)(a1:n<=60)(Z:H fl=none)(Y:H l2<*(.lst ts))(tk:Paired (pG H) ts TS)(hT:∀x,x∈TS↔x∈trs rows n){ks:List (List Int)}{us:List V}(r:Rc rows n H H' fl ks us)
  (q:∀H2 d A b3 b4 b5,Rc rows n H H2 fl d A->(∀u∈d,Cl TS d u)->wpB G K E km D [some (.ref l2),some (.ref a),some (.ref fl),b3,b4,b5] H2):wpB G K E kq D [some (.ref l2),some (.ref a),some (.ref fl),some (.int 0),none,none] H':=by
 unfold kq;ext;refine(λa0 C H'=>∃(ks:List (List Int))(us:List V)(i:Nat)(v w:Option V),a0=(nds rows n).length-i/\i<=ks.length/\(∀(j:Nat) u,j<i->ks[j]?<*u->Cl TS ks u)/\Rc rows n H H' fl ks us/\C=[some (.ref l2),some (.ref a),some (.ref fl),some (.int i),v,w],
  (_,ks,us,0,none,none,rfl,bf _,λj u h=>absurd h (d9 _),r,rfl,),?_,)
 rintro a0 C H2 ⟨ks,us,i,v,w,rfl,hi,U,r,rfl⟩;have a6:=r.len t;ext;refine .inl (fl,_,rfl,.inl (SqL.of r.ef),?_,);rw[a6.1];refine Dd.mpr (_,rfl,?_,);by_cases c:i<ks.length
 .rw[if_pos (decide_eq_true 'D')];have O:ks[i]?<*ks[i]:=ae c;generalize ks[i]=u at O;refine(λa7 H'=>∃m',m'<(nds rows n).length-i/\∃(ks:List (List Int))(us:List V)(i:Nat)(v w:Option V),m'=(nds rows n).length-i/\i<=ks.length/\(∀(j:Nat) u,j<i->ks[j]?<*u->Cl TS ks u)/\Rc rows n H H' fl ks us/\a7=[some (.ref l2),some (.ref a),some (.ref fl),some (.int i),v,w],λ_ _ h=>h,?_,);have len:=K83.iB tk;refine gM (_,rfl,.inl (l2,rfl,(_,SqL.of (r.s _ _ Y),),?_,),);refine fF eS (Fv rows n H l2 a fl TS ks i u) (ks,us,v,w,r,⟨[],'F'⟩,λx g=>by(rw[List.take_zero]at g;cases g),rfl,) (λk C H' _ h=>by obtain⟨_,_,_,_,o,_⟩:=h;exact SqL.of (o.s _ _ Y)) ?_ ?_
  .rintro k y C H4 H5 D2 hk ⟨a5,J,v',w',o,⟨z,rfl⟩,s,rfl⟩ hy s5 P _;obtain⟨x,g,tx⟩:=K83.y6 tk hy;have l:=o.same s5;have a3:pG H5 y x:=by obtain⟨a,a2,q,r,e,F,M,W,e4⟩:=tx;exact(a,a2,q,r,e,l.s _ _ F,l.s _ _ M,l.s _ _ W,l.s _ _ e4,)
   obtain⟨b,a2,q',r0,rfl,N,F,M,W⟩:=id a3;have m:(ks++z)[i]?<*u:=by rw[da c];exact O
   obtain⟨uc,X,hc⟩:=ik_at l.ik m;have a4:x∈trs rows n:=(hT x).mp (aH g);have L:=By t a4;have et:TS.take (k+1)=TS.take k++[x]:=by rw[cJ,g];rfl
   have T:∀{d:List (List Int)},(∃z',d=(ks++z)++z')->((x.1=u->x.2.1∈d)/\(x.2.1=u->x.1∈d))->∀y∈TS.take (k+1),(y.1=u->y.2.1∈d)/\(y.2.1=u->y.1∈d):=λ{d} ⟨z',e⟩ h y hy=>by
    rw[et]at hy;rcases cX.mp hy with hy|hy;·rw[e];exact(λh=>cF _ ((s y hy).1 h),λh=>cF _ ((s y hy).2 h),)
    .rw[aU.mp hy];exact h
   ext;refine .inl (fl,J,i,_,rfl,rfl,SqL.of l.ef,cy X,?_,);refine MA a3 hc λH6 f=>?_;have I:=l.same f;have ne:x.1≠x.2.1:=λz=>by have :=L.lt;rw[z,_root_.Q.xu]at this;cases this
   cases at_:atN u x with
   |false=>
    rw[if_neg aq];have an:¬x.1=u/\¬x.2.1=u:=by unfold atN at at_;simpa using at_
    exact P _ _ (_,_,_,_,I,(z,rfl,),T ⟨[],'F'⟩ (λh=>absurd h an.1,λh=>absurd h an.2,),rfl,)
   |true=>
    rw[if_pos rfl];refine .inr (.inl (b,_,0,_,rfl,rfl,SqT.of (f _ _ N),cy (j:=0) rfl,?_,));refine .inl (fl,J,i,_,rfl,rfl,SqL.of I.ef,cy X,?_,);refine(K83.nd1 x.1,K83.nd1 u,K83.iZ (f _ _ F),K83.iZ (f _ _ hc),by(show fL (x.1.map L2.D.int)+1<=30;rw[jB];decide),?_,);rw[Bg];refine .inr (_,rfl,?_,);by_cases h1:x.1=u;·rw[decide_eq_true h1];refine .inr (.inl (b,_,1,_,rfl,rfl,SqT.of (f _ _ N),cy (j:=1) rfl,?_,));refine qf t a1 Z I L.f2 (f _ _ M) λH7 d A S ⟨B,p⟩ R=>P _ _ (d,A,_,_,S,⟨z++B,by rw[p,fT]⟩,T (B,p,) (λ_=>R,λh=>absurd (h1.trans h.symm) ne,),rfl,)
    .rw[decide_eq_false h1];have h2:x.2.1=u:=by unfold atN at at_;simp[h1]at at_;exact at_
     refine .inr (.inl (b,_,0,_,rfl,rfl,SqT.of (f _ _ N),cy (j:=0) rfl,?_,));refine qf t a1 Z I L.f1 (f _ _ F) λH7 d A S ⟨B,p⟩ R=>P _ _ (d,A,_,_,S,⟨z++B,by rw[p,fT]⟩,T (B,p,) (λh=>absurd h h1,λ_=>R,),rfl,)
  .rintro C H4 ⟨a5,J,v',w',o,⟨z,rfl⟩,s,rfl⟩;rw[len,dg]at s;unfold l5;ext;have l':=o.len t;refine(_,'D',ks++z,J,i+1,_,_,rfl,by rw[bX];lia,λj u' Q m=>?_,o,rfl,);by_cases ej:j=i;·subst ej;rw[da c,O]at m;cases m;exact s
   .rw[da 'D']at m;intro x g;have :=U j u' 'D' m x g;exact(λh=>cF _ (this.1 h),λh=>cF _ (this.2 h),)
 .rw[if_neg (by simp;lia)];refine q H2 ks us _ _ _ r λu hu=>?_;obtain⟨j,Q⟩:=aS.mp hu;exact U j u (by have :=(av.mp Q).1;lia) Q
def spRe:Sp:=λvs H Q _=>∃(l2 a:Addr)(ts:List V)(TS:List Tri)(rows:List (List Int))(n:Nat)(v:List Int),vs=[.ref l2,.ref a]/\Tbl rows n/\n<=60/\H l2<*(.lst ts)/\Paired (pG H) ts TS/\(∀x,x∈TS↔x∈trs rows n)/\H a<*(.tup (v.map V.int))/\Fits rows n v/\
 ∀H' l us,aO H H'->H' l<*(.lst us)->us.length=(nds rows n).length->Q (.ref l) H'
def wp_re:Sat G K spRe qz qi:=by rintro B H Q E ⟨l2,a,A,TS,z,n,v,rfl,t,m,f,tk,b,e,h,q⟩;unfold qz;change wpB G K _ _ _ [some (.ref l2),some (.ref a),none,none,none,none] H;ext;refine(short 'F',λg hf=>?_,);unfold oq;ext;refine wp_re_3 (ks:=[v]) t m hf f tk b ⟨aL hf,aD,.cons (a,rfl,aL hf _ _ e,) .nil,'F',λk i=>by rw[aU.mp i];exact h,'F'⟩ λc y o p s w r d=>?_;unfold km;ext;refine q c g o r.s r.ef ?_;rw[(r.len t).1];exact FI t r.nd r.ft r.ne λu j x l=>d u j x ((b x).mpr l)
end
end K33
namespace K33
open R
abbrev CH:List Str:=["_law_found","_law_table_here","_law_many"]
abbrev uX:List Str:=["_law_found","_law_table_here","_law_many","_law_nodes","_law_branches","_law_stood","_law_one","_law_other","_law_some","_law_torn","_law_node"]
abbrev lC:CB:=
  (.cons (.ret (.con (.bool true)))
  .nil)
abbrev jM:CB:=
  (.cons (.forr (.name 10) (.seq (.var 3))
  (.cons (.iff (.cmp .NotIn (.var 10) (.comp ["_law_name","_law_readings"] [] (.tup (.cons (.name 0) (.cons (.name 1) .nil))) (.seq (.var 1)) .no (.var 1)))
  (.cons (.iff (.cmp .Lt (.bfn .len (.cons (.comp ["_law_branch"] [10] (.name 0) (.seq (.var 4)) (.yes (.x2 .inT (.var 1) (.cut (.var 0) .no (.yes (.con (.int 2)))))) (.var 0)) .nil)) (.con (.int 3)))
  (.cons (.ret (.con (.bool false)))
  .nil)
  .nil)
  .nil)
  .nil)
  .nil))
  lC)
abbrev jN:CB:=
  (.cons (.iff (.cmp .NotEq (.bfn .len (.cons (.call "_law_reached" (.cons (.var 4) (.cons (.idx (.var 3) (.con (.int 0))) .nil))) .nil)) (.bfn .len (.cons (.var 3) .nil)))
  (.cons (.ret (.con (.bool false)))
  .nil)
  .nil)
  jM)
abbrev jO:CB:=
  (.cons (.iff (.or (.cmp .NotEq (.bfn .sorti (.cons (.var 5) .nil)) (.var 9)) (.cmp .NotEq (.bfn .len (.cons (.var 4) .nil)) (.bin .Sub (.bfn .len (.cons (.var 3) .nil)) (.con (.int 1)))))
  (.cons (.ret (.con (.bool false)))
  .nil)
  .nil)
  jN)
abbrev jP:CB:=
  (.cons (.asgc 9 (.comp ["_law_place"] [1] (.name 0) (.range1 (.var 2)) (.yes (.cmp .Gt (.bfn .len (.cons (.bfn .set (.cons (.comp ["_law_name","_law_readings"] [0] (.tup (.cons (.name 0) (.cons (.name 1) .nil))) (.seq (.var 1)) .no (.idx (.var 1) (.var 2))) .nil)) .nil)) (.con (.int 1)))) (.var 0)))
  jO)
abbrev oy:CB:=
  (.cons (.asg (.name 5) (.bin .Add (.var 5) (.bfn .list (.cons (.var 8) .nil))))
  .nil)
abbrev oz:CB:=
  (.cons (.iff (.or (.cmp .NotEq (.var 8) (.call "_law_apart" (.cons (.var 6) (.cons (.var 7) .nil)))) (.cmp .Eq (.var 8) (.tup .nil)))
  (.cons (.ret (.con (.bool false)))
  .nil)
  .nil)
  oy)
abbrev mz:CB:=
  (.cons (.forr (.tup (.cons (.name 6) (.cons (.name 7) (.cons (.name 8) .nil)))) (.seq (.var 4))
  (.cons (.iff (.or (.not (.x2 .ltL (.var 6) (.var 7))) (.or (.cmp .NotIn (.var 6) (.var 3)) (.cmp .NotIn (.var 7) (.var 3))))
  (.cons (.ret (.con (.bool false)))
  .nil)
  .nil)
  oz))
  jP)
abbrev mB:CB:=
  (.cons (.asg (.name 5) (.lst .nil))
  mz)
abbrev jQ:CB:=
  (.cons (.iff (.cmp .NotEq (.comp ["_law_name","_law_readings"] [3] (.tup (.cons (.name 0) (.cons (.name 1) .nil))) (.seq (.var 1)) (.yes (.cmp .NotIn (.var 1) (.var 2))) (.var 0)) (.lst .nil))
  (.cons (.ret (.con (.bool false)))
  .nil)
  .nil)
  mB)
abbrev mC:CB:=
  (.cons (.iff (.or (.cmp .NotEq (.var 3) (.ssetl (.var 3))) (.cmp .NotEq (.var 4) (.bfn .sortt (.cons (.var 4) .nil))))
  (.cons (.ret (.con (.bool false)))
  .nil)
  .nil)
  jQ)
abbrev vh:CB:=
  (.cons (.asg (.tup (.cons (.name 3) (.cons (.name 4) .nil))) (.var 0))
  mC)
end K33
namespace K33
open L2 R Cp Lt Kc K21 K22 Lm M5 K32 K34 M7 M8 K75
def m5{Q:VK}{v w:V}{dd:L2.D}(a:Rep K H dd v)(b:Rep K H dd w)(c:hgt dd<=20)(q:Q (.bl false) H):i3 K .NotEq v w H Q:=⟨dd,dd,a,b,'D',by rw[xM];exact q⟩
def yZ(e:H l<*(.lst xs))(b:_root_.Q.IntKeys H xs NS):Rep K H (.lst (NS.map K83.nd1)) (.ref l):=(l,_,rfl,SqL.of e,K83.vQ (λv a ⟨x,e,h⟩=>by subst e;exact K83.iZ h) b,)
def Ct{TS:List Tri}(e:H l<*(.lst ts))(tk:Paired (pG H) ts TS):Rep K H (.lst (TS.map Ey)) (.ref l):=(l,_,rfl,SqL.of e,K83.vQ (λv x ⟨a,p,q,r,e,b,c,d,f⟩=>by subst e;exact(a,_,rfl,SqT.of b,_,_,rfl,K83.iZ c,_,_,rfl,K83.iZ d,_,_,rfl,K83.iZ f,rfl,)) tk,)
def IV(a:List (List Int)):hgt (.lst (a.map K83.nd1))<=20:=by show fL (a.map K83.nd1)+1<=20;have :=o8 a;lia
theorem zm:∀TS:List Tri,fL (TS.map Ey)<=2
 | []=>bf _
 |x::TS=>by
  have :=zm TS;have a:hgt (Ey x)<=2:=by have :=o8 [x.1,x.2.1,x.2.2];show fL ([x.1,x.2.1,x.2.2].map K83.nd1)+1<=2;lia
  show max (hgt (Ey x)) (fL (TS.map Ey))<=2;lia
def MH(TS:List Tri):hgt (.lst (TS.map Ey))<=20:=by show fL (TS.map Ey)+1<=20;have :=zm TS;lia
structure Hs(rows:List (List Int))(n:Nat)(H:Hp)(t p l1 l2:Addr)(nf:Nat->Str)(ys xs ts:List V):Prop where
 d:Tn H t nf n ys rows
 y0:ys≠[]
 tr:Trh H p l1 l2 xs ts (mT (nds rows n)) (fZ (trs rows n))
 n10:n<=10
 y16:ys.length<=16
section
variable {G:Gam}{E:XS}{D:Ends}{Q:VK}{t p l1 l2:Addr}{nf:Nat->Str}{a5 a6 a7 a8 a9 a10:Option V}
theorem Hs.same(h:Hs rows n H t p l1 l2 nf ys xs ts)(s:aO H H'):Hs rows n H' t p l1 l2 nf ys xs ts:={h with d:=h.d.same s,tr:=h.tr.same s}
def Hs.tb(h:Hs rows n H t p l1 l2 nf ys xs ts):Tbl rows n:=h.d.tbl h.y0
def Hs.pn(h:Hs rows n H t p l1 l2 nf ys xs ts):(mT (nds rows n)).Perm (nds rows n):=M9.Ku (ud h.tb)
def Hs.pt(h:Hs rows n H t p l1 l2 nf ys xs ts):(fZ (trs rows n)).Perm (trs rows n):=M9.oR (nF h.tb)
def Hs.fits(h:Hs rows n H t p l1 l2 nf ys xs ts):v∈mT (nds rows n)↔Fits rows n v:=h.pn.mem_iff.trans (jR h.tb)
def Hs.lx(h:Hs rows n H t p l1 l2 nf ys xs ts):xs.length=(nds rows n).length/\(nds rows n).length<=11:=((K83.iB h.tr.ik).trans h.pn.length_eq,by have :=M9.GO rows n;have :=h.n10;lia,)
def Hs.lt(h:Hs rows n H t p l1 l2 nf ys xs ts):ts.length+1=(nds rows n).length:=by rw[<-len_one];exact congrArg (·+1) ((K83.iB h.tr.tk).trans h.pt.length_eq)
def ho_2(h:Hs rows n H t p l1 l2 nf ys xs ts)(q:∀H',aO H H'->wpB G K E jQ D [some (.ref p),some (.ref t),some (.int n),some (.ref l1),some (.ref l2),none,none,none,none,none,none] H'):
  wpB G K E mC D [some (.ref p),some (.ref t),some (.int n),some (.ref l1),some (.ref l2),none,none,none,none,none,none] H:=by
 have tb:=h.tb;unfold mC;ext;have O:∀{k:List Int},k∈mT (nds rows n)->k.length=n:=λ{k} g=>(h.fits.mp g).1.1;have S:=h.lx;have R:(mT (nds rows n)).length=xs.length:=(K83.iB h.tr.ik).symm;refine(_,rfl,l1,xs,mT (nds rows n),n,rfl,SqL.of h.tr.e1,'D',(mT (nds rows n),'D',λ_ h=>h,),λk g=>O g,h.tr.ik,λe c l j N s B=>?_,);have d:=aL (o:=.lst (_root_.Q.dU .non c e)) B;have r:upd H l (.lst (_root_.Q.dU .non c e)) l=_:=aD;have u:=K83.vT d s;generalize upd H l (.lst (_root_.Q.dU .non c e))=H1 at d r u;have a:=h.same d;have A:mT c=mT (nds rows n):=M9.tQ j ((iJ j (ud tb)).mpr λx=>by rw[N,h.pn.mem_iff]);have J:_root_.Q.IntKeys H1 (_root_.Q.dU .non c e) (mT (nds rows n)):=by rw[<-A];exact K83.vS j (K83.iB s).symm u
 refine m5 (yZ a.tr.e1 a.tr.ik) (yZ r J) (IV _) (_,rfl,?_,);rw[if_neg aq];have M:(fZ (trs rows n)).length=ts.length:=(K83.iB h.tr.tk).symm;have Q:=h.lt;have m:((fZ (trs rows n)).map λx=>(x.1,x.2.1)).map _root_.Q.nR=(fZ (trs rows n)).map key:=by rw[bF];rfl
 have i:((fZ (trs rows n)).map key).Nodup:=(h.pt.map key).nodup_iff.mpr (nF tb);refine(l2,ts,_,n,rfl,SqL.of a.tr.e2,by rw[ao];lia,by rw[m];exact i,λx F=>?_,Ke a.tr.tk,λL C=>?_,);·obtain⟨y,I,rfl⟩:=aI.mp F;have b:=By tb (h.pt.mem_iff.mp I);exact(b.f1.1.1,b.f2.1.1,)
 rw[m];generalize hX:upd H1 L _=H2;obtain⟨v,z⟩:=fh hX C;clear hX;have f:=a.same v;have w:fZ (fZ (trs rows n))=fZ (trs rows n):=M9.tP i h.pt;have P:Paired (pG H2) (_root_.Q.dU .non ((fZ (trs rows n)).map key) ts) (fZ (trs rows n)):=by
  conv =>rhs;rw[<-w]
  exact K83.vS i (by rw[ao];exact M) f.tr.tk
 refine m5 (Ct f.tr.e2 f.tr.tk) (Ct z P) (MH _) (_,rfl,?_,);rw[if_neg aq];exact q H2 (d.trans v)
def ho_3(h:Hs rows n H t p l1 l2 nf ys xs ts)(q:∀H',aO H H'->wpB G K E mB D [some (.ref p),some (.ref t),some (.int n),some (.ref l1),some (.ref l2),none,none,none,none,none,none] H'):
  wpB G K E jQ D [some (.ref p),some (.ref t),some (.int n),some (.ref l1),some (.ref l2),none,none,none,none,none,none] H:=by
 unfold jQ;ext;have M:=h.y16;refine dY (dF rfl (SqL.of h.d.et) (uC eS (short 'D') (λI F=>SqL.of (F _ _ h.d.et)) (λ_=>false) id (λg=>∃x y,g=[x,y,some (.ref l1)]) (none,none,rfl,) ?_ ?_));·rintro x g d L J B ⟨u,v,rfl⟩ c N kf;have a:=h.same c;obtain⟨i,hi⟩:=aS.mp B;obtain⟨b,r,rfl,k,m⟩:=a.d.row i x hi;have A:=a.d.get (av.mp hi).1;ext;refine(b,_,rfl,SqT.of k,rfl,_,_,rfl,_,_,rfl,rfl,?_,);refine mW a.tr.e1 a.tr.ik m (_,rfl,?_,);rw[decide_eq_true (a.fits.mpr (Fits.row a.tb A))];exact kf _ _ (_,_,rfl,) (aO.refl _) rfl
 .intro j l C w;rw[show(ys.filter λ_=>false).map id=[] by simp];generalize hX:upd j l _=d;obtain⟨c,o⟩:=fh hX w;clear hX;refine(short 'F',λe z=>?_,);generalize hX:upd d e _=H4;obtain⟨f,s⟩:=fh hX z;clear hX;refine m5 (dd:=.lst []) (l,[],rfl,SqL.of (f _ _ o),rfl,) (e,[],rfl,SqL.of s,rfl,) 'E' (_,rfl,?_,);rw[if_neg aq];exact q H4 (C.trans (c.trans f))
def Fb(rows:List (List Int))(n:Nat)(H:Hp)(t p l1 l2:Addr)(k:Nat)(σ:L2.St)(H':Hp):Prop:=
 ∃st a b c,aO H H'/\H' st<*(.lst ((stood ((fZ (trs rows n)).take k)).map V.int))/\σ=[some (.ref p),some (.ref t),some (.int n),some (.ref l1),some (.ref l2),some (.ref st),a,b,c,none,none]
def ho_5(T:G.fn "_law_apart" 2<*(spAp,[]))(h:Hs rows n H t p l1 l2 nf ys xs ts)(g:Fb rows n H t p l1 l2 0 σ H')(q:∀σ H',Fb rows n H t p l1 l2 (fZ (trs rows n)).length σ H'->wpB G K E jP D σ H'):
  wpB G K E mz D σ H':=by
 have tb:=h.tb;have lT:=K83.iB h.tr.tk;have a2:=h.n10;obtain⟨C,J,L,M,s0,e0,rfl⟩:=id g;unfold mz;ext;refine gM (_,rfl,.inl (l2,rfl,(_,SqL.of (s0 _ _ h.tr.e2),),?_,),);refine fF eS (Fb rows n H t p l1 l2) g (λk σ H' _ U=>by obtain⟨_,_,_,_,a0,_⟩:=U;exact SqL.of (a0 _ _ h.tr.e2)) ?_ (λσ F Z=>q σ F (lT▸Z));rintro k a3 σ H4 H5 D2 hk ⟨C,J,L,M,s4,N,rfl⟩ hy y V hr;obtain⟨x,o,tx⟩:=K83.y6 h.tr.tk hy;have a:=s4.trans y;have d:=h.same a;obtain⟨b,u,v,pc,rfl,P,e,f,i⟩:=tx;have r:x∈trs rows n:=h.pt.mem_iff.mp (aH o);have c:=By tb r;ext;refine(b,_,rfl,SqT.of (a _ _ P),rfl,_,_,rfl,_,_,rfl,_,_,rfl,rfl,?_,);refine(u,v,x.1,x.2.1,rfl,rfl,SqT.of (a _ _ e),SqT.of (a _ _ f),by rw[c.f1.1.1,c.f2.1.1],_,rfl,?_,);rw[c.lt];rw[if_neg (show ¬(!true)=true from aq)];refine mW d.tr.e1 d.tr.ik (a _ _ e) (_,rfl,?_,);rw[decide_eq_true (d.fits.mpr c.f1),if_neg (show ¬(!true)=true from aq)];refine mW d.tr.e1 d.tr.ik (a _ _ f) (_,rfl,?_,);rw[decide_eq_true (d.fits.mpr c.f2),if_neg (show ¬(!true)=true from aq)];unfold oz;ext;refine(_,_,T,u,v,x.1,x.2.1,n,rfl,a _ _ e,a _ _ f,c.f1.1.1,c.f2.1.1,'D',λI pd z l=>?_,);have w:=a.trans z;have O:apt n x.1 x.2.1=x.2.2:=c.pl.symm;rw[O]at l;refine m5 (dd:=K83.nd1 x.2.2) (K83.iZ (w _ _ i)) (K83.iZ l) (by show fL (x.2.2.map L2.D.int)+1<=20;rw[jB];decide) (_,rfl,?_,);rw[if_neg aq];refine(bf _,λpe X=>?_,);generalize hX:upd I pe _=H7;obtain⟨A,R⟩:=fh hX X;clear hX;have j:=w.trans A;refine(K83.nd1 x.2.2,K83.nd1 [],K83.iZ (j _ _ i),K83.iZ R,by(show fL (x.2.2.map L2.D.int)+1<=30;rw[jB];decide),_,rfl,?_,);rw[Bg,decide_eq_false (pl_ne tb r),if_neg aq];unfold oy;ext;have a1:=(y.trans (z.trans A)) _ _ N;refine(pc,_,rfl,.inr (SqT.of (j _ _ i)),λs W=>?_,);generalize hX:upd H7 s _=H8;obtain⟨B,Q⟩:=fh hX W;clear hX;have len:=yT tb;have S:(fZ (trs rows n)).take (k+1)=(fZ (trs rows n)).take k++[x]:=by rw[cJ,o];rfl
 have m:stood ((fZ (trs rows n)).take (k+1))=stood ((fZ (trs rows n)).take k)++x.2.2:=by rw[S];unfold stood;rw[N1];simp
 have le:(stood ((fZ (trs rows n)).take (k+1))).length<=(stood (fZ (trs rows n))).length:=by
  conv =>rhs;rw[<-JM (k+1) (fZ (trs rows n))]
  unfold stood;rw[N1,bX];exact fA _ _
 rw[m,bX]at le;refine .inr (.inr (.inl (C,s,_,_,rfl,rfl,B _ _ a1,Q,short (by rw[ao,ao];lia),λln Y=>?_,)));rw[<-dM,<-m];exact V _ _ (ln,_,_,_,j.trans (B.trans (aL Y)),aD,rfl,)
def Ic{P:Nat->Bool}{Q:VK}{g:TT}{τs:List (Option V)}(w:n<=60)
  (step:∀(p:Nat)(a:Hp)(R:Bool->Hp->Prop),p<n->aO H1 a->(∀c,aO a c->R (P p) c)->g (some (.int p)::τs) a R)
  (k:∀H2 l,aO H1 H2->H2 l=none->Q (.ref l) (upd H2 l (.lst ((plc n P).map V.int)))):
  yb (Itr 0 n) (oa 0) g (wA 0) (none::τs) H1 Q:=by
 refine uC (xs:=nats n) Cq (vN (by unfold nats;simp;lia)) (λ_ _=>trivial) (λv=>match v with |.int i=>P i.toNat|_=>false) id (λj=>∃u,j=u::τs) (none,rfl,) ?_ ?_
 .rintro x j a t s d ⟨u,rfl⟩ r o kf;unfold nats at d;obtain⟨p,b,rfl⟩:=aI.mp d;have b:=aR.mp b;refine step p a _ b r λc f=>?_;have e:P ((p:Int)).toNat=P p:=by rw[bo]
  cases h:P p with
  |true=>rw[if_pos rfl];exact(_,rfl,o _ _ (_,rfl,) f (e.trans h),)
  |false=>rw[if_neg aq];exact kf _ _ (_,rfl,) f (e.trans h)
 .intro H2 l q m;rw[zd (P:=P) λp b=>by show P ((p:Int)).toNat=P p;rw[bo]];exact k H2 l q m
def ho_6(h:Hs rows n H t p l1 l2 nf ys xs ts){w x A B:Option V}(q:∀H' lt,aO H H'->H' lt<*(.lst ((plc n λp=>decide (grp rows p≠0)).map V.int))->wpB G K E jO D [some (.ref p),some (.ref t),some (.int n),some (.ref l1),some (.ref l2),w,x,A,B,some (.ref lt),none] H'):
  wpB G K E jP D [some (.ref p),some (.ref t),some (.int n),some (.ref l1),some (.ref l2),w,x,A,B,none,none] H:=by
 have tb:=h.tb;have a9:=h.n10;have a3:=h.y16;unfold jP;ext;refine dY ?_;ext;refine((n:Int),rfl,'D','D',?_,);refine Ic (P:=λp=>decide (grp rows p≠0)) (τs:=[some (.ref t)]) 'D' ?_ ?_
 .intro d H3 R j s3 S;have i:=h.same s3;have j:d<n:=j;ext;refine dY (dF rfl (SqL.of i.d.et) (eT eS (short 'D') (λf e=>SqL.of (e _ _ i.d.et)) (λk v _=>v=.int ((rows.getD k []).getD d 0)) (λk v f u s h=>h) (λI=>∃a2 y,I=[a2,y,some (.int d)]) (none,none,rfl,) ?_ ?_));·rintro k y I f R W ⟨x1,x2,rfl⟩ e Z kk;obtain⟨b,r,rfl,J,L⟩:=(i.same e).d.row k y Z;have a1:=h.d.rd _ (h.d.get W);ext;refine(b,_,rfl,SqT.of J,rfl,_,_,rfl,_,_,rfl,rfl,?_,);refine .inr (.inl (r,_,d,_,rfl,rfl,SqT.of L,cy (gv (by rw[a1.1];exact j)),?_,));exact kk _ _ _ (_,_,rfl,) (aO.refl _) rfl
  .intro vs f c Y Q e U;have N:vs=(rows.map λr=>(eQ (r.getD d 0):Key)).map kV:=by
    rw[K83.vals_eq Y Q,<-h.d.ln,bF];refine cQ 'F' λa0 O h2=>?_;rw[cH,cH,List.getElem_range];have :a0<rows.length:=by simpa using O
    rw[ah (l:=rows),ae this];rfl
   generalize hX:upd f c _=u;obtain⟨s8,C⟩:=fh hX U;clear hX;rw[N]at C;have lr:rows.length<=16:=by rw[h.d.ln];exact a3
   refine(c,_,rfl,SqL.of C,by rw[ao];lia,λa g=>?_,);generalize ek:(rows.map λr=>(eQ (r.getD d 0):Key))=ks at g;generalize hX:upd u a _=H8;obtain⟨s9,M⟩:=fh hX g;clear hX;refine .inr (.inr (a,_,rfl,M,?_,));refine G7.mpr (_,rfl,?_,);have hf:decide ((1:Int)<((_root_.Q.met ks).length:Int))=decide (grp rows d≠0):=by
    refine decide_eq_decide.mpr ?_;rw[M9.rL tb];have F:=_root_.Q.GS (ks:=ks);subst ek;constructor
    .intro a4;refine au λz=>?_;have :(_root_.Q.met (rows.map λr=>(eQ (r.getD d 0):Key))).length<=1:=F.mpr λa g b T=>by obtain⟨r,m,rfl⟩:=aI.mp g;obtain⟨s,o,rfl⟩:=aI.mp T;exact congrArg eQ (au λy=>z (r,m,s,o,y,))
     lia
    .rintro⟨r,m,s,o,ne⟩;refine au λz=>ne ?_;exact eQ.inj (F.mp 'D' _ (aI.mpr (r,m,rfl,)) _ (aI.mpr (s,o,rfl,)))
   rw[hf];exact S _ (e.trans (s8.trans s9))
 .intro H2 l s2 X;exact q _ l (s2.trans (aL X)) aD
def ho_7(h:Hs rows n H t p l1 l2 nf ys xs ts){st lt:Addr}(j:H st<*(.lst ((stood (fZ (trs rows n))).map V.int)))(i:H lt<*(.lst ((plc n λp=>decide (grp rows p≠0)).map V.int))){b c d:Option V}(q:∀H',aO H H'->wpB G K E jN D [some (.ref p),some (.ref t),some (.int n),some (.ref l1),some (.ref l2),some (.ref st),b,c,d,some (.ref lt),none] H'):
  wpB G K E jO D [some (.ref p),some (.ref t),some (.int n),some (.ref l1),some (.ref l2),some (.ref st),b,c,d,some (.ref lt),none] H:=by
 have tb:=h.tb;have o:=h.n10;have f:=Cf tb;have r:=yT tb;unfold jO;ext;refine(st,_,rfl,SqL.of j,'D',f.1,λl k=>?_,);rw[f.2];generalize hX:upd H l _=H1;obtain⟨a,g⟩:=fh hX k;clear hX;refine m5 (dd:=.lst ((plc n λp=>decide (grp rows p≠0)).map L2.D.int)) (l,_,rfl,SqL.of g,gy.ints _,) (lt,_,rfl,SqL.of (a _ _ i),gy.ints _,) (by show fL _+1<=20;rw[jB];decide) (_,rfl,?_,);rw[if_neg aq];have e:=h.same a;have lx:=h.lx;have m:=h.lt;refine Or.inl (l2,_,rfl,.inl (SqL.of e.tr.e2),Or.inl (l1,_,rfl,.inl (SqL.of e.tr.e1),?_,),);refine Ks.mpr (zc.mpr (_,rfl,?_,));rw[if_neg (by simp;lia)];exact q H1 a
def ho_8(r:G.fn "_law_reached" 2<*(spRe,[]))(h:Hs rows n H t p l1 l2 nf ys xs ts){a b d e f:Option V}(q:∀H',aO H H'->wpB G K E jM D [some (.ref p),some (.ref t),some (.int n),some (.ref l1),some (.ref l2),a,b,d,e,f,none] H'):
  wpB G K E jN D [some (.ref p),some (.ref t),some (.int n),some (.ref l1),some (.ref l2),a,b,d,e,f,none] H:=by
 have tb:=h.tb;have y:=h.n10;have lx:=h.lx;have w:=h.lt;unfold jN;ext;obtain⟨v,g⟩:∃v,(mT (nds rows n))[0]?<*v:=⟨_,ae (by rw[h.pn.length_eq];lia)⟩;obtain⟨c,m,s⟩:=ik_at h.tr.ik g;refine(_,_,r,.inl (l1,xs,0,_,rfl,rfl,SqL.of h.tr.e1,cy (j:=0) m,?_,),);refine(l2,c,ts,_,rows,n,v,rfl,tb,'D',h.tr.e2,h.tr.tk,λx=>h.pt.mem_iff,s,h.fits.mp (aH g),λk l z i o u=>?_,);refine Or.inl (l,_,rfl,.inl (SqL.of o),Or.inl (l1,_,rfl,.inl (SqL.of (i _ _ h.tr.e1)),?_,),);refine zc.mpr (_,rfl,?_,);rw[if_neg (by simp;lia)];exact q k i
def ho_9(h:Hs rows n H t p l1 l2 nf ys xs ts){I J L M N:Option V}(q:∀H' a10,aO H H'->wpB G K E lC D [some (.ref p),some (.ref t),some (.int n),some (.ref l1),some (.ref l2),I,J,L,M,N,a10] H'):
  wpB G K E jM D [some (.ref p),some (.ref t),some (.int n),some (.ref l1),some (.ref l2),I,J,L,M,N,none] H:=by
 have tb:=h.tb;have b2:=h.n10;have b5:=h.y16;have lx:=h.lx;have b1:=h.lt;unfold jM;ext;refine gM (_,rfl,.inl (l1,rfl,(_,SqL.of h.tr.e1,),?_,),);refine fF eS (λk F H'=>∃a10,aO H H'/\F=[some (.ref p),some (.ref t),some (.int n),some (.ref l1),some (.ref l2),I,J,L,M,N,a10]) (none,aO.refl _,rfl,) (λk F H' _ h'=>by obtain⟨_,s,_⟩:=h';exact SqL.of (s _ _ h.tr.e1)) ?_ (λF P ⟨a10,s,e⟩=>e▸q P a10 s);rintro k y F H4 H5 D2 hk ⟨a10,s4,rfl⟩ hy s5 S O;obtain⟨v,hv,c,rfl,hc⟩:=K83.y6 h.tr.ik hy;have A:=s4.trans s5;have w:=h.same A;have fv:=h.fits.mp (aH hv);ext;refine dY (dF rfl (SqL.of w.d.et) (eT eS (short 'D') (λf j=>SqL.of (j _ _ w.d.et)) (λk v H'=>∃r,v=.ref r/\H' r<*(.tup ((rows.getD k []).map V.int))) (λk v f Y s ⟨r,e,h⟩=>(r,e,s _ _ h,)) (λu=>∃x y,u=[x,y]) (none,none,rfl,) ?_ ?_));·rintro k y u f a4 hk ⟨x1,x2,rfl⟩ j a2 kk;obtain⟨b,r,rfl,g,i⟩:=(w.same j).d.row k y a2;ext;refine(b,_,rfl,SqT.of g,rfl,_,_,rfl,_,_,rfl,rfl,?_,);exact kk _ _ _ (_,_,rfl,) (aO.refl _) (r,rfl,i,)
 .intro C f l a1 hF j hl;have ik:_root_.Q.IntKeys f C rows:=pr_mk (by rw[a1,h.d.ln]) λa3 a b g i=>by obtain⟨r,rfl,O⟩:=hF a3 a g;rw[ah,i]at O;exact(r,rfl,O,)
  have d:=aL (o:=.lst C) hl;have Q:upd f l (.lst C) l=_:=aD;have U:=K83.vT d ik;generalize upd f l (.lst C)=Y at d Q U;have B:=j.trans d;have z:=w.same B;have T:=B _ _ (A _ _ hc);refine mW Q U T (_,rfl,?_,);by_cases m:v∈rows;·rw[decide_eq_true m,if_neg (show ¬(!true)=true from aq)];exact S _ _ (_,A.trans B,rfl,)
  .rw[decide_eq_false m,if_pos (show(!false)=true from rfl)];refine dY (dF rfl (SqL.of z.tr.e2) (Hi (ds:=fZ (trs rows n)) (K83.iB z.tr.tk) eS (short 'D') (λP s2=>SqL.of (s2 _ _ z.tr.e2)) (atN v) (λx _=>x) (λu=>∃x,u=[x,some (.ref c)]) (none,rfl,) ?_ ?_))
   .rintro b0 y x u Z Rt Rf g i ⟨b4,rfl⟩ d kt kf;obtain⟨x',R,X⟩:=K83.y6 (z.same d).tr.tk g;rw[i]at R;cases R;obtain⟨b,pa,pb,pc,rfl,b3⟩:=id X;ext;refine MA X (d _ _ T) λH9 W=>?_;cases at_:atN v x with
    |true=>rw[if_pos rfl];exact kt _ _ (_,rfl,) W at_
    |false=>rw[if_neg aq];exact kf _ _ (_,rfl,) W at_
   .intro Z l8 d a0;have len:(((ts.zip (fZ (trs rows n))).filter λp=>atN v p.2).map λp=>p.1).length=((fZ (trs rows n)).filter (atN v)).length:=by have :=congrArg iM (K31.B4 (atN v) id ts (fZ (trs rows n)) (K83.iB h.tr.tk));rw[ao,ao]at this;rw[ao,this]
    refine Or.inl (l8,_,rfl,.inl (SqL.of aD),?_,);refine Dd.mpr (_,rfl,?_,);have l3:=Md tb fv m;rw[<-len]at l3;rw[if_neg (by simp only[decide_eq_true_eq];lia)];exact S _ _ (_,(A.trans B).trans (d.trans (aL a0)),rfl,)
def spHo:Sp:=λvs H Q _=>∃(p t l1 l2:Addr)(nf:Nat->Str)(ys xs ts:List V)(rows:List (List Int))(n:Nat),vs=[.ref p,.ref t,.int n]/\Hs rows n H t p l1 l2 nf ys xs ts/\∀H',aO H H'->Q (.bl true) H'
def wp_ho(r:G.fn "_law_apart" 2<*(spAp,[]))(s:G.fn "_law_reached" 2<*(spRe,[])):Sat G K spHo vh uX:=by rintro R H Q E ⟨p,t,l1,l2,M,T,S,P,N,n,rfl,h,q⟩;unfold vh;change wpB G K _ _ _ [some (.ref p),some (.ref t),some (.int n),none,none,none,none,none,none,none,none] H;ext;refine(p,_,rfl,SqT.of h.tr.ep,rfl,_,_,rfl,_,_,rfl,rfl,?_,);refine ho_2 h λy g=>ho_3 (h.same g) λz v=>?_;have i:=g.trans v;have f:=h.same i;unfold mB;ext;refine(short 'F',λx u=>?_,);have c:=aL (o:=.lst []) u;refine ho_5 r (f.same c) (x,none,none,none,aO.refl _,aD,rfl,) ?_;rintro U A ⟨O,I,J,L,j,e,rfl⟩;rw[dg]at e;have b:=(f.same c).same j;refine ho_6 b λB lt a m=>ho_7 (b.same a) (a _ _ e) m λC d=>ho_8 s ((b.same a).same d) λD k=>ho_9 (((b.same a).same d).same k) λl F w=>?_;unfold lC;ext;exact q l (i.trans (c.trans (j.trans (a.trans (d.trans (k.trans w))))))
end
end K33
namespace K32
open L2 R Cp Lt Kc K21 K22 K02 Lm M5
section
variable {G:Gam}{CE C CN CC CP CR:Addr}{T:Tb}
def lk2{x z:V}:(Fp x y z).lookup (bh "other")<*y:=by unfold Fp;rw[bg,show((bh "other")==(bh "one"))=false by decide+kernel,bg,beq_self_eq_true]
def lk3{x z:V}:(Fp x y z).lookup (bh "names")<*z:=by unfold Fp;rw[bg,show((bh "names")==(bh "one"))=false by decide+kernel,bg,show((bh "names")==(bh "other"))=false by decide+kernel,bg,beq_self_eq_true]
end
end K32
namespace K33
open R
abbrev vz:List Str:=["_law_table_here","_law_many"]
abbrev n9:List Str:=["_law_table_here","_law_many","_law_one","_law_other"]
abbrev oB:CB:=
  (.cons (.forr (.name 2) (.range1 (.var 1))
  (.cons (.forr (.name 3) (.range1 (.var 2))
  (.cons (.iff (.cmp .Eq (.bfn .len (.cons (.bfn .setp (.cons (.comp ["_law_name","_law_readings"] [2,3] (.tup (.cons (.name 0) (.cons (.name 1) .nil))) (.seq (.var 0)) .no (.tup (.cons (.idx (.var 1) (.var 2)) (.cons (.idx (.var 1) (.var 3)) .nil)))) .nil)) .nil)) (.con (.int 4)))
  (.cons (.ret (.con (.bool true)))
  .nil)
  .nil)
  .nil))
  .nil))
  (.cons (.ret (.con (.bool false)))
  .nil))
abbrev EW:List Str:=["_law_table_here","_law_one","_law_other","_law_names_here"]
abbrev xk:List Str:=["_law_table_here","_law_one","_law_other","_law_names_here","_law_kinds","_law_name"]
abbrev sM:CB:=
  (.cons (.ret (.cmp .Eq (.var 4) (.lst (.cons (.tup (.cons (.con (.int 0)) (.cons (.con (.int 0)) .nil))) (.cons (.tup (.cons (.con (.int 0)) (.cons (.con (.int 1)) .nil))) (.cons (.tup (.cons (.con (.int 1)) (.cons (.con (.int 0)) .nil))) (.cons (.tup (.cons (.con (.int 1)) (.cons (.con (.int 1)) .nil))) .nil)))))))
  .nil)
abbrev sN:CB:=
  (.cons (.forr (.name 5) (.seq (.var 3))
  (.cons (.asg (.name 4) (.bin .Add (.var 4) (.comp ["_law_held_here","_law_readings"] [1,2,5] (.tup (.cons (.name 0) (.cons (.name 1) .nil))) (.seq (.var 0)) (.yes (.cmp .Eq (.var 0) (.var 4))) (.tup (.cons (.idx (.var 1) (.var 2)) (.cons (.idx (.var 1) (.var 3)) .nil))))))
  .nil))
  sM)
abbrev sO:CB:=
  (.cons (.asg (.name 4) (.lst .nil))
  sN)
abbrev xZ:CB:=
  (.cons (.iff (.or (.not (.bfn .isinstance (.cons (.var 3) (.cons (.ty .tuple) .nil)))) (.or (.cmp .NotEq (.bfn .len (.cons (.var 3) .nil)) (.con (.int 4))) (.not (.chain .LtE .Lt (.con (.int 0)) (.var 1) (.var 2)))))
  (.cons (.ret (.con (.bool false)))
  .nil)
  .nil)
  sO)
abbrev EU:List Str:=["_law_table_here","_law_many"]
abbrev xi:List Str:=["_law_table_here","_law_many","_law_found","_law_caught","e"]
abbrev sE:CB:=
  (.cons (.ret (.call "_law_holds" (.cons (.var 2) (.cons (.var 0) (.cons (.var 1) .nil)))))
  .nil)
abbrev sF:CB:=
  (.cons (.iff (.call "_law_any_clash" (.cons (.var 0) (.cons (.var 1) .nil)))
  (.cons (.ret (.con (.bool false)))
  .nil)
  .nil)
  sE)
abbrev kM:CB:=
  (.cons (.iff (.cmp .IsNot (.var 3) (.con .none))
  (.cons (.ret (.and (.call "_law_any_clash" (.cons (.var 0) (.cons (.var 1) .nil))) (.call "_law_four" (.cons (.var 0) (.cons (.fld (.var 3) "one") (.cons (.fld (.var 3) "other") (.cons (.fld (.var 3) "names") .nil)))))))
  .nil)
  .nil)
  sF)
abbrev sG:CB:=
  (.cons (.tryc "Clash" 4
  (.cons (.asg (.name 2) (.call "tree" (.cons (.var 0) .nil)))
  .nil)
  (.cons (.asg (.name 3) (.var 4))
  .nil))
  kM)
abbrev sH:CB:=
  (.cons (.asg (.name 3) (.con .none))
  sG)
abbrev xX:CB:=
  (.cons (.asg (.name 2) (.con .none))
  sH)
end K33
namespace K33
open L2 R Cp Lt Kc K21 K22 Lm M5 K32 K34 M7 M8 K75 K02
structure Tg(H:Hp)(t:Addr)(nf:Nat->Str)(n:Nat)(ys:List V)(rows:List (List Int)):Prop where
 et:H t<*(.lst ys)
 ln:rows.length=ys.length
 row:∀(i:Nat) y,ys[i]?<*y->∃b r,y=.ref b/\H b<*(.tup [.str (nf i),.ref r])/\H r<*(.tup ((rows.getD i []).map V.int))
 ok:∀i,gL (nf i)=true
 inj:∀i j,i<ys.length->j<ys.length->nf i=nf j->i=j
 len:ys.length<=16
 n10:n<=10
 rd:∀r∈rows,M6.Ok n r
section
variable {t:Addr}{nf:Nat->Str}{T:Tb}
def Tg.gr(d:Tg H t nf n ys rows)(g:Gr T H H')(tt:Tab T H):Tg H' t nf n ys rows:=
 {d with et:=g.lst tt d.et,row:=λi y e=>let⟨b,r,h1,h2,h3⟩:=d.row i y e;(b,r,h1,g.Ew tt h2,g.Ew tt h3,)}
def Tg.same(d:Tg H t nf n ys rows)(s:aO H H'):Tg H' t nf n ys rows:=
 {d with et:=s _ _ d.et,row:=λi y e=>let⟨b,r,h1,h2,h3⟩:=d.row i y e;(b,r,h1,s _ _ h2,s _ _ h3,)}
def Tg.tn(d:Tg H t nf n ys rows)(m:∀i j,i<j->j<n->M6.Mis rows i j):Tn H t nf n ys rows:=(d.et,d.ln,d.row,d.ok,d.inj,aT d.len 'E',aT d.n10 'E',d.rd,m,)
def Tg.get(d:Tg H t nf n ys rows)(h:i<ys.length):rows.getD i []∈rows:=by rw[ah,ae (by rw[d.ln];exact h)];exact bQ _
def Tg.dr(d:Tg H t nf n ys rows):Dr H nf n ys:=λi y e=>by obtain⟨b,r,a,c,f⟩:=d.row i y e;have o:=d.rd _ (d.get (av.mp e).1);refine(b,r,_,a,c,f,by rw[ao];exact o.1,λz h=>?_,);obtain⟨x,g,rfl⟩:=aI.mp h;rcases o.2 x g with rfl|rfl<;>rfl
def Tg.tab(d:Tg H t nf n ys rows):Kn4 H (.ref t)/\dX H (.ref t)=true/\(∀y∈ys,dE H y=true)/\∀y∈ys,cV H y=n:=
 sy d.ok d.inj d.et d.dr (by have :=d.len;lia) (by have :=d.n10;lia)
theorem Tg.count(d:Tg H t nf n ys rows)(h:ys≠[]):Cp.count H (.ref t)=n:=by
 show(match eV (H t)with |some (y::_)=>cV H y|_=>0)=n;rw[d.et];cases ys with
 |nil=>exact absurd rfl h
 |cons y r=>exact d.tab.2.2.2 y (.head _)
def Tg.mem(d:Tg H t nf n ys rows)(x:Str×List V):x∈rowsOf H (.ref t)↔∃i,i<ys.length/\x=(nf i,(rows.getD i []).map V.int):=by
 have m:(ys.map (bp H)).Nodup:=by obtain⟨a,p,e,g,c,f,k,o⟩:=fk d.tab.2.1;cases e;rw[show eV (H t)<*ys by rw[d.et];rfl]at g;cases g;exact k
 unfold rowsOf;rw[rN (show eV (H t)<*ys by rw[d.et];rfl),((_root_.Q.gf V.non m 'F').map (cd H)).mem_iff];constructor;·intro h;obtain⟨y,l,rfl⟩:=aI.mp h;obtain⟨i,e⟩:=aS.mp l;obtain⟨b,r,rfl,c,f⟩:=d.row i y e;exact(i,(av.mp e).1,tV c f,)
 .rintro⟨i,hi,rfl⟩;have e:=ae hi;obtain⟨b,r,j,c,f⟩:=d.row i _ e;refine aI.mpr (ys[i],bQ hi,?_,);rw[j];exact tV c f
def vC(rows:List (List Int))(i j:Nat):Prop:=∀k∈KP,∃r∈rows,(r.getD i 0,r.getD j 0)=k
def clR(rows:List (List Int))(n:Nat):Prop:=∃i j:Nat,j<i/\i<n/\vC rows i j
def ue{u v:Int}:(u,v)∈KP↔(u=0\/u=1)/\(v=0\/v=1):=by unfold KP;simp only[aK,BU,dh,or_false];lia
def vC.flip(h:vC rows i j):vC rows j i:=λk a=>by obtain⟨u,v⟩:=k;obtain⟨r,d,e⟩:=h (v,u) (ue.mpr ((ue.mp a).2,(ue.mp a).1,));have b:=congrArg JS e;have c:=congrArg Prod.snd e;exact⟨r,d,by rw[show r.getD j 0=u from c,show r.getD i 0=v from b]⟩
def Tg.num(d:Tg H t nf n ys rows)(hi:i<n)(c:j<n)(e:m<ys.length){k:Int×Int}:isK i j k (nf m,(rows.getD m []).map V.int)=true↔((rows.getD m []).getD i 0,(rows.getD m []).getD j 0)=k:=by have o:=d.rd _ (d.get e);unfold isK;rw[decide_eq_true_eq,GL rfl i (by rw[o.1];exact hi),GL rfl j (by rw[o.1];exact c)];exact⟨λ⟨a,b⟩=>by rw[a,b],λh=>by rw[<-h];exact(rfl,rfl,)⟩
def Tg.four(d:Tg H t nf n ys rows)(hi:i<n)(f:j<n):qm (rowsOf H (.ref t)) i j=true↔vC rows i j:=by
 unfold qm vC;rw[bx];constructor;·intro h k b;obtain⟨r,c,e⟩:=cz.mp (h k b);obtain⟨m,a,rfl⟩:=(d.mem r).mp c;exact(_,d.get a,(d.num hi f a).mp e,)
 .intro h k b;obtain⟨r,c,e⟩:=h k b;obtain⟨m,a,rfl⟩:=eD.mp c;have g:m<ys.length:=by rw[<-d.ln];exact a
  refine cz.mpr (_,(d.mem _).mpr (m,g,rfl,),(d.num hi f g).mpr ?_,);rw[ah (l:=rows),ae a];exact e
def Tg.mis(d:Tg H t nf n ys rows)(h0:ys≠[])(h:NoC (rowsOf H (.ref t)) (Cp.count H (.ref t))):∀i j,i<j->j<n->M6.Mis rows i j:=λi j e c=>by
 have :=h i j e (by rw[d.count h0];exact c);have z:¬vC rows i j:=λz=>by rw[(d.four 'D' c).mpr z]at this;cases this
 refine au λy=>z λk f=>au λw=>y ?_;obtain⟨u,v⟩:=k;have :=ue.mp f;exact⟨u,v,this.1,this.2,λr g ⟨a,b⟩=>w ⟨r,g,by rw[a,b]⟩⟩
def no_clR(m:∀i j,i<j->j<n->M6.Mis rows i j):¬clR rows n:=by rintro⟨i,j,a,hi,f⟩;obtain⟨u,v,c,d,k⟩:=m j i a hi;obtain⟨r,b,e⟩:=f.flip (u,v) (ue.mpr (c,d,));exact k r b (congrArg JS e,congrArg Prod.snd e,)
end
def comp_zF{J:It}{B:Hp->Prop}{g:TG}{I:TT}{K:TE}{Q:VK}{z:Type}{ds:List z}(W:xs.length=ds.length)(S:tj J xs.length (λi x _=>xs[i]?<*x) B)(hn:xs.length<=sizeLine)(U:∀H,aO H1 H->B H)
  (t:z->Bool)(F:V->z->Hp->Prop)(M:∀v a H H',aO H H'->F v a H->F v a H')(T:L2.St->Prop)(R:T τ0)
  (step:∀(i:Nat) x a k j (D:L2.St->V->Hp->Prop)(C:L2.St->Hp->Prop),xs[i]?<*x->ds[i]?<*a->T k->aO H1 j->(∀f v d,T f->aO j d->t a=true->F v a d->D f v d)->(∀f d,T f->aO j d->t a=false->C f d)->
   g x k j λu N=>I u N λb A=>if b=true then K u A (D u)else C u A)
  (O:∀vs H2 l,aO H1 H2->Paired (λv a=>F v a H2) vs (ds.filter t)->H2 l=none->Q (.ref l) (upd H2 l (.lst vs))):yb J g I K τ0 H1 Q:=by
 refine(λi m k n H2=>m=xs.length-i/\i<=xs.length/\T k/\Paired (λv a=>F v a H2) n ((ds.take i).filter t)/\aO H1 H2,(xs.length,'F',bf _,R,by simp;exact .nil,aO.refl _,),?_,);rintro i m k n H2 ⟨rfl,hi,Y,r,p⟩;have q:=U H2 p;by_cases hlt:i<xs.length
 .refine .inr (S.go i H2 q hlt,λf E H'=>T f/\Paired (λv a=>F v a H') E ((ds.take (i+1)).filter t)/\aO H1 H',λf E H' ⟨a,b,c⟩=>(xs.length-(i+1),'D',rfl,hlt,a,b,c,),λx j a0=>?_,);obtain⟨y1,s⟩:=S.yld i H2 x j q hlt a0;have G:ds[i]?<*ds[i]:=ae 'D';have e:ds.take (i+1)=ds.take i++[ds[i]]:=by rw[cJ,G];rfl
  have a1:n.length<=i:=by rw[K83.iB r];refine aT (JN _ _) ?_;rw[bJ];lia
  have L:∀{d},aO j d->Paired (λv a=>F v a d) n ((ds.take i).filter t):=λh=>Paired.uf r λv a Z=>M _ _ _ _ (s.trans h) Z;refine step i x _ k j _ _ y1 G Y (p.trans s) (λf v d w o y P=>('D',w,?_,(p.trans s).trans o,)) (λf d w o y=>(w,?_,(p.trans s).trans o,));·rw[e,gS,show[ds[i]].filter t=[ds[i]] by simp[y]];exact PySem.Paired.snoc (L o) P
  .rw[e,gS,show[ds[i]].filter t=[] by simp[y],lJ];exact L o
 .have e:i=ds.length:=by lia
  subst e;rw[dg]at r;exact .inl (S.stop _ H2 q (by rw[W];exact aC _),λl X=>O n H2 l p r X,)
section
variable {G:Gam}
abbrev prD(q:Int×Int):L2.D:=.tup [.int q.1,.int q.2]
def Pr2(q:Int×Int)(v:V)(H:Hp):Prop:=∃a,v=.ref a/\H a<*(.tup [.int q.1,.int q.2])
def MM{ks:List (Int×Int)}(a:ks.Nodup)(h:∀r∈ks,r∈KP):ks.length=4↔∀k∈KP,k∈ks:=by
 constructor
 .intro e k b;refine au λz=>?_;have :(k::ks).length<=KP.length:=(bN.mpr (z,a,)).length_le_of_subset λx hx=>by
   rcases aK.mp hx with rfl|hx;·exact b
   .exact h x hx
  rw[bG,e]at this;exact absurd this 'E'
 .intro z;exact((iJ a 'E').mpr λx=>(λhx=>h x hx,λhx=>z x hx,)).length_eq
def spAc:Sp:=λvs H Q _=>∃(t:Addr)(nf:Nat->Str)(n:Nat)(ys:List V)(rows:List (List Int)),vs=[.ref t,.int n]/\Tg H t nf n ys rows/\∀H' b,aO H H'->(b=true↔clR rows n)->Q (.bl b) H'
def wp_ac:Sat G K spAc oB n9:=by
 rintro D H b1 b0 ⟨t,nf,n,ys,f,rfl,d,q⟩;have b3:=d.n10;have b4:=d.len;unfold oB;change wpB G K _ _ _ [some (.ref t),some (.int n),none,none] H;ext;refine gM ?_;ext;refine((n:Int),rfl,'D','D',?_,);refine fF dB (λi p w=>aO H w/\(∀a b:Nat,a<i->b<a->¬vC f a b)/\∃u v,p=[some (.ref t),some (.int n),u,v])
  (aO.refl _,λa b h=>absurd h 'D',none,none,rfl,) (λ_ _ _ _ _=>trivial) ?_ ?_
 .rintro i x p H2 H3 D2 hi ⟨s2,N,u,v,rfl⟩ rfl s3 hD a3;have S:i<n:=by lia
  ext;simp only[dP];refine gM ?_;ext;refine((i:Int),rfl,'D','D',?_,);refine fF dB (λj p w=>aO H w/\(∀b:Nat,b<j->¬vC f i b)/\∃v,p=[some (.ref t),some (.int n),some (.int i),v])
   (s2.trans s3,λb h=>absurd h 'D',_,rfl,) (λ_ _ _ _ _=>trivial) ?_ ?_
  .rintro j x p P Z D3 hj ⟨B,O,v,rfl⟩ rfl s5 a0 a4;have a1:j<i:=by lia
   have W:aO H Z:=B.trans s5;have J:=d.same W;ext;simp only[dP];refine dY (dF rfl (SqL.of J.et) (eT eS (short 'D') (λz C=>SqL.of (C _ _ J.et)) (λk v w=>Pr2 ((f.getD k []).getD i 0,(f.getD k []).getD j 0) v w) (λk v z Q a8 ⟨a,e,h⟩=>(a,e,a8 _ _ h,)) (λY=>∃x y,Y=[x,y,some (.int i),some (.int j)]) (none,none,rfl,) ?_ ?_));·rintro k y Y z b2 g ⟨x1,x2,rfl⟩ C a6 kk;obtain⟨b,r,rfl,L,m⟩:=(J.same C).row k y a6;have o:=d.rd _ (d.get g);ext;refine(b,_,rfl,SqT.of L,rfl,_,_,rfl,_,_,rfl,rfl,?_,);refine .inr (.inl (r,_,i,_,rfl,rfl,SqT.of m,cy (gv (by rw[o.1];exact S)),?_,));refine .inr (.inl (r,_,j,_,rfl,rfl,SqT.of m,cy (gv (by rw[o.1];lia)),?_,));refine(short 'F',λp2 a2=>?_,);exact kk _ _ _ (_,_,rfl,) (aL a2) (p2,rfl,aD,)
   .intro D z c a5 R C hc;obtain⟨A,rfl,al,ap⟩:∃A:List Addr,D=A.map V.ref/\A.length=f.length/\∀(k:Nat) a,A[k]?<*a->z a<*(.tup [.int ((f.getD k []).getD i 0),.int ((f.getD k []).getD j 0)]):=by
     refine(D.map λv=>match v with |.ref a=>a|_=>0,?_,by rw[ao,a5,d.ln],λk a e=>?_,)
     .rw[bF]
      conv =>lhs;rw[<-iK D]
      refine cN λv hv=>?_;obtain⟨k,g⟩:=aS.mp hv;obtain⟨a,rfl,_⟩:=R k v g;rfl
     .rw[ay]at e;cases g:D[k]? with
      |none=>rw[g]at e;cases e
      |some v=>obtain⟨a',rfl,h⟩:=R k v g;rw[g]at e;cases e;exact h
    generalize hX:upd z c _=Q;obtain⟨X,ec⟩:=fh hX hc;clear hX;have T:∀q∈f.map (λr=>(r.getD i 0,r.getD j 0)),q∈KP:=λq hq=>by obtain⟨r,F,rfl⟩:=aI.mp hq;exact ue.mpr ((d.rd r F).at i,(d.rd r F).at j,)
    refine(c,A,f.map (λr=>(r.getD i 0,r.getD j 0)),rfl,SqL.of ec,(by rw[ao];exact al,λk a q L m=>?_,),T,λa I M a7 mk=>?_,)
    .have :=X _ _ (ap k a L);rw[ay]at m;cases g:f[k]? with
     |none=>rw[g]at m;cases m
     |some r=>rw[g]at m;cases m;rw[ah (l:=f),g]at this;exact this
    generalize hX:upd Q a _=H8;obtain⟨s9,ea⟩:=fh hX M;clear hX;refine .inr (.inr (a,I.length,rfl,ea,?_,));have hf:(I.length:Int)=4↔vC f i j:=by
     have E:=MM a7 λr F=>T r ((mk r).mp F);have s:vC f i j↔∀k∈KP,k∈I:=by unfold vC;refine forall_congr' λk=>forall_congr' λg=>?_;rw[mk,aI]
     rw[s,<-E];lia
    have U:=W.trans (C.trans (X.trans s9));ext;by_cases h4:(I.length:Int)=4;·rw[if_pos (decide_eq_true h4),a4,a3];exact q _ true U (λ_=>(i,j,a1,S,hf.mp h4,),λ_=>rfl,)
    .rw[if_neg ↥h4];refine a0 _ _ (U,λb hb=>?_,_,rfl,);by_cases hb2:b=j;·rw[hb2,<-hf];exact h4
     .exact O b 'D'
  .rintro p P ⟨B,O,v,rfl⟩;refine hD _ _ (B,λa b E s=>?_,_,_,rfl,);by_cases M:a=i;·subst M;exact O b ↥s
   .exact N a b 'D' s
 .rintro p P ⟨B,N,u,v,rfl⟩;ext;refine q _ false B (λa9=>(by cases a9),λ⟨i,j,E,s,h3⟩=>absurd h3 (N i j ↥s E),)
theorem Lj{c d:Type}{F:c->d->Prop}:∀{a:List c}{b:List d}{e:List c}{f:List d},Paired F a b->Paired F e f->Paired F (a++e) (b++f)
 |_,_,_,_,.nil,h=>h
 |_,_,_,_,.cons x r,h=>.cons x (Lj r h)
def spFo(K:ak):Sp:=λvs H Q _=>∃(t l:Addr)(nf:Nat->Str)(n i j:Nat)(ys:List V)(rows:List (List Int))(g:Int×Int->Str),vs=[.ref t,.int i,.int j,.ref l]/\Tg H t nf n ys rows/\i<j/\j<n/\H l<*(.tup ((KP.map g).map V.str))/\
 (∀k∈KP,∃m,m<ys.length/\g k=nf m/\((rows.getD m []).getD i 0,(rows.getD m []).getD j 0)=k)/\∀H',aO H H'->Q (.bl true) H'
theorem CW{d:Type}{p:d->Bool}:∀{l:List d}{m:Nat}{a:d},l[m]?<*a->p a=true->(∀(i:Nat) b,l[i]?<*b->p b=true->i=m)->l.filter p=[a]
 |b::l,0,a,e,h,u=>by simp at e;subst e;rw[oO h,List.filter_eq_nil_iff.mpr λx j c=>?_];obtain⟨i,hi⟩:=aS.mp j;exact absurd (u (i+1) x ↥hi c) 'D'
 |b::l,m+1,a,e,h,u=>by rw[oP λc=>absurd (u 0 b rfl c) 'D'];exact CW ↥e h λi f g c=>by have :=u (i+1) f ↥g c;lia
def wp_fo:Sat G K (spFo K) xZ xk:=by
 rintro b a3 b0 a9 ⟨t,l,nf,b3,i,j,ys,N,g,rfl,d,b1,hj,I,hg,q⟩;have b4:=d.n10;have b5:=d.len;unfold xZ;change wpB G K _ _ _ [some (.ref t),some (.int i),some (.int j),some (.ref l),none,none] a3;ext;refine isi_tup I (_,rfl,?_,);rw[if_neg 'E'];refine Or.inl (l,_,rfl,.inr (SqT.of I),zc.mpr (_,rfl,?_,),);rw[if_neg (by simp[KP]),if_pos (decide_eq_true 'D'),if_neg (by simp;lia)];unfold sO;ext;refine(short 'F',λn hk=>?_,);unfold sN;ext;have s1:=aL (o:=.lst []) hk;refine gM (vn rfl (SqT.of (s1 _ _ I)) ?_);refine fF AD (λk P f=>aO a3 f/\∃n b a0,f n<*(.lst b)/\Paired (λv q=>Pr2 q v f) b (KP.take k)/\P=[some (.ref t),some (.int i),some (.int j),some (.ref l),some (.ref n),a0]) (s1,n,[],none,aD,.nil,rfl,) (λ_ P f _ h=>SqT.of (h.1 _ _ I)) ?_ ?_
 .rintro k a1 P Q H3 D2 hk ⟨O,n,b,a0,S,M,rfl⟩ C s3 hD _;have a8:=O.trans s3;have R:=d.same a8;obtain⟨w,T,ex⟩:∃w,KP[k]?<*w/\a1=.str (g w):=by
   rw[ay,ay]at C;cases h:KP[k]? with
   |none=>rw[h]at C;cases C
   |some w=>rw[h]at C;cases C;exact(w,rfl,rfl,)
  subst ex;obtain⟨m,hm,em,ew⟩:=hg w (aH T);have b2:k<4:=(av.mp T).1;ext;refine dY (dF rfl (SqL.of R.et) (comp_zF (ds:=aF ys.length) (by rw[bC]) eS (short 'D') (λA E=>SqL.of (E _ _ R.et)) (λa=>decide (nf a=g w)) (λv a f=>Pr2 ((N.getD a []).getD i 0,(N.getD a []).getD j 0) v f) (λv a A H7 a7 ⟨r,e,h⟩=>(r,e,a7 _ _ h,)) (λτ=>∃a1 a2,τ=[a1,a2,some (.int i),some (.int j),some (.str (g w))]) (none,none,rfl,) ?_ ?_))
  .rintro i' a2 a τ A Rt Rf u B ⟨x1,x2,rfl⟩ E kt kf;have ei:a=i':=by rw[bZ (av.mp u).1]at B;exact(aW B).symm
   subst ei;obtain⟨a4,r,rfl,f1,f2⟩:=(R.same E).row a a2 u;have o:=d.rd _ (d.get (av.mp u).1);ext;refine(a4,_,rfl,SqT.of f1,rfl,_,_,rfl,_,_,rfl,rfl,?_,);refine eq_ss.mpr (_,rfl,?_,);by_cases c:nf a=g w;·rw[if_pos (decide_eq_true c)];refine .inr (.inl (r,_,i,_,rfl,rfl,SqT.of f2,cy (gv (by rw[o.1];lia)),?_,));refine .inr (.inl (r,_,j,_,rfl,rfl,SqT.of f2,cy (gv (by rw[o.1];lia)),?_,));refine(short 'F',λp a6=>?_,);exact kt _ _ _ (_,_,rfl,) (aL a6) (decide_eq_true c) (p,rfl,aD,)
   .rw[if_neg ↥c];exact kf _ _ (_,_,rfl,) (aO.refl _) (decide_eq_false c)
  .intro s A c E W hc;rw[CW (m:=m) (a:=m) (bZ hm) (decide_eq_true em.symm) λi' a4 u B=>by obtain⟨J,L⟩:=av.mp u;rw[List.getElem_range]at L;rw[bC]at J;subst L;exact d.inj _ _ J hm ((W0 B).trans em)]at W
   have Y:=aL (o:=.lst s) hc;have ec:upd A c (.lst s) c=_:=aD;have a5:Paired (λv a=>Pr2 ((N.getD a []).getD i 0,(N.getD a []).getD j 0) v (upd A c (.lst s))) s [m]:=Paired.uf W λv a ⟨r,e,h⟩=>(r,e,Y _ _ h,);generalize upd A c (.lst s)=H7 at Y ec a5;have X:=s3.trans (E.trans Y);have vl:b.length<=4:=by rw[K83.iB M,bJ];exact Nat.min_le_right _ _
   have ul:s.length=1:=K83.iB W;refine .inr (.inr (.inl (n,c,b,s,rfl,rfl,X _ _ S,ec,short 'D',λln hn=>?_,)));have Z:=aL (o:=.lst (b++s)) hn;refine hD _ _ (O.trans (X.trans Z),ln,_,_,aD,?_,rfl,);rw[cJ,T];refine Lj (Paired.uf M λv q ⟨r,e,h⟩=>(r,e,Z _ _ (X _ _ h),)) ?_;cases a5 with
   |cons h r=>cases r;obtain⟨r,e,h⟩:=h;rw[ew]at h;exact .cons (r,e,Z _ _ h,) .nil
 .rintro P Q ⟨O,n,b,a0,S,M,rfl⟩;unfold sM;ext;have pk:∀{f:Hp}{b:List V}{U:List (Int×Int)},Paired (λv q=>Pr2 q v f) b U->gy K f (U.map prD) b:=λ{f b U} h=>K83.vQ (F:=λv q=>Pr2 q v f) (λv q ⟨a,e,h⟩=>by subst e;exact(a,_,rfl,SqT.of h,_,_,rfl,rfl,_,_,rfl,rfl,rfl,)) h;refine⟨short 'F',λx h0=>⟨short 'F',λy J=>⟨short 'F',λp L=>⟨short 'F',λz h3=>(short 'F',λD h4=>?_,)⟩⟩⟩⟩;have t0:=aL (o:=.tup [V.int 0,V.int 0]) h0;have e0:upd Q x (.tup [V.int 0,V.int 0]) x=_:=aD;generalize upd Q x (.tup [V.int 0,V.int 0])=F0 at *;have t1:=aL (o:=.tup [V.int 0,V.int 1]) J;have u:upd F0 y (.tup [V.int 0,V.int 1]) y=_:=aD;generalize upd F0 y (.tup [V.int 0,V.int 1])=F1 at *;have t2:=aL (o:=.tup [V.int 1,V.int 0]) L;have B:upd F1 p (.tup [V.int 1,V.int 0]) p=_:=aD;generalize upd F1 p (.tup [V.int 1,V.int 0])=F2 at *;have t3:=aL (o:=.tup [V.int 1,V.int 1]) h3;have e3:upd F2 z (.tup [V.int 1,V.int 1]) z=_:=aD;generalize upd F2 z (.tup [V.int 1,V.int 1])=F3 at *;have H:=aL (o:=.lst [V.ref x,V.ref y,V.ref p,V.ref z]) h4;have e4:upd F3 D (.lst [V.ref x,V.ref y,V.ref p,V.ref z]) D=_:=aD;generalize upd F3 D (.lst [V.ref x,V.ref y,V.ref p,V.ref z])=F4 at *;have tt:=t0.trans (t1.trans (t2.trans (t3.trans H)));have r1:Rep K F4 (.lst (KP.map prD)) (.ref n):=(n,b,rfl,SqL.of (tt _ _ S),pk (Paired.uf M λv q ⟨a,e,h⟩=>(a,e,tt _ _ h,)),);have r2:Rep K F4 (.lst (KP.map prD)) (.ref D):=(D,_,rfl,SqL.of e4,pk (.cons (x,rfl,H _ _ (t3 _ _ (t2 _ _ (t1 _ _ e0))),) (.cons (y,rfl,H _ _ (t3 _ _ (t2 _ _ u)),) (.cons (p,rfl,H _ _ (t3 _ _ B),) (.cons (z,rfl,H _ _ e3,) .nil)))),);refine(_,_,r1,r2,'E',?_,);rw[xM];exact q _ (O.trans tt)
end
section
variable {G:Gam}{C CC:Addr}{T:Tb}
def spTo(T:Tb):Sp:=λvs H Q _=>∃(t:Addr)(nf:Nat->Str)(n:Nat)(ys:List V)(rows:List (List Int)),vs=[.ref t,.int n]/\Tg H t nf n ys rows/\ys≠[]/\Tab T H/\∀H',Gr T H H'->Q (.bl true) H'
structure Gw(G:Gam)(K:ak)(C CC:Addr)(T:Tb):Prop where
 v:G.val "Clash"<*(.ref CC)
 ex:PySem.W.exmOne K (.ref CC) (.ref CC)<*true
 f1:og K CC "one"=true
 f2:og K CC "other"=true
 f3:og K CC "names"=true
 c1:G.fn "tree" 1<*(K32.Aj C CC T,[])
 c2:G.fn "_law_any_clash" 2<*(spAc,[])
 c3:G.fn "_law_four" 4<*(spFo K,[])
 c4:G.fn "_law_holds" 3<*(spHo,[])
def wp_to(g:Gw G K C CC T):Sat G K (spTo T) xX xi:=by
 rintro vs H a1 a0 ⟨t,y,n,D,A,rfl,d,B,tb,q⟩;unfold xX;change wpB G K _ _ _ [some (.ref t),some (.int n),none,none,none] H;ext;unfold sH;ext;unfold sG;ext;refine(CC,g.v,_,_,g.c1,.ref t,rfl,d.tab.1,tb,λz=>by(rw[d.tab.2.1]at z;cases z),λ_=>(λZ w p gr hp tk=>?_,λw i j l f gr x R Q=>?_,),);·have m:=d.mis B Z;have tn:=d.tn m;obtain⟨l1,l2,xs,ts,tr⟩:=tree_h tn B tk;have u:=d.gr gr tb;unfold kM;ext;rw[if_neg 'F'];unfold sF;ext;refine(_,_,g.c2,t,y,n,D,A,rfl,u,λO b c I=>(b,rfl,?_,),);rw[if_neg λz=>no_clR m (I.mp z)];unfold sE;ext;exact(_,_,g.c4,p,t,l1,l2,y,D,xs,ts,A,n,rfl,((u.tn m).same c,B,tr.same c,d.n10,d.len,),λJ s=>q J (gr.trans (Gr.of (c.trans s))),)
 .have u:=d.gr gr tb;have a2:=d.n10;refine(rfl,g.ex,λa U=>?_,);ext;have c:=aL (o:=oh a (.ref CC) (some f)) U;have L:upd w a (oh a (.ref CC) (some f)) a<*(oh a (.ref CC) (some f)):=aD;change wpB G K _ kM _ [some (.ref t),some (.int n),some .non,some (.ref a),none] (upd w a (oh a (.ref CC) (some f)));generalize upd w a (oh a (.ref CC) (some f))=O at c L;have M:=x.ij;have v:=x.jn;rw[d.count B]at v;have S:=(d.four 'D' v).mp x.four;unfold kM;ext;rw[if_pos 'F'];refine(_,_,g.c2,t,y,n,D,A,rfl,u.same c,λJ b s I=>(b,rfl,?_,),);rw[if_pos (I.mpr (j,i,M,v,S.flip,))];have E:=s _ _ L;have F:=s _ _ (c _ _ Q);refine(_,_,g.c3,a,CC,f,_,.int i,rfl,E,F,g.f1,rfl,a,CC,f,_,.int j,rfl,E,F,g.f2,lk2,a,CC,f,_,.ref l,rfl,E,F,g.f3,lk3,?_,);refine(t,l,y,n,i,j,D,A,uU (rowsOf H (.ref t)) i j,rfl,(u.same c).same s,M,v,s _ _ (c _ _ R),λk V=>?_,λP s4=>q P (gr.trans (Gr.of (c.trans (s.trans s4)))),);have h:=x.four;unfold qm at h;obtain⟨r,Y,e⟩:=cz.mp (bx.mp h k V);unfold uU;cases hf:(rowsOf H (.ref t)).find? (isK i j k)with
  |none=>exact absurd e (jv.mp hf r Y)
  |some r'=>have X:=nC hf;have W:=z7 hf;obtain⟨m,N,rfl⟩:=(d.mem r').mp X;exact(m,N,rfl,(d.num 'D' v N).mp W,)
end
end K33
namespace K33
open R
abbrev p_law:List Str:=["_law_script"]
abbrev LY:List Str:=["_law_script","_law_many","_law_table_here","_law_size"]
abbrev Hk:CB:=
  (.cons (.ret (.con (.bool true)))
  .nil)
abbrev Bw:CB:=
  (.cons (.forr (.name 3) (.range2 (.con (.int 1)) (.bin .Add (.bfn .len (.cons (.var 2) .nil)) (.con (.int 1))))
  (.cons (.iff (.not (.call "_law_told" (.cons (.cut (.var 2) .no (.yes (.var 3))) (.cons (.var 1) .nil))))
  (.cons (.ret (.con (.bool false)))
  .nil)
  .nil)
  .nil))
  Hk)
abbrev Bx:CB:=
  (.cons (.iff (.cmp .NotEq (.call "tree" (.cons (.lst .nil) .nil)) (.tup (.cons (.lst .nil) (.cons (.lst .nil) .nil))))
  (.cons (.ret (.con (.bool false)))
  .nil)
  .nil)
  Bw)
abbrev Hl:CB:=
  (.cons (.asg (.name 2) (.call "_law_table" (.cons (.var 0) (.cons (.var 1) .nil))))
  Bx)
abbrev Hm:CB:=
  (.cons (.asg (.name 1) (.bin .Mod (.call "_law_draw" (.cons (.call "_law_cell_at" (.cons (.var 0) (.cons (.con (.int 1)) .nil))) (.cons (.con (.int 3)) .nil))) (.con (.int 11))))
  Hl)
abbrev Nv:CB:=
  (.cons (.asgc 0 (.comp ["_law_cell"] [0] (.name 0) (.seq (.var 0)) .no (.bin .Add (.bin .Mult (.con (.int 2)) (.var 0)) (.bin .Mod (.bfn .sum (.cons (.cut (.var 1) .no (.yes (.con (.int 1)))) .nil)) (.con (.int 2))))))
  Hm)
end K33
namespace K33
open L2 R Cp Lt Kc K21 K22 Lm M5 K32 K34 M7 M8 K75 K02
def Jb{z:Nat}(h:z<=ys.length):uB ys none (some (z:Int))=ys.take z:=by unfold uB;rw[show HT.sIx ys.length ys.length (some (z:Int))=min z ys.length from HT.vO _ _ z,show HT.sIx ys.length 0 none=0 from rfl,Nat.min_eq_left h];simp
def dr_tg{t:Addr}{c:Int}(k:H t<*(.lst ys))(p:ys.length<=16)(q:n<=10)(dr:Dr H (K21.nm c) n ys):∃rows,Tg H t (K21.nm c) n ys rows:=by
 have g:∀(i:Nat) y,ys[i]?<*y->∃b r,y=.ref b/\H b<*(.tup [.str (K21.nm c i),.ref r])/\H r<*(.tup (((cd H y).2.map intOf).map V.int))/\M6.Ok n ((cd H y).2.map intOf):=λi y e=>by obtain⟨b,r,u,rfl,a,d,f,l⟩:=dr i y e;rw[tV a d];have :=uo l;exact(b,r,rfl,a,by rw[this.1];exact d,by rw[ao];exact f,this.2,)
 refine(ys.map λy=>(cd H y).2.map intOf,k,by rw[ao],λi y e=>?_,K21.LU c,λi j hi s e=>K21.nm_inj 'D' 'D' e,p,q,λr m=>?_,);·obtain⟨b,r,a,d,f,_⟩:=g i y e;rw[ah,ay,e];exact(b,r,a,d,f,)
 .obtain⟨y,o,rfl⟩:=aI.mp m;obtain⟨i,e⟩:=aS.mp o;obtain⟨_,_,_,_,_,h⟩:=g i y e;exact h
theorem Tg.take{t:Addr}(d:Tg H t nf n ys rows)(a:H l<*(.lst (ys.take k))):Tg H l nf n (ys.take k) (rows.take k) where
 et:=a
 ln:=by rw[bJ,bJ,d.ln]
 row:=λi y e=>by have hi:=(av.mp e).1;rw[bJ]at hi;rw[eX 'D']at e;rw[ah,eX 'D',<-ah];exact d.row i y e
 ok:=d.ok
 inj:=λi j hi b e=>by rw[bJ]at hi b;exact d.inj i j 'D' 'D' e
 len:=by rw[bJ];have :=d.len;lia
 n10:=d.n10
 rd:=λr c=>d.rd r (fS c)
structure G3(G:Gam)(K:ak)(C CC:Addr)(T:Tb):Prop where
 c0:G.fn "_law_cell_at" 2<*(Au K,[])
 c1:G.fn "_law_draw" 2<*(j7,[])
 c2:G.fn "_law_table" 2<*(K33.Kv K,[])
 c3:G.fn "_law_told" 2<*(spTo T,[])
 c4:G.fn "tree" 1<*(K32.Aj C CC T,[])
section
variable {G:Gam}{C CC:Addr}{T:Tb}{E:XS}{D:Ends}{Q:VK}{t:Addr}{nf:Nat->Str}
def lw_5(g:G3 G K C CC T)(d:Tg H t nf n ys rows)(tb:Tab T H){e:Option V}(u:D.rt=Q)(q:∀H',Q (.bl true) H'):wpB G K E Bw D [e,some (.int n),some (.ref t),none] H:=by
 have J:=d.len;unfold Bw;ext;refine gM ?_;ext;refine Or.inl (t,ys,rfl,.inl (SqL.of d.et),?_,);ext;refine(1,_,rfl,('E','E','D','D',),?_,);refine fF dB (λ_ c H'=>Gr T H H'/\∃v,c=[e,some (.int n),some (.ref t),v]) (Gr.of (aO.refl _),none,rfl,) (λ_ _ _ _ _=>trivial) ?_ ?_
 .rintro k x c i j A F ⟨h,v,rfl⟩ rfl w p I;have a:=h.trans (Gr.of (T:=T) w);have f:=d.gr a tb;have y:=a.tab tb;have r:k+1<=ys.length:=by lia
  ext;refine(_,_,g.c3,.inl (t,ys,rfl,SqL.of f.et,λl s=>?_,),);rw[show(1:Int)+(k:Int)=((k+1:Nat):Int) by lia,Jb r];generalize hX:upd j l _=H4;obtain⟨b,m⟩:=fh hX s;clear hX;refine(l,nf,n,_,_,rfl,(f.same b).take m,λz=>?_,(Gr.of b).tab y,λB o=>(_,rfl,?_,),);·have :=congrArg iM z;rw[bJ,lH]at this;lia
  .show if false=true then _ else _
   rw[if_neg aq];exact p _ _ (a.trans ((Gr.of b).trans o),_,rfl,)
 .rintro c i ⟨h,v,rfl⟩;unfold Hk;ext;rw[u];exact q _
def lw_4(g:G3 G K C CC T)(d:Tg H t nf n ys rows)(tb:Tab T H){I:Option V}(u:D.rt=Q)(q:∀H',Q (.bl true) H'):wpB G K E Bx D [I,some (.int n),some (.ref t),none] H:=by
 unfold Bx;ext;refine(_,_,g.c4,short 'F',λe U=>?_,);generalize hX:upd H e _=H1;obtain⟨B,v⟩:=fh hX U;clear hX;have k:Tg H1 e nf 0 [] []:=⟨v,rfl,λi y e=>by simp at e,d.ok,λi j hi=>absurd hi (d9 _),'F','F',λa2 u=>nomatch u⟩;have Z:=(Gr.of (T:=T) B).tab tb;have J:Cp.count H1 (.ref e)=0:=by show(match eV (H1 e)with |some (y::_)=>cV H1 y|_=>0)=0;rw[v];rfl
 have X:rowsOf H1 (.ref e)=[]:=List.eq_nil_iff_forall_not_mem.mpr λx W=>by obtain⟨i,hi,_⟩:=(k.mem x).mp W;exact absurd hi (d9 _)
 refine(.ref e,rfl,k.tab.1,Z,λz=>by(rw[k.tab.2.1]at z;cases z),λ_=>(λ_ h p gr hp tk=>?_,λh i j a1 dd gr S=>?_,),)
 .rcases tk with⟨_,a,b,R,_,_,_,O,P⟩ |⟨z,_⟩
  .refine⟨short 'F',λc m=>⟨short 'F',λf r=>(short 'F',λl s=>?_,)⟩⟩;have Y:=aL (o:=.lst []) m;have L:upd h c (.lst []) c<*(.lst []):=aD;generalize upd h c (.lst [])=F1 at *;have F:=aL (o:=.lst []) r;have M:upd F1 f (.lst []) f<*(.lst []):=aD;generalize upd F1 f (.lst [])=F2 at *;have t3:=aL (o:=.tup [.ref c,.ref f]) s;have N:upd F2 l (.tup [.ref c,.ref f]) l=_:=aD;generalize upd F2 l (.tup [.ref c,.ref f])=F3 at *;have tt:=Y.trans (F.trans t3);have A:∀{p a b:Addr},F3 p<*(.tup [.ref a,.ref b])->F3 a<*(.lst [])->F3 b<*(.lst [])->Rep K F3 (.tup [.lst [],.lst []]) (.ref p):=λ{p a b} m r s=>
    (p,_,rfl,SqT.of m,_,_,rfl,(a,[],rfl,SqL.of r,rfl,),_,_,rfl,(b,[],rfl,SqL.of s,rfl,),rfl,)
   refine m5 (A (tt _ _ R) (tt _ _ O) (tt _ _ P)) (A N (t3 _ _ (F _ _ L)) (t3 _ _ M)) 'E' (_,rfl,?_,);rw[if_neg aq];have w:=(Gr.of (T:=T) B).trans (gr.trans (Gr.of tt));exact lw_5 g (d.gr w tb) (w.tab tb) u q
  .exact absurd X z
 .have :=S.jn;rw[J]at this;exact absurd this (d9 _)
def Kw(K:ak)(T:Tb):Sp:=λvs H Q _=>∃(a:Addr)(ns:List Int),vs=[.ref a]/\SqL K H a (ns.map V.int)/\ns.length<=63/\Tab T H/\∀H',Q (.bl true) H'
def wp_law(g:G3 G K C CC T):Sat G K (Kw K T) Nv LY:=by
 rintro V H Q E ⟨a,P,rfl,f,L,S,q⟩;unfold Nv;change wpB G K _ _ _ [some (.ref a),none,none,none] H;ext;refine dY (dF rfl f (eT eS (by rw[ao];exact aT L 'E') (λr j=>j.seq f) (λi v _=>∃m:Int,v=.int m) (λ_ _ _ _ _ h=>h) (λu=>∃t,u=[t,some (.ref a)]) (none,rfl,) ?_ ?_))
 .rintro i y u w R hi ⟨t,rfl⟩ p M k;obtain⟨m,I⟩:∃m:Int,y=.int m:=by obtain⟨m,_,rfl⟩:=aI.mp (aH M);exact(m,rfl,)
  subst I;ext;refine(qr 'E' 'E',.inl (a,_,rfl,p.seq f,λl F=>?_,),);obtain⟨O,x⟩:=DD P none (some 1);refine(l,O,rfl,by rw[<-x];exact SqL.of aD,?_,);ext;exact('E',k _ _ _ (_,rfl,) (aL F) (_,rfl,),)
 intro V r b Y B j D;obtain⟨e,rfl⟩:=K21.se B;generalize hX:upd r b _=H2;obtain⟨o,s⟩:=fh hX D;clear hX
 replace o:=j.trans (o)
 have U:=(Gr.of (T:=T) o).tab S;unfold Hm;ext;refine(_,_,g.c1,_,_,g.c0,b,e,1,rfl,SqL.of s,_,3,rfl,'E','E',?_,);ext;have A:0<=K21.draw (e.getD 1 0) 3%11:=bU _ 'E';have W:K21.draw (e.getD 1 0) 3%11<11:=cn _ 'E';obtain⟨n,J⟩:=dA A;rw[J];refine('E',?_,);unfold Hl;ext;refine(_,_,g.c2,b,e,n,rfl,'D',SqL.of s,λw t ys c p X z N dr=>?_,);obtain⟨Z,d⟩:=dr_tg z N 'D' dr;exact lw_4 g d ((Gr.of (T:=T) p).tab U) rfl q
end
end K33
set_option maxHeartbeats 0
namespace K33
open PySem.Calls L2 R Cp Lt Lm
def G9(h:us.length=4):∃a b c d,us=[a,b,c,d]:=by
 cases us with
 |nil=>exact nomatch h
 |cons a r=>obtain⟨b,c,d,e⟩:=Kc.rM (jt h);exact⟨a,b,c,d,by rw[e]⟩
abbrev Ml(st:Stmt):Pos:=match bB st with
 |_::.Assign _ (.Call _ _ [⟨_,.Lambda _ _ _ p,_⟩] _) _::_=>p
 |_=>(0,0,0,0,)
abbrev tb(p:Addr):Tb:=(p,Ml (top 16),"table_list.<locals>.<lambda>",)
def tl_ok:(qg kH rS (aZ (top 16))&&chkK (aZ (top 16)) kH mG 1 (.var 0) "copy" (Ml (top 16)) mF (bB (top 16)))=true:=by decide+kernel
def tl_q:("table_list":Str)++".<locals>."++"<lambda>"="table_list.<locals>.<lambda>":=by decide+kernel
abbrev vals(C CE CC kd:Addr):List (Str×V):=[("LETTERS",.str LETTERS),("LONGEST_NAME",.int 8),("MOST_PLACES",.int 60),("MOST_COPIES",.int 40),("NoTable",.ref C),("KinError",.ref CE),("Clash",.ref CC),("KINDS",.ref kd)]
def vU{b:Array (Option Value)}{i j:Int}{t u:Tok}(l:K.lookup a<*(.type "tuple",od,.seq #[.int i t,.int j u] n,b,))(H:Hp):SqT K H a [.int i,.int j]:=
 .inr (_,_,_,l,rfl,rfl,by show 2<=sizeLine;decide,.cons (t,rfl,) (.cons (u,rfl,) .nil),)
def Mr{a b c d:Addr}{g h i j:Nat}{m k:Array (Option Value)}{o p q t3 r u1 s t:Tok}(l:K.lookup kd<*(.type "tuple",od,.seq #[.ref a,.ref b,.ref c,.ref d] n,m,))
  (e:K.lookup a<*(.type "tuple",o0,.seq #[.int 0 o,.int 0 r] g,s0,))(l1:K.lookup b<*(.type "tuple",o1,.seq #[.int 0 p,.int 1 u1] h,k,))(l2:K.lookup c<*(.type "tuple",o2,.seq #[.int 1 q,.int 0 s] i,s2,))(f:K.lookup d<*(.type "tuple",o3,.seq #[.int 1 t3,.int 1 t] j,s3,)):Kc.Kinds K kd:=
 (a,b,c,d,λH=>(.inr (_,_,_,l,rfl,rfl,by show 4<=sizeLine;decide,.cons rfl (.cons rfl (.cons rfl (.cons rfl .nil))),),vU e H,vU l1 H,vU l2 H,vU f H,),)
def xK{cd:ClassData}(a:gb K (.ref C) "__getattribute__"<*(some (.builtin "BaseException.__getattribute__")))(b:gb K (.ref C) "__getattr__"<*none)(c:gb K (.ref C) "__class__"<*(some (.builtin "object.__class__")))
  (d:uJ K (.builtin "object.__class__") "__get__"<*(some (.builtin "getset_descriptor.__get__")))(e:PySem.W.takesIn K (.builtin "object.__class__")<*true)(f:BQ K C (.type "object")<*true)(g:BQ K C (.type "BaseException")<*true)(h:PySem.W.clsIn K C<*cd):sr K C=true:=by
 unfold sr;rw[a,b,c,d,e,f,g,h];simp only[beq_self_eq_true,Bool.and_self,gK]
def xH{f:Str}{cd:ClassData}(a:sr K C=true)(b:gb K (.ref C) f<*none)(c:PySem.W.clsIn K C<*cd)(d:cd.hasDict=true):og K C f=true:=by unfold og;rw[a,b,c];simp only[beq_self_eq_true,Bool.and_self,d]
def BD(K:ak)(x:Str)(st:Stmt)(c p:Addr):Prop:=∃(f:Addr)(oc:Value)(od an:Option Addr)(bv:Array (Option Value))(kV am pm ct:Value),eI K bY x<*(some (.ref f))/\
 K.lookup f<*(oc,od,.func (aP x x (bV st) (bB st) (aZ st) .none kV am pm an (.ref c) ct),bv,)/\fq K (.ref c) x=true/\cO K (.ref f)=true/\NY K c p=true
def zo{st:Stmt}{p:Addr}{an:Option Addr}{kV:Value}(a:eI K bY x<*(some (.ref f)))
  (l:K.lookup f<*(oc,od,.func (aP x x (bV st) (bB st) (aZ st) .none kV am pm an (.ref c) ct),bv,))(k:fq K (.ref c) x=true)(q:cO K (.ref f)=true)(h:NY K c p=true):∃c,BD K x st c p:=
 (c,f,oc,od,an,bv,kV,am,pm,ct,a,l,k,q,h,)
def add_fnK{vals:List (Str×V)}{e:List ((Str×Nat)×(Sp×List V))}{lx:Str}{st:Stmt}{ps:List Str}{sp:Sp}{o:CS}{r:R.CE}{q:CB}{T:Tb}{j:List ((Str×Nat)×(Addr×Sp×List V))}{b:List (Addr×List (Key×V))}
  (g:GOk P w K mg base (CXx P w) k (gam vals e j b))(X:K.In h)(u:K.In base)(t:h.Ns bY mg)(d:BD K x st c T.P)(m:(qg N ps (aZ st)&&chkK (aZ st) N o i r lx T.pos q (bB st))=true)(hq:x++".<locals>."++"<lambda>"=T.q)(z:BM mg base)
  (B:∀(p:Pos)(y:Expr)(scope:Scope)(qual:Str)(pm cb v:Value)(c':Addr),rC (PySem.W.kla_fn "<lambda>" qual (r9 lx p) y scope [] pm (.ref c') cb) ([v],[],)=pure [(lx,v)])
  (A:∀(kV am pm:Value)(an:Option Addr)(ai ct:Value)(us:List Value),us.length=ps.length->rC (aP x x (bV st) (bB st) (aZ st) .none kV am pm an ai ct) (us,[],)=pure (ps.zip us))(len:∀vs H Q E,sp vs H Q E->vs.length=ps.length)
  (C:∀vs H Q E,sp vs H Q E->yv (R.wpS (gam vals e j b) K (λ_=>E) o) (yv (Ag (wC K T (wpE (gam vals e j b) K (λ_=>E) r)) (oa i)) (wpB (gam vals e j b) K (λ_=>E) q)) {nx:=λ_ H'=>Q .non H',rt:=Q} (L2.start N vs) H):
  GOk P w K mg base (CXx P w) (k+1) (gam vals (((x,ps.length),(sp,[]))::e) j b):=by
 rw[aB]at m;obtain⟨f,I,J,an,L,kV,am,pm,ct,a,l,D,s,G⟩:=d;have F:=Fo l D s;exact g.add (n:=ps.length) (MR F m.1 m.2 rfl (Hx u G) hq z B g len C) (eG X t a) s (F.binds A) .nil
def Fk{kV:Value}{an:Option Addr}:Binds K (aP "__init__" "Clash.__init__" (bV (kj 2 0)) (bB (kj 2 0)) (aZ (kj 2 0)) .none kV am pm an ai ct) K32.n6 []:=λs b X a=>by rw[lJ]at a⊢;obtain⟨_,_,_,_,rfl⟩:=G9 a;exact .of_eq rfl
def init_ok:(qg K32.kc K32.n6 (aZ (kj 2 0))&&rh (aZ (kj 2 0)) K32.kc K32.kA (bB (kj 2 0)))=true:=by decide+kernel
set_option hygiene false in
local macro_rules
 | `(#v[])=>`((by kernel_rfl))
 | `(#v[0])=>`(Kc.iR h rfl)
 | `(#v[1,$z])=>`(Kc.cw h λ_ h=>$z)
 | `(#v[1])=>`(λ_ _ _ _ _ _ f b=>by obtain⟨_,rfl⟩:=Kc.jj b;rfl)
 | `(#v[2])=>`(λ_ _ _ _ _ _ f b=>by obtain⟨_,_,rfl⟩:=Kc.ji b;rfl)
 | `(#v[3])=>`(λ_ _ _ _ _ _ f b=>by obtain⟨_,_,_,rfl⟩:=Kc.rM b;rfl)
 | `(#v[4])=>`(λ_ _ _ _ _ _ f b=>by obtain⟨_,_,_,_,rfl⟩:=G9 b;rfl)
 | `(#v[$N,$p,$g,$d,$s,$w,$e,$z])=>`(eF (N:=$N) (ps:=$p) $g (HasFn.def X d $d) (by decide+kernel) $e (sp:=$s) (λ_ _ _ _ h=>$z) ($w))
def all_mk{p:Addr}(X:K.In h)(d:h.Ns bY mg)(f5:mg "law"<*(.ref fa)){o q t3 r:Tok}{CE:Addr}{f7 O h0 cdI L:Value}
  (v1:eI K bY "LETTERS"<*(some (.str LETTERS o)))(v2:eI K bY "LONGEST_NAME"<*(some (.int 8 q)))(v3:eI K bY "MOST_PLACES"<*(some (.int 60 t3)))(v4:eI K bY "MOST_COPIES"<*(some (.int 40 r)))(v5:eI K bY "NoTable"<*(some (.ref C)))(v6:eI K bY "KinError"<*(some (.ref CE)))(t:eI K bY "Clash"<*(some (.ref CC)))(v8:eI K bY "KINDS"<*(some (.ref kd)))
  (xc:XC K C)(R:PySem.W.exmOne K (.ref CC) (.ref CC)<*true)(S:og K CC "one"=true)(U:og K CC "other"=true)(V:og K CC "names"=true)(f8:Kc.Kinds K kd)(m:uu K CC fI bmV "ValueError.__new__"=true)(kI:cO K (.ref CC)=true)(l:K.lookup fI<*(.type "function",cs,.func (aP "__init__" "Clash.__init__" (bV (kj 2 0)) (bB (kj 2 0)) (aZ (kj 2 0)) .none f7 O h0 cr cdI L),ce,))(G:fq K cdI "Clash.__init__"=true)(z:uJ K (.ref CE) "__getattribute__"<*(some (.builtin "type.__getattribute__")))(A:PySem.W.readsIn K CE (.type "type")=true)(D:PySem.W.findCls K (.ref CE) (.type "type") "__init__"<*(.val (.builtin "ValueError.__init__")))(h1:StX K CC "one")(h2:StX K CC "other")(h3:StX K CC "names")(bl:∀x∈jT,eI K bY x<*none)
  (h9:HasFn K "is_whole" (top 9))(c3:HasFn K "is_name" (top 10))(c4:HasFn K "is_reading" (top 11))(c5:HasFn K "are_readings" (top 12))(c6:HasFn K "is_copy" (top 13))(c7:HasFn K "is_table" (top 14))(c8:HasFn K "need_table" (top 15))(c9:HasFn K "place_count" (top 17))(d0:HasFn K "first_of_kinds" (top 20))(d1:HasFn K "clash" (top 21))(d2:HasFn K "refuse_clash" (top 22))(d3:HasFn K "group_at" (top 24))(d4:HasFn K "turned" (top 25))(d5:HasFn K "grown" (top 26))(d6:HasFn K "tree" (top 27))(d7:HasFn K "_law_cell_at" (top 29))(d8:HasFn K "_law_draw" (top 31))(d9:HasFn K "_law_names" (top 32))(e0:HasFn K "_law_random" (top 33))(e1:HasFn K "_law_otherwise" (top 34))(e2:HasFn K "_law_grown" (top 35))(e3:HasFn K "_law_held" (top 36))(e4:HasFn K "_law_reached" (top 37))(e5:HasFn K "_law_apart" (top 38))(e6:HasFn K "_law_holds" (top 39))(e7:HasFn K "_law_table" (top 40))(e8:HasFn K "_law_any_clash" (top 41))(e9:HasFn K "_law_four" (top 42))(f0:HasFn K "_law_told" (top 43))(g:∃c,BD K "table_list" (top 16) c p)(f4:HasFn K "law" (top 44)):
  ∃fd:fP,(∀(s:Shared)(v:Value),BindsTo s fd ([v],[],) [("_law_script",v)])/\∀base:Heap,K.In base->base.Ns bY mg->BM mg base->jV P w K mg base CX0 33 fa fd ["_law_script"] (λvs H Q _=>Kw K (tb p) vs H Q E0):=by
 obtain⟨h4,h5,od,an,h6,kV,M,pm,I,J,a,f9,c,f6⟩:=id f4;have e:=f5.symm.trans (eG X d a);cases e;obtain⟨cc,g⟩:=g;refine(aP "law" "law" (bV (top 44)) (bB (top 44)) (aZ (top 44)) .none kV M pm an I J,λs v=>.of_eq rfl,λbase y _ F=>?_,);have hv:∀x v,(x,v)∈vals C CE CC kd->∃u,mg x<*u/\RelV v u:=by
  intro x v k;simp only[vals,aK,dh,or_false,BU]at k;rcases k with⟨rfl,rfl⟩ |⟨rfl,rfl⟩ |⟨rfl,rfl⟩ |⟨rfl,rfl⟩ |⟨rfl,rfl⟩ |⟨rfl,rfl⟩ |⟨rfl,rfl⟩ |⟨rfl,rfl⟩;·exact(_,eG X d v1,o,rfl,)
  .exact(_,eG X d v2,q,rfl,)
  .exact(_,eG X d v3,t3,rfl,)
  .exact(_,eG X d v4,r,rfl,)
  .exact(_,eG X d v5,rfl,)
  .exact(_,eG X d v6,rfl,)
  .exact(_,eG X d t,rfl,)
  .exact(_,eG X d v8,rfl,)
 have W:GOk P w K mg base (CXx P w) 0 (gam (vals C CE CC kd) []):=GOk.start hv λx hx=>PySem.W.mg_none_of X d (bl x hx);have Y:=#v[Cp.xm,Cp.EY,W,h9,spB isWhole,B5,#v[1],#v[1,#v[0]]];have g2:=#v[Cp.ze,Cp.Im,Y,c3,spN,Ek #v[] #v[],#v[1],#v[1,#v[0]]];have g3:=#v[Cp.rY,Cp.AQ,g2,c4,spB cm,yt #v[],#v[1],#v[1,#v[0]]];have g4:=#v[Cp.oX,Cp.wW,g3,c5,spR,vx #v[] #v[],#v[1],#v[1,#v[0]]];have g5:=#v[Cp.zf,Cp.Io,g4,c6,spC,El #v[] #v[],#v[1],#v[1,#v[0]]];have g6:=#v[Cp.xn,Cp.EZ,g5,c7,Cp.spT,B6 #v[] #v[],#v[1],#v[1,#v[0]]];have g7:=#v[Cp.rX,Cp.AN,g6,c8,Ak C,yr #v[] #v[] xc,#v[1],#v[1,#v[0]]];have g8:=add_fnK (T:=tb p) (N:=kH) (ps:=rS) (lx:="copy") g7 X y d g tl_ok tl_q F (λ_ _ _ _ _ _ _ _=>rfl) (λ_ _ _ _ _ _ f b=>by obtain⟨_,rfl⟩:=Kc.jj b;rfl) (sp:=Am C (tb p)) (λvs H Q E h=>Kc.cw h λ_ h=>Kc.iR h rfl) (yn (C:=C) #v[]);have g9:=#v[Cp.qh,Cp.yy,g8,c9,Ar C,wt (C:=C) #v[],#v[1],#v[1,#v[0]]];have Z:=#v[Kc.mY,Kc.tX,g9,d0,Kc.Aq,Kc.J2 #v[] f8,#v[3],#v[1,#v[1,#v[1,#v[1,#v[1,#v[0]]]]]]];have j:=#v[K22.GR,K22.p_clash,Z,d1,K22.As C (tb p),K22.J3 (C:=C) (T:=tb p) #v[] #v[] #v[],#v[1],#v[1,#v[0]]];have nt:K32.Cl K CE CC:=((z,A,D,),h1,h2,h3,fI,m,);have hi:=eE.mp init_ok;have a0:=j.addI (n:=3) (x:="Clash") (C:=CC) (m,(_,l,rfl,),kI,) (Dv l G hi.1 hi.2 j (sp:=K32.An CC) (λvs H Q E h=>Kc.cw h λ_ h=>Kc.cw h λ_ h=>Kc.cw h λ_ h=>Kc.cw h λ_ h=>Kc.iR h rfl) (K32.JZ (B:=CE) (C:=CC) #v[] nt)) (eG X d t) Fk .nil;have a1:=#v[K32.oW,K32.wV,a0,d2,K32.wH C CC (tb p),K32.HC (C:=C) (CC:=CC) (T:=tb p) #v[] #v[],#v[1],#v[1,#v[0]]];have a2:=#v[K32.xo,K32.E1,a1,d3,K32.Ap,K32.J1,#v[2],#v[1,#v[1,#v[1,#v[1,#v[1,#v[0]]]]]]];have a3:=#v[K32.C5,K32.LJ,a2,d4,K32.oS K,K32.HB,#v[2],#v[1,#v[1,#v[1,#v[1,#v[0]]]]]];have a4:=#v[K32.GQ,K32.p_grown,a3,d5,K32.wJ,K32.HE #v[] #v[],#v[1],#v[1,#v[1,#v[1,#v[1,#v[0]]]]]];have a5:=#v[K32.LX,K32.p_tree,a4,d6,K32.Aj C CC (tb p),K32.wp_tree (C:=C) (CC:=CC) (T:=tb p) #v[] #v[] #v[],#v[1],#v[1,#v[0]]];have a6:=#v[Lt.qj,Lt.yA,a5,d7,Lt.Au K,Lt.wp_cell,#v[2],#v[1,#v[1,#v[1,#v[0]]]]];have a7:=#v[K21.xl,K21.EX,a6,d8,K21.j7,K21.wp_draw,#v[2],#v[1,#v[1,#v[0]]]];have a8:=#v[K21.uW,K21.CF,a7,d9,K21.Al,K21.JY #v[],#v[2],#v[1,#v[1,#v[0]]]];have a9:=#v[K22.nI,K22.AO,a8,e0,K21.wI K,K21.HD #v[],#v[3],#v[1,#v[1,#v[1,#v[1,#v[1,#v[1,#v[0]]]]]]]];have b0:=#v[K22.n8,K22.vy,a9,e1,K22.jI K,K22.JX,#v[2],#v[1,#v[1,#v[1,#v[1,#v[0]]]]]];have b4:=#v[K22.uY,K22.CJ,b0,e2,K22.Ao K,K22.J0 #v[] #v[],#v[2],#v[1,#v[1,#v[1,#v[0]]]]];have b5:=#v[K22.xj,K22.EV,b4,e3,K22.EC K,K22.wp_held #v[],#v[2],#v[1,#v[1,#v[1,#v[1,#v[0]]]]]];have b6:=#v[K33.qi,K33.yz,b5,e4,K33.spRe,K33.wp_re,#v[2],#v[1,#v[1,#v[1,#v[1,#v[1,#v[1,#v[1,#v[0]]]]]]]]];have b7:=#v[K33.uZ,K33.CK,b6,e5,K33.spAp,K33.wp_ap,#v[2],#v[1,#v[1,#v[1,#v[1,#v[1,#v[0]]]]]]];have b8:=#v[K33.uX,K33.CH,b7,e6,K33.spHo,K33.wp_ho #v[] #v[],#v[3],#v[1,#v[1,#v[1,#v[1,#v[1,#v[1,#v[1,#v[1,#v[1,#v[1,#v[0]]]]]]]]]]]];have b9:=#v[K33.uV,K33.CD,b8,e7,K33.Kv K,K33.wp_tab #v[] #v[] #v[] #v[] #v[] #v[] #v[],#v[2],#v[1,#v[1,#v[1,#v[0]]]]];have c0:=#v[K33.n9,K33.vz,b9,e8,K33.spAc,K33.wp_ac,#v[2],#v[1,#v[1,#v[1,#v[1,#v[1,#v[0]]]]]]];have c1:=#v[K33.xk,K33.EW,c0,e9,K33.spFo K,K33.wp_fo,#v[4],#v[1,#v[1,#v[1,#v[1,#v[1,#v[1,#v[1,#v[1,#v[1,#v[0]]]]]]]]]]];have c2:=#v[K33.xi,K33.EU,c1,f0,K33.spTo (tb p),K33.wp_to (C:=C) (CC:=CC) (T:=tb p) (#v[],R,S,U,V,#v[],#v[],#v[],#v[],),#v[2],#v[1,#v[1,#v[1,#v[1,#v[1,#v[0]]]]]]];have i:(qg K33.LY K33.p_law (aZ (top 44))&&rh (aZ (top 44)) K33.LY K33.Nv (bB (top 44)))=true:=by decide+kernel
 rw[aB]at i;exact jV.calm (He (Fo f9 c f6) i.1 i.2 c2 (λvs H Q E h=>Kc.cw h λ_ h=>Kc.cw h λ_ h=>Kc.iR h rfl) (wp_law (C:=C) (CC:=CC) (T:=tb p) (#v[],#v[],#v[],#v[],#v[],)))
end K33
open PySem.W
set_option maxRecDepth 100000 in
set_option maxHeartbeats 0 in
theorem PySem.Challenge.cw_copykin_k33_whole_a_tree_or_a_clash_holds : PySem.Challenge.rw_copykin_k33_whole_a_tree_or_a_clash.Holds := by
 w_on;refine PySem.W.holds_law K33.saidW fun said=>?_
 refine PySem.W.holds_open (q:=K33.vw) (loose:=K33.loo) (Xt:=K33.xt)
  (XP:=PySem.W.XL K33.vw []) (Yf:=Ec (lP K33.Dp K33.Dq (λ_=>by kernel_rfl) [103])) (Ya:=Eb (lP K33.Dp K33.Dq (λ_=>by kernel_rfl) [103]))
  (YP:=PySem.W.Hook.says (lP K33.Dp K33.Dq (λ_=>by kernel_rfl) [103])) (N:=3470) (λw=>K33.both (K33.leftA w) (K33.leftB w)) (PySem.W.Hook.of _) (PySem.W.Hook.keeps _)
  (λs e=>PySem.W.xl_of s (eE.mp e).1) PySem.W.XL.keeps
  (by rfl) (by rfl) (by rfl)
  (λs e=>PySem.W.recFacts_of (eE.mp e).2) rfl (by assumption) (by decide+kernel)
  (rfl,rfl,rfl,rfl,rfl,by decide+kernel,) ?hw ?hc
 (case hw=>w_witness2)
 k_fill
 refine Lm.J4 (l:=PySem.Challenge.rw_copykin_k33_whole_a_tree_or_a_clash) (n:=63) (k:=33) (x:="_law_script") (CX:=L2.CX0) (sp:=λK=>λvs H Q _=>K33.Kw K (K33.tb 103) vs H Q L2.E0) (tabs:=[103]) rfl 'E' rfl (rfl,'E','E',) (λw h Y=>NX Y) ?T ?F (λK H a ns hl ht hS=>(a,ns,rfl,hS,hl,.inl (ht 103 (aU.mpr rfl)),λ_=>rfl,)) (λ_ _ _ _ z=>z)
 case T=>
  intro w s₀ mg mb h G Y p hp;obtain rfl:=aU.mp hp;have KX:=NX Y;have T:=PySem.W.km_tabs_of Y 103 (aU.mpr rfl);have F:∃c,K33.BD (L2.KOf KX) "table_list" (K33.top 16) c 103:=by
   dsimp only[L2.KOf];refine' K33.zo ?ta ?tl ?tk ?tq ?th;(case ta=>k_is);(case tl=>k_is);(case tk=>k_is);(case tq=>k_is);(case th=>first |k_is|kernel_rfl)
  obtain⟨c,_,_,_,_,_,_,_,_,_,_,_,_,_,q⟩:=F;exact(T,((Hx KX q).tab T).isCodeTable,by kernel_rfl,)
 case F=>
  intro w mg fa h KX G hmg;refine' K33.all_mk (p:=103) (fI:=41) (cdI:=.ref 40) KX G hmg ?v1 ?v2 ?v3 ?v4 ?v5 ?v6 ?v7 ?v8 ?xc ?ex ?f1 ?f2 ?f3 ?kd0 ?mx ?kI ?lI ?cI ?b1 ?b2 ?b3 ?st1 ?st2 ?st3 ?bl ?h9 ?h10 ?h11 ?h12 ?h13 ?h14 ?h15 ?h17 ?h20 ?h21 ?h22 ?h24 ?h25 ?h26 ?h27 ?h29 ?h31 ?h32 ?h33 ?h34 ?h35 ?h36 ?h37 ?h38 ?h39 ?h40 ?h41 ?h42 ?h43 ?h16 ?h44
  (case v1=>k_is);(case v2=>k_is);(case v3=>k_is);(case v4=>k_is);(case v5=>k_is);(case v6=>k_is);(case v7=>k_is);(case v8=>k_is)
  (case xc=>refine'(?x1,?x2,);(case x1=>k_is);(case x2=>k_exc))
  (case ex=>kts_exm)
  (case f1=>refine' K33.xH (K33.xK ?xa ?xb ?xc ?xd ?xe ?xf ?xg ?xh) ?fb ?fc ?fd;(case xa=>k_is);(case xb=>k_is);(case xc=>k_is);(case xd=>k_is);(case xe=>k_is);(case xf=>k_is);(case xg=>k_is);(case xh=>k_is);(case fb=>k_is);(case fc=>k_is);(case fd=>rfl))
  (case f2=>refine' K33.xH (K33.xK ?xa ?xb ?xc ?xd ?xe ?xf ?xg ?xh) ?fb ?fc ?fd;(case xa=>k_is);(case xb=>k_is);(case xc=>k_is);(case xd=>k_is);(case xe=>k_is);(case xf=>k_is);(case xg=>k_is);(case xh=>k_is);(case fb=>k_is);(case fc=>k_is);(case fd=>rfl))
  (case f3=>refine' K33.xH (K33.xK ?xa ?xb ?xc ?xd ?xe ?xf ?xg ?xh) ?fb ?fc ?fd;(case xa=>k_is);(case xb=>k_is);(case xc=>k_is);(case xd=>k_is);(case xe=>k_is);(case xf=>k_is);(case xg=>k_is);(case xh=>k_is);(case fb=>k_is);(case fc=>k_is);(case fd=>rfl))
  (case kd0=>refine' K33.Mr ?l ?l0 ?l1 ?l2 ?l3;(case l=>k_is);(case l0=>k_is);(case l1=>k_is);(case l2=>k_is);(case l3=>k_is))
  (case mx=>first |k_exc|kernel_rfl)
  (case kI=>k_is)
  (case lI=>k_is)
  (case cI=>k_is)
  (case b1=>k_is)
  (case b2=>first |k_is|kernel_rfl)
  (case b3=>first |k_is|kernel_rfl)
  (case st1=>refine'(?s1,?s2,?s3,?s4,);(case s1=>k_is);(case s2=>first |k_is|kernel_rfl);(case s3=>first |k_is|kernel_rfl);(case s4=>first |k_is|kernel_rfl))
  (case st2=>refine'(?s1,?s2,?s3,?s4,);(case s1=>k_is);(case s2=>first |k_is|kernel_rfl);(case s3=>first |k_is|kernel_rfl);(case s4=>first |k_is|kernel_rfl))
  (case st3=>refine'(?s1,?s2,?s3,?s4,);(case s1=>k_is);(case s2=>first |k_is|kernel_rfl);(case s3=>first |k_is|kernel_rfl);(case s4=>first |k_is|kernel_rfl))
  (case bl=>
   intro x hx;simp only[R.jT,aK,dh,or_false]at hx;rcases hx with rfl|rfl|rfl|rfl|rfl|rfl|rfl|rfl|rfl|rfl|rfl|rfl|rfl|rfl|rfl|rfl|rfl|rfl|rfl|rfl<;>k_is)
  (case h16=>refine' K33.zo ?ua ?ul ?uk ?uq ?uh;(case ua=>k_is);(case ul=>k_is);(case uk=>k_is);(case uq=>k_is);(case uh=>first |k_is|kernel_rfl))
  all_goals(refine' R.MI ?a ?l ?c ?k;(case a=>k_is);(case l=>k_is);(case c=>k_is);(case k=>k_is))
