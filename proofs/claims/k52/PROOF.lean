import PyProof.Rows.All
import KE.RegKTryMore
import KE.KListLetter
import KE.KFromBytes
import Flt.RegK
import KE.KDictOf
import KE.KLam
import KE.KNestM
import KE.KEqDict
import KE.KRevIter
import KE.KUnpack
import KE.KDictSum
import KE.KPathRange
import KE.KState
import KE.RegKIsAll
import KE.KSortTup
import KE.KPairComp
import Lean
import PySem.Challenge.RW_copykin_k52_no_frames
local macro_rules|`(command|abbrev $d:declId $s:optDeclSig $v:declVal)=>`(command|noncomputable def $d:declId $s:optDeclSig $v:declVal)
open Array renaming length_toList->aO,getElem?_eq_getElem->cq,getD_eq_getD_getElem?->cB,getElem?_eq_some_iff->cI,size_push->cV,toList_append->cZ,toList_extract->dU,perm_iff_toList_perm->d7,getElem?_toList->eE,toList_push->eW,size_append->ft,getElem?_eq_none->oE,getElem?_setIfInBounds_self_of_lt->pS,find?_toList->sV,toList_setIfInBounds->Ac,toList_reverse->Hm,mem_toList_iff->Hn,getD->K9,forIn_toList->La,ext'->Lb
open Array.Perm renaming refl->jA
open Bool renaming and_eq_true->aN,false_ne_true->be,false_eq_true->b8,or_eq_true->du,and_false->eU,eq_false_iff->gI,false_and->gW,and_eq_true_iff->gX,eq_iff_iff->kI,or_false->sU
open False renaming elim->gU
open ForInStep renaming yield->iz
open Int renaming emod_nonneg->cy,emod_lt_of_pos->cT,eq_ofNat_of_zero_le->dY,toNat_natCast->gN,toNat_of_nonneg->iQ,fdiv_eq_ediv_of_nonneg->B9,zero_add->Hk
open Lean.Name renaming str->cw,anonymous->Co
open List renaming length_map->ah,getElem?_eq_getElem->aj,length_append->aq,mem_cons_self->aw,mem_cons_of_mem->aB,mem_singleton->aC,mem_cons->aG,mem_append->aH,size_toArray->aI,getD_eq_getElem?_getD->aJ,length_take->aM,mem_iff_getElem->aU,mem_map->aW,length_cons->aZ,map_append->bf,range->bg,getElem?_eq_some_iff->bp,not_mem_nil->bu,map_cons->bw,mem_append_right->bz,length_drop->bA,lookup_cons->bE,getElem_mem->bF,replicate->bL,take_append_drop->bN,getElem?_map->bP,append_assoc->bQ,mem_of_getElem?->bS,getElem_take->bX,pairwise_iff_getElem->b9,length_eq_zero_iff->cn,getElem_map->cu,mem_map_of_mem->cH,getElem_inj->cJ,pairwise_append->cN,extract_eq_take_drop->cP,map_map->cQ,all_eq_true->cY,length_pos_iff->da,forIn_nil->dm,take_length->dv,ext_getElem->dw,take_add_one->dF,lookup->dG,length_range->dH,length_singleton->dJ,forIn_cons->dO,find?_cons->dP,nodup_append->d8,mem_range->d9,getElem_drop->ef,getElem?_append_right->eh,flatten_cons->eu,nodup_cons->eA,length_nil->eB,mem_of_mem_take->eR,mem_append_left->eS,getElem?_cons_zero->eZ,getElem?_cons_succ->fc,take_of_length_le->fi,replicate_succ->fQ,length_reverse->fR,any_eq_true->fS,length_replicate->gB,take_sublist->gG,reverse_perm->gH,mem_reverse->iq,map_reverse->iu,getElem?_append_left->iH,sum_cons->iS,set_cons_zero->i9,set_cons_succ->ja,pairwise_map->jr,mem_of_mem_drop->kc,length->kg,count_le_length->kh,range_succ->kF,foldl_cons->kG,append_nil->kH,reverse_append->kP,perm_ext_iff_of_nodup->lM,pairwise_cons->lN,nodup_nil->lO,getElem?_drop->lQ,exists_cons_of_ne_nil->lR,getElem_append_left->nB,any_cons->nC,flatten_singleton->o3,all_map->o4,pairwise_reverse->pP,mem_iff_getElem?->pQ,getElem?_toArray->pR,getElem?_set_ne->qr,getElem?_range->rQ,filterMap_cons->rR,all_cons->sS,lookup_append->tY,filterMap_nil->tZ,map_nil->uQ,eraseIdxIfInBounds_toArray->wD,nodup_range->wI,take_append_of_le_length->xr,eq_nil_of_length_eq_zero->xu,of_mem_zip->yv,nil_append->yw,mem_filter->yx,dropLast_concat_getLast->yy,take_left->Ag,nodup_iff_pairwise_ne->Ah,length_eraseIdx_of_lt->Ai,drop_zero->Aj,map_take->Cm,getElem?_take_of_lt->Cn,pairwise_lt_range->Fz,getElem?_set_self->FA,perm_cons_erase->Hr,mem_erase_of_ne->Hs,toList_toArray->K4,map_congr_left->K5,flatten_append->K6
open List.Pairwise renaming nil->ki
open List.Perm renaming refl->fw,swap->K7
open Nat renaming le_refl->aE,ne_of_lt->aK,le_trans->aR,zero_le->a0,lt_of_lt_of_le->bj,lt_succ_of_lt->bU,le_add_right->cL,ne_of_gt->cS,le_succ->dq,lt_succ_self->dB,lt_irrefl->eN,lt_trans->fv,lt_of_succ_lt->gL,le_succ_of_le->gM,zero_add->iD,min_le_right->iE,le_of_not_lt->iF,le_of_lt->iG,not_lt_zero->i7,min_eq_left->i8,lt_add_of_pos_right->jd,lt_or_ge->lK,lt_of_le_of_lt->mG,add_assoc->nN,sub_zero->pj,lt_trichotomy->wC,succ_le_succ->xp,lt_add_right->xq,le_antisymm->z9,add_sub_cancel_left->Fy,min_self->Hj
open Nat.succ renaming inj->gK
open Ne renaming symm->cU
open Option renaming isSome_iff_exists->cW,bind_some->fG,map_eq_some_iff->fZ,isNone_iff_eq_none->lL,isSome_some->rP,getD_none->uO,map->yu,isSome_map->K3
open Option.some renaming inj->bC,injEq->eL
open Prod.mk renaming inj->uN
open PyProof.Rows renaming wpS_bind->aL,wpS_pure->aS,callWith_type1->bT,pendingOf->cG,wpS_forRange->di,failedOf->eD,boot_list->fB,wpS_mono->gi,SortKind->gm,wpS_modify->gD,callWith_builtin1->i6,StrsAre->jZ,wpS_get->mR,AllBare->o7,listUpdate_at->pf,wpS_lift->uh,boot_tuple->wB,boot_dict->wH,boot_int->xo,gallopOf->Hd,subscriptTail->KW
open PyProof.Rows.F renaming plain_set_update_loop->gr,entry_set_update_loop->nu
open PyProof.Rows.SortSt renaming mk'->gJ
open PySem renaming wpAny_bind->ae,wpAny_pure->ag,wpAny_holding->bq,starEach->bx,mem_of_lookup->bJ,SetTable->bO,mainGlobals->bR,wpAny_setField_rec->bW,wpAny_newObj_type->ck,wpAny_call_entry->cA,wpAny_mono->cE,cellsFrom->cM,compareOp->dc,wpAny_truthy_bool->dk,sysModules->dA,builtinLookup_eq_fast->dQ,wpAny_rule->dZ,wpAny_specialOf->eI,wpAny_field->eJ,codeAny_builtin->eK,NameKind->eQ,DictEntry->eV,bootBuiltins->eY,wpAny_callSpecial?_slot->fh,wpAny_attempt->fq,typeLookup_type->fF,codeAny_call_builtin->fN,binaryOp->fO,Fin->fP,plainId_quiet->fV,codeAny->gh,wpAny_typeNameOfWhole_itemiter->gj,FuncData->gp,sizeLine_eq->gA,wpAny_Call_Name_kw->gE,wpAny_passesOwn->gS,wpAny_dictEpoch->gT,tupleKind->gV,wpAny_setState_of->ij,strIterType->iN,assignEach->iO,wpAny_askSetting->iZ,scanBound->i3,wpAny_standAt->jl,wpAny_ite_split->jq,wpAny_call->jx,pickOrder->jy,excClassObj->jz,wpAny_typeOf->jP,wpAny_seqItems->jQ,wpAny_pyIter_list->jR,wpAny_loadPart_at->jS,wpAny_dictEntries->jT,isSubtype_type->jV,foldedSetIterable->jW,firstArgMember->jX,codeAny_mono->jY,Value->j6,wpAny_isInstance->kL,Within->kM,attributeBase->kZ,sliceBounds->lH,setField->lI,keywordEach->lJ,wpAny_updateSeq->mF,swapsWith->nj,noteFrame->nq,tupleKind_room_in1->nI,placesWithHash->nJ,call_meets->nK,builtinsNs->nM,IsItemIter->nO,fits_of_scanBound->oY,behindInMarks->ph,relayAll->qp,wpAny_nextOf_list_item->rG,wpAny_isOneOf_itemiter->rH,evalArgs_none->rL,letOwnedTupleGo->rN,wpAny_callSpecialIfBoundUnlessNone?_slot->sM,wpAny_pyIter_revIter->ui,wpAny_of_eq->uj,carriedByValue->uk,backToKw->um,ZipApart->uo,GenState->uq,wpAny_dictSet_pairs->wt,pairTrees_cons_walk->wu,typeLookup->xm,wpAny_pyIter_slot->zR,valueAt->zS,raiseNew->zT,eqIsQuiet_byValue->zW,call_meetsIn->zX,Addr->z8,wpAny_pyIter_zip->B0,updateSeq->B1,setFlight->B2,onTheHeap->B3,checkBuiltinCall->B4,wpAny_ret_mkInt->D7,wpAny_loadPart'->D9,wpAny_execs_nil->Ea,codeAny_of_tree->Eb,Shared->Ec,wpAny_letOwnedTupleGo_items->Fs,standAt->Ft,getItem->Fu,callerA->Fv,ItemsOf->FC,wpAny_setField->G6,wpAny_newTuple->G7,wpAny_loadPart->G8,wpAny_fieldsOf->G9,setsByText->Ha,isSubtype_stop->Hb,callType_codes->He,wpAny_newList->KR,wpAny_handled->KS,swapsWithSole->KU,dictWalkPlain->KY
open PySem.Around renaming under_plainId->dh,under->Cq
open PySem.Builtin.Dict renaming updateFrom->wG,showsAll->xv
open PySem.Builtin.Dict_items renaming ownsTuple->iT,ownedTupleIsFree->mH,ownedTupleFields->mI,pairFromOwner->nE
open PySem.Builtin.List renaming listExtendWith->b7,listLengthHint->dM,listSameRef->fk,listTooLong->gO,listItems->iK,listUpdate->k9,listTouch->lS
open PySem.Builtin.SmallTypes renaming ownedTupleIsFree->eG,nextOf->fW
open PySem.Builtin.Str renaming occurrences->iA,strSliceIndices->t7
open PySem.Calls renaming callWith_builtin->gc,spliced_cons->i4,Name_function_global->Ab,call_function_entry->Ak,evalArgs_plain->Hl
open PySem.Code renaming quiet_builtin->t4,isFrame->FE
open PySem.EntryCells renaming newEntry->Cb
open PySem.F renaming slot_dict_itemiterator_next->fe,plain_extend_loop->f9,attrBase_ValueError->gq,slot_dict_items->iR,slot_list_getattribute->jc,excBase_ValueError->kO,slot_NoneType_hash->kQ,plainAttrs_list->mS,plainAttrs_dict->mT,slot_dict_get->oB,slot_bool_hash->pk,slot_zip_next->qv,args_dict_items_1->yt,args_dict_itemiterator_next_1->yz,entry_dict_items->z7,entry_dict_itemiterator_next->Aa,type_dict_items->Ae,args_dict_get_2->Af,entry_dict_get->B8,slot_tuple_eq->Cj,entry_bexc_ga->Ck,slot_dict_items_iter->K8
open PySem.Heap renaming get?_push_of_some->af,lt_size->aD,get?_push_size->aF,get?_update_other->bb,get?_update_self->bG,size_push->cK,SameBut->cR,size_update->iy,get?_none_of_le->qt,MadeExcOf->qu
open PySem.Heap.DictOf renaming new->FD
open PySem.Heap.IsRevIter renaming typeIs->wF
open PySem.Heap.SameBut renaming update->eM,refl->Ca
open PySem.IsL renaming update->Hg
open PySem.NameKind renaming free->cj,cell->df
open PySem.Obj renaming mapSeq->cC,mapFields->fE,data_mapFields->jb,data_mapDictKeys->kD,isFreed_of_fields->qq,isFreed_of_dict->sR
open PySem.Paired renaming length->fg
open PySem.PyData renaming keyHash->ax,canLay0->fj
open PySem.SeqAt.EqAt renaming str_int->Cd,int_str->Ce,int_int->Cf
open PySem.SetTable renaming below->cD,grown->fA,insertAt->rO,has->Ad,orStandIn->Fw,relaid->KZ
open PySem.SetTable.below renaming go->zY
open PySem.SetTable.probe renaming go->oZ
open PySem.Shared renaming TypeIs->rK
open PySem.Str renaming ofString->cz,length->B5
open PySem.Value renaming ref->bo,none->cf,type->dD,builtin->iP,isStrOf_shape->kE,str->k8,bool->sN,int->Cc
open PySem.W renaming Frag->ai,fnOf->aX,kitOne->bK,keepIn->cF,kia_one->dg,mg_of->dE,nsIn->dI,kas_sort->dS,codeIn->fC,findIn->gF,kas_descPart->jU,kmHook->kN,looks_findIn->rJ,callWith_K->rM,methodObj->sO,kitx_dict->sQ,findObj->uL,instObj->wy,binds_K->wA,lookIn->xn,kas_rev->zV,mroIn->zZ,cellsFrom_some->B7,looks_clsIn->Fx,specialIn->Ho,kitx_list->Hq,plainGet->K0,openEnds->K1,kcp_self->K2
open PySem.W.Hook renaming val->Cg,obs->Ci
open PySem.W.KasT renaming ret->uR
open PySem.W.Looks renaming here->z0
open PySem.Within renaming cons->B6
open PySem.pickOrder renaming go->zU
open Sum renaming inr->gk,inl->wx
open Sum.inr renaming inj->uM
open PySem PySem.Spec PyProof.Rows
set_option compiler.extract_closed false
set_option bootstrap.genMatcherCode false
theorem W0{p:Prop}[Decidable p](h:decide p=true):p:=of_decide_eq_true h
local macro_rules|`(($a,$b,*))=>if b.elemsAndSeps.size%2==0 then`(⟨$a,$b,*⟩)else Lean.Macro.throwUnsupported
local macro_rules|`(⇑$s)=>`(($s).heap.objs.size)
local macro_rules|`($a<*$b)=>`($a=some $b)
local macro_rules|`(↥$s)=>`(by simpa using $s)
local macro_rules|`($c:char)=>let i:=Lean.mkIdent;match c.getChar with|'A'=>`($(i `Inv) $(i `X) $(i `pins) $(i `σ) $(i `H) $(i `s))|'B'=>`(wpAny (model $(i `prog) $(i `w)) $(i `A))|'C'=>`(wpAny (model ($(i `X)).prog ($(i `X)).w) ($(i `X)).A)|'D'=>`(by lia)|'E'=>`(by decide)|'F'=>`(by simp)|'G'=>`(by kernel_rfl)|'I'=>`(PySem.Value->PySem.Shared->Prop)|_=>Lean.Macro.throwUnsupported
set_option Elab.async false
set_option linter.all false
set_option maxRecDepth 100000
set_option maxHeartbeats 0
variable {es av:Array (Int×j6)}{az sl:Array (Option j6)}{ad items:Array j6}{led:Bool}{pins pins' pl pn:List (z8×PySem.Obj)}{ns:List Int}{fp tabs:List z8}{es':List PySem.Expr}{N ks loose own ps:List PySem.Str}{args bmB ds its its' rest us vs:List j6}{ep i j m n t':Nat}{func od od':Option z8}{C CF CN CT I L S T a b dx f fI fa i1 i2 it l o q r x0 z:z8}{A:PySem.Around}{e iter tg:PySem.Expr}{Qf:fP->Ec->Prop}{base h h' h0:PySem.Heap}{au np p p' pos pos' pp:PySem.Pos}{P prog:PySem.Program}{sc sc' scope:PySem.Scope}{s s':Ec}{ao x:PySem.Str}{mA mN mb mg:PySem.Str->Option j6}{c cd am ct dV ap oc pm res u v:j6}{E QQ Q₁ xe:j6->Ec->Prop}{K:ai}{w:PySem.World}
namespace L2
abbrev bV(s:Stmt):Arguments:=match s with
 |.FunctionDef _ a _ _ _ _ _ _ _ _=>a
 |_=>{posonlyargs:=[],args:=[],vararg:=none,kwonlyargs:=[],kw_defaults:=[],kwarg:=none,defaults:=[]}
abbrev bM(s:Stmt):List Stmt:=match s with
 |.FunctionDef _ _ b _ _ _ _ _ _ _=>b
 |_=>[]
abbrev bh(s:Stmt):Scope:=match s with
 |.FunctionDef _ _ _ _ _ _ sc _ _ _=>sc
 |_=>{kind:=.function,names:=[],isGenerator:=false,isCoroutine:=false}
end L2
namespace K52
open PySem.Calls
abbrev top(i:Nat):Stmt:=PySem.Challenge.pw_copykin_k52_no_frames.main.body.getD i (.Pass (0,0,0,0,))
abbrev DO(i j:Nat):Stmt:=match top i with
 |.ClassDef _ _ _ b .. =>b.getD j (.Pass (0,0,0,0,))
 |s=>s
abbrev vw:Program:=
 {PySem.Challenge.pw_copykin_k52_no_frames with main:={PySem.Challenge.pw_copykin_k52_no_frames.main with body:=[top 1,top 2,top 3,top 4,top 5,top 6,top 8,top 9,top 10,top 11,top 12,top 14,top 15,top 16,top 18,top 19,top 20,top 21,top 24,top 25,top 26,top 27,top 28,top 29,top 32,top 33,top 34,top 35,top 36,top 37,top 38,top 39,top 40,top 41,top 42]}}
abbrev loo:List Str:=[cz "NoText",cz "frame_list",cz "fewest"]
abbrev xt(s:Shared):Bool:=PySem.W.xlAt vw [] s&&PySem.W.recOk [] s
abbrev lhsA(p q:Program)(l:List Str)(w:World):=(K1 treeTable p w 4544).map (PySem.W.openSeen q l (importedModules p.main.body) (λs=>PySem.W.xlAt q [] s&&PySem.W.recOk [] s) true)
abbrev seen{a:Type _}(_:a):Bool:=true
def laidA:(seen lhsA)=true:=by k_qdec
abbrev lhsW(l:PySem.W.OpenLaw):Bool:=PySem.W.OpenLaw.wellSaid l
def laidW:(seen lhsW)=true:=by k_qdec
def saidW:lhsW PySem.Challenge.rw_copykin_k52_no_frames=true:=by
 have _:=laidW;rw[PySem.W.Fast.te5030408265910161651]
 kernel_rfl
def left0(w:World):lhsA PySem.Challenge.pw_copykin_k52_no_frames vw loo w<*(PySem.W.openGood vw loo):=by
 have _:=laidA;rw[PySem.W.Fast.te8842226934999008341]
 kernel_rfl
def leftA(w:World):(K1 treeTable PySem.Challenge.pw_copykin_k52_no_frames w 4544).map (PySem.W.openSeen vw loo (importedModules PySem.Challenge.pw_copykin_k52_no_frames.main.body) xt true)<*(PySem.W.openGood vw loo):=left0 w
def both{c d e:Type}{o:Option c}{f:c->d}{g:c->e}{a:d}{b:e}(h:o.map f<*a)(k:o.map g<*b):(o.map λs=>(f s,g s))<*(a,b):=by
 cases o with
 |none=>cases h
 |some x=>injection h with h;injection k with k;rw[<-h,<-k];rfl
end K52
namespace K52
open PySem.Calls L2
set_option hygiene false in
local macro_rules
 | `(#v[$x:str,$t,$r])=>`((ax P $x,.str $x $t,.ref $r,))
 | `(#v[298])=>`(.str "copykin.tables" 298)
 | `(#v[324])=>`(.str "copykin.ways" 324)
 | `(#v[358])=>`(.str "copykin.frames" 358)
 | `(#v[389])=>`(.str "copykin.changes" 389)
 | `(#v[447])=>`(.str "law_copykin_k52_no_frames" 447)
 | `(#v[$c:num,$x,$t,$e,$f,$l,$k,$a,$b,$d,$u,$v,$g:num,$i,$m,$z])=>`((nat_lit $c,(.type "code",none,(.fields #[.str $x $t,.str $x $e,.str "/claim/cut.py" $f,.int $l 0,.int $k 0,.int 0 0,.int 0 0,.int 3 0,.ref $a,.bool true,.int 181 0,.ref $b,.none,.none,.none,.ref $d,.int $u 0,.int $l 0,.str "/claim/cut.py" $v]),#[],))::(nat_lit $g,(.type "function",none,(.func (aX $x $x (bV (top $i)) (bM (top $i)) (bh (top $i)) .none .none .none $m none (.ref $c) .none)),#[],))::$z)
 | `(#v[$c:num,$x,$t,$e,$f,$l,$k,$a,$b,$d,$u,$v,$g:num,$i,$m,$o,$p,$z])=>`((nat_lit $c,(.type "code",none,(.fields #[.str $x $t,.str $x $e,.str "/claim/cut.py" $f,.int $l 0,.int $k 0,.int 0 0,.int 0 0,.int 3 0,.ref $a,.bool true,.int 181 0,.ref $b,.none,.ref $o,.ref $p,.ref $d,.int $u 0,.int $l 0,.str "/claim/cut.py" $v]),#[],))::(nat_lit $g,(.type "function",none,(.func (aX $x $x (bV (top $i)) (bM (top $i)) (bh (top $i)) .none .none .none $m none (.ref $c) .none)),#[],))::$z)
abbrev Bz(P:PySem.Params):ai:=
 (nat_lit 2,(.none,none,(.dict #[] 0),#[],))::
 (nat_lit 3,(.type "dict",none,(.dict #[(ax P "__name__",.str "__name__" 165,.str "law_copykin_k52_no_frames" 447,),(ax P "__doc__",.str "__doc__" 166,.none,),(ax P "__package__",.str "__package__" 167,.none,),(ax P "__loader__",.str "__loader__" 168,.builtin "__main__.__loader__#opaque",),(ax P "__spec__",.str "__spec__" 169,.none,),#v["__annotations__",170,6],#v["__builtins__",171,4],(ax P "__file__",.str "__file__" 173,.str "/claim/cut.py" 172,),(ax P "__cached__",.str "__cached__" 174,.none,),#v["KinError",206,24],#v["NoText",233,45],#v["NoTable",249,57],#v["NoName",265,69],#v["NoReading",281,81],#v["NoFrame",297,93],(ax P "LETTERS",.str "LETTERS" 301,.str "abcdefghijklmnopqrstuvwxyz" 300,),(ax P "LONGEST_NAME",.str "LONGEST_NAME" 303,.int 8 302,),#v["is_whole",310,102],#v["is_name",316,107],#v["is_reading",323,114],#v["neighbours",337,121],#v["reached",349,128],#v["leads_one_way",357,135],(ax P "MOST_BRANCHES",.str "MOST_BRANCHES" 361,.int 80 360,),#v["is_pair",368,142],#v["names_of",374,147],#v["is_frame",380,152],#v["frame_list",388,160],#v["is_read",396,165],#v["begun_at",402,170],#v["joined",408,175],#v["left_over",417,182],#v["climbed",423,187],#v["settled",434,194],#v["fewest",446,202],#v["_law_cell_at",456,209],#v["_law_drawn",464,216],#v["_law_name",475,223],#v["_law_above",484,230],#v["_law_frame",498,237],#v["_law_names",504,242],#v["_law_alone",512,249],#v["_law_no_frame",528,256],#v["_law_no_read",536,263],#v["_law_refused",549,270],#v["law",555,275]] 46),#[],))::
 (nat_lit 23,(.type "dict",none,(.dict #[(ax P "__module__",.str "__module__" 196,.str "copykin.errors" 187,),(ax P "__firstlineno__",.str "__firstlineno__" 200,.int 2 199,),#v["__static_attributes__",201,22],#v["__weakref__",203,25],(ax P "__doc__",.str "__doc__" 204,.none,)] 3),#[],))::
 (nat_lit 24,(.type "type",none,(.cls {name:="KinError",bases:=[.type "ValueError"],mro:=[.ref 24,.type "ValueError",.type "Exception",.type "BaseException",.type "object"],ns:=23,qualname:="KinError",hasDict:=true,slotNames:=[],subclasses:=[.ref 45,.ref 57,.ref 69,.ref 81,.ref 93],abstract:=false,collection:=none,hasDel:=false}),#[(some (.ref 15)),none,(some (.str "KinError" 189)),(some (.str "KinError" 197)),(some (.builtin "ValueError.__new__")),(some (.bool true))],))::
 (nat_lit 35,(.type "tuple",none,(.seq #[.int 0 219] 0),#[],))::
 (nat_lit 41,(.type "code",none,(.fields #[.str "__init__" 220,.str "NoText.__init__" 221,.str "/claim/cut.py" 222,.int 6 0,.int 3 0,.int 0 0,.int 0 0,.int 3 0,.ref 36,.bool true,.int 181 0,.ref 37,.none,.ref 38,.ref 39,.ref 40,.int 226 0,.int 6 0,.str "/claim/cut.py" 227]),#[],))::
 (nat_lit 42,(.type "function",none,(.func (aX "__init__" "NoText.__init__" (bV (DO 2 0)) (bM (DO 2 0)) (bh (DO 2 0)) (.ref 35) .none .none (.str "copykin.errors" 187) none (.ref 41) .none)),#[],))::
 (nat_lit 44,(.type "dict",none,(.dict #[(ax P "__module__",.str "__module__" 214,.str "copykin.errors" 187,),(ax P "__firstlineno__",.str "__firstlineno__" 218,.int 4 217,),#v["__init__",228,42],#v["__static_attributes__",230,43],(ax P "__doc__",.str "__doc__" 231,.none,)] 2),#[],))::
 (nat_lit 45,(.type "type",none,(.cls {name:="NoText",bases:=[.ref 24],mro:=[.ref 45,.ref 24,.type "ValueError",.type "Exception",.type "BaseException",.type "object"],ns:=44,qualname:="NoText",hasDict:=true,slotNames:=[],subclasses:=[],abstract:=false,collection:=none,hasDel:=false}),#[(some (.ref 28)),none,(some (.str "NoText" 207)),(some (.str "NoText" 215)),(some (.builtin "ValueError.__new__")),(some (.bool true))],))::
 (nat_lit 56,(.type "dict",none,(.dict #[(ax P "__module__",.str "__module__" 241,.str "copykin.errors" 187,),(ax P "__firstlineno__",.str "__firstlineno__" 245,.int 9 244,),#v["__static_attributes__",246,55],(ax P "__doc__",.str "__doc__" 247,.none,)] 2),#[],))::
 (nat_lit 57,(.type "type",none,(.cls {name:="NoTable",bases:=[.ref 24],mro:=[.ref 57,.ref 24,.type "ValueError",.type "Exception",.type "BaseException",.type "object"],ns:=56,qualname:="NoTable",hasDict:=true,slotNames:=[],subclasses:=[],abstract:=false,collection:=none,hasDel:=false}),#[(some (.ref 48)),none,(some (.str "NoTable" 234)),(some (.str "NoTable" 242)),(some (.builtin "ValueError.__new__")),(some (.bool true))],))::
 (nat_lit 68,(.type "dict",none,(.dict #[(ax P "__module__",.str "__module__" 257,.str "copykin.errors" 187,),(ax P "__firstlineno__",.str "__firstlineno__" 261,.int 11 260,),#v["__static_attributes__",262,67],(ax P "__doc__",.str "__doc__" 263,.none,)] 2),#[],))::
 (nat_lit 69,(.type "type",none,(.cls {name:="NoName",bases:=[.ref 24],mro:=[.ref 69,.ref 24,.type "ValueError",.type "Exception",.type "BaseException",.type "object"],ns:=68,qualname:="NoName",hasDict:=true,slotNames:=[],subclasses:=[],abstract:=false,collection:=none,hasDel:=false}),#[(some (.ref 60)),none,(some (.str "NoName" 250)),(some (.str "NoName" 258)),(some (.builtin "ValueError.__new__")),(some (.bool true))],))::
 (nat_lit 80,(.type "dict",none,(.dict #[(ax P "__module__",.str "__module__" 273,.str "copykin.errors" 187,),(ax P "__firstlineno__",.str "__firstlineno__" 277,.int 13 276,),#v["__static_attributes__",278,79],(ax P "__doc__",.str "__doc__" 279,.none,)] 2),#[],))::
 (nat_lit 81,(.type "type",none,(.cls {name:="NoReading",bases:=[.ref 24],mro:=[.ref 81,.ref 24,.type "ValueError",.type "Exception",.type "BaseException",.type "object"],ns:=80,qualname:="NoReading",hasDict:=true,slotNames:=[],subclasses:=[],abstract:=false,collection:=none,hasDel:=false}),#[(some (.ref 72)),none,(some (.str "NoReading" 266)),(some (.str "NoReading" 274)),(some (.builtin "ValueError.__new__")),(some (.bool true))],))::
 (nat_lit 92,(.type "dict",none,(.dict #[(ax P "__module__",.str "__module__" 289,.str "copykin.errors" 187,),(ax P "__firstlineno__",.str "__firstlineno__" 293,.int 15 292,),#v["__static_attributes__",294,91],(ax P "__doc__",.str "__doc__" 295,.none,)] 2),#[],))::
 (nat_lit 93,(.type "type",none,(.cls {name:="NoFrame",bases:=[.ref 24],mro:=[.ref 93,.ref 24,.type "ValueError",.type "Exception",.type "BaseException",.type "object"],ns:=92,qualname:="NoFrame",hasDict:=true,slotNames:=[],subclasses:=[],abstract:=false,collection:=none,hasDel:=false}),#[(some (.ref 84)),none,(some (.str "NoFrame" 282)),(some (.str "NoFrame" 290)),(some (.builtin "ValueError.__new__")),(some (.bool true))],))::
 #v[101,"is_whole",304,305,306,20,1,96,97,100,308,309,102,10,#v[298],98,99,
 #v[106,"is_name",311,312,313,22,1,103,104,105,314,315,107,11,#v[298],
 #v[113,"is_reading",317,318,319,28,1,108,109,112,321,322,114,12,#v[298],110,111,
 #v[120,"neighbours",326,327,328,31,2,115,116,119,335,336,121,14,#v[324],117,118,
 #v[127,"reached",338,339,340,39,1,122,123,126,347,348,128,15,#v[324],124,125,
 #v[134,"leads_one_way",350,351,352,50,2,129,130,133,355,356,135,16,#v[324],131,132,
 #v[141,"is_pair",362,363,364,56,1,136,137,140,366,367,142,19,#v[358],138,139,
 #v[146,"names_of",369,370,371,60,1,143,144,145,372,373,147,20,#v[358],
 #v[151,"is_frame",375,376,377,62,2,148,149,150,378,379,152,21,#v[358],
 (nat_lit 153,(.type "tuple",none,(.seq #[.none] 0),#[],))::
 (nat_lit 159,(.type "code",none,(.fields #[.str "frame_list" 381,.str "frame_list" 382,.str "/claim/cut.py" 383,.int 70 0,.int 2 0,.int 0 0,.int 0 0,.int 3 0,.ref 154,.bool true,.int 181 0,.ref 155,.none,.ref 156,.ref 157,.ref 158,.int 386 0,.int 70 0,.str "/claim/cut.py" 387]),#[],))::
 (nat_lit 160,(.type "function",none,(.func (aX "frame_list" "frame_list" (bV (top 22)) (bM (top 22)) (bh (top 22)) (.ref 153) .none .none (.str "copykin.frames" 358) none (.ref 159) .none)),#[],))::
 #v[164,"is_read",391,392,393,75,2,161,162,163,394,395,165,24,#v[389],
 #v[169,"begun_at",397,398,399,79,2,166,167,168,400,401,170,25,#v[389],
 #v[174,"joined",403,404,405,81,3,171,172,173,406,407,175,26,#v[389],
 #v[181,"left_over",409,410,411,83,3,176,177,180,415,416,182,27,#v[389],178,179,
 #v[186,"climbed",418,419,420,89,2,183,184,185,421,422,187,28,#v[389],
 #v[193,"settled",424,425,426,106,2,188,189,192,432,433,194,29,#v[389],190,191,
 (nat_lit 195,(.type "tuple",none,(.seq #[.none] 0),#[],))::
 (nat_lit 201,(.type "code",none,(.fields #[.str "fewest" 435,.str "fewest" 436,.str "/claim/cut.py" 437,.int 114 0,.int 3 0,.int 0 0,.int 0 0,.int 3 0,.ref 196,.bool true,.int 181 0,.ref 197,.none,.ref 198,.ref 199,.ref 200,.int 444 0,.int 114 0,.str "/claim/cut.py" 445]),#[],))::
 (nat_lit 202,(.type "function",none,(.func (aX "fewest" "fewest" (bV (top 30)) (bM (top 30)) (bh (top 30)) (.ref 195) .none .none (.str "copykin.changes" 389) none (.ref 201) .none)),#[],))::
 #v[208,"_law_cell_at",449,450,451,122,2,203,204,207,454,455,209,32,#v[447],205,206,
 #v[215,"_law_drawn",457,458,459,126,2,210,211,214,462,463,216,33,#v[447],212,213,
 #v[222,"_law_name",465,466,467,128,2,217,218,221,473,474,223,34,#v[447],219,220,
 #v[229,"_law_above",476,477,478,133,3,224,225,228,482,483,230,35,#v[447],226,227,
 #v[236,"_law_frame",485,486,487,139,3,231,232,235,496,497,237,36,#v[447],233,234,
 #v[241,"_law_names",499,500,501,149,3,238,239,240,502,503,242,37,#v[447],
 #v[255,"_law_no_frame",513,514,515,155,3,250,251,254,526,527,256,39,#v[447],252,253,
 #v[262,"_law_no_read",529,530,531,175,2,257,258,261,534,535,263,40,#v[447],259,260,
 #v[269,"_law_refused",537,538,539,183,4,264,265,268,547,548,270,41,#v[447],266,267,
 #v[274,"law",550,551,552,196,1,271,272,273,553,554,275,42,#v[447],
 []]]]]]]]]]]]]]]]]]]]]]]]]]
abbrev BA:List Addr:=[2,3,23,24,35,41,42,44,45,56,57,68,69,80,81,92,93,101,102,106,107,113,114,120,121,127,128,134,135,141,142,146,147,151,152,153,159,160,164,165,169,170,174,175,181,182,186,187,193,194,195,201,202,208,209,215,216,222,223,229,230,236,237,241,242,255,256,262,263,269,270,274,275]
abbrev lhsB(p:Program)(k:PySem.W.Hook)(w:World):=(K1 treeTable p w 4544).map (Ci k)
abbrev rhsB(k:PySem.W.Hook)(w:World):=some (Cg k w)
def laidB:(seen lhsB&&seen rhsB)=true:=by k_qdec
def leftB(w:World):lhsB PySem.Challenge.pw_copykin_k52_no_frames (kN K52.Bz K52.BA (λ_=>by kernel_rfl) []) w=rhsB (kN K52.Bz K52.BA (λ_=>by kernel_rfl) []) w:=by
 have _:=laidB;rw[PySem.W.Fast.te4770895706157109841]
 kernel_rfl
end K52
namespace L2
noncomputable abbrev Key:=Sum Int Str
abbrev vB:Key->Value->Bool
 |.inl k,v=>Value.isInt k v
 |.inr x,v=>Value.isStrOf x v
abbrev keyH(w:World):Key->Int
 |.inl k=>hashInt k
 |.inr x=>hashStr w x
def fm:∀{k:Key}{v:Value},vB k v=true->(∃i t,k=wx i/\v=Cc i t)\/(∃x t,k=gk x/\v=k8 x t)
 |.inl i,v,h=>by obtain⟨t,e⟩:=Value.isInt_shape (k:=i) (v:=v) h;exact .inl (i,t,rfl,e,)
 |.inr x,v,h=>by obtain⟨t,e⟩:=kE (x:=x) (v:=v) h;exact .inr (x,t,rfl,e,)
def GC(i:Int)(t:Tok):vB (.inl i) (.int i t)=true:=by simp[vB,Value.isInt]
def GB(x:Str)(t:Tok):vB (.inr x) (.str x t)=true:=by simp[vB,Value.isStrOf]
def key_ll(a b:Int):decide ((wx a:Key)=wx b)=(a==b):=by
 by_cases e:a=b;·subst e;simp
 .have h:¬(wx a:Key)=wx b:=λq=>e (wx.inj q);rw[decide_eq_false h];exact(beq_eq_false_iff_ne.mpr e).symm
def key_rr(a b:Str):decide ((gk a:Key)=gk b)=decide (a=b):=by
 by_cases e:a=b;·subst e;simp
 .have h:¬(gk a:Key)=gk b:=λq=>e (uM q);rw[decide_eq_false h,decide_eq_false e]
def key_lr(a:Int)(b:Str):decide ((wx a:Key)=gk b)=false:=decide_eq_false (λq=>nomatch q)
def key_rl(a:Str)(b:Int):decide ((gk a:Key)=wx b)=false:=decide_eq_false (λq=>nomatch q)
abbrev bH(prog:Program)(w:World):PySem.KeyKind prog w Key where
 is:=vB
 hash:=keyH w
 inj:=λv a b f d=>by
  rcases fm f with⟨i,t,rfl,rfl⟩ |⟨x,t,rfl,rfl⟩
  .rcases fm d with⟨j,u,rfl,e⟩ |⟨y,u,rfl,e⟩;·injection e with e1 _;rw[e1]
   .exact nomatch e
  .rcases fm d with⟨j,u,rfl,e⟩ |⟨y,u,rfl,e⟩;·exact nomatch e
   .injection e with e1 _;rw[e1]
 byValue:=λk v h=>by rcases fm h with⟨i,t,rfl,rfl⟩ |⟨x,t,rfl,rfl⟩<;>rfl
 pyHash:=λc h=>by
  rcases fm c with⟨i,t,rfl,rfl⟩ |⟨x,t,rfl,rfl⟩;·exact wpAny_pyHash_int h
  .exact wpAny_pyHash_str h
 eqBool:=λg c h=>by
  rcases fm g with⟨i,t,rfl,rfl⟩ |⟨x,t,rfl,rfl⟩
  .rcases fm c with⟨j,u,rfl,rfl⟩ |⟨y,u,rfl,rfl⟩;·rw[key_ll]at h;exact wpAny_eqBool_int h
   .rw[key_lr]at h;exact Ce i t y u _ _ _ _ h
  .rcases fm c with⟨j,u,rfl,rfl⟩ |⟨y,u,rfl,rfl⟩;·rw[key_rl]at h;exact Cd x t j u _ _ _ _ h
   .rw[key_rr]at h;exact wpAny_eqBool_str h
 «strs»:=λk x t v h=>by
  rcases fm h with⟨i,u,rfl,e⟩ |⟨y,u,rfl,e⟩;·exact nomatch e
  .injection e with e1 _
   subst e1;cases v<;>rfl
theorem p9(prog:Program)(w:World)(k:Key)(v:Value):(bH prog w).is k v=vB k v:=rfl
def Bj(prog:Program)(w:World)(i:Int)(t:Tok):(bH prog w).is (.inl i) (.int i t)=true:=GC i t
def tq(prog:Program)(w:World)(x:Str)(t:Tok):(bH prog w).is (.inr x) (.str x t)=true:=GB x t
inductive V where
 |non|bl (b:Bool) |int (i:Int) |str (x:Str) |byt (b:Array UInt8) |flt (b:UInt64) |ref (a:Addr) |ty (n:String)
 deriving DecidableEq
abbrev RelV:V->Value->Prop
 |.non,u=>u=cf
 |.bl b,u=>u=sN b
 |.int i,u=>∃t,u=Cc i t
 |.str x,u=>∃t,u=k8 x t
 |.byt b,u=>∃t,u=Value.bytes b t
 |.flt b,u=>∃t,u=Value.float b t
 |.ref a,u=>u=bo a
 |.ty n,u=>u=dD n
noncomputable abbrev bZ:List V->List Value->Prop:=Paired RelV
theorem bZ.length{xs:List V}(r:bZ xs us):xs.length=us.length:=fg r
theorem bZ.get:∀{xs:List V}{us:List Value}{i:Nat}{x:V},bZ xs us->xs[i]?<*x->∃u,us[i]?<*u/\RelV x u
 |_,_,_,_,.nil,e=>by simp at e
 |_,_,0,_,.cons r _,e=>by simp at e;subst e;exact(_,rfl,r,)
 |_,_,i+1,x,.cons _ t,e=>by obtain⟨u,a,b⟩:=bZ.get (i:=i) (x:=x) t ↥e;exact(u,↥a,b,)
theorem bZ.append:∀{xs ys:List V}{us ws:List Value},bZ xs us->bZ ys ws->bZ (xs++ys) (us++ws)
 |_,_,_,_,.nil,s=>s
 |_,_,_,_,.cons r t,s=>.cons r (bZ.append t s)
theorem bZ.take:∀{xs:List V}{us:List Value}(n:Nat),bZ xs us->bZ (xs.take n) (us.take n)
 |_,_,0,_=>.nil
 |_,_,_+1,.nil=>.nil
 |_,_,n+1,.cons r t=>.cons r (bZ.take n t)
theorem bZ.drop:∀{xs:List V}{us:List Value}(n:Nat),bZ xs us->bZ (xs.drop n) (us.drop n)
 |_,_,0,r=>r
 |_,_,_+1,.nil=>.nil
 |_,_,n+1,.cons _ t=>bZ.drop n t
abbrev oz:Option V->Option Value->Prop
 |some v,some u=>RelV v u
 |none,none=>True
 |_,_=>False
abbrev KV{κ:Type}:List (κ×V)->List (κ×Value)->Prop:=Paired λ(p:κ×V)(q:κ×Value)=>p.1=q.1/\RelV p.2 q.2
abbrev kV:Key->V
 |.inl i=>.int i
 |.inr x=>.str x
inductive HO where
 |lst (xs:List V)
 |tup (xs:List V)
 |dK (kvs:List (Key×V)) |dT (kvs:List (List Key×V))
 |set (S:Int->Bool) (n:Nat)
 |ins (C dx:Addr) (fs:List (Str×V))
 |own (x:Addr)
 |xd (fs:List (Str×V))
 |met (f x:Addr)
 |rng (lo hi:Int)
 |frz (o:Obj) (u:HO)
 |tbl (ps:Array Value)
 |ext (φ:Heap->Prop)
noncomputable abbrev Hp:=Addr->Option HO
abbrev upd(H:Hp)(a:Addr)(o:HO):Hp:=λb=>if b=a then some o else H b
def ay{H:Hp}{o:HO}:upd H a o a<*o:=by unfold upd;rw[if_pos rfl]
def aQ{H:Hp}{o:HO}(h:b≠a):upd H a o b=H b:=by unfold upd;rw[if_neg h]
def gv{H:Hp}{o u:HO}(h:H a<*o)(h':H b<*u)(d:o≠u):a≠b:=by intro e;subst e;rw[h]at h';exact d (bC h')
def bt{H:Hp}{o:HO}(h:H a<*o)(h':H b=none):a≠b:=by intro e;subst e;rw[h]at h';cases h'
section
variable(P:Program)(w:World)
abbrev cX(H:Hp)(h:Heap)(a:Addr):HO->Prop
 |.lst xs=>xs.length<=sizeLine/\∃(its:List Value)(n:Nat),bZ xs its/\h.get? a<*{cls:=.type "list",data:=.seq its.toArray n}
 |.tup xs=>xs.length<=sizeLine/\∃its:List Value,bZ xs its/\IsTup h a its.toArray
 |.dK kvs=>kvs.length<=sizeLine/\(a==dA)=false/\∃vs,KV kvs vs/\h.DictOf (bH P w) a vs
 |.dT kvs=>kvs.length<=sizeLine/\(a==dA)=false/\∃xs:List (List Key×Addr×Value),
   Paired (λ(p:List Key×V)(q:List Key×Addr×Value)=>p.1=q.1/\H q.2.1<*(.tup (p.1.map kV))/\RelV p.2 q.2.2) kvs xs/\
   ∃o es ep,h.get? a<*o/\o.ExactDict/\o.data=.dict es ep/\es.toList=xs.map (entryOfKey (gV (bH P w)))/\(xs.map (·.1)).Nodup
 |.set S n=>h.SetOf (intKind P w) a S n
 |.ins C dx fs=>H dx<*(.own a)/\fs.length<=1000/\dx≠a/\h.get? a<*(wy C dx)/\
   ∃mA,h.Ns1 dx mA/\(∀f,oz (fs.lookup f) (mA f))/\kM mA (fs.map (·.1))
 |.own _=>∃o,h.get? a<*o
 |.xd fs=>∃mA,h.Ns1 a mA/\∀f,oz (fs.lookup f) (mA f)
 |.rng lo hi=>∃t u v,h.get? a<*{cls:=.type "range",data:=.fields #[.int lo t,.int hi u,.int 1 v]}
 |.frz o u=>h.get? a<*o/\cX H h a u
 |.tbl ps=>h.get? a<*{cls:=.none,data:=.fields ps}
 |.met f x=>h.get? a<*(sO (.ref f) (.ref x))
 |.ext φ=>φ h/\(∃o,h.get? a<*o)/\∀h1 h2:Heap,φ h1->(∀o,h1.get? a<*o->h2.get? a<*o)->φ h2
def HOk(H:Hp)(h:Heap):Prop:=∀a o,H a<*o->cX P w H h a o
end
section
variable {H H':Hp}{a:Addr}{o:HO}
theorem cX.lt(x:cX P w H h a o):a<h.objs.size:=by
 cases o with
 |lst xs=>obtain⟨_,_,_,_,e⟩:=x;exact aD e
 |tup xs=>obtain⟨_,_,_,p⟩:=x;exact p.lt
 |dK kvs=>obtain⟨_,_,_,_,o,_,_,e,_⟩:=x;exact aD e
 |dT kvs=>obtain⟨_,_,_,_,o,_,_,e,_⟩:=x;exact aD e
 |set S n=>obtain⟨o,_,_,_,e,_⟩:=x;exact aD e
 |ins C dx fs=>obtain⟨_,_,_,e,_⟩:=x;exact aD e
 |own y=>obtain⟨_,e⟩:=x;exact aD e
 |xd fs=>obtain⟨_,⟨_,_,_,e,_⟩,_⟩:=x;exact aD e
 |rng lo hi=>obtain⟨_,_,_,e⟩:=x;exact aD e
 |frz ob u=>obtain⟨e,_⟩:=x;exact aD e
 |tbl ps=>exact aD (show h.get? a<*_ from x)
 |met f y=>exact aD (show h.get? a<*_ from x)
 |ext φ=>obtain⟨_,⟨_,e⟩,_⟩:=x;exact aD e
theorem Paired.nY{e g:Type}{F G:e->g->Prop}:∀{c:List e}{d:List g},Paired F c d->(∀a b,F a b->G a b)->Paired G c d
 |_,_,.nil,_=>.nil
 |_,_,.cons r t,f=>.cons (f _ _ r) (Paired.nY t f)
def cX.pW(x:cX P w H h a o)(k:∀b u,(b=a\/H b<*(.own a))->h.get? b<*u->h'.get? b<*u)
  (D:∀b,H b<*(.own a)->H' b<*(.own a))(E:∀b xs,H b<*(.tup xs)->H' b<*(.tup xs)):cX P w H' h' a o:=by
 induction o with
 |lst xs=>obtain⟨z,l,n,r,e⟩:=x;exact(z,l,n,r,k _ _ (.inl rfl) e,)
 |tup xs=>obtain⟨z,l,r,g,e,c⟩:=x;exact(z,l,r,g,k _ _ (.inl rfl) e,c,)
 |dK kvs=>obtain⟨z,y,F,r,g,j,i,e,c⟩:=x;exact(z,y,F,r,g,j,i,k _ _ (.inl rfl) e,c,)
 |dT kvs=>obtain⟨z,y,xs,r,g,j,i,e,c⟩:=x;exact(z,y,xs,Paired.nY r λp q z=>(z.1,E _ _ z.2.1,z.2.2,),g,j,i,k _ _ (.inl rfl) e,c,)
 |set S n=>obtain⟨g,j,i,t,e,c⟩:=x;exact(g,j,i,t,k _ _ (.inl rfl) e,c,)
 |ins C dx fs=>obtain⟨d,z,ne,e,m,⟨s,j,i,B,c⟩,r⟩:=x;exact(D _ d,z,ne,k _ _ (.inl rfl) e,m,(s,j,i,k _ _ (.inr d) B,c,),r,)
 |own y=>obtain⟨g,e⟩:=x;exact(g,k _ _ (.inl rfl) e,)
 |xd fs=>obtain⟨m,⟨s,j,i,e,c⟩,r⟩:=x;exact(m,(s,j,i,k _ _ (.inl rfl) e,c,),r,)
 |rng lo hi=>obtain⟨t,u,v,e⟩:=x;exact(t,u,v,k _ _ (.inl rfl) e,)
 |frz g u ih=>obtain⟨e,q⟩:=x;exact(k _ _ (.inl rfl) e,ih q,)
 |tbl ps=>have e:h.get? a<*{cls:=.none,data:=.fields ps}:=x;show h'.get? a<*{cls:=.none,data:=.fields ps};exact k a _ (.inl rfl) e
 |met f y=>have e:h.get? a<*(sO (.ref f) (.ref y)):=x;show h'.get? a<*(sO (.ref f) (.ref y));exact k a _ (.inl rfl) e
 |ext φ=>obtain⟨p,⟨o,e⟩,A⟩:=x;exact(A _ _ p λo q=>k _ _ (.inl rfl) q,(o,k _ _ (.inl rfl) e,),A,)
theorem HOk.lt(x:HOk P w H h)(e:H a<*o):a<h.objs.size:=(x a o e).lt
def HOk.fresh(x:HOk P w H h)(e:h.objs.size<=a):H a=none:=by
 cases q:H a with
 |none=>rfl
 |some u=>exact absurd (bj (x.lt q) e) (eN _)
def HOk.kept(x:HOk P w H h)(k:∀b u,h.get? b<*u->h'.get? b<*u):HOk P w H h':=λa o e=>
 (x a o e).pW (λb u _ q=>k b u q) (λ_ q=>q) λ_ _ q=>q
def HOk.laid(x:HOk P w H h)(k:∀b u,h.get? b<*u->h'.get? b<*u)(f:h.objs.size<=a)(new:cX P w (upd H a o) h' a o):HOk P w (upd H a o) h':=λb u e=>by
 have d:=x.fresh f;by_cases hb:b=a;·subst hb;rw[ay]at e;cases e;exact new
 .rw[aQ hb]at e;exact(x b u e).pW (λc v _ q=>k c v q) (λc q=>by rw[aQ (bt q d)];exact q) λc g q=>by rw[aQ (bt q d)];exact q
end
def Rd(H:Hp)(a:Addr)(u:HO):Prop:=H a<*u\/∃o,H a<*(.frz o u)
def Rd.ok{H:Hp}{u:HO}(r:Rd H a u)(x:HOk P w H h):cX P w H h a u:=by
 rcases r with r|⟨o,r⟩;·exact x a u r
 .obtain⟨_,q⟩:=x a _ r;exact q
abbrev Mut:Option HO->Prop
 |some (.lst _)=>True
 |some (.dK _)=>True
 |some (.dT _)=>True
 |some (.set _ _)=>True
 |some (.ins _ _ _)=>True
 |some (.ext _)=>True
 |_=>False
section
variable {H:Hp}{x e:Addr}{o':HO}
def HOk.write(ok:HOk P w H h)(a:Mut (H x))(f:e=x\/H e<*(.own x))(k:∀b u,b≠e->h.get? b<*u->h'.get? b<*u)(j:∃u,h'.get? e<*u)
  (new:cX P w (upd H x o') h' x o'):HOk P w (upd H x o') h':=λb u q=>by
 have g:∀c y,H c<*(.own y)->c≠x:=λc y r z=>by subst z;rw[r]at a;exact a
 have m:∀c d,H c<*(.tup d)->c≠x:=λc d r z=>by subst z;rw[r]at a;exact a
 by_cases hb:b=x;·subst hb;rw[ay]at q;cases q;exact new
 .rw[aQ hb]at q;by_cases hbe:b=e
  .have i:H b<*(.own x):=by
    rcases f with z|z;·exact absurd (hbe.trans z) hb
    .rw[hbe];exact z
   rw[q]at i;cases i;obtain⟨v,l⟩:=j;exact⟨v,by rw[hbe];exact l⟩
  .refine(ok b u q).pW (λc v hc r=>k c v ?_ r) (λc r=>by rw[aQ (g c b r)];exact r) λc d r=>by rw[aQ (m c d r)];exact r
   rcases hc with rfl|hc;·exact hbe
   .rintro rfl;rcases f with z|z;·exact g c b hc z
    .rw[hc]at z;cases z;exact hb rfl
end
structure Un(fs ex:List Addr)(H H':Hp)(h h':Heap):Prop where
 keep:∀b o,h.get? b<*o->H b=none->b∉fs->b∉ex->h'.get? b<*o
 slot:∀b o,h.get? b<*o->H b=none->b∈fs->b∉ex->∃sl,h'.get? b<*{o with slots:=sl}
 free:∀b o,h.get? b<*o->H b=none->b∉ex->H' b=none
 there:∀b o,h.get? b<*o->b∉ex->∃o',h'.get? b<*o'
 tups:∀b xs,H b<*(.tup xs)->H' b<*(.tup xs)
 frzs:∀b o u,H b<*(.frz o u)->H' b<*(.frz o u)
 tbls:∀b ps,H b<*(.tbl ps)->∃more,H' b<*(.tbl (ps++more))
section
variable {fs fs' ex ex':List Addr}{H H1 H2:Hp}{h1 h2:Heap}{a x e:Addr}{o:HO}
def Un.any(u:Un fs ex H H1 h h1){ob:Obj}(q:h.get? b<*ob)(n:H b=none)(a:b∉ex):∃sl,h1.get? b<*{ob with slots:=sl}:=by
 by_cases hb:b∈fs;·exact u.slot b ob q n hb a
 .exact(ob.slots,u.keep b ob q n hb a,)
def Un.kept(k:∀b u,h.get? b<*u->h'.get? b<*u):Un fs ex H H h h':=
 ⟨λb a q _ _ _=>k b a q,λb a q _ _ _=>(a.slots,k b a q,),λ_ _ _ n _=>n,λb a q _=>(a,k b a q,),λ_ _ q=>q,λ_ _ _ q=>q,λ_ c q=>⟨#[],by rw[q];simp⟩⟩
def Un.refl:Un fs ex H H h h:=Un.kept λ_ _ q=>q
def Un.laid(k:∀b u,h.get? b<*u->h'.get? b<*u)(d:h.objs.size<=a)(c:H a=none):Un fs ex H (upd H a o) h h' where
 keep:=λb u q _ _ _=>k b u q
 slot:=λb u q _ _ _=>(u.slots,k b u q,)
 free:=λb u q n _=>by rw[aQ (aK (bj (aD q) d))];exact n
 there:=λb u q _=>(u,k b u q,)
 tups:=λb e q=>by rw[aQ (bt q c)];exact q
 frzs:=λb u e q=>by rw[aQ (bt q c)];exact q
 tbls:=λb f q=>⟨#[],by rw[aQ (bt q c),q];simp⟩
def Un.write(a:Mut (H x))(g:e=x\/H e<*(.own x))(k:∀b u,b≠e->h.get? b<*u->h'.get? b<*u)(i:∃u,h'.get? e<*u):Un fs ex H (upd H x o) h h':=by
 have f:∀b,H b=none->b≠x:=λb n z=>by subst z;rw[n]at a;exact a
 have d:∀b,H b=none->b≠e:=λb n z=>by
  subst z;rcases g with r|r;·exact f b n r
  .rw[n]at r;cases r
 have c:∀b u,H b<*u->¬Mut (some u)->b≠x:=λb u q j z=>by subst z;rw[q]at a;exact j a
 refine⟨λb u q n _ _=>k b u (d b n) q,λb u q n _ _=>(u.slots,k b u (d b n) q,),λb u q n _=>by rw[aQ (f b n)];exact n,λb u q _=>?_,
  λb l q=>by rw[aQ (c b _ q λz=>z)];exact q,λb u l q=>by rw[aQ (c b _ q λz=>z)];exact q,λb m q=>⟨#[],by rw[aQ (c b _ q λz=>z),q];simp⟩⟩
 by_cases hbe:b=e;·subst hbe;exact i
 .exact(u,k b u hbe q,)
end
abbrev trk(h:Heap)(H:Hp):List Addr:=(bg h.objs.size).filter λa=>(H a).isSome
abbrev Bx(h:Heap)(H:Hp):Heap:=PySem.W.hideAll h (trk h H)
def GG(h:Heap)(H:Hp):(Bx h H).objs.size=h.objs.size:=PySem.W.hideAll_size _ _
def vE{H:Hp}{o:Obj}(e:h.get? b<*o)(n:H b=none):(Bx h H).get? b<*o:=
 PySem.W.hideAll_get _ e λa=>by have q:(H b).isSome=true:=(yx.mp a).2;rw[n]at q;simp at q
def of_hidT{H:Hp}{o:Obj}(e:(Bx h H).get? b<*o):h.get? b<*o/\H b=none:=by
 have a:h.get? b<*o:=PySem.W.of_hideAll (trk h H) e;refine(a,?_,);cases q:H b with
 |none=>rfl
 |some x=>have c:b∈trk h H:=yx.mpr ⟨d9.mpr (aD a),by simp[q]⟩;have z:(Bx h H).get? b=none:=PySem.W.hideAll_none (trk h H) c;rw[z]at e;cases e
structure Mod(K:ai)(mg:Str->Option Value)(base:Heap):Prop where
 kin:K.In base
 glob:base.Ns bR mg
 blt:∃mb,base.Ns nM mb/\∀x:Str,x≠"__name__"->mb x=eY x
 nolimit:base.NoLimit
structure Cx where
 prog:Program
 w:World
 K:ai
 mg:Str->Option Value
 base:Heap
 A:Around
 N:List Str
 s₀:Shared
 H₀:Hp
 env:Env
 outer:List Env
 stack:List Env
 ex:List Addr
 fn:Str->Bool
 calm:Bool
 pn:List (Addr×Obj)
 xe:'I'
abbrev frs(l:List Env):List Addr:=l.filterMap (·.frame)
noncomputable abbrev Cx.fs(X:Cx):List Addr:=frs X.outer
def Vis(sc:Scope)(x:Str):Prop:=sc.names.lookup x<*.local\/sc.names.lookup x<*.cell\/sc.names.lookup x<*.free
def Loc(sc:Scope)(x:Str):Prop:=sc.names.lookup x<*.local\/sc.names.lookup x<*.cell
def Look(env:Env)(h:Heap)(m:Str->Option Value)(x:Str)(u:Value):Prop:=
 (env.kindOf x<*.local/\m x<*u)\/((env.kindOf x<*.cell\/env.kindOf x<*.free)/\∃c,env.cells.lookup x<*c/\h.IsCell c (some u))
structure Cx.Ok(X:Cx):Prop where
 mod:Mod X.K X.mg X.base
 kind:X.env.scope.kind=.function
 glob:X.env.globals=bR
 blt:X.env.builtins=nM
 above:X.s₀.heap.objs.size<=X.env.locals
 inj:∀x y c,X.env.cells.lookup x<*c->X.env.cells.lookup y<*c->x=y
 has:∀x,(X.env.kindOf x<*.cell\/X.env.kindOf x<*.free)->∃c,X.env.cells.lookup x<*c
 cab:∀x c,X.fn x=true->X.env.cells.lookup x<*c->X.s₀.heap.objs.size<=c
 hd:X.calm=true->X.A.handled=none
 frames:X.A.frames<*X.stack
 stk:X.stack=X.outer\/(X.stack=X.env::X.outer/\X.env.frame<*X.env.locals)
 exf:∀b∈X.ex,b≠X.env.locals/\∀x c,X.env.cells.lookup x<*c->c≠b
 bs:∀b o,X.base.get? b<*o->X.s₀.heap.get? b<*o/\X.H₀ b=none
 bsz:X.base.objs.size<=X.s₀.heap.objs.size
 noex:∀b o,X.base.get? b<*o->b∉X.ex
 exfs:∀b∈X.ex,b∉X.fs
 vK:X.s₀.heap.FunFrames X.base X.outer
 frf:∀b∈X.fs,X.H₀ b=none
structure Inv(X:Cx)(pins:List (Addr×Obj))(σ:List (Option V))(H:Hp)(s:Shared):Prop where
 ok:X.Ok
 os:s.os=X.s₀.os
 bare:o7 s.gens
 base:Un X.fs X.ex X.H₀ H X.s₀.heap s.heap
 loc:∃m,s.heap.Ns X.env.locals m/\∀(i:Nat)(x:Str)(v:V),X.N[i]?<*x->σ[i]?<*(some v)->Vis X.env.scope x->∃u,RelV v u/\Look X.env s.heap m x u
 cell:∀x c,X.env.cells.lookup x<*c->∃v,s.heap.IsCell c v
 free:H X.env.locals=none
 freeC:∀x c,X.env.cells.lookup x<*c->H c=none
 pin:∀p∈X.pn++pins,s.heap.get? p.1<*p.2/\H p.1=none/\p.1≠X.env.locals/\p.1∉X.fs/\∀v,p.2.data≠.cell v
 hok:HOk X.prog X.w H s.heap
 len:σ.length=X.N.length
section
variable {X:Cx}{pins:List (Addr×Obj)}{σ:List (Option V)}{H H':Hp}{s:Shared}
def Cx.Ok.nofr(ok:X.Ok){o:Obj}(e:X.base.get? b<*o):b∉X.fs:=λa=>by have :=(ok.vK.mem a).1;rw[e]at this;cases this
theorem Inv.bs(I:'A'):∀b o,X.base.get? b<*o->s.heap.get? b<*o/\H b=none:=λb o e=>
 (I.base.keep b o (I.ok.bs b o e).1 (I.ok.bs b o e).2 (I.ok.nofr e) (I.ok.noex b o e),I.base.free b o (I.ok.bs b o e).1 (I.ok.bs b o e).2 (I.ok.noex b o e),)
def Inv.bk(I:'A'):∀b o,X.base.get? b<*o->s.heap.get? b<*o:=λb o e=>(I.bs b o e).1
theorem Inv.mod(I:'A'):Mod X.K X.mg X.base:=I.ok.mod
def Inv.kIn(I:'A'):X.K.In s.heap:=I.ok.mod.kin.keeps I.bk
theorem Inv.lt(I:'A'):X.env.locals<⇑s:=let⟨_,hn,_⟩:=I.loc;hn.lt
def Inv.sz(I:'A'):X.s₀.heap.objs.size<=⇑s:=aR I.ok.above (iG I.lt)
def Inv.nofs(I:'A')(h:⇑s<=a):a∉X.fs:=λb=>by obtain⟨_,o,c,_⟩:=I.ok.vK.mem b;exact absurd (bj (aD c) (aR I.sz h)) (eN _)
def Inv.cne(I:'A'):∀x c,X.env.cells.lookup x<*c->c≠X.env.locals:=λx c e z=>by obtain⟨v,o,b,a⟩:=I.cell x c e;obtain⟨m,⟨i,h,g,f,d,_⟩,_⟩:=I.loc;rw[z,f]at b;cases b;rw[d]at a;cases a
theorem Inv.vK(I:'A'):s.heap.FunFrames X.base X.outer:=by
 have all:∀(l:List Env),(∀b∈frs l,b∈X.fs)->X.s₀.heap.FunFrames X.base l->s.heap.FunFrames X.base l:=by
  intro l
  induction l with
  |nil=>intro _ _;trivial
  |cons env r ih=>intro f i;obtain⟨h,⟨L,o,d,j,k,g⟩,m⟩:=i;have a:L∈X.fs:=f L (by unfold frs;rw[rR,d];exact aw);obtain⟨n,e⟩:=I.base.slot L o k (I.ok.frf L a) a λz=>I.ok.exfs L z a;exact⟨h,(L,_,d,j,e,g,),ih (λb c=>f b (by unfold frs;rw[rR,d];exact aB _ c)) m⟩
 exact all X.outer (λ_ c=>c) I.ok.vK
theorem Inv.stack(I:'A'):s.heap.FunFrames X.base X.stack:=by
 rcases I.ok.stk with e|⟨e,a⟩;·rw[e];exact I.vK
 .rw[e];obtain⟨m,b,_⟩:=I.loc;refine .cons (by rw[I.ok.kind];decide) a b ?_ I.vK;exact qt (aR I.ok.bsz I.ok.above)
def Inv.CK(I:'A'):∀b∈frs X.stack,b∈X.env.locals::X.fs:=λb a=>by
 rcases I.ok.stk with e|⟨e,c⟩;·rw[e]at a;exact aB _ a
 .rw[e]at a;unfold frs at a;rw[rR,c]at a;exact a
def Inv.yH(I:'A'):∀b∈frs X.stack,H b=none:=λb hb=>by
 rcases aG.mp (I.CK b hb)with e|hb;·rw[e];exact I.free
 .obtain⟨_,o,a,_⟩:=I.ok.vK.mem hb;exact I.base.free b o a (I.ok.frf b hb) λz=>I.ok.exfs b z hb
def Inv.step{g':Array uq}{d':Drawn}{ch:List Addr}(I:'A')
  (t:∀b∈ch,(b∈X.ex\/X.s₀.heap.objs.size<=b)/\b≠X.env.locals/\(∀x c,X.env.cells.lookup x<*c->c≠b)/\∀p∈X.pn++pins,p.1≠b)
  (B:∀b o,b≠X.env.locals->b∉X.fs->b∉ch->s.heap.get? b<*o->H b=none->h'.get? b<*o)
  (slot:∀b o,b≠X.env.locals->b∈X.fs->b∉ch->s.heap.get? b<*o->H b=none->∃sl,h'.get? b<*{o with slots:=sl}) (free:∀b o,b∉ch->s.heap.get? b<*o->H b=none->H' b=none)
  (T:∀b o,b∉ch->s.heap.get? b<*o->∃o',h'.get? b<*o')
  (U:∀b xs,H b<*(.tup xs)->H' b<*(.tup xs)) (J:∀b o u,H b<*(.frz o u)->H' b<*(.frz o u)) (S:∀b ps,H b<*(.tbl ps)->∃more,H' b<*(.tbl (ps++more)))
  (Q:∀m,s.heap.Ns X.env.locals m->h'.Ns X.env.locals m) (N:HOk X.prog X.w H' h') (K:o7 g'):
  Inv X pins σ H' {s with heap:=h',gens:=g',drawn:=d',toks:=t'}:=by
 have E:∀b o,X.s₀.heap.get? b<*o->b≠X.env.locals:=λb o e=>aK (bj (aD e) I.ok.above);have y:∀b o,X.s₀.heap.get? b<*o->b∉X.ex->b∉ch:=λb o e a g=>by
  rcases(t b g).1 with z|z;·exact a z
  .exact absurd (bj (aD e) z) (eN _)
 have C:∀x c,X.env.cells.lookup x<*c->∀v,s.heap.IsCell c v->h'.IsCell c v:=λx c e v ⟨o,h,A⟩=>by
  have w:c∉ch:=λz=>(t c z).2.2.1 x c e rfl;by_cases hc:c∈X.fs;·obtain⟨sl,q⟩:=slot c o (I.cne x c e) hc w h (I.freeC x c e);exact(_,q,A,)
  .exact(o,B c o (I.cne x c e) hc w h (I.freeC x c e),A,)
 refine(I.ok,I.os,K,(λb o e n g a=>?_,λb o e n g a=>?_,λb o e n a=>?_,λb o e a=>?_,λb xs e=>U b xs (I.base.tups b xs e),λb o xs e=>J b o xs (I.base.frzs b o xs e),λb ps e=>?_,),?_,λx c e=>?_,?_,λx c e=>?_,λp D=>?_,N,I.len,);·exact B b o (E b o e) g (y b o e a) (I.base.keep b o e n g a) (I.base.free b o e n a)
 .obtain⟨sl,f⟩:=I.base.slot b o e n g a;obtain⟨R,j⟩:=slot b _ (E b o e) g (y b o e a) f (I.base.free b o e n a);exact(R,j,)
 .obtain⟨o',f⟩:=I.base.there b o e a;exact free b o' (y b o e a) f (I.base.free b o e n a)
 .obtain⟨o',f⟩:=I.base.there b o e a;exact T b o' (y b o e a) f
 .obtain⟨O,f⟩:=I.base.tbls b ps e;obtain⟨P,j⟩:=S b _ f;exact⟨O++P,by rw[j,Array.append_assoc]⟩
 .obtain⟨m,M,L⟩:=I.loc;refine(m,Q m M,λi x v f j G=>?_,);obtain⟨u,r,l⟩:=L i x v f j G;refine(u,r,?_,);rcases l with l|⟨k,c,e,z⟩;·exact .inl l
  .exact .inr (k,c,e,C x c e _ z,)
 .obtain⟨v,z⟩:=I.cell x c e;exact(v,C x c e v z,)
 .obtain⟨m,⟨o,_,_,h,_⟩,_⟩:=I.loc;exact free _ o (λz=>(t _ z).2.1 rfl) h I.free
 .obtain⟨v,o,h,A⟩:=I.cell x c e;exact free c o (λz=>(t c z).2.2.1 x c e rfl) h (I.freeC x c e)
 .obtain⟨e,n,ne,F,d⟩:=I.pin p D;have w:p.1∉ch:=λz=>(t p.1 z).2.2.2 p D rfl;exact(B p.1 p.2 ne F w e n,free p.1 p.2 w e n,ne,F,d,)
def Inv.un(I:'A')(u:Un X.fs [] H H' s.heap h')(j:HOk X.prog X.w H' h'):Inv X pins σ H' {s with heap:=h',toks:=t'}:=by obtain⟨m,⟨o,p,l,c,r⟩,_⟩:=id I.loc;obtain⟨v,h⟩:=u.any c I.free 'F';exact I.step (g':=s.gens) (d':=s.drawn) (ch:=[]) (λ_ z=>nomatch z) (λb o _ a _ e n=>u.keep b o e n a 'F') (λb o _ a _ e n=>u.slot b o e n a 'F') (λb o _ e n=>u.free b o e n 'F') (λb o _ e=>u.there b o e 'F') u.tups u.frzs u.tbls (λq i=>by obtain⟨t,g,f,d,k⟩:=i;rw[c]at d;cases d;exact(_,g,f,h,k,)) j I.bare
def Inv.call{g':Array uq}{d':Drawn}{ch:List Addr}(I:'A')(u:Un (frs X.stack) ch H H' s.heap h')(t:HOk X.prog X.w H' h')(l:o7 g')
  (f:∀b∈ch,(b∈X.ex\/X.s₀.heap.objs.size<=b)/\b≠X.env.locals/\(∀x c,X.env.cells.lookup x<*c->c≠b)/\∀p∈X.pn++pins,p.1≠b):
  Inv X pins σ H' {s with heap:=h',gens:=g',drawn:=d',toks:=t'}:=by
 obtain⟨m,⟨o,y,w,g,r⟩,_⟩:=id I.loc;obtain⟨C,d⟩:=u.any g I.free λz=>(f _ z).2.1 rfl;exact I.step (ch:=ch) f (λb o d k a e n=>u.keep b o e n (λz=>(aG.mp (I.CK b z)).elim d k) a) (λb o _ _ a e n=>u.any e n a) (λb o a e n=>u.free b o e n a) (λb o a e=>u.there b o e a) u.tups u.frzs u.tbls (λA q=>by obtain⟨B,j,i,h,v⟩:=q;rw[g]at h;cases h;exact(_,j,i,d,v,)) t l
def Inv.turned(I:'A')(k:∀b o,b≠it->s.heap.get? b<*o->h'.get? b<*o)(y:H it=none)(d:it≠X.env.locals)
  (i:it∈X.ex\/X.s₀.heap.objs.size<=it)(j:∀x c,X.env.cells.lookup x<*c->c≠it)(l:∀p∈X.pn++pins,p.1≠it):Inv X pins σ H {s with heap:=h',toks:=t'}:=by
 have f:∀b u,H b<*u->b≠it:=λb u e z=>by rw[z,y]at e;cases e
 refine I.step (g':=s.gens) (d':=s.drawn) (ch:=[it]) (λb t=>?_) (λb o _ _ a e _=>k b o (λz=>a (by simp[z])) e) (λb o _ _ a e _=>⟨o.slots,k b o (λz=>a (by simp[z])) e⟩) (λ_ _ _ _ n=>n)
  (λb o a e=>⟨o,k b o (λz=>a (by simp[z])) e⟩) (λ_ _ e=>e) (λ_ _ _ e=>e) (λb B e=>⟨#[],by rw[e];simp⟩) (λm w=>?_) (λb u e=>?_) I.bare
 .have e:b=it:=by simpa using t
  subst e;exact(i,d,j,l,)
 .obtain⟨o,h,g,A,r⟩:=w;exact(o,h,g,k _ o (cU d) A,r,)
 .refine(I.hok b u e).pW (λc v a q=>k c v ?_ q) (λ_ q=>q) λ_ _ q=>q;rcases a with z|z;·rw[z];exact f b u e
  .exact f c _ z
def Inv.tok(I:'A')(t:Nat):Inv X pins σ H {s with toks:=t}:=I.un (h':=s.heap) (t':=t) Un.refl I.hok
theorem Inv.kept(I:'A')(k:∀b u,s.heap.get? b<*u->h'.get? b<*u):Inv X pins σ H {s with heap:=h',toks:=t'}:=I.un (Un.kept k) (I.hok.kept k)
theorem Inv.laid{o:HO}(I:'A')(k:∀b u,s.heap.get? b<*u->h'.get? b<*u)(c:⇑s<=a)(new:cX X.prog X.w (upd H a o) h' a o):
  Inv X pins σ (upd H a o) {s with heap:=h',toks:=t'}:=I.un (Un.laid k c (I.hok.fresh c)) (I.hok.laid k c new)
theorem Inv.write{x e:Addr}{o:HO}(I:'A')(d:Mut (H x))(a:e=x\/H e<*(.own x))(k:∀b u,b≠e->s.heap.get? b<*u->h'.get? b<*u)(c:∃u,h'.get? e<*u)
  (new:cX X.prog X.w (upd H x o) h' x o):Inv X pins σ (upd H x o) {s with heap:=h',toks:=t'}:=I.un (Un.write d a k c) (I.hok.write d a k c new)
def Inv.yX(I:'A')(h:∀p∈pins',s.heap.get? p.1<*p.2/\H p.1=none/\p.1≠X.env.locals/\p.1∉X.fs/\∀v,p.2.data≠.cell v):Inv X pins' σ H s:=
 (I.ok,I.os,I.bare,I.base,I.loc,I.cell,I.free,I.freeC,λp a=>(aH.mp a).elim (λz=>I.pin p (eS _ z)) (h p),I.hok,I.len,)
def vi(e:N.Nodup)(a:N[i]?<*x)(b:N[j]?<*x):i=j:=by obtain⟨f,c⟩:=bp.mp a;obtain⟨g,d⟩:=bp.mp b;exact(cJ e).mp (c.trans d.symm)
def FL{M:Model}{v:V}{Q:Unit->Shared->Prop}(I:'A')(S:X.N.Nodup)(hi:X.N[i]?<*x)(l:Loc X.env.scope x)(r:RelV v u)
  (h:∀s',Inv X pins (σ.set i (some v)) H s'->(∃a,cR a s.heap s'.heap/\(a=X.env.locals\/X.env.cells.lookup x<*a))->Q () s')(hf:X.fn x=true\/X.env.scope.names.lookup x<*.local:=by first |exact .inl rfl|exact .inr rfl|assumption):wpAny M A (storeName X.env x u) Q E s:=by
 obtain⟨a5,G,Y⟩:=id I.loc;have a1:(X.env.scope.kind== .class||(X.env.scope.kind== .module&&X.env.locals != X.env.globals))=false:=by rw[I.ok.kind];rfl
 have W:i<σ.length:=by rw[I.len];exact(bp.mp hi).1
 have cne:=I.cne;have a0:∀{a:Addr}{w:Heap},(∃o,s.heap.get? a<*o/\H a=none)->cR a s.heap w->HOk X.prog X.w H w:=λ{a w} ha f b ob e=>by
  obtain⟨_,_,U⟩:=ha;refine(I.hok b ob e).pW (λc C hc q=>(f.2 c ?_).trans q) (λ_ q=>q) λ_ _ q=>q;rintro rfl;rcases hc with rfl|hc;·rw[U]at e;cases e
  .rw[U]at hc;cases hc
 rcases l with hk|hk
 .refine wpAny_storeName_local hk G (λw a2 f=>?_) a1;obtain⟨oL,_,_,a3,_⟩:=id G;refine h _ (I.ok,I.os,I.bare,(λb o e n t l=>?_,λb o e n t l=>?_,I.base.free,λb o e l=>?_,I.base.tups,I.base.frzs,I.base.tbls,),(_,a2,λj y R g m D=>?_,),λy c e=>?_,I.free,I.freeC,λp J=>?_,a0 (oL,a3,I.free,) f,↥I.len,) (_,f,.inl rfl,);·exact(f.2 b (aK (bj (aD e) I.ok.above))).trans (I.base.keep b o e n t l)
  .obtain⟨O,g⟩:=I.base.slot b o e n t l;exact(O,(f.2 b (aK (bj (aD e) I.ok.above))).trans g,)
  .obtain⟨L,g⟩:=I.base.there b o e l;exact(L,(f.2 b (aK (bj (aD e) I.ok.above))).trans g,)
  .by_cases hj:j=i;·subst hj;rw[hi]at g;cases g;rw[FA W]at m;cases m;exact⟨u,r,.inl ⟨hk,'F'⟩⟩
   .rw[qr (cU hj)]at m;obtain⟨P,N,q⟩:=Y j y R g m D;refine(P,N,?_,);rcases q with⟨k,e⟩ |⟨k,c,e,z⟩;·refine .inl (k,?_,);have :y≠x:=λe=>hj (vi S g (e▸hi));simp[this,e]
    .exact .inr (k,c,e,z.sameBut f (cne y c e),)
  .obtain⟨C,z⟩:=I.cell y c e;exact(C,z.sameBut f (cne y c e),)
  .obtain⟨e,n,ne,K,d⟩:=I.pin p J;exact((f.2 p.1 ne).trans e,n,ne,K,d,)
 .have F:X.fn x=true:=by
   rcases hf with z|z;·exact z
   .rw[z]at hk;cases hk
  obtain⟨c,hc⟩:=I.ok.has x (.inl hk);obtain⟨C,z⟩:=I.cell x c hc;refine wpAny_storeName_cell I.ok.kind hk hc z (λw T f=>?_);obtain⟨oc,Z,a4⟩:=id z;refine h {s with heap:=w} (I.ok,I.os,I.bare,(λb o e n t l=>?_,λb o e n t l=>?_,I.base.free,λb o e l=>?_,I.base.tups,I.base.frzs,I.base.tbls,),(a5,G.sameBut f (cU (cne x c hc)),λj y R g m D=>?_,),λy B e=>?_,I.free,I.freeC,λp J=>?_,a0 (oc,Z,I.freeC x c hc,) f,↥I.len,) (c,f,.inr hc,);·exact(f.2 b (aK (bj (aD e) (I.ok.cab x c F hc)))).trans (I.base.keep b o e n t l)
  .obtain⟨O,g⟩:=I.base.slot b o e n t l;exact(O,(f.2 b (aK (bj (aD e) (I.ok.cab x c F hc)))).trans g,)
  .obtain⟨L,g⟩:=I.base.there b o e l;exact(L,(f.2 b (aK (bj (aD e) (I.ok.cab x c F hc)))).trans g,)
  .by_cases hj:j=i;·subst hj;rw[hi]at g;cases g;rw[FA W]at m;cases m;exact(u,r,.inr (.inl hk,c,hc,T,),)
   .rw[qr (cU hj)]at m;obtain⟨P,N,q⟩:=Y j y R g m D;refine(P,N,?_,);rcases q with q|⟨k,B,e,z'⟩;·exact .inl q
    .refine .inr (k,B,e,z'.sameBut f ?_,);rintro rfl;exact hj (vi S g (I.ok.inj _ _ _ e hc▸hi))
  .by_cases hcc:B=c;·subst hcc;exact(_,T,)
   .obtain⟨w2,z2⟩:=I.cell y B e;exact(w2,z2.sameBut f hcc,)
  .obtain⟨e,n,ne,K,d⟩:=I.pin p J;refine((f.2 p.1 ?_).trans e,n,ne,K,d,);intro q;rw[q,Z]at e;have q':oc=p.2:=bC e;exact d C (by rw[<-q'];exact a4)
def uX{M:Model}{v:V}{Q:Unit->Shared->Prop}(I:'A')(b:X.N.Nodup)(hi:X.N[i]?<*x)(d:Loc X.env.scope x)(r:RelV v u)
  (h:∀s',Inv X pins (σ.set i (some v)) H s'->Q () s')(c:X.fn x=true\/X.env.scope.names.lookup x<*.local:=by first |exact .inl rfl|exact .inr rfl|assumption):wpAny M A (storeName X.env x u) Q E s:=
 FL I b hi d r (λs' a _=>h s' a) c
def Inv.call'{ch:List Addr}(I:'A')(f:s'.os=s.os)(u:Un (frs X.stack) ch H H' s.heap s'.heap)(g:HOk X.prog X.w H' s'.heap)(d:o7 s'.gens)
  (a:∀b∈ch,(b∈X.ex\/X.s₀.heap.objs.size<=b)/\b≠X.env.locals/\(∀x c,X.env.cells.lookup x<*c->c≠b)/\∀p∈X.pn++pins,p.1≠b):Inv X pins σ H' s':=by
 obtain⟨i,g',d',t',h⟩:=s';have e:h=s.os:=f;subst e;exact I.call (g':=g') (t':=t') (d':=d') u g d a
end
noncomputable abbrev XK:=Value->Option Addr->Hp->Prop
noncomputable abbrev St:=List (Option V)
noncomputable abbrev VK:=V->Hp->Prop
noncomputable abbrev TE:=St->Hp->VK->Prop
noncomputable abbrev TT:=St->Hp->(Bool->Hp->Prop)->Prop
noncomputable abbrev TA:=St->Hp->(List V->Hp->Prop)->Prop
structure Ends where
 nx:St->Hp->Prop
 rt:VK
 bk:St->Hp->Prop:=λ_ _=>False
 ct:St->Hp->Prop:=λ_ _=>False
noncomputable abbrev TS:=Ends->St->Hp->Prop
def EP(X:Cx)(pins:List (Addr×Obj))(σ:St)(Q:VK)(u:Value)(s':Shared):Prop:=∃v H',Inv X pins σ H' s'/\RelV v u/\Q v H'
def TP(X:Cx)(pins:List (Addr×Obj))(σ:St)(Q:Bool->Hp->Prop)(b:Bool)(s':Shared):Prop:=∃H',Inv X pins σ H' s'/\Q b H'
def AP(X:Cx)(pins:List (Addr×Obj))(σ:St)(Q:List V->Hp->Prop)(us:List Value)(s':Shared):Prop:=∃vs H',Inv X pins σ H' s'/\bZ vs us/\Q vs H'
def SP(X:Cx)(pins:List (Addr×Obj))(D:Ends)(f:Flow)(s':Shared):Prop:=
 match f with
 |.next=>∃a H',Inv X pins a H' s'/\D.nx a H'
 |.brk=>∃a H',Inv X pins a H' s'/\D.bk a H'
 |.cont=>∃a H',Inv X pins a H' s'/\D.ct a H'
 |.ret u=>∃v a H',Inv X pins a H' s'/\RelV v u/\D.rt v H'
def PE(X:Cx)(e:Expr)(t:TE):Prop:=
 ∀(pins:List (Addr×Obj))(s:Shared)(σ:St)(H:Hp)(Q:VK),'A'->t σ H Q->'C' (eval e X.env) (EP X pins σ Q) X.xe s
def PT(X:Cx)(e:Expr)(t:TT):Prop:=
 ∀(pins:List (Addr×Obj))(s:Shared)(σ:St)(H:Hp)(Q:Bool->Hp->Prop),'A'->t σ H Q->'C' (isTrue e X.env (eval e X.env)) (TP X pins σ Q) X.xe s
def PW(X:Cx)(e:Expr)(t:TT):Prop:=
 ∀(a:Sem Value)(pins:List (Addr×Obj))(s:Shared)(σ:St)(H:Hp)(Q:Bool->Hp->Prop),'A'->t σ H Q->'C' (isTrue e X.env a) (TP X pins σ Q) X.xe s
def PW.pt{X:Cx}{t:TT}(h:PW X e t):PT X e t:=h _
def PA(X:Cx)(es:List Expr)(t:TA):Prop:=
 ∀(pos:Pos)(pins:List (Addr×Obj))(s:Shared)(σ:St)(H:Hp)(Q:List V->Hp->Prop),'A'->t σ H Q->'C' (spliced (backTo pos (bx es X.env))) (AP X pins σ Q) X.xe s
def PS(X:Cx)(st:Stmt)(t:TS):Prop:=
 ∀(pins:List (Addr×Obj))(s:Shared)(σ:St)(H:Hp)(D:Ends),'A'->t D σ H->'C' (exec st X.env) (SP X pins D) X.xe s
def PSs(X:Cx)(st:List Stmt)(t:TS):Prop:=
 ∀(pins:List (Addr×Obj))(s:Shared)(σ:St)(H:Hp)(D:Ends),'A'->t D σ H->'C' (execs st X.env) (SP X pins D) X.xe s
def thn{c:Type}{t:Sem c}{Q b:c->Shared->Prop}{M:Model}(h:wpAny M A t Q E s)(d:∀a s,Q a s->b a s):wpAny M A t b E s:=cE h d λ_ _ x=>x
section
variable {X:Cx}
def qA(i:Nat):TE:=λσ H Q=>∃v,σ[i]?<*(some v)/\Q v H
def tC(v:V):TE:=λ_ H Q=>Q v H
def Jj(f:X.N[i]?<*x)(o:Vis X.env.scope x)(a:(x==("__debug__":Str))=false:=by decide) (g:(x==("__classdict__":Str))=false:=by decide):PE X (.Name x pos) (qA i):=by
 intro p s q H Q I h;obtain⟨v,e,h⟩:=h;obtain⟨m,n,j⟩:=I.loc;obtain⟨u,r,l⟩:=j i x v f e o;have fin:EP X p q Q u s:=(v,H,I,r,h,);rcases l with⟨hk,k⟩ |⟨hk,c,b,d⟩;·exact wpAny_Name (wpAny_loadName_local I.ok.kind hk n k fin) a
 .rcases hk with hk|hk;·exact wpAny_Name (wpAny_loadName_cell I.ok.kind hk b d fin) a
  .exact wpAny_Name (wpAny_loadName_free I.ok.kind hk b d fin g) a
def yZ{i j pos}:PE X (.Constant (.int i) j pos) (tC (.int i)):=λ_ _ _ H _ I h=>wpAny_Constant_int (.int i,H,I.tok _,(_,rfl,),h,)
def pe_bl{b j pos}:PE X (.Constant (.bool b) j pos) (tC (.bl b)):=λ_ _ _ H _ I h=>Constant_bool (.bl b,H,I,rfl,h,)
def Jo{j pos}:PE X (.Constant .none j pos) (tC .non):=λ_ _ _ H _ I h=>Constant_none (.non,H,I,rfl,h,)
def Jl{x j pos}:PE X (.Constant (.str x) j pos) (tC (.str x)):=λ_ _ _ H _ I h=>Calls.Constant_str (.str x,H,I.tok _,(_,rfl,),h,)
def Gl(X:Cx)(x:Str):Prop:=X.env.kindOf x<*.globalImplicit
def mM{d:St}{H:Hp}{Q:'I'}(I:Inv X pins d H s)(b:Gl X x)(c:X.mg x<*u)(h:Q u s)
  (a:(x==("__debug__":Str))=false:=by decide):'C' (eval (.Name x pos) X.env) Q E s:=
 Ab I.ok.kind b (Calls.loadGlobal_global (by rw[I.ok.glob];exact I.mod.glob.keeps I.bk) c h) a
def jj{i:St}{H:Hp}{Q:'I'}(I:Inv X pins i H s)(d:Gl X x)(e:X.mg x=none)(g:eY x<*u)(h:Q u s)
  (f:x≠"__name__":=by decide) (c:(x==("__debug__":Str))=false:=by decide):'C' (eval (.Name x pos) X.env) Q E s:=by
 obtain⟨j,a,b⟩:=I.mod.blt;exact Ab I.ok.kind d (Calls.loadGlobal_builtin (by rw[I.ok.glob];exact I.mod.glob.keeps I.bk) e (by rw[I.ok.blt];exact a.keeps I.bk) ((b x f).trans g) h) c
def EK{v:V}(b:Gl X x)(c:X.mg x<*u)(r:RelV v u)(a:(x==("__debug__":Str))=false:=by decide):PE X (.Name x pos) (tC v):=
 λ_ _ _ H _ I h=>mM I b c (v,H,I,r,h,) a
def EN{v:V}(b:Gl X x)(c:X.mg x=none)(e:eY x<*u)(r:RelV v u)(d:x≠"__name__":=by decide) (a:(x==("__debug__":Str))=false:=by decide):PE X (.Name x pos) (tC v):=
 λ_ _ _ H _ I h=>jj I b c e (v,H,I,r,h,) d a
variable {a b:Expr}{ta tb:TE}
def PC(X:Cx)(op:CmpOp)(a b:Expr)(t:TE):Prop:=
 ∀(pins:List (Addr×Obj))(s:Shared)(σ:St)(H:Hp)(Q:VK),'A'->t σ H Q->
  'C' (eval a X.env) (λv c=>'C' (eval b X.env) (λu d=>'C' (dc op v u) (EP X pins σ Q) X.xe d) X.xe c) X.xe s
def tB(t:TE):TT:=λσ H Q=>t σ H λx H1=>∃c,x=.bl c/\Q c H1
def pe_cmp{op:CmpOp}{t:TE}(h:PC X op a b t)(c:ph op b=false:=by first |exact nobehind _ 'E' 'E' |rfl):PE X (.Compare a [op] [b] pos) t:=λe s f H Q I d=>wpAny_Compare1 (h e s f H Q I d) c
def pt_cmp{op:CmpOp}{t:TE}(h:PC X op a b t)(e:ph op b=false:=by first |exact nobehind _ 'E' 'E' |rfl):PT X (.Compare a [op] [b] pos) (tB t):=by intro k s n H Q I j;refine wpAny_isTrue_Compare1 (thn (h k s n H _ I j) λv o e=>thn e λu p i=>thn i λc r ⟨x,f,g,m,l⟩=>?_) e;obtain⟨d,rfl,q⟩:=l;cases m;exact dk (f,g,q,)
variable {tA tB':TT}{rest:List Expr}
def tAnd(t u:TT):TT:=λσ H Q=>t σ H λc H1=>if c=true then u σ H1 Q else Q false H1
def tOr(t u:TT):TT:=λσ H Q=>t σ H λc H1=>if c=true then Q true H1 else u σ H1 Q
def tNot(t:TT):TT:=λσ H Q=>t σ H λc H1=>Q (!c) H1
def ED(b:PT X a tA):PW X (.BoolOp .And [a] pos) tA:=by
 intro i d s f H Q I h;refine isTrue_and (thn (b d s f H Q I h) λc g e=>?_);cases c with
 |true=>exact isTrue_and_nil e
 |false=>exact e
def pw_or1(b:PT X a tA):PW X (.BoolOp .Or [a] pos) tA:=by
 intro i d s f H Q I h;refine isTrue_or (thn (b d s f H Q I h) λc g e=>?_);cases c with
 |false=>exact isTrue_or_nil e
 |true=>exact e
def C6(j:PT X a tA)(k:PW X (.BoolOp .And (b::rest) pos) tB'):PW X (.BoolOp .And (a::b::rest) pos) (tAnd tA tB'):=by
 intro m f s i H Q I h;refine isTrue_and (thn (j f s i H _ I h) λc l ⟨d,e,g⟩=>?_);cases c with
 |true=>exact k m f l i d Q e g
 |false=>exact(d,e,g,)
def pw_or(j:PT X a tA)(k:PW X (.BoolOp .Or (b::rest) pos) tB'):PW X (.BoolOp .Or (a::b::rest) pos) (tOr tA tB'):=by
 intro m f s i H Q I h;refine isTrue_or (thn (j f s i H _ I h) λc l ⟨d,e,g⟩=>?_);cases c with
 |true=>exact(d,e,g,)
 |false=>exact k m f l i d Q e g
def pt_not(d:PT X a tA):PT X (.UnaryOp .Not a pos) (tNot tA):=by intro e s f H Q I h;exact isTrue_not (d e s f H (λc b=>Q (!c) b) I h)
def HU(ta tb:TE):TE:=λσ H Q=>ta σ H λx H1=>∃c,x=.bl c/\if c=true then tb σ H1 Q else Q (.bl false) H1
def tOrV(ta tb:TE):TE:=λσ H Q=>ta σ H λx H1=>∃c,x=.bl c/\if c=true then Q (.bl true) H1 else tb σ H1 Q
def HK(ta:TE):TE:=λσ H Q=>ta σ H λx H1=>∃c,x=.bl c/\Q (.bl (!c)) H1
def Jn{op}{t:TE}(h:PE X a t):PE X (.BoolOp op [a] pos) t:=λc s d H Q I b=>BoolOp_one (h c s d H Q I b)
def Jx(j:PE X a ta)(k:PE X (.BoolOp .And (b::rest) pos) tb):PE X (.BoolOp .And (a::b::rest) pos) (HU ta tb):=by
 intro g s i H Q I h;refine BoolOp_and (thn (j g s i H _ I h) λv m ⟨x,e,f,l,d⟩=>?_);obtain⟨c,rfl,d⟩:=d;cases l;refine dk ?_;cases c with
 |true=>exact k g m i e Q f d
 |false=>exact(.bl false,e,f,rfl,d,)
def pe_or(j:PE X a ta)(k:PE X (.BoolOp .Or (b::rest) pos) tb):PE X (.BoolOp .Or (a::b::rest) pos) (tOrV ta tb):=by
 intro g s i H Q I h;refine BoolOp_or (thn (j g s i H _ I h) λv m ⟨x,e,f,l,d⟩=>?_);obtain⟨c,rfl,d⟩:=d;cases l;refine dk ?_;cases c with
 |false=>exact k g m i e Q f d
 |true=>exact(.bl true,e,f,rfl,d,)
def pe_not(f:PE X a ta):PE X (.UnaryOp .Not a pos) (HK ta):=by intro g s j H Q I h;refine UnaryOp_ (thn (f g s j H _ I h) λv k ⟨x,d,e,i,b⟩=>?_);obtain⟨c,rfl,b⟩:=b;cases i;exact not_of (dk (.bl (!c),d,e,rfl,b,))
def tIf(t:TT)(ta tb:TE):TE:=λσ H Q=>t σ H λc H1=>if c=true then ta σ H1 Q else tb σ H1 Q
def Jq{c:Expr}(n:PT X c tA)(l:PE X a ta)(m:PE X b tb):PE X (.IfExp c a b pos) (tIf tA ta tb):=by
 intro e s f H Q I h;refine wpAny_IfExp (thn (n e s f H _ I h) λd k ⟨g,i,j⟩=>?_);cases d with
 |true=>exact l e k f g Q i j
 |false=>exact m e k f g Q i j
end
def SqL(K:ai)(H:Hp)(a:Addr)(xs:List V):Prop:=
 Rd H a (.lst xs)\/
  ∃(o:Obj)(its:Array Value)(n:Nat),K.lookup a<*o/\o.cls=.type "list"/\o.dict=none/\o.data=.seq its n/\its.size<=sizeLine/\bZ xs its.toList
def SqT(K:ai)(H:Hp)(a:Addr)(xs:List V):Prop:=
 Rd H a (.tup xs)\/
  ∃(o:Obj)(its:Array Value)(n:Nat),K.lookup a<*o/\o.cls=.type "tuple"/\o.data=.seq its n/\its.size<=sizeLine/\bZ xs its.toList
abbrev absV:Value->Option V
 |.none=>some .non
 |.bool b=>some (.bl b)
 |.int i _=>some (.int i)
 |.str x _=>some (.str x)
 |.bytes b _=>some (.byt b)
 |.float b _=>some (.flt b)
 |.ref a=>some (.ref a)
 |.type n=>some (.ty n)
 |_=>none
def RelV.abs{x:V}(r:RelV x u):absV u<*x:=by
 cases x with
 |non=>cases r;rfl
 |bl _=>cases r;rfl
 |int _=>obtain⟨t,rfl⟩:=r;rfl
 |str _=>obtain⟨t,rfl⟩:=r;rfl
 |byt _=>obtain⟨t,rfl⟩:=r;rfl
 |flt _=>obtain⟨t,rfl⟩:=r;rfl
 |ref _=>cases r;rfl
 |ty _=>cases r;rfl
def RelV.inj{x y:V}(r:RelV x u)(q:RelV y u):x=y:=bC (r.abs.symm.trans q.abs)
theorem bZ.inj{xs ys:List V}(h:bZ xs us):bZ ys us->xs=ys:=by
 induction h generalizing ys with
 |nil=>intro k;cases k;rfl
 |cons r k ih=>
  intro w;cases w with
  |cons r' w'=>rw[r.inj r',ih w']
section
variable {X:Cx}{pins:List (Addr×Obj)}{σ:St}{H:Hp}{s:Shared}{a:Addr}{xs ys:List V}
def SqL.of(h:H a<*(.lst xs)):SqL K H a xs:=.inl (.inl h)
def SqT.of(h:H a<*(.tup xs)):SqT K H a xs:=.inl (.inl h)
def Inv.list(I:'A')(h:SqL X.K H a xs):∃its:List Value,bZ xs its/\PlainL s.heap a its.toArray/\xs.length<=sizeLine:=by
 rcases h with h|⟨o,its,n,d,b,c,f,g,r⟩;·obtain⟨z,its,n,r,e⟩:=h.ok I.hok;exact(its,r,(_,n,e,rfl,rfl,rfl,),z,)
 .refine(its.toList,r,(o,n,I.kIn a o d,b,c,↥f,),?_,);have e:=r.length;simp only[aO]at e;lia
def Inv.tuple(I:'A')(h:SqT X.K H a xs):∃its:List Value,bZ xs its/\IsTup s.heap a its.toArray/\xs.length<=sizeLine:=by
 rcases h with h|⟨o,its,n,c,b,d,f,r⟩;·obtain⟨z,its,r,p⟩:=h.ok I.hok;exact(its,r,p,z,)
 .refine(its.toList,r,(o,I.kIn a o c,b,n,↥d,),?_,);have e:=r.length;simp only[aO]at e;lia
def Inv.qR(I:'A')(h:SqL X.K H a xs)(h':SqL X.K H a ys):xs=ys:=by
 obtain⟨f,r,⟨o,n,e,_,_,d⟩,_⟩:=I.list h;obtain⟨g,i,⟨k,j,c,_,_,b⟩,_⟩:=I.list h';rw[e]at c;cases c;rw[d]at b;injection b with d1 _
 have :f=g:=by simpa using congrArg Array.toList d1
 subst this;exact r.inj i
def Inv.xD(I:'A')(h:SqT X.K H a xs)(h':SqT X.K H a ys):xs=ys:=by
 obtain⟨f,r,⟨o,e,_,n,d⟩,_⟩:=I.tuple h;obtain⟨g,i,⟨k,c,_,j,b⟩,_⟩:=I.tuple h';rw[e]at c;cases c;rw[d]at b;injection b with d1 _
 have :f=g:=by simpa using congrArg Array.toList d1
 subst this;exact r.inj i
end
section
variable {X:Cx}{st:Stmt}{rest:List Stmt}{t u:TS}{te:TE}
def Ay:TS:=λD σ H=>D.nx σ H
def yE(t u:TS):TS:=λD σ H=>t {D with nx:=u D} σ H
def yW:PSs X [] Ay:=λ_ _ a H _ I h=>Ea (a,H,I,h,)
def AW(d:PS X st t)(e:PSs X rest u):PSs X (st::rest) (yE t u):=by
 intro a s i H D I h;refine wpAny_execs_cons (thn (d a s i H {D with nx:=u D} I h) λf g q=>?_);cases f with
 |next =>obtain⟨j,b,c,q⟩:=q;exact e a g j b D c q
 |ret v=>exact q
 |brk=>exact q
 |cont=>exact q
def HS:TS:=λD σ H=>D.bk σ H
def tCont:TS:=λD σ H=>D.ct σ H
def EG:PS X (.Pass pos) Ay:=λ_ _ a H _ I h=>wpAny_Pass (a,H,I,h,)
def Jd:PS X (.Break pos) HS:=λ_ _ a H _ I h=>wpAny_Break (a,H,I,h,)
def AX:PS X (.Continue pos) tCont:=λ_ _ a H _ I h=>wpAny_Continue (a,H,I,h,)
def Inv.quiet{a:St}{H:Hp}(I:Inv X pins a H s):interactive X.env=false:=by simp[interactive,I.ok.kind]
def HP(te:TE):TS:=λD σ H=>te σ H λ_ H1=>D.nx σ H1
def EH(d:PE X e te)(f:nj e none pos.line X.env=pure false:=by rfl):PS X (.Expr e pos) (HP te):=by intro g s a H D I h;exact wpAny_Expr_any (thn (d g s a H _ I h) λv k ⟨x,b,c,j,i⟩=>(a,b,c,i,)) I.quiet f
def tRet(te:TE):TS:=λD σ H=>te σ H D.rt
def Jb(d:PE X e te):PS X (.Return (some e) pos) (tRet te):=by intro f s a H D I h;exact wpAny_Return_some (thn (d f s a H _ I h) λv j ⟨x,b,c,i,g⟩=>(x,a,b,c,i,g,))
def HJ:TS:=λD _ H=>D.rt .non H
def ps_retN:PS X (.Return none pos) HJ:=λ_ _ a H _ I h=>wpAny_Return_none (.non,a,H,I,rfl,h,)
def HN(c:TT)(t u:TS):TS:=λD σ H=>c σ H λb H1=>if b=true then t D σ H1 else u D σ H1
def ps_if{c:Expr}{a b:List Stmt}{l:TT}(o:PT X c l)(m:PSs X a t)(n:PSs X b u):PS X (.If c a b pos) (HN l t u):=by
 intro e s f H D I h;refine wpAny_If (thn (o e s f H _ I h) λd k ⟨g,i,j⟩=>?_);cases d with
 |true=>exact m e k f g D i j
 |false=>exact n e k f g D i j
end
noncomputable abbrev TG:=V->St->Hp->(St->Hp->Prop)->Prop
noncomputable abbrev TGs:=List V->St->Hp->(St->Hp->Prop)->Prop
def PG(X:Cx)(b:Expr)(t:TG):Prop:=
 ∀(pins:List (Addr×Obj))(s:Shared)(σ:St)(H:Hp)(v:V)(u:Value)(Q:St->Hp->Prop),'A'->RelV v u->t v σ H Q->
  'C' (assign b X.env u) (λ_ s'=>∃a H',Inv X pins a H' s'/\Q a H') X.xe s
def PGs(X:Cx)(ts:List Expr)(t:TGs):Prop:=
 ∀(pins:List (Addr×Obj))(s:Shared)(σ:St)(H:Hp)(vs:List V)(us:List Value)(Q:St->Hp->Prop),'A'->bZ vs us->t vs σ H Q->
  'C' (assignInOrder ((iO ts X.env).map (·.2)) us) (λ_ s'=>∃a H',Inv X pins a H' s'/\Q a H') X.xe s
section
variable {X:Cx}
def l6(i:Nat):TG:=λv σ H Q=>Q (σ.set i (some v)) H
def yY(b:X.N.Nodup)(hi:X.N[i]?<*x)(d:Loc X.env.scope x)(c:X.fn x=true\/X.env.scope.names.lookup x<*.local:=by first |exact .inl rfl|exact .inr rfl|assumption):PG X (.Name x pos) (l6 i):=by intro e s g H v u Q I r h;exact wpAny_assign_Name (uX I b hi d r (λf a=>(_,H,a,h,)) c)
def gNil:TGs:=λvs σ H Q=>vs=[]/\Q σ H
def BB(t:TG)(u:TGs):TGs:=λvs σ H Q=>∃v r,vs=v::r/\t v σ H λa H'=>u r a H' Q
def pgs_nil:PGs X [] gNil:=by intro b s a H d c Q I r h;obtain⟨e,h⟩:=h;subst e;cases r;exact assignInOrder_nil (a,H,I,h,)
def Ji{a:List Expr}{t:TG}{u:TGs}(g:PG X e t)(i:PGs X a u)
  (j:(iO (e::a) X.env).map (·.2)=assign e X.env::(iO a X.env).map (·.2):=by rfl):PGs X (e::a) (BB t u):=by
 intro b s m H q o Q I r h;obtain⟨v,p,f,h⟩:=h;subst f;cases r with
 |cons r rr=>rw[j];refine assignInOrder_cons (thn (g b s m H _ _ _ I r h) λ_ l ⟨n,c,d,k⟩=>?_);exact i b l n c _ _ Q d rr k
def gTup(K:ai)(n:Nat)(t:TGs):TG:=λv σ H Q=>∃a xs,v=.ref a/\SqT K H a xs/\xs.length=n/\t xs σ H Q
def pg_tup{c:List Expr}{k:Nat}{t:TGs}(m:X.calm=true)(h:PGs X c t)
  (q:(iO c X.env).length=n:=by rfl) (x:(iO c X.env).findIdx? (·.1)=none:=by rfl):PG X (.Tuple c k pos) (gTup X.K n t):=by
 intro f s g H v u Q I r d;obtain⟨a,A,j,w,p,d⟩:=d;subst j;cases r;obtain⟨C,rv,y,B⟩:=I.tuple w;refine assign_Tuple_tuple (I.ok.hd m) y (by simp[q,<-p,rv.length]) x λl z=>?_;have i:Inv X f g H {s with heap:=l}:=I.kept (t':=s.toks) λb o e=>z b o (aK (aD e)) e;exact h f _ g H A _ Q i ↥rv d
def wM(te:TE)(g:TG):TS:=λD σ H=>te σ H λx H1=>g x σ H1 D.nx
def Je{b:TE}{g:TG}(j:PE X e b)(k:PG X tg g)(l:KU [tg] e pos.line X.env=pure false:=by rfl) (m:swappedStores [tg] e X.env=pure none:=by rfl)
  (i:(iO [tg] X.env).map (·.2)=[assign tg X.env]:=by rfl):PS X (.Assign [tg] e pos) (wM b g):=by
 intro a s c H D I h;refine wpAny_Assign_stores (thn (j a s c H _ I h) λv p ⟨x,d,f,o,n⟩=>?_) l m;rw[i];exact thn (k a p c d x v _ f o n) λ_ r q=>q
def ps_set{a:TE}(f:X.N.Nodup)(hi:X.N[i]?<*x)(l:Loc X.env.scope x)(g:PE X e a)(k:nj e (some (.Name x pos')) pos.line X.env=pure false:=by rfl) (j:X.fn x=true\/X.env.scope.names.lookup x<*.local:=by first |exact .inl rfl|exact .inr rfl|assumption):
  PS X (.Assign [.Name x pos'] e pos) (wM a (l6 i)):=by
 intro m s p H D I h;refine wpAny_Assign_Name (thn (g m s p H _ I h) λv q ⟨y,b,c,o,n⟩=>?_) k;exact uX c f hi l o (λr d=>(_,b,d,n,)) j
end
section
variable {X:Cx}
def HH(c:TT)(tb:TS):TS:=λD σ H=>∃W:Nat->St->Hp->Prop,(∃m,W m σ H)/\∀m σ H,W m σ H->
 c σ H λb H1=>if b=true then ∃N:St->Hp->Prop,(∀d H',N d H'->∃a,a<m/\W a d H')/\tb {D with nx:=N,ct:=N,bk:=D.nx} σ H1 else D.nx σ H1
def Ja{c:Expr}{w:List Stmt}{z:TT}{tb:TS}(y:PassesOwn (model X.prog X.w) X.A X.env X.xe)(E:PT X c z)(C:PSs X w tb):PS X (.While c w [] pos) (HH z tb):=by
 intro o s P H D I h;obtain⟨W,⟨F,M⟩,L⟩:=h;refine wpAny_While (codeAny_whileLoop (λn G=>∃A q,Inv X o A q G/\W n A q) ?_ F (P,H,I,M,));rintro n J ⟨i,r,B,O⟩;refine gS y (thn (E o J i r _ B (L n i r O)) λb K ⟨t,u,e⟩=>?_);cases b with
 |true=>
  obtain⟨N,x,e⟩:=e;rw[if_pos rfl];refine gS y (thn (C o K i t _ u e) λf Q g=>?_);cases f with
  |next =>obtain⟨d,a,j,m⟩:=g;obtain⟨l,k,p⟩:=x d a m;exact(l,k,d,a,j,p,)
  |cont=>obtain⟨d,a,j,m⟩:=g;obtain⟨l,k,p⟩:=x d a m;exact(l,k,d,a,j,p,)
  |brk=>exact g
  |ret v=>exact g
 |false=>rw[if_neg be];exact Ea (i,t,u,e,)
end
structure It where
 go:Nat->Hp->Prop
 yld:Nat->Hp->V->Hp->Prop
 stop:Nat->Hp->Prop
def pd(X:Cx)(pins:List (Addr×Obj))(H:Hp)(b:Addr):Prop:=
 H b=none/\b≠X.env.locals/\b∉X.fs/\(b∈X.ex\/X.s₀.heap.objs.size<=b)/\(∀x c,X.env.cells.lookup x<*c->c≠b)/\∀p∈X.pn++pins,p.1≠b
def Inv.sk{X:Cx}{g:St}{H H':Hp}(I:Inv X pins g H s)(a:⇑s<=b)(d:H' b=none):pd X pins H' b:=by
 refine(d,cS (bj I.lt a),I.nofs a,.inr (aR I.sz a),λx c e z=>?_,λp f z=>?_,);·obtain⟨v,q⟩:=I.cell x c e;exact absurd (bj q.lt (by rw[z];exact a)) (eN _)
 .exact absurd (bj (aD (I.pin p f).1) (by rw[z];exact a)) (eN _)
structure Turn(P:Program)(w:World)(K:ai)(tg:Expr)(J:It)(fp:List Addr)(it:Addr)(tn:Nat->Heap->Prop):Prop where
 mem:it∈fp
 obj:∀i h,tn i h->∀b∈fp,∃o,h.get? b<*o/\∀v,o.data≠.cell v
 keep:∀i h h',tn i h->(∀b∈fp,∀o,h.get? b<*o->h'.get? b<*o)->tn i h'
 item:∀(X:Cx),X.prog=P->X.w=w->X.K=K->X.calm=true->∀(i:Nat)(pins:List (Addr×Obj))(s:Shared)(σ:St)(H:Hp)(E:'I'),'A'->(∀b∈fp,pd X pins H b)->tn i s.heap->J.go i H->
  wpAny (model P w) X.A (pyNext (.ref it)) (λr s1=>∃u,r<*u/\
   wpAny (model P w) X.A (rN tg (.ref it) u) (λ_ s2=>∃x H',Inv X pins σ H' s2/\RelV x u/\J.yld i H x H'/\tn (i+1) s2.heap/\∀b∈fp,H' b=none) E s1) E s
 done:∀(X:Cx),X.prog=P->X.w=w->X.K=K->X.calm=true->∀(i:Nat)(pins:List (Addr×Obj))(s:Shared)(σ:St)(H:Hp)(E:'I'),'A'->(∀b∈fp,pd X pins H b)->tn i s.heap->J.stop i H->
  wpAny (model P w) X.A (pyNext (.ref it)) (λr s1=>r=none/\Inv X pins σ H s1) E s
 self:∀(A:Around)(i:Nat)(s:Shared)(Q:'I')(E:'I'),tn i s.heap->Q (.ref it) s->wpAny (model P w) A (pyIter (.ref it)) Q E s
noncomputable abbrev TI:=St->Hp->(It->Hp->Prop)->Prop
def PIE(X:Cx)(pins:List (Addr×Obj))(σ:St)(tg:Expr)(R:It->Hp->Prop)(d:Value)(a:Shared):Prop:=
 ∃(it:Addr)(fp:List Addr)(c:Nat->Heap->Prop)(J:It)(H':Hp),d=.ref it/\Inv X pins σ H' a/\Turn X.prog X.w X.K tg J fp it c/\c 0 a.heap/\(∀b∈fp,pd X pins H' b)/\R J H'
def PI(X:Cx)(tg iter:Expr)(wi:TI):Prop:=
 ∀(pins:List (Addr×Obj))(s:Shared)(σ:St)(H:Hp)(R:It->Hp->Prop),'A'->wi σ H R->
  'C' (eval iter X.env) (λv a=>'C' (pyIter v) (PIE X pins σ tg R) X.xe a) X.xe s
def xZ{M:Model}{o:Obj}{n:String}{vs:Array Value}{Q:Unit->Shared->Prop}(e:s.heap.get? it<*o)(b:o.cls=.type n)(c:o.data=.fields vs)
  (d:["enumerate","zip","dict_itemiterator","dict_reverseitemiterator","odict_iterator","itertools.zip_longest","itertools.pairwise"].contains n=false)(a:Q () s):wpAny M A (rN tg (.ref it) u) Q E s:=by
 unfold rN;cases tg<;>first
  |exact ag a
  | (cases u<;>first
    |exact ag a
    | (refine ae (wpAny_load e ?_)
       rw[b,c];show wpAny M A (if(["enumerate","zip","dict_itemiterator","dict_reverseitemiterator","odict_iterator","itertools.zip_longest","itertools.pairwise"].contains n&&vs[0]? ==some (rawInt _))=true then _ else _) Q E s;rw[if_neg (by intro h;rw[d,gW]at h;cases h)];exact ag a))
abbrev Itl(K:ai)(a:Addr):It:=
 (λi H=>∃xs x,SqL K H a xs/\xs[i]?<*x,λi H x H'=>H'=H/\∀xs,SqL K H a xs->xs[i]?<*x,λi H=>∃xs,SqL K H a xs/\xs.length<=i,)
abbrev Itt(K:ai)(a:Addr):It:=
 (λi H=>∃xs x,SqT K H a xs/\xs[i]?<*x,λi H x H'=>H'=H/\∀xs,SqT K H a xs->xs[i]?<*x,λi H=>∃xs,SqT K H a xs/\xs.length<=i,)
abbrev Itr(lo:Int)(n:Nat):It:=(λi _=>i<n,λi H x H'=>H'=H/\x=.int (lo+i),λi _=>n<=i,)
def xC(a j:Addr):Turn P w K tg (Itl K a) [j] j (λi h=>h.IsListIter j a i) where
 mem:=by simp
 obj:=λi h f b g=>by
  have e:b=j:=by simpa using g
  subst e;obtain⟨o,e,c,d⟩:=f;exact⟨o,e,λa0 z=>by rw[d]at z;cases z⟩
 keep:=λi h l f k=>f.at λo e=>k j 'F' o e
 item:=by intro X B D A G i J s M H E I m f C;subst B D A;obtain⟨Y,x,n,F⟩:=C;obtain⟨U,rv,p,T⟩:=I.list n;obtain⟨u,R,V⟩:=rv.get F;obtain⟨q,r,Q,t,v,y⟩:=m j 'F';refine wpAny_pyNext_list_item f p.isList (x:=u) ↥R λl L W=>?_;have N:Inv X J M H {s with heap:=l}:=I.turned (t':=s.toks) (λb o g e=>(W.2 b g).trans e) q r t v y;obtain⟨o,e,c,d⟩:=id L;exact⟨u,rfl,xZ (s:={s with heap:=l}) e c d 'E' (x,H,N,V,⟨rfl,λys S=>by rw[I.qR S n];exact F⟩,L,λb g=>(m b g).1,)⟩
 done:=by intro X B D A G i J s M H E I m f C;subst B D A;obtain⟨Y,n,F⟩:=C;obtain⟨U,rv,p,T⟩:=I.list n;obtain⟨q,r,Q,t,v,y⟩:=m j 'F';have Z:=rv.length;exact wpAny_pyNext_list_end (I.ok.hd G) f p.isList (by simp;lia) λl O=>(rfl,I.turned (t':=s.toks) (λb o g e=>O b o g e) q r t v y,)
 self:=λ_ _ _ _ _ f h=>wpAny_pyIter_listiter f h
def Cz(a j:Addr):Turn P w K tg (Itt K a) [j] j (λi h=>h.IsTupleIter j a i) where
 mem:=by simp
 obj:=λi h f b g=>by
  have e:b=j:=by simpa using g
  subst e;obtain⟨o,e,c,d⟩:=f;exact⟨o,e,λa0 z=>by rw[d]at z;cases z⟩
 keep:=λi h l f k=>f.at λo e=>k j 'F' o e
 item:=by intro X B D A J i L s N H E I m f C;subst B D A;obtain⟨Y,x,n,F⟩:=C;obtain⟨G,rv,p,U⟩:=I.tuple n;obtain⟨u,S,V⟩:=rv.get F;obtain⟨q,r,R,t,v,y⟩:=m j 'F';refine wpAny_pyNext_tuple_item f (show s.heap.IsTuple a G.toArray from p) (x:=u) ↥S λl M W=>?_;have O:Inv X L N H {s with heap:=l}:=I.turned (t':=s.toks) (λb o g e=>(W.2 b g).trans e) q r t v y;obtain⟨o,e,c,d⟩:=id M;exact⟨u,rfl,xZ (s:={s with heap:=l}) e c d 'E' (x,H,O,V,⟨rfl,λys T=>by rw[I.xD T n];exact F⟩,M,λb g=>(m b g).1,)⟩
 done:=by intro X B D A J i L s N H E I m f C;subst B D A;obtain⟨Y,n,F⟩:=C;obtain⟨G,rv,p,U⟩:=I.tuple n;obtain⟨q,r,R,t,v,y⟩:=m j 'F';have Z:=rv.length;exact wpAny_pyNext_tuple_end (I.ok.hd J) f (show s.heap.IsTuple a G.toArray from p) (by simp;lia) λl Q=>(rfl,I.turned (t':=s.toks) (λb o g e=>Q b o g e) q r t v y,)
 self:=λ_ _ _ _ _ f h=>wpAny_pyIter_tupleiter f h
def CA(c:Addr)(lo:Int)(n:Nat):Turn P w K tg (Itr lo n) [c] c (λi h=>IsRangeIter h c (lo+(i:Nat)*1) ((n:Int)-(i:Nat)) 1) where
 mem:=by simp
 obj:=λi h a b d=>by
  have e:b=c:=by simpa using d
  subst e;exact⟨_,a,λv z=>by have O:Data.fields _=Data.cell v:=z;cases O⟩
 keep:=λi h f a k=>k c 'F' _ a
 item:=by intro X u A r x i B s F H E I g a y;subst u A r;obtain⟨j,l,L,m,p,q⟩:=g c 'F';have W:=Walks.range (prog:=X.prog) (w:=X.w) (I.ok.hd x) c lo 1 n;refine W.item i s _ _ y a λv f D M C N=>?_;obtain⟨t,rfl⟩:=M;have G:Inv X B F H {s with heap:=f,toks:=D}:=I.turned (λb o d e=>N b o ↥d e) j l m p q;refine(_,rfl,xZ (s:={s with heap:=f,toks:=D}) (n:="range_iterator") C rfl rfl 'E' (.int (lo+i),H,G,(t,?_,),(rfl,rfl,),C,λb d=>(g b d).1,),);rw[Int.mul_one]
 done:=by intro X u A r x i B s F H E I g a y;subst u A r;obtain⟨j,l,L,m,p,q⟩:=g c 'F';exact wpAny_pyNext_range_end (I.ok.hd x) a (by have :n<=i:=y;lia) λf J=>(rfl,I.turned (t':=s.toks) (λb o d e=>J b o d e) j l m p q,)
 self:=λ_ _ _ _ _ a h=>wpAny_pyIter_rangeiter a h
section
variable {X:Cx}
def Ka(K:ai)(tl:TE):TI:=λσ H R=>tl σ H λx H1=>∃a,x=.ref a/\(∃xs,SqL K H1 a xs)/\R (Itl K a) H1
def pi_list{l:Expr}{tl:TE}(i:PE X l tl):PI X tg l (Ka X.K tl):=by
 intro k s r H R I h;refine thn (i k s r H _ I h) λv d ⟨x,f,c,n,m⟩=>?_;obtain⟨a,e,⟨w,j⟩,q⟩:=m;subst e;cases n;obtain⟨u,rv,p,t⟩:=c.list j;refine jR p.isList ?_;refine(⇑d,[⇑d],_,_,f,rfl,c.kept (t':=d.toks) λb o e=>af _ e,xC a _,(_,aF _ rfl,rfl,rfl,),λb g=>?_,q,);have e:b=⇑d:=by simpa using g
 subst e;exact c.sk (aE _) (c.hok.fresh (aE _))
def AU{c:St}{H:Hp}{R:It->Hp->Prop}{lo hi:Int}{t u v:Tok}{tk:Nat}(I:Inv X pins c H s)(g: -(2^62)<=lo)(h:lo<2^62)(i: -(2^62)<=hi)(j:hi<2^62)
  (q:R (Itr lo (hi-lo).toNat) H):'C' (pyIter (.ref ⇑s)) (PIE X pins c tg R) E {s with heap:=s.heap.push {cls:=.type "range",data:=.fields #[.int lo t,.int hi u,.int 1 v]},toks:=tk}:=by
 refine wpAny_pyIter_range (IsRange.new ..) (small_one g h i j) ?_;have a:Inv X pins c H {s with heap:=s.heap.push {cls:=.type "range",data:=.fields #[.int lo t,.int hi u,.int 1 v]},toks:=tk}:=I.kept λb o e=>af _ e;refine((s.heap.push {cls:=.type "range",data:=.fields #[.int lo t,.int hi u,.int 1 v]}).objs.size,[(s.heap.push {cls:=.type "range",data:=.fields #[.int lo t,.int hi u,.int 1 v]}).objs.size],_,_,H,rfl,
  a.kept (t':=tk) λb o e=>af _ e,CA _ lo (hi-lo).toNat,?_,λb k=>?_,q,)
 .have d:lo+((0:Nat):Int)*1=lo:=by simp
  have f:(((hi-lo).toNat:Nat):Int)-((0:Nat):Int)=Builtin.Range.rangeSize lo hi 1:=by rw[rangeSize_one];split <;>lia
  show IsRangeIter _ _ (lo+((0:Nat):Int)*1) ((((hi-lo).toNat:Nat):Int)-((0:Nat):Int)) 1;rw[d,f];exact aF _ rfl
 .have e:b=(s.heap.push {cls:=.type "range",data:=.fields #[.int lo t,.int hi u,.int 1 v]}).objs.size:=by simpa using k
  subst e;exact a.sk (aE _) (a.hok.fresh (aE _))
def J9(ta:TA):TI:=λσ H R=>ta σ H λvs H1=>∃j:Int,vs=[.int j]∧-(2^62)<=j/\j<2^62/\R (Itr 0 j.toNat) H1
def J8(ta:TA):TI:=λσ H R=>ta σ H λvs H1=>∃i j:Int,vs=[.int i,.int j]/\(-(2^62)<=i/\i<2^62∧-(2^62)<=j/\j<2^62)/\R (Itr i (j-i).toNat) H1
def Gd{a:Expr}{c:TA}(g:Gl X "range")(i:X.mg "range"=none)(f:PA X [a] c)(k:bx [a] X.env=[(false,eval a X.env)]:=by rfl):PI X tg (.Call (.Name "range" p) [a] [] pos) (J9 c):=by
 intro l s o H R I h;refine Call_ (jj I g i boot_range (bT (thn (f pos l s o H _ I h) λw v ⟨x,u,d,n,b⟩=>?_) k rfl));obtain⟨j,e,b,m,q⟩:=b;subst e;cases n with
 |cons r rr=>cases rr;obtain⟨t,rfl⟩:=r;exact call_range_1 (AU d 'D' 'D' b m ↥q)
def Gc{a b:Expr}{f:TA}(l:Gl X "range")(m:X.mg "range"=none)(k:PA X [a,b] f)(n:bx [a,b] X.env=[(false,eval a X.env),(false,eval b X.env)]:=by rfl) (d:bx [b] X.env=[(false,eval b X.env)]:=by rfl):
  PI X tg (.Call (.Name "range" p) [a,b] [] pos) (J8 f):=by
 intro o s y H R I h;refine Call_ (jj I l m boot_range (bT (thn (k pos o s y H _ I h) λC A ⟨D,z,g,x,c⟩=>?_) (by rw[n,d]) (by rw[d];rfl)));obtain⟨i,j,e,⟨c,u,v,w⟩,q⟩:=c;subst e;cases x with
 |cons r rr=>
  cases rr with
  |cons r' rr=>cases rr;obtain⟨t,rfl⟩:=r;obtain⟨B,rfl⟩:=r';exact call_range_2 (AU g c u v w q)
def tFor(wi:TI)(g:TG)(tb:TS):TS:=λD σ H=>wi σ H λJ H1=>∃W:Nat->Nat->St->Hp->Prop,(∃m,W 0 m σ H1)/\∀i m σ H,W i m σ H->
 (J.stop i H/\D.nx σ H)\/(J.go i H/\∃N:St->Hp->Prop,(∀b H',N b H'->∃a,a<m/\W (i+1) a b H')/\∀x H',J.yld i H x H'->g x σ H' λc H2=>tb {D with nx:=N,ct:=N,bk:=D.nx} c H2)
abbrev jB(fp:List Addr)(h:Heap):List (Addr×Obj):=fp.filterMap λb=>(h.get? b).map λo=>(b,o)
def ji{o:Obj}(a:b∈fp)(e:h.get? b<*o):(b,o)∈jB fp h:=List.mem_filterMap.mpr ⟨b,a,by rw[e];rfl⟩
def r8{p:Addr×Obj}(d:p∈jB fp h):p.1∈fp/\h.get? p.1<*p.2:=by
 obtain⟨b,c,e⟩:=List.mem_filterMap.mp d;cases q:h.get? b with
 |none=>rw[q]at e;cases e
 |some o=>rw[q]at e;have a:(b,o)=p:=bC e;subst a;exact(c,q,)
def Inv.pinned{f:St}{H:Hp}(I:Inv X pins f H s)(j:∀b∈fp,pd X pins H b)(k:∀b∈fp,∃o,s.heap.get? b<*o/\∀v,o.data≠.cell v):Inv X (pins++jB fp s.heap) f H s:=
 I.yX λp l=>(aH.mp l).elim (λz=>I.pin p (bz _ z)) λz=>by obtain⟨c,e⟩:=r8 z;obtain⟨g,h,i,_⟩:=j p.1 c;obtain⟨o,a,d⟩:=k p.1 c;rw[e]at a;cases a;exact(e,g,h,i,d,)
def Inv.iU{a:St}{H:Hp}(I:Inv X (pins++pl) a H s):Inv X pins a H s:=I.yX λp b=>I.pin p (bz _ (eS _ b))
def ps_for{E:List Stmt}{P:TI}{g:TG}{tb:TS}(q:PassesOwn (model X.prog X.w) X.A X.env X.xe)(J:X.calm=true)(hi:PI X tg iter P)(hg:PG X tg g)(f:PSs X E tb)
  (hs:∀x,jW iter X.env x=pure x:=by intro _;rfl):PS X (.For tg iter E [] pos) (tFor P g tb):=by
 intro l a5 Q H D I a3;refine wpAny_For (thn (hi l a5 Q H _ I a3) λb0 s1 h1=>thn h1 λb3 s2 h2=>?_) hs;obtain⟨it,p,O,b2,R,e,U,T,a6,F,W,⟨m0,w0⟩,a8⟩:=h2;subst e
 --what stays true of the iterator's objects through the loop
 have z:∀{j:Hp},(∀b∈p,j b=none)->∀b∈p,pd X l j b:=λhn b f=>(hn b f,(F b f).2,);refine codeAny_forLoop_any (λn K=>∃i s j,Inv X l s j K/\O i K.heap/\(∀b∈p,j b=none)/\W i n s j) ?_ m0 (0,Q,R,U,a6,λb f=>(F b f).1,w0,);rintro n L ⟨i,t,u,B,N,G,w3⟩;rcases a8 i n t u w3 with⟨a7,qn⟩ |⟨go,a0,hN,step⟩;·refine gS q (thn (T.done X rfl rfl rfl J i l L t u X.xe B (z G) N a7) λa4 s4 ⟨v,V⟩=>?_);subst v;exact Ea (t,u,V,qn,)
 .refine gS q (thn (T.item X rfl rfl rfl J i l L t u X.xe B (z G) N go) λa4 s4 ⟨a9,v,h4⟩=>?_);subst v;refine gS q (thn h4 λ_ M ⟨x,A,Y,r5,y5,y,a2⟩=>?_);have Z:=Y.pinned (z a2) (T.obj _ _ y);refine gS q (thn (hg _ M t A x a9 _ Z r5 (step x A y5)) λ_ s6 ⟨b1,S,I6,q6⟩=>?_);refine gS q (thn (f _ s6 b1 S _ I6 q6) λa1 w k=>?_);have C:∀{h:St}{a:Hp},Inv X (l++jB p M.heap) h a w->a0 h a->∃m,m<n/\∃i s j,Inv X l s j w/\O i w.heap/\(∀b∈p,j b=none)/\W i m s j:=λ{h a} c r=>by obtain⟨m',hm,w7⟩:=hN h a r;refine(m',hm,i+1,h,a,c.iU,T.keep _ _ _ y λb f o e=>(c.pin (b,o) (bz _ (bz _ (ji f e)))).1,λb f=>?_,w7,);obtain⟨o,e,d⟩:=T.obj _ _ y b f;exact(c.pin (b,o) (bz _ (bz _ (ji f e)))).2.1
  cases a1 with
  |next =>obtain⟨h,a,c,r⟩:=k;exact C c r
  |cont=>obtain⟨h,a,c,r⟩:=k;exact C c r
  |brk=>obtain⟨h,a,c,k⟩:=k;exact(h,a,c.iU,k,)
  |ret b0=>obtain⟨x7,h,a,c,r7,k⟩:=k;exact(x7,h,a,c.iU,r7,k,)
end
noncomputable abbrev R2:=V->V->Hp->VK->Prop
def OpR(X:Cx)(f:Value->Value->Sem Value)(r:R2):Prop:=
 ∀(pins:List (Addr×Obj))(s:Shared)(σ:St)(H:Hp)(x y:V)(v u:Value)(Q:VK),'A'->RelV x v->RelV y u->r x y H Q->
  'C' (f v u) (EP X pins σ Q) X.xe s
def UnR(X:Cx)(f:Value->Sem Value)(r:V->Hp->VK->Prop):Prop:=
 ∀(pins:List (Addr×Obj))(s:Shared)(σ:St)(H:Hp)(x:V)(v:Value)(Q:VK),'A'->RelV x v->r x H Q->
  'C' (f v) (EP X pins σ Q) X.xe s
def fU(X:Cx)(f:Value)(r:List V->Hp->VK->Prop):Prop:=
 ∀(pins:List (Addr×Obj))(s:Shared)(σ:St)(H:Hp)(xs:List V)(us:List Value)(Q:VK),'A'->bZ xs us->r xs H Q->
  'C' (call f us) (EP X pins σ Q) X.xe s
def TruR(X:Cx)(r:V->Hp->(Bool->Hp->Prop)->Prop):Prop:=
 ∀(pins:List (Addr×Obj))(s:Shared)(σ:St)(H:Hp)(x:V)(v:Value)(Q:Bool->Hp->Prop),'A'->RelV x v->r x H Q->
  'C' (truthy v) (TP X pins σ Q) X.xe s
def tOp(r:R2)(ta tb:TE):TE:=λσ H Q=>ta σ H λx H1=>tb σ H1 λy H2=>r x y H2 Q
def tUn(r:V->Hp->VK->Prop)(ta:TE):TE:=λσ H Q=>ta σ H λx H1=>r x H1 Q
def rI(C:Int->Int->Prop)(g:Int->Int->V):R2:=λx y H Q=>∃i j,x=.int i/\y=.int j/\C i j/\Q (g i j) H
def rI0(g:Int->Int->V):R2:=λx y H Q=>∃i j,x=.int i/\y=.int j/\Q (g i j) H
def rU(g:Int->V):V->Hp->VK->Prop:=λx H Q=>∃i,x=.int i/\Q (g i) H
section
variable {X:Cx}{a b c:Expr}{ta tb tc:TE}
def binT(i:PE X a ta)(j:PE X b tb){c:St}{H:Hp}{R:V->V->Hp->Prop}(I:Inv X pins c H s)
  (h:ta c H λx H1=>tb c H1 λy H2=>R x y H2){Q:'I'}{f:Value->Value->Sem Value}
  (k:∀v u d x y H2,Inv X pins c H2 d->RelV x v->RelV y u->R x y H2->'C' (f v u) Q X.xe d):
  'C' (eval a X.env) (λv q=>'C' (eval b X.env) (λu r=>'C' (f v u) Q X.xe r) X.xe q) X.xe s:=by
 refine thn (i pins s c H _ I h) λv p ⟨x,H1,e,n,l⟩=>?_;refine thn (j pins p c H1 _ e l) λu d ⟨y,H2,g,o,m⟩=>?_;exact k v u d x y H2 g n o m
def pe_op{op:Operator}{r:R2}(g:OpR X (fO op) r)(e:PE X a ta)(f:PE X b tb):PE X (.BinOp a op b pos) (tOp r ta tb):=by intro i s m H Q I h;exact wpAny_BinOp (binT e f I h λv u l x y c d j k q=>g i l m c x y v u Q d j k q)
def pe_un{op:UnaryOp}{r:V->Hp->VK->Prop}(g:UnR X (unaryOp op) r)(f:PE X a ta):PE X (.UnaryOp op a pos) (tUn r ta):=by intro b s c H Q I h;exact UnaryOp_ (thn (f b s c H _ I h) λv k ⟨x,d,e,j,i⟩=>g b k c d x v Q e j i)
def opI{f:Value->Value->Sem Value}{C:Int->Int->Prop}{g:Int->Int->Int}
  (b:∀(i j:Int)(t u:Tok)(s:Shared)(Q:'I')(E:'I'),C i j->Q (.int (g i j) s.toks) {s with toks:=s.toks+1}->'C' (f (.int i t) (.int j u)) Q E s):
  OpR X f (rI C λi j=>.int (g i j)):=by
 intro k s l H x y v u Q I c d h;obtain⟨i,j,rfl,rfl,a,q⟩:=h;obtain⟨t,rfl⟩:=c;obtain⟨e,rfl⟩:=d;exact b i j t e s _ _ a (.int (g i j),H,I.tok _,(_,rfl,),q,)
def opI0{f:Value->Value->Sem Value}{g:Int->Int->Int}
  (a:∀(i j:Int)(t u:Tok)(s:Shared)(Q:'I')(E:'I'),Q (.int (g i j) s.toks) {s with toks:=s.toks+1}->'C' (f (.int i t) (.int j u)) Q E s):
  OpR X f (rI0 λi j=>.int (g i j)):=by
 intro e s k H x y v u Q I b c h;obtain⟨i,j,rfl,rfl,q⟩:=h;obtain⟨t,rfl⟩:=b;obtain⟨d,rfl⟩:=c;exact a i j t d s _ _ (.int (g i j),H,I.tok _,(_,rfl,),q,)
def opB0{f:Value->Value->Sem Value}{g:Int->Int->Bool}
  (a:∀(i j:Int)(t u:Tok)(s:Shared)(Q:'I')(E:'I'),Q (.bool (g i j)) s->'C' (f (.int i t) (.int j u)) Q E s):
  OpR X f (rI0 λi j=>.bl (g i j)):=by
 intro e s k H x y v u Q I b c h;obtain⟨i,j,rfl,rfl,q⟩:=h;obtain⟨t,rfl⟩:=b;obtain⟨d,rfl⟩:=c;exact a i j t d s _ _ (.bl (g i j),H,I,rfl,q,)
def CDiv(i j:Int):Prop:=0<j/\j<1073741824
def KQ(i j:Int):Prop:=0<=j/\j<=1000000/\i.natAbs<2^64
def D6(i j:Int):Prop:=(-(2^64)<i/\i<2^64)\/(-(2^64)<j/\j<2^64)
def D6.ok{i j:Int}(h:D6 i j):IntMulOk i j:=by
 rcases h with⟨a,b⟩ |⟨a,b⟩;·exact .of_left (intBits_le_64 a b)
 .exact .of_right (intBits_le_64 a b)
def Cy(k:Nat):(0:Int)<=2^k:=by rw[two_pow_cast];exact Int.natCast_nonneg _
def op_add:OpR X (fO .Add) (rI0 λi j=>.int (i+j)):=opI0 λ_ _ _ _ _ _ _ q=>add_int q
def op_sub:OpR X (fO .Sub) (rI0 λi j=>.int (i-j)):=opI0 λ_ _ _ _ _ _ _ q=>sub_int q
def op_mul:OpR X (fO .Mult) (rI D6 λi j=>.int (i*j)):=opI λ_ _ _ _ _ _ _ a q=>mul_int q a.ok
def op_fdiv:OpR X (fO .FloorDiv) (rI CDiv λi j=>.int (i/j)):=opI λi j _ _ _ _ _ a q=>by have b:(0:Int)<j:=a.1;have c:j<1073741824:=a.2;exact floordiv_int 'D' (by rw[B9 i 'D'];exact q) (.inl (PyProof.noPylong_small 'D'))
def op_mod:OpR X (fO .Mod) (rI (λ_ j=>0<j) λi j=>.int (i%j)):=opI λi j _ _ _ _ _ a q=>by have b:(0:Int)<j:=a;exact mod_int' 'D' (by rw[Int.fmod_eq_emod_of_nonneg i 'D'];exact q)
def op_pow:OpR X (fO .Pow) (rI KQ λi j=>.int (i^j.toNat)):=opI λ_ _ _ _ _ _ _ a q=>pow_int_small a.1 a.2.1 a.2.2 q
def op_shl:OpR X (fO .LShift) (rI KQ λi j=>.int (i*2^j.toNat)):=opI λ_ _ _ _ _ _ _ a q=>lshift_int_small a.1 a.2.1 a.2.2 q
def op_shr:OpR X (fO .RShift) (rI (λ_ j=>0<=j) λi j=>.int (i/2^j.toNat)):=opI λi j _ _ _ _ _ a q=>
 rshift_int a (by rw[B9 i (Cy _)];exact q)
def op_and:OpR X (fO .BitAnd) (rI0 λi j=>.int (Builtin.bitAnd i j)):=opI0 λ_ _ _ _ _ _ _ q=>and_int q
def op_xor:OpR X (fO .BitXor) (rI0 λi j=>.int (Builtin.bitXor i j)):=opI0 λ_ _ _ _ _ _ _ q=>xor_int q
def unI{f:Value->Sem Value}{g:Int->Int}
  (a:∀(i:Int)(t:Tok)(s:Shared)(Q:'I')(E:'I'),Q (.int (g i) s.toks) {s with toks:=s.toks+1}->'C' (f (.int i t)) Q E s):
  UnR X f (rU λi=>.int (g i)):=by
 intro c s d H x v Q I b h;obtain⟨i,rfl,q⟩:=h;obtain⟨t,rfl⟩:=b;exact a i t s _ _ (.int (g i),H,I.tok _,(_,rfl,),q,)
def un_neg:UnR X (unaryOp .USub) (rU λi=>.int (-i)):=unI λ_ _ _ _ _ q=>neg_int q
end
section
variable {X:Cx}{a b c:Expr}{ta tb tc:TE}
def so{b:St}{H:Hp}{Q:VK}{k a:Bool}(I:Inv X pins b H s)(q:Q (.bl k) H)(e:k=a):EP X pins b Q (.bool a) s:=by subst e;exact(.bl k,H,I,rfl,q,)
def op_lt:OpR X (dc .Lt) (rI0 λi j=>.bl (decide (i<j))):=opB0 λ_ _ _ _ _ _ _ q=>lt_int q
def op_le:OpR X (dc .LtE) (rI0 λi j=>.bl (decide (i<=j))):=opB0 λ_ _ _ _ _ _ _ q=>le_int q
def op_gt:OpR X (dc .Gt) (rI0 λi j=>.bl (decide (j<i))):=opB0 λ_ _ _ _ _ _ _ q=>gt_int q
def op_ge:OpR X (dc .GtE) (rI0 λi j=>.bl (decide (j<=i))):=opB0 λ_ _ _ _ _ _ _ q=>ge_int q
def Gq:OpR X (dc .In) (λx y H Q=>∃i j,x=.str i/\y=.str j/\Q (.bl (!(iA j i 0 j.length 1).isEmpty)) H):=by intro c s e H x y v u Q I a b h;obtain⟨i,j,rfl,rfl,q⟩:=h;obtain⟨t,rfl⟩:=a;obtain⟨d,rfl⟩:=b;exact in_str (so I q rfl)
def op_isN:OpR X (dc .Is) (λx y H Q=>y=.non/\Q (.bl (decide (x=.non))) H):=by
 intro c s d H x y v u Q I a b h;obtain⟨rfl,q⟩:=h;cases b;refine is_none_gen (so I q ?_);cases x<;>first
  | (cases a;rfl)
  | (obtain⟨t,rfl⟩:=a;rfl)
def op_notN:OpR X (dc .IsNot) (λx y H Q=>y=.non/\Q (.bl (!decide (x=.non))) H):=by
 intro c s d H x y v u Q I a b h;obtain⟨rfl,q⟩:=h;cases b;refine isnot_none_gen (so I q ?_);cases x<;>first
  | (cases a;rfl)
  | (obtain⟨t,rfl⟩:=a;rfl)
def OpR.or{f:Value->Value->Sem Value}{r r':R2}(h:OpR X f r)(h':OpR X f r'):OpR X f (λx y H Q=>r x y H Q\/r' x y H Q):=by
 intro a s d H x y v u Q I b c q;rcases q with q|q;·exact h a s d H x y v u Q I b c q
 .exact h' a s d H x y v u Q I b c q
def EM{op:CmpOp}{r:R2}(i:OpR X (dc op) r)(e:PE X a ta)(f:PE X b tb)(g:ph op b=false):PE X (.Compare a [op] [b] pos) (tOp r ta tb):=by intro j s n H Q I h;exact wpAny_Compare1 (binT e f I h λv u m x y c d k l q=>i j m n c x y v u Q d k l q) g
def qB(t:TE):TT:=λσ H Q=>t σ H λx H'=>∃k,x=.bl k/\Q k H'
def EF{op:CmpOp}{r:R2}(t:OpR X (dc op) r)(o:PE X a ta)(p:PE X b tb)(q:ph op b=false):PT X (.Compare a [op] [b] pos) (qB (tOp r ta tb)):=by
 intro d s f H Q I h;refine wpAny_isTrue_Compare1 (thn (o d s f H _ I h) λv F ⟨x,g,l,C,w⟩=>thn (p d F f g _ l w) λu G ⟨y,i,m,D,A⟩=>
  thn (t d G f i x y v u _ m C D A) λc J ⟨z,j,n,E,k,e,B⟩=>?_) q
 subst e;cases E;exact dk (j,n,B,)
def uW(r r':R2)(ta tb tc:TE):TE:=λσ H Q=>ta σ H λx H1=>tb σ H1 λy H2=>r x y H2 λz a=>∃k,z=.bl k/\
 (if k=true then tc σ a λc b=>r' y c b Q else Q (.bl false) a)
def Jt{op i:CmpOp}{r r':R2}(F:OpR X (dc op) r)(G:OpR X (dc i) r')(B:PE X a ta)(C:PE X b tb)(D:PE X c tc)
  (E:lastMarks [op,i] [b,c]=false:=by with_unfolding_all rfl):PE X (.Compare a [op,i] [b,c] pos) (uW r r' ta tb tc):=by
 intro f s g H Q I h;refine Compare_chain (thn (B f s g H _ I h) λv P ⟨x,o,t,M,J⟩=>chain_link (thn (C f P g o _ t J) λu R ⟨y,p,w,n,K⟩=>
  thn (F f R g p x y v u _ w M n K) λd S ⟨z,j,l,N,k,e,m⟩=>?_)) E
 subst e;cases N;refine dk ?_;cases k with
 |false=>exact ite_ff (.bl false,j,l,rfl,m,)
 |true=>exact ite_tt (chain_last (thn (D f S g j _ l m) λU T ⟨V,q,A,O,L⟩=>G f T g q y V u U Q A n O L))
def IY{op i:CmpOp}{r r':R2}(J:OpR X (dc op) r)(K:OpR X (dc i) r')(D:PE X a ta)(E:PE X b tb)(F:PE X c tc)
  (G:lastMarks [op,i] [b,c]=false:=by with_unfolding_all rfl):PT X (.Compare a [op,i] [b,c] pos) (qB (uW r r' ta tb tc)):=by
 intro f s g H a1 I h;refine isTrue_chain (thn (D f s g H _ I h) λv U ⟨a0,o,w,Q,M⟩=>test_link (thn (E f U g o _ w M) λu V ⟨y,p,x,n,N⟩=>
  thn (J f V g p a0 y v u _ x Q n N) λd W ⟨a2,j,l,R,k,e,m⟩=>?_)) G
 subst e;cases R;refine dk ?_;cases k with
 |false=>obtain⟨k',B,L⟩:=m;cases B;exact ite_ff (j,l,L,)
 |true=>refine ite_tt (test_last (thn (F f W g j _ l m) λZ Y ⟨z',q,z,S,O⟩=>thn (K f Y g q y z' u Z _ z n S O) λd' s5 ⟨z2,t,A,T,k2,C,P⟩=>?_));subst C;cases T;exact dk (t,A,P,)
def TruV(K:ai)(x:V)(H:Hp)(k:Bool):Prop:=
 match x with
 |.non=>k=false
 |.bl b=>k=b
 |.int i=>k=(i != 0)
 |.str y=>y.length<=sizeLine/\k=((y.length:Int) != 0)
 |.byt y=>y.size<=sizeLine/\k=((y.size:Int) != 0)
 |.ref p=>(∃xs,SqL K H p xs/\k= !xs.isEmpty)\/(∃xs,SqT K H p xs/\k= !xs.isEmpty)\/∃kvs,H p<*(.dK kvs)/\k= !kvs.isEmpty
 |_=>False
def Dv{a:Type}{kvs:List (a×V)}{vs:List (a×Value)}(r:KV kvs vs):(!vs.isEmpty)= !kvs.isEmpty:=by cases r<;>rfl
def vD{xs:List V}(r:bZ xs its):(!its.toArray.isEmpty)= !xs.isEmpty:=by cases r<;>simp
def se:(sizeLine:Nat)<2^63:=by rw[gA];decide
def tru_ok:TruR X (λx H Q=>∃k,TruV X.K x H k/\Q k H):=by
 intro C s D H x v Q I f h;obtain⟨k,e,q⟩:=h;have A:=se;have B:sizeLine=16777216:=gA;cases x with
 |non=>cases f;have a:k=false:=e;subst a;exact truthy_none (H,I,q,)
 |bl b=>cases f;have a:k=b:=e;subst a;exact dk (H,I,q,)
 |int i=>obtain⟨t,rfl⟩:=f;have a:k=(i != 0):=e;subst a;exact PySem.P.truthy_int (H,I,q,)
 |str y=>obtain⟨t,rfl⟩:=f;obtain⟨w,a⟩:y.length<=sizeLine/\k=((y.length:Int) != 0):=e;subst a;exact PySem.P.truthy_str 'D' (H,I.tok _,q,)
 |byt y=>obtain⟨t,rfl⟩:=f;obtain⟨w,a⟩:y.size<=sizeLine/\k=((y.size:Int) != 0):=e;subst a;exact PySem.W.truthy_bytes 'D' (H,I.tok _,q,)
 |ref p=>
  cases f;have a:(∃c,SqL X.K H p c/\k= !c.isEmpty)\/(∃c,SqT X.K H p c/\k= !c.isEmpty)\/∃d,H p<*(.dK d)/\k= !d.isEmpty:=e;rcases a with⟨c,g,a⟩ |⟨c,g,a⟩ |⟨d,g,a⟩;·subst a;obtain⟨z,r,l,o⟩:=I.list g;have n:=r.length;exact wpAny_truthy_list l.isList (by simp only[aI];lia) ⟨H,I.tok _,by rw[vD r];exact q⟩
  .subst a;obtain⟨z,r,l,o⟩:=I.tuple g;have n:=r.length;exact truthy_tuple l (by simp only[aI];lia) ⟨H,I.tok _,by rw[vD r];exact q⟩
  .subst a;obtain⟨o,u,j,r,m⟩:d.length<=sizeLine/\(p==dA)=false/\∃j,KV d j/\s.heap.DictOf (bH X.prog X.w) p j:=I.hok p _ g;have n:d.length=j.length:=fg r;exact wpAny_truthy_dict u m 'D' ⟨H,I.tok _,by rw[Dv r];exact q⟩
 |_=>exact(show False from e).elim
def ko(f:PE X a ta)(g:∀c,isTrue a X.env c=(do let v<-c;Ft a.pos;holding [v] (truthy v))):
  PT X a (λσ H Q=>ta σ H λx H'=>∃k,TruV X.K x H' k/\Q k H'):=by
 intro b s σ H Q I h;exact isTrue_plain (thn (f b s σ H _ I h) λv l ⟨x,d,e,j,i⟩=>tru_ok b l σ d x v Q e j i) (g _)
def Di:OpR X (fO .Add) (λx y H Q=>∃i j,x=.str i/\y=.str j/\i.length+j.length<=sizeLine/\Q (.str (i++j)) H):=by intro e s g H x y v u Q I b c h;obtain⟨i,j,rfl,rfl,a,q⟩:=h;obtain⟨t,rfl⟩:=b;obtain⟨d,rfl⟩:=c;exact add_str (λd f=>(.str (i++j),H,I.tok _,(_,rfl,),q,)) a
def vals1{x:V}(r:bZ [x] us):∃u,us=[u]/\RelV x u:=by
 cases r with
 |cons r1 r2=>cases r2;exact(_,rfl,r1,)
def vals2{x y:V}(r:bZ [x,y] us):∃u a,us=[u,a]/\RelV x u/\RelV y a:=by
 cases r with
 |cons r1 r2=>
  cases r2 with
  |cons r3 r4=>cases r4;exact(_,_,rfl,r1,r3,)
def GQ(a:X.calm=true):fU X (.builtin "max") (λxs H Q=>∃i j,xs=[.int i,.int j]/\Q (.int (if j>i then j else i)) H):=by
 intro c s l H xs f Q I r h;obtain⟨i,j,rfl,q⟩:=h;obtain⟨u,g,rfl,⟨t,rfl⟩,⟨d,rfl⟩⟩:=vals2 r;refine max_two_ints (I.ok.hd a) λb e k=>(_,H,I.kept k,?_,q,);by_cases hj:j>i;·rw[if_pos hj,if_pos hj];exact(_,rfl,)
 .rw[if_neg hj,if_neg hj];exact(_,rfl,)
def GP(a:X.calm=true):fU X (.builtin "min") (λxs H Q=>∃i j,xs=[.int i,.int j]/\Q (.int (if j<i then j else i)) H):=by
 intro c s l H xs f Q I r h;obtain⟨i,j,rfl,q⟩:=h;obtain⟨u,g,rfl,⟨t,rfl⟩,⟨d,rfl⟩⟩:=vals2 r;refine min_two_ints (I.ok.hd a) λb e k=>(_,H,I.kept k,?_,q,);by_cases hj:j<i;·rw[if_pos hj,if_pos hj];exact(_,rfl,)
 .rw[if_neg hj,if_neg hj];exact(_,rfl,)
def GS:fU X (.type "int") (λxs H Q=>(∃i,xs=[.int i]/\Q (.int i) H)\/∃k,xs=[.bl k]/\Q (.int (if k then 1 else 0)) H):=by
 intro b s d H xs c Q I r h;rcases h with⟨i,rfl,q⟩ |⟨k,rfl,q⟩;·obtain⟨u,rfl,t,rfl⟩:=vals1 r;exact call_int_int (.int i,H,I,(_,rfl,),q,)
 .obtain⟨u,rfl,a⟩:=vals1 r;cases a;exact call_int_bool (.int (if k then 1 else 0),H,I.tok _,(_,rfl,),q,)
end
structure ObjM(h:Heap)(x dx C:Addr)(mA:Str->Option Value):Prop where
 obj:h.get? x<*(wy C dx)
 ns:h.Ns1 dx mA
 ne:dx≠x
def Gx(n:h.Ns1 dx mA):∃od,h.get? dx<*od/\∀name,xn name od<*(mA name):=by
 obtain⟨o,b,l,j,d,f,_,i⟩:=n;refine(o,j,λname=>?_,);have e:=i name;unfold nsFind findBy at e;rw[<-sV]at e;unfold xn;rw[d];dsimp only;split;·rename_i y q;rw[q]at e;exact congrArg some e
 .rename_i q;rw[q]at e;have a:b.toList.any (·.refKey)=false:=by rw[List.any_eq_false];intro y k;obtain⟨z,t,g⟩:=f y (Hn.mp k);simp[eV.refKey,g]
  have c:¬b.toList.any (·.refKey)=true:=by rw[a];exact be
  rw[if_neg c];exact congrArg some e
def ObjM.look{x:Addr}(I:ObjM h x dx C mA):∃od,PySem.W.InstAt h x (wy C dx) C (some od)/\∀name,xn name od<*(mA name):=
 let⟨od,ho,hl⟩:=Gx I.ns
 (od,(I.obj,rfl,rfl,ho,),hl,)
abbrev uc(f:Str)(v:V):List (Str×V)->List (Str×V)
 | []=>[(f,v)]
 | (g,x)::r=>if g=f then(g,v)::r else(g,x)::uc f v r
theorem tu(f g:Str)(v:V):∀fs:List (Str×V),(uc f v fs).lookup g=if g=f then some v else fs.lookup g
 | []=>by
  show dG g [(f,v)]=_;by_cases h:g=f;·have a:(g==f)=true:=beq_iff_eq.mpr h;simp only[dG,a,if_pos h]
  .have a:(g==f)=false:=beq_eq_false_iff_ne.mpr h;simp only[dG,a,if_neg h]
 | (k,x)::r=>by
  have b:=tu f g v r;rw[show uc f v ((k,x)::r)=(if k=f then(k,v)::r else(k,x)::uc f v r)from rfl];by_cases hk:k=f
  .rw[if_pos hk];by_cases h:g=k;·have a:(g==k)=true:=beq_iff_eq.mpr h;simp only[dG,a,if_pos (h.trans hk)]
   .have a:(g==k)=false:=beq_eq_false_iff_ne.mpr h;simp only[dG,a,if_neg (λe:g=f=>h (e.trans hk.symm))]
  .rw[if_neg hk];by_cases h:g=k;·have a:(g==k)=true:=beq_iff_eq.mpr h;simp only[dG,a,if_neg (λe:g=f=>hk (h.symm.trans e))]
   .have a:(g==k)=false:=beq_eq_false_iff_ne.mpr h;simp only[dG,a];exact b
theorem sf(f:Str)(v:V):∀fs:List (Str×V),f∈(uc f v fs).map (·.1)/\∀g,g∈fs.map (·.1)->g∈(uc f v fs).map (·.1)
 | []=>⟨by simp[uc],λg h=>by simp at h⟩
 | (k,x)::r=>by
  obtain⟨a,b⟩:=sf f v r;rw[show uc f v ((k,x)::r)=(if k=f then(k,v)::r else(k,x)::uc f v r)from rfl];by_cases hk:k=f;·rw[if_pos hk];subst hk;exact('F',λg h=>by simpa using h,)
  .rw[if_neg hk];refine(?_,λg h=>?_,);·rw[bw];exact aB _ a
   .rw[bw]at h⊢;rcases aG.mp h with e|e;·exact aG.mpr (.inl e)
    .exact aB _ (b g e)
def oz.some_of{v:V}{o:Option Value}(r:oz (some v) o):∃u,o<*u/\RelV v u:=by
 cases o with
 |none=>exact(show False from r).elim
 |some u=>exact(u,rfl,r,)
section
variable {H H':Hp}{a C dx:Addr}{fs fs':List (Str×V)}
def ins_get(b:HOk P w H h)(e:H a<*(.ins C dx fs)):∃mA,ObjM h a dx C mA/\(∀f,oz (fs.lookup f) (mA f))/\kM mA (fs.map (·.1))/\fs.length<=1000/\H dx<*(.own a):=by obtain⟨d,z,ne,c,mA,n,r,q⟩:=(show cX P w H h a (.ins C dx fs)from b a _ e);exact(mA,(c,n,ne,),r,q,z,d,)
end
structure Cls(K:ai)(C:Addr):Prop where
 pg:K0 K C Str.empty=true
 hd:PySem.W.hasDictIn K C=true
 po:PySem.W.plainOver K C=true
 sa:gF K (.ref C) "__setattr__"<*(some (.builtin "object.__setattr__"))
def Cls.get(c:Cls K C)(f:Str):K0 K C f=true:=c.pg
structure Meth(K:ai)(C:Addr)(m:Str)(f:Addr):Prop where
 at_:gF K (.ref C) m<*(some (.ref f))
 fn:PySem.W.isFn K (.ref f)=true
 kp:cF K (.ref f)=true
section
variable {X:Cx}{pins:List (Addr×Obj)}{σ:St}{H:Hp}{s:Shared}{E:'I'}{Q:'I'}{c:Value}{b:Bool}
inductive nH (K:ai) (H:Hp):V->Value->Prop where
 |non:nH K H .non (.type "NoneType")
 |bl (x:Bool):nH K H (.bl x) (.type "bool")
 |int (i:Int):nH K H (.int i) (.type "int")
 |str (x:Str):nH K H (.str x) (.type "str")
 |flt (x:UInt64):nH K H (.flt x) (.type "float")
 |lst {a:Addr} {xs:List V} (e:H a<*(.lst xs)):nH K H (.ref a) (.type "list")
 |frz {a:Addr} {o:Obj} {xs:List V} (e:H a<*(.frz o (.lst xs))):nH K H (.ref a) (.type "list")
 |tup {a:Addr} {xs:List V} (e:H a<*(.tup xs)):nH K H (.ref a) (.type "tuple")
 |dK {a:Addr} {kvs:List (Key×V)} (e:H a<*(.dK kvs)):nH K H (.ref a) (.type "dict")
 |dT {a:Addr} {kvs:List (List Key×V)} (e:H a<*(.dT kvs)):nH K H (.ref a) (.type "dict")
 |ins {a C dx:Addr} {fs:List (Str×V)} (e:H a<*(.ins C dx fs)) (cl:Cls K C) (ha:gF K (.ref C) "__class__"<*(some (.builtin "object.__class__")))
   (hn:Ho K (.builtin "object.__class__") "__get__"<*(some (.builtin "getset_descriptor.__get__"))) (htk:PySem.W.takesIn K (.builtin "object.__class__")<*true)
   (hm:zZ K C (.type "object")<*true):nH K H (.ref a) (.ref C)
def xW{x:V}{t:Value}(I:'A')(d:RelV x u)(ty:nH X.K H x t)(e:bK X.K t c<*b)(h:∀m,Q (.bool b) {s with toks:=m}):
  wpAny (model X.prog X.w) A (call (.builtin "isinstance") [u,c]) Q E s:=by
 cases ty with
 |non=>cases(show u=cf from d);exact dg PySem.W.kitx_none I.kIn True.intro e (λz=>nomatch z) h
 |bl y=>cases(show u=sN y from d);exact dg PySem.W.kitx_bool I.kIn True.intro e (λz=>nomatch z) h
 |int i=>obtain⟨t,q⟩:=(show ∃t,u=Cc i t from d);cases q;exact dg PySem.W.kitx_int I.kIn True.intro e (λz=>nomatch z) h
 |str y=>obtain⟨t,q⟩:=(show ∃t,u=k8 y t from d);cases q;exact dg PySem.W.kitx_str I.kIn True.intro e (λz=>nomatch z) h
 |flt y=>obtain⟨t,q⟩:=(show ∃t,u=Value.float y t from d);cases q;exact dg PySem.W.kitx_float I.kIn True.intro e (λz=>nomatch z) h
 | @lst a g ea=>cases(show u=bo a from d);obtain⟨_,_,n,_,f⟩:=(show cX X.prog X.w H s.heap a (.lst g)from I.hok a _ ea);exact dg Hq I.kIn (_,f,rfl,) e (λz=>nomatch z) h
 | @frz a ob g ea=>cases(show u=bo a from d);obtain⟨_,_,_,n,_,f⟩:=(show cX X.prog X.w H s.heap a (.frz ob (.lst g))from I.hok a _ ea);exact dg Hq I.kIn (_,f,rfl,) e (λz=>nomatch z) h
 | @tup a g ea=>cases(show u=bo a from d);obtain⟨_,_,_,p⟩:=(show cX X.prog X.w H s.heap a (.tup g)from I.hok a _ ea);obtain⟨o,f,j,_⟩:=p;exact dg PySem.W.kitx_tuple I.kIn (o,f,j,) e (λz=>nomatch z) h
 | @dK a kvs ea=>cases(show u=bo a from d);obtain⟨_,_,w,_,p⟩:=(show cX X.prog X.w H s.heap a (.dK kvs)from I.hok a _ ea);obtain⟨o,l,k,f,j,_⟩:=p;exact dg sQ I.kIn (o,f,j.1,) e (λz=>nomatch z) h
 | @dT a kvs ea=>cases(show u=bo a from d);obtain⟨_,_,g,_,o,l,k,f,j,_⟩:=(show cX X.prog X.w H s.heap a (.dT kvs)from I.hok a _ ea);exact dg sQ I.kIn (o,f,j.1,) e (λz=>nomatch z) h
 | @ins a C dx fs ea cl ha hn htk hm=>cases(show u=bo a from d);obtain⟨r,O,_⟩:=ins_get I.hok ea;obtain⟨v,J,_⟩:=O.look;exact dg (PySem.W.kitx_own (cl.get _) cl.hd ha hn htk hm) I.kIn J e (λz=>nomatch z) h
end
structure jk(k:Nat)(A:Around):Prop where
 hd:A.handled=none
 dp:A.depth+3*k+5<recursionLimit
 un:A.units+16*k+200<cLine
def jk.mono{k:Nat}(r:jk k A)(h:j<=k):jk j A:=(r.hd,by have :=r.dp;lia,by have :=r.un;lia,)
theorem jk.deeper{k:Nat}(r:jk (k+1) A)(env:Env):jk k (A.deeper env):=
 (r.hd,by have :=r.dp;show A.depth+1+3*k+5<_;lia,by have :=r.un;show A.units+3+16*k+200<_;lia,)
def Dm{a:List (Str×Value)}:(A.under (.builtin "type.__call__" (.ref C::us,a,))).depth=A.depth+1:=by first |rfl|simp[Cq,Code.weight,Code.isCreation,Code.isGuard,Code.isCaller,Code.frames,FE,guardIds]
def Dl{a:List (Str×Value)}:(A.under (.builtin "type.__call__" (.ref C::us,a,))).units=A.units+1:=by first |rfl|simp[Cq,Code.cUnits,Code.frames,FE]
def jk.make{k:Nat}(r:jk (k+1) A)(C:Addr)(us:List Value)(a:List (Str×Value)):jk k (A.under (.builtin "type.__call__" (.ref C::us,a,))):=
 ⟨r.hd,by have :=r.dp;rw[Dm];lia,by have :=r.un;rw[Dl];lia⟩
theorem jk.depth{k:Nat}(r:jk k A):A.depth<recursionLimit:=by have :=r.dp;lia
theorem jk.units{k:Nat}(r:jk k A):A.units+64<cLine:=by have :=r.un;lia
def pT:TA:=λ_ H Q=>Q [] H
def jt(ta:TE)(a:TA):TA:=λσ H Q=>ta σ H λx H1=>a σ H1 λxs H2=>Q (x::xs) H2
section
variable {X:Cx}{es:List Expr}{te:TE}{t:TA}
def kq:PA X [] pT:=λ_ _ _ _ H Q I h=>Calls.spliced_nil ([],H,I,.nil,h,)
def gf(j:PE X e te)(k:PA X es t)(l:bx (e::es) X.env=(false,eval e X.env)::bx es X.env:=by rfl):PA X (e::es) (jt te t):=by intro b a s c H Q I h;rw[l];show wpAny _ _ (spliced ((false,eval e X.env)::backTo b (bx es X.env))) _ _ s;refine i4 (thn (j a s c H _ I h) λu q ⟨x,d,g,o,m⟩=>?_);exact thn (k b a q c d _ g m) λw v ⟨r,f,i,p,n⟩=>(x::r,f,i,.cons o p,n,)
def tTup(t:TA):TE:=λσ H Q=>t σ H λxs H1=>xs.length<=sizeLine/\∀p,H1 p=none->Q (.ref p) (upd H1 p (.tup xs))
def tLst(t:TA):TE:=λσ H Q=>t σ H λxs H1=>xs.length<=sizeLine/\∀p,H1 p=none->Q (.ref p) (upd H1 p (.lst xs))
def Jk{x1}(h:PA X es t):PE X (.Tuple es x1 pos) (tTup t):=by intro i s l H Q I g;refine wpAny_Tuple_spliced (thn (h pos i s l H _ I g) λj a ⟨k,c,d,r,z,q⟩=>(by rw[<-r.length];exact z,?_,));have f:c ⇑a=none:=d.hok.fresh (aE _);refine(.ref ⇑a,upd c ⇑a (.tup k),d.laid (t':=a.toks) (λb u e=>af _ e) (aE _) ?_,rfl,q _ f,);exact(z,j,r,(_,aF _ rfl,rfl,_,rfl,),)
def Jp(h:PA X es t):PE X (.List es pos) (tLst t):=by intro i s l H Q I g;refine wpAny_List_spliced (thn (h pos i s l H _ I g) λj a ⟨k,c,d,r,z,q⟩=>(by rw[<-r.length];exact z,?_,));have f:c ⇑a=none:=d.hok.fresh (aE _);refine(.ref ⇑a,upd c ⇑a (.lst k),d.laid (t':=a.toks) (λb u e=>af _ e) (aE _) ?_,rfl,q _ f,);exact(z,j,0,r,aF _ rfl,)
end
noncomputable abbrev Sp:=List V->Hp->VK->XK->Prop
noncomputable abbrev CXT:=List Env->Hp->Shared->XK->Value->Shared->Prop
structure DZ(P:Program)(w:World)(K:ai)(mg:Str->Option Value)(base:Heap)(A:Around)(outer:List Env)(s:Shared)(H:Hp):Prop where
 frames:A.frames<*outer
 mod:Mod K mg base
 bs:∀b o,base.get? b<*o->s.heap.get? b<*o/\H b=none
 bsz:base.objs.size<=⇑s
 vK:s.heap.FunFrames base outer
 frf:∀b∈frs outer,H b=none
 hok:HOk P w H s.heap
 bare:o7 s.gens
def CE(a:List Env)(P:Program)(w:World)(H:Hp)(s:Shared)(Q:VK)(u:Value)(s':Shared):Prop:=
 ∃v H',s'.os=s.os/\o7 s'.gens/\Un (frs a) [] H H' s.heap s'.heap/\HOk P w H' s'.heap/\RelV v u/\Q v H'
def CR(CX:CXT)(a:List Env)(P:Program)(w:World)(H:Hp)(s:Shared)(Q:VK)(E:XK)(r:Result)(s':Shared):Prop:=
 match r with
 |.ok (.ret u)=>CE a P w H s Q u s'
 |.ok _=>False
 |.error e=>CX a H s E e s'
structure jO(P:Program)(w:World)(K:ai)(mg:Str->Option Value)(base:Heap)(CX:CXT)(k:Nat)(f:Addr)(fd:gp)(ps:List Str)(sp:Sp):Prop where
 len:∀vs H Q E,sp vs H Q E->vs.length=ps.length
 run:∀(A:Around)(outer:List Env)(s:Shared)(H:Hp)(args:Args)(us:List Value)(vs:List V)(Q:VK)(E:XK),jk k A->DZ P w K mg base A outer s H->BindsTo s fd args (ps.zip us)->bZ vs us->sp vs H Q E->
  gh (model P w) A (.call (.ref f) args) (CR CX outer P w H s Q E) s
def DZ.make{a:List Env}{H:Hp}(e:DZ P w K mg base A a s H)(C:Addr)(us:List Value)(b:List (Str×Value)):
  DZ P w K mg base (A.under (.builtin "type.__call__" (.ref C::us,b,))) a s H:=(by first |exact e.frames| (simpa[Cq,Code.envs,FE,pushEnvs]using e.frames),e.mod,e.bs,e.bsz,e.vK,e.frf,e.hok,e.bare,)
section
variable {X:Cx}{pins:List (Addr×Obj)}{σ:St}{H:Hp}{s s':Shared}
def Inv.env0(I:'A'):DZ X.prog X.w X.K X.mg X.base X.A X.stack s H:=
 (I.ok.frames,I.ok.mod,I.bs,aR I.ok.bsz I.sz,I.stack,I.yH,I.hok,I.bare,)
def Inv.after{Q:VK}(I:'A')(h:CE X.stack X.prog X.w H s Q u s'):EP X pins σ Q u s':=by obtain⟨v,a,i,c,un,f,r,q⟩:=h;obtain⟨e,g,d,t,j⟩:=s';obtain rfl:j=s.os:=i;exact(v,a,I.call (h':=e) (g':=g) (d':=d) (t':=t) (ch:=[]) un f c (λb z=>absurd z 'F'),r,q,)
end
def Az(sp:Sp)(ak:List V)(E:XK)(t:TA):TE:=λσ H Q=>t σ H λvs H1=>sp (vs++ak) H1 Q E
def Binds(K:ai)(fd:gp)(ps:List Str)(ds:List Value):Prop:=
 ∀(s:Shared)(us:List Value),K.In s.heap->(us++ds).length=ps.length->BindsTo s fd (us,[],) (ps.zip (us++ds))
def Binds.all{a:gp}(h:∀us:List Value,us.length=ps.length->bindArgs a (us,[],)=pure (ps.zip us)):Binds K a ps []:=λs us _ b=>by rw[kH]at b⊢;exact .of_eq (h us b)
section
variable {X:Cx}{CX:CXT}{k:Nat}{f C:Addr}{fd:gp}{sp:Sp}{ak:List V}{ds:List Value}{E:XK}{m:Str}{apos:Pos}{o:Expr}{es:List Expr}{ta:TE}{t:TA}
structure Mk(K:ai)(C f:Addr):Prop where
 makes:PySem.W.makesIn K C=true
 init:gF K (.ref C) "__init__"<*(some (.ref f))
 fn:PySem.W.isFn K (.ref f)=true
 kp:cF K (.ref C)=true
end
structure uK(N P:List Str)(sc:Scope):Prop where
 kind:sc.kind=.function
 co:sc.isCoroutine=false
 gen:sc.isGenerator=false
 nd:N.Nodup
 pre:N.take P.length=P
 par:∀x∈P,sc.names.lookup x<*.local\/sc.names.lookup x<*.cell
 nofree:∀y∈sc.names,y.2≠.free
theorem ym{b:Str->Option eQ}:∀{binds:List (Str×Value)}{m:Str->Option Value},(∀v,(x,v)∉binds)->bindL b binds m x=m x
 | [],_,_=>rfl
 | (n,v)::r,m,h=>by
  unfold bindL;rw[ym λw a=>h w (aB _ a)];split
  .have :x≠n:=by rintro rfl;exact h v aw
   simp[this]
  .rfl
theorem yo{b:Str->Option eQ}:∀{binds:List (Str×Value)}{m:Str->Option Value},(∀v,(x,v)∉binds)->bindC b binds m x=m x
 | [],_,_=>rfl
 | (n,v)::r,m,h=>by
  unfold bindC;rw[yo λw a=>h w (aB _ a)];split;·rfl
  .have :x≠n:=by rintro rfl;exact h v aw
   simp[this]
theorem yn{a:Str->Option eQ}:∀{P:List Str}{vs:List Value}{i:Nat}{m:Str->Option Value},P.Nodup->P[i]?<*x->vs[i]?<*v->a x<*.local->
  bindL a (P.zip vs) m x<*v
 | [],_,_,_,_,h,_,_=>by simp at h
 |_::_,[],_,_,_,_,h,_=>by simp at h
 |p::P,w::vs,0,m,nd,h1,h2,hk=>by simp at h1 h2;subst h1;subst h2;show bindL a ((p,w)::P.zip vs) m p=_;unfold bindL;rw[ym λv b=>(eA.mp nd).1 (yv b).1,if_pos hk];simp
 |p::P,w::vs,i+1,m,nd,h1,h2,hk=>by show bindL a ((p,w)::P.zip vs) m x=_;unfold bindL;exact yn (i:=i) (eA.mp nd).2 ↥h1 ↥h2 hk
theorem yp{a:Str->Option eQ}:∀{P:List Str}{vs:List Value}{i:Nat}{m:Str->Option Value},P.Nodup->P[i]?<*x->vs[i]?<*v->a x≠some .local->
  bindC a (P.zip vs) m x<*v
 | [],_,_,_,_,h,_,_=>by simp at h
 |_::_,[],_,_,_,_,h,_=>by simp at h
 |p::P,w::vs,0,m,nd,h1,h2,hk=>by simp at h1 h2;subst h1;subst h2;show bindC a ((p,w)::P.zip vs) m p=_;unfold bindC;rw[yo λv b=>(eA.mp nd).1 (yv b).1,if_neg hk];simp
 |p::P,w::vs,i+1,m,nd,h1,h2,hk=>by show bindC a ((p,w)::P.zip vs) m x=_;unfold bindC;exact yp (i:=i) (eA.mp nd).2 ↥h1 ↥h2 hk
abbrev start(N:List Str)(vs:List V):St:=vs.map some++bL (N.length-vs.length) none
abbrev zB(CX:CXT)(P:Program)(w:World)(K:ai)(mg:Str->Option Value)(base:Heap)(N:List Str)(ao:Str)(scope:Scope)(f:Addr)(cd:Value)(A:Around)(outer:List Env)(s:Shared)(H:Hp)(E:XK):Cx where
 prog:=P
 w:=w
 K:=K
 mg:=mg
 base:=base
 A:=A.deeper (envOfC ao scope ⇑s f cd)
 N:=N
 s₀:=s
 H₀:=H
 env:=envOfC ao scope ⇑s f cd
 outer:=outer
 stack:=envOfC ao scope ⇑s f cd::outer
 ex:=[]
 calm:=true
 fn:=λ_=>true
 pn:=[]
 xe:=λe s'=>wpAny (model P w) (A.deeper (envOfC ao scope ⇑s f cd)) (leaving (envOfC ao scope ⇑s f cd) e) (λ_ a=>CX outer H s E e a) (λb a=>CX outer H s E b a) s'
def BO(h:sc.names.lookup x<*.cell):∃c,(cM n sc.names []).lookup x<*c:=by have q:=B7 sc.names n [] (.inl h);exact cW.mp q
def GD{CX:CXT}{t:List Env}{F:Shared}{H:Hp}{E:XK}{vs:List V}
  (S:uK N ps scope)(I:A.handled=none)(g:DZ P w K mg base A t s H)(L:vs.length=ps.length)(r:bZ vs us)
  (x:InCallC s ⇑s (bindL (envOfC ao scope ⇑s f cd).kindOf (ps.zip us) λ_=>none) (cM (⇑s+1) scope.names []) (bindC (envOfC ao scope ⇑s f cd).kindOf (ps.zip us) λ_=>none) F):
  Inv (zB CX P w K mg base N ao scope f cd A t s H E) [] (start N vs) H F:=by
 have M:ps.length<=N.length:=by have :=congrArg kg S.pre;rw[aM]at this;lia
 obtain⟨l,O,rfl,B⟩:=x.done;have o:∀b:Addr,b∉(zB CX P w K mg base N ao scope f cd A t s H E).ex:=λb z=>absurd (show b∈([]:List Addr)from z) 'F';refine((g.mod,S.kind,rfl,rfl,aE _,λy z c l d=>?_,λy hy=>?_,λy c _ h=>?_,λ_=>I,Around.frames_deeper g.frames,.inr (rfl,rfl,),λb z=>absurd z (o b),g.bs,g.bsz,λb _ _=>o b,λb z=>absurd z (o b),g.vK,g.frf,),
  rfl,g.bare,Un.kept B,(_,x.toInCall.ns,λi y v l d J=>?_,),λy c h=>(_,x.cell y c h,),g.hok.fresh (aE _),λy c h=>?_,λp j=>absurd (show p∈([]:List (Addr×Obj))from j) 'F',g.hok.kept B,?_,)
 .exact name_of_addr x.apart (bJ l) (bJ d)
 .have hy:scope.names.lookup y<*.cell\/scope.names.lookup y<*.free:=hy;rcases hy with hy|hy;·exact BO hy
  .exact absurd rfl (S.nofree _ (bJ hy))
 .exact iG (x.above y c (bJ h))
 .have m:i<vs.length:=by
   unfold start at d;by_cases m:i<vs.length;·exact m
   .rw[eh ↥m]at d;rw[List.getElem?_replicate]at d;split at d<;>cases d
  have G:vs[i]?<*v:=by
   unfold start at d;rw[iH ↥m,bP]at d;cases e:vs[i]? with
   |none=>rw[e]at d;cases d
   |some a=>rw[e]at d;cases d;rfl
  obtain⟨u,C,rv⟩:=r.get G;have j:ps[i]?<*y:=by rw[<-S.pre,Cn 'D'];exact l
  have D:ps.Nodup:=by rw[<-S.pre];exact S.nd.sublist (gG _ _)
  refine(u,rv,?_,);rcases S.par y (bS j)with k|k;·exact .inl (k,yn D j C k,)
  .obtain⟨c,e⟩:=BO (n:=⇑s+1) k;refine .inr (.inl k,c,e,?_,);have q:=x.cell y c e;rw[yp D j C (by show scope.names.lookup y≠_;rw[k];decide)]at q;exact q
 .exact g.hok.fresh (iG (x.above y c (bJ h)))
 .unfold start;show _=N.length;rw[aq,ah,gB];lia
def fn_of{CX:CXT}{k:Nat}{name:Str}{p:Arguments}{h:List Stmt}{kV:Value}{an:Option Addr}
  {sp:Sp}(lk:K.lookup f<*(oc,od,.func (aX name ao p h scope dV kV ap pm an am ct),az,))(F:fC K am ao=true)(S:uK N ps scope)
  (len:∀vs H Q E,sp vs H Q E->vs.length=ps.length)
  (D:∀(A:Around)(c:List Env)(s:Shared)(H:Hp)(vs:List V)(Q:VK)(E:XK),jk k (A.deeper (envOfC ao scope ⇑s f am))->sp vs H Q E->
   ∃t,PSs (zB CX P w K mg base N ao scope f am A c s H E) h t/\t {nx:=λ_ H'=>Q .non H',rt:=Q} (start N vs) H):
  jO P w K mg base CX (k+1) f (aX name ao p h scope dV kV ap pm an am ct) ps sp:=by
 refine(len,λA c s H X W vs Q E i d C r m=>?_,);have M:=len _ _ _ _ m;have l:K.In s.heap:=d.mod.kin.keeps λb o e=>(d.bs b o e).1;have U:s.heap.NoLimit:=d.mod.nolimit.keeps λb o e=>(d.bs b o e).1;have L:∀y∈ps.zip W,scope.names.lookup y.1<*.local\/(scope.names.lookup y.1<*.cell/\((cM (⇑s+1) scope.names []).lookup y.1).isSome=true):=λ⟨n,v⟩ T=>by
  rcases S.par n (yv T).1 with q|q;·exact .inl q
  .exact .inr (q,B7 _ _ _ (.inl q),)
 refine codeAny_call_function i.depth (l _ _ lk) rfl S.co S.gen rfl (PySem.W.codeRec_of l F) (C _ _ _ _ ?_);refine wpAny_newFunctionEnv_cells S.kind L λY G z x=>?_;subst G;refine(U.keeps x.toInCall.keep,codeAny_func ?_,);obtain⟨t,R,O⟩:=D A c s H vs Q E (i.deeper _) m;have I:Inv (zB CX P w K mg base N ao scope f am A c s H E) [] (start N vs) H z:=GD S i.hd d M r x;refine cE (R [] z (start N vs) H _ I O) (λB j a=>?_) λe j a=>a;have fin:∀{g:St}{H':Hp}{v:V}{u:Value},Inv (zB CX P w K mg base N ao scope f am A c s H E) [] g H' j->RelV v u->Q v H'->CE c P w H s Q u j:=
  λ{g H' v u} J rv q=>(v,H',J.os,J.bare,J.base,J.hok,rv,q,)
 cases B with
 |ret u=>obtain⟨v,g,H',J,rv,q⟩:=a;exact fin J rv q
 |next =>obtain⟨g,H',J,q⟩:=a;exact fin (v:=V.non) (u:=cf) J rfl q
 |brk=>obtain⟨_,_,_,q⟩:=a;exact gU q
 |cont=>obtain⟨_,_,_,q⟩:=a;exact gU q
section
variable {X:Cx}{es:List Expr}{t:TA}{id T:String}{r:List V->Hp->VK->Prop}
def tCB(r:List V->Hp->VK->Prop)(t:TA):TE:=λσ H Q=>t σ H λvs H1=>r vs H1 Q
def Jv(g:fU X (.builtin id) r)(k:Gl X x)(l:X.mg x=none)(o:eY x<*(.builtin id))(f:PA X (e::es) t)(m:x≠"__name__":=by decide) (i:(x==("__debug__":Str))=false:=by decide)
  (j:bx (e::es) X.env=(false,eval e X.env)::bx es X.env:=by rfl) (n:(backTo pos (bx es X.env)).any (·.1)=false:=by rfl):PE X (.Call (.Name x p) (e::es) [] pos) (tCB r t):=by
 intro a s b H Q I h;refine gE (jj I k l o ?_ m i);exact i6 (thn (f pos a s b H _ I h) λw v ⟨y,c,d,u,q⟩=>g a v b c y w Q d u q) j n
def Gf(g:fU X (.type T) r)(k:Gl X x)(l:X.mg x=none)(o:eY x<*(.type T))(f:PA X (e::es) t)(m:x≠"__name__":=by decide) (i:(x==("__debug__":Str))=false:=by decide)
  (j:bx (e::es) X.env=(false,eval e X.env)::bx es X.env:=by rfl) (n:(backTo pos (bx es X.env)).any (·.1)=false:=by rfl):PE X (.Call (.Name x p) (e::es) [] pos) (tCB r t):=by
 intro a s b H Q I h;refine gE (jj I k l o ?_ m i);exact bT (thn (f pos a s b H _ I h) λw v ⟨y,c,d,u,q⟩=>g a v b c y w Q d u q) j n
end
end L2
variable {X:L2.Cx}{H H' H1 H2:L2.Hp}{σ τ0:L2.St}{y:L2.V}{ak os xs ys zs:List L2.V}
namespace HT
section
open PySem.SeqAt
open PySem.AutoSeq1 (wpAny_loadPart')
open PySem.MeetsSeq PySem.MeetsSeq2 PySem.MeetsSeq3
end
section
variable {E:'I'}{s:Shared}
abbrev sIx(n d:Nat):Option Int->Nat
 |none=>d
 |some v=>if v<0 then(v+(n:Int)).toNat else min v.toNat n
theorem u5(n d:Nat):sIx n d none=d:=rfl
def yR(n d k:Nat):sIx n d (some (k:Int))=min k n:=by show(if(k:Int)<0 then((k:Int)+(n:Int)).toNat else min (k:Int).toNat n)=min k n;rw[if_neg 'D',gN]
def Iu(n d:Nat)(a:d<=n)(o:Option Int):sIx n d o<=n:=by
 cases o with
 |none=>exact a
 |some v=>
  show(if v<0 then(v+(n:Int)).toNat else min v.toNat n)<=n;by_cases hv:v<0;·rw[if_pos hv];lia
  .rw[if_neg hv];exact iE _ _
def clip_eq(v:Int)(n d:Nat):(if v<0 then max (v+(n:Int)) 0 else min v (n:Int))=((sIx n d (some v):Nat):Int):=by
 show(if v<0 then max (v+(n:Int)) 0 else min v (n:Int))=(((if v<0 then(v+(n:Int)).toNat else min v.toNat n):Nat):Int);by_cases hv:v<0;·simp only[if_pos hv];lia
 .simp only[if_neg hv];lia
end
end HT
namespace L2
noncomputable abbrev TO:=St->Hp->(Option Int->Hp->Prop)->Prop
def PO(X:Cx)(e:Option Expr)(t:TO):Prop:=
 ∀(pins:List (Addr×Obj))(s:Shared)(σ:St)(H:Hp)(Q:Option Int->Hp->Prop),'A'->t σ H Q->
  'C' (evalPart e X.env) (λu s'=>∃o H',Inv X pins σ H' s'/\IsPart u o/\Q o H') X.xe s
def qC:TO:=λ_ H Q=>Q none H
def Ax(t:TE):TO:=λσ H Q=>t σ H λx H1=>∃i,x=.int i/\Q (some i) H1
section
variable {te:TE}{lo hi:Option Expr}{tl th:TO}{p2:Pos}
def po_none:PO X none qC:=by intro a s b H Q I h;rw[evalPart_none];exact ag (none,H,I,.none,h,)
def po_some(h:PE X e te):PO X (some e) (Ax te):=by intro d s j H Q I c;rw[evalPart_some];refine thn (h d s j H _ I c) λu k ⟨x,a,b,g,f⟩=>?_;obtain⟨i,rfl,q⟩:=f;obtain⟨t,rfl⟩:=g;exact(some i,a,b,.int i t,q,)
def SlR(X:Cx)(r:V->Option Int->Option Int->Hp->VK->Prop):Prop:=
 ∀(pins:List (Addr×Obj))(s:Shared)(σ:St)(H:Hp)(x:V)(v a b:Value)(lo hi:Option Int)(sl:Addr)(Q:VK),'A'->RelV x v->s.heap.IsSliceOf sl a b .none->IsPart a lo->IsPart b hi->r x lo hi H Q->
  ∃T id,xm (.type T) "__getitem__"=pure (some (.builtin id))/\s.TypeIs v T/\'C' (Fu v (.ref sl)) (EP X pins σ Q) X.xe s
def SlR.or{r r':V->Option Int->Option Int->Hp->VK->Prop}(h:SlR X r)(h':SlR X r'):SlR X (λx lo hi H Q=>r x lo hi H Q\/r' x lo hi H Q):=by
 intro b s j H x v g i lo hi f Q I e a c d q;rcases q with q|q;·exact h b s j H x v g i lo hi f Q I e a c d q
 .exact h' b s j H x v g i lo hi f Q I e a c d q
def tSl(r:V->Option Int->Option Int->Hp->VK->Prop)(te:TE)(tl th:TO):TE:=λσ H Q=>te σ H λx H1=>tl σ H1 λl H2=>th σ H2 λu a=>r x l u a Q
def Jm{r:V->Option Int->Option Int->Hp->VK->Prop}(z:SlR X r)(t:PE X e te)(y:PO X lo tl)(B:PO X hi th):PE X (.Subscript e (.Slice lo hi none p2) pos) (tSl r te tl th):=by intro c s d H Q I h;refine Subscript_ (thn (t c s d H _ I h) λv K ⟨x,i,k,J,E⟩=>?_);refine wpAny_Slice (thn (y c K d i _ k E) λf L ⟨l,j,m,C,F⟩=>thn (B c L d j _ m F) λvu a ⟨u,g,n,D,G⟩=>?_);rw[evalPart_none];refine ag ?_;have o:Inv X c d g {a with heap:=a.heap.push {cls:=.type "slice",data:=.fields #[f,vu,.none]}}:=n.kept (t':=a.toks) λb M q=>af _ q;obtain⟨T,id,p,A,w⟩:=z c {a with heap:=a.heap.push {cls:=.type "slice",data:=.fields #[f,vu,.none]}} d g x v f vu l u ⇑a Q o J (Heap.IsSliceOf.new ..) C D G;show 'C' (KW e (.Slice lo hi none p2) v (.ref ⇑a)) (EP X c d Q) X.xe {a with heap:=a.heap.push {cls:=.type "slice",data:=.fields #[f,vu,.none]}};exact tail_any (ops:=[.ref ⇑a,v]) A p w (by with_unfolding_all rfl)
abbrev zC(xs:List V)(lo hi:Option Int):List V:=(xs.drop (HT.sIx xs.length 0 lo)).take (HT.sIx xs.length xs.length hi-HT.sIx xs.length 0 lo)
def BJ(xs:List V)(lo hi:Option Int):(zC xs lo hi).length<=xs.length:=by unfold zC;rw[aM,bA];lia
end
abbrev ixN(n:Nat)(i:Int):Option Nat:=if 0<=i then(if i<n then some i.toNat else none)else if -(n:Int)<=i then some (i+n).toNat else none
abbrev atI{a:Type}(xs:List a)(i:Int):Option a:=(ixN xs.length i).bind λj=>xs[j]?
def ixN_seq{i:Int}(h:ixN n i<*j):seqIndex? i n<*j/\j<n∧-(n:Int)<=i/\i<n:=by
 unfold ixN at h;by_cases h0:0<=i
 .rw[if_pos h0]at h;by_cases h1:i<n;·rw[if_pos h1]at h;have e:i.toNat=j:=bC h;exact(by rw[seqIndex_of h0 h1,e],'D','D',h1,)
  .rw[if_neg h1]at h;cases h
 .rw[if_neg h0]at h;by_cases h1: -(n:Int)<=i;·rw[if_pos h1]at h;have e:(i+n).toNat=j:=bC h;exact(by rw[seqIndex_neg 'D' h1,e],'D',h1,'D',)
  .rw[if_neg h1]at h;cases h
def zO{a:Type}{xs:List a}{i:Int}{v:a}(h:atI xs i<*v):∃j,seqIndex? i xs.length<*j/\xs[j]?<*v/\j<xs.length∧-(xs.length:Int)<=i/\i<xs.length:=by
 unfold atI at h;cases e:ixN xs.length i with
 |none=>rw[e]at h;cases h
 |some j=>rw[e]at h;obtain⟨b,c,d,f⟩:=ixN_seq e;exact(j,b,h,c,d,f,)
def hZ{a:Type}{xs:List a}{v:a}(h:xs[j]?<*v):atI xs (j:Int)<*v:=by
 have b:j<xs.length:=(bp.mp h).1;have e:ixN xs.length (j:Int)<*j:=by unfold ixN;rw[if_pos 'D',if_pos 'D'];simp
 unfold atI;rw[e];exact h
def KJ{a:Type}(xs:List a)(v:a):atI (xs++[v]) (-1)<*v:=by
 have b:(xs++[v]).length=xs.length+1:=by simp
 have e:ixN (xs++[v]).length (-1)<*xs.length:=by unfold ixN;rw[b,if_neg 'E',if_pos 'D'];congr 1;lia
 unfold atI;rw[e];show(xs++[v])[xs.length]?<*v;simp
def Fq(b:Expr):Prop:=∀o i,subscripted b false o i=operate [o,i] (Fu o i)
def IxR(X:Cx)(r:R2):Prop:=
 ∀(value a:Expr)(pins:List (Addr×Obj))(s:Shared)(σ:St)(H:Hp)(x y:V)(v u:Value)(Q:VK),'A'->RelV x v->RelV y u->r x y H Q->
  subscripted a false v u=operate [v,u] (Fu v u)->'C' (KW value a v u) (EP X pins σ Q) X.xe s
def MtR(X:Cx)(id:String)(r:V->List V->Hp->VK->Prop):Prop:=
 ∀(pins:List (Addr×Obj))(s:Shared)(σ:St)(H:Hp)(x:V)(xs:List V)(v:Value)(us:List Value)(Q:VK),'A'->RelV x v->bZ xs us->r x xs H Q->
  'C' (call (.builtin id) (v::us)) (EP X pins σ Q) X.xe s
section
variable {a b:Expr}{ta tb:TE}
def IxR.or{r r':R2}(h:IxR X r)(h':IxR X r'):IxR X (λx y H Q=>r x y H Q\/r' x y H Q):=by
 intro f e b s g H x y v u Q I c d q a;rcases q with q|q;·exact h f e b s g H x y v u Q I c d q a
 .exact h' f e b s g H x y v u Q I c d q a
def MtR.or{id:String}{r r':V->List V->Hp->VK->Prop}(h:MtR X id r)(h':MtR X id r'):MtR X id (λx xs H Q=>r x xs H Q\/r' x xs H Q):=by
 intro a s e H x xs v d Q I c b q;rcases q with q|q;·exact h a s e H x xs v d Q I c b q
 .exact h' a s e H x xs v d Q I c b q
def pe_ix{r:R2}(g:IxR X r)(e:PE X a ta)(f:PE X b tb)(i:Fq b):PE X (.Subscript a b pos) (tOp r ta tb):=by intro j s n H Q I h;exact Subscript_ (binT e f I h λv u m x y c d k l q=>g a b j m n c x y v u Q d k l q (i _ _))
def rIxL(K:ai):R2:=λx y H Q=>∃p xs i v,x=.ref p/\y=.int i/\SqL K H p xs/\atI xs i<*v/\Q v H
def rIxT(K:ai):R2:=λx y H Q=>∃p xs i v,x=.ref p/\y=.int i/\SqT K H p xs/\atI xs i<*v/\Q v H
def rIxS:R2:=λx y H Q=>∃z i c,x=.str z/\y=.int i/\z.length<=sizeLine/\atI z.cps.toList i<*c/\Q (.str ⟨#[c]⟩) H
def ix_list:IxR X (rIxL X.K):=by
 intro M L f s g H x y v u Q I D E h e;obtain⟨p,N,i,z,rfl,rfl,A,n,q⟩:=h;cases D;obtain⟨t,rfl⟩:=E;obtain⟨B,r,c,K⟩:=I.list A;obtain⟨j,a,k,G,l,m⟩:=zO n;obtain⟨w,d,C⟩:=r.get k;have o:=r.length;have J:=se;have fin:EP X f g Q w s:=(z,H,I,C,q,);by_cases h0:0<=i
 .have b:i.toNat=j:=by rw[seqIndex_of h0 m]at a;exact bC a
  exact item_listR c.isList h0 'D' (by rw[b];simpa using d) fin e
 .have b:(i+(B.toArray.size:Int)).toNat=j:=by rw[seqIndex_neg 'D' l]at a;rw[aI,<-o];exact bC a
  exact subscriptTail_builtinR (x:=w) c.isList.typeIs slot_list_getitem.lookup
   (wpAny_getItem_list_neg (Q:=λr F=>r=w/\EP X f g Q r F) c.isList 'D' (by rw[aI]<;>lia) 'D' (by rw[b];simpa using d) (rfl,fin,)) e
def ix_tup:IxR X (rIxT X.K):=by
 intro L K a s c H x y v u Q I o A h m;obtain⟨p,M,i,z,rfl,rfl,l,g,q⟩:=h;cases o;obtain⟨t,rfl⟩:=A;obtain⟨J,r,b,G⟩:=I.tuple l;obtain⟨j,e,f,C,D,E⟩:=zO g;obtain⟨w,d,n⟩:=r.get f;have k:=r.length;have F:=se;have fin:EP X a c Q w s:=(z,H,I,n,q,);exact subscriptTail_builtinR (x:=w) b.typeIs slot_tuple_getitem.lookup
  (getItem_tuple (j:=j) (Q:=λr B=>r=w/\EP X a c Q r B) b 'D' 'D' (by rw[aI,<-k];exact e) ↥d (rfl,fin,)) m
def ix_str:IxR X rIxS:=by
 intro D B A s E H x y v u Q I n o h m;obtain⟨z,i,c,rfl,rfl,w,k,q⟩:=h;obtain⟨t,rfl⟩:=n;obtain⟨C,rfl⟩:=o;obtain⟨j,a,e,p,f,g⟩:=zO k;have l:z.cps.toList.length=z.length:=by simp[B5]
 rw[l]at a f g;have r:=se;exact tail_any (typeIs_str s z t) slot_str_getitem.lookup (getItem_str (c:=c) (by have b:decide (i< -(2^63:Int))=false:=decide_eq_false 'D';have d:decide (i≥ 2^63)=false:=decide_eq_false 'D';rw[b,d,sU]) (by rw[a];simpa using e) (.str ⟨#[c]⟩,H,I.tok _,(_,rfl,),q,)) m
def rIx(K:ai):R2:=λx y H Q=>rIxL K x y H Q\/rIxT K x y H Q\/rIxS x y H Q
def ix_seq:IxR X (rIx X.K):=ix_list.or (ix_tup.or ix_str)
def yN(lo hi:Option Int)(n:Nat):(lH lo hi none n).1=((HT.sIx n 0 lo:Nat):Int)/\(lH lo hi none n).2.1=((HT.sIx n n hi:Nat):Int)/\(lH lo hi none n).2.2=1:=by
 refine(?_,?_,rfl,)
 .cases lo with
  |none=>simp[lH,HT.sIx]
  |some i=>
   simp only[lH,HT.sIx,uO,show(1:Int)>0 by decide,if_true];by_cases h:i<0;·simp only[h,if_true]<;>lia
   .simp only[h,if_false]<;>lia
 .cases hi with
  |none=>simp[lH,HT.sIx]
  |some i=>
   simp only[lH,HT.sIx,uO,show(1:Int)>0 by decide,if_true];by_cases h:i<0;·simp only[h,if_true]<;>lia
   .simp only[h,if_false]<;>lia
def wN(its:List Value)(lo hi:Option Int):slicePick its.toArray lo hi none=((its.drop (HT.sIx its.length 0 lo)).take (HT.sIx its.length its.length hi-HT.sIx its.length 0 lo)).toArray:=by obtain⟨a,b,c⟩:=yN lo hi its.toArray.size;unfold slicePick;rw[a,b,c];simp only[sliceRange_one,pick_run,aI]<;>rfl
def rSlL(K:ai):V->Option Int->Option Int->Hp->VK->Prop:=λx lo hi H Q=>∃a xs,x=.ref a/\SqL K H a xs/\∀p,H p=none->Q (.ref p) (upd H p (.lst (zC xs lo hi)))
def sl_list:SlR X (rSlL X.K):=by intro u s A H x v y z d e w Q I n i l m h;obtain⟨a,c,rfl,j,q⟩:=h;cases n;obtain⟨p,r,f,k⟩:=I.list j;have g:=r.length;refine("list",_,slot_list_getitem.lookup,f.isList.typeIs,?_,);refine wpAny_getItem_list_slice f.isList i l m .none 'F' ?_ (by rw[aI]<;>lia);rw[wN,<-g];refine(.ref ⇑s,_,I.laid (t':=s.toks) (o:=.lst (zC c d e)) (λb t q=>af _ q) (aE _) ?_,rfl,q _ (I.hok.fresh (aE _)),);exact(aR (BJ c d e) k,_,0,(r.drop (HT.sIx c.length 0 d)).take (HT.sIx c.length c.length e-HT.sIx c.length 0 d),aF _ rfl,)
abbrev qU:V->Bool
 |.non=>true
 |.bl _=>true
 |.int _=>true
 |.str _=>true
 |_=>false
abbrev eqV:V->V->Bool
 |.non,.non=>true
 |.bl a,.bl b=>a==b
 |.bl a,.int b=>(if a then 1 else 0)==b
 |.int a,.bl b=>a==(if b then 1 else 0)
 |.int a,.int b=>a==b
 |.str a,.str b=>a==b
 |_,_=>false
def gx{x:V}(f:RelV y u)(c:RelV x v)(g:qU y=true)(e:qU x=true):SeqAt.EqAt A s u v (eqV y x):=by
 cases y with
 |non=>
  cases f;cases x with
  |non=>cases c;exact SeqAt.EqAt.same _
  |bl b=>cases c;exact SeqAt.EqAt.none_bool b
  |int b=>obtain⟨t,rfl⟩:=c;exact SeqAt.EqAt.none_int b t
  |str b=>obtain⟨t,rfl⟩:=c;exact SeqAt.EqAt.none_str b t
  |_=>exact absurd (show false=true from e) be
 |bl a=>
  cases f;cases x with
  |non=>cases c;exact SeqAt.EqAt.bool_none a
  |bl b=>cases c;exact SeqAt.EqAt.bool_bool a b
  |int b=>obtain⟨t,rfl⟩:=c;exact SeqAt.EqAt.bool_int a b t
  |str b=>obtain⟨t,rfl⟩:=c;exact SeqAt.EqAt.bool_str a b t
  |_=>exact absurd (show false=true from e) be
 |int a=>
  obtain⟨d,rfl⟩:=f;cases x with
  |non=>cases c;exact SeqAt.EqAt.int_none a d
  |bl b=>cases c;exact SeqAt.EqAt.int_bool a d b
  |int b=>obtain⟨t,rfl⟩:=c;exact Cf a d b t
  |str b=>obtain⟨t,rfl⟩:=c;exact Ce a d b t
  |_=>exact absurd (show false=true from e) be
 |str a=>
  obtain⟨d,rfl⟩:=f;cases x with
  |non=>cases c;exact SeqAt.EqAt.str_none a d
  |bl b=>cases c;exact SeqAt.EqAt.str_bool a d b
  |int b=>obtain⟨t,rfl⟩:=c;exact Cd a d b t
  |str b=>obtain⟨t,rfl⟩:=c;exact SeqAt.EqAt.str_str a d b t
  |_=>exact absurd (show false=true from e) be
 |_=>exact absurd (show false=true from g) be
abbrev eqU(x:V)(u:Value):Bool:=match u with
 |.none=>eqV .non x
 |.bool b=>eqV (.bl b) x
 |.int i _=>eqV (.int i) x
 |.str z _=>eqV (.str z) x
 |_=>false
def Kp{x:V}(r:RelV y u)(f:qU y=true):eqU x u=eqV y x:=by
 cases y with
 |non=>cases r;rfl
 |bl b=>cases r;rfl
 |int i=>obtain⟨t,rfl⟩:=r;rfl
 |str z=>obtain⟨t,rfl⟩:=r;rfl
 |_=>exact absurd (show false=true from f) be
theorem rC{x:V}:∀{xs:List V}{us:List Value},bZ xs us->xs.all qU=true->us.any (eqU x)=xs.any λy=>eqV y x
 |_,_,.nil,_=>rfl
 |y::xs,u::us,.cons r t,f=>by rw[sS,aN]at f;rw[nC,nC,Kp r f.1,rC t f.2]
theorem nX{x:V}(b:RelV x v)(a:qU x=true):∀{xs:List V}{us:List Value},bZ xs us->xs.all qU=true->∀u∈us,SeqAt.EqAt A s u v (eqU x u)
 |_,_,.nil,_=>λu hu=>by cases hu
 |y::xs,u::us,.cons r t,f=>λc hu=>by
  rw[sS,aN]at f;rcases aG.mp hu with rfl|hu;·rw[Kp r f.1];exact gx r b f.1 a
  .exact nX b a t f.2 c hu
abbrev inV(x:V)(xs:List V):Bool:=xs.any λy=>eqV y x
def rIn(K:ai)(a:Bool):R2:=λx y H Q=>∃p xs,y=.ref p/\(SqL K H p xs\/SqT K H p xs)/\qU x=true/\xs.all qU=true/\Q (.bl (if a then !inV x xs else inV x xs)) H
def Gr:OpR X (dc .In) (rIn X.K false):=by
 intro i s k H x y v u Q I e g h;obtain⟨p,j,rfl,hq,d,fs,q⟩:=h;cases g;rcases hq with hq|hq;·obtain⟨a,r,c,f⟩:=I.list hq;refine SeqAt.in_listAt (eqU x) c.isList (λw b=>nX e d r fs w ↥b) (.bl _,H,I,rfl,?_,);rw[show a.toArray.any (eqU x)=a.any (eqU x) by simp,rC r fs];exact q
 .obtain⟨a,r,c,f⟩:=I.tuple hq;refine SeqAt.in_tupleAt (eqU x) c (λw b=>nX e d r fs w ↥b) (.bl _,H,I,rfl,?_,);rw[show a.toArray.any (eqU x)=a.any (eqU x) by simp,rC r fs];exact q
def zg:OpR X (dc .NotIn) (rIn X.K true):=by
 intro i s k H x y v u Q I e g h;obtain⟨p,j,rfl,hq,d,fs,q⟩:=h;cases g;rcases hq with hq|hq;·obtain⟨a,r,c,f⟩:=I.list hq;refine SeqAt.notIn_listAt (eqU x) c.isList (λw b=>nX e d r fs w ↥b) (.bl _,H,I,rfl,?_,);rw[show a.toArray.any (eqU x)=a.any (eqU x) by simp,rC r fs];exact q
 .obtain⟨a,r,c,f⟩:=I.tuple hq;refine SeqAt.notIn_tupleAt (eqU x) c (λw b=>nX e d r fs w ↥b) (.bl _,H,I,rfl,?_,);rw[show a.toArray.any (eqU x)=a.any (eqU x) by simp,rC r fs];exact q
def zf:OpR X (dc .NotIn) (λx y H Q=>∃i j,x=.str i/\y=.str j/\Q (.bl (!(!(iA j i 0 j.length 1).isEmpty))) H):=by intro c s e H x y v u Q I a b h;obtain⟨i,j,rfl,rfl,q⟩:=h;obtain⟨t,rfl⟩:=a;obtain⟨d,rfl⟩:=b;exact notIn_str (.bl _,H,I,rfl,q,)
def zF:fU X (.builtin "len") (λxs H Q=>∃p ys,xs=[.ref p]/\(SqL X.K H p ys\/SqT X.K H p ys)/\Q (.int ys.length) H):=by
 intro i s k H xs j Q I r h;obtain⟨p,ys,rfl,hq,q⟩:=h;obtain⟨u,rfl,f⟩:=vals1 r;cases f;have g:=se;rcases hq with hq|hq;·obtain⟨e,c,b,d⟩:=I.list hq;have a:=c.length;exact Calls.call_len_list b.isList (by simp only[aI]<;>lia) (.int ys.length,H,I.tok _,⟨s.toks+1,by rw[aI,a]⟩,q,)
 .obtain⟨e,c,b,d⟩:=I.tuple hq;have a:=c.length;exact len_tuple b (by simp only[aI]<;>lia) (.int ys.length,H,I.tok _,⟨s.toks+1,by rw[aI,a]⟩,q,)
def zE:fU X (.builtin "len") (λxs H Q=>∃z,xs=[.str z]/\z.length<=sizeLine/\Q (.int z.length) H):=by intro c s e H xs d Q I r h;obtain⟨z,rfl,b,q⟩:=h;obtain⟨u,rfl,t,rfl⟩:=vals1 r;have a:=se;exact len_str 'D' (.int z.length,H,I.tok _,(_,rfl,),q,)
def fU.or{f:Value}{r r':List V->Hp->VK->Prop}(h:fU X f r)(h':fU X f r'):fU X f (λxs H Q=>r xs H Q\/r' xs H Q):=by
 intro a s d H xs c Q I b q;rcases q with q|q;·exact h a s d H xs c Q I b q
 .exact h' a s d H xs c Q I b q
def zD:fU X (.type "list") (λxs H Q=>∃p ys,xs=[.ref p]/\(SqL X.K H p ys\/SqT X.K H p ys)/\∀l,H l=none->Q (.ref l) (upd H l (.lst ys))):=by
 intro x s z H xs A Q I r h;obtain⟨p,ys,rfl,hq,q⟩:=h;obtain⟨u,rfl,y⟩:=vals1 r;cases y;have fin:∀(c:List Value),bZ ys c->ys.length<=sizeLine->∀(a:Heap)(d:Nat),(∀b v,s.heap.get? b<*v->a.get? b<*v)->
   a.get? ⇑s<*{cls:=.type "list",dict:=none,data:=.seq c.toArray d,slots:= #[]}->EP X x z Q (.ref ⇑s) {s with heap:=a}:=λc f g a d i e=>
  (.ref ⇑s,_,I.laid (t':=s.toks) i (aE _) (show cX X.prog X.w _ a _ (.lst ys)from(g,c,d,f,e,)),rfl,q _ (I.hok.fresh (aE _)),)
 rcases hq with hq|hq;·obtain⟨c,f,t,g⟩:=I.list hq;have w:=f.length;obtain⟨o,m,j,n,k⟩:=t.isList;exact call_list_seq p (.inl rfl) m j k (λa d i e=>fin c f g a d i e) (by simp only[aI]<;>lia)
 .obtain⟨c,f,t,g⟩:=I.tuple hq;have w:=f.length;obtain⟨o,m,j,n,k⟩:=t;exact call_list_seq p (.inr rfl) m j k (λa d i e=>fin c f g a d i e) (by simp only[aI]<;>lia)
def w8:fU X (.type "tuple") (λxs H Q=>∃p ys,xs=[.ref p]/\((SqL X.K H p ys/\∀l,H l=none->Q (.ref l) (upd H l (.tup ys)))\/(SqT X.K H p ys/\Q (.ref p) H))):=by
 intro k s m H xs x Q I r h;obtain⟨p,ys,rfl,h⟩:=h;obtain⟨u,rfl,v⟩:=vals1 r;cases v;rcases h with⟨c,q⟩ |⟨c,q⟩
 .obtain⟨d,g,f,j⟩:=I.list c;have w:=g.length;refine call_tuple_list f.isList (λa t=>?_) (by simp only[aI]<;>lia);have i:Inv X k m H {s with heap:=a}:=I.kept (t':=s.toks) t;have n:Inv X k m (upd H a.objs.size (.tup ys)) {s with heap:=a.push {cls:=.type "tuple",data:=.seq d.toArray}}:=
   i.laid (t':=s.toks) (λb o e=>af _ e) (aE _) (show cX X.prog X.w _ _ _ (.tup ys)from(j,d,g,IsTup.new _ _,))
  exact(.ref a.objs.size,_,n,rfl,q _ (i.hok.fresh (aE _)),)
 .obtain⟨d,g,f,j⟩:=I.tuple c;exact call_tuple_same f (.ref p,H,I,rfl,q,)
def tyV(K:ai)(T:String)(x:V)(H:Hp):Prop:=match x with
 |.str _=>T="str"
 |.int _=>T="int"
 |.ref p=>(T="list"/\∃xs,SqL K H p xs)\/(T="tuple"/\∃o,K.lookup p<*o/\o.cls=.type "tuple"/\o.dict=none)\/
   (T="dict"/\((∃kvs,H p<*(.dK kvs))\/∃kvs,H p<*(.dT kvs)))\/(T="set"/\∃S n,H p<*(.set S n))
 |_=>False
def Hz{T:String}{x:V}(I:'A')(r:RelV x v)(ty:tyV X.K T x H):
  s.TypeIs v T/\∀a,v=.ref a->∃h,s.heap.get? a<*h/\h.dict=none:=by
 cases x with
 |str z=>obtain⟨t,rfl⟩:=r;cases(show T="str" from ty);exact⟨typeIs_str s z t,λ_ e=>nomatch e⟩
 |int i=>obtain⟨t,rfl⟩:=r;cases(show T="int" from ty);exact⟨typeIs_int s i t,λ_ e=>nomatch e⟩
 |ref p=>
  cases r;rcases ty with⟨rfl,u,l⟩ |⟨rfl,o,b,k,g⟩ |⟨rfl,b⟩ |⟨rfl,S,n,b⟩;·obtain⟨q,_,j,_⟩:=I.list l;refine(j.isList.typeIs,λa e=>?_,);cases e;obtain⟨o,n,e,c,g,_⟩:=j;exact(o,e,g,)
  .refine((o,I.kIn p o b,k,),λa e=>?_,);cases e;exact(o,I.kIn _ o b,g,)
  .have z:∃o,s.heap.get? p<*o/\o.ExactDict:=by
    rcases b with⟨m,b⟩ |⟨m,b⟩;·obtain⟨_,_,_,_,o,_,_,e,d,_⟩:=I.hok p _ b;exact(o,e,d,)
    .obtain⟨_,_,_,_,o,_,_,e,d,_⟩:=I.hok p _ b;exact(o,e,d,)
   obtain⟨o,e,d⟩:=z;refine((o,e,d.1,),λa f=>?_,);cases f;exact(o,e,d.2.1,)
  .obtain⟨o,_,_,_,e,d,_⟩:=I.hok p _ b;refine((o,e,d.1,),λa f=>?_,);cases f;exact(o,e,d.2.1,)
 |_=>exact gU ty
def tBM0(K:ai)(T:String)(r:V->List V->Hp->VK->Prop)(to:TE):TE:=λσ H Q=>to σ H λx H1=>tyV K T x H1/\r x [] H1 Q
def tBM(K:ai)(T:String)(r:V->List V->Hp->VK->Prop)(to:TE)(t:TA):TE:=λσ H Q=>to σ H λx H1=>tyV K T x H1/\t σ H1 λxs H2=>r x xs H2 Q
variable {o:Expr}{es:List Expr}{to:TE}{t:TA}{name:Str}{apos:Pos}{T id:String}{r:V->List V->Hp->VK->Prop}
def pe_bm0(n:PlainAttrs T)(slot:Slot T name id)(m:typeOf (.builtin id)=pure (.type "method_descriptor"))(k:MtR X id r)(l:PE X o to)
  (i:kZ o name X.env (eval o X.env)=eval o X.env:=by rfl) (j:(apos.endLine==au.line)=true:=by rfl):PE X (.Call (.Attribute o name apos) [] [] au) (tBM0 X.K T r to):=by
 intro b s d H Q I h;refine wpAny_Call_method0_late i j (thn (l b s d H _ I h) λv q ⟨x,e,a,c,ty,p⟩=>?_);obtain⟨f,g⟩:=Hz a c ty;exact(T,id,n,slot,m,f,g,gc rfl (rL (k b q d e x [] v [] Q a c .nil p)),)
def pe_bm(B:PlainAttrs T)(slot:Slot T name id)(A:typeOf (.builtin id)=pure (.type "method_descriptor"))(u:MtR X id r)(w:PE X o to)(m:PA X (e::es) t)
  (n:kZ o name X.env (eval o X.env)=eval o X.env:=by rfl)
  (p:((backTo au (bx (e::es) X.env)).all (λx=> !x.1)&&(um au (lJ [] X.env)).all (λx=>x.1.isSome)
   &&decide ((e::es).length+([]:List Keyword).length+(if([]:List Keyword).isEmpty then 0 else 1)<30))=true:=by rfl)
  (q:(apos.endLine==au.line)=true:=by rfl) (z:bx (e::es) X.env=(false,eval e X.env)::bx es X.env:=by rfl) (y:(backTo au (bx es X.env)).any (·.1)=false:=by rfl):
  PE X (.Call (.Attribute o name apos) (e::es) [] au) (tBM X.K T r to t):=by
 intro a s b H Q I h;refine wpAny_Call_method_late n p q rfl (thn (w a s b H _ I h) λv F ⟨x,g,c,f,ty,C⟩=>?_);obtain⟨k,l⟩:=Hz c f ty;refine(T,id,B,slot,A,k,l,?_,);have d:=m au a F b g _ c C;rw[z]at d⊢;refine gc (by show(false||(backTo au (bx es X.env)).any (·.1))=false;rw[y]<;>rfl) (Hl ?_);exact thn d λJ G ⟨K,i,j,E,D⟩=>u a G b i x K v J Q j f E D
end
def MtM(X:Cx)(id:String)(r:V->List V->Hp->VK->Prop):Prop:=
 ∀(pins:List (Addr×Obj))(s:Shared)(σ:St)(H:Hp)(x:V)(xs:List V)(v:Value)(us:List Value)(Q:VK),'A'->RelV x v->bZ xs us->r x xs H Q->
  'C' (call (.builtin id) (v::us)) (EP X pins σ Q) X.xe s
def bZ.one{x:V}(h:bZ [x] us):∃u,us=[u]/\RelV x u:=by
 cases h with
 |cons r k=>cases k with
  |nil=>exact(_,rfl,r,)
def bZ.two{x:V}(h:bZ [x,y] us):∃u v,us=[u,v]/\RelV x u/\RelV y v:=by
 cases h with
 |cons r k=>obtain⟨v,e,q⟩:=bZ.one k;exact(_,v,by rw[e],r,q,)
def bZ.zero:∀{us:List Value},bZ [] us->us=[]
 |_,.nil=>rfl
theorem bZ.dropLast(h:bZ xs us):bZ xs.dropLast us.dropLast:=by
 induction h with
 |nil=>exact .nil
 |cons r t ih=>
  cases t with
  |nil=>exact .nil
  |cons q t'=>exact .cons r ih
theorem bZ.eraseIdx:∀{xs:List V}{us:List Value}(i:Nat),bZ xs us->bZ (xs.eraseIdx i) (us.eraseIdx i)
 |_,_,_,.nil=>.nil
 |_,_,0,.cons _ t=>t
 |_,_,i+1,.cons r t=>.cons r (bZ.eraseIdx i t)
theorem bZ.reverse(h:bZ xs us):bZ xs.reverse us.reverse:=by
 induction h with
 |nil=>exact .nil
 |cons r t ih=>rw[List.reverse_cons,List.reverse_cons];exact bZ.append ih (.cons r .nil)
theorem bZ.rep(h:bZ xs us):∀k:Nat,bZ (bL k xs).flatten (bL k us).flatten
 | 0=>.nil
 |k+1=>by rw[fQ,fQ,eu,eu];exact bZ.append h (bZ.rep h k)
def DB{c:Type}(l:List c):l.eraseIdx (l.length-1)=l.dropLast:=by
 induction l with
 |nil=>rfl
 |cons a r ih=>
  cases r with
  |nil=>rfl
  |cons b r=>
   have e:(a::b::r).length-1=((b::r).length-1)+1:=by have d:(a::b::r).length=r.length+2:=rfl;have f:(b::r).length=r.length+1:=rfl;lia
   rw[e,List.eraseIdx_cons_succ,ih];all_goals rfl
theorem xR{a:Type}:∀(l:List a)(i:Nat),(l.eraseIdx i).length<=l.length
 | [],_=>aE _
 |_::_,0=>dq _
 |_::r,i+1=>xp (xR r i)
theorem foldl_rep(its:List Value):∀(k:Nat)(ad:List Value),
  List.foldl (λb c=>b++c) ad.toArray (bL k its.toArray)=(ad++(bL k its).flatten).toArray
 | 0,ad=>by simp
 |k+1,ad=>by
  have e:ad.toArray++its.toArray=(ad++its).toArray:=by simp
  have a:(ad++its)++(bL k its).flatten=ad++(bL (k+1) its).flatten:=by rw[fQ,eu,bQ]
  rw[<-a,<-foldl_rep its k (ad++its),<-e,fQ,kG]
section
variable {pins:List (Addr×Obj)}{s:Shared}{l b:Addr}
def Inv.lset{f:Array Value->Array Value}(I:'A')(a:H l<*(.lst xs))
  (e:s.heap.get? l<*{cls:=.type "list",data:=.seq its.toArray n}) (c:f its.toArray=its'.toArray) (g:bZ ys its') (hz:ys.length<=sizeLine):
  Inv X pins σ (upd H l (.lst ys)) {s with heap:=s.heap.update l (cC f),toks:=t'}:=by
 have q:=Hg e f;rw[c]at q;refine I.write (x:=l) (e:=l) (by rw[a];exact trivial) (.inl rfl) (λh u b d=>(bb s.heap (cC f) (cU b)).trans d) (_,q,) ?_;exact(hz,its',_,g,q,)
def Inv.lnew(I:'A')(a:bZ ys its)(hz:ys.length<=sizeLine):
  Inv X pins σ (upd H ⇑s (.lst ys)) {s with heap:=s.heap.push {cls:=.type "list",data:=.seq its.toArray},toks:=t'}:=
 I.laid (λ_ _ q=>af _ q) (aE _) (hz,its,0,a,aF _ rfl,)
theorem Inv.fresh(I:'A'):H ⇑s=none:=I.hok.fresh (aE _)
def Inv.zp(I:'A')(a:H l<*(.lst xs)):xs.length<=sizeLine/\∃(its:List Value)(n:Nat),bZ xs its/\xs.length=its.length/\s.heap.get? l<*{cls:=.type "list",data:=.seq its.toArray n}:=by obtain⟨z,its,n,r,e⟩:=I.hok l _ a;exact(z,its,n,r,r.length,e,)
def Bc(h:n<=sizeLine):gO n=false:=by unfold gO;exact decide_eq_false 'D'
end
section
def EC:V->List V->Hp->VK->Prop:=λx vs H Q=>∃l xs y,x=.ref l/\vs=[y]/\H l<*(.lst xs)/\xs.length<sizeLine/\Q .non (upd H l (.lst (xs++[y])))
def Gw:MtM X "list.append" EC:=by intro i s o H x k v j Q I d rv h;obtain⟨l,m,y,rfl,rfl,a,g,q⟩:=h;cases d;obtain⟨u,rfl,c⟩:=rv.one;obtain⟨z,b,n,r,f,e⟩:=I.zp a;refine nK F.slot_list_append (_,e,rfl,) F.entry_list_append (F.args_list_append_2 _ _) (PySem.list_append l b.toArray n u (by rw[aI];lia)) (e,?_,);refine(.non,_,I.lset (its':=b++[u]) a e 'F' (r.append (.cons c .nil)) ?_,rfl,q,);rw[aq,dJ];lia
def EA:V->List V->Hp->VK->Prop:=λx vs H Q=>∃l b xs zs,x=.ref l/\vs=[.ref b]/\H l<*(.lst xs)/\H b<*(.lst zs)/\xs.length+zs.length<=sizeLine/\Q .non (upd H l (.lst (xs++zs)))
def Gv:MtM X "list.extend" EA:=by
 intro A s J H x C v B Q I p rv h;obtain⟨l,b,D,G,rfl,rfl,d,g,y,q⟩:=h;cases p;obtain⟨u,rfl,o⟩:=rv.one;cases o;obtain⟨z,a,n,r,t,e⟩:=I.zp d;obtain⟨E,c,k,m,w,f⟩:=I.zp g;have j:a.toArray.size+c.toArray.size<=sizeLine:=by rw[aI,aI];lia
 have i:¬(!a.toArray.isEmpty&&gO (a.toArray.size+c.toArray.size))=true:=by rw[Bc j,eU];exact be
 refine nK F.slot_list_extend (_,e,rfl,) F.entry_list_extend (F.args_list_extend_2 _ _)
  (AutoSeq1.list_extend_list_list_0 l a.toArray n b c.toArray k i (by rw[aI];lia) 'D') (e,f,?_,)
 refine(.non,_,I.lset (its':=a++c) d e 'F' (r.append m) ?_,rfl,q,);rw[aq];lia
def rPop:V->List V->Hp->VK->Prop:=λx vs H Q=>∃l xs y,x=.ref l/\vs=[]/\H l<*(.lst xs)/\xs[xs.length-1]?<*y/\Q y (upd H l (.lst xs.dropLast))
def mt_pop:MtM X "list.pop" rPop:=by
 intro m s w H x p v o Q I k rv h;obtain⟨l,t,y,rfl,rfl,b,g,q⟩:=h;cases k;have f:=rv.zero;subst f;obtain⟨z,a,n,r,c,e⟩:=I.zp b;obtain⟨u,d,j⟩:=r.get g;have i:a.toArray[a.toArray.size-1]?<*u:=by show a.toArray[a.length-1]?<*u;rw[<-eE,<-c];exact d
 refine nK F.slot_list_pop (_,e,rfl,) F.entry_list_pop (F.args_list_pop_1 _) (MeetsSeq.list_pop_last l a.toArray n u i (by rw[aI];lia)) (e,?_,);refine(y,_,I.lset (its':=a.dropLast) b e ?_ r.dropLast ?_,j,q,);·show a.toArray.eraseIdxIfInBounds (a.toArray.size-1)=a.dropLast.toArray;rw[aI,wD,DB]
 .rw[List.length_dropLast];lia
def IU:V->List V->Hp->VK->Prop:=λx vs H Q=>∃l xs i k y,x=.ref l/\vs=[.int i]/\H l<*(.lst xs)∧-(2^63)<=i/\i<2^63/\seqIndex? i xs.length<*k/\xs[k]?<*y/\Q y (upd H l (.lst (xs.eraseIdx k)))
def JL:MtM X "list.pop" IU:=by
 intro C s G H x E v D Q I A rv h;obtain⟨l,B,i,k,y,rfl,rfl,b,c,d,f,m,q⟩:=h;cases A;obtain⟨u,rfl,o⟩:=rv.one;obtain⟨t,rfl⟩:=o;obtain⟨z,a,n,r,g,e⟩:=I.zp b;obtain⟨w,j,p⟩:=r.get m;refine nK F.slot_list_pop (_,e,rfl,) F.entry_list_pop (F.args_list_pop_2 _ _)
  (MeetsSeq.list_pop_at l a.toArray n i t k w (fitsIndex_both c d) (by rw[aI,<-g];exact f) (by rw[<-eE];exact j) (by rw[aI];lia)) (e,?_,)
 refine(y,_,I.lset (its':=a.eraseIdx k) b e ?_ (r.eraseIdx k) ?_,p,q,);·show a.toArray.eraseIdxIfInBounds k=(a.eraseIdx k).toArray;rw[wD]
 .have :=xR B k;lia
def rCat:R2:=λx y H Q=>∃l b xs zs,x=.ref l/\y=.ref b/\H l<*(.lst xs)/\H b<*(.lst zs)/\xs.length+zs.length<=sizeLine/\∀p,H p=none->Q (.ref p) (upd H p (.lst (xs++zs)))
def op_cat:OpR X (fO .Add) rCat:=by
 intro A s E H x y v u Q I k m h;obtain⟨l,b,B,D,rfl,rfl,i,g,t,q⟩:=h;cases k;cases m;obtain⟨z,a,n,r,o,e⟩:=I.zp i;obtain⟨C,c,w,j,p,d⟩:=I.zp g;refine PySem.P.add_list e d ?_ (by rw[aI,aI];lia);have f:a.toArray++c.toArray=(a++c).toArray:=by simp
 rw[f];exact(.ref _,_,I.lnew (t':=s.toks) (r.append j) (by rw[aq];lia),rfl,q _ I.fresh,)
def rRep:R2:=λx y H Q=>∃l k xs,x=.ref l/\y=.int k/\H l<*(.lst xs)∧-(2^63)<=k/\k<2^63/\xs.length*k.toNat<=sizeLine/\
 ∀p,H p=none->Q (.ref p) (upd H p (.lst (bL k.toNat xs).flatten))
def len_rep{a:Type}(xs:List a)(k:Nat):(bL k xs).flatten.length=k*xs.length:=by
 induction k with
 |zero=>simp
 |succ k ih=>rw[fQ,eu,aq,ih,Nat.succ_mul,Nat.add_comm]
def op_rep:OpR X (fO .Mult) rRep:=by
 intro K s M H x y v u Q I E G h;obtain⟨l,k,L,rfl,rfl,o,i,j,f,q⟩:=h;cases E;obtain⟨t,rfl⟩:=G;obtain⟨z,b,n,r,A,e⟩:=I.zp o;have B:b.toArray.size*k.toNat<=sizeLine:=by rw[aI,<-A];exact f
 have p:¬b.toArray.size*k.toNat>(2^63-1)/8:=by
  have :(sizeLine:Nat)<=(2^63-1)/8:=by decide
  lia
 have w:¬(!Builtin.List.listFitsIndex k)=true:=by rw[fitsIndex_both i j];exact be
 have C:¬gO (b.toArray.size*k.toNat)=true:=by rw[Bc B];exact be
 have D:List.foldl (λc d=>c++d) #[] (bL (if b.toArray.isEmpty=true then 0 else k.toNat) b.toArray)=(bL k.toNat b).flatten.toArray:=by
  have g:∀m:Nat,List.foldl (λc d=>c++d) #[] (bL m b.toArray)=(bL m b).flatten.toArray:=λm=>by have :=foldl_rep b m [];rw[yw]at this;exact this
  rw[g];cases b with
  |nil=>simp
  |cons a r'=>rw[if_neg 'F']
 refine wpAny_binaryOp_repeat_ref (T:="list") (U:="int") 'E' (_,e,rfl,) (λJ=>typeIs_int J k t) noFill_list_mul F.fills_int_mul F.slot_int_rmul repeat_list F.slot_int_index.lookup
  (nK F.slot_int_rmul (typeIs_int s k t) F.entry_int_rmul (F.args_int_rmul_2 _ _) (int___rmul___int_list k t l b.toArray n)
   (e,rfl,(_,e,rfl,),nK F.slot_list_mul (_,e,rfl,) F.entry_list_mul (F.args_list_mul_2 _ _) (AutoListH.list___mul___list_int_3 l b.toArray n k t w p C) (e,?_,),))
 rw[D];exact(.ref _,_,I.lnew (t':=s.toks) (r.rep k.toNat) (by rw[len_rep,Nat.mul_comm];exact f),rfl,q _ I.fresh,)
end
section
variable {κ:Type}[DecidableEq κ]
abbrev qz(kvs:List (κ×V))(k:κ):Option V:=(kvs.find? λa=>decide (a.1=k)).map (·.2)
abbrev putK(kvs:List (κ×V))(k:κ)(v:V):List (κ×V):=
 if(kvs.any λa=>decide (a.1=k))=true then kvs.map (λa=>if a.1=k then(a.1,v)else a)else kvs++[(k,v)]
def qx{p:κ×V}{r:List (κ×V)}{k:κ}(e:p.1=k):qz (p::r) k<*p.2:=by simp[qz,dP,e]
def qy{p:κ×V}{r:List (κ×V)}{k:κ}(e:¬p.1=k):qz (p::r) k=qz r k:=by simp[qz,dP,e]
theorem Ar(k:κ):∀kvs:List (κ×V),(kvs.any λa=>decide (a.1=k))=(qz kvs k).isSome
 | []=>rfl
 |p::r=>by
  rw[nC];by_cases e:p.1=k;·simp only[qx e,decide_eq_true e,Bool.true_or,rP]
  .rw[qy e,decide_eq_false e,Bool.false_or];exact Ar k r
def n9(kvs:List (κ×V))(k:κ)(v:V):(putK kvs k v).length<=kvs.length+1:=by
 unfold putK;split;·rw[ah];lia
 .rw[aq,aZ,eB];lia
def oz.si{o:Option V}{u:Option Value}(r:oz o u):o.isSome=u.isSome:=by
 cases o with
 |none=>cases u with
  |none=>rfl
  |some _=>exact(show False from r).elim
 |some _=>cases u with
  |none=>exact(show False from r).elim
  |some _=>rfl
theorem oz.getD{o:Option V}{u:Option Value}{d:V}{d':Value}(r:oz o u)(rd:RelV d d'):RelV (o.getD d) (u.getD d'):=by
 cases o with
 |none=>cases u with
  |none=>exact rd
  |some _=>exact(show False from r).elim
 |some _=>cases u with
  |none=>exact(show False from r).elim
  |some _=>exact r
def KV.val{kvs:List (κ×V)}{vs:List (κ×Value)}(r:KV kvs vs)(k:κ):oz (qz kvs k) (zS vs k):=by
 unfold KV at r
 induction r with
 |nil=>exact True.intro
 | @cons p q ps qs h t ih=>
  obtain⟨c,d⟩:=h;by_cases e:p.1=k
  .have a:q.1=k:=c.symm.trans e;have b:zS (q::qs) k<*q.2:=by simp[zS,dP,a]
   rw[qx e,b];exact d
  .have a:¬q.1=k:=λz=>e (c.trans z);have b:zS (q::qs) k=zS qs k:=by simp[zS,dP,a]
   rw[qy e,b];exact ih
theorem KV.any{kvs:List (κ×V)}{vs:List (κ×Value)}(r:KV kvs vs)(k:κ):(kvs.any λa=>decide (a.1=k))=vs.any λa=>decide (a.1=k):=by
 unfold KV at r
 induction r with
 |nil=>rfl
 |cons h t ih=>rw[nC,nC,ih,h.1]
def KV.repl{kvs:List (κ×V)}{vs:List (κ×Value)}(r:KV kvs vs)(k:κ)(d:RelV y u):
  KV (kvs.map λa=>if a.1=k then(a.1,y)else a) (vs.map λa=>if a.1=k then(a.1,u)else a):=by
 unfold KV at r⊢
 induction r with
 |nil=>exact .nil
 | @cons p q ps qs h t ih=>
  rw[bw,bw];refine .cons ?_ ih;obtain⟨b,c⟩:=h;by_cases e:p.1=k;·rw[if_pos e,if_pos (b.symm.trans e)];exact(b,d,)
  .rw[if_neg e,if_neg (λz=>e (b.trans z))];exact(b,c,)
def KV.put{kvs:List (κ×V)}{vs:List (κ×Value)}(r:KV kvs vs)(k:κ)(a:RelV y u):KV (putK kvs k y) (stored vs k u):=by
 unfold putK stored;rw[r.any k];by_cases e:(vs.any λb=>decide (b.1=k))=true;·rw[if_pos e,if_pos e];exact r.repl k a
 .rw[if_neg e,if_neg e];exact Paired.snoc r (rfl,a,)
def KV.keys{kvs:List (κ×V)}{vs:List (κ×Value)}(r:KV kvs vs):kvs.map (·.1)=vs.map (·.1):=by
 unfold KV at r
 induction r with
 |nil=>rfl
 |cons h t ih=>rw[bw,bw,ih,h.1]
theorem KV.length{kvs:List (κ×V)}{vs:List (κ×Value)}(r:KV kvs vs):kvs.length=vs.length:=fg r
end
def og{k:Key}(r:RelV (kV k) u):(bH P w).is k u=true:=by
 cases k with
 |inl i=>obtain⟨t,e⟩:=(show ∃t,u=Cc i t from r);subst e;exact Bj P w i t
 |inr x=>obtain⟨t,e⟩:=(show ∃t,u=k8 x t from r);subst e;exact tq P w x t
theorem xV:∀{ks:List Key}{us:List Value},bZ (ks.map kV) us->ItemsAre (bH P w) ks us
 | [],_,r=>by rw[uQ]at r;cases r;exact .nil
 |k::ks,_,r=>by
  rw[bw]at r;cases r with
  |cons h t=>exact .cons (og h) (xV t)
noncomputable abbrev KT(H:Hp):List (List Key×V)->List (List Key×Addr×Value)->Prop:=Paired λp q=>p.1=q.1/\H q.2.1<*(.tup (p.1.map kV))/\RelV p.2 q.2.2
def KT.val{kvs:List (List Key×V)}{xs:List (List Key×Addr×Value)}(r:KT H kvs xs)(k:List Key):oz (qz kvs k) ((atKey xs k).map (·.2)):=by
 induction r with
 |nil=>exact True.intro
 | @cons p q ps qs h t ih=>
  obtain⟨c,_,d⟩:=h;by_cases e:p.1=k
  .have a:q.1=k:=c.symm.trans e;have b:atKey (q::qs) k<*q.2:=by simp[atKey,dP,a]
   rw[qx e,b];exact d
  .have a:¬q.1=k:=λz=>e (c.trans z);have b:atKey (q::qs) k=atKey qs k:=by simp[atKey,dP,a]
   rw[qy e,b];exact ih
def KT.repl{kvs:List (List Key×V)}{xs:List (List Key×Addr×Value)}(r:KT H kvs xs)(k:List Key)(f:RelV y u):
  KT H (kvs.map λb=>if b.1=k then(b.1,y)else b) (xs.map (putAt k u)):=by
 induction r with
 |nil=>exact .nil
 | @cons p q ps qs h t ih=>
  rw[bw,bw];refine .cons ?_ ih;obtain⟨a,c,d⟩:=h;unfold putAt;by_cases e:p.1=k;·rw[if_pos e,if_pos (a.symm.trans e)];exact(a,c,f,)
  .rw[if_neg e,if_neg (λz=>e (a.trans z))];exact(a,c,d,)
def KT.put{kvs:List (List Key×V)}{xs:List (List Key×Addr×Value)}(r:KT H kvs xs)(k:List Key)(c:H b<*(.tup (k.map kV)))(a:RelV y u):
  KT H (putK kvs k y) (storedH xs k b u):=by
 have e:(kvs.any λd=>decide (d.1=k))=(atKey xs k).isSome:=by rw[Ar,(r.val k).si,K3]
 unfold putK storedH;rw[e];by_cases q:(atKey xs k).isSome=true;·rw[if_pos q,if_pos q];exact r.repl k a
 .rw[if_neg q,if_neg q];exact Paired.snoc r (rfl,c,a,)
def KT.keeps{kvs:List (List Key×V)}{xs:List (List Key×Addr×Value)}(r:KT H kvs xs)(a:∀b ys,H b<*(.tup ys)->H' b<*(.tup ys)):KT H' kvs xs:=
 Paired.nY r λ_ _ z=>(z.1,a _ _ z.2.1,z.2.2,)
section
variable {a:Addr}
def rd_of{u:HO}(ok:HOk P w H h)(e:Rd H a u):cX P w H h a u:=e.ok ok
def tH{kvs:List (Key×V)}(ok:HOk P w H h)(e:Rd H a (.dK kvs)):kvs.length<=sizeLine/\(a==dA)=false/\∃vs,KV kvs vs/\h.DictOf (bH P w) a vs:=
 show cX P w H h a (.dK kvs)from rd_of ok e
def vP{kvs:List (Key×V)}(ok:HOk P w H h)(e:H a<*(.dK kvs)):kvs.length<=sizeLine/\(a==dA)=false/\∃vs,KV kvs vs/\h.DictOf (bH P w) a vs:=tH ok (.inl e)
def sh{ks:List Key}(ok:HOk P w H h)(e:H a<*(.tup (ks.map kV))):(gV (bH P w)).is h ks a:=by obtain⟨_,f,r,o,b,c,n,d⟩:=(show cX P w H h a (.tup (ks.map kV))from ok a _ e);exact(o,f.toArray,n,b,c,d,↥(xV r),)
def x5{kvs:List (List Key×V)}(ok:HOk P w H h)(e:Rd H a (.dT kvs)):kvs.length<=sizeLine/\(a==dA)=false/\
  ∃xs,KT H kvs xs/\h.DictOfH (gV (bH P w)) a xs:=by
 obtain⟨z,y,xs,r,o,c,b,d,f,g,i,j⟩:=(show cX P w H h a (.dT kvs)from rd_of ok e);refine(z,y,xs,r,o,c,b,d,f,g,i,λx hx=>?_,j,);have all:∀{l:List (List Key×V)}{m:List (List Key×Addr×Value)},KT H l m->∀x∈m,(gV (bH P w)).is h x.1 x.2.1:=by
  intro l m q
  induction q with
  |nil=>intro x hx;exact nomatch hx
  | @cons p q ps qs hq t ih=>
   intro x hx;rcases aG.mp hx with e|hx;·subst e;exact sh ok (by rw[<-hq.1];exact hq.2.1)
   .exact ih x hx
 exact all r x hx
def dt_of{kvs:List (List Key×V)}(ok:HOk P w H h)(e:H a<*(.dT kvs)):kvs.length<=sizeLine/\(a==dA)=false/\
  ∃xs,KT H kvs xs/\h.DictOfH (gV (bH P w)) a xs:=x5 ok (.inl e)
end
def xk(H:Hp)(a:Addr)(y:V)(r:Option V):Prop:=
 (∃kvs k,Rd H a (.dK kvs)/\y=kV k/\r=qz kvs k)\/∃kvs k b,Rd H a (.dT kvs)/\y=.ref b/\H b<*(.tup (k.map kV))/\r=qz kvs k
def D1(H:Hp)(a:Addr)(y v:V)(H':Hp):Prop:=
 (∃kvs k,H a<*(.dK kvs)/\y=kV k/\kvs.length<sizeLine/\H'=upd H a (.dK (putK kvs k v)))\/
 ∃kvs k b,H a<*(.dT kvs)/\y=.ref b/\H b<*(.tup (k.map kV))/\kvs.length<sizeLine/\H'=upd H a (.dT (putK kvs k v))
theorem D1.k{kvs:List (Key×V)}{k:Key}{v:V}(e:H a<*(.dK kvs))(b:kvs.length<sizeLine):D1 H a (kV k) v (upd H a (.dK (putK kvs k v))):=.inl (kvs,k,e,rfl,b,rfl,)
section
variable {pins:List (Addr×Obj)}{s:Shared}{a:Addr}{v:V}{u r:Value}{o:Option V}{E:'I'}
def Inv.big(I:'A'):dA<⇑s:=by have h:bR<⇑s:=(I.mod.glob.keeps I.bk).lt;exact fv 'E' h
def GK{Q:'I'}(x:A.units+1<cLine)(I:'A')(g:xk H a y (some v))(n:RelV y u)(h:∀c s',Inv X pins σ H s'->RelV v c->Q c s'):
  wpAny (model X.prog X.w) A (Fu (.ref a) u) Q E s:=by
 rcases g with⟨B,k,e,f,l⟩ |⟨B,k,b,e,f,q,l⟩;·subst f;obtain⟨z,r,C,j,d⟩:=tH I.hok e;obtain⟨c,i,m⟩:=oz.some_of (v:=v) (o:=zS C k) (by rw[l];exact j.val k);exact wpAny_getItem_of (og n) d.mapOf i (h c _ (I.tok _) m)
 .subst f;cases(show u=bo b from n);obtain⟨z,r,D,j,d⟩:=x5 I.hok e;obtain⟨c,i,m⟩:=oz.some_of (v:=v) (o:=(atKey D k).map (·.2)) (by rw[l];exact j.val k);obtain⟨p,t,w⟩:=fZ.mp i;refine wpAny_getItem_heap (nI x) (sh I.hok q) d t ?_;rw[w];exact h c _ (I.tok _) m
def d_notIn{Q:'I'}(n:A.units+1<cLine)(I:'A')(g:xk H a y o)(j:RelV y u)(h:∀s',Inv X pins σ H s'->Q (.bool (!o.isSome)) s'):
  wpAny (model X.prog X.w) A (dc .NotIn u (.ref a)) Q E s:=by
 rcases g with⟨p,k,e,d,l⟩ |⟨p,k,b,e,d,m,l⟩;·subst d;obtain⟨z,f,r,i,c⟩:=tH I.hok e;refine wpAny_notIn_of (og j) f c.mapOf ?_;rw[<-(i.val k).si,<-l];exact h _ (I.tok _)
 .subst d;cases(show u=bo b from j);obtain⟨z,f,t,i,c⟩:=x5 I.hok e;refine wpAny_notIn_heap (nI n) (sh I.hok m) f c ?_;have q:=(i.val k).si;rw[K3]at q;rw[<-q,<-l];exact h _ (I.tok _)
def qW{c:HO}(I:'A')(h:Mut (H a))(g:cR a s.heap h')(f:∃q,h'.get? a<*q)(new:cX X.prog X.w (upd H a c) h' a c):
  Inv X pins σ (upd H a c) {s with heap:=h',toks:=t'}:=
 I.write (x:=a) (e:=a) h (.inl rfl) (λb q d z=>(g.2 b d).trans z) f new
def DD{kvs:List (Key×V)}{vs:List (Key×Value)}(z:kvs.length<=sizeLine)(b:(a==dA)=false)(c:KV kvs vs)(dd:h'.DictOf (bH P w) a vs):
  cX P w H' h' a (.dK kvs):=(z,b,vs,c,dd,)
def GJ{Q:Unit->Shared->Prop}(P:A.units+1<cLine)(I:'A')(g:D1 H a y v H')(F:RelV y u)(rv:RelV v r)(h:∀s',Inv X pins σ H' s'->Q () s'):
  wpAny (model X.prog X.w) A (setItem (.ref a) u r) Q E s:=by
 rcases g with⟨d,k,e,o,l,n⟩ |⟨d,k,b,e,o,B,l,n⟩
 .subst o n;obtain⟨z,p,R,f,m⟩:=vP I.hok e;have x:R.length<=sizeLine:=by rw[<-f.length];exact z
  have t:(putK d k v).length<=sizeLine:=by have :=n9 d k v;lia
  refine wpAny_setItem_pairs (hsz:=x) (og F) m λD i w=>h _ ?_;have O:∃q,D.get? a<*q:=let⟨q,_,_,j,_⟩:=i;(q,j,);exact qW I (by rw[e];exact True.intro) w O (DD t p (f.put k rv) i)
 .subst o n;cases(show u=bo b from F);obtain⟨z,p,S,f,m⟩:=dt_of I.hok e;have x:S.length<=sizeLine:=by rw[<-fg f];exact z
  have t:(putK d k v).length<=sizeLine:=by have :=n9 d k v;lia
  refine wpAny_setItem_heap (hsz:=x) (nI P) (sh I.hok B) m λD i w=>h _ ?_;obtain⟨q,J,G,j,K,L,M,_,N⟩:=i;refine qW I (by rw[e];exact True.intro) w (q,j,) (t,p,_,(f.put k B rv).keeps λc T C=>?_,q,J,G,j,K,L,M,N,);rw[aQ (gv C e (λz=>nomatch z))];exact C
end
section
variable {pins:List (Addr×Obj)}{s:Shared}{a:Addr}{kvs:List (Key×V)}{k:Key}{u:Value}{E:'I'}
def d_len{Q:'I'}(I:'A')(e:Rd H a (.dK kvs))(h:∀t s',Inv X pins σ H s'->Q (.int kvs.length t) s'):wpAny (model X.prog X.w) A (call (.builtin "len") [.ref a]) Q E s:=by obtain⟨z,d,f,b,c⟩:=tH I.hok e;refine call_len_dict d c (by rw[<-b.length];rw[gA]at z;lia) ?_;rw[<-b.length];exact h _ _ (I.tok _)
end
def NoSl(i:Expr):Prop:=∀ov a,subscripted i false ov a=operate [ov,a] (Fu ov a)
def subD_of{env:Env}{d a:Expr}{T id:String}{Q:'I'}
  (j:xm (.type T) "__getitem__"=pure (some (.builtin id)))(k:NoSl a)
  (h:'B' (eval d env) (λo f=>'B' (eval a env) (λi b=>b.TypeIs o T/\'B' (Fu o i) Q E b) E f) E s):
  'B' (eval (.Subscript d a pos) env) Q E s:=by
 refine Subscript_ (cE h (λo f l=>cE l (λi b c=>?_) λ_ _ x=>x) λ_ _ x=>x);obtain⟨e,c⟩:=c;unfold KW;refine ae ?_;rw[getitemInPython_of_ne e.not_modules];refine ae (eI e j ?_);have fin:'B' (subscripted a false o i) (λr g=>'B' (letTemporaryGo d o r>>=λ_=>pure r) Q E g) E b:=by rw[k o i];exact wpAny_operating (cE c (λr g m=>ae (wpAny_letTemporaryGo (ag m))) λ_ _ x=>x)
 first
  |exact ag (ae fin)
  |exact ae (ag (ae fin))
  |exact ae fin
def BH{o:Option V}(I:'A')(g:xk H a y o):s.TypeIs (.ref a) "dict":=by
 rcases g with⟨d,k,e,_,_⟩ |⟨d,k,b,e,_,_,_⟩;·obtain⟨_,_,f,_,c⟩:=tH I.hok e;exact c.typeIs
 .obtain⟨_,_,h,_,c⟩:=x5 I.hok e;exact c.typeIs
def HR(td ty:TE):TE:=λσ H Q=>td σ H λx H1=>ty σ H1 λy H2=>∃a v,x=.ref a/\xk H2 a y (some v)/\Q v H2
def uu(ty td:TE):TE:=λσ H Q=>ty σ H λy H1=>td σ H1 λx H2=>∃a o,x=.ref a/\xk H2 a y o/\Q (.bl (!o.isSome)) H2
def IH(td ty tv:TE):TS:=λD σ H=>tv σ H λv H1=>td σ H1 λx H2=>ty σ H2 λy c=>∃a b,x=.ref a/\D1 c a y v b/\D.nx σ b
section
variable {o i value:Expr}{tpos:Pos}{td ty tv:TE}
def pe_dget(p:X.A.units+1<cLine)(m:PE X o td)(hi:PE X i ty)(n:NoSl i):PE X (.Subscript o i pos) (HR td ty):=by intro c s d H Q I h;refine subD_of PySem.F.slot_dict_getitem.lookup n (thn (m c s d H _ I h) λu A ⟨x,e,j,w,q⟩=>thn (hi c A d e _ j q) λB C ⟨y,f,b,z,a,v,l,g,r⟩=>?_);subst l;obtain rfl:u=bo a:=w;exact(BH b g,GK p b g z λE D k t=>(v,f,k,t,r,),)
def xH(n:X.A.units+1<cLine)(hi:PE X i ty)(m:PE X o td):PC X .NotIn i o (uu ty td):=by intro b s c H Q I h;refine thn (hi b s c H _ I h) λz w ⟨y,d,f,v,q⟩=>thn (m b w c d _ f q) λu A ⟨x,e,j,t,a,p,l,g,r⟩=>?_;subst l;obtain rfl:u=bo a:=t;exact d_notIn n j g v λB k=>(.bl (!p.isSome),e,k,rfl,r,)
def ps_dput(t:X.A.units+1<cLine)(p:PE X o td)(hi:PE X i ty)(w:PE X value tv)(q:nj value (some (.Subscript o i pos')) pos.line X.env=pure false):
  PS X (.Assign [.Subscript o i pos'] value pos) (IH td ty tv):=by
 intro c s b H D I h;refine wpAny_Assign_Subscript (thn (w c s b H _ I h) λr F ⟨v,d,j,rv,z⟩=>thn (p c F b d _ j z) λu G ⟨x,e,k,C,A⟩=>thn (hi c G b e _ k A) λK L ⟨y,J,l,E,a,f,n,g,B⟩=>?_) q;subst n;obtain rfl:u=bo a:=C;exact GJ t l g E rv λM m=>(b,f,m,B,)
end
def vQ(h:Heap)(a:dA<h.objs.size):cX P w H (h.push {cls:=.type "dict",data:=.dict #[]}) h.objs.size (.dK []):=
 (a0 _,beq_eq_false_iff_ne.mpr (cU (aK a)),[],.nil,FD h,)
def HQ:TE:=λ_ H Q=>∀p,H p=none->Q (.ref p) (upd H p (.dK []))
section
def Jr:PE X (.Dict [] [] pos) HQ:=λb s c H Q I h=>
 wpAny_Dict_empty (.ref ⇑s,_,I.laid (a:=⇑s) (o:=.dK []) (t':=s.toks) (λ_ _ q=>af _ q) (aE _) (vQ s.heap I.big),rfl,h _ (I.hok.fresh (aE _)),)
end
abbrev yF:List (TE×TE)->St->Hp->(List (V×V)->Hp->Prop)->Prop
 | [],_,H,Q=>Q [] H
 | (tk,tv)::r,σ,H,Q=>tk σ H λx H1=>tv σ H1 λy H2=>yF r σ H2 λps a=>Q ((x,y)::ps) a
noncomputable abbrev VV:List (V×V)->List (Value×Value)->Prop:=Paired λp q=>RelV p.1 q.1/\RelV p.2 q.2
def PPs(X:Cx)(pos:Pos)(keys:List (Option Expr))(b:List Expr)(a:List (TE×TE)):Prop:=
 ∀(pins:List (Addr×Obj))(s:Shared)(σ:St)(H:Hp)(Q:List (V×V)->Hp->Prop),'A'->yF a σ H Q->
  'C' (evalPairs (pairTrees keys b X.env pos)) (λvs s'=>∃ps H',Inv X pins σ H' s'/\VV ps vs/\Q ps H') X.xe s
def pps_nil:PPs X pos [] [] []:=λa s b H Q I h=>pairTrees_nil_walk ([],H,I,.nil,h,)
def Jg{k v:Expr}{ks:List (Option Expr)}{vs:List Expr}{tk d:TE}{c:List (TE×TE)}(m:PE X k tk)(o:PE X v d)(n:PPs X pos ks vs c):
  PPs X pos (some k::ks) (v::vs) ((tk,d)::c):=λa s b H Q I h=>
 wu (thn (m a s b H _ I h) λu B ⟨x,e,i,z,q⟩=>thn (o a B b e _ i q) λE C ⟨y,f,j,A,r⟩=>
  thn (n a C b f _ j r) λF D ⟨p,g,l,w,t⟩=>((x,y)::p,g,l,.cons (z,A,) w,t,))
abbrev jh(kvs more:List (Key×V)):List (Key×V):=more.foldl (λad a=>putK ad a.1 a.2) kvs
def KV.merge:∀{more:List (Key×V)}{a:List (Key×Value)}{kvs:List (Key×V)}{vs:List (Key×Value)},KV more a->KV kvs vs->KV (jh kvs more) (merged vs a):=by
 intro more a kvs vs r;unfold KV at r
 induction r generalizing kvs vs with
 |nil=>intro q;exact q
 | @cons p q ps qs h t ih=>
  intro b;have e:KV (putK kvs p.1 p.2) (stored vs q.1 q.2):=by have :=b.put p.1 h.2;rw[<-h.1];exact this
  exact ih e
theorem lj:∀(more kvs:List (Key×V)),(jh kvs more).length<=kvs.length+more.length
 | [],kvs=>by show kvs.length<=kvs.length+0;lia
 |p::r,kvs=>by have a:=lj r (putK kvs p.1 p.2);have b:=n9 kvs p.1 p.2;show(jh (putK kvs p.1 p.2) r).length<=_;rw[aZ];lia
theorem vX:∀{kvs:List (Key×V)}{ws:List (Value×Value)},VV (kvs.map λe=>(kV e.1,e.2)) ws->∃d,Carries (bH P w) ws d/\KV kvs d
 | [],_,r=>by rw[uQ]at r;cases r;exact([],True.intro,.nil,)
 |p::kvs,_,r=>by
  rw[bw]at r;cases r with
  | @cons a b as bs h t=>obtain⟨d,c,q⟩:=vX t;obtain⟨g,f⟩:=b;exact((p.1,f)::d,(og h.1,rfl,c,),.cons (rfl,h.2,) q,)
def tDisp(b:List (TE×TE)):TE:=λσ H Q=>∀p,H p=none->yF b σ (upd H p (.dK [])) λps H2=>H2 p<*(.dK [])/\∃kvs:List (Key×V),ps=kvs.map (λa=>(kV a.1,a.2))/\kvs.length<=15/\Q (.ref p) (upd H2 p (.dK (jh [] kvs)))
def pe_disp{keys:List (Option Expr)}{b:List Expr}{i:List (TE×TE)}(h:PPs X pos keys b i)(p:keys.all (·.isSome)=true)(u:keys.length=b.length)(h0:keys≠[])
  (n:keys.length<=15):PE X (.Dict keys b pos) (tDisp i):=by
 intro A s G H Q I q;have v:=I.hok.fresh (aE ⇑s);have j:=I.laid (a:=⇑s) (o:=.dK []) (h':=s.heap.push {cls:=.type "dict",data:=.dict #[]}) (t':=s.toks) (λ_ _ q=>af _ q) (aE _) (vQ s.heap I.big);refine wpAny_Dict_walk (knd:=bH X.prog X.w) p u h0 n (thn (h A _ G _ _ j (q _ v)) λN L ⟨K,J,d,D,e,g,l,lk,B⟩=>?_);subst l;obtain⟨F,c,E⟩:=vX (P:=X.prog) (w:=X.w) D;obtain⟨z,r,M,C,k⟩:=vP d.hok e;cases C;refine(F,c,k,λh' f x=>(.ref ⇑s,_,?_,rfl,B,),);have y:(jh [] g).length<=sizeLine:=by have m:=lj g [];rw[eB]at m;rw[gA];lia
 have t:∃q,h'.get? ⇑s<*q:=let⟨q,_,_,hq,_⟩:=f;(q,hq,);exact qW d (by rw[e];exact True.intro) x t (DD y r (E.merge .nil) f)
structure M1(X:Cx)(o:Expr)(m:Str)(apos:Pos)(e:Expr)(au:Pos):Prop where
 base:kZ o m X.env (eval o X.env)=eval o X.env
 few:((backTo au (bx [e] X.env)).all (λx=> !x.1)&&(um au (lJ [] X.env)).all (λx=>x.1.isSome)
  &&decide (([e]:List Expr).length+([]:List Keyword).length+(if([]:List Keyword).isEmpty then 0 else 1)<30))=true
 line:(apos.endLine==au.line)=true
 trees:backTo au (bx [e] X.env)=[(false,eval e X.env)]
def IsD(H:Hp)(a:Addr):Prop:=(∃kvs,Rd H a (.dK kvs))\/∃kvs,Rd H a (.dT kvs)
def isD_at(I:'A')(d:IsD H a):
  s.TypeIs (.ref a) "dict"/\(∀b,bo a=.ref b->∃c,s.heap.get? b<*c/\c.dict=none)/\(a==dA)=false:=by
 rcases d with⟨j,e⟩ |⟨j,e⟩;·obtain⟨_,i,k,_,f⟩:=tH I.hok e;refine(f.typeIs,λb q=>?_,i,);cases q;obtain⟨c,_,_,g,h,_⟩:=f;exact(c,g,h.2.1,)
 .obtain⟨_,i,l,_,f⟩:=x5 I.hok e;refine(f.typeIs,λb q=>?_,i,);cases q;obtain⟨c,_,_,g,h,_⟩:=f;exact(c,g,h.2.1,)
section
variable {pins:List (Addr×Obj)}{s:Shared}{a:Addr}{d:V}{u r:Value}{o:Option V}{E:'I'}
def d_get1{Q:'I'}(p:A.units+1<cLine)(I:'A')(g:xk H a y o)(j:RelV y u)(h:∀m s',Inv X pins σ H s'->RelV (o.getD .non) m->Q m s'):
  wpAny (model X.prog X.w) A (call (.builtin "dict.get") [.ref a,u]) Q E s:=by
 rcases g with⟨q,k,e,d,l⟩ |⟨q,k,b,e,d,n,l⟩;·subst d;obtain⟨z,f,t,i,c⟩:=tH I.hok e;refine zX oB c.typeIs B8 (Af _ _) (meets_dict_get (bH X.prog X.w) a (og j) f) (_,c.mapOf,h _ _ (I.tok _) ?_,);rw[l];exact(i.val k).getD rfl
 .subst d;cases(show u=bo b from j);obtain⟨z,f,r,i,c⟩:=x5 I.hok e;refine zX oB c.typeIs B8 (Af _ _) (meetsH_dict_get (gV (bH X.prog X.w)) a b f) (nI p,k,r,sh I.hok n,c,h _ _ (I.tok _) ?_,);rw[l];exact(i.val k).getD rfl
end
def CD(td ty:TE):TE:=λσ H Q=>td σ H λx H1=>∃a,x=.ref a/\IsD H1 a/\ty σ H1 λy H2=>∃o,xk H2 a y o/\Q (o.getD .non) H2
section
variable {o f:Expr}{apos:Pos}{td ty tx:TE}
def Js(r:X.A.units+1<cLine)(q:PE X o td)(p:PE X e ty)(m:M1 X o "get" apos e au):PE X (.Call (.Attribute o "get" apos) [e] [] au) (CD td ty):=by intro c s f H Q I h;refine wpAny_Call_method m.base m.few m.line mT oB PySem.F.type_dict_get (thn (q c s f H _ I h) λu B ⟨x,i,b,z,a,n,d,t⟩=>?_);subst n;obtain rfl:u=bo a:=z;obtain⟨C,D,_⟩:=isD_at b d;refine(C,D,?_,);rw[m.trees];refine gc rfl (Hl (i4 (thn (p c B f i _ b t) λE G ⟨y,j,k,A,F,g,v⟩=>Calls.spliced_nil ?_)));exact d_get1 r k g A λK J l w=>(_,j,l,w,v,)
end
end L2
namespace Att
open PySem.W PySem.Calls
def ue{P:Params}:∀(ns:List Int)(vs:List Value),WellAll P h vs (ns.map WData.int)->IntsAre vs ns:=by
 intro ns
 induction ns with
 |nil=>intro vs w;rw[uQ]at w;cases w;exact .nil
 |cons n ns ih=>
  intro vs w;rw[bw]at w;cases w with
  |cons a b=>cases a;exact .cons _ _ (ih _ b)
def FX{l:OpenLaw}(m:l.most<*n){P:Params}{args:List WData}{vals:List Value}
  (f:l.row.toRowW.claim.pre args=true)(p:WellAll P h vals args):
  ∃a vs ns,vals=[bo a]/\args=[WData.list (ns.map WData.int)]/\h.get? a<*{cls:=.type "list",data:=.seq vs.toArray}/\IntsAre vs ns/\ns.length<=n:=by
 have o:WShape.hasAll [] args [.list .int]=true:=(pre_splitW f).1;have e:l.pre.holds [] {args:=args}=true:=(pre_splitW f).2;obtain⟨d,r,rfl,g,i⟩:=hasAllW_cons o;obtain rfl:=hasAllW_nil i;obtain⟨t,rfl,j⟩:=hasW_list g;obtain⟨ns,rfl⟩:=items_int j;have k:ns.length<=n:=by
  unfold OpenLaw.pre at e;have b:(WTm.not (.lt (.lit (.int (n:Int))) (.len (.arg 0)))).holds [] {args:=[.list (ns.map .int)]}=true:=by have b:=(holds_andW e).1;rw[m]at b;exact b
  have c:=condW_of b (w_not (w_lt w_lit (w_len_list (w_arg rfl))));rw[ah]at c;refine iF λq=>?_;have s:(n:Int)<((ns.length:Nat):Int):=by lia
  first
   | (rw[decide_eq_true s]at c;exact absurd c 'E')
   | (simp at c;lia)
 cases p with
 |cons w1 w2=>
  cases w2;cases w1 with
  |list ho hall=>exact(_,_,ns,rfl,rfl,ho,ue ns _ hall,k,)
def Gb(l:OpenLaw)(args:List WData):l.row.toRowW.claim.post args (.bool true) args=true:=
 postW_of (r:=l.row.toRowW) (X:=(true==true))
  (show WShape.has [] (.bool true) .bool=true by first |rfl|decide|simp[WShape.has,WShape.arms,WShape.armsAll])
  (show(WTm.eq .res (.lit (.bool true))).value [] {args:=args,res:=some (.bool true),after:=args}<*(.bool (true==true))from w_eq_bool (w_res rfl) w_lit) rfl
def BS{l:OpenLaw}{q:Program}{XP:(Str->Option Value)->Heap->Prop}{YP:World->Heap->Prop}{d:DefRec}
  (y:l.most<*n)(p:d.params.defaults=[])
  (call:∀(w:World)(c b:Shared)(mg mb:Str->Option Value)(fa:Addr)(o:Obj)(pm cd ap:Value)(a:Addr)(vs:List Value)(ns:List Int),
   Ground q loose [] XP w c mg mb b.heap->YP w b.heap->
   b.heap.get? fa<*o->o.data=.func (docDef d.name d.params d.body d.scope pm cd ap)->b.heap.CodeRec cd d.name->mg d.name<*(.ref fa)->
   b.heap.get? a<*{cls:=.type "list",data:=.seq vs.toArray}->IntsAre vs ns->ns.length<=n->b.gens= #[]->
   gh (model l.prog w) Fv (.call (.ref fa) ([.ref a],[],)) (λr s'=>r=.ok (.ret (.bool true))/\OldK b.heap s'.heap/\s'.os=b.os/\o7 s'.gens) b):
  WalkO q loose XP YP l.row.toRowW d [] (λf vs=>PySem.call f vs):=by
 intro w c b mg mb G Y fa o pm cd ap g kV z m k e x s E vals F B H J D I;obtain rfl:g=.none:=Dflts.none e p;obtain rfl:kV=.none:=Dflts.noKw e;obtain⟨a,vs,ns,rfl,rfl,A,t,u⟩:=FX y B D;refine enter_call (jY (call w c b mg mb fa o pm cd ap a vs ns G Y z (fd_plain m) k x A t u s) λr s' C=>?_);obtain⟨rfl,h,i,j⟩:=C;exact(.inl ⟨.bool true,.bool true,[],rfl,λ_=>rfl,.bool true,Gb l _,λ_=>⟨ki,λ_ v=>(nomatch v)⟩⟩,h,i,j,)
end Att
namespace L2
theorem xA:∀{vs:List Value}{ns:List Int},IntsAre vs ns->bZ (ns.map V.int) vs
 |_,_,.nil=>.nil
 |_,_,.cons n t h=>.cons (t,rfl,) (xA h)
noncomputable abbrev CX0:CXT:=λ_ _ _ _ _ _=>False
noncomputable abbrev E0:XK:=λ_ _ _=>False
structure Fun(K:ai)(x ao:Str)(st:Stmt)(f:Addr)(fd:gp):Prop where
 ex:∃(oc:Value)(od:Option Addr)(kV ap pm:Value)(an:Option Addr)(am ct:Value)(az:Array (Option Value)),
  fd=aX x ao (bV st) (bM st) (bh st) .none kV ap pm an am ct/\K.lookup f<*(oc,od,.func fd,az,)/\fC K am ao=true
 kp:cF K (.ref f)=true
section
variable {mg:Str->Option Value}
def Fun.binds{st:Stmt}{a:gp}(F:Fun K x ao st f a)
  (h:∀(kV ap pm:Value)(an:Option Addr)(am ct:Value)(us:List Value),us.length=ps.length->bindArgs (aX x ao (bV st) (bM st) (bh st) .none kV ap pm an am ct) (us,[],)=pure (ps.zip us)):Binds K a ps []:=by
 obtain⟨c,d,kV,ap,pm,an,am,ct,e,rfl,lk,b⟩:=F.ex;exact .all (h kV ap pm an am ct)
def Kj{st:Stmt}{an:Option Addr}{kV:Value}(l:K.lookup f<*(oc,od,.func (aX x ao (bV st) (bM st) (bh st) .none kV ap pm an am ct),az,))
  (c:fC K am ao=true)(k:cF K (.ref f)=true):Fun K x ao st f (aX x ao (bV st) (bM st) (bh st) .none kV ap pm an am ct):=((oc,od,kV,ap,pm,an,am,ct,az,rfl,l,c,),k,)
end
def aY(H H':Hp):Prop:=∀b o,H b<*o->H' b<*o
def aY.refl(H:Hp):aY H H:=λ_ _ h=>h
def aY.trans(a:aY H H1)(b:aY H1 H2):aY H H2:=λc o h=>b c o (a c o h)
def aY.free(e:aY H H')(h:H' l=Option.none):H l=Option.none:=by
 cases q:H l with
 |none=>rfl
 |some o=>rw[e l o q]at h;cases h
def aY.seq(e:aY H H')(h:SqL K H a xs):SqL K H' a xs:=by
 rcases h with(h|⟨o,h⟩) |h;·exact .inl (.inl (e _ _ h))
 .exact .inl (.inr (o,e _ _ h,))
 .exact .inr h
abbrev fK(cells:List (Str×Addr)):List (Str×eQ)->List (Str×Addr)->List (Str×Addr)
 | [],ad=>ad
 | (n,k)::r,ad=>fK cells r (if k=.free then(n,(cells.lookup n).getD 0)::ad else ad)
theorem qi{env:Env}{f:Str×eQ->List (Str×Addr)->Sem (ForInStep (List (Str×Addr)))}
  (b:∀n k a c,k=.free->env.cells.lookup n<*c->f (n,k) a=pure (.yield ((n,c)::a)))(d:∀n k a,k≠.free->f (n,k) a=pure (.yield a)):
  ∀(names:List (Str×eQ))(ad:List (Str×Addr)),(∀y∈names,y.2=.free->∃c,env.cells.lookup y.1<*c)->forIn names ad f=(pure (fK env.cells names ad):Sem _)
 | [],ad,_=>rfl
 | (n,k)::r,ad,h=>by
  rw[dO];by_cases e:k=.free;·obtain⟨c,i⟩:=h (n,k) aw e;rw[b n k ad c e i];show forIn r ((n,c)::ad) f=_;rw[qi b d r _ λy g=>h y (aB _ g)];simp[fK,e,i]
  .rw[d n k ad e];show forIn r ad f=_;rw[qi b d r _ λy g=>h y (aB _ g)];simp[fK,e]
def w6{env:Env}(h:∀y∈scope.names,y.2=.free->∃c,env.cells.lookup y.1<*c):closureFor scope env=pure (fK env.cells scope.names []):=by
 have q:=qi (env:=env) (f:=λx b=>match x with | (name,kind)=>if(kind==cj)=true then(do let a<-cellOf env name;pure (iz ((name,a)::b)))else pure (iz b))
  (λn k a c e g=>by
   subst e;simp only[cellOf,g];rfl) (λn k a e=>by
   have d:(k==cj)=false:=by simpa using e
   simp only[d,b8,if_false]) scope.names [] h
 unfold closureFor;show(forIn scope.names [] _>>=λr=>pure r)=_;exact(congrArg (·>>=λr=>pure r) q).trans rfl
theorem lq{cells:List (Str×Addr)}:∀(names:List (Str×eQ))(ad:List (Str×Addr))(x:Str)(c:Addr),(fK cells names ad).lookup x<*c->
  ((x,cj)∈names/\c=(cells.lookup x).getD 0)\/ad.lookup x<*c
 | [],ad,x,c,h=>.inr h
 | (n,k)::r,ad,x,c,h=>by
  rcases lq r _ x c h with⟨q,e⟩ |q;·exact .inl (aB _ q,e,)
  .by_cases e:k=.free
   .rw[if_pos e,bE]at q;cases hx:x==n with
    |true=>
     rw[hx]at q;have a:x=n:=by simpa using hx
     subst a;subst e;exact .inl (aw,(bC q).symm,)
    |false=>rw[hx]at q;exact .inr q
   .rw[if_neg e]at q;exact .inr q
theorem vU{cells:List (Str×Addr)}:∀(names:List (Str×eQ))(ad:List (Str×Addr))(x:Str),(ad.lookup x).isSome=true->((fK cells names ad).lookup x).isSome=true
 | [],ad,x,h=>h
 | (n,k)::r,ad,x,h=>by
  refine vU r _ x ?_;split;·rw[bE];cases x==n<;>simp_all
  .exact h
theorem qj{cells:List (Str×Addr)}:∀(names:List (Str×eQ))(ad:List (Str×Addr))(x:Str),(x,cj)∈names->((fK cells names ad).lookup x).isSome=true
 | [],ad,x,h=>by simp at h
 | (n,k)::r,ad,x,h=>by
  rcases aG.mp h with q|q;·cases q;refine vU r _ n ?_;simp[bE]
  .exact qj r _ x q
theorem fY:∀(names:List (Str×eQ))(n:Nat)(ad:List (Str×Addr)),cM n names ad=cM n names []++ad
 | [],_,_=>rfl
 | (x,k)::r,n,ad=>by
  unfold cM;split;·rw[fY r (n+1) ((x,n)::ad),fY r (n+1) [(x,n)],bQ];rfl
  .exact fY r n ad
theorem lu:∀(names:List (Str×eQ))(n:Nat)(ad:List (Str×Addr))(x:Str),(ad.lookup x).isSome=true->((cM n names ad).lookup x).isSome=true
 | [],_,_,_,h=>h
 | (y,k)::r,n,ad,x,h=>by
  unfold cM;split;·refine lu r _ _ x ?_;rw[bE];cases x==y<;>simp_all
  .exact lu r _ _ x h
theorem jn:∀(names:List (Str×eQ))(n:Nat)(ad:List (Str×Addr))(x:Str),(x,df)∈names->((cM n names ad).lookup x).isSome=true
 | [],_,_,_,h=>nomatch h
 | (y,k)::r,n,ad,x,h=>by
  unfold cM;rcases aG.mp h with q|q;·cases q;rw[if_pos (by rfl)];refine lu r _ _ _ ?_;simp[bE]
  .split;·exact jn r _ _ x q
   .exact jn r _ _ x q
theorem lr:∀(names:List (Str×eQ))(n:Nat)(ad:List (Str×Addr))(x:Str)(c:Addr),(x,c)∈cM n names ad->(x,df)∈names\/(x,c)∈ad
 | [],_,_,_,_,h=>.inr h
 | (y,k)::r,n,ad,x,c,h=>by
  unfold cM at h;split at h
  .rename_i hk;rcases lr r _ _ x c h with q|q;·exact .inl (aB _ q)
   .rcases aG.mp q with e|e
    .cases e;have :k=.cell:=by simpa using hk
     subst this;exact .inl aw
    .exact .inr e
  .rcases lr r _ _ x c h with q|q;·exact .inl (aB _ q)
   .exact .inr q
def DC{M:Model}{d:Addr}{b:List (Str×Addr)}{c:Value}{e:Env}{a:Addr}{Q:Env->Shared->Prop}
  (h:Q (newEnv scope ⇑s d (cM (⇑s+1) scope.names b) ao func c (some e) a) {s with heap:=pushCells (s.heap.push {cls:=.type "dict",data:=.dict #[]}) scope.names}):
  wpAny M A (newFunctionEnv scope d b [] ao func c (some e) a) Q E s:=by
 simp only[newFunctionEnv,rP,if_true];refine ae (wpAny_alloc ?_);refine ae (wpAny_layCells _ (λname kind f=>by cases hkc:kind==df<;>simp[hkc]) _ _ _ _ ?_);rw[show({s with heap:=s.heap.push {cls:=.type "dict",data:=.dict #[]}}:Shared).heap.objs.size=⇑s+1 from cK ..];rw[dm];exact ae (ag (ag h))
structure oX(X:Cx)(N':List Str)(sc:Scope):Prop where
 kind:sc.kind=.function
 cellk:∀y∈sc.names,y.2=.cell->sc.names.lookup y.1<*.cell
 own:∀y∈sc.names,y.2=.local->sc.names.lookup y.1<*.local
 free:∀y∈sc.names,y.2=.free->X.env.kindOf y.1<*.cell\/X.env.kindOf y.1<*.free
abbrev eF(X:Cx)(N':List Str)(sc:Scope)(C:Addr)(s₀:Shared)(H₀:Hp)(fp:List Addr):Cx:=
 {X with N:=N',s₀:=s₀,H₀:=H₀,env:=compEnvC sc (cM (C+1) sc.names (fK X.env.cells sc.names [])) C X.env,outer:=X.stack,stack:=X.stack,ex:=fp,fn:=λx=>sc.names.any λy=>decide (y.1=x)&&decide (y.2=.cell),pn:=[],xe:=λ_ _=>False}
theorem nR{env:Env}:∀{names:List (Str×eQ)}{x:Str}{k:eQ},
  (names.map λ(n,k)=>if(k==cj&&env.scope.kind== .function&&env.kindOf n==some .cell)then(n,df)else(n,k)).lookup x<*k->
  names.lookup x<*k\/(names.lookup x<*.free/\k=.cell)
 | [],_,_,h=>by simp at h
 | (n,k)::r,x,k',h=>by
  have a:= @nR env r x k';rw[bw]at h;change dG x ((if(k==cj&&env.scope.kind== .function&&env.kindOf n==some .cell)=true then(n,df)else(n,k))::_)=_ at h;cases hx:x==n with
  |true=>
   by_cases hc:(k==cj&&env.scope.kind== .function&&env.kindOf n==some .cell)=true
   .rw[if_pos hc]at h;simp only[bE,hx]at h⊢;have :k=.free:=by have :=hc;simp only[aN]at this;simpa using this.1.1
    subst this;exact .inr (rfl,(bC h).symm,)
   .rw[if_neg hc]at h;simp only[bE,hx]at h⊢;exact .inl h
  |false=>
   have e:dG x (r.map λ(n,k)=>if(k==cj&&env.scope.kind== .function&&env.kindOf n==some .cell)then(n,df)else(n,k))<*k':=by split at h<;>simpa only[bE,hx]using h
   simp only[bE,hx];exact a e
theorem gP{env:Env}:∀{names:List (Str×eQ)}{x:Str},names.lookup x<*.free->
  (names.map λ(n,k)=>if(k==cj&&env.scope.kind== .function&&env.kindOf n==some .cell)then(n,df)else(n,k)).lookup x<*.free\/
  (names.map λ(n,k)=>if(k==cj&&env.scope.kind== .function&&env.kindOf n==some .cell)then(n,df)else(n,k)).lookup x<*.cell
 | [],_,h=>by simp at h
 | (n,k)::r,x,h=>by
  have a:= @gP env r x;rw[bw];change dG x ((if(k==cj&&env.scope.kind== .function&&env.kindOf n==some .cell)=true then(n,df)else(n,k))::_)=_\/dG x ((if(k==cj&&env.scope.kind== .function&&env.kindOf n==some .cell)=true then(n,df)else(n,k))::_)=_;cases hx:x==n with
  |true=>
   simp only[bE,hx]at h;cases h;by_cases hc:(cj==cj&&env.scope.kind== .function&&env.kindOf n==some .cell)=true;·rw[if_pos hc];right;simp only[bE,hx]
   .rw[if_neg hc];left;simp only[bE,hx]
  |false=>simp only[bE,hx]at h;split <;>simpa only[bE,hx]using a h
theorem gw{env:Env}:∀{names:List (Str×eQ)}{x:Str}{k:Option eQ},names.lookup x=k->k≠some .free->
  (names.map λ(n,k)=>if(k==cj&&env.scope.kind== .function&&env.kindOf n==some .cell)then(n,df)else(n,k)).lookup x=k
 | [],_,_,h,_=>by simpa using h
 | (n,k)::r,x,k',h,hf=>by
  have c:= @gw env r x k';rw[bw];change dG x ((if(k==cj&&env.scope.kind== .function&&env.kindOf n==some .cell)=true then(n,df)else(n,k))::_)=_;cases hx:x==n with
  |true=>
   simp only[bE,hx]at h;have b:k≠.free:=λe=>hf (by rw[<-h,e]);have a:(k==cj)=false:=by simpa using b
   rw[if_neg (by rw[a];simp)];simp only[bE,hx];exact h
  |false=>simp only[bE,hx]at h;split <;>simpa only[bE,hx]using c h hf
def xU{a:List (Str×Addr)}{env:Env}{k:eQ}(h:(compEnvC sc a C env).kindOf x<*k):sc.names.lookup x<*k\/(sc.names.lookup x<*.free/\k=.cell):=nR (env:=env) h
def DM{R:Result->Shared->Prop}{f d:Expr}{g:List Expr}{b e:Value}{env:Env}(I:Nat->Shared->Prop)
  (D:∀n s,I n s->'B' (pyNext b) (λr i=>match r with
   |none=>R (.ok .next) i
   |some v=>'B' (rN d b v) (λ_ o=>'B' (assign d env v) (λ_ p=>
     'B' (forIn g true λc r=>if r=true then do let ok<-isTrue c env (eval c env);pure (iz ok)else pure (iz r)) (λok j=>
      if ok=true then 'B' (eval f env) (λx q=>
       'B' (call (.builtin "list.append") [e,x]) (λ_ t=>∃m,m<n/\I m t) (λ_ _=>False) q) (λ_ _=>False) j
      else ∃m,m<n/\I m j) (λ_ _=>False) p) (λ_ _=>False) o) (λ_ _=>False) i) (λ_ _=>False) s)
  (n:Nat) (h:I n s):
  gh (model prog w) A (.compLoop (.ListComp f [(d,iter,g,0,)] scope pos) 0 b e env) R s:=by
 refine codeAny_loop rfl I (λn s u=>?_) n h;show wpAny _ A ((compTurn (.ListComp f [(d,iter,g,0,)] scope pos) 0 b e env).onRaise (λx=>do nq x env;theTreesLotGoes x)) _ _ s;refine wpAny_noted ?_;rw[compTurn_list];refine ae (jl (ae (cE (D n s u) (λr i k=>?_) λ_ _ a=>a.elim)));cases r with
 |none=>exact ag k
 |some v=>
  refine ae (cE k (λ_ o y=>?_) λ_ _ a=>a.elim);refine ae (cE y (λ_ p z=>ae (cE z (λok j l=>?_) λ_ _ a=>a.elim)) λ_ _ a=>a.elim);cases ok with
  |false=>exact ag (rfl,l,)
  |true=>exact ae (ae (cE l (λx q B=>ae (cE B (λ_ t C=>ag (ag (rfl,C,))) λ_ _ a=>a.elim)) λ_ _ a=>a.elim))
def PTs(X:Cx)(ifs:List Expr)(t:TT):Prop:=
 ∀(pins:List (Addr×Obj))(s:Shared)(σ:St)(H:Hp)(Q:Bool->Hp->Prop),'A'->t σ H Q->
  'C' (forIn ifs true λc r=>if r=true then do let ok<-isTrue c X.env (eval c X.env);pure (iz ok)else pure (iz r)) (TP X pins σ Q) X.xe s
def FJ:TT:=λ_ H Q=>Q true H
def pts_nil:PTs X [] FJ:=by intro a s b H Q I h;rw[dm];exact ag (H,I,h,)
def pts_one{c:Expr}{t:TT}(h:PT X c t):PTs X [c] t:=by intro d s f H Q I a;rw[dO];simp only[if_true];refine ae (ae (thn (h d s f H Q I a) λb e q=>?_));refine ag ?_;show wpAny _ _ (forIn ([]:List Expr) b _) _ _ e;rw[dm];exact ag q
def uV(wi:TI)(g:TG)(tc:TT)(te:TE)(mk:St->St):TE:=λσ H Q=>wi σ H λJ H1=>∃W:Nat->Nat->St->List V->Hp->Prop,(∃m,W 0 m (mk σ) [] H1)/\
 ∀i m h ad H2,W i m h ad H2->(J.stop i H2/\∀l,H2 l=none->Q (.ref l) (upd H2 l (.lst ad)))\/(J.go i H2/\∃N:St->List V->Hp->Prop,(∀j e H',N j e H'->∃f,f<m/\W (i+1) f j e H')/\
  ∀x c,J.yld i H2 x c->g x h c λa k=>tc a k λb d=>if b=true then te a d λv n=>ad.length<sizeLine/\N a (ad++[v]) n else N a ad d)
def Inv.track{o:HO}(I:'A')(l:pd X pins H a)(new:cX X.prog X.w (upd H a o) s.heap a o):Inv X pins σ (upd H a o) s:=by
 obtain⟨g,h,t,i,j,k⟩:=l;have :=I.step (g':=s.gens) (d':=s.drawn) (t':=s.toks) (h':=s.heap) (H':=upd H a o) (ch:=[a]) (λb d=>by
   have e:b=a:=by simpa using d
   subst e;exact(i,h,j,k,))
  (λb f _ _ _ q _=>q) (λb f _ _ _ q _=>(f.slots,q,)) (λb f d q n=>by rw[aQ (λz=>d (by simp[z]))];exact n) (λb f _ q=>(f,q,))
  (λb r q=>by rw[aQ (bt q g)];exact q) (λb f u q=>by rw[aQ (bt q g)];exact q) (λb w q=>⟨#[],by rw[aQ (bt q g),q];simp⟩)
  (λm p=>p) (λb u q=>by
   by_cases d:b=a;·subst d;rw[ay]at q;cases q;exact new
   .rw[aQ d]at q;exact(I.hok b u q).pW (λc v _ e=>e) (λc e=>by rw[aQ (bt e g)];exact e) λc r e=>by rw[aQ (bt e g)];exact e) I.bare
 exact this
def DW{Q:'I'}(I:'A')(m:pd X pins H a)
  (e:s.heap.get? a<*{cls:=.type "list",data:=.seq its.toArray n}) (hz:its.length<sizeLine)
  (h:∀h' p,Inv X pins σ H {s with heap:=h'}->h'.get? a<*{cls:=.type "list",data:=.seq (its++[u]).toArray p}->(∀b o,b≠a->s.heap.get? b<*o->h'.get? b<*o)->Q .none {s with heap:=h'}):
  'C' (call (.builtin "list.append") [.ref a,u]) Q E s:=by
 refine nK F.slot_list_append (_,e,rfl,) F.entry_list_append (F.args_list_append_2 _ _) (PySem.list_append a its.toArray n u (by rw[aI];lia)) (e,?_,);have q:=Hg e (·.push u);have c:its.toArray.push u=(its++[u]).toArray:=by simp
 rw[c]at q;have k:∀b o,b≠a->s.heap.get? b<*o->(s.heap.update a (cC (·.push u))).get? b<*o:=λb o l z=>(bb s.heap _ (cU l)).trans z;obtain⟨d,f,r,g,i,j⟩:=m;exact h _ _ (I.turned (t':=s.toks) k d f g i j) q k
section
variable {N':List Str}{elt:Expr}{ifs:List Expr}{wi:TI}{g:TG}{tc:TT}{te:TE}{mk:St->St}
def MkOk(X:Cx)(N':List Str)(sc:Scope)(mk:St->St):Prop:=
 ∀σ:St,σ.length=X.N.length->(mk σ).length=N'.length/\∀(i:Nat)(x:Str)(v:V),N'[i]?<*x->(mk σ)[i]?<*(some v)->sc.names.lookup x<*.free/\∃j:Nat,X.N[j]?<*x/\σ[j]?<*(some v)
theorem yc{Q:VK}{use:Option (Value->Sem Unit)}(S:oX X N' sc)(hm:MkOk X N' sc mk)(hc:X.calm=true)
  (hi:PI X tg iter wi)
  (a:∀C a7 a4 fp,(eF X N' sc C a7 a4 fp).Ok->PG (eF X N' sc C a7 a4 fp) tg g/\PTs (eF X N' sc C a7 a4 fp) ifs tc/\PE (eF X N' sc C a7 a4 fp) elt te)
  (hs:∀x,jW iter X.env x=pure x)(I:'A')(h:uV wi g tc te mk σ H Q)
  (fin:∀(l C:Addr)(H':Hp)(s':Shared)(m:Str->Option Value),Inv X pins σ H' s'->s'.heap.Ns C m->pd X pins H' C->(∃o,s'.heap.get? C<*o/\∀v,o.data≠.cell v)->Q (.ref l) H'->compPost (model X.prog X.w) X.A X.xe use QQ (.ref l) C (.ok .next) s'):
  'C' (comprehension (.ListComp elt [(tg,iter,ifs,0,)] sc pos) sc X.env (firstIterPos [(tg,iter,ifs,0,)] pos) (newList []) false (eval iter X.env) use) QQ X.xe s:=by
 have c6:∀y∈sc.names,y.2=.free->∃c,X.env.cells.lookup y.1<*c:=λy hy E=>I.ok.has _ (S.free y hy E);refine wpAny_comprehension_free (use:=use) rfl hs (w6 c6) S.kind S.own ?_;refine thn (hi pins s σ H _ I h) λv s1 h1=>thn h1 λh7 s2 h2=>?_;obtain⟨it,fp,tn,J,f,e,K,T,d5,f2,e4,⟨m0,w0⟩,h0⟩:=h2;subst e
 --the list
 refine ck ?_;have f5:f ⇑s2=none:=K.fresh;have fD:pd X pins f ⇑s2:=K.sk (aE _) f5;have c1:(s2.heap.push {cls:=.type "list",dict:=none,data:=.seq ([]:List Value).toArray}).get? ⇑s2<*{cls:=.type "list",data:=.seq ([]:List Value).toArray 0}:=aF _ rfl;have r:Inv X pins σ f {s2 with heap:=s2.heap.push {cls:=.type "list",dict:=none,data:=.seq ([]:List Value).toArray}}:=K.kept (t':=s2.toks) λb o e=>af _ e
 --the block's frame
 refine DC ?_;dsimp only;have b5:(s2.heap.push {cls:=.type "list",dict:=none,data:=.seq ([]:List Value).toArray}).objs.size=⇑s2+1:=cK ..;have c4:⇑s2≠(s2.heap.push {cls:=.type "list",dict:=none,data:=.seq ([]:List Value).toArray}).objs.size:=by rw[b5];exact aK (dB _)
 have V:∀b o,s2.heap.get? b<*o->(s2.heap.push {cls:=.type "list",dict:=none,data:=.seq ([]:List Value).toArray}).get? b<*o:=λb o e=>af _ e;generalize hH3:s2.heap.push {cls:=.type "list",dict:=none,data:=.seq ([]:List Value).toArray}=P3 at r b5 c1 c4 V⊢;generalize hD:⇑s2=D0 at *;have c7:(pushCells (P3.push {cls:=.type "dict",data:=.dict #[]}) sc.names).Ns P3.objs.size (λ_=>none):=(Heap.Ns.new P3 (.type "dict")).keeps (pushCells_keeps _ _);have W:∀b o,P3.get? b<*o->(pushCells (P3.push {cls:=.type "dict",data:=.dict #[]}) sc.names).get? b<*o:=λb o e=>pushCells_keeps _ _ b o (af _ e);have Y:=cellsFrom_ok sc.names (P3.push {cls:=.type "dict",data:=.dict #[]}) (P3.objs.size+1) [] (λ_ _ hm=>(nomatch hm),ki,) (by rw[cK];exact aE _);rw[cK]at Y;generalize pushCells (P3.push {cls:=.type "dict",data:=.dict #[]}) sc.names=h4 at c7 W Y⊢
 --the context
 have c3:∀b∈fp,b<D0:=λb a=>by obtain⟨o,e,_⟩:=T.obj _ _ d5 b a;rw[<-hD];exact aD e
 have b0:D0<P3.objs.size:=by rw[b5];exact dB _
 have D:∀x c,(fK X.env.cells sc.names []).lookup x<*c->X.env.cells.lookup x<*c/\(x,cj)∈sc.names:=λx c e=>by
  rcases lq _ _ x c e with⟨q,e'⟩ |q;·obtain⟨R,a2⟩:=c6 _ q rfl;have f0:X.env.cells.lookup x<*R:=a2;rw[f0]at e'⊢;exact(by rw[e'];rfl,q,)
  .simp at q
 have c0:∀x c,(fK X.env.cells sc.names []).lookup x<*c->c<P3.objs.size:=λx c e=>by obtain⟨v,o,j,_⟩:=r.cell x c (D x c e).1;exact aD j
 have U:∀x c,(cM (P3.objs.size+1) sc.names (fK X.env.cells sc.names [])).lookup x<*c->((x,c)∈cM (P3.objs.size+1) sc.names []/\P3.objs.size+1<=c/\h4.IsCell c none)\/(fK X.env.cells sc.names []).lookup x<*c:=λx c e=>by
  rw[fY,tY]at e;cases j:(cM (P3.objs.size+1) sc.names []).lookup x with
  |none=>rw[j]at e;exact .inr e
  |some R=>rw[j]at e;cases e;have m:=bJ j;exact .inl (m,(Y.empty x c m).2,(Y.empty x c m).1,)
 have b9:∀x,sc.names.lookup x<*.free->(cM (P3.objs.size+1) sc.names (fK X.env.cells sc.names [])).lookup x=(fK X.env.cells sc.names []).lookup x:=λx E=>by
  rw[fY,tY];cases j:(cM (P3.objs.size+1) sc.names []).lookup x with
  |none=>rfl
  |some R=>
   rcases lr _ _ _ _ _ (bJ j)with q|q;·have :=S.cellk _ q rfl;rw[E]at this;cases this
   .cases q
 have L:∀b∈D0::fp,pd X pins f b/\b<P3.objs.size:=λb a=>by
  rcases aG.mp a with z|z;·rw[z];exact(fD,b0,)
  .exact(f2 b z,fv (c3 b z) b0,)
 have ok:(eF X N' sc P3.objs.size {s2 with heap:=P3} f (D0::fp)).Ok:=by
  refine(I.ok.mod,S.kind,I.ok.glob,I.ok.blt,aE _,λx y c h1 h2=>?_,λx hx=>?_,λx c z=>?_,λz=>I.ok.hd z,I.ok.frames,.inl rfl,λb a=>(?_,λx c e=>?_,),r.bs,aR I.ok.bsz r.sz,λb o e a=>?_,λb a z=>?_,r.stack,r.yH,)
  .rcases U x c h1 with⟨m1,l1,_⟩ |q1<;>rcases U y c h2 with⟨m2,l2,_⟩ |q2;·exact PySem.name_of_addr Y.apart m1 m2
   .exact absurd l1 (Nat.not_le.mpr (bU (c0 y c q2)))
   .exact absurd l2 (Nat.not_le.mpr (bU (c0 x c q1)))
   .exact I.ok.inj x y c (D x c q1).1 (D y c q2).1
  .have q:sc.names.lookup x<*.free\/sc.names.lookup x<*.cell:=by
    rcases hx with hx|hx
    .rcases xU hx with q|q;·exact .inr q
     .exact .inl q.1
    .rcases xU hx with q|q;·exact .inl q
     .exact .inl q.1
   rcases q with q|q;·have h1:=cW.mp (qj (cells:=X.env.cells) _ [] _ (bJ q));show ∃c,(cM (P3.objs.size+1) sc.names (fK X.env.cells sc.names [])).lookup x<*c;rw[b9 x q];exact h1
   .exact cW.mp (jn _ _ _ _ (bJ q))
  .have z:(sc.names.any λy=>decide (y.1=x)&&decide (y.2=df))=true:=z;obtain⟨y,hy,e⟩:=fS.mp z;rw[aN,decide_eq_true_eq,decide_eq_true_eq]at e;intro hc;rcases U x c hc with⟨_,l1,_⟩ |q1;·show P3.objs.size<=c;lia
   .have hk:=S.cellk y hy e.2;rw[e.1]at hk;rcases lq _ _ x c q1 with⟨q,_⟩ |q
    .have h2:(cM (P3.objs.size+1) sc.names []).lookup x≠none:=λh=>by have :=jn sc.names (P3.objs.size+1) [] x (bJ hk);rw[h]at this;cases this
     have a2:(cM (P3.objs.size+1) sc.names (fK X.env.cells sc.names [])).lookup x<*c:=hc;rw[fY,tY]at a2;cases j:(cM (P3.objs.size+1) sc.names []).lookup x with
     |none=>exact absurd j h2
     |some R=>rw[j]at a2;cases a2;have :=(Y.empty x c (bJ j)).2;show P3.objs.size<=c;lia
    .cases q
  .exact aK (L b a).2
  .rcases U x c e with⟨_,l1,_⟩ |q1;·have :=(L b a).2;exact λz=>by subst z;lia
   .exact(L b a).1.2.2.2.2.1 x c (D x c q1).1
  .rcases(L b a).1.2.2.2.1 with z|z;·exact I.ok.noex b o e z
   .exact absurd (bj (aD e) (aR I.ok.bsz z)) (eN _)
  .rcases aG.mp (K.CK b z)with q|q;·exact(L b a).1.2.1 q
   .exact(L b a).1.2.2.1 q
 obtain⟨pg,pt,pe⟩:=a _ _ _ _ ok;have I4:Inv (eF X N' sc P3.objs.size {s2 with heap:=P3} f (D0::fp)) [] (mk σ) f {s2 with heap:=h4}:=by
  obtain⟨ml,f6⟩:=hm σ I.len;have d0:∀x c v,X.env.cells.lookup x<*c->P3.IsCell c v->h4.IsCell c v:=λx c v e ⟨o,j,hd⟩=>(o,W c o j,hd,);refine(ok,rfl,K.bare,Un.kept W,(_,c7,λi x v e1 e2 e3=>?_,),λx c e=>?_,r.hok.fresh (aE _),λx c e=>?_,λp N=>absurd (show p∈([]:List (Addr×Obj))from N) 'F',r.hok.kept W,ml,)
  .obtain⟨E,f7,hj,hv⟩:=f6 i x v e1 e2;obtain⟨m,M,hl⟩:=r.loc;have kx:=S.free (x,.free) (bJ E) rfl;obtain⟨u,b4,l⟩:=hl f7 x v hj hv (by
    rcases kx with q|q;·exact .inr (.inl q)
    .exact .inr (.inr q))
   refine(u,b4,.inr (?_,?_,),)
   .rcases gP (env:=X.env) E with q|q;·exact .inr q
    .exact .inl q
   .rcases l with⟨q,_⟩ |⟨_,c,c5,f1⟩;·have c9:X.env.kindOf x<*.cell\/X.env.kindOf x<*.free:=kx;rw[q]at c9;rcases c9 with z|z<;>cases z
    .obtain⟨R,q⟩:=cW.mp (qj (cells:=X.env.cells) _ [] _ (bJ E));have :=(D x R q).1;rw[c5]at this;cases this;exact(c,by show(cM (P3.objs.size+1) sc.names (fK X.env.cells sc.names [])).lookup x<*c;rw[b9 x E];exact q,d0 x c _ c5 f1,)
  .rcases U x c e with⟨_,_,hv⟩ |q1;·exact(none,hv,)
   .obtain⟨v,hv⟩:=r.cell x c (D x c q1).1;exact(v,d0 x c v (D x c q1).1 hv,)
  .rcases U x c e with⟨_,l1,_⟩ |q1;·exact r.hok.fresh (by show P3.objs.size<=c;lia)
   .exact r.freeC x c (D x c q1).1
 have d7:tn 0 h4:=T.keep _ _ _ d5 λb a o e=>W b o (V b o e);have f4:∀{H':Hp}{b:Addr},b∈D0::fp->H' b=none->pd (eF X N' sc P3.objs.size {s2 with heap:=P3} f (D0::fp)) [] H' b:=λ{H' b} a M=>
  ⟨M,(ok.exf b a).1,ok.exfs b a,.inl a,(ok.exf b a).2,λp N=>absurd (show p∈([]:List (Addr×Obj))from N) 'F'⟩
 have a5:∀{b:Addr},b∈fp->b∈D0::fp:=λa=>aB _ a;have nD:∀b∈fp,b≠D0:=λb a=>aK (c3 b a)
 --the b3
 have b3:gh (model X.prog X.w) X.A (.compLoop (.ListComp elt [(tg,iter,ifs,0,)] sc pos) 0 (.ref it) (.ref D0) (compEnvC sc (cM (P3.objs.size+1) sc.names (fK X.env.cells sc.names [])) P3.objs.size X.env))
   (compPost (model X.prog X.w) X.A X.xe use QQ (.ref D0) P3.objs.size) {s2 with heap:=h4}:=by
  refine DM (λn s'=>∃i F t H' A k,Inv (eF X N' sc P3.objs.size {s2 with heap:=P3} f (D0::fp)) [] F H' s'/\tn i s'.heap/\(∀b∈D0::fp,H' b=none)/\bZ t A/\t.length<=sizeLine/\
    s'.heap.get? D0<*{cls:=.type "list",data:=.seq A.toArray k}/\e4 i n F t H') ?_ m0
   (0,mk σ,[],_,[],0,I4,d7,λb a=>(L b a).1.1,.nil,a0 _,W _ _ c1,w0,)
  rintro n B ⟨i,F,t,G,A,kk,I5,d8,a1,a8,c8,e5,w5⟩;have b7:Inv (eF X N' sc P3.objs.size {s2 with heap:=P3} f (D0::fp)) ([]++jB [D0] B.heap) F G B:=by
   refine I5.pinned (λb a=>?_) (λb a=>?_)
   .have z:b=D0:=by simpa using a
    rw[z];exact f4 aw (a1 D0 aw)
   .have z:b=D0:=by simpa using a
    rw[z];exact⟨_,e5,λv z=>by cases z⟩
  obtain q|⟨go,NN,hN,step⟩:=h0 i n F t G w5
  .obtain⟨g9,q⟩:=q;refine thn (T.done (eF X N' sc P3.objs.size {s2 with heap:=P3} f (D0::fp)) rfl rfl rfl hc i _ B F G (λ_ _=>False) b7 (λb a=>?_) d8 g9) λb4 O ⟨hr,b8⟩=>?_
   .obtain⟨g0,g1,g2,g3,g4,_⟩:=f4 (a5 a) (a1 b (a5 a));refine(g0,g1,g2,g3,g4,λp N=>?_,);have b2:p∈jB [D0] B.heap:=by simpa[eF]using N
    obtain⟨z,_⟩:=r8 b2;have z':p.1=D0:=by simpa using z
    rw[z'];exact(nD b a).symm
   subst hr;have P:=b8.iU;have e6:O.heap.get? D0<*{cls:=.type "list",data:=.seq A.toArray kk}:=(b8.pin (D0,_) (bz _ (bz _ (ji 'F' e5)))).1
   --back in the context around
   have un:Un (frs X.stack) fp f G s2.heap O.heap:=by
    have u:=P.base;have nb:∀b o,s2.heap.get? b<*o->b∉fp->b∉D0::fp:=λb o e a z=>by
     rcases aG.mp z with z|z;·exact absurd (aD e) (by rw[z,hD];exact eN _)
     .exact a z
    exact(λb o e n a hx=>u.keep b o (V b o e) n a (nb b o e hx),λb o e n a hx=>u.slot b o (V b o e) n a (nb b o e hx),λb o e n hx=>u.free b o (V b o e) n (nb b o e hx),λb o e hx=>u.there b o (V b o e) (nb b o e hx),u.tups,u.frzs,u.tbls,)
   have I7:Inv X pins σ G O:=by obtain⟨hh,g6,d6,t6,g5⟩:=O;have eo:g5=s2.os:=P.os;subst eo;exact K.call (h':=hh) (g':=g6) (d':=d6) (t':=t6) (ch:=fp) un P.hok P.bare λb a=>((f2 b a).2.2.2.1,(f2 b a).2.1,(f2 b a).2.2.2.2.1,(f2 b a).2.2.2.2.2,)
   have e8:pd X pins G D0:=(a1 D0 aw,fD.2,);have I8:=I7.track (o:=.lst t) e8 (show cX X.prog X.w _ O.heap D0 (.lst t)from(c8,A,kk,a8,e6,));obtain⟨m,M,_⟩:=id P.loc;refine fin _ P3.objs.size _ O m I8 M (K.sk (by rw[hD];exact iG b0) (by rw[aQ (cU c4)];exact P.free)) ?_ (q D0 (a1 D0 aw));obtain⟨o,es,ep,j,hd,_⟩:=M;exact⟨o,j,λv z=>by rw[hd]at z;cases z⟩
  .skip
   have c2:∀{H':Hp}{b:Addr},b∈fp->H' b=none->pd (eF X N' sc P3.objs.size {s2 with heap:=P3} f (D0::fp)) ([]++jB [D0] B.heap) H' b:=λ{H' b} a M=>by
    obtain⟨g0,g1,g2,g3,g4,_⟩:=f4 (H':=H') (a5 a) M;refine(g0,g1,g2,g3,g4,λp N=>?_,);have b2:p∈jB [D0] B.heap:=by simpa[eF]using N
    obtain⟨z,_⟩:=r8 b2;have z':p.1=D0:=by simpa using z
    rw[z'];exact(nD b a).symm
   refine thn (T.item (eF X N' sc P3.objs.size {s2 with heap:=P3} f (D0::fp)) rfl rfl rfl hc i _ B F G (λ_ _=>False) b7 (λb a=>c2 a (a1 b (a5 a))) d8 go) λb4 O ⟨u,hr,h6⟩=>?_;subst hr;refine thn h6 λ_ s7 ⟨x,H7,I7,r7,y7,a6,e9⟩=>?_;have e0:=I7.pinned (λb a=>c2 a (e9 b a)) (T.obj _ _ a6);refine thn (pg _ s7 F H7 x u _ e0 r7 (step x H7 y7)) λ_ s8 ⟨Z,H8,I8,q8⟩=>?_;refine thn (pt _ s8 Z H8 _ I8 q8) λb s9 ⟨H9,I9,q9⟩=>?_;have d3:∀{a3:St}{H':Hp}{s':Shared},Inv (eF X N' sc P3.objs.size {s2 with heap:=P3} f (D0::fp)) ([]++jB [D0] B.heap++jB fp s7.heap) a3 H' s'->s'.heap.get? D0<*{cls:=.type "list",data:=.seq A.toArray kk}/\H' D0=none:=λ{a3 H' s'} J=>by have :=J.pin (D0,_) (bz _ (eS _ (bz _ (ji 'F' e5))));exact(this.1,this.2.1,)
   have d4:∀{a3:St}{H':Hp}{s':Shared},Inv (eF X N' sc P3.objs.size {s2 with heap:=P3} f (D0::fp)) ([]++jB [D0] B.heap++jB fp s7.heap) a3 H' s'->(∀b∈fp,∀o,s7.heap.get? b<*o->s'.heap.get? b<*o)/\(∀b∈fp,H' b=none):=λ{a3 H' s'} J=>by refine(λb a o e=>(J.pin (b,o) (bz _ (bz _ (ji a e)))).1,λb a=>?_,);obtain⟨o,e,d⟩:=T.obj _ _ a6 b a;exact(J.pin (b,o) (bz _ (bz _ (ji a e)))).2.1
   cases b with
   |false=>
    rw[if_neg 'E']at q9⊢;obtain⟨m',b1,w7⟩:=hN Z t H9 q9;obtain⟨d1,d2⟩:=d3 I9;obtain⟨p1,p2⟩:=d4 I9;refine(m',b1,i+1,Z,t,H9,A,kk,I9.iU.iU,T.keep _ _ _ a6 p1,λb a=>?_,a8,c8,d1,w7,);rcases aG.mp a with z|z;·rw[z];exact d2
    .exact p2 b z
   |true=>
    rw[if_pos rfl]at q9⊢;refine thn (pe _ s9 Z H9 _ I9 q9) λy h8 ⟨z,b6,a9,g8,g7⟩=>?_;obtain⟨h5,f9⟩:=g7;obtain⟨m',b1,w7⟩:=hN Z _ b6 f9;obtain⟨d1,d2⟩:=d3 a9;obtain⟨p1,p2⟩:=d4 a9;have h3:A.length=t.length:=a8.length.symm;refine DW (X:=eF X N' sc P3.objs.size {s2 with heap:=P3} f (D0::fp)) a9.iU.iU (f4 aw d2) d1 'D' λh' n' d9 e7 f8=>?_;refine(m',b1,i+1,Z,t++[z],b6,A++[y],n',d9,T.keep _ _ _ a6 λb a o e=>f8 b o (nD b a) (p1 b a o e),λb a=>?_,a8.append (.cons g8 .nil),?_,e7,w7,)
    .rcases aG.mp a with w|w;·rw[w];exact d2
     .exact p2 b w
    .rw[aq,dJ];lia
 exact codeAny_compStart_list b3 (T.self _ 0 _ _ _ d7 b3)
def pe_comp(S:oX X N' sc)(r:MkOk X N' sc mk)(p:X.calm=true)(hi:PI X tg iter wi)
  (f:∀C d c fp,(eF X N' sc C d c fp).Ok->PG (eF X N' sc C d c fp) tg g/\PTs (eF X N' sc C d c fp) ifs tc/\PE (eF X N' sc C d c fp) elt te)
  (u:∀x,jW iter X.env x=pure x:=by intro _;rfl):PE X (.ListComp elt [(tg,iter,ifs,0,)] sc pos) (uV wi g tc te mk):=by
 intro w s y H Q I h;rw[eval_ListComp];refine yc (use:=none) S r p hi f u I h λl C i s' m j t a z q=>(m,t,λn v=>?_,);have k:Inv X w y i {s' with heap:=n,toks:=s'.toks}:=j.turned (λb o f e=>v.extBut b o f e) a.1 a.2.1 a.2.2.2.1 a.2.2.2.2.1 a.2.2.2.2.2;exact(.ref l,i,k,rfl,q,)
def C8{y:Pos}(S:oX X N' sc)(P:MkOk X N' sc mk)(O:X.calm=true)(hi:PI X tg iter wi)
  (n:∀C k f fp,(eF X N' sc C k f fp).Ok->PG (eF X N' sc C k f fp) tg g/\PTs (eF X N' sc C k f fp) ifs tc/\PE (eF X N' sc C k f fp) elt te)
  (N:X.N.Nodup)(Z:X.N[i]?<*x)(v:X.env.scope.names.lookup x<*.local)
  (Y:nj (.ListComp elt [(tg,iter,ifs,0,)] sc pos) (some (.Name x pos')) y.line X.env=pure true)
  (V:∀x,jW iter X.env x=pure x:=by intro _;rfl):PS X (.Assign [.Name x pos'] (.ListComp elt [(tg,iter,ifs,0,)] sc pos) y) (wM (uV wi g tc te mk) (l6 i)):=by
 intro j a3 A a4 D I h;rw[exec_Assign_Name_used _ _ _ _ Y];refine ae (jl (ae ?_));show wpAny _ X.A (do let _<-comprehension (.ListComp elt [(tg,iter,ifs,0,)] sc pos) sc X.env (firstIterPos [(tg,iter,ifs,0,)] pos) (newList []) false (eval iter X.env) (some (assign (.Name x pos') X.env))) _ _ a3;refine ae (thn (yc (use:=some (assign (.Name x pos') X.env)) (QQ:=λ_ c=>SP X j D .next c) S P O hi n V I h λl C q c m s Q a M a1=>?_) λ_ c U=>ag (ag U));obtain⟨d,u,G⟩:=id M;have E:Inv X (j++[(C,d)]) A q c:=s.yX λp T=>(aH.mp T).elim (λz=>s.pin p (bz _ z)) λz=>by
  have e:p=(C,d):=by simpa using z
  subst e;exact(u,a.1,a.2.1,a.2.2.1,G,)
 show wpAny _ X.A (assign (.Name x pos') X.env (.ref l)) _ _ c;refine thn (yY (i:=i) N Z (.inl v) (.inr v) (j++[(C,d)]) c A q (.ref l) (.ref l) D.nx E rfl a1) λ_ s2 ⟨B,r,t,q2⟩=>?_;obtain⟨H,a0,_,_,_⟩:=t.pin (C,d) (bz _ (bz _ 'F'));have R:s2.heap.Ns C m:=by
  obtain⟨o,K,J,w,a2⟩:=Q;have :o=d:=by rw[u]at w;exact(bC w).symm
  subst this;exact(o,K,J,H,a2,)
 refine(m,R,λL W=>?_,);have F:Inv X j B r {s2 with heap:=L,toks:=s2.toks}:=t.iU.turned (λb o n e=>W.extBut b o n e) a0 a.2.1 a.2.2.2.1 a.2.2.2.2.1 a.2.2.2.2.2;exact(B,r,F,q2,)
end
section
def BP:fU X (.builtin "isinstance") (λxs H Q=>∃x T t b,xs=[x,.ty T]/\nH X.K H x t/\bK X.K t (.type T)<*b/\Q (.bl b) H):=by intro g s j H xs i Q I rv h;obtain⟨x,T,t,b,rfl,ty,e,q⟩:=h;obtain⟨u,c,rfl,d,a⟩:=rv.two;cases a;exact xW I d ty e λf=>(.bl b,H,I.tok f,rfl,q,)
def qZ:fU X (.builtin "isinstance") (λxs H Q=>∃x C t b,xs=[x,.ref C]/\nH X.K H x t/\bK X.K t (.ref C)<*b/\Q (.bl b) H):=by intro g s j H xs i Q I rv h;obtain⟨x,T,t,b,rfl,ty,e,q⟩:=h;obtain⟨u,c,rfl,d,a⟩:=rv.two;cases a;exact xW I d ty e λf=>(.bl b,H,I.tok f,rfl,q,)
def HG{bs:List Bool}(r:bZ (bs.map V.bl) its):TruthOf prog w A (λi v=>its.toArray[i]?<*v) (λi=>bs.getD i false):=by
 intro i v s Q E d h;have a:its[i]?<*v:=by simpa using d
 have e:v=.bool (bs.getD i false):=by
  have f:=r.length;rw[ah]at f;have b:i<bs.length:=by have :=(bp.mp a).1;lia
  obtain⟨u,c,g⟩:=bZ.get (i:=i) (x:=.bl bs[i]) r (by simp[b]);rw[a]at c;cases c;have j:v=sN bs[i]:=g;rw[j,aJ,aj b];rfl
 rw[e];exact dk h
def range_all(bs:List Bool):(bg bs.length).all (λi=>bs.getD i false)=bs.all id:=by
 have :bs=(bg bs.length).map λi=>bs.getD i false:=by
  apply dw;·simp
  .intro i b d;simp[b]
 rw[kI];simp only[cY,d9];constructor;·intro h x c;obtain⟨i,a,rfl⟩:=aU.mp c;have :=h i a;simpa[a]using this
 .intro h i a;have :=h bs[i] (bF a);simpa[a]using this
def KD(d:X.calm=true):fU X (.builtin "all") (λxs H Q=>∃(p:Addr)(bs:List Bool),xs=[.ref p]/\SqL X.K H p (bs.map V.bl)/\Q (.bl (bs.all id)) H):=by
 intro x s z H xs y Q I rv h;obtain⟨p,bs,rfl,l,q⟩:=h;obtain⟨u,rfl,m⟩:=rv.one;cases m;obtain⟨c,r,a,w⟩:=I.list l;have f:c.toArray.size=bs.length:=by rw[aI,<-r.length,ah]
 have g:p≠⇑s:=by obtain⟨o,n,j,_⟩:=id a;exact aK (aD j)
 refine call_all_walk (jR a.isList (⇑s,_,_,_,_,_,λi=>bs.getD i false,rfl,Walks.list (A:=X.A.in1) (I.ok.hd d) _ p g c.toArray,((_,aF _ rfl,rfl,rfl,),a.isList.at λo e=>af _ e,),HG r,λv t k=>?_,));rw[f,range_all];exact(.bl (bs.all id),H,I.kept (t':=t) λb o e=>k b o ↥(aK (aD e)) (af _ e),rfl,q,)
abbrev DL(x:Str)(lo hi:Option Int):Str:=⟨((x.cps.toList.drop (HT.sIx x.length 0 lo)).take (HT.sIx x.length x.length hi-HT.sIx x.length 0 lo)).toArray⟩
def sIx_eq(n d:Nat)(i:Int):(max 0 (min (if i<0 then i+(n:Int)else i) (n:Int)))=((HT.sIx n d (some i):Nat):Int):=by have :=HT.clip_eq i n d;rw[<-this];split <;>lia
def strIx(lo hi:Option Int)(n:Nat):t7 lo hi 1 n=(bg (HT.sIx n n hi-HT.sIx n 0 lo)).map λk=>HT.sIx n 0 lo+k:=by
 have j:∀a b:Nat,sliceRange (a:Int) (b:Int) 1=(bg (b-a)).map λk=>a+k:=by
  intro a b;unfold sliceRange;have e:(if(1:Int)>0 then(if(a:Int)<b then((b:Int)-a+1-1)/1 else 0)else(if(a:Int)>b then((a:Int)-b-1-1)/(-1)else 0)).toNat=b-a:=by rw[if_pos 'E'];split <;>lia
  simp only[e];apply K5;intro k l;lia
 have f:∀(o:Option Int)(d:Nat),(match o with |none=>(d:Int) |some i=>max 0 (min (if i<0 then i+(n:Int)else i) (n:Int)))=((HT.sIx n d o:Nat):Int):=by
  intro o d;cases o with
  |none=>rfl
  |some i=>exact sIx_eq n d i
 have c:=f lo 0;have g:=f hi n;unfold t7;simp only[show(1:Int)>0 by decide,if_true];have h:((0:Nat):Int)=0:=rfl;rw[h]at c;rw[<-j,<-c,<-g];cases lo<;>cases hi<;>rfl
def pickN(xs:Array Nat)(i:Nat):∀k,((bg k).map λm=>i+m).filterMap (xs[·]?)=(xs.toList.drop i).take k:=by
 intro k
 induction k with
 |zero=>simp
 |succ k ih=>
  rw[kF,bf,List.filterMap_append,ih];by_cases h:i+k<xs.size;·rw[List.take_succ,lQ];simp[h]
  .rw[List.take_succ,lQ];simp[h]
def FR(x:Str)(lo hi:Option Int):Txt.slice x lo hi=DL x lo hi:=by
 have c:HT.sIx x.length 0 lo<=x.length:=HT.Iu _ _ (a0 _) lo;have d:HT.sIx x.length x.length hi<=x.length:=HT.Iu _ _ (aE _) hi;unfold Txt.slice DL;rw[strIx];split
 .rename_i h;rw[aN,beq_iff_eq,beq_iff_eq,ah,dH]at h;have a:HT.sIx x.length 0 lo=0:=by lia
  have b:HT.sIx x.length x.length hi=x.length:=by lia
  rw[a,b];have :x.cps.toList.length=x.length:=by simp[B5]
  rw[Aj,pj,<-this,dv]
 .rw[pickN]
def tD{o:Option Int}(p:IsPart v o):∃l:Option (Int×Tok),v=partValue l/\o=l.map (·.1):=by
 cases p with
 |none=>exact(none,rfl,rfl,)
 |int i t=>exact(some (i,t),rfl,rfl,)
def rSlS:V->Option Int->Option Int->Hp->VK->Prop:=λx lo hi H Q=>∃z,x=.str z/\z.length<=sizeLine/\Q (.str (DL z lo hi)) H
def sl_str:SlR X rSlS:=by intro m s r H x v o p j i n Q I f a c d h;obtain⟨z,rfl,b,q⟩:=h;obtain⟨t,rfl⟩:=f;obtain⟨l,rfl,rfl⟩:=tD c;obtain⟨u,rfl,rfl⟩:=tD d;refine("str",_,F.slot_str_getitem.lookup,typeIs_str _ _ _,?_,);refine wpAny_getItem_str_slice (l:=l) (u:=u) (st:=none) a rfl (post_val_or_str (aR (Txt.slice_le z _ _) b,λg k=>?_,));have e:=FR z (l.map (·.1)) (u.map (·.1));unfold Txt.slice at e;refine(.str (DL z (l.map (·.1)) (u.map (·.1))),H,I.tok k,(g,?_,),q,);rw[<-e];rfl
abbrev Its(x:Str):It:=(λi _=>i<x.length,λi H v H'=>H'=H/\∃c,x.cps[i]?<*c/\v=.str ⟨#[c]⟩,λi _=>x.length<=i,)
end
def xF(a:Addr)(x:Str)(t:Tok)(A:Around)(b:A.handled=none):
  Walks prog w A a [a] [a] x.cps.size (SignAt x) (λi h=>h.IsStrIter a (iN x) x t i):=by
 unfold iN;cases ha:x.cps.all (·<128);·simp only[b8,if_false];exact Walks.strWide b a x t
 .simp only[if_true];exact Walks.strAscii b a x t
def HC(x:Str)(f:Addr)(t:Tok):Turn P w K tg (Its x) [f] f (λi h=>h.IsStrIter f (iN x) x t i) where
 mem:=by simp
 obj:=λi h j b a=>by
  have e:b=f:=by simpa using a
  subst e;obtain⟨o,e,c,d⟩:=j;exact⟨o,e,λa0 z=>by rw[d]at z;cases z⟩
 keep:=λi h l j k=>let⟨o,ho,r⟩:=j;(o,k f 'F' o ho,r,)
 item:=by intro X F J D A i O s R H E I B j G;subst F J D;obtain⟨m,p,U,q,v,y⟩:=B f 'F';have W:=xF (prog:=X.prog) (w:=X.w) f x t X.A (I.ok.hd A);refine W.item i s _ _ G j λa0 l M Z Q L=>?_;obtain⟨c,u,V,rfl⟩:=Z;have S:Inv X O R H {s with heap:=l,toks:=M}:=I.turned (λb o a e=>L b o ↥a e) m p q v y;obtain⟨o,e,T,d⟩:=id Q;refine(_,rfl,xZ (s:={s with heap:=l,toks:=M}) (n:=iN x) e T d ?_ (.str ⟨#[c]⟩,H,S,(u,rfl,),(rfl,c,V,rfl,),Q,λb a=>(B b a).1,),);unfold iN;split <;>decide
 done:=by
  intro X F J D A i O s R H E I B j G;subst F J D;obtain⟨m,p,U,q,v,y⟩:=B f 'F';have Y:x.length<=i:=G;by_cases hi:i=x.cps.size;·subst hi;have W:=xF (prog:=X.prog) (w:=X.w) f x t X.A (I.ok.hd A);exact W.done s _ _ j λl M L=>(rfl,I.turned (λb o a e=>L b o ↥a e) m p q v y,)
  .have N:x.cps[i]? =none:=by rw[Array.getElem?_eq_none_iff];exact Y
   have g:s.heap.IsStrIter f (iN x) x t i:=j;unfold iN at g;cases ha:x.cps.all (·<128);·rw[ha]at g;exact wpAny_pyNext_wide_end (I.ok.hd A) g N λl C=>(rfl,I.turned (t':=s.toks) (λb o a e=>C b o a e) m p q v y,)
   .rw[ha]at g;exact wpAny_pyNext_ascii_end (I.ok.hd A) g N λl C=>(rfl,I.turned (t':=s.toks) (λb o a e=>C b o a e) m p q v y,)
 self:=λa1 i s a2 E j h=>by
  have g:s.heap.IsStrIter f (iN x) x t i:=j;unfold iN at g;cases ha:x.cps.all (·<128);·rw[ha]at g;exact wpAny_pyIter_striter_wide g h
  .rw[ha]at g;exact wpAny_pyIter_striter_ascii g h
def Inv.Eg{ch:List Addr}(I:'A')(k:∀b o,b∉ch->s.heap.get? b<*o->h'.get? b<*o)(g:∀b∈ch,pd X pins H b):Inv X pins σ H {s with heap:=h'}:=by
 have h:∀b u,H b<*u->b∉ch:=λb u e z=>by rw[(g b z).1]at e;cases e
 refine I.step (g':=s.gens) (d':=s.drawn) (ch:=ch) (λb w=>?_) (λb o _ _ a e _=>k b o a e) (λb o _ _ a e _=>(o.slots,k b o a e,)) (λ_ _ _ _ n=>n)
  (λb o a e=>(o,k b o a e,)) (λ_ _ e=>e) (λ_ _ _ e=>e) (λb C e=>⟨#[],by rw[e];simp⟩) (λm y=>?_) (λb u e=>?_) I.bare
 .obtain⟨A,l,B,p,t,v⟩:=g b w;exact(p,l,t,v,)
 .obtain⟨o,j,i,q,r⟩:=y;exact(o,j,i,k _ o (λa=>(g _ a).2.1 rfl) q,r,)
 .refine(I.hok b u e).pW (λd o x c=>k d o (λf=>?_) c) (λd c=>c) λd D c=>c;rcases x with zz|zz;·rw[zz]at f;exact h b u e f
  .exact h d _ zz f
def Inv.newL{ch:List Addr}{o:HO}(I:'A')(k:∀b o,b∉ch->s.heap.get? b<*o->h'.get? b<*o)(a:∀b∈ch,pd X pins H b)
  (new:cX X.prog X.w (upd H ⇑s o) h' ⇑s o):Inv X pins σ (upd H ⇑s o) {s with heap:=h',toks:=t'}:=
 ((I.Eg k a).tok t').track (I.sk (aE _) (I.hok.fresh (aE _))) new
inductive D where
 |non|bl (b:Bool) |int (i:Int) |str (x:Str) |tup (ds:List D) |lst (ds:List D)
 deriving Inhabited
mutual
noncomputable def Rep(K:ai)(H:Hp):D->V->Prop
 |.non,v=>v=.non
 |.bl b,v=>v=.bl b
 |.int i,v=>v=.int i
 |.str x,v=>v=.str x
 |.tup ds,v=>∃a xs,v=.ref a/\SqT K H a xs/\jI K H ds xs
 |.lst ds,v=>∃a xs,v=.ref a/\SqL K H a xs/\jI K H ds xs
noncomputable def jI(K:ai)(H:Hp):List D->List V->Prop
 | [],xs=>xs=[]
 |d::ds,xs=>∃x r,xs=x::r/\Rep K H d x/\jI K H ds r
end
theorem jI.length:∀{ds:List D}{xs:List V},jI K H ds xs->xs.length=ds.length
 | [],_,h=>by rw[show _=[]from h];rfl
 |d::ds,_,h=>by obtain⟨x,r,rfl,_,a⟩:=h;rw[aZ,aZ,jI.length a]
theorem jI.at:∀{ds:List D}{xs:List V}{i:Nat}{d:D},jI K H ds xs->ds[i]?<*d->∃x,xs[i]?<*x/\Rep K H d x
 | [],_,i,d,h,e=>by simp at e
 |d::ds,_,0,d',h,e=>by obtain⟨y,r,rfl,a,b⟩:=h;simp at e;subst e;exact(y,rfl,a,)
 |d::ds,_,i+1,d',h,e=>by obtain⟨y,r,rfl,a,b⟩:=h;obtain⟨x,c,f⟩:=jI.at (i:=i) b ↥e;exact(x,↥c,f,)
mutual
noncomputable def eqD:D->D->Bool
 |.non,.non=>true
 |.bl a,.bl b=>a==b
 |.bl a,.int b=>(if a then 1 else 0)==b
 |.int a,.bl b=>a==(if b then 1 else 0)
 |.int a,.int b=>a==b
 |.str a,.str b=>a==b
 |.tup a,.tup b=>o9 a b
 |.lst a,.lst b=>o9 a b
 |_,_=>false
noncomputable def o9:List D->List D->Bool
 | [],[]=>true
 |a::as,b::bs=>eqD a b&&o9 as bs
 |_,_=>false
end
mutual
noncomputable def hgt:D->Nat
 |.tup ds=>kB ds+1
 |.lst ds=>kB ds+1
 |_=>0
noncomputable def kB:List D->Nat
 | []=>0
 |d::ds=>max (hgt d) (kB ds)
end
theorem sj:∀{ds:List D}{i:Nat}{d:D},ds[i]?<*d->hgt d<=kB ds
 | [],i,d,e=>by simp at e
 |d::ds,0,d',e=>by simp at e;subst e;simp only[kB];lia
 |d::ds,i+1,d',e=>by have :=sj (i:=i) (ds:=ds) (d:=d') ↥e;simp only[kB];lia
theorem BE:∀(c bs:List D)(e:Nat->Bool),c.length=bs.length->(∀(i:Nat) a b,c[i]?<*a->bs[i]?<*b->e i=eqD a b)->(bg c.length).all e=o9 c bs
 | [],[],e,_,_=>rfl
 |a::c,b::bs,e,hl,h=>by rw[aZ,List.range_succ_eq_map,sS,o4];have d:=h 0 a b rfl rfl;have j:=BE c bs (λi=>e (i+1)) ↥hl λi x y f g=>h (i+1) x y ↥f ↥g;rw[d];show(eqD a b&&(bg c.length).all (λi=>e (i+1)))=_;rw[j];rfl
 | [],b::bs,e,hl,_=>by simp at hl
 |a::c,[],e,hl,_=>by simp at hl
theorem qV:∀(c bs:List D),c.length≠bs.length->o9 c bs=false
 | [],[],h=>absurd rfl h
 |a::c,b::bs,h=>by show(eqD a b&&o9 c bs)=false;rw[qV c bs ↥h,eU]
 | [],b::bs,_=>rfl
 |a::c,[],_=>rfl
mutual
theorem vO:∀d:D,eqD d d=true
 |.non=>rfl
 |.bl b=>beq_self_eq_true b
 |.int i=>beq_self_eq_true i
 |.str x=>beq_self_eq_true x
 |.tup ds=>sv ds
 |.lst ds=>sv ds
theorem sv:∀ds:List D,o9 ds ds=true
 | []=>rfl
 |d::ds=>gX.mpr (vO d,sv ds,)
end
section
variable {pins:List (Addr×Obj)}{s:Shared}
mutual
theorem Inv.yU(I:'A'):∀{d c:D}{v:V},Rep X.K H d v->Rep X.K H c v->d=c
 |.non,c,v,h,h'=>by cases(show v=V.non from h);cases c<;>first | (obtain⟨_,_,z,_⟩:=h';cases z;done) |rfl| (cases h';done)
 |.bl b,c,v,h,h'=>by cases(show v=V.bl b from h);cases c<;>first | (obtain⟨_,_,z,_⟩:=h';cases z;done) | (cases h';rfl) | (cases h';done)
 |.int b,c,v,h,h'=>by cases(show v=V.int b from h);cases c<;>first | (obtain⟨_,_,z,_⟩:=h';cases z;done) | (cases h';rfl) | (cases h';done)
 |.str b,c,v,h,h'=>by cases(show v=V.str b from h);cases c<;>first | (obtain⟨_,_,z,_⟩:=h';cases z;done) | (cases h';rfl) | (cases h';done)
 |.tup ds,c,v,h,h'=>by
  obtain⟨a,w,rfl,j,p⟩:=h;cases c with
  |tup ds'=>obtain⟨b,q,e,f,k⟩:=h';cases e;have :=I.xD j f;subst this;rw[Inv.u7 I p k]
  |lst ds'=>obtain⟨b,q,e,f,k⟩:=h';cases e;obtain⟨r,_,⟨o,m,l,_⟩,_⟩:=I.tuple j;obtain⟨t,_,⟨u,n,i,g,_⟩,_⟩:=I.list f;rw[m]at i;cases i;rw[l]at g;exact absurd g (by decide+kernel)
  |_=>cases h'
 |.lst ds,c,v,h,h'=>by
  obtain⟨a,w,rfl,j,p⟩:=h;cases c with
  |lst ds'=>obtain⟨b,q,e,f,k⟩:=h';cases e;have :=I.qR j f;subst this;rw[Inv.u7 I p k]
  |tup ds'=>obtain⟨b,q,e,f,k⟩:=h';cases e;obtain⟨r,_,⟨o,n,m,l,_⟩,_⟩:=I.list j;obtain⟨t,_,⟨u,i,g,_⟩,_⟩:=I.tuple f;rw[m]at i;cases i;rw[l]at g;exact absurd g (by decide+kernel)
  |_=>cases h'
theorem Inv.u7(I:'A'):∀{ds a:List D}{xs:List V},jI X.K H ds xs->jI X.K H a xs->ds=a
 | [],[],_,_,_=>rfl
 | [],d::ds,xs,h,h'=>by obtain⟨x,r,e,_⟩:=h';rw[show xs=[]from h]at e;cases e
 |d::ds,[],xs,h,h'=>by obtain⟨x,r,e,_⟩:=h;rw[show xs=[]from h']at e;cases e
 |d::ds,d'::a,xs,h,h'=>by obtain⟨x,r,rfl,b,f⟩:=h;obtain⟨y,i,e,c,g⟩:=h';cases e;rw[Inv.yU I b c,Inv.u7 I f g]
end
open PySem.SeqAt
abbrev eqJ(ds a:List D)(j:Nat):Bool:=match ds[j]?,a[j]? with |some d,some d'=>eqD d d'|_,_=>false
def zx{ds a:List D}(b:ds.length=a.length):(bg ds.length).all (eqJ ds a)=o9 ds a:=BE ds a _ b λi x y c d=>by simp only[eqJ,c,d]
def Fe{ds a:List D}:((bg (min ds.length a.length)).all (eqJ ds a)&&ds.length==a.length)=o9 ds a:=by
 by_cases hl:ds.length=a.length;·rw[<-hl,Hj,beq_self_eq_true,Bool.and_true,zx hl]
 .rw[qV ds a hl,beq_eq_false_iff_ne.mpr hl,eU]
def zw{ds a:List D}(q:∀(i:Nat)(d b:D)(x y:V)(u f:Value),ds[i]?<*d->a[i]?<*b->Rep X.K H d x->Rep X.K H b y->RelV x u->RelV y f->EqAt A.in1 s u f (eqD d b))(k:jI X.K H ds xs)(l:jI X.K H a ys)(r:bZ xs its)(r':bZ ys its'):its.toArray.size=ds.length/\its'.toArray.size=a.length/\∀j (g:j<its.toArray.size)(h:j<its'.toArray.size),EqAt A.in1 s its.toArray[j] its'.toArray[j] (eqJ ds a j):=by
 have l1:=k.length;have l2:=l.length;have E:=r.length;have F:=r'.length;refine(by simp;lia,by simp;lia,λj g h=>?_,);have o:j<its.length:=by simpa using g
 have p:j<its'.length:=by simpa using h
 have c:ds[j]?<*ds[j]:=aj 'D';have e:a[j]?<*a[j]:=aj 'D';unfold eqJ;rw[c,e];obtain⟨x,t,B⟩:=k.at c;obtain⟨y,v,C⟩:=l.at e;obtain⟨u,m,w⟩:=r.get t;obtain⟨f,n,z⟩:=r'.get v;rw[aj o]at m;rw[aj p]at n;cases m;cases n;exact q j _ _ x y _ _ c e B C w z
def Inv.rcTup(I:'A')(A:Around){ds g:List D}(o:∀(i:Nat)(d c:D)(x y:V)(u h:Value),ds[i]?<*d->g[i]?<*c->Rep X.K H d x->Rep X.K H c y->RelV x u->RelV y h->EqAt A.in1 s u h (eqD d c))(k:SqT X.K H a xs)(m:jI X.K H ds xs)(l:SqT X.K H b ys)(n:jI X.K H g ys)(q:A.units<cLine):RcAt A s (.ref a) (.ref b) (o9 ds g):=by
 obtain⟨z,r,p,_⟩:=I.tuple k;obtain⟨B,w,v,_⟩:=I.tuple l;obtain⟨e,j,f⟩:=zw o m n r w;have t:=RcAt.tuples p v (A:=A) q f
 rwa [e,j,Fe]at t
def Inv.rcLst(I:'A')(A:Around){ds c:List D}(v:∀(i:Nat)(d g:D)(x y:V)(u m:Value),ds[i]?<*d->c[i]?<*g->Rep X.K H d x->Rep X.K H g y->RelV x u->RelV y m->EqAt A.in1 s u m (eqD d g))(n:SqL X.K H a xs)(q:jI X.K H ds xs)(o:SqL X.K H b ys)(t:jI X.K H c ys)(j:A.units<cLine):RcAt A s (.ref a) (.ref b) (o9 ds c):=by
 obtain⟨z,r,p,_⟩:=I.list n;obtain⟨B,w,l,_⟩:=I.list o;obtain⟨e,h,f⟩:=zw v q t r w;by_cases hl:ds.length=c.length
 .have k:=RcAt.lists p.isList l.isList (A:=A) (by rw[e,h,hl]) j f
  rwa [e,zx hl]at k
 .have k:=RcAt.lists_lengths p.isList l.isList (A:=A) (by rw[e,h];exact bne_iff_ne.mpr hl) j
  rwa [qV ds c hl]
def Inv.shp(I:'A'){d:D}{v:V}(h:Rep X.K H d v)(r:RelV v u):(d=.non/\v=.non/\u=.none)\/(∃x,d=.bl x/\v=.bl x/\u=.bool x)\/(∃x t,d=.int x/\v=.int x/\u=.int x t)\/(∃x t,d=.str x/\v=.str x/\u=.str x t)\/(∃ds a xs its,d=.tup ds/\v=.ref a/\u=.ref a/\SqT X.K H a xs/\jI X.K H ds xs/\IsTup s.heap a its)\/∃ds a xs its,d=.lst ds/\v=.ref a/\u=.ref a/\SqL X.K H a xs/\jI X.K H ds xs/\s.heap.IsList a its:=by
 cases d with
 |non=>cases(show v=_ from h);cases r;exact .inl (rfl,rfl,rfl,)
 |bl x=>cases(show v=_ from h);cases r;exact .inr (.inl (x,rfl,rfl,rfl,))
 |int x=>cases(show v=_ from h);obtain⟨t,rfl⟩:=r;exact .inr (.inr (.inl (x,t,rfl,rfl,rfl,)))
 |str x=>cases(show v=_ from h);obtain⟨t,rfl⟩:=r;exact .inr (.inr (.inr (.inl (x,t,rfl,rfl,rfl,))))
 |tup ds=>obtain⟨a,xs,rfl,b,c⟩:=id h;cases r;obtain⟨its,_,p,_⟩:=I.tuple b;exact .inr (.inr (.inr (.inr (.inl (ds,a,xs,_,rfl,rfl,rfl,b,c,p,)))))
 |lst ds=>obtain⟨a,xs,rfl,b,c⟩:=id h;cases r;obtain⟨its,_,p,_⟩:=I.list b;exact .inr (.inr (.inr (.inr (.inr (ds,a,xs,_,rfl,rfl,rfl,b,c,p.isList,)))))
def Inv.eqAt1(I:'A')(A:Around)(O:∀(m:Nat)(ds k:List D)(i:Nat)(d f:D)(x y:V)(u j:Value),n=m+1->kB ds<=m->ds[i]?<*d->k[i]?<*f->Rep X.K H d x->Rep X.K H f y->RelV x u->RelV y j->EqAt A.in1 s u j (eqD d f)):
  ∀(d f:D)(v N:V)(u j:Value),Rep X.K H d v->Rep X.K H f N->RelV v u->RelV N j->hgt d<=n->A.units+n+1<cLine->EqAt A s u j (eqD d f):=by
 intro d f v N u j h B r c o T;obtain⟨rfl,rfl,rfl⟩ |⟨_,rfl,rfl,rfl⟩ |⟨_,t,rfl,rfl,rfl⟩ |⟨_,t,rfl,rfl,rfl⟩ |⟨ds,a,R,P,rfl,rfl,rfl,C,F,p⟩ |⟨ds,a,R,P,rfl,rfl,rfl,C,F,p⟩:=I.shp h r<;>obtain⟨rfl,rfl,rfl⟩ |⟨_,rfl,rfl,rfl⟩ |⟨_,l,rfl,rfl,rfl⟩ |⟨_,l,rfl,rfl,rfl⟩ |⟨k,b,S,Q,rfl,rfl,rfl,E,G,g⟩ |⟨k,b,S,Q,rfl,rfl,rfl,E,G,g⟩:=I.shp B c
 .exact gx r c rfl rfl
 .exact gx r c rfl rfl
 .exact gx r c rfl rfl
 .exact gx r c rfl rfl
 .exact EqAt.none_tuple g 'D'
 .exact EqAt.none_list g 'D'
 .exact gx r c rfl rfl
 .exact gx r c rfl rfl
 .exact gx r c rfl rfl
 .exact gx r c rfl rfl
 .exact EqAt.bool_tuple _ g 'D'
 .exact EqAt.bool_list _ g 'D'
 .exact gx r c rfl rfl
 .exact gx r c rfl rfl
 .exact gx r c rfl rfl
 .exact gx r c rfl rfl
 .exact EqAt.int_tuple _ t g 'D'
 .exact EqAt.int_list _ t g 'D'
 .exact gx r c rfl rfl
 .exact gx r c rfl rfl
 .exact gx r c rfl rfl
 .exact gx r c rfl rfl
 .exact EqAt.str_tuple _ t g 'D'
 .exact EqAt.str_list _ t g 'D'
 .exact EqAt.tuple_none p 'D'
 .exact EqAt.tuple_bool _ p 'D'
 .exact EqAt.tuple_int _ l p 'D'
 .exact EqAt.tuple_str _ l p 'D'
 .have o:kB ds+1<=_:=o;by_cases z:a=b;·subst z;have e:=I.yU h B;rw[<-e,vO];exact EqAt.same _
  .exact EqAt.of_refs z (Inv.rcTup I A (λi d f x y u j q w L M J K=>O (n-1) ds k i d f x y u j 'D' 'D' q w L M J K) C F E G 'D')
 .exact EqAt.tuple_list p g 'D'
 .exact EqAt.list_none p 'D'
 .exact EqAt.list_bool _ p 'D'
 .exact EqAt.list_int _ l p 'D'
 .exact EqAt.list_str _ l p 'D'
 .exact EqAt.list_tuple p g 'D'
 .have o:kB ds+1<=_:=o;by_cases z:a=b;·subst z;have e:=I.yU h B;rw[<-e,vO];exact EqAt.same _
  .exact EqAt.of_refs z (Inv.rcLst I A (λi d f x y u j q w L M J K=>O (n-1) ds k i d f x y u j 'D' 'D' q w L M J K) C F E G 'D')
def Inv.Ff(I:'A'):∀(n:Nat)(A:Around)(d a:D)(v c:V)(u b:Value),Rep X.K H d v->Rep X.K H a c->RelV v u->RelV c b->hgt d<=n->A.units+n+1<cLine->EqAt A s u b (eqD d a):=by
 intro n
 induction n with
 |zero=>exact λA d a v c u b h e r j f g=>Inv.eqAt1 I A (λm l o i d a x y u b k _ _ _ _ _ _ _=>absurd k 'D') d a v c u b h e r j f g
 |succ n ih=>exact λA d a v c u b h e r j f g=>Inv.eqAt1 I A (λm l o i d a x y u b k C p B w z q t=>ih A.in1 d a x y u b w z q t (by have :=sj p;lia) (by show A.units+1+n+1<cLine;lia)) d a v c u b h e r j f g
end
end L2
namespace L2
open PySem.SeqAt
section
variable {pins:List (Addr×Obj)}{s:Shared}
def Inv.neTup(I:'A')(A:Around){ds g:List D}(o:∀(i:Nat)(d c:D)(x y:V)(u h:Value),ds[i]?<*d->g[i]?<*c->Rep X.K H d x->Rep X.K H c y->RelV x u->RelV y h->EqAt A.in1 s u h (eqD d c))(k:SqT X.K H a xs)(m:jI X.K H ds xs)(l:SqT X.K H b ys)(n:jI X.K H g ys)(q:A.units<cLine):RcNeAt A s (.ref a) (.ref b) (!o9 ds g):=by
 obtain⟨z,r,p,_⟩:=I.tuple k;obtain⟨B,w,v,_⟩:=I.tuple l;obtain⟨e,j,f⟩:=zw o m n r w;have t:=RcNeAt.tuples p v (A:=A) q f
 rwa [e,j,Fe]at t
def Inv.neLst(I:'A')(A:Around){ds c:List D}(v:∀(i:Nat)(d g:D)(x y:V)(u m:Value),ds[i]?<*d->c[i]?<*g->Rep X.K H d x->Rep X.K H g y->RelV x u->RelV y m->EqAt A.in1 s u m (eqD d g))(n:SqL X.K H a xs)(q:jI X.K H ds xs)(o:SqL X.K H b ys)(t:jI X.K H c ys)(j:A.units<cLine):RcNeAt A s (.ref a) (.ref b) (!o9 ds c):=by
 obtain⟨z,r,p,_⟩:=I.list n;obtain⟨B,w,l,_⟩:=I.list o;obtain⟨e,h,f⟩:=zw v q t r w;by_cases hl:ds.length=c.length
 .have k:=RcNeAt.lists p.isList l.isList (A:=A) (by rw[e,h,hl]) j f
  rwa [e,zx hl]at k
 .have k:=RcNeAt.lists_lengths p.isList l.isList (A:=A) (by rw[e,h];exact bne_iff_ne.mpr hl) j
  rwa [qV ds c hl]
def Inv.rcD(I:'A')(A:Around)(d d':D)(v C:V)(u f:Value)(h:Rep X.K H d v)(h':Rep X.K H d' C)(r:RelV v u)(r':RelV C f)(B:A.units+hgt d+1<cLine):RcAt A s u f (eqD d d'):=by
 obtain⟨rfl,rfl,rfl⟩ |⟨_,rfl,rfl,rfl⟩ |⟨_,t,rfl,rfl,rfl⟩ |⟨_,t,rfl,rfl,rfl⟩ |⟨g,a,K,G,rfl,rfl,rfl,k,m,p⟩ |⟨g,a,K,G,rfl,rfl,rfl,k,m,p⟩:=I.shp h r<;>obtain⟨rfl,rfl,rfl⟩ |⟨_,rfl,rfl,rfl⟩ |⟨_,c,rfl,rfl,rfl⟩ |⟨_,c,rfl,rfl,rfl⟩ |⟨E,b,L,J,rfl,rfl,rfl,l,n,e⟩ |⟨E,b,L,J,rfl,rfl,rfl,l,n,e⟩:=I.shp h' r'
 .exact RcAt.none_none
 .exact RcAt.none_bool _
 .exact RcAt.none_int _ c
 .exact RcAt.none_str _ c
 .exact RcAt.none_tuple e 'D'
 .exact RcAt.none_list e 'D'
 .exact RcAt.bool_none _
 .exact RcAt.bool_bool _ _
 .exact RcAt.bool_int _ _ c
 .exact RcAt.bool_str _ _ c
 .exact RcAt.bool_tuple _ e 'D'
 .exact RcAt.bool_list _ e 'D'
 .exact RcAt.int_none _ t
 .exact RcAt.int_bool _ t _
 .exact RcAt.int_int _ t _ c
 .exact RcAt.int_str _ t _ c
 .exact RcAt.int_tuple _ t e 'D'
 .exact RcAt.int_list _ t e 'D'
 .exact RcAt.str_none _ t
 .exact RcAt.str_bool _ t _
 .exact RcAt.str_int _ t _ c
 .exact RcAt.str_str _ t _ c
 .exact RcAt.str_tuple _ t e 'D'
 .exact RcAt.str_list _ t e 'D'
 .exact RcAt.tuple_none p 'D'
 .exact RcAt.tuple_bool _ p 'D'
 .exact RcAt.tuple_int _ c p 'D'
 .exact RcAt.tuple_str _ c p 'D'
 .exact Inv.rcTup I A (λi d d' x y u f j F w z o q=>Inv.Ff I (kB g) A.in1 d d' x y u f w z o q (sj j) (by rw[hgt]at B;show A.units+1+kB g+1<cLine;lia)) k m l n 'D'
 .exact RcAt.tuple_list p e 'D'
 .exact RcAt.list_none p 'D'
 .exact RcAt.list_bool _ p 'D'
 .exact RcAt.list_int _ c p 'D'
 .exact RcAt.list_str _ c p 'D'
 .exact RcAt.list_tuple p e 'D'
 .exact Inv.rcLst I A (λi d d' x y u f j F w z o q=>Inv.Ff I (kB g) A.in1 d d' x y u f w z o q (sj j) (by rw[hgt]at B;show A.units+1+kB g+1<cLine;lia)) k m l n 'D'
def Inv.rcNeD(I:'A')(A:Around)(d d':D)(v C:V)(u f:Value)(h:Rep X.K H d v)(h':Rep X.K H d' C)(r:RelV v u)(r':RelV C f)(B:A.units+hgt d+1<cLine):RcNeAt A s u f (!eqD d d'):=by
 obtain⟨rfl,rfl,rfl⟩ |⟨_,rfl,rfl,rfl⟩ |⟨_,t,rfl,rfl,rfl⟩ |⟨_,t,rfl,rfl,rfl⟩ |⟨g,a,K,G,rfl,rfl,rfl,k,m,p⟩ |⟨g,a,K,G,rfl,rfl,rfl,k,m,p⟩:=I.shp h r<;>obtain⟨rfl,rfl,rfl⟩ |⟨_,rfl,rfl,rfl⟩ |⟨_,c,rfl,rfl,rfl⟩ |⟨_,c,rfl,rfl,rfl⟩ |⟨E,b,L,J,rfl,rfl,rfl,l,n,e⟩ |⟨E,b,L,J,rfl,rfl,rfl,l,n,e⟩:=I.shp h' r'
 .exact RcNeAt.none_none
 .exact RcNeAt.none_bool _
 .exact RcNeAt.none_int _ c
 .exact RcNeAt.none_str _ c
 .exact RcNeAt.none_tuple e 'D'
 .exact RcNeAt.none_list e 'D'
 .exact RcNeAt.bool_none _
 .exact RcNeAt.bool_bool _ _
 .exact RcNeAt.bool_int _ _ c
 .exact RcNeAt.bool_str _ _ c
 .exact RcNeAt.bool_tuple _ e 'D'
 .exact RcNeAt.bool_list _ e 'D'
 .exact RcNeAt.int_none _ t
 .exact RcNeAt.int_bool _ t _
 .exact RcNeAt.int_int _ t _ c
 .exact RcNeAt.int_str _ t _ c
 .exact RcNeAt.int_tuple _ t e 'D'
 .exact RcNeAt.int_list _ t e 'D'
 .exact RcNeAt.str_none _ t
 .exact RcNeAt.str_bool _ t _
 .exact RcNeAt.str_int _ t _ c
 .exact RcNeAt.str_str _ t _ c
 .exact RcNeAt.str_tuple _ t e 'D'
 .exact RcNeAt.str_list _ t e 'D'
 .exact RcNeAt.tuple_none p 'D'
 .exact RcNeAt.tuple_bool _ p 'D'
 .exact RcNeAt.tuple_int _ c p 'D'
 .exact RcNeAt.tuple_str _ c p 'D'
 .exact Inv.neTup I A (λi d d' x y u f j F w z o q=>Inv.Ff I (kB g) A.in1 d d' x y u f w z o q (sj j) (by rw[hgt]at B;show A.units+1+kB g+1<cLine;lia)) k m l n 'D'
 .exact RcNeAt.tuple_list p e 'D'
 .exact RcNeAt.list_none p 'D'
 .exact RcNeAt.list_bool _ p 'D'
 .exact RcNeAt.list_int _ c p 'D'
 .exact RcNeAt.list_str _ c p 'D'
 .exact RcNeAt.list_tuple p e 'D'
 .exact Inv.neLst I A (λi d d' x y u f j F w z o q=>Inv.Ff I (kB g) A.in1 d d' x y u f w z o q (sj j) (by rw[hgt]at B;show A.units+1+kB g+1<cLine;lia)) k m l n 'D'
def rEqD(K:ai):R2:=λx y H Q=>∃d a,Rep K H d x/\Rep K H a y/\hgt d<=30/\Q (.bl (eqD d a)) H
def rNeD(K:ai):R2:=λx y H Q=>∃d a,Rep K H d x/\Rep K H a y/\hgt d<=30/\Q (.bl (!eqD d a)) H
def op_eqD(i:X.A.units+40<cLine):OpR X (dc .Eq) (rEqD X.K):=by intro j s k H x y v u Q I e f h;obtain⟨d,a,b,c,g,q⟩:=h;exact I.rcD X.A d a x y v u b c e f 'D' _ _ _ _ (so I q rfl)
def op_neD(i:X.A.units+40<cLine):OpR X (dc .NotEq) (rNeD X.K):=by intro j s k H x y v u Q I e f h;obtain⟨d,a,b,c,g,q⟩:=h;exact I.rcNeD X.A d a x y v u b c e f 'D' _ _ _ _ (so I q rfl)
end
end L2
namespace Q
open PySem.W
abbrev run{b:Type}(lt:Nat->Nat->Bool):KasT b->b
 |.ret a=>a
 |.ask i j k=>run lt (k (lt i j))
theorem run_bind{b c:Type}(lt:Nat->Nat->Bool)(f:b->KasT c):∀t:KasT b,run lt (t.bind f)=run lt (f (run lt t))
 |.ret a=>rfl
 |.ask i j k=>run_bind lt f (k (lt i j))
abbrev okT{a:Type}(lt:Nat->Nat->Bool)(n:Nat):KasT a->Prop
 |.ret _=>True
 |.ask i j k=>(i<n/\j<n/\i≠j)/\okT lt n (k (lt i j))
theorem oK{b c:Type}{lt:Nat->Nat->Bool}{f:b->KasT c}:∀{t:KasT b},okT lt n t->okT lt n (f (run lt t))->okT lt n (t.bind f)
 |.ret a,_,h=>h
 |.ask i j k,h,h'=>(h.1,oK h.2 h',)
structure Tot(lt:Nat->Nat->Bool)(n:Nat):Prop where
 tri:∀i j,i<n->j<n->i≠j->lt i j= !lt j i
 tr:∀i j k,i<n->j<n->k<n->lt i j=true->lt j k=true->lt i k=true
noncomputable abbrev at'(p:Array Nat)(i:Nat):Nat:=p.getD i 0
def Fn(p:Array Nat)(i:Nat):at' p i=(p[i]?).getD 0:=by simp[at',cB]
structure Pm(p:Array Nat)(n:Nat):Prop where
 perm:p.Perm (bg n).toArray
theorem Pm.size{p:Array Nat}(h:Pm p n):p.size=n:=by rw[h.perm.size_eq];simp
def Pm.lt{p:Array Nat}(h:Pm p n)(hi:i<n):at' p i<n:=by
 have a:i<p.size:=by rw[h.size];exact hi
 have e:at' p i=p[i]:=by simp[at',a]
 have m:p[i]∈(bg n).toArray:=h.perm.mem_iff.mp (Array.getElem_mem a);rw[e];simpa using m
def Pm.inj{p:Array Nat}(h:Pm p n)(hi:i<n)(f:j<n)(e:at' p i=at' p j):i=j:=by
 have a:i<p.size:=by rw[h.size];exact hi
 have b:j<p.size:=by rw[h.size];exact f
 have nd:p.toList.Nodup:=by
  have q:p.toList.Perm (bg n):=by simpa using d7.mp h.perm
  exact q.nodup_iff.mpr wI
 have c:at' p i=p.toList[i]'(by simpa using a):=by simp[at',a]
 have d:at' p j=p.toList[j]'(by simpa using b):=by simp[at',b]
 rw[c,d]at e;exact(cJ nd).mp e
def KH{p:Array Nat}(a:j<=p.size)(k:Nat):at' (zV p i j) k=if i<=k/\k<j then at' p (i+j-1-k)else at' p k:=by rw[Fn];unfold zV;rw[getElem?_mirror_all a];split <;>rw[Fn]
def KI{p:Array Nat}{src d:Nat}(a:src<p.size)(b:d<=src)(k:Nat):at' (bubble p src d) k=if k=src-d then at' p src else if src-d<k/\k<=src then at' p (k-1)else at' p k:=by
 rw[Fn,getElem?_bubble a d b];split;·simp[at',a]
 .split <;>rw[Fn]
def Pm.rev{p:Array Nat}(h:Pm p n):Pm (zV p i j) n:=⟨(mirror_perm _ _ _ _).trans h.perm⟩
def Pm.bub{p:Array Nat}(h:Pm p n):Pm (bubble p i j) n:=⟨(bubble_perm _ _ _).trans h.perm⟩
def Up(lt:Nat->Nat->Bool)(p:Array Nat)(m:Nat):Prop:=∀i j,i<j->j<m->lt (at' p i) (at' p j)=true
def Dn(lt:Nat->Nat->Bool)(p:Array Nat)(m:Nat):Prop:=∀i j,i<j->j<m->lt (at' p j) (at' p i)=true
section
variable {lt:Nat->Nat->Bool}{N:Nat}{p:Array Nat}
theorem Tot.flip(T:Tot lt N)(P:Pm p N)(hi:i<N)(a:j<N)(n:i≠j)(h:lt (at' p i) (at' p j)=false):lt (at' p j) (at' p i)=true:=by have q:=T.tri _ _ (P.lt hi) (P.lt a) λe=>n (P.inj hi a e);rw[h]at q;simpa using q.symm
theorem Pm.ask{p:Array Nat}(P:Pm p N)(hi:i<N)(a:j<N)(n:i≠j):at' p i<N/\at' p j<N/\at' p i≠at' p j:=(P.lt hi,P.lt a,λe=>n (P.inj hi a e),)
theorem Up.succ(T:Tot lt N)(P:Pm p N)(c:1<=n)(b:n<N)(u:Up lt p n)(h:lt (at' p (n-1)) (at' p n)=true):Up lt p (n+1):=by
 intro i j a d;by_cases e:j=n
 .subst e;by_cases e2:i=j-1;·subst e2;exact h
  .exact T.tr _ _ _ (P.lt 'D') (P.lt 'D') (P.lt b) (u i (j-1) 'D' 'D') h
 .exact u i j a 'D'
theorem Dn.succ(T:Tot lt N)(P:Pm p N)(c:1<=n)(b:n<N)(u:Dn lt p n)(h:lt (at' p n) (at' p (n-1))=true):Dn lt p (n+1):=by
 intro i j a d;by_cases e:j=n
 .subst e;by_cases e2:i=j-1;·subst e2;exact h
  .exact T.tr _ _ _ (P.lt b) (P.lt 'D') (P.lt 'D') h (u i (j-1) 'D' 'D')
 .exact u i j a 'D'
theorem yT(T:Tot lt N)(P:Pm p N):∀(f n:Nat),1<=n->n+f<=N->Up lt p n->∃m,run lt (kas_asc p f n)=m/\n<=m/\m<=n+f/\Up lt p m/\(m=n+f\/lt (at' p m) (at' p (m-1))=true)/\okT lt N (kas_asc p f n)
 | 0,n,h1,h2,u=>(n,rfl,aE _,aE _,u,.inl rfl,trivial,)
 |f+1,n,h1,h2,u=>by
  unfold kas_asc;have a:=P.ask (i:=n) (j:=n-1) 'D' 'D' 'D';simp only[run,okT];by_cases c:lt (at' p n) (at' p (n-1))=true;·rw[if_pos c];exact(n,rfl,aE _,'D',u,.inr c,a,trivial,)
  .rw[if_neg c];have h:lt (at' p n) (at' p (n-1))=false:=by simpa using c
   obtain⟨m,e,k,l,b,d,g⟩:=yT T P f (n+1) 'D' 'D' (u.succ T P h1 'D' (T.flip P 'D' 'D' 'D' h));refine(m,e,'D','D',b,?_,a,g,);rcases d with z|z;·exact .inl 'D'
   .exact .inr z
theorem AO(T:Tot lt N)(P:Pm p N):∀(f n:Nat),1<=n->n+f<=N->Dn lt p n->∃m,run lt (kas_desc f p n 0)=(p,m,0)/\n<=m/\m<=n+f/\Dn lt p m/\okT lt N (kas_desc f p n 0)
 | 0,n,h1,h2,u=>(n,rfl,aE _,aE _,u,trivial,)
 |f+1,n,h1,h2,u=>by
  unfold kas_desc;have a:=P.ask (i:=n) (j:=n-1) 'D' 'D' 'D';have k:=P.ask (i:=n-1) (j:=n) 'D' 'D' 'D';simp only[run,okT];by_cases c:lt (at' p n) (at' p (n-1))=true;·rw[if_pos c,if_neg (eN 0)];obtain⟨m,e,l,o,b,g⟩:=AO T P f (n+1) 'D' 'D' (u.succ T P h1 'D' c);exact(m,e,'D','D',b,a,g,)
  .rw[if_neg c];have h:lt (at' p n) (at' p (n-1))=false:=by simpa using c
   have d:=T.flip P 'D' 'D' 'D' h;simp only[run,okT];rw[if_pos d];exact(n,rfl,aE _,'D',u,a,k,trivial,)
theorem II(T:Tot lt N)(P:Pm p N)(d:1<=n)(a:n<=N)(u:Dn lt p n):∃m p',run lt (kas_tail3 n N p)=(m,p')/\1<=m/\m<=N/\Up lt p' m/\Pm p' N/\okT lt N (kas_tail3 n N p):=by
 have g:Up lt (zV p 0 n) n:=by intro i j l f;rw[KH (by rw[P.size];exact a),KH (by rw[P.size];exact a),if_pos (a0 _,'D',),if_pos (a0 _,f,)];exact u _ _ 'D' 'D'
 obtain⟨m,e,h,k,b,_,c⟩:=yT T P.rev (N-n) n d 'D' g;unfold kas_tail3;refine(m,zV p 0 n,?_,'D','D',b,P.rev,oK c trivial,);rw[run_bind,e];rfl
def yS(T:Tot lt N)(P:Pm p N)(q:n+1<=N)(u:Dn lt p (n+1)):∃m p',run lt (jU n N p)=(m,p')/\1<=m/\m<=N/\Up lt p' m/\Pm p' N/\okT lt N (jU n N p):=by
 obtain⟨m,e,l,o,a,b⟩:=AO T P (N-(n+1)) (n+1) 'D' 'D' u;obtain⟨j,k,c,d,f,g,h,i⟩:=II T P 'D' 'D' a;unfold jU;refine(j,k,?_,d,f,g,h,oK b ?_,);·rw[run_bind,e];exact c
 .rw[e];exact i
theorem F6(T:Tot lt N)(P:Pm p N)(w:1<=N):∃m p',run lt (kas_count N p)=(m,p')/\1<=m/\m<=N/\Up lt p' m/\Pm p' N/\okT lt N (kas_count N p):=by
 obtain⟨m,e,f,v,b,g,h⟩:=yT T P (N-1) 1 (aE _) 'D' (λi j s t=>by lia);have u:∃a p',run lt (if(m==N)=true then uR (m,p)else if m>1 then KasT.ask (p.getD 0 0) (p.getD (m-1) 0) λc=>if c=true then uR (m,p)else jU m N (zV p 0 m)else jU m N p)=(a,p')/\1<=a/\a<=N/\Up lt p' a/\Pm p' N/\
   okT lt N (if(m==N)=true then uR (m,p)else if m>1 then KasT.ask (p.getD 0 0) (p.getD (m-1) 0) λc=>if c=true then uR (m,p)else jU m N (zV p 0 m)else jU m N p):=by
  by_cases c:m=N;·rw[if_pos ↥c];exact(m,p,rfl,f,'D',b,P,trivial,)
  .rw[if_neg ↥c];by_cases d:m>1;·rw[if_pos d];simp only[run,okT];rw[if_pos (b 0 (m-1) 'D' 'D')];exact(m,p,rfl,f,'D',b,P,P.ask 'D' 'D' 'D',trivial,)
   .rw[if_neg d];obtain rfl:m=1:=by lia
    rcases g with z|z;·lia
    .exact yS T P 'D' λi j s t=>by
      obtain rfl:j=1:=by lia
      obtain rfl:i=0:=by lia
      exact z
 obtain⟨a,p',k,l,n,o,q,r⟩:=u;unfold kas_count;refine(a,p',?_,l,n,o,q,oK h ?_,);·rw[run_bind,e];exact k
 .rw[e];exact r
theorem rY(T:Tot lt N)(P:Pm p N){k:Nat}(g:k<N)(u:Up lt p k):∀(f l r:Nat),l<=r->r<=k->r-l<=f->(∀i,i<l->lt (at' p i) (at' p k)=true)->(∀i,r<=i->i<k->lt (at' p k) (at' p i)=true)->
  ∃q,run lt (kas_place p k f l r)=q/\q<=k/\(∀i,i<q->lt (at' p i) (at' p k)=true)/\(∀i,q<=i->i<k->lt (at' p k) (at' p i)=true)/\okT lt N (kas_place p k f l r)
 | 0,l,r,h1,h2,h3,a,b=>(l,rfl,'D',a,λi h=>b i 'D',trivial,)
 |f+1,l,r,h1,h2,h3,a,b=>by
  unfold kas_place;by_cases c:l≥ r;·rw[if_pos c];exact(l,rfl,'D',a,λi h=>b i 'D',trivial,)
  .rw[if_neg c];have x:=P.ask (i:=k) (j:=(l+r)/2) g 'D' 'D';simp only[run,okT];by_cases d:lt (at' p k) (at' p ((l+r)/2))=true
   .rw[if_pos d];have m:=rY T P g u f l ((l+r)/2) 'D' 'D' 'D' a λi h y=>?_;obtain⟨q,n,o,s,t,v⟩:=m;exact(q,n,o,s,t,x,v,);by_cases e:i=(l+r)/2;·rw[e];exact d
    .exact T.tr _ _ _ (P.lt g) (P.lt 'D') (P.lt 'D') d (u _ _ 'D' y)
   .rw[if_neg d];have w:=T.flip P g (by lia:(l+r)/2<N) 'D' ↥d;have m:=rY T P g u f ((l+r)/2+1) r 'D' h2 'D' (λi h=>?_) b;obtain⟨q,n,o,s,t,v⟩:=m;exact(q,n,o,s,t,x,v,);by_cases e:i=(l+r)/2;·rw[e];exact w
    .exact T.tr _ _ _ (P.lt 'D') (P.lt 'D') (P.lt g) (u _ _ 'D' 'D') w
end
theorem Eu{lt:Nat->Nat->Bool}{N:Nat}(T:Tot lt N):∀(f k:Nat)(p:Array Nat),Pm p N->k+f=N->Up lt p k->∃p',run lt (kas_bin f p k)=p'/\Up lt p' N/\Pm p' N/\okT lt N (kas_bin f p k)
 | 0,k,p,P,h,u=>(p,rfl,by rw[<-h];exact u,P,trivial,)
 |f+1,k,p,P,h,u=>by
  have c:k<N:=by lia
  obtain⟨q,e,z,a,b,n⟩:=rY T P c u k 0 k (a0 _) (aE _) 'D' (λi l=>absurd l (i7 _)) λi v w=>by lia
  have m:=Eu T f (k+1) (bubble p k (k-q)) P.bub 'D' λi j x y=>?_;obtain⟨p',o,r,s,t⟩:=m;unfold kas_bin;refine(p',?_,r,s,oK n ?_,);·rw[run_bind,e];exact o
  .rw[e];exact t
  have d:k<p.size:=by rw[P.size];exact c
  rw[KI d 'D',KI d 'D'];have g:k-(k-q)=q:=by lia
  rw[g];by_cases c1:i=q;·rw[if_pos c1,if_neg 'D',if_pos 'D'];exact b _ 'D' 'D'
  .rw[if_neg c1];by_cases c2:j=q;·rw[if_pos c2,if_neg 'D'];exact a i 'D'
   .rw[if_neg c2];by_cases c3:q<i;·rw[if_pos 'D',if_pos 'D'];exact u _ _ 'D' 'D'
    .rw[if_neg 'D'];by_cases c4:q<j;·rw[if_pos 'D'];exact u _ _ 'D' 'D'
     .rw[if_neg 'D'];exact u _ _ 'D' 'D'
def lW{lt:Nat->Nat->Bool}{N:Nat}(T:Tot lt N)(p:1<=N):Pm (run lt (dS N)) N/\Up lt (run lt (dS N)) N/\okT lt N (dS N):=by
 have g:Pm (List.toArray (bg N)) N:=⟨jA _⟩;obtain⟨m,a,e,s,t,d,f,h⟩:=F6 T g p;have q:max m 1=m:=by lia
 have r:∃b,run lt (if m<N then kas_bin (N-max m 1) a (max m 1)else uR a)=b/\Up lt b N/\Pm b N/\okT lt N (if m<N then kas_bin (N-max m 1) a (max m 1)else uR a):=by
  rw[q];by_cases c:m<N;·rw[if_pos c];exact Eu T (N-m) m a f 'D' d
  .rw[if_neg c];have n:m=N:=by lia
   exact(a,rfl,by rw[<-n];exact d,f,trivial,)
 obtain⟨b,i,j,k,l⟩:=r;have o:run lt (dS N)=b:=by unfold dS;rw[run_bind,e];exact i
 rw[o];refine(k,j,?_,);unfold dS;refine oK h ?_;rw[e];exact l
end Q
namespace L2
structure Fly(h₀ h:Heap)(H:Hp)(pn:List (Addr×Obj))(a:Addr)(c:Value)(d:Option Addr):Prop where
 ex:∃T oe vs oT ts,h.get? a<*oe/\oe.cls=c/\oe.dict=d/\oe.data=.fields vs/\vs[1]?<*(.ref T)/\T≠a/\h.get? T<*oT/\oT.data=.fields ts/\ts[3]?<*.none/\h₀.get? T=none/\H T=none/\∀p∈pn,p.1≠T
 new:h₀.get? a=none
 un:H a=none
 pins:∀p∈pn,p.1≠a
def CXx(P:Program)(w:World):CXT:=λb H s E e s'=>
 ∃a c d H',e=.ref a/\s'.os=s.os/\o7 s'.gens/\Un (frs b) [] H H' s.heap s'.heap/\HOk P w H' s'.heap/\Fly s.heap s'.heap H' [] a c d/\E c d H'
section
variable {pins:List (Addr×Obj)}{s:Shared}
def Inv.ur(I:'A')(k:∀b o,b≠it->s.heap.get? b<*o->h'.get? b<*o)(M:H it=none)(J:it≠X.env.locals)
  (F:X.s₀.heap.get? it=none)(t:∀x c,X.env.cells.lookup x<*c->c≠it)(G:∀p∈X.pn++pins,p.1≠it):Inv X pins σ H {s with heap:=h',toks:=t'}:=by
 have h:∀b o,X.s₀.heap.get? b<*o->b≠it:=λb o e z=>by rw[z,F]at e;cases e
 have y:∀b u,H b<*u->b≠it:=λb u e z=>by rw[z,M]at e;cases e
 refine(I.ok,I.os,I.bare,(λb o e n g a=>k b o (h b o e) (I.base.keep b o e n g a),λb o e n g a=>?_,I.base.free,λb o e a=>?_,I.base.tups,I.base.frzs,I.base.tbls,),?_,λx c e=>?_,I.free,I.freeC,λp w=>?_,λb u e=>?_,I.len,);·obtain⟨S,q⟩:=I.base.slot b o e n g a;exact(S,k _ _ (h b o e) q,)
 .obtain⟨Q,q⟩:=I.base.there b o e a;exact(Q,k _ _ (h b o e) q,)
 .obtain⟨m,⟨o,E,D,N,r⟩,L⟩:=I.loc;refine(m,(o,E,D,k _ _ (cU J) N,r,),λi x v A B C=>?_,);obtain⟨u,R,l⟩:=L i x v A B C;refine(u,R,?_,);rcases l with l|⟨O,c,e,j,q,f⟩;·exact .inl l
  .exact .inr (O,c,e,j,k _ _ (t x c e) q,f,)
 .obtain⟨v,j,q,f⟩:=I.cell x c e;exact(v,j,k _ _ (t x c e) q,f,)
 .obtain⟨e,n,ne,P,d⟩:=I.pin p w;exact(k _ _ (G p w) e,n,ne,P,d,)
 .refine(I.hok b u e).pW (λc v K q=>k c v ?_ q) (λ_ q=>q) λ_ _ q=>q;rcases K with z|z;·rw[z];exact y b u e
  .exact y c _ z
def Inv.u9(I:'A'){o:Obj}{vs:Array Value}(e:s.heap.get? a<*o)(f:o.data=.fields vs):a≠X.env.locals/\∀x c,X.env.cells.lookup x<*c->c≠a:=by
 refine(λz=>?_,λx c g z=>?_,);·obtain⟨m,⟨h,j,i,d,b,_⟩,_⟩:=I.loc;rw[<-z,e]at d;cases d;rw[f]at b;cases b
 .obtain⟨v,h,d,b⟩:=I.cell x c g;rw[z,e]at d;cases d;rw[f]at b;cases b
def cX.has{o:HO}(x:cX P w H h a o):∃b,h.get? a<*b:=by
 cases o with
 |lst xs=>obtain⟨_,_,_,_,e⟩:=x;exact(_,e,)
 |tup xs=>obtain⟨_,_,_,_,e,_⟩:=x;exact(_,e,)
 |dK kvs=>obtain⟨_,_,_,_,o,_,_,e,_⟩:=x;exact(_,e,)
 |dT kvs=>obtain⟨_,_,_,_,o,_,_,e,_⟩:=x;exact(_,e,)
 |set S n=>obtain⟨o,_,_,_,e,_⟩:=x;exact(_,e,)
 |ins C dx fs=>obtain⟨_,_,_,e,_⟩:=x;exact(_,e,)
 |own y=>exact x
 |xd fs=>obtain⟨_,⟨_,_,_,e,_⟩,_⟩:=x;exact(_,e,)
 |rng lo hi=>obtain⟨_,_,_,e⟩:=x;exact(_,e,)
 |frz b u=>obtain⟨e,_⟩:=x;exact(_,e,)
 |tbl ps=>exact(_,x,)
 |met f y=>exact(_,x,)
 |ext φ=>exact x.2.1
section
variable {M:Model}{E:'I'}{Q:Unit->Shared->Prop}
def enter{g:Obj}{vs:Array Value}{r:Value}{more:Bool}(I:'A')(v:X.stack=X.env::X.outer)(hf:X.env.frame<*X.env.locals)
  (B:s.heap.get? a<*g)(m:g.data=.fields vs)(hsz:1<vs.size)(h0:X.s₀.heap.get? a=none)(F:H a=none)(R:∀p∈X.pn++pins,p.1≠a)
  (h:∀C,Inv X pins σ H C->Fly X.s₀.heap C.heap H (X.pn++pins) a g.cls g.dict->Q () C):
  wpAny M X.A (do let f<-frameOf X.env;let l<-entryPlaceOf X.env.locals more;let b<-Cb r f .none (rawInt X.env.locals) .none l;lI (.ref a) 1 b)
   (λ_ s'=>wpAny M X.A (B2 (.ref a) none) Q E s') E s:=by
 have a3:X.A.frames<*(X.env::X.outer):=by rw[<-v];exact I.ok.frames
 have O:s.heap.FunFrames X.base (X.env::X.outer):=by rw[<-v];exact I.stack
 have nofr:∀b∈frs X.stack,H b=none:=I.yH;refine ae (wpAny_frameOf_fun a3 O hf λd T=>?_);have k:Heap.SlotsOnly (frs X.stack) s.heap d:=by rw[v];exact T
 have a2:a∉frs X.stack:=λt=>by rw[v]at t;obtain⟨_,o,P,a4⟩:=O.mem t;rw[B]at P;cases P;exact a4 vs m
 have u1:Un (frs X.stack) [] H H s.heap d:=
  ⟨λb o e _ j _=>(k.2.1 b j).trans e,λb o e _ _ _=>k.2.2 b o e,λ_ _ _ n _=>n,λb o e _=>let⟨sl,q⟩:=k.2.2 b o e;(_,q,),λ_ _ q=>q,λ_ _ _ q=>q,λ_ ps q=>⟨#[],by rw[q];simp⟩⟩
 have k1:HOk X.prog X.w H d:=λb b1 e=>by
  refine(I.hok b b1 e).pW (λc b3 hc q=>(k.2.1 c λt=>?_).trans q) (λ_ q=>q) λ_ _ q=>q;have n:=nofr c t;rcases hc with z|z;·rw[z,e]at n;cases n
  .rw[z]at n;cases n
 have W:Inv X pins σ H {s with heap:=d}:=I.call (g':=s.gens) (t':=s.toks) (d':=s.drawn) (ch:=[]) u1 k1 I.bare λ_ z=>nomatch z;have K:d.get? a<*g:=(k.2.1 a a2).trans B;refine ae (wpAny_entryPlaceOf λi a6=>?_);unfold Cb newFields;refine ae (ck ?_ (a6.sizeOk5 _ _ _ _ _));generalize hob:({cls:=.type "traceback",dict:=none,data:=.fields ([r,.ref X.env.locals,.none,rawInt X.env.locals,.none]++(if i.isEmpty then bL 6 cf else i)).toArray}:Obj)=ob;have u:ob.data=.fields ([r,.ref X.env.locals,.none,rawInt X.env.locals,.none]++(if i.isEmpty then bL 6 cf else i)).toArray:=by rw[<-hob]
 have a5:ob.isFreed=false:=by rw[<-hob];rfl
 have Y:Inv X pins σ H {s with heap:=d.push ob}:=W.kept (t':=s.toks) λb o e=>af _ e;have L:(d.push ob).get? a<*g:=af _ K;have a1:(d.push ob).get? d.objs.size<*ob:=aF _ a5;have x:d.objs.size≠a:=cS (aD K);have A:=jb m (·.setIfInBounds 1 (bo d.objs.size));refine G6 L m hsz ?_;obtain⟨a7,a8⟩:=I.u9 B m;have D:Inv X pins σ H {s with heap:=(d.push ob).update a (fE (·.setIfInBounds 1 (.ref d.objs.size)))}:=
  Y.ur (t':=s.toks) (λb o j e=>by rw[bb _ _ (cU j)];exact e) F a7 h0 a8 R
 have N:=bG (fE (·.setIfInBounds 1 (bo d.objs.size))) L (qq A);have w:((d.push ob).update a (fE (·.setIfInBounds 1 (bo d.objs.size)))).get? d.objs.size<*ob:=by rw[bb _ _ (cU x)];exact a1
 have U:3<([r,.ref X.env.locals,.none,rawInt X.env.locals,.none]++(if i.isEmpty then bL 6 cf else i)).toArray.size:=by simp only[aI,aq,aZ,eB];lia
 have V:(vs.setIfInBounds 1 (bo d.objs.size))[1]?<*(.ref d.objs.size):=by simp[hsz]
 refine wpAny_setFlight_none N A V w u U ?_;have y:⇑s<=d.objs.size:=Nat.le_of_eq T.1.symm;have G:X.s₀.heap.get? d.objs.size=none:=qt (aR I.sz y);have J:H d.objs.size=none:=I.hok.fresh y;obtain⟨a9,b0⟩:=D.u9 w u;have S:∀p∈X.pn++pins,p.1≠d.objs.size:=λp hq z=>by have q:=aD (I.pin p hq).1;exact absurd (bj (z▸q) y) (eN _)
 have Z:=D.ur (t':=s.toks) (h':=((d.push ob).update a (fE (·.setIfInBounds 1 (.ref d.objs.size)))).update d.objs.size (fE (·.setIfInBounds 3 .none)))
  (λb o j e=>by rw[bb _ _ (cU j)];exact e) J a9 G b0 S
 refine h _ Z ((d.objs.size,_,_,_,_,?_,Obj.cls_mapFields _ _,?_,A,V,x,bG _ w (qq (jb u _)),jb u _,?_,G,J,S,),h0,F,R,);·show(Heap.update _ _ _).get? a=_;rw[bb _ _ x];exact N
 .obtain⟨c',d',a0,b2⟩:=g;cases a0<;>rfl
 .rw[pS U]
def A9(I:'A')(n:X.stack=X.env::X.outer)(f:X.env.frame<*X.env.locals)(m:X.ex=[])(b:qu s.heap h' a c args)
  (h:∀d,Inv X pins σ H d->Fly X.s₀.heap d.heap H (X.pn++pins) a c none->Q () d):
  wpAny M X.A (nq (.ref a) X.env) (λ_ s'=>wpAny M X.A (B2 (.ref a) none) Q E s') E {s with heap:=h'}:=by
 obtain⟨t,g,_,_⟩:=b.there;have i:Inv X pins σ H {s with heap:=h'}:=I.kept (t':=s.toks) b.keeps;have k:H a=none:=by
  cases q:H a with
  |none=>rfl
  |some o=>obtain⟨u,e⟩:=(I.hok a o q).has;rw[b.new]at e;cases e
 unfold nq;simp only[f];refine ae (eJ (x:=.none) g rfl (by rfl) ?_);rw[if_neg (show ¬(cf != cf)=true by simp)];have j:X.s₀.heap.get? a=none:=by
  cases q:X.s₀.heap.get? a with
  |none=>rfl
  |some o=>obtain⟨r,e⟩:=I.base.there a o q (by rw[m];simp);rw[b.new]at e;cases e
 exact enter i n f g rfl 'F' j k (λp l z=>by have :=(I.pin p l).1;rw[z,b.new]at this;cases this) h
def Ba{d:Option Addr}(I:'A')(S:X.stack=X.env::X.outer)(t:X.env.frame<*X.env.locals)(N:X.ex=[])(K:s'.os=s.os)(J:o7 s'.gens)(u:Un (frs X.stack) [] H H' s.heap s'.heap)(ok:HOk X.prog X.w H' s'.heap)
  (F:Fly s.heap s'.heap H' [] a c d)(h:∀i,Inv X pins σ H' i->Fly X.s₀.heap i.heap H' (X.pn++pins) a c d->Q () i):
  wpAny M X.A (nq (.ref a) X.env) (λ_ s'=>wpAny M X.A (B2 (.ref a) none) Q E s') E s':=by
 obtain⟨⟨T,O,Y,V,W,r,rfl,rfl,m,k,C,f,g,l,v,A,_⟩,w,B,_⟩:=F;have j:Inv X pins σ H' s':=I.call' (ch:=[]) K u ok J λ_ z=>nomatch z;have back:∀b,s.heap.get? b=none->X.s₀.heap.get? b=none:=λb n=>by
  cases q:X.s₀.heap.get? b with
  |none=>rfl
  |some o=>obtain⟨U,e⟩:=I.base.there b o q (by rw[N];simp);rw[n]at e;cases e
 have x:∀b,s.heap.get? b=none->∀p∈X.pn++pins,p.1≠b:=λb n p L z=>by have :=(I.pin p L).1;rw[z,n]at this;cases this
 unfold nq;simp only[t];refine ae (eJ r m k ?_);rw[if_pos (show(bo T != cf)=true by simp)];refine ae (eJ f g l ?_);rw[if_neg (show ¬(cf==rawInt X.env.locals)=true by simp[rawInt])];refine ae (G6 f g (cI.mp l).1 ?_);obtain⟨P,R⟩:=j.u9 f g;have y:=j.ur (t':=s'.toks) (h':=s'.heap.update T (fE (·.setIfInBounds 3 .none))) (λb o D e=>by rw[bb _ _ (cU D)];exact e) A P (back T v) R (x T v);have G:(s'.heap.update T (fE (·.setIfInBounds 3 .none))).get? a<*O:=by rw[bb _ _ C];exact r
 exact enter y S t G m (cI.mp k).1 (back a w) B (x a w) h
end
end
end L2
namespace L2
open PySem.W
abbrev mW(K:ai)(C:Addr):Bool:=
 findIn K (.ref C) "__getattribute__"==some (some (.builtin "BaseException.__getattribute__"))&&findIn K (.ref C) "__getattr__"==some none&&
 findIn K (.ref C) "__class__"==some (some (.builtin "object.__class__"))&&specialIn K (.builtin "object.__class__") "__get__"==some (some (.builtin "getset_descriptor.__get__"))&&
 takesIn K (.builtin "object.__class__")==some true&&mroIn K C (.type "object")==some true&&mroIn K C (.type "BaseException")==some true&&(clsIn K C).isSome
structure wq(K:ai)(C:Addr):Prop where
 ga:findIn K (.ref C) "__getattribute__"<*(some (.builtin "BaseException.__getattribute__"))
 hook:findIn K (.ref C) "__getattr__"<*none
 cl:findIn K (.ref C) "__class__"<*(some (.builtin "object.__class__"))
 get:specialIn K (.builtin "object.__class__") "__get__"<*(some (.builtin "getset_descriptor.__get__"))
 tk:takesIn K (.builtin "object.__class__")<*true
 obj:mroIn K C (.type "object")<*true
 bex:mroIn K C (.type "BaseException")<*true
 isc:(clsIn K C).isSome=true
def BD(h:mW K C=true):wq K C:=by unfold mW at h;simp only[aN,beq_iff_eq]at h;obtain⟨⟨⟨⟨⟨⟨⟨a,b⟩,c⟩,d⟩,e⟩,f⟩,g⟩,i⟩:=h;exact(a,b,c,d,e,f,g,i,)
def CM:splitId "BaseException.__getattribute__"<*("BaseException","__getattribute__"):=by decide+kernel
def Gz:builtinKind "BaseException.__getattribute__"<*.slot:=by decide+kernel
def ga_ne:(iP "BaseException.__getattribute__"==iP "object.__getattribute__")=false:=by decide+kernel
section
variable {E:'I'}{s:Shared}{a C:Addr}{o:Obj}{od:Option Obj}
def wk{M:Model}{b:Value}{Q:Unit->Shared->Prop}{g:Array uq}{d:Drawn}{t:Nat}{c:OsState}(f:K.In h)(J:InstAt h a o C od)(F:wq K C)(e:Q () (h,g,d,t,c,)):
  wpAny M A (B4 "BaseException.__getattribute__" ([.ref a,b],[],)) Q E (h,g,d,t,c,):=by
 have i:=J.type (M:=M);have j:=looks_mroIn (M:=M) f F.bex;have k:=PySem.F.args_bexc_ga (.ref a) b;simp only[B4,Gz,CM];unfold isInstance;repeat(first |lk|wp_step)
 exact e
def GY{tk:Tok}{R:Result->Shared->Prop}(b:K.In s.heap)(J:InstAt s.heap a o C od)(F:wq K C)(h:R (.ok (.ret (.ref C))) s):
  gh (model prog w) A (.call (.builtin "BaseException.__getattribute__") ([.ref a,.str "__class__" tk],[],)) R s:=by
 have e:uL K C od "__class__"<*(.bind (.builtin "getset_descriptor.__get__") (.builtin "object.__class__")):=by obtain⟨l,c⟩:=cW.mp F.isc;unfold uL;rw[c,fG,F.cl,fG];simp[F.get,F.tk]
 obtain⟨f,g,d,t,i⟩:=s;have j:=J.type (M:=model prog w);have k:=looks_find (M:=model prog w) b J e;refine fN gq.ga.plain Ck (wk b J F ?_);unfold Builtin.«object.__getattribute__»;repeat(first |with_reducible refine jx ?_ |lk|wp_step)
 refine class_get (s:=(f,g,d,t,i,)) b J F.obj ?_;repeat(first |lk|wp_step)
 exact h
def GI{Q:Option Value->Shared->Prop}(b:K.In s.heap)(J:InstAt s.heap a o C od)(F:wq K C)(h:Q (some (.ref C)) {s with toks:=s.toks+1}):
  'B' (getAttr? (.ref a) "__class__") Q E s:=by
 obtain⟨k,g,d,t,l⟩:=s;have c:=J.type (M:=model prog w);have e:=rJ (M:=model prog w) b F.ga;have f:=rJ (M:=model prog w) b F.hook;have j:uL K C od "__class__"<*(.bind (.builtin "getset_descriptor.__get__") (.builtin "object.__class__")):=by obtain⟨p,i⟩:=cW.mp F.isc;unfold uL;rw[i,fG,F.cl,fG];simp[F.get,F.tk]
 have m:=looks_find (M:=model prog w) b J j;have n:=looks_mroIn (M:=model prog w) b F.bex;unfold getAttr? getAttrBy? getAttrBy;refine ae (wpAny_mkText (ae (fq (bq (ae (c.at (ae (e.at ?_))))))));show wpAny _ _ (if(B3 (.ref C)&&(iP "BaseException.__getattribute__"==iP "object.__getattribute__"))=true then _ else _) _ _ _;rw[ga_ne,eU,if_neg be];unfold getAttrByItsOwn hookBefore;rw[if_pos (show B3 (.ref C)=true from rfl)];refine ae (f.at ?_);unfold callGetattribute boundAndCalled;rw[gW,if_neg be];refine ae (fq (bq (ae ?_)));rw[gq.ga.bind (.ref a)];refine ag (jx (GY (s:=(k,g,d,t+1,l,)) b J F ?_));exact handed_on rfl (ag h)
end
@[reducible]def bmV:List Value:=[.type "ValueError",.type "Exception",.type "BaseException",.type "object"]
abbrev tG(a:Addr)(c:Value)(d:Option Addr):HO:=.ext λh=>∃o,h.get? a<*o/\o.cls=c/\o.dict=d/\notCls o=true
noncomputable abbrev excO(a:Addr)(c:Value):HO:=tG a c none
section
variable {a C:Addr}
def JZ(F:wq K C):KitX K (.ref a) (.ref C) (λh=>∃o od,InstAt h a o C od) where
 ty:=λM h _ p=>by obtain⟨o,od,J⟩:=p;exact J.type
 it:=λM h c _=>by
  obtain⟨d,b⟩:=cW.mp F.isc;unfold clsIn at b;split at b;·rename_i ho;intro A Q E s k q;unfold isType loadHead;exact ae (G8 (k _ _ (c _ _ ho)) (ag q))
  .cases b
 ne:=λh f g i n j c e=>by
  obtain⟨d,b⟩:=cW.mp F.isc;refine gI.mpr λq=>?_;obtain rfl:C=f:=bo.inj (beq_iff_eq.mp q);unfold clsIn at b;split at b;·rename_i ho;have z:=(c _ _ ho).symm.trans e;cases z
  .cases b
 ca:=λc p k=>by obtain⟨o,od,J⟩:=p;exact GI c J F k
def DA{d:Option Addr}(ok:HOk P w H h)(e:H a<*(tG a (.ref C) d))(i:∀dd,d<*dd->∃k,H dd<*(.ext k)):∃o od,InstAt h a o C od:=by
 obtain⟨⟨o,b,c,f,g⟩,_⟩:=ok a _ e;cases d with
 |none=>exact⟨o,none,b,c,g,by rw[f];exact True.intro⟩
 |some dd=>obtain⟨u,j⟩:=i dd rfl;obtain⟨od,z⟩:=(ok dd _ j).2.1;exact⟨o,some od,b,c,g,by rw[f];exact z⟩
end
section
def exc_obj{newId:String}(a:K.In h)(q:excIn K C bmB newId=true):
  ∃nm p N bs bm o sn sub ab col dd k0 k1 k2 k3 k5 mN,h.get? C<*(jz nm p C N bs bm o sn sub ab col dd k0 k1 k2 k3 k5 newId)/\h.Ns N mN/\mN "__init__"=none/\OwnTail h bmB bm:=by
 unfold excIn at q;split at q
 case h_2=>cases q
 rename_i od cd sl ho;split at q
 case h_2=>cases q
 rename_i C' bm j0 j1 j2 j3 n j5 hm hs;rw[aN,aN,aN,aN,aN,beq_iff_eq,beq_iff_eq,beq_iff_eq]at q;obtain⟨⟨⟨⟨⟨e,f⟩,g⟩,i⟩,b⟩,j⟩:=q;subst e;subst f;obtain⟨r,t,d,u,v,w,x,y,z,s,c⟩:=cd;have k:d=.ref C'::bm:=hm;have l:c=false:=by simpa using g
 have m:sl= #[j0,j1,j2,j3,some (.builtin n),j5]:=by
  apply Lb
  exact hs
 subst k;subst l;subst m;exact(_,_,_,_,_,_,_,_,_,_,_,_,_,_,_,_,_,a _ _ ho,.of_isNs (isNs_of_in a b),nsMap_none_of_in a b j,tail_of_in a i,)
def Jc{b:List Expr}{t:TA}{E:St->XK}(y:Gl X x)(F:X.mg x<*(.ref C))(A:keepIn X.K (.ref C)=true)(K:excIn X.K C bmV "ValueError.__new__"=true)(n:PA X (e::b) t)(p:X.calm=true)(w:(x==("__debug__":Str))=false)
  (L:bx (e::b) X.env=(false,eval e X.env)::bx b X.env)(J:(backTo au (bx b X.env)).any (·.1)=false)
  (O:∀pins σ H s a c args h','A'->qu s.heap h' a c args->E σ c none H->X.xe (.ref a) {s with heap:=h'}):
  PS X (.Raise (some (.Call (.Name x np) (e::b) [] au)) none pos) (λD σ H=>t σ H λvs H1=>vs.length<=sizeLine/\E σ (.ref C) none H1):=by
 intro pins s σ H D I h;obtain⟨nm,k,N,bs,bm,j,sn,sub,ab,col,dd,k0,k1,k2,k3,k5,U,l,m,G,T⟩:=exc_obj (bmB:=bmV) I.mod.kin K;have o:bm.contains (.type "BaseException")=true:=T.hasType (by decide+kernel);rw[arm_exec_Raise];show wpAny _ _ (do Ft pos;raiseStmt X.env (some (do let v<-eval (.Call (.Name x np) (e::b) [] au) X.env;Ft pos;pure v)) none) _ _ s;refine ae (jl (wpAny_raiseStmt_made_sub (C:=C) (nm:=nm) (q:=k) (N:=N) (bs:=bs) (bm:=bm) (hdct:=j) (sn:=sn) (sub:=sub) (ab:=ab) (col:=col) (dd:=dd) (k0:=k0) (k1:=k1) (k2:=k2) (k3:=k3) (k5:=k5) (newId:="ValueError.__new__") o (I.ok.hd p) (ae (cE (Q:=λv d=>∃a u,v=.ref a/\d.heap.get? C<*(jz nm k C N bs bm j sn sub ab col dd k0 k1 k2 k3 k5 "ValueError.__new__")/\d.heap.get? a<*{cls:=.ref C,data:=.fields #[.ref u,.none,.none,.none,.bool false,.none]}/\X.xe (.ref a) d) (E:=X.xe) ?_ (λv d z=>ae (jl (ag z))) λ_ _ z=>z))));refine gE (mM I y F ?_ w);refine rM (h₀:=X.base) I.ok.mod.kin A (thn (n au pins s σ H _ I h) λY d ⟨vs,H1,f,r,B,q⟩=>(f.kIn,?_,)) L J;have i:=f.bk _ _ l;obtain⟨S,R,P,W,V⟩:=d;refine wpAny_call_exc_subT (hrest:=by rw[yw,<-r.length];exact B) kO (T.keeps f.bk) i (m.keeps f.bk) G λh' a g=>?_;obtain⟨u,M,_,_⟩:=g.there;exact(a,u,rfl,g.keeps _ _ i,M,O pins σ H1 _ a _ _ h' f g q,)
end
abbrev Cx.re(X:Cx)(A:Around)(calm:Bool)(pn:List (Addr×Obj))(xe:'I'):Cx:={X with A:=A,calm:=calm,pn:=pn,xe:=xe}
section
variable {pins:List (Addr×Obj)}{s:Shared}
theorem Inv.re{calm:Bool}(I:'A')(a:A.frames=X.A.frames)(b:calm=true->A.handled=none)(c:∀p∈pn++pins',p∈X.pn++pins):
  Inv (X.re A calm pn xe) pins' σ H s:=
 ((I.ok.mod,I.ok.kind,I.ok.glob,I.ok.blt,I.ok.above,I.ok.inj,I.ok.has,I.ok.cab,b,a.trans I.ok.frames,I.ok.stk,I.ok.exf,I.ok.bs,I.ok.bsz,I.ok.noex,I.ok.exfs,I.ok.vK,I.ok.frf,),
  I.os,I.bare,I.base,I.loc,I.cell,I.free,I.freeC,λp q=>I.pin p (c p q),I.hok,I.len,)
def Inv.Hy{calm:Bool}(ok:X.Ok)(I:Inv (X.re A calm pn xe) pins' σ H s)(a:∀p∈X.pn++pins,p∈pn++pins'):'A':=
 (ok,I.os,I.bare,I.base,I.loc,I.cell,I.free,I.freeC,λp q=>I.pin p (a p q),I.hok,I.len,)
def oN{M:Model}{n:Str}{Q:Unit->Shared->Prop}(I:'A')(B:X.N.Nodup)(hi:X.N[i]?<*n)(F:X.env.scope.names.lookup n<*.local)
  (h:∀s',Inv X pins (σ.set i none) H s'->Q () s'):wpAny M A (do bindName X.env n .none;unbindBehindTheSuite X.env n pos) Q E s:=by
 obtain⟨m,u,G⟩:=id I.loc;have D:(X.env.scope.kind== .class||(X.env.scope.kind== .module&&X.env.locals != X.env.globals))=false:=by rw[I.ok.kind];rfl
 obtain⟨W,_,_,V,_⟩:=id u;refine wpAny_nameGoes_keeps F u D λU v J a=>h _ ?_;have up:∀b o,X.s₀.heap.get? b<*o->b≠X.env.locals:=λb o e=>aK (bj (aD e) I.ok.above);refine(I.ok,I.os,I.bare,(λb o e n r l=>(a.2 b (up b o e)).trans (I.base.keep b o e n r l),λb o e n r l=>?_,I.base.free,λb o e l=>?_,I.base.tups,I.base.frzs,I.base.tbls,),(_,J,λj y T f g x=>?_,),λy c e=>?_,I.free,I.freeC,λp K=>?_,λb O e=>?_,↥I.len,);·obtain⟨R,f⟩:=I.base.slot b o e n r l;exact(R,(a.2 b (up b o e)).trans f,)
 .obtain⟨N,f⟩:=I.base.there b o e l;exact(N,(a.2 b (up b o e)).trans f,)
 .by_cases hj:j=i
  .subst hj;rw[List.getElem?_set]at g;split at g;·split at g<;>cases g
   .exact absurd rfl (by assumption)
  .rw[qr (cU hj)]at g;obtain⟨S,P,q⟩:=G j y T f g x;refine(S,P,?_,);rcases q with⟨k,e⟩ |⟨k,c,e,z⟩;·refine .inl (k,?_,);have :y≠n:=λe=>hj (vi B f (e▸hi));simp[this,e]
   .exact .inr (k,c,e,z.sameBut a (I.cne y c e),)
 .obtain⟨w,z⟩:=I.cell y c e;exact(w,z.sameBut a (I.cne y c e),)
 .obtain⟨e,n,ne,L,d⟩:=I.pin p K;exact((a.2 p.1 ne).trans e,n,ne,L,d,)
 .refine(I.hok b O e).pW (λc w C q=>(a.2 c ?_).trans q) (λ_ q=>q) λ_ _ q=>q;have t:=I.free;rintro rfl;rcases C with z|z;·rw[<-z,t]at e;cases e
  .rw[t]at z;cases z
def Inv.take{d:Option Addr}(I:'A')(K:X.ex=[])(F:Fly X.s₀.heap s.heap H (X.pn++pins) a c d):Inv X pins σ (upd H a (tG a c d)) s:=by
 obtain⟨⟨T,l,N,L,M,i,v,w,j,_⟩,y,f,A⟩:=F;obtain⟨D,E⟩:=I.u9 i j;refine(I.ok,I.os,I.bare,(I.base.keep,I.base.slot,λb o e n h=>?_,I.base.there,λb m e=>?_,λb o u e=>?_,λb C e=>?_,),I.loc,I.cell,?_,λx g e=>?_,λp q=>?_,λb u e=>?_,I.len,);·rw[aQ (λz=>by rw[z,y]at e;cases e)];exact I.base.free b o e n h
 .have q:=I.base.tups b m e;rw[aQ (bt q f)];exact q
 .have q:=I.base.frzs b o u e;rw[aQ (bt q f)];exact q
 .obtain⟨more,q⟩:=I.base.tbls b C e;exact⟨more,by rw[aQ (bt q f)];exact q⟩
 .rw[aQ (cU D)];exact I.free
 .rw[aQ (E x g e)];exact I.freeC x g e
 .obtain⟨e,n,ne,B,d⟩:=I.pin p q;exact(e,by rw[aQ (A p q)];exact n,ne,B,d,)
 .by_cases h:b=a;·subst h;rw[ay]at e;cases e;refine(⟨l,i,v,w,by unfold notCls;rw[j]⟩,(l,i,),λG J p k=>?_,);obtain⟨o,t,r⟩:=p;exact(o,k o t,r,)
  .rw[aQ h]at e;exact(I.hok b u e).pW (λ_ _ _ q=>q) (λg q=>by rw[aQ (bt q f)];exact q) λg m q=>by rw[aQ (bt q f)];exact q
end
abbrev Ends.drop(D:Ends)(i:Nat):Ends:={nx:=λσ H=>D.nx (σ.set i none) H,rt:=D.rt,bk:=λσ H=>D.bk (σ.set i none) H,ct:=λσ H=>D.ct (σ.set i none) H}
def sA(K:ai)(C:Addr)(i:Nat)(ts:TS)(D:Ends):St->XK:=λσ c d H=>
 c=c/\exmOne K c (.ref C)<*true/\∀a,H a=none->ts (D.drop i) (σ.set i (some (.ref a))) (upd H a (tG a c d))
def kj(X:Cx)(pins:List (Addr×Obj))(D:Ends)(a:List ExceptHandler):'I':=λe b=>
 'C' (nq e X.env) (λ_ c=>'C' (B2 e none) (λ_ d=>'C' (handleBy e X.env a) (SP X pins D) X.xe d) X.xe c) X.xe b
section
variable {pins:List (Addr×Obj)}{s:Shared}{n:Str}{C:Addr}{b₀:Stmt}{suite:List Stmt}{hpos:Pos}{ts:TS}{D:Ends}
structure BX(X:Cx)(x n:Str)(C:Addr)(i:Nat)(suite:List Stmt)(ts:TS):Prop where
 nd:X.N.Nodup
 at_:X.N[i]?<*n
 loc:X.env.scope.names.lookup n<*.local
 gl:Gl X x
 mg:X.mg x<*(.ref C)
 db:(x==("__debug__":Str))=false
 stk:X.stack=X.env::X.outer
 fr:X.env.frame<*X.env.locals
 ex:X.ex=[]
 su:∀(pins:List (Addr×Obj))(a:Addr),PSs (X.re (X.A.mark (some (.ref a))) false (X.pn++pins) (λ_ _=>False)) suite ts
def sF{d:Option Addr}(O:BX X x n C i (b₀::suite) ts)(I:'A')(F:Fly X.s₀.heap s.heap H (X.pn++pins) a c d)(h:sA X.K C i ts D σ c d H):
  'C' (handleBy (.ref a) X.env [.ExceptHandler (some (.Name x np)) (some n) (b₀::suite) hpos]) (SP X pins D) X.xe s:=by
 obtain⟨_,hm,Z⟩:=h;obtain⟨⟨T,oe,vs,oT,tv,m,r,W,E,t,B,l,k,w,G,y,K⟩,a0,A,hp⟩:=F;refine wpAny_handleBy_cons (codeAny_handlers_test ?_) (by intro q;cases q);have P:Inv (X.re (X.A.mark (some (.ref a))) false (X.pn++pins) (λ_ _=>False)) [] σ H s:=I.re rfl (λz=>nomatch z) λp q=>by simpa using q
 refine mM P O.gl O.mg ?_ O.db;have V:Looks (model X.prog X.w) s.heap (typeOf (.ref a)) c:=r▸(Looks.ld m).andThen .now;refine(exm_one I.kIn V hm).here (codeAny_handlers_suite_as ?_);refine wpAny_setFlight_none m E t l k (cI.mp w).1 ?_;obtain⟨a1,a2⟩:=I.u9 l k;have Q:=I.ur (t':=s.toks) (h':=s.heap.update T (fE (·.setIfInBounds 3 .none))) (λa3 a4 Y e=>by rw[bb _ _ (cU Y)];exact e) y a1 G a2 K;have N:Fly X.s₀.heap (s.heap.update T (fE (·.setIfInBounds 3 .none))) H (X.pn++pins) a c d:=by refine((T,oe,vs,_,_,by rw[bb _ _ B];exact m,r,W,E,t,B,bG _ l (qq (jb k _)),jb k _,?_,G,y,K,),a0,A,hp,);rw[pS (cI.mp w).1]
 have R:=Q.take O.ex N;refine uX R O.nd O.at_ (.inl O.loc) (v:=.ref a) rfl (λL S=>?_) (.inr O.loc);have U:Inv (X.re (X.A.mark (some (.ref a))) false (X.pn++pins) (λ_ _=>False)) [] (σ.set i (some (.ref a))) (upd H a (tG a c d)) L:=S.re rfl (λz=>nomatch z) λp q=>by simpa using q
 refine cE (O.su pins a [] L _ _ (D.drop i) U (Z a A)) (λf M q=>?_) λ_ _ z=>z.elim;have back:∀{j:St}{b:Hp},Inv (X.re (X.A.mark (some (.ref a))) false (X.pn++pins) (λ_ _=>False)) [] j b M->Inv X pins j b M:=λ{j b} J=>J.Hy I.ok λp q=>by simpa using q
 cases f with
 |next =>obtain⟨j,b,J,q⟩:=q;exact oN (back J) O.nd O.at_ O.loc λo g=>(_,_,g,q,)
 |brk=>obtain⟨j,b,J,q⟩:=q;exact oN (back J) O.nd O.at_ O.loc λo g=>(_,_,g,q,)
 |cont=>obtain⟨j,b,J,q⟩:=q;exact oN (back J) O.nd O.at_ O.loc λo g=>(_,_,g,q,)
 |ret u=>obtain⟨v,j,b,J,rv,q⟩:=q;exact oN (back J) O.nd O.at_ O.loc λo g=>(v,_,_,g,rv,q,)
def HE(O:BX X x n C i (b₀::suite) ts){e:Value}(ok:X.Ok)(m:X.calm=true)
  (I:Inv (X.re X.A X.calm (X.pn++pins) (kj X pins D [.ExceptHandler (some (.Name x np)) (some n) (b₀::suite) hpos])) pins' σ H s)(h:CXx X.prog X.w X.stack H s (sA X.K C i ts D σ) e s'):
  kj X pins D [.ExceptHandler (some (.Name x np)) (some n) (b₀::suite) hpos] e s':=by
 obtain⟨a,c,d,l,rfl,j,g,u,k,F,q⟩:=h;have J:'A':=I.Hy ok λp z=>eS _ z;exact Ba J O.stk O.fr O.ex j g u k F λo f b=>sF O f b q
def HF(O:BX X x n C i (b₀::suite) ts)(ok:X.Ok)
  (I:Inv (X.re X.A X.calm (X.pn++pins) (kj X pins D [.ExceptHandler (some (.Name x np)) (some n) (b₀::suite) hpos])) pins' σ H s)(e:qu s.heap h' a c args)(h:sA X.K C i ts D σ c none H):
  kj X pins D [.ExceptHandler (some (.Name x np)) (some n) (b₀::suite) hpos] (.ref a) {s with heap:=h'}:=by
 have J:'A':=I.Hy ok λp z=>eS _ z;exact A9 J O.stk O.fr O.ex e λf d b=>sF O d b h
def ps_try{d:List Stmt}{tb:Ends->TS}(i:∀pins D,X.Ok->PSs (X.re X.A X.calm (X.pn++pins) (kj X pins D [.ExceptHandler (some (.Name x np)) (some n) (b₀::suite) hpos])) d (tb D)):
  PS X (.Try d [.ExceptHandler (some (.Name x np)) (some n) (b₀::suite) hpos] [] [] pos) (λD σ H=>tb D D σ H):=by
 intro pins s σ H D I h;have g:Inv (X.re X.A X.calm (X.pn++pins) (kj X pins D [.ExceptHandler (some (.Name x np)) (some n) (b₀::suite) hpos])) [] σ H s:=I.re rfl I.ok.hd λp q=>by simpa using q
 refine wpAny_Try_except (cE (i pins D I.ok [] s σ H D g h) (λf c q=>?_) λe c q=>q);have back:∀{b:St}{a:Hp},Inv (X.re X.A X.calm (X.pn++pins) (kj X pins D [.ExceptHandler (some (.Name x np)) (some n) (b₀::suite) hpos])) [] b a c->Inv X pins b a c:=λ{b a} J=>J.Hy I.ok λp q=>by simpa using q
 cases f with
 |next =>obtain⟨b,a,J,q⟩:=q;exact yW pins c b a D (back J) q
 |brk=>obtain⟨b,a,J,q⟩:=q;exact(_,_,back J,q,)
 |cont=>obtain⟨b,a,J,q⟩:=q;exact(_,_,back J,q,)
 |ret u=>obtain⟨v,b,a,J,rv,q⟩:=q;exact(v,_,_,back J,rv,q,)
end
noncomputable abbrev XS:=St->XK
noncomputable abbrev N0:XS:=λ_=>E0
def yr(CX:CXT)(X:Cx)(E:XS):Prop:=∀(pins:List (Addr×Obj))(σ:St)(H:Hp)(s:Shared)(e:Value)(s':Shared),'A'->CX X.stack H s (E σ) e s'->X.xe e s'
def MadeS(X:Cx)(E:XS):Prop:=∀(pins:List (Addr×Obj))(σ:St)(H:Hp)(s:Shared)(a:Addr)(c:Value)(args:List Value)(h':Heap),'A'->qu s.heap h' a c args->E σ c none H->X.xe (.ref a) {s with heap:=h'}
section
variable {CX:CXT}{k:Nat}{f:Addr}{fd:gp}{sp:Sp}{ds:List Value}{E:XS}{es:List Expr}{t:TA}
def Et{Q:VK}{vs:List V}(F:jO X.prog X.w X.K X.mg X.base CX k f fd ps sp)(i:jk k X.A)(c:Binds X.K fd ps ds)(d:bZ ak ds)(j:yr CX X E)
  (I:'A')(r:bZ vs us)(h:sp (vs++ak) H Q (E σ)):'C' (call (.ref f) us) (EP X pins σ Q) X.xe s:=by
 have b:bZ (vs++ak) (us++ds):=r.append d;have g:(us++ds).length=ps.length:=b.length.symm.trans (F.len _ _ _ _ h);refine jx (jY (F.run X.A X.stack s H (us,[],) (us++ds) (vs++ak) Q (E σ) i I.env0 (c s us I.kIn g) b h) λr l a=>?_);cases r with
 |error e=>exact j pins σ H s e l I a
 |ok fl=>cases fl<;>first |exact I.after a|exact gU a
def Ju(F:jO X.prog X.w X.K X.mg X.base CX k f fd ps sp)(o:jk k X.A)(j:Gl X x)(m:X.mg x<*(.ref f))(l:cF X.K (.ref f)=true)(c:Binds X.K fd ps ds)(d:bZ ak ds)(u:yr CX X E)
  (b:PA X (e::es) t)(g:(x==("__debug__":Str))=false)(i:bx (e::es) X.env=(false,eval e X.env)::bx es X.env)(n:(backTo pos (bx es X.env)).any (·.1)=false):
  PE X (.Call (.Name x p) (e::es) [] pos) (λσ H Q=>Az sp ak (E σ) t σ H Q):=by
 intro v s σ H Q I h;refine gE (mM I j m ?_ g);exact rM (h₀:=X.base) I.ok.mod.kin l (thn (b pos v s σ H _ I h) λz y ⟨A,w,a,r,q⟩=>(a.kIn,Et F o c d u a r q,)) i n
def Gg(F:jO X.prog X.w X.K X.mg X.base CX k f fd ps sp)(i:jk k X.A)(d:Gl X x)(g:X.mg x<*(.ref f))(e:cF X.K (.ref f)=true)(a:Binds X.K fd ps ds)(b:bZ ak ds)(j:yr CX X E)
  (c:(x==("__debug__":Str))=false):PE X (.Call (.Name x p) [] [] pos) (λσ H Q=>Az sp ak (E σ) pT σ H Q):=by
 intro l s σ H Q I h;refine gE (mM I d g ?_ c);exact PySem.W.callWith_K0 I.kIn e (Et (us:=[]) F i a b j I .nil h)
end
section
variable {mg:Str->Option Value}
def GW{M:List Env}{E:XK}:
  yr (CXx P w) (zB (CXx P w) P w K mg base N ao scope f cd A M s H E) (λ_=>E):=by
 intro S X R V e U I h;obtain⟨a,c,d,i,rfl,D,C,u,G,F,q⟩:=h;show wpAny _ _ (leaving _ _) _ _ _;unfold leaving;refine ae (Ba I rfl rfl rfl D C u G F λW b g=>?_);obtain⟨⟨T,L,Q,J,O,l,o,p,r,t,v,x,y,B,m,n,_⟩,j,k,_⟩:=g;exact(a,c,d,i,rfl,b.os,b.bare,b.base,b.hok,⟨⟨T,L,Q,J,O,l,o,p,r,t,v,x,y,B,m,n,λ_ z=>nomatch z⟩,j,k,λ_ z=>nomatch z⟩,q,)
def GX{B:List Env}{E:XK}:
  MadeS (zB (CXx P w) P w K mg base N ao scope f cd A B s H E) (λ_=>E):=by
 intro J O e L a c F G I v q;show wpAny _ _ (leaving _ _) _ _ _;unfold leaving;refine ae (A9 I rfl rfl rfl v λM b d=>?_);obtain⟨⟨T,y,D,x,C,i,l,m,n,o,p,r,t,u,j,k,_⟩,g,h,_⟩:=d;exact(a,c,none,e,rfl,b.os,b.bare,b.base,b.hok,⟨⟨T,y,D,x,C,i,l,m,n,o,p,r,t,u,j,k,λ_ z=>nomatch z⟩,g,h,λ_ z=>nomatch z⟩,q,)
def cxx0{o:List Env}{e:Value}(h:CXx P w o H s E0 e s'):False:=by obtain⟨_,_,_,_,_,_,_,_,_,_,q⟩:=h;exact q
def jO.calm{k:Nat}{a:gp}{sp:Sp}(F:jO P w K mg base (CXx P w) k f a ps sp):jO P w K mg base CX0 k f a ps (λvs H Q _=>sp vs H Q E0):=
 ⟨λvs H Q E h=>F.len vs H Q E0 h,λA l s H b m vs Q E g d c j i=>jY (F.run A l s H b m vs Q E0 g d c j i) λr n q=>by
  cases r with
  |error e=>exact cxx0 q
  |ok fl=>cases fl<;>exact q⟩
end
end L2
namespace Q
open PySem.W L2
abbrev kr(lt:Nat->Nat->Bool)(vs:List Value):List Value:=if vs.length<2 then vs else(run lt (dS vs.length)).toList.map λi=>vs.getD i .none
def Asks(prog:Program)(w:World)(A:Around)(lt:Nat->Nat->Bool)(vs:List Value)(h0:Heap):Prop:=
 ∀a:Shared,(∀b o,h0.get? b<*o->a.heap.get? b<*o)->
  ∃κ,(∀(c:gm->Shared->Prop)(d:'I'),c κ a->'B' (keyKind' vs.toArray) c d a)/\
   ∀i j (C:Bool->Shared->Prop),i<vs.length->j<vs.length->i≠j->C (lt i j) a->kas_ask prog w A κ vs i j C a
abbrev tlt(x y:Str):Bool:=decide (x.cps.toList<y.cps.toList)
abbrev qP(ks:List Str)(i j:Nat):Bool:=tlt (ks.getD i "") (ks.getD j "")
abbrev ord(ks:List Str):List Nat:=if ks.length<2 then bg ks.length else(run (qP ks) (dS ks.length)).toList
abbrev sortBy{a:Type}(d:a)(ks:List Str)(ys:List a):List a:=(ord ks).map λi=>ys.getD i d
def str_ext{y:Str}(h:x.cps.toList=y.cps.toList):x=y:=by obtain⟨a⟩:=x;obtain⟨b⟩:=y;have :a=b:=Array.toList_inj.mp h;rw[this]
def xE{y z:Str}(a:tlt x y=true)(b:tlt y z=true):tlt x z=true:=by unfold tlt at *;rw[decide_eq_true_eq]at *;exact List.lt_trans a b
def tlt_tri{y:Str}(h:x≠y):tlt x y= !tlt y x:=by
 unfold tlt;by_cases c:x.cps.toList<y.cps.toList;·have d:¬y.cps.toList<x.cps.toList:=λz=>List.lt_irrefl _ (List.lt_trans c z);rw[decide_eq_true c,decide_eq_false d];rfl
 .by_cases d:y.cps.toList<x.cps.toList;·rw[decide_eq_false c,decide_eq_true d];rfl
  .exact absurd (str_ext (List.le_antisymm (List.not_lt.mp d) (List.not_lt.mp c))) h
def rS(nd:ks.Nodup):Tot (qP ks) ks.length where
 tri:=λi j c d h=>tlt_tri λe=>h (by rw[aJ,aJ,aj c,aj d]at e;exact(cJ nd).mp e)
 tr:=λi j k _ _ _ a b=>xE a b
def EO(ks:List Str)(nd:ks.Nodup):(ord ks).length=ks.length:=by
 unfold ord;split;·simp
 .rw[aO,(lW (rS nd) 'D').1.size]
theorem A5(nd:ks.Nodup)(g:ks.length=ys.length)(r:bZ ys vs):bZ (sortBy .non ks ys) (kr (qP ks) vs):=by
 have p:=r.length;have e:vs.length=ks.length:=by lia
 unfold kr sortBy ord;rw[e];by_cases c:ks.length<2
 .rw[if_pos c,if_pos c];have b:(bg ks.length).map (λi=>ys.getD i V.non)=ys:=by
   rw[g];apply dw;·simp
   .intro i o d;simp[d]
  rw[b];exact r
 .rw[if_neg c,if_neg c];have P:=(lW (rS nd) 'D').1;have all:∀l:List Nat,(∀i∈l,i<ks.length)->bZ (l.map λi=>ys.getD i V.non) (l.map λi=>vs.getD i cf):=by
   intro l
   induction l with
   |nil=>exact λ_=>.nil
   |cons i l ih=>
    intro h;have a:i<ys.length:=by have :=h i (.head _);lia
    obtain⟨u,k,n⟩:=r.get (aj a);refine .cons ?_ (ih λj f=>h j (.tail _ f));show L2.RelV (ys.getD i V.non) (vs.getD i cf);rw[aJ,aj a,aJ,k];exact n
  refine all _ λi a=>?_;have m:i∈(bg ks.length).toArray:=P.perm.mem_iff.mp (Hn.mp a);simpa using m
theorem Ei:∀{ks:List Str}{vs:List Value},bZ (ks.map V.str) vs->jZ vs ks
 | [],_,.nil=>.nil
 |k::ks,_,.cons r t=>by obtain⟨a,rfl⟩:=r;exact .cons k a (Ei t)
def yG(r:jZ vs ks)(hi:i<ks.length):∃t,vs.getD i .none=.str (ks.getD i "") t:=by
 induction r generalizing i with
 |nil=>exact absurd hi (i7 _)
 |cons y t h ih=>
  cases i with
  |zero=>exact(t,rfl,)
  |succ i=>exact ih ↥hi
def lU(r:jZ vs ks):vs.length=ks.length:=by
 induction r with
 |nil=>rfl
 |cons y t h ih=>simp[ih]
section
def yq(r:jZ vs ks)(e:2<=vs.length):Asks prog w A (qP ks) vs h0:=by
 intro h _;refine(oneType',λg f q=>?_,λi j C a b _ q=>?_,)
 .match vs,r,e with
  |v1::v2::rest,r,_=>rw[keyKind_strs r];exact ag q
 .rw[lU r]at a b;obtain⟨t,c⟩:=yG r a;obtain⟨u,d⟩:=yG r b;unfold kas_ask;rw[c,d,keyLt'_oneType];exact oneLt_str q
end
set_option maxHeartbeats 3200000
abbrev has(ad:List Key)(k:Key):Bool:=ad.any λx=>decide (x=k)
def oQ{a:List Key}{k:Key}:has a k=true↔k∈a:=by
 unfold has;rw[fS];constructor;·rintro⟨x,h,e⟩;rw[<-W0 e];exact h
 .exact λh=>(k,h,decide_eq_true rfl,)
abbrev more(ad:List Key)(k:Key):List Key:=if has ad k=true then ad else ad++[k]
abbrev met(ks:List Key):List Key:=ks.foldl more []
def JP(ks:List Key)(k:Key):met (ks++[k])=more (met ks) k:=by unfold met;rw[List.foldl_append];rfl
def Bk{a:List Key}{k j:Key}:j∈more a k↔j∈a\/j=k:=by
 unfold more;split
 .rename_i h;constructor;·exact .inl
  .rintro(z|rfl);·exact z
   .exact oQ.mp h
 .simp
def Bh(a:List Key)(k:Key):(more a k).length=if has a k=true then a.length else a.length+1:=by unfold more;split <;>simp
def JR(ks:List Key):(met ks).length<=ks.length:=by
 unfold met;have g:∀(l a:List Key),(l.foldl more a).length<=a.length+l.length:=by
  intro l
  induction l with
  |nil=>intro a;simp
  |cons k l ih=>intro a;have c:=ih (more a k);have b:=Bh a k;rw[kG,aZ];split at b<;>lia
 simpa using g ks []
def zm{ks:List Key}{k:Key}:k∈met ks↔k∈ks:=by
 unfold met;have g:∀(l a:List Key),k∈l.foldl more a↔k∈a\/k∈l:=by
  intro l
  induction l with
  |nil=>intro a;simp
  |cons j l ih=>intro a;rw[kG,ih,Bk,aG,or_assoc]
 simpa using g ks []
noncomputable abbrev nF(led:Bool):Obj:={cls:=.type "set",dict:=none,data:=.set #[] 0 (.fresh 0 0 led)}
theorem E2:∀{ks:List Key}{us:List Value},bZ (ks.map kV) us->∀(i:Nat)(v:Value),us[i]?<*v->∃k,ks[i]?<*k/\RelV (kV k) v
 | [],_,.nil,i,v,e=>by simp at e
 |k::ks,_,.cons r t,0,v,e=>by simp at e;subst e;exact(k,rfl,r,)
 |k::ks,_,.cons r t,i+1,v,e=>E2 t i v ↥e
end Q
namespace L2
section
theorem x3(a b:Array Nat):∀k:Nat,((bL k a).foldl (·++·) b).size=b.size+k*a.size
 | 0=>by simp
 |k+1=>by rw[fQ,kG,x3 a (b++a) k,ft,Nat.succ_mul];lia
def IT:R2:=λx y H Q=>∃(z:Str)(n:Int),x=.str z/\y=.int n/\2<=n/\n<=1000/\1<=z.length/\z.length<=1000/\Q (.str ⟨(bL n.toNat z.cps).foldl (·++·) #[]⟩) H
theorem op_repS:OpR X (fO .Mult) IT:=by
 intro m s p H x y v u Q I f g h;obtain⟨z,n,rfl,rfl,i,j,k,d,q⟩:=h;obtain⟨t,rfl⟩:=f;obtain⟨o,rfl⟩:=g;have b:¬n<1:=by lia
 have c:(n==1||z.length==0)=false:=by rw[Bool.or_eq_false_iff];exact⟨by simp;lia,by simp;lia⟩
 have a:z.length*n.toNat<=1000*1000:=Nat.mul_le_mul d 'D';have e:((n.toNat:Nat):Int)=n:=by lia
 have l:(z.length:Int)*n<=1000*1000:=by rw[<-e,<-Int.natCast_mul];exact Int.ofNat_le.mpr a
 refine P.mul_str (by rw[decide_eq_false 'D',decide_eq_false 'D'];rfl) (λ_ _=>?_) (λ_ _=>?_) ?_;·exact Int.not_lt.mpr (Int.le_ediv_of_mul_le 'D' 'D')
 .exact decide_eq_false (Nat.not_lt.mpr (aR a 'E'))
 .rw[if_neg b,if_neg (by rw[c];exact be)];refine(?_,.str _,H,I.tok _,(_,rfl,),q,);show((bL n.toNat z.cps).foldl (·++·) #[]).size<=_;rw[x3];exact aR (by rw[Nat.mul_comm];simpa[B5]using a) (by decide:1000*1000<=sizeLine)
end
set_option maxHeartbeats 1000000
section
open Classical in
open Classical in
end
end L2
namespace D8
open PySem.W L2
def Prs(H:Hp)(b:List Addr)(ps:List (Int×Int)):Prop:=b.length=ps.length/\∀(i:Nat) a q,b[i]?<*a->ps[i]?<*q->H a<*(.tup [.int q.1,.int q.2])
end D8
namespace L2
abbrev Itz(K:ai)(a b:Addr):It:=
 (λi H=>∃xs ys x y,SqL K H a xs/\SqL K H b ys/\xs[i]?<*x/\ys[i]?<*y,
  λi H v H'=>∃p x y,H p=none/\H'=upd H p (.tup [x,y])/\v=.ref p/\(∀xs,SqL K H a xs->xs[i]?<*x)/\∀ys,SqL K H b ys->ys[i]?<*y,
  λi H=>∃xs ys,SqL K H a xs/\SqL K H b ys/\(xs.length<=i\/ys.length<=i),)
structure zQ(z TI TO i1 i2:Addr):Prop where
 a1:TI≠z
 a2:TO≠z
 a3:i1≠z
 a4:i2≠z
 a5:TI≠TO
 a6:TI≠i1
 a7:TI≠i2
 a8:TO≠i1
 a9:TO≠i2
 a10:i1≠i2
structure ZipSt(z TI TO i1 i2 a b:Addr)(i:Nat)(h:Heap):Prop where
 hz:IsZip h z TI TO .none
 hTI:IsPair h TI (.ref i1) (.ref i2)
 hTO:∃u v,IsPair h TO u v
 h1:h.IsListIter i1 a i
 h2:h.IsListIter i2 b i
def kS{c:Addr}{its:Array Value}{o:Obj}(f:h.IsList a its)(b:h.get? c<*o)(d:o.cls≠.type "list"):a≠c:=by obtain⟨g,e,k,_⟩:=f;rintro rfl;rw[e]at b;cases b;exact d k
def xw{TI TO:Addr}{xs ys:Array Value}(D:zQ z TI TO i1 i2)(st:ZipSt z TI TO i1 i2 a b i h)(c:h.IsList a xs)(d:h.IsList b ys):uo z TI TO i1 i2 a b:=by
 obtain⟨j,s,⟨u,v,g⟩,⟨q,e,o,_⟩,⟨r,f,p,_⟩⟩:=st;have n:({cls:=.type "zip",dict:=none,data:=.fields #[.none,.bool false,.bool false,.ref TI,.ref TO],slots:= #[]}:Obj).cls≠.type "list":=by show dD "zip"≠dD "list";decide
 have m:({cls:=.type "tuple",data:=.seq #[u,v]}:Obj).cls≠.type "list":=by show dD "tuple"≠dD "list";decide
 have k:q.cls≠.type "list":=by rw[o];decide
 have l:r.cls≠.type "list":=by rw[p];decide
 exact(D.a1,D.a2,D.a3,D.a4,D.a5,D.a6,D.a7,D.a8,D.a9,D.a10,kS c j n,kS c g m,kS c e k,kS c f l,kS d j n,kS d g m,kS d e k,kS d f l,)
def HB{es:List Expr}{kk:Nat}(a b z TI TO g j:Addr)(D:zQ z TI TO g j):Turn P w K (.Tuple es kk pp) (Itz K a b) [z,TI,TO,g,j] z (λi h=>ZipSt z TI TO g j a b i h) where
 mem:=by simp
 obj:=λi h f c d=>by
  obtain⟨m,l,⟨u,v,n⟩,⟨T,e1,c1,d1⟩,⟨U,e2,c2,d2⟩⟩:=f;simp only[aG,bu,or_false]at d;rcases d with rfl|rfl|rfl|rfl|rfl;·exact⟨_,m,λv z=>by cases z⟩
  .exact⟨_,l,λv z=>by cases z⟩
  .exact⟨_,n,λv z=>by cases z⟩
  .exact⟨T,e1,λv z=>by rw[d1]at z;cases z⟩
  .exact⟨U,e2,λv z=>by rw[d2]at z;cases z⟩
 keep:=λi h A f k=>by obtain⟨m,l,⟨u,v,n⟩,r,t⟩:=f;exact⟨k z 'F' _ m,k TI 'F' _ l,⟨u,v,k TO 'F' _ n⟩,r.at λo q=>k g 'F' o q,t.at λo q=>k j 'F' o q⟩
 item:=by
  intro X O S N d i V s Y H a0 I B f Q;subst O S N;obtain⟨xs,ys,x,y,G,J,hx,hy⟩:=Q;obtain⟨a7,rv,E,a5⟩:=I.list G;obtain⟨a8,W,F,a6⟩:=I.list J;obtain⟨u,hu,ru⟩:=rv.get hx;obtain⟨u2,a3,b0⟩:=W.get hy;have M:=xw D f E.isList F.isList;obtain⟨m,l,⟨T,U,n⟩,r,t⟩:=f;refine wpAny_pyNext_zip_item M m l n r t E.isList F.isList ↥hu ↥a3 λA b1 b2 b3 b4 b5 b6 L=>?_;have hp:H ⇑s=none:=I.hok.fresh (aE _);have a9:∀c o,c∉[z,TO,g,j]->s.heap.get? c<*o->A.get? c<*o:=λc o d q=>L c o (λe=>d (by simp[e])) (λe=>d (by simp[e])) (λe=>d (by simp[e])) (λe=>d (by simp[e])) q;have b7:∀c∈[z,TO,g,j],c∈[z,TI,TO,g,j]:=λc d=>by simp only[aG,bu,or_false]at d⊢;rcases d with h|h|h|h<;>simp[h]
  have I1:Inv X V Y (upd H ⇑s (.tup [x,y])) {s with heap:=A}:=
   I.newL (t':=s.toks) a9 (λc d=>B c (b7 c d)) (by show 2<=sizeLine;decide,[u,u2],.cons ru (.cons b0 .nil),(_,b5,rfl,_,rfl,),)
  obtain⟨f0,f1,f2,f3,f4,f5⟩:=B z 'F';have fz:(upd H ⇑s (.tup [x,y])) z=none:=by rw[aQ (aK (aD m))];exact f0
  refine(_,rfl,wpAny_letOwnedTupleGo_zip (s:={s with heap:=A}) b1 λZ a4 C=>?_,);have I2:Inv X V Y (upd H ⇑s (.tup [x,y])) {s with heap:=Z}:=I1.turned (t':=s.toks) (λc o hb q=>C.extBut c o hb q) fz f1 f3 f4 f5;have a1:IsPair Z TI (.ref g) (.ref j):=C.extBut _ _ D.a1 (L TI _ D.a1 D.a5 D.a6 D.a7 l);refine(.ref ⇑s,_,I2,rfl,⟨_,x,y,hp,rfl,rfl,λvs R=>by rw[I.qR R G];exact hx,λvs R=>by rw[I.qR R J];exact hy⟩,
   (a4,a1,(_,_,C.extBut _ _ D.a2 b2,),b3.at λo q=>C.extBut g o D.a3 q,b4.at λo q=>C.extBut j o D.a4 q,),λc d=>?_,)
  have a2:c<⇑s:=by
   simp only[aG,bu,or_false]at d;rcases d with rfl|rfl|rfl|rfl|rfl;·exact aD m
   .exact aD l
   .exact aD n
   .obtain⟨o,q,_⟩:=r;exact aD q
   .obtain⟨o,q,_⟩:=t;exact aD q
  rw[aQ (aK a2)];exact(B c d).1
 done:=by
  intro X O S N d i V s Y H a0 I B f Q;subst O S N;obtain⟨xs,ys,G,J,hx⟩:=Q;obtain⟨a7,rv,E,a5⟩:=I.list G;obtain⟨a8,W,F,a6⟩:=I.list J;have M:=xw D f E.isList F.isList;obtain⟨m,l,⟨T,U,n⟩,r,t⟩:=f;have l1:=rv.length;have l2:=W.length;refine wpAny_pyNext_zip_end (I.ok.hd d) M m l n r t E.isList F.isList ?_ λA L=>?_
  .rcases hx with hx|hx;·exact .inl (by simp;lia)
   .exact .inr (by simp;lia)
  .exact⟨rfl,I.Eg (ch:=[z,TO,g,j]) (λc o p q=>L c o (λe=>p (by simp[e])) (λe=>p (by simp[e])) (λe=>p (by simp[e])) (λe=>p (by simp[e])) q) λc p=>B c (by simp only[aG,bu,or_false]at p⊢;rcases p with h|h|h|h<;>simp[h])⟩
 self:=λ_ _ _ _ _ f h=>B0 f.hz h
section
variable {es:List Expr}{kk:Nat}
def iZip(K:ai)(t:TA):TI:=λσ H R=>t σ H λvs H1=>∃a b,vs=[.ref a,.ref b]/\(∃xs,SqL K H1 a xs)/\(∃ys,SqL K H1 b ys)/\R (Itz K a b) H1
def Fo(n:Nat):zQ (n+4) (n+2) (n+3) n (n+1):=
 (aK 'D',aK 'D',aK 'D',aK 'D',aK 'D',cS 'D',cS 'D',cS 'D',cS 'D',aK 'D',)
def boot_zip:eY "zip"<*(.type "zip"):=by decide+kernel
def pi_zip{l m:Expr}{t:TA}(w:Gl X "zip")(x:X.mg "zip"=none)(r:PA X [l,m] t)(B:bx [l,m] X.env=(false,eval l X.env)::bx [m] X.env)(y:(backTo pos (bx [m] X.env)).any (·.1)=false):
  PI X (.Tuple es kk pp) (.Call (.Name "zip" p) [l,m] [] pos) (iZip X.K t):=by
 intro j s n H R I h;refine Call_ (jj I w x boot_zip (bT (thn (r pos j s n H _ I h) λW s1 ⟨Y,e,d,J,G⟩=>?_) B y));obtain⟨a,b,rfl,⟨Z,z⟩,⟨ys,A⟩,q⟩:=G;obtain⟨u,v,rfl,K,rv⟩:=J.two;cases K;cases rv;obtain⟨S,U,E,P⟩:=d.list z;obtain⟨T,V,F,Q⟩:=d.list A;refine call_zip_2 E.isList F.isList λf k L M N O z6 C=>?_;refine B0 (s:={s1 with heap:=f}) k ?_;have o:Inv X j n e {s1 with heap:=f,toks:=s1.toks}:=d.kept C;have D:zQ (⇑s1+4) (⇑s1+2) (⇑s1+3) ⇑s1 (⇑s1+1):=Fo _;refine(_,_,_,_,e,rfl,o,HB a b _ _ _ _ _ D,(k,L,(_,_,M,),N,O,),λc i=>?_,q,);have g:⇑s1<=c:=by
  simp only[aG,bu,or_false]at i;rcases i with rfl|rfl|rfl|rfl|rfl;·exact cL _ _
  .exact cL _ _
  .exact cL _ _
  .exact aE _
  .exact cL _ _
 exact d.sk g (d.hok.fresh g)
end
def DkIn(P:Program)(w:World)(K:ai)(a:Addr)(kvs:List (Key×V)):Prop:=
 (a==dA)=false/\∃vs,KV kvs vs/\∀h,K.In h->h.DictOf (bH P w) a vs
end L2
namespace PySem
open _root_.PySem.Sem (wp)
local macro_rules | `(term| «the numeral») => return Lean.mkIdent (cw (cw (cw (Lean.Name.num (cw (cw (cw (cw (cw Co "_private") "PySem") "Builtin") "Int") "W0All") 0) "PySem") "Builtin") "readNumeral")
local macro_rules | `(term| «a value») => return Lean.mkIdent (cw (cw (cw (cw (Lean.Name.num (cw (cw (cw (cw (cw Co "_private") "PySem") "Builtin") "Int") "W0All") 0) "PySem") "Builtin") "Numeral") "value")
end PySem
namespace L2
inductive Fig:Str->Int->Prop
 |one {a:Nat} (h:a<10):Fig ⟨#[48+a]⟩ (a:Nat)
 |two {a b:Nat} (ha:a<10) (hb:b<10):Fig ⟨#[48+a,48+b]⟩ (10*a+b:Nat)
end L2
namespace L2
open PySem.W
section
variable {E:'I'}{g:Array uq}{d:Drawn}{t:Nat}{os:OsState}{nm q:Str}{C N:Addr}{bs bm bmB:List Value}{hdct:Bool}{sn:List Str}{sub:List Value}{ab:Bool}{col:Option Bool}{dd:Option Addr}{k0 k1 k2 k3 k5:Option Value}{B newId initId:String}
noncomputable abbrev Be(h:Heap)(C:Addr)(rest:List Value):Heap:=(h.push {cls:=.type "tuple",data:=.seq rest.toArray}).push {cls:=.ref C,data:=.fields #[.ref h.objs.size,.none,.none,.none,.bool false,.none]}
def ky{o:Obj}(e:h.get? b<*o):(Be h C rest).get? b<*o:=af _ (af _ e)
def zj:(Be h C rest).get? (h.objs.size+1)<*{cls:=.ref C,data:=.fields #[.ref h.objs.size,.none,.none,.none,.bool false,.none]}:=Heap.get?_push_at (by rw[cK]) rfl
def uS(F:ExcBaseFacts B newId initId bmB)(T:OwnTail h bmB bm){f:Obj}{Q:fP->Shared->Prop}(a:h.get? C<*(jz nm q C N bs bm hdct sn sub ab col dd k0 k1 k2 k3 k5 newId))
  (n:h.Ns N mN)(hi:mN "__init__"<*(.ref fI))(l:h.get? fI<*f)(m:f.cls=.type "function")(hrest:rest.length<=sizeLine)
  (p:'B' (call (.ref fI) (.ref (h.objs.size+1)::rest)) (λr s'=>r=.none/\Q (.done (.ret (.ref (h.objs.size+1)))) s') E (Be h C rest,g,d,t,os,)):
  'B' (Builtin.«type.__call__» (.ref C::rest,[],)) Q E (h,g,d,t,os,):=by
 repeat(first
  |with_reducible refine jS a ?_
  |with_reducible refine wpAny_madeBy_exc a ?_
  |wp_step)
 refine codeAny_call_builtin_code (t4 _ F.quiet) (wpAny_check_new_subT F T a ?_);refine codeAny_exc_new_subT F T a ?_ hrest;show wpAny _ _ _ _ _ ((Be h C rest,g,d,t,os,):Shared);have c:=ky (C:=C) (rest:=rest) a;have s:(Be h C rest).Ns N mN:=n.keeps λb o e=>ky e;have i:=T.keeps (h':=Be h C rest) λb o e=>ky e;have j:(bo C::bm).contains (.ref C)=true:=by simp
 have k:=zj (h:=h) (C:=C) (rest:=rest);unfold isInstance;repeat(first
  |with_reducible refine jS k ?_
  | (with_reducible refine wpAny_isSubtype_exc c ?_;rw[j])
  |wp_step)
 show wpAny _ _ (xm (.ref C) _) _ _ _;refine wpAny_typeLookup_tail c s i F.mroIs F.init.lookup ?_;rw[hi];refine bq (ae ?_);unfold bindSpecial;refine ae (jP (T:="function") (_,ky l,m,) ?_);rw[if_pos 'E'];refine ag (ae (cE p (λr s' z=>?_) λ_ _ z=>z));obtain⟨rfl,z⟩:=z
 wp_walk
 exact z
def GU(F:ExcBaseFacts B newId initId bmB)(T:OwnTail h bmB bm){b:Obj}{Q:'I'}(a:h.get? C<*(jz nm q C N bs bm hdct sn sub ab col dd k0 k1 k2 k3 k5 newId))
  (f:h.Ns N mN)(hi:mN "__init__"<*(.ref fI))(c:h.get? fI<*b)(e:b.cls=.type "function")(hrest:rest.length<=sizeLine)
  (i:wpAny (model prog w) (A.under (.builtin "type.__call__" (.ref C::rest,[],))) (call (.ref fI) (.ref (h.objs.size+1)::rest)) (λr s'=>r=.none/\Q (.ref (h.objs.size+1)) s') E (Be h C rest,g,d,t,os,)):
  'B' (call (.ref C) rest) Q E (h,g,d,t,os,):=by
 have j:=tc_lookup;have k:=tc_bind (.ref C);have l:((h,g,d,t,os,):Shared).TypeIs (.ref C) "type":=(_,a,rfl,);refine jx (Eb ?_);show wpAny _ _ (callAny (.ref C) _) _ _ _;repeat(any_goals (first
  |assumption
  |with_reducible refine jS a ?_
  |wp_step))
 refine(rfl,?_,);exact codeAny_call_builtin_at (t4 _ (by decide+kernel)) entry_typeCall (wpAny_check_type_call_sub a (uS F T a f hi c e hrest i))
def G0(F:ExcBaseFacts B newId initId bmB)(T:OwnTail h bmB bm){e:Addr}{Q:'I'}(f:h.get? C<*(jz nm q C N bs bm hdct sn sub ab col dd k0 k1 k2 k3 k5 newId))
  (a:h.get? e<*{cls:=.ref C,data:=.fields #[.ref x0,.none,.none,.none,.bool false,.none]}) (hrest:rest.length<=sizeLine)
  (j:∀h':Heap,(∀b o,b≠e->h.get? b<*o->h'.get? b<*o)->(∃b,h'.get? e<*{cls:=.ref C,data:=.fields #[.ref b,.none,.none,.none,.bool false,.none]})->h.objs.size<=h'.objs.size->Q .none (h',g,d,t,os,)):
  'B' (call (.builtin initId) (.ref e::rest)) Q E (h,g,d,t,os,):=by
 refine jx (fN F.init.plain F.initEntry (wpAny_check_init_subT F T f a rfl ?_))
 wp_walk
 have k:=aD a;refine j _ (λb o i c=>?_) (h.objs.size,?_,) ?_;·rw[bb _ _ (cU i)];exact af _ c
 .rw[bG _ (af _ a) rfl];rfl
 .rw[iy,cK];exact dq _
end
abbrev exO(e C:Addr)(d:Option Addr):HO:=.ext λh=>∃x0,h.get? e<*{cls:=.ref C,dict:=d,data:=.fields #[.ref x0,.none,.none,.none,.bool false,.none]}
abbrev xdO(d:Addr)(fs:List (Str×V)):HO:=.ext λh=>∃mA,h.Ns1 d mA/\(∀f,oz (fs.lookup f) (mA f))/\kM mA (fs.map (·.1))
abbrev isTT:Value->Bool
 |.type t=>decide (t="type")
 |_=>false
abbrev dCl(o:Option Obj)(k:ClassData->Array (Option Value)->Bool):Bool:=match o with
 |some o=>isTT o.cls&&(match o.data with
  |.cls cd=>k cd o.slots
  |_=>false)
 |none=>false
def dCl_of{o:Option Obj}{k:ClassData->Array (Option Value)->Bool}(h:dCl o k=true):∃od cd sl,o<*(.type "type",od,.cls cd,sl,)/\k cd sl=true:=by
 cases o with
 |none=>cases h
 |some o=>
  obtain⟨c,od,d,sl⟩:=o;obtain⟨a,b⟩:=gX.mp h;have e:c=.type "type":=by cases c<;>first |cases a|exact congrArg _ (W0 a)
  subst e;cases d<;>first |exact⟨_,_,_,rfl,b⟩ |cases b
abbrev dMr(l:List Value)(k:Addr->List Value->Bool):Bool:=match l with
 |.ref c::bm=>k c bm
 |_=>false
def dMr_of{l:List Value}{k:Addr->List Value->Bool}(h:dMr l k=true):∃c bm,l=.ref c::bm/\k c bm=true:=by
 cases l with
 |nil=>cases h
 |cons v bm=>cases v<;>first |exact⟨_,_,rfl,h⟩ |cases h
abbrev dBn(o:Option Value)(k:String->Bool):Bool:=match o with
 |some (.builtin n)=>k n
 |_=>false
def dBn_of{o:Option Value}{k:String->Bool}(h:dBn o k=true):∃n,o<*(.builtin n)/\k n=true:=by
 cases o with
 |none=>cases h
 |some v=>cases v<;>first |exact⟨_,rfl,h⟩ |cases h
def lZ{b:Type}{l:List b}(h:l.length=n+1):∃a r,l=a::r/\r.length=n:=by
 cases l with
 |nil=>cases h
 |cons a r=>exact(a,r,rfl,gK h,)
abbrev zv(K:ai)(C f:Addr)(bmB:List Value)(newId:String):Bool:=dCl (K.lookup C) λcd sl=>dMr cd.mro λa bm=>decide (sl.toList.length=6)&&dBn (sl.toList.getD 4 none) λn=>
 a==C&&n==newId&& !cd.hasDel&&tailIn K bmB bm&&nsOkIn K cd.ns&&nsIn K cd.ns "__init__"==some (some (.ref f))
def ns_some{N:Addr}{n:Str}(X:K.In h)(G:h.Ns N mg)(e:nsIn K N n<*(some v)):mg n<*v:=by
 obtain⟨o,f,d,c,a,_,b⟩:=G;unfold nsIn at e;split at e
 .rename_i q;have z:=X _ _ q;rw[c]at z;cases z;cases a;split at e;·rename_i en he;rw[<-b];unfold nsFind findBy;rw[<-sV,he];simpa using e
  .split at e<;>cases e
 .cases e
def ExcO(h:Heap)(C f:Addr)(bmB:List Value)(newId:String):Prop:=∃nm b N bs bm a sn sub ab col dd k0 k1 k2 k3 k5 mN,h.get? C<*(jz nm b C N bs bm a sn sub ab col dd k0 k1 k2 k3 k5 newId)/\h.Ns N mN/\mN "__init__"<*(.ref f)/\OwnTail h bmB bm
def vN{newId:String}(a:K.In h)(q:zv K C f bmB newId=true):ExcO h C f bmB newId:=by
 obtain⟨X,p,G,w,q⟩:=dCl_of q;obtain⟨k,l,v,q⟩:=dMr_of q;obtain⟨F,q⟩:=gX.mp q;obtain⟨n,c,q⟩:=dBn_of q;obtain⟨y,Y,d,H⟩:=lZ (W0 F);obtain⟨z,Z,e,I⟩:=lZ H;obtain⟨A,r2,g,J⟩:=lZ I;obtain⟨B,r3,i,L⟩:=lZ J;obtain⟨D,r4,j,M⟩:=lZ L;obtain⟨E,r5,b,N⟩:=lZ M;rw[e,g,i,j,b,cn.mp N]at d;rw[d]at c;have c:D<*(.builtin n):=c;subst c;have x:=d;rw[aN,aN,aN,aN,aN,beq_iff_eq,beq_iff_eq,beq_iff_eq]at q;obtain⟨⟨⟨⟨⟨e,g⟩,i⟩,j⟩,b⟩,r⟩:=q;subst e;subst g;obtain⟨O,Q,o,R,S,T,U,V,W,P,m⟩:=p;have s:o=.ref k::l:=v;have t:m=false:=by simpa using i
 have u:G= #[y,z,A,B,some (.builtin n),E]:=by
  apply Lb
  exact x
 subst s;subst t;subst u;exact(_,_,_,_,_,_,_,_,_,_,_,_,_,_,_,_,_,a _ _ w,.of_isNs (isNs_of_in a b),ns_some a (.of_isNs (isNs_of_in a b)) r,tail_of_in a j,)
structure MkX(K:ai)(C f:Addr):Prop where
 ex:zv K C f bmV "ValueError.__new__"=true
 fn:∃o,K.lookup f<*o/\o.cls=.type "function"
 kp:keepIn K (.ref C)=true
section
variable {CX:CXT}{C f:Addr}{k:Nat}{fd:gp}{sp:Sp}{ds:List Value}{E:XK}
def F4{Q:VK}{vs:List V}(M:MkX X.K C f)(F:jO X.prog X.w X.K X.mg X.base CX k f fd ps sp)(D:jk (k+1) X.A)(p:Binds X.K fd ps ds)(q:bZ ak ds)
  (G:∀(H':Hp)(j:Shared)(e:Value)(s':Shared),Inv X pins σ H' j->CX X.stack H' j E e s'->X.xe e s')(I:'A')(r:bZ vs us)(B:vs.length<=sizeLine)
  (h:∀x,⇑s<=x->H x=none->sp (.ref x::(vs++ak)) (upd H x (exO x C none)) (λv H2=>v=.non/\Q (.ref x) H2) E):
  'C' (call (.ref C) us) (EP X pins σ Q) X.xe s:=by
 have g:=h (⇑s+1) (dq _) (I.hok.fresh (dq _));obtain⟨nm,qn,N,bs,O,Z,sn,a1,L,P,R,k0,k1,k2,k3,k5,mN,n,o,y,T⟩:=vN (bmB:=bmV) I.kIn M.ex;obtain⟨oI,t,w⟩:=M.fn;have c:Inv X pins σ (upd H (⇑s+1) (exO (⇑s+1) C none)) {s with heap:=Be s.heap C us}:=by refine I.laid (t':=s.toks) (λb a0 e=>ky e) (dq _) ?_;exact((_,zj,),(_,zj,),λW Y ⟨K,z⟩ k=>(K,k _ z,),)
 have i:bZ (V.ref (⇑s+1)::(vs++ak)) (bo (⇑s+1)::(us++ds)):=.cons rfl (r.append q);have A:(bo (⇑s+1)::us++ds).length=ps.length:=by have e:=i.length;rw[F.len _ _ _ _ g]at e;exact e.symm
 obtain⟨d,U,S,tk,os⟩:=s;refine GU (fI:=f) kO T n o y (I.kIn _ _ t) w (by rw[<-r.length];exact B) ?_;refine jx (jY (F.run _ X.stack _ _ (bo (d.objs.size+1)::us,[],) (bo (d.objs.size+1)::(us++ds)) _ _ E (D.make C us []) (c.env0.make C us []) (p _ (bo (d.objs.size+1)::us) c.kIn A) i g) λr s' a=>?_);cases r with
 |error e=>exact G _ _ e s' c a
 |ok fl=>
  cases fl with
  |ret u=>obtain⟨v,H',l,rv,m,J⟩:=c.after a;subst m;exact(rv,(V.ref (d.objs.size+1),H',l,rfl,J,),)
  |next =>exact gU a
  |brk=>exact gU a
  |cont=>exact gU a
end
end L2
namespace L2
open PySem.W PySem.Builtin PySem.Builtin.ObjectAttr
abbrev A4:List Value->Bool
 |.ref _::r=>A4 r
 |l=>l==bmV
def refuseV(a:Value):refuseLoop a "__setattr__" bmV=pure ():=by kernel_rfl
theorem Ey(a:Value):∀{l:List Value},A4 l=true->refuseLoop a "__setattr__" l=pure ()
 |.ref c::r,e=>by rw[refuseLoop_ref];exact Ey a e
 | [],e=>by cases e
 |.type n::r,e=>by rw[show(.type n::r:List Value)=bmV from beq_iff_eq.mp e];exact refuseV a
 |.none::r,e=>by cases e
 |.ellipsis::r,e=>by cases e
 |.notImplemented::r,e=>by cases e
 |.bool _::r,e=>by cases e
 |.int _ _::r,e=>by cases e
 |.float _ _::r,e=>by cases e
 |.str _ _::r,e=>by cases e
 |.bytes _ _::r,e=>by cases e
 |.builtin _::r,e=>by cases e
theorem xI:∀{l:List Value},A4 l=true->l.contains (.type "object")=true
 |.ref c::r,e=>by rw[List.contains_cons,xI (l:=r) e,Bool.or_true]
 | [],e=>by cases e
 |.type n::r,e=>by rw[show(.type n::r:List Value)=bmV from beq_iff_eq.mp e];decide
 |.none::r,e=>by cases e
 |.ellipsis::r,e=>by cases e
 |.notImplemented::r,e=>by cases e
 |.bool _::r,e=>by cases e
 |.int _ _::r,e=>by cases e
 |.float _ _::r,e=>by cases e
 |.str _ _::r,e=>by cases e
 |.bytes _ _::r,e=>by cases e
 |.builtin _::r,e=>by cases e
section
variable {R:Result->Shared->Prop}{s:Shared}{x C:Addr}
def A6{r:Obj}{od:Option Obj}{name:Str}{tk:Tok}(X:K.In s.heap)(I:InstAt s.heap x r C od)(n:(clsIn K C).any (λcd=>A4 cd.mro)=true)(p:takerIn K C name<*none)
  (h:∀b,wpAny (model prog w) A.in1 (storeInOwnDict (.ref x) (.ref C) (.str name tk) name v b)
   (λfin s'=>match fin with |.done f=>R (.ok f) s'|.again c'=>c'.quiet=true/\gh (model prog w) A c' R s') (λe s'=>R (.error e) s') s):
  gh (model prog w) A (.call (.builtin "object.__setattr__") ([.ref x,.str name tk,v],[],)) R s:=by
 have c:=PySem.F.store_object;obtain⟨cd,i,d⟩:=any_some n;have ne:cd.mro.isEmpty=false:=by cases q:cd.mro with |nil=>rw[q]at d;cases d|cons _ _=>rfl
 have t:Looks (model prog w) s.heap (isInstance (.ref x) (.type "object")) true:=I.type.andThen (looks_mroIn X (by unfold mroIn;rw[i,fG,if_neg (by rw[ne];decide),xI d]));refine fN c.slot.plain c.entry (@check_slot (model prog w) _ _ s "object.__setattr__" "object" "__setattr__" (.ref x) [.str name tk,v] [] _ c.kind c.split t (c.args (.ref x) (.str name tk) v) ?_);obtain⟨g,k,o⟩:=Option.bind_eq_some_iff.mp p;have m:Looks (model prog w) s.heap (mroOf (.ref C)) cd.mro:=(looks_clsIn X i).andThen .now;have j:Looks (model prog w) s.heap (storeTaker? g) none:=by
  cases g with
  |none=>exact .now
  |some a=>
   obtain⟨b,l,q⟩:=fZ.mp o;refine(looks_takesIn X l).andThen ?_;cases b;·exact .now
   .cases q
 rw[osa_eq,refuse_eq];refine ae (ae (I.type.here (ae (m.here ?_))));rw[Ey _ d];refine ag (ae (I.type.here (ae ((rJ X k).here (ae (j.here ?_))))));exact h _
end
section
variable {E:'I'}{s:Shared}{e C:Addr}{name:Str}{v:Value}{vs:Array Value}{Q:Unit->Shared->Prop}
structure StX(K:ai)(C:Addr)(name:Str):Prop where
 hs:findIn K (.ref C) "__setattr__"<*(some (.builtin "object.__setattr__"))
 hp:(clsIn K C).any (λcd=>A4 cd.mro)=true
 ht:takerIn K C name<*none
 hd:(clsIn K C).any (·.hasDict)=true
noncomputable abbrev mX(C:Addr)(d:Option Addr)(vs:Array Value):Obj:={cls:=.ref C,dict:=d,data:=.fields vs}
def Kn(a:h.get? e<*(mX C none vs)):InstAt h e (mX C none vs) C none:=(a,rfl,rfl,trivial,)
def Km{d:Addr}{o:Obj}(b:h.get? e<*(mX C (some d) vs))(a:h.get? d<*o):InstAt h e (mX C (some d) vs) C (some o):=(b,rfl,rfl,a,)
def CW(X:K.In s.heap)(S:StX K C name)(a:s.heap.get? e<*(mX C none vs))
  (h:∀h',h'.get? e<*(mX C (some ⇑s) vs)->h'.Ns1 ⇑s (λy=>if y=name then some v else none)->(∀b o,b≠e->s.heap.get? b<*o->h'.get? b<*o)->Q () {s with heap:=h',toks:=s.toks+2}):
  'B' (setAttr (.ref e) name v) Q E s:=by
 have I:=Kn a;refine set_plain X I S.hs (A6 (s:={s with toks:=s.toks+1}) X I S.hp S.ht λb=>?_);obtain⟨D,k,m⟩:=any_some S.hd;refine ae (ag (ae (ae (G8 a (ae (z0 (s:={s with toks:=s.toks+1}) (Fx X k) ?_))))));rw[m];show wpAny _ _ (alloc {cls:=.type "dict",data:=.dict #[]}>>=_) _ _ _;have c:(s.heap.push {cls:=.type "dict",data:=.dict #[]}).get? e<*(mX C none vs):=af _ a;have r:=aD a;refine ae (wpAny_alloc (ae (wpAny_update c ?_)));show wpAny _ _ (pure (some ⇑s)) _ _ _;refine ag ?_;show wpAny _ _ (pure ()>>=_) _ _ _;refine ae (ag (ae ?_));have f:⇑s≠e:=cS r;have n:((s.heap.push {cls:=.type "dict",data:=.dict #[]}).update e λo=>{o with dict:=some ⇑s}).get? ⇑s<*{cls:=.type "dict",data:=.dict #[]}:=by rw[bb _ _ (cU f)];exact aF _ rfl
 have t:((s.heap.push {cls:=.type "dict",data:=.dict #[]}).update e λo=>{o with dict:=some ⇑s}).Ns1 ⇑s (λ_=>none):=
  (_,#[],_,n,rfl,λx B=>by simp at B,ki,λy=>rfl,)
 have z:kM (λ_=>none:Str->Option Value) []:=kM.nil;refine wpAny_nsSet1 t λh' d g=>?_;obtain⟨H,G,F,u,p,l⟩:=d.count (B6 name v z);refine ae (wpAny_lookBehind u (by rw[p];exact pastItsLine_dict (aR l (by show 1<=sizeLine+1;decide))) ?_);refine ag (h _ ?_ d λb o i q=>?_);·rw[g.2 _ (cU f),bG _ c rfl]
 .have j:b≠⇑s:=aK (aD q);rw[g.2 _ j,bb _ _ (cU i)];exact af _ q
def FT{d:Addr}{g:List Str}(X:K.In s.heap)(S:StX K C name)(a:s.heap.get? e<*(mX C (some d) vs))(c:s.heap.Ns1 d mA)(q:kM mA g)(hsz:g.length<sizeLine)
  (h:∀h',h'.Ns1 d (λy=>if y=name then some v else mA y)->cR d s.heap h'->Q () {s with heap:=h',toks:=s.toks+2}):
  'B' (setAttr (.ref e) name v) Q E s:=by
 obtain⟨o,x,t,m,B⟩:=id c;have I:=Km a m;refine set_plain X I S.hs (A6 (s:={s with toks:=s.toks+1}) X I S.hp S.ht λb=>?_);obtain⟨r,i,k⟩:=any_some S.hd;refine ae (ag (ae (ae (G8 a (ae (z0 (s:={s with toks:=s.toks+1}) (Fx X i) ?_))))));rw[k];show wpAny _ _ (pure (some d)) _ _ _;refine ag ?_;show wpAny _ _ (pure ()>>=_) _ _ _;refine ae (ag (ae ?_));refine wpAny_nsSet1 (s:={s with toks:=s.toks+1}) c λh' f p=>?_;obtain⟨D,z,u,n,l,j⟩:=f.count (B6 name v q);refine ae (wpAny_lookBehind n (by rw[l];exact pastItsLine_dict (aR j (by rw[aZ];lia))) ?_);exact ag (h _ f p)
end
end L2
namespace L2
open PySem.W
section
variable {pins:List (Addr×Obj)}{s:Shared}{E:'I'}{a C:Addr}{f:Str}
def xd_ok{d:Addr}{fs:List (Str×V)}(H:Hp)(n:h.Ns1 d mA)(r:∀f,oz (fs.lookup f) (mA f))(a:kM mA (fs.map (·.1))):cX P w H h d (xdO d fs):=
 ((mA,n,r,a,),let⟨o,_,_,e,_⟩:=n;(o,e,),λb c ⟨m,n,r⟩ k=>(m,n.at k,r,),)
def ex_ok{e:Addr}{d:Option Addr}(H:Hp)(q:h.get? e<*(mX C d #[.ref x0,.none,.none,.none,.bool false,.none])):cX P w H h e (exO e C d):=
 ((x0,q,),(_,q,),λa b ⟨x,z⟩ k=>(x,k _ z,),)
def Ik{Q:Unit->Shared->Prop}(I:'A')(e:H a<*(exO a C none))(S:StX X.K C f)(F:RelV y u)
  (h:∀s' dd,H dd=none->Inv X pins σ (upd (upd H dd (xdO dd [(f,y)])) a (exO a C (some dd))) s'->Q () s'):wpAny (model X.prog X.w) A (setAttr (.ref a) f u) Q E s:=by
 obtain⟨⟨K,j⟩,_⟩:=I.hok a _ e;refine CW I.kIn S j λG i t B=>h _ ⇑s (I.hok.fresh (aE _)) ?_;obtain⟨c,p,n,m,r⟩:=id t;have J:H ⇑s=none:=I.hok.fresh (aE _);have z:⇑s≠a:=cS (aD j);have d:(s.heap.push c).get? ⇑s<*c:=aF _ (sR r.1);have D:(s.heap.push c).Ns1 ⇑s (λy=>if y=f then some u else none):=(c,p,n,d,r,);have k:Inv X pins σ (upd H ⇑s (xdO ⇑s [(f,y)])) {s with heap:=s.heap.push c,toks:=s.toks}:=by
  refine I.laid (t':=s.toks) (λb o q=>af _ q) (aE _) (xd_ok _ D (λg=>?_) λg w=>?_)
  .by_cases q:g=f;·subst q;simp[dG];exact F
   .have :(g==f)=false:=by simpa using q
    simp[dG,this,q];exact True.intro
  .by_cases q:g=f;·simp[q]
   .exact absurd (if_neg q) w
 have l:upd H ⇑s (xdO ⇑s [(f,y)]) a<*(exO a C none):=by rw[aQ (cU z)];exact e
 refine k.write (x:=a) (e:=a) (t':=s.toks+2) (by rw[l];exact True.intro) (.inl rfl) (λb o v q=>?_) (_,i,) (ex_ok _ i);by_cases hbs:b=⇑s;·subst hbs;have q:(s.heap.push c).get? ⇑s<*o:=q;rw[d]at q;cases q;exact m
 .refine B b o v ?_;have q:(s.heap.push c).get? b<*o:=q;rw[Heap.get?_push_ne _ _ _ hbs]at q;exact q
def Ij{dd:Addr}{fs:List (Str×V)}{Q:Unit->Shared->Prop}(I:'A')(e:H a<*(exO a C (some dd)))(c:H dd<*(xdO dd fs))(B:fs.length<1000)(S:StX X.K C f)(v:RelV y u)
  (h:∀s',Inv X pins σ (upd H dd (xdO dd (uc f y fs))) s'->Q () s'):wpAny (model X.prog X.w) A (setAttr (.ref a) f u) Q E s:=by
 obtain⟨⟨D,n⟩,_⟩:=I.hok a _ e;obtain⟨⟨d,t,r,j⟩,_⟩:=I.hok dd _ c;refine FT I.kIn S n t j (by rw[ah,gA];lia) λk i w=>h _ ?_;have m:∃o,k.get? dd<*o:=let⟨o,_,_,e',_⟩:=i;(o,e',);refine I.write (x:=dd) (e:=dd) (t':=s.toks+2) (by rw[c];exact True.intro) (.inl rfl) (λb o l q=>(w.2 b l).trans q) m (xd_ok _ i (λg=>?_) λg p=>?_)
 .show oz ((uc f y fs).lookup g) (if g=f then some u else d g);rw[tu];by_cases q:g=f;·rw[if_pos q,if_pos q];exact v
  .rw[if_neg q,if_neg q];exact r g
 .by_cases q:g=f;·rw[q];exact(sf f y fs).1
  .refine(sf f y fs).2 g (j g λz=>p ?_);show(if g=f then some u else d g)=none;rw[if_neg q];exact z
end
def sFldX(K:ai)(ta tv:TE)(f:Str):TS:=λD σ H=>tv σ H λy H1=>ta σ H1 λx H2=>∃a C,x=.ref a/\StX K C f/\
 ((H2 a<*(exO a C none)/\∀dd,H2 dd=none->D.nx σ (upd (upd H2 dd (xdO dd [(f,y)])) a (exO a C (some dd))))\/
  ∃dd fs,H2 a<*(exO a C (some dd))/\H2 dd<*(xdO dd fs)/\fs.length<1000/\D.nx σ (upd H2 dd (xdO dd (uc f y fs))))
section
variable {o value:Expr}{f:Str}{ta tv:TE}
def ps_fldX(r:PE X o ta)(z:PE X value tv)(w:nj value (some (.Attribute o f pos')) pos.line X.env=pure false):PS X (.Assign [.Attribute o f pos'] value pos) (sFldX X.K ta tv f):=by
 intro i s b H D I h;refine plainObj_wpAny_Assign_Attribute (thn (z i s b H _ I h) λu F ⟨y,l,m,j,q⟩=>thn (r i F b l _ m q) λA K ⟨x,J,d,E,a,C,p,S,B⟩=>?_) w;subst p;obtain rfl:A=bo a:=E;rcases B with⟨e,k⟩ |⟨g,fs,e,n,v,k⟩;·exact Ik d e S j λG g t c=>(b,_,c,k g t,)
 .exact Ij d e n v S j λG c=>(b,_,c,k,)
end
structure BsX(K:ai)(B:Addr):Prop where
 ga:specialIn K (.ref B) "__getattribute__"<*(some (.builtin "type.__getattribute__"))
 rd:readsIn K B (.type "type")=true
 fd:findCls K (.ref B) (.type "type") "__init__"<*(.val (.builtin "ValueError.__init__"))
def tBase(K:ai)(B:Addr)(t:TA):TE:=λσ H Q=>BsX K B/\t σ H λvs H1=>∃a C f us,vs=.ref a::us/\H1 a<*(exO a C none)/\us.length<=sizeLine/\zv K C f bmV "ValueError.__new__"=true/\Q .non H1
section
variable {B:Addr}{es:List Expr}{t:TA}{apos:Pos}
def IJ{Q:VK}(I:'A')(e:H a<*(exO a C none))(p:us.length<=sizeLine)(t:zv X.K C f bmV "ValueError.__new__"=true)(q:Q .non H):
  'C' (call (.builtin "ValueError.__init__") (.ref a::us)) (EP X pins σ Q) X.xe s:=by
 obtain⟨⟨Y,n⟩,_⟩:=I.hok a _ e;obtain⟨S,U,N,bs,y,E,V,W,w,A,B,K,L,M,O,P,R,l,D,G,T⟩:=vN (bmB:=bmV) I.kIn t;obtain⟨F,j,i,h,v⟩:=s;refine G0 kO T l n p λk u ⟨b,g⟩ J=>?_;have r:upd H a (exO a C none)=H:=by
  funext c
  by_cases z:c=a;·rw[z,ay,e]
  .rw[aQ z]
 have d:Inv X pins σ (upd H a (exO a C none)) (k,j,i,h,v,):=I.write (x:=a) (e:=a) (t':=h) (by rw[e];exact True.intro) (.inl rfl) (λb o m q=>u b o m q) (_,g,) (ex_ok _ g);rw[r]at d;exact(.non,H,d,rfl,q,)
def JO{env:Env}{o:Expr}{name:Str}{a:List Expr}{Q:'I'}
  (f:kZ o name env (eval o env)=eval o env)
  (g:((backTo pos (bx a env)).all (λx=> !x.1)&&(um pos (lJ [] env)).all (λx=>x.1.isSome)
   &&decide (a.length+([]:List Keyword).length+(if([]:List Keyword).isEmpty then 0 else 1)<30))=true)
  (j:(apos.endLine==pos.line)=true)
  (h:'B' (eval o env) (λov c=>∀pl,'B' (getMethod ov name pl) (λb d=>'B' (callWith pos b.1 b.2 (backTo pos (bx a env)) (um pos (lJ [] env))) Q E d) E c) E s):
  'B' (eval (.Call (.Attribute o name apos) a [] pos) env) Q E s:=by
 rw[arm_eval_Call,f];refine ae (cE h (λov c l=>?_) λ_ _ e=>e);refine ae (jl ?_);have i:methodCallForm (a.length+([]:List Keyword).length) (backTo pos (bx a env)) (um pos (lJ [] env))=true:=g;have k:methodCallPos true o env apos pos=pure pos:=by unfold methodCallPos;simp[j]
 unfold methodCall;rw[i];refine ae (bq (cE (l _) (λb d m=>?_) λ_ _ e=>e));exact ae (uj k m)
def pe_base(m:Gl X x)(p:X.mg x<*(.ref B))(j:PA X (e::es) t)(k:(x==("__debug__":Str))=false)(u:bx (e::es) X.env=(false,eval e X.env)::bx es X.env)(r:(backTo pos (bx es X.env)).any (·.1)=false)
  (l:((backTo pos (bx (e::es) X.env)).all (λx=> !x.1)&&(um pos (lJ [] X.env)).all (λx=>x.1.isSome)
   &&decide ((e::es).length+([]:List Keyword).length+(if([]:List Keyword).isEmpty then 0 else 1)<30))=true)
  (o:(apos.endLine==pos.line)=true):
  PE X (.Call (.Attribute (.Name x np) "__init__" apos) (e::es) [] pos) (tBase X.K B t):=by
 intro w s y H Q I h;obtain⟨b,h⟩:=h;refine JO rfl l o (mM I m p (λD=>?_) k);refine PySem.W.method_cls I.kIn b.ga (PySem.W.cls_value I.kIn b.rd b.fd (by decide+kernel) ?_);refine i6 (thn (j pos w _ y H _ (I.tok (s.toks+1)) h) λF E z=>?_) u r;obtain⟨G,A,d,c,a,C,f,J,g,i,n,v,q⟩:=z;subst g;cases c with
 |cons r0 c=>cases r0;exact IJ d i (by rw[<-c.length];exact n) v q
end
abbrev del(H:Hp)(a:Addr):Hp:=λb=>if b=a then none else H b
def l8:del H a a=none:=if_pos rfl
def lp(h:b≠a):del H a b=H b:=if_neg h
section
variable {M:Model}{E:'I'}{env:Env}{nm q:Str}{C N:Addr}{bs bm:List Value}{hdct:Bool}{sn:List Str}{sub:List Value}{ab:Bool}{col:Option Bool}{dd:Option Addr}{k0 k1 k2 k3 k5:Option Value}{newId:String}
def C3{x:Sem Value}{Q:Flow->Shared->Prop}(f:bm.contains (.type "BaseException")=true)(k:A.handled=none)
  (h:wpAny M A x (λv a=>∃e t dx,v=.ref e/\a.heap.get? C<*(jz nm q C N bs bm hdct sn sub ab col dd k0 k1 k2 k3 k5 newId)/\
   a.heap.get? e<*(mX C dx #[.ref t,.none,.none,.none,.bool false,.none])/\E (.ref e) a) E s):
  wpAny M A (raiseStmt env (some x) none) Q E s:=by
 have i:(bo C::bm).contains (.type "BaseException")=true:=by rw[List.contains_cons,f,Bool.or_true]
 unfold raiseStmt;refine ae (cE h (λv a l=>?_) λ_ _ x=>x);obtain⟨e,t,dx,rfl,b,j,c⟩:=l;obtain⟨m,g,d,o,n⟩:=a;repeat(first |with_reducible refine jS j ?_ |with_reducible refine jS b ?_ | (with_reducible refine wpAny_isSubtype_exc b ?_;rw[i]) |wp_step)
 exact wpAny_raiseNew_none k c
end
section
variable {pins:List (Addr×Obj)}{s:Shared}
theorem Inv.del{g:Heap->Prop}(I:'A')(e:H a<*(.ext g)):Inv X pins σ (L2.del H a) s:=by
 have ne:∀{b:Addr}{o:HO},H b<*o->(∀j,o≠.ext j)->b≠a:=λ{b o} q n z=>by rw[z,e]at q;exact n g (bC q).symm
 refine(I.ok,I.os,I.bare,(I.base.keep,I.base.slot,λb o q n d=>?_,I.base.there,λb f q=>?_,λb o u q=>?_,λb h q=>?_,),I.loc,I.cell,?_,λx c q=>?_,λp q=>?_,λb u q=>?_,I.len,)
 .by_cases z:b=a;·rw[z];exact l8
  .rw[lp z];exact I.base.free b o q n d
 .have r:=I.base.tups b f q;rw[lp (ne r λ_ z=>by cases z)];exact r
 .have r:=I.base.frzs b o u q;rw[lp (ne r λ_ z=>by cases z)];exact r
 .obtain⟨more,r⟩:=I.base.tbls b h q;exact⟨more,by rw[lp (ne r λ_ z=>by cases z)];exact r⟩
 .by_cases z:X.env.locals=a;·rw[z];exact l8
  .rw[lp z];exact I.free
 .by_cases z:c=a;·rw[z];exact l8
  .rw[lp z];exact I.freeC x c q
 .obtain⟨i,n,r⟩:=I.pin p q;refine(i,?_,r,);by_cases z:p.1=a;·rw[z];exact l8
  .rw[lp z];exact n
 .by_cases d:b=a;·rw[d,l8]at q;cases q
  .rw[lp d]at q;exact(I.hok b u q).pW (λ_ _ _ r=>r) (λc r=>by rw[lp (ne r λ_ z=>by cases z)];exact r) λc f r=>by rw[lp (ne r λ_ z=>by cases z)];exact r
structure NewX(X:Cx)(pins:List (Addr×Obj))(H:Hp)(s:Shared)(a C:Addr)(d:Option Addr):Prop where
 at_:∃x0,s.heap.get? a<*(mX C d #[.ref x0,.none,.none,.none,.bool false,.none])
 new:X.s₀.heap.get? a=none
 un:H a=none
 pins:∀p∈X.pn++pins,p.1≠a
def xJ{M:Model}{Q:Unit->Shared->Prop}{d:Option Addr}(I:'A')(f:X.stack=X.env::X.outer)(c:X.env.frame<*X.env.locals)(n:NewX X pins H s a C d)
  (h:∀b,Inv X pins σ H b->Fly X.s₀.heap b.heap H (X.pn++pins) a (.ref C) d->Q () b):
  wpAny M X.A (nq (.ref a) X.env) (λ_ s'=>wpAny M X.A (B2 (.ref a) none) Q E s') E s:=by
 obtain⟨g,e⟩:=n.at_;unfold nq;simp only[c];refine ae (eJ (x:=.none) e rfl (by rfl) ?_);rw[if_neg (show ¬(cf != cf)=true by simp)];exact enter I f c e rfl 'F' n.new n.un n.pins h
def DY(X:Cx)(E:XS):Prop:=∀(pins:List (Addr×Obj))(σ:St)(H:Hp)(s:Shared)(a C:Addr)(d:Option Addr),'A'->NewX X pins H s a C d->E σ (.ref C) d H->X.xe (.ref a) s
def DT{B:List Env}{E:XK}:
  DY (zB (CXx P w) P w K mg base N ao scope f cd A B s H E) (λ_=>E):=by
 intro G M e J a C d I n q;show wpAny _ _ (leaving _ _) _ _ _;unfold leaving;refine ae (xJ I rfl rfl n λL b c=>?_);obtain⟨⟨T,y,F,x,D,i,l,m,o,p,r,t,u,v,j,k,_⟩,g,h,_⟩:=c;exact(a,.ref C,d,e,rfl,b.os,b.bare,b.base,b.hok,⟨⟨T,y,F,x,D,i,l,m,o,p,r,t,u,v,j,k,λ_ z=>nomatch z⟩,g,h,λ_ z=>nomatch z⟩,q,)
def FH{n:Str}{b:Stmt}{c:List Stmt}{e:Pos}{g:TS}{D:Ends}(O:BX X x n C i (b::c) g){f:Addr}{d:Option Addr}(ok:X.Ok)
  (I:Inv (X.re X.A X.calm (X.pn++pins) (kj X pins D [.ExceptHandler (some (.Name x np)) (some n) (b::c) e])) pins' σ H s)(m:NewX (X.re X.A X.calm (X.pn++pins) (kj X pins D [.ExceptHandler (some (.Name x np)) (some n) (b::c) e])) pins' H s a f d)(h:sA X.K C i g D σ (.ref f) d H):
  kj X pins D [.ExceptHandler (some (.Name x np)) (some n) (b::c) e] (.ref a) s:=by
 have J:'A':=I.Hy ok λp z=>eS _ z;exact xJ J O.stk O.fr (m.at_,m.new,m.un,λp l=>m.pins p (eS _ l),) λo k j=>sF O k j h
def Ir(C:Addr)(sp:Sp)(ak:List V)(E:XS)(t:TA):TS:=λ_ σ H=>t σ H λvs H1=>vs.length<=sizeLine/\∀a,H1 a=none->
 sp (.ref a::(vs++ak)) (upd H1 a (exO a C none)) (λv H2=>v=.non/\∃d,H2 a<*(exO a C d)/\E σ (.ref C) d (del H2 a)) (E σ)
def Ga{CX:CXT}{k:Nat}{y:gp}{sp:Sp}{E:XS}{i:List Expr}{t:TA}(Mk:MkX X.K C f)(F:jO X.prog X.w X.K X.mg X.base CX k f y ps sp)(hr:jk (k+1) X.A)(W:Binds X.K y ps ds)(hd:bZ ak ds)
  (hx:yr CX X E)(hg:Gl X x)(hm:X.mg x<*(.ref C))(S:PA X (e::i) t)(Z:X.calm=true)(a0:(x==("__debug__":Str))=false)
  (a3:bx (e::i) X.env=(false,eval e X.env)::bx i X.env)(a2:(backTo au (bx i X.env)).any (·.1)=false)(a4:DY X E):
  PS X (.Raise (some (.Call (.Name x np) (e::i) [] au)) none pos) (Ir C sp ak E t):=by
 intro u s g H D I h;obtain⟨nm,G,N,bs,bm,A,sn,sub,ab,col,dd,k0,k1,k2,k3,k5,mN,P,hN,hi,T⟩:=vN (bmB:=bmV) I.mod.kin Mk.ex;have Y:bm.contains (.type "BaseException")=true:=T.hasType (by decide+kernel);rw[arm_exec_Raise];show wpAny _ _ (do Ft pos;raiseStmt X.env (some (do let v<-eval (.Call (.Name x np) (e::i) [] au) X.env;Ft pos;pure v)) none) _ _ s;refine ae (jl (C3 (C:=C) (nm:=nm) (q:=G) (N:=N) (bs:=bs) (bm:=bm) (hdct:=A) (sn:=sn) (sub:=sub) (ab:=ab) (col:=col) (dd:=dd) (k0:=k0) (k1:=k1) (k2:=k2) (k3:=k3) (k5:=k5) (newId:="ValueError.__new__") Y (I.ok.hd Z) (ae (cE (Q:=λv c=>∃a a9 M,v=.ref a/\c.heap.get? C<*(jz nm G C N bs bm A sn sub ab col dd k0 k1 k2 k3 k5 "ValueError.__new__")/\c.heap.get? a<*(mX C M #[.ref a9,.none,.none,.none,.bool false,.none])/\X.xe (.ref a) c) (E:=X.xe) ?_ (λv c z=>ae (jl (ag z))) λ_ _ z=>z))));refine gE (mM I hg hm ?_ a0);refine rM (h₀:=X.base) I.ok.mod.kin Mk.kp (thn (S au u s g H _ I h) λus c ⟨vs,H1,l,a6,a1,q⟩=>(l.kIn,?_,)) a3 a2;refine cE (F4 (E:=E g) (Q:=λv b=>∃a d,⇑c<=a/\v=.ref a/\b a<*(exO a C d)/\E g (.ref C) d (del b a)) Mk F hr W hd (λK s' e a8 L z=>hx u g K s' e a8 L z) l a6 a1 (λa m U=>?_)) (λv s2 z=>?_) λ_ _ z=>z
 .have e:(λ(v:V)(b:Hp)=>v=.non/\∃d,b a<*(exO a C d)/\E g (.ref C) d (del b a))=λv b=>v=.non/\∃j d,⇑c<=j/\V.ref a=V.ref j/\b j<*(exO j C d)/\E g (.ref C) d (del b j):=by
   funext v b
   apply propext
   constructor;·rintro⟨o,d,p,r⟩;exact(o,a,d,m,rfl,p,r,)
   .rintro⟨o,b0,d,_,O,p,r⟩;cases O;exact(o,d,p,r,)
  rw[<-e];exact q a U
 .obtain⟨w',b,n,a7,a,d,m,rfl,w,R⟩:=z;cases a7;obtain⟨⟨J,B⟩,_⟩:=n.hok a _ w;refine(a,J,d,rfl,n.bk _ _ P,B,a4 u g (del b a) s2 a C d (n.del w) ((J,B,),qt (aR l.sz m),l8,λa5 hp=>?_,) R,);exact aK (bj (aD (l.pin a5 hp).1) m)
end
abbrev Fb(K:ai)(C:Addr)(f:Str):Bool:=
 mW K C&&findIn K (.ref C) f==some none&&(match clsIn K C with |some cd=>cd.hasDict|none=>false)
def Dy{v:V}(r:RelV v u):handedIn u=true:=by
 cases v with
 |non=>cases r;rfl
 |bl b=>cases r;rfl
 |int i=>obtain⟨t,rfl⟩:=r;rfl
 |str x=>obtain⟨t,rfl⟩:=r;rfl
 |byt b=>obtain⟨t,rfl⟩:=r;rfl
 |flt b=>obtain⟨t,rfl⟩:=r;rfl
 |ref a=>cases r;rfl
 |ty n=>cases r;rfl
def JU{d:Addr}{m:Str->Option Value}{f:Str}(N:h.Ns1 d m)(e:m f<*u):∃o,h.get? d<*o/\lookIn f o<*(some u):=by
 obtain⟨o,a,i,g,b,_,_,c⟩:=N;refine(o,g,?_,);have q:=(c f).trans e;unfold nsFind findBy at q;rw[<-sV]at q;unfold lookIn;rw[b];dsimp only;cases hz:a.toList.find? (·.key.isStr f)with
 |none=>rw[hz]at q;cases q
 |some en=>rw[hz]at q;simpa using q
def BC{f:Str}{o:Obj}(F:Fb K C f=true)(e:lookIn f o<*(some u)):uL K C (some o) f<*(.value u):=by
 unfold Fb at F;rw[aN,aN,beq_iff_eq]at F;obtain⟨⟨_,b⟩,a⟩:=F;cases hc:clsIn K C with
 |none=>rw[hc]at a;cases a
 |some cd=>
  rw[hc]at a;unfold uL;rw[hc,fG,b,fG];have c:PySem.W.ownOf cd (some o) f<*(some u):=by unfold PySem.W.ownOf;rw[if_pos a];exact e
  simp[c]
section
variable {E:'I'}{s:Shared}{a C:Addr}{o:Obj}{od:Option Obj}{f:Str}{u:Value}
def KG{tk:Tok}{R:Result->Shared->Prop}(b:K.In s.heap)(J:InstAt s.heap a o C od)(F:wq K C)(c:uL K C od f<*(.value u))(h:R (.ok (.ret u)) s):
  gh (model prog w) A (.call (.builtin "BaseException.__getattribute__") ([.ref a,.str f tk],[],)) R s:=by
 obtain⟨j,g,d,t,k⟩:=s;have e:=J.type (M:=model prog w);have i:=looks_find (M:=model prog w) b J c;refine fN gq.ga.plain Ck (wk b J F ?_);unfold Builtin.«object.__getattribute__»;repeat(first |with_reducible refine jx ?_ |lk|wp_step)
 exact h
def exc_fld{b:Bool}{Q:'I'}(c:K.In s.heap)(J:InstAt s.heap a o C od)(F:wq K C)(k:uL K C od f<*(.value u))(m:handedIn u=true)(h:Q u {s with toks:=s.toks+1}):
  'B' (getAttr (.ref a) f b) Q E s:=by
 obtain⟨l,g,d,t,n⟩:=s;have e:=J.type (M:=model prog w);have i:=rJ (M:=model prog w) c F.ga;have j:=rJ (M:=model prog w) c F.hook;unfold getAttr getAttrBy;refine ae (wpAny_mkText (bq (ae (e.at (ae (i.at ?_))))));show wpAny _ _ (if(B3 (.ref C)&&(iP "BaseException.__getattribute__"==iP "object.__getattribute__"))=true then _ else _) _ _ _;rw[ga_ne,eU,if_neg be];unfold getAttrByItsOwn hookBefore;rw[if_pos (show B3 (.ref C)=true from rfl)];refine ae (j.at ?_);unfold callGetattribute boundAndCalled;rw[show B3 (iP "BaseException.__getattribute__")=false from rfl,eU,if_neg be];refine ae (fq (bq (ae ?_)));rw[gq.ga.bind (.ref a)];refine ag (jx (KG (s:=(l,g,d,t+1,n,)) c J F k ?_));show wpAny _ _ (handedOut u) _ _ _;rw[handedOut_of m];exact ag h
end
def rFld(K:ai)(f:Str):V->Hp->VK->Prop:=λx H Q=>∃a C dd fs v,x=.ref a/\H a<*(tG a (.ref C) (some dd))/\H dd<*(xdO dd fs)/\Fb K C f=true/\fs.lookup f<*v/\Q v H
section
variable {pins:List (Addr×Obj)}{s:Shared}
def get_fld{x:V}{f:Str}{b:Bool}{Q:VK}(I:'A')(r:RelV x u)(h:rFld X.K f x H Q):'C' (getAttr u f b) (EP X pins σ Q) X.xe s:=by
 obtain⟨a,C,d,fs,v,rfl,k,l,F,n,q⟩:=h;obtain rfl:u=.ref a:=r;obtain⟨⟨o,e,g,i,j⟩,_⟩:=I.hok a _ k;obtain⟨⟨t,N,w,_⟩,_⟩:=I.hok d _ l;have rv:=w f;rw[n]at rv;cases hm:t f with
 |none=>rw[hm]at rv;exact rv.elim
 |some y=>
  rw[hm]at rv;obtain⟨od,p,m⟩:=JU N hm;have c:mW X.K C=true:=by unfold Fb at F;rw[aN,aN]at F;exact F.1.1
  exact exc_fld I.kIn (od:=some od) ⟨e,g,j,by rw[i];exact p⟩ (BD c) (BC F m) (Dy rv) (v,H,I.tok _,rv,q,)
def EL{n f:Str}{t:TE}(b:PE X (.Name n np) t):PE X (.Attribute (.Name n np) f pos) (λσ H Q=>t σ H λx H1=>rFld X.K f x H1 Q):=by intro c s σ H Q I h;refine Attribute_name (thn (b c s σ H _ I h) λu d ⟨x,H1,a,r,q⟩=>?_);exact get_fld a r q
def qY:fU X (.builtin "isinstance") (λxs H Q=>∃a C d y cv b,xs=[.ref a,y]/\H a<*(tG a (.ref C) d)/\(∀dd,d<*dd->∃fs,H dd<*(xdO dd fs))/\mW X.K C=true/\((∃T,y=.ty T/\cv=dD T)\/(∃D,y=.ref D/\cv=bo D))/\kitOne X.K (.ref C) cv<*b/\Q (.bl b) H):=by
 intro o s r H xs p Q I rv h;obtain⟨a,C,d,y,cv,b,rfl,g,j,ok,l,e,q⟩:=h;obtain⟨u,c,rfl,m,f⟩:=rv.two;obtain rfl:u=bo a:=m;have i:c=cv:=by
  rcases l with⟨T,rfl,rfl⟩ |⟨D,rfl,rfl⟩;·cases f;rfl
  .cases f;rfl
 subst i;exact kia_one (JZ (BD ok)) I.kIn (DA I.hok g λdd z=>by obtain⟨fs,k⟩:=j dd z;exact(_,k,)) e (λz=>nomatch z) λn=>(.bl b,H,I.tok n,rfl,q,)
end
end L2
namespace L2
section
variable {E:'I'}{s:Shared}
def lia{Q:Option Obj->Shared->Prop}(h:Q (s.heap.get? a) s):'B' (loadIfAlive a) Q E s:=λ_ _ _=>h
noncomputable abbrev IsZ(h:Heap)(z TI TO:Addr)(b:Value)(a:Bool):Prop:=h.get? z<*{cls:=.type "zip",dict:=none,data:=.fields #[b,.bool a,.bool false,.ref TI,.ref TO],slots:= #[]}
def Bb{TI TO:Addr}{a:Bool}{o:Obj}{Q:Bool->Shared->Prop}(hz:IsZ s.heap z TI TO (rawInt q) a)(c:s.heap.get? q<*o)
  (b:∀h',IsZ h' z TI TO (rawInt q) true->cR z s.heap h'->Q false {s with heap:=h'}):'B' (eG (.ref z)) Q E s:=by
 unfold eG;refine ae (eJ hz rfl (x:=rawInt q) rfl ?_);show wpAny _ _ (loadIfAlive (q:Int).toNat>>=_) _ _ _;refine ae (lia ?_);rw[gN,c];show wpAny _ _ (field (.ref z) 1>>=_) _ _ _;refine ae (eJ hz rfl (x:=.bool a) rfl ?_);cases a with
 |true=>exact ag (b s.heap hz (Ca ..))
 |false=>show wpAny _ _ (lI (.ref z) 1 (.bool true)>>=_) _ _ _;exact ae (bW hz 'F' λh' e d=>ag (b h' e d))
def FF{TI TO l1 l2:Addr}{k1 k2:Nat}{xs ys:Array Value}{x y:Value}{g:Bool}{o:Obj}{Q:'I'}(D:uo z TI TO i1 i2 l1 l2)
  (hz:IsZ s.heap z TI TO (rawInt q) g)(B:s.heap.get? q<*o)(r:IsPair s.heap TI (.ref i1) (.ref i2))
  (k:s.heap.IsListIter i1 l1 k1)(m:s.heap.IsListIter i2 l2 k2)(t:s.heap.IsList l1 xs)(u:s.heap.IsList l2 ys)(C:xs[k1]?<*x)(F:ys[k2]?<*y)
  (p:∀h',IsZ h' z TI TO (rawInt q) true->h'.IsListIter i1 l1 (k1+1)->h'.IsListIter i2 l2 (k2+1)->IsPair h' ⇑s x y->h'.objs.size=⇑s+1->
   (∀c o,c≠z->c≠i1->c≠i2->s.heap.get? c<*o->h'.get? c<*o)->Q (.ref ⇑s) {s with heap:=h'}):
  'B' (Builtin.«zip.__next__» ([.ref z],[],)) (λfin s'=>∃v,fin=.done (.ret v)/\Q v s') E s:=by
 show wpAny _ _ (field (.ref z) 2>>=_) _ _ _;refine ae (eJ hz rfl (x:=.bool false) rfl ?_);show wpAny _ _ (field (.ref z) 3>>=_) _ _ _;refine ae (eJ hz rfl (x:=.ref TI) rfl ?_);refine ae (jQ r rfl ?_);show wpAny _ _ (eG (.ref z)>>=_) _ _ _;refine ae (Bb hz B λH G a=>?_);simp only[b8,if_false];rw[<-La];simp only[dO,dm];refine ae (ae (ae (bq ?_)));show wpAny _ _ (fW (.ref i1)>>=_) _ _ _;refine ae (rG (k.extBut a.extBut D.i1z) (t.extBut a.extBut D.l1z) C λI l b=>ag (ag ?_));refine ae (ae (bq ?_));show wpAny _ _ (fW (.ref i2)>>=_) _ _ _;refine ae (rG ((m.extBut a.extBut D.i2z).extBut b.extBut D.i12.symm) ((u.extBut a.extBut D.l2z).extBut b.extBut D.l2i1) F λf n d=>ag (ag (ag ?_)));refine ae (G7 (hsz:=(by show 2<=sizeLine;decide)) ?_);have hsz:f.objs.size=⇑s:=by rw[d.1,b.1,a.1]
 refine ag (_,rfl,?_,);rw[hsz];have up:∀c o,f.get? c<*o->(f.push {cls:=.type "tuple",data:=.seq #[x,y]}).get? c<*o:=λc o e=>af _ e;refine p _ (up _ _ (d.extBut _ _ D.i2z.symm (b.extBut _ _ D.i1z.symm G))) ((l.extBut d.extBut D.i12).at λo e=>up _ o e) (n.at λo e=>up _ o e) ?_ (by rw[cK,hsz]) λc o h i j e=>up _ _ (d.extBut _ _ j (b.extBut _ _ i (a.extBut _ _ h e)));rw[<-hsz];exact aF _ rfl
def Ht{TI TO l1 l2:Addr}{k1 k2:Nat}{xs ys:Array Value}{n:Bool}{o:Obj}{Q:fP->Shared->Prop}(k:A.handled=none)(D:uo z TI TO i1 i2 l1 l2)
  (hz:IsZ s.heap z TI TO (rawInt q) n)(y:s.heap.get? q<*o)(t:IsPair s.heap TI (.ref i1) (.ref i2))
  (i:s.heap.IsListIter i1 l1 k1)(r:s.heap.IsListIter i2 l2 k2)(l:s.heap.IsList l1 xs)(v:s.heap.IsList l2 ys)(u:xs[k1]? =none\/ys[k2]? =none)
  (j:∀h' e,(∀c o,c≠z->c≠i1->c≠i2->s.heap.get? c<*o->h'.get? c<*o)->(∃o,h'.get? e<*o/\o.cls=.type "StopIteration")->E (.ref e) {s with heap:=h'}):
  'B' (Builtin.«zip.__next__» ([.ref z],[],)) Q E s:=by
 show wpAny _ _ (field (.ref z) 2>>=_) _ _ _;refine ae (eJ hz rfl (x:=.bool false) rfl ?_);show wpAny _ _ (field (.ref z) 3>>=_) _ _ _;refine ae (eJ hz rfl (x:=.ref TI) rfl ?_);refine ae (jQ t rfl ?_);show wpAny _ _ (eG (.ref z)>>=_) _ _ _;refine ae (Bb hz y λI H a=>?_);simp only[b8,if_false];rw[<-La];simp only[dO,dm];refine ae (ae (ae (bq ?_)));show wpAny _ _ (fW (.ref i1)>>=_) _ _ _;cases hx:xs[k1]? with
 |none=>exact ae (wpAny_nextOf_list_end k (i.extBut a.extBut D.i1z) (l.extBut a.extBut D.l1z) hx λm e b g=>j m e (λc o d f _ x=>b _ _ f (a.extBut _ _ d x)) g)
 |some x=>
  have C:ys[k2]? =none:=by rcases u with h|h;rw[hx]at h;cases h;exact h
  refine ae (rG (i.extBut a.extBut D.i1z) (l.extBut a.extBut D.l1z) hx λm G b=>ag (ag ?_));refine ae (ae (bq ?_));show wpAny _ _ (fW (.ref i2)>>=_) _ _ _;exact ae (wpAny_nextOf_list_end k ((r.extBut a.extBut D.i2z).extBut b.extBut D.i12.symm) ((v.extBut a.extBut D.l2z).extBut b.extBut D.l2i1) C λF e B g=>j F e (λc o d f p x=>B _ _ p (b.extBut _ _ f (a.extBut _ _ d x))) g)
def lh{n0 z:Nat}(h:z<n0)(j:Nat):n0+j≠z:=by lia
structure ZSt(z TI TO i1 i2 l1 l2:Addr)(xs ys:Array Value)(n0 i:Nat)(h:Heap):Prop where
 hz:(i=0/\IsZip h z TI TO .none/\∃u v,IsPair h TO u v)\/(0<i/\∃b,IsZ h z TI TO (rawInt n0) b)
 hTI:IsPair h TI (.ref i1) (.ref i2)
 h1:h.IsListIter i1 l1 i
 h2:h.IsListIter i2 l2 i
 hl1:h.IsList l1 xs
 hl2:h.IsList l2 ys
def Prs(xs ys:Array Value)(n0 i:Nat)(h:Heap):Prop:=∀j,j<i->∀x y,xs[j]?<*x->ys[j]?<*y->IsPair h (n0+j) x y
def ZSt.move{TI TO l1 l2:Addr}{xs ys:Array Value}{n0:Nat}(Z:ZSt z TI TO i1 i2 l1 l2 xs ys n0 i h)(k:∀c∈[z,TI,TO,i1,i2,l1,l2],∀o,h.get? c<*o->h'.get? c<*o):ZSt z TI TO i1 i2 l1 l2 xs ys n0 i h':=by
 refine⟨?_,k TI 'F' _ Z.hTI,Z.h1.at λo q=>k i1 'F' o q,Z.h2.at λo q=>k i2 'F' o q,Z.hl1.at λo q=>k l1 'F' o q,Z.hl2.at λo q=>k l2 'F' o q⟩;rcases Z.hz with⟨a,b,u,v,c⟩ |⟨a,b,c⟩;·exact .inl ⟨a,k z 'F' _ b,u,v,k TO 'F' _ c⟩
 .exact .inr ⟨a,b,k z 'F' _ c⟩
def zloop{TI TO l1 l2 n0:Addr}{xs ys:Array Value}{R:Result->Shared->Prop}(hh:A.handled=none)(D:uo z TI TO i1 i2 l1 l2)(J:∀c∈[z,TI,TO,i1,i2,l1,l2],c<n0)(a9:S<n0)(a:S∉[z,TI,TO,i1,i2,l1,l2])(hn:n=min xs.size ys.size)(d0:n<=5000):
  ∀(k i:Nat)(s:Shared)(ad:Array Value)(c:Nat),n-i=k->i<=n->⇑s=n0+i->ZSt z TI TO i1 i2 l1 l2 xs ys n0 i s.heap->s.heap.get? S<*{cls:=.type "list",dict:=none,data:=.seq ad c,slots:= #[]}->
  ad.toList=(bg i).map (λj=>bo (n0+j))->Prs xs ys n0 i s.heap->
  (∀h' H m,(∀b o,b∉[S,z,TO,i1,i2]->s.heap.get? b<*o->h'.get? b<*o)->h'.get? S<*{cls:=.type "list",dict:=none,data:=.seq H m,slots:= #[]}->H.toList=(bg n).map (λj=>bo (n0+j))->Prs xs ys n0 n h'->R (.ok (.ret res)) {s with heap:=h'})->
  gh (model prog w) A (.builtin "list.extend.loop" ([.ref S,.ref z,res],[],)) R s:=by
 have ez:z<n0:=J z 'F';have e1:i1<n0:=J i1 'F';have e2:i2<n0:=J i2 'F';have eO:TO<n0:=J TO 'F';intro k
 induction k with
 |zero=>
  intro i s ad c Y hi B Z W I v V;have b8:i=n:=by lia
  subst b8;refine eK F.entry_extend_loop ?_;rw[dh f9 _];show wpAny _ A.in1 (pyNext (.ref z)>>=_) _ _ s;have b0:xs[i]? =none\/ys[i]? =none:=by
   rcases Nat.le_total xs.size ys.size with h|h;·exact .inl (by rw[oE];lia)
   .exact .inr (by rw[oE];lia)
  have fin:∀h',(∀c o,c≠z->c≠TO->c≠i1->c≠i2->s.heap.get? c<*o->h'.get? c<*o)->R (.ok (.ret res)) {s with heap:=h'}:=λh' d=>by
   refine V h' ad c (λb o g q=>?_) ?_ I λj hj x a0 t u=>d _ _ (lh ez j) (lh eO j) (lh e1 j) (lh e2 j) (v j hj x a0 t u);·simp only[aG,bu,or_false,not_or]at g;exact d b o g.2.1 g.2.2.1 g.2.2.2.1 g.2.2.2.2 q
   .simp only[aG,bu,or_false,not_or]at a;exact d S _ a.1 a.2.2.1 a.2.2.2.1 a.2.2.2.2.1 W
  rcases Z.hz with⟨r,l,c8,c9,X⟩ |⟨r,b,l⟩;·refine ae (wpAny_pyNext_zip_end hh D l Z.hTI X Z.h1 Z.h2 Z.hl1 Z.hl2 b0 λh' d=>?_);exact ag (fin h' d)
  .have y:s.TypeIs (.ref z) "zip":=(_,l,rfl,);have C:xs[0]?<*(xs[0]''D'):=cq _;have E:ys[0]?<*(ys[0]''D'):=cq _;refine ae ?_;unfold pyNext;refine ae (fq (fh (name:=cz "__next__") y qv
    (cA qv y F.entry_zip_next (Ht hh D l (v 0 r _ _ C E) Z.hTI Z.h1 Z.h2 Z.hl1 Z.hl2 b0 λh' e Y he=>?_) (F.args_zip_next_1 _))))
   obtain⟨o,ho,hc⟩:=he;refine ae (kL (T:="StopIteration") (b:=true) (o,ho,hc,) Hb ?_);exact ag (ag (fin h' λc o P _ Q U q=>Y c o P Q U q))
 |succ k ih=>
  intro i s ad c Y hi B Z W I v V;have b9:i<n:=by lia
  have C:xs[i]?<*(xs[i]''D'):=cq _;have E:ys[i]?<*(ys[i]''D'):=cq _;refine eK F.entry_extend_loop ?_;rw[dh f9 _];show wpAny _ A.in1 (pyNext (.ref z)>>=_) _ _ s;simp only[aG,bu,or_false,not_or]at a;have a7:ad.size=i:=by rw[<-aO,I];simp
  have go:∀h',(0<i+1/\∃b,IsZ h' z TI TO (rawInt n0) b)->h'.IsListIter i1 l1 (i+1)->h'.IsListIter i2 l2 (i+1)->IsPair h' ⇑s (xs[i]''D') (ys[i]''D')->h'.objs.size=⇑s+1->
    (∀c o,c≠z->c≠TO->c≠i1->c≠i2->s.heap.get? c<*o->h'.get? c<*o)->
    wpAny (model prog w) A.in1 (k9 (.ref S) (·.push (.ref ⇑s))>>=λ_=>again (.builtin "list.extend.loop" ([.ref S,.ref z,res],[],))) (λfin K=>match fin with |.done f=>R (.ok f) K|.again m=>m.quiet=true/\gh (model prog w) A m R K) (λe K=>R (.error e) K) {s with heap:=h'}:=by
   intro h' c6 b3 b4 b1 c0 d;have a8:=d S _ a.1 a.2.2.1 a.2.2.2.1 a.2.2.2.2.1 W;show wpAny _ A.in1 (B1 S (·.push (.ref ⇑s))>>=_) _ _ _;refine ae ?_;have up:∀b o,b≠S->h'.get? b<*o->(h'.update S (cC (·.push (.ref ⇑s)))).get? b<*o:=λb o g q=>(bb _ _ (cU g)).trans q;refine mF a8 rfl (ag (fV f9 _,ih (i+1) _ (ad.push (.ref ⇑s)) _ 'D' b9 ?_ ?_ (bG _ a8 rfl) ?_ ?_ λb2 H m c7 b6 b7 b5=>?_,))
    (by rw[a7];exact aR (by lia:i<=5000) 'E') (by show(ad.push _).size<=sizeLine+1;rw[cV,a7];exact aR (by lia:i+1<=5001) 'E')
   .show(h'.update S _).objs.size=_;rw[iy,c0,B];lia
   .have Z':ZSt z TI TO i1 i2 l1 l2 xs ys n0 (i+1) h':=(.inr c6,d _ _ D.TIz D.TITO D.TIi1 D.TIi2 Z.hTI,b3,b4,Z.hl1.at λo q=>d l1 o D.l1z D.l1TO D.l1i1 D.l1i2 q,Z.hl2.at λo q=>d l2 o D.l2z D.l2TO D.l2i1 D.l2i2 q,);refine Z'.move λc hc o q=>up c o (λe=>?_) q;subst e;simp only[aG,bu,or_false]at hc;rcases hc with hc|hc|hc|hc|hc|hc|hc;·exact a.1 hc
    .exact a.2.1 hc
    .exact a.2.2.1 hc
    .exact a.2.2.2.1 hc
    .exact a.2.2.2.2.1 hc
    .exact a.2.2.2.2.2.1 hc
    .exact a.2.2.2.2.2.2 hc
   .rw[eW,I,kF,bf,B];rfl
   .intro j hj x a0 t u;by_cases hji:j=i;·subst hji;rw[C]at t;rw[E]at u;cases t;cases u;rw[B]at b1;exact up _ _ (lh a9 j) b1
    .exact up _ _ (lh a9 j) (d _ _ (lh ez j) (lh eO j) (lh e1 j) (lh e2 j) (v j 'D' x a0 t u))
   .refine V b2 H m (λb o g q=>?_) b6 b7 b5;have p:=g;simp only[aG,bu,or_false,not_or]at p;exact c7 b o g (up b o p.1 (d b o p.2.1 p.2.2.1 p.2.2.2.1 p.2.2.2.2 q))
  rcases Z.hz with⟨r,l,c8,c9,X⟩ |⟨r,b,l⟩;·refine ae (wpAny_pyNext_zip_item D l Z.hTI X Z.h1 Z.h2 Z.hl1 Z.hl2 C E λh' G a2 L M N O d=>?_);exact go h' ⟨'D',false,by rw[B,r,Nat.add_zero]at G;exact G⟩ L M N O d
  .have y:s.TypeIs (.ref z) "zip":=(_,l,rfl,);have c2:xs[0]?<*(xs[0]''D'):=cq _;have c5:ys[0]?<*(ys[0]''D'):=cq _;refine ae ?_;unfold pyNext;refine ae (fq (fh (name:=cz "__next__") y qv (cA qv y F.entry_zip_next (FF D l (v 0 r _ _ c2 c5) Z.hTI Z.h1 Z.h2 Z.hl1 Z.hl2 C E λh' G L M N O d=>ag ?_) (F.args_zip_next_1 _))));exact go h' ('D',true,G,) L M N O λc o P _ Q U q=>d c o P Q U q
def Kf{Q:Bool->Shared->Prop}(a:s.TypeIs (.ref z) "zip")(h:Q true s):'B' (dM (.ref z)) Q E s:=by unfold dM;refine ae (eI (r:=none) a (by rw[fF,dQ];kernel_rfl) ?_);show wpAny _ _ (specialOf (.ref z) "__length_hint__">>=_) _ _ _;refine ae (eI (r:=none) a (by rw[fF,dQ];kernel_rfl) ?_);exact ag h
def Dz{TI TO l1 l2 n0:Addr}{xs ys:Array Value}{m:Nat}{R:Result->Shared->Prop}(G:A.handled=none)(D:uo z TI TO i1 i2 l1 l2)(I:∀c∈[z,TI,TO,i1,i2,l1,l2],c<n0)(y:S<n0)(h:S∉[z,TI,TO,i1,i2,l1,l2])(J:n=min xs.size ys.size)(K:n<=5000)
  (hsz:⇑s=n0)(Z:ZSt z TI TO i1 i2 l1 l2 xs ys n0 0 s.heap)(hz:IsZip s.heap z TI TO .none)(i:s.heap.get? S<*{cls:=.type "list",data:=.seq #[] m})
  (v:∀h' g a,(∀b o,b∉[S,z,TO,i1,i2]->s.heap.get? b<*o->h'.get? b<*o)->h'.get? S<*{cls:=.type "list",dict:=none,data:=.seq g a,slots:= #[]}->g.toList=(bg n).map (λj=>bo (n0+j))->Prs xs ys n0 n h'->R (.ok (.ret res)) {s with heap:=h'}):
  wpAny (model prog w) A.in1 (b7 (.ref S) (.ref z) res)
   (λfin s'=>match fin with |.done f=>R (.ok f) s'|.again a=>a.quiet=true/\gh (model prog w) A a R s') (λe s'=>R (.error e) s') s:=by
 have k:=h;simp only[aG,bu,or_false,not_or]at k;unfold b7;refine ae (jP (T:="zip") (_,hz,rfl,) ?_);have p:fk (.ref S) (.ref z)=false:=by simp[fk,k.1]
 have r:(dD "zip"==dD "list")=false:=by decide
 have t:(dD "zip"==dD "tuple")=false:=by decide
 simp only[p,r,t,sU,b8,if_false];refine ae (B0 hz ?_);refine ae (bq (Kf (_,hz,rfl,) ?_));refine jq (λ_=>?_) (λE=>absurd rfl E);refine ae (dZ ?_);refine ae ?_;show wpAny _ _ (B1 S (·.push .none)>>=λ_=>B1 S (·.pop)) _ _ _;refine ae (mF i rfl ?_);have l:=bG (cC (·.push cf)) i rfl;refine mF (hz:=by seq_fits) l rfl ?_;have B:=bG (cC (·.pop)) l rfl;have up:∀b o,b≠S->s.heap.get? b<*o->((s.heap.update S (cC (·.push cf))).update S (cC (·.pop))).get? b<*o:=λb o d q=>(bb _ _ (cU d)).trans ((bb _ _ (cU d)).trans q);refine ag ⟨fV f9 _,zloop G D I y h J K n 0 _ _ _ rfl (a0 _) ?_ (Z.move λc F o q=>up c o (λe=>h (e▸F)) q) B rfl (λj H=>absurd H (i7 _)) λh' g a L x C u=>v h' g a (λb o d q=>L b o d (up b o (λe=>d (by rw[e];exact aw)) q)) x C u⟩;show((s.heap.update S _).update S _).objs.size=_;rw[iy,iy,hsz];rfl
def w9{TI TO l1 l2:Addr}{xs ys:Array Value}{Q:'I'}(C:A.handled=none)(D:uo z TI TO i1 i2 l1 l2)(G:n=min xs.size ys.size)(H:n<=5000)(Z:∀n0,ZSt z TI TO i1 i2 l1 l2 xs ys n0 0 s.heap)(hz:IsZip s.heap z TI TO .none)(m:∀c∈[z,TI,TO,i1,i2,l1,l2],c<⇑s)
  (u:∀h' a f,(∀b o,b∉[z,TO,i1,i2]->s.heap.get? b<*o->h'.get? b<*o)->h'.get? ⇑s<*{cls:=.type "list",dict:=none,data:=.seq a f,slots:= #[]}->a.toList=(bg n).map (λj=>bo (⇑s+1+j))->Prs xs ys (⇑s+1) n h'->Q (.ref ⇑s) {s with heap:=h'}):
  'B' (call (.type "list") [.ref z]) Q E s:=by
 refine He (Q₁:=λp r=>p=.ref ⇑s/\r={s with heap:=s.heap.push {cls:=.type "list",data:=.seq #[]}}) F.called_list (F.typeCall_list_1 _) F.entry_list_init
  (code_list_new _ (rfl,rfl,)) λp r I=>?_
 obtain⟨rfl,rfl⟩:=I;have d:(s.heap.push {cls:=.type "list",data:=.seq #[]}).get? ⇑s<*{cls:=.type "list",data:=.seq #[]}:=aF _ rfl;refine((_,d,rfl,),F.args_list_init_2 _ _,?_,);have g:⇑s∉[z,TI,TO,i1,i2,l1,l2]:=λh=>eN _ (m _ h);have x:⇑s≠z:=λe=>g (e▸aw);show wpAny _ _ (do let old<-iK (.ref ⇑s);k9 (.ref ⇑s) (λ_=> #[]);letGo old.toList.reverse;b7 (.ref ⇑s) (.ref z) .none) _ _ _;refine ae ?_;unfold iK;refine ae (jQ d rfl (ag ?_));show wpAny _ _ (B1 ⇑s (λ_=> #[])>>=λ_=>letGo (#[]:Array Value).toList.reverse>>=λ_=>b7 (.ref ⇑s) (.ref z) .none) _ _ _;refine ae (mF d rfl ?_);have y:=bG (cC (λ_=>(#[]:Array Value))) d rfl;have oth:∀b o,b≠⇑s->s.heap.get? b<*o->((s.heap.push {cls:=.type "list",data:=.seq #[]}).update ⇑s (cC (λ_=>(#[]:Array Value)))).get? b<*o:=
  λb o i e=>(bb _ _ (cU i)).trans (af _ e)
 refine ae (wpAny_letGo ?_);refine Dz (A:=A.in1) (n0:=⇑s+1) C D (λc k=>bU (m c k)) (dB _) g G H ?_ ((Z _).move λc k o q=>oth c o (λe=>g (e▸k)) q) (oth z _ (cU x) hz) y λh' a f J v B t=>(rfl,u h' a f (λb o i q=>?_) v B t,);·show((s.heap.push _).update _ _).objs.size=_;rw[iy,cK]
 .have l:b≠⇑s:=aK (aD q);refine J b o (λhm=>?_) (oth b o l q);rcases aG.mp hm with e|hm;·exact l e
  .exact i hm
end
abbrev ovr(N H:Hp):Hp:=λb=>match N b with
 |some o=>some o
 |none=>H b
def ze{N:Hp}{o:HO}(h:N b<*o):ovr N H b<*o:=by unfold ovr;rw[h]
def uB{N:Hp}(h:N b=none):ovr N H b=H b:=by unfold ovr;rw[h]
section
variable {pins:List (Addr×Obj)}{N:Hp}{s:Shared}
def Inv.lay(I:'A')(k:∀b u,s.heap.get? b<*u->h'.get? b<*u)(d:∀b o,N b<*o->⇑s<=b/\cX X.prog X.w (ovr N H) h' b o):Inv X pins σ (ovr N H) {s with heap:=h',toks:=t'}:=by
 have a:∀{b:Addr}{o:HO},H b<*o->ovr N H b<*o:=λ{b o} q=>by
  cases e:N b with
  |none=>rw[uB e];exact q
  |some o'=>rw[I.hok.fresh (d b o' e).1]at q;cases q
 refine I.un ⟨λb o q _ _ _=>k b o q,λb o q _ _ _=>(o.slots,k b o q,),λb o q n _=>?_,λb o q _=>(o,k b o q,),λb f q=>a q,λb o u q=>a q,λb g q=>⟨#[],by rw[a q];simp⟩⟩ λb o q=>?_
 .cases e:N b with
  |none=>rw[uB e];exact n
  |some o'=>exact absurd (aD q) (Nat.not_lt.mpr (d b o' e).1)
 .cases e:N b with
  |none=>rw[uB e]at q;exact(I.hok b o q).pW (λc v _ z=>k c v z) (λc z=>a z) λc f z=>a z
  |some o'=>rw[ze e]at q;cases q;exact(d b _ e).2
def HL(K:ai)(t:TA):TE:=λσ H Q=>t σ H λvs H1=>∃a b xs ys,vs=[.ref a,.ref b]/\SqL K H1 a xs/\SqL K H1 b ys/\xs.length<=1000/\∀H' p ws,aY H1 H'->H1 p=none->H' p<*(.lst ws)->ws.length=min xs.length ys.length->
 (∀(j:Nat)(x y:V),xs[j]?<*x->ys[j]?<*y->∃q,ws[j]?<*(.ref q)/\H1 q=none/\H' q<*(.tup [x,y]))->Q (.ref p) H'
abbrev zN(S n0 n:Nat)(xs ys:List V):Hp:=λb=>if b=S then some (.lst ((bg n).map λj=>V.ref (n0+j)))else if n0<=b/\b-n0<n then some (.tup [xs.getD (b-n0) .non,ys.getD (b-n0) .non])else none
theorem xy:∀(l:List Nat)(a:Nat),bZ (l.map λj=>V.ref (a+j)) (l.map λj=>bo (a+j))
 | [],_=>.nil
 |_::l,a=>.cons rfl (xy l a)
theorem pe_lzip{l m:Expr}{t:TA}(hc:X.calm=true)(hg:Gl X "zip")(hm:X.mg "zip"=none)(a1:Gl X "list")(a3:X.mg "list"=none)(r:PA X [l,m] t)(hs:bx [l,m] X.env=(false,eval l X.env)::bx [m] X.env)(a5:(backTo pos' (bx [m] X.env)).any (·.1)=false):
  PE X (.Call (.Name "list" p) [.Call (.Name "zip" p') [l,m] [] pos'] [] pos) (HL X.K t):=by
 intro b2 s σ H b5 I h;refine Call_ (jj I a1 a3 fB (bT (i4 ?_) rfl rfl));refine Call_ (jj I hg hm boot_zip (bT (thn (r pos' b2 s σ H _ I h) λus s1 ⟨vs,W,q,r1,q1⟩=>?_) hs a5));obtain⟨a,b,d,f,rfl,a6,a7,hl,b3⟩:=q1;obtain⟨u,b7,rfl,J,rv⟩:=r1.two;cases J;cases rv;obtain⟨O,Q,F,hz⟩:=q.list a6;obtain⟨P,R,G,b6⟩:=q.list a7;have e1:=Q.length;have x:=R.length;refine call_zip_2 F.isList G.isList λy T z2 z3 z4 z5 U E=>?_;refine ag ?_;have v:a<⇑s1:=by obtain⟨o,_,e,_⟩:=F;exact aD e
 have w:b<⇑s1:=by obtain⟨o,_,e,_⟩:=G;exact aD e
 have D:uo (⇑s1+4) (⇑s1+2) (⇑s1+3) ⇑s1 (⇑s1+1) a b:=by
  have lt:∀{c:Nat}(k:Nat),c<⇑s1->c≠⇑s1+k:=λk h=>by lia
  have g:=Fo ⇑s1;exact(g.a1,g.a2,g.a3,g.a4,g.a5,g.a6,g.a7,g.a8,g.a9,g.a10,lt 4 v,lt 3 v,lt 0 v,lt 1 v,lt 4 w,lt 3 w,lt 0 w,lt 1 w,)
 refine w9 (s:={s1 with heap:=y}) (n:=min O.toArray.size P.toArray.size) (q.ok.hd hc) D rfl ?_ (λn0=>(.inl (rfl,T,_,_,z3,),z2,z4,z5,F.isList.at λo e=>E a o e,G.isList.at λo e=>E b o e,)) T ?_ λa0 Y Z b1 K r z=>?_;·rw[aI,aI];lia
 .intro c L;show c<y.objs.size;rw[U];simp only[aG,bu,or_false]at L;rcases L with rfl|rfl|rfl|rfl|rfl|rfl|rfl;·exact dB _
  .exact jd 'E' |> λh:⇑s1+2<⇑s1+2+3=>h
  .exact jd 'E' |> λh:⇑s1+3<⇑s1+3+2=>h
  .exact jd 'E'
  .exact jd 'E' |> λh:⇑s1+1<⇑s1+1+4=>h
  .exact xq _ v
  .exact xq _ w
 .have a8:({s1 with heap:=y}:Shared).heap.objs.size=⇑s1+5:=U;rw[a8]at K r z⊢;have a4:min O.toArray.size P.toArray.size=min d.length f.length:=by rw[aI,aI,e1,x]
  rw[a4]at r z;have b0:∀b u,s1.heap.get? b<*u->a0.get? b<*u:=λb u e=>b1 b u (λhm=>by
   have a2:=aD e;simp only[aG,bu,or_false]at hm;have ne:∀k:Nat,b≠⇑s1+k:=λk=>aK (xq k a2);rcases hm with hm|hm|hm|hm;·exact ne 4 hm
   .exact ne 3 hm
   .exact ne 0 hm
   .exact ne 1 hm) (E b u e)
  have C:∀b o,zN (⇑s1+5) (⇑s1+5+1) (min d.length f.length) d f b<*o->⇑s1<=b/\((b=⇑s1+5/\o=.lst ((bg (min d.length f.length)).map λj=>V.ref (⇑s1+5+1+j)))\/
    ∃j,j<min d.length f.length/\b=⇑s1+5+1+j/\o=.tup [d.getD j .non,f.getD j .non]):=λb o i=>by
   unfold zN at i;split at i;·rename_i hb;cases i;exact(by rw[hb];exact cL _ _,.inl (hb,rfl,),)
   .split at i;·rename_i hb;cases i;exact(aR (aR (cL _ 5) (dq _)) hb.1,.inr (_,hb.2,(Nat.add_sub_cancel' hb.1).symm,rfl,),)
    .cases i
  have at':∀{zs:List V}{j:Nat},j<zs.length->zs[j]?<*(zs.getD j .non):=λh=>by rw[aJ,aj h];rfl
  refine⟨.ref _,ovr (zN (⇑s1+5) (⇑s1+5+1) (min d.length f.length) d f) W,q.lay (t':=s1.toks) b0 λb o i=>((C b o i).1,?_,),rfl,b3 _ _ ((bg (min d.length f.length)).map λj=>V.ref (⇑s1+5+1+j)) (λb o e=>?_) (q.hok.fresh (cL _ _)) (ze (by unfold zN;rw[if_pos rfl])) 'F' λj b8 b9 A B=>(⇑s1+5+1+j,?_,q.hok.fresh (aR (aR (cL _ 5) (dq _)) (cL _ _)),ze ?_,)⟩
  .rcases(C b o i).2 with⟨rfl,rfl⟩ |⟨j,hj,rfl,rfl⟩;·refine(?_,Y.toList,Z,by rw[r];exact xy _ _,K,);rw[ah,dH,gA];lia
   .obtain⟨u,hu,J⟩:=Q.get (at' (zs:=d) (j:=j) 'D');obtain⟨S,a9,b4⟩:=R.get (at' (zs:=f) (j:=j) 'D');exact(by show 2<=sizeLine;decide,[u,S],.cons J (.cons b4 .nil),(_,z j hj u S ↥hu ↥a9,rfl,_,rfl,),)
  .cases x:zN (⇑s1+5) (⇑s1+5+1) (min d.length f.length) d f b with
   |none=>rw[uB x];exact e
   |some o'=>rw[q.hok.fresh (C b o' x).1]at e;cases e
  .have M:j<d.length:=(bp.mp A).1;have N:j<f.length:=(bp.mp B).1;rw[bP,rQ 'D'];rfl
  .have M:j<d.length:=(bp.mp A).1;have N:j<f.length:=(bp.mp B).1;unfold zN;rw[if_neg (cS (bj (dB _) (cL _ _))),Fy,if_pos (cL _ _,Nat.lt_min.mpr (M,N,),),aJ,aJ,A,B];rfl
end
end L2
namespace Q
def mE(xs:Array Nat):Prop:=xs.toList.Pairwise (·<·)
structure Parts(xs:Array Nat)(j p:Nat):Prop where
 le:p<=xs.size
 lo:∀i x,i<p->xs[i]?<*x->x<j
 hi:∀i x,p<=i->xs[i]?<*x->j<=x
def uw{xs:Array Nat}(h:mE xs){k x y:Nat}(e:i<k)(f:xs[i]?<*x)(j:xs[k]?<*y):x<y:=by
 have g:xs.toList[i]?<*x:=by simpa using f
 have l:xs.toList[k]?<*y:=by simpa using j
 obtain⟨c,a⟩:=bp.mp g;obtain⟨d,b⟩:=bp.mp l;have :=b9.mp h i k c d e;rw[a,b]at this;exact this
theorem vJ{xs:Array Nat}(h:mE xs)(j:Nat):∀(fuel lo hi:Nat),hi-lo<=fuel->lo<=hi->hi<=xs.size->(∀i x,i<lo->xs[i]?<*x->x<j)->(∀i x,hi<=i->xs[i]?<*x->j<=x)->Parts xs j (zY xs j fuel lo hi)
 | 0,lo,hi,hf,hl,hs,a,b=>by
  have e:lo=hi:=by lia
  subst e;exact(hs,a,b,)
 |fuel+1,lo,hi,hf,hl,hs,a,b=>by
  unfold zY;by_cases c:lo<hi
  .rw[if_pos c];have g:(lo+hi)/2<xs.size:=by lia
   have f:xs[(lo+hi)/2]?<*xs[(lo+hi)/2]:=by simp[g]
   have l:xs.getD ((lo+hi)/2) j=xs[(lo+hi)/2]:=by simp[K9,g]
   simp only[l];by_cases d:xs[(lo+hi)/2]<j
   .rw[if_pos d];refine vJ h j fuel _ hi 'D' 'D' hs (λi x m e=>?_) b;by_cases k:i=(lo+hi)/2;·subst k;rw[f]at e;cases e;exact d
    .exact fv (uw h 'D' e f) d
   .rw[if_neg d];refine vJ h j fuel lo _ 'D' 'D' 'D' a λi x m e=>?_;by_cases k:i=(lo+hi)/2;·subst k;rw[f]at e;cases e;lia
    .have :=uw h (by lia:(lo+hi)/2<i) f e;lia
  .rw[if_neg c];have e:lo=hi:=by lia
   subst e;exact(hs,a,b,)
def kX{xs:Array Nat}(h:mE xs)(j:Nat):Parts xs j (cD xs j):=
 vJ h j xs.size 0 xs.size 'D' (a0 _) (aE _) (λi x a _=>absurd a (i7 _)) λi x a e=>by have :=(cI.mp e).1;lia
def Bv{a:Type}(xs:Array a)(p:Nat)(x:a):(rO xs p x).toList=xs.toList.take p++x::xs.toList.drop p:=by unfold rO;simp;exact fi 'F'
theorem AQ{xs:Array Nat}(h:mE xs)(g:∀i:Nat,xs[i]? ≠some j):mE (rO xs (cD xs j) j):=by
 have P:=kX h j;unfold mE;rw[Bv];have b:=h;unfold mE at b;rw[cN];refine(b.sublist (gG _ _),lN.mpr (λy hy=>?_,b.sublist (List.drop_sublist _ _),),λx l y hy=>?_,)
 .obtain⟨i,a⟩:=pQ.mp hy;rw[lQ]at a;have e:xs[cD xs j+i]?<*y:=by simpa using a
  have :=P.hi _ _ (cL _ _) e;have ne:y≠j:=λz=>g _ (z▸e);lia
 .obtain⟨i,a⟩:=pQ.mp l;have c:i<cD xs j:=by have :=(bp.mp a).1;rw[aM]at this;lia
  rw[Cn c]at a;have e:xs[i]?<*x:=by simpa using a
  have m:=P.lo _ _ c e;rcases aG.mp hy with rfl|hy;·exact m
  .obtain⟨k,d⟩:=pQ.mp hy;rw[lQ]at d;have f:xs[cD xs j+k]?<*y:=by simpa using d
   have :=P.hi _ _ (cL _ _) f;lia
theorem DV{xs:Array Nat}(h:mE xs){x:Nat}(e:xs[i]?<*x):cD xs (x+1)=i+1:=by
 have P:=kX h (x+1);have g:=(cI.mp e).1;apply z9
 .apply iF
  intro c;have f:i+1<xs.size:=bj c P.le;have d:xs[i+1]?<*xs[i+1]:=by simp[f]
  have a:=P.lo _ _ c d;have b:=uw h (dB i) e d;lia
 .apply iF
  intro c;have :=P.hi i x 'D' e;lia
theorem DU{xs:Array Nat}(h:mE xs):cD xs 0=0:=by have P:=kX h 0;apply z9 _ (a0 _);apply iF;intro c;have a:0<xs.size:=bj c P.le;have :=P.lo 0 xs[0] c (by simp[a]);lia
theorem GZ{xs:Array Nat}(h:mE xs){x:Nat}(e:xs[i]?<*x):cD xs x=i:=by
 have P:=kX h x;apply z9
 .apply iF
  intro c;exact eN _ (P.lo i x c e)
 .apply iF
  intro c;have f:cD xs x<xs.size:=fv c (cI.mp e).1;have d:xs[cD xs x]?<*xs[cD xs x]:=by simp[f]
  have a:=P.hi _ _ (aE _) d;have b:=uw h c d e;lia
def C1(n:Nat):mE (Array.range n):=by unfold mE;rw[Array.toList_range];exact Fz
structure kK(t:bO):Prop where
 up:mE t.place
 no:t.dummies= #[]
def slot_no{t:bO}(T:kK t)(j:Nat):t.slot j≠.dummy:=by
 unfold bO.slot;simp only[T.no];split;·simp
 .split;·rename_i h;exact absurd h (by simp[Ad])
  .simp
def FQ{t:bO}(T:kK t)(h:t.slot j=.empty):∀i:Nat,t.place[i]? ≠some j:=λi e=>by have :=GZ T.up e;unfold bO.slot at h;simp only[this,e,beq_self_eq_true,if_true]at h;cases h
def xj(t:bO)(p:bO.Probe):(t.advance p).dummy=p.dummy:=by unfold bO.advance;split <;>rfl
theorem vc{t:bO}(T:kK t){f:Nat->Int}{h:Int}{d:Option Nat}:∀(fuel:Nat)(p:bO.Probe),p.dummy=none->oZ t f h fuel p<*(.empty j d)->t.slot j=.empty/\d=none
 | 0,p,_,e=>by simp[oZ]at e
 |fuel+1,p,hp,e=>by
  unfold oZ at e;cases hs:t.slot p.j with
  |empty=>rw[hs]at e;simp only[eL,bO.Met.empty.injEq]at e;exact⟨by rw[<-e.1];exact hs,by rw[<-e.2];exact hp⟩
  |dummy=>exact absurd hs (slot_no T _)
  |live i=>
   rw[hs]at e;simp only at e;split at e;·cases e
   .exact vc T fuel _ (by rw[xj];exact hp) e
def wX{t:bO}(T:kK t){h:Int}{b:Bool}(e:t.freeSlot h<*(j,b)):(∀i:Nat,t.place[i]? ≠some j)/\b=false:=by
 unfold bO.freeSlot at e;split at e;·rename_i j' d hm;unfold bO.probe at hm;obtain⟨a,c⟩:=vc T _ _ (by rfl) hm;subst c;simp only[uO,Option.isSome_none,eL,Prod.mk.injEq]at e;obtain⟨rfl,rfl⟩:=e;exact(FQ T a,rfl,)
 .cases e
def jK(t:bO)(n:Nat):kK (t.standIn n):=(C1 n,rfl,)
def IV{t:bO}(T:kK t)(a:∀i:Nat,t.place[i]? ≠some j):kK (t.put j).1:=by refine(AQ T.up a,?_,);show(if Ad t.dummies j=true then _ else t.dummies)= #[];rw[T.no];simp[Ad]
def vf{t:bO}(T:kK t)(n:Nat):kK (t.orStandIn n):=by
 unfold Fw;split;·exact T
 .exact jK t n
def Bs{t:bO}(T:kK t)(a:Array (Int×Value))(h:Int)(x:Value):kK (layNew t a h x).2.1/\(layNew t a h x).2.2.1=false:=by
 unfold layNew;split;·rename_i j b e;obtain⟨c,d⟩:=wX T e;subst d;exact(vf (IV T c) _,rfl,)
 .exact(jK t _,rfl,)
def xS{mask finger moves:Nat}{plain:Bool}{f:Array Int}{t:bO}{g:Array Nat}(h:bO.laid mask finger moves led plain f<*(t,g)):kK t/\t.led=led/\t.plain=plain:=by
 unfold bO.laid at h;cases e:bO.layClean mask f with
 |none=>rw[e]at h;cases h
 |some owner=>
  rw[e]at h;have i:some (({mask,place:=(((bg (mask+1)).filterMap λj=>(owner.getD j none).map (j,·)).map (·.1)).toArray,dummies:= #[],finger,led,moves,plain}:bO),(((bg (mask+1)).filterMap λj=>(owner.getD j none).map (j,·)).map (·.2)).toArray)<*(t,g):=h;have k:=(uN (bC i)).1;subst k;refine((?_,rfl,),rfl,rfl,);show((((bg (mask+1)).filterMap λj=>(owner.getD j none).map (j,·)).map (·.1)).toArray).toList.Pairwise (·<·);rw[K4,jr,List.pairwise_filterMap];refine Fz.imp λ{a b} l x c y d=>?_;cases ha:owner.getD a none with
  |none=>rw[ha]at c;cases c
  |some u=>
   cases hb:owner.getD b none with
   |none=>rw[hb]at d;cases d
   |some v=>rw[ha]at c;rw[hb]at d;cases c;cases d;exact l
def wO(t:bO)(a:Array (Int×Value))(b:Nat):kK (qp t a b).2.1:=by
 unfold qp;split
 .rename_i t' order e;simp only;split;·unfold KZ at e;exact(xS e).1
  .exact jK t _
 .exact jK t _
theorem put_led(t:bO)(j:Nat):(t.put j).1.led=t.led:=rfl
def wV(t:bO)(n:Nat):(t.orStandIn n).led=t.led:=by unfold Fw;split <;>rfl
def Dr(t:bO)(a:Array (Int×Value))(h:Int)(x:Value):(layNew t a h x).2.1.led=t.led:=by
 unfold layNew;split;·exact(wV _ _).trans (put_led _ _)
 .rfl
def yV(t:bO)(a:Array (Int×Value))(b:Nat):(qp t a b).2.1.led=t.led:=by
 unfold qp;split
 .rename_i t' order e;simp only;split;·unfold KZ at e;exact(xS e).2.1
  .rfl
 .rfl
section
variable {K:Type}[DecidableEq K]{knd:KeyKind prog w K}{E:'I'}{s:Shared}
def ug(knd:KeyKind prog w K)(h:Heap)(a:Addr)(S:K->Bool)(n:Nat)(led:Bool):Prop:=
 ∃o es ep t,h.get? a<*o/\o.ExactSet/\o.data=.set es ep t/\ElemsOf knd es.toList/\(∀k,S k=true↔∃e∈es.toList,knd.is k e.2=true)/\es.size<i3/\t.fits es.size=true/\es.size=n/\kK t/\t.led=led
def u0{o:Obj}{t:bO}(n:h.get? a<*o)(l:o.ExactSet)(m:o.data=.set es ep t){b:Array (Int×Value)}{t':bO}{c:K->Bool}(i:ElemsOf knd b.toList)(j:∀k,c k=true↔∃e∈b.toList,knd.is k e.2=true)(d:b.size<i3)(f:t'.fits b.size=true)(p:kK t'):
  ug knd (h.update a (Obj.putSet b t')) a c b.size t'.led:=by
 have g:=(SetOf_store (knd:=knd) n l m i j d f).1;exact(_,b,ep+1,t',g,l,rfl,i,j,d,f,rfl,p,rfl,)
def BW{g:Bool->Sem Unit}(I:∀(b:Bool)(F:Shared)(y:Unit->Shared->Prop),y () F->'B' (g b) y E F){o:Obj}{t:bO}(r:s.heap.get? a<*o)(v:o.ExactSet)(l:o.data=.set es ep t)
  {c:bO}{z:K->Bool}(n:ElemsOf knd av.toList)(p:∀i,z i=true↔∃e∈av.toList,knd.is i e.2=true)(f:av.size<i3)(B:c.fits av.size=true)(J:kK c){L:Bool}{R:Option Bool->Shared->Prop}
  (h:∀h',cR a s.heap h'->ug knd h' a z av.size c.led->R (some true) {s with heap:=h'}):
  'B' (do
    storeSet a av c
    if(!L&&c.tooFull)=true then do
      g (qp c av (fA av.size)).2.2
      storeSet a (qp c av (fA av.size)).1 (qp c av (fA av.size)).2.1
      pure (some true)
     else pure (some true)) R E s:=by
 refine ae (wpAny_storeSet_of r l ?_ (oY f));have C:=(SetOf_store (knd:=knd) r v l n p f B).1;have M:=u0 (knd:=knd) r v l n p f B J;have D:=eM s.heap a (Obj.putSet av c);split
 .have d:=relayAll_perm c av (fA av.size);have u:=relayAll_fits c av (fA av.size);have k:=wO c av (fA av.size);have j:=yV c av (fA av.size);generalize qp c av (fA av.size)=Rl at d u k j⊢;obtain⟨H,t3,N⟩:=Rl;dsimp only at d u k j⊢;have x:H.size=av.size:=by rw[<-aO,d.length_eq,aO]
  refine ae (I _ _ _ (ae (wpAny_storeSet_of C rfl ?_ (oY (by rw[x];exact f)))));have G:=u0 (knd:=knd) C v rfl (n.perm d) (λi=>(p i).trans (λ⟨e,m,q⟩=>(e,d.mem_iff.mpr m,q,),λ⟨e,m,q⟩=>(e,d.mem_iff.mp m,q,),)) (by rw[x];exact f) u k;rw[x,j]at G;exact ag (h _ (D.trans (eM _ a _)) G)
 .exact ag (h _ D M)
def C9{t:bO}(T:kK t):kK {t with plain:=false}:=(T.up,T.no,)
def addX{S:K->Bool}{k:K}{x:Value}{Q:Bool->Shared->Prop}(H:knd.is k x=true)(J:x.scannable=true)(W:ug knd s.heap a S n led)(P:n+1<i3)
  (h:∀h',cR a s.heap h'->ug knd h' a (λc=>S c||decide (c=k)) (if S k then n else n+1) led->Q (!S k) {s with heap:=h'}):
  'B' (setAddHashed a x (knd.hash k)) Q E s:=by
 obtain⟨o,d,V,t,v,M,r,C,D,O,G,I,R,B⟩:=W;have a1:d.size+1<i3:=by rw[I];exact P
 unfold setAddHashed setAddHashedIn;refine bq (ae (ij v r G ?_));dsimp only;rw[byScan_of J O C];simp only[↓reduceIte];unfold setAddByScan;refine ae ?_;refine ae (dZ (ae (wpAny_setScan_of H v r G C ?_)));cases hr:List.findIdx? (λe=>knd.is k e.2) d.toList with
 |some j=>
  dsimp only;obtain⟨X,f,_⟩:=List.findIdx?_eq_some_iff_getElem.mp hr;have m:S k=true:=(D k).mpr (d.toList[j],bF X,f,);refine ag (ag ?_);have :=h s.heap (Ca a s.heap) (o,d,V,t,v,M,r,C,λc=>by rw[du,decide_eq_true_eq,<-D c];exact(λq=>q.elim id (λe=>e▸m),.inl,),O,G,by rw[m];exact I,R,B,)
  rw[m]at this;exact this
 |none=>
  dsimp only;have m:S k=false:=by
   cases q:S k with
   |false=>rfl
   |true=>obtain⟨e,F,Z⟩:=(D k).mp q;have :=List.findIdx?_eq_none_iff.mp hr e F;rw[Z]at this;cases this
  have Y:∀(b:Bool){z:Shared}{g:Unit->Shared->Prop},g () z->'B' (match b with |true=>rule "set.scan.the-table-gave-way" |false=>pure ()) g E z:=λb z g q=>by cases b<;>first |exact ag q|exact dZ q
  have f:=layNew_perm t d (knd.hash k) x;have u:=layNew_fits t d (knd.hash k) x;have p:=(Bs R d (knd.hash k) x).1;have l:=Dr t d (knd.hash k) x;generalize layNew t d (knd.hash k) x=L at f u p l⊢;obtain⟨i,t1,wd,a0⟩:=L;dsimp only at f u p l⊢;rw[eW]at f;have l1:ElemsOf knd i.toList:=(C.push H J).perm f;have F:∀c,(S c||decide (c=k))=true↔∃e∈i.toList,knd.is c e.2=true:=mem_push_iff H D f;have T:i.size=n+1:=by rw[<-aO,f.length_eq,aq,aO,I];rfl
  have N:i.size<i3:=by rw[T];exact P
  refine ae (Y _ ?_);have fin:∀h',cR a s.heap h'->ug knd h' a (λc=>S c||decide (c=k)) i.size led->Q true {s with heap:=h'}:=λh' y x=>by have :=h h' y;rw[m]at this;rw[T]at x;exact this x
  split
  .refine ae ?_;rw[hashByValue_scannable 8 J];refine ag (BW ?_ v M r l1 F N ?_ ?_ ?_);·intro b z g q;cases b<;>first |exact ag q|exact dZ q
   .split;·exact u
    .exact bO.fits_plain_off u
   .split;·exact p
    .exact C9 p
   .intro h' y x;refine ag (fin h' y ?_);split at x;·rw[l,B]at x;exact x
    .have U:({t1 with plain:=false}:bO).led=led:=l.trans B;rw[U]at x;exact x
  .refine ae (ag ?_);simp only[↓reduceIte];refine BW ?_ v M r l1 F N u p ?_;·intro b z g q;cases b<;>first |exact ag q|exact dZ q
   .intro h' y x;rw[l,B]at x;exact ag (fin h' y x)
end
end Q
set_option maxHeartbeats 3200000
namespace Q
open PySem.W L2
section
variable {R:Result->Shared->Prop}{I:Addr}{fp wr:List Addr}{G:Array uq->Array uq->Prop}{P:Nat->Value->Prop}{St:Nat->Shared->Prop}
theorem xG(W:WalksS prog w A.in1 I fp wr G n P St)(S:Addr)(h:S∉fp)(ks:List Key)(r:ks.length=n)(y:∀i v,P i v->∃k,ks[i]?<*k/\RelV (kV k) v)(d:n+1<i3):
  ∀(m i:Nat)(s:Shared),n-i=m->i<=n->St i s->ug (bH prog w) s.heap S (has (met (ks.take i))) (met (ks.take i)).length led->
   (∀s',Moved (S::wr) G s s'->ug (bH prog w) s'.heap S (has (met ks)) (met ks).length led->R (.ok (.ret .none)) s')->
   gh (model prog w) A (.builtin "set.update.loop" ([.ref S,.ref I],[],)) R s
 | 0,i,s,hm,hi,st,hS,hR=>by
  obtain rfl:i=n:=by lia
  rw[<-r,dv]at hS;refine eK nu ?_;rw[dh gr _];show wpAny _ A.in1 (pyNext (.ref I)>>=_) _ _ s;refine ae (W.done s _ _ st λs' g=>?_);obtain⟨o,c,a,t,f,p⟩:=hS;exact ag (hR s' (g.mono λb d=>aB _ d) (o,c,a,t,g.heap S _ (λz=>h (W.sub _ z)) f,p,))
 |m+1,i,s,hm,hi,st,hS,hR=>by
  have q:i<n:=by lia
  refine eK nu ?_;rw[dh gr _];show wpAny _ A.in1 (pyNext (.ref I)>>=_) _ _ s;refine ae (W.item i s _ _ q st λv s' D a1 g=>?_);obtain⟨k,Q,rv⟩:=y i v D;have E:ug (bH prog w) s'.heap S (has (met (ks.take i))) (met (ks.take i)).length led:=by obtain⟨o,c,a,t,f,p⟩:=hS;exact(o,c,a,t,g.heap S _ (λz=>h (W.sub _ z)) f,p,)
  have X:v.scannable=true:=by
   cases k with
   |inl j=>obtain⟨t,rfl⟩:=rv;rfl
   |inr x=>obtain⟨t,rfl⟩:=rv;rfl
  show wpAny _ A.in1 (holding [v] (setAdd S v)>>=_) _ _ s';refine ae (bq ?_);unfold setAdd;refine bq (ae ((bH prog w).pyHash (k:=k) (og rv) ?_));have T:=JR (ks.take i);rw[aM]at T;refine addX (knd:=bH prog w) (led:=led) (s:={s' with toks:=s'.toks+1}) (og rv) X E 'D' λC u F=>?_;have B:ks.take (i+1)=ks.take i++[k]:=by rw[dF,Q];rfl
  have H:ug (bH prog w) C S (has (met (ks.take (i+1)))) (met (ks.take (i+1))).length led:=by rw[B,JP];obtain⟨o,c,a,t,f,N,L,M,U,K,O,V,Y⟩:=F;refine(o,c,a,t,f,N,L,M,λj=>?_,K,O,by rw[Bh];exact V,Y,);rw[<-U j,oQ,Bk,du,oQ,decide_eq_true_eq]
  refine ag (fV gr _,xG W S h ks r y d m (i+1) _ 'D' q (W.frame _ s' _ _ a1 (dq _) λb l o e=>?_) H λa0 Z J=>?_,);·rw[u.2 b (λz:b=S=>h (by rw[<-z];exact l))];exact e
  .refine hR a0 (Moved.trans W.gtrans ((g.mono λb d=>aB _ d).then_heap (dq _) λb o l e=>?_) Z) J;rw[u.2 b (λz:b=S=>l (by rw[z];exact aw))];exact e
end
section
variable {E:'I'}{s:Shared}
def GO(a:Value)(h:Q₁ (.ref ⇑s) {s with heap:=s.heap.push (nF (!w.params.followText "set-order"))}):gh (model prog w) A (.call (.builtin "set.__new__") ([.type "set",a],[],)) (wants Q₁ E) s:=by refine Eb ?_;show wpAny _ A.in1 (do B4 "set.__new__" ([.type "set",a],[],);again (.builtin "set.__new__" ([.type "set",a],[],))) _ _ s;refine ae (uj (F.newCall_set_1 a) (ag (fV F.plain_set_new _,eK F.entry_set_new ?_,)));rw[dh F.plain_set_new _];unfold Builtin.«set.__new__» Builtin.Frozenset.newClass;have c:=sub_set_self;obtain⟨b,g,d,f,e⟩:=s;dsimp only;wp_walk;refine iZ (ag ?_);dsimp only;simp only[newObj];exact ae (wpAny_alloc (ag (ag h)))
def FV{P:Bool->Heap->Prop}{Q:'I'}(H:s.heap.IsList l items)
  (K:∀(led:Bool)(R:Result->Shared->Prop),(∀s',Moved (⇑s::[(s.heap.push (nF led)).objs.size]) (λa b=>b=a) {s with heap:=(s.heap.push (nF led)).push {cls:=.type "list_iterator",data:=.fields #[.ref l,.int 0 0]}} s'->P led s'.heap->R (.ok (.ret .none)) s')->gh (model prog w) A.in1.in1 (.builtin "set.update.loop" ([.ref ⇑s,.ref (s.heap.push (nF led)).objs.size],[],)) R {s with heap:=(s.heap.push (nF led)).push {cls:=.type "list_iterator",data:=.fields #[.ref l,.int 0 0]}})
  (h:∀(h':Heap)(j:Nat),P (!w.params.followText "set-order") h'->(∀b o,b<⇑s->s.heap.get? b<*o->h'.get? b<*o)->Q (.ref ⇑s) {s with heap:=h',toks:=j}):
  'B' (call (.type "set") [.ref l]) Q E s:=by
 have d:=F.called_set;obtain⟨c,tl,a1⟩:=d.mro;have Y:=d.made;have Z:=d.sub;have f3:=d.notType;have f4:=d.canCreate;have f5:=F.typeCall_set_1 (.ref l);refine jx (Eb ?_);show wpAny _ _ (callAny (.type "set") _) _ _ _;refine ag (t4 _ (by decide+kernel),eK F.entry_type_call ?_,);rw[Around.under_plain (weight_type_call_type "set" [.ref l] []) rfl];repeat(any_goals (first |assumption|wp_step))
 refine jY (GO (.ref l) (E:=E) (Q₁:=λobj q=>∃led:Bool,led=(!w.params.followText "set-order")/\obj=.ref ⇑s/\q={s with heap:=s.heap.push (nF led)}) (_,rfl,rfl,rfl,)) λr q f=>?_;rcases r with e|fl;·exact f
 rcases fl with _|_|_|obj;·exact f.elim
 .exact f.elim
 .exact f.elim
 obtain⟨led,J,rfl,rfl⟩:=f;rw[<-J]at h;have y:(s.heap.push (nF led)).get? ⇑s<*(nF led):=aF _ rfl;have B:rK {s with heap:=s.heap.push (nF led)} (.ref ⇑s) "set":=(_,y,rfl,);have f6:=d.init.lookup;have f7:=d.init.bind (.ref ⇑s);repeat(any_goals (first |assumption|wp_step))
 refine jY (fN (R:=wants (λr t=>r=.none/\∃h' j,t={s with heap:=h',toks:=j}/\P led h'/\
  (∀b o,b<⇑s->s.heap.get? b<*o->h'.get? b<*o)) E) d.init.plain F.entry_set_init (check_set_init_1 B ?_)) λW t g=>?_
 .obtain⟨T,n,C,m,D⟩:=H;obtain⟨N,O,S,V⟩:=T;obtain rfl:N=.type "list":=C;obtain rfl:S=.seq items m:=D;have L:(s.heap.push (nF led)).get? l<*{cls:=.type "list",dict:=O,data:=.seq items m,slots:=V}:=af _ n;have g1:=F.sub_list_set;have g2:=F.sub_list_frozenset;have g3:(dD "list"==dD "dict")=false:=by decide
  have I:(s.heap.push (nF led)).IsList l items:=(_,L,rfl,m,rfl,);unfold Builtin.«set.__init__» noKeywords Builtin.Frozenset.updateFrom;generalize hPI:pyIter=PI
  wp_walk
  subst hPI;refine jR I (ae (wpAny_runValue ?_));have a0:l<⇑s:=aD n;have M:(s.heap.push (nF led)).objs.size=⇑s+1:=cK _ _;refine K led _ λs' i k=>?_
  .obtain⟨h',x,u,X,U⟩:=s';obtain rfl:x=s.gens:=i.gens;obtain rfl:u=s.drawn:=i.drawn;obtain rfl:U=s.os:=i.os;show wpAny _ _ _ _ _ _;refine ag ?_;show wpAny _ _ (ret cf) _ _ _;refine ag (rfl,h',X,rfl,k,λb o p e=>i.heap b o (λz=>?_) (af _ (af _ e)),);rcases aG.mp z with z|z;·exact aK p z
   .exact aK (bU p) ((aC.mp z).trans M)
 .rcases W with e|fl2;·exact g
  rcases fl2 with _|_|_|v;·exact g.elim
  .exact g.elim
  .exact g.elim
  obtain⟨rfl,h',j,rfl,k,G⟩:=g;repeat(any_goals (first |assumption|wp_step))
  exact h _ _ k G
def FU{ks:List Key}{Q:'I'}(p:A.handled=none)(a:s.heap.IsList l items)(q:ks.length=items.size)
  (u:∀(i:Nat)(v:Value),items[i]?<*v->∃k,ks[i]?<*k/\RelV (kV k) v)(m:items.size+1<i3)
  (h:∀(h':Heap)(x:Nat),ug (bH prog w) h' ⇑s (has (met ks)) (met ks).length (!w.params.followText "set-order")->(∀b o,b<⇑s->s.heap.get? b<*o->h'.get? b<*o)->Q (.ref ⇑s) {s with heap:=h',toks:=x}):
  'B' (call (.type "set") [.ref l]) Q E s:=by
 have c:l<⇑s:=let⟨_,e,_⟩:=a;aD e;refine FV (P:=λled h=>ug (bH prog w) h ⇑s (has (met ks)) (met ks).length led) a (λled R g=>?_) h;have f:A.in1.in1.in1.handled=none:=by simp[p]
 have d:(s.heap.push (nF led)).objs.size=⇑s+1:=cK _ _;have r:l≠(s.heap.push (nF led)).objs.size:=by rw[d];exact aK (bU c)
 have t:⇑s∉[(s.heap.push (nF led)).objs.size,l]:=by
  rw[d];intro z;rcases aG.mp z with z|z;·exact aK (dB _) z
  .exact cS c (aC.mp z)
 have j:(s.heap.push (nF led)).get? ⇑s<*(nF led):=aF _ rfl;refine xG (led:=led) ((Walks.list f _ l r items).toS) ⇑s t ks q u m (items.size-0) 0 _ 'D' (a0 _) ((_,aF _ rfl,rfl,rfl,),(a.push _).push _,) ?_ g;exact(nF led,#[],0,_,af _ j,(rfl,rfl,rfl,),rfl,λe n=>by simp at n,λk=>by simp[met,has],'E',by rfl,rfl,(ki,rfl,),rfl,)
end
end Q
set_option maxHeartbeats 1000000
namespace Q
theorem qg{d:Type}:∀{l:List d}{i:Nat}(h:i<l.length),(l[i]::l.eraseIdx i).Perm l
 |a::l,0,_=>fw _
 |a::l,i+1,h=>by
  have b:i<l.length:=by simpa using h
  have c:=qg b;show(l[i]::a::l.eraseIdx i).Perm (a::l);exact(K7 _ _ _).trans (c.cons a)
theorem EJ{d:Type}(next :Nat->Nat):∀(fuel k:Nat)(b:List d)(out:Array d),b.length<=fuel->(zU next fuel k b out).toList.Perm (out.toList++b)
 | 0,k,b,out,h=>by have e:b=[]:=cn.mp 'D';subst e;simp[zU]
 |fuel+1,k,b,out,h=>by
  unfold zU;cases b with
  |nil=>simp
  |cons a l=>
   have c:next k%(a::l).length<(a::l).length:=Nat.mod_lt _ 'F'
   rw[aj c];dsimp only;refine(EJ next fuel (k+1) _ _ (by rw[Ai c];simp at h⊢;lia)).trans ?_;rw[eW,bQ];exact List.Perm.append_left _ (qg c)
def oJ{a:Type}(next :Nat->Nat)(xs:Array a):(jy next xs).toList.Perm xs.toList:=by unfold jy;exact(EJ next xs.size 0 xs.toList #[] 'F').trans 'F'
section
variable {M:Model}{E:'I'}
def wL{src:Source}{Q:Nat->Shared->Prop}(h:n≠0)(q:∀i d,i<n->Q i {s with drawn:=d}):wpAny M A (choose src n) Q E s:=λb p a=>by unfold choose;rw[Sem.wp_choose];exact(h,q _ _ (Nat.mod_lt _ (Nat.pos_of_ne_zero h)),)
theorem x9{c:Type}:∀(n:Nat)(xs:List c)(s:Shared)(Q:List c->Shared->Prop),xs.length<=n->(∀ys d,ys.Perm xs->Q ys {s with drawn:=d})->wpAny M A (drawOrder n xs) Q E s
 | 0,xs,s,Q,h,q=>by have e:xs=[]:=cn.mp 'D';subst e;unfold drawOrder;exact ag (q [] s.drawn (fw _))
 |n+1,[],s,Q,h,q=>by unfold drawOrder;exact ag (q [] s.drawn (fw _))
 |n+1,a::l,s,Q,h,q=>by unfold drawOrder;refine ae (wL 'F' λi d b=>?_);rw[aj b];dsimp only;refine ae (x9 n _ _ _ (by rw[Ai b];simp at h⊢;lia) λys f g=>ag ?_);exact q _ f ((g.cons _).trans (qg b))
end
end Q
set_option maxHeartbeats 3200000
namespace Q
open PySem.W L2
def fH:Slot "set_iterator" "__next__" "set_iterator.__next__":=
 .of (owner:="set_iterator") (n:="__next__") (by rw[fF,dQ];kernel_rfl) (by decide+kernel) (by decide+kernel) (by decide+kernel) (by first |exact .inl (by decide+kernel) |exact .inr (by decide+kernel)) (by rw[jV];kernel_rfl)
def pE:entryFor table "set_iterator.__next__"<*Builtin.«set_iterator.__next__»:=entryFor_of_tree 'G'
def rB(a:Value):argsOk "set_iterator.__next__" ([a],[],):=by unfold argsOk;kernel_rfl
def uf:entryFor table "set.__iter__"<*Builtin.«frozenset.__iter__»:=entryFor_alias (id':="frozenset.__iter__") 'G' rfl (by decide+kernel) 'G'
noncomputable abbrev siO(S:Addr)(first :Value)(i n ep:Nat):Obj:={cls:=.type "set_iterator",dict:=none,data:=.fields #[first,.int i 0,.ref S,.int n 0,.int ep 0],slots:= #[]}
section
variable {E:'I'}{s:Shared}
abbrev jm(es:Array (Int×Value))(t:bO):Bool:= !t.plain&&es.size>1
def qw{o:Obj}{t:bO}{Q:Bool->Shared->Prop}(d:s.heap.get? a<*o)(b:o.data=.set es ep t)(c:t.fits es.size=true)(h:Q (!w.params.followText "set-order"&&jm es t) s):
  'B' (setDrawn a) Q E s:=by
 unfold setDrawn Ha;refine ae (ij d b c ?_);dsimp only;refine ae (ae (iZ (ag (ag ?_))));exact h
def J2{o:Obj}{t:bO}{Q:'I'}(c:s.heap.get? S<*o)(j:o.cls=.type "set")(b:o.data=.set es ep t)(a:t.fits es.size=true)(m:es.size<i3)
  (g:(!w.params.followText "set-order"&&jm es t)=false->Q (.ref ⇑s) {s with heap:=s.heap.push (siO S (.int 0 0) 0 es.size ep)})
  (h:(!w.params.followText "set-order"&&jm es t)=true->∀(ps:List Nat)(d:Drawn),ps.Perm (bg es.size)->Q (.ref (⇑s+1)) {s with drawn:=d,heap:=(s.heap.push {cls:=.type "tuple",data:=.seq (ps.map λ(i:Nat)=>rawInt i).toArray}).push (siO S (.ref ⇑s) 0 es.size ep)}):
  'B' (pyIter (.ref S)) Q E s:=by
 have e:s.TypeIs (.ref S) "set":=(o,c,j,);refine zR e F.slot_set_iter (cA F.slot_set_iter e uf ?_ (F.args_set_iter_1 _));unfold Builtin.«frozenset.__iter__» Builtin.Frozenset.slot0 Builtin.Frozenset.sizeOf
 wp_walk
 have k:(t.place.size != es.size||decide (t.fill>t.mask))=false:=by simp only[bO.fits,aN,beq_iff_eq,decide_eq_true_eq]at a;simp[a.1,Nat.not_lt.mpr a.2]
 rw[b];dsimp only;rw[if_neg (by rw[k];decide)];refine ag (ag (ag ?_));refine ae (qw c b a ?_);dsimp only;cases hb:(!w.params.followText "set-order"&&jm es t)with
 |false=>rw[if_neg 'E'];refine ae (ag (ae (wpAny_setEpoch_of c b a ?_)));refine ae (ck (ag (_,rfl,"set_iterator",_,(_,aF _ rfl,rfl,),fH.lookup,g hb,)))
 |true=>rw[if_pos rfl];refine ae (x9 _ _ _ _ 'F' λps d f=>?_);refine ae (ck ?_ (by show(ps.map λ(i:Nat)=>rawInt i).toArray.size<=sizeLine;rw[aI,ah,f.length_eq,dH];exact oY m));have l:(s.heap.push {cls:=.type "tuple",data:=.seq (ps.map λ(i:Nat)=>rawInt i).toArray}).get? S<*o:=af _ c;refine ae (wpAny_setEpoch_of (s:={s with drawn:=d,heap:=s.heap.push {cls:=.type "tuple",data:=.seq (ps.map λ(i:Nat)=>rawInt i).toArray}}) l b a ?_);have n:(s.heap.push {cls:=.type "tuple",data:=.seq (ps.map λ(i:Nat)=>rawInt i).toArray}).objs.size=⇑s+1:=cK ..;refine ae (ck (ag (_,rfl,"set_iterator",_,(_,aF _ rfl,rfl,),fH.lookup,?_,)));have :=h hb ps d f;rw[<-n]at this;exact this
end
section
variable {E:'I'}{s:Shared}
structure kY(h:Heap)(S:Addr)(es:Array (Int×Value))(ep:Nat)(t:bO):Prop where
 ob:∃o,h.get? S<*o/\o.cls=.type "set"/\o.data=.set es ep t
 fit:t.fits es.size=true
def j9{first :Value}{t:bO}{Q:fP->Shared->Prop}(hi:s.heap.get? I<*(siO S first i es.size ep))(d:kY s.heap S es ep t)
  (h:'B' (match first with
   |.int slot _=>do
    match<-setNext S slot.toNat i ep with
    |some (x,next)=>do
     lI (.ref I) 0 (rawInt next)
     lI (.ref I) 1 (rawInt ((i:Int)+1))
     ret x
    |none=>do
     lI (.ref I) 2 .none
     zT (<-newExc (.type "StopIteration") [])
   |_=>do
    let some places<-seqItems? first |unsupported "internal:set_iterator"
    match places[i]? with
    |some (.int place _)=>do
     let x<-setNextDrawn S place.toNat ep
     lI (.ref I) 1 (rawInt ((i:Int)+1))
     ret x
    |some _=>unsupported "internal:set_iterator"
    |none=>do
     lI (.ref I) 0 (rawInt 0)
     lI (.ref I) 2 .none
     zT (<-newExc (.type "StopIteration") [])) Q E s):
  'B' (Builtin.«set_iterator.__next__» ([.ref I],[],)) Q E s:=by
 obtain⟨⟨o,c,e,a⟩,b⟩:=d;unfold Builtin.«set_iterator.__next__»;show wpAny _ _ (fieldsOf (.ref I)>>=_) _ _ _;refine ae (G9 hi rfl ?_);dsimp only;refine ae (wpAny_setEntries_of c a b ?_);rw[if_neg 'F'];exact h
def nxA{k:Nat}{t:bO}{o:Obj}{Q:Option (Value×Nat)->Shared->Prop}(d:w.params.followText "set-order"=true)(c:s.heap.get? S<*o)(a:o.data=.set es ep t)(b:t.fits es.size=true)
  (q:Q ((jy (w.params.setOrder S ep) es)[i]?.map λe=>(e.2,k)) s):'B' (setNext S k i ep) Q E s:=by
 unfold setNext Ha;refine ae (ij c a b ?_);dsimp only;refine ae (ae (iZ (ag ?_)));dsimp only;rw[show(model prog w).w.params.followText "set-order"=true from d];simp only[if_true,bne_self_eq_false,b8,if_false];refine ae ?_;unfold setWalk Ha;refine ae (ij c a b ?_);dsimp only;refine ae (ae (iZ (ag ?_)));dsimp only;rw[show(model prog w).w.params.followText "set-order"=true from d];simp only[if_true];exact ae (iZ (ag (ag q)))
def nxB{k:Nat}{t:bO}{o:Obj}{Q:Option (Value×Nat)->Shared->Prop}(l:w.params.followText "set-order"=false)(f:jm es t=false)(g:t.led=true)(h:s.heap.get? S<*o)(e:o.data=.set es ep t)(a:t.fits es.size=true)(c:cD t.place k=i)
  (m:∀x j,es[i]?<*x->t.place[i]?<*j->Q (some (x.2,j+1)) s)(p:es[i]? =none->Q none s):'B' (setNext S k n ep) Q E s:=by
 unfold setNext Ha;refine ae (ij h e a ?_);dsimp only;refine ae (ae (iZ (ag ?_)));dsimp only;rw[show(model prog w).w.params.followText "set-order"=false from l];simp only[b8,if_false];rw[if_neg (λz=>by have d:jm es t=true:=z;rw[f]at d;cases d)];refine ae (show wpAny _ _ (if(!t.led&& !es.isEmpty)=true then unsupported "set:maker-not-led" else pure ()) _ _ _ from ?_);rw[if_neg (by rw[g];simp)];refine ag (ag ?_);cases hx:es[i]? with
 |none=>simp only[c,hx];exact p hx
 |some x=>
  have r:t.place.size=es.size:=by simp only[bO.fits,aN,beq_iff_eq]at a;exact a.1
  have q:i<es.size:=(cI.mp hx).1;have b:t.place[i]?<*(t.place[i]''D'):=by simp[show i<t.place.size by lia]
  simp only[c,hx,b];exact m x _ hx b
def nextA{k:Nat}{t:bO}{x:Int×Value}{Q:fP->Shared->Prop}(l:w.params.followText "set-order"=true)(hi:s.heap.get? I<*(siO S (.int k 0) i es.size ep))(d:kY s.heap S es ep t)
  (m:(jy (w.params.setOrder S ep) es)[i]?<*x)(h:∀h',h'.get? I<*(siO S (.int k 0) (i+1) es.size ep)->cR I s.heap h'->Q (.done (.ret x.2)) {s with heap:=h'}):
  'B' (Builtin.«set_iterator.__next__» ([.ref I],[],)) Q E s:=by
 refine j9 hi d ?_;obtain⟨⟨o,j,q,f⟩,g⟩:=d;refine ae (nxA l j f g ?_);rw[m,Option.map_some];dsimp only;refine ae (bW hi 'F' λe a n=>?_);have a:e.get? I<*(siO S (.int k 0) i es.size ep):=a;refine ae (bW a 'F' λc b p=>?_);have b:c.get? I<*(siO S (.int k 0) (i+1) es.size ep):=b;exact ag (h c b (n.trans p))
def nextB{k:Nat}{t:bO}{x:Int×Value}{Q:fP->Shared->Prop}(v:w.params.followText "set-order"=false)(n:jm es t=false)(r:t.led=true)(hi:s.heap.get? I<*(siO S (.int k 0) i es.size ep))(e:kY s.heap S es ep t)
  (q:cD t.place k=i)(f:es[i]?<*x)(h:∀h' j,t.place[i]?<*j->h'.get? I<*(siO S (.int (j+1:Nat) 0) (i+1) es.size ep)->cR I s.heap h'->Q (.done (.ret x.2)) {s with heap:=h'}):
  'B' (Builtin.«set_iterator.__next__» ([.ref I],[],)) Q E s:=by
 refine j9 hi e ?_;obtain⟨⟨o,u,D,m⟩,p⟩:=e;refine ae (nxB v n r u m p q (λy j c g=>?_) λz=>by rw[f]at z;cases z);rw[f]at c;cases c;dsimp only;refine ae (bW hi 'F' λl a B=>?_);have a:l.get? I<*(siO S (.int (j+1:Nat) 0) i es.size ep):=a;refine ae (bW a 'F' λd b C=>?_);have b:d.get? I<*(siO S (.int (j+1:Nat) 0) (i+1) es.size ep):=b;exact ag (h d _ g b (B.trans C))
def nextC{p:Nat}{tk:Tok}{t:bO}{ps:Array Value}{d:Obj}{x:Int×Value}{Q:fP->Shared->Prop}(hi:s.heap.get? I<*(siO S (.ref T) i es.size ep))(c:kY s.heap S es ep t)
  (e:s.heap.get? T<*d)(f:d.data=.seq ps m)(l:ps[i]?<*(.int p tk))(n:es[p]?<*x)(h:∀h',h'.get? I<*(siO S (.ref T) (i+1) es.size ep)->cR I s.heap h'->Q (.done (.ret x.2)) {s with heap:=h'}):
  'B' (Builtin.«set_iterator.__next__» ([.ref I],[],)) Q E s:=by
 refine j9 hi c ?_;obtain⟨⟨o,k,r,g⟩,j⟩:=c;dsimp only;refine ae (jQ e f ?_);simp only[l,gN];refine ae ?_;unfold setNextDrawn;refine ae (ij k g j ?_);simp only[bne_self_eq_false,b8,if_false,n];refine ag ?_;refine ae (bW hi 'F' λb a q=>?_);have a:b.get? I<*(siO S (.ref T) (i+1) es.size ep):=a;exact ag (h b a q)
end
section
variable {E:'I'}{s:Shared}
def pU{d:Type}{Q:d->Shared->Prop}(b:A.handled=none)(h:∀h' e,(∀c o,s.heap.get? c<*o->h'.get? c<*o)->(∃o,h'.get? e<*o/\o.cls=.type "StopIteration")->E (.ref e) {s with heap:=h'}):
  'B' (newExc (.type "StopIteration") []>>=λx=>zT x) Q E s:=by
 refine ae ?_;simp only[newExc,newTuple];refine ae (ck ?_ (by size_fits));refine ae (m:=jX _ _) (uj (a:=cf) (by first |rfl| (simp only[jX];rfl)) ?_);refine ck ?_ (by size_fits);simp only[zT];refine ae (KS ?_);rw[b];refine ae (ag (wpAny_throw ?_));exact h _ _ (λc o e=>af _ (af _ e)) (_,aF _ rfl,rfl,)
def Ends(E:'I')(I:Addr)(s:Shared):Prop:=∀h' e,(∀c o,c≠I->s.heap.get? c<*o->h'.get? c<*o)->(∃o,h'.get? e<*o/\o.cls=.type "StopIteration")->E (.ref e) {s with heap:=h'}
def endA{k:Nat}{t:bO}{Q:fP->Shared->Prop}(l:A.handled=none)(n:w.params.followText "set-order"=true)(hi:s.heap.get? I<*(siO S (.int k 0) es.size es.size ep))(a:kY s.heap S es ep t)(h:Ends E I s):
  'B' (Builtin.«set_iterator.__next__» ([.ref I],[],)) Q E s:=by
 have p:(jy (w.params.setOrder S ep) es)[es.size]? =none:=by have :=(oJ (w.params.setOrder S ep) es).length_eq;simp at this⊢;lia
 refine j9 hi a ?_;obtain⟨⟨o,m,x,g⟩,j⟩:=a;refine ae (nxA n m g j ?_);rw[p,Option.map_none];dsimp only;refine ae (bW hi 'F' λf v u=>?_);exact pU (s:={s with heap:=f}) l λd e r i=>h d e (λc o b q=>r c o (u.extBut c o b q)) i
def endB{k:Nat}{t:bO}{Q:fP->Shared->Prop}(p:A.handled=none)(x:w.params.followText "set-order"=false)(l:jm es t=false)(u:t.led=true)(hi:s.heap.get? I<*(siO S (.int k 0) es.size es.size ep))(a:kY s.heap S es ep t)
  (r:cD t.place k=es.size)(h:Ends E I s):'B' (Builtin.«set_iterator.__next__» ([.ref I],[],)) Q E s:=by
 refine j9 hi a ?_;obtain⟨⟨o,v,F,i⟩,n⟩:=a;refine ae (nxB x l u v i n r (λy j d D=>by simp at d) λ_=>?_);dsimp only;refine ae (bW hi 'F' λg C B=>?_);exact pU (s:={s with heap:=g}) p λf e z m=>h f e (λc o b q=>z c o (B.extBut c o b q)) m
def endC{t:bO}{ps:Array Value}{d:Obj}{Q:fP->Shared->Prop}(n:A.handled=none)(hi:s.heap.get? I<*(siO S (.ref T) es.size es.size ep))(r:kY s.heap S es ep t)(j:s.heap.get? T<*d)(k:d.data=.seq ps m)(z:ps.size=es.size)(h:Ends E I s):
  'B' (Builtin.«set_iterator.__next__» ([.ref I],[],)) Q E s:=by
 refine j9 hi r ?_;dsimp only;refine ae (jQ j k ?_);have p:ps[es.size]? =none:=by simp;lia
 simp only[p];refine ae (bW hi 'F' λg a v=>?_);have a:g.get? I<*(siO S (.int 0 0) es.size es.size ep):=a;refine ae (bW a 'F' λi y x=>?_);exact pU (s:={s with heap:=i}) n λf e u l=>h f e (λc o b q=>u c o (x.extBut c o b (v.extBut c o b q))) l
end
def qE:Slot "set_iterator" "__iter__" "set_iterator.__iter__":=
 .of (owner:="set_iterator") (n:="__iter__") (by rw[fF,dQ];kernel_rfl) (by decide+kernel) (by decide+kernel) (by decide+kernel) (by first |exact .inl (by decide+kernel) |exact .inr (by decide+kernel)) (by rw[jV];kernel_rfl)
def wY:entryFor table "set_iterator.__iter__"<*Builtin.«dict_keyiterator.__iter__»:=
 entryFor_alias (id':="dict_keyiterator.__iter__") 'G' (by first |rfl|decide+kernel) (by decide+kernel) 'G'
def zP(a:Value):argsOk "set_iterator.__iter__" ([a],[],):=by unfold argsOk;kernel_rfl
section
variable {E:'I'}{s:Shared}
def yP{Q:Option Value->Shared->Prop}(b:s.TypeIs (.ref I) "set_iterator")(h:∀(a:fP->Shared->Prop)(c:'I'),(∀v h',Q (some v) {s with heap:=h'}->a (.done (.ret v)) {s with heap:=h'})->wpAny (model prog w) A.in1 (Builtin.«set_iterator.__next__» ([.ref I],[],)) a c s):
  'B' (pyNext (.ref I)) Q E s:=by
 unfold pyNext;exact ae (fq (fh (name:=cz "__next__") b fH (cA fH b pE (h _ _ λv h' q=>(_,rfl,ag q,)) (rB _))))
def yQ{Q:Option Value->Shared->Prop}(d:s.TypeIs (.ref I) "set_iterator")(h:∀(f:fP->Shared->Prop)(a:'I'),(∀h' e,(∀c o,c≠I->s.heap.get? c<*o->h'.get? c<*o)->(∃o,h'.get? e<*o/\o.cls=.type "StopIteration")->a (.ref e) {s with heap:=h'})->wpAny (model prog w) A.in1 (Builtin.«set_iterator.__next__» ([.ref I],[],)) f a s)
  (q:∀h',(∀c o,c≠I->s.heap.get? c<*o->h'.get? c<*o)->Q none {s with heap:=h'}):'B' (pyNext (.ref I)) Q E s:=by
 unfold pyNext;refine ae (fq (fh (name:=cz "__next__") d fH (cA fH d pE (h _ _ λh' e k j=>?_) (rB _))));obtain⟨o,g,i⟩:=j;exact ae (kL (T:="StopIteration") (b:=true) (o,g,i,) Hb (ag (q _ k)))
def yO{Q:'I'}(a:s.TypeIs (.ref I) "set_iterator")(h:Q (.ref I) s):'B' (pyIter (.ref I)) Q E s:=by refine zR a qE (cA qE a wY ?_ (zP _));show wpAny _ _ (ret (.ref I)) _ _ s;exact ag (_,rfl,"set_iterator",_,a,fH.lookup,h,)
end
def kY.at{t:bO}(x:kY h S es ep t)(k:∀o,h.get? S<*o->h'.get? S<*o):kY h' S es ep t:=let⟨⟨o,a,b,c⟩,f⟩:=x;((o,k o a,b,c,),f,)
def walkA(y:A.handled=none)(l:w.params.followText "set-order"=true)(ne:S≠I)(a:Array (Int×Value))(c:Nat)(t:bO):
  Walks prog w A I [I,S] [I] a.size (λi v=>((jy (w.params.setOrder S c) a).toList.map (·.2))[i]?<*v) (λi h=>kY h S a c t/\∃k:Nat,h.get? I<*(siO S (.int k 0) i a.size c)) where
 sub:=λb d=>by simp at d⊢;exact .inl d
 frame:=λi h f ⟨x,k,e⟩ g=>⟨x.at λo q=>g S 'F' o q,k,g I 'F' _ e⟩
 item:=λi s Q E C ⟨x,k,e⟩ j=>by
  have B:=(oJ (w.params.setOrder S c) a).length_eq;simp only[aO]at B;have m:(jy (w.params.setOrder S c) a)[i]?<*((jy (w.params.setOrder S c) a)[i]''D'):=by simp[show i<(jy (w.params.setOrder S c) a).size by lia]
  refine yP (_,e,rfl,) λr p q=>nextA l e x m λf u n=>q _ f ?_;exact j _ f s.toks (by simp[m]) (x.at λo z=>n.extBut S o ne z,k,u,) λb o d z=>n.extBut b o ↥d z
 done:=λs Q E ⟨x,k,e⟩ j=>yQ (_,e,rfl,) (λr p q=>endA (by simp[y]) l e x q) λf g=>j f s.toks λb o d z=>g b o ↥d z
 self:=λi s Q E ⟨x,k,e⟩ q=>yO (_,e,rfl,) q
def walkB(G:A.handled=none)(r:w.params.followText "set-order"=false)(ne:S≠I)(a:Array (Int×Value))(m:Nat)(t:bO)(n:jm a t=false)(p:t.led=true)(F:kK t):
  Walks prog w A I [I,S] [I] a.size (λi v=>(a.toList.map (·.2))[i]?<*v) (λi h=>kY h S a m t/\∃k:Nat,cD t.place k=i/\h.get? I<*(siO S (.int k 0) i a.size m)) where
 sub:=λb c=>by simp at c⊢;exact .inl c
 frame:=λi h f ⟨x,k,d,e⟩ g=>⟨x.at λo q=>g S 'F' o q,k,d,g I 'F' _ e⟩
 item:=λi s Q E H ⟨x,k,d,e⟩ l=>by
  have u:a[i]?<*a[i]:=by simp[H]
  refine yP (_,e,rfl,) λC B q=>nextB r n p e x d u λf j J D y=>q _ f ?_;exact l _ f s.toks (by simp[u]) (x.at λo z=>y.extBut S o ne z,j+1,DV F.up J,D,) λb o c z=>y.extBut b o ↥c z
 done:=λs Q E ⟨x,k,d,e⟩ l=>yQ (_,e,rfl,) (λC B q=>endB (by simp[G]) r n p e x d q) λf g=>l f s.toks λb o c z=>g b o ↥c z
 self:=λi s Q E ⟨x,k,d,e⟩ q=>yO (_,e,rfl,) q
def walkC(C:A.handled=none)(ne:S≠I)(F:T≠I)(a:Array (Int×Value))(m:Nat)(t:bO)(ps:List Nat)(k:ps.Perm (bg a.size)):
  Walks prog w A I [I,S,T] [I] a.size (λi v=>(ps.map λp=>(a.getD p (0,.none)).2)[i]?<*v) (λi h=>kY h S a m t/\h.get? T<*{cls:=.type "tuple",data:=.seq (ps.map λ(i:Nat)=>rawInt i).toArray}/\h.get? I<*(siO S (.ref T) i a.size m)) where
 sub:=λb c=>by simp at c⊢;exact .inl c
 frame:=λi h d ⟨x,z,e⟩ f=>⟨x.at λo q=>f S 'F' o q,f T 'F' _ z,f I 'F' _ e⟩
 item:=λi s Q E G ⟨x,z,e⟩ g=>by
  have H:ps.length=a.size:=by rw[k.length_eq,dH]
  have j:i<ps.length:=by lia
  have n:ps[i]<a.size:=d9.mp (k.mem_iff.mp (bF j));have D:a[ps[i]]?<*a[ps[i]]:=by simp[n]
  refine yP (_,e,rfl,) λu r q=>nextC (p:=ps[i]) (tk:=0) e x z rfl (by simp[j,rawInt]) D λd B l=>q _ d ?_;exact g _ d s.toks (by simp[j,n,K9]) (x.at λo y=>l.extBut S o ne y,l.extBut T _ F z,B,) λb o c y=>l.extBut b o ↥c y
 done:=λs Q E ⟨x,z,e⟩ g=>yQ (_,e,rfl,) (λu r q=>endC (by simp[C]) e x z rfl (by simp[k.length_eq]) q) λd f=>g d s.toks λb o c y=>f b o ↥c y
 self:=λi s Q E ⟨x,z,e⟩ q=>yO (_,e,rfl,) q
end Q
namespace Q
open PySem.W L2
section
variable {E:'I'}{s:Shared}
def ite_yes{a:Type}{M:Model}{b:Bool}{x y:Sem a}{Q:a->Shared->Prop}(c:b=true)(h:wpAny M A x Q E s):wpAny M A (if b=true then x else y) Q E s:=by rw[if_pos c];exact h
def Bw{Q:Bool->Shared->Prop}(a:s.TypeIs (.ref S) "set")(h:Q false s):'B' (dM (.ref S)) Q E s:=by
 unfold dM;refine ae (eI a F.slot_set_len.lookup ?_);generalize hid:("set.__len__":String)=id0
 (fail_if_success (clear hid id0))
 wp_delta
 rw[show splitId id0<*("set","__len__")from by subst hid;decide+kernel];subst hid;refine ae (kL (b:=true) a (by rw[jV];kernel_rfl) ?_);rw[if_neg 'E'];refine ite_yes (by decide+kernel) (ae (jP a ?_));exact ag h
noncomputable abbrev jD(ad:Array Value)(c:Nat):Obj:={cls:=.type "list",dict:=none,data:=.seq ad c,slots:= #[]}
def touch{c:Nat}{Q:Unit->Shared->Prop}(f:s.heap.get? L<*(jD ad c))(hz:ad.size<=5000)(h:∀h' g,h'.get? L<*(jD ad g)->cR L s.heap h'->Q () {s with heap:=h'}):'B' (lS (.ref L)) Q E s:=by have i:ad.size<=sizeLine:=aR hz 'E';unfold lS;refine ae (pf f rfl ?_ i (by simp;lia));have a:∃e,(s.heap.update L (cC λx=>x.push cf)).get? L<*(jD (ad.push .none) e):=⟨_,by rw[bG _ f rfl];rfl⟩;obtain⟨e,a⟩:=a;refine pf (s:={s with heap:=s.heap.update L (cC λx=>x.push cf)}) a rfl ?_ (by simp;exact aR (by lia:ad.size+1<=5001) 'E') (by simp;lia);have d:∃b,((s.heap.update L (cC λx=>x.push cf)).update L (cC λx=>x.pop)).get? L<*(jD ad b):=⟨_,by rw[bG _ a rfl];simp[cC];rfl⟩;obtain⟨b,d⟩:=d;exact h _ b d ((eM ..).trans (eM ..))
def vv{k:List Addr}{P:Nat->Value->Prop}{St:Nat->Heap->Prop}{c:Nat}{R:Result->Shared->Prop}(v:∀a s',a.quiet=true/\gh (model prog w) A a R s'->Qf (.again a) s')(W:Walks prog w A.in1 I fp k n P St)(u:n<=sizeLine)(i:L∉fp)(q:s.heap.get? L<*(jD #[] c))(st:St 0 s.heap)
  (h:∀s' ad a,(∀b o,b∉L::k->s.heap.get? b<*o->s'.heap.get? b<*o)->s'.gens=s.gens->s'.drawn=s.drawn->s'.os=s.os->s'.heap.get? L<*(jD ad a)->FC P ad n->R (.ok (.ret res)) s'):
  wpAny (model prog w) A.in1 (do
   rule "list.extend.makes-room"
   let g<-lS (.ref L)
   (λ(g:Unit)=>again (Code.builtin "list.extend.loop" {pos:=[bo L,bo I,res]})) g) Qf E s:=by
 refine ae (dZ (ae (touch q 'F' λp y m j=>?_)));have x:=W.frame 0 s.heap p st λb d o e=>j.extBut b o (λz=>i (z▸d)) e;refine ag (v _ _ (fV f9 _,codeAny_extend_loopS W.toS u _ i _ n 0 _ _ _ rfl (a0 _) x m (FC.nil P) λs' l a f r t=>?_,));exact h s' l a (λb o d e=>f.heap b o d (j.extBut b o (λz=>d (by rw[z];exact aw)) e)) f.gens f.drawn f.os r t
end
def Du(h:FC (λi v=>vs[i]?<*v) ad vs.length):ad.toList=vs:=by
 obtain⟨c,d⟩:=h;apply dw;·simpa using c
 .intro i a b;have :vs[i]?<*ad[i]:=d i ad[i] 'F';rw[aj b]at this;simpa using(bC this).symm
def es_map(c:Array (Int×Value)):((bg c.size).map λp=>(c.getD p (0,.none)).2)=c.toList.map (·.2):=by
 apply dw;·simp
 .intro i a b;have d:i<c.size:=by simpa using a
  simp[d,K9]
section
variable {E:'I'}{s:Shared}
def BK{o:Obj}{t:bO}{Q:List Value->Shared->Prop}(I:A.handled=none)(N:s.heap.get? S<*o)(n:o.cls=.type "set")(G:o.data=.set es ep t)(H:t.fits es.size=true)(P:es.size<i3)(M:kK t)(Y:w.params.followText "set-order"=false->t.led=true)
  (U:∀(vs:List Value) s',vs.Perm (es.toList.map (·.2))->(∀b o,s.heap.get? b<*o->s'.heap.get? b<*o)->s'.gens=s.gens->s'.os=s.os->⇑s<⇑s'->Q vs s'):'B' (collect (.ref S)) Q E s:=by
 have m:S<⇑s:=aD N;have K:es.size<=sizeLine:=oY P;unfold collect;refine ae (wpAny_runValue (eK F.entry_proto_collect ?_));rw[dh F.plain_proto_collect _];show wpAny _ A.in1 (newList []>>=λa1=>again (.builtin "list.__iadd__" ([a1,.ref S],[],))) _ _ s;refine ae (ck ?_);refine ag (fV F.plain_list_iadd _,eK F.entry_list_iadd ?_,);rw[dh F.plain_list_iadd _];have D:(s.heap.push (jD #[] 0)).get? ⇑s<*(jD #[] 0):=aF _ rfl;have u:(s.heap.push (jD #[] 0)).get? S<*o:=af _ N;have x:(s.heap.push (jD #[] 0)).objs.size=⇑s+1:=cK ..;have V:rK {s with heap:=s.heap.push (jD #[] 0)} (.ref S) "set":=(o,u,n,);show wpAny _ A.in1 (b7 (.ref ⇑s) (.ref S) (.ref ⇑s)) _ _ {s with heap:=s.heap.push (jD #[] 0)};unfold b7;refine ae (jP V ?_);rw[if_neg (by simp[fk];exact cS m)];have fin:∀(vs:List Value)(s':Shared)(c:Array Value)(a:Nat),vs.length=es.size->vs.Perm (es.toList.map (·.2))->(∀b o,s.heap.get? b<*o->s'.heap.get? b<*o)->s'.gens=s.gens->s'.os=s.os->s'.heap.get? ⇑s<*(jD c a)->FC (λi a3=>vs[i]?<*a3) c es.size->
   'B' (load ⇑s>>=λa4=>match a4.data with |.seq xs _=>pure xs.toList|_=>unsupported "internal:collect") Q E s':=λvs s' c a r v j l B e g=>by
  refine ae (wpAny_load e ?_);rw[<-r]at g;have :=Du g;exact ag (by rw[this];exact U vs s' v j l B (aD e))
 refine ae (J2 u n G H P (λJ=>?_) λJ f d v=>?_)
 .rw[x];refine ae (bq (Bw (o,af _ u,n,) ?_));refine ite_yes (by decide+kernel) ?_;have z:((s.heap.push (jD #[] 0)).push (siO S (.int 0 0) 0 es.size ep)).get? (⇑s+1)<*(siO S (.int 0 0) 0 es.size ep):=by rw[<-x];exact aF _ rfl
  have L:kY ((s.heap.push (jD #[] 0)).push (siO S (.int 0 0) 0 es.size ep)) S es ep t:=((o,af _ u,n,G,),H,);have C:⇑s∉[⇑s+1,S]:=by simp only[aG,bu,or_false,not_or];exact(aK (dB _),cS m,)
  have R:∀(s':Shared),(∀b o,b∉⇑s::[⇑s+1]->((s.heap.push (jD #[] 0)).push (siO S (.int 0 0) 0 es.size ep)).get? b<*o->s'.heap.get? b<*o)->∀b o,s.heap.get? b<*o->s'.heap.get? b<*o:=λs' k b o e=>by have p:=aD e;refine k b o ?_ (af _ (af _ e));simp only[aG,bu,or_false,not_or];exact(aK p,aK (bU p),)
  cases hw:w.params.followText "set-order" with
  |true=>
   have r:((jy (w.params.setOrder S ep) es).toList.map (·.2)).length=es.size:=by have :=(oJ (w.params.setOrder S ep) es).length_eq;simpa using this
   refine vv (s:={s with heap:=(s.heap.push (jD #[] 0)).push (siO S (.int 0 0) 0 es.size ep)}) (λa s' h=>h) (walkA (A:=A.in1) (by simp[I]) hw (aK (bU m)) es ep t) K C (af _ D) (L,0,z,) λs' c a j l B y e g=>?_;exact fin _ s' c a r ((oJ (w.params.setOrder S ep) es).map _) (R s' j) l y e g
  |false=>
   have X:jm es t=false:=by rw[hw]at J;simpa using J
   refine vv (s:={s with heap:=(s.heap.push (jD #[] 0)).push (siO S (.int 0 0) 0 es.size ep)}) (λa s' h=>h) (walkB (A:=A.in1) (by simp[I]) hw (aK (bU m)) es ep t X (Y hw) M) K C (af _ D) (L,0,DU M.up,z,) λs' c a j l B y e g=>?_;exact fin _ s' c a 'F' (fw _) (R s' j) l y e g
 .rw[x];have Z:((s.heap.push (jD #[] 0)).push {cls:=.type "tuple",data:=.seq (f.map λ(i:Nat)=>rawInt i).toArray}).objs.size=⇑s+1+1:=by rw[cK,x]
  have W:((s.heap.push (jD #[] 0)).push {cls:=.type "tuple",data:=.seq (f.map λ(i:Nat)=>rawInt i).toArray}).get? (⇑s+1)<*{cls:=.type "tuple",data:=.seq (f.map λ(i:Nat)=>rawInt i).toArray}:=by rw[<-x];exact aF _ rfl
  have O:((s.heap.push (jD #[] 0)).push {cls:=.type "tuple",data:=.seq (f.map λ(i:Nat)=>rawInt i).toArray}).get? S<*o:=af _ u;have T:((s.heap.push (jD #[] 0)).push {cls:=.type "tuple",data:=.seq (f.map λ(i:Nat)=>rawInt i).toArray}).get? ⇑s<*(jD #[] 0):=af _ D;have a0:∀b o,s.heap.get? b<*o->((s.heap.push (jD #[] 0)).push {cls:=.type "tuple",data:=.seq (f.map λ(i:Nat)=>rawInt i).toArray}).get? b<*o:=λb o e=>af _ (af _ e);generalize(s.heap.push (jD #[] 0)).push {cls:=.type "tuple",data:=.seq (f.map λ(i:Nat)=>rawInt i).toArray}=h2 at *;refine ae (bq (Bw (o,af _ O,n,) ?_));refine ite_yes (by decide+kernel) ?_;have z:(h2.push (siO S (.ref (⇑s+1)) 0 es.size ep)).get? (⇑s+1+1)<*(siO S (.ref (⇑s+1)) 0 es.size ep):=by rw[<-Z];exact aF _ rfl
  have C:⇑s∉[⇑s+1+1,S,⇑s+1]:=by simp only[aG,bu,or_false,not_or];exact(aK (bU (dB _)),cS m,aK (dB _),)
  have r:(f.map λa2=>(es.getD a2 (0,.none)).2).length=es.size:=by rw[ah,v.length_eq,dH]
  refine vv (s:={s with drawn:=d,heap:=h2.push (siO S (.ref (⇑s+1)) 0 es.size ep)}) (λa s' h=>h) (walkC (A:=A.in1) (by simp[I]) (aK (bU (bU m))) (aK (dB _)) es ep t f v) K C (af _ T)
   (((o,af _ O,n,G,),H,),af _ W,z,) λs' c a j l B y e g=>?_
  refine fin _ s' c a r ((v.map _).trans (by rw[es_map])) (λb o q=>?_) l y e g;have p:=aD q;refine j b o ?_ (af _ (a0 b o q));simp only[aG,bu,or_false,not_or];exact(aK p,aK (bU (bU p)),)
end
def JQ(ks:List Key):(met ks).Nodup:=by
 unfold met;have g:∀(l d:List Key),d.Nodup->(l.foldl more d).Nodup:=by
  intro l
  induction l with
  |nil=>exact λ_ h=>h
  |cons k l ih=>
   intro d h;refine ih _ ?_;unfold more;split;·exact h
   .rename_i c;refine d8.mpr (h,'F',λa f b e=>?_,);rw[aC]at e;subst e;intro z;subst z;exact c (oQ.mpr f)
 exact g ks [] lO
theorem rZ{c:Type}[DecidableEq c]:∀{m l:List c},m.Nodup->(∀x∈m,x∈l)->l.length=m.length->l.Perm m
 | [],l,_,_,h=>by rw[eB]at h;rw[xu h]
 |a::m,l,nd,hs,h=>by have d:a∈l:=hs a aw;have p:=Hr d;rw[eA]at nd;have e:=p.length_eq;rw[aZ]at e h;have q:=rZ (m:=m) (l:=l.erase a) nd.2 (λx b=>(Hs (λz:x=a=>nd.1 (by rw[<-z];exact b))).mpr (hs x (aB _ b))) 'D';exact p.trans (q.cons a)
end Q
namespace L2
open Q
section
def Inv.same{a:List (Option V)}(I:Inv X pins a H s)(e:s'.heap=s.heap)(f:s'.gens=s.gens)(i:s'.os=s.os):Inv X pins a H s':=by obtain⟨h,g,d,t,o⟩:=s;obtain⟨c,b,k,l,j⟩:=s';obtain rfl:c=h:=e;obtain rfl:b=g:=f;obtain rfl:j=o:=i;exact(I.ok,I.os,I.bare,I.base,I.loc,I.cell,I.free,I.freeC,I.pin,I.hok,I.len,)
theorem vh{c:Type}[DecidableEq c]:∀{l m:List c},l.Nodup->(∀x∈l,x∈m)->l.length<=m.length
 | [],_,_,_=>a0 _
 |a::l,m,nd,h=>by rw[eA]at nd;have d:=h a aw;have p:=(Hr d).length_eq;have :=vh (m:=m.erase a) nd.2 λx b=>(Hs λz:x=a=>nd.1 (z▸b)).mpr (h x (aB _ b));rw[aZ]at p⊢;lia
def Few(ns:List Int):Prop:=ns.length<1000/\∃a:List Int,a.length<64/\∀x∈ns,x∈a
def zL:eY "sorted"<*(.builtin "sorted"):=by decide+kernel
def GV:eY "set"<*(.type "set"):=by decide+kernel
end
end L2
set_option maxHeartbeats 1000000
namespace SR
open PySem.W
abbrev gallop':Bool->Keyed->Array Keyed->Nat->Nat->Nat->StateT SortSt Sem (Option Nat):=sortPriv%PySem.Builtin.gallop
structure Od(M:Model)(A:Around)(E:'I')(s:Shared)(κ:gm)(S:Keyed->Prop)(R:Keyed->Keyed->Bool):Prop where
 irr:∀x,S x->R x x=false
 tri:∀x y,S x->S y->x≠y->R x y= !R y x
 tr:∀x y z,S x->S y->S z->R x y=true->R y z=true->R x z=true
 ask:∀x y (st:SortSt)(Q:Option Bool->SortSt->Prop),S x->S y->x≠y->kindOf st=κ->Q (some (R x y)) st->wpS M A E s (lt' x y) Q st
section
variable {M:Model}{E:'I'}{s:Shared}{κ:gm}{S:Keyed->Prop}{R:Keyed->Keyed->Bool}
def dX{arr:Array Keyed}{x:Keyed}{Q:Keyed->SortSt->Prop}{st:SortSt}(h:arr[i]?<*x)(q:Q x st):wpS M A E s (elem' arr i) Q st:=by rw[elem'_eq,h];exact aS q
def Od.asym(o:Od M A E s κ S R){x y:Keyed}(a:S x)(b:S y)(h:R x y=true):R y x=false:=by
 by_cases e:x=y;·subst e;rw[o.irr x a]at h;cases h
 .rw[o.tri x y a b e]at h;simpa using h
abbrev at_(arr:Array Keyed)(i:Nat):Keyed:=arr.getD i (.none,.none)
def dN{arr:Array Keyed}(h:i<arr.size):arr[i]?<*(at_ arr i):=by unfold at_;rw[cq h,cB,cq h];rfl
structure Seg(S:Keyed->Prop)(R:Keyed->Keyed->Bool)(arr:Array Keyed)(b n:Nat)(key:Keyed):Prop where
 sz:b+n<=arr.size
 inS:∀i,i<n->S (at_ arr (b+i))
 up:∀i j,i<j->j<n->R (at_ arr (b+i)) (at_ arr (b+j))=true
 ks:S key
 nk:∀i,i<n->at_ arr (b+i)≠key
abbrev bey(R:Keyed->Keyed->Bool)(arr:Array Keyed)(b:Nat)(key:Keyed)(i:Nat):Bool:=R (at_ arr (b+i)) key
variable {arr:Array Keyed}{b hint:Nat}{key:Keyed}{st:SortSt}
def mD(o:Od M A E s κ S R)(g:Seg S R arr b n key)(h:i<=j)(a:j<n)(e:bey R arr b key j=true):bey R arr b key i=true:=by
 rcases lK i j with c|c;·exact o.tr _ _ _ (g.inS i 'D') (g.inS j a) g.ks (g.up i j c a) e
 .obtain rfl:i=j:=by lia
  exact e
def rA(o:Od M A E s κ S R)(g:Seg S R arr b n key){c:Bool}{Q:Option Bool->SortSt->Prop}(hi:i<n)(a:kindOf st=κ)(q:Q (some (bey R arr b key i)) st):
  wpS M A E s (do
   let x<-elem' arr (b+i)
   if c=true then lt' x key else do
    let r<-lt' key x
    pure (r.map (!·))) Q st:=by
 refine aL (dX (dN (by have :=g.sz;lia)) ?_);cases c with
 |true=>rw[if_pos rfl];exact o.ask _ _ _ _ (g.inS i hi) g.ks (g.nk i hi) a q
 |false=>rw[if_neg 'E'];refine aL (o.ask _ _ _ _ g.ks (g.inS i hi) (λe=>g.nk i hi e.symm) a (aS ?_));rw[o.tri _ _ g.ks (g.inS i hi) λe=>g.nk i hi e.symm];simpa[bey]using q
def BR(o:Od M A E s κ S R)(g:Seg S R arr b n key){f:Nat->Option (Option Nat)×Nat×Nat->StateT SortSt Sem (ForInStep (Option (Option Nat)×Nat×Nat))}{Q:Option (Option Nat)×Nat×Nat->SortSt->Prop}{lo hi:Nat}
  (y:∀x lo hi (d:ForInStep (Option (Option Nat)×Nat×Nat)->SortSt->Prop),hi<=n->(lo≥ hi->d (.done (none,lo,hi)) st)->(∀m,m=lo+(hi-lo)/2->lo<hi->bey R arr b key m=true->d (.yield (none,m+1,hi)) st)->(∀m,m=lo+(hi-lo)/2->lo<hi->bey R arr b key m=false->d (.yield (none,lo,m)) st)->wpS M A E s (f x (none,lo,hi)) d st)
  (l:lo<=hi)(p:hi<=n)(v:∀i,i<lo->bey R arr b key i=true)(w:∀i,hi<=i->i<n->bey R arr b key i=false)(q:∀k,k<=n->(∀i,i<k->bey R arr b key i=true)->(∀i,k<=i->i<n->bey R arr b key i=false)->Q (none,k,k) st):wpS M A E s (forIn [:n] (none,lo,hi) f) Q st:=by
 refine di (I:=λx c r=>r=st/\∃lo hi,c=(none,lo,hi)/\lo<=hi/\hi<=n/\hi-lo+x<=n/\(∀i,i<lo->bey R arr b key i=true)/\(∀i,hi<=i->i<n->bey R arr b key i=false)) ?_ ?_ (rfl,lo,hi,rfl,l,p,'D',v,w,)
 .rintro x c r _ D ⟨rfl,lo,hi,rfl,t,a,u,h,j⟩;refine y x lo hi _ a (λc=>?_) (λm B c e=>?_) λm B c e=>?_
  .obtain rfl:lo=hi:=by lia
   exact q lo a h j
  .exact(rfl,_,_,rfl,'D',a,'D',λi C=>mD o g (by lia:i<=m) 'D' e,j,)
  .refine(rfl,_,_,rfl,'D','D','D',h,λi l p=>?_,);rw[gI];intro z;rw[mD o g l p z]at e;cases e
 .rintro c r ⟨rfl,lo,hi,rfl,t,a,u,h,j⟩;obtain rfl:lo=hi:=by lia
  exact q lo a h j
def j7(o:Od M A E s κ S R)(g:Seg S R arr b n key){N:Bool}{Q:Option Nat->SortSt->Prop}(J:hint<n)(m:kindOf st=κ)(q:∀k,k<=n->(∀i,i<k->bey R arr b key i=true)->(∀i,k<=i->i<n->bey R arr b key i=false)->Q (some k) st):
  wpS M A E s (gallop' N key arr b n hint) Q st:=by
 refine aL (rA o g J m ?_);cases e:bey R arr b key hint with
 |true=>
  dsimp only;rw[if_pos rfl];refine aL (gi (di (I:=λx c h=>h=st/\∃d a,c=(none,d,a)/\d<a/\hint+d<n/\x+1<=a/\bey R arr b key (hint+d)=true)
   (Q:=λc h=>h=st/\∃d a,c=(none,d,a)/\d<a/\hint+d<n/\bey R arr b key (hint+d)=true/\(a≥ n-hint\/(hint+a<n/\bey R arr b key (hint+a)=false))) ?_ ?_ (rfl,0,1,rfl,'D','D','D',e,)) ?_)
  .rintro x c h _ L ⟨rfl,d,a,rfl,l,j,p,f⟩;dsimp only;by_cases c:a≥ n-hint;·rw[if_pos c];exact aS (rfl,_,_,rfl,l,j,f,.inl c,)
   .rw[if_neg c];refine aL (rA o g 'D' m ?_);cases e2:bey R arr b key (hint+a)with
    |true=>dsimp only;rw[if_neg 'E'];exact aS (rfl,_,_,rfl,'D','D','D',e2,)
    |false=>dsimp only;rw[if_pos 'E'];exact aS (rfl,_,_,rfl,l,j,f,.inr ('D',e2,),)
  .rintro c h ⟨rfl,d,a,rfl,l,j,p,f⟩;exact(rfl,_,_,rfl,l,j,f,.inl 'D',)
  .rintro c h ⟨rfl,d,a,rfl,l,j,f,r⟩;refine aL (BR o g (λx lo hi H K t u v=>?_) (lo:=hint+d+1) (hi:=hint+min a (n-hint)) 'D' 'D' ?_ ?_ λk B C D=>aS (q k B C D))
   .dsimp only;by_cases c:lo≥ hi;·rw[if_pos c];exact aS (t c)
    .rw[if_neg c];refine aL (rA o g 'D' m ?_);cases e3:bey R arr b key (lo+(hi-lo)/2)with
     |true=>exact aS (u _ rfl 'D' e3)
     |false=>exact aS (v _ rfl 'D' e3)
   .exact λi hi=>mD o g 'D' j f
   .intro i F w;rcases r with z|⟨O,G⟩;·lia
    .rw[gI];intro y;rw[mD o g (by lia:hint+a<=i) w y]at G;cases G
 |false=>
  dsimp only;rw[if_neg 'E'];refine aL (gi (di (I:=λx c h=>h=st/\∃d a,c=(none,d,a)/\d<a/\d<=hint/\x+1<=a/\bey R arr b key (hint-d)=false)
   (Q:=λc h=>h=st/\∃d a,c=(none,d,a)/\d<a/\d<=hint/\bey R arr b key (hint-d)=false/\(a≥ hint+1\/bey R arr b key (hint-a)=true)) ?_ ?_ (rfl,0,1,rfl,'D','D','D',e,)) ?_)
  .rintro x c h _ L ⟨rfl,d,a,rfl,l,j,p,f⟩;dsimp only;by_cases c:a≥ hint+1;·rw[if_pos c];exact aS (rfl,_,_,rfl,l,j,f,.inl c,)
   .rw[if_neg c];refine aL (rA o g 'D' m ?_);cases e2:bey R arr b key (hint-a)with
    |true=>dsimp only;rw[if_pos rfl];exact aS (rfl,_,_,rfl,l,j,f,.inr e2,)
    |false=>dsimp only;rw[if_neg 'E'];exact aS (rfl,_,_,rfl,'D','D','D',e2,)
  .rintro c h ⟨rfl,d,a,rfl,l,j,p,f⟩;exact(rfl,_,_,rfl,l,j,f,.inl 'D',)
  .rintro c h ⟨rfl,d,a,rfl,l,j,f,r⟩;refine aL (BR o g (λx lo hi H K t u v=>?_) (lo:=hint+1-min a (hint+1)) (hi:=hint-d) 'D' 'D' ?_ ?_ λk B C D=>aS (q k B C D))
   .dsimp only;by_cases c:lo≥ hi;·rw[if_pos c];exact aS (t c)
    .rw[if_neg c];refine aL (rA o g 'D' m ?_);cases e3:bey R arr b key (lo+(hi-lo)/2)with
     |true=>exact aS (u _ rfl 'D' e3)
     |false=>exact aS (v _ rfl 'D' e3)
   .intro i hi;rcases r with z|z;·lia
    .exact mD o g 'D' 'D' z
   .intro i F w;rw[gI];intro y;rw[mD o g F w y]at f;cases f
end
abbrev JS:Array Keyed->Array Keyed->StateT SortSt Sem (Array Keyed):=sortPriv%PySem.Builtin.mergeLo
abbrev JT:Array Keyed->Array Keyed->StateT SortSt Sem (Array Keyed):=sortPriv%PySem.Builtin.mergeHi
structure Mi(R:Keyed->Keyed->Bool)(tot o P T:List Keyed):Prop where
 pm:(o++P++T).Perm tot
 oo:o.Pairwise λx y=>R x y=true
 pp:P.Pairwise λx y=>R x y=true
 tt:T.Pairwise λx y=>R x y=true
 lt:∀x∈o,∀y,y∈P\/y∈T->R x y=true
section
variable {R:Keyed->Keyed->Bool}{tot o P P1 P2 T T1 T2:List Keyed}
def Mi.swap(m:Mi R tot o P T):Mi R tot o T P:=
 (by have h:=m.pm;rw[bQ]at h⊢;exact(List.perm_append_comm.append_left o).trans h,m.oo,m.tt,m.pp,λx a y b=>m.lt x a y b.symm,)
def Mi.Av(m:Mi R tot o (P1++P2) T)(h:∀p∈P1,∀t∈T,R p t=true):Mi R tot (o++P1) P2 T:=by
 obtain⟨d,e,f⟩:=cN.mp m.pp;refine(by rw[bQ o];exact m.pm,cN.mpr (m.oo,d,λx b y a=>m.lt x b y (.inl (aH.mpr (.inl a))),),e,m.tt,λx b y a=>?_,);rcases aH.mp b with c|c;·exact m.lt x c y (a.imp (λz=>aH.mpr (.inr z)) id)
 .rcases a with z|z;·exact f x c y z
  .exact h x c y z
def Mi.Eh(m:Mi R tot o P (T1++T2))(h:∀t∈T1,∀p∈P,R t p=true):Mi R tot (o++T1) P T2:=(m.swap.Av h).swap
def Mi.fin(m:Mi R tot o P T)(h:∀p∈P,∀t∈T,R p t=true):(o++P++T).Perm tot/\(o++P++T).Pairwise λx y=>R x y=true:=by refine(m.pm,?_,);rw[bQ];exact cN.mpr (m.oo,cN.mpr (m.pp,m.tt,h,),λx a y b=>m.lt x a y (aH.mp b),)
end
def ff{a:Array Keyed}(h:i<a.toList.length):a.toList[i]=at_ a i:=by have :=dN (arr:=a) (i:=i) ↥h;rw[<-eE,aj h]at this;exact bC this
def Fj{a:Array Keyed}(h:i<a.size):a.toList.drop i=at_ a i::a.toList.drop (i+1):=by rw[List.drop_eq_getElem_cons ↥h,ff]
def take_at{a:Array Keyed}(h:i<a.size):a.toList.take (i+1)=a.toList.take i++[at_ a i]:=by rw[dF,aj ↥h,ff];rfl
def kA{a:Array Keyed}{x:Keyed}(h:x∈a.toList.drop i):∃j,i<=j/\j<a.size/\x=at_ a j:=by obtain⟨k,b,rfl⟩:=aU.mp h;rw[bA]at b;refine(i+k,'D',by have :a.toList.length=a.size:=rfl;lia,?_,);rw[ef,ff]
def oS{a:Array Keyed}:(a.extract i).toList=a.toList.drop i:=by rw[dU,cP,fi];rw[bA];exact aE _
def vM{a:Array Keyed}{k:Nat}:(a.extract i (i+k)).toList=(a.toList.drop i).take k:=by rw[dU,cP,Fy]
def ES{a:Array Keyed}(h:i=a.size):a.toList.drop i=[]:=by rw[h];exact List.drop_length
structure Two(S:Keyed->Prop)(R:Keyed->Keyed->Bool)(a b:Array Keyed):Prop where
 sa:∀i,i<a.size->S (at_ a i)
 sb:∀i,i<b.size->S (at_ b i)
 ua:∀i j,i<j->j<a.size->R (at_ a i) (at_ a j)=true
 ub:∀i j,i<j->j<b.size->R (at_ b i) (at_ b j)=true
 dj:∀i j,i<a.size->j<b.size->at_ a i≠at_ b j
 la:∀j,j<b.size->R (at_ b j) (at_ a (a.size-1))=true
 fb:∀i,i<a.size->R (at_ b 0) (at_ a i)=true
 na:0<a.size
 nb:0<b.size
structure Ke(κ:gm)(st st':SortSt):Prop where
 kd:kindOf st'=κ
 ar:arrOf st'=arrOf st
 pe:cG st'=cG st
 fa:eD st'=eD st
section
variable {M:Model}{E:'I'}{s:Shared}{κ:gm}{S:Keyed->Prop}{R:Keyed->Keyed->Bool}{a b:Array Keyed}{st:SortSt}{ia ib:Nat}{out:Array Keyed}
def uz{c:Array Keyed}(u:∀i j,i<j->j<c.size->R (at_ c i) (at_ c j)=true):c.toList.Pairwise λx y=>R x y=true:=by refine b9.mpr λi j d b a=>?_;rw[ff,ff];exact u i j a ↥b
structure Lo(R:Keyed->Keyed->Bool)(a b:Array Keyed)(out:Array Keyed)(ia ib:Nat):Prop where
 ha:ia+1<a.size
 hb:ib<b.size
 mi:Mi R (a.toList++b.toList) out.toList (a.toList.drop ia) (b.toList.drop ib)
def Good(R:Keyed->Keyed->Bool)(tot:List Keyed)(r:Array Keyed):Prop:=r.toList.Perm tot/\r.toList.Pairwise λx y=>R x y=true
def zy(m:Mi R (a.toList++b.toList) out.toList (a.toList.drop ia) (b.toList.drop ib))(h:ib=b.size):Good R (a.toList++b.toList) (out++a.extract ia++b.extract ib):=by have :=m.fin (λp _ t c=>by rw[ES h]at c;cases c);unfold Good;rw[cZ,cZ,oS,oS];exact this
def done_a(m:Mi R (a.toList++b.toList) out.toList (a.toList.drop ia) (b.toList.drop ib))(h:ia=a.size):Good R (a.toList++b.toList) (out++a.extract ia++b.extract ib):=by have :=m.fin (λp c=>by rw[ES h]at c;cases c);unfold Good;rw[cZ,cZ,oS,oS];exact this
def zr(w:Two S R a b)(m:Mi R (a.toList++b.toList) out.toList (a.toList.drop ia) (b.toList.drop ib))(h:ia+1=a.size):Good R (a.toList++b.toList) (out++b.extract ib++a.extract ia):=by
 have :=m.swap.fin λt e p d=>by
  obtain⟨j,_,c,rfl⟩:=kA e;obtain⟨i,f,g,rfl⟩:=kA d;obtain rfl:i=a.size-1:=by lia
  exact w.la j c
 unfold Good;rw[cZ,cZ,oS,oS];exact this
def C7(o:Od M A E s κ S R)(w:Two S R a b)(m:Mi R (a.toList++b.toList) out.toList (a.toList.drop ia) (b.toList.drop ib))(e:ib<b.size)(h:∀i,ia<=i->i<a.size->R (at_ b ib) (at_ a i)=true):Mi R (a.toList++b.toList) (out.push (at_ b ib)).toList (a.toList.drop ia) (b.toList.drop (ib+1)):=by rw[Fj e]at m;rw[eW];exact m.Eh (T1:=[at_ b ib]) λt g p f=>by obtain⟨i,c,d,rfl⟩:=kA f;rw[aC.mp g];exact h i c d
def IX(o:Od M A E s κ S R)(w:Two S R a b)(m:Mi R (a.toList++b.toList) out.toList (a.toList.drop ia) (b.toList.drop ib))(e:ia<a.size)(h:∀j,ib<=j->j<b.size->R (at_ a ia) (at_ b j)=true):Mi R (a.toList++b.toList) (out.push (at_ a ia)).toList (a.toList.drop (ia+1)) (b.toList.drop ib):=by rw[Fj e]at m;rw[eW];exact m.Av (P1:=[at_ a ia]) λt g p f=>by obtain⟨i,c,d,rfl⟩:=kA f;rw[aC.mp g];exact h i c d
def many_a(w:Two S R a b)(o:Od M A E s κ S R)(m:Mi R (a.toList++b.toList) out.toList (a.toList.drop ia) (b.toList.drop ib))(g:ib<b.size){k:Nat}(u:k<=a.size-ia)(h:∀i,i<k->bey R a ia (at_ b ib) i=true):Mi R (a.toList++b.toList) (out++a.extract ia (ia+k)).toList (a.toList.drop (ia+k)) (b.toList.drop ib):=by
 have e:a.toList.drop ia=(a.toList.drop ia).take k++a.toList.drop (ia+k):=by rw[<-List.drop_drop,bN]
 rw[e]at m;have :=m.Av λp n t q=>by
  obtain⟨i,l,rfl⟩:=aU.mp n;rw[aM,bA]at l;have v:a.toList.length=a.size:=rfl;obtain⟨j,r,d,rfl⟩:=kA q;rw[bX,ef,ff];have f:=h i 'D';rcases lK ib j with c|c;·exact o.tr _ _ _ (w.sa _ 'D') (w.sb _ g) (w.sb _ d) f (w.ub ib j c d)
  .obtain rfl:j=ib:=by lia
   exact f
 rw[cZ,vM];exact this
def many_b(w:Two S R a b)(o:Od M A E s κ S R)(m:Mi R (a.toList++b.toList) out.toList (a.toList.drop ia) (b.toList.drop ib))(g:ia<a.size){k:Nat}(u:k<=b.size-ib)(h:∀i,i<k->bey R b ib (at_ a ia) i=true):Mi R (a.toList++b.toList) (out++b.extract ib (ib+k)).toList (a.toList.drop ia) (b.toList.drop (ib+k)):=by
 have e:b.toList.drop ib=(b.toList.drop ib).take k++b.toList.drop (ib+k):=by rw[<-List.drop_drop,bN]
 rw[e]at m;have :=m.Eh λp n t q=>by
  obtain⟨i,l,rfl⟩:=aU.mp n;rw[aM,bA]at l;have v:b.toList.length=b.size:=rfl;obtain⟨j,r,d,rfl⟩:=kA q;rw[bX,ef,ff];have f:=h i 'D';rcases lK ia j with c|c;·exact o.tr _ _ _ (w.sb _ 'D') (w.sa _ g) (w.sa _ d) f (w.ua ia j c d)
  .obtain rfl:j=ia:=by lia
   exact f
 rw[cZ,vM];exact this
end
section
variable {M:Model}{E:'I'}{s:Shared}{κ:gm}{S:Keyed->Prop}{R:Keyed->Keyed->Bool}{a b:Array Keyed}{st st':SortSt}{ia ib:Nat}{out:Array Keyed}
theorem Lo.size(m:Lo R a b out ia ib):out.size+(a.size-ia)+(b.size-ib)=a.size+b.size:=by have :=m.mi.pm.length_eq;simp only[aq,bA,aO]at this;lia
def seg_a(w:Two S R a b)(c:ib<b.size)(g:ia<a.size):Seg S R a ia (a.size-ia) (at_ b ib):=
 ('D',λi d=>w.sa _ 'D',λi j e f=>w.ua _ _ 'D' 'D',w.sb _ c,λi d=>w.dj _ _ 'D' c,)
def seg_b(w:Two S R a b)(h:ib<b.size)(c:ia<a.size):Seg S R b ib (b.size-ib) (at_ a ia):=
 ('D',λi d=>w.sb _ 'D',λi j f g=>w.ub _ _ 'D' 'D',w.sa _ c,λi d e=>w.dj _ _ c 'D' e.symm,)
def LoQ(κ:gm)(R:Keyed->Keyed->Bool)(a b:Array Keyed)(st:SortSt)(n:Nat)(r:Option (Array Keyed))(out:Array Keyed)(ia ib:Nat)(st':SortSt):Prop:=
 Ke κ st st'/\((∃x,r<*x/\Good R (a.toList++b.toList) x)\/(r=none/\Lo R a b out ia ib/\n<=out.size))
def Ef(o:Od M A E s κ S R){c:Array Keyed}{x:Keyed}(b:∀i,i<c.size->S (at_ c i))(u:∀i j,i<j->j<c.size->R (at_ c i) (at_ c j)=true)(d:S x)(h:R x (at_ c i)=true)(e:i<=j)(a:j<c.size):R x (at_ c j)=true:=by
 rcases lK i j with z|z;·exact o.tr _ _ _ d (b _ 'D') (b _ a) h (u _ _ z a)
 .obtain rfl:j=i:=by lia
  exact h
def nQ{a b:Type}{v:a}{f:a->StateT SortSt Sem b}{Q:b->SortSt->Prop}{st:SortSt}(h:wpS M A E s (f v) Q st):wpS M A E s (have x:=v;f x) Q st:=h
theorem Ke.g(k:Ke κ st st')(g:Nat):Ke κ st (gJ (kindOf st') (arrOf st') (cG st') g (eD st')):=(k.kd,k.ar,k.pe,k.fa,)
def oth(o:Od M A E s κ S R)(w:Two S R a b)(c:ia<a.size){k:Nat}(h:∀i,k<=i->i<b.size-ib->bey R b ib (at_ a ia) i=false)(j:Nat)(e:ib+k<=j)(d:j<b.size):R (at_ a ia) (at_ b j)=true:=by have z:=h (j-ib) 'D' 'D';unfold bey at z;rw[show ib+(j-ib)=j by lia]at z;rw[o.tri _ _ (w.sa _ c) (w.sb _ d) (w.dj _ _ c d),z];rfl
def JC(h:(m==n)=true):m=n:=by simpa using h
def JG(h:¬(m==n)=true):m≠n:=λe=>h (by rw[e];exact beq_self_eq_true _)
def yB{a:Type}{c:Prop}[Decidable c]{m n:StateT SortSt Sem a}{Q:a->SortSt->Prop}{st:SortSt}(b:c->wpS M A E s m Q st)(d:¬c->wpS M A E s n Q st):wpS M A E s (if c then m else n) Q st:=by
 by_cases h:c;·rw[if_pos h];exact b h
 .rw[if_neg h];exact d h
def Cr(o:Od M A E s κ S R)(w:Two S R a b)(hk:kindOf st=κ){Q:Array Keyed->SortSt->Prop}(q:∀r st',Ke κ st st'->Good R (a.toList++b.toList) r->Q r st'):wpS M A E s (JS a b) Q st:=by
 have P:Ke κ st st:=(hk,rfl,rfl,rfl,);have a5:Mi R (a.toList++b.toList) (#[]:Array Keyed).toList (a.toList.drop 0) (b.toList.drop 0):=⟨'F',.nil,uz w.ua,uz w.ub,(λx X=>nomatch X)⟩;have N:=C7 o w a5 w.nb λi _ hi=>w.fb i hi;rw[iD]at N;refine aL (uh (dZ (rfl,?_,)));refine nQ (nQ (nQ ?_));refine aL (dX (dN w.nb) ?_);refine nQ (nQ (nQ ?_));by_cases c1:1=b.size;·rw[if_pos ↥c1];exact aS (q _ _ P (zy N c1))
 rw[if_neg ↥c1];by_cases c2:0+1=a.size;·rw[if_pos ↥c2];exact aS (q _ _ P (zr w N c2))
 rw[if_neg ↥c2];have na:=w.na;have nb:=w.nb;refine aL (mR (nQ ?_));refine aL (gi (di (I:=λx c st'=>LoQ κ R a b st (x+1) c.1 c.2.1 c.2.2.1 c.2.2.2.1 st'/\c.1=none) (Q:=λc st'=>Ke κ st st'/\∃r,c.1<*r/\Good R (a.toList++b.toList) r) ?_ ?_ (⟨P,.inr ⟨rfl,(by show 0+1<_;lia,by show 1<_;lia,N,),'F'⟩⟩,rfl,)) ?_)
 .rintro x ⟨r,n,f,h,g⟩ Z _ X ⟨⟨L,p⟩,rfl⟩;obtain⟨_,d,sz⟩:=p.resolve_left λ⟨_,e,_⟩=>nomatch e;dsimp only at sz d
  iterate 9 refine nQ ?_
  refine aL (gi (di (I:=λy c st'=>LoQ κ R a b st (x+1+y) c.1 c.2.1 c.2.2.1 c.2.2.2.1 st'/\c.1=none) (Q:=λc st'=>LoQ κ R a b st (x+2) c.1 c.2.1 c.2.2.1 c.2.2.2.1 st') ?_ ?_ ((L,.inr (rfl,d,↥sz,),),rfl,)) ?_)
  .rintro y ⟨r,n,f,h,H,J⟩ a0 _ hy ⟨⟨l,j⟩,rfl⟩;obtain⟨_,d,sz⟩:=j.resolve_left λ⟨_,e,_⟩=>nomatch e;have l1:=d.ha;have l2:=d.hb;dsimp only at sz d l1 l2⊢;refine aL (dX (dN d.hb) (aL (dX (dN 'D') (aL (o.ask _ _ _ _ (w.sb _ d.hb) (w.sa _ 'D') (λe=>w.dj _ _ 'D' d.hb e.symm) l.kd ?_)))));cases e:R (at_ b h) (at_ a f)with
   |true=>
    dsimp only;rw[if_pos rfl];refine aL (dX (dN d.hb) ?_);have m:=C7 o w d.mi d.hb λi p j=>Ef o w.sa w.ua (w.sb _ d.hb) e p j;by_cases c:h+1=b.size;·rw[if_pos ↥c];exact aS (l,.inl (_,rfl,zy m c,),)
    .rw[if_neg ↥c];have u:Lo R a b (n.push (at_ b h)) f (h+1):=(d.ha,'D',m,);split;·exact aS ⟨l,.inr ⟨rfl,u,by rw[cV];lia⟩⟩
     .exact aS (⟨l,.inr ⟨rfl,u,by rw[cV];lia⟩⟩,rfl,)
   |false=>
    dsimp only;rw[if_neg 'E'];refine aL (dX (dN 'D') ?_);have v:R (at_ a f) (at_ b h)=true:=by rw[o.tri _ _ (w.sa _ 'D') (w.sb _ d.hb) (w.dj _ _ 'D' d.hb),e];rfl
    have m:=IX o w d.mi 'D' λi p j=>Ef o w.sb w.ub (w.sa _ 'D') v p j;by_cases c:f+1+1=a.size;·rw[if_pos ↥c];exact aS (l,.inl (_,rfl,zr w m c,),)
    .rw[if_neg ↥c];have u:Lo R a b (n.push (at_ a f)) (f+1) h:=('D','D',m,);split;·exact aS ⟨l,.inr ⟨rfl,u,by rw[cV];lia⟩⟩
     .exact aS (⟨l,.inr ⟨rfl,u,by rw[cV];lia⟩⟩,rfl,)
  .rintro⟨r,n,f,h,H,J⟩ a0 ⟨⟨l,j⟩,e⟩;obtain⟨_,d,sz⟩:=j.resolve_left λ⟨_,v,_⟩=>by rw[e]at v;cases v
   exact⟨l,.inr ⟨e,d,by dsimp only at sz⊢;lia⟩⟩
  .rintro⟨r,n,f,h,H,J⟩ a0 ⟨l,j⟩;dsimp only at j
   iterate 10 refine nQ ?_
   rcases j with⟨z,rfl,D⟩ |⟨rfl,d,sz⟩;·exact aS (l,z,rfl,D,)
   refine aL (uh (dZ (rfl,?_,)));refine nQ ?_;refine aL (gi (di (I:=λy c st'=>LoQ κ R a b st (x+2) c.1 c.2.1 c.2.2.1 c.2.2.2.1 st'/\c.1=none) (Q:=λc st'=>LoQ κ R a b st (x+2) c.1 c.2.1 c.2.2.1 c.2.2.2.1 st') ?_ (λc st' a1=>a1.1) ((l,.inr (rfl,d,sz,),),rfl,)) ?_)
   .rintro y ⟨r,n,f,h,g,H,J⟩ G _ hy ⟨⟨F,C⟩,rfl⟩;obtain⟨_,d,sz⟩:=C.resolve_left λ⟨_,e,_⟩=>nomatch e;have l1:=d.ha;have l2:=d.hb;dsimp only at sz d l1 l2;dsimp only;have W:∀g',Ke κ st (gJ (kindOf G) (arrOf G) (cG G) g' (eD G)):=F.g;by_cases cg:g>1
    case' pos=>
     rw[if_pos cg];have t:=W (g-1)
    case' neg=>
     rw[if_neg cg];have t:=W g
    all_goals
     refine aL (gD (aL (dX (dN l2) (aL (j7 o (seg_a w l2 'D') 'D' F.kd λk p j C=>?_)))));have more:∀i,f+k<=i->i<a.size->R (at_ b h) (at_ a i)=true:=λi z1 z2=>by have z:=C (i-f) 'D' 'D';unfold bey at z;rw[show f+(i-f)=i by lia]at z;rw[o.tri _ _ (w.sb _ l2) (w.sa _ z2) λe=>w.dj _ _ z2 l2 e.symm,z];rfl
     dsimp only;by_cases c:k>0
     case' pos=>
      rw[if_pos c];have m:=many_a w o d.mi l2 p j;by_cases c1:f+k+1=a.size;·rw[if_pos ↥c1];exact aS (t,.inl (_,rfl,zr w m c1,),)
      rw[if_neg ↥c1];by_cases c2:f+k=a.size;·rw[if_pos ↥c2];exact aS (t,.inl (_,rfl,done_a m c2,),)
      rw[if_neg ↥c2];have O:x+2<=(n++a.extract f (f+k)).size:=by rw[ft];lia
      have B:f+k+1<a.size:=by lia
     case' neg=>
      rw[if_neg c];obtain rfl:k=0:=by lia
      have m:=d.mi;have O:=sz;have B:f+1<a.size:=l1
     all_goals
      have T:=C7 o w m l2 more;refine aL (dX (dN l2) ?_);by_cases c:h+1=b.size;·rw[if_pos ↥c];exact aS (t,.inl (_,rfl,zy T c,),)
      rw[if_neg ↥c];refine aL (dX (dN (gL B)) (aL (j7 o (seg_b w (by lia:h+1<b.size) (gL B)) 'D' t.kd λK a2 a3 a4=>?_)));have a6:=oth o w (gL B) a4;dsimp only;by_cases c:K>0
      case' pos=>
       rw[if_pos c];have U:=many_b w o T (gL B) a2 a3;by_cases c1:h+1+K=b.size;·rw[if_pos ↥c1];exact aS (t,.inl (_,rfl,zy U c1,),)
       rw[if_neg ↥c1];have V:h+1+K<b.size:=by lia
      case' neg=>
       rw[if_neg c];obtain rfl:K=0:=by lia
       have U:=T;have V:h+1<b.size:=by lia
      all_goals
       refine aL (dX (dN (gL B)) ?_);have Y:=IX o w U (gL B) a6;refine yB (λc=>aS (t,.inl (_,rfl,zr w Y (JC c),),)) λc=>?_
       .have c:=JG c;have u:Lo R a b _ _ _:=('D',V,Y,);split;·exact aS ⟨t,.inr ⟨rfl,u,by simp only[cV,ft]at O⊢;lia⟩⟩
        .exact aS (⟨t,.inr ⟨rfl,u,by simp only[cV,ft]at O⊢;lia⟩⟩,rfl,)
   .rintro⟨r,n,f,h,g,H,J⟩ G ⟨F,C⟩;dsimp only at C
    iterate 11 refine nQ ?_
    rcases C with⟨z,rfl,D⟩ |⟨rfl,d,sz⟩;·exact aS (F,z,rfl,D,)
    exact aL (gD (aS ((F.g _,.inr (rfl,d,sz,),),rfl,)))
 .rintro⟨r,n,f,h,g⟩ Z ⟨⟨L,p⟩,e⟩;obtain⟨_,d,sz⟩:=p.resolve_left λ⟨_,v,_⟩=>by rw[e]at v;cases v
  have :=d.size;have l1:=d.ha;have l2:=d.hb;dsimp only at sz this l1 l2;lia
 .rintro⟨r,n,f,h,g⟩ Z ⟨L,z,e,D⟩;dsimp only at e⊢;subst e;exact aS (q _ _ L D)
end
section
variable {M:Model}{E:'I'}{s:Shared}{κ:gm}{S:Keyed->Prop}{R:Keyed->Keyed->Bool}{a b:Array Keyed}{st st':SortSt}{na nb:Nat}{out:Array Keyed}
abbrev rv(R:Keyed->Keyed->Bool)(x y:Keyed):Bool:=R y x
def lY{a:Array Keyed}{x:Keyed}(h:x∈(a.toList.take i).reverse):∃j,j<i/\j<a.size/\x=at_ a j:=by obtain⟨k,b,rfl⟩:=aU.mp (iq.mp h);rw[aM]at b;refine(k,'D',by have :a.toList.length=a.size:=rfl;lia,?_,);rw[bX,ff]
def IM{a:Array Keyed}(h:i<a.size):(a.toList.take (i+1)).reverse=at_ a i::(a.toList.take i).reverse:=by rw[take_at h,kP];rfl
def AR{a:Array Keyed}(h:i<=n):(a.toList.take n).reverse=(a.extract i n).reverse.toList++(a.toList.take i).reverse:=by
 rw[Hm,dU,cP,<-kP,<-List.drop_take]
 conv =>lhs;rw[<-bN i (a.toList.take n)]
 rw[List.take_take,i8 h]
noncomputable abbrev Mh(R:Keyed->Keyed->Bool)(a b:Array Keyed)(out:Array Keyed)(na nb:Nat):Prop:=Mi (rv R) (a.toList++b.toList) out.toList (a.toList.take na).reverse (b.toList.take nb).reverse
structure Hi(R:Keyed->Keyed->Bool)(a b:Array Keyed)(out:Array Keyed)(na nb:Nat):Prop where
 ha:0<na
 hb:1<nb
 la:na<=a.size
 lb:nb<=b.size
 mi:Mh R a b out na nb
theorem Hi.size(m:Hi R a b out na nb):out.size+na+nb=a.size+b.size:=by have c:=m.mi.pm.length_eq;have d:=m.la;have e:=m.lb;simp only[aq,fR,aM,aO]at c;lia
def vI{l:List Keyed}{r:Array Keyed}{a:List Keyed}(h:l.Perm a/\l.Pairwise λx y=>rv R x y=true)(e:r.toList=l.reverse):Good R a r:=by refine(by rw[e];exact(gH l).trans h.1,?_,);rw[e,pP];exact h.2
def uH(m:Mh R a b out na nb)(h:na=0):Good R (a.toList++b.toList) (a.extract 0 na++b.extract 0 nb++out.reverse):=
 vI (m.swap.fin λt _ p c=>by subst h;cases c) (by simp[dU,cP])
def hdone_b(m:Mh R a b out na nb)(h:nb=0):Good R (a.toList++b.toList) (a.extract 0 na++b.extract 0 nb++out.reverse):=
 vI (m.swap.fin λt c=>by subst h;cases c) (by simp[dU,cP])
def uI(w:Two S R a b)(m:Mh R a b out na nb)(h:nb=1):Good R (a.toList++b.toList) (b.extract 0 nb++a.extract 0 na++out.reverse):=
 vI (m.fin λp d t e=>by
  obtain⟨i,_,c,rfl⟩:=lY d;obtain⟨j,f,_,rfl⟩:=lY e;obtain rfl:j=0:=by lia
  exact w.fb i c) (by simp[dU,cP])
def E6(m:Mh R a b out (na+1) nb)(e:na<a.size)(h:∀j,j<nb->j<b.size->R (at_ b j) (at_ a na)=true):Mh R a b (out.push (at_ a na)) na nb:=by unfold Mh at m⊢;rw[IM e]at m;rw[eW];exact m.Av (P1:=[at_ a na]) λp f t g=>by obtain⟨j,c,d,rfl⟩:=lY g;rw[aC.mp f];exact h j c d
def hpush_b(m:Mh R a b out na (nb+1))(e:nb<b.size)(h:∀i,i<na->i<a.size->R (at_ a i) (at_ b nb)=true):Mh R a b (out.push (at_ b nb)) na nb:=by unfold Mh at m⊢;rw[IM e]at m;rw[eW];exact m.Eh (T1:=[at_ b nb]) λp f t g=>by obtain⟨j,c,d,rfl⟩:=lY g;rw[aC.mp f];exact h j c d
def hpa(m:Mh R a b out na nb)(h0:0<na)(c:na<=a.size)(h:∀j,j<nb->j<b.size->R (at_ b j) (at_ a (na-1))=true):Mh R a b (out.push (at_ a (na-1))) (na-1) nb:=E6 (by rwa [show na-1+1=na by lia]) 'D' h
def hpb(m:Mh R a b out na nb)(h0:0<nb)(c:nb<=b.size)(h:∀i,i<na->i<a.size->R (at_ a i) (at_ b (nb-1))=true):Mh R a b (out.push (at_ b (nb-1))) na (nb-1):=hpush_b (by rwa [show nb-1+1=nb by lia]) 'D' h
def J7{c:Array Keyed}{k:Nat}{x:Keyed}(f:n<=c.size)(h:x∈(c.extract k n).reverse.toList):∃i,k<=i/\i<n/\x=at_ c i:=by rw[Hm,iq,dU,cP]at h;obtain⟨j,b,d,rfl⟩:=kA (eR h);obtain⟨i,a,e⟩:=aU.mp h;rw[aM,bA,aO]at a;refine(k+i,'D','D',?_,);rw[<-e,bX,ef,ff]
def hmany_a(m:Mh R a b out na nb)(o:na<=a.size){k:Nat}(g:k<=na)(h:∀i,k<=i->i<na->∀j,j<nb->j<b.size->R (at_ b j) (at_ a i)=true):Mh R a b (out++(a.extract k na).reverse) k nb:=by unfold Mh at m⊢;rw[AR g]at m;rw[cZ];exact m.Av λp l t n=>by obtain⟨i,c,d,rfl⟩:=J7 o l;obtain⟨j,e,f,rfl⟩:=lY n;exact h i c d j e f
def hmany_b(m:Mh R a b out na nb)(o:nb<=b.size){k:Nat}(g:k<=nb)(h:∀i,k<=i->i<nb->∀j,j<na->j<a.size->R (at_ a j) (at_ b i)=true):Mh R a b (out++(b.extract k nb).reverse) na k:=by unfold Mh at m⊢;rw[AR g]at m;rw[cZ];exact m.Eh λp l t n=>by obtain⟨i,c,d,rfl⟩:=J7 o l;obtain⟨j,e,f,rfl⟩:=lY n;exact h i c d j e f
def hseg_a(w:Two S R a b)(g:na<=a.size)(c:nb<b.size):Seg S R a 0 na (at_ b nb):=
 ('D',λi d=>w.sa _ 'D',λi j e f=>w.ua _ _ 'D' 'D',w.sb _ c,λi d=>w.dj _ _ 'D' c,)
def hseg_b(w:Two S R a b)(h:nb<=b.size)(c:na<a.size):Seg S R b 0 nb (at_ a na):=
 ('D',λi d=>w.sb _ 'D',λi j f g=>w.ub _ _ 'D' 'D',w.sa _ c,λi d e=>w.dj _ _ c 'D' e.symm,)
def uJ(o:Od M A E s κ S R){c:Array Keyed}{x:Keyed}(b:∀i,i<c.size->S (at_ c i))(u:∀i j,i<j->j<c.size->R (at_ c i) (at_ c j)=true)(d:S x)(h:R (at_ c i) x=true)(e:j<=i)(a:i<c.size):R (at_ c j) x=true:=by
 rcases lK j i with z|z;·exact o.tr _ _ _ (b _ 'D') (b _ a) d (u _ _ z a) h
 .obtain rfl:j=i:=by lia
  exact h
def HiQ(κ:gm)(R:Keyed->Keyed->Bool)(a b:Array Keyed)(st:SortSt)(n:Nat)(r:Option (Array Keyed))(na nb:Nat)(out:Array Keyed)(st':SortSt):Prop:=
 Ke κ st st'/\((∃x,r<*x/\Good R (a.toList++b.toList) x)\/(r=none/\Hi R a b out na nb/\n<=out.size))
def hoth_a(o:Od M A E s κ S R)(w:Two S R a b)(c:nb<b.size)(l:na<=a.size){k:Nat}(h:∀i,k<=i->i<na->bey R a 0 (at_ b nb) i=false)(i:Nat)(d:k<=i)(f:i<na)(j:Nat)(g:j<=nb)(m:j<b.size):R (at_ b j) (at_ a i)=true:=by have z:=h i d f;unfold bey at z;rw[iD]at z;refine uJ o w.sb w.ub (w.sa _ 'D') ?_ g c;rw[o.tri _ _ (w.sb _ c) (w.sa _ 'D') λe=>w.dj _ _ 'D' c e.symm,z];rfl
def hoth_b(o:Od M A E s κ S R)(w:Two S R a b)(c:na<a.size)(g:nb<=b.size){k:Nat}(h:∀i,k<=i->i<nb->bey R b 0 (at_ a na) i=false)(i:Nat)(d:k<=i)(e:i<nb)(j:Nat)(f:j<=na)(l:j<a.size):R (at_ a j) (at_ b i)=true:=by have z:=h i d e;unfold bey at z;rw[iD]at z;refine uJ o w.sa w.ua (w.sb _ 'D') ?_ f c;rw[o.tri _ _ (w.sa _ c) (w.sb _ 'D') (w.dj _ _ c 'D'),z];rfl
def Ct(o:Od M A E s κ S R)(w:Two S R a b)(hk:kindOf st=κ){Q:Array Keyed->SortSt->Prop}(q:∀r st',Ke κ st st'->Good R (a.toList++b.toList) r->Q r st'):wpS M A E s (JT a b) Q st:=by
 have T:Ke κ st st:=(hk,rfl,rfl,rfl,);have h:=w.na;have f:=w.nb;have a7:Mh R a b #[] (a.size-1+1) b.size:=by refine⟨?_,.nil,pP.mpr ((uz w.ua).sublist (gG _ _)),pP.mpr ((uz w.ub).sublist (gG _ _)),(λx hx=>nomatch hx)⟩;rw[fi (by rw[aO];lia),fi (by rw[aO];lia)];exact(gH _).append (gH _)
 have U:=E6 a7 'D' λj _ hj=>w.la j hj;refine aL (uh (dZ (rfl,?_,)));refine aL (dX (dN 'D') ?_);dsimp only;by_cases c1:a.size-1=0;·rw[if_pos ↥c1];exact aS (q _ _ T (uH U c1))
 rw[if_neg ↥c1];by_cases c2:b.size=1;·rw[if_pos ↥c2];exact aS (q _ _ T (uI w U c2))
 rw[if_neg ↥c2];refine aL (mR ?_);refine aL (gi (di (I:=λx c st'=>HiQ κ R a b st (x+1) c.1 c.2.1 c.2.2.1 c.2.2.2.1 st'/\c.1=none) (Q:=λc st'=>Ke κ st st'/\∃r,c.1<*r/\Good R (a.toList++b.toList) r) ?_ ?_ (⟨T,.inr ⟨rfl,(by show 0<a.size-1;lia,by show 1<b.size;lia,Nat.sub_le _ _,aE _,U,),'F'⟩⟩,rfl,)) ?_)
 .rintro x ⟨r,h,f,p,g⟩ a0 _ hx ⟨⟨N,C⟩,rfl⟩;obtain⟨_,d,sz⟩:=C.resolve_left λ⟨_,e,_⟩=>nomatch e;dsimp only at sz d⊢;refine aL (gi (di (I:=λy c st'=>HiQ κ R a b st (x+1+y) c.1 c.2.1 c.2.2.1 c.2.2.2.1 st'/\c.1=none) (Q:=λc st'=>HiQ κ R a b st (x+2) c.1 c.2.1 c.2.2.1 c.2.2.2.1 st') ?_ ?_ ((N,.inr (rfl,d,↥sz,),),rfl,)) ?_)
  .rintro y ⟨r,h,f,p,K,L⟩ a1 _ hy ⟨⟨l,n⟩,rfl⟩;obtain⟨_,d,sz⟩:=n.resolve_left λ⟨_,e,_⟩=>nomatch e;have l1:=d.ha;have l2:=d.hb;have v:=d.la;have H:=d.lb;dsimp only at sz d l1 l2 v H⊢;refine aL (dX (dN 'D') (aL (dX (dN 'D') (aL (o.ask _ _ _ _ (w.sb _ 'D') (w.sa _ 'D') (λe=>w.dj _ _ 'D' 'D' e.symm) l.kd ?_)))));cases e:R (at_ b (f-1)) (at_ a (h-1))with
   |true=>
    dsimp only;rw[if_pos rfl];refine aL (dX (dN 'D') ?_);have m:=hpa d.mi l1 v λj C n=>uJ o w.sb w.ub (w.sa _ 'D') e 'D' 'D';by_cases c:h-1=0;·rw[if_pos ↥c];exact aS (l,.inl (_,rfl,uH m c,),)
    .rw[if_neg ↥c];have u:Hi R a b (p.push (at_ a (h-1))) (h-1) f:=('D',l2,'D',H,m,);split;·exact aS ⟨l,.inr ⟨rfl,u,by rw[cV];lia⟩⟩
     .exact aS (⟨l,.inr ⟨rfl,u,by rw[cV];lia⟩⟩,rfl,)
   |false=>
    dsimp only;rw[if_neg 'E'];refine aL (dX (dN 'D') ?_);have B:R (at_ a (h-1)) (at_ b (f-1))=true:=by rw[o.tri _ _ (w.sa _ 'D') (w.sb _ 'D') (w.dj _ _ 'D' 'D'),e];rfl
    have m:=hpb d.mi 'D' H λi C n=>uJ o w.sa w.ua (w.sb _ 'D') B 'D' 'D';by_cases c:f-1=1;·rw[if_pos ↥c];exact aS (l,.inl (_,rfl,uI w m c,),)
    .rw[if_neg ↥c];have u:Hi R a b (p.push (at_ b (f-1))) h (f-1):=(l1,'D',v,'D',m,);split;·exact aS ⟨l,.inr ⟨rfl,u,by rw[cV];lia⟩⟩
     .exact aS (⟨l,.inr ⟨rfl,u,by rw[cV];lia⟩⟩,rfl,)
  .rintro⟨r,h,f,p,K,L⟩ a1 ⟨⟨l,n⟩,e⟩;obtain⟨_,d,sz⟩:=n.resolve_left λ⟨_,B,_⟩=>by rw[e]at B;cases B
   exact⟨l,.inr ⟨e,d,by dsimp only at sz⊢;lia⟩⟩
  .rintro⟨r,h,f,p,K,L⟩ a1 ⟨l,n⟩;dsimp only at n⊢;rcases n with⟨z,rfl,J⟩ |⟨rfl,d,sz⟩;·exact aS (l,z,rfl,J,)
   dsimp only;refine aL (uh (dZ (rfl,?_,)));refine aL (gi (di (I:=λy c st'=>HiQ κ R a b st (x+2) c.1 c.2.1 c.2.2.1 c.2.2.2.1 st'/\c.1=none) (Q:=λc st'=>HiQ κ R a b st (x+2) c.1 c.2.1 c.2.2.1 c.2.2.2.1 st') ?_ (λc st' a3=>a3.1) ((l,.inr (rfl,d,sz,),),rfl,)) ?_)
   .rintro y ⟨r,h,f,p,g,K,L⟩ a8 _ hy ⟨⟨G,D⟩,rfl⟩;obtain⟨_,d,sz⟩:=D.resolve_left λ⟨_,e,_⟩=>nomatch e;have l1:=d.ha;have l2:=d.hb;have v:=d.la;have H:=d.lb;dsimp only at sz d l1 l2 v H⊢;by_cases cg:g>1
    case' pos=>
     rw[if_pos cg];have t:=G.g (g-1)
    case' neg=>
     rw[if_neg cg];have t:=G.g g
    all_goals
     refine aL (gD (aL (dX (dN 'D') (aL (j7 o (hseg_a w v (by lia:f-1<b.size)) 'D' G.kd λk C n D=>?_)))));have up:=hoth_a o w (by lia:f-1<b.size) v D;have dn:∀i,i<k->i<a.size->R (at_ a i) (at_ b (f-1))=true:=λi z _=>by
      have :=n i z;unfold bey at this
      rwa [iD]at this
     dsimp only;by_cases c:h-k>0
     case' pos=>
      rw[if_pos c];have m:=hmany_a d.mi v C λi W X j z3 Y=>up i W X j 'D' Y;by_cases c1:k=0;·rw[if_pos ↥c1];exact aS (t,.inl (_,rfl,uH m c1,),)
      rw[if_neg ↥c1];have Z:0<k:=by lia
      have P:x+2<=(p++(a.extract k h).reverse).size:=by rw[ft];lia
     case' neg=>
      rw[if_neg c];obtain rfl:k=h:=by lia
      have m:=d.mi;have Z:=l1;have P:=sz
     all_goals
      have V:=hpb m 'D' H dn;refine aL (dX (dN 'D') ?_);by_cases c:f-1=1;·rw[if_pos ↥c];exact aS (t,.inl (_,rfl,uI w V c,),)
      rw[if_neg ↥c];refine aL (dX (dN 'D') (aL (j7 o (hseg_b w (by lia:f-1<=b.size) (by lia:k-1<a.size)) 'D' t.kd λF a4 a5 a6=>?_)));have a9:=hoth_b o w (by lia:k-1<a.size) (by lia:f-1<=b.size) a6;have a2:∀i,i<F->i<b.size->R (at_ b i) (at_ a (k-1))=true:=λi z _=>by
       have :=a5 i z;unfold bey at this
       rwa [iD]at this
      dsimp only;by_cases c:f-1-F>0
      case' pos=>
       rw[if_pos c];have O:=hmany_b V 'D' a4 λi W X j z3 Y=>a9 i W X j 'D' Y;by_cases c1:F=1;·rw[if_pos ↥c1];exact aS (t,.inl (_,rfl,uI w O c1,),)
       rw[if_neg ↥c1];by_cases c2:F=0;·rw[if_pos ↥c2];exact aS (t,.inl (_,rfl,hdone_b O c2,),)
       rw[if_neg ↥c2];have g1:1<F:=by lia
      case' neg=>
       rw[if_neg c];obtain rfl:F=f-1:=by lia
       have O:=V;have g1:1<f-1:=by lia
      all_goals
       refine aL (dX (dN 'D') ?_);have m4:=hpa O Z 'D' a2;refine yB (λc=>aS (t,.inl (_,rfl,uH m4 (JC c),),)) λc=>?_
       .have c:=JG c;have u:Hi R a b _ _ _:=('D',g1,'D','D',m4,);split;·exact aS ⟨t,.inr ⟨rfl,u,by simp only[cV,ft]at P⊢;lia⟩⟩
        .exact aS (⟨t,.inr ⟨rfl,u,by simp only[cV,ft]at P⊢;lia⟩⟩,rfl,)
   .rintro⟨r,h,f,p,g,K,L⟩ a8 ⟨G,D⟩;dsimp only at D⊢;rcases D with⟨z,rfl,J⟩ |⟨rfl,d,sz⟩;·exact aS (G,z,rfl,J,)
    exact aL (gD (aS ((G.g _,.inr (rfl,d,sz,),),rfl,)))
 .rintro⟨r,h,f,p,g⟩ a0 ⟨⟨N,C⟩,e⟩;obtain⟨_,d,sz⟩:=C.resolve_left λ⟨_,B,_⟩=>by rw[e]at B;cases B
  have :=d.size;have l1:=d.ha;have l2:=d.hb;dsimp only at sz this l1 l2;lia
 .rintro⟨r,h,f,p,g⟩ a0 ⟨N,z,e,J⟩;dsimp only at e⊢;subst e;exact aS (q _ _ N J)
end
noncomputable abbrev Rs(R:Keyed->Keyed->Bool)(l:List Keyed):Prop:=l.Pairwise λx y=>R x y=true
section
variable {M:Model}{E:'I'}{s:Shared}{κ:gm}{S:Keyed->Prop}{R:Keyed->Keyed->Bool}
def wpS_set{x:SortSt}{Q:PUnit->SortSt->Prop}{st:SortSt}(h:Q ⟨⟩ x):wpS M A E s (set x:StateT SortSt Sem PUnit) Q st:=by unfold wpS;rw[StateT.run_set];exact ag (rfl,h,)
def zM{arr:Array Keyed}{U W:List Keyed}(h:arr.toList=U++W)(hi:i<W.length):at_ arr (U.length+i)=W[i]:=by
 have a:U.length+i<arr.toList.length:=by rw[h,aq];lia
 rw[<-ff a];simp only[h];rw[List.getElem_append_right 'D'];simp
theorem AV{o:Nat}:∀(l:List Keyed)(n:Nat)(arr:Array Keyed)(P L T:List Keyed),arr.toList=P++(L++T)->P.length=o+n->L.length=l.length->((l.zipIdx n).foldl (λa x=>a.setIfInBounds (o+x.2) x.1) arr).toList=P++(l++T)
 | [],n,arr,P,L,T,h,h1,h2=>by obtain rfl:L=[]:=cn.mp h2;exact h
 |p::l,n,arr,P,[],T,h,h1,h2=>nomatch h2
 |p::l,n,arr,P,y::L,T,h,h1,h2=>by
  rw[List.zipIdx_cons,kG];have e:(arr.setIfInBounds (o+n) p).toList=(P++[p])++(L++T):=by rw[Ac,h,<-h1,List.set_append_right _ _ (aE _),Nat.sub_self];simp
  have :=AV l (n+1) (arr.setIfInBounds (o+n) p) (P++[p]) L T e (by rw[aq,dJ,h1];rfl) (gK h2);rw[this];simp
def AN{arr:Array Keyed}{U W V:List Keyed}{c:Keyed}(h:arr.toList=U++(W++V))(u:Rs R W)(k:∀x∈W,S x)(g:S c)(l:c∉W):Seg S R arr U.length W.length c:=by
 have a:∀i (b:i<W.length),at_ arr (U.length+i)=W[i]:=λi b=>by rw[zM h (by rw[aq];lia),nB b]
 refine(?_,λi b=>?_,λi j f d=>?_,g,λi b e=>?_,);·have :arr.toList.length=arr.size:=rfl;rw[<-this,h,aq,aq];lia
 .rw[a i b];exact k _ (bF b)
 .rw[a i 'D',a j d];exact b9.mp u i j 'D' d f
 .rw[a i b]at e;exact l (e▸bF b)
def qo{x:Array Keyed}(h:i<x.size):at_ x i∈x.toList:=by rw[<-ff ↥h];exact bF _
def HA{x y:Array Keyed}{z:Keyed}(m:Rs R x.toList)(n:Rs R y.toList)(k:∀p∈x.toList,S p)(l:∀p∈y.toList,S p)(dj:∀p∈x.toList,∀t∈y.toList,p≠t)(d:∀t∈x.toList,R (at_ y 0) t=true)(f:∀t∈y.toList,R t (at_ x (x.size-1))=true)(g:0<x.size)(h:0<y.size):Two S R x y where
 sa:=λi c=>k _ (qo c)
 sb:=λi c=>l _ (qo c)
 ua:=λi j a b=>by
  have :=b9.mp m i j (by rw[aO];lia) (by rw[aO];exact b) a
  rwa [ff,ff]at this
 ub:=λi j a b=>by
  have :=b9.mp n i j (by rw[aO];lia) (by rw[aO];exact b) a
  rwa [ff,ff]at this
 dj:=λi j a b=>dj _ (qo a) _ (qo b)
 la:=λj e=>f _ (qo e)
 fb:=λi c=>d _ (qo c)
 na:=g
 nb:=h
theorem Cu(o:Od M A E s κ S R){st:SortSt}{U P T V:List Keyed}{O b0:Nat}{Q:Bool->SortSt->Prop}(hk:kindOf st=κ)(hf:eD st=none)(h:(arrOf st).toList=U++(P++(T++V)))
  (p1:(cG st)[i]?<*(U.length,P.length,O))(p2:(cG st)[i+1]?<*(U.length+P.length,T.length,b0))(W:Rs R P)(X:Rs R T)(nP:P≠[])(nT:T≠[])(hs:∀x∈(arrOf st).toList,S x)(nd:(arrOf st).toList.Nodup)
  (q:∀(st':SortSt) C,kindOf st'=κ->eD st'=none->(arrOf st').toList=U++(C++V)->C.Perm (P++T)->Rs R C->cG st'=((cG st).setIfInBounds i (U.length,P.length+T.length,O)).eraseIdxIfInBounds (i+1)->Q true st'):
  wpS M A E s (mergeAt' i) Q st:=by
 have n:∀x∈P,S x:=λx e=>hs x (by rw[h];simp[e]);have u:∀x∈T,S x:=λx e=>hs x (by rw[h];simp[e]);rw[h]at nd;obtain⟨_,a9,_⟩:=d8.mp nd;obtain⟨_,b6,D⟩:=d8.mp a9;have D:∀p∈P,∀t∈T,p≠t:=λp f t l=>D p f t (aH.mpr (.inl l));have lP:0<P.length:=da.mpr nP;have Z:0<T.length:=da.mpr nT;have h2:(arrOf st).toList=(U++P)++(T++V):=by rw[h];simp
 have aP:∀i (d:i<P.length),at_ (arrOf st) (U.length+i)=P[i]:=λi d=>by rw[zM h (by rw[aq];lia),nB d]
 have aT:∀i (d:i<T.length),at_ (arrOf st) (U.length+P.length+i)=T[i]:=λi d=>by have :=zM h2 (i:=i) (by rw[aq];lia);rw[aq]at this;rw[this,nB d]
 have sz:(arrOf st).size=U.length+(P.length+(T.length+V.length)):=by have :(arrOf st).toList.length=(arrOf st).size:=rfl;rw[<-this,h];simp
 have t0:at_ (arrOf st) (U.length+P.length)=T[0]:=aT 0 Z;refine aL (mR ?_);rw[p1,p2];dsimp only;refine aL (wpS_set ?_);obtain⟨I,K⟩:∃x,x=gJ (kindOf st) (arrOf st) (((cG st).setIfInBounds i (U.length,P.length+T.length,O)).eraseIdxIfInBounds (i+1)) (Hd st) (eD st):=(_,rfl,);change wpS M A E s _ Q (gJ (kindOf st) (arrOf st) (((cG st).setIfInBounds i (U.length,P.length+T.length,O)).eraseIdxIfInBounds (i+1)) (Hd st) (eD st));rw[<-K];have N:kindOf I=κ:=by rw[K];exact hk
 have f1:eD I=none:=by rw[K];exact hf
 have a1:arrOf I=arrOf st:=by rw[K]
 have e1:cG I=((cG st).setIfInBounds i (U.length,P.length+T.length,O)).eraseIdxIfInBounds (i+1):=by rw[K]
 have H:T[0]∈T:=bF Z;refine aL (dX (dN (show U.length+P.length<(arrOf st).size by lia)) ?_);rw[t0];refine aL (j7 o (AN h W n (u _ H) λz=>D _ z _ H rfl) 'D' N λk b1 b2 b3=>?_);have a6:∀i (d:i<P.length),i<k->R P[i] T[0]=true:=λi d F=>by
  have :=b2 i F;unfold bey at this
  rwa [aP i d]at this
 have a4:∀i (d:i<P.length),k<=i->R T[0] P[i]=true:=λi d F=>by have :=b3 i F d;unfold bey at this;rw[aP i d]at this;rw[o.tri _ _ (u _ H) (n _ (bF d)) λa2=>D _ (bF d) _ H a2.symm,this];rfl
 have a0:∀x y,S x->R x T[0]=true->y∈T->R x y=true:=λx y sx e L=>by
  obtain⟨j,g,rfl⟩:=aU.mp L;rcases Nat.eq_zero_or_pos j with rfl|c;·exact e
  .exact o.tr _ _ _ sx (u _ H) (u _ L) e (b9.mp X 0 j Z g c)
 dsimp only;by_cases c0:P.length-k=0;·rw[if_pos ↥c0];refine aS (q I (P++T) N f1 (by rw[a1,h];simp) (fw _) (cN.mpr (W,X,λx e y L=>?_,)) e1);obtain⟨j,g,rfl⟩:=aU.mp e;exact a0 _ _ (n _ e) (a6 j g 'D') L
 rw[if_neg ↥c0];have lst:at_ (arrOf st) (U.length+k+(P.length-k)-1)=P[P.length-1]''D':=by rw[show U.length+k+(P.length-k)-1=U.length+(P.length-1) by lia];exact aP _ 'D'
 have G:P[P.length-1]''D'∈P:=bF _;refine aL (dX (dN (show U.length+k+(P.length-k)-1<(arrOf st).size by lia)) ?_);rw[lst];have sg:=AN h2 X u (n _ G) λz=>D _ G _ z rfl;rw[aq]at sg;refine aL (j7 o sg 'D' N λm d1 d2 d3=>?_);have a8:∀i (d:i<T.length),i<m->R T[i] (P[P.length-1]''D')=true:=λi d F=>by
  have :=d2 i F;unfold bey at this
  rwa [aT i d]at this
 have a5:∀i (d:i<T.length),m<=i->R (P[P.length-1]''D') T[i]=true:=λi d F=>by have :=d3 i F d;unfold bey at this;rw[aT i d]at this;rw[o.tri _ _ (n _ G) (u _ (bF d)) (D _ G _ (bF d)),this];rfl
 dsimp only;by_cases c1:m=0;·have z1:=a4 (P.length-1) 'D' 'D';have z2:=a5 0 Z 'D';rw[o.asym (u _ H) (n _ G) z1]at z2;cases z2
 rw[if_neg ↥c1];have eP:P=P.take k++P.drop k:=(bN k P).symm;have eT:T=T.take m++T.drop m:=(bN m T).symm;have v:((arrOf st).extract (U.length+k) (U.length+P.length)).toList=P.drop k:=by
  have hh:(arrOf st).toList=(U++P.take k)++(P.drop k++(T++V)):=by rw[h,bQ,<-bQ (P.take k),bN]
  rw[dU,cP,hh,show U.length+k=(U++P.take k).length by rw[aq,aM];lia,List.drop_left,aq,aM,show U.length+P.length-(U.length+min k P.length)=(P.drop k).length by rw[bA];lia,Ag]
 have w:((arrOf st).extract (U.length+P.length) (U.length+P.length+m)).toList=T.take m:=by rw[vM,h2,show U.length+P.length=(U++P).length by rw[aq],List.drop_left,xr 'D']
 have mx:∀{x},x∈P.drop k->x∈P:=λe=>kc e;have my:∀{x},x∈T.take m->x∈T:=λe=>eR e;have dR:∀{x},x∈P.drop k->R T[0] x=true:=λ{x} e=>by obtain⟨j,g,rfl⟩:=aU.mp e;rw[bA]at g;rw[ef];exact a4 _ _ 'D'
 have dL:∀{x},x∈T.take m->R x (P[P.length-1]''D')=true:=λ{x} e=>by obtain⟨j,g,rfl⟩:=aU.mp e;rw[aM]at g;rw[bX];exact a8 _ _ 'D'
 generalize e:(arrOf st).extract (U.length+k) (U.length+P.length)=x at v;generalize L:(arrOf st).extract (U.length+P.length) (U.length+P.length+m)=y at w;have xs:x.size=P.length-k:=by rw[<-aO,v,bA]
 have ys:y.size=m:=by rw[<-aO,w,aM];lia
 have y0:at_ y 0=T[0]:=by rw[<-ff (by rw[aO,ys];lia)];simp only[w];rw[bX]
 have xl:at_ x (x.size-1)=P[P.length-1]''D':=by rw[<-ff (by rw[aO];lia)];simp only[v,xs];rw[ef];congr 1;lia
 have tw:Two S R x y:=HA (z:=T[0]) (by rw[v];exact W.sublist (List.drop_sublist _ _)) (by rw[w];exact X.sublist (gG _ _)) (λp f=>n _ (mx (by rwa [v]at f))) (λp f=>u _ (my (by rwa [w]at f))) (λp f t l=>D _ (mx (by rwa [v]at f)) _ (my (by rwa [w]at l)))
  (λt l=>by rw[y0];exact dR (by rwa [v]at l)) (λt l=>by rw[xl];exact dL (by rwa [w]at l)) 'D' 'D'
 have fin:∀(r:Array Keyed)(b:SortSt),Ke κ I b->Good R (x.toList++y.toList) r->Q (eD (gJ (kindOf b) (r.toList.zipIdx.foldl (λa z=>a.setIfInBounds (U.length+k+z.2) z.1) (arrOf b)) (cG b) (Hd b) (eD b))).isNone (gJ (kindOf b) (r.toList.zipIdx.foldl (λa z=>a.setIfInBounds (U.length+k+z.2) z.1) (arrOf b)) (cG b) (Hd b) (eD b)):=λr b B J=>by
  obtain⟨Y,g2⟩:=J;rw[v,w]at Y;have a3:eD b=none:=B.fa.trans f1;have e2:(eD (gJ (kindOf b) (r.toList.zipIdx.foldl (λa z=>a.setIfInBounds (U.length+k+z.2) z.1) (arrOf b)) (cG b) (Hd b) (eD b))).isNone=true:=by show(eD b).isNone=true;rw[a3];rfl
  rw[e2];have hh:(arrOf b).toList=(U++P.take k)++((P.drop k++T.take m)++(T.drop m++V)):=by simp only[bQ];rw[B.ar,a1,h,<-bQ (P.take k),bN,<-bQ (T.take m),bN]
  have pl:=AV (o:=U.length+k) r.toList 0 (arrOf b) _ _ _ hh (by rw[aq,aM];lia) Y.length_eq.symm;refine q _ (P.take k++(r.toList++T.drop m)) B.kd a3 ?_ ?_ ?_ (B.pe.trans e1);·show((r.toList.zipIdx.foldl (λa z=>a.setIfInBounds (U.length+k+z.2) z.1) (arrOf b))).toList=_;rw[pl];simp
  .have pm:=(Y.append_right (T.drop m)).append_left (P.take k);have a2:P.take k++(P.drop k++T.take m++T.drop m)=P++T:=by rw[bQ (P.drop k),<-bQ (P.take k),bN,bN]
   rwa [a2]at pm
  .have mr:∀{z},z∈r.toList->z∈P.drop k\/z∈T.take m:=λhz=>aH.mp (Y.mem_iff.mp hz);have b4:Rs R (P.take k++P.drop k):=by rw[<-eP];exact W
   have b5:Rs R (T.take m++T.drop m):=by rw[<-eT];exact X
   obtain⟨v1,v2,v3⟩:=cN.mp b4;obtain⟨v4,v5,v6⟩:=cN.mp b5;have a7:∀{p},p∈P.take k->R p T[0]=true:=λ{p} f=>by obtain⟨j,g,rfl⟩:=aU.mp f;rw[aM]at g;rw[bX];exact a6 _ _ 'D'
   refine cN.mpr (v1,cN.mpr (g2,v5,λp f t l=>?_,),λp f t l=>?_,)
   .rcases mr f with z|z
    .have tt:R (P[P.length-1]''D') t=true:=by obtain⟨j,g,rfl⟩:=aU.mp l;rw[bA]at g;rw[ef];exact a5 _ _ 'D'
     obtain⟨j,g,rfl⟩:=aU.mp (mx z);rcases lK j (P.length-1)with c|c;·exact o.tr _ _ _ (n _ (mx z)) (n _ G) (u _ (kc l)) (b9.mp W j _ g 'D' c) tt
     .have :j=P.length-1:=by lia
      subst this;exact tt
    .exact v6 p z t l
   .rcases aH.mp l with z|z
    .rcases mr z with y|y;·exact v3 p f t y
     .exact a0 _ _ (n _ (eR f)) (a7 f) (my y)
    .exact a0 _ _ (n _ (eR f)) (a7 f) (kc z)
 refine yB (λ_=>aL ?_) λ_=>aL ?_;·exact Cr o tw N λr b B J=>aL (gD (aL (mR (aS (fin r b B J)))))
 .exact Ct o tw N λr b B J=>aL (gD (aL (mR (aS (fin r b B J)))))
end
def Up(R:Keyed->Keyed->Bool)(arr:Array Keyed)(lo n:Nat):Prop:=∀i j,i<j->j<n->R (at_ arr (lo+i)) (at_ arr (lo+j))=true
def Dn(R:Keyed->Keyed->Bool)(arr:Array Keyed)(lo n:Nat):Prop:=∀i j,i<j->j<n->R (at_ arr (lo+j)) (at_ arr (lo+i))=true
section
variable {M:Model}{E:'I'}{s:Shared}{κ:gm}{S:Keyed->Prop}{R:Keyed->Keyed->Bool}{arr:Array Keyed}{lo nrem:Nat}{st:SortSt}
structure Al(S:Keyed->Prop)(arr:Array Keyed):Prop where
 hs:∀x∈arr.toList,S x
 nd:arr.toList.Nodup
def Al.inS(h:Al S arr)(hi:i<arr.size):S (at_ arr i):=h.hs _ (qo hi)
def Al.ne(h:Al S arr)(hi:i<arr.size)(a:j<arr.size)(n:i≠j):at_ arr i≠at_ arr j:=λe=>by rw[<-ff ↥hi,<-ff ↥a]at e;exact n ((cJ h.nd).mp e)
def Al.perm{a:Array Keyed}(h:Al S arr)(p:a.Perm arr):Al S a:=by have q:=d7.mp p;exact(λx b=>h.hs x (q.mem_iff.mp b),q.nodup_iff.mpr h.nd,)
def flip(o:Od M A E s κ S R)(h:Al S arr)(hi:i<arr.size)(a:j<arr.size)(n:i≠j)(e:R (at_ arr i) (at_ arr j)=false):R (at_ arr j) (at_ arr i)=true:=by rw[o.tri _ _ (h.inS a) (h.inS hi) (h.ne a hi λz=>n z.symm),e];rfl
def xQ(o:Od M A E s κ S R)(b:kindOf st=κ)(h:Al S (arrOf st)){Q:Option Bool->SortSt->Prop}(hi:i<(arrOf st).size)(a:j<(arrOf st).size)(n:i≠j)(q:Q (some (R (at_ (arrOf st) i) (at_ (arrOf st) j))) st):wpS M A E s (ltAt' i j) Q st:=
 aL (mR (aL (dX (dN hi) (aL (dX (dN a) (o.ask _ _ _ _ (h.inS hi) (h.inS a) (h.ne hi a n) b q))))))
def Up.succ(o:Od M A E s κ S R)(h:Al S arr)(b:lo+n<arr.size)(d:1<=n)(u:Up R arr lo n)(e:R (at_ arr (lo+n-1)) (at_ arr (lo+n))=true):Up R arr lo (n+1):=λi j a f=>by
 by_cases c:j=n
 .subst c;by_cases c2:i=j-1
  .subst c2
   rwa [show lo+j-1=lo+(j-1) by lia]at e
  .have :=u i (j-1) 'D' 'D';rw[show lo+j-1=lo+(j-1) by lia]at e;exact o.tr _ _ _ (h.inS 'D') (h.inS 'D') (h.inS b) this e
 .exact u i j a 'D'
def Dn.succ(o:Od M A E s κ S R)(h:Al S arr)(b:lo+n<arr.size)(d:1<=n)(u:Dn R arr lo n)(e:R (at_ arr (lo+n)) (at_ arr (lo+n-1))=true):Dn R arr lo (n+1):=λi j a f=>by
 by_cases c:j=n
 .subst c;by_cases c2:i=j-1
  .subst c2
   rwa [show lo+j-1=lo+(j-1) by lia]at e
  .have :=u i (j-1) 'D' 'D';rw[show lo+j-1=lo+(j-1) by lia]at e;exact o.tr _ _ _ (h.inS b) (h.inS 'D') (h.inS 'D') e this
 .exact u i j a 'D'
def BU(o:Od M A E s κ S R)(h:Al S arr){f:Nat->Option (Option Nat)×Nat->StateT SortSt Sem (ForInStep (Option (Option Nat)×Nat))}{Q:Option (Option Nat)×Nat->SortSt->Prop}{n0:Nat}(hz:lo+nrem<=arr.size)
  (l:∀x n (b:ForInStep (Option (Option Nat)×Nat)->SortSt->Prop),1<=n->n<nrem->(R (at_ arr (lo+n)) (at_ arr (lo+n-1))=true->b (.done (none,n)) st)->(R (at_ arr (lo+n)) (at_ arr (lo+n-1))=false->b (.yield (none,n+1)) st)->wpS M A E s (f x (none,n)) b st)
  (m:1<=n0)(d:n0<=nrem)(u:Up R arr lo n0)(q:∀n,n0<=n->n<=nrem->Up R arr lo n->(n=nrem\/R (at_ arr (lo+n)) (at_ arr (lo+n-1))=true)->Q (none,n) st):wpS M A E s (forIn [n0:nrem] (none,n0) f) Q st:=by
 refine di (I:=λx c g=>g=st/\c=(none,x)/\n0<=x/\x<=nrem/\Up R arr lo x) ?_ ?_ (rfl,rfl,aE _,d,u,);·rintro x c g _ k ⟨rfl,rfl,i,j,a⟩;refine l _ _ _ 'D' k (λe=>q x i j a (.inr e)) λe=>(rfl,rfl,'D',k,a.succ o h 'D' 'D' (flip o h 'D' 'D' 'D' e),)
 .rintro c g ⟨rfl,rfl,i,j,a⟩;rw[Nat.max_eq_right d]at a⊢;exact q nrem d (aE _) a (.inl rfl)
def G2(a:lo+n<=arr.size)(k:Nat):at_ (mirror arr lo (lo+n) ((lo+n-lo)/2)) k=if lo<=k/\k<lo+n then at_ arr (lo+(lo+n)-1-k)else at_ arr k:=by unfold at_;rw[cB,getElem?_mirror_all a];split <;>rw[cB]
def Ap(o:Od M A E s κ S R)(f:kindOf st=κ)(h:Al S (arrOf st)){Q:Option Nat->SortSt->Prop}(H:1<=nrem)(hz:lo+nrem<=(arrOf st).size)
  (q:∀n t,1<=n->n<=nrem->t.Perm (arrOf st)->(∀k,k<lo->at_ t k=at_ (arrOf st) k)->Up R t lo n->Q (some n) (setArr st t)):wpS M A E s (countRun' lo nrem) Q st:=by
 refine aL (BU o h hz (λx n F N O z B=>?_) (aE _) H (λi j _ _=>by lia) λn y m g D=>?_)
 .dsimp only;refine aL (xQ o f h 'D' 'D' 'D' ?_);cases e:R (at_ (arrOf st) (lo+n)) (at_ (arrOf st) (lo+n-1))with
  |true=>exact aS (z e)
  |false=>exact aS (B e)
 dsimp only;by_cases c:n=nrem;·rw[if_pos ↥c];exact aS (q n (arrOf st) y m (jA _) (λ_ _=>rfl) g)
 rw[if_neg ↥c];by_cases d:n>1;·rw[if_pos d];refine aL (xQ o f h 'D' 'D' 'D' ?_);have e:=g 0 (n-1) 'D' 'D';rw[Nat.add_zero,show lo+(n-1)=lo+n-1 by lia]at e;rw[e];exact aS (q n (arrOf st) y m (jA _) (λ_ _=>rfl) g)
 rw[if_neg d];obtain rfl:n=1:=by lia
 have G:=D.resolve_left c;refine aL (uh (dZ (rfl,?_,)));refine aL (gi (di (I:=λx c a=>a=st/\c=(none,x,0)/\2<=x/\x<=nrem/\Dn R (arrOf st) lo x) (Q:=λc a=>a=st/\∃x,c=(none,x,0)/\2<=x/\x<=nrem/\Dn R (arrOf st) lo x) ?_ ?_ (rfl,rfl,'D','D',λi j J K=>?_,)) ?_)
 .rintro x c a _ L ⟨rfl,rfl,u,l,b⟩;dsimp only;refine aL (xQ o f h 'D' 'D' 'D' ?_);cases e:R (at_ (arrOf a) (lo+x)) (at_ (arrOf a) (lo+x-1))with
  |true=>dsimp only;rw[if_pos rfl,if_neg 'D'];exact aS (rfl,rfl,'D',L,b.succ o h 'D' 'D' e,)
  |false=>dsimp only;rw[if_neg 'E'];refine aL (xQ o f h 'D' 'D' 'D' ?_);rw[flip o h 'D' 'D' 'D' e];exact aS (rfl,x,rfl,u,l,b,)
 .rintro c a ⟨rfl,rfl,u,l,b⟩;exact(rfl,_,rfl,u,l,b,)
 .obtain rfl:j=1:=by lia
  obtain rfl:i=0:=by lia
  exact G
 .rintro c a ⟨rfl,x,rfl,u,l,b⟩;dsimp only;rw[if_neg 'D'];refine aL (gD ?_);have v:(mirror (arrOf a) lo (lo+x) ((lo+x-lo)/2)).Perm (arrOf a):=mirror_perm _ _ _ _;have C:=h.perm v;have w:(mirror (arrOf a) lo (lo+x) ((lo+x-lo)/2)).size=(arrOf a).size:=v.size_eq;have p:=G2 (arr:=arrOf a) (lo:=lo) (n:=x) 'D';have r:arrOf (setArr a (mirror (arrOf a) lo (lo+x) ((lo+x-lo)/2)))=mirror (arrOf a) lo (lo+x) ((lo+x-lo)/2):=rfl;change wpS M A E s _ Q (setArr a (mirror (arrOf a) lo (lo+x) ((lo+x-lo)/2)));generalize mirror (arrOf a) lo (lo+x) ((lo+x-lo)/2)=ar' at v C w p r;refine aL (BU o C (by rw[w];exact hz) (λx n F N O z B=>?_) 'D' l (λi j J K=>?_) λn y m g D=>?_)
  .dsimp only;refine aL (xQ (st:=setArr a ar') o f C (by rw[r,w];lia) (by rw[r,w];lia) 'D' ?_);rw[r];cases e:R (at_ ar' (lo+n)) (at_ ar' (lo+n-1))with
   |true=>exact aS (z e)
   |false=>exact aS (B e)
  .rw[p,p,if_pos 'D',if_pos 'D',show lo+(lo+x)-1-(lo+i)=lo+(x-1-i) by lia,show lo+(lo+x)-1-(lo+j)=lo+(x-1-j) by lia];exact b _ _ 'D' 'D'
  .exact aS (q n ar' 'D' m v (λk f=>by rw[p,if_neg 'D']) g)
def G3{src d:Nat}(b:src<arr.size)(a:d<=src)(k:Nat):at_ (bubble arr src d) k=if k=src-d then at_ arr src else if src-d<k/\k<=src then at_ arr (k-1)else at_ arr k:=by
 unfold at_;rw[cB,getElem?_bubble b d a,cB,cB,cB];split;·rfl
 .split <;>rfl
def wK(o:Od M A E s κ S R)(V:kindOf st=κ)(h:Al S (arrOf st)){Q:Bool->SortSt->Prop}{ok:Nat}(T:1<=ok)(W:ok<=n)(hz:lo+n<=(arrOf st).size)(u:Up R (arrOf st) lo ok)
  (q:∀y,y.Perm (arrOf st)->(∀k,k<lo->at_ y k=at_ (arrOf st) k)->Up R y lo n->Q true (setArr st y)):wpS M A E s (binarySort' lo n ok) Q st:=by
 refine aL (gi (di (I:=λx c b=>c=(none,())/\∃a,b=setArr st a/\a.Perm (arrOf st)/\(∀k,k<lo->at_ a k=at_ (arrOf st) k)/\ok<=x/\Up R a lo x) (Q:=λc b=>c=(none,())/\∃a,b=setArr st a/\a.Perm (arrOf st)/\(∀k,k<lo->at_ a k=at_ (arrOf st) k)/\Up R a lo n) ?_ ?_ ⟨rfl,arrOf st,rfl,jA _,λ_ _=>rfl,'D',by rw[Nat.max_eq_left T];exact u⟩) ?_)
 .rintro k c b Y Z ⟨rfl,a,rfl,g,w,a6,u⟩;have f:=h.perm g;have J:a.size=(arrOf st).size:=g.size_eq;have C:arrOf (setArr st a)=a:=rfl;dsimp only;refine aL (gi (di (I:=λx c b=>b=setArr st a/\∃l r,c=(none,l,r)/\l<=r/\r<=k/\r-l+x<=k/\(∀i,i<l->R (at_ a (lo+i)) (at_ a (lo+k))=true)/\(∀i,r<=i->i<k->R (at_ a (lo+k)) (at_ a (lo+i))=true))
   (Q:=λc b=>b=setArr st a/\∃l,c=(none,l,l)/\l<=k/\(∀i,i<l->R (at_ a (lo+i)) (at_ a (lo+k))=true)/\(∀i,l<=i->i<k->R (at_ a (lo+k)) (at_ a (lo+i))=true)) ?_ ?_ (rfl,0,k,rfl,a0 _,aE _,'D',(λi D=>absurd D (i7 _)),λi F N=>by lia,)) ?_)
  .rintro x c H _ hx ⟨rfl,l,r,rfl,O,t,P,m,p⟩;dsimp only;by_cases c:l≥ r
   .rw[if_pos c];obtain rfl:l=r:=by lia
    exact aS (rfl,l,rfl,t,m,p,)
   .rw[if_neg c];refine aL (xQ (st:=setArr st a) o V f (by rw[C,J];lia) (by rw[C,J];lia) 'D' ?_);rw[C];cases e:R (at_ a (lo+k)) (at_ a (lo+(l+r)/2))with
    |true=>
     refine aS (rfl,_,_,rfl,'D','D','D',m,λi F N=>?_,);by_cases z:i=(l+r)/2;·rw[z];exact e
     .exact o.tr _ _ _ (f.inS 'D') (f.inS 'D') (f.inS 'D') e (u _ _ 'D' 'D')
    |false=>
     have G:=flip o f 'D' 'D' 'D' e;refine aS (rfl,_,_,rfl,'D',t,'D',λi F=>?_,p,);by_cases z:i=(l+r)/2;·rw[z];exact G
     .exact o.tr _ _ _ (f.inS 'D') (f.inS 'D') (f.inS 'D') (u _ _ 'D' 'D') G
  .rintro c H ⟨rfl,l,r,rfl,O,t,P,m,p⟩;obtain rfl:l=r:=by lia
   exact(rfl,l,rfl,t,m,p,)
  .rintro c H ⟨rfl,l,rfl,t,m,p⟩;dsimp only;refine aL (gD (aS ?_));have v:=G3 (arr:=a) (src:=lo+k) (d:=k-l) 'D' 'D';rw[show lo+k-(k-l)=lo+l by lia]at v;refine(rfl,bubble a (lo+k) (lo+k-(lo+l)),rfl,(bubble_perm _ _ _).trans g,?_,);rw[show lo+k-(lo+l)=k-l by lia];refine(λi D=>by rw[v,if_neg 'D',if_neg 'D'];exact w i D,'D',λi j U X=>?_,);have K:at_ (bubble a (lo+k) (k-l)) (lo+l)=at_ a (lo+k):=by rw[v,if_pos rfl]
   have L:∀i,i<l->at_ (bubble a (lo+k) (k-l)) (lo+i)=at_ a (lo+i):=λi z=>by rw[v,if_neg 'D',if_neg 'D']
   have B:∀i,l<i->i<=k->at_ (bubble a (lo+k) (k-l)) (lo+i)=at_ a (lo+(i-1)):=λi F N=>by rw[v,if_neg 'D',if_pos 'D',show lo+i-1=lo+(i-1) by lia]
   rcases wC i l with c|c|c
   .rw[L i c];rcases wC j l with d|d|d;·rw[L j d];exact u _ _ U 'D'
    .rw[d,K];exact m i c
    .rw[B j d 'D'];exact u _ _ 'D' 'D'
   .rw[c,K,B j 'D' 'D'];exact p _ 'D' 'D'
   .rw[B i c 'D',B j 'D' 'D'];exact u _ _ 'D' 'D'
 .rintro c b ⟨rfl,a,rfl,g,w,_,u⟩;rw[show max (max ok 1) n=n by lia]at u;exact(rfl,a,rfl,g,w,u,)
 .rintro c b ⟨rfl,a,rfl,g,w,u⟩;exact aS (q a g w u)
end
abbrev Pn:Nat->List (Nat×Nat×Nat)->List (List Keyed)->Prop
 |_,[],[]=>True
 |o,p::ps,G::gs=>p.1=o/\p.2.1=G.length/\Pn (o+G.length) ps gs
 |_,_,_=>False
theorem Pn.len:∀{o:Nat}{ps:List (Nat×Nat×Nat)}{gs:List (List Keyed)},Pn o ps gs->ps.length=gs.length
 |_,[],[],_=>rfl
 |_,[],_::_,h=>h.elim
 |_,_::_,[],h=>h.elim
 |_,_::ps,_::gs,h=>by rw[aZ,aZ,Pn.len h.2.2]
theorem Pn.snoc:∀{o:Nat}{ps:List (Nat×Nat×Nat)}{gs:List (List Keyed)}{G:List Keyed}{w:Nat},Pn o ps gs->Pn o (ps++[(o+gs.flatten.length,G.length,w)]) (gs++[G])
 |o,[],[],G,w,_=>(rfl,rfl,trivial,)
 |_,[],_::_,_,_,h=>h.elim
 |_,_::_,[],_,_,h=>h.elim
 |o,p::ps,F::gs,G,w,h=>by
  refine(h.1,h.2.1,?_,);have :=Pn.snoc (G:=G) (w:=w) h.2.2
  rwa [eu,aq,<-nN]
theorem Pn.at:∀{o:Nat}{ps:List (Nat×Nat×Nat)}{g1 d:List (List Keyed)}{P T:List Keyed},Pn o ps (g1++P::T::d)->∃w c,ps[g1.length]?<*(o+g1.flatten.length,P.length,w)/\ps[g1.length+1]?<*(o+g1.flatten.length+P.length,T.length,c)
 |_,[],[],_,_,_,h=>h.elim
 |_,[_],[],_,_,_,h=>h.2.2.elim
 |o,(a,b,w)::(a',b',c)::ps,[],_,P,T,h=>by obtain⟨e,f,g,i,_⟩:=h;dsimp only at e f g i;subst e f g i;exact(w,c,rfl,rfl,)
 |_,[],_::_,_,_,_,h=>h.elim
 |o,p::ps,F::g1,d,P,T,h=>by
  obtain⟨w,c,j,k⟩:=Pn.at (g1:=g1) h.2.2;refine(w,c,?_,?_,);·rw[aZ,fc,j,eu,aq,<-nN]
  .rw[aZ,fc,k,eu,aq,<-nN]
theorem Pn.merge:∀{o:Nat}{ps:List (Nat×Nat×Nat)}{g1 a:List (List Keyed)}{P T C:List Keyed}{w:Nat},Pn o ps (g1++P::T::a)->C.length=P.length+T.length->Pn o ((ps.set g1.length (o+g1.flatten.length,P.length+T.length,w)).eraseIdx (g1.length+1)) (g1++C::a)
 |_,[],[],_,_,_,_,_,h,_=>h.elim
 |_,[_],[],_,_,_,_,_,h,_=>h.2.2.elim
 |o,p::p'::ps,[],a,P,T,C,w,h,hc=>by
  refine(rfl,hc.symm,?_,);have :=h.2.2.2.2
  rwa [nN,<-hc]at this
 |_,[],_::_,_,_,_,_,_,h,_=>h.elim
 |o,p::ps,F::g1,a,P,T,C,w,h,hc=>by
  refine(h.1,h.2.1,?_,);have :=Pn.merge (g1:=g1) (w:=w) h.2.2 hc
  rwa [eu,aq,<-nN]
theorem Pn.mod:∀{o:Nat}{ps:List (Nat×Nat×Nat)}{gs:List (List Keyed)}{f:Nat×Nat×Nat->Nat×Nat×Nat}(i:Nat),(∀x,(f x).1=x.1/\(f x).2.1=x.2.1)->Pn o ps gs->Pn o (ps.modify i f) gs
 |_,[],[],_,_,_,_=>by rw[List.modify_nil];trivial
 |_,[],_::_,_,_,_,h=>h.elim
 |_,_::_,[],_,_,_,h=>h.elim
 |o,p::ps,G::gs,f,0,hf,h=>((hf p).1.trans h.1,(hf p).2.trans h.2.1,h.2.2,)
 |o,p::ps,G::gs,f,i+1,hf,h=>(h.1,h.2.1,Pn.mod i hf h.2.2,)
section
variable {M:Model}{E:'I'}{s:Shared}{κ:gm}{S:Keyed->Prop}{R:Keyed->Keyed->Bool}{a₀:Array Keyed}{st:SortSt}{gs:List (List Keyed)}{rest:List Keyed}
structure Ri(κ:gm)(R:Keyed->Keyed->Bool)(a₀:Array Keyed)(st:SortSt)(gs:List (List Keyed))(rest:List Keyed):Prop where
 kd:kindOf st=κ
 fa:eD st=none
 ar:(arrOf st).toList=gs.flatten++rest
 pe:Pn 0 (cG st).toList gs
 up:∀G∈gs,Rs R G/\G≠[]
 pm:(arrOf st).Perm a₀
def Ri.al(r:Ri κ R a₀ st gs rest)(h:Al S a₀):Al S (arrOf st):=h.perm r.pm
def Ri.sz(r:Ri κ R a₀ st gs rest):gs.flatten.length+rest.length=a₀.size:=by rw[<-r.pm.size_eq,<-aO,r.ar,aq]
def Ri.psz(r:Ri κ R a₀ st gs rest):(cG st).size=gs.length:=by rw[<-r.pe.len,aO]
theorem An(o:Od M A E s κ S R)(h0:Al S a₀){g1 b:List (List Keyed)}{P T:List Keyed}{Q:Bool->SortSt->Prop}(r:Ri κ R a₀ st (g1++P::T::b) rest)
  (q:∀st' C,C.length=P.length+T.length->Ri κ R a₀ st' (g1++C::b) rest->Q true st'):wpS M A E s (mergeAt' g1.length) Q st:=by
 have al:=r.al h0;obtain⟨w,t,f,g⟩:=r.pe.at;rw[iD]at f g;have c:=r.up P 'F';have j:=r.up T 'F';have d:(arrOf st).toList=g1.flatten++(P++(T++(b.flatten++rest))):=by rw[r.ar];simp
 refine Cu o r.kd r.fa d (by rw[<-eE];exact f) (by rw[<-eE];exact g) c.1 j.1 c.2 j.2 al.hs al.nd λst' C l m h i n p=>?_;have a:C.length=P.length+T.length:=by rw[i.length_eq,aq]
 refine q st' C a (l,m,by rw[h];simp,?_,λG k=>?_,?_,);·have :=r.pe.merge (w:=w) a;rw[iD]at this;rw[p,Array.toList_eraseIdxIfInBounds,Ac];exact this
 .rcases aH.mp k with z|z;·exact r.up G (aH.mpr (.inl z))
  .rcases aG.mp z with rfl|z;·refine(n,λe=>?_,);rw[e]at a;exact c.2 (cn.mp (by rw[eB]at a;lia))
   .exact r.up G (by simp[z])
 .refine .trans ?_ r.pm;rw[d7,h,d];have :=i.append_right (b.flatten++rest);rw[bQ P]at this;exact this.append_left _
def Ri.grow(r:Ri κ R a₀ st gs rest){a:Array Keyed}(b:a.Perm (arrOf st))(c:∀k,k<gs.flatten.length->at_ a k=at_ (arrOf st) k):Ri κ R a₀ (setArr st a) gs (a.toList.drop gs.flatten.length):=by
 have e:a.toList.take gs.flatten.length=gs.flatten:=by
  have g:a.toList.length=(arrOf st).toList.length:=by rw[aO,aO,b.size_eq]
  have d:gs.flatten=(arrOf st).toList.take gs.flatten.length:=by rw[r.ar,Ag]
  have h:(arrOf st).toList.length=gs.flatten.length+rest.length:=by rw[r.ar,aq]
  conv =>rhs;rw[d]
  apply dw;·rw[aM,aM,g]
  .intro i f j;rw[aM]at f;rw[bX,bX,ff,ff];exact c i 'D'
 refine(r.kd,r.fa,?_,r.pe,r.up,b.trans r.pm,);show a.toList=_
 conv =>lhs;rw[<-bN gs.flatten.length a.toList]
 rw[e]
def Ee{arr:Array Keyed}{lo:Nat}(u:Up R arr lo n)(h:lo+n<=arr.size):Rs R ((arr.toList.drop lo).take n):=by refine b9.mpr λi j a c b=>?_;rw[aM,bA,aO]at a c;rw[bX,bX,ef,ef,ff,ff];exact u i j b 'D'
theorem Ri.push(r:Ri κ R a₀ st gs rest)(d:1<=n)(a:n<=rest.length)(u:Rs R (rest.take n)){ps:Array (Nat×Nat×Nat)}(c:Pn 0 ps.toList gs):Ri κ R a₀ (setPending st (ps.push (gs.flatten.length,n,0))) (gs++[rest.take n]) (rest.drop n) where
 kd:=r.kd
 fa:=r.fa
 ar:=by show(arrOf st).toList=_;rw[r.ar,K6,o3,bQ,bN]
 pe:=by show Pn 0 (ps.push _).toList _;have :=c.snoc (G:=rest.take n) (w:=0);rw[iD,aM,i8 a]at this;rw[eW];exact this
 up:=λG b=>by
  rcases aH.mp b with z|z;·exact r.up G z
  .rw[aC.mp z];exact⟨u,λe=>by have :=congrArg kg e;rw[aM,eB]at this;lia⟩
 pm:=r.pm
theorem Bt{f:Type}:∀(l:List f),1<l.length->∃d a b,l=d++[a,b]
 | [],h=>by simp at h
 | [_],h=>by simp at h
 | [a,b],_=>([],a,b,rfl,)
 |a::b::c::l,_=>by obtain⟨d,x,y,e⟩:=Bt (b::c::l) 'F';exact⟨a::d,x,y,by rw[e];rfl⟩
theorem AG{d:Type}:∀(l:List d)(i:Nat),i+1<l.length->∃l1 a b l2,l=l1++a::b::l2/\l1.length=i
 | [],_,h=>by simp at h
 | [_],_,h=>by simp at h
 |a::b::l,0,_=>([],a,b,l,rfl,rfl,)
 |a::b::l,i+1,h=>by obtain⟨l1,x,y,l2,e,c⟩:=AG (b::l) i (by simp at h⊢;lia);exact⟨a::l1,x,y,l2,by rw[e];rfl,by rw[aZ,c]⟩
theorem Fc{R:Keyed->Keyed->Bool}:∀{gs:List (List Keyed)},(∀G∈gs,Rs R G/\G≠[])->gs.length<=gs.flatten.length
 | [],_=>a0 _
 |G::gs,h=>by have :=Fc (gs:=gs) λF a=>h F (aB _ a);have :=da.mpr (h G aw).2;rw[aZ,eu,aq];lia
def oR{gs:List (List Keyed)}{l:List Keyed}(h:m<=l.length):(gs++[l.take m]).flatten.length=gs.flatten.length+m:=by rw[K6,o3,aq,aM,i8 h]
def Am(o:Od M A E s κ S R)(h0:Al S a₀){Q:Unit->SortSt->Prop}(V:Ri κ R a₀ st [] (arrOf st).toList)(q:∀st',eD st'=none->(arrOf st').Perm a₀->Rs R (arrOf st').toList->Q () st'):wpS M A E s sortRuns' Q st:=by
 have hN:(arrOf st).size=a₀.size:=V.pm.size_eq;refine aL (mR ?_);dsimp only;rw[show(sortPriv%PySem.Builtin.SortState.a) st=arrOf st from rfl,hN];generalize(sortPriv%PySem.Builtin.minRun) a₀.size a₀.size 0=mr;refine aL (gi (di (I:=λx c st'=>∃a B,c=(none,a.flatten.length)/\Ri κ R a₀ st' a B/\min x a₀.size<=a.flatten.length) (Q:=λc st'=>c.1=none/\∃a,Ri κ R a₀ st' a []) ?_ ?_ ([],_,rfl,V,a0 _,)) ?_)
 .rintro x c D _ hx ⟨a,B,rfl,r,H⟩;have X:=r.sz;dsimp only;by_cases c:a.flatten.length≥ a₀.size;·rw[if_pos c];obtain rfl:B=[]:=cn.mp 'D';exact aS (rfl,a,r,)
  rw[if_neg c];have al:=r.al h0;have a5:(arrOf D).size=a₀.size:=r.pm.size_eq;refine aL (Ap o r.kd al 'D' 'D' λn l z n2 T bl u=>?_);have K:=r.grow T bl;have Z:l.size=a₀.size:=by rw[T.size_eq,a5]
  have rl:(l.toList.drop a.flatten.length).length=B.length:=by rw[bA,aO,Z];lia
  dsimp only;by_cases cm:n<mr
  case' pos=>
   rw[if_pos cm];refine aL (uh (dZ (rfl,?_,)));refine aL (wK (st:=setArr D l) o K.kd (K.al h0) z 'D' (show a.flatten.length+min (a₀.size-a.flatten.length) mr<=l.size by lia) u λy U a3 u2=>?_);rw[if_neg 'E'];have p:=K.grow U a3;have b0:y.size=a₀.size:=by rw[U.size_eq];exact Z
   have F:1<=min (a₀.size-a.flatten.length) mr:=by lia
   have j:min (a₀.size-a.flatten.length) mr<=(y.toList.drop a.flatten.length).length:=by have :y.toList.length=y.size:=rfl;rw[bA];lia
   have w:=Ee u2 'D';have J:min (x+1) a₀.size<=a.flatten.length+min (a₀.size-a.flatten.length) mr:=by lia
   generalize min (a₀.size-a.flatten.length) mr=m at F j w J;generalize y.toList.drop a.flatten.length=rest2 at p j w;generalize hst2:setArr (setArr D l) y=d at p
  case' neg=>
   rw[if_neg cm];have p:=K;have F:=z;have j:n<=(l.toList.drop a.flatten.length).length:=by lia
   have w:=Ee u 'D';have J:min (x+1) a₀.size<=a.flatten.length+n:=by lia
   generalize n=m at F j w J;generalize l.toList.drop a.flatten.length=rest2 at p j w;generalize hst2:setArr D l=d at p
  all_goals
   refine aL (mR ?_);rw[show(sortPriv%PySem.Builtin.SortState.pending) d=cG d from rfl];cases hb:(cG d).back? with
   |none=>dsimp only;exact aL (gD (aS ⟨_,_,by rw[oR j],p.push F j w p.pe,by rw[oR j];exact J⟩))
   |some v=>
    obtain⟨Y,z,a6⟩:=v;dsimp only;generalize(sortPriv%PySem.Builtin.power) a₀.size (2*Y+z) (2*Y+z+z+m) a₀.size=pw;refine aL (gi (di (I:=λa7 c st'=>c=(none,())/\∃g,Ri κ R a₀ st' g rest2/\g.flatten.length=a.flatten.length) (Q:=λc st'=>c=(none,())/\∃g,Ri κ R a₀ st' g rest2/\g.flatten.length=a.flatten.length) ?_ (λc st' h=>h) (rfl,a,p,rfl,)) ?_)
    .rintro a7 c k _ hy ⟨rfl,g,e,t⟩;have L:=e.psz;refine aL (mR ?_);rw[show(sortPriv%PySem.Builtin.SortState.pending) k=cG k from rfl];by_cases c2:(cG k).size>1;·rw[if_pos c2];obtain⟨O,a1,a2,rfl⟩:=Bt g 'D';obtain⟨a6,w',e1,_⟩:=Pn.at (show Pn _ _ (_++_::_::([]:List (List Keyed)))from e.pe);rw[show(cG k).size-2=O.length by rw[L,aq];rfl,<-eE,e1];dsimp only;refine yB (λ_=>aS (rfl,_,e,t,)) λ_=>aL (An o h0 e λa9 C N r4=>?_);rw[if_neg 'E'];exact aS ⟨rfl,_,r4,by rw[<-t];simp[N]⟩
     .rw[if_neg c2];exact aS (rfl,g,e,t,)
    .rintro c k ⟨rfl,g,e,t⟩;dsimp only;refine aL (gD (aL (gD (aS ?_))));have pp:=e.pe.mod (f:=λx=>(x.1,x.2.1,pw)) ((cG k).size-1) λx=>(rfl,rfl,);have W:=e.push F j w (ps:=(cG k).modify ((cG k).size-1) λx=>(x.1,x.2.1,pw)) (by rw[Array.toList_modify];exact pp);rw[t]at W;exact⟨_,_,by rw[oR j,t],W,by rw[oR j,t];exact J⟩
 .rintro c D ⟨a,B,rfl,r,H⟩;have :=r.sz;rw[Nat.max_eq_right (a0 _),Hj]at H;obtain rfl:B=[]:=cn.mp 'D';exact(rfl,a,r,)
 .rintro⟨c,a8⟩ D ⟨rfl,a,r⟩;dsimp only;have X:=r.sz;refine aL (gi (di (I:=λx c st'=>c=(none,())/\∃a,Ri κ R a₀ st' a []/\a.length+x<=a₀.size+1) (Q:=λc st'=>c=(none,())/\∃a,Ri κ R a₀ st' a []/\a.length<=1) ?_ ?_ ⟨rfl,a,r,by have :=Fc r.up;rw[eB]at X;lia⟩) ?_)
  .rintro x c d _ hx ⟨rfl,a,r,H⟩;have L:=r.psz;refine aL (mR ?_);rw[show(sortPriv%PySem.Builtin.SortState.pending) d=cG d from rfl,L];by_cases c:a.length<=1;·rw[if_pos c];exact aS (rfl,a,r,c,)
   rw[if_neg c];have P:∀i,i+1<a.length->wpS M A E s (mergeAt' i) (λb st'=>b=true/\∃a,Ri κ R a₀ st' a []/\a.length+(x+1)<=a₀.size+1) d:=λi hi=>by obtain⟨O,a1,a2,g2,rfl,rfl⟩:=AG a i hi;refine An o h0 r λk C N e=>(rfl,_,e,?_,);rw[aq,aZ,aZ]at H;rw[aq,aZ];lia
   refine aL (gi (?_:wpS M A E s _ (λb st'=>b=true/\∃a,Ri κ R a₀ st' a []/\a.length+(x+1)<=a₀.size+1) d) ?_)
   .have two:∀(c:Prop)[Decidable c],wpS M A E s (mergeAt' (if c then a.length-2-1 else a.length-2)) (λb st'=>b=true/\∃a,Ri κ R a₀ st' a []/\a.length+(x+1)<=a₀.size+1) d:=λc _=>by
     split;·exact P _ 'D'
     .exact P _ 'D'
    exact two _
   .rintro b k ⟨rfl,g,e,a4⟩;rw[if_neg 'E'];exact aS (rfl,g,e,a4,)
  .rintro c d ⟨rfl,a,r,H⟩;exact(rfl,a,r,'D',)
  .rintro c d ⟨rfl,a,r,gl⟩;refine aS (q d r.fa r.pm ?_);rw[r.ar,kH]
   match a,gl,r.up with
   | [],_,_=>exact .nil
   | [G],_,h=>rw[o3];exact(h G aw).1
end
end SR
namespace Q
open PySem.W L2
theorem sX{c:Type}{r:c->c->Bool}:∀{l m:List c},(∀x∈l,∀y∈l,r x y=true->r y x=false)->l.Perm m->l.Pairwise (λa b=>r a b=true)->m.Pairwise (λa b=>r a b=true)->l=m
 | [],m,_,p,_,_=>(List.nil_perm.mp p).symm
 |x::l,[],_,p,_,_=>nomatch List.perm_nil.mp p
 |x::l,y::m,as,p,h1,h2=>by
  obtain⟨f,g⟩:=lN.mp h1;obtain⟨h,i⟩:=lN.mp h2;have e:x=y:=by
   apply Classical.byContradiction
   intro ne;have d:y∈l:=(aG.mp (p.mem_iff.mpr aw)).resolve_left λz=>ne z.symm;have n:x∈m:=(aG.mp (p.mem_iff.mp aw)).resolve_left ne;have z:=as x aw y (aB _ d) (f y d);rw[h x n]at z;cases z
  subst e;rw[sX (λu j v k=>as u (aB _ j) v (aB _ k)) ((List.perm_cons x).mp p) g i]
section
variable {E:'I'}{s:Shared}{lt:Nat->Nat->Bool}{vs:List Value}
noncomputable abbrev itm(vs:List Value)(i:Nat):Keyed:=(vs.getD i .none,vs.getD i .none)
open Classical in
abbrev Dh(lt:Nat->Nat->Bool)(vs:List Value)(x y:Keyed):Bool:=decide (∃i j,i<vs.length/\j<vs.length/\x=itm vs i/\y=itm vs j/\i≠j/\lt i j=true)
def inV(vs:List Value)(x:Keyed):Prop:=∃i,i<vs.length/\x=itm vs i
def kR(inj:∀i j,i<vs.length->j<vs.length->vs.getD i .none=vs.getD j .none->i=j)(hi:i<vs.length)(a:j<vs.length):Dh lt vs (itm vs i) (itm vs j)=true↔i≠j/\lt i j=true:=by
 unfold Dh;rw[@decide_eq_true_eq _ (_)];constructor;·rintro⟨g,k,d,e,b,c,f⟩;obtain rfl:=inj i g hi d (uN b).1;obtain rfl:=inj j k a e (uN c).1;exact f
 .exact λh=>(i,j,hi,a,rfl,rfl,h,)
def od_of(T:Tot lt vs.length)(inj:∀i j,i<vs.length->j<vs.length->vs.getD i .none=vs.getD j .none->i=j){l:gm}(ask:∀i j (C:Bool->Shared->Prop),i<vs.length->j<vs.length->i≠j->C (lt i j) s->kas_ask prog w A l vs i j C s):
  SR.Od (model prog w) A E s l (inV vs) (Dh lt vs) where
 irr:=by rintro x ⟨i,c,rfl⟩;rw[gI];exact λz=>((kR inj c c).mp z).1 rfl
 tri:=by rintro x y ⟨i,c,rfl⟩ ⟨j,d,rfl⟩ ne;have g:i≠j:=λe=>ne (by rw[e]);have t:=T.tri i j c d g;have a:=kR (lt:=lt) inj c d;have b:=kR (lt:=lt) inj d c;rw[t]at a;cases e1:Dh lt vs (itm vs i) (itm vs j)<;>cases e2:Dh lt vs (itm vs j) (itm vs i)<;>cases e3:lt j i<;>simp_all
 tr:=by rintro x y z ⟨i,c,rfl⟩ ⟨j,d,rfl⟩ ⟨k,f,rfl⟩ a b;rw[kR inj c d]at a;rw[kR inj d f]at b;refine(kR inj c f).mpr (λe=>?_,T.tr i j k c d f a.2 b.2,);subst e;have :=T.tri i j c d a.1;rw[a.2,b.2]at this;cases this
 ask:=by
  rintro x y n m ⟨i,c,rfl⟩ ⟨j,d,rfl⟩ ne f q;have g:i≠j:=λe=>ne (by rw[e]);have e:Dh lt vs (itm vs i) (itm vs j)=lt i j:=by rw[kI,kR inj c d];exact(λz=>z.2,λz=>(g,z,),)
  rw[e]at q;rw[lt'_eq];refine aL (mR ?_);rw[f];refine aL (uh (fq (cE (ask i j (λb h=>b=lt i j/\h=s) c d g (rfl,rfl,)) (λb h z=>(z.2,?_,)) λ_ _ z=>z.elim)));rw[z.1];exact aS q
def yA:(vs.toArray.zip vs.toArray).toList=(bg vs.length).map (itm vs):=by
 apply dw;·simp
 .intro i c a;have b:i<vs.length:=by simpa using a
  simp[itm,b]
def run_all(T:Tot lt vs.length)(inj:∀i j,i<vs.length->j<vs.length->vs.getD i .none=vs.getD j .none->i=j)(J:2<=vs.length){p:gm}(ask:∀i j (C:Bool->Shared->Prop),i<vs.length->j<vs.length->i≠j->C (lt i j) s->kas_ask prog w A p vs i j C s):
  'B' ((sortRuns').run (gJ p (vs.toArray.zip vs.toArray) #[] 7 none)) (λr s'=>s'=s/\(arrOf r.2).map (·.2)=(kr lt vs).toArray/\eD r.2=none) E s:=by
 obtain⟨n,q,_⟩:=lW T (by lia:1<=vs.length);have o:=od_of (E:=E) T inj ask;have g:(run lt (dS vs.length)).toList.Perm (bg vs.length):=by simpa using d7.mp n.perm
 have al:SR.Al (inV vs) (vs.toArray.zip vs.toArray):=by
  refine(λx d=>?_,?_,);·rw[yA]at d;obtain⟨i,a,rfl⟩:=aW.mp d;exact(i,d9.mp a,rfl,)
  .rw[yA,Ah,jr];exact wI.imp_of_mem λ{i j} a b h e=>h (inj i j (d9.mp a) (d9.mp b) (uN e).1)
 refine SR.Am (Q:=λ_ f=>(arrOf f).map (·.2)=(kr lt vs).toArray/\eD f=none) o al (rfl,rfl,rfl,trivial,(λG D=>nomatch D),jA _,) λf t v B=>(?_,t,);have l:=d7.mp v;have e:(arrOf f).toList=(run lt (dS vs.length)).toList.map (itm vs):=by
  refine sX (r:=Dh lt vs) (λx d y I z=>o.asym (al.hs x (l.mem_iff.mp d)) (al.hs y (l.mem_iff.mp I)) z) (l.trans ?_) B ?_;·rw[yA];exact(g.map _).symm
  .rw[jr];refine b9.mpr λi j a b F=>?_;have m:∀(k:Nat)(c:k<(run lt (dS vs.length)).toList.length),(run lt (dS vs.length)).toList[k]<vs.length:=λk c=>d9.mp (g.mem_iff.mp (bF c));have e:∀(k:Nat)(c:k<(run lt (dS vs.length)).toList.length),(run lt (dS vs.length)).toList[k]=at' (run lt (dS vs.length)) k:=λk c=>by
    have H:k<(run lt (dS vs.length)).size:=by simpa using c
    simp[at',H]
   have u:=q i j F (by rw[aO,n.size]at b;exact b);refine(kR inj (m i a) (m j b)).mpr ⟨λz=>?_,by rw[e,e];exact u⟩;have nd:(run lt (dS vs.length)).toList.Nodup:=g.nodup_iff.mpr wI;have :=(cJ nd).mp z;lia
 apply Array.toList_inj.mp
 rw[Array.toList_map,e,cQ];unfold kr;rw[if_neg 'D'];rfl
def AL{P:fP->Shared->Prop}(T:Tot lt vs.length)(inj:∀i j,i<vs.length->j<vs.length->vs.getD i .none=vs.getD j .none->i=j)(g:s.heap.get? a<*(seqObj "list" vs.toArray n))(k0:∀b o,h0.get? b<*o->s.heap.get? b<*o/\b≠a)(hz:vs.length<=sizeLine)
  (ask:2<=vs.length->Asks prog w A lt vs h0)(h:P (.done (.ret .none)) {s with heap:=sortedHeap s.heap a vs (kr lt vs).toArray}):'B' (Builtin.«list.sort» ([.ref a],[],)) P E s:=by
 have d:vs.toArray.size=vs.length:=by simp
 obtain⟨c,m⟩:∃c,(s.heap.update a (cC λ_=> #[])).get? a<*(seqObj "list" #[] c):=(_,get?_update_seq g _,);have f:(((s.heap.update a (cC λ_=> #[])).push (seqObj "tuple" vs.toArray 0)).push (seqObj "list" #[] 0)).get? a<*(seqObj "list" #[] c):=af _ (af _ m);have x:∀b o,h0.get? b<*o->(((s.heap.update a (cC λ_=> #[])).push (seqObj "tuple" vs.toArray 0)).push (seqObj "list" #[] 0)).get? b<*o:=λb o e=>
  af _ (af _ ((bb _ _ (cU (k0 b o e).2)).trans (k0 b o e).1))
 rw[list_sort_plain];refine ae (listItems_at g rfl (ae (pf g rfl ?_ (by rw[d];exact hz) (a0 _))));refine ae (seqEpoch_at m rfl (ae (G7 ?_ (show vs.length<=_ from hz))));refine ae (KR (bq ?_) (a0 _));by_cases hn:vs.length<2
 .have e:kr lt vs=vs:=if_pos hn;rw[e]at h;dsimp only;rw[if_pos (by rw[d];exact hn),if_pos (by rw[d];exact hn)];refine ae (ag (ae ?_));rw[StateT.run_pure];refine ag (ae (seqEpoch_at f rfl (ae (pf f rfl ?_ (a0 _) ?_))))
  .have q:(arrOf (gJ general' (vs.toArray.zip vs.toArray) #[] 7 none)).map (·.2)=vs.toArray:=by show(vs.toArray.zip vs.toArray).map (·.2)=vs.toArray;apply Lb;simp[List.map_snd_zip]
   rw[q];have r:eD ((),gJ general' (vs.toArray.zip vs.toArray) #[] 7 none).snd=none:=rfl;rw[r];simp only[bne_self_eq_false,b8,if_false];exact ag h
  .show((vs.toArray.zip vs.toArray).map (·.2)).size<=_;rw[Array.size_map,Array.size_zip,d,Hj];exact gM hz
 .have l:2<=vs.length:=by lia
  have e:kr lt vs=(run lt (dS vs.length)).toList.map λi=>vs.getD i .none:=if_neg hn;rw[e]at h;dsimp only;rw[if_neg (by rw[d];exact hn),if_neg (by rw[d];exact hn)];obtain⟨D,t,u⟩:=ask l {s with heap:=((s.heap.update a (cC λ_=> #[])).push (seqObj "tuple" vs.toArray 0)).push (seqObj "list" #[] 0)} x;refine ae (t _ _ (ae ?_));have y:=run_all (E:=E) T inj l u;refine cE y ?_ λ_ _ z=>z;rintro⟨⟨⟩,C⟩ B ⟨rfl,k,p⟩;rw[e]at k;dsimp only at k p⊢;rw[k,p];have v:(List.toArray ((run lt (dS vs.length)).toList.map λi=>vs.getD i cf)).size<=sizeLine+1:=by rw[aI,ah,aO,(lW T (by lia:1<=vs.length)).1.size];exact gM hz
  refine ae (seqEpoch_at f rfl (ae (pf f rfl ?_ (a0 _) v)));simp only[bne_self_eq_false,b8,if_false];exact ag h
def CV{Q:'I'}(T:Tot lt vs.length)(inj:∀i j,i<vs.length->j<vs.length->vs.getD i .none=vs.getD j .none->i=j)(f:s.heap.IsList l vs.toArray)(hz:vs.length<=sizeLine)(ask:2<=vs.length->Asks prog w A.in1.in1 lt vs s.heap)
  (h:Q (.ref (⇑s+1)) {s with heap:=sortedAll s.heap vs (kr lt vs).toArray}):'B' (call (.builtin "sorted") [.ref l]) Q E s:=by
 refine Ak kind_sorted plain_sorted entry_sorted (args_sorted1 _) ?_;unfold Builtin.«sorted»;refine ae (m:=checkCount "sorted" 1 1 _) (ag (ae (collect_list f (ae (KR ?_ (show vs.length<=_ from hz))) hz)));generalize hH:(s.heap.push (seqObj "list" #[] 0)).update ⇑s (cC (·++vs.toArray))=h1;have c:h1.objs.size=⇑s+1:=by rw[<-hH,iy,size_push']
 have k:∀b o,s.heap.get? b<*o->h1.get? b<*o:=λb o e=>by have d:=aD e;rw[<-hH,bb _ _ (cS d)];exact af _ e
 have a:(h1.push (seqObj "list" vs.toArray 0)).get? (⇑s+1)<*(seqObj "list" vs.toArray 0):=by rw[<-c];exact aF _ rfl
 have g:sortedAll s.heap vs (kr lt vs).toArray=sortedHeap (h1.push (seqObj "list" vs.toArray 0)) (⇑s+1) vs (kr lt vs).toArray:=by rw[<-hH];rfl
 rw[g]at h;show wpAny _ _ _ _ _ {s with heap:=h1.push (seqObj "list" vs.toArray 0)};rw[c];refine ae (bq (cA slot_list_sort (_,a,rfl,) entry_list_sort (AL T inj a (λb o e=>(af _ (k b o e),aK (bU (aD e)),)) hz ask (_,rfl,?_,)) (args_list_sort _)));exact ag (_,rfl,h,)
end
set_option maxHeartbeats 3200000
def AB(r:jZ vs ks)(nd:ks.Nodup)(i j:Nat)(hi:i<vs.length)(a:j<vs.length)(e:vs.getD i .none=vs.getD j .none):i=j:=by rw[lU r]at hi a;obtain⟨t,c⟩:=yG r hi;obtain⟨u,d⟩:=yG r a;rw[c,d]at e;have b:=(k8.inj e).1;rw[aJ,aJ,aj hi,aj a]at b;exact(cJ nd).mp b
theorem xx:∀{vs:List Value}{a:List Str},jZ vs a->bZ (a.map V.str) vs
 |_,_,.nil=>.nil
 |_,_,.cons _ t h=>.cons (t,rfl,) (xx h)
def FK{xs:List Value}(p:vs.Perm xs):∀{ks:List Str},jZ xs ks->∃c:List Str,c.Perm ks/\jZ vs c:=by
 induction p with
 |nil=>intro ks h;exact(ks,fw _,h,)
 |cons x p ih=>
  intro ks h;cases h with
  |cons k t h=>obtain⟨c,a,b⟩:=ih h;exact(k::c,a.cons k,.cons k t b,)
 |swap x y l=>
  intro ks h;cases h with
  |cons k t h=>cases h with
   |cons k' t' h=>exact(k'::k::_,K7 _ _ _,.cons k' t' (.cons k t h),)
 |trans p q ih1 ih2=>intro ks h;obtain⟨c,a,b⟩:=ih2 h;obtain⟨f,d,e⟩:=ih1 b;exact(f,d.trans a,e,)
section
variable {E:'I'}{s:Shared}
def AK{o:Obj}{t:bO}{Q:'I'}(z:A.handled=none)(F:s.heap.get? S<*o)(u:o.cls=.type "set")(x:o.data=.set es ep t)(y:t.fits es.size=true)(q:es.size<1000)(r:kK t)(D:w.params.followText "set-order"=false->t.led=true)
  (B:jZ (es.toList.map (·.2)) ks)(nd:ks.Nodup)
  (h:∀(a:List Str)(vs:List Value)(s':Shared)(l:Addr)(c:Nat),a.Perm ks->jZ vs a->(∀b o,s.heap.get? b<*o->s'.heap.get? b<*o)->s'.gens=s.gens->s'.os=s.os->⇑s<=l->s'.heap.get? l<*(seqObj "list" (kr (qP a) vs).toArray c)->Q (.ref l) s'):
  'B' (call (.builtin "sorted") [.ref S]) Q E s:=by
 refine Ak kind_sorted plain_sorted entry_sorted (args_sorted1 _) ?_;unfold Builtin.«sorted»;refine ae (m:=checkCount "sorted" 1 1 _) (ag (ae (BK (by simp[z]) F u x y (fv q 'E') r D λvs s' g K H I J=>ae (KR ?_ ?_))))
 .obtain⟨a,k,d⟩:=FK g B;have C:vs.length=a.length:=lU d;have G:vs.length<1000:=by have :=g.length_eq;simp at this;lia
  have f:(s'.heap.push (seqObj "list" vs.toArray 0)).get? ⇑s'<*(seqObj "list" vs.toArray 0):=aF _ rfl;have n:a.Nodup:=k.nodup_iff.mpr nd;show wpAny _ _ _ _ _ {s' with heap:=s'.heap.push (seqObj "list" vs.toArray 0)};refine ae (bq (cA slot_list_sort (_,f,rfl,) entry_list_sort (AL (lt:=qP a) (h0:=s'.heap) (by rw[C];exact rS n) (AB d n) f (λb o e=>(af _ e,aK (aD e),)) (aR (iG G) 'E') (λp=>yq d p) (_,rfl,?_,)) (args_list_sort _)));refine ag (_,rfl,?_,);obtain⟨c,v⟩:=sortedHeap_at (out:=(kr (qP a) vs).toArray) f;refine h a vs _ _ c k d (λb o e=>?_) H I (iG J) v;have i:=K b o e;have j:=aD i;show(sortedHeap (s'.heap.push (seqObj "list" vs.toArray 0)) ⇑s' vs (kr (qP a) vs).toArray).get? b<*o;rw[sortedHeap_old (aK j) (by rw[size_push'];exact bU j)];exact af _ i
 .have :=g.length_eq;simp at this;exact aR (by lia:vs.length<=1000) 'E'
end
section
def E3{k:Str}(h:(bH prog w).is (.inr k) v=true):∃t,v=.str k t:=by rw[p9]at h;exact kE h
def J1{l:List (Int×Value)}(h:ElemsOf (bH prog w) l)(hi:∀e∈l,∀k,(bH prog w).is k e.2=true->∃n:Str,k=.inr n):∃a:List Str,jZ (l.map (·.2)) a:=by
 induction l with
 |nil=>exact([],.nil,)
 |cons e l ih=>obtain⟨a,r⟩:=ih h.tail λc f=>hi c (aB _ f);obtain⟨⟨k,b,_⟩,_⟩:=h.head;obtain⟨n,rfl⟩:=hi e aw k b;obtain⟨t,d⟩:=E3 b;refine(n::a,?_,);rw[bw,d];exact .cons n t r
def HV:∀{vs:List Value}{a:List Str},jZ vs a->∀n,n∈a↔∃v∈vs,(bH prog w).is (.inr n) v=true:=by
 intro vs a r
 induction r with
 |nil=>simp
 |cons k t r ih=>
  intro n;rw[aG,ih n];constructor
  .rintro(rfl|⟨v,hv,e⟩);·exact(_,aw,tq _ _ _ _,)
   .exact(v,aB _ hv,e,)
  .rintro⟨v,hv,e⟩;rcases aG.mp hv with rfl|hv;·obtain⟨c,b⟩:=E3 e;cases b;exact .inl rfl
   .exact .inr (v,hv,e,)
def FW{c:List Str}(x:ug (bH prog w) h a (has (met (c.map .inr))) (met (c.map .inr)).length led):
  ∃o es ep t b,h.get? a<*o/\o.cls=.type "set"/\o.data=.set es ep t/\t.fits es.size=true/\es.size=(met (c.map .inr)).length/\kK t/\t.led=led/\jZ (es.toList.map (·.2)) b/\b.Nodup/\∀n,n∈b↔n∈c:=by
 obtain⟨o,es,ep,t,D,i,s,A,j,F,y,g,q,m⟩:=x;have B:=JR (c.map (gk:Str->Key));rw[ah]at B;have inl:∀e∈es.toList,∀k,(bH prog w).is k e.2=true->∃n:Str,n∈c/\k=.inr n:=λe d k f=>by have :=zm.mp (oQ.mp ((j k).mpr (e,d,f,)));obtain⟨n,g,rfl⟩:=aW.mp this;exact(n,g,rfl,)
 obtain⟨b,r⟩:=J1 A λe d k f=>let⟨n,_,e⟩:=inl e d k f;(n,e,);have mem:∀n,n∈b↔n∈c:=λn=>by
  rw[HV (prog:=prog) (w:=w) r n];constructor;·rintro⟨v,E,e⟩;obtain⟨l,u,rfl⟩:=aW.mp E;obtain⟨G,C,z⟩:=inl l u _ e;cases z;exact C
  .intro h;obtain⟨e,d,f⟩:=(j (.inr n)).mp (oQ.mpr (zm.mpr (cH h)));exact(e.2,cH d,f,)
 have len:b.length=es.size:=by have :=lU r;simp at this;lia
 have p:(b.map (gk:Str->Key)).Perm (met (c.map .inr)):=rZ (JQ _) (λx i=>by obtain⟨n,g,rfl⟩:=aW.mp (zm.mp i);exact cH ((mem n).mpr g)) (by rw[ah];lia)
 have nd:(b.map (gk:Str->Key)).Nodup:=p.nodup_iff.mpr (JQ _);exact(o,es,ep,t,b,D,i.1,s,y,'D',q,m,r,(jr.mp nd).imp λh z=>h (congrArg _ z),mem,)
end
end Q
namespace L2
open Q
section
abbrev mU(ks:List Str):List V:=sortBy .non ks (ks.map V.str)
def rT(K:ai)(ta:TA):TE:=λσ H Q=>ta σ H λvs H1=>∃(p:Addr)(ns:List Str),vs=[V.ref p]/\SqL K H1 p (ns.map V.str)/\ns.length<1000/\(∃a:List Str,a.length<1000/\∀x∈ns,x∈a)/\
 ∀(a:List Str) l,a.Nodup->(∀x,x∈a↔x∈ns)->H1 l=none->Q (.ref l) (upd H1 l (.lst (mU a)))
def AY{a:Expr}{z:TA}(n:X.calm=true)(J:Gl X "sorted")(M:X.mg "sorted"=none)(K:Gl X "set")(N:X.mg "set"=none)(E:PA X [a] z)(Q:bx [a] X.env=[(false,eval a X.env)]:=by rfl):
  PE X (.Call (.Name "sorted" p) [.Call (.Name "set" p') [a] [] pos'] [] pos) (rT X.K z):=by
 intro a1 s σ H a6 I h;refine Call_ (jj I J M zL (i6 (i4 ?_) rfl rfl));refine Call_ (jj I K N GV (bT (thn (E pos' a1 s σ H _ I h) λus s1 ⟨vs,H1,d,r1,q1⟩=>?_) Q rfl));obtain⟨pl,v,e,P,a7,⟨mm,a8,O⟩,a3⟩:=q1;subst e;obtain⟨b3,rfl,rx⟩:=vals1 r1;cases rx;obtain⟨T,w,a2,_⟩:=d.list P;have g:=w.length;rw[ah]at g;have r2:bZ ((v.map (gk:Str->Key)).map kV) T:=by rw[cQ];exact w
 refine FU (ks:=v.map .inr) (d.ok.hd n) a2.isList (by rw[aI,ah];exact g) (λi a4 e=>E2 r2 i a4 ↥e) (by rw[aI,<-g];unfold i3;lia) λh' tk C kp=>?_;obtain⟨o,A,ep,t,ms,u,k,F,G,b2,D,B,r,nd,mem⟩:=FW C;have b1:ms.length=A.size:=by have :=lU r;simp at this;lia
 have a9:=vh nd λx k=>O x ((mem x).mp k);refine ag ?_;refine AK (s:={s1 with heap:=h',toks:=tk}) (d.ok.hd n) u k F G 'D' D (λa5=>by rw[B,a5];rfl) r nd λf vs y l c j R a0 U V W Y=>?_;have m:f.Nodup:=j.nodup_iff.mpr nd;have b0:=j.length_eq;have Z:∀b o,s1.heap.get? b<*o->y.heap.get? b<*o:=λb o e=>a0 b o (kp b o (aD e) e);have L:⇑s1<h'.objs.size:=aD u;have q:⇑s1<=l:=aR (iG L) W;have S:(mU f).length<=sizeLine:=by unfold mU sortBy;rw[ah,EO _ m];exact aR (by lia:f.length<=1000) 'E'
 exact(.ref l,_,(d.laid (h':=y.heap) (t':=s1.toks) Z q (show cX X.prog X.w _ _ _ (.lst (mU f))from(S,_,c,A5 m (by rw[ah]) (xx R),Y,))).same rfl U V,rfl,a3 _ _ m (λx=>(j.mem_iff).trans (mem x)) (d.hok.fresh q),)
end
end L2
set_option maxHeartbeats 1000000
namespace L2
def J6{k:Key}(h:(bH P w).is k u=true):RelV (kV k) u:=by
 rw[p9]at h;cases k with
 |inl i=>exact Value.isInt_shape h
 |inr x=>exact kE h
section
variable {pins:List (Addr×Obj)}{s:Shared}{d:Addr}{kvs:List (Key×V)}{o:Obj}
def Inv.freeze(I:'A')(e:H d<*(.dK kvs))(g:s.heap.get? d<*o):Inv X pins σ (upd H d (.frz o (.dK kvs))) s:=by
 have ne:∀b u,H b<*u->(∀k,u≠.dK k)->b≠d:=λb u q z y=>by subst y;rw[e]at q;cases q;exact z _ rfl
 have a:∀b u,b≠d->H b<*u->upd H d (.frz o (.dK kvs)) b<*u:=λb u z q=>by rw[aQ z];exact q
 have f:∀b u,H b<*u->cX X.prog X.w (upd H d (.frz o (.dK kvs))) s.heap b u:=λb u q=>(I.hok b u q).pW (λ_ _ _ q=>q) (λc q=>a c _ (ne c _ q λ_ z=>nomatch z) q) λc h q=>a c _ (ne c _ q λ_ z=>nomatch z) q;refine(I.un (t':=s.toks) (h':=s.heap) ⟨λb u q n _ _=>q,λb u q n _ _=>(u.slots,q,),λb u q n _=>?_,λb u q _=>(u,q,),λb h q=>a b _ (ne b _ q λ_ z=>nomatch z) q,λb i u q=>a b _ (ne b _ q λ_ z=>nomatch z) q,λb j q=>⟨#[],by rw[a b _ (ne b _ q λ_ z=>nomatch z) q];simp⟩⟩ λb u q=>?_);·rw[aQ (λz=>by rw[z,e]at n;cases n)];exact n
 .by_cases hb:b=d;·subst hb;rw[ay]at q;cases q;exact(g,f b _ e,)
  .rw[aQ hb]at q;exact f b u q
def Inv.frozen{b:Array eV}(I:'A')(e:H d<*(.frz o (.dK kvs)))(c:o.data=.dict b ep):s.heap.get? d<*o/\(d==dA)=false/\∃vs,KV kvs vs/\s.heap.DictAt (bH X.prog X.w) d vs ep:=by obtain⟨a,z,i,vs,r,m,l,k,g,h,f,j⟩:=(show s.heap.get? d<*o/\kvs.length<=sizeLine/\(d==dA)=false/\∃vs,KV kvs vs/\s.heap.DictOf (bH X.prog X.w) d vs from I.hok d _ e);rw[a]at g;cases g;rw[c]at f;cases f;exact(a,i,vs,r,o,b,a,h,c,j,)
theorem Ds:∀{kvs:List (Key×V)}{vs:List (Key×Value)},KV kvs vs->∀{i:Nat}{k:Key}{v:V},kvs[i]?<*(k,v)->∃u,vs[i]?<*(k,u)/\RelV v u
 |_,_,.nil,_,_,_,h=>nomatch h
 |_,_,.cons (b:=(k',u)) r _,0,_,_,h=>by cases h;obtain⟨e,q⟩:=r;cases e;exact(u,rfl,q,)
 |_,_,.cons _ t,i+1,_,_,h=>Ds t (i:=i) h
end
abbrev Itk(d:Addr)(o:Obj)(kvs:List (Key×V)):It:=
 (λi H=>H d<*(.frz o (.dK kvs))/\i<kvs.length,λi H x H'=>H'=H/\∃k v,kvs[i]?<*(k,v)/\x=kV k,λi H=>H d<*(.frz o (.dK kvs))/\kvs.length<=i,)
def FG{d:Addr}{o:Obj}{kvs:List (Key×V)}{R:Array eV}(F:o.data=.dict R ep):Turn P w K tg (Itk d o kvs) [it] it (λi h=>h.IsKeyIter it d i kvs.length ep) where
 mem:=by simp
 obj:=λi h a b f=>by
  have e:b=it:=by simpa using f
  subst e;obtain⟨o,e,c,d⟩:=a;exact⟨o,e,λv z=>by rw[d]at z;cases z⟩
 keep:=λi h g a k=>a.at λo e=>k it 'F' o e
 item:=by intro X y C x D i J s M H E I j a A;subst y C x;obtain⟨u,l⟩:=A;obtain⟨U,Z,vs,r,B⟩:=I.frozen u F;obtain⟨⟨k,v⟩,G⟩:∃a0,kvs[i]?<*a0:=⟨kvs[i],by simp[l]⟩;obtain⟨a1,W,_⟩:=Ds r G;obtain⟨m,n,S,p,q,t⟩:=j it 'F';rw[r.length]at a;refine wpAny_pyNext_dict_item a B W λY g T L sb=>?_;have N:Inv X J M H {s with heap:=g}:=I.turned (t':=s.toks) (λb o f e=>(sb.2 b f).trans e) m n p q t;obtain⟨o',e,c,O⟩:=id L;exact⟨Y,rfl,xZ (s:={s with heap:=g}) e c O 'E' (kV k,H,N,J6 T,(rfl,k,v,G,rfl,),by rw[r.length];exact L,λb f=>(j b f).1,)⟩
 done:=by intro X y C x D i J s M H E I j a A;subst y C x;obtain⟨u,l⟩:=A;obtain⟨U,Z,vs,r,B⟩:=I.frozen u F;obtain⟨m,n,S,p,q,t⟩:=j it 'F';rw[r.length]at a l;exact wpAny_pyNext_dict_end (I.ok.hd D) a B ↥l λg Q=>(rfl,I.turned (t':=s.toks) (λb o f e=>Q b o f e) m n p q t,)
 self:=λ_ _ _ _ _ a h=>wpAny_pyIter_keyiter a h
abbrev Iti(d:Addr)(o:Obj)(kvs:List (Key×V)):It:=
 (λi H=>H d<*(.frz o (.dK kvs))/\i<kvs.length,λi H x H'=>∃p k v,H p=none/\H'=upd H p (.tup [kV k,v])/\x=.ref p/\kvs[i]?<*(k,v),λi H=>H d<*(.frz o (.dK kvs))/\kvs.length<=i,)
def CC{kk:Nat}{d:Addr}{o:Obj}{kvs:List (Key×V)}{S:Array eV}(M:o.data=.dict S ep):
  Turn P w K (.Tuple es' kk pp) (Iti d o kvs) [it] it (λi h=>∃ok ov,nO h it d i kvs.length ep ok ov) where
 mem:=by simp
 obj:=λi h a b g=>by
  have e:b=it:=by simpa using g
  subst e;obtain⟨ok,ov,e⟩:=a;exact⟨_,e,λv z=>by cases z⟩
 keep:=λi h j a k=>let⟨ok,ov,e⟩:=a;⟨ok,ov,k it 'F' _ e⟩
 item:=by
  intro X B F A f i G s J H E I l a C;subst B F A;obtain⟨y,m⟩:=C;obtain⟨Y,lo,vs,r,D⟩:=I.frozen y M;obtain⟨⟨k,v⟩,N⟩:∃a2,kvs[i]?<*a2:=⟨kvs[i],by simp[m]⟩;obtain⟨a5,hu,ru⟩:=Ds r N;obtain⟨n,p,T,t,u,x⟩:=l it 'F';obtain⟨ok,ov,a⟩:=a;rw[r.length]at a;refine wpAny_pyNext_items_item a D hu λa1 j W a3 ht hz kp=>?_;have Z:H ⇑s=none:=I.hok.fresh (aE _);have O:Inv X G J (upd H ⇑s (.tup [kV k,v])) {s with heap:=j}:=
   I.newL (t':=s.toks) (ch:=[it]) (λc o f q=>kp c o (λz=>f (by simp[z])) q) l (by show 2<=sizeLine;decide,[a1,a5],.cons (J6 W) (.cons ru .nil),(_,ht,rfl,_,rfl,),)
  have L:(upd H ⇑s (.tup [kV k,v])) it=none:=by rw[aQ (aK (aD a))];exact n
  refine(_,rfl,Fs (s:={s with heap:=j}) a3 λU a4 a0=>?_,);have Q:Inv X G J (upd H ⇑s (.tup [kV k,v])) {s with heap:=U}:=O.turned (t':=s.toks) (λc o g q=>a0.extBut c o g q) L p t u x;exact⟨.ref ⇑s,_,Q,rfl,(_,k,v,Z,rfl,rfl,N,),⟨_,_,by rw[r.length];exact a4⟩,λc f=>by
   have e:c=it:=by simpa using f
   rw[e];exact L⟩
 done:=by intro X B F A f i G s J H E I l a C;subst B F A;obtain⟨y,m⟩:=C;obtain⟨Y,lo,vs,r,D⟩:=I.frozen y M;obtain⟨n,p,T,t,u,x⟩:=l it 'F';obtain⟨ok,ov,a⟩:=a;rw[r.length]at a m;exact wpAny_pyNext_items_end (I.ok.hd f) a D ↥m λj R=>(rfl,I.turned (t':=s.toks) (λb o g e=>R b o g e) n p t u x,)
 self:=λ_ _ _ _ _ a h=>let⟨_,_,e⟩:=a;K2 e h
def Frz(H:Hp)(d:Addr)(kvs:List (Key×V))(R:Obj->Hp->Prop):Prop:=(H d<*(.dK kvs)/\∀o,R o (upd H d (.frz o (.dK kvs))))\/∃o,H d<*(.frz o (.dK kvs))/\R o H
section
variable {pins:List (Addr×Obj)}{s:Shared}{d:Addr}{kvs:List (Key×V)}{es:List Expr}{kk:Nat}{apos:Pos}
def Inv.E8{R:Obj->Hp->Prop}(I:'A')(h:Frz H d kvs R):∃o es ep H2,Inv X pins σ H2 s/\H2 d<*(.frz o (.dK kvs))/\o.data=.dict es ep/\R o H2:=by
 rcases h with⟨e,h⟩ |⟨o,e,h⟩;·obtain⟨_,_,a,r,o,es,ep,c,_,b,_⟩:=vP I.hok e;exact(o,es,ep,_,I.freeze e c,ay,b,h o,)
 .obtain⟨c,_,_,a,r,g,es,ep,f,_,b,_⟩:=(show s.heap.get? d<*o/\kvs.length<=sizeLine/\(d==dA)=false/\∃a,KV kvs a/\s.heap.DictOf (bH X.prog X.w) d a from I.hok d _ e);rw[c]at f;cases f;exact(o,es,ep,H,I,e,b,h,)
def Kb(tl:TE):TI:=λσ H R=>tl σ H λx H1=>∃d kvs,x=.ref d/\Frz H1 d kvs λo H2=>R (Itk d o kvs) H2
def pi_keys{l:Expr}{tl:TE}(n:PE X l tl):PI X tg l (Kb tl):=by
 intro u s z H R I h;refine thn (n u s z H _ I h) λv c ⟨x,A,i,y,w⟩=>?_;obtain⟨d,E,rfl,q⟩:=w;cases y;obtain⟨o,C,B,g,a,j,f,k⟩:=i.E8 q;obtain⟨D,t,F,r,p⟩:=a.frozen j f;refine wpAny_pyIter_dict t p ?_;refine(⇑c,[⇑c],_,_,g,rfl,a.kept (t':=c.toks) λb o e=>af _ e,FG f,⟨_,aF _ rfl,rfl,by rw[r.length];rfl⟩,λb m=>?_,k,);have e:b=⇑c:=by simpa using m
 subst e;exact a.sk (aE _) (a.hok.fresh (aE _))
end
section
variable {E:'I'}{s:Shared}
def Kg{Q:Bool->Shared->Prop}(c:s.TypeIs (.ref z) "list_reverseiterator")(h:Q false s):'B' (dM (.ref z)) Q E s:=by
 unfold dM;refine ae (eI (r:=none) c (by rw[fF,dQ];kernel_rfl) ?_);show wpAny _ _ (specialOf (.ref z) "__length_hint__">>=_) _ _ _;refine ae (eI (r:=some (.builtin "list_reverseiterator.__length_hint__")) c (by rw[fF,dQ];kernel_rfl) ?_);dsimp only;have d:splitId "list_reverseiterator.__length_hint__"<*("list_reverseiterator","__length_hint__"):=by decide+kernel
 rw[d];dsimp only;refine ae (kL (b:=true) c (by rw[jV];kernel_rfl) ?_);refine jq (λa=>absurd a 'E') (λ_=>?_);refine jq (λ_=>?_) (λa=>absurd (by decide+kernel) a);refine jq (λa=>absurd a (by decide+kernel)) (λ_=>ag h)
def IL{R:Result->Shared->Prop}(B:A.handled=none)(D:s.heap.IsRevIter it l ((items.size:Int)-1))(E:s.heap.IsList l items)(G:l≠it)(j:S≠it)(k:S≠l)(F:items.size<=sizeLine)(h:s.heap.get? S<*{cls:=.type "list",data:=.seq #[]})
  (t:∀h' H c a,(∀b o,b≠S->b≠it->s.heap.get? b<*o->h'.get? b<*o)->h'.get? S<*{cls:=.type "list",dict:=none,data:=.seq c a,slots:= #[]}->FC (λi v=>items[items.size-1-i]?<*v) c items.size->R (.ok (.ret .none)) {s with heap:=h',toks:=H}):
  wpAny (model prog w) A.in1 (Builtin.«list.__init__» ([.ref S,.ref it],[],))
   (λfin s'=>match fin with |.done f=>R (.ok f) s'|.again a=>a.quiet=true/\gh (model prog w) A a R s') (λe s'=>R (.error e) s') s:=by
 show wpAny _ _ (do let old<-iK (.ref S);k9 (.ref S) (λ_=> #[]);letGo old.toList.reverse;b7 (.ref S) (.ref it) .none) _ _ s;refine ae ?_;unfold iK;refine ae (jQ h rfl (ag ?_));show wpAny _ _ (B1 S (λ_=> #[])>>=λ_=>letGo (#[]:Array Value).toList.reverse>>=λ_=>b7 (.ref S) (.ref it) .none) _ _ s;refine ae (mF h rfl ?_);have x:=bG (cC (λ_=>(#[]:Array Value))) h rfl;have oth:∀b o,b≠S->s.heap.get? b<*o->(s.heap.update S (cC (λ_=>(#[]:Array Value)))).get? b<*o:=λb o d e=>(bb _ _ (cU d)).trans e;refine ae (wpAny_letGo ?_);have g:Heap.IsRevIter (s.heap.update S (cC (λ_=>(#[]:Array Value)))) it l ((items.size:Int)-1):=D.at λo e=>oth it o j.symm e;unfold b7;refine ae (jP (T:="list_reverseiterator") (wF (s:={s with heap:=s.heap.update S _}) g) ?_);have p:fk (.ref S) (.ref it)=false:=by simp[fk,j]
 have q:(dD "list_reverseiterator"==dD "list")=false:=by decide
 have r:(dD "list_reverseiterator"==dD "tuple")=false:=by decide
 simp only[p,q,r,sU,b8,if_false];refine ae (ui (s:={s with heap:=s.heap.update S _}) g ?_);refine ae (bq (Kg (wF (s:={s with heap:=s.heap.update S _}) g) ?_));refine jq (λy=>absurd y be) (λ_=>ag (fV f9 _,?_,));have W:=Walks.listRev (prog:=prog) (w:=w) (A:=A.in1) B it l G items;refine codeAny_extend_loopS W.toS F S (by simp only[aG,bu,or_false,not_or];exact(j,k,)) .none items.size 0 _ _ _ (pj _) (a0 _) (a0 _,by rw[show(items.size:Int)-1-((0:Nat):Int)=(items.size:Int)-1 by lia];exact g,E.at λo e=>oth l o k.symm e,) x (FC.nil _) λs' c a m u z=>?_;rw[Moved.eq_with m];refine t s'.heap s'.toks c a (λb o d C e=>m.heap b o (λhmem=>?_) (oth b o d e)) u z;rcases aG.mp hmem with n|hmem;·exact d n
 .exact C (aC.mp hmem)
def xi{Q:'I'}(r:A.handled=none)(g:s.heap.IsRevIter it l ((items.size:Int)-1))(h:s.heap.IsList l items)(x:l≠it)(u:items.size<=sizeLine)
  (m:∀h' d a c,(∀b o,b≠it->s.heap.get? b<*o->h'.get? b<*o)->h'.get? ⇑s<*{cls:=.type "list",dict:=none,data:=.seq a c,slots:= #[]}->FC (λi v=>items[items.size-1-i]?<*v) a items.size->Q (.ref ⇑s) {s with heap:=h',toks:=d}):
  'B' (call (.type "list") [.ref it]) Q E s:=by
 refine He (Q₁:=λj k=>j=.ref ⇑s/\k={s with heap:=s.heap.push {cls:=.type "list",data:=.seq #[]}}) F.called_list (F.typeCall_list_1 _) F.entry_list_init
  (code_list_new _ (rfl,rfl,)) λj k y=>?_
 obtain⟨rfl,rfl⟩:=y;have f:(s.heap.push {cls:=.type "list",data:=.seq #[]}).get? ⇑s<*{cls:=.type "list",data:=.seq #[]}:=aF _ rfl;have l1:it<⇑s:=let⟨_,e,_⟩:=g;aD e;have l2:l<⇑s:=let⟨_,e,_⟩:=h;aD e;refine((_,f,rfl,),F.args_list_init_2 _ _,IL (A:=A.in1) r (g.at λo e=>af _ e) (h.at λo e=>af _ e) x (cS l1) (cS l2) u f λh' d a c t n p=>(rfl,m h' d a c (λb o q e=>t b o (aK (aD e)) q (af _ e)) n p,),)
end
def F8(h:FC (λi v=>its.toArray[its.toArray.size-1-i]?<*v) ad its.toArray.size):ad.toList=its.reverse:=by
 obtain⟨c,d⟩:=h;rw[aI]at c;apply dw;·rw[fR];exact c
 .intro i a b;have :=d i ad[i] 'F';rw[aI,pR,aj (by simp at b;lia)]at this;rw[List.getElem_reverse];simpa using(bC this).symm
theorem vA:∀{kvs:List (Key×V)}{vs:List (Key×Value)}{P:Program}{w:World},KV kvs vs->∀{l:List Value},l.length=vs.length->(∀(i:Nat) v,l[i]?<*v->∃k x,vs[i]?<*(k,x)/\(bH P w).is k v=true)->bZ (kvs.map λb=>kV b.1) l
 |_,_,_,_,.nil,l,h,_=>by rw[eB]at h;rw[xu h];exact .nil
 | (k0,v0)::kvs,(k1,v1)::vs,P,w,.cons r t,l,h,hq=>by
  cases l with
  |nil=>cases h
  |cons u l=>obtain⟨k,x,e,a⟩:=hq 0 u rfl;cases e;obtain⟨e,_⟩:=r;cases e;exact .cons (J6 a) (vA t (gK h) λi v e=>hq (i+1) v e)
section
def GR:fU X (.builtin "len") (λxs H Q=>∃a kvs,xs=[V.ref a]/\Rd H a (.dK kvs)/\Q (.int kvs.length) H):=by intro e s i H xs g Q I r h;obtain⟨a,kvs,rfl,c,q⟩:=h;obtain⟨u,rfl,d⟩:=vals1 r;cases d;exact d_len I c λt f b=>(.int kvs.length,H,b,(t,rfl,),q,)
def DR(n:X.calm=true):fU X (.type "list") (λxs H Q=>∃a kvs,xs=[V.ref a]/\Rd H a (.dK kvs)/\∀l,H l=none->Q (.ref l) (upd H l (.lst (kvs.map λb=>kV b.1)))):=by intro B s E H xs C Q I r h;obtain⟨a,kvs,rfl,m,q⟩:=h;obtain⟨u,rfl,x⟩:=vals1 r;cases x;obtain⟨d,w,D,rv,j⟩:=tH I.hok m;obtain⟨z,t⟩:=j.dictAt;refine PySem.W.kdl_call (PySem.W.kdl_dict w) (I.ok.hd n) t (by rw[<-rv.length];exact d) λA y f g p k c=>?_;refine(.ref _,_,I.laid (t':=y) (o:=.lst (kvs.map λb=>kV b.1)) p (aE _) (by rw[ah];exact d,f.toList,g,vA rv (by rw[aO];exact c.1) λi v e=>c.2 i v (by rw[<-eE];exact e),k,),rfl,q _ (I.hok.fresh (aE _)),)
def HM(K:ai)(ta:TA):TE:=λσ H Q=>ta σ H λvs H1=>∃a xs,vs=[.ref a]/\SqL K H1 a xs/\∀p,H1 p=none->Q (.ref p) (upd H1 p (.lst xs.reverse))
def boot_reversed:eY "reversed"<*(.type "reversed"):=by decide+kernel
def pe_lrev{a:Expr}{k:TA}(z:X.calm=true)(B:Gl X "list")(E:X.mg "list"=none)(A:Gl X "reversed")(D:X.mg "reversed"=none)(w:PA X [a] k)(G:bx [a] X.env=[(false,eval a X.env)]:=by rfl):
  PE X (.Call (.Name "list" p) [.Call (.Name "reversed" p') [a] [] pos'] [] pos) (HM X.K k):=by
 intro j s l H Q I h;refine Call_ (jj I B E fB (bT (i4 ?_) rfl rfl));refine Call_ (jj I A D boot_reversed (bT (thn (w pos' j s l H _ I h) λU s1 ⟨V,m,d,L,K⟩=>?_) G rfl));obtain⟨b,O,rfl,F,q⟩:=K;obtain⟨u,rfl,M⟩:=L.one;cases M;obtain⟨f,rv,g,J⟩:=d.list F;have S:=rv.length;refine call_reversed_list g.isList ?_;refine ag ?_;have P:Inv X j l m {s1 with heap:=s1.heap.push (revObj b ((f.toArray.size:Int)-1))}:=d.kept (t':=s1.toks) λb o e=>af _ e;obtain⟨o,t,T⟩:=id g.isList;have y:b<⇑s1:=aD t;refine xi (s:={s1 with heap:=s1.heap.push (revObj b ((f.toArray.size:Int)-1))}) (d.ok.hd z) (_,aF _ rfl,rfl,rfl,) (g.isList.at λo e=>af _ e) (aK y) (by rw[aI];lia) λR N n r C v x=>?_;have i:⇑s1<=(s1.heap.push (revObj b ((f.toArray.size:Int)-1))).objs.size:=by rw[cK];exact dq _
 exact(.ref _,_,d.laid (t':=N) (o:=.lst O.reverse) (λc o e=>C c o (aK (aD e)) (af _ e)) i (by rw[fR];exact J,n.toList,r,by rw[F8 x];exact rv.reverse,v,),rfl,q _ (d.hok.fresh i),)
end
abbrev Itv(K:ai)(a:Addr)(xs:List V):It:=
 (λi H=>SqL K H a xs/\i<xs.length,λi H x H'=>H'=H/\xs.reverse[i]?<*x,λi H=>xs.length<=i,)
def HD(a j:Addr)(xs:List V):Turn P w K tg (Itv K a xs) [j] j (λi h=>h.IsRevIter j a ((xs.length:Int)-1-i)/\i<=xs.length) where
 mem:=by simp
 obj:=λi h f b g=>by
  have e:b=j:=by simpa using g
  subst e;obtain⟨⟨o,e,c,d⟩,_⟩:=f;exact⟨o,e,λa0 z=>by rw[d]at z;cases z⟩
 keep:=λi h l f k=>(f.1.at λo e=>k j 'F' o e,f.2,)
 item:=by
  intro X B C A D i F s J H E I m f n;subst B C A;obtain⟨Q,O⟩:=n;obtain⟨Z,rv,p,Y⟩:=I.list Q;have W:=rv.length;obtain⟨u,R,S⟩:=rv.get (aj (show xs.length-1-i<xs.length by lia));obtain⟨q,r,N,t,v,y⟩:=m j 'F';obtain⟨f,_⟩:=f;rw[show(xs.length:Int)-1-i=((xs.length-1-i:Nat):Int) by lia]at f;refine wpAny_pyNext_rev_item f p.isList (x:=u) ↥R λl G T=>?_;have L:Inv X F J H {s with heap:=l}:=I.turned (t':=s.toks) (λb o g e=>(T.2 b g).trans e) q r t v y;obtain⟨o,e,c,d⟩:=id G;refine(u,rfl,xZ (s:={s with heap:=l}) e c d 'E' (_,H,L,S,(rfl,?_,),(?_,'D',),λb g=>(m b g).1,),);·rw[List.getElem?_reverse O,aj]
  .rw[show(xs.length:Int)-1-((i+1:Nat):Int)=((xs.length-1-i:Nat):Int)-1 by lia];exact G
 done:=by intro X B C A D i F s J H E I m f n;subst B C A;obtain⟨q,r,N,t,v,y⟩:=m j 'F';obtain⟨f,U⟩:=f;have n:xs.length<=i:=n;rw[show(xs.length:Int)-1-i= -1 by lia]at f;exact wpAny_pyNext_rev_end (I.ok.hd D) f λl M=>(rfl,I.turned (t':=s.toks) (λb o g e=>M b o g e) q r t v y,)
 self:=λ_ _ _ _ _ f h=>ui f.1 h
section
def iRev(K:ai)(t:TA):TI:=λσ H R=>t σ H λvs H1=>∃a xs,vs=[.ref a]/\SqL K H1 a xs/\R (Itv K a xs) H1
def pi_rev{l:Expr}{t:TA}(j:Gl X "reversed")(m:X.mg "reversed"=none)(g:PA X [l] t)(r:bx [l] X.env=[(false,eval l X.env)]:=by rfl):PI X tg (.Call (.Name "reversed" p) [l] [] pos) (iRev X.K t):=by
 intro v s B H R I h;refine Call_ (jj I j m boot_reversed (bT (thn (g pos v s B H _ I h) λD s1 ⟨E,f,c,y,x⟩=>?_) r rfl));obtain⟨a,A,rfl,n,q⟩:=x;obtain⟨u,rfl,z⟩:=y.one;cases z;obtain⟨d,rv,w,C⟩:=c.list n;have k:=rv.length;refine call_reversed_list w.isList ?_;refine ui (s:={s1 with heap:=s1.heap.push (revObj a ((d.toArray.size:Int)-1))}) (l:=a) (_,aF _ rfl,rfl,rfl,) ?_;refine(⇑s1,[⇑s1],_,_,f,rfl,c.kept (t':=s1.toks) λb o e=>af _ e,HD a _ A,((_,aF _ rfl,rfl,?_,),a0 _,),λb i=>?_,q,);·show Data.fields #[.ref a,rawInt ((d.toArray.size:Int)-1)]=_;rw[aI,k];simp
 .have e:b=⇑s1:=by simpa using i
  subst e;exact c.sk (aE _) (c.hok.fresh (aE _))
end
end L2
namespace PySem
open _root_.PySem.Sem (wp)
def zq:xm (.type "list") "keys"=pure none:=by rw[fF,dQ];kernel_rfl
def wW:xm (.type "list") "__getattr__"=pure none:=by rw[fF,dQ];kernel_rfl
section
variable {E:'I'}{g:Array uq}{d:Drawn}{t:Nat}{os:OsState}{a:Addr}{o:Obj}
def Dt{tk:Tok}{xs:Array Value}{Q:Fin->Shared->Prop}(l:h.get? a<*{cls:=.type "list",data:=.seq xs n}) (i:A.handled=none) (k:∀h' t' x c,(∀b u,h.get? b<*u->h'.get? b<*u)->h'.get? x<*c->c.cls=.type "AttributeError"->E (.ref x) (h',g,d,t',os,)):
  'B' (Builtin.«object.__getattribute__» ([.ref a,.str "keys" tk],[],)) Q E (h,g,d,t,os,):=by
 have p:((h,g,d,t,os,):Shared).TypeIs (.ref a) "list":=(_,l,rfl,);have o:=zq;repeat(any_goals (first |assumption|wp_step))
 generalize hmm:(cz _++cz "keys"++cz "'")=msg;have j:msg.length<=sizeLine:=by rw[<-hmm];decide+kernel
 unfold raiseAttrError;refine ae ?_;refine wpAny_mkStr ?_ j;refine ae ?_;simp only[newExc,newTuple];refine ae (ck ?_ (by size_fits));refine ae (m:=jX _ _) (uj (a:=cf) (by first |rfl| (simp only[jX];rfl)) ?_);refine ck ?_ (by size_fits);have q:isSubtype (.type "AttributeError") (.type "AttributeError")=pure true:=by rw[jV];kernel_rfl
 have om:ownMembersOf (dD "AttributeError") [k8 msg t]= #[unsetMember,unsetMember]:=by rfl
 rw[om];dsimp only;repeat(any_goals (first |assumption|wp_step))
 simp only[zT];refine ae (KS ?_);rw[i];refine ae (ag (wpAny_throw ?_));refine k _ _ _ _ (λb u e=>?_) (bG _ (aF _ rfl) rfl) rfl;have f:=aD e;rw[bb _ _ (cS (by rw[cK];exact bU f))];exact af _ (af _ e)
def GA{xs:Array Value}{Q:Option Value->Shared->Prop}(c:h.get? a<*{cls:=.type "list",data:=.seq xs n}) (k:A.handled=none) (m:∀h' t',(∀b u,h.get? b<*u->h'.get? b<*u)->Q none (h',g,d,t',os,)):
  'B' (getAttr? (.ref a) "keys") Q E (h,g,d,t,os,):=by
 have e:∀t,((h,g,d,t,os,):Shared).TypeIs (.ref a) "list":=λ_=>(_,c,rfl,);have r:=jc.lookup;have s:=jc.bind (.ref a);have v:=wW;have f:=e (t+1);unfold getAttr? getAttrBy?;repeat(any_goals (first |assumption|wp_step))
 refine fN jc.plain F.entry_list_ga (jc.check _ _ _ _ _ _ _ _ f (F.args_list_getattribute_2 _ _) (Dt c k λh' t' x p o l j=>?_));have z:isSubtype (.type "AttributeError") (.type "AttributeError")=pure true:=by rw[jV];kernel_rfl
 have i:∀t,((h',g,d,t,os,):Shared).TypeIs (.ref x) "AttributeError":=λ_=>(p,l,j,);have y:=i t';have q:=m h' t' o;repeat(any_goals (first |assumption|wp_step))
end
end PySem
namespace L2
def stored_new{kvs:List (Key×Value)}{k:Key}(h:k∉kvs.map (·.1)):stored kvs k v=kvs++[(k,v)]:=by unfold stored;rw[if_neg];intro z;obtain⟨q,a,e⟩:=fS.mp z;exact h (aW.mpr (q,a,W0 e,))
def mZ:entryFor table "dict.update.loop"<*Builtin.«dict.update.loop»:=entryFor_of_tree 'G'
def hO:plainId "dict.update.loop"=true:=by decide+kernel
section
variable {E:'I'}{s:Shared}
def PrAt(P:Program)(w:World)(h:Heap)(its:List Value)(ps:List (Key×Value)):Prop:=∀(i:Nat)(k:Key)(v:Value),ps[i]?<*(k,v)->∃(p:Addr)(o:Obj)(a:Value)(n:Nat),its[i]?<*(bo p)/\h.get? p<*o/\o.cls=.type "tuple"/\o.data=.seq #[a,v] n/\(bH P w).is k a=true
theorem ya{d:Addr}{ps:List (Key×Value)}{R:Result->Shared->Prop}(I:A.handled=none)(J:its.length=ps.length)(nd:(ps.map (·.1)).Nodup)(hn:ps.length<=sizeLine)(f:d≠it)(L:l≠it)(K:l≠d):
  ∀(m i:Nat)(s:Shared)(y:Tok),ps.length-i=m->i<=ps.length->s.heap.IsListIter it l i->s.heap.IsList l its.toArray->s.heap.DictOf (bH prog w) d (ps.take i)->PrAt prog w s.heap its ps->(∀p,bo p∈its->p≠d/\p≠it)->
   (∀h' z,(∀b o,b≠d->b≠it->s.heap.get? b<*o->h'.get? b<*o)->h'.DictOf (bH prog w) d ps->R (.ok (.ret .none)) {s with heap:=h',toks:=z})->
   gh (model prog w) A (.builtin "dict.update.loop" ([.ref d,.ref it,.int i y,.none],[],)) R s
 | 0,i,s,y,hm,hi,st,sl,hd,hp,hne,hR=>by
  obtain rfl:i=ps.length:=by lia
  rw[dv]at hd;refine eK mZ ?_;rw[dh hO _];show wpAny _ A.in1 (pyNext (.ref it)>>=_) _ _ s;refine ae (wpAny_pyNext_list_end I st sl (by simp[J]) λh' D=>?_);show wpAny _ _ (Builtin.Dict.addKeywords d []>>=_) _ _ _;exact ae (ag (ag (hR h' s.toks (λb o _ a e=>D b o a e) (hd.extBut D f))))
 |m+1,i,s,y,hm,hi,st,sl,hd,hp,hne,hR=>by
  have g:i<ps.length:=by lia
  obtain⟨⟨k,v⟩,h⟩:∃q,ps[i]?<*q:=⟨ps[i],by simp[g]⟩;obtain⟨p,o,N,a8,B,S,U,V,W⟩:=hp i k v h;have a3:=hne p (bS B);refine eK mZ ?_;rw[dh hO _];show wpAny _ A.in1 (pyNext (.ref it)>>=_) _ _ s;refine ae (wpAny_pyNext_list_item st sl (x:=.ref p) ↥B λh' a6 u=>?_);have C:h'.get? p<*o:=(u.2 p a3.2).trans S;refine ae (bq ?_);refine ae ?_;refine wpAny_tryCatch ?_;unfold Builtin.Dict.pairItems;refine ae (jP (T:="tuple") (o,C,U,) ?_);rw[if_pos 'E'];refine ae ?_;unfold seqItems?;refine ae (wpAny_load C ?_);rw[V];refine ag (ag ?_);show wpAny _ _ (holding [N,v] (dictSet d N v)) _ _ _;have a0:h'.DictOf (bH prog w) d (ps.take i):=hd.extBut u.extBut f;refine bq (wt (s:={s with heap:=h'}) (hsz:=by rw[aM];lia) W a0 λG H P=>?_);have nk:k∉(ps.take i).map (·.1):=λa7=>by
   obtain⟨q,hq,e⟩:=aW.mp a7;obtain⟨j,n,E⟩:=aU.mp hq;rw[aM]at n;rw[bX]at E;have Q:(ps.map (·.1))[j]'(by rw[ah];lia)=(ps.map (·.1))[i]'(by rw[ah];exact g):=by rw[cu,cu,E,e];rw[aj g]at h;rw[bC h]
   have :=(cJ nd).mp Q;lia
  rw[stored_new nk,show ps.take i++[(k,v)]=ps.take (i+1) by rw[dF,h];rfl]at H;have r:∀b o,b≠d->b≠it->s.heap.get? b<*o->G.get? b<*o:=λb o a c e=>(P.2 b a).trans ((u.2 b c).trans e);refine ag (fV hO _,?_,);refine ya I J nd hn f L K m (i+1) {s with heap:=G,toks:=s.toks+1} _ 'D' g (a6.at λo e=>(P.2 it f.symm).trans e) (sl.at λo e=>r l o K L e) H (λj k' v' n=>?_) hne λh3 z a4 a2=>hR h3 z (λb o a c e=>a4 b o a c (r b o a c e)) a2;obtain⟨t,O,a5,n',F,X,Y,Z,f5⟩:=hp j k' v' n;have M:=hne t (bS F);exact(t,O,a5,n',F,r t O M.1 M.2 X,Y,Z,f5,)
def wZ{n0:Nat}{ps:List (Key×Value)}{Q:'I'}(p:A.handled=none)(t:s.heap.get? l<*{cls:=.type "list",data:=.seq its.toArray n0}) (S:its.length=ps.length) (nd:(ps.map (·.1)).Nodup) (U:ps.length<=sizeLine) (r:PrAt prog w s.heap its ps)
  (P:∀h' n,(∀b o,s.heap.get? b<*o->h'.get? b<*o)->h'.DictOf (bH prog w) ⇑s ps->Q (.ref ⇑s) {s with heap:=h',toks:=n}):
  'B' (call (.type "dict") [.ref l]) Q E s:=by
 refine He (Q₁:=λC G=>C=.ref ⇑s/\G={s with heap:=s.heap.push {cls:=.type "dict",data:=.dict #[]}}) F.kt_called_dict (F.kt_typeCall_dict_1 _) F.entry_dict_init (kt_code_dict_new _ (rfl,rfl,)) ?_;rintro C G ⟨rfl,rfl⟩;have i:(s.heap.push {cls:=.type "dict",data:=.dict #[]}).DictOf (bH prog w) ⇑s []:=FD s.heap;have m:(s.heap.push {cls:=.type "dict",data:=.dict #[]}).get? l<*{cls:=.type "list",data:=.seq its.toArray n0}:=af _ t;refine(i.typeIs,F.args_dict_init_2 _ _,?_,);unfold Builtin.«dict.__init__»;refine ae ?_;unfold Builtin.Dict.selfAndRest;refine ae (wpAny_notOrdered_dict i.typeIs ?_);show wpAny _ _ (pure (⇑s,[bo l])) _ _ _;refine ag ?_;show wpAny _ _ (wG "dict.__init__" ⇑s (.ref l) [] .none) _ _ _;unfold wG;refine ae (jP (T:="list") (_,m,rfl,) ?_);rw[if_pos 'E'];refine ae (GA m p λa H f=>?_);rw[if_pos (by rfl)];refine ae (dZ ?_);have q:a.IsList l its.toArray:=(_,f _ _ m,rfl,_,rfl,);refine ae (jR (s:={s with heap:=a,toks:=H}) q ?_);refine ag (fV hO _,?_,);have y:l<⇑s:=aD t;have c:⇑s<a.objs.size:=aD (f _ _ (aF (o:={cls:=.type "dict",data:=.dict #[]}) _ rfl));have u:∀b o,s.heap.get? b<*o->a.get? b<*o:=λb o e=>f b o (af _ e);obtain⟨Z,K,J,V,a2⟩:=i;refine ya (A:=A.in1) (its:=its) (ps:=ps) p S nd U (aK c) (aK (fv y c)) (aK y) ps.length 0 {s with heap:=a.push {cls:=.type "list_iterator",data:=.fields #[.ref l,.int 0 0]},toks:=H} 0 (pj _) (a0 _) (_,aF _ rfl,rfl,rfl,) (q.at λo e=>af _ e) (Z,K,J,af _ (f _ _ V),a2,) (λj k v h=>?_) (λa3 W=>?_) λO n Y R=>(rfl,P O n (λb o e=>Y b o (aK (aD e)) (aK (fv (aD e) c)) (af _ (u b o e))) R,);·obtain⟨D,B,x,z,d,g,L,M,N⟩:=r j k v h;exact(D,B,x,z,d,af _ (u _ _ g),L,M,N,)
 .obtain⟨j,h,I⟩:=aU.mp W;obtain⟨⟨k,v⟩,X⟩:∃a1,ps[j]?<*a1:=(ps[j]''D',aj _,);obtain⟨D,B,x,z,d,g,_⟩:=r j k v X;rw[aj h,I]at d;cases d;have :=aD g;exact(aK this,aK (fv this c),)
end
section
def DS(A:X.calm=true):fU X (.type "dict") (λxs H Q=>∃a ys kvs,xs=[V.ref a]/\H a<*(.lst ys)/\Paired (λy (d:Key×V)=>∃p,y=V.ref p/\H p<*(.tup [kV d.1,d.2])) ys kvs/\(kvs.map (·.1)).Nodup/\∀l,H l=none->Q (.ref l) (upd H l (.dK kvs))):=by
 intro S s W H xs U Q I r h;obtain⟨a,ys,kvs,rfl,D,f,nd,q⟩:=h;obtain⟨u,rfl,J⟩:=vals1 r;cases J;obtain⟨P,c,n,rv,_,e⟩:=I.zp D;have F:∀{ys:List V}{kvs:List (Key×V)},Paired (λy (d:Key×V)=>∃p,y=V.ref p/\H p<*(.tup [kV d.1,d.2])) ys kvs->∀{c:List Value},bZ ys c->∃ps,KV kvs ps/\PrAt X.prog X.w s.heap c ps:=by
  intro ys kvs f
  induction f with
  |nil=>intro c rv;cases rv;exact⟨[],.nil,λi k v z=>nomatch z⟩
  |cons r t ih=>
   intro c rv;obtain⟨p,rfl,x⟩:=r;cases rv with
   |cons r1 rv=>
    cases r1;obtain⟨ps,b,g⟩:=ih rv;obtain⟨_,T,G,o,j,m,n,w⟩:=I.hok p _ x;obtain⟨u1,N,rfl,K,L⟩:=G.two;refine((_,N)::ps,.cons (rfl,L,) b,λi k v z=>?_,);cases i with
    |zero=>cases z;exact(p,o,u1,n,rfl,j,m,w,og K,)
    |succ i=>exact g i k v z
 obtain⟨ps,b,g⟩:=F f rv;have l1:=rv.length;have l2:=f.length;have R:=b.length;have E:kvs.length<=sizeLine:=by lia
 refine wZ (ps:=ps) (n0:=n) (I.ok.hd A) e 'D' (by rw[<-b.keys];exact nd) 'D' g λO M C B=>?_;exact(.ref _,_,I.laid (t':=M) (o:=.dK kvs) C (aE _) (E,beq_eq_false_iff_ne.mpr (cU (aK I.big)),ps,b,B,),rfl,q _ (I.hok.fresh (aE _)),)
end
section
variable {pins:List (Addr×Obj)}{s:Shared}{d:Addr}{kvs:List (Key×V)}{o:Obj}
def Inv.yD(I:'A')(h0:∀o u,X.H₀ d≠some (.frz o u))(e:H d<*(.frz o (.dK kvs))):Inv X pins σ (upd H d (.dK kvs)) s:=by
 have ne:∀b u,H b<*u->(∀o v,u≠.frz o v)->b≠d:=λb u q z y=>by subst y;rw[e]at q;cases q;exact z _ _ rfl
 have a:∀b u,b≠d->H b<*u->upd H d (.dK kvs) b<*u:=λb u z q=>by rw[aQ z];exact q
 have i:∀b u,cX X.prog X.w H s.heap b u->cX X.prog X.w (upd H d (.dK kvs)) s.heap b u:=λb u q=>q.pW (λ_ _ _ q=>q) (λc q=>a c _ (ne c _ q λ_ _ z=>nomatch z) q) λc g q=>a c _ (ne c _ q λ_ _ z=>nomatch z) q;have f:∀b,H b=none->upd H d (.dK kvs) b=none:=λb n=>by rw[aQ (λz=>by rw[z,e]at n;cases n)];exact n
 refine(I.ok,I.os,I.bare,(I.base.keep,I.base.slot,λb u q n k=>f b (I.base.free b u q n k),I.base.there,λb g q=>a b _ (ne b _ (I.base.tups b g q) λ_ _ z=>nomatch z) (I.base.tups b g q),λb h u q=>a b _ (λz=>h0 h u (by rw[<-z];exact q)) (I.base.frzs b h u q),λb w q=>?_,),I.loc,I.cell,f _ I.free,λx c q=>f c (I.freeC x c q),λp j=>?_,λb u q=>?_,I.len,);·obtain⟨m,z⟩:=I.base.tbls b w q;exact⟨m,a b _ (ne b _ z λ_ _ z=>nomatch z) z⟩
 .obtain⟨l,r,t⟩:=I.pin p j;exact(l,f _ r,t,)
 .by_cases hb:b=d;·subst hb;rw[ay]at q;cases q;obtain⟨_,z⟩:=(show s.heap.get? b<*o/\cX X.prog X.w H s.heap b (.dK kvs)from I.hok b _ e);exact i b _ z
  .rw[aQ hb]at q;exact i b u (I.hok b u q)
def Inv.warm(I:'A')(e:H d<*(.dK kvs)):∀o u,X.H₀ d≠some (.frz o u):=λo u z=>by have :=I.base.frzs d o u z;rw[e]at this;cases this
end
section
variable {st:Stmt}{t:TE}{ts:TS}
def HI(t:TE):TE:=λσ H Q=>(∃d kvs,H d<*(.dK kvs)/\t σ H λx H'=>∃o,H' d<*(.frz o (.dK kvs))/\Q x (upd H' d (.dK kvs)))\/t σ H Q
def pe_thaw(h:PE X e t):PE X e (HI t):=by
 intro a s b H Q I hw;rcases hw with⟨d,k,g,hw⟩ |hw;·refine thn (h a s b H _ I hw) λv l ⟨x,j,c,i,o,f,q⟩=>?_;exact(x,_,c.yD (I.warm g) f,i,q,)
 .exact h a s b H Q I hw
def Ip(t:TS):TS:=λD σ H=>∃d kvs,H d<*(.dK kvs)/\t {D with nx:=λa H'=>∃o,H' d<*(.frz o (.dK kvs))/\D.nx a (upd H' d (.dK kvs))} σ H
def ps_thaw(h:PS X st ts):PS X st (Ip ts):=by
 intro g s i H D I a;obtain⟨d,l,e,a⟩:=a;refine cE (h g s i H _ I a) (λf m z=>?_) λ_ _ z=>z;cases f with
 |next =>obtain⟨j,k,b,o,c,q⟩:=z;exact(j,_,b.yD (I.warm e) c,q,)
 |_=>exact z
end
end L2
namespace L2
open Q
section
def kv_keys{kvs:List (Key×V)}{vs:List (Key×Value)}(r:KV kvs vs):vs.map (·.1)=kvs.map (·.1):=r.keys.symm
theorem Aq{k:Key}{v:V}:∀{l:List (Key×V)},(l.map (·.1)).Nodup->(k,v)∈l->qz l k<*v
 | [],_,h=>nomatch h
 |p::l,nd,h=>by
  rw[bw,eA]at nd;rcases aG.mp h with z|z;·rw[qx (by rw[<-z]),<-z]
  .rw[qy λy=>nd.1 (y▸cH (f:=(·.1)) z)];exact Aq nd.2 z
theorem E7{a:List (Key×V)}{c:List (Key×Value)}(d:KV a c)(nd:(a.map (·.1)).Nodup):∀{kvs:List (Key×V)}{b:List (Key×Value)},KV kvs b->(∀p∈kvs,p∈a/\∃i,p.2=V.int i)->PySem.W.KeqHits A s c b true
 |_,_,.nil,_=>.nil
 | (k,v)::kvs,(k',u)::b,.cons r t,h=>by
  obtain⟨e,o⟩:=r;cases e;obtain⟨g,i,j⟩:=h _ aw;cases j;obtain⟨q,rfl⟩:=o;have m:qz a k<*(.int i):=by exact Aq nd g
  have f:=d.val k;rw[m]at f;obtain⟨x,n,w,rfl⟩:=oz.some_of f;have :=PySem.W.KeqHits.hit n (Cf (A:=A) (s:=s) i q i w) (E7 d nd t λp l=>h p (aB _ l));simpa using this
end
def IS(K:ai):List V->Hp->VK->Prop:=λxs H Q=>∃p ks,xs=[V.ref p]/\SqL K H p (ks.map V.str)/\ks.length<1000/\ks.Nodup/\∀l,H l=none->Q (.ref l) (upd H l (.lst (mU ks)))
def DQ:fU X (.builtin "sorted") (IS X.K):=by
 intro x s A H z y Q I r h;obtain⟨p,a,rfl,k,v,nd,q⟩:=h;obtain⟨u,rfl,t⟩:=vals1 r;cases t;obtain⟨d,g,n,w⟩:=I.list k;have f:=Ei g;have l:d.length=a.length:=lU f;refine CV (lt:=qP a) (vs:=d) (by rw[l];exact rS nd) (AB f nd) n.isList (aR (by lia:d.length<=1000) 'E') (λi=>yq f i) ?_;obtain⟨c,j⟩:=sortedAll_at s.heap d (kr (qP a) d).toArray;have m:(mU a).length<=sizeLine:=by unfold mU sortBy;rw[ah,EO a nd];exact aR (by lia:a.length<=1000) 'E'
 exact(.ref (⇑s+1),_,I.laid (t':=s.toks) (λb o e=>sortedAll_old e) (dq _) (show cX X.prog X.w _ _ _ (.lst (mU a))from(m,_,c,A5 nd (by rw[ah]) g,j,)),rfl,q _ (I.hok.fresh (dq _)),)
end L2
namespace Q
open PySem.W L2
noncomputable abbrev Tri:=Int×Str×Str
abbrev t3(x y:Tri):Bool:=decide (x.1<y.1)||(decide (x.1=y.1)&&(tlt x.2.1 y.2.1||(decide (x.2.1=y.2.1)&&tlt x.2.2 y.2.2)))
end Q
namespace L2
section
variable {E:'I'}{s:Shared}
structure G4(P:Program)(w:World)(A:Around)(h:Heap)(v:Value):Prop where
 hash:∃n:Int,∀(s:Shared)(E:'I')(Q:Int->Shared->Prop),s.heap=h->(∀t,Q n {s with toks:=t})->wpAny (model P w) A (pyHash v) Q E s
 unlike:∀(x:Str)(t:Tok),fj (.str x)=true->∀(s:Shared)(E:'I')(Q:Bool->Shared->Prop),s.heap=h->Q false s->wpAny (model P w) A (eqBool v (.str x t)) Q E s
 quiet:∀(s:Shared)(E:'I')(Q:Bool->Shared->Prop),s.heap=h->Q true s->wpAny (model P w) A (eqIsQuiet 8 v) Q E s
 nots:∀x t,v≠.str x t
def Ki{Q:Int->Shared->Prop}(h:∀t,Q 4238894112 {s with toks:=t}):wpAny (model P w) A (pyHash .none) Q E s:=by have a:s.TypeIs .none "NoneType":=rfl;unfold pyHash pyHashByItsType;refine ae ?_;rw[cRoomFor,if_neg 'E'];refine ag ?_;refine ae (eI a kQ.lookup ?_);rw[if_neg (by rw[beq_builtin_none];exact be)];refine ae (eI a kQ.lookup ?_);rw[if_neg (by exact be)];refine ae (sM a kQ (cA kQ a F.entry_NoneType_hash ?_ (F.args_NoneType_hash_1 _)));show wpAny _ _ (do ret (<-mkInt 4238894112)) _ _ s;exact D7 (ag (h _))
def hash_bl{b:Bool}{Q:Int->Shared->Prop}(h:∀t,Q (if b then 1 else 0) {s with toks:=t}):wpAny (model P w) A (pyHash (.bool b)) Q E s:=by
 have a:s.TypeIs (.bool b) "bool":=rfl;unfold pyHash pyHashByItsType;refine ae ?_;rw[cRoomFor,if_neg (by cases b<;>decide)];refine ag ?_;refine ae (eI a pk.lookup ?_);rw[if_neg (by rw[beq_builtin_none];exact be)];refine ae (eI a pk.lookup ?_);rw[if_neg (by exact be)];refine ae (sM a pk (cA pk a entry_int_hash ?_ (args_int_hash _)));cases b;·show wpAny _ _ (do ret (<-mkInt 0)) _ _ s;exact D7 (ag (h _))
 .show wpAny _ _ (do ret (<-mkInt 1)) _ _ s;exact D7 (ag (h _))
def eqB{d:PyData}{a:List Addr}{t:Tok}{Q:Bool->Shared->Prop}(r:Reads s.heap v d a)(c:d.canLay0=true)(b:fj (.str x)=true)(u:A.units<cLine)(e:PyData.eqv d (.str x)=false)(h:Q false s):wpAny (model P w) A (eqBool v (.str x t)) Q E s:=
 PySem.SeqAt.eqBoolOverData P w A E s _ _ _ _ _ _ _ r (.str x t) c b (mG (Nat.add_le_add_left (iE _ _) _) u) (by rw[e];exact h)
def JE(a:A.units<cLine):G4 P w A h .none where
 hash:=(_,λs E Q _ q=>Ki q,)
 unlike:=λx t c s E Q _ q=>eqB .none rfl c a rfl q
 quiet:=λs E Q _ q=>by rw[zW 8 rfl];exact ag q
 nots:=λ_ _ z=>nomatch z
def oddK_bl{b:Bool}(a:A.units<cLine):G4 P w A h (.bool b) where
 hash:=(_,λs E Q _ q=>hash_bl q,)
 unlike:=λx t c s E Q _ q=>eqB (.bool b) rfl c a rfl q
 quiet:=λs E Q _ q=>by rw[zW 8 rfl];exact ag q
 nots:=λ_ _ z=>nomatch z
def JD(f:A.units<cLine)(k:fj (.str x)=true)(d:(gV (bH P w)).is h [.inr x] a):G4 P w A h (.ref a) where
 hash:=(_,λs E Q e q=>(gV (bH P w)).pyHash f (e▸d) (q _),)
 unlike:=λy t c s E Q e q=>by
  obtain⟨o,l,n,g,i,j,b⟩:=d;cases h5:l.toList with
  |nil=>rw[h5]at b;cases b
  |cons v vs=>
   rw[h5]at b;cases b with
   |cons h6 h7=>cases h7;rw[p9]at h6;obtain⟨t,rfl⟩:=kE h6;refine eqB (.tuple (e▸g) i j (by rw[h5];exact .cons (.str x t) .nil)) ?_ c f rfl q;show(fj (.str x)&&true)=true;rw[k];rfl
 quiet:=λs E Q e q=>(gV (bH P w)).quiet (e▸d) q
 nots:=λ_ _ z=>nomatch z
def wif{d:Type}{c:Prop}{i:Decidable c}{a b:Sem d}{M:Model}{Q:d->Shared->Prop}(e:¬c)(h:wpAny M A b Q E s):wpAny M A (@ite _ c i a b) Q E s:=by rw[if_neg e];exact h
def wit{d:Type}{c:Prop}{i:Decidable c}{a b:Sem d}{M:Model}{Q:d->Shared->Prop}(e:c)(h:wpAny M A a Q E s):wpAny M A (@ite _ c i a b) Q E s:=by rw[if_pos e];exact h
def F9{d:Addr}{k:Value}{o:Obj}{Q:Unit->Shared->Prop}(K:G4 P w A s.heap k)(c:s.heap.get? d<*o)(f:o.ExactDict)(b:o.data=.dict #[] ep)
  (h:∀h' t o' n,h'.get? d<*o'->o'.ExactDict->o'.data=.dict #[(n,k,v,)] (ep+1)->cR d s.heap h'->Q () {s with heap:=h',toks:=t}):wpAny (model P w) A (dictSet d k v) Q E s:=by
 obtain⟨n,g⟩:=K.hash;unfold dictSet;refine bq (ae (g s _ _ rfl λt=>?_));unfold dictSetHashed;refine bq (ae ?_);unfold dictFind;refine bq (ae (jT (s:={s with toks:=t}) c b ?_));have e:nJ (#[]:Array eV).size (λi=>yu (λx=>x.hash) (#[]:Array eV)[i]?) n=[]:=rfl;have fin:wpAny (model P w) A (do rule "dict.set.new-key-at-the-end";updateDictKeys d (λx=>x.push {hash:=n,key:=k,val:=v}) (keyPart k)) Q E {s with toks:=t}:=
  ae (dZ (wpAny_updateDictKeys (s:={s with toks:=t}) c b (h _ _ _ n (bG _ c (sR (kD b _))) (f.mapDictKeys _) (kD b _) (eM ..)) 'F' 'F'))
 have j:(∀x t,k≠.str x t)->True:=λ_=>trivial;cases k with
 |str x t=>exact absurd rfl (K.nots x t)
 |ref a=>dsimp only;rw[e];dsimp only[tZ];refine wif (by simp[uk]) (wif 'F' (wif 'F' (ae ?_)));unfold tableMayTell;refine wit rfl (ag (wif 'E' (ae ?_)));rw[dm];exact ag (ag fin)
 |_=>dsimp only;rw[e];dsimp only[tZ];refine wit rfl ?_;unfold KY;refine ae ?_;rw[dm];exact ag (ag fin)
def IW{d:Addr}{k:Value}{tk:Tok}{o:Obj}{n:Int}{Q:Unit->Shared->Prop}(c:fj (.str x)=true)(K:G4 P w A s.heap k)(b:s.heap.get? d<*o)(e:o.ExactDict)(a:o.data=.dict #[(n,k,v,)] ep)
  (h:∀h' t o' m,h'.get? d<*o'->o'.ExactDict->o'.data=.dict #[(n,k,v,),(m,.str x tk,u,)] (ep+1)->cR d s.heap h'->Q () {s with heap:=h',toks:=t}):wpAny (model P w) A (dictSet d (.str x tk) u) Q E s:=by
 unfold dictSet;refine bq (ae (wpAny_pyHash_str ?_));generalize hashStr w x=m;generalize s.toks+1=t;unfold dictSetHashed;refine bq (ae ?_);unfold dictFind;refine bq (ae (jT (s:={s with toks:=t}) b a ?_));have fin:wpAny (model P w) A (do rule "dict.set.new-key-at-the-end";updateDictKeys d (λy=>y.push {hash:=m,key:=.str x tk,val:=u}) (keyPart (.str x tk))) Q E {s with toks:=t}:=
  ae (dZ (wpAny_updateDictKeys (s:={s with toks:=t}) b a (h _ _ _ m (bG _ b (sR (kD a _))) (e.mapDictKeys _) (kD a _) (eM ..)) (by simp[gA]) 'F'))
 dsimp only;rw[if_neg (by cases k with
  |str x t=>exact absurd rfl (K.nots x t)
  |_=>simp[isExactStrKey])]
 by_cases hn:n=m
 .subst hn;rw[show nJ (#[((n,k,v,):eV)]).size (λi=>yu (λx=>x.hash) (#[((n,k,v,):eV)])[i]?) n=[0] by simp[nJ,kF]];rw[show List.filterMap (λi=>yu (λx=>x.key) (#[((n,k,v,):eV)])[i]?) [0]=[k]from rfl];by_cases hk:uk k=true;·refine wit (by show(true&&(uk k&&true))=true;rw[hk];rfl) ?_;unfold KY;refine ae ?_;rw[dO];refine ae ?_;dsimp only[pR,eZ];refine wit 'F' (ae (gT (s:={s with toks:=t}) b a (ae (K.unlike x tk c {s with toks:=t} _ _ rfl (ae (gT (s:={s with toks:=t}) b a ?_))))));refine wif 'F' (wif 'E' (ae (dZ (ag ?_))));dsimp only;rw[dm];exact ag (ag fin)
  .refine wif (by show ¬(true&&(uk k&&true))=true;simpa using hk) ?_;refine wif (by
    cases k with
    |str x t=>exact absurd rfl (K.nots x t)
    |_=>simp) (ae ?_)
   unfold tableMayTell;refine wif (λz=>nomatch z) (ae ?_);rw[zW 8 rfl];refine ag (wif 'E' (ae ?_));rw[dO];refine ae (ae (K.quiet {s with toks:=t} _ _ rfl (wif 'E' (ag ?_))));dsimp only;rw[dm];refine ag (ag (wif (λz=>nomatch z) (ae ?_)));rw[dO];refine ae ?_;dsimp only[pR,eZ];refine wit 'F' (ae (gT (s:={s with toks:=t}) b a (ae (K.unlike x tk c {s with toks:=t} _ _ rfl (ae (gT (s:={s with toks:=t}) b a ?_))))));refine wif 'F' (wif 'E' (ae (dZ (wif 'F' (ag ?_)))));dsimp only;rw[dm];exact ag (ag fin)
 .rw[show nJ (#[((n,k,v,):eV)]).size (λi=>yu (λx=>x.hash) (#[((n,k,v,):eV)])[i]?) m=[] by simp[nJ,kF,hn]];dsimp only[tZ];refine wit rfl ?_;unfold KY;refine ae ?_;rw[dm];exact ag (ag fin)
section
variable {it d:Addr}{o:Obj}{es:Array eV}{ok ov:Value}
def JI{Q:Option Value->Shared->Prop}(st:nO s.heap it d i es.size ep ok ov)(n:s.heap.get? d<*o)(m:o.data=.dict es ep)(hi:i<es.size)
  (q:∀h',IsItemIterOut h' it d (i+1) es.size ep es[i].key es[i].val ⇑s->h'.get? ⇑s<*{cls:=.type "tuple",data:=.seq #[es[i].key,es[i].val]}->
   (∀b o,b≠it->s.heap.get? b<*o->h'.get? b<*o)->Q (some (.ref ⇑s)) {s with heap:=h'}):wpAny (model P w) A (pyNext (.ref it)) Q E s:=by
 obtain⟨H,g,k,y,t⟩:=s;have ty:rK (H,g,k,y,t,) (.ref it) "dict_itemiterator":=(_,st,rfl,);have J:iT "dict_itemiterator"=true:=by decide
 unfold pyNext;refine ae (fq (fh (name:=cz "__next__") ty fe (cA fe ty Aa (ae (ag (ae (ae (ae (gj ty (ag (ae (G9 st rfl ?_))))))))) (yz _))));simp only[J,if_true];refine wif (λz=>nomatch z) (ae (ag (ae (jT n m (wif 'F' (ae (ag (ae (gT n m (wif 'F' (ag ?_)))))))))));simp only[show ¬((i:Int)<0) by lia,if_false,gN,cq hi];refine ae (ae (gj ty (ag (ae (rH ty ?_)))));show wpAny _ _ (lI (.ref it) 3 (rawInt ((i:Int)+1))>>=_) _ _ _;refine ae (bW st 'F' λc h j=>?_);have j:cR it H c:=j;have h:nO c it d (i+1) es.size ep ok ov:=by unfold nO;rw[show((i+1:Nat):Int)=(i:Int)+1 by lia];simpa[rawInt]using h
 have B:rK (c,g,k,y,t,) (.ref it) "dict_itemiterator":=(_,h,rfl,);refine ae (bq (ae (rH B (ae (rH B ?_)))));show wpAny _ _ (nE (.ref it) 6 es[i].key es[i].val) _ _ _;unfold nE;refine ae (G7 ?_);have f:nO (c.push {cls:=.type "tuple",data:=.seq #[es[i].key,es[i].val]}) it d (i+1) es.size ep ok ov:=af _ h;have lt:it≠H.objs.size:=aK (aD st);have C:c.objs.size=H.objs.size:=j.1;have v:(c.push {cls:=.type "tuple",data:=.seq #[es[i].key,es[i].val]}).get? H.objs.size<*{cls:=.type "tuple",data:=.seq #[es[i].key,es[i].val]}:=by rw[<-C];exact aF _ rfl
 have p:∀b o,b≠it->H.get? b<*o->(c.push {cls:=.type "tuple",data:=.seq #[es[i].key,es[i].val]}).get? b<*o:=λb o a e=>af _ (j.extBut b o a e);show wpAny _ _ (mH (.ref it)>>=_) _ _ _;rw[C];generalize c.push {cls:=.type "tuple",data:=.seq #[es[i].key,es[i].val]}=h2 at f v p⊢;unfold mH;refine ae (ae (eJ f rfl (x:=.none) rfl (ag ?_)));simp only[if_true];refine ae (eJ f rfl (x:=ok) rfl (ae (eJ f rfl (x:=ov) rfl (ae (bW f 'F' λO D K=>ae (bW D 'F' λR F L=>ae (bW F 'F' λS G M=>ae (bW G 'F' λl I N=>?_))))))));have r:∀b u,b≠it->h2.get? b<*u->l.get? b<*u:=λb u a e=>N.extBut b u a (M.extBut b u a (L.extBut b u a (K.extBut b u a e)));exact ae (wpAny_letGo (ag (ag (_,rfl,ag (q l I (r _ _ lt.symm v) λb u a e=>r b u a (p b u a e)),))))
def end_raw{Q:Option Value->Shared->Prop}(f:A.handled=none)(st:nO s.heap it d i es.size ep ok ov)(e:s.heap.get? d<*o)(c:o.data=.dict es ep)(hi:es.size<=i)(q:∀h',Heap.ExtBut it s.heap h'->Q none {s with heap:=h'}):
  wpAny (model P w) A (pyNext (.ref it)) Q E s:=by
 have ty:s.TypeIs (.ref it) "dict_itemiterator":=(_,st,rfl,);have g:iT "dict_itemiterator"=true:=by decide
 unfold pyNext;refine ae (fq (fh (name:=cz "__next__") ty fe (cA fe ty Aa (ae (ag (ae (ae (ae (gj ty (ag (ae (G9 st rfl ?_))))))))) (yz _))));simp only[g,if_true];refine wif (λz=>nomatch z) (ae (ag (ae (jT e c (wif 'F' (ae (ag (ae (gT e c (wif 'F' (ag ?_)))))))))));simp only[show ¬((i:Int)<0) by lia,if_false,gN,oE hi];refine ae (ae (gj ty (ag ?_)));show wpAny _ _ (lI (.ref it) 2 .none>>=_) _ _ s;refine ae (G6 st rfl 'F' ?_);show wpAny _ _ (newExc (.type "StopIteration") []>>=_) _ _ _;simp only[newExc,newTuple];refine ae (ae (ck (ae (m:=jX _ _) (uj (a:=cf) (by first |rfl| (simp only[jX];rfl)) (ck ?_ (by size_fits)))) (by size_fits)));simp only[zT];refine ae (KS ?_);rw[show A.in1.handled=none from f];refine ae (ag (wpAny_throw ?_));refine ae (kL (T:="StopIteration") (b:=true) (_,aF _ rfl,rfl,) Hb ?_);exact ag (q _ (((eM ..).extBut.push _).push _))
end
end
def Ents(o:Obj)(kvs:List (V×V)):Prop:=o.ExactDict/\kvs.length<=15/\∃es ep,o.data=.dict es ep/\Paired (λ(p:V×V)(e:eV)=>RelV p.1 e.key/\RelV p.2 e.val) kvs es.toList
abbrev vj:HO:=.ext λ_=>True
abbrev Ito(d:Addr)(o:Obj)(kvs:List (V×V)):It:=
 (λi H=>H d<*(.frz o vj)/\i<kvs.length,λi H x H'=>∃p k v,H p=none/\H'=upd H p (.tup [k,v])/\x=.ref p/\kvs[i]?<*(k,v),λi H=>H d<*(.frz o vj)/\kvs.length<=i,)
theorem Fg:∀{kvs:List (V×V)}{es:List eV},Paired (λ(p:V×V)(e:eV)=>RelV p.1 e.key/\RelV p.2 e.val) kvs es->∀{i:Nat}{k v:V}(h:i<es.length),kvs[i]?<*(k,v)->RelV k es[i].key/\RelV v es[i].val
 |_,_,.nil,_,_,_,h,_=>absurd h (i7 _)
 |_,_,.cons r _,0,_,_,_,e=>by cases e;exact r
 |_,_,.cons _ t,i+1,_,_,h,e=>Fg t (Nat.lt_of_succ_lt_succ h) e
def As{kk:Nat}{d:Addr}{o:Obj}{kvs:List (V×V)}{f:Array eV}(N:o.data=.dict f ep)(J:Paired (λ(p:V×V)(e:eV)=>RelV p.1 e.key/\RelV p.2 e.val) kvs f.toList):
  Turn P w K (.Tuple es' kk pp) (Ito d o kvs) [it] it (λi h=>∃ok ov,nO h it d i f.size ep ok ov) where
 mem:=by simp
 obj:=λi h a b j=>by
  have e:b=it:=by simpa using j
  subst e;obtain⟨ok,ov,e⟩:=a;exact⟨_,e,λv z=>by cases z⟩
 keep:=λi h l a k=>let⟨ok,ov,e⟩:=a;⟨ok,ov,k it 'F' _ e⟩
 item:=by
  intro X B F A g i G s L H E I m a C;subst B F A;obtain⟨y,O⟩:=C;obtain⟨D,_⟩:=(show s.heap.get? d<*o/\cX X.prog X.w H s.heap d vj from I.hok d _ y);obtain⟨⟨k,v⟩,R⟩:∃p,kvs[i]?<*p:=⟨kvs[i],by simp[O]⟩;have Z:f.size=kvs.length:=by rw[fg J];simp
  have Q:i<f.size:=by lia
  obtain⟨rk,rv⟩:=Fg J (i:=i) ↥Q R;obtain⟨n,r,W,t,u,x⟩:=m it 'F';obtain⟨ok,ov,a⟩:=a;refine JI a D N Q λl a1 ht kp=>?_;have hp:H ⇑s=none:=I.hok.fresh (aE _);have S:Inv X G L (upd H ⇑s (.tup [k,v])) {s with heap:=l}:=
   I.newL (t':=s.toks) (ch:=[it]) (λc o g q=>kp c o (λz=>g (by simp[z])) q) m (by show 2<=sizeLine;decide,[f[i].key,f[i].val],.cons ↥rk (.cons ↥rv .nil),(_,ht,rfl,_,rfl,),)
  have M:(upd H ⇑s (.tup [k,v])) it=none:=by rw[aQ (aK (aD a))];exact n
  refine(_,rfl,Fs (s:={s with heap:=l}) a1 λY a2 a0=>?_,);have T:Inv X G L (upd H ⇑s (.tup [k,v])) {s with heap:=Y}:=S.turned (t':=s.toks) (λc o j q=>a0.extBut c o j q) M r t u x;exact⟨.ref ⇑s,_,T,rfl,(_,k,v,hp,rfl,rfl,R,),(_,_,a2,),λc g=>by
   have e:c=it:=by simpa using g
   rw[e];exact M⟩
 done:=by
  intro X B F A g i G s L H E I m a C;subst B F A;obtain⟨y,O⟩:=C;obtain⟨D,_⟩:=(show s.heap.get? d<*o/\cX X.prog X.w H s.heap d vj from I.hok d _ y);obtain⟨n,r,W,t,u,x⟩:=m it 'F';obtain⟨ok,ov,a⟩:=a;have Z:f.size=kvs.length:=by rw[fg J];simp
  exact end_raw (I.ok.hd g) a D N 'D' λl U=>(rfl,I.turned (t':=s.toks) (λb o j e=>U b o j e) n r t u x,)
 self:=λ_ _ _ _ _ a h=>let⟨_,_,e⟩:=a;K2 e h
section
variable {es:List Expr}{kk:Nat}{apos:Pos}
def zu(tl:TE):TI:=λσ H R=>tl σ H λx H1=>(∃d kvs,x=.ref d/\Frz H1 d kvs λo H2=>R (Iti d o kvs) H2)\/∃d o kvs,x=.ref d/\(d==dA)=false/\H1 d<*(.frz o vj)/\Ents o kvs/\R (Ito d o kvs) H1
def tz(d:Addr)(lo:(d==dA)=false):MeetsIn P w (Builtin.«dict.items» ([.ref d],[],)) (λ_ R s=>s.TypeIs (.ref d) "dict"/\R (.ok (.ret (.ref ⇑s))) {s with heap:=s.heap.push {cls:=.type "dict_items",data:=.fields #[.ref d]}}):=
 .of_wp λA R s ⟨ty,h⟩=>by unfold Builtin.«dict.items» Builtin.Dict.noArgs;refine ae (ae (wpAny_notOrdered_dict ty ?_));show wpAny _ _ (pure d) _ _ s;refine ag ?_;show wpAny _ _ (xv d>>=_) _ _ s;unfold xv;refine ae (wif (by rw[lo];exact be) (ag (ae (ck (ag (_,rfl,h,))))))
def J3{v d:Addr}{o:Obj}{a:Array eV}{Q:'I'}(b:s.heap.IsItemsView v d)(e:s.heap.get? d<*o)(c:o.data=.dict a ep)(hz:a.size<=15)
  (h:Q (.ref ⇑s) {s with heap:=s.heap.push {cls:=.type "dict_itemiterator",data:=.fields #[.none,.bool false,.ref d,.int 0 0,.int a.size 0,.int ep 0,.none,.none]}}):wpAny (model P w) A (pyIter (.ref v)) Q E s:=by
 obtain⟨k,f,j,g⟩:=id b;have i:iT "dict_itemiterator"=true:=by decide
 refine zR b.typeIs K8 (cA K8 b.typeIs F.entry_dict_items_iter ?_ (F.args_dict_items_iter_1 _));unfold Builtin.«dict_items.__iter__» Builtin.Dict_items.dictOf Builtin.Dict_items.newIterator;refine ae (ag (ae (ae (eJ f g (x:=.ref d) rfl (ag (ae (ae (jT e c (ae (gT e c ?_))))))))));simp only[i,if_true];refine ck (ag (_,rfl,"dict_itemiterator",_,(_,aF _ rfl,rfl,),fe.lookup,?_,)) (by simp only[sizeOk,mI,aI,aq,aZ,eB,gA];lia);simpa[rawInt,mI]using h
def Ge{b:Expr}{tl:TE}(z:PE X b tl)(E:kZ b "items" X.env (eval b X.env)=eval b X.env)(F:(apos.endLine==au.line)=true):PI X (.Tuple es kk pp) (.Call (.Attribute b "items" apos) [] [] au) (zu tl):=by
 intro p s t H R I h;refine wpAny_Call_method0_late E F (thn (z p s t H _ I h) λv a ⟨x,j,k,B,K⟩=>?_);rcases K with⟨d,J,rfl,q⟩ |⟨d,o,J,rfl,n,l,⟨y,z,es,C,f,A⟩,q⟩
 .cases B;obtain⟨o,es,C,u,w,l,f,D⟩:=k.E8 q;obtain⟨i,n,L,r,g⟩:=w.frozen l f;refine("dict","dict.items",mT,iR,Ae,g.dictOf.typeIs,g.dictOf.mapOf.noDict,gc rfl (rL ?_),);refine zX iR g.dictOf.typeIs z7 (yt _) (tz d n) (g.dictOf.typeIs,?_,);refine wpAny_pyIter_items (s:={a with heap:=a.heap.push {cls:=.type "dict_items",data:=.fields #[.ref d]}}) (v:=⇑a) (_,aF _ rfl,rfl,rfl,) (g.push _) ?_;have c:Inv X p t u {a with heap:=a.heap.push {cls:=.type "dict_items",data:=.fields #[.ref d]}}:=w.kept (t':=a.toks) λb o e=>af _ e;refine(_,[_],_,_,u,rfl,c.kept (t':=a.toks) λb o e=>af _ e,CC f,(.none,.none,?_,),λb m=>?_,D,);·rw[r.length];exact aF _ rfl
  have e:b=(a.heap.push {cls:=.type "dict_items",data:=.fields #[.ref d]}).objs.size:=by simpa using m
  subst e;exact c.sk (aE _) (c.hok.fresh (aE _))
 .cases B;obtain⟨i,_⟩:=(show a.heap.get? d<*o/\cX X.prog X.w j a.heap d vj from k.hok d _ l);have ty:a.TypeIs (.ref d) "dict":=(o,i,y.1,);have G:es.size<=15:=by
   have :=fg A;have e:es.toList.length=es.size:=by simp
   lia
  refine("dict","dict.items",mT,iR,Ae,ty,(λb e=>by injection e with e;subst e;exact(o,i,y.2.1,)),gc rfl (rL ?_),);refine zX iR ty z7 (yt _) (tz d n) (ty,?_,);refine J3 (s:={a with heap:=a.heap.push {cls:=.type "dict_items",data:=.fields #[.ref d]}}) (v:=⇑a) (_,aF _ rfl,rfl,rfl,) (af _ i) f G ?_;have c:Inv X p t j {a with heap:=a.heap.push {cls:=.type "dict_items",data:=.fields #[.ref d]}}:=k.kept (t':=a.toks) λb o e=>af _ e;refine(_,[_],_,_,j,rfl,c.kept (t':=a.toks) λb o e=>af _ e,As f A,(.none,.none,aF _ rfl,),λb m=>?_,q,);have e:b=(a.heap.push {cls:=.type "dict_items",data:=.fields #[.ref d]}).objs.size:=by simpa using m
  subst e;exact c.sk (aE _) (c.hok.fresh (aE _))
def tOdd(tk tx:TE):TE:=λσ H Q=>∀p,H p=none->tk σ (upd H p (.dK [])) λy H1=>tx σ H1 λx H2=>H2 p<*(.dK [])/\∃z:Str,x=.str z/\fj (.str z)=true/\((∃k:Key,y=kV k/\Q (.ref p) (upd H2 p (.dK (jh [] [(k,.int 1),(.inr z,.int 0)]))))\/
 (y=.non\/(∃b,y=.bl b)\/∃a,y=.ref a/\H2 a<*(.tup [.str z]))/\∀o,Ents o [(y,.int 1),(x,.int 0)]->(p==dA)=false->Q (.ref p) (upd H2 p (.frz o vj)))
def pe_odd{k x n m:Expr}{tk W:TE}(D:X.A.units<cLine)(hk:PE X k tk)(hx:PE X x W)(B:PE X n (tC (.int 1)))(h0:PE X m (tC (.int 0))):PE X (.Dict [some k,some x] [n,m] pos) (tOdd tk W):=by
 intro d s e a3 a6 I q;have hn:=I.hok.fresh (aE ⇑s);have Z:=I.laid (a:=⇑s) (o:=.dK []) (h':=s.heap.push {cls:=.type "dict",data:=.dict #[]}) (t':=s.toks) (λ_ _ q=>af _ q) (aE _) (vQ s.heap I.big);refine wpAny_Dict_any rfl rfl 'F' 'F' (wu (thn (hk d _ e _ _ Z (q _ hn)) λu s1 ⟨a7,y,I2,l,q1⟩=>thn (B d s1 e y (λv w=>v=.int 1/\w=y) I2 (rfl,rfl,)) λY s2 ⟨v1,a4,I3,U,n,P⟩=>wu (thn (hx d s2 e y _ (P▸I3) q1) λL s3 ⟨x',M,I4,J,q2⟩=>thn (h0 d s3 e M (λv w=>v=.int 0/\w=M) I4 (rfl,rfl,)) λr s4 ⟨v0,a5,f,T,m,a0⟩=>pairTrees_nil_walk ?_)));subst n P m a0;obtain⟨p,z,rfl,S,⟨k,rfl,G⟩ |⟨hy,G⟩⟩:=q2;·obtain⟨_,E,a2,H,dd⟩:=vP f.hok p;cases H;show wpAny _ _ (storeAll _ [(u,Y),(L,r)]) _ _ s4;unfold storeAll;rw[dO];refine ae (ae (wt (hsz:=by simp) (og l) dd λC d5 c=>ag ?_));show wpAny _ _ (forIn [(L,r)] _ _) _ _ _;rw[dO];refine ae (ae (wt (s:={s4 with heap:=C,toks:=s4.toks+1}) (hsz:=by simp[stored,gA]) (og (k:=.inr z) J) d5 λi O g=>ag ?_));show wpAny _ _ (forIn [] _ _) _ _ _;rw[dm];refine ag (.ref ⇑s,_,?_,rfl,G,);have K:cR ⇑s s4.heap i:=(g.1.trans c.1,λb j=>(g.2 b j).trans (c.2 b j),);show Inv X d e _ {s4 with heap:=i,toks:=_};refine qW f (by rw[p];exact True.intro) K (let⟨q,_,_,hq,_⟩:=O;(q,hq,)) (DD ?_ E (((KV.put .nil k U).put (.inr z) T)) O);have B:=lj [(k,V.int 1),(.inr z,V.int 0)] [];rw[gA];exact aR B (by show 2<=16777216;decide)
 obtain⟨tk,rfl⟩:=(show ∃t,L=k8 z t from J);obtain⟨_,E,a2,H,o,es,ep,R,hc,Q,_,a1,_⟩:=vP f.hok p;cases H;have he:es= #[]:=by
  have :=a1.length;apply Array.eq_empty_of_size_eq_zero
  simpa using this
 subst he;have N:∀h,(∀a,(gV (bH X.prog X.w)).is s4.heap [.inr z] a->(gV (bH X.prog X.w)).is h [.inr z] a)->G4 X.prog X.w X.A h u:=λh kp=>by
  rcases hy with rfl|⟨b,rfl⟩ |⟨a,rfl,ha⟩;·cases(show u=cf from l);exact JE D
  .cases(show u=sN b from l);exact oddK_bl D
  .cases(show u=bo a from l);exact JD D S (kp a (sh (ks:=[.inr z]) f.hok ha))
 show wpAny _ _ (storeAll _ [(u,Y),(k8 z tk,r)]) _ _ s4;unfold storeAll;rw[dO];refine ae (ae (F9 (N _ λ_ z=>z) R hc Q λC t5 o5 n5 g1 g2 g3 c=>ag ?_));show wpAny _ _ (forIn [(k8 z tk,r)] _ _) _ _ _;rw[dO];refine ae (ae (IW (s:={s4 with heap:=C,toks:=t5}) S (N _ λ_ z=>(gV (bH X.prog X.w)).keeps z R Q c) g1 g2 g3 λi t6 F n6 A f2 f3 g=>ag ?_));show wpAny _ _ (forIn [] _ _) _ _ _;rw[dm];refine ag (.ref ⇑s,_,?_,rfl,G F (f2,by show 2<=15;decide,_,_,f3,.cons (l,U,) (.cons (J,T,) .nil),) E,);have K:cR ⇑s s4.heap i:=(g.1.trans c.1,λb j=>(g.2 b j).trans (c.2 b j),);show Inv X d e _ {s4 with heap:=i,toks:=t6};exact qW f (by rw[p];exact True.intro) K (F,A,) (A,trivial,(F,A,),λ_ _ _ _=>trivial,)
def TyU(K:ai)(H:Hp)(x:V)(t:Value):Prop:=nH K H x t\/∃a o kvs,x=.ref a/\H a<*(.frz o vj)/\Ents o kvs/\t=.type "dict"
def qX:fU X (.builtin "isinstance") (λxs H Q=>∃x T t b,xs=[x,.ty T]/\TyU X.K H x t/\bK X.K t (.type T)<*b/\Q (.bl b) H):=by
 intro i s n H xs m Q I rv h;obtain⟨x,T,t,b,rfl,ty|⟨a,o,p,rfl,f,d,rfl⟩,e,q⟩:=h;·exact BP i s n H _ m Q I rv (x,T,t,b,rfl,ty,e,q,)
 .obtain⟨u,c,rfl,k,j⟩:=rv.two;cases j;cases k;obtain⟨g,_⟩:=(show s.heap.get? a<*o/\cX X.prog X.w H s.heap a vj from I.hok a _ f);exact dg sQ I.kIn (o,g,d.1.1,) e (λz=>nomatch z) λl=>(.bl b,H,I.tok l,rfl,q,)
end
section
variable {E:'I'}{s:Shared}
def Ko{p:Addr}{a b d:Value}{Q:'I'}(C:s.heap.IsTuple p #[a,b])(F:s.heap.IsTuple q #[c,d])(G:A.units<cLine)
  (v:∀E (Q:Bool->Shared->Prop),Q true s->wpAny (model P w) A.in1 (eqBool a c) Q E s)(B:∀E (Q:Bool->Shared->Prop),Q true s->wpAny (model P w) A.in1 (eqBool b d) Q E s)(h:Q (.bool true) s):
  wpAny (model P w) A (dc .Eq (.ref p) (.ref q)) Q E s:=by
 obtain⟨⟨J,N,L,U⟩,i,k,n,m⟩:=id C;obtain⟨⟨K,O,M,V⟩,r,l,S,o⟩:=id F;simp only at k m l o;subst k m l o;refine wpAny_richCompare_same_room (op:=.Eq) (T:="tuple") (_,i,rfl,) (_,r,rfl,) Cj (cA Cj (_,i,rfl,) PySem.F.entry_tuple_eq ?_ (PySem.F.args_tuple_eq_2 _ _)) G;obtain⟨D,g,u,I,H⟩:=s;have R:=AutoSeq1.sub_tuple_tuple
 wp_walk using D9 i,D9 r,wpAny_forIn_list _ (λf z j=>z.1=none/\j=(D,g,u,I,H,)/\(f=[(a,c),(b,d)]\/f=[(b,d)]\/f=[])) _
 case turn=>
  rintro⟨y,x⟩ f z j ⟨t,rfl,e|e|e⟩
  .cases e;refine ae (v _ _ ?_)
   wp_walk
   exact(rfl,rfl,.inr (.inl rfl),)
  .cases e;refine ae (B _ _ ?_)
   wp_walk
   exact(rfl,rfl,.inr (.inr rfl),)
  .cases e
 case h.h.h.hq.hq.fin=>
  rintro⟨z,_⟩ j ⟨t,rfl,_⟩;cases t
  wp_walk
  exact(_,rfl,(λx=>nomatch x),h,)
 exact(rfl,rfl,.inl rfl,)
end
section
def rEqF:R2:=λx y H Q=>∃p q d e l m kvs,x=.ref p/\y=.ref q/\H p<*(.tup [.ref d,.ref l])/\H q<*(.tup [.ref e,.ref m])/\H d<*(.dK kvs)/\H e<*(.dK kvs)/\(∀u∈kvs,∃i,u.2=V.int i)/\H l<*(.lst [])/\H m<*(.lst [])/\d≠e/\l≠m/\Q (.bl true) H
def JA(hu:X.A.units+2<cLine):OpR X (dc .Eq) rEqF:=by
 intro a5 s σ H a9 b0 a7 a6 Q I R S h;obtain⟨p,q,d,e,l,m,D,rfl,rfl,c,B,i,j,w,x,y,J,K,u⟩:=h;cases R;cases S;obtain⟨_,a1,r,A⟩:=(show cX X.prog X.w H s.heap p (.tup [.ref d,.ref l])from I.hok p _ c);obtain⟨_,a2,L,C⟩:=(show cX X.prog X.w H s.heap q (.tup [.ref e,.ref m])from I.hok q _ B);obtain⟨a,b,rfl,M,O⟩:=r.two;obtain⟨V,W,rfl,N,P⟩:=L.two;cases M;cases O;cases N;cases P;obtain⟨_,F,vs,rv,g⟩:=vP I.hok i;obtain⟨_,G,a8,k,n⟩:=vP I.hok j;have nd:(D.map (·.1)).Nodup:=by obtain⟨a4,es,ep,ho,hc,i,j,a0,z⟩:=g;rw[<-kv_keys rv];exact z
 obtain⟨_,i1,Y,T,o⟩:=(show cX X.prog X.w H s.heap l (.lst [])from I.hok l _ x);obtain⟨_,i2,Z,U,t⟩:=(show cX X.prog X.w H s.heap m (.lst [])from I.hok m _ y);cases T;cases U;refine Ko A C 'D' (λE Q f=>?_) (λE Q f=>?_) (so I u rfl);·unfold eqBool;refine bq (jq (λv=>absurd (by have :=eq_of_beq v;injection this) J) λ_=>?_);refine ae (PySem.W.keq_eq (r:=true) F G g n (by show X.A.units+1<cLine;lia) (λ_=>E7 k nd rv λp c=>(c,w p c,)) ?_);rw[<-rv.length,<-k.length,beq_self_eq_true];exact dk f
 .exact SeqAt.EqAt.of_refs K (SeqAt.RcAt.lists (e:=λ_=>true) (items:= #[]) (items2:= #[]) (_,o,rfl,_,rfl,) (_,t,rfl,_,rfl,) rfl (by show X.A.units+1<cLine;lia) λa3 h=>nomatch h) _ _ E Q f
end
end L2
set_option genInjectivity false
set_option genSizeOf false
namespace R
open L2
inductive Bf where
 |len|isinstance|all|list|tuple|min|max|int|isx|lenk|listk|dictl|sorta
 deriving DecidableEq
abbrev Bf.name:Bf->Str
 |.len=>"len" |.isinstance=>"isinstance" |.all=>"all" |.list=>"list" |.tuple=>"tuple" |.min=>"min" |.max=>"max" |.int=>"int" |.isx=>"isinstance" |.lenk=>"len" |.listk=>"list" |.dictl=>"dict" |.sorta=>"sorted"
abbrev Bf.val:Bf->Value
 |.len=>.builtin "len" |.isinstance=>.builtin "isinstance" |.all=>.builtin "all" |.list=>.type "list" |.tuple=>.type "tuple" |.min=>.builtin "min" |.max=>.builtin "max" |.int=>.type "int" |.isx=>.builtin "isinstance" |.lenk=>.builtin "len" |.listk=>.type "list" |.dictl=>.type "dict" |.sorta=>.builtin "sorted"
def Bf.boot:∀b:Bf,eY b.name<*b.val
 |.len=>PySem.boot_len|.isinstance=>boot_isinstance|.all=>boot_all|.list=>fB|.tuple=>wB
 |.min=>by decide+kernel|.max=>by decide+kernel|.int=>xo|.isx=>boot_isinstance|.lenk=>PySem.boot_len|.listk=>fB|.dictl=>wH|.sorta=>by decide+kernel
def Bf.plain:∀b:Bf,b.name≠"__name__"/\(b.name==("__debug__":Str))=false:=by intro b;cases b<;>exact(by decide+kernel,by decide+kernel,)
inductive Ty where
 |int|bool|str|list|tuple|dict|valueError
 deriving DecidableEq
abbrev Ty.name:Ty->Str
 |.int=>"int" |.bool=>"bool" |.str=>"str" |.list=>"list" |.tuple=>"tuple" |.dict=>"dict" |.valueError=>"ValueError"
abbrev Ty.t:Ty->String
 |.int=>"int" |.bool=>"bool" |.str=>"str" |.list=>"list" |.tuple=>"tuple" |.dict=>"dict" |.valueError=>"ValueError"
def Ty.boot:∀b:Ty,eY b.name<*(.type b.t)
 |.int=>xo|.bool=>PyProof.Rows.boot_bool|.str=>PyProof.Rows.boot_str|.list=>fB|.tuple=>wB|.dict=>wH|.valueError=>by decide+kernel
def Ty.plain:∀b:Ty,b.name≠"__name__"/\(b.name==("__debug__":Str))=false:=by intro b;cases b<;>exact(by decide+kernel,by decide+kernel,)
abbrev t9(K:ai):Operator->R2
 |.Add=>λx y H Q=>(rI0 λi j=>.int (i+j)) x y H Q\/(∃i j,x=.str i/\y=.str j/\i.length+j.length<=sizeLine/\Q (.str (i++j)) H)\/rCat x y H Q\/False
 |.Sub=>rI0 λi j=>.int (i-j)
 |.Mult=>λx y H Q=>(rI D6 λi j=>.int (i*j)) x y H Q\/rRep x y H Q\/IT x y H Q
 |.Mod=>rI (λ_ j=>0<j) λi j=>.int (i%j)
 |.FloorDiv=>rI CDiv λi j=>.int (i/j)
 |.Pow=>rI KQ λi j=>.int (i^j.toNat)
 |.RShift=>rI (λ_ j=>0<=j) λi j=>.int (i/2^j.toNat)
 |.LShift=>rI KQ λi j=>.int (i*2^j.toNat)
 |.BitAnd=>rI0 λi j=>.int (Builtin.bitAnd i j)
 |.BitXor=>rI0 λi j=>.int (Builtin.bitXor i j)
 |_=>λ_ _ _ _=>False
abbrev jg(K:ai):CmpOp->R2
 |.Eq=>rEqD K
 |.NotEq=>rNeD K
 |.Lt=>rI0 λi j=>.bl (decide (i<j))
 |.LtE=>rI0 λi j=>.bl (decide (i<=j))
 |.Gt=>rI0 λi j=>.bl (decide (j<i))
 |.GtE=>rI0 λi j=>.bl (decide (j<=i))
 |.Is=>λx y H Q=>y=.non/\Q (.bl (decide (x=.non))) H
 |.IsNot=>λx y H Q=>y=.non/\Q (.bl (!decide (x=.non))) H
 |.In=>λx y H Q=>((∃i j,x=.str i/\y=.str j/\Q (.bl (!(iA j i 0 j.length 1).isEmpty)) H))\/rIn K false x y H Q
 |.NotIn=>λx y H Q=>((∃i j,x=.str i/\y=.str j/\Q (.bl (!(!(iA j i 0 j.length 1).isEmpty))) H))\/rIn K true x y H Q
abbrev rUn(K:ai):UnaryOp->V->Hp->VK->Prop
 |.USub=>rU λi=>.int (-i)
 |_=>λ_ _ _=>False
def rSlc(K:ai):V->Option Int->Option Int->Hp->VK->Prop:=λx lo hi H Q=>rSlL K x lo hi H Q\/rSlS x lo hi H Q
abbrev rBf(K:ai):Bf->List V->Hp->VK->Prop
 |.len=>λxs H Q=>(∃p ys,xs=[.ref p]/\(SqL K H p ys\/SqT K H p ys)/\Q (.int ys.length) H)\/(∃z:Str,xs=[.str z]/\z.length<=sizeLine/\Q (.int z.length) H)
 |.isinstance=>λxs H Q=>(∃x T t b,xs=[x,.ty T]/\TyU K H x t/\bK K t (.type T)<*b/\Q (.bl b) H)\/(∃x C t b,xs=[x,.ref C]/\nH K H x t/\bK K t (.ref C)<*b/\Q (.bl b) H)
 |.all=>λxs H Q=>∃(p:Addr)(bs:List Bool),xs=[.ref p]/\SqL K H p (bs.map V.bl)/\Q (.bl (bs.all id)) H
 |.list=>λxs H Q=>∃p ys,xs=[.ref p]/\(SqL K H p ys\/SqT K H p ys)/\∀l,H l=none->Q (.ref l) (upd H l (.lst ys))
 |.tuple=>λxs H Q=>∃p ys,xs=[.ref p]/\((SqL K H p ys/\∀l,H l=none->Q (.ref l) (upd H l (.tup ys)))\/(SqT K H p ys/\Q (.ref p) H))
 |.min=>λxs H Q=>∃i j,xs=[.int i,.int j]/\Q (.int (if j<i then j else i)) H
 |.max=>λxs H Q=>∃i j,xs=[.int i,.int j]/\Q (.int (if j>i then j else i)) H
 |.int=>λxs H Q=>(∃i,xs=[.int i]/\Q (.int i) H)\/∃k,xs=[.bl k]/\Q (.int (if k then 1 else 0)) H
 |.lenk=>λxs H Q=>∃a kvs,xs=[V.ref a]/\Rd H a (.dK kvs)/\Q (.int kvs.length) H
 |.listk=>λxs H Q=>∃a kvs,xs=[V.ref a]/\Rd H a (.dK kvs)/\∀l,H l=none->Q (.ref l) (upd H l (.lst (kvs.map λc=>kV c.1)))
 |.dictl=>λxs H Q=>∃a ys kvs,xs=[V.ref a]/\H a<*(.lst ys)/\Paired (λy (c:Key×V)=>∃p,y=V.ref p/\H p<*(.tup [kV c.1,c.2])) ys kvs/\(kvs.map (·.1)).Nodup/\∀l,H l=none->Q (.ref l) (upd H l (.dK kvs))
 |.sorta=>IS K
 |.isx=>λxs H Q=>∃a C d y cv b,xs=[.ref a,y]/\H a<*(tG a (.ref C) d)/\(∀dd,d<*dd->∃fs,H dd<*(xdO dd fs))/\mW K C=true/\((∃T,y=.ty T/\cv=dD T)\/(∃D,y=.ref D/\cv=bo D))/\bK K (.ref C) cv<*b/\Q (.bl b) H
inductive Mm where
 |append|clear|reverse|pop|index|extend
 deriving DecidableEq
abbrev Mm.name:Mm->Str
 |.append=>"append" |.clear=>"clear" |.reverse=>"reverse" |.pop=>"pop" |.index=>"index" |.extend=>"extend"
abbrev Mm.id:Mm->String
 |.append=>"list.append" |.clear=>"list.clear" |.reverse=>"list.reverse" |.pop=>"list.pop" |.index=>"list.index" |.extend=>"list.extend"
abbrev rMm:Mm->V->List V->Hp->VK->Prop
 |.append=>EC
 |.clear=>λ_ _ _ _=>False
 |.reverse=>λ_ _ _ _=>False
 |.pop=>λx xs H Q=>rPop x xs H Q\/IU x xs H Q
 |.index=>λ_ _ _ _=>False
 |.extend=>EA
abbrev baseOk:Expr->Bool
 |.Name .. =>true|.Subscript .. =>true
 |.Call f _ _ _=>match f with
  |.Attribute .. =>true
  |_=>false
 |_=>false
inductive X2 where
 |idxk|nink|getk|odd|eqF
 deriving DecidableEq
abbrev X2.t(K:ai):X2->TE->TE->TE
 |.idxk=>HR
 |.nink=>uu
 |.getk=>CD
 |.odd=>tOdd
 |.eqF=>tOp rEqF
abbrev X2.tt(K:ai):X2->TE->TE->TT
 |.nink=>λa b=>qB (uu a b)
 |.eqF=>λa b=>qB (tOp rEqF a b)
 |_=>λ_ _ _ _ _=>False
mutual
inductive CE where
 |var (i:Nat)
 |con (c:Const)
 |glo (x:Str)
 |ty (t:Ty)
 |bin (op:Operator) (a b:CE)
 |un (op:UnaryOp) (a:CE)
 |cmp (op:CmpOp) (a b:CE)
 |chain (op op':CmpOp) (a b c:CE)
 |not (a:CE)
 |and (a b:CE)
 |or (a b:CE)
 |ite (c a b:CE)
 |idx (a i:CE)
 |cut (a:CE) (lo hi:CO)
 |tup (es:CL)
 |lst (es:CL)
 |dic (ps:CP)
 |call (f:Str) (es:CL)
 |bfn (b:Bf) (es:CL)
 |meth0 (m:Mm) (o:CE)
 |meth1 (m:Mm) (o a:CE)
 |base (x:Str) (es:CL)
 |fld (a:CE) (f:Str)
 |lzip (a b:CE)
 |sset (a:CE)
 |lrev (a:CE)
 |x2 (k:X2) (a b:CE)
 |yD (a:CE)
 |comp (own:List Str) (fr:List Nat) (tg:CG) (it:CI) (cond:CO) (elt:CE)
inductive CL where
 |nil
 |cons (e:CE) (es:CL)
inductive CP where
 |nil
 |cons (k v:CE) (r:CP)
inductive CO where
 |no
 |yes (e:CE)
inductive CG where
 |name (i:Nat)
 |tup (gs:CGs)
inductive CGs where
 |nil
 |cons (g:CG) (gs:CGs)
inductive CI where
 |seq (e:CE)
 |lseq (e:CE)
 |range1 (e:CE)
 |range2 (a b:CE)
 |zip (a b:CE)
 |dkeys (e:CE)
 |ditems (e:CE)
 |lrevd (e:CE)
end
abbrev CL.len:CL->Nat
 |.nil=>0
 |.cons _ r=>r.len+1
abbrev CGs.len:CGs->Nat
 |.nil=>0
 |.cons _ r=>r.len+1
mutual
inductive CS where
 |asg (g:CG) (e:CE)
 |asgc (i:Nat) (e:CE)
 |expr (e:CE)
 |iff (c:CE) (a b:CB)
 |whl (c:CE) (b:CB)
 |forr (g:CG) (it:CI) (b:CB)
 |ret (e:CE)
 |retN
 |pass|brk|cont
 |rais (x:Str) (es:CL)
 |raisX (x:Str) (es:CL)
 |fldX (o:CE) (f:Str) (e:CE)
 |putk (o i e:CE)
 |thawS (s:CS)
 |tryc (x:Str) (i:Nat) (b su:CB)
inductive CB where
 |nil
 |hole
 |cons (s:CS) (r:CB)
end
abbrev Bu(sc:Scope)(x:Str):Bool:=sc.names.lookup x==some .local||sc.names.lookup x==some .cell||sc.names.lookup x==some .free
abbrev kJ(sc:Scope)(x:Str):Bool:=sc.names.lookup x==some .globalImplicit
abbrev qI(x:Str):Bool:=(x==("__debug__":Str))==false&&(x==("__classdict__":Str))==false
abbrev okCon:Const->Bool
 |.none=>true|.bool _=>true|.int _=>true|.str _=>true|_=>false
abbrev cv:Const->V
 |.none=>.non|.bool b=>.bl b|.int i=>.int i|.str x=>.str x|_=>.non
abbrev namesOf(N own:List Str)(a:List Nat):List Str:=own++a.map λj=>N.getD j ""
abbrev mJ(own:List Str)(a:List Nat)(σ:L2.St):L2.St:=own.map (λ_=>none)++a.map λj=>(σ[j]?).getD none
abbrev uG:Expr->Bool
 |.Slice .. =>true
 |_=>false
abbrev isSet:Expr->Bool
 |.Set .. =>true
 |_=>false
abbrev qe:Expr->Bool
 |.ListComp .. =>true|.SetComp .. =>true|.DictComp .. =>true
 |_=>false
abbrev qd:Expr->Bool
 |.Tuple .. =>true
 |_=>false
abbrev zh(sc sc':Scope)(N own:List Str)(a:List Nat):Bool:=
 decide (sc'.kind=.function)&&sc'.names.all (λy=>decide (y.2=.cell->sc'.names.lookup y.1<*.cell))&&sc'.names.all (λy=>decide (y.2=.local->sc'.names.lookup y.1<*.local))&&
 sc'.names.all (λy=>decide (y.2=.free->sc.names.lookup y.1<*.cell\/sc.names.lookup y.1<*.free))&&decide ((namesOf N own a).Nodup)&&
 a.all (λj=>decide (j<N.length)&&sc'.names.lookup (N.getD j "")==some .free)&&own.all (λx=>sc'.names.lookup x==some .local||sc'.names.lookup x==some .cell)
def dy{P:Prop}(h:false=true):P:=(be h).elim
def Gu{P:Prop}(h:true=false):P:=(be h.symm).elim
def an{a b:Bool}(h:(a&&b)=true):a=true/\b=true:=by rwa [aN]at h
def o8{a:Bool}(h:(!a)=true):a=false:=by simpa using h
def gR{a b c:Bool}(h:(a&&b&&c)=true):a=true/\b=true/\c=true:=let⟨h,z⟩:=an h;let⟨x,y⟩:=an h;(x,y,z,)
def lG{a b c d:Bool}(h:(a&&b&&c&&d)=true):a=true/\b=true/\c=true/\d=true:=let⟨h,z⟩:=an h;let⟨x,y,w⟩:=gR h;(x,y,w,z,)
def and5{a b c d e:Bool}(h:(a&&b&&c&&d&&e)=true):a=true/\b=true/\c=true/\d=true/\e=true:=let⟨h,z⟩:=an h;let⟨x,y,w,v⟩:=lG h;(x,y,w,v,z,)
section
variable {s:Stmt}
abbrev l1{b:Type}(l:List b)(f:b->Bool):Bool:=match l with
 |a::r=>r.isEmpty&&f a
 | []=>false
def jJ{b:Type}{l:List b}{f:b->Bool}(h:l1 l f=true):∃a,l=[a]/\f a=true:=by
 cases l with
 |nil=>exact dy h
 |cons a r=>
  obtain⟨c,h⟩:=an h;cases r with
  |nil=>exact(a,rfl,h,)
  |cons=>exact dy c
abbrev l2{b:Type}(l:List b)(f:b->b->Bool):Bool:=match l with
 |a::r=>l1 r (f a)
 | []=>false
def qT{c:Type}{l:List c}{f:c->c->Bool}(h:l2 l f=true):∃a b,l=[a,b]/\f a b=true:=by
 cases l with
 |nil=>exact dy h
 |cons a r=>obtain⟨b,rfl,h⟩:=jJ h;exact(a,b,rfl,h,)
abbrev dNm(e:Expr)(f:Str->Pos->Bool):Bool:=match e with
 |.Name x p=>f x p
 |_=>false
def gQ{f}(h:dNm e f=true):∃x p,e=.Name x p/\f x p=true:=by cases e<;>first |exact⟨_,_,rfl,h⟩ |exact dy h
abbrev dCn(e:Expr)(f:Const->Bool):Bool:=match e with
 |.Constant c _ _=>f c
 |_=>false
def vS{f}(h:dCn e f=true):∃c j p,e=.Constant c j p/\f c=true:=by cases e<;>first |exact⟨_,_,_,rfl,h⟩ |exact dy h
abbrev dBi(e:Expr)(f:Expr->Operator->Expr->Bool):Bool:=match e with
 |.BinOp a op b _=>f a op b
 |_=>false
def Kx{f}(h:dBi e f=true):∃a c b p,e=.BinOp a c b p/\f a c b=true:=by cases e<;>first |exact⟨_,_,_,_,rfl,h⟩ |exact dy h
abbrev dUn(e:Expr)(f:UnaryOp->Expr->Bool):Bool:=match e with
 |.UnaryOp op a _=>f op a
 |_=>false
def DG{f}(h:dUn e f=true):∃b a p,e=.UnaryOp b a p/\f b a=true:=by cases e<;>first |exact⟨_,_,_,rfl,h⟩ |exact dy h
abbrev dCm(e:Expr)(f:Expr->List CmpOp->List Expr->Bool):Bool:=match e with
 |.Compare a os es _=>f a os es
 |_=>false
def DK{f}(h:dCm e f=true):∃a os es p,e=.Compare a os es p/\f a os es=true:=by cases e<;>first |exact⟨_,_,_,_,rfl,h⟩ |exact dy h
abbrev dC1(e:Expr)(f:Expr->CmpOp->Expr->Bool):Bool:=dCm e λa os es=>l1 os λc=>l1 es λb=> !isSet b&&f a c b
def sD{f}(h:dC1 e f=true):∃a c b p,e=.Compare a [c] [b] p/\isSet b=false/\f a c b=true:=by obtain⟨a,i,g,p,rfl,k⟩:=DK h;obtain⟨c,rfl,l⟩:=jJ k;obtain⟨b,rfl,m⟩:=jJ l;obtain⟨d,n⟩:=an m;exact(a,c,b,p,rfl,o8 d,n,)
abbrev dBo(e:Expr)(f:BoolOp->Expr->Expr->Bool):Bool:=match e with
 |.BoolOp op es p=>match es with
  |a::r=>match r with
   |b::r=>match r with
    | []=>f op a b
    |c::r=>f op a (.BoolOp op (b::c::r) p)
   | []=>false
  | []=>false
 |_=>false
def qh{f}(h:dBo e f=true):∃d a x p,f d a x=true/\(e=.BoolOp d [a,x] p\/∃b c r,x=.BoolOp d (b::c::r) p/\e=.BoolOp d (a::b::c::r) p):=by
 cases e<;>first |exact dy h|skip
 rename_i d es p;cases es with
 |nil=>exact dy h
 |cons a r=>cases r with
  |nil=>exact dy h
  |cons b r=>cases r with
   |nil=>exact(d,a,b,p,h,.inl rfl,)
   |cons c r=>exact(d,a,_,p,h,.inr (b,c,r,rfl,rfl,),)
abbrev dIf(e:Expr)(f:Expr->Expr->Expr->Bool):Bool:=match e with
 |.IfExp c a b _=>f c a b
 |_=>false
def dIf_of{f}(h:dIf e f=true):∃c a b p,e=.IfExp c a b p/\f c a b=true:=by cases e<;>first |exact⟨_,_,_,_,rfl,h⟩ |exact dy h
abbrev dSu(e:Expr)(f:Expr->Expr->Bool):Bool:=match e with
 |.Subscript a i _=>f a i
 |_=>false
def vR{f}(h:dSu e f=true):∃a i p,e=.Subscript a i p/\f a i=true:=by cases e<;>first |exact⟨_,_,_,rfl,h⟩ |exact dy h
abbrev dSl(e:Expr)(f:Option Expr->Option Expr->Option Expr->Bool):Bool:=match e with
 |.Slice a b c _=>f a b c
 |_=>false
def dSl_of{f}(h:dSl e f=true):∃a b c p,e=.Slice a b c p/\f a b c=true:=by cases e<;>first |exact⟨_,_,_,_,rfl,h⟩ |exact dy h
abbrev dTu(e:Expr)(f:List Expr->Bool):Bool:=match e with
 |.Tuple es _ _=>f es
 |_=>false
def DH{f}(h:dTu e f=true):∃es k p,e=.Tuple es k p/\f es=true:=by cases e<;>first |exact⟨_,_,_,rfl,h⟩ |exact dy h
abbrev dLi(e:Expr)(f:List Expr->Bool):Bool:=match e with
 |.List es _=>f es
 |_=>false
def Kr{f}(h:dLi e f=true):∃es p,e=.List es p/\f es=true:=by cases e<;>first |exact⟨_,_,rfl,h⟩ |exact dy h
abbrev dDi(e:Expr)(f:List (Option Expr)->List Expr->Bool):Bool:=match e with
 |.Dict ks vs _=>f ks vs
 |_=>false
def Kv{f}(h:dDi e f=true):∃ks vs p,e=.Dict ks vs p/\f ks vs=true:=by cases e<;>first |exact⟨_,_,_,rfl,h⟩ |exact dy h
abbrev dCa(e:Expr)(f:Expr->List Expr->Pos->Bool):Bool:=match e with
 |.Call g es ks p=>ks.isEmpty&&f g es p
 |_=>false
def Kw{f}(h:dCa e f=true):∃g es p,e=.Call g es [] p/\f g es p=true:=by
 cases e<;>first |exact dy h|skip
 rename_i g es ks p;obtain⟨a,h⟩:=an h;cases ks with
 |nil=>exact(g,es,p,rfl,h,)
 |cons=>exact dy a
abbrev dFn(e:Expr)(f:Str->List Expr->Bool):Bool:=dCa e λg es _=>dNm g λx _=>f x es
def iC{f}(h:dFn e f=true):∃x np es p,e=.Call (.Name x np) es [] p/\f x es=true:=by obtain⟨g,es,p,rfl,k⟩:=Kw h;obtain⟨x,np,rfl,l⟩:=gQ k;exact(x,np,es,p,rfl,l,)
abbrev dAt(e:Expr)(f:Expr->Str->Pos->Bool):Bool:=match e with
 |.Attribute a x p=>f a x p
 |_=>false
def zA{f}(h:dAt e f=true):∃a x p,e=.Attribute a x p/\f a x p=true:=by cases e<;>first |exact⟨_,_,_,rfl,h⟩ |exact dy h
abbrev dMt(m:Str)(e:Expr)(f:Expr->List Expr->Bool):Bool:=dCa e λg es b=>dAt g λo c a=>decide (m=c)&&(a.endLine==b.line)&&f o es
def sC{m:Str}{f}(h:dMt m e f=true):∃o a es b,e=.Call (.Attribute o m a) es [] b/\(a.endLine==b.line)=true/\f o es=true:=by obtain⟨g,es,b,rfl,k⟩:=Kw h;obtain⟨o,i,a,rfl,l⟩:=zA k;obtain⟨c,d,n⟩:=gR l;cases W0 c;exact(o,a,es,b,rfl,d,n,)
abbrev dLc(e:Expr)(f:Expr->List Comprehension->Scope->Pos->Bool):Bool:=match e with
 |.ListComp a gs sc p=>f a gs sc p
 |_=>false
def DJ{f}(h:dLc e f=true):∃a gs sc p,e=.ListComp a gs sc p/\f a gs sc p=true:=by cases e<;>first |exact⟨_,_,_,_,rfl,h⟩ |exact dy h
abbrev dAs(s:Stmt)(f:Expr->Expr->Pos->Bool):Bool:=match s with
 |.Assign ts e p=>l1 ts λg=>f g e p
 |_=>false
def vT{f}(h:dAs s f=true):∃g e p,s=.Assign [g] e p/\f g e p=true:=by
 cases s<;>first |exact dy h|skip
 obtain⟨g,rfl,h⟩:=jJ h;exact(g,_,_,rfl,h,)
abbrev dEx(s:Stmt)(f:Expr->Bool):Bool:=match s with
 |.Expr e _=>f e
 |_=>false
def Ku{f}(h:dEx s f=true):∃e p,s=.Expr e p/\f e=true:=by cases s<;>first |exact⟨_,_,rfl,h⟩ |exact dy h
abbrev dIs(s:Stmt)(f:Expr->List Stmt->List Stmt->Bool):Bool:=match s with
 |.If c a b _=>f c a b
 |_=>false
def Ks{f}(h:dIs s f=true):∃c a b p,s=.If c a b p/\f c a b=true:=by cases s<;>first |exact⟨_,_,_,_,rfl,h⟩ |exact dy h
abbrev dWh(s:Stmt)(f:Expr->List Stmt->Bool):Bool:=match s with
 |.While c a b _=>b.isEmpty&&f c a
 |_=>false
def dWh_of{f}(h:dWh s f=true):∃c a p,s=.While c a [] p/\f c a=true:=by
 cases s<;>first |exact dy h|skip
 rename_i c a b p;obtain⟨d,h⟩:=an h;cases b with
 |nil=>exact(c,a,p,rfl,h,)
 |cons=>exact dy d
abbrev dFo(s:Stmt)(f:Expr->Expr->List Stmt->Bool):Bool:=match s with
 |.For g i a b _=>b.isEmpty&&f g i a
 |_=>false
def dFo_of{f}(h:dFo s f=true):∃g i a p,s=.For g i a [] p/\f g i a=true:=by
 cases s<;>first |exact dy h|skip
 rename_i g i a b p;obtain⟨c,h⟩:=an h;cases b with
 |nil=>exact(g,i,a,p,rfl,h,)
 |cons=>exact dy c
abbrev dRt(s:Stmt)(f:Option Expr->Bool):Bool:=match s with
 |.Return e _=>f e
 |_=>false
def DI{f}(h:dRt s f=true):∃e p,s=.Return e p/\f e=true:=by cases s<;>first |exact⟨_,_,rfl,h⟩ |exact dy h
abbrev dRa(s:Stmt)(f:Str->List Expr->Bool):Bool:=match s with
 |.Raise e c _=>match e with
  |some e=>c.isNone&&dFn e f
  |none=>false
 |_=>false
def Kq{f}(h:dRa s f=true):∃x np es a p,s=.Raise (some (.Call (.Name x np) es [] a)) none p/\f x es=true:=by
 cases s<;>first |exact dy h|skip
 rename_i e c p;cases e with
 |none=>exact dy h
 |some e=>
  obtain⟨b,k⟩:=an h;obtain⟨x,np,es,a,rfl,l⟩:=iC k;cases c with
  |none=>exact(x,np,es,a,p,rfl,l,)
  |some=>exact dy b
abbrev dTr(s:Stmt)(f:List Stmt->Str->Str->List Stmt->Bool):Bool:=match s with
 |.Try b hs o r _=>o.isEmpty&&r.isEmpty&&l1 hs λh=>match h with
  |.ExceptHandler t n ss _=>match t with
   |some t=>match n with
    |some n=>dNm t λx _=>f b x n ss
    |none=>false
   |none=>false
 |_=>false
def dTr_of{f}(h:dTr s f=true):∃b x np n a c p,s=.Try b [.ExceptHandler (some (.Name x np)) (some n) a c] [] [] p/\f b x n a=true:=by
 cases s<;>first |exact dy h|skip
 rename_i b hs o r p;obtain⟨d,e,k⟩:=gR h;obtain⟨⟨t,n,a,c⟩,rfl,l⟩:=jJ k;cases o with
 |cons=>exact dy d
 |nil=>cases r with
  |cons=>exact dy e
  |nil=>cases t with
   |none=>exact dy l
   |some t=>cases n with
    |none=>exact dy l
    |some n=>obtain⟨x,np,rfl,m⟩:=gQ l;exact(b,x,np,n,a,c,p,rfl,m,)
end
abbrev u1{b:Type}(l:List b)(f:b->List b->Bool):Bool:=match l with
 |a::r=>f a r
 | []=>false
def xB{b:Type}{l:List b}{f:b->List b->Bool}(h:u1 l f=true):∃a r,l=a::r/\f a r=true:=by
 cases l with
 |nil=>exact dy h
 |cons a r=>exact(a,r,rfl,h,)
abbrev om{a:Type}(o:Option a)(f:a->Bool):Bool:=match o with
 |some x=>f x
 |none=>false
def ER{a:Type}{o:Option a}{f:a->Bool}(h:om o f=true):∃x,o<*x/\f x=true:=by
 cases o with
 |none=>exact dy h
 |some x=>exact(x,rfl,h,)
def nil_of{a:Type}{l:List a}(h:l.isEmpty=true):l=[]:=List.isEmpty_iff.mp h
abbrev dFF(f g:Str)(sc:Scope)(e:Expr)(k:Expr->Bool):Bool:=dFn e λb es=>l1 es λx=>dFn x λc es=>l1 es λa=>decide (b=f)&&decide (c=g)&&kJ sc f&&kJ sc g&&k a
def Kt{f g:Str}{k}(h:dFF f g sc e k=true):∃p a q r t,e=.Call (.Name f p) [.Call (.Name g q) [a] [] r] [] t/\kJ sc f=true/\kJ sc g=true/\k a=true:=by obtain⟨_,p,_,t,rfl,i⟩:=iC h;obtain⟨x,rfl,j⟩:=jJ i;obtain⟨_,q,_,r,rfl,l⟩:=iC j;obtain⟨a,rfl,m⟩:=jJ l;obtain⟨b,c,d,o,n⟩:=and5 m;cases W0 b;cases W0 c;exact(p,a,q,r,t,rfl,d,o,n,)
abbrev isX:Expr->Bool
 |.Subscript .. =>true|.Compare .. =>true|.Call .. =>true|.Dict .. =>true
 |_=>false
abbrev dspO(ks:List (Option Expr))(vs:List Expr)(f:Expr->Expr->Bool):Bool:=l2 ks λa b=>l2 vs λv u=>(dCn v λc=>decide (c=.int 1))&&(dCn u λc=>decide (c=.int 0))&&match a,b with
 |some a,some b=>f a b
 |_,_=>false
abbrev X2.d(k:X2)(e:Expr)(f:Expr->Expr->Bool):Bool:=isX e&&match k with
 |.idxk=>dSu e λa i=> !uG i&&f a i
 |.nink=>dC1 e λa c b=>decide (c=.NotIn)&&f a b
 |.getk=>dMt (cz "get") e λo es=>l1 es λa=>baseOk o&&f o a
 |.odd=>dDi e λks vs=>dspO ks vs f
 |.eqF=>dC1 e λa c b=>decide (c=.Eq)&&f a b
mutual
noncomputable def dz(sc:Scope)(N:List Str):CE->Expr->Bool
 |.var i,e=>dNm e λx _=>N[i]? ==some x&&Bu sc x&&qI x
 |.con c,e=>dCn e λr=>okCon c&&decide (c=r)
 |.glo x,e=>dNm e λy _=>decide (x=y)&&kJ sc x&&qI x
 |.ty t,e=>dNm e λy _=>decide (t.name=y)&&kJ sc y
 |.bin j a b,e=>dBi e λd z h=>decide (j=z)&&dz sc N a d&&dz sc N b h
 |.un j a,e=>dUn e λz d=>decide (j=z)&&dz sc N a d
 |.cmp j a b,e=>dC1 e λd z h=>decide (j=z)&&dz sc N a d&&dz sc N b h
 |.chain o1 o2 a b c,e=>dCm e λd os es=>l2 os λp q=>l2 es λh r=>decide (o1=p)&&decide (o2=q)&& !isSet r&&(dz sc N a d&&dz sc N b h&&dz sc N c r)
 |.not a,e=>dUn e λj d=>decide (j=.Not)&&dz sc N a d
 |.and a b,e=>dBo e λj d x=>decide (j=.And)&&dz sc N a d&&dz sc N b x
 |.or a b,e=>dBo e λj d x=>decide (j=.Or)&&dz sc N a d&&dz sc N b x
 |.ite c a b,e=>dIf e λr d h=>dz sc N c r&&dz sc N a d&&dz sc N b h
 |.idx a i,e=>dSu e λd A=> !uG A&&dz sc N a d&&dz sc N i A
 |.cut a lo hi,e=>dSu e λd s=>dSl s λl u t=>t.isNone&&dz sc N a d&&(chkO sc N lo l&&chkO sc N hi u)
 |.tup es,e=>dTu e λes'=>nG sc N es es'
 |.lst es,e=>dLi e λes'=>nG sc N es es'
 |.dic ps,e=>dDi e λks vs=>decide (ks.length<=15)&&chkP sc N ps ks vs
 |.call f es,e=>dFn e λw es'=>decide (f=w)&&kJ sc f&&qI f&&nG sc N es es'
 |.bfn b es,e=>dFn e λw es'=>decide (b.name=w)&&kJ sc w&& !es'.isEmpty&&nG sc N es es'
 |.meth0 m o,e=>dMt m.name e λo' es=>es.isEmpty&&baseOk o'&&dz sc N o o'
 |.meth1 m o a,e=>dMt m.name e λo' es=>l1 es λd=>baseOk o'&&dz sc N o o'&&dz sc N a d
 |.base x es,e=>dMt (cz "__init__") e λo es'=>dNm o λC _=>decide (x=C)&&kJ sc x&&qI x&&(decide (es.len<29)&& !es'.isEmpty&&nG sc N es es')
 |.fld a f,e=>dAt e λv w _=>dNm v λn np=>decide (f=w)&&dz sc N a (.Name n np)
 |.lzip a b,e=>dFn e λf es=>l1 es λx=>dFn x λg es=>l2 es λd h=>decide (f="list")&&decide (g="zip")&&kJ sc f&&kJ sc g&&(dz sc N a d&&dz sc N b h)
 |.sset a,e=>dFF "sorted" "set" sc e (dz sc N a)
 |.lrev a,e=>dFF "list" "reversed" sc e (dz sc N a)
 |.x2 k a b,e=>k.d e λd h=>dz sc N a d&&dz sc N b h
 |.yD a,e=>qe e&&dz sc N a e
 |.comp own fr tg it cond elt,e=>dLc e λB gs sc' _=>l1 gs λg=>decide (g.is_async=0)&&zh sc sc' N own fr&& !isSet g.iter&&(chkI sc N it g.iter g.target&&BN sc' (namesOf N own fr) false tg g.target&&chkC sc' (namesOf N own fr) cond g.ifs&&dz sc' (namesOf N own fr) elt B)
noncomputable def nG(sc:Scope)(N:List Str):CL->List Expr->Bool
 |.nil,es=>es.isEmpty
 |.cons e r,es=>u1 es λa b=>dz sc N e a&&nG sc N r b
noncomputable def chkP(sc:Scope)(N:List Str):CP->List (Option Expr)->List Expr->Bool
 |.nil,ks,vs=>ks.isEmpty&&vs.isEmpty
 |.cons k v r,ks,vs=>u1 ks λa b=>u1 vs λc d=>om a λa=>dz sc N k a&&dz sc N v c&&chkP sc N r b d
noncomputable def chkO(sc:Scope)(N:List Str):CO->Option Expr->Bool
 |.no,o=>o.isNone
 |.yes e,o=>om o (dz sc N e)
noncomputable def chkC(sc:Scope)(N:List Str):CO->List Expr->Bool
 |.no,o=>o.isEmpty
 |.yes e,o=>l1 o (dz sc N e)
noncomputable def BN(sc:Scope)(N:List Str)(all:Bool):CG->Expr->Bool
 |.name i,e=>dNm e λx _=>N[i]? ==some x&&(sc.names.lookup x==some .local||sc.names.lookup x==some .cell)
 |.tup gs,e=>dTu e λes=>vW sc N all gs es
noncomputable def vW(sc:Scope)(N:List Str)(all:Bool):CGs->List Expr->Bool
 |.nil,es=>es.isEmpty
 |.cons g gs,es=>u1 es λa es'=>BN sc N all g a&&vW sc N all gs es'
noncomputable def chkI(sc:Scope)(N:List Str):CI->Expr->Expr->Bool
 |.seq e,c,_=>dz sc N e c
 |.lseq e,c,_=>dz sc N e c
 |.range1 e,x,_=>dFn x λf es=>l1 es λc=>decide (f="range")&&kJ sc f&&dz sc N e c
 |.range2 a b,x,_=>dFn x λf es=>l2 es λd g=>decide (f="range")&&kJ sc f&&dz sc N a d&&dz sc N b g
 |.zip a b,x,tg'=>dFn x λf es=>l2 es λd g=>decide (f="zip")&&kJ sc f&&dz sc N a d&&dz sc N b g&&qd tg'
 |.dkeys e,c,_=>dz sc N e c
 |.ditems e,x,tg'=>dMt (cz "items") x λo es=>es.isEmpty&&baseOk o&&dz sc N e o&&qd tg'
 |.lrevd e,x,_=>dFn x λf es=>l1 es λc=>decide (f="reversed")&&kJ sc f&&dz sc N e c
end
mutual
noncomputable def pD:CE->Bool
 |.var _=>true
 |.con _=>true
 |.glo _=>true
 |.ty _=>true
 |.lst es=>vy es
 |.tup es=>vy es
 |.bfn .isinstance es=>vy es
 |.bfn .isx es=>vy es
 |.fld a _=>pD a
 |.bin _ a b=>pD a&&pD b
 |.meth1 _ a b=>pD a&&pD b
 |_=>false
noncomputable def vy:CL->Bool
 |.nil=>true
 |.cons e es=>pD e&&vy es
end
abbrev EX:CE->Bool
 |.bfn .isx es=>vy es
 |_=>false
abbrev liteT:CE->Bool
 |.and a b=>EX a&&EX b
 |c=>EX c
mutual
noncomputable def liteS:CS->Bool
 |.asg (.name _) e=>pD e
 |.ret e=>pD e
 |.pass=>true
 |.expr e=>pD e
 |.iff c a b=>liteT c&&(Bo a&&Bo b)
 |_=>false
noncomputable def Bo:CB->Bool
 |.nil=>true
 |.hole=>false
 |.cons s r=>liteS s&&Bo r
end
abbrev isCe:CE->Bool
 |.comp .. =>true
 |_=>false
mutual
noncomputable def chkS(sc:Scope)(N:List Str):CS->Stmt->Bool
 |.asg g e,s=>dAs s λk h _=>BN sc N true g k&&dz sc N e h&& !qe h&& !(qd k&&qd h)
 |.asgc i e,s=>isCe e&&dAs s λg h _=>dNm g λx p=>dLc h λa b c d=>N[i]? ==some x&&(sc.names.lookup x==some .local||sc.names.lookup x==some .cell)&&dz sc N e (.ListComp a b c d)&&
   (sc.names.lookup x==some .cell||(decide (p.line=d.line)&& !(c.names.any λy=>decide (y.1=x)&&(decide (y.2=.local)||decide (y.2=.cell)))))
 |.expr e,s=>dEx s λh=>dz sc N e h&& !qe h
 |.iff c a b,s=>dIs s λm t j=>dz sc N c m&&ql sc N a t&&ql sc N b j
 |.whl c b,s=>dWh s λm j=>dz sc N c m&&ql sc N b j
 |.forr g it b,s=>dFo s λk q j=>BN sc N true g k&&chkI sc N it q k&& !isSet q&&ql sc N b j
 |.ret e,s=>dRt s λo=>om o (dz sc N e)
 |.retN,s=>dRt s λo=>o.isNone
 |.rais x es,s=>dRa s λl es'=>decide (x=l)&&kJ sc x&&qI x&&(!es'.isEmpty&&nG sc N es es')
 |.raisX x es,s=>dRa s λl es'=>decide (x=l)&&kJ sc x&&qI x&&(!es'.isEmpty&&nG sc N es es')
 |.fldX o f e,s=>dAs s λg h _=>dAt g λo' u _=>decide (f=u)&&dz sc N o o'&&dz sc N e h&& !qe h
 |.thawS c,s=>chkS sc N c s
 |.putk o i e,s=>dAs s λg h _=>dSu g λo' v=>dz sc N o o'&&dz sc N i v&&dz sc N e h&& !qe h
 |.tryc x i b su,s=>dTr s λj l n r=>decide (x=l)&&kJ sc x&&qI x&&(N[i]? ==some n&&sc.names.lookup n==some .local&&Bo su)&&(!r.isEmpty&&ql sc N su r&&ql sc N b j)
 |.pass,s=>match s with
  |.Pass _=>true
  |_=>false
 |.brk,s=>match s with
  |.Break _=>true
  |_=>false
 |.cont,s=>match s with
  |.Continue _=>true
  |_=>false
noncomputable def ql(sc:Scope)(N:List Str):CB->List Stmt->Bool
 |.hole,_=>true
 |.nil,ss=>ss.isEmpty
 |.cons s r,ss=>u1 ss λs' a=>chkS sc N s s'&&ql sc N r a
end
structure Gam where
 val:Str->Option V
 fn:Str->Nat->Option (Sp×List V)
 ini:Str->Nat->Option (Addr×Sp×List V)
 dic:Addr->Option (List (Key×V))
 mak:Str->Nat->Option (Addr×Sp×List V)
 mth:Str->Nat->Option (Addr×Sp×List V)
def GF(K:ai)(tl:TE):TI:=λσ H R=>tl σ H λx H1=>(∃a,x=.ref a/\(∃xs,SqL K H1 a xs)/\R (Itl K a) H1)\/(∃a,x=.ref a/\(∃xs,SqT K H1 a xs)/\R (Itt K a) H1)\/(∃z,x=.str z/\R (Its z) H1)
def Aw(K:ai)(t:TE):TT:=λσ H Q=>t σ H λx H1=>∃k,TruV K x H1 k/\Q k H1
mutual
noncomputable def wpE(G:Gam)(K:ai)(E:XS):CE->TE
 |.var i=>qA i
 |.con c=>tC (cv c)
 |.glo x=>λσ H Q=>∃v,G.val x<*v/\Q v H
 |.ty t=>tC (.ty t.t)
 |.bin op a b=>tOp (t9 K op) (wpE G K E a) (wpE G K E b)
 |.un op a=>tUn (rUn K op) (wpE G K E a)
 |.cmp op a b=>tOp (jg K op) (wpE G K E a) (wpE G K E b)
 |.chain o1 o2 a b c=>uW (jg K o1) (jg K o2) (wpE G K E a) (wpE G K E b) (wpE G K E c)
 |.not a=>HK (wpE G K E a)
 |.and a b=>HU (wpE G K E a) (wpE G K E b)
 |.or a b=>tOrV (wpE G K E a) (wpE G K E b)
 |.ite c a b=>tIf (wpT G K E c) (wpE G K E a) (wpE G K E b)
 |.idx a i=>tOp (rIx K) (wpE G K E a) (wpE G K E i)
 |.cut a lo hi=>tSl (rSlc K) (wpE G K E a) (wpO G K E lo) (wpO G K E hi)
 |.tup es=>tTup (wpL G K E es)
 |.lst es=>tLst (wpL G K E es)
 |.dic ps=>λσ H Q=>(ps=.nil/\HQ σ H Q)\/(ps≠.nil/\tDisp (wpP G K E ps) σ H Q)
 |.call f es=>λσ H Q=>∃sp ak,G.fn f es.len<*(sp,ak)/\Az sp ak (E σ) (wpL G K E es) σ H Q
 |.bfn b es=>tCB (rBf K b) (wpL G K E es)
 |.meth0 m o=>tBM0 K "list" (rMm m) (wpE G K E o)
 |.meth1 m o a=>tBM K "list" (rMm m) (wpE G K E o) (jt (wpE G K E a) pT)
 |.base x es=>λσ H Q=>∃B,G.val x<*(.ref B)/\tBase K B (wpL G K E es) σ H Q
 |.fld a f=>λσ H Q=>wpE G K E a σ H λx H1=>rFld K f x H1 Q
 |.lzip a b=>HL K (jt (wpE G K E a) (jt (wpE G K E b) pT))
 |.sset a=>rT K (jt (wpE G K E a) pT)
 |.lrev a=>HM K (jt (wpE G K E a) pT)
 |.x2 k a b=>X2.t K k (wpE G K E a) (wpE G K E b)
 |.yD a=>HI (wpE G K E a)
 |.comp own fr tg it cond elt=>uV (wpI G K E it) (wpG G K N0 tg) (wpC G K N0 cond) (wpE G K N0 elt) (mJ own fr)
noncomputable def wpT(G:Gam)(K:ai)(E:XS):CE->TT
 |.cmp op a b=>qB (tOp (jg K op) (wpE G K E a) (wpE G K E b))
 |.chain o1 o2 a b c=>qB (uW (jg K o1) (jg K o2) (wpE G K E a) (wpE G K E b) (wpE G K E c))
 |.not a=>tNot (wpT G K E a)
 |.and a b=>tAnd (wpT G K E a) (wpT G K E b)
 |.or a b=>tOr (wpT G K E a) (wpT G K E b)
 |.ite _ _ _=>λ_ _ _=>False
 |.var i=>Aw K (qA i)
 |.con c=>Aw K (tC (cv c))
 |.glo x=>Aw K (λσ H Q=>∃v,G.val x<*v/\Q v H)
 |.idx a i=>Aw K (tOp (rIx K) (wpE G K E a) (wpE G K E i))
 |.call f es=>Aw K (λσ H Q=>∃sp ak,G.fn f es.len<*(sp,ak)/\Az sp ak (E σ) (wpL G K E es) σ H Q)
 |.bfn b es=>Aw K (tCB (rBf K b) (wpL G K E es))
 |.x2 k a b=>X2.tt K k (wpE G K E a) (wpE G K E b)
 |_=>λ_ _ _=>False
noncomputable def wpL(G:Gam)(K:ai)(E:XS):CL->TA
 |.nil=>pT
 |.cons e es=>jt (wpE G K E e) (wpL G K E es)
noncomputable def wpP(G:Gam)(K:ai)(E:XS):CP->List (TE×TE)
 |.nil=>[]
 |.cons k v r=>(wpE G K E k,wpE G K E v)::wpP G K E r
noncomputable def wpO(G:Gam)(K:ai)(E:XS):CO->TO
 |.no=>qC
 |.yes e=>Ax (wpE G K E e)
noncomputable def wpC(G:Gam)(K:ai)(E:XS):CO->TT
 |.no=>FJ
 |.yes e=>wpT G K E e
noncomputable def wpG(G:Gam)(K:ai)(E:XS):CG->TG
 |.name i=>l6 i
 |.tup gs=>gTup K gs.len (wpGs G K E gs)
noncomputable def wpGs(G:Gam)(K:ai)(E:XS):CGs->TGs
 |.nil=>gNil
 |.cons g gs=>BB (wpG G K E g) (wpGs G K E gs)
noncomputable def wpI(G:Gam)(K:ai)(E:XS):CI->TI
 |.seq e=>GF K (wpE G K E e)
 |.lseq e=>Ka K (wpE G K E e)
 |.range1 e=>J9 (jt (wpE G K E e) pT)
 |.range2 a b=>J8 (jt (wpE G K E a) (jt (wpE G K E b) pT))
 |.zip a b=>iZip K (jt (wpE G K E a) (jt (wpE G K E b) pT))
 |.dkeys e=>Kb (wpE G K E e)
 |.ditems e=>zu (wpE G K E e)
 |.lrevd e=>iRev K (jt (wpE G K E e) pT)
end
mutual
noncomputable def wpS(G:Gam)(K:ai)(E:XS):CS->TS
 |.asg g e=>wM (wpE G K E e) (wpG G K E g)
 |.asgc i e=>wM (wpE G K E e) (l6 i)
 |.expr e=>HP (wpE G K E e)
 |.iff c a b=>HN (wpT G K E c) (wpB G K E a) (wpB G K E b)
 |.whl c b=>HH (wpT G K E c) (wpB G K E b)
 |.forr g it b=>tFor (wpI G K E it) (wpG G K E g) (wpB G K E b)
 |.ret e=>tRet (wpE G K E e)
 |.retN=>HJ
 |.rais x es=>λD σ H=>∃C,G.val x<*(.ref C)/\cF K (.ref C)=true/\PySem.W.excIn K C bmV "ValueError.__new__"=true/\wpL G K E es σ H λvs H1=>vs.length<=sizeLine/\E σ (.ref C) none H1
 |.raisX x es=>λD σ H=>∃C sp ak,G.ini x es.len<*(C,sp,ak)/\Ir C sp ak E (wpL G K E es) D σ H
 |.fldX o f e=>sFldX K (wpE G K E o) (wpE G K E e) f
 |.thawS c=>Ip (wpS G K E c)
 |.putk o i e=>IH (wpE G K E o) (wpE G K E i) (wpE G K E e)
 |.tryc x i b su=>λD σ H=>∃C,G.val x<*(.ref C)/\wpB G K (sA K C i (wpB G K N0 su) D) b D σ H
 |.pass=>Ay
 |.brk=>HS
 |.cont=>tCont
noncomputable def wpB(G:Gam)(K:ai)(E:XS):CB->TS
 |.nil=>Ay
 |.hole=>λ_ _ _=>False
 |.cons s r=>yE (wpS G K E s) (wpB G K E r)
end
noncomputable abbrev Sat(G:Gam)(K:ai)(sp:Sp)(c:CB)(N:List Str):Prop:=∀vs H Q E,sp vs H Q E->wpB G K (λ_=>E) c {nx:=λ_ H'=>Q .non H',rt:=Q} (L2.start N vs) H
abbrev jw:List Str:=["len","isinstance","all","any","list","tuple","int","bool","str","dict","range","enumerate","sorted","set","min","max","ValueError","sum","zip","reversed"]
structure Ok(CX:CXT)(G:Gam)(E:XS)(sc:Scope)(N:List Str)(all:Bool)(X:Cx):Prop where
 names:X.N=N
 top:all=true->X.stack=X.env::X.outer/\X.env.frame<*X.env.locals/\X.ex=[]
 nd:N.Nodup
 loc:∀x,sc.names.lookup x<*.local->X.env.scope.names.lookup x<*.local
 cel:∀x,sc.names.lookup x<*.cell->X.env.scope.names.lookup x<*.cell
 fre:∀x,sc.names.lookup x<*.free->X.env.scope.names.lookup x<*.cell\/X.env.scope.names.lookup x<*.free
 glo:∀x,sc.names.lookup x<*.globalImplicit->X.env.scope.names.lookup x<*.globalImplicit
 all:all=true->∀x,X.fn x=true
 own:∀x,sc.names.lookup x<*.cell->X.fn x=true
 calm:X.calm=true
 hu:X.A.units+50<cLine
 val:∀x v,G.val x<*v->∃u,X.mg x<*u/\RelV v u
 fn:∀x n sp ak,G.fn x n<*(sp,ak)->∃f fd ps ds k,jO X.prog X.w X.K X.mg X.base CX k f fd ps sp/\jk k X.A/\X.mg x<*(.ref f)/\cF X.K (.ref f)=true/\Binds X.K fd ps ds/\bZ ak ds
 ini:∀x n C sp ak,G.ini x n<*(C,sp,ak)->∃f fd ps ds k,MkX X.K C f/\jO X.prog X.w X.K X.mg X.base CX k f fd ps sp/\jk (k+1) X.A/\X.mg x<*(.ref C)/\Binds X.K fd ps ds/\bZ ak ds
 dic:∀a kvs,G.dic a<*kvs->DkIn X.prog X.w X.K a kvs
 mak:∀x n C sp ak,G.mak x n<*(C,sp,ak)->∃f fd ps ds k,Mk X.K C f/\jO X.prog X.w X.K X.mg X.base CX k f fd ps sp/\jk (k+1) X.A/\X.mg x<*(.ref C)/\Binds X.K fd ps ds/\bZ ak ds
 mth:∀m n C sp ak,G.mth m n<*(C,sp,ak)->∃f fd ps ds k,Cls X.K C/\Meth X.K C m f/\jO X.prog X.w X.K X.mg X.base CX k f fd ps sp/\jk k X.A/\Binds X.K fd ps ds/\bZ ak ds
 blt:∀x∈jw,X.mg x=none
 px:PassesOwn (model X.prog X.w) X.A X.env X.xe
 pass:yr CX X E
 made:MadeS X E
 madeX:DY X E
 cx:CX=CXx X.prog X.w
def Bf.mem:∀b:Bf,b.name∈jw:=by intro b;cases b<;>decide+kernel
def Ty.mem:∀b:Ty,b.name∈jw:=by intro b;cases b<;>decide+kernel
section
variable {CX:CXT}{G:Gam}{E:XS}{all:Bool}
def Ok.vis(o:Ok CX G E sc N all X)(h:Bu sc x=true):Vis X.env.scope x:=by
 unfold Bu at h;rw[du,du,beq_iff_eq,beq_iff_eq,beq_iff_eq]at h;rcases h with(h|h) |h;·exact .inl (o.loc x h)
 .exact .inr (.inl (o.cel x h))
 .rcases o.fre x h with q|q;·exact .inr (.inl q)
  .exact .inr (.inr q)
def Ok.gl(o:Ok CX G E sc N all X)(h:kJ sc x=true):Gl X x:=by unfold kJ at h;rw[beq_iff_eq]at h;exact o.glo x h
def gY(h:qI x=true):(x==("__debug__":Str))=false/\(x==("__classdict__":Str))=false:=by unfold qI at h;rw[aN,beq_iff_eq,beq_iff_eq]at h;exact h
def EB:∀a,OpR X (fO a) (t9 X.K a)
 |.Add=>op_add.or (Di.or (op_cat.or (r':=λ_ _ _ _=>False) λ_ _ _ _ _ _ _ _ _ _ _ _ h=>h.elim))
 |.Sub=>op_sub
 |.Mult=>op_mul.or (op_rep.or op_repS)
 |.Mod=>op_mod
 |.FloorDiv=>op_fdiv
 |.Pow=>op_pow
 |.RShift=>op_shr
 |.MatMult=>λ_ _ _ _ _ _ _ _ _ _ _ _ h=>h.elim
 |.Div=>λ_ _ _ _ _ _ _ _ _ _ _ _ h=>h.elim
 |.LShift=>op_shl
 |.BitOr=>λ_ _ _ _ _ _ _ _ _ _ _ _ h=>h.elim
 |.BitXor=>op_xor
 |.BitAnd=>op_and
def oH(b:X.A.units+50<cLine):∀a,OpR X (dc a) (jg X.K a)
 |.Eq=>op_eqD 'D'
 |.NotEq=>op_neD 'D'
 |.Lt=>op_lt
 |.LtE=>op_le
 |.Gt=>op_gt
 |.GtE=>op_ge
 |.Is=>op_isN
 |.IsNot=>op_notN
 |.In=>Gq.or Gr
 |.NotIn=>zf.or zg
def rUn_ok:∀a,UnR X (unaryOp a) (rUn X.K a)
 |.USub=>un_neg
 |.Not=>λ_ _ _ _ _ _ _ _ _ h=>h.elim
 |.UAdd=>λ_ _ _ _ _ _ _ _ _ h=>h.elim
 |.Invert=>λ_ _ _ _ _ _ _ _ _ h=>h.elim
def rSlc_ok:SlR X (rSlc X.K):=sl_list.or sl_str
def rBf_ok(a:X.calm=true)(c:X.A.units+50<cLine):∀b,fU X (Bf.val b) (rBf X.K b)
 |.len=>zF.or zE
 |.isinstance=>qX.or qZ
 |.all=>KD a
 |.list=>zD
 |.tuple=>w8
 |.min=>GP a
 |.max=>GQ a
 |.int=>GS
 |.isx=>qY
 |.lenk=>GR
 |.listk=>DR a
 |.dictl=>DS a
 |.sorta=>DQ
def Mm.slot:∀m:Mm,Slot "list" m.name m.id
 |.append=>PySem.F.slot_list_append|.clear=>PySem.F.slot_list_clear|.reverse=>PySem.F.slot_list_reverse|.pop=>PySem.F.slot_list_pop|.index=>PySem.F.slot_list_index|.extend=>PySem.F.slot_list_extend
def Mm.ty:∀m:Mm,typeOf (.builtin m.id)=pure (.type "method_descriptor")
 |.append=>PySem.F.type_list_append|.clear=>PySem.F.type_list_clear|.reverse=>PySem.F.type_list_reverse|.pop=>PySem.F.type_list_pop|.index=>PySem.F.type_list_index|.extend=>PySem.F.type_list_extend
def C5:∀m:Mm,MtR X m.id (rMm m)
 |.append=>Gw|.clear=>λ_ _ _ _ _ _ _ _ _ _ _ _ h=>h.elim|.reverse=>λ_ _ _ _ _ _ _ _ _ _ _ _ h=>h.elim|.pop=>MtR.or mt_pop JL|.index=>λ_ _ _ _ _ _ _ _ _ _ _ _ h=>h.elim|.extend=>Gv
def rq{o:Expr}(h:baseOk o=true)(nm:Str)(env:Env)(t:Sem Value):kZ o nm env t=t:=by
 cases o<;>first
  |rfl
  |exact dy h
  | (rename_i f es ks p;cases f<;>first
   |rfl
   |exact dy h)
def bY{c:CE}(h:dz sc N c e=true)(a:List Expr)(env:Env):bx (e::a) env=(false,eval e env)::bx a env:=by
 cases e<;>first
  |rfl
  | (cases c<;>exact dy h)
def l9{c:CE}{r:CL}{e:List Expr}(h:nG sc N (.cons c r) e=true):∃b d,e=b::d/\dz sc N c b=true/\nG sc N r d=true:=
 let⟨b,d,a,k⟩:=xB h
 (b,d,a,an k,)
def oi{a:List Expr}(h:nG sc N .nil a=true):a=[]:=nil_of h
theorem qk:∀{l:CL}{es:List Expr},nG sc N l es=true->∀(env:Env)(pos:Pos),(backTo pos (bx es env)).any (·.1)=false
 |.nil,es,h,env,pos=>by rw[oi h];rfl
 |.cons c r,es,h,env,pos=>by obtain⟨e,d,rfl,a,b⟩:=l9 h;rw[bY a];show(false||(backTo pos (bx d env)).any (·.1))=false;rw[qk b];rfl
def AF{l:CL}{a:List Expr}(h:nG sc N l a=true)(g:(!a.isEmpty)=true):∃e es',a=e::es'/\∀(env:Env)(pos:Pos),bx (e::es') env=(false,eval e env)::bx es' env/\(backTo pos (bx es' env)).any (·.1)=false:=by
 cases l with
 |nil=>obtain rfl:=oi h;exact dy g
 |cons c r=>obtain⟨b,i,rfl,d,f⟩:=l9 h;exact(b,i,rfl,λenv pos=>(bY d _ _,qk f _ _,),)
theorem BL:∀{l:CL}{es:List Expr},nG sc N l es=true->es.length=l.len
 |.nil,es,h=>by rw[oi h];rfl
 |.cons c r,es,h=>by obtain⟨b,e,rfl,d,a⟩:=l9 h;rw[aZ,BL a,CL.len]
def zi(h:isSet e=false)(env:Env):∀x,jW e env x=pure x:=by
 intro x;cases e<;>first
  |rfl
  | (exact Gu h)
def iJ(h:isSet e=false)(op:CmpOp):ph op e=false:=by
 cases e<;>first
  |rfl
  | (exact Gu h)
def Jh(h:uG e=false):Fq e:=by
 intro o i;cases e<;>first
  |rfl
  | (exact Gu h)
def noSl(h:uG e=false):NoSl e:=by
 intro o i;cases e<;>first
  |rfl
  | (exact Gu h)
def oM(h:qe e=false)(t:Option Expr)(l:Nat)(env:Env):nj e t l env=pure false:=by
 cases e<;>first
  |rfl
  | (exact Gu h)
def pt_tru{t:TE}(h:PE X e t)(b:∀a,isTrue e X.env a=(do let v<-a;Ft e.pos;holding [v] (truthy v))):PT X e (Aw X.K t):=ko h b
def pi_any{l:Expr}{tl:TE}(m:PE X l tl):PI X tg l (GF X.K tl):=by
 intro r s w H R I h;refine thn (m r s w H _ I h) λv c ⟨x,g,d,j,q1⟩=>?_;have y:∀{A:TE}{B:TI},True:=λ{_ _}=>trivial;rcases q1 with q1|q1|q1
 .obtain⟨a,e,⟨u,i⟩,q⟩:=q1;subst e;cases j;obtain⟨k,rv,p,n⟩:=d.list i;refine jR p.isList ?_;refine(⇑c,[⇑c],_,_,g,rfl,d.kept (t':=c.toks) λb o e=>af _ e,xC a _,(_,aF _ rfl,rfl,rfl,),λb f=>?_,q,);have e:b=⇑c:=by simpa using f
  subst e;exact d.sk (aE _) (d.hok.fresh (aE _))
 .obtain⟨a,e,⟨u,i⟩,q⟩:=q1;subst e;cases j;obtain⟨k,rv,p,n⟩:=d.tuple i;refine wpAny_pyIter_tuple (show c.heap.IsTuple a k.toArray from p) ?_;refine(⇑c,[⇑c],_,_,g,rfl,d.kept (t':=c.toks) λb o e=>af _ e,Cz a _,(_,aF _ rfl,rfl,rfl,),λb f=>?_,q,);have e:b=⇑c:=by simpa using f
  subst e;exact d.sk (aE _) (d.hok.fresh (aE _))
 .obtain⟨z,e,q⟩:=q1;subst e;obtain⟨t,rfl⟩:=j;refine wpAny_pyIter_strU ?_;refine(⇑c,[⇑c],_,_,g,rfl,d.kept (t':=c.toks) λb o e=>af _ e,HC z _ t,(_,aF _ rfl,rfl,rfl,),λb f=>?_,q,);have e:b=⇑c:=by simpa using f
  subst e;exact d.sk (aE _) (d.hok.fresh (aE _))
end
set_option maxHeartbeats 4000000
section
variable {CX:CXT}{G:Gam}
structure oW(sc sc':Scope)(N own:List Str)(fr:List Nat):Prop where
 kind:sc'.kind=.function
 cellk:∀y∈sc'.names,y.2=.cell->sc'.names.lookup y.1<*.cell
 own1:∀y∈sc'.names,y.2=.local->sc'.names.lookup y.1<*.local
 free:∀y∈sc'.names,y.2=.free->sc.names.lookup y.1<*.cell\/sc.names.lookup y.1<*.free
 nd:(namesOf N own fr).Nodup
 fr:∀j∈fr,j<N.length/\sc'.names.lookup (N.getD j "")<*.free
 own2:∀x∈own,sc'.names.lookup x<*.local\/sc'.names.lookup x<*.cell
def u4{a:List Nat}(h:zh sc sc' N own a=true):oW sc sc' N own a:=by unfold zh at h;simp only[aN,cY,decide_eq_true_eq,beq_iff_eq,du]at h;obtain⟨⟨⟨⟨⟨⟨b,c⟩,d⟩,e⟩,f⟩,g⟩,i⟩:=h;exact(b,c,d,e,f,g,i,)
def oW.comp{E:XS}{a:List Nat}{all:Bool}(S:oW sc sc' N own a)(o:Ok CX G E sc N all X):oX X (namesOf N own a) sc':=
 ⟨S.kind,S.cellk,S.own1,λy c b=>by
  rcases S.free y c b with q|q;·exact .inl (o.cel _ q)
  .exact o.fre _ q⟩
def oW.mkOk{E:XS}{b:List Nat}{all:Bool}(S:oW sc sc' N own b)(o:Ok CX G E sc N all X):MkOk X (namesOf N own b) sc' (mJ own b):=by
 intro f k;refine(by simp[mJ,namesOf],λi x v c a=>?_,);unfold mJ at a;unfold namesOf at c;by_cases hi:i<own.length
 .rw[iH ↥hi,bP]at a;cases q:own[i]? with
  |none=>rw[q]at a;cases a
  |some z=>rw[q]at a;cases a
 .rw[eh ↥hi,bP,ah]at a;rw[eh ↥hi,bP]at c;cases q:b[i-own.length]? with
  |none=>rw[q]at a;cases a
  |some j=>
   rw[q]at c a;have e:N.getD j ""=x:=bC c;have d:(f[j]?).getD none<*v:=bC a;obtain⟨h,g⟩:=S.fr j (bS q);refine(by rw[<-e];exact g,j,?_,?_,);·rw[o.names,<-e,aJ,aj h];rfl
   .cases w:f[j]? with
    |none=>rw[w]at d;cases d
    |some z=>rw[w]at d;exact congrArg some d
noncomputable abbrev HX(CX:CXT):Prop:=∀o H s e s',CX o H s E0 e s'->False
def Ok.comp{E:XS}{a:List Nat}{all:Bool}(d:HX CX)(S:oW sc sc' N own a)(o:Ok CX G E sc N all X)(C:Addr)(e:Shared)(b:Hp)(c:List Addr):
  Ok CX G N0 sc' (namesOf N own a) false (eF X (namesOf N own a) sc' C e b c) where
 names:=rfl
 nd:=S.nd
 loc:=λx h=>lookup_relabel_local (env:=X.env) h
 cel:=λx h=>gw (env:=X.env) h 'E'
 own:=λx h=>fS.mpr ⟨(x,.cell),bJ h,'F'⟩
 fre:=λx h=>(gP (env:=X.env) h).symm
 glo:=λx h=>gw (env:=X.env) h 'E'
 all:=λh=>absurd h 'E'
 calm:=o.calm
 hu:=o.hu
 val:=o.val
 fn:=o.fn
 ini:=o.ini
 dic:=o.dic
 mak:=o.mak
 mth:=o.mth
 blt:=o.blt
 px:=PassesOwn.never
 pass:=λ_ _ _ _ _ _ _ h=>(d _ _ _ _ _ h).elim
 made:=λ_ _ _ _ _ _ _ _ _ _ h=>h.elim
 madeX:=λ_ _ _ _ _ _ _ _ _ h=>h.elim
 cx:=o.cx
 top:=λh=>absurd h 'E'
def vg{all:Bool}{g:CG}(h:BN sc N all g e=true)(a:List Expr)(env:Env):iO (e::a) env=(false,assign e env)::iO a env:=by
 cases e<;>first
  |rfl
  | (cases g<;>exact dy h)
def vV{all:Bool}{g:CG}{r:CGs}{d:List Expr}(h:vW sc N all (.cons g r) d=true):∃b c,d=b::c/\BN sc N all g b=true/\vW sc N all r c=true:=
 let⟨b,c,a,k⟩:=xB h
 (b,c,a,an k,)
def yd{all:Bool}{a:List Expr}(h:vW sc N all .nil a=true):a=[]:=nil_of h
theorem tI{all:Bool}:∀{gs:CGs}{es:List Expr},vW sc N all gs es=true->∀env,(iO es env).length=gs.len/\(iO es env).findIdx? (·.1)=none
 |.nil,es,h,env=>by rw[yd h];exact(rfl,rfl,)
 |.cons g r,es,h,env=>by obtain⟨e,f,rfl,c,d⟩:=vV h;obtain⟨a,b⟩:=tI d env;rw[vg c];refine(by rw[aZ,a,CGs.len],?_,);rw[List.findIdx?_cons];simp[b]
end
section
variable {CX:CXT}{G:Gam}
noncomputable abbrev IHE(CX:CXT)(G:Gam)(c:CE):Prop:=∀(e:Expr){E:XS}{sc:Scope}{N:List Str}{all:Bool}{X:Cx},Ok CX G E sc N all X->dz sc N c e=true->PE X e (wpE G X.K E c)
noncomputable abbrev IHT(CX:CXT)(G:Gam)(c:CE):Prop:=∀(e:Expr){E:XS}{sc:Scope}{N:List Str}{all:Bool}{X:Cx},Ok CX G E sc N all X->dz sc N c e=true->PT X e (wpT G X.K E c)
abbrev isBo:Expr->Bool
 |.BoolOp .. =>true
 |_=>false
def isBo_of(h:isBo e=true):∃a es p,e=.BoolOp a es p:=by
 cases e<;>first
  |exact⟨_,_,_,rfl⟩
  |exact dy h
noncomputable abbrev IHW(CX:CXT)(G:Gam)(c:CE):Prop:=∀(e:Expr){E:XS}{sc:Scope}{N:List Str}{all:Bool}{X:Cx},Ok CX G E sc N all X->dz sc N c e=true->isBo e=true->PW X e (wpT G X.K E c)
noncomputable abbrev IHL(CX:CXT)(G:Gam)(c:CL):Prop:=∀(es:List Expr){E:XS}{sc:Scope}{N:List Str}{all:Bool}{X:Cx},Ok CX G E sc N all X->nG sc N c es=true->PA X es (wpL G X.K E c)
noncomputable abbrev IHP(CX:CXT)(G:Gam)(c:CP):Prop:=∀(ks:List (Option Expr))(vs:List Expr){E:XS}{sc:Scope}{N:List Str}{all:Bool}{X:Cx},Ok CX G E sc N all X->chkP sc N c ks vs=true->∀pos,
  PPs X pos ks vs (wpP G X.K E c)/\ks.all (·.isSome)=true/\ks.length=vs.length/\(c≠.nil->ks≠[])
noncomputable abbrev IHO(CX:CXT)(G:Gam)(c:CO):Prop:=∀(e:Option Expr){E:XS}{sc:Scope}{N:List Str}{all:Bool}{X:Cx},Ok CX G E sc N all X->chkO sc N c e=true->PO X e (wpO G X.K E c)
noncomputable abbrev IHC(CX:CXT)(G:Gam)(c:CO):Prop:=∀(es:List Expr){E:XS}{sc:Scope}{N:List Str}{all:Bool}{X:Cx},Ok CX G E sc N all X->chkC sc N c es=true->PTs X es (wpC G X.K E c)
noncomputable abbrev IHG(CX:CXT)(G:Gam)(c:CG):Prop:=∀(e:Expr){E:XS}{sc:Scope}{N:List Str}{all:Bool}{X:Cx},Ok CX G E sc N all X->BN sc N all c e=true->PG X e (wpG G X.K E c)
noncomputable abbrev KP(CX:CXT)(G:Gam)(c:CGs):Prop:=∀(es:List Expr){E:XS}{sc:Scope}{N:List Str}{all:Bool}{X:Cx},Ok CX G E sc N all X->vW sc N all c es=true->PGs X es (wpGs G X.K E c)
noncomputable abbrev IHI(CX:CXT)(G:Gam)(c:CI):Prop:=∀(e tg:Expr){E:XS}{sc:Scope}{N:List Str}{all:Bool}{X:Cx},Ok CX G E sc N all X->chkI sc N c e tg=true->PI X tg e (wpI G X.K E c)
def Iz:IHE CX G (.var i):=by intro e E g N all X o h;obtain⟨x,p,rfl,k⟩:=gQ h;obtain⟨c,d,f⟩:=gR k;obtain⟨a,b⟩:=gY f;exact Jj (by rw[o.names];exact beq_iff_eq.mp c) (o.vis d) a b
def IE{c:Const}:IHE CX G (.con c):=by
  intro e E g N all X o h;obtain⟨f,j,p,rfl,k⟩:=vS h;obtain⟨a,d⟩:=an k;cases W0 d;cases c with
  |none=>exact Jo
  |bool b=>exact pe_bl
  |int i=>exact yZ
  |str x=>exact Jl
  |_=>exact dy a
def ID:IHE CX G (.glo x):=by intro e E l N all X o h;obtain⟨y,p,rfl,k⟩:=gQ h;obtain⟨a,b,c⟩:=gR k;cases W0 a;intro i s j H Q I g;obtain⟨v,f,q⟩:=g;obtain⟨u,d,r⟩:=o.val _ _ f;exact EK (o.gl b) d r (gY c).1 i s j H Q I q
def sE_ty{t:Ty}:IHE CX G (.ty t):=by intro e E c N all X o h;obtain⟨y,p,rfl,k⟩:=gQ h;obtain⟨a,b⟩:=an k;cases W0 a;exact EN (o.gl b) (o.blt _ t.mem) t.boot rfl t.plain.1 t.plain.2
def sE_bin{op:Operator}{a b:CE}(g:IHE CX G a)(i:IHE CX G b):IHE CX G (.bin op a b):=by intro e E n N all X o h;obtain⟨j,m,l,p,rfl,k⟩:=Kx h;obtain⟨c,d,f⟩:=gR k;cases W0 c;exact pe_op (EB op) (g _ o d) (i _ o f)
def sE_un{op:UnaryOp}{a:CE}(d:IHE CX G a):IHE CX G (.un op a):=by intro e E i N all X o h;obtain⟨g,f,p,rfl,k⟩:=DG h;obtain⟨b,c⟩:=an k;cases W0 b;exact pe_un (rUn_ok op) (d _ o c)
def sE_cmp{op:CmpOp}{a b:CE}(i:IHE CX G a)(j:IHE CX G b):IHE CX G (.cmp op a b):=by intro e E q N all X o h;obtain⟨l,n,m,p,rfl,c,k⟩:=sD h;obtain⟨d,f,g⟩:=gR k;cases W0 d;exact EM (oH o.hu op) (i _ o f) (j _ o g) (iJ c op)
def IF{f d:CmpOp}{a b c:CE}(t:IHE CX G a)(u:IHE CX G b)(v:IHE CX G c):IHE CX G (.chain f d a b c):=by intro e E D N all X o h;obtain⟨w,A,z,p,rfl,k⟩:=DK h;obtain⟨B,C,rfl,l⟩:=qT k;obtain⟨x,y,rfl,m⟩:=qT l;obtain⟨g,i,j,n⟩:=lG m;obtain⟨q,r,s⟩:=gR n;cases W0 g;cases W0 i;exact Jt (oH o.hu f) (oH o.hu d) (t _ o q) (u _ o r) (v _ o s) (iJ (o8 j) d)
def sE_not{a:CE}(d:IHE CX G a):IHE CX G (.not a):=by intro e E i N all X o h;obtain⟨g,f,p,rfl,k⟩:=DG h;obtain⟨b,c⟩:=an k;cases W0 b;exact pe_not (d _ o c)
def sE_and{a b:CE}(f:IHE CX G a)(g:IHE CX G b):IHE CX G (.and a b):=by
  intro e E s N all X o h;obtain⟨q,j,x,p,k,m⟩:=qh h;obtain⟨i,c,d⟩:=gR k;cases W0 i;rcases m with rfl|⟨l,n,r,rfl,rfl⟩;·exact Jx (f _ o c) (Jn (g _ o d))
  .exact Jx (f _ o c) (g _ o d)
def sE_or{a b:CE}(f:IHE CX G a)(g:IHE CX G b):IHE CX G (.or a b):=by
  intro e E s N all X o h;obtain⟨q,j,x,p,k,m⟩:=qh h;obtain⟨i,c,d⟩:=gR k;cases W0 i;rcases m with rfl|⟨l,n,r,rfl,rfl⟩;·exact pe_or (f _ o c) (Jn (g _ o d))
  .exact pe_or (f _ o c) (g _ o d)
def sE_ite{c a b:CE}(l:IHT CX G c)(i:IHE CX G a)(j:IHE CX G b):IHE CX G (.ite c a b):=by intro e E r N all X o h;obtain⟨q,m,n,p,rfl,k⟩:=dIf_of h;obtain⟨d,f,g⟩:=gR k;exact Jq (l _ o d) (i _ o f) (j _ o g)
def IC{a i:CE}(f:IHE CX G a)(g:IHE CX G i):IHE CX G (.idx a i):=by intro e E m N all X o h;obtain⟨j,l,p,rfl,k⟩:=vR h;obtain⟨b,c,d⟩:=gR k;exact pe_ix ix_seq (f _ o c) (g _ o d) (Jh (o8 b))
def sE_cut{a:CE}{lo hi:CO}(g:IHE CX G a)(j:IHO CX G lo)(i:IHO CX G hi):IHE CX G (.cut a lo hi):=by intro e E v N all X o h;obtain⟨q,s,p,rfl,k⟩:=vR h;obtain⟨l,u,t,r,rfl,m⟩:=dSl_of k;obtain⟨b,c,n⟩:=gR m;obtain⟨d,f⟩:=an n;cases lL.mp b;exact Jm rSlc_ok (g _ o c) (j _ o d) (i _ o f)
def sE_tup{a:CL}(b:IHL CX G a):IHE CX G (.tup a):=by intro e E d N all X o h;obtain⟨c,j,p,rfl,k⟩:=DH h;exact Jk (b _ o k)
def sE_lst{a:CL}(b:IHL CX G a):IHE CX G (.lst a):=by intro e E d N all X o h;obtain⟨c,p,rfl,k⟩:=Kr h;exact Jp (b _ o k)
def sE_dic{ps:CP}(l:IHP CX G ps):IHE CX G (.dic ps):=by
  intro e E v N all X o h;obtain⟨m,u,p,rfl,k⟩:=Kv h;obtain⟨g,c⟩:=an k;intro d s f H Q I a;rcases a with⟨b,a⟩ |⟨b,a⟩;·subst b;obtain⟨i,j⟩:=an c;obtain rfl:=nil_of i;obtain rfl:=nil_of j;exact Jr d s f H Q I a
  .obtain⟨n,q,r,t⟩:=l m u o c p;exact pe_disp n q r (t b) (W0 g) d s f H Q I a
def Es{f:Str}{b:CL}(y:IHL CX G b):IHE CX G (.call f b):=by
  intro e E L N all X o h;obtain⟨B,J,u,p,rfl,k⟩:=iC h;obtain⟨v,d,g,c⟩:=lG k;cases W0 v;intro r s t H Q I a;obtain⟨M,A,x,a⟩:=a;obtain⟨C,D,K,z,k,F,n,m,l,i,j⟩:=o.fn _ _ _ _ x;cases u with
  |nil=>
   cases b with
   |nil=>exact Gg F n (o.gl d) m l i j o.pass (gY g).1 r s t H Q I a
   |cons=>exact dy c
  |cons e1 r1=>have w:=y _ o c;obtain⟨_,_,e,q⟩:=AF c rfl;cases e;exact Ju F n (o.gl d) m l i j o.pass w (gY g).1 (q _ p).1 (q _ _).2 r s t H Q I a
def Bf.kind:∀b:Bf,(∃n,b.val=.builtin n)\/∃n,b.val=.type n:=by intro b;cases b<;>first |exact .inl ⟨_,rfl⟩ |exact .inr ⟨_,rfl⟩
def Jw{b:Bf}{a:List Expr}{t:TA}{l:CL}(c:fU X b.val (rBf X.K b))(i:Gl X b.name)(j:X.mg b.name=none)(g:PA X a t)(k:(!a.isEmpty)=true)(h:nG sc N l a=true):PE X (.Call (.Name b.name np) a [] pos) (tCB (rBf X.K b) t):=by
 obtain⟨e,m,rfl,d⟩:=AF h k;have f:=b.boot;rcases b.kind with⟨n,q⟩ |⟨n,q⟩;·rw[q]at c f;exact Jv c i j f g b.plain.1 b.plain.2 (d _ pos).1 (d _ _).2
 .rw[q]at c f;exact Gf c i j f g b.plain.1 b.plain.2 (d _ pos).1 (d _ _).2
def IG{b:Bf}{a:CL}(i:IHL CX G a):IHE CX G (.bfn b a):=by intro e E n N all X o h;obtain⟨l,m,j,p,rfl,k⟩:=iC h;obtain⟨d,f,g,c⟩:=lG k;cases W0 d;exact Jw (rBf_ok o.calm o.hu b) (o.gl f) (o.blt _ b.mem) (i _ o c) g c
def IB{m:Mm}{b:CE}(g:IHE CX G b):IHE CX G (.meth0 m b):=by intro e E p N all X o h;obtain⟨n,i,l,j,rfl,a,k⟩:=sC h;obtain⟨c,d,f⟩:=gR k;obtain rfl:=nil_of c;exact pe_bm0 mS m.slot m.ty (C5 m) (g _ o f) (rq d _ _ _) a
def IA{m:Mm}{b a:CE}(j:IHE CX G b)(i:IHE CX G a):IHE CX G (.meth1 m b a):=by intro e E t N all X o h;obtain⟨s,p,r,q,rfl,d,k⟩:=sC h;obtain⟨n,rfl,l⟩:=jJ k;obtain⟨f,g,c⟩:=gR l;exact pe_bm mS m.slot m.ty (C5 m) (j _ o g) (gf (i _ o c) kq (bY c _ _)) (rq f _ _ _) (by rw[bY c];rfl) d (bY c _ _) rfl
def KC{l:CL}{a:List Expr}(h:nG sc N l a=true)(d:l.len<29)(env:Env)(b:Pos):((backTo b (bx a env)).all (λx=> !x.1)&&(um b (lJ [] env)).all (λx=>x.1.isSome)
   &&decide (a.length+([]:List Keyword).length+(if([]:List Keyword).isEmpty then 0 else 1)<30))=true:=by
 have c:=qk h env b;rw[aN,aN];refine((?_,rfl,),?_,);·rw[List.any_eq_false]at c;exact cY.mpr λx e=>by simpa using c x e
 .rw[decide_eq_true_eq,BL h];exact fv d 'E'
def sE_base{c:CL}(z:IHL CX G c):IHE CX G (.base x c):=by intro e E M N all X o h;obtain⟨L,F,J,b,rfl,f,k⟩:=sC h;obtain⟨O,K,rfl,l⟩:=gQ k;obtain⟨g,i,j,m⟩:=lG l;obtain⟨n,p,a⟩:=gR m;cases W0 g;intro A s D H Q I y;obtain⟨B,w,q⟩:=y;obtain⟨u,v,C⟩:=o.val _ _ w;obtain rfl:u=bo B:=C;have t:=z _ o a;have r:=KC a (W0 n) X.env b;obtain⟨_,_,rfl,d⟩:=AF a p;exact pe_base (o.gl i) v t (gY j).1 (d _ b).1 (d _ _).2 r f A s D H Q I q
def sE_fld{a:CE}{f:Str}(d:IHE CX G a):IHE CX G (.fld a f):=by intro e E j N all X o h;obtain⟨v,g,p,rfl,k⟩:=zA h;obtain⟨n,i,rfl,l⟩:=gQ k;obtain⟨b,c⟩:=an l;cases W0 b;exact EL (d _ o c)
def sE_lzip{a b:CE}(u:IHE CX G a)(v:IHE CX G b):IHE CX G (.lzip a b):=by intro e E z N all X o h;obtain⟨_,p,_,t,rfl,i⟩:=iC h;obtain⟨x,rfl,j⟩:=jJ i;obtain⟨_,q,_,r,rfl,l⟩:=iC j;obtain⟨w,y,rfl,m⟩:=qT l;obtain⟨f,g,k,s,n⟩:=and5 m;obtain⟨c,d⟩:=an n;cases W0 f;cases W0 g;exact pe_lzip o.calm (o.gl s) (o.blt _ (by decide+kernel)) (o.gl k) (o.blt _ (by decide+kernel)) (gf (u _ o c) (gf (v _ o d) kq (bY d _ _)) (bY c _ _)) (bY c _ _) (by rw[bY d];rfl)
def sE_sset{a:CE}(f:IHE CX G a):IHE CX G (.sset a):=by intro e E i N all X o h;obtain⟨p,g,q,r,t,rfl,c,d,b⟩:=Kt h;exact AY o.calm (o.gl c) (o.blt _ (by decide+kernel)) (o.gl d) (o.blt _ (by decide+kernel)) (gf (f _ o b) kq (bY b _ _)) (bY b _ _)
def sE_lrev{a:CE}(f:IHE CX G a):IHE CX G (.lrev a):=by intro e E i N all X o h;obtain⟨p,g,q,r,t,rfl,c,d,b⟩:=Kt h;exact pe_lrev o.calm (o.gl c) (o.blt _ (by decide+kernel)) (o.gl d) (o.blt _ (by decide+kernel)) (gf (f _ o b) kq (bY b _ _)) (bY b _ _)
def m1_of{o:Expr}{m:Str}{a b:Pos}{c:CE}(d:baseOk o=true)(h0:(a.endLine==b.line)=true)(h:dz sc N c e=true):M1 X o m a e b:=⟨rq d _ _ _,by rw[bY h];rfl,h0,by rw[bY h];rfl⟩
def sE_x2{k:X2}{a b:CE}(m:IHE CX G a)(n:IHE CX G b):IHE CX G (.x2 k a b):=by
  intro e E P N all X o w;obtain⟨_,h⟩:=an w;have r:X.A.units+1<cLine:=by have :=o.hu;lia
  cases k with
  |idxk=>obtain⟨i,I,p,rfl,k⟩:=vR h;obtain⟨g,k⟩:=an k;obtain⟨f,d⟩:=an k;exact pe_dget r (m _ o f) (n _ o d) (noSl (o8 g))
  |nink=>obtain⟨i,C,q,p,rfl,l,k⟩:=sD h;obtain⟨g,k⟩:=an k;obtain⟨f,d⟩:=an k;cases W0 g;exact pe_cmp (xH r (m _ o f) (n _ o d)) (iJ l _)
  |getk=>obtain⟨L,D,H,F,rfl,l,k⟩:=sC h;obtain⟨i,rfl,k⟩:=jJ k;obtain⟨g,k⟩:=an k;obtain⟨f,d⟩:=an k;exact Js r (m _ o f) (n _ o d) (m1_of g l d)
  |odd=>
   obtain⟨K,Q,p,rfl,x⟩:=Kv h;obtain⟨i,q,rfl,y⟩:=qT x;obtain⟨v,u,rfl,z⟩:=qT y;obtain⟨A,B,s⟩:=gR z;obtain⟨c,j,M,rfl,t⟩:=vS A;cases W0 t;obtain⟨c,J,O,rfl,t⟩:=vS B;cases W0 t;cases i with
   |none=>exact dy s
   |some i=>
    cases q with
    |none=>exact dy s
    |some q=>obtain⟨f,d⟩:=an s;exact pe_odd 'D' (m _ o f) (n _ o d) yZ yZ
  |eqF=>obtain⟨i,C,q,p,rfl,l,k⟩:=sD h;obtain⟨g,k⟩:=an k;obtain⟨f,d⟩:=an k;cases W0 g;exact EM (JA (by have :=o.hu;lia)) (m _ o f) (n _ o d) (iJ l _)
def sT_x2{k:X2}{a b:CE}(i:IHE CX G a)(j:IHE CX G b):IHT CX G (.x2 k a b):=by
  intro e E s N all X o n;obtain⟨_,h⟩:=an n;have q:X.A.units+1<cLine:=by have :=o.hu;lia
  cases k with
  |nink=>obtain⟨l,r,m,p,rfl,g,k⟩:=sD h;obtain⟨c,k⟩:=an k;obtain⟨d,f⟩:=an k;cases W0 c;exact pt_cmp (xH q (i _ o d) (j _ o f)) (iJ g _)
  |eqF=>obtain⟨l,r,m,p,rfl,g,k⟩:=sD h;obtain⟨c,k⟩:=an k;obtain⟨d,f⟩:=an k;cases W0 c;exact EF (JA (by have :=o.hu;lia)) (i _ o d) (j _ o f) (iJ g _)
  |_=>exact λ_ _ _ _ _ _ z=>z.elim
def sE_thaw{a:CE}(b:IHE CX G a):IHE CX G (.yD a):=by intro e E c N all X o h;exact pe_thaw (b _ o (an h).2)
def sE_comp(c:HX CX){n:List Nat}{j:CG}{i:CI}{f:CO}{g:CE}(B:IHI CX G i)(A:IHG CX G j)(x:IHC CX G f)(z:IHE CX G g):IHE CX G (.comp own n j i f g):=by
  intro e E J N all X o h;obtain⟨D,F,K,p,rfl,k⟩:=DJ h;obtain⟨⟨L,I,H,y⟩,rfl,l⟩:=jJ k;obtain⟨q,r,s,m⟩:=lG l;obtain⟨t,u,v,w⟩:=lG m;cases W0 q;have S:=u4 r;exact pe_comp (S.comp o) (S.mkOk o) o.calm (B _ _ o t)
   (λC d a b _=>(A _ (o.comp c S C d a b) u,x _ (o.comp c S C d a b) v,z _ (o.comp c S C d a b) w,)) (zi (o8 s) _)
def sT_cmp{op:CmpOp}{a b:CE}(i:IHE CX G a)(j:IHE CX G b):IHT CX G (.cmp op a b):=by intro e E q N all X o h;obtain⟨l,n,m,p,rfl,c,k⟩:=sD h;obtain⟨d,f,g⟩:=gR k;cases W0 d;exact EF (oH o.hu op) (i _ o f) (j _ o g) (iJ c op)
def Iq{f d:CmpOp}{a b c:CE}(t:IHE CX G a)(u:IHE CX G b)(v:IHE CX G c):IHT CX G (.chain f d a b c):=by intro e E D N all X o h;obtain⟨w,A,z,p,rfl,k⟩:=DK h;obtain⟨B,C,rfl,l⟩:=qT k;obtain⟨x,y,rfl,m⟩:=qT l;obtain⟨g,i,j,n⟩:=lG m;obtain⟨q,r,s⟩:=gR n;cases W0 g;cases W0 i;exact IY (oH o.hu f) (oH o.hu d) (t _ o q) (u _ o r) (v _ o s) (iJ (o8 j) d)
def sT_not{a:CE}(d:IHT CX G a):IHT CX G (.not a):=by intro e E i N all X o h;obtain⟨g,f,p,rfl,k⟩:=DG h;obtain⟨b,c⟩:=an k;cases W0 b;exact pt_not (d _ o c)
def sT_var:IHT CX G (.var i):=by intro e E a N all X o h;have q:=Iz e o h;obtain⟨x,p,rfl,k⟩:=gQ h;exact ko q λ_=>rfl
def sT_con{c:Const}:IHT CX G (.con c):=by intro e E a N all X o h;have q:=IE e o h;obtain⟨x,j,p,rfl,k⟩:=vS h;exact ko q λ_=>rfl
def sT_glo:IHT CX G (.glo x):=by intro e E a N all X o h;have q:=ID e o h;obtain⟨x,p,rfl,k⟩:=gQ h;exact ko q λ_=>rfl
def sT_idx{a i:CE}(b:IHE CX G a)(c:IHE CX G i):IHT CX G (.idx a i):=by intro e E d N all X o h;have q:=IC b c e o h;obtain⟨x,y,p,rfl,k⟩:=vR h;exact ko q λ_=>rfl
def sT_call{f:Str}{a:CL}(b:IHL CX G a):IHT CX G (.call f a):=by intro e E d N all X o h;have q:=Es b e o h;obtain⟨x,c,a,p,rfl,k⟩:=iC h;exact ko q λ_=>rfl
def sT_bfn{b:Bf}{a:CL}(c:IHL CX G a):IHT CX G (.bfn b a):=by intro e E f N all X o h;have q:=IG c e o h;obtain⟨x,d,a,p,rfl,k⟩:=iC h;exact ko q λ_=>rfl
def Io{a b:CE}(f:IHT CX G a)(i:IHT CX G b)(j:IHW CX G b):IHW CX G (.and a b):=by
  intro e E t N all X o h;obtain⟨s,l,x,p,k,m⟩:=qh h;obtain⟨g,c,d⟩:=gR k;cases W0 g;rcases m with rfl|⟨n,q,r,rfl,rfl⟩;·exact λ_=>C6 (f _ o c) (ED (i _ o d))
  .exact λ_=>C6 (f _ o c) (j _ o d rfl)
def sT_and{a b:CE}(c:IHW CX G (.and a b)):IHT CX G (.and a b):=by intro e E j N all X o h;obtain⟨i,d,x,p,k,m⟩:=qh h;exact(c _ o h (by rcases m with rfl|⟨f,g,r,rfl,rfl⟩<;>rfl)).pt
def sW_or{a b:CE}(f:IHT CX G a)(i:IHT CX G b)(j:IHW CX G b):IHW CX G (.or a b):=by
  intro e E t N all X o h;obtain⟨s,l,x,p,k,m⟩:=qh h;obtain⟨g,c,d⟩:=gR k;cases W0 g;rcases m with rfl|⟨n,q,r,rfl,rfl⟩;·exact λ_=>pw_or (f _ o c) (pw_or1 (i _ o d))
  .exact λ_=>pw_or (f _ o c) (j _ o d rfl)
def sT_or{a b:CE}(c:IHW CX G (.or a b)):IHT CX G (.or a b):=by intro e E j N all X o h;obtain⟨i,d,x,p,k,m⟩:=qh h;exact(c _ o h (by rcases m with rfl|⟨f,g,r,rfl,rfl⟩<;>rfl)).pt
def sL_nil:IHL CX G .nil:=by intro a E b N all X o h;obtain rfl:=oi h;exact kq
def sL_cons{c:CE}{r:CL}(d:IHE CX G c)(e:IHL CX G r):IHL CX G (.cons c r):=by intro g E j N all X o h;obtain⟨f,i,rfl,a,b⟩:=l9 h;exact gf (d _ o a) (e _ o b) (bY a _ _)
def sP_nil:IHP CX G .nil:=by intro c f E e N all X o h d;obtain⟨a,b⟩:=an h;obtain rfl:=nil_of a;obtain rfl:=nil_of b;exact(pps_nil,rfl,rfl,λz=>absurd rfl z,)
def sP_cons{k v:CE}{r:CP}(e:IHP CX G r)(d:IHE CX G k)(f:IHE CX G v):IHP CX G (.cons k v r):=by intro s x E u N all X o h q;obtain⟨g,t,rfl,l⟩:=xB h;obtain⟨w,y,rfl,m⟩:=xB l;obtain⟨g,rfl,n⟩:=ER m;obtain⟨a,b,c⟩:=gR n;obtain⟨i,j,p,_⟩:=e _ _ o c q;exact⟨Jg (d _ o a) (f _ o b) i,by simp[j],by simp[p],λ_=>by simp⟩
def sO_no:IHO CX G .no:=by intro e E a N all X o h;obtain rfl:=lL.mp h;exact po_none
def sO_yes{c:CE}(a:IHE CX G c):IHO CX G (.yes c):=by intro e E d N all X o h;obtain⟨b,rfl,k⟩:=ER h;exact po_some (a _ o k)
def sC_no:IHC CX G .no:=by intro a E b N all X o h;obtain rfl:=nil_of h;exact pts_nil
def sC_yes{c:CE}(a:IHT CX G c):IHC CX G (.yes c):=by intro d E e N all X o h;obtain⟨b,rfl,k⟩:=jJ h;exact pts_one (a _ o k)
def sG_name:IHG CX G (.name i):=by
  intro e E c N all X o h;obtain⟨x,p,rfl,k⟩:=gQ h;rw[aN,du,beq_iff_eq,beq_iff_eq,beq_iff_eq]at k;obtain⟨b,a⟩:=k;refine yY (by rw[o.names];exact o.nd) (by rw[o.names];exact b) ?_ ?_
  .rcases a with q|q;·exact .inl (o.loc x q)
   .exact .inr (o.cel x q)
  .rcases a with q|q;·exact .inr (o.loc x q)
   .exact .inl (o.own x q)
def sG_tup{gs:CGs}(c:KP CX G gs):IHG CX G (.tup gs):=by intro e E f N all X o h;obtain⟨d,j,p,rfl,k⟩:=DH h;obtain⟨a,b⟩:=tI k X.env;exact pg_tup o.calm (c _ o k) a b
def sGs_nil:KP CX G .nil:=by intro a E b N all X o h;obtain rfl:=yd h;exact pgs_nil
def Iy{c:CG}{r:CGs}(d:IHG CX G c)(e:KP CX G r):KP CX G (.cons c r):=by intro g E j N all X o h;obtain⟨f,i,rfl,a,b⟩:=vV h;exact Ji (d _ o a) (e _ o b) (by rw[vg a];rfl)
def sI_seq{c:CE}(a:IHE CX G c):IHI CX G (.seq c):=by intro e d E b N all X o h;exact pi_any (a _ o h)
def sI_lseq{c:CE}(a:IHE CX G c):IHI CX G (.lseq c):=by intro e d E b N all X o h;exact pi_list (a _ o h)
def F0{c:CE}(g:IHE CX G c):IHI CX G (.range1 c):=by intro e q E n N all X o h;obtain⟨f,m,j,p,rfl,k⟩:=iC h;obtain⟨i,rfl,l⟩:=jJ k;obtain⟨b,d,a⟩:=gR l;cases W0 b;exact Gd (o.gl d) (o.blt _ (by decide+kernel)) (gf (g _ o a) kq (bY a _ _)) (bY a _ _)
def FZ{a b:CE}(j:IHE CX G a)(m:IHE CX G b):IHI CX G (.range2 a b):=by intro e u E t N all X o h;obtain⟨f,s,r,p,rfl,k⟩:=iC h;obtain⟨n,q,rfl,l⟩:=qT k;obtain⟨g,i,d,c⟩:=lG l;cases W0 g;exact Gc (o.gl i) (o.blt _ (by decide+kernel)) (gf (j _ o d) (gf (m _ o c) kq (bY c _ _)) (bY d _ _)) (by rw[bY d,bY c];rfl) (bY c _ _)
def xX(h:qd e=true):∃es k p,e=.Tuple es k p:=by cases e<;>first |exact⟨_,_,_,rfl⟩ |exact dy h
def sI_zip{a b:CE}(q:IHE CX G a)(r:IHE CX G b):IHI CX G (.zip a b):=by intro e x E w N all X o h;obtain⟨f,u,g,p,rfl,k⟩:=iC h;obtain⟨s,t,rfl,l⟩:=qT k;obtain⟨i,m,c,d,n⟩:=and5 l;cases W0 i;obtain⟨g,j,v,rfl⟩:=xX n;exact pi_zip (o.gl m) (o.blt _ (by decide+kernel)) (gf (q _ o c) (gf (r _ o d) kq (bY d _ _)) (bY c _ _)) (bY c _ _) (by rw[bY d];rfl)
def Iw{c:CE}(a:IHE CX G c):IHI CX G (.dkeys c):=by intro e d E b N all X o h;exact pi_keys (a _ o h)
def F3{c:CE}(l:IHE CX G c):IHI CX G (.ditems c):=by intro e s E r N all X o h;obtain⟨p,m,a,n,rfl,b,k⟩:=sC h;obtain⟨d,f,g,i⟩:=lG k;obtain rfl:=nil_of d;obtain⟨a,j,q,rfl⟩:=xX i;exact Ge (l _ o g) (rq f _ _ _) b
def Iv{c:CE}(g:IHE CX G c):IHI CX G (.lrevd c):=by intro e q E n N all X o h;obtain⟨f,m,j,p,rfl,k⟩:=iC h;obtain⟨i,rfl,l⟩:=jJ k;obtain⟨b,d,a⟩:=gR l;cases W0 b;exact pi_rev (o.gl d) (o.blt _ (by decide+kernel)) (gf (g _ o a) kq (bY a _ _)) (bY a _ _)
mutual
theorem bI(d:HX CX):∀c:CE,IHE CX G c
 |.var i=>Iz
 |.con c=>IE
 |.glo x=>ID
 |.ty t=>sE_ty
 |.bin op a b=>sE_bin (bI d a) (bI d b)
 |.un op a=>sE_un (bI d a)
 |.cmp op a b=>sE_cmp (bI d a) (bI d b)
 |.chain o1 o2 a b c=>IF (bI d a) (bI d b) (bI d c)
 |.not a=>sE_not (bI d a)
 |.and a b=>sE_and (bI d a) (bI d b)
 |.or a b=>sE_or (bI d a) (bI d b)
 |.ite c a b=>sE_ite (jf d c) (bI d a) (bI d b)
 |.idx a i=>IC (bI d a) (bI d i)
 |.cut a lo hi=>sE_cut (bI d a) (Ih d lo) (Ih d hi)
 |.tup es=>sE_tup (lg d es)
 |.lst es=>sE_lst (lg d es)
 |.dic ps=>sE_dic (Ig d ps)
 |.call f es=>Es (lg d es)
 |.bfn b es=>IG (lg d es)
 |.meth0 m b=>IB (bI d b)
 |.meth1 m b a=>IA (bI d b) (bI d a)
 |.base x es=>sE_base (lg d es)
 |.fld a f=>sE_fld (bI d a)
 |.lzip a b=>sE_lzip (bI d a) (bI d b)
 |.sset a=>sE_sset (bI d a)
 |.lrev a=>sE_lrev (bI d a)
 |.x2 k a b=>sE_x2 (bI d a) (bI d b)
 |.yD a=>sE_thaw (bI d a)
 |.comp own fr tg it cond elt=>sE_comp d (CU d it) (uZ d tg) (Ii d cond) (bI d elt)
theorem jf(d:HX CX)(c:CE):IHT CX G c:=by
 cases c with
 |cmp op a b=>exact sT_cmp (bI d a) (bI d b)
 |chain p q a b c=>exact Iq (bI d a) (bI d b) (bI d c)
 |not a=>exact sT_not (jf d a)
 |and a b=>exact sT_and (Io (jf d a) (jf d b) (yM d b))
 |or a b=>exact sT_or (sW_or (jf d a) (jf d b) (yM d b))
 |var i=>exact sT_var
 |con c=>exact sT_con
 |glo x=>exact sT_glo
 |idx a i=>exact sT_idx (bI d a) (bI d i)
 |call f es=>exact sT_call (lg d es)
 |bfn b es=>exact sT_bfn (lg d es)
 |x2 k a b=>exact sT_x2 (bI d a) (bI d b)
 |_=>exact λ_ _ _ _ _ _ _ _ _ _ _ _ _ _ z=>z.elim
theorem yM(d:HX CX)(c:CE):IHW CX G c:=by
 cases c with
 |and a b=>exact Io (jf d a) (jf d b) (yM d b)
 |or a b=>exact sW_or (jf d a) (jf d b) (yM d b)
 |_=>intro e E j N all X o h f;obtain⟨i,g,p,rfl⟩:=isBo_of f;exact dy h
theorem lg(a:HX CX):∀c:CL,IHL CX G c
 |.nil=>sL_nil
 |.cons c r=>sL_cons (bI a c) (lg a r)
theorem Ig(a:HX CX):∀c:CP,IHP CX G c
 |.nil=>sP_nil
 |.cons k v r=>sP_cons (Ig a r) (bI a k) (bI a v)
theorem Ih(a:HX CX):∀c:CO,IHO CX G c
 |.no=>sO_no
 |.yes c=>sO_yes (bI a c)
theorem Ii(a:HX CX):∀c:CO,IHC CX G c
 |.no=>sC_no
 |.yes c=>sC_yes (jf a c)
theorem uZ(a:HX CX):∀c:CG,IHG CX G c
 |.name i=>sG_name
 |.tup gs=>sG_tup (Ep a gs)
theorem Ep(a:HX CX):∀c:CGs,KP CX G c
 |.nil=>sGs_nil
 |.cons c r=>Iy (uZ a c) (Ep a r)
theorem CU(d:HX CX):∀c:CI,IHI CX G c
 |.seq c=>sI_seq (bI d c)
 |.lseq c=>sI_lseq (bI d c)
 |.range1 c=>F0 (bI d c)
 |.range2 a b=>FZ (bI d a) (bI d b)
 |.zip a b=>sI_zip (bI d a) (bI d b)
 |.dkeys e=>Iw (bI d e)
 |.ditems e=>F3 (bI d e)
 |.lrevd e=>Iv (bI d e)
end
end
section
variable {CX:CXT}{G:Gam}
def Dj{all:Bool}{g:CG}(h:BN sc N all g tg=true)(a:(qd tg&&qd e)=false)(env:Env):swappedStores [tg] e env=pure none:=by
 cases tg with
 |Tuple es k p=>
  cases e<;>first
   |rfl
   | (exact Gu a)
 |List es p=>cases g<;>exact dy h
 |_=>rfl
def AA{a:Expr}{b:List Comprehension}{c:Scope}{d:Pos}{l:Nat}{env:Env}(h:env.kindOf x≠some .local):nj (.ListComp a b c d) (some (.Name x p)) l env=pure false:=by
 show(pure (env.blockKind== .function&&env.kindOf x==some .local&&p.line==d.line&& !(c.names.any λ(n,k)=>n==x&&(k== .local||k== .cell))):Sem Bool)=pure false;have e:(env.kindOf x==some eQ.local)=false:=by simpa using h
 rw[e,eU,gW,gW]
def CH{a:Expr}{b:List Comprehension}{c:Scope}{d:Pos}{l:Nat}{env:Env}(g:env.scope.kind=.function)(h:env.kindOf x<*.local)(i:p.line=d.line)
  (j:(c.names.any λy=>decide (y.1=x)&&(decide (y.2=.local)||decide (y.2=.cell)))=false):nj (.ListComp a b c d) (some (.Name x p)) l env=pure true:=by
 show(pure (env.blockKind== .function&&env.kindOf x==some .local&&p.line==d.line&& !(c.names.any λ(n,k)=>n==x&&(k== .local||k== .cell))):Sem Bool)=pure true;have e:env.blockKind=.function:=by unfold Env.blockKind;rw[g];rfl
 have f:(c.names.any λ(n,k)=>n==x&&(k==eQ.local||k==df))=false:=by rw[<-j];congr 1
 rw[e,h,i,f];simp
def DN{c:CE}(h:isCe c=true):∃own b tg it a elt,c=.comp own b tg it a elt:=by
 cases c with
 |comp own b tg it a elt=>exact(_,_,_,_,_,_,rfl,)
 |_=>exact dy h
def JF(h:qe e=false)(a:Expr)(l:Nat)(env:Env):KU [a] e l env=pure false:=by unfold KU;exact oM h _ _ _
structure OkL(G:Gam)(sc:Scope)(N:List Str)(X:Cx):Prop where
 names:X.N=N
 nd:N.Nodup
 loc:∀x,sc.names.lookup x<*.local->X.env.scope.names.lookup x<*.local
 cel:∀x,sc.names.lookup x<*.cell->X.env.scope.names.lookup x<*.cell
 fre:∀x,sc.names.lookup x<*.free->X.env.scope.names.lookup x<*.cell\/X.env.scope.names.lookup x<*.free
 glo:∀x,sc.names.lookup x<*.globalImplicit->X.env.scope.names.lookup x<*.globalImplicit
 all:∀x,X.fn x=true
 val:∀x v,G.val x<*v->∃u,X.mg x<*u/\RelV v u
 blt:∀x∈jw,X.mg x=none
def OkL.vis(o:OkL G sc N X)(h:Bu sc x=true):Vis X.env.scope x:=by
 unfold Bu at h;rw[du,du,beq_iff_eq,beq_iff_eq,beq_iff_eq]at h;rcases h with(h|h) |h;·exact .inl (o.loc x h)
 .exact .inr (.inl (o.cel x h))
 .rcases o.fre x h with q|q;·exact .inr (.inl q)
  .exact .inr (.inr q)
def OkL.gl(o:OkL G sc N X)(h:kJ sc x=true):Gl X x:=by unfold kJ at h;rw[beq_iff_eq]at h;exact o.glo x h
def isi_ok:fU X (.builtin "isinstance") (rBf X.K .isinstance):=qX.or qZ
mutual
theorem gZ(c:CE)(e:Expr){E:XS}(o:OkL G sc N X)(l:pD c=true)(h:dz sc N c e=true):PE X e (wpE G X.K E c):=by
 cases c with
 |var i=>obtain⟨x,p,rfl,k⟩:=gQ h;obtain⟨g,d,w⟩:=gR k;obtain⟨D,F⟩:=gY w;exact Jj (by rw[o.names];exact beq_iff_eq.mp g) (o.vis d) D F
 |con c=>
  obtain⟨V,j,p,rfl,k⟩:=vS h;obtain⟨g,d⟩:=an k;cases W0 d;cases c with
  |none=>exact Jo
  |bool b=>exact pe_bl
  |int i=>exact yZ
  |str x=>exact Jl
  |_=>exact dy g
 |glo x=>obtain⟨y,p,rfl,k⟩:=gQ h;obtain⟨g,d,w⟩:=gR k;cases W0 g;intro R s S H Q I O;obtain⟨v,M,q⟩:=O;obtain⟨u,L,r⟩:=o.val _ _ M;exact EK (o.gl d) L r (gY w).1 R s S H Q I q
 |ty t=>obtain⟨y,p,rfl,k⟩:=gQ h;obtain⟨g,d⟩:=an k;cases W0 g;exact EN (o.gl d) (o.blt _ t.mem) t.boot rfl t.plain.1 t.plain.2
 |lst z=>obtain⟨B,p,rfl,k⟩:=Kr h;exact Jp (nZ z _ o l k)
 |tup z=>obtain⟨B,j,p,rfl,k⟩:=DH h;exact Jk (nZ z _ o l k)
 |bfn b z=>
  obtain⟨J,P,B,p,rfl,k⟩:=iC h;obtain⟨g,d,w,A⟩:=lG k;cases W0 g;cases b with
  |isinstance=>exact Jw (b:=.isinstance) isi_ok (o.gl d) (o.blt _ (Bf.mem _)) (nZ z _ o l A) w A
  |isx=>exact Jw (b:=.isx) qY (o.gl d) (o.blt _ (Bf.mem _)) (nZ z _ o l A) w A
  |_=>exact dy l
 |fld a f=>obtain⟨v,J,p,rfl,k⟩:=zA h;obtain⟨n,P,rfl,m⟩:=gQ k;obtain⟨g,d⟩:=an m;cases W0 g;exact EL (gZ a _ o l d)
 |meth1 m a b=>obtain⟨l1,l2⟩:=an l;obtain⟨Y,T,z,W,rfl,K,k⟩:=sC h;obtain⟨C,rfl,n⟩:=jJ k;obtain⟨g,d,w⟩:=gR n;exact pe_bm mS m.slot m.ty (C5 m) (gZ a _ o l1 d) (gf (gZ b _ o l2 w) kq (bY w _ _)) (rq g _ _ _) (by rw[bY w];rfl) K (bY w _ _) rfl
 |bin op a b=>obtain⟨l1,l2⟩:=an l;obtain⟨C,Z,U,p,rfl,k⟩:=Kx h;obtain⟨g,d,w⟩:=gR k;cases W0 g;exact pe_op (EB op) (gZ a _ o l1 d) (gZ b _ o l2 w)
 |_=>exact dy l
theorem nZ(c:CL)(a:List Expr){E:XS}(o:OkL G sc N X)(l:vy c=true)(h:nG sc N c a=true):PA X a (wpL G X.K E c):=by
 cases c with
 |nil=>obtain rfl:=oi h;exact kq
 |cons c r=>obtain⟨e,f,rfl,b,d⟩:=l9 h;obtain⟨l1,l2⟩:=an l;exact gf (gZ c _ o l1 b) (nZ r _ o l2 d) (bY b _ _)
end
def vx(c:CE)(e:Expr){E:XS}(o:OkL G sc N X)(l:EX c=true)(h:dz sc N c e=true):PT X e (wpT G X.K E c)/\∀f b p,e≠.BoolOp f b p:=by
 cases c with
 |bfn b a=>
  cases b with
  |isx=>have d:=gZ (E:=E) (.bfn .isx a) e o l h;obtain⟨x,g,a,p,rfl,k⟩:=iC h;exact⟨pt_tru d (λ_=>rfl),λ_ _ _ z=>nomatch z⟩
  |_=>exact dy l
 |_=>exact dy l
def JW(c:CE)(e:Expr){E:XS}(o:OkL G sc N X)(l:liteT c=true)(h:dz sc N c e=true):PT X e (wpT G X.K E c):=by
 cases c with
 |and a b=>
  obtain⟨l1,l2⟩:=an l;obtain⟨t,n,x,p,k,m⟩:=qh h;obtain⟨d,f,g⟩:=gR k;cases W0 d;obtain⟨i,j⟩:=vx (E:=E) b x o l2 g;rcases m with rfl|⟨q,s,r,rfl,rfl⟩;·exact(C6 (vx a _ o l1 f).1 (ED i)).pt
  .exact absurd rfl (j _ _ _)
 |_=>refine(vx _ e o ?_ h).1;exact l
mutual
theorem JX(c:CS)(st:Stmt){E:XS}(o:OkL G sc N X)(l:liteS c=true)(h:chkS sc N c st=true):PS X st (wpS G X.K E c):=by
 cases c with
 |asg g e=>
  obtain⟨z,n,p,rfl,k⟩:=vT h;obtain⟨d,f,j,A⟩:=lG k;cases g with
  |name i=>
   obtain⟨x,p,rfl,m⟩:=gQ d;rw[aN,du,beq_iff_eq,beq_iff_eq,beq_iff_eq]at m;refine Je (gZ e _ o l f) ?_ (JF (o8 j) _ _ _) rfl rfl;refine yY (by rw[o.names];exact o.nd) (by rw[o.names];exact m.1) ?_ (.inl (o.all x));rcases m.2 with q|q;·exact .inl (o.loc x q)
   .exact .inr (o.cel x q)
  |_=>exact dy l
 |ret e=>obtain⟨r,p,rfl,k⟩:=DI h;obtain⟨n,rfl,m⟩:=ER k;exact Jb (gZ e _ o l m)
 |pass=>
  cases st<;>first
   |exact EG
   |exact dy h
 |expr e=>obtain⟨n,p,rfl,k⟩:=Ku h;obtain⟨s,t⟩:=an k;exact EH (gZ e _ o l s) (oM (o8 t) _ _ _)
 |iff c a b=>obtain⟨l1,l⟩:=an l;obtain⟨l2,u⟩:=an l;obtain⟨y,v,w,p,rfl,k⟩:=Ks h;obtain⟨d,f,j⟩:=gR k;exact ps_if (JW c _ o l1 d) (qQ a _ o l2 f) (qQ b _ o u j)
 |_=>exact dy l
theorem qQ(c:CB)(st:List Stmt){E:XS}(o:OkL G sc N X)(l:Bo c=true)(h:ql sc N c st=true):PSs X st (wpB G X.K E c):=by
 cases c with
 |hole=>exact dy l
 |nil=>obtain rfl:=nil_of h;exact yW
 |cons s r=>obtain⟨l1,l2⟩:=an l;obtain⟨e,d,rfl,k⟩:=xB h;obtain⟨a,b⟩:=an k;exact AW (JX s _ o l1 a) (qQ r _ o l2 b)
end
mutual
theorem Ie(f:HX CX):∀(c:CS)(st:Stmt){E:XS}{sc:Scope}{N:List Str}{X:Cx},Ok CX G E sc N true X->(∀pins σ H s,'A'->X.env.scope.kind=.function)->chkS sc N c st=true->PS X st (wpS G X.K E c)
 |.asg g e,st,E,sc,N,X,o,hk,h=>by obtain⟨K,A,p,rfl,k⟩:=vT h;obtain⟨j,r,t,v⟩:=lG k;exact Je (bI f e _ o r) (uZ f g _ o j) (oM (o8 t) _ _ _) (Dj j (o8 v) _) (by rw[vg j];rfl)
 |.asgc i e,st,E,sc,N,X,o,hk,h=>by
  obtain⟨T,h⟩:=an h;obtain⟨K,A,sp,rfl,k⟩:=vT h;obtain⟨x,p,rfl,l⟩:=gQ k;obtain⟨a,b,c,d,rfl,m⟩:=DJ l;obtain⟨j,r,t,v⟩:=lG m;rw[beq_iff_eq]at j;rw[du,beq_iff_eq,beq_iff_eq]at r;rw[du,beq_iff_eq]at v;obtain⟨own,fr,tg,V,a3,a4,rfl⟩:=DN T;by_cases hl:X.env.scope.names.lookup x<*.local
  .rcases v with q|q;·rw[o.cel x q]at hl;cases hl
   obtain⟨q1,q2⟩:=an q;obtain⟨b1,gs,b5,p',e1,r1⟩:=DJ t;cases e1;obtain⟨⟨b6,b3,b2,b7⟩,rfl,r2⟩:=jJ r1;obtain⟨g0,g1,g2,r3⟩:=lG r2;obtain⟨g3,g4,g5,g6⟩:=lG r3;cases W0 g0;have S:=u4 g1;intro pins s σ H D I w;exact C8 (S.comp o) (S.mkOk o) o.calm (CU f V _ _ o g3)
    (λC Z M R _=>(uZ f tg _ (o.comp f S C Z M R) g4,Ii f a3 _ (o.comp f S C Z M R) g5,bI f a4 _ (o.comp f S C Z M R) g6,))
    (by rw[o.names];exact o.nd) (by rw[o.names];exact j) hl (CH (hk pins σ H s I) hl (W0 q1) (o8 q2)) (zi (o8 g2) _) pins s σ H D I w
  .have hc:sc.names.lookup x<*.cell:=by
    rcases r with q|q;·exact absurd (o.loc x q) hl
    .exact q
   exact ps_set (by rw[o.names];exact o.nd) (by rw[o.names];exact j) (.inr (o.cel x hc)) (bI f _ _ o t) (AA (by rw[show X.env.kindOf x=_ from o.cel x hc];decide)) (.inl (o.all rfl x))
 |.expr e,st,E,sc,N,X,o,hk,h=>by obtain⟨A,p,rfl,k⟩:=Ku h;obtain⟨j,r⟩:=an k;exact EH (bI f e _ o j) (oM (o8 r) _ _ _)
 |.iff c a b,st,E,sc,N,X,o,hk,h=>by obtain⟨c',a',P,p,rfl,k⟩:=Ks h;obtain⟨j,r,t⟩:=gR k;exact ps_if (jf f c _ o j) (pX f a _ o hk r) (pX f b _ o hk t)
 |.whl c b,st,E,sc,N,X,o,hk,h=>by obtain⟨c',P,p,rfl,k⟩:=dWh_of h;obtain⟨j,r⟩:=an k;exact Ja o.px (jf f c _ o j) (pX f b _ o hk r)
 |.forr g V b,st,E,sc,N,X,o,hk,h=>by obtain⟨K,i',P,p,rfl,k⟩:=dFo_of h;obtain⟨j,r,t,v⟩:=lG k;exact ps_for o.px o.calm (CU f V _ _ o r) (uZ f g _ o j) (pX f b _ o hk v) (zi (o8 t) _)
 |.ret e,st,E,sc,N,X,o,hk,h=>by obtain⟨a8,p,rfl,k⟩:=DI h;obtain⟨A,rfl,m⟩:=ER k;exact Jb (bI f e _ o m)
 |.retN,st,E,sc,N,X,o,hk,h=>by obtain⟨a8,p,rfl,k⟩:=DI h;obtain rfl:=lL.mp k;exact ps_retN
 |.rais x es,st,E,sc,N,X,o,hk,h=>by obtain⟨x',W,a5,Q,p,rfl,k⟩:=Kq h;obtain⟨j,r,t,m⟩:=lG k;obtain⟨v,y⟩:=an m;cases W0 j;intro pins s σ H D I w;obtain⟨C,F,a7,hq,w⟩:=w;obtain⟨u,hu,Y⟩:=o.val _ _ F;obtain rfl:u=bo C:=Y;have U:=lg f es _ o y;obtain⟨_,_,rfl,B⟩:=AF y v;exact Jc (o.gl r) hu a7 hq U o.calm (gY t).1 (B _ Q).1 (B _ _).2 o.made pins s σ H D I w
 |.raisX x es,st,E,sc,N,X,o,hk,h=>by obtain⟨x',W,a5,Q,p,rfl,k⟩:=Kq h;obtain⟨j,r,t,m⟩:=lG k;obtain⟨v,y⟩:=an m;cases W0 j;intro pins s σ H D I w;obtain⟨C,sp,b0,F,w⟩:=w;obtain⟨a6,fd,ps,ds,k,hM,a2,hr,hu,hb,hd⟩:=o.ini _ _ _ _ _ F;have U:=lg f es _ o y;obtain⟨_,_,rfl,B⟩:=AF y v;exact Ga hM a2 hr hb hd o.pass (o.gl r) hu U o.calm (gY t).1 (B _ Q).1 (B _ _).2 o.madeX pins s σ H D I w
 |.fldX a a6 e,st,E,sc,N,X,o,hk,h=>by obtain⟨K,A,p,rfl,k⟩:=vT h;obtain⟨o',f',p',rfl,l⟩:=zA k;obtain⟨j,r,t,v⟩:=lG l;cases W0 j;exact ps_fldX (bI f a _ o r) (bI f e _ o t) (oM (o8 v) _ _ _)
 |.thawS c,st,E,sc,N,X,o,hk,h=>ps_thaw (Ie f c st o hk h)
 |.putk b i e,st,E,sc,N,X,o,hk,h=>by obtain⟨K,A,p,rfl,k⟩:=vT h;obtain⟨o',i',p',rfl,l⟩:=vR k;obtain⟨j,r,t,v⟩:=lG l;exact ps_dput (by have :=o.hu;lia) (bI f b _ o j) (bI f i _ o r) (bI f e _ o t) (oM (o8 v) _ _ _)
 |.tryc x i b su,st,E,sc,N,X,o,hk,h=>by
  obtain⟨P,x',W,n,L,hp,p,rfl,k⟩:=dTr_of h;obtain⟨j,r,t,m,m'⟩:=and5 k;obtain⟨v,y,h6⟩:=gR m;obtain⟨T,h7,h8⟩:=gR m';cases W0 j;rw[beq_iff_eq]at v y;cases L with
  |nil=>exact dy T
  |cons s0 L=>
   obtain⟨t1,t2,t3⟩:=o.top rfl;intro pins s σ H D I w;obtain⟨C,F,w⟩:=w;obtain⟨u,hu,Y⟩:=o.val _ _ F;obtain rfl:u=bo C:=Y;have O:BX X x n C i (s0::L) (wpB G X.K N0 su):=
    {nd:=by rw[o.names];exact o.nd,at_:=by rw[o.names];exact v,loc:=o.loc n y,gl:=o.gl r,mg:=hu,db:=(gY t).1,stk:=t1,fr:=t2,ex:=t3
     su:=λpins a=>qQ su _ (X:=X.re (X.A.mark (some (.ref a))) false (X.pn++pins) (λ_ _=>False)) (o.names,o.nd,o.loc,o.cel,o.fre,o.glo,o.all rfl,o.val,o.blt,) h6 h7}
   exact ps_try (X:=X) (tb:=λD=>wpB G X.K (sA X.K C i (wpB G X.K N0 su) D) b) (λpins D ok=>pX f b _ (X:=X.re X.A X.calm (X.pn++pins) (kj X pins D [.ExceptHandler (some (.Name x W)) (some n) (s0::L) hp]))
    {names:=o.names,top:=λ_=>(t1,t2,t3,),nd:=o.nd,loc:=o.loc,cel:=o.cel,fre:=o.fre,glo:=o.glo,all:=o.all,own:=o.own,calm:=o.calm,hu:=o.hu,val:=o.val,fn:=o.fn,ini:=o.ini,dic:=o.dic,mak:=o.mak,mth:=o.mth,blt:=o.blt,px:=PassesOwn.looking
     pass:=λa0 a1 H' s' e b4 J z=>HE O ok o.calm J (by rw[o.cx]at z;exact z)
     made:=λa0 a1 H' s' a c a9 h' J hm z=>HF O ok J hm z
     madeX:=λa0 a1 H' s' a C' d J m z=>FH O ok J m z
     cx:=o.cx} (λ_ _ _ _ J=>J.ok.kind) h8) pins s σ H D I w
 |.pass,st,E,sc,N,X,o,hk,h=>by
  cases st<;>first
   |exact EG
   |exact dy h
 |.brk,st,E,sc,N,X,o,hk,h=>by
  cases st<;>first
   |exact Jd
   |exact dy h
 |.cont,st,E,sc,N,X,o,hk,h=>by
  cases st<;>first
   |exact AX
   |exact dy h
theorem pX(a:HX CX):∀(c:CB)(st:List Stmt){E:XS}{sc:Scope}{N:List Str}{X:Cx},Ok CX G E sc N true X->(∀pins σ H s,'A'->X.env.scope.kind=.function)->ql sc N c st=true->PSs X st (wpB G X.K E c)
 |.hole,_,_,_,_,_,_,_,_=>λ_ _ _ _ _ _ z=>z.elim
 |.nil,st,E,sc,N,X,o,hk,h=>by obtain rfl:=nil_of h;exact yW
 |.cons s r,st,E,sc,N,X,o,hk,h=>by obtain⟨f,e,rfl,k⟩:=xB h;obtain⟨b,d⟩:=an k;exact AW (Ie a s _ o hk b) (pX a r _ o hk d)
end
end
structure GOk(P:Program)(w:World)(K:ai)(mg:Str->Option Value)(base:Heap)(CX:CXT)(k:Nat)(G:Gam):Prop where
 val:∀x v,G.val x<*v->∃u,mg x<*u/\RelV v u
 fn:∀x n sp ak,G.fn x n<*(sp,ak)->∃f fd ps ds j,j<=k/\jO P w K mg base CX j f fd ps sp/\mg x<*(.ref f)/\cF K (.ref f)=true/\Binds K fd ps ds/\bZ ak ds
 ini:∀x n C sp ak,G.ini x n<*(C,sp,ak)->∃f fd ps ds j,j+1<=k/\MkX K C f/\jO P w K mg base CX j f fd ps sp/\mg x<*(.ref C)/\Binds K fd ps ds/\bZ ak ds
 dic:∀a kvs,G.dic a<*kvs->DkIn P w K a kvs
 mak:∀x n C sp ak,G.mak x n<*(C,sp,ak)->∃f fd ps ds j,j+1<=k/\Mk K C f/\jO P w K mg base CX j f fd ps sp/\mg x<*(.ref C)/\Binds K fd ps ds/\bZ ak ds
 mth:∀m n C sp ak,G.mth m n<*(C,sp,ak)->∃f fd ps ds j,j<=k/\Cls K C/\Meth K C m f/\jO P w K mg base CX j f fd ps sp/\Binds K fd ps ds/\bZ ak ds
 blt:∀x∈jw,mg x=none
abbrev sY(N ps:List Str)(sc:Scope):Bool:=
 decide (sc.kind=.function)&&decide (sc.isCoroutine=false)&&decide (sc.isGenerator=false)&&decide N.Nodup&&decide (N.take ps.length=ps)&&
 ps.all (λx=>sc.names.lookup x==some .local||sc.names.lookup x==some .cell)&&sc.names.all (λy=>decide (y.2≠.free))
def JB(h:sY N ps sc=true):uK N ps sc:=by unfold sY at h;simp only[aN,cY,decide_eq_true_eq,beq_iff_eq,du]at h;obtain⟨⟨⟨⟨⟨⟨a,b⟩,c⟩,d⟩,e⟩,f⟩,g⟩:=h;exact(a,b,c,d,e,f,g,)
section
variable {mg:Str->Option Value}
def ok_def{k:Nat}{G:Gam}{l:List Env}{E:XK}(S:uK N ps sc)(g:GOk P w K mg base (CXx P w) k G)(i:jk k (A.deeper (envOfC ao sc ⇑s f am))):Ok (CXx P w) G (λ_=>E) sc N true (zB (CXx P w) P w K mg base N ao sc f am A l s H E):=
  {names:=rfl,top:=λ_=>(rfl,rfl,rfl,),nd:=S.nd,loc:=λ_ z=>z,cel:=λ_ z=>z,fre:=λy z=>absurd rfl (S.nofree _ (bJ z)),glo:=λ_ z=>z,all:=λ_ _=>rfl,own:=λ_ _=>rfl,calm:=rfl,
   hu:=by have :=i.units;show _+50<cLine;exact mG (Nat.add_le_add_left 'E' _) this
   val:=g.val
   fn:=λy n h a e=>by obtain⟨b,fd',ps',ds',j,hj,F',hm,hk,hb,d⟩:=g.fn y n h a e;exact(b,fd',ps',ds',j,F',i.mono hj,hm,hk,hb,d,)
   ini:=λy n C h a e=>by obtain⟨b,fd',ps',ds',j,hj,M,F',hm,hb,d⟩:=g.ini y n C h a e;exact(b,fd',ps',ds',j,M,F',i.mono hj,hm,hb,d,)
   dic:=g.dic
   mak:=λy n C h a e=>by obtain⟨b,fd',ps',ds',j,hj,M,F',hm,hb,d⟩:=g.mak y n C h a e;exact(b,fd',ps',ds',j,M,F',i.mono hj,hm,hb,d,)
   mth:=λy n C h a e=>by obtain⟨b,fd',ps',ds',j,hj,c,M,F',hb,d⟩:=g.mth y n C h a e;exact(b,fd',ps',ds',j,c,M,F',i.mono hj,hb,d,)
   blt:=g.blt,px:=PassesOwn.leaving,pass:=GW,made:=GX,madeX:=DT,cx:=rfl}
def vL{st:Stmt}{kV:Value}{an:Option Addr}{k:Nat}{G:Gam}{sp:Sp}{a:CB}(lk:K.lookup f<*(oc,od,.func (aX x ao (bV st) (bM st) (bh st) dV kV ap pm an am ct),az,))(c:fC K am ao=true)(d:sY N ps (bh st)=true)(b:ql (bh st) N a (bM st)=true)
  (g:GOk P w K mg base (CXx P w) k G)(len:∀vs H Q E,sp vs H Q E->vs.length=ps.length)
  (h:∀vs H Q E,sp vs H Q E->wpB G K (λ_=>E) a {nx:=λ_ H'=>Q .non H',rt:=Q} (start N vs) H):jO P w K mg base (CXx P w) (k+1) f (aX x ao (bV st) (bM st) (bh st) dV kV ap pm an am ct) ps sp:=by
 have S:=JB d;refine fn_of lk c S len λA j s H vs Q E e i=>?_;exact(_,pX (λ_ _ _ _ _ z=>cxx0 z) a _ (ok_def S g e) (λ_ _ _ _ _=>S.kind) b,h vs H Q E i,)
def E9{st:Stmt}{b:gp}{k:Nat}{G:Gam}{sp:Sp}{a:CB}(F:Fun K x ao st f b)(e:sY N ps (bh st)=true)(c:ql (bh st) N a (bM st)=true)
  (g:GOk P w K mg base (CXx P w) k G)(len:∀vs H Q E,sp vs H Q E->vs.length=ps.length)
  (h:∀vs H Q E,sp vs H Q E->wpB G K (λ_=>E) a {nx:=λ_ H'=>Q .non H',rt:=Q} (start N vs) H):jO P w K mg base (CXx P w) (k+1) f b ps sp:=by
 obtain⟨m,n,kV,l,p,an,i,j,o,rfl,lk,d⟩:=F.ex;exact vL lk d e c g len h
end
abbrev gam(vals:List (Str×V))(c:List ((Str×Nat)×(Sp×List V)))(d:List ((Str×Nat)×(Addr×Sp×List V)):=[]) (b:List (Addr×List (Key×V)):=[]) (e f:List ((Str×Nat)×(Addr×Sp×List V)):=[]):Gam:=(λx=>vals.lookup x,λx n=>c.lookup (x,n),λx n=>d.lookup (x,n),λa=>b.lookup a,λx n=>e.lookup (x,n),λm n=>f.lookup (m,n),)
theorem Bm{c:Type}{b:c}:∀{l:List (Addr×c)},l.lookup a<*b->(a,b)∈l
 | [],h=>nomatch h
 | (k,v)::l,h=>by
  rw[bE]at h;cases q:(a==k)with
  |true=>rw[q]at h;cases h;rw[beq_iff_eq.mp q];exact aw
  |false=>rw[q]at h;exact aB _ (Bm h)
section
variable {mg:Str->Option Value}{CX:CXT}
def GOk.start{vals:List (Str×V)}(i:∀x v,(x,v)∈vals->∃u,mg x<*u/\RelV v u)(f:∀x∈jw,mg x=none){b:List (Addr×List (Key×V))}(g:∀a kvs,(a,kvs)∈b->DkIn P w K a kvs:=by intro a kvs h;exact nomatch h):GOk P w K mg base CX 0 (gam vals [] [] b):=
 (λx v e=>i x v (bJ e),λx n d c e=>(nomatch e),λx n C d c e=>(nomatch e),λa kvs e=>g a kvs (Bm (show dG a b<*kvs from e)),λx n C d c e=>(nomatch e),λx n C d c e=>(nomatch e),f,)
def GOk.add{k:Nat}{vals:List (Str×V)}{s:List ((Str×Nat)×(Sp×List V))}{p:gp}{sp:Sp}{u v z:List ((Str×Nat)×(Addr×Sp×List V))}{t:List (Addr×List (Key×V))}(g:GOk P w K mg base CX k (gam vals s u t v z))
  (F:jO P w K mg base CX (k+1) f p ps sp)(G:mg x<*(.ref f))(E:cF K (.ref f)=true)(B:Binds K p ps ds)(D:bZ ak ds):GOk P w K mg base CX (k+1) (gam vals (((x,n),(sp,ak))::s) u t v z):=by
 refine(g.val,λy m b a e=>?_,λy m C b a e=>?_,g.dic,λy m C b a e=>?_,λy m C b a e=>?_,g.blt,)
 rotate_left
 rotate_left
 .obtain⟨d,h,l,c,j,i,r⟩:=g.mak y m C b a e;exact(d,h,l,c,j,gM i,r,)
 .obtain⟨d,h,l,c,j,i,r⟩:=g.mth y m C b a e;exact(d,h,l,c,j,gM i,r,)
 rotate_left
 .obtain⟨d,h,l,c,j,i,r⟩:=g.ini y m C b a e;exact(d,h,l,c,j,gM i,r,)
 have o:dG (y,m) (((x,n),(sp,ak))::s)<*(b,a):=e;rw[bE]at o;cases q:((y,m)==(x,n))with
 |true=>rw[q]at o;have A:(y,m)=(x,n):=eq_of_beq q;cases A;cases o;exact(f,p,ps,ds,k+1,aE _,F,G,E,B,D,)
 |false=>rw[q]at o;obtain⟨d,h,l,c,j,i,r⟩:=g.fn y m b a o;exact(d,h,l,c,j,gM i,r,)
end
section
variable {Q:VK}{i j:Int}
def DX:t9 K .Add (.int i) (.int j) H Q↔Q (.int (i+j)) H:=by show _\/_↔_;simp[rI0,rCat]
def CJ:t9 K .Sub (.int i) (.int j) H Q↔Q (.int (i-j)) H:=by show rI0 _ _ _ _ _↔_;simp[rI0]
def JK:t9 K .Mult (.int i) (.int j) H Q↔D6 i j/\Q (.int (i*j)) H:=by show _\/_↔_;simp[rI,rRep,IT]
def nV:t9 K .Mod (.int i) (.int j) H Q↔0<j/\Q (.int (i%j)) H:=by show rI _ _ _ _ _ _↔_;simp[rI]
def div_ii:t9 K .FloorDiv (.int i) (.int j) H Q↔CDiv i j/\Q (.int (i/j)) H:=by show rI _ _ _ _ _ _↔_;simp[rI]
def pow_ii:t9 K .Pow (.int i) (.int j) H Q↔KQ i j/\Q (.int (i^j.toNat)) H:=by show rI _ _ _ _ _ _↔_;simp[rI]
def add_ss{y:Str}:t9 K .Add (.str x) (.str y) H Q↔x.length+y.length<=sizeLine/\Q (.str (x++y)) H:=by show _\/_↔_;simp[rI0,rCat]
def neg_i:rUn K .USub (.int i) H Q↔Q (.int (-i)) H:=by simp[rUn,rU]
def lt_ii:jg K .Lt (.int i) (.int j) H Q↔Q (.bl (decide (i<j))) H:=by simp[jg,rI0]
def le_ii:jg K .LtE (.int i) (.int j) H Q↔Q (.bl (decide (i<=j))) H:=by simp[jg,rI0]
def vH:jg K .Gt (.int i) (.int j) H Q↔Q (.bl (decide (j<i))) H:=by simp[jg,rI0]
def Ex{d:D}:Rep K H d (.int i)↔d=.int i:=by cases d<;>simp[Rep,eq_comm]
def mY:jg K .Eq (.int i) (.int j) H Q↔Q (.bl (decide (i=j))) H:=by
 simp only[jg,rEqD,Ex];constructor;·rintro⟨_,_,rfl,rfl,_,q⟩;exact q
 .intro q;exact(_,_,rfl,rfl,a0 _,q,)
def ne_ii:jg K .NotEq (.int i) (.int j) H Q↔Q (.bl (!decide (i=j))) H:=by
 simp only[jg,rNeD,Ex];constructor;·rintro⟨_,_,rfl,rfl,_,q⟩;exact q
 .intro q;exact(_,_,rfl,rfl,a0 _,q,)
def is_n{x:V}:jg K .Is x .non H Q↔Q (.bl (decide (x=.non))) H:=by simp[jg]
def isnot_n{x:V}:jg K .IsNot x .non H Q↔Q (.bl (!decide (x=.non))) H:=by simp[jg]
def len_s{z:Str}:rBf K .len [.str z] H Q↔z.length<=sizeLine/\Q (.int z.length) H:=by simp[rBf]
def idx_s{z:Str}:rIx K (.str z) (.int i) H Q↔∃c,z.length<=sizeLine/\atI z.cps.toList i<*c/\Q (.str ⟨#[c]⟩) H:=by simp[rIx,rIxL,rIxT,rIxS]
def cut_s{z:Str}{lo hi:Option Int}:rSlc K (.str z) lo hi H Q↔z.length<=sizeLine/\Q (.str (DL z lo hi)) H:=by simp[rSlc,rSlL,rSlS]
end
structure rD(J:It)(n:Nat)(it:Nat->V->Hp->Prop)(Hc:Hp->Prop):Prop where
 go:∀i H,Hc H->i<n->J.go i H
 stop:∀i H,Hc H->n<=i->J.stop i H
 yld:∀i H x H',Hc H->i<n->J.yld i H x H'->it i x H'/\aY H H'
section
def jv:rD (Itl K a) xs.length (λi x _=>xs[i]?<*x) (λH=>SqL K H a xs) where
 go:=λi H h b=>⟨xs,xs[i],h,by simp[b]⟩
 stop:=λi H h b=>(xs,h,b,)
 yld:=λi H x c h b y=>by obtain⟨e,y⟩:=y;subst e;exact(y xs h,aY.refl _,)
def lV{lo:Int}:rD (Itr lo n) n (λi x _=>x=.int (lo+i)) (λ_=>True) where
 go:=λi H _ a=>a
 stop:=λi H _ a=>a
 yld:=λi H x b _ a y=>by obtain⟨e,y⟩:=y;subst e;exact(y,aY.refl _,)
def seq_str{z:Str}:rD (Its z) z.length (λi x _=>∃c,z.cps[i]?<*c/\x=.str ⟨#[c]⟩) (λ_=>True) where
 go:=λi H _ a=>a
 stop:=λi H _ a=>a
 yld:=λi H x b _ a y=>by obtain⟨e,y⟩:=y;subst e;exact(y,aY.refl _,)
def aA{p:Addr}{o:HO}(h:H p=none):aY H (upd H p o):=λb u e=>by rw[aQ (bt e h)];exact e
def vk{p:Addr}{o:HO}(h:upd H p o=H1)(a:H p=none):aY H H1/\H1 p<*o:=by subst h;exact(aA a,ay,)
def ForB(J:It)(g:TG)(tb:TS)(D:Ends)(σ:L2.St)(H:Hp):Prop:=∃W:Nat->Nat->L2.St->Hp->Prop,(∃m,W 0 m σ H)/\∀i m σ H,W i m σ H->
 (J.stop i H/\D.nx σ H)\/(J.go i H/\∃N:L2.St->Hp->Prop,(∀b H',N b H'->∃a,a<m/\W (i+1) a b H')/\∀x H',J.yld i H x H'->g x σ H' λc H2=>tb {D with nx:=N,ct:=N,bk:=D.nx} c H2)
def BZ(J:It)(g:TG)(tc:TT)(te:TE)(τ0:L2.St)(H1:Hp)(Q:VK):Prop:=∃W:Nat->Nat->L2.St->List V->Hp->Prop,(∃m,W 0 m τ0 [] H1)/\
 ∀i m h ad H2,W i m h ad H2->(J.stop i H2/\∀l,H2 l=none->Q (.ref l) (upd H2 l (.lst ad)))\/(J.go i H2/\∃N:L2.St->List V->Hp->Prop,(∀j e H',N j e H'->∃f,f<m/\W (i+1) f j e H')/\
  ∀x c,J.yld i H2 x c->g x h c λa k=>tc a k λb d=>if b=true then te a d λv n=>ad.length<sizeLine/\N a (ad++[v]) n else N a ad d)
def for_seq{J:It}{c:Nat->V->Hp->Prop}{b:Hp->Prop}{g:TG}{tb:TS}{D:Ends}(S:rD J n c b)(a:Nat->L2.St->Hp->Prop)(h0:a 0 σ H)(h:∀i σ H,i<=n->a i σ H->b H)
  (j:∀i x σ H H',i<n->a i σ H->c i x H'->aY H H'->g x σ H' λr H2=>tb {D with nx:=a (i+1),ct:=a (i+1),bk:=D.nx} r H2) (d:∀σ H,a n σ H->D.nx σ H):
  ForB J g tb D σ H:=by
 refine(λi m σ H=>m=n-i/\i<=n/\a i σ H,(n,'F',a0 _,h0,),?_,);rintro i m σ H ⟨rfl,f,p⟩;have q:=h i σ H f p;by_cases hlt:i<n;·refine .inr (S.go i H q hlt,a (i+1),λs H' k=>(n-(i+1),'D',rfl,hlt,k,),λx H' y=>?_,);obtain⟨l,o⟩:=S.yld i H x H' q hlt y;exact j i x σ H H' hlt p l o
 .have e:i=n:=by lia
  subst e;exact .inl (S.stop i H q (aE _),d σ H p,)
def gy{J:It}{B:Nat->V->Hp->Prop}{w:Hp->Prop}{g:TG}{D:TE}{Q:VK}(S:rD J n B w)(Z:n<=sizeLine)(M:∀H,aY H1 H->w H)
  (F:Nat->V->Hp->Prop)(G:∀i v H H',aY H H'->F i v H->F i v H')(T:L2.St->Prop)(L:T τ0)
  (step:∀i x p o (R:L2.St->V->Hp->Prop),i<n->T p->aY H1 o->B i x o->(∀j v h,T j->aY o h->F i v h->R j v h)->g x p o λE I=>D E I (R E))
  (fin:∀vs H2 l,vs.length=n->(∀(i:Nat) v,vs[i]?<*v->F i v H2)->aY H1 H2->H2 l=none->Q (.ref l) (upd H2 l (.lst vs))):
  BZ J g FJ D τ0 H1 Q:=by
 refine(λi m p f H2=>m=n-i/\i<=n/\T p/\f.length=i/\aY H1 H2/\∀(k:Nat) v,f[k]?<*v->F k v H2,⟨n,'F',a0 _,L,rfl,aY.refl _,λk v e=>by simp at e⟩,?_,);rintro i m p f H2 ⟨rfl,Y,U,A,s,z⟩;have q:=M H2 s;by_cases hlt:i<n
 .refine .inr (S.go i H2 q hlt,λj t H'=>T j/\t.length=i+1/\aY H1 H'/\∀(k:Nat) v,t[k]?<*v->F k v H',λj t H' ⟨a,b,c,d⟩=>(n-(i+1),'D',rfl,hlt,a,b,c,d,),λx o y=>?_,);obtain⟨X,u⟩:=S.yld i H2 x o q hlt y;refine step i x p o (λj v h=>f.length<sizeLine/\T j/\(f++[v]).length=i+1/\aY H1 h/\∀(k:Nat) r,(f++[v])[k]?<*r->F k r h) hlt U (s.trans u) X λj v h W C K=>('D',W,by simp[A],(s.trans u).trans C,λk r e=>?_,);by_cases hk:k<f.length;·rw[iH hk]at e;exact G k r H2 h (u.trans C) (z k r e)
  .rw[eh 'D']at e;have O:k-f.length=0:=by have :=(bp.mp e).1;simp at this;lia
   rw[O]at e;have N:k=i:=by lia
   simp at e;subst e;rw[N];exact K
 .have e:i=n:=by lia
  subst e;exact .inl (S.stop i H2 q (aE _),λl P=>fin f H2 l A z s P,)
def gC{c:TI}{g:TG}{a:TT}{b:TE}{mk:L2.St->L2.St}{Q:VK}(h:c σ H λJ H1=>BZ J g a b (mk σ) H1 Q):uV c g a b mk σ H Q:=h
def oh{a:TI}{g:TG}{tb:TS}{D:Ends}(h:a σ H λJ H1=>ForB J g tb D σ H1):tFor a g tb D σ H:=h
def BV{z:Str}{R:It->Hp->Prop}(a:σ[i]?<*(some (.str z)))(h:R (Its z) H):GF K (qA i) σ H R:=(_,a,.inr (.inr (z,rfl,h,)),)
def fM{R:It->Hp->Prop}(c:σ[i]?<*(some (.ref a)))(b:SqL K H a xs)(h:R (Itl K a) H):GF K (qA i) σ H R:=(_,c,.inl (a,rfl,(xs,b,),h,),)
def bool_list{vs:List V}{b:Nat->Bool}(c:vs.length=n)(h:∀(i:Nat) v,vs[i]?<*v->v=.bl (b i)):vs=((bg n).map b).map V.bl:=by
 apply dw;·simp[c]
 .intro i a d;have :=h i vs[i] (by simp[a]);simp[this]
def KN{b:Type}(l:List b)(d:b)(f:b->Bool):((bg l.length).map λi=>f (l.getD i d)).all id=l.all f:=by
 rw[o4,kI];simp only[cY,d9,Function.comp,id];constructor;·intro h c e;obtain⟨i,a,rfl⟩:=aU.mp e;have :=h i a;rw[aJ,aj a]at this;exact this
 .intro h i a;have :=h _ (bF a);rw[aJ,aj a];exact this
end
def HasFn(K:ai)(x:Str)(st:Stmt):Prop:=∃(f:Addr)(oc:Value)(od an:Option Addr)(az:Array (Option Value))(kV ap pm am ct:Value),dI K bR x<*(some (.ref f))/\
 K.lookup f<*(oc,od,.func (aX x x (bV st) (bM st) (bh st) .none kV ap pm an am ct),az,)/\fC K am x=true/\cF K (.ref f)=true
def cO{st:Stmt}{an:Option Addr}{kV:Value}(a:dI K bR x<*(some (.ref f)))
  (l:K.lookup f<*(oc,od,.func (aX x x (bV st) (bM st) (bh st) .none kV ap pm an am ct),az,))(c:fC K am x=true)(k:cF K (.ref f)=true):HasFn K x st:=
 (f,oc,od,an,az,kV,ap,pm,am,ct,a,l,c,k,)
structure Def(K:ai)(mg:Str->Option Value)(x:Str)(st:Stmt):Prop where
 ex:∃f fd,Fun K x x st f fd/\mg x<*(.ref f)
def HasFn.def{st:Stmt}(X:K.In h)(b:h.Ns bR mg)(H:HasFn K x st):Def K mg x st:=by obtain⟨f,i,j,an,m,kV,g,n,d,e,a,l,c,k⟩:=H;exact(f,_,Kj l c k,dE X b a,)
section
variable {mg:Str->Option Value}
def eX{k:Nat}{vals:List (Str×V)}{b:List ((Str×Nat)×(Sp×List V))}{st:Stmt}{sp:Sp}{l:CB}{e i j:List ((Str×Nat)×(Addr×Sp×List V))}{a:List (Addr×List (Key×V))}(g:GOk P w K mg base (CXx P w) k (gam vals b e a i j))(d:Def K mg x st)
  (c:(sY N ps (bh st)&&ql (bh st) N l (bM st))=true)
  (m:∀(kV ap pm:Value)(an:Option Addr)(am ct:Value)(us:List Value),us.length=ps.length->bindArgs (aX x x (bV st) (bM st) (bh st) .none kV ap pm an am ct) (us,[],)=pure (ps.zip us))
  (len:∀vs H Q E,sp vs H Q E->vs.length=ps.length)
  (h:∀vs H Q E,sp vs H Q E->wpB (gam vals b e a i j) K (λ_=>E) l {nx:=λ_ H'=>Q .non H',rt:=Q} (L2.start N vs) H):GOk P w K mg base (CXx P w) (k+1) (gam vals (((x,ps.length),(sp,[]))::b) e a i j):=by
 rw[aN]at c;obtain⟨f,p,F,o⟩:=d.ex;exact g.add (n:=ps.length) (E9 F c.1 c.2 g len h) o F.kp (F.binds m) .nil
end
end R
local macro_rules|`(tactic|ext)=>do let a:=("R.wpB R.wpS R.wpE R.wpT R.wpL R.wpO R.wpC R.wpG R.wpGs R.wpI L2.yE L2.tRet L2.HJ L2.Ay L2.wM L2.HP L2.HN L2.HU L2.tOrV L2.HK L2.tNot L2.tAnd L2.tOr L2.qB R.Aw L2.tIf L2.tCB L2.jt L2.pT L2.qA L2.tC L2.tOp L2.tUn L2.uW L2.tTup L2.tLst L2.Az L2.tBM L2.tBM0 L2.tSl L2.Ax L2.qC R.cv L2.l6 L2.IH L2.HR L2.uu L2.CD R.X2.t R.X2.tt L2.HI L2.Ip L2.Kb L2.zu L2.iRev L2.rT L2.HM L2.gTup L2.BB L2.gNil R.CGs.len L2.J9 L2.J8 L2.Ka List.getElem?_cons_zero List.getElem?_cons_succ Option.some.injEq exists_eq_left' exists_eq_left L2.V.bl.injEq L2.V.int.injEq L2.V.str.injEq List.set_cons_zero List.set_cons_succ R.CL.len R.Ty.t R.DX R.CJ R.JK R.nV R.div_ii R.pow_ii R.add_ss R.neg_i R.lt_ii R.le_ii R.vH R.mY R.ne_ii R.is_n R.isnot_n R.len_s R.idx_s R.cut_s List.append_nil R.mJ List.map_cons List.map_nil List.nil_append List.cons_append".splitOn " ").toArray.map λs=>Lean.mkIdent ("_root_."++s).toName;`(tactic|simp only[$[$a:term],*])
namespace Cp
open R
abbrev De:List Str:=["thing"]
abbrev vo:List Str:=["thing"]
abbrev wa:CB:=
  (.cons (.ret (.and (.bfn .isinstance (.cons (.var 0) (.cons (.ty .int) .nil))) (.not (.bfn .isinstance (.cons (.var 0) (.cons (.ty .bool) .nil))))))
  .nil)
abbrev Gn:List Str:=["thing"]
abbrev xO:List Str:=["thing"]
abbrev yk:CB:=
  (.cons (.iff (.not (.bfn .isinstance (.cons (.var 0) (.cons (.ty .str) .nil))))
  (.cons (.ret (.con (.bool false)))
  .nil)
  .nil)
  (.cons (.iff (.not (.chain .LtE .LtE (.con (.int 1)) (.bfn .len (.cons (.var 0) .nil)) (.glo "LONGEST_NAME")))
  (.cons (.ret (.con (.bool false)))
  .nil)
  .nil)
  (.cons (.ret (.bfn .all (.cons (.comp ["sign"] [] (.name 0) (.seq (.var 0)) .no (.cmp .In (.var 0) (.glo "LETTERS"))) .nil)))
  .nil)))
abbrev zd:List Str:=["thing"]
abbrev qK:List Str:=["thing"]
abbrev rn:CB:=
  (.cons (.ret (.and (.call "is_whole" (.cons (.var 0) .nil)) (.cmp .In (.var 0) (.tup (.cons (.con (.int 0)) (.cons (.con (.int 1)) .nil))))))
  .nil)
end Cp
set_option maxHeartbeats 1000000
namespace Cp
open L2 R
abbrev jF:Option HO->String
 |some (.lst _)=>"list"
 |some (.frz _ (.lst _))=>"list"
 |some (.tup _)=>"tuple"
 |some (.dK _)=>"dict"
 |some (.dT _)=>"dict"
 |_=>"?"
abbrev tyName(H:Hp):V->String
 |.non=>"NoneType"
 |.bl _=>"bool"
 |.int _=>"int"
 |.str _=>"str"
 |.ref a=>jF (H a)
 |_=>"?"
def Known(H:Hp)(x:V):Prop:=tyName H x≠"?"
def Known.same{x:V}(h:Known H x)(s:aY H H'):Known H' x/\tyName H' x=tyName H x:=by
 cases x with
 |ref a=>
  have b:jF (H a)≠"?":=h;show jF (H' a)≠"?"/\jF (H' a)=jF (H a);cases e:H a with
  |none=>rw[e]at b;exact absurd rfl b
  |some o=>rw[s a o e];rw[e]at b;exact(b,rfl,)
 |_=>exact(h,rfl,)
def Known.ty{x:V}(h:Known H x):nH K H x (.type (tyName H x)):=by
 cases x with
 |non=>exact .non
 |bl b=>exact .bl b
 |int i=>exact .int i
 |str s=>exact .str s
 |ref a=>
  have c:jF (H a)≠"?":=h;show nH K H (.ref a) (.type (jF (H a)));cases e:H a with
  |none=>rw[e]at c;exact absurd rfl c
  |some o=>
   rw[e]at c;cases o with
   |lst xs=>exact .lst e
   |tup xs=>exact .tup e
   |dK kvs=>exact .dK e
   |dT kvs=>exact .dT e
   |frz ob u=>
    cases u with
    |lst xs=>exact .frz e
    |_=>exact absurd rfl c
   |_=>exact absurd rfl c
 |_=>exact absurd rfl h
def Kd{P:Option HO->Prop}(o:Option HO)(c:∀xs,P (some (.lst xs)))(d:∀b xs,P (some (.frz b (.lst xs))))(e:∀xs,P (some (.tup xs)))(f:∀kvs,P (some (.dK kvs)))(g:∀kvs,P (some (.dT kvs)))(a:jF o="?"->P o):P o:=by
 cases o with
 |none=>exact a rfl
 |some o=>
  cases o with
  |lst xs=>exact c xs
  |tup xs=>exact e xs
  |dK kvs=>exact f kvs
  |dT kvs=>exact g kvs
  |frz b u=>
   cases u with
   |lst xs=>exact d b xs
   |_=>exact a rfl
  |_=>exact a rfl
def Known.mem{x:V}(h:Known H x):tyName H x∈["NoneType","bool","int","str","list","tuple","dict"]:=by
 cases x with
 |ref a=>
  have b:jF (H a)≠"?":=h;show jF (H a)∈_;cases e:H a with
  |none=>rw[e]at b;exact absurd rfl b
  |some o=>
   rw[e]at b;cases o with
   |lst xs=>show "list"∈_;decide
   |tup xs=>show "tuple"∈_;decide
   |dK kvs=>show "dict"∈_;decide
   |dT kvs=>show "dict"∈_;decide
   |frz ob u=>
    cases u with
    |lst xs=>show "list"∈_;decide
    |_=>exact absurd rfl b
   |_=>exact absurd rfl b
 |_=>first
  |exact absurd rfl h
  |exact aw
  |exact aB _ aw
  |exact aB _ (aB _ aw)
  |exact aB _ (aB _ (aB _ aw))
abbrev iI(a b:String):Bool:=a==b||(a=="bool"&&b=="int")
def J0(K:ai):∀(a:String)(t:Ty),a∈["NoneType","bool","int","str","list","tuple","dict"]->bK K (.type a) (.type t.t)<*(iI a t.t):=by intro a t h;simp only[aG,bu,or_false]at h;rcases h with rfl|rfl|rfl|rfl|rfl|rfl|rfl<;>cases t<;>rfl
def isi{x:V}{Q:VK}(h:Known H x)(t:Ty)(q:Q (.bl (iI (tyName H x) t.t)) H):rBf K .isinstance [x,.ty t.t] H Q:=
 .inl (x,t.t,_,_,rfl,.inl h.ty,J0 K _ t h.mem,q,)
def jE{i:Int}:Known H (.int i):=by show "int"≠"?";decide
def xT{i:Bool}:Known H (.bl i):=by show "bool"≠"?";decide
def qc:Known H .non:=by show "NoneType"≠"?";decide
def iB:Known H (.str x):=by show "str"≠"?";decide
def qb(h:H a<*(.tup xs)):Known H (.ref a):=by show jF (H a)≠"?";rw[h];show "tuple"≠"?";decide
def oa(h:H a<*(.lst xs)):Known H (.ref a):=by show jF (H a)≠"?";rw[h];show "list"≠"?";decide
def EY{xs:List (Key×V)}(h:H a<*(.dK xs)):Known H (.ref a):=by show jF (H a)≠"?";rw[h];show "dict"≠"?";decide
def fu{o:HO}(s:aY H H1)(h:H l=none):aY H (upd H1 l o):=λb u e=>by rw[aQ (bt e h)];exact s b u e
abbrev isWhole:V->Bool
 |.int _=>true
 |_=>false
abbrev fX:V->Bool
 |.int i=>i==0||i==1
 |_=>false
def spB(f:V->Bool):Sp:=λvs H Q _=>∃x,vs=[x]/\Known H x/\∀H',aY H H'->Q (.bl (f x)) H'
def sub_int{x:V}(h:Known H x):(iI (tyName H x) "int"&& !iI (tyName H x) "bool")=isWhole x:=by
 cases x with
 |ref a=>have b:jF (H a)≠"?":=h;exact Kd (P:=λo=>(iI (jF o) "int"&& !iI (jF o) "bool")=false) (H a) (λ_=>rfl) (λ_ _=>rfl) (λ_=>rfl) (λ_=>rfl) (λ_=>rfl) λe=>by rw[e];rfl
 |_=>rfl
def Ao{G:Gam}:Sat G K (spB isWhole) wa vo:=by
 rintro c H Q E ⟨x,rfl,b,q⟩;unfold wa;change wpB G K _ _ _ [some x] H;ext;refine isi b .int (_,rfl,?_,);have e:=sub_int b;cases h1:iI (tyName H x) "int" with
 |false=>rw[h1,gW]at e;have a:=q H (aY.refl H);rw[<-e]at a;simpa[Ty.t,h1]using a
 |true=>rw[h1,Bool.true_and]at e;have a:=q H (aY.refl H);rw[<-e]at a;simp only[Ty.t,h1,if_true];exact isi b .bool (_,rfl,a,)
def wJ{G:Gam}(g1:G.fn "is_whole" 1<*(spB isWhole,[])):
  Sat G K (spB fX) rn qK:=by
 rintro h H Q E ⟨x,rfl,d,q⟩;unfold rn;change wpB G K _ _ _ [some x] H;ext;refine(_,_,g1,x,rfl,d,λc b=>(_,rfl,?_,),);cases x with
 |int i=>
  refine('E',λp f=>.inr (p,_,rfl,.inr (SqT.of ay),rfl,rfl,?_,),);have g:=q _ (b.trans (aA (o:=.tup [.int 0,.int 1]) f));have e:(if false=true then !inV (.int i) [.int 0,.int 1]else inV (.int i) [.int 0,.int 1])=fX (.int i):=by show((0:Int)==i||((1:Int)==i||false))=(i==0||i==1);rw[sU,Bool.beq_comm,Bool.beq_comm (a:=(1:Int))]
  rw[e];exact g
 |_=>exact q c b
abbrev iV(c:Nat):Bool:=decide (97<=c/\c<=122)
abbrev dW(z:Str):Bool:=decide (1<=z.length/\z.length<=8)&&z.cps.toList.all iV
abbrev isName:V->Bool
 |.str z=>dW z
 |_=>false
abbrev LETTERS:Str:="abcdefghijklmnopqrstuvwxyz"
def Bp(c:Nat):decide (c∈LETTERS.cps.toList)=iV c:=by unfold iV;rw[show LETTERS.cps.toList=List.range' 97 26 by decide+kernel,decide_eq_decide,List.mem_range'_1];exact(λh=>(h.1,Nat.le_of_lt_succ h.2,),λh=>(h.1,Nat.lt_succ_of_le h.2,),)
def Dx{c:Nat}{Q:VK}(q:Q (.bl (iV c)) H):jg K .In (.str ⟨#[c]⟩) (.str LETTERS) H Q:=by refine .inl (_,_,rfl,rfl,?_,);rw[StrLaws.found_one,Bp];exact q
def line20:(20000:Nat)<=sizeLine:=by decide
def spN:Sp:=λvs H Q _=>∃x,vs=[x]/\Known H x/\(∀z,x=.str z->z.length<=20000)/\∀H',aY H H'->Q (.bl (isName x)) H'
def sub_str{x:V}(h:Known H x):iI (tyName H x) "str"=(match x with |.str _=>true|_=>false):=by
 cases x with
 |ref a=>exact Kd (P:=λo=>iI (jF o) "str"=false) (H a) (λ_=>rfl) (λ_ _=>rfl) (λ_=>rfl) (λ_=>rfl) (λ_=>rfl) λe=>by rw[e];rfl
 |_=>rfl
def Cv{G:Gam}(A:G.val "LETTERS"<*(.str LETTERS))(B:G.val "LONGEST_NAME"<*(.int 8)):
  Sat G K spN yk xO:=by
 rintro C H Q E ⟨x,rfl,m,g,q⟩;unfold yk;change wpB G K _ _ _ [some x] H;ext;refine isi m .str (_,rfl,?_,);rw[show Ty.t .str="str" from rfl,sub_str m];cases x with
 |str z=>
  have g:=g z rfl;have n:z.length<=sizeLine:=aR g line20;have all:∀R:VK,(∀b,aY H b->R (.bl (z.cps.toList.all iV)) b)->uV (GF K (qA 0)) (l6 0) FJ (tOp (jg K .In) (qA 0) λJ H Q=>∃v,G.val "LETTERS"<*v/\Q v H) (mJ ["sign"] []) [some (.str z)] H λx j=>rBf K .all [x] j R:=by
   intro R r;refine gC (BV rfl (gy seq_str n (λ_ _=>trivial) (λi v _=>v=.bl (iV (z.cps.toList.getD i 0))) (λ_ _ _ _ _ h=>h) (λo=>∃t,o=[t]) (none,rfl,) ?_ ?_))
   .rintro i x o D R F ⟨t,rfl⟩ I ⟨c,s,rfl⟩ k;refine(_,rfl,_,A,Dx (k _ _ _ (_,rfl,) (aY.refl _) ?_),);have :z.cps.toList[i]?<*c:=by simpa using s
    rw[aJ,this];rfl
   .intro C j l w p y u;have e:=bool_list w p;subst e;refine(l,_,rfl,SqL.of ay,?_,);have f:((bg z.length).map λi=>iV (z.cps.toList.getD i 0)).all id=z.cps.toList.all iV:=by have :=KN z.cps.toList 0 iV;rw[show z.cps.toList.length=z.length by simp[B5]]at this;exact this
    rw[f];exact r _ (y.trans (aA u))
  simp only[Bool.not_true,b8,if_false,B,eL,exists_eq_left',exists_eq_left,V.bl.injEq,V.int.injEq,le_ii,len_s,n,true_and];have a:∀b,aY H b->Q (.bl (dW z)) b:=q;unfold dW at a;by_cases h1:1<=z.length
  .by_cases h2:z.length<=8;·have d:decide ((1:Int)<=z.length)=true:=decide_eq_true 'D';have f:decide ((z.length:Int)<=8)=true:=decide_eq_true 'D';rw[decide_eq_true (And.intro h1 h2),Bool.true_and]at a;simp only[d,f,if_true,Bool.not_true,b8,if_false];exact all Q a
   .have d:decide ((1:Int)<=z.length)=true:=decide_eq_true 'D';have f:decide ((z.length:Int)<=8)=false:=decide_eq_false 'D';rw[decide_eq_false (λh=>h2 h.2),gW]at a;simp only[d,f,if_true,Bool.not_false];exact a H (aY.refl H)
  .have d:decide ((1:Int)<=z.length)=false:=decide_eq_false 'D';rw[decide_eq_false (λh=>h1 h.1),gW]at a;simp only[d,b8,if_false,Bool.not_false,if_true];exact a H (aY.refl H)
 |_=>exact q H (aY.refl H)
def XC(K:ai)(C:Addr):Prop:=cF K (.ref C)=true/\PySem.W.excIn K C bmV "ValueError.__new__"=true
def A8:(1:Nat)<=sizeLine:=by decide
def comp_zf{J:It}{C:Hp->Prop}{g:TG}{K:TT}{L:TE}{Q:VK}{w:Type}{ds:List w}(Y:xs.length=ds.length)(S:rD J xs.length (λi x _=>xs[i]?<*x) C)(hn:xs.length<=sizeLine)(R:∀H,aY H1 H->C H)
  (t:w->Bool)(f:V->w->V)(T:L2.St->Prop)(P:T τ0)
  (step:∀(i:Nat) x a k h (E:L2.St->V->Hp->Prop)(D:L2.St->Hp->Prop),xs[i]?<*x->ds[i]?<*a->T k->aY H1 h->(∀d j,T d->aY h j->t a=true->E d (f x a) j)->(∀d j,T d->aY h j->t a=false->D d j)->
   g x k h λo O=>K o O λb B=>if b=true then L o B (E o)else D o B)
  (fin:∀H2 l,aY H1 H2->H2 l=none->Q (.ref l) (upd H2 l (.lst (((xs.zip ds).filter λp=>t p.2).map λp=>f p.1 p.2)))):BZ J g K L τ0 H1 Q:=by
 have N:(xs.zip ds).length=xs.length:=by rw[List.length_zip];lia
 refine(λi m k F H2=>m=xs.length-i/\i<=xs.length/\T k/\F=(((xs.zip ds).take i).filter λp=>t p.2).map (λp=>f p.1 p.2)/\aY H1 H2,(xs.length,'F',a0 _,P,'F',aY.refl _,),?_,);rintro i m k F H2 ⟨rfl,X,W,rfl,n⟩;have q:=R H2 n;by_cases hlt:i<xs.length
 .refine .inr (S.go i H2 q hlt,λd G A=>T d/\G=(((xs.zip ds).take (i+1)).filter λp=>t p.2).map (λp=>f p.1 p.2)/\aY H1 A,λd G A ⟨a,b,c⟩=>(xs.length-(i+1),'D',rfl,hlt,a,b,c,),λx h y=>?_,);obtain⟨M,v⟩:=S.yld i H2 x h q hlt y;have I:ds[i]?<*ds[i]:=aj 'D';have e:(xs.zip ds).take (i+1)=(xs.zip ds).take i++[(x,ds[i])]:=by rw[dF,(List.getElem?_zip_eq_some (z:=(x,ds[i]))).mpr (M,I,)];rfl
  have Z:((((xs.zip ds).take i).filter λp=>t p.2).map (λp=>f p.1 p.2)).length<=i:=by rw[ah];refine aR (List.length_filter_le _ _) ?_;rw[aM];lia
  refine step i x _ k h _ _ M I W (n.trans v) (λd j r s u=>('D',r,?_,(n.trans v).trans s,)) (λd j r s u=>(r,?_,(n.trans v).trans s,));·rw[e,List.filter_append,bf];simp[u]
  .rw[e,List.filter_append,bf];simp[u]
 .have e:i=xs.length:=by lia
  subst e;rw[<-N,dv];exact .inl (S.stop _ H2 q (by rw[N];exact aE _),λl U=>fin H2 l n U,)
def GN{J:It}{p:Hp->Prop}{g:TG}{u:TT}{v:TE}{Q:VK}(S:rD J xs.length (λi x _=>xs[i]?<*x) p)(B:xs.length<=sizeLine)(A:∀H,aY H1 H->p H)
  (t:V->Bool)(f:V->V)(T:L2.St->Prop)(y:T τ0)
  (step:∀x m c (k:L2.St->V->Hp->Prop)(j:L2.St->Hp->Prop),x∈xs->T m->aY H1 c->(∀e d,T e->aY c d->t x=true->k e (f x) d)->(∀e d,T e->aY c d->t x=false->j e d)->
   g x m c λn w=>u n w λb o=>if b=true then v n o (k n)else j n o)
  (fin:∀H2 l,aY H1 H2->H2 l=none->Q (.ref l) (upd H2 l (.lst ((xs.filter t).map f)))):BZ J g u v τ0 H1 Q:=by
 refine comp_zf rfl S B A t (λ_ a=>f a) T y (λi x a m c k j q r=>?_) λH2 l s h=>?_;·rw[q]at r;cases r;exact step x m c k j (bS q)
 .have z:=fin H2 l s h;rw[<-List.map_snd_zip (l₁:=xs) (l₂:=xs) (aE _),List.filter_map,cQ]at z;exact z
end Cp
namespace Lt
open R
abbrev wU:List Str:=["_law_script","_law_k"]
abbrev pC:List Str:=["_law_script","_law_k"]
abbrev pM:CB:=
  (.cons (.iff (.cmp .Lt (.var 1) (.bfn .len (.cons (.var 0) .nil)))
  (.cons (.ret (.idx (.var 0) (.var 1)))
  .nil)
  .nil)
  (.cons (.ret (.con (.int 0)))
  .nil))
end Lt
namespace Lt
open L2 R Cp
def KA{i j:Int}(h0:0<=j)(a:j<18446744073709551616):D6 i j:=.inr ('D','D',)
def cmulL{i j:Int}(h0:0<=i)(a:i<18446744073709551616):D6 i j:=.inl ('D','D',)
def CQ(K:ai):Sp:=λvs H Q _=>∃(a:Addr)(ns:List Int)(k:Nat),vs=[.ref a,.int k]/\SqL K H a (ns.map V.int)/\Q (.int (ns.getD k 0)) H
def wp_cell{G:Gam}:Sat G K (CQ K) pM pC:=by
 rintro d H Q E ⟨a,b,k,rfl,c,q⟩;unfold pM;change wpB G K _ _ _ [some (.ref a),some (.int k)] H;ext;refine Or.inl (a,_,rfl,.inl c,?_,);show jg K .Lt (.int (k:Int)) (.int ((b.map V.int).length:Int)) H _;rw[lt_ii,ah];refine(_,rfl,?_,);by_cases hk:k<b.length;·rw[decide_eq_true (by lia:(k:Int)<(b.length:Int)),if_pos rfl];refine .inl (a,_,k,_,rfl,rfl,c,hZ (j:=k) (v:=.int (b.getD k 0)) ?_,q,);rw[bP,aj hk,aJ,aj hk];rfl
 .rw[decide_eq_false (by lia:¬(k:Int)<(b.length:Int)),if_neg be];rw[aJ,List.getElem?_eq_none 'D']at q;exact q
abbrev vz(x:Int):Nat:=97+(x%26).toNat
def lett_ok(x:Int):iV (vz x)=true:=by have a:0<=x%26:=cy _ 'E';have b:x%26<26:=cT _ 'E';unfold iV vz;exact decide_eq_true 'D'
def Bq{x y:Int}(h:vz x=vz y):x%26=y%26:=by have a:0<=x%26:=cy _ 'E';have b:0<=y%26:=cy _ 'E';unfold vz at h;have e:=Nat.add_left_cancel h;rw[<-iQ a,<-iQ b,e]
noncomputable abbrev mkS(l:List Nat):Str:=⟨l.toArray⟩
def zk(a b:List Nat):mkS a++mkS b=mkS (a++b):=by show(⟨a.toArray++b.toArray⟩:Str)=⟨(a++b).toArray⟩;rw[List.append_toArray]
def nW(a:List Nat):(mkS a).length=a.length:=by show a.toArray.size=_;simp
def BI(l:List Nat)(k:Nat):DL (mkS l) none (some (k:Int))=mkS (l.take k):=by
 unfold DL;rw[HT.yR,HT.u5,nW];show mkS _=_;congr 1;show((l.toArray.toList.drop 0).take (min k l.length-0))=l.take k;rw[Aj,pj];show l.take (min k l.length)=l.take k;by_cases h:k<=l.length;·rw[i8 h]
 .rw[Nat.min_eq_right 'D',dv,fi 'D']
def Dp:∀j:Fin 26,LETTERS.cps.toList[j.val]?<*(97+j.val):=by decide+kernel
def wm(x:Int):atI LETTERS.cps.toList (x%26)<*(vz x):=by have b:0<=x%26:=cy _ 'E';have c:x%26<26:=cT _ 'E';obtain⟨j,a⟩:=dY b;rw[a];refine hZ ?_;have :=Dp (j,'D',);rw[this];unfold vz;rw[a];rfl
def qS:LETTERS.length<=sizeLine:=by decide+kernel
def short(h:n<=40):n<=sizeLine:=aR h 'E'
theorem mk1(x:Nat):(⟨#[x]⟩:Str)=mkS [x]:=rfl
end Lt
namespace Q
open PySem.W L2
theorem A7(nd:ks.Nodup):(ord ks).Perm (bg ks.length):=by
 unfold ord;split;·exact fw _
 .have P:=(lW (rS nd) 'D').1;have :=d7.mp P.perm;simpa using this
def range_getD{a:Type}(d:a)(ys:List a):(bg ys.length).map (λi=>ys.getD i d)=ys:=by
 apply dw;·simp
 .intro i c b;simp[b]
def sW{a:Type}(d:a){ys:List a}(nd:ks.Nodup)(b:ks.length=ys.length):(sortBy d ks ys).Perm ys:=by unfold sortBy;have h:=(A7 nd).map λi=>ys.getD i d;rw[b,range_getD]at h;exact h
theorem pq(nd:ks.Nodup):(sortBy ("":Str) ks ks).Pairwise λa b=>tlt a b=true:=by
 unfold sortBy ord;split
 .rename_i h;rw[range_getD]
  match ks,h with
  | [],_=>exact .nil
  | [x],_=>simp
  |_::_::_,h=>simp at h;lia
 .rename_i h;obtain⟨P,U,_⟩:=lW (rS nd) (by lia:1<=ks.length);rw[b9];intro i j d g f;have n:i<ks.length:=by simpa[P.size]using d
  have l:j<ks.length:=by simpa[P.size]using g
  have u:=U i j f l;rw[cu,cu];have e:∀(k:Nat)(c:k<(run (qP ks) (dS ks.length)).toList.length),(run (qP ks) (dS ks.length)).toList[k]=at' (run (qP ks) (dS ks.length)) k:=λk c=>by
   have m:k<(run (qP ks) (dS ks.length)).size:=by simpa using c
   simp[at',m]
  rw[e,e];exact u
def FI{y:Str}(a:tlt x y=true)(b:tlt y x=true):False:=by have c:=xE a b;unfold tlt at c;exact List.lt_irrefl _ (W0 c)
theorem pv:∀{l m:List Str},l.Perm m->l.Pairwise (λa b=>tlt a b=true)->m.Pairwise (λa b=>tlt a b=true)->l=m
 | [],m,p,_,_=>by rw[List.nil_perm.mp p]
 |x::l,[],p,_,_=>by simpa using p.length_eq
 |x::l,y::m,p,h1,h2=>by
  rw[lN]at h1 h2;have e:x=y:=by
   by_cases e:x=y;·exact e
   .have c:x∈m:=by
     have :=p.mem_iff.mp (aw (a:=x) (l:=l));rcases aG.mp this with z|z;·exact absurd z e
     .exact z
    have d:y∈l:=by
     have :=p.mem_iff.mpr (aw (a:=y) (l:=m));rcases aG.mp this with z|z;·exact absurd z.symm e
     .exact z
    exact(FI (h1.1 y d) (h2.1 x c)).elim
  subst e;rw[pv (List.perm_cons x |>.mp p) h1.2 h2.2]
end Q
namespace Lt
open L2 R Cp
mutual
theorem BF:∀d:D,eqD d d=true
 |.non=>rfl
 |.bl b=>by cases b<;>rfl
 |.int i=>by show(i==i)=true;simp
 |.str x=>by show(x==x)=true;simp
 |.tup ds=>sq ds
 |.lst ds=>sq ds
theorem sq:∀ds:List D,o9 ds ds=true
 | []=>rfl
 |d::ds=>by show(eqD d d&&o9 ds ds)=true;rw[BF d,sq ds];rfl
end
end Lt
namespace Kc
open L2 R Cp Lt
def kT{J:It}{l:Nat->V->Hp->Prop}{k:Hp->Prop}{g:TG}{tb:TS}{D:Ends}(S:rD J n l k)(e:Nat->L2.St->Hp->Prop)(h0:e 0 σ H)(o:∀i σ H,i<=n->e i σ H->k H)
  (p:∀i x σ H H' (j:Ends),i<n->e i σ H->l i x H'->aY H H'->(∀f H2,e (i+1) f H2->j.nx f H2)->j.rt=D.rt->g x σ H' λf H2=>tb j f H2)(m:∀σ H,e n σ H->D.nx σ H):ForB J g tb D σ H:=
 for_seq S e h0 o (λi x σ H H' a b c d=>p i x σ H H' _ a b c d (λ_ _ h=>h) rfl) m
def nS(h:us.length=1):∃a,us=[a]:=by
 cases us with
 |nil=>exact nomatch h
 |cons a r=>exact⟨a,by rw[cn.mp (gK h)]⟩
def je(h:us.length=2):∃a b,us=[a,b]:=by
 cases us with
 |nil=>exact nomatch h
 |cons a r=>obtain⟨b,e⟩:=nS (gK h);exact⟨a,b,by rw[e]⟩
def js(h:us.length=3):∃a b c,us=[a,b,c]:=by
 cases us with
 |nil=>exact nomatch h
 |cons a r=>obtain⟨b,c,e⟩:=je (gK h);exact⟨a,b,c,by rw[e]⟩
def bB{b:Type}{F:b->Prop}{vs:List V}(h:∃a,F a)(k:∀a,F a->vs.length=n):vs.length=n:=let⟨a,f⟩:=h;k a f
def fT{P:Prop}{l vs:List V}(h:vs=l/\P)(e:l.length=n):vs.length=n:=by rw[h.1];exact e
end Kc
namespace F5
noncomputable abbrev Nm:=Str
abbrev ch(T:Nm->Int)(F:List (Nm×Nm)):Nat:=F.countP λe=>decide (T e.1≠T e.2)
abbrev bad(t:Int)(l:List Int):Nat:=l.countP λx=>decide (x≠t)
abbrev zo(r:Option Int)(z o:Nat):Nat×Nat:=if r<*0 then(o+1,o)else if r<*1 then(z,z+1)else(z,o)
abbrev half(z o:Nat):Option Int:=if o<z then some 0 else if z<o then some 1 else none
structure Cl where
 cs:Nm->List Int
 w:Nat
abbrev Cl.zo(rd:Nm->Option Int)(S:Cl)(n:Nm):Nat×Nat:=F5.zo (rd n) ((S.cs n).count 0) ((S.cs n).count 1)
abbrev Cl.half(rd:Nm->Option Int)(S:Cl)(n:Nm):Option Int:=F5.half (S.zo rd n).1 (S.zo rd n).2
abbrev put(cs:Nm->List Int)(h:Option Int)(p:Option Nm):Nm->List Int:=λu=>match h,p with
 |some x,some q=>if u=q then cs q++[x]else cs u
 |_,_=>cs u
abbrev Cl.step(rd:Nm->Option Int)(S:Cl)(e:Nm×Option Nm):Cl:=(put S.cs (S.half rd e.1) e.2,S.w+min (S.zo rd e.1).1 (S.zo rd e.1).2,)
abbrev halves(rd:Nm->Option Int):List (Nm×Option Nm)->Cl->List (Option Int)
 | [],_=>[]
 |e::r,S=>S.half rd e.1::halves rd r (S.step rd e)
abbrev iW(rd:Nm->Option Int)(R:List (Nm×Option Nm))(S:Cl):Cl:=R.foldl (λS e=>S.step rd e) S
inductive Back:List (Nm×Option Nm)->Prop
 |nil:Back []
 |cons {e:Nm×Option Nm} {r:List (Nm×Option Nm)} (hp:∀q,e.2<*q->q∈r.map (·.1)) (hn:e.1∉r.map (·.1)) (t:Back r):Back (e::r)
def R01(l:List Int):Prop:=∀x∈l,x=0\/x=1
abbrev un(T:Nm->Int)(e:Nm×Option Nm):Nat:=match e.2 with
 |some q=>if T e.1=T q then 0 else 1
 |none=>0
abbrev cost(T:Nm->Int)(R:List (Nm×Option Nm)):Nat:=(R.map (un T)).sum
abbrev due(T:Nm->Int)(cs:Nm->List Int)(R:List (Nm×Option Nm)):Nat:=(R.map λe=>bad (T e.1) (cs e.1)).sum
def G1{t:Int}{l:List Int}(h:R01 l)(b:t=0\/t=1):bad t l=if t=0 then l.count 1 else l.count 0:=by
 induction l with
 |nil=>rcases b with rfl|rfl<;>rfl
 |cons x l a=>have a:=a λy c=>h y (aB _ c);unfold bad at a⊢;rw[List.countP_cons,a];rcases h x aw with rfl|rfl<;>rcases b with rfl|rfl<;>simp[List.count_cons]
theorem Fi{T:Nm->Int}{cs:Nm->List Int}{x:Int}{q:Nm}:∀{R:List (Nm×Option Nm)},Back R->due T (put cs (some x) (some q)) R=due T cs R+if q∈R.map (·.1)then(if x=T q then 0 else 1)else 0
 | [],_=>rfl
 |e::r,.cons hp hn t=>by
  have b:=Fi (T:=T) (cs:=cs) (x:=x) (q:=q) t;unfold due at b⊢;rw[bw,iS,bw,iS,b];by_cases c:e.1=q;·subst c;have :e.1∉r.map (·.1):=hn;rw[if_neg this,if_pos 'F'];show bad (T e.1) (if e.1=e.1 then cs e.1++[x]else cs e.1)+_=_;rw[if_pos rfl];unfold bad;rw[List.countP_append];by_cases h:x=T e.1<;>simp[h]<;>lia
  .have d:put cs (some x) (some q) e.1=cs e.1:=if_neg c;rw[d];by_cases h:q∈r.map (·.1);·have a:q∈(e::r).map (·.1):=aB _ h;rw[if_pos h,if_pos a];lia
   .have a:q∉(e::r).map (·.1):=λz=>(aG.mp z).elim (λz=>c z.symm) h;rw[if_neg h,if_neg a];lia
def BG{T:Nm->Int}{rd:Nm->Option Int}{S:Cl}{e:Nm×Option Nm}{r:List (Nm×Option Nm)}(b:Back (e::r)):due T (S.step rd e).cs r=due T S.cs r+match S.half rd e.1,e.2 with
  |some x,some q=>if x=T q then 0 else 1
  |_,_=>0:=by
 cases b with
 |cons hp hn t=>
  show due T (put S.cs (S.half rd e.1) e.2) r=_;cases hh:S.half rd e.1 with
  |none=>rfl
  |some x=>
   cases he:e.2 with
   |none=>rfl
   |some q=>rw[Fi t,if_pos (hp q he)]
def Tells(T:Nm->Int)(rd:Nm->Option Int)(n:Nm):Prop:=(T n=0\/T n=1)/\∀x,rd n<*x->T n=x
def vG(rd:Nm->Option Int)(S:Cl)(n:Nm)(b:R01 (S.cs n))(d:∀x,rd n<*x->x=0\/x=1){T:Nm->Int}(c:Tells T rd n):
  (S.half rd n=none/\bad (T n) (S.cs n)=min (S.zo rd n).1 (S.zo rd n).2)\/∃x,S.half rd n<*x/\(x=0\/x=1)/\((T n=x/\bad (T n) (S.cs n)=min (S.zo rd n).1 (S.zo rd n).2)\/(T n≠x/\bad (T n) (S.cs n)≥ min (S.zo rd n).1 (S.zo rd n).2+1)):=by
 obtain⟨a,f⟩:=c;rw[G1 b a];unfold Cl.half Cl.zo F5.half F5.zo;generalize(S.cs n).count 0=z;generalize(S.cs n).count 1=o;cases hx:rd n with
 |none=>
  simp only[reduceCtorEq,if_false];rcases wC z o with h|h|h
  .refine .inr (1,by rw[if_neg 'D',if_pos h],.inr rfl,?_,);rcases a with e|e;·exact .inr ⟨by rw[e];decide,by rw[e,if_pos rfl];lia⟩
   .exact .inl ⟨e,by rw[e,if_neg 'E'];lia⟩
  .refine .inl (by rw[if_neg 'D',if_neg 'D'],?_,);rcases a with e|e;·rw[e,if_pos rfl];lia
   .rw[e,if_neg 'E'];lia
  .refine .inr (0,by rw[if_pos h],.inl rfl,?_,);rcases a with e|e;·exact .inl ⟨e,by rw[e,if_pos rfl];lia⟩
   .exact .inr ⟨by rw[e];decide,by rw[e,if_neg 'E'];lia⟩
 |some x=>
  have e:=f x hx;rcases d x hx with rfl|rfl;·refine .inr (0,'F',.inl rfl,.inl (e,?_,),);rw[e,if_pos rfl,if_pos rfl];show o=min (o+1) o;lia
  .refine .inr (1,'F',.inr rfl,.inl (e,?_,),);rw[e,if_neg 'E',if_neg 'F',if_pos rfl];show z=min z (z+1);lia
def AD{rd:Nm->Option Int}{S:Cl}(h:∀n,R01 (S.cs n))(b:∀n x,rd n<*x->x=0\/x=1)(e:Nm×Option Nm):∀n,R01 ((S.step rd e).cs n):=by
 intro n x hx;have hx:x∈put S.cs (S.half rd e.1) e.2 n:=hx;unfold put at hx;cases hh:S.half rd e.1 with
 |none=>rw[hh]at hx;exact h n x hx
 |some y=>
  have a:y=0\/y=1:=by
   have :F5.half (S.zo rd e.1).1 (S.zo rd e.1).2<*y:=hh;unfold F5.half at this;split at this;·cases this;exact .inl rfl
   .split at this;·cases this;exact .inr rfl
    .cases this
  cases he:e.2 with
  |none=>rw[hh,he]at hx;exact h n x hx
  |some q=>
   rw[hh,he]at hx;dsimp only at hx;split at hx
   .rcases aH.mp hx with hx|hx;·exact h q x hx
    .rw[aC.mp hx];exact a
   .exact h n x hx
theorem Bd{rd:Nm->Option Int}(f:∀n x,rd n<*x->x=0\/x=1){T:Nm->Int}:∀{R:List (Nm×Option Nm)}{S:Cl},Back R->(∀n,R01 (S.cs n))->(∀e∈R,Tells T rd e.1)->(iW rd R S).w<=S.w+due T S.cs R+cost T R
 | [],S,_,_,_=>by show S.w<=S.w+0+0;lia
 |e::r,S,b,h01,hT=>by
  have o:=Bd f (S:=S.step rd e) (R:=r) (by cases b;assumption) (AD h01 f e) λx g=>hT x (aB _ g);have d:=BG (T:=T) (rd:=rd) (S:=S) b;have l:=vG rd S e.1 (h01 e.1) (f e.1) (hT e aw);have i:due T S.cs (e::r)=bad (T e.1) (S.cs e.1)+due T S.cs r:=by unfold due;rw[bw,iS]
  have j:cost T (e::r)=un T e+cost T r:=by unfold cost;rw[bw,iS]
  have k:(S.step rd e).w=S.w+min (S.zo rd e.1).1 (S.zo rd e.1).2:=rfl;show(iW rd r (S.step rd e)).w<=_;rw[i,j];rw[k]at o;rcases l with⟨m,a⟩ |⟨x,g,_,a⟩;·rw[m]at d;dsimp only at d;lia
  .rw[g]at d;unfold un;cases hp:e.2 with
   |none=>rw[hp]at d;dsimp only at d⊢;rcases a with⟨_,a⟩ |⟨_,a⟩<;>lia
   |some q=>
    rw[hp]at d;dsimp only at d⊢;rcases a with⟨h,a⟩ |⟨h,a⟩
    .rw[h]at a⊢;by_cases c:x=T q;·rw[if_pos c]at d⊢;lia
     .rw[if_neg c]at d⊢;lia
    .split at d<;>split <;>lia
abbrev Fit(T:Nm->Int):List (Nm×Option Nm)->List (Option Int)->Prop
 |e::r,h::hs=>(∀x,h<*x->T e.1=x)/\(h=none->∀q,e.2<*q->T e.1=T q)/\Fit T r hs
 |_,_=>True
theorem KL{rd:Nm->Option Int}(g:∀n x,rd n<*x->x=0\/x=1){T:Nm->Int}:∀{R:List (Nm×Option Nm)}{S:Cl},Back R->(∀n,R01 (S.cs n))->(∀e∈R,Tells T rd e.1)->Fit T R (halves rd R S)->(iW rd R S).w=S.w+due T S.cs R+cost T R
 | [],S,_,_,_,_=>by show S.w=S.w+0+0;lia
 |e::r,S,b,h01,hT,hf=>by
  obtain⟨m,o,p⟩:=(show(∀x,S.half rd e.1<*x->T e.1=x)/\(S.half rd e.1=none->∀q,e.2<*q->T e.1=T q)/\Fit T r (halves rd r (S.step rd e))from hf);have u:=KL g (S:=S.step rd e) (R:=r) (by cases b;assumption) (AD h01 g e) (λx f=>hT x (aB _ f)) p;have d:=BG (T:=T) (rd:=rd) (S:=S) b;have t:=vG rd S e.1 (h01 e.1) (g e.1) (hT e aw);have j:due T S.cs (e::r)=bad (T e.1) (S.cs e.1)+due T S.cs r:=by unfold due;rw[bw,iS]
  have k:cost T (e::r)=un T e+cost T r:=by unfold cost;rw[bw,iS]
  have l:(S.step rd e).w=S.w+min (S.zo rd e.1).1 (S.zo rd e.1).2:=rfl;show(iW rd r (S.step rd e)).w=_;rw[j,k];rw[l]at u;rcases t with⟨i,a⟩ |⟨x,f,_,a⟩
  .rw[i]at d;dsimp only at d;unfold un;cases hp:e.2 with
   |none=>dsimp only;lia
   |some q=>dsimp only;rw[if_pos (o i q hp)];lia
  .have h:=m x f;rw[f]at d;rcases a with⟨_,a⟩ |⟨s,_⟩
   .unfold un;cases hp:e.2 with
    |none=>rw[hp]at d;dsimp only at d⊢;lia
    |some q=>
     rw[hp]at d;dsimp only at d⊢;rw[h]at a⊢;by_cases c:x=T q;·rw[if_pos c]at d⊢;lia
     .rw[if_neg c]at d⊢;lia
   .exact absurd h s
def GH{rd:Nm->Option Int}{S:Cl}{n:Nm}{x:Int}(a:x=0\/x=1)(h:rd n<*x):S.half rd n<*x:=by
 unfold Cl.half Cl.zo F5.half F5.zo;rw[h];rcases a with rfl|rfl;·simp
 .simp
abbrev ends(F:List (Nm×Nm)):List Nm:=F.map (·.1)++F.map (·.2)
abbrev adj(F:List (Nm×Nm))(v:Nm):List Nm:=F.flatMap λe=>(if e.1=v then[e.2]else[])++(if e.2=v then[e.1]else[])
def uC{F:List (Nm×Nm)}{v x:Nm}:x∈adj F v↔(v,x)∈F\/(x,v)∈F:=by
 unfold adj;rw[List.mem_flatMap];constructor
 .rintro⟨⟨a,b⟩,d,hx⟩;rcases aH.mp hx with hx|hx
  .by_cases c:a=v;·rw[if_pos c,aC]at hx;rw[hx,<-c];exact .inl d
   .rw[if_neg c]at hx;cases hx
  .by_cases c:b=v;·rw[if_pos c,aC]at hx;rw[hx,<-c];exact .inr d
   .rw[if_neg c]at hx;cases hx
 .rintro(h|h);·exact⟨_,h,'F'⟩
  .exact⟨_,h,'F'⟩
structure Tree(F:List (Nm×Nm))(vs:List Nm):Prop where
 nd:vs.Nodup
 sub:∀e∈F,e.1∈vs/\e.2∈vs
 len:vs.length=F.length+1
 conn:∀S:Nm->Prop,(∀e∈F,S e.1↔S e.2)->∀a∈vs,∀b∈vs,S a->S b
theorem Tree.ends{F:List (Nm×Nm)}{vs:List Nm}(t:Tree F vs)(f:F≠[])(v:Nm):v∈ends F↔v∈vs:=by
 unfold F5.ends;constructor
 .intro h;rcases aH.mp h with h|h;·obtain⟨e,a,rfl⟩:=aW.mp h;exact(t.sub e a).1
  .obtain⟨e,a,rfl⟩:=aW.mp h;exact(t.sub e a).2
 .intro g;by_cases c:v∈F.map (·.1)++F.map (·.2);·exact c
  .exfalso
   have b:∀e∈F,e.1≠v/\e.2≠v:=λe a=>(λz=>c (aH.mpr (.inl (aW.mpr (e,a,z,)))),λz=>c (aH.mpr (.inr (aW.mpr (e,a,z,)))),);obtain⟨e,r,rfl⟩:=lR f;obtain⟨d,i⟩:=t.sub e aw;have :=t.conn (λx=>x=v) (λe a=>(λz=>absurd z (b e a).1,λz=>absurd z (b e a).2,)) v g e.1 d rfl;exact(b e aw).1 this
def Tree.perm{F b:List (Nm×Nm)}{vs:List Nm}(t:Tree F vs)(p:b.Perm F):Tree b vs:=
 (t.nd,λe a=>t.sub e (p.mem_iff.mp a),by rw[t.len,p.length_eq],λS h=>t.conn S λe a=>h e (p.mem_iff.mpr a),)
def Tree.names{F:List (Nm×Nm)}{vs ws:List Nm}(t:Tree F vs)(nd:ws.Nodup)(h:∀v,v∈ws↔v∈vs):Tree F ws:=by have p:ws.Perm vs:=(lM nd t.nd).mpr h;exact(nd,λe c=>((h _).mpr (t.sub e c).1,(h _).mpr (t.sub e c).2,),by rw[p.length_eq,t.len],λS d a f b g=>t.conn S d a ((h a).mp f) b ((h b).mp g),)
def ch_perm{T:Nm->Int}{F a:List (Nm×Nm)}(p:a.Perm F):ch T a=ch T F:=p.countP_eq _
inductive oA (F:List (Nm×Nm)):List (Nm×Option Nm)->Prop
 |one (s:Nm):oA F [(s,none)]
 |more {A:List (Nm×Option Nm)} {v q:Nm} (g:oA F A) (hq:q∈A.map (·.1)) (hv:v∉A.map (·.1)) (he:v∈adj F q):oA F (A++[(v,some q)])
def qO{A:List (Nm×Option Nm)}{v:Nm}:v∈A.reverse.map (·.1)↔v∈A.map (·.1):=by rw[iu,iq]
def oA.back{F:List (Nm×Nm)}{A:List (Nm×Option Nm)}(g:oA F A):Back A.reverse:=by
 induction g with
 |one s=>exact .cons (λq z=>nomatch z) (λz=>nomatch z) .nil
 |more g hq hv he ih=>rw[kP];exact .cons (λq z=>by cases z;exact qO.mpr hq) (λz=>hv (qO.mp z)) ih
def oA.nd{F:List (Nm×Nm)}{A:List (Nm×Option Nm)}(g:oA F A):(A.map (·.1)).Nodup:=by
 induction g with
 |one s=>simp
 |more g hq hv he ih=>rw[bf,d8];refine(ih,'F',λa c b d z=>?_,);have :b=_:=aC.mp d;subst this z;exact hv c
def GL(T:Nm->Int)(A:List (Nm×Option Nm))(e:Nm×Option Nm):cost T (A++[e]).reverse=un T e+cost T A.reverse:=by unfold cost;rw[kP];rfl
def oA.edges{F:List (Nm×Nm)}{A:List (Nm×Option Nm)}(g:oA F A):∃L:List (Nm×Nm),L.Nodup/\(∀x∈L,x∈F)/\(∀x∈L,x.1∈A.map (·.1)/\x.2∈A.map (·.1))/\L.length+1=A.length/\∀T,ch T L=cost T A.reverse:=by
 induction g with
 |one s=>exact([],lO,λx h=>(bu h).elim,λx h=>(bu h).elim,rfl,λT=>rfl,)
 | @more A v q g hq hv he ih=>
  obtain⟨L,k,l,f,m,n⟩:=ih;have up:∀x,x∈A.map (·.1)->x∈(A++[(v,some q)]).map (·.1):=λx hx=>by rw[bf];exact aH.mpr (.inl hx)
  have i:v∈(A++[(v,some q)]).map (·.1):=by simp
  have fin:∀e:Nm×Nm,e∈F->(e=(q,v)\/e=(v,q))->∃L:List (Nm×Nm),L.Nodup/\(∀x∈L,x∈F)/\(∀x∈L,x.1∈(A++[(v,some q)]).map (·.1)/\x.2∈(A++[(v,some q)]).map (·.1))/\L.length+1=(A++[(v,some q)]).length/\∀T,ch T L=cost T (A++[(v,some q)]).reverse:=by
   intro e o d;refine(e::L,eA.mpr (λz=>?_,k,),λx hx=>?_,λx hx=>?_,?_,λT=>?_,)
   .obtain⟨a,b⟩:=f e z;rcases d with rfl|rfl;·exact hv b
    .exact hv a
   .rcases aG.mp hx with rfl|hx;·exact o
    .exact l x hx
   .rcases aG.mp hx with rfl|hx
    .rcases d with rfl|rfl;·exact(up _ hq,i,)
     .exact(i,up _ hq,)
    .exact(up _ (f x hx).1,up _ (f x hx).2,)
   .rw[aZ,aq,m];rfl
   .rw[GL,<-n];unfold ch;rw[List.countP_cons,Nat.add_comm];congr 1;show(if decide (T e.1≠T e.2)=true then 1 else 0)=if T v=T q then 0 else 1
    by_cases c:T v=T q;·rcases d with rfl|rfl<;>simp[c]
    .have j:¬T q=T v:=λz=>c z.symm;rcases d with rfl|rfl<;>simp[c,j]
  rcases uC.mp he with h|h;·exact fin _ h (.inl rfl)
  .exact fin _ h (.inr rfl)
theorem oA.ch{F:List (Nm×Nm)}{A:List (Nm×Option Nm)}(g:oA F A)(e:A.length=F.length+1)(T:Nm->Int):F5.ch T F=cost T A.reverse:=by obtain⟨L,a,b,_,d,c⟩:=g.edges;rw[<-c T];exact ch_perm (Q.rZ a b 'D')
def Tree.all{F:List (Nm×Nm)}{vs:List Nm}{A:List (Nm×Option Nm)}(t:Tree F vs)(nd:(A.map (·.1)).Nodup)(sub:∀v∈A.map (·.1),v∈vs)(a:∀v∈A.map (·.1),∀x∈adj F v,x∈A.map (·.1)){s:Nm}(c:s∈A.map (·.1)):(∀v∈vs,v∈A.map (·.1))/\A.length=F.length+1:=by have h:∀v∈vs,v∈A.map (·.1):=λv d=>t.conn (λx=>x∈A.map (·.1)) (λe b=>(λz=>a _ z _ (uC.mpr (.inl b)),λz=>a _ z _ (uC.mpr (.inr b)),)) s (sub s c) v d c;have p:(A.map (·.1)).Perm vs:=(lM nd t.nd).mpr λv=>(sub v,h v,);have :=p.length_eq;rw[ah,t.len]at this;exact(h,this,)
end F5
namespace F5
open R
abbrev zc:List Str:=["nodes","pairs"]
abbrev qJ:List Str:=["nodes","pairs","beside","node","one","other"]
abbrev oj:CB:=
  (.cons (.ret (.var 2))
  .nil)
abbrev me:CB:=
  (.cons (.expr (.meth1 .append (.x2 .idxk (.var 2) (.var 5)) (.var 4)))
  .nil)
abbrev oq:CB:=
  (.cons (.forr (.tup (.cons (.name 4) (.cons (.name 5) .nil))) (.seq (.var 1))
  (.cons (.expr (.meth1 .append (.x2 .idxk (.var 2) (.var 4)) (.var 5)))
  me))
  oj)
abbrev ot:CB:=
  (.cons (.forr (.name 3) (.seq (.var 0))
  (.cons (.putk (.var 2) (.var 3) (.lst .nil))
  .nil))
  oq)
abbrev rh:CB:=
  (.cons (.asg (.name 2) (.dic .nil))
  ot)
abbrev Gi:List Str:=["beside"]
abbrev xM:List Str:=["beside","start","ahead","waiting","node","near"]
abbrev tL:CB:=
  (.cons (.ret (.var 2))
  .nil)
abbrev kU:CB:=
  (.cons (.expr (.meth1 .append (.var 3) (.var 5)))
  .nil)
abbrev pF:CB:=
  (.cons (.forr (.name 5) (.seq (.x2 .idxk (.var 0) (.var 4)))
  (.cons (.iff (.x2 .nink (.var 5) (.var 2))
  (.cons (.putk (.var 2) (.var 5) (.var 4))
  kU)
  .nil)
  .nil))
  .nil)
abbrev tM:CB:=
  (.cons (.whl (.cmp .Gt (.bfn .len (.cons (.var 3) .nil)) (.con (.int 0)))
  (.cons (.asg (.name 4) (.meth0 .pop (.var 3)))
  pF))
  tL)
abbrev tN:CB:=
  (.cons (.asg (.name 3) (.lst (.cons (.var 1) .nil)))
  tM)
abbrev tO:CB:=
  (.cons (.asg (.name 2) (.dic (.cons (.var 1) (.con .none) .nil)))
  tN)
abbrev yf:CB:=
  (.cons (.asg (.name 1) (.idx (.bfn .listk (.cons (.var 0) .nil)) (.con (.int 0))))
  tO)
abbrev ud:List Str:=["beside","pairs"]
abbrev jC:List Str:=["beside","pairs"]
abbrev iX:CB:=
  (.cons (.ret (.and (.cmp .Eq (.bfn .len (.cons (.var 1) .nil)) (.bin .Sub (.bfn .lenk (.cons (.var 0) .nil)) (.con (.int 1)))) (.cmp .Eq (.bfn .lenk (.cons (.call "reached" (.cons (.var 0) .nil)) .nil)) (.bfn .lenk (.cons (.var 0) .nil)))))
  .nil)
abbrev hU:CB:=
  (.cons (.iff (.cmp .Eq (.bfn .lenk (.cons (.var 0) .nil)) (.con (.int 0)))
  (.cons (.ret (.con (.bool true)))
  .nil)
  .nil)
  iX)
abbrev Gk:List Str:=["thing"]
abbrev xN:List Str:=["thing"]
abbrev tU:CB:=
  (.cons (.ret (.and (.call "is_name" (.cons (.idx (.var 0) (.con (.int 0))) .nil)) (.call "is_name" (.cons (.idx (.var 0) (.con (.int 1))) .nil))))
  .nil)
abbrev yj:CB:=
  (.cons (.iff (.or (.not (.bfn .isinstance (.cons (.var 0) (.cons (.ty .tuple) .nil)))) (.cmp .NotEq (.bfn .len (.cons (.var 0) .nil)) (.con (.int 2))))
  (.cons (.ret (.con (.bool false)))
  .nil)
  .nil)
  tU)
abbrev Dc:List Str:=["frame"]
abbrev vm:List Str:=["frame"]
abbrev vY:CB:=
  (.cons (.ret (.sset (.bin .Add (.comp ["one","other"] [] (.tup (.cons (.name 0) (.cons (.name 1) .nil))) (.seq (.var 0)) .no (.var 0)) (.comp ["one","other"] [] (.tup (.cons (.name 0) (.cons (.name 1) .nil))) (.seq (.var 0)) .no (.var 1)))))
  .nil)
abbrev Df:List Str:=["frame","alone"]
abbrev pZ:List Str:=["frame","alone"]
abbrev mO:CB:=
  (.cons (.ret (.call "leads_one_way" (.cons (.call "neighbours" (.cons (.call "names_of" (.cons (.var 0) .nil)) (.cons (.var 0) .nil))) (.cons (.var 0) .nil))))
  .nil)
abbrev fL:CB:=
  (.cons (.iff (.or (.cmp .IsNot (.var 1) (.con .none)) (.not (.bfn .all (.cons (.comp ["branch"] [] (.name 0) (.seq (.var 0)) .no (.call "is_pair" (.cons (.var 0) .nil))) .nil))))
  (.cons (.ret (.con (.bool false)))
  .nil)
  .nil)
  mO)
abbrev mP:CB:=
  (.cons (.iff (.cmp .Eq (.bfn .len (.cons (.var 0) .nil)) (.con (.int 0)))
  (.cons (.ret (.call "is_name" (.cons (.var 1) .nil)))
  .nil)
  .nil)
  fL)
abbrev mQ:CB:=
  (.cons (.iff (.or (.not (.bfn .isinstance (.cons (.var 0) (.cons (.ty .list) .nil)))) (.cmp .Gt (.bfn .len (.cons (.var 0) .nil)) (.glo "MOST_BRANCHES")))
  (.cons (.ret (.con (.bool false)))
  .nil)
  .nil)
  mP)
abbrev qH:List Str:=["frame","alone"]
abbrev jL:List Str:=["frame","alone"]
abbrev ow:CB:=
  (.cons (.ret (.ite (.cmp .Eq (.bfn .len (.cons (.var 0) .nil)) (.con (.int 0))) (.lst (.cons (.var 1) .nil)) (.call "names_of" (.cons (.var 0) .nil))))
  .nil)
abbrev jN:CB:=
  (.cons (.iff (.not (.call "is_frame" (.cons (.var 0) (.cons (.var 1) .nil))))
  (.cons (.rais "NoFrame" (.cons (.con (.str "this is no frame")) .nil))
  .nil)
  .nil)
  ow)
end F5
namespace F5
open L2 R Cp Kc
abbrev kvS(ls:List (Nm×V)):List (Key×V):=ls.map λq=>(.inr q.1,q.2)
abbrev lk(ls:List (Nm×V))(v:Nm):Option V:=(ls.find? λq=>decide (q.1=v)).map (·.2)
def inr_iff{a b:Nm}:(decide ((gk a:Key)=.inr b))=decide (a=b):=by
 by_cases h:a=b;·rw[h,decide_eq_true rfl,decide_eq_true rfl]
 .rw[decide_eq_false h,decide_eq_false λz=>h (uM z)]
theorem Ed(v:Nm):∀ls:List (Nm×V),qz (kvS ls) (.inr v)=lk ls v
 | []=>rfl
 | (a,x)::ls=>by
  have b:=Ed v ls;unfold qz lk kvS at b⊢;rw[bw,dP,dP,inr_iff];cases h:decide (a=v)with
  |true=>rfl
  |false=>exact b
def any_kvS(v:Nm)(b:List (Nm×V)):((kvS b).any λc=>decide (c.1=.inr v))=decide (v∈b.map (·.1)):=by
 unfold kvS;rw[List.any_map,kI,fS,decide_eq_true_eq,aW];constructor;·rintro⟨q,a,e⟩;exact(q,a,uM (W0 e),)
 .rintro⟨q,a,rfl⟩;exact(q,a,decide_eq_true rfl,)
def uA{a:List (Nm×V)}{v:Nm}{x:V}(h:v∉a.map (·.1)):putK (kvS a) (.inr v) x=kvS (a++[(v,x)]):=by unfold putK;rw[any_kvS,decide_eq_false h,if_neg be];unfold kvS;rw[bf];rfl
def qa{a:List (Nm×V)}{v:Nm}{x:V}(nd:(a.map (·.1)).Nodup)(h:(v,x)∈a):lk a v<*x:=by
 induction a with
 |nil=>cases h
 |cons q a ih=>
  unfold lk;rw[dP];rw[bw,eA]at nd;rcases aG.mp h with e|h;·rw[<-e];simp
  .have :q.1≠v:=λz=>nd.1 (by rw[z];exact aW.mpr (_,h,rfl,));rw[decide_eq_false this];exact ih nd.2 h
def lk_none{a:List (Nm×V)}{v:Nm}(h:v∉a.map (·.1)):lk a v=none:=by
 unfold lk;rw[List.find?_eq_none.mpr];·rfl
 .intro q b z;exact h (aW.mpr (q,b,W0 z,))
def DE{d:Addr}{a:List (Nm×V)}(v:Nm)(h:Rd H d (.dK (kvS a))):xk H d (.str v) (lk a v):=.inl (kvS a,.inr v,h,rfl,(Ed v a).symm,)
def dput{d:Addr}{a:List (Nm×V)}{v:Nm}{x:V}(h:H d<*(.dK (kvS a)))(b:a.length<1000)(c:v∉a.map (·.1)):D1 H d (.str v) x (upd H d (.dK (kvS (a++[(v,x)])))):=by have :=D1.k (k:=.inr v) (v:=x) h (by unfold kvS;rw[ah];exact bj b 'E');rw[uA c]at this;exact this
def SmF(H H':Hp):Prop:=∀b u,H b<*u->H' b<*u\/∃o kvs,u=.dK kvs/\H' b<*(.frz o (.dK kvs))
def SmF.of(s:aY H H'):SmF H H':=λb u e=>.inl (s b u e)
theorem SmF.lst{H H':Hp}(s:SmF H H'){a:Addr}{xs:List V}(h:H a<*(.lst xs)):H' a<*(.lst xs):=by
 rcases s a _ h with h|⟨_,_,z,_⟩;·exact h
 .cases z
theorem SmF.tup{H H':Hp}(s:SmF H H'){a:Addr}{xs:List V}(h:H a<*(.tup xs)):H' a<*(.tup xs):=by
 rcases s a _ h with h|⟨_,_,z,_⟩;·exact h
 .cases z
def SmF.rd(s:SmF H H'){kvs:List (Key×V)}(h:Rd H a (.dK kvs)):Rd H' a (.dK kvs):=by
 rcases h with h|⟨o,h⟩
 .rcases s a _ h with h|⟨o,_,z,h⟩;·exact .inl h
  .cases z;exact .inr (o,h,)
 .rcases s a _ h with h|⟨_,_,z,_⟩;·exact .inr (o,h,)
  .cases z
def Br(H:Hp)(y:V)(e:Nm×Nm):Prop:=∃p,y=V.ref p/\H p<*(.tup [.str e.1,.str e.2])
structure Frm(H:Hp)(f:Addr)(ys:List V)(F:List (Nm×Nm)):Prop where
 hf:H f<*(.lst ys)
 br:Paired (Br H) ys F
theorem pY{a b:Type}{P:a->b->Prop}:∀{xs:List a}{ys:List b},Paired P xs ys->∀{i:Nat}{x:a},xs[i]?<*x->∃y,ys[i]?<*y/\P x y
 |_,_,.nil,_,_,h=>nomatch h
 |_,_,.cons r _,0,_,h=>by cases h;exact(_,rfl,r,)
 |_,_,.cons _ t,i+1,_,h=>pY t (i:=i) h
def Frm.len{F:List (Nm×Nm)}(d:Frm H f ys F):ys.length=F.length:=d.br.length
def Frm.at_{F:List (Nm×Nm)}(d:Frm H f ys F)(h:ys[i]?<*y):∃a b p,F[i]?<*(a,b)/\y=V.ref p/\H p<*(.tup [.str a,.str b]):=by obtain⟨⟨a,b⟩,c,p,e,g⟩:=pY d.br h;exact(a,b,p,c,e,g,)
def Frm.grow{F:List (Nm×Nm)}(d:Frm H f ys F)(s:SmF H H'):Frm H' f ys F:=(s.lst d.hf,L2.Paired.nY d.br λ_ _ ⟨p,e,h⟩=>(p,e,s.tup h,),)
def Frm.same{F:List (Nm×Nm)}(d:Frm H f ys F)(s:aY H H'):Frm H' f ys F:=d.grow (.of s)
structure Bes(H:Hp)(d:Addr)(ls:List (Nm×Addr))(c:Nm->List V):Prop where
 hd:Rd H d (.dK (kvS (ls.map λq=>(q.1,V.ref q.2))))
 nd:(ls.map (·.1)).Nodup
 na:(ls.map (·.2)).Nodup
 at_:∀q∈ls,H q.2<*(.lst (c q.1))
def oP(a:List (Nm×Addr)):(a.map λq=>(q.1,V.ref q.2)).map (·.1)=a.map (·.1):=by rw[cQ];rfl
def Bes.get{d:Addr}{f:List (Nm×Addr)}{c:Nm->List V}(b:Bes H d f c){v:Nm}(h:v∈f.map (·.1)):∃a,(v,a)∈f/\xk H d (.str v) (some (.ref a))/\H a<*(.lst (c v)):=by obtain⟨⟨w,a⟩,e,rfl⟩:=aW.mp h;refine(a,e,?_,b.at_ _ e,);have :=DE w b.hd;rw[qa (by rw[oP];exact b.nd) (aW.mpr (_,e,rfl,))]at this;exact this
def Bes.app{d:Addr}{f:List (Nm×Addr)}{c:Nm->List V}(b:Bes H d f c){v:Nm}{l:List V}(h:(v,a)∈f):Bes (upd H a (.lst l)) d f (λw=>if w=v then l else c w):=by
 have r:=b.at_ _ h;refine(?_,b.nd,b.na,λq p=>?_,)
 .rcases b.hd with z|⟨o,z⟩;·exact .inl (by rw[aQ (gv z r (λz=>nomatch z))];exact z)
  .exact .inr ⟨o,by rw[aQ (gv z r (λz=>nomatch z))];exact z⟩
 .by_cases e:q.2=a
  .have :q=(v,a):=by
    obtain⟨i,m,g⟩:=aU.mp p;obtain⟨j,n,k⟩:=aU.mp h;have :(f.map (·.2))[i]'(by rw[ah];exact m)=(f.map (·.2))[j]'(by rw[ah];exact n):=by rw[cu,cu,g,k];exact e
    have :=(cJ b.na).mp this;subst this;rw[<-g,k]
   rw[this];show upd H a _ a=_;rw[ay,if_pos rfl]
  .rw[aQ e,b.at_ q p];have :q.1≠v:=λz=>e (by
    obtain⟨i,m,g⟩:=aU.mp p;obtain⟨j,n,k⟩:=aU.mp h;have :(f.map (·.1))[i]'(by rw[ah];exact m)=(f.map (·.1))[j]'(by rw[ah];exact n):=by rw[cu,cu,g,k];exact z
    have :=(cJ b.nd).mp this;subst this;rw[<-g,k])
   rw[if_neg this]
def Bes.same{d:Addr}{a:List (Nm×Addr)}{c:Nm->List V}(b:Bes H d a c)(s:SmF H H'):Bes H' d a c:=(s.rd b.hd,b.nd,b.na,λq e=>s.lst (b.at_ q e),)
def Bes.congr{d:Addr}{a:List (Nm×Addr)}{c e:Nm->List V}(b:Bes H d a c)(h:∀q∈a,c q.1=e q.1):Bes H d a e:=⟨b.hd,b.nd,b.na,λq f=>by rw[b.at_ q f,h q f]⟩
abbrev t8(F:List (Nm×Nm))(v:Nm):List V:=(adj F v).map V.str
def HZ:Sp:=λvs H Q _=>∃(n f:Addr)(ws:List Nm)(ys:List V)(F:List (Nm×Nm)),vs=[.ref n,.ref f]/\H n<*(.lst (ws.map V.str))/\Frm H f ys F/\ws.Nodup/\(∀e∈F,e.1∈ws/\e.2∈ws)/\ws.length<=200/\F.length<=200/\
 ∀H' d ls,aY H H'->H d=none->H' d<*(.dK (kvS (ls.map λq=>(q.1,V.ref q.2))))->Bes H' d ls (t8 F)->ls.map (·.1)=ws->Q (.ref d) H'
def hJ(h:n<=1000):n<=sizeLine:=aR h 'E'
def JY(h:n<=1000):n<sizeLine:=mG h 'E'
def KO(F:List (Nm×Nm))(a b v:Nm):adj (F++[(a,b)]) v=adj F v++((if a=v then[b]else[])++(if b=v then[a]else[])):=by unfold adj;rw[List.flatMap_append];simp
def adj_len(F:List (Nm×Nm))(v:Nm):(adj F v).length<=2*F.length:=by
 unfold adj
 induction F with
 |nil=>simp
 |cons e F ih=>
  rw[List.flatMap_cons,aq,aZ];have :((if e.1=v then[e.2]else[])++(if e.2=v then[e.1]else[])).length<=2:=by rw[aq];split <;>split <;>simp
  lia
def wp_nb{G:Gam}:Sat G K HZ rh qJ:=by
 rintro vs H a8 a7 ⟨n,f,j,ys,F,rfl,hn,D,nd,a5,l1,l2,q⟩;unfold rh;change wpB G K _ _ _ [some (.ref n),some (.ref f),none,none,none,none] H;ext;refine .inl (trivial,λd R=>?_,);unfold ot;ext;have s0:aY H (upd H d (.dK [])):=aA R;refine oh (fM rfl (SqL.of (s0 _ _ hn)) (kT jv (λk i h=>aY H h/\∃u e,i=[some (.ref n),some (.ref f),some (.ref d),u,none,none]/\h d<*(.dK (kvS (e.map λq=>(q.1,V.ref q.2))))/\Bes h d e (λ_=>[])/\e.map (·.1)=j.take k/\∀q∈e,H q.2=none)
  ⟨s0,none,[],rfl,ay,⟨.inl ay,lO,lO,λq hq=>nomatch hq⟩,rfl,λq hq=>nomatch hq⟩ (λk i h _ s=>SqL.of (s.1 _ _ hn)) ?_ ?_))
 .rintro k a6 i H1 A D2 L ⟨y,u,e,rfl,E,m,o,C⟩ M g Q _;rw[ah]at L;rw[bP,aj L]at M;cases M;ext;refine(a0 _,λp x=>?_,);have P:=g _ _ E;have a1:j[k]∉e.map (·.1):=by rw[o];intro z;obtain⟨b0,hj,W⟩:=aU.mp z;rw[aM]at hj;rw[bX]at W;have :=(cJ nd).mp W;lia
  have a9:e.length=k:=by have :=congrArg kg o;rw[ah,aM]at this;lia
  have Z:d≠p:=bt P x;have J:upd A p (.lst []) d<*(.dK (kvS (e.map λq=>(q.1,V.ref q.2)))):=by rw[aQ Z];exact P
  refine(d,_,rfl,dput J (by rw[ah];lia) (by rw[oP];exact a1),?_,);have a2:∀q∈e,q.2≠p:=λq hq=>bt (g _ _ (m.at_ q hq)) x;have a4:∀q∈e,q.2≠d:=λq hq=>gv (g _ _ (m.at_ q hq)) P (λz=>nomatch z);have e4:(e.map λq=>(q.1,V.ref q.2))++[(j[k],V.ref p)]=(e++[(j[k],p)]).map λq=>(q.1,V.ref q.2):=by rw[bf];rfl
  rw[e4];refine Q _ _ (fu (fu (y.trans g) ((y.trans g).free x)) R,_,e++[(j[k],p)],rfl,ay,(.inl ay,?_,?_,λq hq=>?_,),?_,λq hq=>?_,);·rw[bf,d8];refine(m.nd,'F',λa r b t z=>?_,);have :b=j[k]:=aC.mp t;subst this z;exact a1 r
  .rw[bf,d8];refine(m.na,'F',λa r b t z=>?_,);have :b=p:=aC.mp t;subst this z;obtain⟨q,hq,a3⟩:=aW.mp r;exact a2 q hq a3
  .rcases aH.mp hq with hq|hq;·rw[aQ (a4 q hq),aQ (a2 q hq)];exact g _ _ (m.at_ q hq)
   .cases aC.mp hq;show upd _ _ _ p=_;rw[aQ Z.symm,ay]
  .rw[bf,o,dF,aj L];rfl
  .rcases aH.mp hq with hq|hq;·exact C q hq
   .cases aC.mp hq;exact(y.trans g).free x
 .rintro i H1 ⟨y,u,e,rfl,E,m,o,C⟩;rw[ah,dv]at o;unfold oq;ext;refine oh (fM rfl (SqL.of (y _ _ D.hf)) (kT jv (λk i h=>aY H h/\h d<*(.dK (kvS (e.map λq=>(q.1,V.ref q.2))))/\Bes h d e (t8 (F.take k))/\∃u v w,i=[some (.ref n),some (.ref f),some (.ref d),u,v,w])
   (y,E,m,_,_,_,rfl,) (λk i h _ s=>SqL.of (s.1 _ _ D.hf)) ?_ ?_))
  .rintro k a6 i A H3 D2 L ⟨g,I,B,u',v',w',rfl⟩ M S Q _;obtain⟨a,b,p,X,rfl,x⟩:=D.at_ M;obtain⟨r,t⟩:=(show a∈j/\b∈j from a5 _ (bS X));rw[<-o]at r t;have s4:=g.trans S;have T:=B.same (.of S);have J:=S _ _ I;refine(p,_,rfl,SqT.of (s4 _ _ x),rfl,_,_,rfl,_,_,rfl,rfl,?_,);ext;obtain⟨pa,ma,ga,N⟩:=T.get r;have fT:∀v,(t8 (F.take k) v).length<sizeLine-5:=λv=>by unfold t8;rw[ah];have :=adj_len (F.take k) v;rw[aM]at this;exact mG (show(adj (F.take k) v).length<=1000 by lia) 'E'
   refine(d,_,rfl,ga,.inl (rfl,_,SqL.of N,),_,_,_,rfl,rfl,N,by have :=fT a;lia,?_,);unfold me;ext;have U:=T.app (l:=t8 (F.take k) a++[V.str b]) ma;obtain⟨pb,mb,gb,O⟩:=U.get t;refine(d,_,rfl,gb,.inl (rfl,_,SqL.of O,),_,_,_,rfl,rfl,O,?_,?_,)
   .have E:=fT a;have I:=fT b;by_cases c:b=a;·rw[if_pos c,aq,dJ];lia
    .rw[if_neg c];lia
   .have hpa:d≠pa:=gv J N (by intro z;cases z);have Y:upd H3 pa (.lst (t8 (F.take k) a++[V.str b])) d<*(.dK (kvS (e.map λq=>(q.1,V.ref q.2)))):=by rw[aQ hpa];exact J
    have hpb:d≠pb:=gv Y O (by intro z;cases z);refine Q _ _ (fu (fu s4 (C _ ma)) (C _ mb),by rw[aQ hpb];exact Y,(U.app mb).congr λq _=>?_,_,_,_,rfl,);have et:F.take (k+1)=F.take k++[(a,b)]:=by rw[dF,X];rfl
    unfold t8;rw[et,KO,bf,bf];generalize q.1=w;by_cases c1:w=b
    .subst c1;by_cases c2:w=a;·subst c2;simp
     .simp[c2,cU c2]
    .by_cases c2:w=a;·subst c2;simp[c1,cU c1]
     .simp[c1,c2,cU c1,cU c2]
  .rintro i A ⟨g,I,B,u',v',w',rfl⟩;unfold oj;ext;rw[D.len,dv]at B;exact q A d e g R I B o
abbrev pV:Option Nm->V
 |some q=>.str q
 |none=>.non
abbrev aV(A:List (Nm×Option Nm)):List (Nm×V):=A.map λe=>(e.1,pV e.2)
def uF(A:List (Nm×Option Nm)):(aV A).map (·.1)=A.map (·.1):=by unfold aV;rw[cQ];rfl
def aV_len(A:List (Nm×Option Nm)):(aV A).length=A.length:=ah ..
structure Found(F:List (Nm×Nm))(vs:List Nm)(A:List (Nm×Option Nm)):Prop where
 g:oA F A
 sub:∀v∈A.map (·.1),v∈vs
 cl:∀v∈A.map (·.1),∀x∈adj F v,x∈A.map (·.1)
def spRe:Sp:=λvs H Q _=>∃(d:Addr)(ls:List (Nm×Addr))(F:List (Nm×Nm)),vs=[.ref d]/\Bes H d ls (t8 F)/\ls≠[]/\(∀e∈F,e.1∈ls.map (·.1)/\e.2∈ls.map (·.1))/\ls.length<=200/\F.length<=200/\
 ∀H' a A,aY H H'->H a=none->H' a<*(.dK (kvS (aV A)))->Found F (ls.map (·.1)) A->Q (.ref a) H'
def j8{a:Type}[DecidableEq a]{l m:List a}(nd:l.Nodup)(h:∀x∈l,x∈m):l.length<=m.length:=L2.vh nd h
structure DF(F:List (Nm×Nm))(ks:List Nm)(ex:Nm->Prop)(H H':Hp)(a w:Addr)(A:List (Nm×Option Nm))(W:List Nm):Prop where
 sm:aY H H'
 ha:H' a<*(.dK (kvS (aV A)))
 hw:H' w<*(.lst (W.map V.str))
 g:oA F A
 gs:∀v∈A.map (·.1),v∈ks
 ws:∀v∈W,v∈A.map (·.1)
 cl:∀v∈A.map (·.1),v∉W->¬ex v->∀x∈adj F v,x∈A.map (·.1)
def DF.le{F:List (Nm×Nm)}{ks:List Nm}{b:Nm->Prop}{w:Addr}{A:List (Nm×Option Nm)}{W:List Nm}(D:DF F ks b H H' a w A W):A.length<=ks.length:=by have :=j8 D.g.nd D.gs;rw[ah]at this;exact this
def DF.same{F:List (Nm×Nm)}{ks:List Nm}{b:Nm->Prop}{w:Addr}{A:List (Nm×Option Nm)}{W:List Nm}(D:DF F ks b H H1 a w A W)(s:aY H1 H2):DF F ks b H H2 a w A W:={D with sm:=D.sm.trans s,ha:=s _ _ D.ha,hw:=s _ _ D.hw}
theorem wp_re{G:Gam}:Sat G K spRe yf xM:=by
 rintro vs H a8 a7 ⟨d,m,F,rfl,b,I,a3,l1,l2,q⟩;unfold yf;change wpB G K _ _ _ [some (.ref d),none,none,none,none,none] H;ext;obtain⟨⟨s,sa⟩,b1,L⟩:=lR I;refine⟨d,_,rfl,b.hd,λl hl=>.inl (l,_,0,.str s,rfl,rfl,SqL.of ay,hZ (j:=0) (by rw[L];rfl),?_,)⟩;have P:aY H (upd H l (.lst ((kvS (m.map λq=>(q.1,V.ref q.2))).map λX=>kV X.1))):=aA hl;generalize upd H l (.lst ((kvS (m.map λq=>(q.1,V.ref q.2))).map λX=>kV X.1))=H1 at P;have hs:s∈m.map (·.1):=by rw[L];exact aw
 have T:(m.map (·.1)).length=m.length:=ah ..;unfold tO;ext;refine .inr ((by intro z;cases z),λa ha=>?_,);simp only[wpP,yF,wpE,qA,tC,cv,eZ,fc,eL,exists_eq_left'];refine(ay,[(.inr s,.non)],rfl,(by show 1<=15;decide),?_,);unfold tN;ext;refine((by show 1<=sizeLine;decide),λw N=>?_,);have M:H a=none:=P.free ha;have y:w≠a:=λz=>by rw[z,ay]at N;cases N
 have U:H w=none:=P.free (by rw[aQ y,aQ y]at N;exact N);unfold tM;ext;refine(λa2 C E=>∃(A:List (Nm×Option Nm))(W:List Nm)(u v:Option V),a2=2*(m.length-A.length)+W.length/\C=[some (.ref d),some (.str s),some (.ref a),some (.ref w),u,v]/\W.length<=A.length/\DF F (m.map (·.1)) (λ_=>False) H E a w A W,
  (_,[(s,none)],[s],none,none,rfl,rfl,aE _,fu (fu (fu P M) M) U,by rw[aQ y.symm,ay];rfl,ay,.one s,λv g=>by rw[aC.mp g];exact hs,λv g=>by rw[aC.mp g];exact aw,λv g t=>absurd g t,),?_,)
 rintro a2 C R ⟨A,W,u,v,rfl,rfl,wl,D⟩;ext;refine .inl (w,_,rfl,.inl (SqL.of D.hw),?_,);rw[ah];refine vH.mpr (_,rfl,?_,);have gl:=D.le;rw[T]at gl;by_cases hW:W=[];·subst hW;rw[if_neg 'F'];unfold tL;ext;exact q R a A D.sm M D.ha ⟨D.g,D.gs,λv g=>D.cl v g (λz=>nomatch z) id⟩
 .have a9:0<W.length:=da.mpr hW;rw[if_pos (decide_eq_true 'D')];refine(λa6 E=>∃m',m'<2*(m.length-A.length)+W.length/\∃(f:List (Nm×Option Nm))(i:List Nm)(u v:Option V),m'=2*(m.length-f.length)+i.length/\a6=[some (.ref d),some (.str s),some (.ref a),some (.ref w),u,v]/\i.length<=f.length/\DF F (m.map (·.1)) (λ_=>False) H E a w f i,λ_ _ h=>h,?_,);obtain⟨r,n,rfl⟩:∃r n,W=r++[n]:=(W.dropLast,W.getLast hW,(yy hW).symm,);refine(.inl (rfl,_,SqL.of D.hw,),.inl (w,_,.str n,rfl,rfl,D.hw,?_,?_,),);·rw[ah,aq,bP,eh 'F'];simp
  have L:((r++[n]).map V.str).dropLast=r.map V.str:=by rw[bf];simp
  rw[L];have nA:n∈A.map (·.1):=D.ws n 'F';rw[aq,dJ]at wl⊢;have Q:DF F (m.map (·.1)) (λv=>v=n) H (upd R w (.lst (r.map V.str))) a w A r:=⟨fu D.sm U,by rw[aQ y.symm];exact D.ha,ay,D.g,D.gs,λv g=>D.ws v (aH.mpr (.inl g)),λv g t I x p=>D.cl v g (λz=>by
   rcases aH.mp z with z|z;·exact t z
   .exact I (aC.mp z)) id x p⟩
  generalize upd R w (.lst (r.map V.str))=H3 at Q;unfold pF;ext;obtain⟨pn,mn,gn,en⟩:=(b.same (.of Q.sm)).get (D.gs n nA);have ln:(t8 F n).length=(adj F n).length:=ah ..;refine oh (_,rfl,_,rfl,d,_,rfl,gn,.inl (pn,rfl,(_,SqL.of en,),?_,),);refine kT jv (λk C E=>∃(f:List (Nm×Option Nm))(i:List Nm)(Y:Option V),C=[some (.ref d),some (.str s),some (.ref a),some (.ref w),some (.str n),Y]/\(f.length+r.length=i.length+A.length/\A.length<=f.length)/\DF F (m.map (·.1)) (λv=>v=n) H E a w f i/\n∈f.map (·.1)/\∀x∈(adj F n).take k,x∈f.map (·.1))
   ⟨A,r,v,rfl,('D',aE _,),Q,nA,λx p=>by rw[List.take_zero]at p;cases p⟩ (λk C E _ h=>by obtain⟨_,_,_,_,_,D',_⟩:=h;exact SqL.of (D'.sm _ _ (b.at_ _ mn))) ?_ ?_
  .rintro k b2 C H4 H5 D2 hk ⟨f,i,Y,rfl,⟨a0,a1⟩,D4,O,J⟩ hy s5 hD _;rw[ln]at hk;obtain⟨x,p⟩:∃x,(adj F n)[k]?<*x:=(_,aj hk,);rw[show(t8 F n)[k]?<*(V.str x) by unfold t8;rw[bP,p];rfl]at hy;cases hy;have o:=D4.same s5;have Z:(adj F n).take (k+1)=(adj F n).take k++[x]:=by rw[dF,p];rfl
   have xa:x∈adj F n:=bS p;have S:=o.le;rw[T]at S;ext;refine(a,_,rfl,DE x (.inl o.ha),?_,);by_cases c:x∈f.map (·.1)
   .obtain⟨⟨x',a5⟩,hm,e⟩:=aW.mp c;have e:x'=x:=e;subst e;have a4:lk (aV f) x'<*(pV a5):=qa (by rw[uF];exact o.g.nd) (aW.mpr (_,hm,rfl,));rw[a4,if_neg 'F'];refine hD _ _ (f,i,_,rfl,(a0,a1,),o,O,λz hz=>?_,);rw[Z]at hz;rcases aH.mp hz with hz|hz;·exact J z hz
    .rw[aC.mp hz];exact c
   .rw[lk_none (by rw[uF];exact c),if_pos (by rfl)];refine(a,_,rfl,dput o.ha (by rw[aV_len];lia) (by rw[uF];exact c),?_,);have b0:w≠a:=y;unfold kU;ext;have h8:upd H5 a (.dK (kvS (aV f++[(x,.str n)]))) w<*(.lst (i.map V.str)):=by rw[aQ y];exact o.hw
    refine(.inl (rfl,_,SqL.of h8,),w,_,_,rfl,rfl,h8,?_,?_,);·rw[ah];exact JY 'D'
    have B:∀v,v∈(f++[(x,some n)]).map (·.1)↔v∈f.map (·.1)\/v=x:=λv=>by rw[bf,aH];simp
    refine hD _ _ (f++[(x,some n)],i++[x],_,rfl,⟨by rw[aq,aq,dJ,dJ];lia,by rw[aq];lia⟩,(fu (fu o.sm M) U,?_,?_,.more o.g O c xa,λv g=>?_,λv g=>?_,λv g t I z hz=>?_,),(B _).mpr (.inl O),λz hz=>(B z).mpr ?_,);·rw[aQ y.symm,ay];unfold aV;rw[bf];rfl
    .rw[ay,bf];rfl
    .rcases(B v).mp g with h|rfl;·exact o.gs v h
     .rcases uC.mp xa with h|h;·exact(a3 _ h).2
      .exact(a3 _ h).1
    .rcases aH.mp g with h|h;·exact(B v).mpr (.inl (o.ws v h))
     .exact(B v).mpr (.inr (aC.mp h))
    .rcases(B v).mp g with h|rfl;·exact(B z).mpr (.inl (o.cl v h (λq=>t (aH.mpr (.inl q))) I z hz))
     .exact absurd (aH.mpr (.inr (aC.mpr rfl))) t
    .rw[Z]at hz;rcases aH.mp hz with hz|hz;·exact .inl (J z hz)
     .exact .inr (aC.mp hz)
  .rintro C H4 ⟨f,i,Y,rfl,⟨a0,a1⟩,D4,O,J⟩;have S:=D4.le;rw[T]at S;refine(_,?_,f,i,_,_,rfl,rfl,'D',{D4 with cl:=λv g t _ x p=>?_},);·lia
   .by_cases c:v=n;·subst c;rw[ln,dv]at J;exact J x p
    .exact D4.cl v g t c x p
def oA.ne{F:List (Nm×Nm)}{A:List (Nm×Option Nm)}(g:oA F A):∃s,s∈A.map (·.1):=by
 cases g with
 |one s=>exact(s,aw,)
 |more g hq _ _=>exact⟨_,by rw[bf];exact aH.mpr (.inl hq)⟩
def H0:Sp:=λvs H Q _=>∃(d f:Addr)(ls:List (Nm×Addr))(ys:List V)(F:List (Nm×Nm)),vs=[.ref d,.ref f]/\Bes H d ls (t8 F)/\Frm H f ys F/\Tree F (ls.map (·.1))/\F.length<=100/\∀H',aY H H'->Q (.bl true) H'
def wp_lw{G:Gam}(g1:G.fn "reached" 1<*(spRe,[])):Sat G K H0 hU jC:=by
 rintro o H Q E ⟨d,f,e,p,F,rfl,b,h,t,l1,q⟩;unfold hU;change wpB G K _ _ _ [some (.ref d),some (.ref f)] H;ext;have i:e.length=F.length+1:=by rw[<-t.len,ah]
 have g:(kvS (e.map λq=>(q.1,V.ref q.2))).length=e.length:=by unfold kvS;rw[ah,ah]
 refine(d,_,rfl,b.hd,?_,);rw[g];refine mY.mpr (_,rfl,?_,);rw[if_neg (by rw[decide_eq_false 'D'];decide)];unfold iX;ext;refine .inl (f,_,rfl,.inl (SqL.of h.hf),d,_,rfl,b.hd,?_,);rw[g];refine CJ.mpr (mY.mpr (_,rfl,?_,));rw[if_pos (decide_eq_true (by rw[h.len];lia))];refine(_,_,g1,d,e,F,rfl,b,(λz=>by rw[z]at i;cases i),t.sub,'D','D',λk a A j n l c=>?_,);refine(a,_,rfl,.inl l,d,_,rfl,(SmF.of j).rd b.hd,?_,);obtain⟨s,m⟩:=c.g.ne;have all:=t.all c.g.nd c.sub c.cl m;rw[g,show(kvS (aV A)).length=A.length by unfold kvS aV;rw[ah,ah]];refine mY.mpr ?_;rw[decide_eq_true 'D'];exact q k j
def spPr:Sp:=λvs H Q _=>∃(p:Addr)(a b:Nm),vs=[.ref p]/\H p<*(.tup [.str a,.str b])/\dW a=true/\dW b=true/\∀H',aY H H'->Q (.bl true) H'
def lX{a:Nm}(h:dW a=true):a.length<=8:=by unfold dW at h;exact(W0 (aN _ _▸h).1).2
def AM(nd:ks.Nodup):mU ks=(_root_.Q.sortBy ("":Str) ks ks).map V.str:=by
 unfold mU _root_.Q.sortBy;rw[cQ];apply K5;intro i a;have b:i<ks.length:=by have :=(_root_.Q.A7 nd).mem_iff.mp a;simpa using this
 show(ks.map V.str).getD i V.non=V.str (ks.getD i "");rw[aJ,aJ,bP,aj b];rfl
structure mE(ns vs:List Nm):Prop where
 nd:ns.Nodup
 mem:∀v,v∈ns↔v∈vs
 up:ns.Pairwise λa b=>_root_.Q.tlt a b=true
def HW:Sp:=λvs H Q _=>∃(f:Addr)(ys:List V)(F:List (Nm×Nm))(ws:List Nm),vs=[.ref f]/\Frm H f ys F/\F.length<=100/\ws.length<200/\(∀v,v∈ends F↔v∈ws)/\
 ∀H' l ns,aY H H'->H l=none->H' l<*(.lst (ns.map V.str))->mE ns ws->Q (.ref l) H'
def rV{vs:List V}{l:List Nm}(h:vs.length=l.length)(b:∀(i:Nat) v,vs[i]?<*v->v=V.str (l.getD i "")):vs=l.map V.str:=by
 apply dw;·rw[h,ah]
 .intro i a c;rw[b i _ (aj a),cu,aJ,aj 'D'];rfl
def wp_no{G:Gam}:Sat G K HW vY vm:=by
 rintro U H Q E ⟨f,ys,F,W,rfl,n,l1,l2,y,q⟩;unfold vY;change wpB G K _ _ _ [some (.ref f)] H;ext;have comp:∀(j:Nat)(g:Nm×Nm->Nm)(z:∀(a b:Nm)(o:L2.St),∃v,[some (V.str a),some (V.str b)][j]?<*(some v)/\v=V.str (g (a,b)))(d:Hp)(c:aY H d)(R:VK),(∀m l,aY d m->d l=none->m l<*(.lst ((F.map g).map V.str))->R (.ref l) m)->
   uV (GF K (qA 0)) (gTup K 2 (BB (l6 0) (BB (l6 1) gNil))) FJ (qA j) (mJ ["one","other"] []) [some (.ref f)] d R:=by
  intro j g z d c R J;refine gC (fM rfl (SqL.of (c _ _ n.hf)) (gy jv (hJ (by rw[n.len];lia)) (λY T=>SqL.of (T _ _ (c _ _ n.hf))) (λi v _=>v=V.str ((F.map g).getD i "")) (λ_ _ _ _ _ h=>h) (λo=>∃t u,o=[t,u]) (none,none,rfl,) ?_ ?_));·rintro i x o X R Z ⟨t,u,rfl⟩ S w k;obtain⟨a,b,p,s,rfl,r⟩:=n.at_ w;obtain⟨v,L,rfl⟩:=z a b [];refine(p,_,rfl,SqT.of ((c.trans S) _ _ r),rfl,_,_,rfl,_,_,rfl,rfl,?_,);refine(_,L,k _ _ _ (_,_,rfl,) (aY.refl _) ?_,);rw[aJ,bP,s];rfl
  .intro U m l M s e B;rw[rV (by rw[M,ah,n.len]) s];exact J _ l (e.trans (aA B)) (e.free B) ay
 refine comp 0 (·.1) (λa b o=>(_,rfl,rfl,)) H (aY.refl H) _ λd N c n1 D=>?_;refine comp 1 (·.2) (λa b o=>(_,rfl,rfl,)) d c _ λm O e n2 I=>?_;refine .inr (.inr (.inl (N,O,_,_,rfl,rfl,e _ _ D,I,?_,λP C=>?_,)));·rw[ah,ah,ah,ah];exact hJ 'D'
 rw[<-bf];refine(P,ends F,rfl,SqL.of ay,?_,(W,'D',λx w=>(y x).mp w,),λms l nd mem A=>?_,);·unfold ends;rw[aq,ah,ah];lia
 rw[AM nd];have r:=_root_.Q.sW ("":Str) nd rfl;exact q _ l _ (((c.trans e).trans (aA C)).trans (aA A)) (((c.trans e).trans (aA C)).free A) ay (r.nodup_iff.mpr nd,λv=>r.mem_iff.trans ((mem v).trans (y v)),_root_.Q.pq nd,)
structure rF(m:Nat)(H:Hp)(f:Addr)(al:V)(ys:List V)(F:List (Nm×Nm))(ws:List Nm):Prop where
 fr:Frm H f ys F
 t:Tree F ws
 n63:ws.length<m
 nm:∀v∈ws,dW v=true
 al:(F=[]/\∃a,al=.str a/\ws=[a])\/(F≠[]/\al=.non)
noncomputable abbrev Good:=rF 64
def rF.lt{al:V}{F:List (Nm×Nm)}{ws:List Nm}(g:rF m H f al ys F ws):F.length+1<m:=by have :=g.t.len;have :=g.n63;lia
def rF.big{al:V}{F:List (Nm×Nm)}{ws:List Nm}(g:rF 64 H f al ys F ws):rF 82 H f al ys F ws:={g with n63:=fv g.n63 'E'}
def Good.le{al:V}{F:List (Nm×Nm)}{ws:List Nm}(g:Good H f al ys F ws):F.length<=62:=by have :=g.t.len;have :=g.n63;lia
def FO:Sp:=λvs H Q _=>∃(f:Addr)(al:V)(ys:List V)(F:List (Nm×Nm))(ws:List Nm),vs=[.ref f,al]/\rF 82 H f al ys F ws/\∀H',aY H H'->Q (.bl true) H'
def wp_ifU{G:Gam}{SP SL:Sp}(i2:∀us J P F,spPr us J P F->SP us J P F)(i5:∀us J P F,H0 us J P F->SL us J P F)(v1:G.val "MOST_BRANCHES"<*(.int 80))(g1:G.fn "is_name" 1<*(spN,[]))(M:G.fn "is_pair" 1<*(SP,[]))(N:G.fn "names_of" 1<*(HW,[]))(O:G.fn "neighbours" 2<*(HZ,[]))(Q:G.fn "leads_one_way" 2<*(SL,[])):
  Sat G K FO mQ pZ:=by
 rintro z H a4 a3 ⟨f,al,i,F,s,rfl,g,q⟩;unfold mQ;change wpB G K _ _ _ [some (.ref f),some al] H;have a6:=g.lt;have w:=g.fr.len;ext;refine isi (oa g.fr.hf) .list (_,rfl,?_,);rw[show tyName H (.ref f)="list" by show jF (H f)=_;rw[g.fr.hf];rfl,if_neg 'E'];refine .inl (f,_,rfl,.inl (SqL.of g.fr.hf),?_,);refine(_,v1,vH.mpr (_,rfl,?_,),);rw[if_neg (by rw[decide_eq_false 'D'];decide)];unfold mP;ext;refine .inl (f,_,rfl,.inl (SqL.of g.fr.hf),?_,);refine mY.mpr (_,rfl,?_,);rcases g.al with⟨m,a,rfl,hw⟩ |⟨m,rfl⟩;·rw[m]at w;rw[if_pos (decide_eq_true (by rw[w];rfl))];have x:=g.nm a (by rw[hw];exact aw);refine(_,_,g1,.str a,rfl,iB,(λa8 e=>by cases e;exact aR (lX x) 'E'),λB s1=>?_,);rw[show isName (.str a)=true from x];exact q B s1
 .have h0:0<F.length:=da.mpr m;rw[if_neg (by rw[decide_eq_false 'D'];decide)];unfold fL;ext;rw[if_neg 'F'];refine gC (fM rfl (SqL.of g.fr.hf) (gy jv (hJ 'D') (λu p=>SqL.of (p _ _ g.fr.hf)) (λa0 v _=>v=.bl true) (λ_ _ _ _ _ h=>h) (λA=>∃t,A=[t]) (none,rfl,) ?_ ?_));·rintro a0 a7 A D a5 hi ⟨t,rfl⟩ c hx k;obtain⟨a,b,a2,S,rfl,X⟩:=g.fr.at_ hx;obtain⟨T,U⟩:=(show a∈s/\b∈s from g.t.sub _ (bS S));ext;exact(_,_,M,i2 _ _ _ _ (a2,a,b,rfl,c _ _ X,g.nm a T,g.nm b U,λu j=>k _ _ _ (_,rfl,) j rfl,),)
  .intro z C l Z Y s2 W;have e:z=((bg i.length).map λ_=>true).map V.bl:=by rw[<-Z];exact bool_list rfl Y
   subst e;refine(l,_,rfl,SqL.of ay,_,rfl,?_,);have I:(((bg i.length).map λ_=>true).all id)=true:=by rw[o4];simp
   rw[I,if_neg 'E'];have c:=s2.trans (aA (o:=.lst (((bg i.length).map λ_=>true).map V.bl)) W);generalize upd C l (.lst (((bg i.length).map λ_=>true).map V.bl))=D at c;unfold mO;ext;refine(_,_,Q,_,_,O,_,_,N,f,i,F,s,rfl,g.fr.same c,'D',(by have :=g.n63;lia),λv=>g.t.ends m v,λu a1 ns j n4 R n=>?_,);have r:=g.t.names n.nd n.mem;refine(a1,f,ns,i,F,rfl,R,g.fr.same (c.trans j),n.nd,r.sub,?_,'D',λH5 d ls y n5 h5 b L=>?_,);·have :=r.len;lia
   .refine i5 _ _ _ _ (d,f,ls,i,F,rfl,b,g.fr.same ((c.trans j).trans y),?_,'D',λE p=>q E (((c.trans j).trans y).trans p),);rw[L];exact r
def AJ:Sp:=λvs H Q _=>∃(f:Addr)(al:V)(ys:List V)(F:List (Nm×Nm))(ws:List Nm),vs=[.ref f,al]/\rF 82 H f al ys F ws/\∀H' l ns,aY H H'->H l=none->H' l<*(.lst (ns.map V.str))->mE ns ws->Q (.ref l) H'
def Hv{G:Gam}{SI:Sp}(p:∀us J P F,FO us J P F->SI us J P F)(g1:G.fn "is_frame" 2<*(SI,[]))(k:G.fn "names_of" 1<*(HW,[])):Sat G K AJ jN jL:=by
 rintro z H Q E ⟨f,al,i,F,h,rfl,g,q⟩;unfold jN;change wpB G K _ _ _ [some (.ref f),some al] H;have y:=g.lt;have e:=g.fr.len;ext;refine(_,_,g1,p _ _ _ _ (f,al,i,F,h,rfl,g,λw b=>(_,rfl,?_,),),);rw[if_neg 'E'];unfold ow;ext;refine .inl (f,_,rfl,.inl (SqL.of (b _ _ g.fr.hf)),mY.mpr (_,rfl,?_,),);rcases g.al with⟨c,a,rfl,o⟩ |⟨c,rfl⟩;·rw[c]at e;rw[if_pos (decide_eq_true (by rw[e];rfl))];refine((by show 1<=sizeLine;decide),λl d=>q _ l [a] (b.trans (aA d)) (b.free d) ay ?_,);rw[o];exact⟨'F',λv=>Iff.rfl,'F'⟩
 .have x:0<F.length:=da.mpr c;rw[if_neg (by rw[decide_eq_false 'D'];decide)];exact(_,_,k,f,i,F,h,rfl,g.fr.same b,'D',(by have :=g.n63;lia),λv=>g.t.ends c v,λj n s u r m t=>q j n s (b.trans u) (b.free r) m t,)
end F5
namespace F5
open R
abbrev Gj:List Str:=["thing","names"]
abbrev r9:List Str:=["thing","names"]
abbrev kW:CB:=
  (.cons (.ret (.bfn .all (.cons (.yD (.comp ["name","reading"] [1] (.tup (.cons (.name 0) (.cons (.name 1) .nil))) (.ditems (.var 0)) .no (.and (.call "is_name" (.cons (.var 0) .nil)) (.and (.cmp .In (.var 0) (.var 2)) (.call "is_reading" (.cons (.var 1) .nil)))))) .nil)))
  .nil)
abbrev oU:CB:=
  (.cons (.iff (.not (.bfn .isinstance (.cons (.var 0) (.cons (.ty .dict) .nil))))
  (.cons (.ret (.con (.bool false)))
  .nil)
  .nil)
  kW)
abbrev Dg:List Str:=["halves","reading"]
abbrev vq:List Str:=["halves","reading"]
abbrev wg:CB:=
  (.cons (.ret (.comp ["first","names"] [1] (.tup (.cons (.name 0) (.cons (.name 1) .nil))) (.seq (.var 0)) (.yes (.cmp .Eq (.var 0) (.var 2))) (.var 1)))
  .nil)
abbrev Jy:List Str:=["zeros","ones","name"]
abbrev Bg:List Str:=["zeros","ones","name"]
abbrev BQ:CB:=
  (.cons (.ret (.comp ["zero","one"] [2] (.tup (.cons (.name 0) (.cons (.name 1) .nil))) (.zip (.var 0) (.var 1)) .no (.bin .Add (.bin .Add (.var 0) (.lst (.cons (.var 2) .nil))) (.lrev (.var 1)))))
  .nil)
abbrev AZ:List Str:=["zeros","ones","name"]
abbrev sZ:List Str:=["zeros","ones","name"]
abbrev pG:CB:=
  (.cons (.ret (.con .none))
  .nil)
abbrev pH:CB:=
  (.cons (.iff (.cmp .Gt (.bfn .len (.cons (.var 1) .nil)) (.bfn .len (.cons (.var 0) .nil)))
  (.cons (.ret (.tup (.cons (.con (.int 1)) (.cons (.bin .Add (.idx (.var 1) (.bfn .len (.cons (.var 0) .nil))) (.lst (.cons (.var 2) .nil))) .nil))))
  .nil)
  .nil)
  pG)
abbrev tP:CB:=
  (.cons (.iff (.cmp .Gt (.bfn .len (.cons (.var 0) .nil)) (.bfn .len (.cons (.var 1) .nil)))
  (.cons (.ret (.tup (.cons (.con (.int 0)) (.cons (.bin .Add (.idx (.var 0) (.bfn .len (.cons (.var 1) .nil))) (.lst (.cons (.var 2) .nil))) .nil))))
  .nil)
  .nil)
  pH)
abbrev Gp:List Str:=["ahead","read"]
abbrev xP:List Str:=["ahead","read","coming","leaning","ways","name","zeros","ones","half"]
abbrev tV:CB:=
  (.cons (.ret (.tup (.cons (.var 3) (.cons (.var 4) .nil))))
  .nil)
abbrev jo:CB:=
  (.cons (.iff (.and (.cmp .IsNot (.var 8) (.con .none)) (.cmp .IsNot (.x2 .idxk (.var 0) (.var 5)) (.con .none)))
  (.cons (.expr (.meth1 .append (.x2 .idxk (.var 2) (.x2 .idxk (.var 0) (.var 5))) (.var 8)))
  .nil)
  .nil)
  .nil)
abbrev ly:CB:=
  (.cons (.putk (.var 3) (.var 5) (.ite (.cmp .Is (.var 8) (.con .none)) (.con .none) (.idx (.var 8) (.con (.int 0)))))
  jo)
abbrev lB:CB:=
  (.cons (.asg (.name 8) (.call "left_over" (.cons (.var 6) (.cons (.var 7) (.cons (.var 5) .nil)))))
  ly)
abbrev lC:CB:=
  (.cons (.expr (.meth1 .extend (.var 4) (.call "joined" (.cons (.var 6) (.cons (.var 7) (.cons (.var 5) .nil))))))
  lB)
abbrev lD:CB:=
  (.cons (.iff (.cmp .Eq (.x2 .getk (.var 1) (.var 5)) (.con (.int 1)))
  (.cons (.asg (.name 7) (.bin .Mult (.lst (.cons (.lst .nil) .nil)) (.bin .Add (.bfn .len (.cons (.var 6) .nil)) (.con (.int 1)))))
  .nil)
  .nil)
  lC)
abbrev lE:CB:=
  (.cons (.iff (.cmp .Eq (.x2 .getk (.var 1) (.var 5)) (.con (.int 0)))
  (.cons (.asg (.name 6) (.bin .Mult (.lst (.cons (.lst .nil) .nil)) (.bin .Add (.bfn .len (.cons (.var 7) .nil)) (.con (.int 1)))))
  .nil)
  .nil)
  lD)
abbrev lF:CB:=
  (.cons (.asg (.name 7) (.call "begun_at" (.cons (.x2 .idxk (.var 2) (.var 5)) (.cons (.con (.int 1)) .nil))))
  lE)
abbrev tW:CB:=
  (.cons (.forr (.name 5) (.lrevd (.bfn .listk (.cons (.var 0) .nil)))
  (.cons (.asg (.name 6) (.call "begun_at" (.cons (.x2 .idxk (.var 2) (.var 5)) (.cons (.con (.int 0)) .nil))))
  lF))
  tV)
abbrev tX:CB:=
  (.cons (.asg (.name 4) (.lst .nil))
  tW)
abbrev oy:CB:=
  (.cons (.asg (.name 3) (.dic .nil))
  tX)
abbrev yl:CB:=
  (.cons (.asg (.name 2) (.bfn .dictl (.cons (.yD (.comp ["name"] [] (.name 0) (.dkeys (.var 0)) .no (.tup (.cons (.var 0) (.cons (.lst .nil) .nil))))) .nil)))
  oy)
abbrev Gh:List Str:=["ahead","leaning"]
abbrev xK:List Str:=["ahead","leaning","told","name","above"]
abbrev tJ:CB:=
  (.cons (.ret (.var 2))
  .nil)
abbrev tK:CB:=
  (.cons (.thawS (.forr (.tup (.cons (.name 3) (.cons (.name 4) .nil))) (.ditems (.var 0))
  (.cons (.iff (.cmp .IsNot (.x2 .idxk (.var 1) (.var 3)) (.con .none))
  (.cons (.putk (.var 2) (.var 3) (.x2 .idxk (.var 1) (.var 3)))
  .nil)
  (.cons (.putk (.var 2) (.var 3) (.ite (.cmp .Is (.var 4) (.con .none)) (.con (.int 0)) (.x2 .idxk (.var 2) (.var 4))))
  .nil))
  .nil)))
  tJ)
abbrev ye:CB:=
  (.cons (.asg (.name 2) (.dic .nil))
  tK)
abbrev Jz:List Str:=["frame","read","alone"]
abbrev vp:List Str:=["frame","read","alone","names","ahead","found"]
abbrev wb:CB:=
  (.cons (.ret (.tup (.cons (.call "settled" (.cons (.var 4) (.cons (.idx (.var 5) (.con (.int 0))) .nil))) (.cons (.idx (.var 5) (.con (.int 1))) .nil))))
  .nil)
abbrev wc:CB:=
  (.cons (.asg (.name 5) (.call "climbed" (.cons (.var 4) (.cons (.var 1) .nil))))
  wb)
abbrev we:CB:=
  (.cons (.asg (.name 4) (.call "reached" (.cons (.call "neighbours" (.cons (.var 3) (.cons (.var 0) .nil))) .nil)))
  wc)
abbrev qm:CB:=
  (.cons (.iff (.not (.call "is_read" (.cons (.var 1) (.cons (.var 3) .nil))))
  (.cons (.rais "NoFrame" (.cons (.con (.str "what is read is no dict from names of the frame to readings")) .nil))
  .nil)
  .nil)
  we)
abbrev ro:CB:=
  (.cons (.asg (.name 3) (.call "frame_list" (.cons (.var 0) (.cons (.var 2) .nil))))
  qm)
end F5
namespace F5
open L2 R Cp Kc
def rW{d:Addr}{o:Obj}{kvs:List (Key×V)}:rD (Iti d o kvs) kvs.length (λi x H=>∃p k v,x=.ref p/\H p<*(.tup [kV k,v])/\kvs[i]?<*(k,v)) (λH=>H d<*(.frz o (.dK kvs))) where
 go:=λi H h a=>(h,a,)
 stop:=λi H h a=>(h,a,)
 yld:=λi H x f h a y=>by obtain⟨p,k,v,c,e,b,y⟩:=y;subst e b;exact((p,k,v,rfl,ay,y,),aA c,)
def Im{d:Addr}{o:Obj}{kvs:List (Key×V)}:rD (Itk d o kvs) kvs.length (λi x _=>∃k v,kvs[i]?<*(k,v)/\x=kV k) (λH=>H d<*(.frz o (.dK kvs))) where
 go:=λi H h a=>(h,a,)
 stop:=λi H h a=>(h,a,)
 yld:=λi H x b h a y=>by obtain⟨e,y⟩:=y;subst e;exact(y,aY.refl _,)
def seq_rev:rD (Itv K a xs) xs.length (λi x _=>xs.reverse[i]?<*x) (λH=>SqL K H a xs) where
 go:=λi H h b=>(h,b,)
 stop:=λi H h b=>b
 yld:=λi H x c h b y=>by obtain⟨e,y⟩:=y;subst e;exact(y,aY.refl _,)
def Il:rD (Itz K a b) (min xs.length ys.length) (λi v H=>∃p x y,v=.ref p/\H p<*(.tup [x,y])/\xs[i]?<*x/\ys[i]?<*y) (λH=>SqL K H a xs/\SqL K H b ys) where
 go:=λi H h c=>(xs,ys,xs[i]''D',ys[i]''D',h.1,h.2,aj _,aj _,)
 stop:=λi H h c=>(xs,ys,h.1,h.2,'D',)
 yld:=λi H v k h c y=>by obtain⟨p,x,z,f,e,d,g,j⟩:=y;subst e d;exact((p,x,z,rfl,ay,g _ h.1,j _ h.2,),aA f,)
def rX{d:Addr}{o:Obj}{kvs:List (Key×V)}(h:H d<*(.dK kvs))(s:aY (upd H d (.frz o (.dK kvs))) H'):aY H (upd H' d (.dK kvs)):=λb u e=>by
 by_cases c:b=d;·subst c;rw[h]at e;cases e;exact ay
 .rw[aQ c];exact s b u (by rw[aQ c];exact e)
def CZ{d:Addr}{o:Obj}{kvs:List (Key×V)}(h:H' d<*(.dK kvs))(s:aY H H'):aY H (upd (upd H' d (.frz o (.dK kvs))) d (.dK kvs)):=λb u e=>by
 by_cases c:b=d;·subst c;rw[ay,<-h];exact s b u e
 .rw[aQ c,aQ c];exact s b u e
def oF{d:Addr}{o:Obj}{kvs:List (Key×V)}(h:H d<*(.dK kvs))(s:aY (upd H d (.frz o (.dK kvs))) H')(a:H' l=none):H l=none/\l≠d:=by
 have :=s.free a;by_cases c:l=d;·rw[c,ay]at this;cases this
 .rw[aQ c]at this;exact(this,c,)
abbrev mV(a:List (Nm×Int)):List (Nm×V):=a.map λq=>(q.1,.int q.2)
def E1(a:List (Nm×Int)):(mV a).map (·.1)=a.map (·.1):=by unfold mV;rw[cQ];rfl
def Ib:Sp:=λvs H Q _=>∃(r n:Addr)(a:List (Nm×Int))(ns:List Nm),vs=[.ref r,.ref n]/\H r<*(.dK (kvS (mV a)))/\H n<*(.lst (ns.map V.str))/\(∀q∈a,q.1∈ns/\(q.2=0\/q.2=1))/\(∀v∈ns,dW v=true)/\a.length<=100/\ns.length<=100/\∀H',aY H H'->Q (.bl true) H'
def zt(a:Nm)(l:List Nm):inV (V.str a) (l.map V.str)=decide (a∈l):=by
 unfold inV;rw[List.any_map,kI,fS,decide_eq_true_eq];constructor
 .rintro⟨x,b,e⟩;have :x=a:=by simpa[eqV]using e
  rw[<-this];exact b
 .intro h;exact⟨a,h,by simp[eqV]⟩
def x4(l:List Nm):(l.map V.str).all qU=true:=by rw[cY];intro v a;obtain⟨m,_,rfl⟩:=aW.mp a;rfl
def wp_ir{G:Gam}(g1:G.fn "is_name" 1<*(spN,[]))(J:G.fn "is_reading" 1<*(spB fX,[])):Sat G K Ib oU r9:=by
 rintro D H Q E ⟨r,n,c,f,rfl,b,A,L,B,l1,l2,q⟩;unfold oU;change wpB G K _ _ _ [some (.ref r),some (.ref n)] H;ext;refine isi (EY b) .dict (_,rfl,?_,);rw[show tyName H (.ref r)="dict" by show jF (H r)=_;rw[b];rfl,if_neg 'E'];unfold kW;ext;refine .inl (r,_,b,gC (_,rfl,.inl (r,_,rfl,.inl (b,λo=>?_,),),),);have a0:(kvS (mV c)).length=c.length:=by unfold kvS mV;rw[ah,ah]
 have O:n≠r:=gv A b (by intro z;cases z);have N:upd H r (.frz o (.dK (kvS (mV c)))) n<*(.lst (f.map V.str)):=by rw[aQ O];exact A
 refine gy rW (hJ 'D') (λI t=>t _ _ ay) (λi v _=>v=.bl true) (λ_ _ _ _ _ h=>h) (λF=>∃u v,F=[u,v,some (.ref n)]) (none,none,rfl,) ?_ ?_
 .rintro i x F I R hi ⟨u,v,rfl⟩ t ⟨p,k,v,rfl,P,j⟩ U;have S:∃m,m∈c/\k=.inr m.1/\v=.int m.2:=by have :=bS j;unfold kvS mV at this;rw[cQ]at this;obtain⟨m,d,g⟩:=aW.mp this;cases g;exact(m,d,rfl,rfl,)
  obtain⟨⟨a,x⟩,M,rfl,rfl⟩:=S;obtain⟨d,g⟩:=(show a∈f/\(x=0\/x=1)from L _ M);refine(p,_,rfl,SqT.of P,rfl,_,_,rfl,_,_,rfl,rfl,?_,);ext;refine(_,_,g1,.str a,rfl,iB,(λz e=>by cases e;exact aR (lX (B a d)) 'E'),λY C=>(_,rfl,?_,),);rw[show isName (.str a)=true from B a d,if_pos rfl];refine .inr (n,_,rfl,.inl (SqL.of ((t.trans C) _ _ N)),rfl,x4 f,_,rfl,?_,);show if inV (V.str a) (f.map V.str)=true then _ else _
  rw[zt,decide_eq_true d,if_pos rfl];refine(_,_,J,.int x,rfl,jE,λZ W=>?_,);rw[show fX (.int x)=true by rcases g with rfl|rfl<;>rfl];exact U _ _ _ (_,_,rfl,) (C.trans W) rfl
 .intro D X l T j s y;have e:D=((bg (kvS (mV c)).length).map λ_=>true).map V.bl:=by rw[<-T];exact bool_list rfl j
  subst e;obtain⟨f1,w⟩:=oF b s y;refine(o,by rw[aQ w.symm];exact s _ _ ay,l,_,rfl,SqL.of (by rw[aQ w,ay]),?_,);rw[show(((bg (kvS (mV c)).length).map λ_=>true).all id)=true by rw[o4];simp];exact q _ (rX b (s.trans (aA y)))
def Hf(H:Hp)(a:Addr->Prop)(b:Nat)(y:V)(x:Int):Prop:=∃p n l,y=V.ref p/\H p<*(.tup [.int x,.ref n])/\H n<*(.lst l)/\l.length<=b/\¬a n
def LL(H:Hp)(a:Addr->Prop)(b:Nat)(y:V):Prop:=∃n l,y=V.ref n/\H n<*(.lst l)/\l.length<=b/\¬a n
def LL.same{a:Addr->Prop}{b:Nat}(h:LL H a b y)(s:aY H H'):LL H' a b y:=let⟨n,l,e,h1,h2⟩:=h;(n,l,e,s _ _ h1,h2,)
abbrev itm(H:Hp)(y:V)(i:Nat):V:=match y with
 |.ref p=>match H p with
  |some (.tup xs)=>xs.getD i .non
  |_=>.non
 |_=>.non
def vC{p:Addr}(h:H p<*(.tup xs))(i:Nat):itm H (.ref p) i=xs.getD i .non:=by show(match H p with |some (.tup xs)=>xs.getD i V.non|_=>V.non)=_;rw[h]
theorem vF{e:Addr->Prop}{b:Nat}{r:Int}:∀{a:List V}{cs:List Int},Paired (Hf H e b) a cs->((a.filter λy=>decide (itm H y 0=.int r)).map λy=>itm H y 1).length=cs.count r
 |_,_,.nil=>rfl
 |y::a,x::cs,.cons h t=>by
  have d:=vF (r:=r) t;obtain⟨p,n,l,rfl,f,g,i⟩:=h;rw[List.filter_cons,vC f];rw[ah]at d⊢;rw[List.count_cons];by_cases c:x=r;·subst c;rw[if_pos 'F',aZ,d];simp
  .rw[if_neg ↥c,d];simp[c]
def Ic:Sp:=λvs H Q _=>∃(h:Addr)(r:Int)(a:List V)(cs:List Int)(c:Addr->Prop)(b:Nat),vs=[.ref h,.int r]/\H h<*(.lst a)/\Paired (Hf H c b) a cs/\a.length<=100/\
 ∀H' l zs,aY H H'->H l=none->H' l<*(.lst zs)->zs.length=cs.count r->(∀z∈zs,LL H' c b z)->Q (.ref l) H'
def wp_ba{G:Gam}:Sat G K Ic wg vq:=by
 rintro T H Q E ⟨h,r,S,R,P,b,rfl,s,g,l1,q⟩;unfold wg;change wpB G K _ _ _ [some (.ref h),some (.int r)] H;ext;refine gC (fM rfl (SqL.of s) (GN jv (hJ 'D') (λM I=>SqL.of (I _ _ s)) (λy=>decide (itm H y 0=.int r)) (λy=>itm H y 1) (λA=>∃u v,A=[u,v,some (.int r)]) (none,none,rfl,) ?_ ?_))
 .rintro x A L O N B ⟨u,v,rfl⟩ F w t;obtain⟨i,e,d⟩:=aU.mp B;obtain⟨y,_,p,n,l,rfl,a,k,o⟩:=pY g (aj e▸congrArg some d);refine(p,_,rfl,SqT.of (F _ _ a),rfl,_,_,rfl,_,_,rfl,rfl,?_,);ext;rw[vC a,vC a]at w;rw[vC a]at t;by_cases c:y=r;·rw[if_pos (decide_eq_true c)];exact w _ _ (_,_,rfl,) (aY.refl _) (by simp[c])
  .rw[if_neg ↥c];exact t _ _ (_,_,rfl,) (aY.refl _) ↥c
 .intro J l j f;refine q _ l _ (j.trans (aA f)) (j.free f) ay (vF g) λz D=>?_;obtain⟨y,C,rfl⟩:=aW.mp D;obtain⟨i,e,d⟩:=aU.mp (yx.mp C).1;obtain⟨x,_,p,n,m,rfl,a,k,o⟩:=pY g (aj e▸congrArg some d);rw[vC a];exact(n,m,rfl,(j.trans (aA f)) _ _ k,o,)
def AH:Sp:=λvs H Q _=>∃(z o:Addr)(n:Nm)(zs os:List V)(a:Addr->Prop)(b:Nat),vs=[.ref z,.ref o,.str n]/\H z<*(.lst zs)/\H o<*(.lst os)/\(∀y∈zs,LL H a b y)/\(∀y∈os,LL H a b y)/\zs.length<=200/\os.length<=200/\b<=200/\
 ∀H' l ws,aY H H'->H l=none->H' l<*(.lst ws)->ws.length=min zs.length os.length->Q (.ref l) H'
def wp_jn{G:Gam}:Sat G K AH BQ Bg:=by
 rintro s H Q E ⟨z,o,n,W,S,bl,b,rfl,i,g,B,A,l1,l2,l3,q⟩;unfold BQ;change wpB G K _ _ _ [some (.ref z),some (.ref o),some (.str n)] H;ext;refine gC (_,rfl,_,rfl,z,o,rfl,(_,SqL.of i,),(_,SqL.of g,),?_,);refine gy (Il (xs:=W) (ys:=S)) (hJ 'D') (λw d=>(SqL.of (d _ _ i),SqL.of (d _ _ g),)) (λ_ _ _=>True) (λ_ _ _ _ _ h=>h) (λt=>∃u v,t=[u,v,some (.str n)]) (none,none,rfl,) ?_ ?_;·rintro a0 x t w R hi ⟨u,v,rfl⟩ d ⟨p,x,y,rfl,F,J,L⟩ M;obtain⟨a,e,rfl,C,Y,_⟩:=(B x (bS J)).same d;obtain⟨c,N,rfl,D,Z,_⟩:=(A y (bS L)).same d;refine(p,_,rfl,SqT.of F,rfl,_,_,rfl,_,_,rfl,rfl,?_,);ext;refine((by show 1<=sizeLine;decide),λT j=>?_,);refine .inr (.inr (.inl (a,T,_,_,rfl,rfl,aA j _ _ C,ay,hJ (by show e.length+1<=1000;lia),λU O=>?_,)));have r:=(aA (o:=.lst [.str n]) j).trans (aA (o:=.lst (e++[.str n])) O);refine(c,_,rfl,SqL.of (r _ _ D),λV k=>?_,);refine .inr (.inr (.inl (U,V,_,_,rfl,rfl,aA k _ _ ay,ay,hJ (by rw[aq,fR];show e.length+1+N.length<=1000;lia),λp4 P=>?_,)));exact M _ _ _ (_,_,rfl,) ((r.trans (aA k)).trans (aA P)) trivial
 .intro s X l I _ m f;exact q _ l s (m.trans (aA f)) (m.free f) ay I
def yL:Sp:=λvs H Q _=>∃(z o:Addr)(n:Nm)(zs os:List V)(a:Addr->Prop)(b:Nat),vs=[.ref z,.ref o,.str n]/\H z<*(.lst zs)/\H o<*(.lst os)/\(∀y∈zs,LL H a b y)/\(∀y∈os,LL H a b y)/\b<=200/\zs.length<=1000/\os.length<=1000/\(∀n,H n=none->¬a n)/\
 (half zs.length os.length=none->Q .non H)/\∀x H' p,half zs.length os.length<*x->aY H H'->H p=none->Hf H' a (b+1) (.ref p) x->(∃y,H' p<*(.tup [.int x,y]))->Q (.ref p) H'
def wp_lo{G:Gam}:Sat G K yL tP sZ:=by
 rintro M H Q E ⟨z,o,n,i,h,F,b,rfl,l,k,w,v,I,J,L,A,B,C⟩;have fin:∀(x:Int)(a:Addr)(c:List V),half i.length h.length<*x->H a<*(.lst c)->c.length<=b->∀d,H d=none->t9 K .Add (.ref a) (.ref d) (upd H d (.lst [.str n])) λy t=>2<=sizeLine/\∀p,t p=none->Q (.ref p) (upd t p (.tup [.int x,y])):=by intro x a c g f j d e;refine .inr (.inr (.inl (a,d,_,_,rfl,rfl,aA e _ _ f,ay,hJ (by show c.length+1<=1000;lia),λs q=>('E',λu r=>?_,),)));have D:=((aA (o:=.lst [.str n]) e).trans (aA (o:=.lst (c++[.str n])) q)).trans (aA (o:=.tup [.int x,.ref s]) r);exact C x _ u g D (((aA e).trans (aA q)).free r) (u,s,_,rfl,ay,aA r _ _ ay,(by rw[aq];show c.length+1<=_;lia),A s ((aA e).free q),) (_,ay,)
 unfold tP;change wpB G K _ _ _ [some (.ref z),some (.ref o),some (.str n)] H;ext;refine .inl (z,_,rfl,.inl (SqL.of l),.inl (o,_,rfl,.inl (SqL.of k),vH.mpr (_,rfl,?_,),),);by_cases c1:h.length<i.length;·rw[if_pos (decide_eq_true 'D')];have g:half i.length h.length<*0:=if_pos c1;obtain⟨a,c,m,f,j,_⟩:=w _ (bF c1);refine .inl ⟨o,_,rfl,.inl (SqL.of k),.inl (z,_,_,.ref a,rfl,rfl,SqL.of l,hZ (by rw[aj c1,m]),?_,)⟩;exact((by show 1<=sizeLine;decide),λd e=>fin 0 a c g f j d e,)
 .rw[if_neg (by rw[decide_eq_false 'D'];decide)];unfold pH;ext;refine .inl (o,_,rfl,.inl (SqL.of k),.inl (z,_,rfl,.inl (SqL.of l),vH.mpr (_,rfl,?_,),),);by_cases c2:i.length<h.length;·rw[if_pos (decide_eq_true 'D')];have g:half i.length h.length<*1:=(if_neg c1).trans (if_pos c2);obtain⟨a,c,m,f,j,_⟩:=v _ (bF c2);refine .inl ⟨z,_,rfl,.inl (SqL.of l),.inl (o,_,_,.ref a,rfl,rfl,SqL.of k,hZ (by rw[aj c2,m]),?_,)⟩;exact((by show 1<=sizeLine;decide),λd e=>fin 1 a c g f j d e,)
  .rw[if_neg (by rw[decide_eq_false 'D'];decide)];unfold pG;ext;exact B ((if_neg c1).trans (if_neg c2))
abbrev S0:Cl:=(λ_=>[],0,)
def DP(rd:Nm->Option Int)(l:List (Nm×Option Nm))(e:Nm×Option Nm)(S:Cl):iW rd (l++[e]) S=(iW rd l S).step rd e:=by unfold iW;rw[List.foldl_append];rfl
theorem tF(rd:Nm->Option Int)(e:Nm×Option Nm):∀(l:List (Nm×Option Nm))(S:Cl),halves rd (l++[e]) S=halves rd l S++[(iW rd l S).half rd e.1]
 | [],_=>rfl
 |x::l,S=>congrArg (S.half rd x.1::·) (tF rd e l (S.step rd x))
theorem ll(rd:Nm->Option Int):∀(l:List (Nm×Option Nm))(S:Cl),(halves rd l S).length=l.length
 | [],_=>rfl
 |_::l,_=>congrArg (·+1) (ll rd l _)
def EE(cs:Nm->List Int)(h:Option Int)(p:Option Nm)(v:Nm):(put cs h p v).length<=(cs v).length+1:=by
 unfold put;cases h with
 |none=>exact dq _
 |some x=>
  cases p with
  |none=>exact dq _
  |some q=>
   dsimp only;by_cases c:v=q;·rw[if_pos c,c,aq];exact aE _
   .rw[if_neg c];exact dq _
theorem Ky(rd:Nm->Option Int)(v:Nm):∀(l:List (Nm×Option Nm))(S:Cl)(b:Nat),(∀v,(S.cs v).length<=b)->((iW rd l S).cs v).length<=b+l.length
 | [],S,b,h=>h v
 |e::l,S,b,h=>by have :=Ky rd v l (S.step rd e) (b+1) λv=>aR (EE ..) (xp (h v));rw[aZ];show((iW rd l (S.step rd e)).cs v).length<=_;lia
def zo_le(r:Option Int){z o b:Nat}(a:z<=b)(c:o<=b):(zo r z o).1<=b+1/\(zo r z o).2<=b+1:=by
 unfold zo;split;·exact('D','D',)
 .split;·exact('D','D',)
  .exact('D','D',)
abbrev lv(rd:Nm->Option Int)(R:List (Nm×Option Nm)):List (Nm×Option Int):=(R.map (·.1)).zip (halves rd R S0)
def lv_snoc(rd:Nm->Option Int)(l:List (Nm×Option Nm))(e:Nm×Option Nm):lv rd (l++[e])=lv rd l++[(e.1,(iW rd l S0).half rd e.1)]:=by unfold lv;rw[tF,bf,List.zip_append (by rw[ah,ll])];rfl
def oO(rd:Nm->Option Int)(R:List (Nm×Option Nm)):(lv rd R).map (·.1)=R.map (·.1):=by unfold lv;rw[List.map_fst_zip (by rw[ah,ll];exact aE _)]
abbrev hV:Option Int->V
 |some x=>.int x
 |none=>.non
abbrev oV(L:List (Nm×Option Int)):List (Nm×V):=L.map λq=>(q.1,hV q.2)
def EZ(L:List (Nm×Option Int)):(oV L).map (·.1)=L.map (·.1):=by unfold oV;rw[cQ];rfl
abbrev rdO(a:List (Nm×Int))(v:Nm):Option Int:=(a.find? λq=>decide (q.1=v)).map (·.2)
theorem EW(v:Nm):∀b:List (Nm×Int),lk (mV b) v=(rdO b v).map V.int
 | []=>rfl
 | (a,x)::b=>by
  have c:=EW v b;unfold lk rdO mV at c⊢;rw[bw,dP,dP];cases h:decide (a=v)with
  |true=>rfl
  |false=>exact c
def Ez{d:List (Nm×Int)}{v:Nm}{x:Int}(h:rdO d v<*x):(v,x)∈d:=by unfold rdO at h;obtain⟨⟨a,b⟩,c,e⟩:=fZ.mp h;have f:=List.find?_some c;have :a=v:=W0 f;subst this;cases e;exact List.mem_of_find?_eq_some c
abbrev refs(ls:List (Nm×Addr)):List (Nm×V):=ls.map λq=>(q.1,V.ref q.2)
theorem vd{c d:Type}{F:c->d->Prop}{a:c}{b:d}(h:F a b):∀{l:List c}{m:List d},Paired F l m->Paired F (l++[a]) (m++[b])
 |_,_,.nil=>.cons h .nil
 |_,_,.cons r t=>.cons r (vd h t)
def Bl(ls:List (Nm×Addr))(w:Addr):Addr->Prop:=λn=>n=w\/n∈ls.map (·.2)
structure Cs(H H':Hp)(d e w l0:Addr)(ls:List (Nm×Addr))(N:List V)(cs:Nm->List Int)(b:Nat)(L:List (Nm×Option Int))(wn:Nat):Prop where
 sm:aY H H'
 hd:H' d<*(.dK (kvS (refs ls)))
 cm:∃c,Bes H' d ls c/\∀q∈ls,Paired (Hf H' (Bl ls w) b) (c q.1) (cs q.1)
 he:H' e<*(.dK (kvS (oV L)))
 hw:∃ws,H' w<*(.lst ws)/\ws.length=wn
 h0:H' l0<*(.lst N)
 n0:¬Bl ls w l0
 ne:H e=none
 nb:∀n,Bl ls w n->H n=none
 nw:w∉ls.map (·.2)
 de:d≠e
section
variable {d e w l0:Addr}{ls:List (Nm×Addr)}{N:List V}{cs:Nm->List Int}{b:Nat}{L:List (Nm×Option Int)}{wn:Nat}
def Hf.same{a:Addr->Prop}{x:Int}(h:Hf H1 a b y x)(s:aY H1 H2):Hf H2 a b y x:=let⟨p,n,l,e,h1,h2,h3⟩:=h;(p,n,l,e,s _ _ h1,s _ _ h2,h3,)
theorem Hf.upd{c:Addr->Prop}{x:Int}{o:HO}(h:Hf H1 c b y x)(k:c a)(g:H1 a<*(.lst xs)):Hf (upd H1 a o) c b y x:=by obtain⟨p,n,l,e,d,i,j,f⟩:=h;exact(p,n,l,e,by rw[aQ (gv d g (λz=>nomatch z))];exact d,by rw[aQ (λz=>f (by rw[z];exact k))];exact i,j,f,)
theorem LL.upd{c:Addr->Prop}{o:HO}(h:LL H1 c b y)(i:c a):LL (upd H1 a o) c b y:=by obtain⟨n,l,e,f,g,d⟩:=h;exact(n,l,e,by rw[aQ (λz=>d (by rw[z];exact i))];exact f,g,d,)
def Hf.dic{c:Addr->Prop}{x:Int}{kvs:List (Key×V)}{o:HO}(h:Hf H1 c b y x)(f:H1 a<*(.dK kvs)):Hf (L2.upd H1 a o) c b y x:=by obtain⟨p,n,l,e,d,g,i⟩:=h;exact(p,n,l,e,by rw[aQ (gv d f (λz=>nomatch z))];exact d,by rw[aQ (gv g f (λz=>nomatch z))];exact g,i,)
def Hf.le{c:Addr->Prop}{x:Int}{a:Nat}(h:Hf H1 c b y x)(l:b<=a):Hf H1 c a y x:=let⟨p,n,l',e,h1,h2,h3,h4⟩:=h;(p,n,l',e,h1,h2,aR h3 l,h4,)
theorem Cs.same(C:Cs H H1 d e w l0 ls N cs b L wn)(s:aY H1 H2):Cs H H2 d e w l0 ls N cs b L wn:=by obtain⟨c,a,f⟩:=C.cm;obtain⟨k,i,j⟩:=C.hw;exact{C with sm:=C.sm.trans s,hd:=s _ _ C.hd,cm:=(c,a.same (.of s),λq g=>L2.Paired.nY (f q g) λ_ _ h=>h.same s,),he:=s _ _ C.he,hw:=(k,s _ _ i,j,),h0:=s _ _ C.h0}
def Cs.bls(C:Cs H H1 d e w l0 ls N cs b L wn){n:Addr}(h:Bl ls w n):∃l,H1 n<*(.lst l):=by
 rcases h with rfl|h;·exact C.hw.imp λ_ h=>h.1
 .obtain⟨q,f,rfl⟩:=aW.mp h;obtain⟨c,a,_⟩:=C.cm;exact(_,a.at_ q f,)
def Cs.new(C:Cs H H1 d e w l0 ls N cs b L wn)(n:Addr)(h:H1 n=none):¬Bl ls w n:=λz=>by obtain⟨l,a⟩:=C.bls z;rw[h]at a;cases a
def Cs.ext(C:Cs H H1 d e w l0 ls N cs b L wn){ws:List V}(h:ws.length=m):Cs H (upd H1 w (.lst ws)) d e w l0 ls N cs b L m:=by obtain⟨c,f,i⟩:=C.cm;obtain⟨k,g,j⟩:=C.hw;have nd:d≠w:=gv C.hd g (λz=>nomatch z);refine{C with sm:=fu C.sm (C.nb w (.inl rfl)),hd:=by rw[aQ nd];exact C.hd,cm:=(c,(.inl (by rw[aQ nd];exact C.hd),f.nd,f.na,λq a=>?_,),λq a=>L2.Paired.nY (i q a) λ_ _ h=>h.upd (.inl rfl) g,),he:=by rw[aQ (gv C.he g (λz=>nomatch z))];exact C.he,hw:=(ws,ay,h,),h0:=by rw[aQ (λz=>C.n0 (.inl z))];exact C.h0};rw[aQ (λz=>C.nw (by rw[<-z];exact cH a))];exact f.at_ q a
def Cs.put(C:Cs H H1 d e w l0 ls N cs b L wn){g:List (Nm×Option Int)}:Cs H (upd H1 e (.dK (kvS (oV g)))) d e w l0 ls N cs b g wn:=by obtain⟨c,a,j⟩:=C.cm;obtain⟨l,i,k⟩:=C.hw;refine{C with sm:=fu C.sm C.ne,hd:=by rw[aQ C.de];exact C.hd,cm:=(c,(.inl (by rw[aQ C.de];exact C.hd),a.nd,a.na,λq f=>?_,),λq f=>L2.Paired.nY (j q f) λ_ _ h=>h.dic C.he,),he:=ay,hw:=(l,by rw[aQ (gv i C.he (λz=>nomatch z))];exact i,k,),h0:=by rw[aQ (gv C.h0 C.he (λz=>nomatch z))];exact C.h0};rw[aQ (gv (a.at_ q f) C.he (λz=>nomatch z))];exact a.at_ q f
theorem Cs.app(C:Cs H H1 d e w l0 ls N cs b L wn){p:Nm}{x:Int}(n:p∈ls.map (·.1))(r:Hf H1 (Bl ls w) b y x):∃a l,xk H1 d (.str p) (some (.ref a))/\H1 a<*(.lst l)/\l.length=(cs p).length/\Cs H (upd H1 a (.lst (l++[y]))) d e w l0 ls N (F5.put cs (some x) (some p)) b L wn:=by
 obtain⟨c,k,i⟩:=C.cm;obtain⟨u,s,t⟩:=C.hw;obtain⟨a,ha,g,h⟩:=k.get n;have f:Bl ls w a:=.inr (aW.mpr (_,ha,rfl,));have m:d≠a:=gv C.hd h (λz=>nomatch z);refine⟨a,c p,g,h,(i _ ha).length,{C with sm:=fu C.sm (C.nb a f),hd:=by rw[aQ m];exact C.hd,cm:=(_,k.app ha,λq o=>?_,),he:=by rw[aQ (gv C.he h (λz=>nomatch z))];exact C.he,hw:=(u,by rw[aQ (λz=>C.nw (by rw[z];exact aW.mpr (_,ha,rfl,)))];exact s,t,),h0:=by rw[aQ (λz=>C.n0 (by rw[z];exact f))];exact C.h0}⟩;show Paired _ (if q.1=p then c p++[y]else c q.1) (if q.1=p then cs p++[x]else cs q.1);by_cases z:q.1=p;·rw[if_pos z,if_pos z];exact L2.Paired.nY (vd r (i _ ha)) λ_ _ j=>Hf.upd j f h
 .rw[if_neg z,if_neg z];exact L2.Paired.nY (i q o) λ_ _ j=>j.upd f h
end
abbrev Hh(H:Hp)(a:Addr->Prop)(b:Nat)(y:V):Option Int->Prop
 |none=>y=.non
 |some x=>Hf H a b y x
section
variable {G:Gam}{E:XS}{D:Ends}{a r d e w l0:Addr}{ls:List (Nm×Addr)}{N:List V}{cs:Nm->List Int}{b:Nat}{L:List (Nm×Option Int)}{wn:Nat}{A:List (Nm×Option Nm)}{v:Nm}{p:Option Nm}{h:Option Int}{x6 x7 x8:Option V}
def tn8(C:Cs H H1 d e w l0 ls N cs b L wn)(n:H a<*(.dK (kvS (aV A))))(m:lk (aV A) v<*(pV p))(s:∀q,p<*q->q∈ls.map (·.1))(c:Hh H1 (Bl ls w) b y h)(o:∀q,(cs q).length<=200)
  (f:∀H2,Cs H H2 d e w l0 ls N (put cs h p) b L wn->D.nx [some (.ref a),some (.ref r),some (.ref d),some (.ref e),some (.ref w),some (.str v),x6,x7,some y] H2):
  wpB G K E jo D [some (.ref a),some (.ref r),some (.ref d),some (.ref e),some (.ref w),some (.str v),x6,x7,some y] H1:=by
 unfold jo;ext;have i:=m▸DE v (.inl (C.sm _ _ n));cases h with
 |none=>have :y=.non:=c;subst this;rw[if_neg 'F',if_neg 'F'];exact f H1 C
 |some x=>
  have t:y≠.non:=by obtain⟨_,_,_,rfl,_⟩:=(show Hf H1 (Bl ls w) b y x from c);exact λz=>nomatch z
  rw[if_pos (by rw[decide_eq_false t];rfl)];refine(a,_,rfl,i,?_,);cases p with
  |none=>rw[if_neg (by simp[pV])];exact f H1 C
  |some q=>rw[if_pos (by simp[pV])];refine(a,_,rfl,i,d,?_,);obtain⟨u,l,k,g,B,j⟩:=C.app (s q rfl) c;have :=o q;exact(_,rfl,k,.inl (rfl,l,SqL.of g,),u,l,y,rfl,rfl,g,JY 'D',f _ j,)
def oV_snoc(L:List (Nm×Option Int))(v:Nm)(h:Option Int):oV L++[(v,hV h)]=oV (L++[(v,h)]):=by unfold oV;rw[bf];rfl
def tn7(C:Cs H H1 d e w l0 ls N cs b L wn)(k:H a<*(.dK (kvS (aV A))))(j:lk (aV A) v<*(pV p))(n:∀q,p<*q->q∈ls.map (·.1))(c:Hh H1 (Bl ls w) b y h)(l:∀q,(cs q).length<=200)(o:v∉L.map (·.1))(t:L.length<=200)
  (m:∀σ H2,Cs H H2 d e w l0 ls N (put cs h p) b (L++[(v,h)]) wn->(∃y5 y6 y7 y8,σ=[some (.ref a),some (.ref r),some (.ref d),some (.ref e),some (.ref w),y5,y6,y7,y8])->D.nx σ H2):
  wpB G K E ly D [some (.ref a),some (.ref r),some (.ref d),some (.ref e),some (.ref w),some (.str v),x6,x7,some y] H1:=by
 unfold ly;ext;have f:=dput (x:=hV h) C.he (by unfold oV;rw[ah];lia) (by rw[EZ];exact o);rw[oV_snoc]at f;have fin:wpB G K E jo D [some (.ref a),some (.ref r),some (.ref d),some (.ref e),some (.ref w),some (.str v),x6,x7,some y] (upd H1 e (.dK (kvS (oV (L++[(v,h)]))))):=by
  refine tn8 C.put k j n ?_ l λH2 g=>m _ H2 g (_,_,_,_,rfl,);cases h with
  |none=>exact c
  |some x=>exact Hf.dic c C.he
 cases h with
 |none=>have :y=.non:=c;subst this;rw[if_pos 'F'];exact(e,_,rfl,f,fin,)
 |some x=>obtain⟨s,u,_,rfl,i,_⟩:=(show Hf H1 (Bl ls w) b y x from c);rw[if_neg 'F'];exact .inr (.inl (s,_,0,.int x,rfl,rfl,SqT.of i,rfl,e,_,rfl,f,fin,))
theorem Cs.le(C:Cs H H1 d e w l0 ls N cs b L wn){a:Nat}(l:b<=a):Cs H H1 d e w l0 ls N cs a L wn:=by obtain⟨c,c1,f⟩:=C.cm;exact{C with cm:=(c,c1,λq g=>L2.Paired.nY (f q g) λ_ _ h=>h.le l,)}
def tn6(B:G.fn "left_over" 3<*(yL,[]))(C:Cs H H1 d e w l0 ls N cs b L wn)(i:H a<*(.dK (kvS (aV A))))(f:lk (aV A) v<*(pV p))(k:∀q,p<*q->q∈ls.map (·.1))(j:∀q,(cs q).length<=200)(l:v∉L.map (·.1))(g:L.length<=200)
  (hz:H1 z<*(.lst zs))(I:H1 o<*(.lst os))(u:∀y∈zs,LL H1 (Bl ls w) b y)(t:∀y∈os,LL H1 (Bl ls w) b y)(J:b<=200)(M:zs.length<=200)(lo:os.length<=200)
  (c:∀σ H2,Cs H H2 d e w l0 ls N (put cs (half zs.length os.length) p) (b+1) (L++[(v,half zs.length os.length)]) wn->(∃y5 y6 y7 y8,σ=[some (.ref a),some (.ref r),some (.ref d),some (.ref e),some (.ref w),y5,y6,y7,y8])->D.nx σ H2):
  wpB G K E lB D [some (.ref a),some (.ref r),some (.ref d),some (.ref e),some (.ref w),some (.str v),some (.ref z),some (.ref o),x8] H1:=by
 unfold lB;ext;refine(_,_,B,z,o,v,zs,os,Bl ls w,b,rfl,hz,I,u,t,J,'D','D',C.new,λh=>?_,λx m O h s n F _=>?_,);·rw[h]at c;exact tn7 (C.le (dq b)) i f k (show Hh H1 _ _ _ none from rfl) j l g c
 .rw[h]at c;exact tn7 ((C.same s).le (dq b)) i f k (show Hh m _ _ _ (some x)from F) j l g c
def tn5(u:G.fn "joined" 3<*(AH,[]))(x:G.fn "left_over" 3<*(yL,[]))(C:Cs H H1 d e w l0 ls N cs b L wn)(J:H a<*(.dK (kvS (aV A))))(F:lk (aV A) v<*(pV p))(P:∀q,p<*q->q∈ls.map (·.1))(M:∀q,(cs q).length<=200)(Q:v∉L.map (·.1))(I:L.length<=200)
  (hz:H1 z<*(.lst zs))(k:H1 o<*(.lst os))(j:∀y∈zs,LL H1 (Bl ls w) b y)(i:∀y∈os,LL H1 (Bl ls w) b y)(m:b<=200)(t:zs.length<=200)(lo:os.length<=200)(S:z≠w)(R:o≠w)(V:wn<=20000)
  (O:∀σ H2,Cs H H2 d e w l0 ls N (put cs (half zs.length os.length) p) (b+1) (L++[(v,half zs.length os.length)]) (wn+min zs.length os.length)->(∃y5 y6 y7 y8,σ=[some (.ref a),some (.ref r),some (.ref d),some (.ref e),some (.ref w),y5,y6,y7,y8])->D.nx σ H2):
  wpB G K E lC D [some (.ref a),some (.ref r),some (.ref d),some (.ref e),some (.ref w),some (.str v),some (.ref z),some (.ref o),x8] H1:=by
 unfold lC;ext;refine(.inl (rfl,C.hw.imp λ_ h=>SqL.of h.1,),_,_,u,z,o,v,zs,os,Bl ls w,b,rfl,hz,k,j,i,t,lo,m,λH2 l g s n B U=>?_,);obtain⟨f,T,W⟩:=(C.same s).hw;refine(w,l,f,g,rfl,rfl,T,B,?_,?_,);·exact aR (show f.length+g.length<=30000 by lia) 'E'
 .exact tn6 x ((C.same s).ext (show(f++g).length=wn+min zs.length os.length by rw[aq];lia)) J F P M Q I (by rw[aQ S];exact s _ _ hz) (by rw[aQ R];exact s _ _ k) (λy c=>((j y c).same s).upd (.inl rfl)) (λy c=>((i y c).same s).upd (.inl rfl)) m t lo O
def eq_oi{x:Option Int}{i:Int}{Q:VK}(q:Q (.bl (decide (x<*i))) H):jg K .Eq ((x.map V.int).getD .non) (.int i) H Q:=by
 cases x with
 |none=>exact(.non,.int i,rfl,rfl,a0 _,q,)
 |some x=>refine mY.mpr ?_;rw[show decide (some x<*i)=decide (x=i) by simp]at q;exact q
def Fh{Q:VK}(e:H o<*(.lst os))(l:os.length<=200)(q:∀H2 z n,aY H H2->H z=none->H n=none->H2 z<*(.lst (bL (os.length+1) (.ref n)))->H2 n<*(.lst [])->Q (.ref z) H2):
  ([]:List V).length<=sizeLine/\∀p,H p=none->[V.ref p].length<=sizeLine/\∀a,upd H p (.lst []) a=none->rBf K .len [.ref o] (upd (upd H p (.lst [])) a (.lst [.ref p])) λx H1=>t9 K .Add x (.int 1) H1 λy H2=>t9 K .Mult (.ref a) y H2 Q:=by
 refine(a0 _,λp c=>((by show 1<=sizeLine;decide),λa b=>.inl (o,_,rfl,.inl (SqL.of (aA b _ _ (aA c _ _ e))),DX.mpr ?_,),),);have s:=(aA (o:=.lst []) c).trans (aA (o:=.lst [.ref p]) b);refine .inr (.inl (a,_,[.ref p],rfl,rfl,ay,'D','D',hJ (by show 1*_<=_;lia),λz d=>q _ z p (s.trans (aA d)) (s.free d) c ?_ (aA d _ _ (aA b _ _ ay)),));rw[ay,List.flatten_replicate_singleton];rfl
def LL.nil{a:Addr->Prop}{n:Addr}{k:Nat}(h:H2 n<*(.lst []))(c:¬a n):∀y∈bL k (V.ref n),LL H2 a b y:=λy d=>by rw[List.eq_of_mem_replicate d];exact(n,[],rfl,h,a0 _,c,)
def tn4{g:List (Nm×Int)}(j:G.fn "joined" 3<*(AH,[]))(k:G.fn "left_over" 3<*(yL,[]))(C:Cs H H1 d e w l0 ls N cs b L wn)(t:H a<*(.dK (kvS (aV A))))(B:H r<*(.dK (kvS (mV g))))(l:lk (aV A) v<*(pV p))(x:∀q,p<*q->q∈ls.map (·.1))(u:∀q,(cs q).length<=200)(F:v∉L.map (·.1))(m:L.length<=200)
  (hz:H1 z<*(.lst zs))(R:H1 o<*(.lst os))(i:∀y∈zs,LL H1 (Bl ls w) b y)(O:∀y∈os,LL H1 (Bl ls w) b y)(I:b<=200)(X:zs.length<=101)(lo:os.length<=101)(M:z≠w)(W:o≠w)(J:wn<=20000)
  (f:∀σ H2 (h:Nat×Nat),h=(zs.length,if rdO g v<*1 then zs.length+1 else os.length)->Cs H H2 d e w l0 ls N (put cs (half h.1 h.2) p) (b+1) (L++[(v,half h.1 h.2)]) (wn+min h.1 h.2)->(∃y5 y6 y7 y8,σ=[some (.ref a),some (.ref r),some (.ref d),some (.ref e),some (.ref w),y5,y6,y7,y8])->D.nx σ H2):
  wpB G K E lD D [some (.ref a),some (.ref r),some (.ref d),some (.ref e),some (.ref w),some (.str v),some (.ref z),some (.ref o),x8] H1:=by
 unfold lD;ext;refine(r,rfl,.inl (_,.inl (C.sm _ _ B),),_,EW v g▸DE v (.inl (C.sm _ _ B)),eq_oi (_,rfl,?_,),);by_cases c:rdO g v<*1
 .rw[if_pos (decide_eq_true c)];rw[if_pos c]at f;refine Fh hz 'D' λH2 Y n s U V P Q=>?_;have S:H1 w≠none:=by obtain⟨_,h,_⟩:=C.hw;rw[h];exact λz=>nomatch z
  refine tn5 j k (C.same s) t l x u F m (s _ _ hz) P (λy T=>(i y T).same s) (LL.nil Q (C.new n V)) I 'D' (by rw[gB];lia) M (λz=>S (by rw[<-z];exact U)) J ?_;rw[gB];exact λσ H2=>f σ H2 _ rfl
 .rw[if_neg ↥c];rw[if_neg c]at f;exact tn5 j k C t l x u F m hz R i O I 'D' 'D' M W J λσ H2=>f σ H2 _ rfl
def tn3{f:List (Nm×Int)}(l:G.fn "joined" 3<*(AH,[]))(m:G.fn "left_over" 3<*(yL,[]))(C:Cs H H1 d e w l0 ls N cs b L wn)(x:H a<*(.dK (kvS (aV A))))(g:H r<*(.dK (kvS (mV f))))(t:lk (aV A) v<*(pV p))(I:∀q,p<*q->q∈ls.map (·.1))(B:∀q,(cs q).length<=200)(J:v∉L.map (·.1))(u:L.length<=200)
  (hz:H1 z<*(.lst zs))(j:H1 o<*(.lst os))(Q:∀y∈zs,LL H1 (Bl ls w) b y)(k:∀y∈os,LL H1 (Bl ls w) b y)(M:b<=200)(Y:zs.length<=100)(lo:os.length<=100)(X:z≠w)(P:o≠w)(O:wn<=20000)
  (F:∀σ H2 (h:Nat×Nat),h=zo (rdO f v) zs.length os.length->Cs H H2 d e w l0 ls N (put cs (half h.1 h.2) p) (b+1) (L++[(v,half h.1 h.2)]) (wn+min h.1 h.2)->(∃y5 y6 y7 y8,σ=[some (.ref a),some (.ref r),some (.ref d),some (.ref e),some (.ref w),y5,y6,y7,y8])->D.nx σ H2):
  wpB G K E lE D [some (.ref a),some (.ref r),some (.ref d),some (.ref e),some (.ref w),some (.str v),some (.ref z),some (.ref o),x8] H1:=by
 unfold lE;ext;refine(r,rfl,.inl (_,.inl (C.sm _ _ g),),_,EW v f▸DE v (.inl (C.sm _ _ g)),eq_oi (_,rfl,?_,),);by_cases c:rdO f v<*0
 .rw[if_pos (decide_eq_true c)];refine Fh j 'D' λH2 Z n s V W R S=>?_;have T:H1 w≠none:=by obtain⟨_,h,_⟩:=C.hw;rw[h];exact λz=>nomatch z
  refine tn4 l m (C.same s) x g t I B J u R (s _ _ j) (LL.nil S (C.new n W)) (λy U=>(k y U).same s) M (by rw[gB];lia) 'D' (λz=>T (by rw[<-z];exact V)) P O ?_;intro σ H2 h i;refine F σ H2 h ?_;rw[i,gB,c,if_neg 'E'];rfl
 .rw[if_neg ↥c];refine tn4 l m C x g t I B J u hz j Q k M 'D' 'D' X P O λσ H2 h i=>F σ H2 h ?_;rw[i];unfold zo;rw[if_neg c];by_cases c1:rdO f v<*1;·rw[if_pos c1,if_pos c1]
  .rw[if_neg c1,if_neg c1]
def tn1{B:List (Nm×Int)}(l:G.fn "begun_at" 2<*(Ic,[]))(Q:G.fn "joined" 3<*(AH,[]))(R:G.fn "left_over" 3<*(yL,[]))(C:Cs H H1 d e w l0 ls N cs b L wn)(ha:H a<*(.dK (kvS (aV A))))(hr:H r<*(.dK (kvS (mV B))))(Y:lk (aV A) v<*(pV p))(hp:∀q,p<*q->q∈ls.map (·.1))(m:∀q,(cs q).length<=100)(hv:v∉L.map (·.1))(x:v∈ls.map (·.1))(Z:L.length<=200)(lb:b<=200)(lw:wn<=20000)
  (o:∀σ H2 (h:Nat×Nat),h=zo (rdO B v) ((cs v).count 0) ((cs v).count 1)->Cs H H2 d e w l0 ls N (put cs (half h.1 h.2) p) (b+1) (L++[(v,half h.1 h.2)]) (wn+min h.1 h.2)->(∃y5 y6 y7 y8,σ=[some (.ref a),some (.ref r),some (.ref d),some (.ref e),some (.ref w),y5,y6,y7,y8])->D.nx σ H2):
  wpB G K E (.cons (.asg (.name 6) (.call "begun_at" (.cons (.x2 .idxk (.var 2) (.var 5)) (.cons (.con (.int 0)) .nil)))) lF) D [some (.ref a),some (.ref r),some (.ref d),some (.ref e),some (.ref w),some (.str v),x6,x7,x8] H1:=by
 have y:∀{H2:Hp}{n:Addr},aY H1 H2->H2 n=none->n≠w:=λa1 h z=>by obtain⟨_,U,_⟩:=(C.same a1).hw;rw[z,U]at h;cases h
 obtain⟨c,g,M⟩:=C.cm;obtain⟨u,s,S,t⟩:=g.get x;have j:Paired (Hf H1 (Bl ls w) b) (c v) (cs v):=M _ s;have lc:=j.length;have a5:=m v;ext;refine(_,_,l,d,_,rfl,S,u,0,c v,cs v,Bl ls w,b,rfl,t,j,'D',λH2 z zs f n2 W i I=>?_,);unfold lF;ext;refine(_,_,l,d,_,rfl,?_,u,1,c v,cs v,Bl ls w,b,rfl,f _ _ t,L2.Paired.nY j (λ_ _ h=>h.same f),'D',λH3 a6 os k n3 X P J=>?_,)
 .obtain⟨F,a0,T,_⟩:=(g.same (.of f)).get x;have :F=u:=by have O:=qa (by rw[oP];exact g.nd) (aW.mpr (_,s,rfl,):(v,V.ref u)∈ls.map λq=>(q.1,V.ref q.2));have i:=qa (by rw[oP];exact g.nd) (aW.mpr (_,a0,rfl,):(v,V.ref F)∈ls.map λq=>(q.1,V.ref q.2));rw[O]at i;cases i;rfl
  exact this▸T
 have m0:((cs v).count 0)<=(cs v).length:=kh;have m1:((cs v).count 1)<=(cs v).length:=kh;rw[<-i,<-P]at o;exact tn3 Q R (C.same (f.trans k)) ha hr Y hp (λq=>aR (m q) 'E') hv Z (k _ _ W) X (λa4 hy=>(I a4 hy).same k) J lb 'D' 'D' (y (aY.refl _) n2) (y f n3) lw o
end
def Kz{J:It}{u:Nat->V->Hp->Prop}{s:Hp->Prop}{g:TG}{w:TE}{Q:VK}(S:rD J n u s)(N:n<=sizeLine)(D:∀H,aY H1 H->s H)
  (P:Nat->List V->Hp->Prop)(Pm:∀i a H H',aY H H'->P i a H->P i a H')(T:L2.St->Prop)(C:T τ0)(h0:P 0 [] H1)
  (step:∀i x k ad f (R:L2.St->V->Hp->Prop),i<n->T k->aY H1 f->u i x f->P i ad f->(∀h v j,T h->aY f j->P (i+1) (ad++[v]) j->R h v j)->g x k f λz A=>w z A (R z))
  (fin:∀vs H2 l,P n vs H2->aY H1 H2->H2 l=none->Q (.ref l) (upd H2 l (.lst vs))):
  BZ J g FJ w τ0 H1 Q:=by
 refine(λi m k ad H2=>m=n-i/\i<=n/\T k/\ad.length=i/\aY H1 H2/\P i ad H2,(n,'F',a0 _,C,rfl,aY.refl _,h0,),?_,);rintro i m k ad H2 ⟨rfl,M,G,E,o,t⟩;have q:=D H2 o;by_cases hlt:i<n;·refine .inr (S.go i H2 q hlt,λh p H'=>T h/\p.length=i+1/\aY H1 H'/\P (i+1) p H',λh p H' ⟨a,b,c,d⟩=>(n-(i+1),'D',rfl,hlt,a,b,c,d,),λx f y=>?_,);obtain⟨L,r⟩:=S.yld i H2 x f q hlt y;exact step i x k ad f (λh v j=>ad.length<sizeLine/\T h/\(ad++[v]).length=i+1/\aY H1 j/\P (i+1) (ad++[v]) j) hlt G (o.trans r) L (Pm _ _ _ _ r t) λh v j I K B=>('D',I,by simp[E],(o.trans r).trans K,B,)
 .have e:i=n:=by lia
  subst e;exact .inl (S.stop i H2 q (aE _),λl F=>fin ad H2 l t o F,)
structure Nw(H H':Hp)(A:List (Nm×Option Nm))(ad:List V)(ls:List (Nm×Addr)):Prop where
 ks:ls.map (·.1)=A.map (·.1)
 na:(ls.map (·.2)).Nodup
 pr:Paired (λy q=>∃p,y=V.ref p/\H' p<*(.tup [.str q.1,.ref q.2])) ad ls
 at_:∀q∈ls,H' q.2<*(.lst [])/\H q.2=none
def Nw.same{A:List (Nm×Option Nm)}{a:List V}{c:List (Nm×Addr)}(h:Nw H H1 A a c)(s:aY H1 H2):Nw H H2 A a c:=(h.ks,h.na,L2.Paired.nY h.pr λ_ _ ⟨p,e,z⟩=>(p,e,s _ _ z,),λq b=>(s _ _ (h.at_ q b).1,(h.at_ q b).2,),)
def spCl:Sp:=λvs H Q _=>∃(a r:Addr)(A:List (Nm×Option Nm))(b:List (Nm×Int)),vs=[.ref a,.ref r]/\H a<*(.dK (kvS (aV A)))/\H r<*(.dK (kvS (mV b)))/\Back A.reverse/\(A.map (·.1)).Nodup/\A.length<=63/\
 ∀H' p e w ws,aY H H'->H p=none->H' p<*(.tup [.ref e,.ref w])->H' e<*(.dK (kvS (oV (lv (rdO b) A.reverse))))->H' w<*(.lst ws)->ws.length=(iW (rdO b) A.reverse S0).w->Q (.ref p) H'
def aV_at{A:List (Nm×Option Nm)}{k:Key}{x:V}(h:(kvS (aV A))[i]?<*(k,x)):∃e,A[i]?<*e/\k=.inr e.1/\x=pV e.2:=by unfold kvS aV at h;rw[cQ,bP]at h;obtain⟨e,a,b⟩:=fZ.mp h;cases b;exact(e,a,rfl,rfl,)
theorem EI{c d e:Type}{F:c->e->Prop}{f:d->e}:∀{l:List c}{m:List d},Paired (λa b=>F a (f b)) l m->Paired F l (m.map f)
 |_,_,.nil=>.nil
 |_,_,.cons h t=>.cons h (EI t)
def Gs{l:List Nm}(h:l.Nodup):(l.map (gk:Nm->Key)).Nodup:=by rw[Ah,jr];exact h.imp λa z=>a (uM z)
theorem w_le(rd:Nm->Option Int):∀(l:List (Nm×Option Nm))(S:Cl)(b c:Nat),(∀v,(S.cs v).length<=b)->b+l.length<=c->(iW rd l S).w<=S.w+l.length*(c+1)
 | [],S,b,c,_,_=>by simp[iW]
 |e::l,S,b,c,h,hc=>by rw[aZ]at hc;have :=w_le rd l (S.step rd e) (b+1) c (λv=>aR (EE ..) (xp (h v))) 'D';have d:(S.cs e.1).count 0<=(S.cs e.1).length:=kh;have f:(S.cs e.1).count 1<=(S.cs e.1).length:=kh;have a:=h e.1;have g:=zo_le (rd e.1) (aR d a) (aR f a);have i:(S.step rd e).w=S.w+min (S.zo rd e.1).1 (S.zo rd e.1).2:=rfl;have j:(S.zo rd e.1).1<=b+1:=g.1;show(iW rd l (S.step rd e)).w<=_;rw[aZ,Nat.add_mul,Nat.one_mul];lia
def Back.mem{R:List (Nm×Option Nm)}(b:Back R){e:Nm×Option Nm}(he:e∈R){q:Nm}(h:e.2<*q):q∈R.map (·.1):=by
 induction b with
 |nil=>cases he
 | @cons x r hp hn t ih=>
  rw[bw];rcases aG.mp he with rfl|he;·exact aB _ (hp q h)
  .exact aB _ (ih he)
def wp_cl_2{G:Gam}{E:XS}{D:Ends}{Q:VK}(g4:G.fn "begun_at" 2<*(Ic,[]))(g5:G.fn "joined" 3<*(AH,[]))(g6:G.fn "left_over" 3<*(yL,[])){d:Addr}{A:List (Nm×Option Nm)}{c:List (Nm×Int)}{g:List (Nm×Addr)}(M:H a<*(.dK (kvS (aV A))))(hr:H r<*(.dK (kvS (mV c))))(bk:Back A.reverse)(nd:(A.map (·.1)).Nodup)(l1:A.length<=63)
  (u:aY H H1)(y:H1 d<*(.dK (kvS (refs g))))(ks:g.map (·.1)=A.map (·.1))(na:(g.map (·.2)).Nodup)(at_:∀q∈g,H1 q.2<*(.lst [])/\H q.2=none)(hD:D.rt=Q)
  (q:∀H' p e w ws,aY H H'->H p=none->H' p<*(.tup [.ref e,.ref w])->H' e<*(.dK (kvS (oV (lv (rdO c) A.reverse))))->H' w<*(.lst ws)->ws.length=(iW (rdO c) A.reverse S0).w->Q (.ref p) H'):
  wpB G K E oy D [some (.ref a),some (.ref r),some (.ref d),none,none,none,none,none,none] H1:=by
 unfold oy;ext;refine .inl (trivial,λe m=>?_,);unfold tX;ext;refine(a0 _,λw t=>?_,);unfold tW;ext;have B:=(aA (o:=.dK []) m).trans (aA (o:=.lst []) t);have b1:(kvS (aV A)).length=A.length:=by unfold kvS aV;rw[ah,ah]
 have a3:(kvS (aV A)).map (λkv=>kV kv.1)=(A.map (·.1)).map V.str:=by unfold kvS aV;rw[cQ,cQ,cQ];rfl
 refine oh (.ref a,rfl,a,_,rfl,.inl (B _ _ (u _ _ M)),λf i=>?_,);rw[a3];have v:=B.trans (aA (o:=.lst ((A.map (·.1)).map V.str)) i);have a2:d≠e:=bt y m;have mem:∀q∈g,∀{n:Addr},H1 n=none->q.2≠n:=λq b n hn=>bt (at_ q b).1 hn;have P:H1 w=none:=(aA m).free t;have a4:H1 f=none:=B.free i;have Y:e≠f:=λz=>by rw[<-z,aQ (bt ay t),ay]at i;cases i
 have S:w≠f:=λz=>by rw[<-z,ay]at i;cases i
 have T:Cs H (upd (upd (upd H1 e (.dK [])) w (.lst [])) f (.lst ((A.map (·.1)).map V.str))) d e w f g ((A.map (·.1)).map V.str) S0.cs 0 (lv (rdO c) []) S0.w:=by
  refine(u.trans v,v _ _ y,(λ_=>[],(.inl (v _ _ y),ks▸nd,na,λq b=>v _ _ (at_ q b).1,),λq b=>.nil,),?_,([],?_,rfl,),ay,?_,u.free m,?_,?_,a2,);·rw[aQ Y,aQ (bt ay t),ay];rfl
  .rw[aQ S,ay]
  .rintro(z|z);·exact S z.symm
   .obtain⟨q,b,z⟩:=aW.mp z;exact mem q b a4 z
  .rintro n (rfl|z);·exact u.free P
   .obtain⟨q,b,rfl⟩:=aW.mp z;exact(at_ q b).2
  .intro z;obtain⟨q,b,z⟩:=aW.mp z;exact mem q b P z
 refine(f,_,rfl,SqL.of ay,kT seq_rev (λk l H'=>Cs H H' d e w f g ((A.map (·.1)).map V.str) (iW (rdO c) (A.reverse.take k) S0).cs k (lv (rdO c) (A.reverse.take k)) (iW (rdO c) (A.reverse.take k) S0).w/\∃F I J L,l=[some (.ref a),some (.ref r),some (.ref d),some (.ref e),some (.ref w),F,I,J,L])
  (T,_,_,_,_,rfl,) (λk l H' _ a9=>SqL.of a9.1.h0) ?_ ?_,)
 .rintro k b0 l W H3 D2 N ⟨C,F,I,J,L,rfl⟩ R s4 a1 _;rw[ah,ah]at N;have j:k<A.reverse.length:=by rw[fR];exact N
  have a6:b0=.str (A.reverse[k]).1:=by rw[<-iu,<-iu,bP,bP,aj j]at R;cases R;rfl
  subst a6;have O:A.reverse[k]∈A:=iq.mp (bF j);have a5:(A.reverse.take k).length=k:=by rw[aM];lia
  refine tn1 (p:=(A.reverse[k]).2) g4 g5 g6 (C.same s4) M hr (qa (by rw[uF];exact nd) (aW.mpr (_,O,rfl,))) (λq h=>?_) (λq=>?_) ?_ ?_ ?_ ?_ ?_ ?_;·rw[ks];exact qO.mp (bk.mem (bF j) h)
  .have :=Ky (rdO c) q (A.reverse.take k) S0 0 λ_=>a0 _;lia
  .rw[oO];intro z;have a8:(A.reverse.map (·.1)).Nodup:=by rw[iu];exact(gH _).nodup_iff.mpr nd
   rw[Cm]at z;obtain⟨b2,hj,x⟩:=aU.mp z;rw[aM]at hj;rw[bX]at x;have X:(A.reverse.map (·.1))[k]'(by rw[ah];exact j)=(A.reverse[k]).1:=cu ..;rw[<-X]at x;have :=(cJ a8).mp x;lia
  .rw[ks];exact cH O
  .have :=congrArg kg (oO (rdO c) (A.reverse.take k));rw[ah,ah]at this;lia
  .lia
  .have :=w_le (rdO c) (A.reverse.take k) S0 0 63 (λ_=>a0 _) 'D';rw[a5]at this;have h0:S0.w=0:=rfl;lia
  .rintro l H4 h hh U a7;refine a1 _ _ (?_,a7,);have Z:A.reverse.take (k+1)=A.reverse.take k++[A.reverse[k]]:=by rw[dF,aj j];rfl
   rw[Z,DP,lv_snoc];subst hh;exact U
 .rintro l W ⟨C,F,I,J,L,rfl⟩;rw[ah,ah,<-fR,dv]at C;unfold tV;ext;obtain⟨ws,w1,w2⟩:=C.hw;refine((by show 2<=sizeLine;decide),λp s=>?_,);rw[hD];exact q _ p e w ws (C.sm.trans (aA s)) (C.sm.free s) ay (aA s _ _ C.he) (aA s _ _ w1) w2
def wp_cl{G:Gam}(L:G.fn "begun_at" 2<*(Ic,[]))(M:G.fn "joined" 3<*(AH,[]))(N:G.fn "left_over" 3<*(yL,[])):Sat G K spCl yl xP:=by
 rintro v H a1 E ⟨a,r,A,ms,rfl,f,R,bk,nd,l1,q⟩;unfold yl;change wpB G K _ _ _ [some (.ref a),some (.ref r),none,none,none,none,none,none,none] H;have Q:(kvS (aV A)).length=A.length:=by unfold kvS aV;rw[ah,ah]
 ext;refine .inl (a,_,f,gC (_,rfl,a,_,rfl,.inl (f,λo=>?_,),),);refine Kz Im (hJ 'D') (λH4 g=>g _ _ ay) (λi C B=>∃b,Nw H B (A.take i) C b) (λi a H B s ⟨b,h⟩=>(b,h.same s,)) (λJ=>∃t,J=[t]) (none,rfl,) ⟨[],rfl,lO,.nil,λq hq=>nomatch hq⟩ ?_ ?_
 .rintro i x J C Z a2 hi ⟨t,rfl⟩ u ⟨k,a3,P,rfl⟩ ⟨b,w⟩ U;ext;obtain⟨e,O,rfl,_⟩:=aV_at P;refine(a0 _,λp n=>((by show 2<=sizeLine;decide),λX D=>?_,),);have g:=(aA (o:=.lst []) n).trans (aA (o:=.tup [kV (.inr e.1),.ref p]) D);refine U _ _ _ (_,rfl,) g (b++[(e.1,p)],?_,?_,vd (X,rfl,ay,) (w.same g).pr,λq hq=>?_,);·rw[bf,w.ks,dF,O,bf];rfl
  .rw[bf,d8];refine(w.na,'F',λx S y T z=>?_,);cases aC.mp T;obtain⟨q,hq,rfl⟩:=aW.mp S;exact bt (w.at_ q hq).1 n z
  .rcases aH.mp hq with hq|hq;·exact(w.same g).at_ q hq
   .cases aC.mp hq;exact(aA D _ _ ay,(oF f u n).1,)
 .rintro v Y l ⟨b,w⟩ m j;rw[Q,dv]at w;obtain⟨n3,I⟩:=oF f m j;have u:=rX f (m.trans (aA (o:=.lst v) j));have W:∀q∈b,q.2≠a:=λq hq z=>by have :=(w.at_ q hq).2;rw[z,f]at this;cases this
  refine(o,by rw[aQ I.symm];exact m _ _ ay,l,v,kvS (refs b),rfl,by rw[aQ I,ay],?_,?_,λd F=>?_,);·unfold kvS refs;rw[cQ];refine EI ?_;refine L2.Paired.nY w.pr λy q ⟨p,e,z⟩=>(p,e,?_,);rw[aQ (λc=>by have :=m _ _ (ay (H:=H) (a:=a));rw[<-c,z]at this;cases this)];exact aA j _ _ z
  .unfold kvS refs;rw[cQ,cQ];have :(b.map (·.1)).Nodup:=w.ks▸nd;have e:(b.map (((λx=>x.fst)∘λq=>((gk q.1:Key),q.2))∘λq=>(q.1,V.ref q.2)))=(b.map (·.1)).map gk:=by rw[cQ];rfl
   rw[e];exact Gs this
  .refine wp_cl_2 L M N f R bk nd l1 (u.trans (aA F)) ay w.ks w.na (λq hq=>(aA F _ _ ?_,(w.at_ q hq).2,)) rfl q;rw[aQ (W q hq)];exact aA j _ _ (w.at_ q hq).1
structure Stl(A:List (Nm×Option Nm))(L:List (Nm×Option Int))(Ts:List (Nm×Int)):Prop where
 ks:Ts.map (·.1)=A.map (·.1)
 v01:∀q∈Ts,q.2=0\/q.2=1
 sm:∀e∈A,∀x,(e.1,some x)∈L->(e.1,x)∈Ts
 no:∀e∈A,(e.1,none)∈L->∀q,e.2<*q->∃x,(e.1,x)∈Ts/\(q,x)∈Ts
def spSe:Sp:=λvs H Q _=>∃(a e:Addr)(A:List (Nm×Option Nm))(L:List (Nm×Option Int)),vs=[.ref a,.ref e]/\H a<*(.dK (kvS (aV A)))/\H e<*(.dK (kvS (oV L)))/\(A.map (·.1)).Nodup/\(L.map (·.1)).Nodup/\(∀v∈A.map (·.1),v∈L.map (·.1))/\(∀q∈L,∀x,q.2<*x->x=0\/x=1)/\(∀(i:Nat) e q,A[i]?<*e->e.2<*q->q∈(A.take i).map (·.1))/\A.length<=200/\
 ∀H' t b,aY H H'->H t=none->H' t<*(.dK (kvS (mV b)))->Stl A L b->Q (.ref t) H'
def mV_snoc(a:List (Nm×Int))(v:Nm)(x:Int):mV a++[(v,.int x)]=mV (a++[(v,x)]):=by unfold mV;rw[bf];rfl
def E4{c:Type}{L:List (Nm×c)}(nd:(L.map (·.1)).Nodup){v:Nm}{x y:c}(d:(v,x)∈L)(e:(v,y)∈L):x=y:=by
 obtain⟨i,f,b⟩:=aU.mp d;obtain⟨j,g,a⟩:=aU.mp e;have :(L.map (·.1))[i]'(by rw[ah];exact f)=(L.map (·.1))[j]'(by rw[ah];exact g):=by rw[cu,cu,b,a]
 have :=(cJ nd).mp this;subst this;rw[b]at a;cases a;rfl
def Stl.snoc{A:List (Nm×Option Nm)}{L:List (Nm×Option Int)}{b:List (Nm×Int)}(S:Stl A L b)(nd:(L.map (·.1)).Nodup){e:Nm×Option Nm}{h:Option Int}{x:Int}(c:(e.1,h)∈L)(g:x=0\/x=1)(d:∀y,h<*y->x=y)(f:h=none->∀q,e.2<*q->(q,x)∈b):Stl (A++[e]) L (b++[(e.1,x)]):=by
 refine(by rw[bf,bf,S.ks];rfl,λq hq=>?_,λu hu y a=>?_,λu hu a q hq=>?_,)
 .rcases aH.mp hq with hq|hq;·exact S.v01 q hq
  .rw[aC.mp hq];exact g
 .rcases aH.mp hu with hu|hu;·exact aH.mpr (.inl (S.sm u hu y a))
  .cases aC.mp hu;rw[d y (E4 nd c a)];exact aH.mpr (.inr aw)
 .rcases aH.mp hu with hu|hu;·obtain⟨y,i,j⟩:=S.no u hu a q hq;exact(y,aH.mpr (.inl i),aH.mpr (.inl j),)
  .cases aC.mp hu;exact(x,aH.mpr (.inr aw),aH.mpr (.inl (f (E4 nd c a) q hq)),)
def lk_oV{L:List (Nm×Option Int)}(nd:(L.map (·.1)).Nodup){v:Nm}{h:Option Int}(m:(v,h)∈L):lk (oV L) v<*(hV h):=qa (by rw[EZ];exact nd) (aW.mpr (_,m,rfl,))
def JV{a:List (Nm×Int)}(nd:(a.map (·.1)).Nodup){v:Nm}{x:Int}(m:(v,x)∈a):lk (mV a) v<*(.int x):=qa (by rw[E1];exact nd) (aW.mpr (_,m,rfl,))
def wp_se{G:Gam}:Sat G K spSe ye xK:=by
 rintro vs H b1 b0 ⟨a,e,A,L,rfl,T,W,nA,nL,a9,a6,up,l1,q⟩;unfold ye;change wpB G K _ _ _ [some (.ref a),some (.ref e),none,none,none] H;have Y:(kvS (aV A)).length=A.length:=by unfold kvS aV;rw[ah,ah]
 ext;refine .inl (trivial,λt i=>?_,);unfold tK;ext;have s0:aY H (upd H t (.dK [])):=aA i;have B:=s0 _ _ T;refine(a,_,B,oh (_,rfl,.inl (a,_,rfl,.inl (B,λo=>?_,),),),);have C:t≠a:=(bt T i).symm;have b2:e≠t:=bt W i;refine kT rW (λk n j=>(∃J M,n=[some (.ref a),some (.ref e),some (.ref t),J,M])/\j a<*(.frz o (.dK (kvS (aV A))))/\aY H (upd j a (.dK (kvS (aV A))))/\∃f,j t<*(.dK (kvS (mV f)))/\Stl (A.take k) L f)
  ⟨(_,_,rfl,),ay,CZ B s0,[],by rw[aQ C,ay];rfl,rfl,(λq d=>nomatch d),(λq d=>nomatch d),(λq d=>nomatch d)⟩ (λk n j _ a8=>a8.2.1) ?_ ?_
 .rintro k x n H1 p D2 X ⟨⟨J,M,rfl⟩,s,I,f,v,S⟩ ⟨a7,kk,b5,rfl,hp,a2⟩ F a1 _;obtain⟨u,m,rfl,rfl⟩:=aV_at a2;rw[Y]at X;have a5:=bS m;refine(a7,_,rfl,SqT.of hp,rfl,_,_,rfl,_,_,rfl,rfl,?_,);ext;have P:=F _ _ s;have R:=F _ _ v;have a0:aY H (upd p a (.dK (kvS (aV A)))):=λb w l=>by
   have :=I b w l;by_cases c:b=a;·rw[c,ay]at this⊢;exact this
   .rw[aQ c]at this⊢;exact F b w this
  have a4:Rd p e (.dK (kvS (oV L))):=by
   have :=a0 _ _ W;by_cases c:e=a;·rw[c,ay]at this;rw[c,<-bC this];exact .inr (o,P,)
   .rw[aQ c]at this;exact .inl this
  obtain⟨⟨w,h⟩,d,g⟩:=aW.mp (a9 _ (cH a5));have g:w=u.1:=g;subst g;have Q:=lk_oV nL d▸DE u.1 a4;have b3:f.length=k:=by have :=congrArg kg S.ks;rw[ah,ah,aM]at this;lia
  have a3:u.1∉f.map (·.1):=by
   rw[S.ks,Cm];intro z;obtain⟨b4,hj,r⟩:=aU.mp z;rw[aM]at hj;rw[bX]at r;have e2:(A.map (·.1))[k]'(by rw[ah];exact X)=u.1:=by rw[cu,(bp.mp m).2]
   rw[<-e2]at r;have :=(cJ nA).mp r;lia
  have fin:∀x:Int,(x=0\/x=1)->(∀y,h<*y->x=y)->(h=none->∀q,u.2<*q->(q,x)∈f)->∃O N,V.ref t=V.ref O/\D1 p O (kV (gk u.1)) (.int x) N/\D2.nx [some (.ref a),some (.ref e),some (.ref t),some (kV (gk u.1)),some (pV u.2)] N:=by
   intro x hx c1 c2;have U:=dput (x:=.int x) R (by unfold mV;rw[ah];lia) (by rw[E1];exact a3);rw[mV_snoc]at U;refine⟨t,_,rfl,U,a1 _ _ ((_,_,rfl,),by rw[aQ C.symm];exact P,λb w l=>?_,_,ay,?_,)⟩
   .have :=a0 b w l;by_cases c:b=a;·rw[c,ay]at this⊢;exact this
    .rw[aQ c]at this⊢;rw[aQ (bt l i)];exact this
   .rw[dF,m];exact S.snoc nL d hx c1 c2
  refine(e,_,rfl,Q,?_,);cases h with
  |some y=>rw[if_pos (by simp[hV])];exact⟨e,_,rfl,Q,fin y (a6 _ d y rfl) (λz hz=>bC hz) (λz=>nomatch z)⟩
  |none=>
   rw[if_neg (by simp[hV])];cases hp2:u.2 with
   |none=>rw[hp2]at fin;rw[if_pos (by simp[pV])];exact fin 0 (.inl rfl) (λy E=>nomatch E) (λ_ q d=>nomatch d)
   |some q=>rw[hp2]at fin;rw[if_neg (by simp[pV])];have Z:=up k u q m hp2;rw[<-S.ks]at Z;obtain⟨⟨w,x⟩,D,g⟩:=aW.mp Z;have g:w=q:=g;subst g;exact⟨t,_,rfl,JV (by rw[S.ks,Cm];exact nA.sublist (gG ..)) D▸DE w (.inl R),fin x (S.v01 _ D) (λy E=>nomatch E) (λ_ q d=>by cases d;exact D)⟩
 .rintro n H1 ⟨⟨J,M,rfl⟩,s,I,f,v,S⟩;rw[Y,dv]at S;refine(o,s,?_,);unfold tJ;ext;exact q _ t f I i (by rw[aQ C];exact v) S
abbrev tl(a:List (Nm×Int))(v:Nm):Int:=(rdO a v).getD 0
def IQ{a:List (Nm×Int)}(nd:(a.map (·.1)).Nodup){v:Nm}{x:Int}(m:(v,x)∈a):rdO a v<*x:=by have h:=JV nd m;rw[EW]at h;obtain⟨y,b,c⟩:=fZ.mp h;cases c;exact b
def Au{a:List (Nm×Int)}(nd:(a.map (·.1)).Nodup){v:Nm}{x:Int}(m:(v,x)∈a):tl a v=x:=by unfold tl;rw[IQ nd m];rfl
def oA.up{F:List (Nm×Nm)}{A:List (Nm×Option Nm)}(g:oA F A):∀(i:Nat) e q,A[i]?<*e->e.2<*q->q∈(A.take i).map (·.1):=by
 induction g with
 |one s=>
  intro i e q a b;cases i with
  |zero=>cases a;cases b
  |succ i=>cases a
 | @more A v p g hq hv he ih=>
  intro i e q a b;by_cases c:i<A.length;·rw[iH c]at a;rw[xr (iG c)];exact ih i e q a b
  .rw[eh 'D']at a;have d:i-A.length=0:=by have :=(bp.mp a).1;rw[dJ]at this;lia
   rw[d]at a;cases a;cases b;have :i=A.length:=by lia
   rw[this,Ag];exact hq
structure Few(F:List (Nm×Nm))(ws:List Nm)(ms Ts:List (Nm×Int))(n:Nat):Prop where
 nd:(Ts.map (·.1)).Nodup
 ks:∀v,v∈Ts.map (·.1)↔v∈ws
 v01:∀q∈Ts,q.2=0\/q.2=1
 ext:∀q∈ms,q∈Ts
 ch:ch (tl Ts) F=n
 few:∀T,(∀v∈ws,Tells T (rdO ms) v)->n<=F5.ch T F
def half_01{rd:Nm->Option Int}{S:Cl}{n:Nm}{y:Int}(h:S.half rd n<*y):y=0\/y=1:=by
 have :F5.half (S.zo rd n).1 (S.zo rd n).2<*y:=h;unfold F5.half at this;split at this;·cases this;exact .inl rfl
 .split at this;·cases this;exact .inr rfl
  .cases this
theorem qf{rd:Nm->Option Int}:∀{R:List (Nm×Option Nm)}{S:Cl}{e:Nm×Option Int},e∈(R.map (·.1)).zip (halves rd R S)->∃a,e.2=Cl.half rd a e.1
 | [],_,_,h=>nomatch h
 |x::R,S,e,h=>by
  rcases aG.mp (show e∈(x.1,S.half rd x.1)::(R.map (·.1)).zip (halves rd R (S.step rd x))from h)with rfl|h;·exact(S,rfl,)
  .exact qf h
theorem Kk{T:Nm->Int}{rd:Nm->Option Int}:∀{R:List (Nm×Option Nm)}{S:Cl},(∀e∈R,∀h,(e.1,h)∈(R.map (·.1)).zip (halves rd R S)->(∀x,h<*x->T e.1=x)/\(h=none->∀q,e.2<*q->T e.1=T q))->Fit T R (halves rd R S)
 | [],_,_=>trivial
 |x::R,S,h=>by have a:=h x aw (S.half rd x.1) aw;exact(a.1,a.2,Kk λe b y c=>h e (aB _ b) y (aB _ c),)
def few_of{F:List (Nm×Nm)}{ws vs:List Nm}{A:List (Nm×Option Nm)}{b f:List (Nm×Int)}(t:Tree F ws)(d:Found F vs A)(B:∀v,v∈vs↔v∈ws)(o:∀q∈b,q.1∈ws/\(q.2=0\/q.2=1))(nm:(b.map (·.1)).Nodup)(S:Stl A (lv (rdO b) A.reverse) f):Few F ws b f (iW (rdO b) A.reverse S0).w:=by
 have z:∀n x,rdO b n<*x->x=0\/x=1:=λn x h=>(o _ (Ez h)).2;have r:=d.g.nd;have i:(f.map (·.1)).Nodup:=S.ks▸r;obtain⟨s,K⟩:∃s,s∈A.map (·.1):=by
  cases d.g with
  |one s=>exact(s,aw,)
  |more g c k a=>exact⟨_,by rw[bf];exact aH.mpr (.inl c)⟩
 obtain⟨al,len⟩:=t.all r (λv k=>(B v).mp (d.sub v k)) d.cl K;have m:∀v,v∈A.map (·.1)↔v∈ws:=λv=>(λh=>(B v).mp (d.sub v h),al v,);have P:((lv (rdO b) A.reverse).map (·.1)).Nodup:=by rw[oO,iu];exact(gH _).nodup_iff.mpr r
 have H:∀e∈A,∃h,(e.1,h)∈lv (rdO b) A.reverse:=λe a=>by
  have :e.1∈(lv (rdO b) A.reverse).map (·.1):=by rw[oO];exact qO.mpr (cH a)
  obtain⟨q,c,e⟩:=aW.mp this;exact(q.2,e▸c,)
 have ext:∀q∈b,q∈f:=λq c=>by obtain⟨e,a,w⟩:=aW.mp (al _ (o q c).1);obtain⟨h,j⟩:=H e a;obtain⟨D,l⟩:=qf j;have l:h=Cl.half (rdO b) D e.1:=l;rw[GH (o q c).2 (by rw[w];exact IQ nm c)]at l;subst l;have :=S.sm e a _ j;rw[w]at this;exact this
 have L:∀v∈ws,Tells (tl f) (rdO b) v:=λv k=>by rw[<-m,<-S.ks]at k;obtain⟨q,c,rfl⟩:=aW.mp k;have E:=Au i (show(q.1,q.2)∈f from c);refine(by rw[E];exact S.v01 q c,λx p=>?_,);exact Au i (ext _ (Ez p))
 have C:∀e∈A.reverse,e.1∈ws:=λe a=>(m _).mp (cH (iq.mp a));have u:∀T R,due T S0.cs R=0:=λT R=>by
  unfold due
  induction R with
  |nil=>rfl
  |cons e R ih=>rw[bw,iS,ih];rfl
 have G:Fit (tl f) A.reverse (halves (rdO b) A.reverse S0):=Kk λe a h j=>by have a:=iq.mp a;refine(λx p=>Au i (S.sm e a x (p▸j)),λJ q c=>?_,);obtain⟨x,M,N⟩:=S.no e a (J▸j) q c;rw[Au i M,Au i N]
 have y:=KL z d.g.back (S:=S0) (λ_ _ h=>nomatch h) (λe a=>L _ (C e a)) G;rw[u]at y;refine(i,λv=>by rw[S.ks];exact m v,S.v01,ext,?_,λT I=>?_,);·rw[d.g.ch len,y];show _=0+0+_;lia
 .have :=Bd z d.g.back (S:=S0) (λ_ _ h=>nomatch h) λe a=>I _ (C e a);rw[u]at this;rw[d.g.ch len];have O:S0.w=0:=rfl;lia
def spFw:Sp:=λvs H Q _=>∃(f r:Addr)(al:V)(ys:List V)(F:List (Nm×Nm))(ws:List Nm)(a:List (Nm×Int)),vs=[.ref f,.ref r,al]/\Good H f al ys F ws/\H r<*(.dK (kvS (mV a)))/\(∀q∈a,q.1∈ws/\(q.2=0\/q.2=1))/\(a.map (·.1)).Nodup/\
 ∀H' p t w b c,aY H H'->H p=none->H' p<*(.tup [.ref t,.ref w])->H' t<*(.dK (kvS (mV b)))->H' w<*(.lst c)->Few F ws a b c.length->Q (.ref p) H'
def wp_fwU{G:Gam}{SF SR:Sp}(i1:∀us J P F,AJ us J P F->SF us J P F)(i2:∀us J P F,Ib us J P F->SR us J P F)(g1:G.fn "frame_list" 2<*(SF,[]))(V:G.fn "is_read" 2<*(SR,[]))(W:G.fn "neighbours" 2<*(HZ,[]))(X:G.fn "reached" 1<*(spRe,[]))(Y:G.fn "climbed" 2<*(spCl,[]))(Z:G.fn "settled" 2<*(spSe,[])):Sat G K spFw ro vp:=by
 rintro vs H a4 a3 ⟨f,r,al,R,F,Q,o,rfl,g,I,k,L,q⟩;have a5:=g.le;have a6:=g.n63;have lm:o.length<=63:=by
  have :=j8 L (m:=Q) λv i=>by obtain⟨q,l,rfl⟩:=aW.mp i;exact(k q l).1
  rw[ah]at this;lia
 unfold ro;change wpB G K _ _ _ [some (.ref f),some (.ref r),some al,none,none,none] H;ext;refine(_,_,g1,i1 _ _ _ _ (f,al,R,F,Q,rfl,g.big,λH1 n u w n1 C h=>?_,),);have z:=g.t.names h.nd h.mem;have nl:u.length<=63:=by have :=j8 h.nd λv i=>(h.mem v).mp i;lia
 unfold qm;ext;refine(_,_,V,i2 _ _ _ _ (r,n,o,u,rfl,w _ _ I,C,(λq l=>((h.mem _).mpr (k q l).1,(k q l).2,)),(λv i=>g.nm v ((h.mem v).mp i)),'D','D',λH2 x=>(_,rfl,?_,),),);rw[if_neg 'E'];unfold we;ext;refine(_,_,X,_,_,W,n,f,u,R,F,rfl,x _ _ C,g.fr.same (w.trans x),h.nd,z.sub,'D','D',λH3 d ls s3 n3 h3 b j=>?_,);refine(d,ls,F,rfl,b,?_,?_,?_,'D',λH4 a A s4 n4 D c=>?_,);·intro a2;have :=z.len;rw[a2]at j;rw[<-j]at this;cases this
 .rw[j];exact z.sub
 .have :=congrArg kg j;rw[ah]at this;lia
 have M:=((w.trans x).trans s3).trans s4;have lA:A.length<=63:=by have :=j8 c.g.nd c.sub;rw[j,ah]at this;lia
 unfold wc;ext;refine(_,_,Y,a,r,A,o,rfl,D,M _ _ I,c.g.back,c.g.nd,lA,λH5 p e a0 a1 N n6 E he hw U=>?_,);unfold wb;ext;have nL:((lv (rdO o) A.reverse).map (·.1)).Nodup:=by rw[oO,iu];exact(gH _).nodup_iff.mpr c.g.nd
 refine(_,_,Z,.inr (.inl (p,_,0,_,rfl,rfl,SqT.of E,rfl,?_,)),);refine(a,e,A,_,rfl,N _ _ D,he,c.g.nd,nL,(λv i=>by rw[oO];exact qO.mpr i),(λa7 hu a8 hx=>?_),c.g.up,'D',λH6 t T y n7 h7 S=>?_,);·obtain⟨S',B⟩:=qf hu;rw[hx]at B;exact half_01 B.symm
 refine .inr (.inl (p,_,1,_,rfl,rfl,SqT.of (y _ _ E),rfl,(by show 2<=sizeLine;decide),λp2 s=>?_,));have O:=(M.trans N).trans y;refine q _ p2 t a0 T a1 (O.trans (aA s)) (O.free s) ay (aA s _ _ h7) (aA s _ _ (y _ _ hw)) ?_;rw[U];exact few_of g.t c (λv=>by rw[j];exact h.mem v) k L S
end F5
namespace F5
open R
abbrev Dd:List Str:=["_law_number","_law_form"]
abbrev vn:List Str:=["_law_number","_law_form","_law_letters","_law_ahead","_law_word"]
abbrev ri:CB:=
  (.cons (.ret (.bin .Add (.var 4) (.cut (.con (.str "zzz")) .no (.yes (.bin .Mod (.bin .FloorDiv (.var 1) (.con (.int 4))) (.con (.int 4)))))))
  .nil)
abbrev rj:CB:=
  (.cons (.asg (.name 4) (.bin .Add (.bin .Add (.cut (.con (.str "qqq")) .no (.yes (.var 3))) (.idx (.var 2) (.bin .Mod (.var 0) (.con (.int 26))))) (.idx (.var 2) (.bin .Mod (.bin .FloorDiv (.var 0) (.con (.int 26))) (.con (.int 26))))))
  ri)
abbrev rm:CB:=
  (.cons (.asg (.name 3) (.bin .Mod (.var 1) (.con (.int 4))))
  rj)
abbrev vZ:CB:=
  (.cons (.asg (.name 2) (.con (.str "abcdefghijklmnopqrstuvwxyz")))
  rm)
abbrev A3:List Str:=["_law_number","_law_k","_law_form"]
abbrev tm:List Str:=["_law_number","_law_k","_law_form"]
abbrev pN:CB:=
  (.cons (.ret (.bin .Mod (.var 0) (.var 1)))
  .nil)
abbrev pO:CB:=
  (.cons (.iff (.cmp .Eq (.bin .Mod (.var 2) (.con (.int 5))) (.con (.int 2)))
  (.cons (.ret (.bin .Mod (.var 0) (.bfn .min (.cons (.var 1) (.cons (.con (.int 3)) .nil)))))
  .nil)
  .nil)
  pN)
abbrev tT:CB:=
  (.cons (.iff (.cmp .Eq (.bin .Mod (.var 2) (.con (.int 5))) (.con (.int 1)))
  (.cons (.ret (.bin .Sub (.var 1) (.con (.int 1))))
  .nil)
  .nil)
  pO)
abbrev A0:List Str:=["_law_script","_law_form","_law_most"]
abbrev tf:List Str:=["_law_script","_law_form","_law_most"]
abbrev tQ:CB:=
  (.cons (.ret (.comp ["_law_k"] [1] (.name 0) (.range1 (.bfn .max (.cons (.con (.int 1)) (.cons (.bfn .min (.cons (.bfn .len (.cons (.var 0) .nil)) (.cons (.var 2) .nil))) .nil)))) .no (.call "_law_name" (.cons (.var 0) (.cons (.var 1) .nil)))))
  .nil)
end F5
namespace F5
open L2 R Cp Kc Lt
def at_nat{k:Nat}(h:k<ns.length):atI (ns.map V.int) (k:Int)<*(.int ns[k]):=hZ (by rw[bP,aj h];rfl)
def spDr(K:ai):Sp:=λvs H Q _=>∃(s:Addr)(ns:List Int)(k:Nat),vs=[.ref s,.int k]/\SqL K H s (ns.map V.int)/\k<ns.length/\k<=100/\∀d:Int,Q (.int d) H
abbrev fsg(c k:Int):List Nat:=[113,113,113].take (c%4).toNat++[vz k]++[vz (k/26)]++[122,122,122].take (c/4%4).toNat
abbrev fnm(c k:Int):Str:=mkS (fsg c k)
def HY:Sp:=λvs H Q _=>∃(c k:Int),vs=[.int k,.int c]/\∀H',aY H H'->Q (.str (fnm c k)) H'
def wp_nm{G:Gam}:Sat G K HY vZ vn:=by
 rintro e H Q E ⟨c,k,rfl,q⟩;unfold vZ;change wpB G K _ _ _ [some (.int k),some (.int c),none,none,none] H;ext;unfold rm;ext;refine('E',?_,);unfold rj;ext;have b:c%4=((c%4).toNat:Int):=(iQ (cy _ 'E')).symm;have d:c/4%4=((c/4%4).toNat:Int):=(iQ (cy _ 'E')).symm;have l1:([113,113,113].take (c%4).toNat).length<=3:=by rw[aM];exact iE ..
 have l2:([122,122,122].take (c/4%4).toNat).length<=3:=by rw[aM];exact iE ..
 rw[b];rw[show cz "qqq"=mkS [113,113,113] by decide+kernel,BI];have a:∀x:Nat,[x].length=1:=λ_=>rfl;refine(by decide+kernel,'E',_,qS,wm _,?_,('E','E',),'E',_,qS,wm _,?_,?_,);·rw[mk1,nW,nW,a];exact short 'D'
 .rw[mk1,mk1,zk,nW,nW,aq,a,a];exact short 'D'
 unfold ri;ext;rw[d,show cz "zzz"=mkS [122,122,122] by decide+kernel,BI,mk1,mk1,zk,zk];refine(('E','E',),'E',by decide+kernel,?_,?_,);·rw[nW,nW,aq,aq,a,a];exact short 'D'
 .rw[zk];exact q H (aY.refl H)
def fnm_ok(c k:Int):dW (fnm c k)=true:=by
 have l1:([113,113,113].take (c%4).toNat).length<=3:=by rw[aM];exact iE ..
 have l2:([122,122,122].take (c/4%4).toNat).length<=3:=by rw[aM];exact iE ..
 have e:(fnm c k).length=([113,113,113].take (c%4).toNat).length+2+([122,122,122].take (c/4%4).toNat).length:=by show(mkS (fsg c k)).length=_;rw[nW];unfold fsg;simp only[aq,aZ,eB]
 unfold dW;rw[e,aN];refine(decide_eq_true 'D',?_,);show(fsg c k).toArray.toList.all iV=true;rw[K4];unfold fsg;simp only[List.all_append,aN,sS,List.all_nil,lett_ok,and_true];have b:[113,113,113].all iV=true:=by decide
 have d:[122,122,122].all iV=true:=by decide
 rw[cY]at b d;exact(cY.mpr λy a=>b y (eR a),cY.mpr λy a=>d y (eR a),)
def fnm_inj{c:Int}(hi:i<600)(k:j<600)(h:fnm c i=fnm c j):i=j:=by
 have e:fsg c i=fsg c j:=by have :=congrArg (λz:Str=>z.cps.toList) h;simpa[fnm]using this
 unfold fsg at e;have g:=List.append_cancel_right e;have d:=List.append_inj_right' g 'F';have f:=List.append_cancel_left (List.append_inj_left' g 'F');injection d with d _
 injection f with f _;have a:=Bq d;have b:=Bq f;lia
def spAb:Sp:=λvs H Q _=>∃(n c:Int)(k:Nat),vs=[.int n,.int k,.int c]/\1<=k/\k<=100/\∀j:Nat,j<k->Q (.int j) H
def wp_ab{G:Gam}:Sat G K spAb tT tm:=by
 rintro g H Q E ⟨n,c,k,rfl,b,e,q⟩;unfold tT;change wpB G K _ _ _ [some (.int n),some (.int k),some (.int c)] H;ext;refine('E',?_,);have fin:∀m:Int,0<m->m<=k->Q (.int (n%m)) H:=λm d f=>by have a:=cy n (show m≠0 by lia);have b:=cT n d;have :=q (n%m).toNat 'D';rw[iQ a]at this;exact this
 split;·have :=q (k-1) 'D';rw[show((k-1:Nat):Int)=(k:Int)-1 by lia]at this;exact this
 .unfold pO;ext;refine('E',?_,);split
  .refine(_,_,rfl,nV.mpr ?_,);split;·exact('E',fin _ 'E' 'D',)
   .exact('D',fin _ 'D' 'D',)
  .unfold pN;ext;exact('D',fin _ 'D' 'D',)
def Tree.put{F f:List (Nm×Nm)}{vs:List Nm}(t:Tree F vs){v u:Nm}{e:Nm×Nm}(o:v∉vs)(c:u∈vs)(j:e=(v,u)\/e=(u,v))(p:f.Perm (e::F)):Tree f (vs++[v]):=by
 have q:Tree (e::F) (vs++[v]):=by
  have d:∀{x},x∈vs->x∈vs++[v]:=λh=>aH.mpr (.inl h);have m:v∈vs++[v]:=aH.mpr (.inr aw);refine(?_,λx hx=>?_,by rw[aq,t.len];rfl,λS g a ha b hb n=>?_,);·rw[d8];refine(t.nd,'F',λa ha b hb z=>?_,);cases aC.mp hb;exact o (z▸ha)
  .rcases aG.mp hx with rfl|hx
   .rcases j with rfl|rfl;·exact(m,d c,)
    .exact(d c,m,)
   .exact(d (t.sub x hx).1,d (t.sub x hx).2,)
  .have i:∀x∈F,S x.1↔S x.2:=λx hx=>g x (aB _ hx);have k:S v↔S u:=by
    have :=g e aw;rcases j with rfl|rfl;·exact this
    .exact this.symm
   have l:S u:=by
    rcases aH.mp ha with ha|ha;·exact t.conn S i a ha u c n
    .cases aC.mp ha;exact k.mp n
   rcases aH.mp hb with hb|hb;·exact t.conn S i u c b hb l
   .cases aC.mp hb;exact k.mpr l
 exact q.perm p
abbrev nms(c:Int)(n:Nat):List Nm:=(bg n).map λk:Nat=>fnm c k
def JH(c:Int)(n:Nat):nms c (n+1)=nms c n++[fnm c n]:=by unfold nms;rw[kF,bf];rfl
def nms_mem{c:Int}(h:j<n):fnm c j∈nms c n:=aW.mpr (j,d9.mpr h,rfl,)
def nms_new{c:Int}(h:n<600):fnm c n∉nms c n:=λz=>by obtain⟨j,a,e⟩:=aW.mp z;have a:=d9.mp a;have :=fnm_inj 'D' h e;lia
def spFr(K:ai):Sp:=λvs H Q _=>∃(s:Addr)(ns:List Int)(c:Int)(m:Nat),vs=[.ref s,.int c,.int m]/\m<=99/\SqL K H s (ns.map V.int)/\
 ∀H' f ys F,aY H H'->H f=none->Frm H' f ys F->Tree F (nms c (max 1 (min ns.length m)))->Q (.ref f) H'
theorem mK{c d:Type}{P:c->d->Prop}:∀{a:List c}{b:List d}{e:List c}{f:List d},Paired P a b->Paired P e f->Paired P (a++e) (b++f)
 |_,_,_,_,.nil,h=>h
 |_,_,_,_,.cons r t,h=>.cons r (mK t h)
theorem qF{c d:Type}{P:c->d->Prop}:∀{a:List c}{b:List d}(n:Nat),Paired P a b->Paired P (a.take n) (b.take n)
 |_,_,0,_=>.nil
 |_,_,_+1,.nil=>.nil
 |_,_,n+1,.cons r t=>.cons r (qF n t)
theorem qG{c d:Type}{P:c->d->Prop}:∀{a:List c}{b:List d}(n:Nat),Paired P a b->Paired P (a.drop n) (b.drop n)
 |_,_,0,h=>h
 |_,_,_+1,.nil=>.nil
 |_,_,n+1,.cons r t=>qG n t
def yb{z:Nat}(h:z<=ys.length):zC ys none (some (z:Int))=ys.take z:=by unfold zC;rw[HT.u5,HT.yR,i8 h,Aj,pj]
def sE{z:Nat}(h:z<=ys.length):zC ys (some (z:Int)) none=ys.drop z:=by unfold zC;rw[HT.u5,HT.yR,i8 h,fi (by rw[bA];lia)]
def spNs(K:ai):Sp:=λvs H Q _=>∃(s:Addr)(ns:List Int)(c:Int)(m:Nat),vs=[.ref s,.int c,.int m]/\m<=99/\SqL K H s (ns.map V.int)/\
 ∀H' l,aY H H'->H l=none->H' l<*(.lst ((nms c (max 1 (min ns.length m))).map V.str))->Q (.ref l) H'
def wp_ns{G:Gam}(g:G.fn "_law_name" 2<*(HY,[])):Sat G K (spNs K) tQ tf:=by
 rintro u H Q E ⟨s,a,c,m,rfl,A,o,q⟩;unfold tQ;change wpB G K _ _ _ [some (.ref s),some (.int c),some (.int m)] H;ext;refine gC ?_;ext;have f:(if(m:Int)<(a.map V.int).length then(m:Int)else((a.map V.int).length:Int))=((min a.length m:Nat):Int):=by rw[ah];split <;>lia
 refine .inl (s,_,rfl,.inl o,_,_,rfl,?_,);rw[f];refine(_,_,rfl,((max 1 (min a.length m):Nat):Int),?_,'D','D',?_,)
 .congr 2
  split <;>lia
 rw[gN];refine gy lV (hJ 'D') (λ_ _=>trivial) (λi v _=>v=V.str ((nms c (max 1 (min a.length m))).getD i "")) (λ_ _ _ _ _ h=>h) (λe=>∃t,e=[t,some (.int c)]) (none,rfl,) ?_ ?_;·rintro i x e y R n ⟨t,rfl⟩ B rfl k;refine(_,_,g,_,rfl,_,rfl,c,_,rfl,λz r=>k _ _ _ (_,rfl,) r ?_,);unfold nms;rw[aJ,bP,rQ n,Hk];rfl
 .intro u w l p j d b;rw[rV (by rw[p];unfold nms;rw[ah,dH]) j];exact q _ l (d.trans (aA b)) (d.free b) ay
end F5
namespace K52
open L2 R Cp Kc Lt F5
def orS(a b:Sp):Sp:=λvs H Q E=>a vs H Q E\/b vs H Q E
def Ask(H:Hp)(x:V):Prop:=Known H x/\∀z,x=.str z->z.length<=20000
theorem Ask.same{x:V}(h:Ask H x)(s:aY H H'):Ask H' x:=((h.1.same s).1,h.2,)
def PT(H:Hp)(x:V)(b:Bool):Prop:=(b=false/\Known H x/\iI (tyName H x) "tuple"=false)\/∃p zs,x=.ref p/\H p<*(.tup zs)/\(zs.length≠2/\b=false\/∃u v,zs=[u,v]/\Ask H u/\Ask H v/\b=(isName u&&isName v))
theorem PT.same{x:V}{b:Bool}(h:PT H x b)(s:aY H H'):PT H' x b:=by
 rcases h with⟨f,d,g⟩ |⟨p,i,f,d,g⟩;·exact .inl ⟨f,(d.same s).1,by rw[(d.same s).2];exact g⟩
 .exact .inr (p,i,f,s _ _ d,g.imp id λ⟨u,v,e,a,b,c⟩=>(u,v,e,a.same s,b.same s,c,),)
def El:Sp:=λvs H Q _=>∃x b,vs=[x]/\PT H x b/\∀H',aY H H'->Q (.bl b) H'
def Jf:∀us J P F,spPr us J P F->El us J P F:=by rintro i H Q E ⟨p,a,b,rfl,g,d,f,q⟩;have c:∀{z},dW z=true->Ask H (.str z):=λh=>⟨iB,λz e=>by cases e;exact aR (lX h) 'E'⟩;exact(.ref p,true,rfl,.inr ⟨p,_,rfl,g,.inr ⟨_,_,rfl,c d,c f,by rw[show isName (.str a)=true from d,show isName (.str b)=true from f];rfl⟩⟩,q,)
def Hu{G:Gam}(g1:G.fn "is_name" 1<*(spN,[])):Sat G K El yj xN:=by
 rintro l H Q E ⟨x,b,rfl,h,q⟩;unfold yj;change wpB G K _ _ _ [some x] H;ext;rcases h with⟨rfl,g,i⟩ |⟨p,m,rfl,a,h⟩;·refine isi g .tuple (_,rfl,?_,);rw[show iI (tyName H x) (Ty.t .tuple)=false from i,if_pos (by rfl)];exact q _ (aY.refl _)
 refine isi (qb a) .tuple (_,rfl,?_,);rw[show tyName H (.ref p)="tuple" by show jF (H p)=_;rw[a];rfl,if_neg 'E'];refine .inl (p,_,rfl,.inr (SqT.of a),ne_ii.mpr (_,rfl,?_,),);rcases h with⟨h,rfl⟩ |⟨u,v,rfl,d,e,rfl⟩;·rw[if_pos (by rw[decide_eq_false 'D'];rfl)];exact q _ (aY.refl _)
 rw[if_neg (by show ¬(!decide ((2:Int)=2))=true;decide)];unfold tU;ext;refine(_,_,g1,.inr (.inl (p,_,0,_,rfl,rfl,SqT.of a,rfl,?_,)),);refine(u,rfl,d.1,d.2,λk c=>(_,rfl,?_,),);cases hu:isName u with
 |false=>rw[if_neg 'E'];rw[hu]at q;exact q _ c
 |true=>rw[if_pos rfl];rw[hu]at q;refine(_,_,g1,.inr (.inl (p,_,1,_,rfl,rfl,SqT.of (c _ _ a),rfl,?_,)),);exact(v,rfl,(e.same c).1,e.2,λf j=>q f (c.trans j),)
def Em:Sp:=λvs H Q _=>∃(d f:Addr)(ls:List (Nm×Addr))(c:Nm->List V)(ys:List V),vs=[.ref d,.ref f]/\Bes H d ls c/\H f<*(.lst ys)/\ls≠[]/\ls.length≠ys.length+1/\∀H',aY H H'->Q (.bl false) H'
def wp_lwB{G:Gam}:Sat G K Em hU jC:=by
 rintro j H Q E ⟨d,f,a,c,k,rfl,b,g,h,l1,q⟩;unfold hU;change wpB G K _ _ _ [some (.ref d),some (.ref f)] H;ext;have e:(kvS (a.map λq=>(q.1,V.ref q.2))).length=a.length:=by unfold kvS;rw[ah,ah]
 have i:0<a.length:=da.mpr h;refine(d,_,rfl,b.hd,?_,);rw[e];refine mY.mpr (_,rfl,?_,);rw[if_neg (by rw[decide_eq_false 'D'];decide)];unfold iX;ext;refine .inl (f,_,rfl,.inl (SqL.of g),d,_,rfl,b.hd,?_,);rw[e];refine CJ.mpr (mY.mpr (_,rfl,?_,));rw[if_neg (by rw[decide_eq_false 'D'];decide)];exact q _ (aY.refl _)
def rE(H:Hp)(x al:V):Prop:=(Known H x/\iI (tyName H x) "list"=false)\/∃f ys,x=.ref f/\H f<*(.lst ys)/\ys.length<=200/\(80<ys.length\/(ys=[]/\Ask H al/\isName al=false)\/(ys≠[]/\al≠.non)\/
 (ys≠[]/\al=.non/\∃bs:List Bool,Paired (PT H) ys bs/\false∈bs)\/
 al=.non/\∃(F:List (Nm×Nm))(ws:List Nm),Paired (Br H) ys F/\F≠[]/\(∀v∈ws,dW v=true)/\ws.Nodup/\(∀v,v∈ends F↔v∈ws)/\ws.length≠F.length+1/\ws.length<200)
theorem rE.same{x al:V}(h:rE H x al)(s:aY H H'):rE H' x al:=by
 rcases h with⟨g,i⟩ |⟨f,l,g,i,j,h⟩;·exact .inl ⟨(g.same s).1,by rw[(g.same s).2];exact i⟩
 .refine .inr (f,l,g,s _ _ i,j,?_,);rcases h with h|⟨a,b,c⟩ |h|⟨a,b,bs,c,d⟩ |⟨a,F,k,b,c⟩;·exact .inl h
  .exact .inr (.inl (a,b.same s,c,))
  .exact .inr (.inr (.inl h))
  .exact .inr (.inr (.inr (.inl (a,b,bs,L2.Paired.nY c λ_ _ z=>z.same s,d,))))
  .exact .inr (.inr (.inr (.inr (a,F,k,L2.Paired.nY b λ_ _ ⟨p,e,z⟩=>(p,e,s _ _ z,),c,))))
def all_false{bs:List Bool}(h:false∈bs):bs.all id=false:=by rw[gI];intro z;exact absurd (cY.mp z _ h) 'E'
def wj{vs:List V}{bs:List Bool}(h:vs.length=bs.length)(c:∀(i:Nat) v,vs[i]?<*v->v=V.bl (bs.getD i false)):vs=bs.map V.bl:=by
 apply dw;·rw[h,ah]
 .intro i b a;rw[c i _ (aj b),cu,aJ,aj (by rw[ah]at a;exact a)];rfl
def AI:Sp:=λvs H Q _=>∃x al,vs=[x,al]/\rE H x al/\∀H',aY H H'->Q (.bl false) H'
def wp_ifB{G:Gam}(v1:G.val "MOST_BRANCHES"<*(.int 80))(g1:G.fn "is_name" 1<*(spN,[]))(X:G.fn "is_pair" 1<*(El,[]))(g3:G.fn "names_of" 1<*(HW,[]))(g4:G.fn "neighbours" 2<*(HZ,[]))(g5:G.fn "leads_one_way" 2<*(orS H0 Em,[])):
  Sat G K AI mQ pZ:=by
 rintro S H a2 E ⟨x,al,rfl,h,q⟩;unfold mQ;change wpB G K _ _ _ [some x,some al] H;ext;rcases h with⟨Y,Z⟩ |⟨f,g,rfl,j,a9,h⟩;·refine isi Y .list (_,rfl,?_,);rw[show iI (tyName H x) (Ty.t .list)=false from Z,if_pos (by rfl)];exact q _ (aY.refl _)
 refine isi (oa j) .list (_,rfl,?_,);rw[show tyName H (.ref f)="list" by show jF (H f)=_;rw[j];rfl,if_neg 'E'];refine .inl (f,_,rfl,.inl (SqL.of j),(_,v1,vH.mpr (_,rfl,?_,),),);by_cases c:80<g.length;·rw[if_pos (decide_eq_true 'D')];exact q _ (aY.refl _)
 rw[if_neg (by rw[decide_eq_false 'D'];decide)];unfold mP;ext;refine .inl (f,_,rfl,.inl (SqL.of j),mY.mpr (_,rfl,?_,),);have a0:g≠[]->0<g.length:=da.mpr;have go:g≠[]->∀{D:Ends},D.rt=a2->(al=.non->wpB G K (λ_=>E) fL D [some (.ref f),some al] H)->wpB G K (λ_=>E) fL D [some (.ref f),some al] H:=λy D hr hn=>by
  by_cases r:al=.non;·exact hn r
  .unfold fL;ext;rw[if_pos (by rw[decide_eq_false r];rfl),hr];exact q _ (aY.refl _)
 rcases h with h|⟨rfl,W,nn⟩ |⟨y,r⟩ |⟨y,rfl,bs,pr,fb⟩ |⟨rfl,F,u,br,hF,nm,nd,w,hl,a4⟩;·exact absurd h c
 .rw[if_pos (by rfl)];refine(_,_,g1,al,rfl,W.1,W.2,λH1 s1=>?_,);rw[nn];exact q _ s1
 .have :=a0 y;rw[if_neg (by rw[decide_eq_false 'D'];decide)];exact go y rfl λz=>absurd z r
 .have :=a0 y;rw[if_neg (by rw[decide_eq_false 'D'];decide)];unfold fL;ext;rw[if_neg 'F'];refine gC (fM rfl (SqL.of j) (gy jv (hJ 'D') (λC A=>SqL.of (A _ _ j)) (λi v _=>v=.bl (bs.getD i false)) (λ_ _ _ _ _ h=>h) (λB=>∃t,B=[t]) (none,rfl,) ?_ ?_));·rintro i x B U a3 hi ⟨t,rfl⟩ m P k;obtain⟨b,M,pt⟩:=pY pr P;ext;exact⟨_,_,X,x,b,rfl,pt.same m,λC p=>k _ _ _ (_,rfl,) p (by rw[aJ,M];rfl)⟩
  .intro S T l O n Q N;rw[wj (O.trans (fg pr)) n];refine(l,_,rfl,SqL.of ay,_,rfl,?_,);rw[all_false fb,if_pos (by rfl)];exact q _ (Q.trans (aA N))
 .have I:Frm H f g F:=(j,br,);have a8:=I.len;have h0:0<F.length:=da.mpr hF;rw[if_neg (by rw[decide_eq_false 'D'];decide)];unfold fL;ext;rw[if_neg 'F'];have R:∀e∈F,e.1∈u/\e.2∈u:=λe h=>((w _).mp (aH.mpr (.inl (cH h))),(w _).mp (aH.mpr (.inr (cH h))),);refine gC (fM rfl (SqL.of j) (gy jv (hJ 'D') (λC A=>SqL.of (A _ _ j)) (λi v _=>v=.bl true) (λ_ _ _ _ _ h=>h) (λB=>∃t,B=[t]) (none,rfl,) ?_ ?_));·rintro i x B U a3 hi ⟨t,rfl⟩ m P k;obtain⟨a,b,a7,a5,rfl,hp⟩:=I.at_ P;obtain⟨r,M⟩:=(show a∈u/\b∈u from R _ (bS a5));ext;exact(_,_,X,Jf _ _ _ (N0 []) (a7,a,b,rfl,m _ _ hp,nm a r,nm b M,λC p=>k _ _ _ (_,rfl,) p rfl,),)
  .intro S T l O n Q N;have e:S=((bg g.length).map λ_=>true).map V.bl:=by rw[<-O];exact bool_list rfl n
   subst e;refine(l,_,rfl,SqL.of ay,_,rfl,?_,);have e2:(((bg g.length).map λ_=>true).all id)=true:=by rw[o4];simp
   rw[e2,if_neg 'E'];have m:=Q.trans (aA (o:=.lst (((bg g.length).map λ_=>true).map V.bl)) N);generalize upd T l (.lst (((bg g.length).map λ_=>true).map V.bl))=U at m;unfold mO;ext;refine(_,_,g5,_,_,g4,_,_,g3,f,g,F,u,rfl,I.same m,'D',a4,w,λC a6 J p n4 h4 s=>?_,);have a1:∀e∈F,e.1∈J/\e.2∈J:=λe h=>((s.mem _).mpr (R e h).1,(s.mem _).mpr (R e h).2,);have nl:J.length=u.length:=by have Y:=j8 s.nd λv n=>(s.mem v).mp n;have Z:=j8 nd λv n=>(s.mem v).mpr n;lia
   refine(a6,f,J,g,F,rfl,h4,I.same (m.trans p),s.nd,a1,'D','D',λH5 d ls s5 n5 h5 b L=>.inr (d,f,ls,_,g,rfl,b,((m.trans p).trans s5) _ _ j,?_,?_,λH6 A=>q H6 (((m.trans p).trans s5).trans A),),);·intro z;rw[z]at L;obtain⟨e,w⟩:=List.exists_mem_of_ne_nil F hF;have :=(a1 e w).1;rw[<-L]at this;cases this
   .have :=congrArg kg L;rw[ah]at this;lia
def uY(CF:Addr):Sp:=λvs H _ E=>∃x al,vs=[x,al]/\rE H x al/\∀H',aY H H'->E (.ref CF) none H'
def Hw{G:Gam}(c:G.val "NoFrame"<*(.ref CF))(a:XC K CF)(g1:G.fn "is_frame" 2<*(orS FO AI,[])):Sat G K (uY CF) jN jL:=by rintro e H Q E ⟨x,al,rfl,h,q⟩;unfold jN;change wpB G K _ _ _ [some x,some al] H;ext;refine(_,_,g1,.inr (x,al,rfl,h,λd b=>(_,rfl,?_,),),);rw[if_pos (by rfl)];exact(CF,c,a.1,a.2,A8,q _ b,)
def CY{d:Addr}{o:Obj}{kvs:List (V×V)}:rD (Ito d o kvs) kvs.length (λi x H=>∃p k v,x=.ref p/\H p<*(.tup [k,v])/\kvs[i]?<*(k,v)) (λH=>H d<*(.frz o vj)) where
 go:=λi H h a=>(h,a,)
 stop:=λi H h a=>(h,a,)
 yld:=λi H x f h a y=>by obtain⟨p,k,v,c,e,b,y⟩:=y;subst e b;exact((p,k,v,rfl,ay,y,),aA c,)
def ItA(H:Hp)(ws:List Nm)(k v:V)(b:Bool):Prop:=(isName k=false/\b=false/\Ask H k)\/∃a,k=.str a/\dW a=true/\(a∉ws/\b=false\/a∈ws/\Known H v/\b=fX v)
theorem ItA.same{ws:List Nm}{k v:V}{b:Bool}(h:ItA H ws k v b)(s:aY H H'):ItA H' ws k v b:=
 h.imp (λ⟨a,b,c⟩=>(a,b,c.same s,)) λ⟨a,e,n,h⟩=>(a,e,n,h.imp id λ⟨i,d,e⟩=>(i,(d.same s).1,e,),)
def BY(H:Hp)(x:V)(ws:List Nm):Prop:=(Known H x/\iI (tyName H x) "dict"=false)\/
 (∃r kvs bs,x=.ref r/\H r<*(.dK kvs)/\kvs.length<=15/\false∈bs/\∀o,Paired (λ(q:Key×V)(b:Bool)=>ItA (upd H r (.frz o (.dK kvs))) ws (kV q.1) q.2 b) kvs bs)\/
 ∃r o kvs bs,x=.ref r/\(r==dA)=false/\H r<*(.frz o vj)/\Ents o kvs/\false∈bs/\Paired (λ(q:V×V)(b:Bool)=>ItA H ws q.1 q.2 b) kvs bs
def FY{u:HO}(s:aY H H'):aY (upd H r u) (upd H' r u):=λb o e=>by
 by_cases c:b=r;·subst c;rw[ay]at e⊢;exact e
 .rw[aQ c]at e⊢;exact s b o e
theorem BY.same{x:V}{ws:List Nm}(h:BY H x ws)(s:aY H H'):BY H' x ws:=by
 rcases h with⟨a,b⟩ |⟨r,f,bs,a,b,c,d,e⟩ |⟨r,o,f,bs,a,b,c,d,e,g⟩;·exact .inl ⟨(a.same s).1,by rw[(a.same s).2];exact b⟩
 .exact .inr (.inl (r,f,bs,a,s _ _ b,c,d,λo=>L2.Paired.nY (e o) λ_ _ z=>z.same (FY s),))
 .exact .inr (.inr (r,o,f,bs,a,b,s _ _ c,d,e,L2.Paired.nY g λ_ _ z=>z.same s,))
def En:Sp:=λvs H Q _=>∃(x:V)(n:Addr)(ns ws:List Nm),vs=[x,.ref n]/\H n<*(.lst (ns.map V.str))/\(∀v,v∈ns↔v∈ws)/\BY H x ws/\∀H',aY H H'->Q (.bl false) H'
def E5{G:Gam}{k v:V}{b:Bool}{n:Addr}{f ws:List Nm}{R:VK}{E0:XK}(g1:G.fn "is_name" 1<*(spN,[]))(l:G.fn "is_reading" 1<*(spB fX,[]))(o:H n<*(.lst (f.map V.str)))(i:∀v,v∈f↔v∈ws)(p:ItA H ws k v b)(q:∀H',aY H H'->R (.bl b) H'):
  ∃sp ak,G.fn "is_name" (0+1)<*(sp,ak)/\sp (k::ak) H (λx H1=>∃c,x=V.bl c/\if c=true then jg K .In k (.ref n) H1 λx H1=>∃c,x=V.bl c/\if c=true then ∃sp ak,G.fn "is_reading" (0+1)<*(sp,ak)/\sp (v::ak) H1 R E0 else R (V.bl false) H1 else R (V.bl false) H1) E0:=by
 rcases p with⟨m,rfl,g⟩ |⟨a,rfl,j,h⟩;·refine(_,_,g1,k,rfl,g.1,g.2,λH1 d=>(_,rfl,?_,),);rw[m,if_neg 'E'];exact q _ d
 .refine(_,_,g1,.str a,rfl,iB,(λz e=>by cases e;exact aR (lX j) 'E'),λH1 d=>(_,rfl,?_,),);rw[show isName (.str a)=true from j,if_pos rfl];refine .inr (n,_,rfl,.inl (SqL.of (d _ _ o)),rfl,x4 f,_,rfl,?_,);show if inV (V.str a) (f.map V.str)=true then _ else _
  rcases h with⟨h,rfl⟩ |⟨h,r,rfl⟩;·rw[zt,decide_eq_false (λz=>h ((i a).mp z)),if_neg 'E'];exact q _ d
  .rw[zt,decide_eq_true ((i a).mpr h),if_pos rfl];exact(_,_,l,v,rfl,(r.same d).1,λt s=>q _ (d.trans s),)
def wp_irB{G:Gam}(g1:G.fn "is_name" 1<*(spN,[]))(L:G.fn "is_reading" 1<*(spB fX,[])):Sat G K En oU r9:=by
 rintro N H Q E ⟨x,n,Z,ws,rfl,B,M,h,q⟩;unfold oU;change wpB G K _ _ _ [some x,some (.ref n)] H;ext;rcases h with⟨S,T⟩ |⟨r,s,bs,rfl,a,a0,y,f⟩ |⟨r,o,s,bs,rfl,Y,a,w,y,f⟩;·refine isi S .dict (_,rfl,?_,);rw[show iI (tyName H x) (Ty.t .dict)=false from T,if_pos (by rfl)];exact q _ (aY.refl _)
 .refine isi (EY a) .dict (_,rfl,?_,);rw[show tyName H (.ref r)="dict" by show jF (H r)=_;rw[a];rfl,if_neg 'E'];unfold kW;ext;refine .inl (r,_,a,gC (_,rfl,.inl (r,_,rfl,.inl (a,λo=>?_,),),),);have f:=f o;have X:n≠r:=gv B a (by intro z;cases z);have W:upd H r (.frz o (.dK s)) n<*(.lst (Z.map V.str)):=by rw[aQ X];exact B
  refine gy rW (hJ 'D') (λt c=>c _ _ ay) (λi v _=>v=.bl (bs.getD i false)) (λ_ _ _ _ _ h=>h) (λj=>∃u v,j=[u,v,some (.ref n)]) (none,none,rfl,) ?_ ?_;·rintro i x j t R U ⟨u,v,rfl⟩ c ⟨p,k,v,rfl,C,d⟩ F;obtain⟨b,A,e⟩:=pY f d;have e:=e.same c;refine(p,_,rfl,SqT.of C,rfl,_,_,rfl,_,_,rfl,rfl,?_,);ext;exact E5 g1 L (c _ _ W) M e λO I=>F _ _ _ (_,_,rfl,) I (by rw[aJ,A];rfl)
  .intro N P l D d g m;obtain⟨f1,J⟩:=oF a g m;rw[wj (D.trans (fg f)) d];refine(o,by rw[aQ J.symm];exact g _ _ ay,l,_,rfl,SqL.of (by rw[aQ J,ay]),?_,);rw[all_false y];exact q _ (rX a (g.trans (aA m)))
 .refine .inl (_,_,_,_,rfl,.inr (r,o,s,rfl,a,w,rfl,),J0 K "dict" .dict 'E',(_,rfl,?_,),);rw[if_neg 'E'];unfold kW;ext;refine .inr (gC (_,rfl,.inr (r,o,s,rfl,Y,a,w,?_,),));refine gy CY (hJ (by have :=w.2.1;lia)) (λt c=>c _ _ a) (λi v _=>v=.bl (bs.getD i false)) (λ_ _ _ _ _ h=>h) (λj=>∃u v,j=[u,v,some (.ref n)]) (none,none,rfl,) ?_ ?_;·rintro i x j t R U ⟨u,v,rfl⟩ c ⟨p,k,v,rfl,C,d⟩ F;obtain⟨b,A,e⟩:=pY f d;have e:=e.same c;refine(p,_,rfl,SqT.of C,rfl,_,_,rfl,_,_,rfl,rfl,?_,);ext;exact E5 g1 L (c _ _ B) M e λO I=>F _ _ _ (_,_,rfl,) I (by rw[aJ,A];rfl)
  .intro N P l D d g m;rw[wj (D.trans (fg f)) d];refine(l,_,rfl,SqL.of ay,?_,);rw[all_false y];exact q _ (g.trans (aA m))
def NoFw(H:Hp)(x y al:V):Prop:=rE H x al\/∃f ys F ws,x=.ref f/\Good H f al ys F ws/\BY H y ws
def Eo(CF:Addr):Sp:=λvs H _ E=>∃x y al,vs=[x,y,al]/\NoFw H x y al/\∀H',aY H H'->E (.ref CF) none H'
def wp_fwB{G:Gam}(o:G.val "NoFrame"<*(.ref CF))(c:XC K CF)(g1:G.fn "frame_list" 2<*(orS AJ (uY CF),[]))(e:G.fn "is_read" 2<*(orS Ib En,[])):Sat G K (Eo CF) ro vp:=by
 rintro t H Q E ⟨x,y,al,rfl,h,q⟩;unfold ro;change wpB G K _ _ _ [some x,some y,some al,none,none,none] H;ext;rcases h with h|⟨f,p,F,b,rfl,g,j⟩;·exact(_,_,g1,.inr (x,al,rfl,h,λd a=>q _ a,),)
 refine(_,_,g1,.inl (f,al,p,F,b,rfl,g.big,λd n k a s i l=>?_,),);unfold qm;ext;refine(_,_,e,.inr (y,n,k,b,rfl,i,l.mem,j.same a,λr m=>(_,rfl,?_,),),);rw[if_pos (by rfl)];exact(CF,o,c.1,c.2,A8,q _ (a.trans m),)
end K52
namespace R
open L2
def Mk(G:Gam)(K:ai)(E:XS)(σ:L2.St)(H:Hp)(e:CE)(Rr:V->Hp->Prop):Prop:=∀H',aY H H'->∀Q:VK,(∀v a,aY H' a->Rr v a->Q v a)->wpE G K E e σ H' Q
def MkL(G:Gam)(K:ai)(E:XS)(σ:L2.St)(H:Hp)(es:CL)(Rr:List V->Hp->Prop):Prop:=∀H',aY H H'->∀Q:List V->Hp->Prop,(∀v a,aY H' a->Rr v a->Q v a)->wpL G K E es σ H' Q
def iM{a:Type}(Rr:a->Hp->Prop):Prop:=∀v H H',aY H H'->Rr v H->Rr v H'
def G5(n:Nat)(Rr:V->Hp->Prop)(v:V)(H:Hp):Prop:=∃p vs,v=.ref p/\H p<*(.lst vs)/\vs.length=n/\∀x∈vs,Rr x H
def Lst(Rr:List V->Hp->Prop)(v:V)(H:Hp):Prop:=∃p vs,v=.ref p/\H p<*(.lst vs)/\Rr vs H
def Tup(Rr:List V->Hp->Prop)(v:V)(H:Hp):Prop:=∃p vs,v=.ref p/\H p<*(.tup vs)/\Rr vs H
def Two(c d:V->Hp->Prop)(vs:List V)(H:Hp):Prop:=∃a b,vs=[a,b]/\c a H/\d b H
def One(b:V->Hp->Prop)(vs:List V)(H:Hp):Prop:=∃a,vs=[a]/\b a H
def Is(v:V):V->Hp->Prop:=λx _=>x=v
def cb{v:V}:iM (Is v):=λ_ _ _ _ h=>h
def AE{Rr:List V->Hp->Prop}(h:iM Rr):iM (Tup Rr):=λv H e s ⟨p,d,a,b,c⟩=>(p,d,a,s _ _ b,h _ _ _ s c,)
def FN{Rr:V->Hp->Prop}(h:iM Rr):iM (G5 n Rr):=λv H g s ⟨p,f,a,b,c,d⟩=>(p,f,a,s _ _ b,c,λx e=>h _ _ _ s (d x e),)
def ju{b:V->Hp->Prop}(h:iM b):iM (One b):=λv H c s ⟨a,e,r⟩=>(a,e,h _ _ _ s r,)
def kl{c d:V->Hp->Prop}(h:iM c)(h':iM d):iM (Two c d):=λv H g s ⟨a,b,e,r,f⟩=>(a,b,e,h _ _ _ s r,h' _ _ _ s f,)
def qD:iM (λ(vs:List V)(_:Hp)=>vs=[]):=λ_ _ _ _ h=>h
section
variable {G:Gam}{E:XS}
def Mk.imp{e:CE}{Rr b:V->Hp->Prop}(h:Mk G K E σ H e Rr)(f:∀v H',aY H H'->Rr v H'->b v H'):Mk G K E σ H e b:=λH' s Q q=>h H' s Q λv a c r=>q v a c (f v a (s.trans c) r)
def fJ{c:Const}:Mk G K E σ H (.con c) (Is (cv c)):=λa s Q q=>q _ a (aY.refl _) rfl
def vt{v:V}(h:σ[i]?<*(some v)):Mk G K E σ H (.var i) (Is v):=λa s Q q=>(v,h,q _ a (aY.refl _) rfl,)
def qM:MkL G K E σ H .nil (λvs _=>vs=[]):=λa s Q q=>q _ a (aY.refl _) rfl
def qN{e:CE}{b:CL}{a:V->Hp->Prop}{Rs:List V->Hp->Prop}(h:Mk G K E σ H e a)(l:iM a)(i:MkL G K E σ H b Rs):MkL G K E σ H (.cons e b) (λvs H'=>∃v r,vs=v::r/\a v H'/\Rs r H'):=λH' s Q q=>
 h H' s _ λv f c j=>i f (s.trans c) _ λvs g d k=>q _ g (c.trans d) (v,vs,rfl,l _ _ _ d j,k,)
def jM{e:CE}{a:V->Hp->Prop}(h:Mk G K E σ H e a)(i:iM a):MkL G K E σ H (.cons e .nil) (One a):=λb s Q q=>
 qN h i qM b s Q λj c t ⟨v,r,d,f,g⟩=>q _ c t (v,by rw[d,g],f,)
def qL{e c:CE}{a b:V->Hp->Prop}(k:Mk G K E σ H e a)(m:iM a)(l:Mk G K E σ H c b)(n:iM b):MkL G K E σ H (.cons e (.cons c .nil)) (Two a b):=λd s Q q=>
 qN k m (jM l n) d s Q λo f t ⟨v,r,g,h,w,i,j⟩=>q _ f t (v,w,by rw[g,i],h,j,)
def p0{a:CL}{Rs:List V->Hp->Prop}(h:MkL G K E σ H a Rs)(d:iM Rs)(c:∀vs H',Rs vs H'->vs.length<=1000):Mk G K E σ H (.lst a) (Lst Rs):=λH' s Q q=>
 h H' s _ λvs e t r=>(aR (c _ _ r) 'E',λp b=>q _ _ (t.trans (aA b)) (p,vs,rfl,ay,d _ _ _ (aA b) r,),)
def kz{a:CL}{Rs:List V->Hp->Prop}(h:MkL G K E σ H a Rs)(d:iM Rs)(c:∀vs H',Rs vs H'->vs.length<=1000):Mk G K E σ H (.tup a) (Tup Rs):=λH' s Q q=>
 h H' s _ λvs e t r=>(aR (c _ _ r) 'E',λp b=>q _ _ (t.trans (aA b)) (p,vs,rfl,ay,d _ _ _ (aA b) r,),)
def len_one{b:V->Hp->Prop}:∀vs H',One b vs H'->vs.length<=1000:=λvs H' ⟨a,e,_⟩=>by rw[e];exact(by decide:1<=1000)
def uD{c d:V->Hp->Prop}:∀vs H',Two c d vs H'->vs.length<=1000:=λvs H' ⟨a,b,e,_⟩=>by rw[e];exact(by decide:2<=1000)
def uE:∀(vs:List V)(H':Hp),vs=[]->vs.length<=1000:=λvs H' e=>by rw[e];exact(by decide:0<=1000)
abbrev AllC(P:CE->Prop):CL->Prop
 |.nil=>True
 |.cons e es=>P e/\AllC P es
theorem EU{Rr:V->Hp->Prop}(b:iM Rr):∀{es:CL},AllC (λe=>Mk G K E σ H e Rr) es->MkL G K E σ H es (λvs H'=>vs.length=es.len/\∀v∈vs,Rr v H')
 |.nil,_=>λH' s Q q=>q _ H' (aY.refl _) ⟨rfl,λ_ z=>nomatch z⟩
 |.cons e es,h=>λH' s Q q=>qN h.1 b (EU b h.2) H' s Q λvs c t ⟨v,r,a,d,f,g⟩=>q _ c t ⟨by rw[a,aZ,f];rfl,λx hx=>by
   rw[a]at hx;rcases aG.mp hx with rfl|hx;·exact d
   .exact g x hx⟩
def p7{Rr:V->Hp->Prop}{c:CL}(g:iM Rr)(f:c.len=n)(o:n<=1000)(h:AllC (λe=>Mk G K E σ H e Rr) c):Mk G K E σ H (.lst c) (G5 n Rr):=
 (p0 (EU g h) (λd t u s ⟨a,b⟩=>(a,λv q=>g _ _ _ s (b v q),)) λd i r=>by rw[r.1,f];exact o).imp λv i _ ⟨p,d,j,k,l,m⟩=>(p,d,j,k,by rw[l,f],m,)
def mk_catN{a b:CE}{Rr:V->Hp->Prop}(e:iM Rr)(B:Mk G K E σ H a (G5 m Rr))(C:Mk G K E σ H b (G5 n Rr))(c:m+n<=1000):Mk G K E σ H (.bin .Add a b) (G5 (m+n) Rr):=λi s Q q=>
 B i s _ λv j f ⟨p,g,u,y,z,A⟩=>C j (s.trans f) _ λw F d ⟨D,h,k,o,r,t⟩=>.inr (.inr (.inl ⟨p,D,g,h,u,k,d _ _ y,o,aR (by lia:_<=1000) 'E',λl c=>by
  refine q _ _ (f.trans (d.trans (aA c))) (l,g++h,rfl,ay,by rw[aq,z,r],λx hx=>?_,);rcases aH.mp hx with hx|hx;·exact e _ _ _ (d.trans (aA c)) (A x hx)
  .exact e _ _ _ (aA c) (t x hx)⟩))
def sd{a i:CE}{k:Int}{Rr:V->Hp->Prop}(u:iM Rr)(r:Mk G K E σ H a (G5 n Rr))(t:Mk G K E σ H i (Is (.int k)))(h0:0<=k)(z:k<n):Mk G K E σ H (.idx a i) Rr:=λf s Q q=>
 r f s _ λv g e ⟨p,c,h,l,y,m⟩=>t g (s.trans e) _ λw x b o=>by
  obtain⟨j,rfl⟩:=dY h0;have d:j<c.length:=by lia
  exact .inl (p,c,j,c[j],h,o,SqL.of (b _ _ l),hZ (aj d),q _ _ (e.trans b) (u _ _ _ b (m _ (bF d))),)
end
end R
variable {G:R.Gam}
namespace F5
open L2 R Cp Kc Lt
abbrev bD(e:Nm×Nm):D:=.tup [.str e.1,.str e.2]
theorem Ew:∀{ys:List V}{F:List (Nm×Nm)},Paired (Br H) ys F->jI K H (F.map bD) ys
 |_,_,.nil=>rfl
 |_,_,.cons ⟨p,e,h⟩ t=>(_,_,rfl,(p,_,e,SqT.of h,_,_,rfl,rfl,_,_,rfl,rfl,rfl,),Ew t,)
theorem Kh:∀F:List (Nm×Nm),kB (F.map bD)<=1
 | []=>a0 _
 |e::F=>by have :=Kh F;show max (hgt (bD e)) (kB (F.map bD))<=1;have a:hgt (bD e)=1:=rfl;lia
end F5
namespace K51
open L2 R Cp Kc Lt F5
def Er{x:V}{d:L2.D}{Q:VK}(a:Rep K H d x)(b:Rep K H d y)(c:hgt d<=30)(k:Q (.bl true) H):jg K .Eq x y H Q:=⟨d,d,a,b,c,by rw[BF];exact k⟩
theorem AS:∀ks:List Str,jI K H (ks.map L2.D.str) (ks.map V.str)
 | []=>rfl
 |_::ks=>(_,_,rfl,rfl,AS ks,)
theorem By:∀ns:List Str,kB (ns.map L2.D.str)=0
 | []=>rfl
 |a::l=>by show max (hgt (.str a)) (kB (l.map L2.D.str))=0;rw[By l];rfl
def IP{p:Addr}(h:H p<*(.lst (ks.map V.str))):Rep K H (.lst (ks.map .str)) (.ref p)/\hgt (.lst (ks.map L2.D.str))<=30:=by refine((p,_,rfl,SqL.of h,AS ks,),?_,);show kB (ks.map L2.D.str)+1<=30;rw[By];decide
def IK{a b ws:List Nm}(r:mE a ws)(q:mE b ws):a=b:=
 _root_.Q.pv ((lM r.nd q.nd).mpr λx=>(r.mem x).trans (q.mem x).symm) r.up q.up
def F7{ws:List Nm}(nd:ws.Nodup):∃b,mU ws=b.map V.str/\mE b ws:=by have a:=_root_.Q.sW ("":Str) nd rfl;exact(_,AM nd,a.nodup_iff.mpr nd,λv=>a.mem_iff,_root_.Q.pq nd,)
def FP{a ws:List Nm}(nd:ws.Nodup)(r:mE a ws):mU ws=a.map V.str:=by obtain⟨b,e,q⟩:=F7 nd;rw[e,IK r q]
def uU(a:Nm):Tree [] [a]:=by refine('F',(λe b=>nomatch b),rfl,λS _ x c y d=>?_,);rw[aC.mp c,aC.mp d];exact id
end K51
namespace K52
open R
abbrev ve:List Str:=["_law_frame_here","_law_names_here","_law_number"]
abbrev nU:List Str:=["_law_frame_here","_law_names_here","_law_number","_law_at","_law_one","_law_other","_law_way","_law_bad","_law_far","_law_near"]
abbrev iY:CB:=
  (.cons (.ret (.bin .Add (.bin .Add (.cut (.var 0) .no (.yes (.var 3))) (.lst (.cons (.tup (.cons (.con (.str "zza")) (.cons (.con (.str "zzb")) .nil))) .nil))) (.cut (.var 0) (.yes (.var 3)) .no)))
  .nil)
abbrev mh:CB:=
  (.cons (.iff (.and (.cmp .Eq (.var 6) (.con (.int 5))) (.cmp .Gt (.bfn .len (.cons (.var 1) .nil)) (.con (.int 2))))
  (.cons (.asg (.name 8) (.idx (.var 1) (.bin .Mod (.bin .FloorDiv (.var 2) (.con (.int 776))) (.bfn .len (.cons (.var 1) .nil)))))
  (.cons (.asg (.name 9) (.idx (.var 1) (.bin .Mod (.bin .FloorDiv (.var 2) (.con (.int 7760))) (.bfn .len (.cons (.var 1) .nil)))))
  (.cons (.ret (.bin .Add (.bin .Add (.cut (.var 0) .no (.yes (.var 3))) (.lst (.cons (.tup (.cons (.var 8) (.cons (.var 9) .nil))) .nil))) (.cut (.var 0) (.yes (.var 3)) .no)))
  .nil)))
  .nil)
  iY)
abbrev mj:CB:=
  (.cons (.iff (.cmp .Eq (.var 6) (.con (.int 4)))
  (.cons (.ret (.bin .Add (.bin .Add (.cut (.var 0) .no (.yes (.var 3))) (.lst (.cons (.tup (.cons (.var 4) (.cons (.var 4) .nil))) .nil))) (.cut (.var 0) (.yes (.var 3)) .no)))
  .nil)
  .nil)
  mh)
abbrev mo:CB:=
  (.cons (.iff (.cmp .Eq (.var 6) (.con (.int 3)))
  (.cons (.ret (.bin .Add (.bin .Add (.cut (.var 0) .no (.yes (.var 3))) (.lst (.cons (.tup (.cons (.var 5) (.cons (.var 4) .nil))) .nil))) (.cut (.var 0) (.yes (.var 3)) .no)))
  .nil)
  .nil)
  mj)
abbrev mq:CB:=
  (.cons (.iff (.cmp .Eq (.var 6) (.con (.int 2)))
  (.cons (.ret (.bin .Add (.bin .Add (.cut (.var 0) .no (.yes (.var 3))) (.lst (.cons (.tup (.cons (.var 4) (.cons (.var 5) .nil))) .nil))) (.cut (.var 0) (.yes (.var 3)) .no)))
  .nil)
  .nil)
  mo)
abbrev mw:CB:=
  (.cons (.iff (.cmp .Eq (.var 6) (.con (.int 1)))
  (.cons (.asg (.name 7) (.lst (.cons (.con .none) (.cons (.con (.int 5)) (.cons (.lst (.cons (.var 4) (.cons (.var 5) .nil))) (.cons (.tup (.cons (.var 4) .nil)) (.cons (.tup (.cons (.var 4) (.cons (.var 5) (.cons (.var 4) .nil)))) (.cons (.tup (.cons (.var 4) (.cons (.con (.int 5)) .nil))) (.cons (.tup (.cons (.con (.str "")) (.cons (.var 5) .nil))) (.cons (.tup (.cons (.var 4) (.cons (.con (.str "Ab")) .nil))) (.cons (.con (.str "ab")) (.cons (.tup .nil) .nil))))))))))))
  (.cons (.ret (.bin .Add (.bin .Add (.cut (.var 0) .no (.yes (.var 3))) (.lst (.cons (.idx (.bin .Add (.var 7) (.lst (.cons (.tup (.cons (.var 4) (.cons (.con .none) .nil))) .nil))) (.bin .Mod (.bin .FloorDiv (.var 2) (.con (.int 776))) (.con (.int 11)))) .nil))) (.cut (.var 0) (.yes (.var 3)) .no)))
  .nil))
  .nil)
  mq)
abbrev mz:CB:=
  (.cons (.iff (.cmp .Eq (.var 6) (.con (.int 0)))
  (.cons (.ret (.idx (.lst (.cons (.con .none) (.cons (.bfn .tuple (.cons (.var 0) .nil)) (.cons (.dic .nil) (.cons (.con (.str "")) (.cons (.con (.int 5)) (.cons (.con (.bool true)) (.cons (.tup .nil) (.cons (.dic (.cons (.con (.str "a")) (.con (.str "b")) .nil)) (.cons (.con (.str "ab")) .nil)))))))))) (.bin .Mod (.bin .FloorDiv (.var 2) (.con (.int 8))) (.con (.int 9)))))
  .nil)
  .nil)
  mw)
abbrev mB:CB:=
  (.cons (.asg (.name 6) (.bin .Mod (.var 2) (.con (.int 8))))
  mz)
abbrev mC:CB:=
  (.cons (.asg (.tup (.cons (.name 4) (.cons (.name 5) .nil))) (.idx (.var 0) (.bin .Mod (.bin .FloorDiv (.var 2) (.con (.int 97))) (.bfn .len (.cons (.var 0) .nil)))))
  mB)
abbrev ou:CB:=
  (.cons (.asg (.name 3) (.bin .Mod (.bin .FloorDiv (.var 2) (.con (.int 8))) (.bin .Add (.bfn .len (.cons (.var 0) .nil)) (.con (.int 1)))))
  mC)
abbrev wR:List Str:=["_law_names_here","_law_number"]
abbrev pB:List Str:=["_law_names_here","_law_number"]
abbrev m8:CB:=
  (.cons (.ret (.dic (.cons (.idx (.var 0) (.un .USub (.con (.int 1)))) (.idx (.lst (.cons (.con (.int 2)) (.cons (.un .USub (.con (.int 1))) (.cons (.con (.bool true)) (.cons (.con (.bool false)) (.cons (.con .none) (.cons (.con (.str "1")) (.cons (.lst (.cons (.con (.int 1)) .nil)) (.cons (.tup (.cons (.con (.int 1)) .nil)) (.cons (.bin .Pow (.con (.int 10)) (.con (.int 30))) .nil)))))))))) (.bin .Mod (.bin .FloorDiv (.var 1) (.con (.int 4))) (.con (.int 9)))) .nil)))
  .nil)
abbrev m9:CB:=
  (.cons (.iff (.cmp .Eq (.bin .Mod (.var 1) (.con (.int 4))) (.con (.int 2)))
  (.cons (.ret (.x2 .odd (.idx (.lst (.cons (.con .none) (.cons (.con (.int 5)) (.cons (.con (.str "")) (.cons (.con (.str "Ab")) (.cons (.tup (.cons (.idx (.var 0) (.con (.int 0))) .nil)) (.cons (.con (.bool true)) .nil))))))) (.bin .Mod (.bin .FloorDiv (.var 1) (.con (.int 4))) (.con (.int 6)))) (.idx (.var 0) (.con (.int 0)))))
  .nil)
  .nil)
  m8)
abbrev nc:CB:=
  (.cons (.iff (.cmp .Eq (.bin .Mod (.var 1) (.con (.int 4))) (.con (.int 1)))
  (.cons (.ret (.dic (.cons (.idx (.var 0) (.con (.int 0))) (.con (.int 1)) (.cons (.con (.str "zza")) (.con (.int 0)) .nil))))
  .nil)
  .nil)
  m9)
abbrev pJ:CB:=
  (.cons (.iff (.cmp .Eq (.bin .Mod (.var 1) (.con (.int 4))) (.con (.int 0)))
  (.cons (.ret (.idx (.lst (.cons (.con .none) (.cons (.lst .nil) (.cons (.tup .nil) (.cons (.con (.str "ab")) (.cons (.con (.int 5)) (.cons (.con (.bool true)) (.cons (.lst (.cons (.tup (.cons (.idx (.var 0) (.con (.int 0))) (.cons (.con (.int 1)) .nil))) .nil)) (.cons (.lst (.cons (.idx (.var 0) (.con (.int 0))) .nil)) .nil))))))))) (.bin .Mod (.bin .FloorDiv (.var 1) (.con (.int 4))) (.con (.int 8)))))
  .nil)
  .nil)
  nc)
abbrev wQ:List Str:=["_law_way","_law_frame_here","_law_marked","_law_alone_here"]
abbrev pA:List Str:=["_law_way","_law_frame_here","_law_marked","_law_alone_here","_law_caught","e","_law_some"]
abbrev m5:CB:=
  (.cons (.ret (.cmp .Eq (.bin .Add (.var 6) (.lst (.cons (.bfn .isx (.cons (.var 4) (.cons (.glo "NoText") .nil))) .nil))) (.bin .Mult (.lst (.cons (.con (.bool false)) .nil)) (.con (.int 4)))))
  .nil)
abbrev m6:CB:=
  (.cons (.asg (.name 6) (.lst (.cons (.bfn .isx (.cons (.var 4) (.cons (.glo "NoName") .nil))) (.cons (.bfn .isx (.cons (.var 4) (.cons (.glo "NoReading") .nil))) (.cons (.bfn .isx (.cons (.var 4) (.cons (.glo "NoTable") .nil))) .nil)))))
  m5)
abbrev jG:CB:=
  (.cons (.iff (.or (.not (.bfn .isx (.cons (.var 4) (.cons (.glo "NoFrame") .nil)))) (.not (.bfn .isx (.cons (.var 4) (.cons (.ty .valueError) .nil)))))
  (.cons (.ret (.con (.bool false)))
  .nil)
  .nil)
  m6)
abbrev m7:CB:=
  (.cons (.tryc "KinError" 5
  (.cons (.iff (.cmp .Eq (.var 0) (.con (.int 0)))
  (.cons (.expr (.call "frame_list" (.cons (.var 1) (.cons (.var 3) .nil))))
  .nil)
  (.cons (.expr (.call "fewest" (.cons (.var 1) (.cons (.var 2) (.cons (.var 3) .nil)))))
  .nil))
  .nil)
  (.cons (.asg (.name 4) (.var 5))
  .nil))
  jG)
abbrev pI:CB:=
  (.cons (.asg (.name 4) (.con .none))
  m7)
end K52
namespace K52
open L2 R Cp Kc Lt F5
structure Xf(G:Gam)(K:ai)(CE CF CN CR C CT:Addr):Prop where
 v0:G.val "KinError"<*(.ref CE)
 v1:G.val "NoFrame"<*(.ref CF)
 v2:G.val "NoName"<*(.ref CN)
 v3:G.val "NoReading"<*(.ref CR)
 v4:G.val "NoTable"<*(.ref C)
 v5:G.val "NoText"<*(.ref CT)
 m:PySem.W.exmOne K (.ref CF) (.ref CE)<*true
 o:mW K CF=true
 k1:bK K (.ref CF) (.ref CF)<*true
 kv:bK K (.ref CF) (.type "ValueError")<*true
 k2:bK K (.ref CF) (.ref CN)<*false
 k3:bK K (.ref CF) (.ref CR)<*false
 k4:bK K (.ref CF) (.ref C)<*false
 k5:bK K (.ref CF) (.ref CT)<*false
def J4{D:Addr}{b:Bool}{Q:VK}(c:H a<*(excO a (.ref C)))(o:mW K C=true)(k:bK K (.ref C) (.ref D)<*b)(q:Q (.bl b) H):rBf K .isx [.ref a,.ref D] H Q:=
 (a,C,none,.ref D,.ref D,b,rfl,c,(λd e=>nomatch e),o,.inr (D,rfl,rfl,),k,q,)
def isx0V{T:String}{b:Bool}{Q:VK}(c:H a<*(excO a (.ref C)))(o:mW K C=true)(k:bK K (.ref C) (.type T)<*b)(q:Q (.bl b) H):rBf K .isx [.ref a,.ty T] H Q:=
 (a,C,none,.ty T,.type T,b,rfl,c,(λd e=>nomatch e),o,.inl (T,rfl,rfl,),k,q,)
def spRf:Sp:=λvs H Q _=>∃(w:Int)(x y al:V),vs=[.int w,x,y,al]/\(w=0/\rE H x al\/w≠0/\NoFw H x y al)/\∀H',aY H H'->Q (.bl true) H'
def wp_rf{CE CR:Addr}(X:Xf G K CE CF CN CR C CT)(g1:G.fn "frame_list" 2<*(orS AJ (uY CF),[]))(r:G.fn "fewest" 3<*(orS spFw (Eo CF),[])):
  Sat G K spRf pI pA:=by
 rintro N H Q E ⟨w,x,y,al,rfl,h,q⟩;have fin:∀{a:Addr}{c:Hp}{e:Ends},e.rt=Q->aY H c->c a<*(excO a (.ref CF))->wpB G K (λ_=>E) jG e [some (.int w),some x,some y,some al,some (.ref a),none,none] c:=by intro a c e D d b;unfold jG;ext;refine(_,X.v1,J4 b X.o X.k1 (_,rfl,?_,),);rw[if_neg 'F'];refine isx0V b X.o X.kv (_,rfl,?_,);rw[if_neg 'F'];unfold m6;ext;refine(_,X.v2,J4 b X.o X.k2 (_,X.v3,J4 b X.o X.k3 (_,X.v4,J4 b X.o X.k4 (short (by show 3<=40;decide),λp v=>?_,),),),);generalize hX:upd c p _=H2;obtain⟨l,s⟩:=vk hX v;clear hX;unfold m5;ext;refine(_,X.v5,J4 (l _ _ b) X.o X.k5 (short (by show 1<=40;decide),λj A=>?_,),);generalize hX:upd H2 j _=H3;obtain⟨m,t⟩:=vk hX A;clear hX;refine .inr (.inr (.inl (p,j,_,_,rfl,rfl,m _ _ s,t,short (by show 4<=40;decide),λJ B=>?_,)));refine(short (by show 1<=40;decide),λL g=>.inr (.inl (L,4,[.bl false],rfl,rfl,ay,'E','E',short (by show 1*4<=40;decide),λM i=>?_,)),);rw[D];have n:=aA (o:=.lst ((bL (4:Int).toNat [V.bl false]).flatten)) i _ _ (aA (o:=.lst [V.bl false]) g _ _ (ay (H:=H3) (a:=J) (o:=.lst ([V.bl false,V.bl false,V.bl false]++[V.bl false]))));have k:∀{f:Hp}{u:Addr},f u<*(.lst [V.bl false,V.bl false,V.bl false,V.bl false])->Rep K f (.lst [.bl false,.bl false,.bl false,.bl false]) (.ref u):=λF=>(_,_,rfl,SqL.of F,(_,_,rfl,rfl,_,_,rfl,rfl,_,_,rfl,rfl,_,_,rfl,rfl,rfl,),);exact K51.Er (k n) (k ay) 'E' (q _ (d.trans (l.trans (m.trans ((aA B).trans ((aA g).trans (aA i)))))))
 unfold pI m7;change wpB G K _ _ _ [some (.int w),some x,some y,some al,none,none,none] H;ext;refine(CE,X.v0,?_,);rcases h with⟨rfl,h⟩ |⟨I,h⟩;·rw[if_pos 'E'];refine(_,_,g1,.inr (x,al,rfl,h,λc d=>(rfl,X.m,λa b=>?_,),),);ext;exact fin rfl (d.trans (aA b)) ay
 .rw[if_neg (λz=>I (W0 z))];refine(_,_,r,.inr (x,y,al,rfl,h,λc d=>(rfl,X.m,λa b=>?_,),),);ext;exact fin rfl (d.trans (aA b)) ay
section
variable {G:Gam}{E:XS}
def mk_varR{v:V}{Rr:V->Hp->Prop}(b:iM Rr)(h:σ[i]?<*(some v))(r:Rr v H):Mk G K E σ H (.var i) Rr:=λa s Q q=>(v,h,q _ a (aY.refl _) (b _ _ _ s r),)
def km{e:CE}{r:CB}{D:Ends}(h:wpE G K E e σ H D.rt):wpB G K E (.cons (.ret e) r) D σ H:=h
def tE{c:CE}{g r:CB}{x b:Int}{D:Ends}(l:Mk G K E σ H c (Is (.int x)))(j:x=b->∀H',aY H H'->∀a:Ends,a.rt=D.rt->(∀i d,wpB G K E r D i d->a.nx i d)->wpB G K E g a σ H')(k:x≠b->∀H',aY H H'->wpB G K E r D σ H'):wpB G K E (.cons (.iff (.cmp .Eq c (.con (.int b))) g .nil) r) D σ H:=by
 unfold wpB R.wpS yE;simp only[wpT,HN,qB,tOp,wpE,tC,cv];refine l H (aY.refl _) _ λv H' f e=>?_;cases e;refine mY.mpr (_,rfl,?_,);by_cases c:x=b;·rw[if_pos (decide_eq_true c)];exact j c H' f _ rfl λ_ _ h=>h
 .rw[if_neg (λz=>c (W0 z))];exact k c H' f
def mk_mod{d b:Int}(h:σ[i]?<*(some (.int d)))(a:0<b):Mk G K E σ H (.bin .Mod (.var i) (.con (.int b))) (Is (.int (d%b))):=λc s Q q=>by ext;exact(_,h,nV.mpr (a,q _ _ (aY.refl _) rfl,),)
def JN{d a b:Int}(h:σ[i]?<*(some (.int d)))(c:CDiv d a)(e:0<b):Mk G K E σ H (.bin .Mod (.bin .FloorDiv (.var i) (.con (.int a))) (.con (.int b))) (Is (.int (d/a%b))):=λf s Q q=>by ext;exact(_,h,div_ii.mpr (c,nV.mpr (e,q _ _ (aY.refl _) rfl,),),)
def NL(v:V)(H:Hp):Prop:=Known H v/\iI (tyName H v) "list"=false
def yJ:iM NL:=λv H a s h=>⟨(h.1.same s).1,by rw[(h.1.same s).2];exact h.2⟩
def ND(v:V)(H:Hp):Prop:=Known H v/\iI (tyName H v) "dict"=false
def yK:iM ND:=λv H a s h=>⟨(h.1.same s).1,by rw[(h.1.same s).2];exact h.2⟩
def ty_dK{kvs:List (Key×V)}(h:H a<*(.dK kvs)):tyName H (.ref a)="dict":=by show jF (H a)=_;rw[h];rfl
def Cw(h:H a<*(.tup xs)):tyName H (.ref a)="tuple":=by show jF (H a)=_;rw[h];rfl
def yC(h:H a<*(.lst xs)):tyName H (.ref a)="list":=by show jF (H a)=_;rw[h];rfl
def Bi{c:Const}(h:Known H (cv c)/\iI (tyName H (cv c)) "list"=false):Mk G K E σ H (.con c) NL:=fJ.imp λv a s e=>by rw[show v=cv c from e];exact yJ _ _ _ s h
def EV{c:Const}(h:Known H (cv c)/\iI (tyName H (cv c)) "dict"=false):Mk G K E σ H (.con c) ND:=fJ.imp λv a s e=>by rw[show v=cv c from e];exact yK _ _ _ s h
def JM{n:Addr}{w:Nm}{ws:List Nm}(h:σ[0]?<*(some (.ref n)))(a:H n<*(.lst ((w::ws).map V.str))):Mk G K E σ H (.idx (.var 0) (.con (.int 0))) (Is (.str w)):=λb s Q q=>by ext;exact(_,h,.inl (n,_,0,_,rfl,rfl,SqL.of (s _ _ a),hZ (j:=0) (xs:=(w::ws).map V.str) rfl,q _ _ (aY.refl _) rfl,),)
def spNr:Sp:=λvs H Q _=>∃(n:Addr)(w:Nm)(ws:List Nm)(d:Int),vs=[.ref n,.int d]/\H n<*(.lst ((w::ws).map V.str))/\(∀v∈w::ws,dW v=true)/\("zza":Str)∉w::ws/\fj (.str w)=true/\(w::ws).length<=100/\∀H' y,aY H H'->BY H' y (w::ws)->Q y H'
end
def uA{kvs:List (Key×V)}{k:Key}{v:V}(h:k∉kvs.map (·.1)):putK kvs k v=kvs++[(k,v)]:=by unfold putK;rw[if_neg];intro z;obtain⟨q,a,e⟩:=fS.mp z;exact h (aW.mpr (q,a,W0 e,))
def Dk{a b:Key}{u v:V}(h:a≠b):jh [] [(a,u),(b,v)]=[(a,u),(b,v)]:=by show putK (putK [] a u) b v=_;rw[uA (kvs:=[]) 'F',uA ↥h.symm];rfl
def OdV(w:Nm)(v:V)(H:Hp):Prop:=(∃k:Key,v=kV k/\isName v=false/\∀z,v=.str z->z.length<=20000)\/v=.non\/(∃b,v=.bl b)\/∃a,v=.ref a/\H a<*(.tup [.str w])
def yI{w:Nm}:iM (OdV w):=λv H b s h=>h.imp id λh=>h.imp id λh=>h.imp id λ⟨a,e,h⟩=>(a,e,s _ _ h,)
def NRd(v:V)(H:Hp):Prop:=fX v=false/\((∀a,v≠.ref a)/\Known H v\/∃a,v=.ref a/\((∃xs,H a<*(.lst xs))\/∃xs,H a<*(.tup xs)))
def Ej:iM NRd:=λv H c s h=>(h.1,h.2.imp (λh=>(h.1,(h.2.same s).1,)) λ⟨a,e,h⟩=>(a,e,h.imp (λ⟨b,h⟩=>(b,s _ _ h,)) λ⟨b,h⟩=>(b,s _ _ h,),),)
def wp_nr:Sat G K spNr pJ pB:=by
 rintro M H a0 E ⟨n,w,I,d,rfl,l,nm,zz,cl,a4,q⟩;have nw:dW w=true:=nm w aw;unfold pJ;change wpB G K _ _ _ [some (.ref n),some (.int d)] H;have v0:([some (V.ref n),some (V.int d)]:L2.St)[0]?<*(some (.ref n)):=rfl;have v1:([some (V.ref n),some (V.int d)]:L2.St)[1]?<*(some (.int d)):=rfl;have md:∀{H:Hp},Mk G K (λ_=>E) [some (V.ref n),some (V.int d)] H (.bin .Mod (.var 1) (.con (.int 4))) (Is (.int (d%4))):=mk_mod v1 'E';have ix:∀{H:Hp}{b:Int},0<b->Mk G K (λ_=>E) [some (V.ref n),some (V.int d)] H (.bin .Mod (.bin .FloorDiv (.var 1) (.con (.int 4))) (.con (.int b))) (Is (.int (d/4%b))):=λhb=>JN v1 ('E','E',) hb;have P:∀{b:Int},0<b->0<=d/4%b/\d/4%b<b:=λhb=>(cy _ 'D',cT _ hb,);refine tE md (λ_ H1 B D W hx=>km ?_) (λ_ H1 B=>?_)
 .have l:=B _ _ l;have X:=JM (G:=G) (K:=K) (E:=λ_=>E) v0 l;refine(sd (n:=8) yK (p7 yK rfl 'E' ?_) (ix 'E') (P 'E').1 (P 'E').2) H1 (aY.refl _) _ λv Y C h=>?_
  .refine(EV (qc,rfl,),(p0 qM qD uE).imp (λv g s ⟨p,M,m,f,S⟩=>?_),(kz qM qD uE).imp (λv g s ⟨p,M,m,f,S⟩=>?_),EV (iB,rfl,),EV (jE,rfl,),EV (xT,rfl,),(p0 (jM (kz (qL X cb fJ cb) (kl cb cb) uD) (AE (kl cb cb))) (ju (AE (kl cb cb))) len_one).imp (λv g s ⟨p,M,m,f,S⟩=>?_),(p0 (jM X cb) (ju cb) len_one).imp (λv g s ⟨p,M,m,f,S⟩=>?_),trivial,);all_goals subst m
   .exact⟨oa f,by rw[yC f];rfl⟩
   .exact⟨qb f,by rw[Cw f];rfl⟩
   .exact⟨oa f,by rw[yC f];rfl⟩
   .exact⟨oa f,by rw[yC f];rfl⟩
  .rw[W];exact q _ _ (B.trans C) (.inl h)
 unfold nc;refine tE md (λ_ Y C D W hx=>km ?_) (λ_ Y C=>?_)
 .have l:=(B.trans C) _ _ l;refine .inr ((λz=>nomatch z),λp A=>?_,);have F:=aA (o:=.dK []) A;refine JM (G:=G) (K:=K) (E:=λ_=>E) v0 (F _ _ l) _ (aY.refl _) _ λa1 x t e=>?_;cases e;have r:=t _ _ (ay (H:=Y) (a:=p) (o:=.dK []));have s6:aY Y x:=F.trans t;have R:∀u,aY H (upd x p u):=λu=>λb o e=>by have j:=(B.trans C) b o e;rw[aQ (bt j A)];exact s6 b o j
  refine(r,[(.inr w,.int 1),(.inr "zza",.int 0)],rfl,(by show 2<=15;decide),?_,);have ne:(.inr w:Key)≠.inr "zza":=λz=>zz (by injection z with z;rw[<-z];exact aw);rw[W,Dk ne];refine q _ _ (R _) (.inr (.inl (p,_,[true,false],rfl,ay,(by show 2<=15;decide),'F',λo=>.cons (.inr (w,rfl,nw,.inr (aw,jE,rfl,),)) (.cons (.inr ("zza",rfl,by decide+kernel,.inl (zz,rfl,),)) .nil),)))
 unfold m9;refine tE md (λ_ O L D W hx=>km ?_) (λ_ O L=>?_)
 .have l:=(B.trans (C.trans L)) _ _ l;show tOdd _ _ _ _ _;intro p A;have F:=aA (o:=.dK []) A;have X:=JM (G:=G) (K:=K) (E:=λ_=>E) v0 (F _ _ l);refine(sd (n:=6) yI (p7 (yI (w:=w)) rfl 'E' ?_) (ix 'E') (P 'E').1 (P 'E').2) _ (aY.refl _) _ λy Z Q h=>?_
  .have a2:∀{c:Const}(k:Key),cv c=kV k->isName (cv c)=false->(∀z,cv c=.str z->z.length<=20000)->Mk G K (λ_=>E) [some (V.ref n),some (V.int d)] (upd O p (.dK [])) (.con c) (OdV w):=λk T U j=>fJ.imp λv g s e=>by rw[show v=_ from e];exact .inl (k,T,U,j,)
   exact(fJ.imp λv g s e=>.inr (.inl e),a2 (.inl 5) rfl rfl (λz e=>nomatch e),a2 (.inr "") rfl rfl (λz e=>by cases e;decide),a2 (.inr "Ab") rfl (by decide+kernel) (λz e=>by cases e;decide+kernel),(kz (jM X cb) (ju cb) len_one).imp (λv g s ⟨a,M,m,f,a1,S,e4⟩=>.inr (.inr (.inr ⟨a,m,by rw[f,S,show a1=V.str w from e4]⟩))),fJ.imp λv g s e=>.inr (.inr (.inl (true,e,))),trivial,)
  refine X _ Q _ λa1 x t e=>?_;cases e;have r:=t _ _ (Q _ _ (ay (H:=O) (a:=p) (o:=.dK [])));have s6:aY O x:=F.trans (Q.trans t);have R:∀u,aY H (upd x p u):=λu=>λb o e=>by have j:=(B.trans (C.trans L)) b o e;rw[aQ (bt j A)];exact s6 b o j
  have a3:∀{H:Hp},ItA H (w::I) (.str w) (.int 0) true:=.inr (w,rfl,nw,.inr (aw,jE,rfl,),);refine(r,w,rfl,cl,?_,);rw[W];rcases yI _ _ _ t h with⟨k,rfl,J,lk⟩ |h
  .refine .inl ⟨k,rfl,q _ _ (R _) (.inr (.inl (p,_,[false,true],rfl,ay,?_,'F',λo=>?_,)))⟩;·rw[Dk (λz=>by rw[z]at J;rw[show isName (kV (.inr w))=true from nw]at J;cases J)];show 2<=15;decide
   .rw[Dk (λz=>by rw[z]at J;rw[show isName (kV (.inr w))=true from nw]at J;cases J)];refine .cons (.inl (J,rfl,?_,lk,)) (.cons a3 .nil);cases k with
    |inl i=>exact jE
    |inr z=>exact iB
  .refine .inr ⟨h,λo en lo=>q _ _ (R _) (.inr (.inr (p,o,_,[false,true],rfl,lo,ay,en,'F',.cons (.inl ?_) (.cons a3 .nil),)))⟩;rcases h with rfl|⟨b,rfl⟩ |⟨a,rfl,ha⟩;·exact⟨rfl,rfl,qc,λz e=>nomatch e⟩
   .exact⟨rfl,rfl,xT,λz e=>nomatch e⟩
   .refine⟨rfl,rfl,qb (xs:=[.str w]) ?_,λz e=>nomatch e⟩;rw[aQ (gv ha r (λz=>nomatch z))];exact ha
 unfold m8;have L:=B.trans (C.trans L);have l:=L _ _ l;refine km (.inr ((λz=>nomatch z),λp A=>?_,));have F:=aA (o:=.dK []) A;obtain⟨N,hl,ml⟩:∃N,N∈w::I/\Mk G K (λ_=>E) [some (V.ref n),some (V.int d)] (upd O p (.dK [])) (.idx (.var 0) (.un .USub (.con (.int 1)))) (Is (.str N)):=by
  refine((w::I).getLast 'F',List.getLast_mem _,λg s a0 q=>?_,);ext;refine .inl (n,_,-1,_,rfl,rfl,SqL.of (s _ _ (F _ _ l)),?_,q _ _ (aY.refl _) rfl,);have e:(w::I).map V.str=(w::I).dropLast.map V.str++[V.str ((w::I).getLast 'F')]:=by rw[show([V.str ((w::I).getLast 'F')]:List V)=[(w::I).getLast 'F'].map V.str from rfl,<-bf,yy]
  rw[e];exact KJ _ _
 refine ml _ (aY.refl _) _ λa1 Z Q e=>?_;cases e;refine(sd (H:=Z) (n:=9) Ej (p7 Ej rfl 'E' ?_) (ix 'E') (P 'E').1 (P 'E').2) _ (aY.refl _) _ λy x t h=>?_
 .have at_:∀{c:Const},fX (cv c)=false->(∀a,cv c≠.ref a)->Known Z (cv c)->Mk G K (λ_=>E) [some (V.ref n),some (V.int d)] Z (.con c) NRd:=λT U j=>fJ.imp λv g s e=>by rw[show v=_ from e];exact(T,.inl (U,(j.same s).1,),)
  refine(at_ rfl (λ_ z=>nomatch z) jE,λg s a0 q=>?_,at_ rfl (λ_ z=>nomatch z) xT,at_ rfl (λ_ z=>nomatch z) xT,at_ rfl (λ_ z=>nomatch z) qc,at_ rfl (λ_ z=>nomatch z) iB,(p0 (jM fJ cb) (ju cb) len_one).imp (λv g s ⟨a,M,m,f,_⟩=>by rw[m];exact(rfl,.inr (a,rfl,.inl (_,f,),),)),(kz (jM fJ cb) (ju cb) len_one).imp (λv g s ⟨a,M,m,f,_⟩=>by rw[m];exact(rfl,.inr (a,rfl,.inr (_,f,),),)),λg s a0 q=>?_,trivial,);·ext;exact q _ _ (aY.refl _) ⟨rfl,.inl ((λ_ z=>nomatch z),jE,)⟩
  .ext;exact⟨('E','E','E',),q _ _ (aY.refl _) ⟨'E',.inl ((λ_ z=>nomatch z),jE,)⟩⟩
 have r:=t _ _ (Q _ _ (ay (H:=O) (a:=p) (o:=.dK [])));have R:∀u,aY H (upd x p u):=λu=>λb o e=>by have j:=L b o e;rw[aQ (bt j A)];exact(F.trans (Q.trans t)) b o j
 refine(r,[(.inr N,y)],rfl,(by show 1<=15;decide),?_,);show a0 (.ref p) (upd x p (.dK [(.inr N,y)]));refine q _ _ (R _) (.inr (.inl (p,_,[false],rfl,ay,(by show 1<=15;decide),'F',λo=>.cons (.inr (N,rfl,nm N hl,.inr (hl,?_,h.1.symm,),)) .nil,)));show Known _ y;rcases h.2 with⟨T,U⟩ |⟨a,rfl,⟨xs,h⟩ |⟨xs,h⟩⟩
 .cases y with
  |ref a=>exact absurd rfl (T a)
  |_=>exact U
 .exact oa (xs:=xs) (by rw[aQ (gv h r (λz=>nomatch z)),aQ (gv h r (λz=>nomatch z))];exact h)
 .exact qb (xs:=xs) (by rw[aQ (gv h r (λz=>nomatch z)),aQ (gv h r (λz=>nomatch z))];exact h)
def Dw{E:XS}{z:Nat}{e:CE}{a:V->Hp->Prop}{Q:VK}(h0:σ[0]?<*(some (.ref f)))(l:σ[3]?<*(some (.int z)))(d:H f<*(.lst ys))(hz:z<=ys.length)(C:ys.length<=200)(A:iM a)(m:Mk G K E σ H e a)
  (q:∀H' p x,aY H H'->H' p<*(.lst (ys.take z++[x]++ys.drop z))->a x H'->Q (.ref p) H'):wpE G K E (.bin .Add (.bin .Add (.cut (.var 0) .no (.yes (.var 3))) (.lst (.cons e .nil))) (.cut (.var 0) (.yes (.var 3)) .no)) σ H Q:=by
 simp only[wpE,wpL,wpO,tOp,tSl,Ax,qC,qA,tLst,jt,pT,h0,l,eL,exists_eq_left'];refine(z,rfl,.inl (f,ys,rfl,SqL.of d,λn g=>?_,),);rw[yb hz];refine m _ (aA g) _ λx B j v=>((by show 1<=sizeLine;decide),λr b=>?_,);have lt:(ys.take z).length<=ys.length:=by rw[aM];lia
 have D:(ys.drop z).length<=ys.length:=by rw[bA];lia
 have w:=(aA (o:=.lst (ys.take z)) g).trans (j.trans (aA (o:=.lst [x]) b));refine .inr (.inr (.inl (n,r,_,_,rfl,rfl,aA b _ _ (j _ _ ay),ay,hJ (by show _+1<=_;lia),λs h=>?_,)));have k:=w.trans (aA (o:=.lst (ys.take z++[x])) h);refine(z,rfl,.inl (f,ys,rfl,SqL.of (k _ _ d),λt c=>?_,),);rw[sE hz];have y:=k.trans (aA (o:=.lst (ys.drop z)) c);refine .inr (.inr (.inl (s,t,_,_,rfl,rfl,aA c _ _ ay,ay,hJ (by rw[aq];show _+1+_<=_;lia),λu i=>q _ u x (y.trans (aA i)) ay ?_,)));exact A _ _ _ (((aA b).trans (aA h)).trans ((aA c).trans (aA i))) v
theorem IZ:∀{ys:List V}{F:List (Nm×Nm)},(∀e∈F,dW e.1=true/\dW e.2=true)->Paired (Br H) ys F->Paired (PT H) ys (F.map λ_=>true)
 | [],[],_,.nil=>.nil
 |_::_,g::_,h,.cons ⟨p,e,hp⟩ t=>by obtain⟨b,c⟩:=h g aw;have a:∀{z},dW z=true->Ask H (.str z):=λh=>⟨iB,λz e=>by cases e;exact aR (lX h) 'E'⟩;exact .cons (.inr ⟨p,_,e,hp,.inr ⟨_,_,rfl,a b,a c,by rw[show isName (.str g.1)=true from b,show isName (.str g.2)=true from c];rfl⟩⟩) (IZ (λe d=>h e (aB _ d)) t)
def oG{b:Bool}:iM λv H=>PT H v b:=λv H a s h=>PT.same h s
def Ek{e:Nm×Nm}:iM λv H=>Br H v e:=λv H c s ⟨p,a,b⟩=>(p,a,s _ _ b,)
structure Fd(H:Hp)(f:Addr)(ys:List V)(F:List (Nm×Nm))(ws:List Nm):Prop where
 fr:Frm H f ys F
 t:Tree F ws
 ne:F≠[]
 l:F.length<=40
 nm:∀v∈ws,dW v=true
 za:("zza":Str)∉ws
 zb:("zzb":Str)∉ws
theorem Fd.same{F:List (Nm×Nm)}{ws:List Nm}(d:Fd H f ys F ws)(s:aY H H'):Fd H' f ys F ws:={d with fr:=d.fr.same s}
def Bn{F:List (Nm×Nm)}{v:Nm}:v∈ends F↔∃g∈F,v=g.1\/v=g.2:=by
 unfold F5.ends;rw[aH,aW,aW];constructor
 .rintro(⟨g,h,e⟩ |⟨g,h,e⟩);·exact(g,h,.inl e.symm,)
  .exact(g,h,.inr e.symm,)
 .rintro⟨g,h,e|e⟩;·exact .inl (g,h,e.symm,)
  .exact .inr (g,h,e.symm,)
def Fd.more{H:Hp}{f p:Addr}{ys:List V}{F:List (Nm×Nm)}{ws vs:List Nm}{z:Nat}{x:V}{e:Nm×Nm}(d:Fd H f ys F ws)(b:H p<*(.lst (ys.take z++[x]++ys.drop z)))(i:Br H x e)(nd:vs.Nodup)(j:∀v∈vs,dW v=true)(c:∀v,v∈vs↔v∈ws\/v=e.1\/v=e.2)(lv:vs.length≠F.length+2)(l2:vs.length<200):rE H (.ref p) .non:=by
 have k:=d.fr.len;refine .inr ⟨p,_,rfl,b,?_,.inr (.inr (.inr (.inr (rfl,F.take z++[e]++F.drop z,vs,mK (mK (qF z d.fr.br) (.cons i .nil)) (qG z d.fr.br),'F',j,nd,λv=>?_,?_,l2,))))⟩;·have :=d.l;rw[aq,aq,aM,bA];show _+1+_<=_;lia
 .rw[c v,<-d.t.ends d.ne v,Bn,Bn];have a:(F.take z++[e]++F.drop z).Perm (e::F):=by rw[bQ];refine List.perm_middle.trans ?_;show(e::(F.take z++F.drop z)).Perm (e::F);rw[bN]
  constructor
  .rintro⟨g,hg,h⟩;rcases aG.mp (a.mem_iff.mp hg)with rfl|hg;·exact .inr h
   .exact .inl (g,hg,h,)
  .rintro(⟨g,hg,h⟩ |h);·exact(g,a.mem_iff.mpr (aB _ hg),h,)
   .exact(e,a.mem_iff.mpr aw,h,)
 .rw[aq,aq,aM,bA];show _≠_+1+_+1;lia
def spNf:Sp:=λvs H Q _=>∃(f n:Addr)(d:Int)(ys:List V)(F:List (Nm×Nm))(ws us:List Nm),vs=[.ref f,.ref n,.int d]/\Fd H f ys F ws/\H n<*(.lst (us.map V.str))/\(∀v∈us,v∈ws)/\∀H' x,aY H H'->rE H' x .non->Q x H'
theorem wp_nf:Sat G K spNf ou nU:=by
 rintro vs H Q E ⟨f,n,d,I,a0,N,us,rfl,D,hn,hu,q⟩;have b8:=D.fr.len;have c0:=D.l;have h0:0<a0.length:=da.mpr D.ne;unfold ou;change wpB G K _ _ _ [some (.ref f),some (.ref n),some (.int d),none,none,none,none,none,none,none] H;ext;refine(('E','E',),.inl (f,_,rfl,.inl (SqL.of D.fr.hf),DX.mpr (nV.mpr ('D',?_,)),),);obtain⟨z,hz⟩:=dY (cy (d/8) (show(I.length:Int)+1≠0 by lia));have b6:=cT (d/8) (show(0:Int)<(I.length:Int)+1 by lia);rw[hz]at b6⊢;have a4:z<=I.length:=by lia
 unfold mC;ext;refine(('E','E',),.inl (f,_,rfl,.inl (SqL.of D.fr.hf),nV.mpr ('D',?_,),),);obtain⟨a9,hj⟩:=dY (cy (d/97) (show(I.length:Int)≠0 by lia));have b3:=cT (d/97) (show(0:Int)<(I.length:Int) by lia);rw[hj]at b3⊢;have a8:a9<I.length:=by lia
 obtain⟨a,b,t,hF,ht,Z⟩:=D.fr.at_ (aj a8);obtain⟨U,W⟩:=(show a∈N/\b∈N from D.t.sub _ (bS hF));refine .inl (f,I,a9,_,rfl,rfl,SqL.of D.fr.hf,hZ (aj a8),?_,);rw[ht];refine(t,_,rfl,SqT.of Z,rfl,_,_,rfl,_,_,rfl,rfl,?_,);unfold mB;ext;refine('E',?_,);have hw:∀{H:Hp}{k i j:Option V},Mk G K (λ_=>E) [some (V.ref f),some (.ref n),some (.int d),some (.int z),some (.str a),some (.str b),some (.int (d%8)),k,i,j] H (.var 6) (Is (.int (d%8))):=vt rfl;have B:∀{H:Hp}{k i j:Option V},Mk G K (λ_=>E) [some (V.ref f),some (.ref n),some (.int d),some (.int z),some (.str a),some (.str b),some (.int (d%8)),k,i,j] H (.var 4) (Is (.str a)):=vt rfl;have vb:∀{H:Hp}{k i j:Option V},Mk G K (λ_=>E) [some (V.ref f),some (.ref n),some (.int d),some (.int z),some (.str a),some (.str b),some (.int (d%8)),k,i,j] H (.var 5) (Is (.str b)):=vt rfl;have ix:∀{H:Hp}{k i j:Option V}{c O:Int},0<c->c<10000->0<O->Mk G K (λ_=>E) [some (V.ref f),some (.ref n),some (.int d),some (.int z),some (.str a),some (.str b),some (.int (d%8)),k,i,j] H (.bin .Mod (.bin .FloorDiv (.var 2) (.con (.int c))) (.con (.int O))) (Is (.int (d/c%O))):=λy A W=>JN rfl ('D','D',) W;have i0:∀{c O:Int},0<O->0<=d/c%O/\d/c%O<O:=λW=>(cy _ 'D',cT _ W,);have b7:∀{o:Hp}{x:V}{p:Addr}{e:Nm×Nm},aY H o->o p<*(.lst (I.take z++[x]++I.drop z))->Br o x e->e.1∈N->e.2∈N->Q (.ref p) o:=λw y A P J=>
  q _ _ w ((D.same w).more y A D.t.nd D.nm (λv=>⟨.inl,λh=>by rcases h with h|rfl|rfl<;>assumption⟩) (by have :=D.t.len;lia) (by have :=D.t.len;lia))
 have two:∀{H:Hp}{k i j:Option V}{l g:CE}{u v:Nm},Mk G K (λ_=>E) [some (V.ref f),some (.ref n),some (.int d),some (.int z),some (.str a),some (.str b),some (.int (d%8)),k,i,j] H l (Is (.str u))->Mk G K (λ_=>E) [some (V.ref f),some (.ref n),some (.int d),some (.int z),some (.str a),some (.str b),some (.int (d%8)),k,i,j] H g (Is (.str v))->
   Mk G K (λ_=>E) [some (V.ref f),some (.ref n),some (.int d),some (.int z),some (.str a),some (.str b),some (.int (d%8)),k,i,j] H (.tup (.cons l (.cons g .nil))) (λx H=>Br H x (u,v)):=λy A=>(kz (qL y cb A cb) (kl cb cb) uD).imp λx r s ⟨p,vs,l,g,x1,x2,C,e4,e5⟩=>⟨p,l,by rw[g,C,show x1=_ from e4,show x2=_ from e5]⟩
 have a2:∀{o:Hp}{k i j:Option V}{l g:CE}{u v:Nm},aY H o->u∈N->v∈N->Mk G K (λ_=>E) [some (V.ref f),some (.ref n),some (.int d),some (.int z),some (.str a),some (.str b),some (.int (d%8)),k,i,j] o l (Is (.str u))->Mk G K (λ_=>E) [some (V.ref f),some (.ref n),some (.int d),some (.int z),some (.str a),some (.str b),some (.int (d%8)),k,i,j] o g (Is (.str v))->
   wpE G K (λ_=>E) (.bin .Add (.bin .Add (.cut (.var 0) .no (.yes (.var 3))) (.lst (.cons (.tup (.cons l (.cons g .nil))) .nil))) (.cut (.var 0) (.yes (.var 3)) .no)) [some (V.ref f),some (.ref n),some (.int d),some (.int z),some (.str a),some (.str b),some (.int (d%8)),k,i,j] o Q:=λw hu hv y A=>
  Dw rfl rfl (w _ _ D.fr.hf) a4 'D' Ek (two y A) λH2 p x T P J=>b7 (w.trans T) P J hu hv
 unfold mz;refine tE hw (λ_ o w D' L S=>km ?_) (λ_ o w=>?_);·rw[L];refine(sd (n:=9) yJ (p7 yJ rfl 'E' ?_) (ix 'E' 'E' 'E') (i0 'E').1 (i0 'E').2) o (aY.refl _) _ λv H2 T h=>q _ _ (w.trans T) (.inl h);refine(Bi (qc,rfl,),λr s Q q=>?_,λr s Q q=>.inl ⟨rfl,λp Z=>q _ _ (aA Z) ⟨EY ay,by rw[ty_dK ay];rfl⟩⟩,Bi (iB,rfl,),Bi (jE,rfl,),Bi (xT,rfl,),(kz qM qD uE).imp (λv r s ⟨p,vs,l,g,C⟩=>by rw[l];exact⟨qb g,by rw[Cw g];rfl⟩),λr s Q q=>.inr ⟨(λz=>nomatch z),λp Z=>⟨ay,[(.inr "a",.str "b")],rfl,(by show 1<=15;decide),q _ _ (λc c1 e=>by rw[aQ (bt e Z),aQ (bt e Z)];exact e) ⟨EY ay,by rw[ty_dK ay];rfl⟩⟩⟩,Bi (iB,rfl,),trivial,);ext;exact⟨f,I,rfl,.inl ⟨SqL.of ((w.trans s) _ _ D.fr.hf),λb9 hl=>q _ _ (aA hl) ⟨qb ay,by rw[Cw ay];rfl⟩⟩⟩
 unfold mw;refine tE hw (λ_ H2 T D' L S=>?_) (λ_ H2 T=>?_)
 .have aa:∀{H:Hp}{v:Nm},v∈N->Ask H (.str v):=λh=>⟨iB,λz e=>by cases e;exact aR (lX (D.nm _ h)) 'E'⟩;have pa:∀{H:Hp}{k i j:Option V}{c:Const},Known H (cv c)/\iI (tyName H (cv c)) "tuple"=false->Mk G K (λ_=>E) [some (V.ref f),some (.ref n),some (.int d),some (.int z),some (.str a),some (.str b),some (.int (d%8)),k,i,j] H (.con c) (λv H=>PT H v false):=λh=>fJ.imp λv r s e=>by rw[show v=_ from e];exact .inl ⟨rfl,(h.1.same s).1,by rw[(h.1.same s).2];exact h.2⟩
  have a3:∀{H:Hp}{k i j:Option V}{l g:CE}{u v:V},Mk G K (λ_=>E) [some (V.ref f),some (.ref n),some (.int d),some (.int z),some (.str a),some (.str b),some (.int (d%8)),k,i,j] H l (Is u)->Mk G K (λ_=>E) [some (V.ref f),some (.ref n),some (.int d),some (.int z),some (.str a),some (.str b),some (.int (d%8)),k,i,j] H g (Is v)->(isName u&&isName v)=false->(∀{H:Hp},Ask H u/\Ask H v)->Mk G K (λ_=>E) [some (V.ref f),some (.ref n),some (.int d),some (.int z),some (.str a),some (.str b),some (.int (d%8)),k,i,j] H (.tup (.cons l (.cons g .nil))) (λx H=>PT H x false):=λy A P J=>(kz (qL y cb A cb) (kl cb cb) uD).imp λx r s ⟨p,vs,l,g,x1,x2,C,e4,e5⟩=>.inr ⟨p,vs,l,g,.inr (_,_,by rw[C,show x1=_ from e4,show x2=_ from e5],J.1,J.2,P.symm,)⟩;have ac:∀{H:Hp}{a1:Int},Ask H (.int a1):=⟨jE,λz e=>nomatch e⟩;unfold wpB R.wpS yE wM wpG l6;refine(p7 (n:=10) (Rr:=λv H=>PT H v false) oG rfl 'E' ?_) H2 (aY.refl _) _ λv H3 M hv=>?_
  .refine(pa (qc,rfl,),pa (jE,rfl,),(p0 (qL B cb vb cb) (kl cb cb) uD).imp (λv r s ⟨p,vs,l,g,_⟩=>by rw[l];exact .inl ⟨rfl,oa g,by rw[yC g];rfl⟩),(kz (jM B cb) (ju cb) len_one).imp (λv r s ⟨p,vs,l,g,x,C,_⟩=>.inr ⟨p,vs,l,g,.inl (by rw[C];exact(by decide:1≠2),rfl,)⟩),
    (kz (qN B cb (qL vb cb B cb)) (λv H r s ⟨x,a5,e,y,A⟩=>(x,a5,e,y,kl cb cb _ _ _ s A,)) (λvs r ⟨x,a5,e,_,u,v,g,_⟩=>by rw[e,g];exact(by decide:3<=1000))).imp (λv r s ⟨p,vs,l,g,x,a5,e,_,u,v,C,_⟩=>.inr ⟨p,vs,l,g,.inl (by rw[e,C];exact(by decide:3≠2),rfl,)⟩),
    a3 B fJ (eU _) (aa U,ac,),a3 fJ vb rfl (⟨iB,λz e=>by cases e;decide⟩,aa W,),a3 B fJ (by rw[show isName (cv (.str "Ab"))=false by decide+kernel];exact eU _) ⟨aa U,iB,λz e=>by cases e;decide+kernel⟩,pa (iB,rfl,),(kz qM qD uE).imp (λv r s ⟨p,vs,l,g,C⟩=>.inr ⟨p,vs,l,g,.inl (by rw[C];exact(by decide:0≠2),rfl,)⟩),trivial,)
  simp only[i9,ja];refine km ?_;rw[L];have a6:=w.trans (T.trans M);refine Dw rfl rfl (a6 _ _ D.fr.hf) a4 'D' oG (sd (n:=11) (Rr:=λv H=>PT H v false) oG (mk_catN (m:=10) (n:=1) oG (mk_varR (FN oG) rfl hv) (p7 oG rfl 'E' (a3 B fJ (eU _) ⟨aa U,qc,λz e=>nomatch e⟩,trivial,)) 'E') (ix 'E' 'E' 'E') (i0 'E').1 (i0 'E').2) λH4 p x X P J=>q _ _ (a6.trans X) ?_;have D4:=D.same (a6.trans X);have b1:∀e∈a0,dW e.1=true/\dW e.2=true:=λe Y=>(D.nm _ (D.t.sub e Y).1,D.nm _ (D.t.sub e Y).2,);refine .inr ⟨p,_,rfl,P,?_,.inr (.inr (.inr (.inl ⟨'F',rfl,(a0.take z).map (λ_=>true)++[false]++(a0.drop z).map (λ_=>true),mK (mK (IZ (λe Y=>b1 e (eR Y)) (qF z D4.fr.br)) (.cons J .nil)) (IZ (λe Y=>b1 e (kc Y)) (qG z D4.fr.br)),'F'⟩)))⟩;rw[aq,aq,aM,bA];show _+1+_<=_;lia
 unfold mq;refine tE hw (λ_ H3 M D' L S=>km ?_) (λ_ H3 M=>?_);·rw[L];exact a2 (w.trans (T.trans M)) U W B vb
 have M:=w.trans (T.trans M);unfold mo;refine tE hw (λ_ H4 X D' L S=>km ?_) (λ_ H4 X=>?_);·rw[L];exact a2 (M.trans X) W U vb B
 unfold mj;refine tE hw (λ_ H5 F D' L S=>km ?_) (λ_ H5 F=>?_);·rw[L];exact a2 ((M.trans X).trans F) U U B B
 have F:=(M.trans X).trans F;have b0:∀{H6:Hp},aY H H6->∀{i j:Option V},wpB G K (λ_=>E) iY {nx:=λ_ r=>Q .non r,rt:=Q} [some (V.ref f),some (.ref n),some (.int d),some (.int z),some (.str a),some (.str b),some (.int (d%8)),none,i,j] H6:=λs6=>by
  unfold iY;refine km (Dw rfl rfl (s6 _ _ D.fr.hf) a4 'D' Ek (two (u:="zza") (v:="zzb") fJ fJ) λH7 p x s7 P J=>q _ _ (s6.trans s7) ((D.same (s6.trans s7)).more (vs:=N++[("zza":Str),"zzb"]) P J ?_ ?_ ?_ ?_ ?_))
  .rw[d8];refine(D.t.nd,by decide+kernel,λx S c2 hy e=>?_,);subst e;rcases aG.mp hy with rfl|hy;·exact D.za S
   .rw[aC.mp hy]at S;exact D.zb S
  .intro v hv;rcases aH.mp hv with hv|hv;·exact D.nm v hv
   .rcases aG.mp hv with rfl|hv;·decide+kernel
    .rw[aC.mp hv];decide+kernel
  .intro v;rw[aH,aG,aC]
  .have :=D.t.len;rw[aq];show _+2≠_;lia
  .have :=D.t.len;rw[aq];show _+2<_;lia
 unfold mh;unfold wpB R.wpS yE;simp only[wpT,HN,qB,tAnd,tOp,wpE,wpL,tCB,jt,pT,tC,qA,cv,eZ,fc,eL,exists_eq_left'];refine mY.mpr (_,rfl,?_,);by_cases c5:d%8=5
 .rw[if_pos (decide_eq_true c5)];refine .inl (n,_,rfl,.inl (SqL.of (F _ _ hn)),vH.mpr (_,rfl,?_,),);by_cases c6:(2:Int)<((us.map V.str).length:Nat)
  .rw[if_pos (decide_eq_true c6)];have mf:∀{o:Hp}{k i j:Option V}{c:Int},0<c->c<10000->aY H o->Mk G K (λ_=>E) [some (V.ref f),some (.ref n),some (.int d),some (.int z),some (.str a),some (.str b),some (.int (d%8)),k,i,j] o (.idx (.var 1) (.bin .Mod (.bin .FloorDiv (.var 2) (.con (.int c))) (.bfn .len (.cons (.var 1) .nil)))) (λv _=>∃u,u∈N/\v=.str u):=λ{o k i j c} y A w r s' Q q=>by
    ext;refine(('D','D',),.inl (n,_,rfl,.inl (SqL.of ((w.trans s') _ _ hn)),nV.mpr ('D',?_,),),);obtain⟨a1,hi⟩:=dY (cy (d/c) (show((us.map V.str).length:Int)≠0 by lia));have b2:=cT (d/c) (show(0:Int)<((us.map V.str).length:Int) by lia);rw[hi]at b2⊢;have a7:a1<(us.map V.str).length:=by lia
    refine .inl (n,_,a1,_,rfl,rfl,SqL.of ((w.trans s') _ _ hn),hZ (aj a7),q _ _ (aY.refl _) ?_,);obtain⟨u,y,A⟩:=aW.mp (bF a7);exact(u,hu u y,A.symm,)
   unfold wpB R.wpS yE wM wpG l6;refine mf 'E' 'E' F _ (aY.refl _) _ λv H6 s6 ⟨u,b4,e⟩=>?_;subst e;simp only[i9,ja];unfold wpB R.wpS yE wM wpG l6;refine mf 'E' 'E' (F.trans s6) _ (aY.refl _) _ λv H7 s7 ⟨u',b5,e⟩=>?_;subst e;simp only[i9,ja];exact km (a2 ((F.trans s6).trans s7) b4 b5 (vt rfl) (vt rfl))
  .rw[if_neg (λz=>c6 (W0 z))];exact b0 F
 .rw[if_neg (λz=>c5 (W0 z))];exact b0 F
end K52
namespace K52
open R
abbrev A2:List Str:=["_law_script","_law_k"]
abbrev tj:List Str:=["_law_script","_law_k"]
abbrev tS:CB:=
  (.cons (.ret (.bin .Mod (.bin .Mult (.bin .Add (.idx (.var 0) (.var 1)) (.con (.int 1))) (.bin .Add (.con (.int 48271)) (.bin .Mult (.bin .Mult (.con (.int 7919)) (.var 1)) (.var 1)))) (.con (.int 2147483629))))
  .nil)
abbrev A1:List Str:=["_law_script","_law_form","_law_most"]
abbrev ti:List Str:=["_law_script","_law_form","_law_most","_law_frame_here","_law_k","_law_number","_law_branch","_law_at"]
abbrev pK:CB:=
  (.cons (.ret (.var 3))
  .nil)
abbrev ng:CB:=
  (.cons (.asg (.name 3) (.bin .Add (.bin .Add (.cut (.var 3) .no (.yes (.var 7))) (.lst (.cons (.var 6) .nil))) (.cut (.var 3) (.yes (.var 7)) .no)))
  .nil)
abbrev jH:CB:=
  (.cons (.asg (.name 7) (.bin .Mod (.bin .FloorDiv (.var 5) (.con (.int 128))) (.bin .Add (.bfn .len (.cons (.var 3) .nil)) (.con (.int 1)))))
  ng)
abbrev nh:CB:=
  (.cons (.iff (.cmp .Eq (.bin .Mod (.bin .FloorDiv (.var 5) (.con (.int 64))) (.con (.int 2))) (.con (.int 1)))
  (.cons (.asg (.name 6) (.tup (.cons (.idx (.var 6) (.con (.int 1))) (.cons (.idx (.var 6) (.con (.int 0))) .nil))))
  .nil)
  .nil)
  jH)
abbrev ni:CB:=
  (.cons (.asg (.name 6) (.tup (.cons (.call "_law_name" (.cons (.var 4) (.cons (.var 1) .nil))) (.cons (.call "_law_name" (.cons (.call "_law_above" (.cons (.var 5) (.cons (.var 4) (.cons (.var 1) .nil)))) (.cons (.var 1) .nil))) .nil))))
  nh)
abbrev pL:CB:=
  (.cons (.forr (.name 4) (.range2 (.con (.int 1)) (.bfn .min (.cons (.bfn .len (.cons (.var 0) .nil)) (.cons (.var 2) .nil))))
  (.cons (.asg (.name 5) (.call "_law_drawn" (.cons (.var 0) (.cons (.var 4) .nil))))
  ni))
  pK)
abbrev tR:CB:=
  (.cons (.asg (.name 3) (.lst .nil))
  pL)
end K52
namespace K52
open L2 R Cp Kc Lt F5
def wp_dr:Sat G K (spDr K) tS tj:=by rintro g H Q E ⟨s,f,k,rfl,b,a,l1,q⟩;unfold tS;change wpB G K _ _ _ [some (.ref s),some (.int k)] H;ext;refine .inl (s,_,_,_,rfl,rfl,b,at_nat a,?_,);ext;have c:(k:Int)*k<=100*100:=Int.mul_le_mul 'D' 'D' 'D' 'E';have d:0<=(k:Int)*k:=Int.mul_nonneg 'D' 'D';have e:7919*(k:Int)*k=7919*(k*k):=Int.mul_assoc ..;exact(cmulL 'E' 'E',KA 'D' 'D',KA 'D' 'D','E',q _,)
def fr4{E:XS}{D:Ends}{s p:Addr}{c b:Int}{F:List (Nm×Nm)}{e:Nm×Nm}{u i:Option V}(z:H1 p<*(.tup [.str e.1,.str e.2]))(q:aY H H1)(a:Frm H1 f ys F)(l:F.length<=200)
  (x:∀H2 g O j i,aY H H2->H g=none->Frm H2 g O j->j.Perm (e::F)->D.nx [some (.ref s),some (.int c),some (.int m),some (.ref g),u,some (.int b),some (.ref p),i] H2):
  wpB G K E jH D [some (.ref s),some (.int c),some (.int m),some (.ref f),u,some (.int b),some (.ref p),i] H1:=by
 have P:=a.len;unfold jH;ext;refine(('E','E',),.inl (f,_,rfl,.inl (SqL.of a.hf),?_,),);ext;refine('D',?_,);have v:=cy (b/128) (show(ys.length:Int)+1≠0 by lia);have w:=cT (b/128) (show(0:Int)<(ys.length:Int)+1 by lia);obtain⟨m,y⟩:=dY v;rw[y]at w⊢;unfold ng;ext;refine .inl (f,ys,rfl,SqL.of a.hf,λC A=>((by show 1<=sizeLine;decide),λI h=>?_,),);rw[yb 'D']at h⊢;have N:=(aA (o:=.lst (ys.take m)) A).trans (aA (o:=.lst [.ref p]) h);have lt:(ys.take m).length<=ys.length:=by rw[aM];lia
 have Q:(ys.drop m).length<=ys.length:=by rw[bA];lia
 refine .inr (.inr (.inl (C,I,_,_,rfl,rfl,aA h _ _ ay,ay,hJ (by show _+1<=_;lia),λJ B=>?_,)));have r:=N.trans (aA (o:=.lst (ys.take m++[.ref p])) B);refine .inl (f,ys,rfl,SqL.of (r _ _ a.hf),λL k=>?_,);rw[sE 'D'];have t:=r.trans (aA (o:=.lst (ys.drop m)) k);refine .inr (.inr (.inl (J,L,_,_,rfl,rfl,aA k _ _ ay,ay,hJ (by rw[aq];show _+1+_<=_;lia),λM n=>?_,)));have d:=t.trans (aA (o:=.lst (ys.take m++[.ref p]++ys.drop m)) n);refine x _ M _ (F.take m++[e]++F.drop m) _ (q.trans d) ((q.trans t).free n) (ay,?_,) ?_;·exact mK (mK (qF m (a.same d).br) (.cons (p,rfl,d _ _ z,) .nil)) (qG m (a.same d).br)
 .rw[bQ];refine List.perm_middle.trans ?_;show(e::(F.take m++F.drop m)).Perm (e::F);rw[bN]
def wp_fr(g1:G.fn "_law_drawn" 2<*(spDr K,[]))(J:G.fn "_law_name" 2<*(HY,[]))(g3:G.fn "_law_above" 3<*(spAb,[])):Sat G K (spFr K) tR ti:=by
 rintro vs H a5 a4 ⟨s,d,c,m,rfl,hm,N,a3⟩;unfold tR;change wpB G K _ _ _ [some (.ref s),some (.int c),some (.int m),none,none,none,none,none] H;ext;refine(a0 _,λZ w=>?_,);unfold pL;ext;refine oh ?_;ext;have X:(if(m:Int)<(d.map V.int).length then(m:Int)else((d.map V.int).length:Int))=((min d.length m:Nat):Int):=by rw[ah];split <;>lia
 refine .inl (s,_,rfl,.inl (aY.seq (aA w) N),_,_,rfl,?_,);rw[X];refine(1,_,rfl,'D',?_,);have Y:(((min d.length m:Nat):Int)-1).toNat=min d.length m-1:=by lia
 rw[Y];refine kT lV (λi C D=>aY H D/\∃f r F y z A g,C=[some (.ref s),some (.int c),some (.int m),some (.ref f),y,z,A,g]/\H f=none/\Frm D f r F/\Tree F (nms c (i+1)))
  ⟨aA w,Z,[],[],_,_,_,_,rfl,w,(ay,.nil,),(by simp[nms],(λe v=>nomatch v),rfl,λa6 _ a ha b hb=>?_,)⟩ (λ_ _ _ _ _=>trivial) ?_ ?_
 .have h1:a=fnm c ((0:Nat):Int):=aC.mp ha;have h2:b=fnm c ((0:Nat):Int):=aC.mp hb;rw[h1,h2];exact id
 .rintro i a8 C E H2 T hi ⟨q,f,r,F,y,z,A,g,rfl,P,u,t⟩ rfl x hD _;have W:(1:Int)+(i:Int)=((i+1:Nat):Int):=by lia
  rw[W];ext;refine(_,_,g1,s,d,i+1,rfl,(q.trans x).seq N,'D','D',λU=>?_,);unfold ni;ext;refine(_,_,J,c,_,rfl,λH3 Q=>(_,_,J,_,_,g3,_,c,i+1,rfl,'D','D',λj hj=>(c,j,rfl,λH4 R=>((by show 2<=sizeLine;decide),λp M=>?_,),),),);have S:=(q.trans x).trans ((Q.trans R).trans (aA (o:=.tup [.str (fnm c ((i+1:Nat):Int)),.str (fnm c j)]) M));have I:=u.same (x.trans ((Q.trans R).trans (aA (o:=.tup [.str (fnm c ((i+1:Nat):Int)),.str (fnm c j)]) M)));have new:=nms_new (c:=c) (n:=i+1) 'D';have a2:=nms_mem (c:=c) hj;have L:∀{e:Nm×Nm}{p':Addr},(e=(fnm c ((i+1:Nat):Int),fnm c j)\/e=(fnm c j,fnm c ((i+1:Nat):Int)))->∀l h B k g,aY H l->H h=none->Frm l h B k->k.Perm (e::F)->T.nx [some (.ref s),some (.int c),some (.int m),some (.ref h),some (.int ((i+1:Nat):Int)),some (.int U),some (.ref p'),g] l:=λv l h B k g s6 n6 a1 pm=>hD _ _ (s6,h,B,k,_,_,_,_,rfl,n6,a1,JH c (i+1)▸t.put new a2 v pm,);have hl:=t.len;have a7:(nms c (i+1)).length=i+1:=by unfold nms;rw[ah,dH]
  unfold nh;ext;refine(('E','E',),'E',?_,);split;·refine .inr (.inl (p,_,1,_,rfl,rfl,SqT.of ay,rfl,.inr (.inl (p,_,0,_,rfl,rfl,SqT.of ay,rfl,(by show 2<=sizeLine;decide),λp2 O=>?_,)),));exact fr4 (e:=(fnm c j,fnm c ((i+1:Nat):Int))) ay (S.trans (aA O)) (I.same (aA O)) 'D' (L (.inr rfl))
  .exact fr4 (e:=(fnm c ((i+1:Nat):Int),fnm c j)) ay S I 'D' (L (.inl rfl))
 .rintro C E ⟨q,f,r,F,y,z,A,g,rfl,P,u,t⟩;rw[show min d.length m-1+1=max 1 (min d.length m) by lia]at t;unfold pK;ext;exact a3 E f r F q P u t
end K52
namespace K52
open R
abbrev p_law:List Str:=["_law_script"]
abbrev JJ:List Str:=["_law_script","_law_form","_law_names_here","_law_frame_here","_law_k","_law_number","_law_bad","_law_marked","_law_alone_here","_law_long","_law_way"]
abbrev zG:CB:=
  (.cons (.ret (.and (.cmp .Eq (.call "frame_list" (.cons (.bfn .list (.cons (.var 3) .nil)) .nil)) (.bfn .sorta (.cons (.var 2) .nil))) (.x2 .eqF (.call "fewest" (.cons (.lst .nil) (.cons (.dic (.cons (.con (.str "a")) (.con (.int 1)) .nil)) (.cons (.con (.str "a")) .nil)))) (.tup (.cons (.dic (.cons (.con (.str "a")) (.con (.int 1)) .nil)) (.cons (.lst .nil) .nil))))))
  .nil)
abbrev zH:CB:=
  (.cons (.forr (.name 10) (.range1 (.con (.int 2)))
  (.cons (.iff (.not (.call "_law_refused" (.cons (.var 10) (.cons (.lzip (.var 9) (.cut (.var 9) (.yes (.con (.int 1))) .no)) (.cons (.dic .nil) (.cons (.con .none) .nil))))))
  (.cons (.ret (.con (.bool false)))
  .nil)
  .nil)
  .nil))
  zG)
abbrev zI:CB:=
  (.cons (.asgc 9 (.comp ["_law_k"] [1] (.name 0) (.range1 (.con (.int 82))) .no (.call "_law_name" (.cons (.var 0) (.cons (.var 1) .nil)))))
  zH)
abbrev sG:CB:=
  (.cons (.iff (.not (.call "_law_refused" (.cons (.con (.int 1)) (.cons (.lst .nil) (.cons (.call "_law_no_read" (.cons (.lst (.cons (.con (.str "a")) .nil)) (.cons (.bin .FloorDiv (.var 5) (.con (.int 11))) .nil))) (.cons (.con (.str "a")) .nil))))))
  (.cons (.ret (.con (.bool false)))
  .nil)
  .nil)
  .nil)
abbrev sH:CB:=
  (.cons (.iff (.or (.not (.call "_law_refused" (.cons (.con (.int 0)) (.cons (.lst .nil) (.cons (.dic .nil) (.cons (.var 8) .nil)))))) (.not (.call "_law_refused" (.cons (.con (.int 1)) (.cons (.lst .nil) (.cons (.dic .nil) (.cons (.var 8) .nil)))))))
  (.cons (.ret (.con (.bool false)))
  .nil)
  .nil)
  sG)
abbrev sI:CB:=
  (.cons (.asg (.name 8) (.idx (.lst (.cons (.con .none) (.cons (.con (.str "")) (.cons (.con (.str "Ab")) (.cons (.con (.str "abcdefghi")) (.cons (.con (.int 5)) (.cons (.con (.bool true)) (.cons (.lst (.cons (.con (.str "a")) .nil)) (.cons (.tup (.cons (.con (.str "a")) .nil)) (.cons (.con (.str "a1")) .nil)))))))))) (.bin .Mod (.bin .FloorDiv (.var 5) (.con (.int 7))) (.con (.int 9)))))
  sH)
abbrev sJ:CB:=
  (.cons (.iff (.or (.not (.call "_law_refused" (.cons (.con (.int 1)) (.cons (.var 3) (.cons (.var 7) (.cons (.con .none) .nil)))))) (.not (.call "_law_refused" (.cons (.bin .Mod (.var 5) (.con (.int 2))) (.cons (.var 3) (.cons (.dic .nil) (.cons (.idx (.var 2) (.con (.int 0))) .nil)))))))
  (.cons (.ret (.con (.bool false)))
  .nil)
  .nil)
  sI)
abbrev sL:CB:=
  (.cons (.iff (.or (.not (.call "_law_refused" (.cons (.con (.int 0)) (.cons (.var 6) (.cons (.dic .nil) (.cons (.con .none) .nil)))))) (.not (.call "_law_refused" (.cons (.con (.int 1)) (.cons (.var 6) (.cons (.idx (.lst (.cons (.dic .nil) (.cons (.var 7) .nil))) (.bin .Mod (.bin .FloorDiv (.var 5) (.con (.int 5))) (.con (.int 2)))) (.cons (.con .none) .nil)))))))
  (.cons (.ret (.con (.bool false)))
  .nil)
  .nil)
  sJ)
abbrev yg:CB:=
  (.cons (.asg (.name 7) (.call "_law_no_read" (.cons (.var 2) (.cons (.bin .FloorDiv (.var 5) (.con (.int 11))) .nil))))
  sL)
abbrev yh:CB:=
  (.cons (.asg (.name 6) (.call "_law_no_frame" (.cons (.var 3) (.cons (.var 2) (.cons (.var 5) .nil)))))
  yg)
abbrev zJ:CB:=
  (.cons (.forr (.name 4) (.range1 (.bfn .min (.cons (.bfn .len (.cons (.var 0) .nil)) (.cons (.con (.int 20)) .nil))))
  (.cons (.asg (.name 5) (.bin .Mod (.bin .Mult (.call "_law_drawn" (.cons (.var 0) (.cons (.var 4) .nil))) (.con (.int 48271))) (.con (.int 2147483647))))
  yh))
  zI)
abbrev yi:CB:=
  (.cons (.asg (.name 3) (.lst (.cons (.tup (.cons (.con (.str "b")) (.cons (.con (.str "a")) .nil))) .nil)))
  .nil)
abbrev zK:CB:=
  (.cons (.iff (.cmp .Eq (.var 3) (.lst .nil))
  (.cons (.asg (.name 2) (.lst (.cons (.con (.str "a")) (.cons (.con (.str "b")) .nil))))
  yi)
  .nil)
  zJ)
abbrev Fk:CB:=
  (.cons (.asg (.name 3) (.call "_law_frame" (.cons (.var 0) (.cons (.var 1) (.cons (.con (.int 41)) .nil)))))
  zK)
abbrev Fl:CB:=
  (.cons (.asg (.name 2) (.call "_law_names" (.cons (.var 0) (.cons (.var 1) (.cons (.con (.int 41)) .nil)))))
  Fk)
abbrev KE:CB:=
  (.cons (.asg (.name 1) (.call "_law_cell_at" (.cons (.var 0) (.cons (.con (.int 0)) .nil))))
  Fl)
end K52
namespace K52
open L2 R Cp Kc Lt F5
def no_z{c:Int}{k:Nat}(i:k<41){z:Str}(hz:z="zza"\/z="zzb"):fnm c k≠z:=λe=>by
 have d:(fnm c k).cps.toList=z.cps.toList:=by rw[e]
 have f:fsg c k=z.cps.toList:=by rw[<-d];unfold fnm mkS;simp
 have g:(c%4).toNat<4:=by lia
 have h:(c/4%4).toNat<4:=by lia
 have j:∀a<4,∀b<4,∀k<41,∀z∈[(cz "zza").cps.toList,(cz "zzb").cps.toList],[113,113,113].take a++[vz (k:Nat)]++[vz ((k:Nat)/26)]++[122,122,122].take b≠z:=by decide+kernel
 refine j _ g _ h k i z.cps.toList ?_ f;rcases hz with rfl|rfl;·exact aw
 .exact aB _ aw
def Dq{z:Str}(h:dW z=true):fj (.str z)=true:=by show z.cps.all (λx=>decide (x<0x110000))=true;unfold dW at h;have a:=(aN _ _▸h).2;rw[cY]at a;rw[<-Array.all_toList,cY];intro x b;have :=W0 (a x b);exact decide_eq_true 'D'
def few_one{b:List (Nm×Int)}(w:Few [] ["a"] [("a",1)] b n):b=([("a",1)]:List (Nm×Int))/\n=0:=by
 have a:(("a":Str),(1:Int))∈b:=w.ext _ aw;refine(?_,w.ch.symm,)
 match b,w.nd,w.ks,a with
 | [],_,_,a=>exact nomatch a
 | [q],_,_,a=>rw[aC.mp a]
 |q::r::l,nd,ks,_=>have c:q.1="a":=aC.mp ((ks q.1).mp aw);have d:r.1="a":=aC.mp ((ks r.1).mp (aB _ aw));rw[bw,eA]at nd;exact absurd (by rw[c,<-d];exact aw) nd.1
structure G52(G:Gam)(K:ai)(CF:Addr):Prop where
 g0:G.fn "_law_cell_at" 2<*(CQ K,[])
 g1:G.fn "_law_names" 3<*(spNs K,[])
 g2:G.fn "_law_frame" 3<*(spFr K,[])
 g3:G.fn "_law_drawn" 2<*(spDr K,[])
 g4:G.fn "_law_name" 2<*(HY,[])
 g5:G.fn "_law_no_frame" 3<*(spNf,[])
 g6:G.fn "_law_no_read" 2<*(spNr,[])
 g7:G.fn "_law_refused" 4<*(spRf,[])
 g8:G.fn "frame_list" 1<*(orS AJ (uY CF),[.non])
 g9:G.fn "fewest" 3<*(orS spFw (Eo CF),[])
structure Dn(K:ai)(H:Hp)(s n f:Addr)(ns:List Int)(ys:List V)(F:List (Nm×Nm))(w:Nm)(ws:List Nm):Prop where
 hs:SqL K H s (ns.map V.int)
 d:Fd H f ys F (w::ws)
 hn:H n<*(.lst ((w::ws).map V.str))
 cl:fj (.str w)=true
theorem Dn.same{s n:Addr}{F:List (Nm×Nm)}{w:Nm}{ws:List Nm}(d:Dn K H s n f ns ys F w ws)(e:aY H H'):Dn K H' s n f ns ys F w ws:={d with hs:=e.seq d.hs,d:=d.d.same e,hn:=e _ _ d.hn}
section
variable {G:Gam}{CF:Addr}{E:XS}{D:Ends}{Q:VK}{s n f:Addr}{F:List (Nm×Nm)}{w:Nm}{ws:List Nm}{c:Int}{y4 y5 y6 y7 y8 y9 y10:Option V}
def Dn.good(d:Dn K H s n f ns ys F w ws):Good H f .non ys F (w::ws):=(d.d.fr,d.d.t,by have :=d.d.t.len;have :=d.d.l;lia,d.d.nm,.inr (d.d.ne,rfl,),)
def lw_8(g:G52 G K CF)(d:Dn K H s n f ns ys F w ws)(R:D.rt=Q)(q:∀H',Q (.bl true) H'):wpB G K E zG D [some (.ref s),some (.int c),some (.ref n),some (.ref f),y4,y5,y6,y7,y8,y9,y10] H:=by
 unfold zG;ext;refine(_,_,g.g8,f,ys,rfl,.inl (SqL.of d.d.fr.hf),λl S=>?_,);generalize hX:upd H l _=H1;obtain⟨s1,L⟩:=vk hX S;clear hX;have k:=d.same s1;refine .inl (l,.non,ys,F,w::ws,rfl,rF.big {k.good with fr:=(L,k.d.fr.br,)},λI a4 a s2 np O r=>?_,);have J:=k.same s2;refine(n,w::ws,rfl,SqL.of J.hn,by have :=d.d.t.len;have :=d.d.l;lia,d.d.t.nd,λZ T=>?_,);rw[K51.FP d.d.t.nd r];generalize hX:upd I Z _=H3;obtain⟨s3,M⟩:=vk hX T;clear hX;obtain⟨r1,r2⟩:=K51.IP (K:=K) (s3 _ _ O);refine K51.Er r1 (K51.IP M).1 r2 (_,rfl,?_,);rw[if_pos rfl];refine⟨_,_,g.g9,a0 _,λl2 n2=>.inr ((λz=>nomatch z),λr Y=>(ay,[(.inr "a",.int 1)],rfl,(by show 1<=15;decide),?_,),)⟩;have v:upd (upd (upd H3 l2 (.lst [])) r (.dK [])) r (.dK (jh [] [(.inr "a",.int 1)])) l2<*(.lst []):=by have ne:l2≠r:=bt (ay (H:=H3) (a:=l2) (o:=.lst [])) Y;rw[aQ ne,aQ ne,ay]
 have x:upd (upd (upd H3 l2 (.lst [])) r (.dK [])) r (.dK (jh [] [(.inr "a",.int 1)])) r<*(.dK (kvS (mV [("a",1)]))):=ay;generalize upd (upd (upd H3 l2 (.lst [])) r (.dK [])) r (.dK (jh [] [(.inr "a",.int 1)]))=H4 at v x;refine .inl (l2,r,.str "a",[],[],["a"],[("a",1)],rfl,((v,.nil,),K51.uU _,'E',(λa5 W=>by rw[aC.mp W];decide+kernel),.inl (rfl,_,rfl,rfl,),),x,(λq U=>by rw[aC.mp U];exact(aw,.inr rfl,)),'F',λi p5 t5 w5 Ts a2 s5 n5 P A B N=>?_,);obtain⟨rfl,m⟩:=few_one N;have m:a2=[]:=cn.mp m;subst m;refine .inr ((λz=>nomatch z),λb p=>(ay,[(.inr "a",.int 1)],rfl,(by show 1<=15;decide),a0 _,λC t=>((by show 2<=sizeLine;decide),λp8 u=>?_,),),);have h:aY i (upd (upd i b (.dK [])) b (.dK (jh [] [(.inr "a",.int 1)]))):=λa3 o e=>by rw[aQ (bt e p),aQ (bt e p)];exact e
 have y:upd (upd i b (.dK [])) b (.dK (jh [] [(.inr "a",.int 1)])) b<*(.dK (kvS (mV [("a",1)]))):=ay;have X:=bt A p;generalize upd (upd i b (.dK [])) b (.dK (jh [] [(.inr "a",.int 1)]))=H6 at h y t u⊢;have j:=(aA (o:=.lst []) t).trans (aA (o:=.tup [.ref b,.ref C]) u);refine(p5,p8,t5,b,w5,C,_,rfl,rfl,j _ _ (h _ _ P),ay,j _ _ (h _ _ A),j _ _ y,?_,j _ _ (h _ _ B),aA u _ _ ay,X,bt (h _ _ B) t,?_,);·intro a1 V;have :a1=(.inr "a",.int 1):=aC.mp V;rw[this];exact(1,rfl,)
 .rw[R];exact q _
def lw_7(g:G52 G K CF)(d:Dn K H s n f ns ys F w ws)(h:H l<*(.lst ((nms c 82).map V.str)))(A:D.rt=Q)(q:∀H',Q (.bl true) H'):wpB G K E zH D [some (.ref s),some (.int c),some (.ref n),some (.ref f),y4,y5,y6,y7,y8,some (.ref l),y10] H:=by
 unfold zH;ext;refine oh ?_;ext;refine((2:Int),rfl,'E','E',?_,);refine kT lV (λi e H'=>aY H H'/\∃y10,e=[some (.ref s),some (.int c),some (.ref n),some (.ref f),y4,y5,y6,y7,y8,some (.ref l),y10]) (aY.refl _,_,rfl,) (λ_ _ _ _ _=>trivial) ?_ ?_
 .rintro i x e t P O S ⟨b,y10,rfl⟩ rfl a B T;have a:=b.trans a;ext;refine(_,_,g.g7,?_,);simp only[HL,jt,pT,qA,tSl,Ax,qC,tC,eZ,fc,eL,exists_eq_left'];refine(1,rfl,.inl (l,_,rfl,SqL.of (a _ _ h),λI C=>?_,),);have W:((nms c 82).map V.str).length=82:=by unfold nms;rw[ah,ah,dH]
  have v:zC ((nms c 82).map V.str) (some (1:Int)) none=((nms c 82).map V.str).drop 1:=sE (z:=1) 'D';rw[v];have p:=a.trans (aA (o:=.lst (((nms c 82).map V.str).drop 1)) C);refine(l,I,_,_,rfl,SqL.of (p _ _ h),SqL.of ay,'D',λu m r L U y j _=>.inl (trivial,λJ k=>?_,),);have M:=p.trans (L.trans (aA (o:=.dK []) k));have j:r.length=81:=by rw[j,bA];lia
  have bad:rE (upd u J (.dK [])) (.ref m) .non:=.inr (m,r,rfl,aA k _ _ y,'D',.inl 'D',);refine(_,_,_,_,rfl,?_,λR N=>(_,rfl,?_,),)
  .by_cases c0:(0:Int)+i=0;·exact .inl (c0,bad,)
   .exact .inr (c0,.inl bad,)
  .rw[if_neg 'E'];exact B _ _ (M.trans N,_,rfl,)
 .rintro e t ⟨b,y10,rfl⟩;exact lw_8 g (d.same b) A q
def lw_6(g:G52 G K CF)(d:Dn K H s n f ns ys F w ws)(e:D.rt=Q)(q:∀H',Q (.bl true) H'):wpB G K E zI D [some (.ref s),some (.int c),some (.ref n),some (.ref f),y4,y5,y6,y7,y8,y9,y10] H:=by
 unfold zI;ext;refine gC ?_;ext;refine((82:Int),rfl,'E','E',?_,);refine gy lV (hJ 'E') (λ_ _=>trivial) (λi v _=>v=.str ((nms c 82).getD i "")) (λ_ _ _ _ _ h=>h) (λb=>∃t,b=[t,some (.int c)]) (none,rfl,) ?_ ?_;·rintro i x b y R a ⟨t,rfl⟩ A rfl k;ext;refine(_,_,g.g4,c,_,rfl,λz r=>k _ _ _ (_,rfl,) r ?_,);have a:i<82:=a;rw[aJ,nms,bP,rQ a,Hk];rfl
 .intro B u l o j p m;rw[rV (l:=nms c 82) (by rw[o];unfold nms;rw[ah,dH];rfl) j];exact lw_7 g (d.same (p.trans (aA m))) ay e q
def AlB(v:V)(H:Hp):Prop:=Ask H v/\isName v=false
def uv:iM AlB:=λv H a s h=>(h.1.same s,h.2,)
def ET{v:V}(a:H l<*(.lst []))(h:AlB v H):rE H (.ref l) v:=.inr (l,[],rfl,a,'E',.inr (.inl (rfl,h,)),)
def u6{a:Int}{x al:V}{R:VK}{E0:XK}(h:a=0/\rE H x al\/a≠0/\NoFw H x y al)(k:∀H',aY H H'->R (.bl true) H'):spRf [.int a,x,y,al] H R E0:=(a,x,y,al,rfl,h,k,)
def bd_8(g:G52 G K CF){d:Int}(m:∀H',aY H H'->D.nx [some (.ref s),some (.int c),some (.ref n),some (.ref f),y4,some (.int d),y6,y7,y8,y9,y10] H'):wpB G K E sG D [some (.ref s),some (.int c),some (.ref n),some (.ref f),y4,some (.int d),y6,y7,y8,y9,y10] H:=by
 unfold sG;ext;refine(_,_,g.g7,a0 _,λl p=>(_,_,g.g6,(by show 1<=sizeLine;decide),λl2 i=>(('E','E',),?_,),),);have e:upd (upd H l (.lst [])) l2 (.lst [.str "a"]) l<*(.lst []):=aA i _ _ ay;have h:upd (upd H l (.lst [])) l2 (.lst [.str "a"]) l2<*(.lst [.str "a"]):=ay;have j:aY H (upd (upd H l (.lst [])) l2 (.lst [.str "a"])):=(aA p).trans (aA i);generalize upd (upd H l (.lst [])) l2 (.lst [.str "a"])=H2 at e h j;have b:dW ("a":Str)=true:=by decide+kernel
 refine(l2,"a",[],_,rfl,h,(λv a=>by rw[aC.mp a];exact b),by decide+kernel,Dq b,'E',λr y k o=>?_,);refine u6 (.inr ⟨'E',.inr (l,[],[],["a"],rfl,((k _ _ e,.nil,),K51.uU _,'E',(λv a=>by rw[aC.mp a];exact b),.inl (rfl,_,rfl,rfl,),),o,)⟩) λt q=>(_,rfl,?_,);rw[if_neg 'E'];exact m _ (j.trans (k.trans q))
def bd_7(g:G52 G K CF){b:Int}{al:V}(d:AlB al H)(k:∀H',aY H H'->D.nx [some (.ref s),some (.int c),some (.ref n),some (.ref f),y4,some (.int b),y6,y7,some al,y9,y10] H'):wpB G K E sH D [some (.ref s),some (.int c),some (.ref n),some (.ref f),y4,some (.int b),y6,y7,some al,y9,y10] H:=by unfold sH;ext;refine(_,_,g.g7,a0 _,λl m=>.inl (trivial,λr e=>?_,),);have i:aY H (upd (upd H l (.lst [])) r (.dK [])):=(aA m).trans (aA e);refine u6 (.inl (rfl,ET (aA e _ _ ay) (uv _ _ _ i d),)) λu a=>(_,rfl,?_,);rw[if_neg 'E'];have a:=i.trans a;refine(_,_,g.g7,a0 _,λx p=>.inl (trivial,λy h=>?_,),);have j:=a.trans ((aA (o:=.lst []) p).trans (aA (o:=.dK []) h));refine u6 (.inr ('E',.inl (ET (aA h _ _ ay) (uv _ _ _ j d)),)) λv q=>(_,rfl,?_,);rw[if_neg 'E'];exact bd_8 g λw t=>k _ (j.trans (q.trans t))
def bd_6(g:G52 G K CF){b:Int}(r:∀H' y8,aY H H'->D.nx [some (.ref s),some (.int c),some (.ref n),some (.ref f),y4,some (.int b),y6,y7,y8,y9,y10] H'):wpB G K E sI D [some (.ref s),some (.int c),some (.ref n),some (.ref f),y4,some (.int b),y6,y7,y8,y9,y10] H:=by
 unfold sI;unfold wpB R.wpS yE wM wpG l6;have o:0<=b/7%9:=cy _ 'E';have m:b/7%9<(9:Nat):=cT _ 'E';refine(sd (n:=9) uv (p7 uv rfl 'E' ?_) (JN (d:=b) rfl ('E','E',) 'E') o m) H (aY.refl _) _ λv x t q=>?_
 .have at_:∀{j:Const},isName (cv j)=false->Ask H (cv j)->Mk G K E [some (.ref s),some (.int c),some (.ref n),some (.ref f),y4,some (.int b),y6,y7,y8,y9,y10] H (.con j) AlB:=λm p=>fJ.imp λv H' s e=>by rw[show v=_ from e];exact(p.same s,m,)
  have i:∀{z:Str},z.length<=20000->Ask H (.str z):=λh=>⟨iB,λy e=>by cases e;exact h⟩;refine(at_ rfl ⟨qc,λz e=>nomatch e⟩,at_ rfl (i 'E'),at_ (by decide+kernel) (i (by decide+kernel)),at_ (by decide+kernel) (i (by decide+kernel)),at_ rfl ⟨jE,λz e=>nomatch e⟩,at_ rfl ⟨xT,λz e=>nomatch e⟩,(p0 (jM fJ cb) (ju cb) len_one).imp (λv H' s ⟨a,w,k,l,_⟩=>by rw[k];exact(⟨oa l,λz e=>nomatch e⟩,rfl,)),(kz (jM fJ cb) (ju cb) len_one).imp (λv H' s ⟨a,w,k,l,_⟩=>by rw[k];exact(⟨qb l,λz e=>nomatch e⟩,rfl,)),at_ (by decide+kernel) (i (by decide+kernel)),trivial,)
 simp only[i9,ja];exact bd_7 g q λA u=>r _ _ (t.trans u)
def bd_5(g:G52 G K CF)(d:Dn K H s n f ns ys F w ws){a:Int}(m:BY H y (w::ws))(l:∀H' y8,aY H H'->D.nx [some (.ref s),some (.int c),some (.ref n),some (.ref f),y4,some (.int a),y6,some y,y8,y9,y10] H'):wpB G K E sJ D [some (.ref s),some (.int c),some (.ref n),some (.ref f),y4,some (.int a),y6,some y,y8,y9,y10] H:=by
 unfold sJ;ext;refine(_,_,g.g7,u6 (.inr ('E',.inr (f,ys,F,_,rfl,d.good,m,),)) λk h=>(_,rfl,?_,),);rw[if_neg 'E'];have x:=d.same h;refine(_,_,g.g7,'E',.inl (trivial,λr p=>?_,),);have i:=h.trans (aA (o:=.dK []) p);have b:=d.same i;refine .inl (n,_,0,_,rfl,rfl,SqL.of b.hn,(hZ (j:=0) (xs:=(w::ws).map V.str) rfl:atI ((w::ws).map V.str) ((0:Nat):Int)=_),?_,);have bad:rE (upd k r (.dK [])) (.ref f) (.str w):=.inr ⟨f,ys,rfl,b.d.fr.hf,by have :=d.d.l;have :=d.d.fr.len;lia,.inr (.inr (.inl ⟨λz=>by have e:=d.d.fr.len;rw[z]at e;exact d.d.ne (cn.mp e.symm),λz=>nomatch z⟩))⟩;refine u6 ?_ λu q=>(_,rfl,?_,)
 .by_cases c0:a%2=0;·exact .inl (c0,bad,)
  .exact .inr (c0,.inl bad,)
 rw[if_neg 'E'];exact bd_6 g λv y8 t=>l _ _ (i.trans (q.trans t))
def bd_4(g:G52 G K CF)(d:Dn K H s n f ns ys F w ws){b:Int}{x:V}(h:rE H x .non)(v:BY H y (w::ws))(u:∀H' y8,aY H H'->D.nx [some (.ref s),some (.int c),some (.ref n),some (.ref f),y4,some (.int b),some x,some y,y8,y9,y10] H'):wpB G K E sL D [some (.ref s),some (.int c),some (.ref n),some (.ref f),y4,some (.int b),some x,some y,y8,y9,y10] H:=by
 unfold sL;ext;refine(_,_,g.g7,.inl (trivial,λr z=>?_,),);have k:aY H (upd H r (.dK [])):=aA z;refine u6 (.inl (rfl,h.same k,)) λI e=>(_,rfl,?_,);rw[if_neg 'E'];have e:=k.trans e;refine(_,_,g.g7,.inl (trivial,λi A=>((by show 2<=sizeLine;decide),λl B=>(('E','E',),'E',?_,),),),);have m:=e.trans ((aA (o:=.dK []) A).trans (aA (o:=.lst [.ref i,y]) B));obtain⟨j,p⟩:=dY (cy (b/5) (show(2:Int)≠0 by decide));have q:=cT (b/5) (show(0:Int)<2 by decide);rw[p]at q⊢;have t:j<[V.ref i,y].length:=by show j<2;lia
 refine .inl (l,_,j,_,rfl,rfl,SqL.of ay,hZ (aj t),u6 (.inr ('E',.inl (h.same m),)) λJ a=>(_,rfl,?_,),);rw[if_neg 'E'];have a:=m.trans a;exact bd_5 g (d.same a) (v.same a) λL y8 C=>u _ _ (a.trans C)
def lw_5(g:G52 G K CF)(d:Dn K H s n f ns ys F w ws)(t:D.rt=Q)(q:∀H',Q (.bl true) H'):wpB G K E zJ D [some (.ref s),some (.int c),some (.ref n),some (.ref f),y4,y5,y6,y7,y8,y9,y10] H:=by
 unfold zJ;ext;refine oh ?_;ext;have r:(if(20:Int)<(ns.map V.int).length then(20:Int)else((ns.map V.int).length:Int))=((min ns.length 20:Nat):Int):=by rw[ah];split <;>lia
 refine .inl (s,_,rfl,.inl d.hs,_,_,rfl,?_,);rw[r];refine(_,rfl,'D','D',?_,);rw[show(((min ns.length 20:Nat):Int)).toNat=min ns.length 20 by lia];refine kT lV (λi k H'=>aY H H'/\∃y4 y5 y6 y7 y8,k=[some (.ref s),some (.int c),some (.ref n),some (.ref f),y4,y5,y6,y7,y8,y9,y10]) (aY.refl _,_,_,_,_,_,rfl,) (λ_ _ _ _ _=>trivial) ?_ ?_;·rintro i x k o I C N ⟨e,y4,y5,y6,y7,y8,rfl⟩ rfl b u O;have b:=e.trans b;have a:=d.same b;rw[Hk];ext;refine(_,_,g.g3,s,ns,i,rfl,a.hs,'D','D',λp=>JK.mpr (KA 'E' 'E',nV.mpr ('E',?_,),),);generalize p*48271%2147483647=dn;unfold yh;ext;refine(_,_,g.g5,f,n,dn,ys,F,_,_,rfl,a.d,a.hn,(λv h=>h),λJ x m z=>?_,);have l:=a.same m;unfold yg;ext;refine(_,_,g.g6,('E','E',),n,w,ws,_,rfl,l.hn,d.d.nm,d.d.za,d.cl,by have :=d.d.t.len;have :=d.d.l;lia,λL y j A=>?_,);exact bd_4 g (l.same j) (z.same j) A λM y8 B=>u _ _ (b.trans (m.trans (j.trans B)),_,_,_,_,_,rfl,)
 .rintro k o ⟨e,y4,y5,y6,y7,y8,rfl⟩;exact lw_6 g (d.same e) t q
def lw_4(g:G52 G K CF){us:List Nm}(r:SqL K H s (ns.map V.int))(N:H n<*(.lst (us.map V.str)))(b:Frm H f ys F)(t:Tree F us)(i:∀v∈us,∃k:Nat,k<41/\v=fnm c k)(U:us.length<=41)(m:D.rt=Q)(q:∀H',Q (.bl true) H'):wpB G K E zK D [some (.ref s),some (.int c),some (.ref n),some (.ref f),y4,y5,y6,y7,y8,y9,y10] H:=by
 unfold zK;ext;refine(a0 _,λp O=>?_,);have a:aY H (upd H p (.lst [])):=aA O;have T:=Kh F;refine(.lst (F.map bD),.lst [],(f,_,rfl,SqL.of (a _ _ b.hf),Ew (b.same a).br,),(p,_,rfl,SqL.of ay,rfl,),by show kB (F.map bD)+1<=30;lia,_,rfl,?_,);have C:upd H p (.lst []) p<*(.lst []):=ay;generalize upd H p (.lst [])=H1 at a C;by_cases hF:F=[]
 .rw[if_pos (show eqD (.lst (F.map bD)) (.lst [])=true by rw[hF];rfl)];refine((by show 2<=sizeLine;decide),λP J=>?_,);generalize hX:upd H1 P _=H2;obtain⟨j,I⟩:=vk hX J;clear hX
  replace j:=a.trans (j)
  unfold yi;ext;refine((by show 2<=sizeLine;decide),λt3 L=>((by show 1<=sizeLine;decide),λS l=>?_,),);have A:=(aA (o:=.tup [.str "b",.str "a"]) L).trans (aA (o:=.lst [.ref t3]) l);have x:dW ("a":Str)=true:=by decide+kernel
  have R:dW ("b":Str)=true:=by decide+kernel
  refine lw_5 g (w:="a") (ws:=["b"]) (F:=[("b","a")]) (ys:=[.ref t3]) ((j.trans A).seq r,((ay,.cons (t3,rfl,aA l _ _ ay,) .nil,),?_,'F','E',?_,by decide+kernel,by decide+kernel,),A _ _ I,Dq x,) m q;·exact(K51.uU "a").put (v:="b") (u:="a") (by decide+kernel) aw (.inl rfl) (fw _)
  .intro v hv;rcases aG.mp hv with rfl|hv;·exact x
   .rw[aC.mp hv];exact R
 .obtain⟨e,B,rfl⟩:=lR hF;rw[if_neg (by show ¬o9 (bD e::B.map bD) []=true;exact λz=>nomatch z)];have M:=t.len;cases us with
  |nil=>cases M
  |cons w ws=>
   have y:∀v∈w::ws,dW v=true:=λv hv=>by obtain⟨k,_,rfl⟩:=i v hv;exact fnm_ok c k
   exact lw_5 g (a.seq r,⟨b.same a,t,hF,'D',y,(λh=>by obtain⟨k,d,e⟩:=i _ h;exact no_z d (.inl rfl) e.symm),λh=>by obtain⟨k,d,e⟩:=i _ h;exact no_z d (.inr rfl) e.symm⟩,a _ _ N,Dq (y w aw),) m q
def Ia(K:ai):Sp:=λvs H Q _=>∃(a:Addr)(ns:List Int),vs=[.ref a]/\SqL K H a (ns.map V.int)/\ns.length<=63/\∀H',Q (.bl true) H'
def wp_law(g:G52 G K CF):Sat G K (Ia K) KE JJ:=by
 rintro u H Q E ⟨s,b,rfl,a,r,q⟩;unfold KE;change wpB G K _ _ _ [some (.ref s),none,none,none,none,none,none,none,none,none,none] H;ext;refine(_,_,g.g0,s,b,0,rfl,a,?_,);unfold Fl;ext;refine(_,_,g.g1,s,b,_,41,rfl,'E',a,λl n c o h=>?_,);unfold Fk;ext;refine(_,_,g.g2,s,b,_,41,rfl,'E',c.seq a,λm f w F d p e t=>?_,);refine lw_4 g ((c.trans d).seq a) (d _ _ h) e t (λv j=>?_) ?_ rfl q;·obtain⟨k,i,rfl⟩:=aW.mp j;have :=d9.mp i;exact(k,'D',rfl,)
 .unfold nms;rw[ah,dH];lia
end
end K52
namespace Lm
open PySem.W L2 Q
def BM(mg:Str->Option Value)(h:Heap):Prop:=∃bm a,mg "__builtins__"<*(.ref bm)/\bm≠nM/\bm≠bR/\h.get? bm<*a/\a.cls=.type "module"/\a.dict<*nM/\a.data=.plain
end Lm
namespace Lm
open PySem.W L2 Q R
abbrev kC(K:ai)(tabs:List Addr)(a:Addr)(vs:List Value)(ns:List Int):Hp:=λb=>
 if b∈tabs then some (.tbl #[])else if b=a/\K.lookup a=none then some (.frz {cls:=.type "list",data:=.seq vs.toArray} (.lst (ns.map V.int)))else none
def Gy{CX:CXT}{k:Nat}{D:gp}{sp:Sp}{c:Shared}(B:K.In c.heap)
  (J:c.heap.Ns bR mg)(f:c.heap.Ns nM mb)(Z:∀x:Str,x≠"__name__"->mb x=eY x)(a1:c.heap.NoLimit)(hg:c.gens= #[])(j:c.heap.get? a<*{cls:=.type "list",data:=.seq vs.toArray})
  (hi:IntsAre vs ns) (I:ns.length<=sizeLine) (hr:jk k Fv) (t:∀p∈tabs,c.heap.get? p<*(tabObj #[])/\isCodeTable c.heap p/\K.lookup p=none)
  (F:∀base:Heap,K.In base->base.Ns bR mg->(∀b o,c.heap.get? b<*o->o.cls≠.none->o.cls≠.type "list"->base.get? b<*o)->jO P w K mg base CX k fa D [x] sp)
  (a0:∀(s:Shared)(u:Value),BindsTo s D ([u],[],) [(x,u)])
  (a3:∀H:Hp,(∀p∈tabs,H p<*(.tbl #[]))->SqL K H a (ns.map V.int)->sp [.ref a] H (λv _=>v=.bl true) λ_ _ _=>False) (U:∀H e s',CX [] H c (λ_ _ _=>False) e s'->False):
  gh (model P w) Fv (.call (.ref fa) ([.ref a],[],)) (λr s'=>r=.ok (.ret (.bool true))/\OldK c.heap s'.heap/\s'.os=c.os/\o7 s'.gens) c:=by
 have rv:=xA hi;have a4:=hi.length;have y:∀b,(b∈tabs/\kC K tabs a vs ns b<*(.tbl #[]))\/(b=a/\K.lookup a=none/\kC K tabs a vs ns b<*(.frz {cls:=.type "list",data:=.seq vs.toArray} (.lst (ns.map V.int))))\/kC K tabs a vs ns b=none:=λb=>by
  unfold kC;by_cases i:b∈tabs;·exact .inl (i,if_pos i,)
  .rw[if_neg i];by_cases g:b=a/\K.lookup a=none;·exact .inr (.inl (g.1,g.2,if_pos g,))
   .exact .inr (.inr (if_neg g))
 have M:∀p∈tabs,kC K tabs a vs ns p<*(.tbl #[]):=λp hp=>if_pos hp;have Y:a∉tabs:=λz=>by have :=(t a z).1;rw[j]at this;cases this
 --what is neither a table nor a list is not tracked
 have N:∀{b:Addr}{o:Obj},c.heap.get? b<*o->o.cls≠.none\/(∃n l,o.data=.dict n l)->o.cls≠.type "list"\/(∃n l,o.data=.dict n l)->kC K tabs a vs ns b=none:=λ{b o} e i g=>by
  rcases y b with⟨q,_⟩ |⟨rfl,_⟩ |q
  .have :=(t b q).1;rw[e]at this;cases this;rcases i with z|⟨_,_,z⟩;·exact absurd rfl z
   .cases z
  .rw[j]at e;cases e;rcases g with z|⟨_,_,z⟩;·exact absurd rfl z
   .cases z
  .exact q
 have A:∀{b:Addr}{m:Str->Option Value},c.heap.Ns b m->(Bx c.heap (kC K tabs a vs ns)).Ns b m:=λ{b m} ⟨o,n,l,e,d,r⟩=>(o,n,l,vE e (N e (.inr (_,_,d,)) (.inr (_,_,d,))),d,r,);have G:K.In (Bx c.heap (kC K tabs a vs ns)):=λb o e=>vE (B b o e) (by
  rcases y b with⟨q,_⟩ |⟨rfl,z,_⟩ |q;·rw[(t b q).2.2]at e;cases e
  .rw[z]at e;cases e
  .exact q)
 have a2:HOk P w (kC K tabs a vs ns) c.heap:=λb o e=>by
  rcases y b with⟨q,z⟩ |⟨rfl,_,z⟩ |z;·rw[z]at e;cases e;exact(t b q).1
  .rw[z]at e;cases e;exact(j,by rw[ah];exact I,vs,_,rv,j,)
  .rw[z]at e;cases e
 have X:SqL K (kC K tabs a vs ns) a (ns.map V.int):=by
  cases hk:K.lookup a with
  |none=>refine .inl (.inr ({cls:=.type "list",data:=.seq vs.toArray},?_,));unfold kC;rw[if_neg Y,if_pos (rfl,hk,)]
  |some o=>have e:=B a o hk;rw[j]at e;cases e;exact .inr (_,vs.toArray,_,hk,rfl,rfl,rfl,by rw[aI,a4];exact I,↥rv,)
 have W:Mod K mg (Bx c.heap (kC K tabs a vs ns)):=(G,A J,(mb,A f,Z,),let⟨mc,i,g⟩:=a1;(mc,A i,g,),);have R:DZ P w K mg (Bx c.heap (kC K tabs a vs ns)) Fv [] c (kC K tabs a vs ns):=(rfl,W,λb o e=>of_hidT e,Nat.le_of_eq (GG _ _),trivial,λb f=>absurd (show b∈([]:List Addr)from f) 'F',a2,.of_eq hg,);have T:=F _ G (A J) λb o e i g=>vE e (N e (.inl i) (.inl g));refine jY (T.run Fv [] c (kC K tabs a vs ns) ([.ref a],[],) [.ref a] [.ref a] _ _ hr R (a0 c (.ref a)) (.cons rfl .nil) (a3 _ M X)) λr s' h=>?_;cases r with
 |error e=>exact(U _ e s' h).elim
 |ok fl=>
  cases fl with
  |next =>exact gU h
  |brk=>exact gU h
  |cont=>exact gU h
  |ret u=>
   obtain⟨v,H',os,O,un,L,r',q⟩:=h;have q':v=.bl true:=q;subst q';obtain rfl:u=sN true:=r';have kept:∀b o,c.heap.get? b<*o->b∉tabs->s'.heap.get? b<*o:=λb o e nt=>by
    rcases y b with⟨z,_⟩ |⟨rfl,_,z⟩ |z;·exact absurd z nt
    .have z2:=un.frzs b _ _ z;obtain⟨S,_⟩:=L b _ z2;rw[j]at e;cases e;exact S
    .exact un.keep b o e z (by intro z;exact absurd (show b∈([]:List Addr)from z) 'F') 'F'
   have E:∀b∈tabs,∃more,s'.heap.get? b<*(tabObj (#[]++more)):=λb f=>by obtain⟨more,z⟩:=un.tbls b _ (M b f);exact(more,L b _ z,)
   refine(rfl,(λb o e=>?_,λb o e=>?_,),os,O,)
   .by_cases f:b∈tabs;·obtain⟨C,Q,_⟩:=t b f;rw[e]at C;cases C;obtain⟨more,z⟩:=E b f;exact .inr (.inl (Q,rfl,#[],more,rfl,z,))
    .exact .inl (kept b o e f)
   .by_cases f:b∈tabs;·obtain⟨more,z⟩:=E b f;exact(_,z,)
    .exact(o,kept b o e f,)
def bm_of(l:h.Ns bR mg)(j:∃bm a,mg "__builtins__"<*(.ref bm)/\bm≠nM/\h.get? bm<*a/\a.cls=.type "module"/\a.dict<*nM/\a.data=.plain):BM mg h:=by obtain⟨bm,a,d,f,b,g,i,c⟩:=j;refine(bm,a,d,f,λq=>?_,b,g,i,c,);obtain⟨o,n,m,e,k,_⟩:=l;rw[q,e]at b;cases b;rw[k]at c;cases c
def Hx{l:PySem.W.OpenLaw}{k:Nat}{q:Program}{XP:(Str->Option Value)->Heap->Prop}{YP:World->Heap->Prop}{d:DefRec}{K:Params->ai}{CX:CXT}{sp:ai->Sp}
  (Q:l.most<*n)(R:n<=sizeLine)(M:d.params.defaults=[])(U:jk k Fv)(I:∀(w:World)(h:Heap),YP w h->(K w.params).In h)
  (E:∀(w:World)(c:Shared)(mg mb:Str->Option Value)(h:Heap),Ground q loose [] XP w c mg mb h->YP w h->∀p∈tabs,h.get? p<*(tabObj #[])/\isCodeTable h p/\(K w.params).lookup p=none)
  (F:∀(w:World)(mg:Str->Option Value)(fa:Addr)(h:Heap),(K w.params).In h->h.Ns bR mg->mg d.name<*(.ref fa)->
   ∃fd:gp,(∀(s:Shared)(u:Value),BindsTo s fd ([u],[],) [(x,u)])/\
    ∀base:Heap,(K w.params).In base->base.Ns bR mg->BM mg base->jO l.prog w (K w.params) mg base CX k fa fd [x] (sp (K w.params)))
  (W:∀(K:ai)(H:Hp)(a:Addr)(ns:List Int),ns.length<=n->(∀p∈tabs,H p<*(.tbl #[]))->SqL K H a (ns.map V.int)->sp K [.ref a] H (λv _=>v=.bl true) λ_ _ _=>False)
  (C:∀(H:Hp)(s:Shared)(e:Value)(s':Shared),CX [] H s (λ_ _ _=>False) e s'->False):
  PySem.W.WalkO q loose XP YP l.row.toRowW d [] (λf vs=>PySem.call f vs):=by
 refine Att.BS Q M λw c a0 mg mb fa a3 pm cd a1 a vs ns G Y ho hd a2 P T O j N=>?_;have g:=I w _ Y;obtain⟨fd,J,D⟩:=F w mg fa _ g G.T.g P;have L:=bm_of G.T.g G.T.bmain;refine Gy g G.T.g G.T.b G.T.builtins G.T.nolimit N T O (aR j R) U (E w c mg mb _ G Y) (λbase X Z k3=>D base X Z ?_) J (λH t S=>W _ H a ns j t S) λH e s'=>C H a0 e s';obtain⟨i,m,r,y,o,z,b,A,B⟩:=L;exact(i,m,r,y,o,k3 i m z (by rw[b];nofun) (by rw[b];decide),b,A,B,)
end Lm
set_option maxHeartbeats 0
namespace K52
open PySem.Calls L2 R Cp Lt Lm
def wo(K:ai)(x:Str)(st:Stmt)(T:Addr):Prop:=∃(f:Addr)(oc:Value)(od an od':Option Addr)(az sl:Array (Option Value))(kV ap pm am ct:Value)(m:Nat),dI K bR x<*(some (.ref f))/\
 K.lookup f<*(oc,od,.func (aX x x (bV st) (bM st) (bh st) (.ref T) kV ap pm an am ct),az,)/\fC K am x=true/\cF K (.ref f)=true/\K.lookup T<*(.type "tuple",od',.seq #[.none] m,sl,)
def xY{st:Stmt}{an:Option Addr}{kV:Value}(a:dI K bR x<*(some (.ref f)))
  (l:K.lookup f<*(oc,od,.func (aX x x (bV st) (bM st) (bh st) (.ref T) kV ap pm an am ct),az,))(c:fC K am x=true)(k:cF K (.ref f)=true)(t:K.lookup T<*(.type "tuple",od',.seq #[.none] m,sl,)):wo K x st T:=
 (f,oc,od,an,od',az,sl,kV,ap,pm,am,ct,m,a,l,c,k,t,)
def Fp{k:Nat}{vals:List (Str×V)}{b:List ((Str×Nat)×(Sp×List V))}{st:Stmt}{sp:Sp}{i:CB}(g:GOk P w K mg base (CXx P w) k (gam vals b))(X:K.In h)(j:h.Ns bR mg)(d:wo K x st T)
  (e:(sY N ps (bh st)&&ql (bh st) N i (bM st))=true)
  (o:∀(kV ap pm:Value)(an:Option Addr)(am ct:Value)(od':Option Addr)(sl:Array (Option Value))(m:Nat),K.lookup T<*(.type "tuple",od',.seq #[.none] m,sl,)->Binds K (aX x x (bV st) (bM st) (bh st) (.ref T) kV ap pm an am ct) ps [])
  (len:∀vs H Q E,sp vs H Q E->vs.length=ps.length)
  (p:∀vs H Q E,sp vs H Q E->wpB (gam vals b) K (λ_=>E) i {nx:=λ_ H'=>Q .non H',rt:=Q} (L2.start N vs) H):GOk P w K mg base (CXx P w) (k+1) (gam vals (((x,ps.length),(sp,[]))::b)):=by
 rw[aN]at e;obtain⟨f,r,s,an,od',u,sl,kV,ap,pm,am,ct,m,a,l,c,q,t⟩:=d;exact g.add (n:=ps.length) (vL l c e.1 e.2 g len p) (dE X j a) q (o _ _ _ _ _ _ _ _ _ t) .nil
def add_fnE{k:Nat}{vals:List (Str×V)}{b:List ((Str×Nat)×(Sp×List V))}{st:Stmt}{sp:Sp}{i:CB}(g:GOk P w K mg base (CXx P w) k (gam vals b))(X:K.In h)(j:h.Ns bR mg)(d:wo K x st T)
  (e:(sY N ps (bh st)&&ql (bh st) N i (bM st))=true)
  (o:∀(kV ap pm:Value)(an:Option Addr)(am ct:Value)(od':Option Addr)(sl:Array (Option Value))(m:Nat),K.lookup T<*(.type "tuple",od',.seq #[.none] m,sl,)->Binds K (aX x x (bV st) (bM st) (bh st) (.ref T) kV ap pm an am ct) ps [.none])
  (len:∀vs H Q E,sp vs H Q E->vs.length=ps.length)
  (p:∀vs H Q E,sp vs H Q E->wpB (gam vals b) K (λ_=>E) i {nx:=λ_ H'=>Q .non H',rt:=Q} (L2.start N vs) H):GOk P w K mg base (CXx P w) (k+1) (gam vals (((x,1),(sp,[.non]))::b)):=by
 rw[aN]at e;obtain⟨f,r,s,an,od',u,sl,kV,ap,pm,am,ct,m,a,l,c,q,t⟩:=d;exact g.add (n:=1) (vL l c e.1 e.2 g len p) (dE X j a) q (o _ _ _ _ _ _ _ _ _ t) (.cons rfl .nil)
def Kl{i:ClassData}(a:gF K (.ref C) "__getattribute__"<*(some (.builtin "BaseException.__getattribute__")))(b:gF K (.ref C) "__getattr__"<*none)(c:gF K (.ref C) "__class__"<*(some (.builtin "object.__class__")))
  (d:Ho K (.builtin "object.__class__") "__get__"<*(some (.builtin "getset_descriptor.__get__")))(e:PySem.W.takesIn K (.builtin "object.__class__")<*true)(f:zZ K C (.type "object")<*true)(g:zZ K C (.type "BaseException")<*true)(h:PySem.W.clsIn K C<*i):mW K C=true:=by
 unfold mW;rw[a,b,c,d,e,f,g,h];simp only[beq_self_eq_true,Bool.and_self,rP]
def four_of(h:us.length=4):∃a b c d,us=[a,b,c,d]:=by
 cases us with
 |nil=>exact nomatch h
 |cons a r=>obtain⟨b,c,d,e⟩:=Kc.js (gK h);exact⟨a,b,c,d,by rw[e]⟩
abbrev vals(CE CF CN CR C CT:Addr):List (Str×V):=[("LETTERS",.str LETTERS),("LONGEST_NAME",.int 8),("MOST_BRANCHES",.int 80),("KinError",.ref CE),("NoFrame",.ref CF),("NoName",.ref CN),("NoReading",.ref CR),("NoTable",.ref C),("NoText",.ref CT)]
set_option hygiene false in
local macro_rules
 | `(#v[])=>`('G')
 | `(#v[0])=>`(Kc.fT h rfl)
 | `(#v[1,$z])=>`(Kc.bB h λ_ h=>$z)
 | `(#v[1])=>`(λ_ _ _ _ _ _ f b=>by obtain⟨_,rfl⟩:=Kc.nS b;rfl)
 | `(#v[2])=>`(λ_ _ _ _ _ _ f b=>by obtain⟨_,_,rfl⟩:=Kc.je b;rfl)
 | `(#v[3])=>`(λ_ _ _ _ _ _ f b=>by obtain⟨_,_,_,rfl⟩:=Kc.js b;rfl)
 | `(#v[4])=>`(λ_ _ _ _ _ _ f b=>by obtain⟨_,_,_,_,rfl⟩:=four_of b;rfl)
 | `(#v[$N,$p,$g,$d,$s,$w,$e,$z])=>`(eX (N:=$N) (ps:=$p) $g (HasFn.def X d $d) (by decide+kernel) $e (sp:=$s) (λ_ _ _ _ h=>$z) ($w))
def all_mk(X:K.In h)(d:h.Ns bR mg)(d0:mg "law"<*(.ref fa)){p q t3:Tok}{CE CR:Addr}
  (v1:dI K bR "LETTERS"<*(some (.str LETTERS p)))(v2:dI K bR "LONGEST_NAME"<*(some (.int 8 q)))(v3:dI K bR "MOST_BRANCHES"<*(some (.int 80 t3)))(v4:dI K bR "KinError"<*(some (.ref CE)))(v5:dI K bR "NoFrame"<*(some (.ref CF)))(v6:dI K bR "NoName"<*(some (.ref CN)))(v7:dI K bR "NoReading"<*(some (.ref CR)))(v8:dI K bR "NoTable"<*(some (.ref C)))(v9:dI K bR "NoText"<*(some (.ref CT)))
  (i:XC K CF)(m:PySem.W.exmOne K (.ref CF) (.ref CE)<*true)(o:mW K CF=true)(k1:bK K (.ref CF) (.ref CF)<*true)(k2:bK K (.ref CF) (.type "ValueError")<*true)(k3:bK K (.ref CF) (.ref CN)<*false)(k4:bK K (.ref CF) (.ref CR)<*false)(k5:bK K (.ref CF) (.ref C)<*false)(k6:bK K (.ref CF) (.ref CT)<*false)(r:∀x∈jw,dI K bR x<*none)(a4:HasFn K "is_whole" (top 10))(a5:HasFn K "is_name" (top 11))(a6:HasFn K "is_reading" (top 12))(a7:HasFn K "neighbours" (top 14))(a8:HasFn K "reached" (top 15))(a9:HasFn K "leads_one_way" (top 16))(b0:HasFn K "is_pair" (top 19))(b1:HasFn K "names_of" (top 20))(b2:HasFn K "is_frame" (top 21))(l:wo K "frame_list" (top 22) 153)(b3:HasFn K "is_read" (top 24))(b4:HasFn K "begun_at" (top 25))(b5:HasFn K "joined" (top 26))(b6:HasFn K "left_over" (top 27))(b7:HasFn K "climbed" (top 28))(b8:HasFn K "settled" (top 29))(b9:wo K "fewest" (top 30) 195)(c0:HasFn K "_law_cell_at" (top 32))(c1:HasFn K "_law_drawn" (top 33))(c2:HasFn K "_law_name" (top 34))(c3:HasFn K "_law_above" (top 35))(c4:HasFn K "_law_frame" (top 36))(c5:HasFn K "_law_names" (top 37))(c6:HasFn K "_law_no_frame" (top 39))(c7:HasFn K "_law_no_read" (top 40))(c8:HasFn K "_law_refused" (top 41))(c9:HasFn K "law" (top 42)):
  ∃fd:gp,(∀(s:Shared)(v:Value),BindsTo s fd ([v],[],) [("_law_script",v)])/\∀base:Heap,K.In base->base.Ns bR mg->BM mg base->jO P w K mg base CX0 28 fa fd ["_law_script"] (λvs H Q _=>K52.Ia K vs H Q E0):=by
 obtain⟨d2,d3,od,an,d4,kV,A,pm,y,z,a,d1,c,k⟩:=id c9;have e:=d0.symm.trans (dE X d a);cases e;refine(aX "law" "law" (bV (top 42)) (bM (top 42)) (bh (top 42)) .none kV A pm an y z,λs v=>.of_eq rfl,λbase Xb _ bm=>?_,);have hv:∀x v,(x,v)∈vals CE CF CN CR C CT->∃u,mg x<*u/\RelV v u:=by
  intro x v n;simp only[vals,aG,bu,or_false,Prod.mk.injEq]at n;rcases n with⟨rfl,rfl⟩ |⟨rfl,rfl⟩ |⟨rfl,rfl⟩ |⟨rfl,rfl⟩ |⟨rfl,rfl⟩ |⟨rfl,rfl⟩ |⟨rfl,rfl⟩ |⟨rfl,rfl⟩ |⟨rfl,rfl⟩;·exact(_,dE X d v1,p,rfl,)
  .exact(_,dE X d v2,q,rfl,)
  .exact(_,dE X d v3,t3,rfl,)
  .exact(_,dE X d v4,rfl,)
  .exact(_,dE X d v5,rfl,)
  .exact(_,dE X d v6,rfl,)
  .exact(_,dE X d v7,rfl,)
  .exact(_,dE X d v8,rfl,)
  .exact(_,dE X d v9,rfl,)
 have B:GOk P w K mg base (CXx P w) 0 (gam (vals CE CF CN CR C CT) []):=GOk.start hv λx hx=>PySem.W.mg_none_of X d (r x hx);have xf:∀j,K52.Xf (gam (vals CE CF CN CR C CT) j) K CE CF CN CR C CT:=λj=>(rfl,rfl,rfl,rfl,rfl,rfl,m,o,k1,k2,k3,k4,k5,k6,);have D:=#v[Cp.vo,Cp.De,B,a4,spB isWhole,Ao,#v[1],#v[1,#v[0]]];have U:=#v[Cp.xO,Cp.Gn,D,a5,spN,Cv #v[] #v[],#v[1],#v[1,#v[0]]];have g3:=#v[Cp.qK,Cp.zd,U,a6,spB fX,wJ #v[],#v[1],#v[1,#v[0]]];have g4:=#v[F5.qJ,F5.zc,g3,a7,F5.HZ,F5.wp_nb,#v[2],#v[1,#v[1,#v[1,#v[1,#v[1,#v[0]]]]]]];have g5:=#v[F5.xM,F5.Gi,g4,a8,F5.spRe,F5.wp_re,#v[1],#v[1,#v[1,#v[1,#v[0]]]]];have g6:=eX (N:=F5.jC) (ps:=F5.ud) g5 (a9.def X d) (by decide+kernel) (λ_ _ _ _ _ _ f b=>by obtain⟨_,_,rfl⟩:=Kc.je b;rfl) (sp:=K52.orS F5.H0 K52.Em) (λvs H Q E h=>h.elim (λh=>Kc.bB h λ_ h=>Kc.bB h λ_ h=>Kc.bB h λ_ h=>Kc.bB h λ_ h=>Kc.bB h λ_ h=>Kc.fT h rfl) (λh=>Kc.bB h λ_ h=>Kc.bB h λ_ h=>Kc.bB h λ_ h=>Kc.bB h λ_ h=>Kc.bB h λ_ h=>Kc.fT h rfl)) (λvs H Q E h=>h.elim (F5.wp_lw #v[] vs H Q E) (K52.wp_lwB vs H Q E));have g7:=#v[F5.xN,F5.Gk,g6,b0,K52.El,K52.Hu #v[],#v[1],#v[1,#v[1,#v[0]]]];have g8:=#v[F5.vm,F5.Dc,g7,b1,F5.HW,F5.wp_no,#v[1],#v[1,#v[1,#v[1,#v[1,#v[0]]]]]];have g9:=eX (N:=F5.pZ) (ps:=F5.Df) g8 (b2.def X d) (by decide+kernel) (λ_ _ _ _ _ _ f b=>by obtain⟨_,_,rfl⟩:=Kc.je b;rfl) (sp:=K52.orS F5.FO K52.AI) (λvs H Q E h=>h.elim (λh=>Kc.bB h λ_ h=>Kc.bB h λ_ h=>Kc.bB h λ_ h=>Kc.bB h λ_ h=>Kc.bB h λ_ h=>Kc.fT h rfl) (λh=>Kc.bB h λ_ h=>Kc.bB h λ_ h=>Kc.fT h rfl)) (λvs H Q E h=>h.elim (F5.wp_ifU (SL:=K52.orS F5.H0 K52.Em) K52.Jf (λ_ _ _ _ h=>Or.inl h) #v[] #v[] #v[] #v[] #v[] #v[] vs H Q E) (K52.wp_ifB #v[] #v[] #v[] #v[] #v[] #v[] vs H Q E));have F:=Fp (N:=F5.jL) (ps:=F5.qH) g9 X d l (by decide+kernel) (λ_ _ _ _ _ _ _ _ _ t s f X b=>by rw[kH]at b⊢;obtain⟨_,_,rfl⟩:=Kc.je b;exact wA X rfl t rfl rfl rfl) (sp:=K52.orS F5.AJ (K52.uY CF)) (λvs H Q E h=>h.elim (λh=>Kc.bB h λ_ h=>Kc.bB h λ_ h=>Kc.bB h λ_ h=>Kc.bB h λ_ h=>Kc.bB h λ_ h=>Kc.fT h rfl) (λh=>Kc.bB h λ_ h=>Kc.bB h λ_ h=>Kc.fT h rfl)) (λvs H Q E h=>h.elim (F5.Hv (SI:=K52.orS F5.FO K52.AI) (λ_ _ _ _ h=>Or.inl h) #v[] #v[] vs H Q E) (K52.Hw #v[] i #v[] vs H Q E));have G:=add_fnE (N:=F5.jL) (ps:=F5.qH) F X d l (by decide+kernel) (λ_ _ _ _ _ _ _ _ _ t s f X b=>by rw[aq]at b;obtain⟨_,rfl⟩:=Kc.nS (gK b);exact wA X rfl t rfl rfl rfl) (sp:=K52.orS F5.AJ (K52.uY CF)) (λvs H Q E h=>h.elim (λh=>Kc.bB h λ_ h=>Kc.bB h λ_ h=>Kc.bB h λ_ h=>Kc.bB h λ_ h=>Kc.bB h λ_ h=>Kc.fT h rfl) (λh=>Kc.bB h λ_ h=>Kc.bB h λ_ h=>Kc.fT h rfl)) (λvs H Q E h=>h.elim (F5.Hv (SI:=K52.orS F5.FO K52.AI) (λ_ _ _ _ h=>Or.inl h) #v[] #v[] vs H Q E) (K52.Hw #v[] i #v[] vs H Q E));have I:=eX (N:=F5.r9) (ps:=F5.Gj) G (b3.def X d) (by decide+kernel) (λ_ _ _ _ _ _ f b=>by obtain⟨_,_,rfl⟩:=Kc.je b;rfl) (sp:=K52.orS F5.Ib K52.En) (λvs H Q E h=>h.elim (λh=>Kc.bB h λ_ h=>Kc.bB h λ_ h=>Kc.bB h λ_ h=>Kc.bB h λ_ h=>Kc.fT h rfl) (λh=>Kc.bB h λ_ h=>Kc.bB h λ_ h=>Kc.bB h λ_ h=>Kc.bB h λ_ h=>Kc.fT h rfl)) (λvs H Q E h=>h.elim (F5.wp_ir #v[] #v[] vs H Q E) (K52.wp_irB #v[] #v[] vs H Q E));have J:=#v[F5.vq,F5.Dg,I,b4,F5.Ic,F5.wp_ba,#v[2],#v[1,#v[1,#v[1,#v[1,#v[1,#v[1,#v[0]]]]]]]];have L:=#v[F5.Bg,F5.Jy,J,b5,F5.AH,F5.wp_jn,#v[3],#v[1,#v[1,#v[1,#v[1,#v[1,#v[1,#v[1,#v[0]]]]]]]]];have M:=#v[F5.sZ,F5.AZ,L,b6,F5.yL,F5.wp_lo,#v[3],#v[1,#v[1,#v[1,#v[1,#v[1,#v[1,#v[1,#v[0]]]]]]]]];have O:=#v[F5.xP,F5.Gp,M,b7,F5.spCl,F5.wp_cl #v[] #v[] #v[],#v[2],#v[1,#v[1,#v[1,#v[1,#v[0]]]]]];have R:=#v[F5.xK,F5.Gh,O,b8,F5.spSe,F5.wp_se,#v[2],#v[1,#v[1,#v[1,#v[1,#v[0]]]]]];have S:=Fp (N:=F5.vp) (ps:=F5.Jz) R X d b9 (by decide+kernel) (λ_ _ _ _ _ _ _ _ _ t s f X b=>by rw[kH]at b⊢;obtain⟨_,_,_,rfl⟩:=Kc.js b;exact wA X rfl t rfl rfl rfl) (sp:=K52.orS F5.spFw (K52.Eo CF)) (λvs H Q E h=>h.elim (λh=>Kc.bB h λ_ h=>Kc.bB h λ_ h=>Kc.bB h λ_ h=>Kc.bB h λ_ h=>Kc.bB h λ_ h=>Kc.bB h λ_ h=>Kc.bB h λ_ h=>Kc.fT h rfl) (λh=>Kc.bB h λ_ h=>Kc.bB h λ_ h=>Kc.bB h λ_ h=>Kc.fT h rfl)) (λvs H Q E h=>h.elim (F5.wp_fwU (SF:=K52.orS F5.AJ (K52.uY CF)) (SR:=K52.orS F5.Ib K52.En) (λ_ _ _ _ h=>Or.inl h) (λ_ _ _ _ h=>Or.inl h) #v[] #v[] #v[] #v[] #v[] #v[] vs H Q E) (K52.wp_fwB #v[] i #v[] #v[] vs H Q E));have T:=#v[Lt.pC,Lt.wU,S,c0,Lt.CQ K,Lt.wp_cell,#v[2],#v[1,#v[1,#v[1,#v[0]]]]];have V:=#v[K52.tj,K52.A2,T,c1,F5.spDr K,K52.wp_dr,#v[2],#v[1,#v[1,#v[1,#v[0]]]]];have W:=#v[F5.vn,F5.Dd,V,c2,F5.HY,F5.wp_nm,#v[2],#v[1,#v[1,#v[0]]]];have Y:=#v[F5.tm,F5.A3,W,c3,F5.spAb,F5.wp_ab,#v[3],#v[1,#v[1,#v[1,#v[0]]]]];have Z:=#v[K52.ti,K52.A1,Y,c4,F5.spFr K,K52.wp_fr #v[] #v[] #v[],#v[3],#v[1,#v[1,#v[1,#v[1,#v[0]]]]]];have a0:=#v[F5.tf,F5.A0,Z,c5,F5.spNs K,F5.wp_ns #v[],#v[3],#v[1,#v[1,#v[1,#v[1,#v[0]]]]]];have a1:=#v[K52.nU,K52.ve,a0,c6,K52.spNf,K52.wp_nf,#v[3],#v[1,#v[1,#v[1,#v[1,#v[1,#v[1,#v[1,#v[0]]]]]]]]];have a2:=#v[K52.pB,K52.wR,a1,c7,K52.spNr,K52.wp_nr,#v[2],#v[1,#v[1,#v[1,#v[1,#v[0]]]]]];have a3:=#v[K52.pA,K52.wQ,a2,c8,K52.spRf,K52.wp_rf (xf _) #v[] #v[],#v[4],#v[1,#v[1,#v[1,#v[1,#v[0]]]]]];have g:(sY K52.JJ K52.p_law (bh (top 42))&&ql (bh (top 42)) K52.JJ K52.KE (bM (top 42)))=true:=by decide+kernel
 rw[aN]at g;exact jO.calm (E9 (Kj d1 c k) g.1 g.2 a3 (λvs H Q E h=>Kc.bB h λ_ h=>Kc.bB h λ_ h=>Kc.fT h rfl) (K52.wp_law (CF:=CF) ('G','G','G','G','G','G','G','G','G','G',)))
end K52
open PySem.W
set_option maxRecDepth 100000 in
set_option maxHeartbeats 0 in
theorem PySem.Challenge.cw_copykin_k52_no_frames_holds : PySem.Challenge.rw_copykin_k52_no_frames.Holds := by
 w_on;refine PySem.W.holds_law K52.saidW fun said=>?_
 refine PySem.W.holds_open (q:=K52.vw) (loose:=K52.loo) (Xt:=K52.xt)
  (XP:=PySem.W.XL K52.vw []) (Yf:=Ci (kN K52.Bz K52.BA (λ_=>by kernel_rfl) [])) (Ya:=Cg (kN K52.Bz K52.BA (λ_=>by kernel_rfl) []))
  (YP:=PySem.W.Hook.says (kN K52.Bz K52.BA (λ_=>by kernel_rfl) [])) (N:=4544) (λw=>K52.both (K52.leftA w) (K52.leftB w)) (PySem.W.Hook.of _) (PySem.W.Hook.keeps _)
  (λs e=>PySem.W.xl_of s (gX.mp e).1) PySem.W.XL.keeps
  (by rfl) (by rfl) (by rfl)
  (λs e=>PySem.W.recFacts_of (gX.mp e).2) rfl (by assumption) (by decide+kernel)
  (rfl,rfl,rfl,rfl,rfl,by decide+kernel,) ?hw ?hc
 (case hw=>w_witness2)
 k_fill
 refine Lm.Hx (l:=PySem.Challenge.rw_copykin_k52_no_frames) (n:=63) (k:=28) (x:="_law_script") (CX:=L2.CX0) (sp:=λK=>λvs H Q _=>K52.Ia K vs H Q L2.E0) (tabs:=[]) rfl 'E' rfl (rfl,'E','E',) (λw h Y=>PySem.W.km_in_of Y) ?T ?F (λK H a ns hl ht hS=>(a,ns,rfl,hS,hl,λ_=>rfl,)) (λ_ _ _ _ z=>z)
 case T=>
  intro w s₀ mg mb h G Y p hp;exact nomatch hp
 case F=>
  intro w mg fa h KX G hmg;refine' K52.all_mk KX G hmg ?v1 ?v2 ?v3 ?v4 ?v5 ?v6 ?v7 ?v8 ?v9 ?xc ?m ?o ?k1 ?k2 ?k3 ?k4 ?k5 ?k6 ?bl ?h10 ?h11 ?h12 ?h14 ?h15 ?h16 ?h19 ?h20 ?h21 ?h22 ?h24 ?h25 ?h26 ?h27 ?h28 ?h29 ?h30 ?h32 ?h33 ?h34 ?h35 ?h36 ?h37 ?h39 ?h40 ?h41 ?h42
  (case v1=>k_is);(case v2=>k_is);(case v3=>k_is);(case v4=>k_is);(case v5=>k_is);(case v6=>k_is);(case v7=>k_is);(case v8=>k_is);(case v9=>k_is)
  (case xc=>refine'(?x1,?x2,);(case x1=>k_is);(case x2=>k_exc))
  (case m=>kts_exm)
  (case o=>refine' K52.Kl ?xa ?xb ?xc ?xd ?xe ?xf ?xg ?xh;(case xa=>k_is);(case xb=>k_is);(case xc=>k_is);(case xd=>k_is);(case xe=>k_is);(case xf=>k_is);(case xg=>k_is);(case xh=>k_is))
  (case k1=>kit_is)
  (case k2=>kit_is)
  (case k3=>kit_is)
  (case k4=>kit_is)
  (case k5=>kit_is)
  (case k6=>kit_is)
  (case bl=>
   intro x hx;simp only[R.jw,aG,bu,or_false]at hx;rcases hx with rfl|rfl|rfl|rfl|rfl|rfl|rfl|rfl|rfl|rfl|rfl|rfl|rfl|rfl|rfl|rfl|rfl|rfl|rfl|rfl<;>k_is)
  (case h10=>refine' R.cO ?a ?l ?c ?k;(case a=>k_is);(case l=>k_is);(case c=>k_is);(case k=>k_is))
  (case h11=>refine' R.cO ?a ?l ?c ?k;(case a=>k_is);(case l=>k_is);(case c=>k_is);(case k=>k_is))
  (case h12=>refine' R.cO ?a ?l ?c ?k;(case a=>k_is);(case l=>k_is);(case c=>k_is);(case k=>k_is))
  (case h14=>refine' R.cO ?a ?l ?c ?k;(case a=>k_is);(case l=>k_is);(case c=>k_is);(case k=>k_is))
  (case h15=>refine' R.cO ?a ?l ?c ?k;(case a=>k_is);(case l=>k_is);(case c=>k_is);(case k=>k_is))
  (case h16=>refine' R.cO ?a ?l ?c ?k;(case a=>k_is);(case l=>k_is);(case c=>k_is);(case k=>k_is))
  (case h19=>refine' R.cO ?a ?l ?c ?k;(case a=>k_is);(case l=>k_is);(case c=>k_is);(case k=>k_is))
  (case h20=>refine' R.cO ?a ?l ?c ?k;(case a=>k_is);(case l=>k_is);(case c=>k_is);(case k=>k_is))
  (case h21=>refine' R.cO ?a ?l ?c ?k;(case a=>k_is);(case l=>k_is);(case c=>k_is);(case k=>k_is))
  (case h22=>refine' K52.xY ?a ?l ?c ?k ?t;(case a=>k_is);(case l=>k_is);(case c=>k_is);(case k=>k_is);(case t=>k_is))
  (case h24=>refine' R.cO ?a ?l ?c ?k;(case a=>k_is);(case l=>k_is);(case c=>k_is);(case k=>k_is))
  (case h25=>refine' R.cO ?a ?l ?c ?k;(case a=>k_is);(case l=>k_is);(case c=>k_is);(case k=>k_is))
  (case h26=>refine' R.cO ?a ?l ?c ?k;(case a=>k_is);(case l=>k_is);(case c=>k_is);(case k=>k_is))
  (case h27=>refine' R.cO ?a ?l ?c ?k;(case a=>k_is);(case l=>k_is);(case c=>k_is);(case k=>k_is))
  (case h28=>refine' R.cO ?a ?l ?c ?k;(case a=>k_is);(case l=>k_is);(case c=>k_is);(case k=>k_is))
  (case h29=>refine' R.cO ?a ?l ?c ?k;(case a=>k_is);(case l=>k_is);(case c=>k_is);(case k=>k_is))
  (case h30=>refine' K52.xY ?a ?l ?c ?k ?t;(case a=>k_is);(case l=>k_is);(case c=>k_is);(case k=>k_is);(case t=>k_is))
  (case h32=>refine' R.cO ?a ?l ?c ?k;(case a=>k_is);(case l=>k_is);(case c=>k_is);(case k=>k_is))
  (case h33=>refine' R.cO ?a ?l ?c ?k;(case a=>k_is);(case l=>k_is);(case c=>k_is);(case k=>k_is))
  (case h34=>refine' R.cO ?a ?l ?c ?k;(case a=>k_is);(case l=>k_is);(case c=>k_is);(case k=>k_is))
  (case h35=>refine' R.cO ?a ?l ?c ?k;(case a=>k_is);(case l=>k_is);(case c=>k_is);(case k=>k_is))
  (case h36=>refine' R.cO ?a ?l ?c ?k;(case a=>k_is);(case l=>k_is);(case c=>k_is);(case k=>k_is))
  (case h37=>refine' R.cO ?a ?l ?c ?k;(case a=>k_is);(case l=>k_is);(case c=>k_is);(case k=>k_is))
  (case h39=>refine' R.cO ?a ?l ?c ?k;(case a=>k_is);(case l=>k_is);(case c=>k_is);(case k=>k_is))
  (case h40=>refine' R.cO ?a ?l ?c ?k;(case a=>k_is);(case l=>k_is);(case c=>k_is);(case k=>k_is))
  (case h41=>refine' R.cO ?a ?l ?c ?k;(case a=>k_is);(case l=>k_is);(case c=>k_is);(case k=>k_is))
  (case h42=>refine' R.cO ?a ?l ?c ?k;(case a=>k_is);(case l=>k_is);(case c=>k_is);(case k=>k_is))
