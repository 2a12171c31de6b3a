import PyProof.Rows.All
import KE.RegKTryMore
import KE.KFromBytes
import KE.KDictOf
import KE.KLam
import KE.KNestM
import KE.KEqDict
import KE.KRevIter
import KE.KUnpack
import KE.KDictSum
import KE.RegKIsAll
import KE.KSortTup
import KE.KPairComp
import Lean
import PySem.Challenge.RW_copykin_k73_refused_kin
local macro_rules|`(command|abbrev $d:declId $s:optDeclSig $v:declVal)=>`(command|noncomputable def $d:declId $s:optDeclSig $v:declVal)
open Array renaming length_toList->cq,getElem?_eq_some_iff->cK,perm_iff_toList_perm->gU,mem_toList_iff->kq,getElem?_eq_none->pB,getElem?_toList->pZ,getElem?_setIfInBounds_self_of_lt->qF,find?_toList->uO,ext'->Cm,getD->OU,forIn_toList->OV
open Bool renaming false_ne_true->ao,and_eq_true->az,false_eq_true->aY,or_eq_true->cJ,false_and->cU,eq_iff_iff->dE,and_false->dP,and_eq_true_iff->eQ,true_and->fh,not_true->gF,eq_false_iff->wy,beq_eq_decide_eq->Ks
open Classical renaming byContradiction->gM
open False renaming elim->gT
open ForInStep renaming yield->hZ
open Function renaming comp->Ax
open Int renaming toNat_natCast->aW,emod_nonneg->bA,emod_lt_of_pos->bR,eq_ofNat_of_zero_le->dJ,zero_add->eN,fdiv_eq_ediv_of_nonneg->Ey
open Int.ofNat renaming inj->zv
open Lean.Name renaming str->cz,anonymous->EJ
open List renaming getElem?_eq_getElem->ae,getD_eq_getElem?_getD->ag,length_map->ai,getElem?_map->ax,mem_cons->aA,range->aC,size_toArray->aE,getElem?_eq_some_iff->aF,mem_cons_of_mem->aG,mem_of_getElem?->aH,mem_singleton->aI,mem_cons_self->aM,mem_map->aN,getElem_mem->aR,lookup_cons->aT,length_cons->aU,replicate->a8,mem_append_right->ba,not_mem_nil->bg,length_eq_zero_iff->bh,all_eq_true->bj,mem_range->bq,length_append->bu,getElem?_range->bw,mem_append->bz,map_cons->bG,mem_iff_getElem?->bN,any_eq_true->bQ,map_map->bT,length_range->bU,getElem?_eq_none->bV,map_congr_left->cu,getElem_map->cw,ext_getElem->cy,map_append->cH,nodup_cons->cT,lookup->de,getElem?_append_right->dg,length_take->di,nodup_append->du,append_nil->dD,mem_iff_getElem->dH,take_add_one->dO,replicate_succ->dR,foldl_cons->dU,set_cons_zero->eD,set_cons_succ->eE,toArray->eI,mem_append_left->eO,length->eP,mem_filter->eU,length_pos_iff->eW,take_of_length_le->eZ,take_length->fj,getElem?_append_left->fB,nodup_nil->fU,getElem_inj->fV,length_nil->gy,pairwise_map->gL,pairwise_iff_getElem->iB,any_cons->iM,find?_cons->iY,getElem?_drop->i5,flatten_cons->ju,ext_getElem?->jv,length_replicate->jU,map_nil->lF,nodup_iff_pairwise_ne->lY,forIn_nil->lZ,filter_append->l7,append_assoc->ni,getElem?_take_of_lt->nK,map_snd_zip->nS,any_map->pV,forIn_cons->pY,length_singleton->qD,length_filter_le->qE,mem_of_mem_take->rj,mem_erase_of_ne->rm,getElem?_set_ne->rn,toList_toArray->tS,mem_map_of_mem->tT,map_eq_nil_iff->tU,filter_sublist->tV,filterMap_cons->tW,zip_cons_cons->vq,lookup_append->vv,getElem_range->vx,find?_eq_none->vy,take_sublist->wm,flatMap_cons->wo,all_map->wq,eraseIdx_eq_take_drop_succ->yN,length_drop->yQ,cons_append->yR,of_mem_zip->Au,nil_append->Av,filter_map->Aw,length_eraseIdx_of_lt->Cq,all_cons->EI,getElem?_cons_zero->GQ,pairwise_lt_range->IA,getElem?_set_self->IB,perm_cons_erase->Kw,map_id->Kx,flatMap_append->OS,filter_eq_self->OT
open List.Pairwise renaming nil->kC
open List.Perm renaming refl->eY,swap->yO
open List.cons renaming injEq->Ky
open Nat renaming le_refl->ay,ne_of_lt->aL,le_trans->aO,lt_of_lt_of_le->aZ,zero_le->a7,lt_succ_of_lt->bP,lt_of_le_of_lt->cR,le_succ->dw,ne_of_gt->dQ,lt_succ_self->eG,le_add_right->eH,lt_irrefl->eL,not_lt_zero->fG,le_succ_of_le->fK,lt_trans->gu,le_of_not_lt->iA,le_of_lt->jH,add_sub_cancel_left->pA,mod_lt->vM,zero_add->yM,le_antisymm->Cj,succ_mul->Ko,le_of_eq->Kq
open Nat.succ renaming inj->i4
open Ne renaming symm->bK
open Option renaming isSome_iff_exists->cA,bind_some->fP,isSome_some->gd,isNone_iff_eq_none->hU,map_some->kB,map_eq_some_iff->nR,getD_none->wk,isSome_none->Kv
open Option.some renaming inj->bo,injEq->iK
open Prod renaming fst->nQ
open PyProof.Rows renaming callWith_type1->bX,IntsAre->cn,listUpdate_at->fZ,callWith_builtin1->i3,boot_list->lX,AllBare->pW,subscriptTail_builtinR->tK,get?_update_seq->tQ,seqEpoch_at->vK,boot_tuple->yL,boot_int->zu,StrsAre->Cc,entry_list_sort->GN,slot_list_sort->Kb,size_push'->Ke,subscriptTail->OE,sortedAll_old->OF
open PyProof.Rows.F renaming plain_set_update_loop->gw,entry_set_update_loop->nJ
open PySem renaming wpAny_bind->aa,wpAny_pure->aj,starEach->bf,mainGlobals->bx,mem_of_lookup->bB,SetTable->bI,wpAny_holding->bY,wpAny_setField_rec->cb,wpAny_newObj_type->cm,wpAny_call_entry->cC,cellsFrom->cO,compareOp->cZ,wpAny_mono->da,wpAny_callSpecial?_slot->dh,wpAny_seqItems->dm,wpAny_field->dq,wpAny_truthy_bool->dB,Fin->dN,NameKind->eM,wpAny_pyIter_tuple->eR,sysModules->eS,binaryOp->eV,codeAny_builtin->fg,bootBuiltins->fv,wpAny_Call_Name_kw->fC,FuncData->fE,wpAny_rule->fW,wpAny_attempt->fX,plainId_quiet->fY,scanBound->gp,codeAny->gK,wpAny_setState_of->hW,wpAny_letGo->iE,wpAny_call->iF,strIterType->iG,codeAny_call_builtin->iH,assignEach->iI,wpAny_askSetting->iX,wpAny_standAt->jo,pickOrder->jI,excClassObj->jJ,wpAny_pyIter_list->j9,wpAny_loadPart_at->kb,recursionLimit->ke,foldedSetIterable->ki,codeAny_mono->kj,Value->km,wpAny_isInstance->kW,Within->kX,sliceBounds->lT,sizeLine_eq->lU,GenState->lW,wpAny_passesOwn->mJ,wpAny_richCompare_same_room->ng,noteFrame->nI,builtinsNs->nO,wpAny_of_eq->pQ,keywordEach->pR,fits_of_scanBound->pS,atKey_none_of_get->pT,wpAny_newList->pX,wpAny_eqBool_int->qX,tupleKind->qY,swapsWith->qZ,relayAll->rg,checkBuiltinCall->rh,bindArgs->ri,call_meets->tM,wpAny_updateSeq->tO,letOwnedTupleGo->tP,wpAny_tryCatch->vH,wpAny_setField->vI,setField->vJ,firstArgMember->vL,seqItems?->wg,wpAny_onRaise->yP,wpAny_typeOf->B7,backToKw->Ca,Addr->Cg,setFlight->Er,onTheHeap->Es,noFill_tuple_add->Et,seqIndex_of->EB,Str->EG,codeAny_of_tree->GO,Shared->GP,standAt->Iu,callerA->Iv,wpAny_newTuple->J8,wpAny_loadPart->J9,wpAny_Name->Ka,setsByText->Kf,raiseNew->Kg,isSubtype_type->Kh,isSubtype_stop->Ki,isInstance->Kj,entryFor->Kk,dictSetDefault->Kl,closureFor->Km,swapsWithSole->OD,seq_tuple_add->OG,behindInMarks->OH,attributeBase->OI
open PySem.Around renaming under_plainId->dG,under->EL
open PySem.AutoSeq1 renaming wpAny_loadPart'->md
open PySem.Builtin renaming bitAnd->i6,bitXor->k6
open PySem.Builtin.Builtins renaming bindParams->fO
open PySem.Builtin.List renaming listTooLong->gN,listTouch->ma,listLengthHint->uM,listExtendWith->uN
open PySem.Builtin.Range renaming rangeSize->wx
open PySem.Builtin.SmallTypes renaming nextOf->cf,ownedTupleIsFree->eB,ownedTupleHandOut->l8
open PySem.Builtin.Str renaming occurrences->iq,strSliceIndices->vA
open PySem.Calls renaming call_function_entry->mL,spliced_cons->uL,Name_function_global->Ck
open PySem.Code renaming quiet_builtin->vz,isFrame->IC
open PySem.EntryCells renaming newEntry->EA
open PySem.F renaming attrBase_ValueError->gv,slot_tuple_iterator_next->iC,excBase_ValueError->kZ,args_tuple_add_2->mK,entry_tuple_add->nh,slot_tuple_add->nP,slot_zip_next->rA,slot_tuple_lt->rB,slot_dict_setdefault->yK,plainAttrs_list->Co,args_tuple_iterator_next_1->Ez,entry_bexc_ga->EH,entry_tuple_iterator_next->EK
open PySem.Heap renaming get?_push_of_some->af,get?_push_size->av,lt_size->aw,get?_update_other->aP,size_push->bc,get?_update_self->bW,SameBut->dj,size_update->nT,get?_none_of_le->rp,MadeExcOf->rq,IsTuple->wu
open PySem.Heap.SameBut renaming update->bM
open PySem.IsL renaming update->Kn
open PySem.Moved renaming trans->Kr
open PySem.NameKind renaming free->ck,cell->dc
open PySem.Obj renaming mapSeq->a9,data_mapFields->fw,mapFields->fN,isFreed_of_fields->jX,data_mapDictKeys->OR
open PySem.Paired renaming length->mM
open PySem.PyData renaming keyHash->ak
open PySem.SeqAt renaming notIn_listAt->OL,EqAt->OM
open PySem.SeqAt.EqAt renaming str_int->EC,int_str->ED
open PySem.SetTable renaming below->cE,grown->fL,insertAt->tR,has->Cn,orStandIn->Iw,relaid->OK
open PySem.SetTable.below renaming go->Cd
open PySem.SetTable.probe renaming go->pU
open PySem.Shared renaming heap->yI
open PySem.Str renaming ofString->aQ,length->Eu
open PySem.Value renaming ref->bD,none->bO,builtin->iJ,str->iZ,int->lE,type->lV,bool->Cb
open PySem.W renaming Frag->ah,fnOf->aB,keepIn->cj,kitOne->cF,mg_of->cL,nsIn->cY,kia_one->dz,kas_sort->dX,codeIn->eF,findIn->fM,kas_descPart->kh,kmHook->kY,looks_findIn->tL,callWith_K->tN,specialIn->uJ,methodObj->uK,findObj->wj,instObj->yJ,lookIn->zt,kas_rev->B9,mroIn->Ce,cellsFrom_some->Ex,looks_clsIn->Iy,codeHd_of_K->Iz,kitx_list->Kt,kitx_dict->Ku,plainGet->ON,openEnds->OO,km_in_of->OP,codeHdIn->OQ
open PySem.W.Hook renaming val->EE,obs->EF
open PySem.W.KasT renaming ret->wt
open PySem.W.Looks renaming here->Cf
open PySem.Walks renaming list->OJ
open PySem.Within renaming cons->Ew
open PySem.pickOrder renaming go->B8
open Sum renaming inl->eK,inr->fJ
open PySem PySem.Spec PyProof.Rows
set_option compiler.extract_closed false
set_option bootstrap.genMatcherCode false
theorem W0{p:Prop}[Decidable p](h:decide p=true):p:=of_decide_eq_true h
local macro_rules|`(($a,$b,*))=>if b.elemsAndSeps.size%2==0 then`(⟨$a,$b,*⟩)else Lean.Macro.throwUnsupported
local macro_rules|`(⇑$s)=>`(($s).heap.objs.size)
local macro_rules|`($a<*$b)=>`($a=some $b)
local macro_rules|`(↥$s)=>`(by simpa using $s)
local macro_rules|`($c:char)=>let i:=Lean.mkIdent;match c.getChar with|'A'=>`($(i `Inv) $(i `X) $(i `pins) $(i `σ) $(i `H) $(i `s))|'B'=>`(wpAny (model $(i `prog) $(i `w)) $(i `A))|'C'=>`(wpAny (model ($(i `X)).prog ($(i `X)).w) ($(i `X)).A)|'D'=>`(by lia)|'E'=>`(by decide)|'F'=>`(by simp)|'G'=>`(by kernel_rfl)|'I'=>`(PySem.Value->PySem.Shared->Prop)|_=>Lean.Macro.throwUnsupported
set_option Elab.async false
set_option linter.all false
set_option maxRecDepth 100000
set_option maxHeartbeats 0
variable {es es' bi:Array (Int×km)}{bv s0 s2 s3 sl cr dt:Array (Option km)}{ac items:Array km}{led:Bool}{rows:List (List Int)}{ts:List (Nat×Int)}{pins pins' pn:List (Cg×PySem.Obj)}{gs hs ms ns qs:List Int}{ch fp tabs:List Cg}{N ks loose ps:List EG}{args bmB ds ad its' kv out rest us vs ws:List km}{ep i j k m n t':Nat}{nf:Nat->EG}{dv dC d func o0 o1 o2 o3 od dL ed:Option Cg}{C CC CN I L S T a ab ar b be c c' dx f fI fa it kS kd l p pl q r to x0:Cg}{A:PySem.Around}{e iter o tg:PySem.Expr}{Qf:dN->GP->Prop}{base h h' h0 h1:PySem.Heap}{bn np p' pos pos' pp:PySem.Pos}{P prog:PySem.Program}{sc sc' scope:PySem.Scope}{s s':GP}{lx qual z:EG}{mA mN mb mg:EG->Option km}{am ct ce dV ap oc pm u:km}{E QQ Q₁ xe:km->GP->Prop}{K:ah}{w:PySem.World}
namespace L2
abbrev aX(s:Stmt):Arguments:=match s with
 |.FunctionDef _ a _ _ _ _ _ _ _ _=>a
 |_=>{posonlyargs:=[],args:=[],vararg:=none,kwonlyargs:=[],kw_defaults:=[],kwarg:=none,defaults:=[]}
abbrev aS(s:Stmt):List Stmt:=match s with
 |.FunctionDef _ _ b _ _ _ _ _ _ _=>b
 |_=>[]
abbrev aJ(s:Stmt):Scope:=match s with
 |.FunctionDef _ _ _ _ _ _ sc _ _ _=>sc
 |_=>{kind:=.function,names:=[],isGenerator:=false,isCoroutine:=false}
end L2
namespace K73
open PySem.Calls
abbrev top(i:Nat):Stmt:=PySem.Challenge.pw_copykin_k73_refused_kin.main.body.getD i (.Pass (0,0,0,0,))
abbrev eT(i j:Nat):Stmt:=match top i with
 |.ClassDef _ _ _ b .. =>b.getD j (.Pass (0,0,0,0,))
 |s=>s
abbrev vw:Program:=
 {PySem.Challenge.pw_copykin_k73_refused_kin with main:={PySem.Challenge.pw_copykin_k73_refused_kin.main with body:=[top 1,top 2,top 3,top 4,top 5,top 6,top 8,top 9,top 10,top 11,top 12,top 13,top 14,top 15,top 16,top 17,top 18,top 19,top 20,top 21,top 23,top 24,top 25,top 26,top 28,top 29,top 30,top 31,top 32,top 34,top 35,top 36,top 37,top 38,top 39,top 40,top 41,top 43,top 44,top 45,top 46,top 48,top 49,top 50,top 51,top 52,top 53,top 54,top 55,top 56,top 57,top 58,top 59,top 60,top 61,top 62]}}
abbrev loo:List Str:=[]
abbrev xt(s:Shared):Bool:=PySem.W.xlAt vw [] s&&PySem.W.recOk [] s
abbrev lhsA(p q:Program)(l:List Str)(w:World):=(OO treeTable p w 5620).map (PySem.W.openSeen q l (importedModules p.main.body) (λs=>PySem.W.xlAt q [] s&&PySem.W.recOk [] s) true)
abbrev seen{α:Type _}(_:α):Bool:=true
def laidA:(seen lhsA)=true:=by k_qdec
abbrev lhsW(l:PySem.W.OpenLaw):Bool:=PySem.W.OpenLaw.wellSaid l
def laidW:(seen lhsW)=true:=by k_qdec
def saidW:lhsW PySem.Challenge.rw_copykin_k73_refused_kin=true:=by
 have _:=laidW;rw[PySem.W.Fast.te9537107668385737851]
 kernel_rfl
def left0(w:World):lhsA PySem.Challenge.pw_copykin_k73_refused_kin vw loo w<*(PySem.W.openGood vw loo):=by
 have _:=laidA;rw[PySem.W.Fast.te4985143671213327901]
 kernel_rfl
def leftA(w:World):(OO treeTable PySem.Challenge.pw_copykin_k73_refused_kin w 5620).map (PySem.W.openSeen vw loo (importedModules PySem.Challenge.pw_copykin_k73_refused_kin.main.body) xt true)<*(PySem.W.openGood vw loo):=left0 w
def both{c d e:Type}{o:Option c}{f:c->d}{g:c->e}{a:d}{b:e}(h:o.map f<*a)(k:o.map g<*b):(o.map λs=>(f s,g s))<*(a,b):=by
 cases o with
 |none=>cases h
 |some x=>injection h with h;injection k with k;rw[<-h,<-k];rfl
end K73
namespace K73
open PySem.Calls L2
set_option hygiene false in
local macro_rules
 | `(#v[$x:str,$t,$r])=>`((ak P $x,.str $x $t,.ref $r,))
 | `(#v[311])=>`(.str "copykin.tables" 311)
 | `(#v[386])=>`(.str "copykin.clashes" 386)
 | `(#v[423])=>`(.str "copykin.trees" 423)
 | `(#v[463])=>`(.str "copykin.standing" 463)
 | `(#v[526])=>`(.str "copykin.aside" 526)
 | `(#v[560])=>`(.str "law_copykin_k73_refused_kin" 560)
 | `(#v[$c:num,$x,$t,$e,$f,$l,$k,$a,$b,$d,$u,$v,$g:num,$i,$m,$z])=>`((nat_lit $c,(.type "code",none,(.fields #[.str $x $t,.str $x $e,.str "/claim/cut.py" $f,.int $l 0,.int $k 0,.int 0 0,.int 0 0,.int 3 0,.ref $a,.bool true,.int 181 0,.ref $b,.none,.none,.none,.ref $d,.int $u 0,.int $l 0,.str "/claim/cut.py" $v]),#[],))::(nat_lit $g,(.type "function",none,(.func (aB $x $x (aX (top $i)) (aS (top $i)) (aJ (top $i)) .none .none .none $m none (.ref $c) .none)),#[],))::$z)
 | `(#v[$c:num,$x,$t,$e,$f,$l,$k,$a,$b,$d,$u,$v,$g:num,$i,$m,$o,$p,$z])=>`((nat_lit $c,(.type "code",none,(.fields #[.str $x $t,.str $x $e,.str "/claim/cut.py" $f,.int $l 0,.int $k 0,.int 0 0,.int 0 0,.int 3 0,.ref $a,.bool true,.int 181 0,.ref $b,.none,.ref $o,.ref $p,.ref $d,.int $u 0,.int $l 0,.str "/claim/cut.py" $v]),#[],))::(nat_lit $g,(.type "function",none,(.func (aB $x $x (aX (top $i)) (aS (top $i)) (aJ (top $i)) .none .none .none $m none (.ref $c) .none)),#[],))::$z)
abbrev DP(P:PySem.Params):ah:=
 (nat_lit 2,(.none,none,(.dict #[] 0),#[],))::
 (nat_lit 3,(.type "dict",none,(.dict #[(ak P "__name__",.str "__name__" 165,.str "law_copykin_k73_refused_kin" 560,),(ak P "__doc__",.str "__doc__" 166,.none,),(ak P "__package__",.str "__package__" 167,.none,),(ak P "__loader__",.str "__loader__" 168,.builtin "__main__.__loader__#opaque",),(ak P "__spec__",.str "__spec__" 169,.none,),#v["__annotations__",170,6],#v["__builtins__",171,4],(ak P "__file__",.str "__file__" 173,.str "/claim/cut.py" 172,),(ak P "__cached__",.str "__cached__" 174,.none,),#v["KinError",206,24],#v["Clash",235,44],#v["Torn",262,63],#v["NoTable",278,75],#v["NoName",294,87],#v["NoTelling",310,99],(ak P "LETTERS",.str "LETTERS" 314,.str "abcdefghijklmnopqrstuvwxyz" 313,),(ak P "LONGEST_NAME",.str "LONGEST_NAME" 316,.int 8 315,),(ak P "MOST_PLACES",.str "MOST_PLACES" 318,.int 60 317,),(ak P "MOST_COPIES",.str "MOST_COPIES" 320,.int 40 319,),#v["is_whole",327,108],#v["is_name",333,113],#v["is_reading",340,120],#v["are_readings",346,125],#v["is_copy",353,132],#v["is_table",359,137],#v["need_table",366,144],#v["need_name",372,149],#v["table_list",378,154],#v["place_count",385,161],#v["KINDS",396,166],#v["first_of_kinds",402,171],#v["clash",414,178],#v["refuse_clash",422,185],#v["group_at",436,192],#v["turned",442,197],#v["grown",448,202],#v["tree",456,209],#v["node_of",462,214],#v["is_telling",472,221],#v["are_tellings",478,226],#v["need_tellings",487,233],#v["that_read",493,238],#v["refuse_torn",504,245],#v["told_nodes",513,252],#v["unknown_places",519,257],#v["first_read",525,262],#v["is_behind",533,267],#v["comes",542,274],#v["comes_of",553,281],#v["set_aside",559,286],#v["_law_cell_at",569,293],#v["_law_whole",576,300],#v["_law_draw",586,307],#v["_law_names",601,314],#v["_law_otherwise",607,319],#v["_law_grown",613,324],#v["_law_held",624,331],#v["_law_truths",635,338],#v["_law_only",641,343],#v["_law_bad_tellings",652,350],#v["_law_bad_pair",661,357],#v["_law_clashing",667,362],#v["_law_torn",673,367],#v["_law_late",686,374],#v["law",692,379]] 65),#[],))::
 (nat_lit 23,(.type "dict",none,(.dict #[(ak P "__module__",.str "__module__" 196,.str "copykin.errors" 187,),(ak P "__firstlineno__",.str "__firstlineno__" 200,.int 2 199,),#v["__static_attributes__",201,22],#v["__weakref__",203,25],(ak P "__doc__",.str "__doc__" 204,.none,)] 3),#[],))::
 (nat_lit 24,(.type "type",none,(.cls {name:="KinError",bases:=[.type "ValueError"],mro:=[.ref 24,.type "ValueError",.type "Exception",.type "BaseException",.type "object"],ns:=23,qualname:="KinError",hasDict:=true,slotNames:=[],subclasses:=[.ref 44,.ref 63,.ref 75,.ref 87,.ref 99],abstract:=false,collection:=none,hasDel:=false}),#[(some (.ref 15)),none,(some (.str "KinError" 189)),(some (.str "KinError" 197)),(some (.builtin "ValueError.__new__")),(some (.bool true))],))::
 (nat_lit 40,(.type "code",none,(.fields #[.str "__init__" 219,.str "Clash.__init__" 220,.str "/claim/cut.py" 221,.int 6 0,.int 4 0,.int 0 0,.int 0 0,.int 3 0,.ref 35,.bool true,.int 181 0,.ref 36,.none,.ref 37,.ref 38,.ref 39,.int 226 0,.int 6 0,.str "/claim/cut.py" 227]),#[],))::
 (nat_lit 41,(.type "function",none,(.func (aB "__init__" "Clash.__init__" (aX (eT 2 0)) (aS (eT 2 0)) (aJ (eT 2 0)) .none .none .none (.str "copykin.errors" 187) none (.ref 40) .none)),#[],))::
 (nat_lit 43,(.type "dict",none,(.dict #[(ak P "__module__",.str "__module__" 214,.str "copykin.errors" 187,),(ak P "__firstlineno__",.str "__firstlineno__" 218,.int 4 217,),#v["__init__",228,41],#v["__static_attributes__",232,42],(ak P "__doc__",.str "__doc__" 233,.none,)] 2),#[],))::
 (nat_lit 44,(.type "type",none,(.cls {name:="Clash",bases:=[.ref 24],mro:=[.ref 44,.ref 24,.type "ValueError",.type "Exception",.type "BaseException",.type "object"],ns:=43,qualname:="Clash",hasDict:=true,slotNames:=[],subclasses:=[],abstract:=false,collection:=none,hasDel:=false}),#[(some (.ref 28)),none,(some (.str "Clash" 207)),(some (.str "Clash" 215)),(some (.builtin "ValueError.__new__")),(some (.bool true))],))::
 (nat_lit 59,(.type "code",none,(.fields #[.str "__init__" 248,.str "Torn.__init__" 249,.str "/claim/cut.py" 250,.int 13 0,.int 3 0,.int 0 0,.int 0 0,.int 3 0,.ref 54,.bool true,.int 181 0,.ref 55,.none,.ref 56,.ref 57,.ref 58,.int 254 0,.int 13 0,.str "/claim/cut.py" 255]),#[],))::
 (nat_lit 60,(.type "function",none,(.func (aB "__init__" "Torn.__init__" (aX (eT 3 0)) (aS (eT 3 0)) (aJ (eT 3 0)) .none .none .none (.str "copykin.errors" 187) none (.ref 59) .none)),#[],))::
 (nat_lit 62,(.type "dict",none,(.dict #[(ak P "__module__",.str "__module__" 243,.str "copykin.errors" 187,),(ak P "__firstlineno__",.str "__firstlineno__" 247,.int 11 246,),#v["__init__",256,60],#v["__static_attributes__",259,61],(ak P "__doc__",.str "__doc__" 260,.none,)] 2),#[],))::
 (nat_lit 63,(.type "type",none,(.cls {name:="Torn",bases:=[.ref 24],mro:=[.ref 63,.ref 24,.type "ValueError",.type "Exception",.type "BaseException",.type "object"],ns:=62,qualname:="Torn",hasDict:=true,slotNames:=[],subclasses:=[],abstract:=false,collection:=none,hasDel:=false}),#[(some (.ref 47)),none,(some (.str "Torn" 236)),(some (.str "Torn" 244)),(some (.builtin "ValueError.__new__")),(some (.bool true))],))::
 (nat_lit 74,(.type "dict",none,(.dict #[(ak P "__module__",.str "__module__" 270,.str "copykin.errors" 187,),(ak P "__firstlineno__",.str "__firstlineno__" 274,.int 17 273,),#v["__static_attributes__",275,73],(ak P "__doc__",.str "__doc__" 276,.none,)] 2),#[],))::
 (nat_lit 75,(.type "type",none,(.cls {name:="NoTable",bases:=[.ref 24],mro:=[.ref 75,.ref 24,.type "ValueError",.type "Exception",.type "BaseException",.type "object"],ns:=74,qualname:="NoTable",hasDict:=true,slotNames:=[],subclasses:=[],abstract:=false,collection:=none,hasDel:=false}),#[(some (.ref 66)),none,(some (.str "NoTable" 263)),(some (.str "NoTable" 271)),(some (.builtin "ValueError.__new__")),(some (.bool true))],))::
 (nat_lit 86,(.type "dict",none,(.dict #[(ak P "__module__",.str "__module__" 286,.str "copykin.errors" 187,),(ak P "__firstlineno__",.str "__firstlineno__" 290,.int 19 289,),#v["__static_attributes__",291,85],(ak P "__doc__",.str "__doc__" 292,.none,)] 2),#[],))::
 (nat_lit 87,(.type "type",none,(.cls {name:="NoName",bases:=[.ref 24],mro:=[.ref 87,.ref 24,.type "ValueError",.type "Exception",.type "BaseException",.type "object"],ns:=86,qualname:="NoName",hasDict:=true,slotNames:=[],subclasses:=[],abstract:=false,collection:=none,hasDel:=false}),#[(some (.ref 78)),none,(some (.str "NoName" 279)),(some (.str "NoName" 287)),(some (.builtin "ValueError.__new__")),(some (.bool true))],))::
 (nat_lit 98,(.type "dict",none,(.dict #[(ak P "__module__",.str "__module__" 302,.str "copykin.errors" 187,),(ak P "__firstlineno__",.str "__firstlineno__" 306,.int 21 305,),#v["__static_attributes__",307,97],(ak P "__doc__",.str "__doc__" 308,.none,)] 2),#[],))::
 (nat_lit 99,(.type "type",none,(.cls {name:="NoTelling",bases:=[.ref 24],mro:=[.ref 99,.ref 24,.type "ValueError",.type "Exception",.type "BaseException",.type "object"],ns:=98,qualname:="NoTelling",hasDict:=true,slotNames:=[],subclasses:=[],abstract:=false,collection:=none,hasDel:=false}),#[(some (.ref 90)),none,(some (.str "NoTelling" 295)),(some (.str "NoTelling" 303)),(some (.builtin "ValueError.__new__")),(some (.bool true))],))::
 #v[107,"is_whole",321,322,323,28,1,102,103,106,325,326,108,12,#v[311],104,105,
 #v[112,"is_name",328,329,330,30,1,109,110,111,331,332,113,13,#v[311],
 #v[119,"is_reading",334,335,336,36,1,114,115,118,338,339,120,14,#v[311],116,117,
 #v[124,"are_readings",341,342,343,38,1,121,122,123,344,345,125,15,#v[311],
 #v[131,"is_copy",347,348,349,42,1,126,127,130,351,352,132,16,#v[311],128,129,
 #v[136,"is_table",354,355,356,46,1,133,134,135,357,358,137,17,#v[311],
 #v[143,"need_table",360,361,362,54,1,138,139,142,364,365,144,18,#v[311],140,141,
 #v[148,"need_name",367,368,369,57,2,145,146,147,370,371,149,19,#v[311],
 #v[153,"table_list",373,374,375,61,1,150,151,152,376,377,154,20,#v[311],
 #v[160,"place_count",379,380,381,65,1,155,156,159,383,384,161,21,#v[311],157,158,
 (nat_lit 162,(.type "tuple",none,(.seq #[.int 0 388,.int 0 389] 0),#[],))::
 (nat_lit 163,(.type "tuple",none,(.seq #[.int 0 390,.int 1 391] 0),#[],))::
 (nat_lit 164,(.type "tuple",none,(.seq #[.int 1 392,.int 0 393] 0),#[],))::
 (nat_lit 165,(.type "tuple",none,(.seq #[.int 1 394,.int 1 395] 0),#[],))::
 (nat_lit 166,(.type "tuple",none,(.seq #[.ref 162,.ref 163,.ref 164,.ref 165] 0),#[],))::
 #v[170,"first_of_kinds",397,398,399,72,3,167,168,169,400,401,171,24,#v[386],
 #v[177,"clash",403,404,405,79,1,172,173,176,412,413,178,25,#v[386],174,175,
 #v[184,"refuse_clash",415,416,417,88,1,179,180,183,420,421,185,26,#v[386],181,182,
 #v[191,"group_at",425,426,427,93,2,186,187,190,434,435,192,28,#v[423],188,189,
 #v[196,"turned",437,438,439,99,2,193,194,195,440,441,197,29,#v[423],
 #v[201,"grown",443,444,445,101,1,198,199,200,446,447,202,30,#v[423],
 #v[208,"tree",449,450,451,116,1,203,204,207,454,455,209,31,#v[423],205,206,
 #v[213,"node_of",457,458,459,122,2,210,211,212,460,461,214,32,#v[423],
 #v[220,"is_telling",465,466,467,127,2,215,216,219,470,471,221,34,#v[463],217,218,
 #v[225,"are_tellings",473,474,475,133,2,222,223,224,476,477,226,35,#v[463],
 #v[232,"need_tellings",479,480,481,139,2,227,228,231,485,486,233,36,#v[463],229,230,
 #v[237,"that_read",488,489,490,145,2,234,235,236,491,492,238,37,#v[463],
 #v[244,"refuse_torn",494,495,496,147,2,239,240,243,502,503,245,38,#v[463],241,242,
 #v[251,"told_nodes",505,506,507,152,2,246,247,250,511,512,252,39,#v[463],248,249,
 #v[256,"unknown_places",514,515,516,157,3,253,254,255,517,518,257,40,#v[463],
 #v[261,"first_read",520,521,522,164,2,258,259,260,523,524,262,41,#v[463],
 #v[266,"is_behind",528,529,530,171,3,263,264,265,531,532,267,43,#v[526],
 #v[273,"comes",534,535,536,173,3,268,269,272,540,541,274,44,#v[526],270,271,
 #v[280,"comes_of",543,544,545,177,4,275,276,279,551,552,281,45,#v[526],277,278,
 #v[285,"set_aside",554,555,556,185,2,282,283,284,557,558,286,46,#v[526],
 #v[292,"_law_cell_at",562,563,564,190,2,287,288,291,567,568,293,48,#v[560],289,290,
 #v[306,"_law_draw",577,578,579,196,2,301,302,305,584,585,307,50,#v[560],303,304,
 #v[313,"_law_names",587,588,589,202,2,308,309,312,599,600,314,51,#v[560],310,311,
 #v[318,"_law_otherwise",602,603,604,213,2,315,316,317,605,606,319,52,#v[560],
 #v[323,"_law_grown",608,609,610,215,2,320,321,322,611,612,324,53,#v[560],
 #v[330,"_law_held",614,615,616,233,2,325,326,329,622,623,331,54,#v[560],327,328,
 #v[337,"_law_truths",625,626,627,242,3,332,333,336,633,634,338,55,#v[560],334,335,
 #v[342,"_law_only",636,637,638,257,1,339,340,341,639,640,343,56,#v[560],
 #v[349,"_law_bad_tellings",642,643,644,259,2,344,345,348,650,651,350,57,#v[560],346,347,
 #v[356,"_law_bad_pair",653,654,655,268,2,351,352,355,659,660,357,58,#v[560],353,354,
 #v[361,"_law_clashing",662,663,664,271,3,358,359,360,665,666,362,59,#v[560],
 #v[366,"_law_torn",668,669,670,277,2,363,364,365,671,672,367,60,#v[560],
 #v[373,"_law_late",674,675,676,279,5,368,369,372,684,685,374,61,#v[560],370,371,
 #v[378,"law",687,688,689,294,1,375,376,377,690,691,379,62,#v[560],
 []]]]]]]]]]]]]]]]]]]]]]]]]]]]]]]]]]]]]]]]]]]]]
abbrev DQ:List Addr:=[2,3,23,24,40,41,43,44,59,60,62,63,74,75,86,87,98,99,107,108,112,113,119,120,124,125,131,132,136,137,143,144,148,149,153,154,160,161,162,163,164,165,166,170,171,177,178,184,185,191,192,196,197,201,202,208,209,213,214,220,221,225,226,232,233,237,238,244,245,251,252,256,257,261,262,266,267,273,274,280,281,285,286,292,293,306,307,313,314,318,319,323,324,330,331,337,338,342,343,349,350,356,357,361,362,366,367,373,374,378,379]
abbrev lhsB(p:Program)(k:PySem.W.Hook)(w:World):=(OO treeTable p w 5620).map (EF k)
abbrev rhsB(k:PySem.W.Hook)(w:World):=some (EE k w)
def laidB:(seen lhsB&&seen rhsB)=true:=by k_qdec
def leftB(w:World):lhsB PySem.Challenge.pw_copykin_k73_refused_kin (kY K73.DP K73.DQ (λ_=>by kernel_rfl) [151]) w=rhsB (kY K73.DP K73.DQ (λ_=>by kernel_rfl) [151]) w:=by
 have _:=laidB;rw[PySem.W.Fast.te8831495258128655561]
 kernel_rfl
end K73
namespace L2
noncomputable abbrev Key:=Sum Int Str
abbrev xT:Key->Value->Bool
 |.inl k,v=>Value.isInt k v
 |.inr x,v=>Value.isStrOf x v
abbrev keyH(w:World):Key->Int
 |.inl k=>hashInt k
 |.inr x=>hashStr w x
def fq:∀{k:Key}{v:Value},xT k v=true->(∃i t,k=eK i/\v=lE i t)\/(∃x t,k=fJ x/\v=iZ x t)
 |.inl i,v,h=>by obtain⟨t,e⟩:=Value.isInt_shape (k:=i) (v:=v) h;exact .inl (i,t,rfl,e,)
 |.inr x,v,h=>by obtain⟨t,e⟩:=Value.isStrOf_shape (x:=x) (v:=v) h;exact .inr (x,t,rfl,e,)
def JB(i:Int)(t:Tok):xT (.inl i) (.int i t)=true:=by simp[xT,Value.isInt]
def JA(x:Str)(t:Tok):xT (.inr x) (.str x t)=true:=by simp[xT,Value.isStrOf]
def key_ll(a b:Int):decide ((eK a:Key)=eK b)=(a==b):=by
 by_cases e:a=b;·subst e;simp
 .have h:¬(eK a:Key)=eK b:=λq=>e (eK.inj q);rw[decide_eq_false h];exact(beq_eq_false_iff_ne.mpr e).symm
def key_rr(a b:Str):decide ((fJ a:Key)=fJ b)=decide (a=b):=by
 by_cases e:a=b;·subst e;simp
 .have h:¬(fJ a:Key)=fJ b:=λq=>e (fJ.inj q);rw[decide_eq_false h,decide_eq_false e]
def key_lr(a:Int)(b:Str):decide ((eK a:Key)=fJ b)=false:=decide_eq_false (λq=>nomatch q)
def key_rl(a:Str)(b:Int):decide ((fJ a:Key)=eK b)=false:=decide_eq_false (λq=>nomatch q)
abbrev cg(prog:Program)(w:World):PySem.KeyKind prog w Key where
 is:=xT
 hash:=keyH w
 inj:=λv a b f d=>by
  rcases fq f with⟨i,t,rfl,rfl⟩ |⟨x,t,rfl,rfl⟩
  .rcases fq d with⟨j,u,rfl,e⟩ |⟨y,u,rfl,e⟩;·injection e with e1 _;rw[e1]
   .exact nomatch e
  .rcases fq d with⟨j,u,rfl,e⟩ |⟨y,u,rfl,e⟩;·exact nomatch e
   .injection e with e1 _;rw[e1]
 byValue:=λk v h=>by rcases fq h with⟨i,t,rfl,rfl⟩ |⟨x,t,rfl,rfl⟩<;>rfl
 pyHash:=λc h=>by
  rcases fq c with⟨i,t,rfl,rfl⟩ |⟨x,t,rfl,rfl⟩;·exact wpAny_pyHash_int h
  .exact wpAny_pyHash_str h
 eqBool:=λg c h=>by
  rcases fq g with⟨i,t,rfl,rfl⟩ |⟨x,t,rfl,rfl⟩
  .rcases fq c with⟨j,u,rfl,rfl⟩ |⟨y,u,rfl,rfl⟩;·rw[key_ll]at h;exact qX h
   .rw[key_lr]at h;exact ED i t y u _ _ _ _ h
  .rcases fq c with⟨j,u,rfl,rfl⟩ |⟨y,u,rfl,rfl⟩;·rw[key_rl]at h;exact EC x t j u _ _ _ _ h
   .rw[key_rr]at h;exact wpAny_eqBool_str h
 «strs»:=λk x t v h=>by
  rcases fq h with⟨i,u,rfl,e⟩ |⟨y,u,rfl,e⟩;·exact nomatch e
  .injection e with e1 _
   subst e1;cases v<;>rfl
theorem FJ(prog:Program)(w:World)(k:Key)(v:Value):(cg prog w).is k v=xT k v:=rfl
def oA(prog:Program)(w:World)(i:Int)(t:Tok):(cg prog w).is (.inl i) (.int i t)=true:=JB i t
def Dy(prog:Program)(w:World)(x:Str)(t:Tok):(cg prog w).is (.inr x) (.str x t)=true:=JA x t
inductive V where
 |non|bl (b:Bool) |int (i:Int) |str (x:Str) |byt (b:Array UInt8) |flt (b:UInt64) |ref (a:Addr) |ty (n:String)
 deriving DecidableEq
abbrev RelV:V->Value->Prop
 |.non,u=>u=bO
 |.bl b,u=>u=Cb b
 |.int i,u=>∃t,u=lE i t
 |.str x,u=>∃t,u=iZ x t
 |.byt b,u=>∃t,u=Value.bytes b t
 |.flt b,u=>∃t,u=Value.float b t
 |.ref a,u=>u=bD a
 |.ty n,u=>u=lV n
noncomputable abbrev bS:List V->List Value->Prop:=Paired RelV
theorem bS.length{xs:List V}(r:bS xs us):xs.length=us.length:=mM r
theorem bS.get:∀{xs:List V}{us:List Value}{i:Nat}{x:V},bS xs us->xs[i]?<*x->∃u,us[i]?<*u/\RelV x u
 |_,_,_,_,.nil,e=>by simp at e
 |_,_,0,_,.cons r _,e=>by simp at e;subst e;exact(_,rfl,r,)
 |_,_,i+1,x,.cons _ t,e=>by obtain⟨u,a,b⟩:=bS.get (i:=i) (x:=x) t ↥e;exact(u,↥a,b,)
theorem bS.append:∀{xs ys:List V}{us ws:List Value},bS xs us->bS ys ws->bS (xs++ys) (us++ws)
 |_,_,_,_,.nil,s=>s
 |_,_,_,_,.cons r t,s=>.cons r (bS.append t s)
theorem bS.take:∀{xs:List V}{us:List Value}(n:Nat),bS xs us->bS (xs.take n) (us.take n)
 |_,_,0,_=>.nil
 |_,_,_+1,.nil=>.nil
 |_,_,n+1,.cons r t=>.cons r (bS.take n t)
theorem bS.drop:∀{xs:List V}{us:List Value}(n:Nat),bS xs us->bS (xs.drop n) (us.drop n)
 |_,_,0,r=>r
 |_,_,_+1,.nil=>.nil
 |_,_,n+1,.cons _ t=>bS.drop n t
abbrev uH:Option V->Option Value->Prop
 |some v,some u=>RelV v u
 |none,none=>True
 |_,_=>False
abbrev KV{κ:Type}:List (κ×V)->List (κ×Value)->Prop:=Paired λ(p:κ×V)(q:κ×Value)=>p.1=q.1/\RelV p.2 q.2
abbrev kV:Key->V
 |.inl i=>.int i
 |.inr x=>.str x
inductive HO where
 |lst (xs:List V)
 |tup (xs:List V)
 |dK (kvs:List (Key×V)) |dT (kvs:List (List Key×V))
 |set (S:Int->Bool) (n:Nat)
 |ins (C dx:Addr) (fs:List (Str×V))
 |own (x:Addr)
 |xd (fs:List (Str×V))
 |met (f x:Addr)
 |rng (lo hi:Int)
 |frz (o:Obj) (u:HO)
 |tbl (ps:Array Value)
 |ext (φ:Heap->Prop)
noncomputable abbrev Hp:=Addr->Option HO
abbrev upd(H:Hp)(a:Addr)(o:HO):Hp:=λb=>if b=a then some o else H b
def aq{H:Hp}{o:HO}:upd H a o a<*o:=by unfold upd;rw[if_pos rfl]
def aV{H:Hp}{o:HO}(h:b≠a):upd H a o b=H b:=by unfold upd;rw[if_neg h]
def ne_of{H:Hp}{o u:HO}(h:H a<*o)(h':H b<*u)(d:o≠u):a≠b:=by intro e;subst e;rw[h]at h';exact d (bo h')
def bL{H:Hp}{o:HO}(h:H a<*o)(h':H b=none):a≠b:=by intro e;subst e;rw[h]at h';cases h'
section
variable(P:Program)(w:World)
abbrev dA(H:Hp)(h:Heap)(a:Addr):HO->Prop
 |.lst xs=>xs.length<=sizeLine/\∃(ad:List Value)(n:Nat),bS xs ad/\h.get? a<*{cls:=.type "list",data:=.seq ad.toArray n}
 |.tup xs=>xs.length<=sizeLine/\∃ad:List Value,bS xs ad/\IsTup h a ad.toArray
 |.dK kvs=>kvs.length<=sizeLine/\(a==eS)=false/\∃vs,KV kvs vs/\h.DictOf (cg P w) a vs
 |.dT kvs=>kvs.length<=sizeLine/\(a==eS)=false/\∃xs:List (List Key×Addr×Value),
   Paired (λ(p:List Key×V)(q:List Key×Addr×Value)=>p.1=q.1/\H q.2.1<*(.tup (p.1.map kV))/\RelV p.2 q.2.2) kvs xs/\
   ∃o es ep,h.get? a<*o/\o.ExactDict/\o.data=.dict es ep/\es.toList=xs.map (entryOfKey (qY (cg P w)))/\(xs.map (·.1)).Nodup
 |.set S n=>h.SetOf (intKind P w) a S n
 |.ins C dx fs=>H dx<*(.own a)/\fs.length<=1000/\dx≠a/\h.get? a<*(yJ C dx)/\
   ∃mA,h.Ns1 dx mA/\(∀f,uH (fs.lookup f) (mA f))/\kX mA (fs.map (·.1))
 |.own _=>∃o,h.get? a<*o
 |.xd fs=>∃mA,h.Ns1 a mA/\∀f,uH (fs.lookup f) (mA f)
 |.rng lo hi=>∃t u v,h.get? a<*{cls:=.type "range",data:=.fields #[.int lo t,.int hi u,.int 1 v]}
 |.frz o u=>h.get? a<*o/\dA H h a u
 |.tbl ps=>h.get? a<*{cls:=.none,data:=.fields ps}
 |.met f x=>h.get? a<*(uK (.ref f) (.ref x))
 |.ext φ=>φ h/\(∃o,h.get? a<*o)/\∀h1 h2:Heap,φ h1->(∀o,h1.get? a<*o->h2.get? a<*o)->φ h2
def HOk(H:Hp)(h:Heap):Prop:=∀a o,H a<*o->dA P w H h a o
end
section
variable {H H':Hp}{a:Addr}{o:HO}
theorem dA.lt(x:dA P w H h a o):a<h.objs.size:=by
 cases o with
 |lst xs=>obtain⟨_,_,_,_,e⟩:=x;exact aw e
 |tup xs=>obtain⟨_,_,_,p⟩:=x;exact p.lt
 |dK kvs=>obtain⟨_,_,_,_,o,_,_,e,_⟩:=x;exact aw e
 |dT kvs=>obtain⟨_,_,_,_,o,_,_,e,_⟩:=x;exact aw e
 |set S n=>obtain⟨o,_,_,_,e,_⟩:=x;exact aw e
 |ins C dx fs=>obtain⟨_,_,_,e,_⟩:=x;exact aw e
 |own y=>obtain⟨_,e⟩:=x;exact aw e
 |xd fs=>obtain⟨_,⟨_,_,_,e,_⟩,_⟩:=x;exact aw e
 |rng lo hi=>obtain⟨_,_,_,e⟩:=x;exact aw e
 |frz ob u=>obtain⟨e,_⟩:=x;exact aw e
 |tbl ps=>exact aw (show h.get? a<*_ from x)
 |met f y=>exact aw (show h.get? a<*_ from x)
 |ext φ=>obtain⟨_,⟨_,e⟩,_⟩:=x;exact aw e
theorem Paired.qN{e g:Type}{F G:e->g->Prop}:∀{c:List e}{d:List g},Paired F c d->(∀a b,F a b->G a b)->Paired G c d
 |_,_,.nil,_=>.nil
 |_,_,.cons r t,f=>.cons (f _ _ r) (Paired.qN t f)
def dA.ub(x:dA P w H h a o)(k:∀b u,(b=a\/H b<*(.own a))->h.get? b<*u->h'.get? b<*u)
  (D:∀b,H b<*(.own a)->H' b<*(.own a))(E:∀b xs,H b<*(.tup xs)->H' b<*(.tup xs)):dA P w H' h' a o:=by
 induction o with
 |lst xs=>obtain⟨z,l,n,r,e⟩:=x;exact(z,l,n,r,k _ _ (.inl rfl) e,)
 |tup xs=>obtain⟨z,l,r,g,e,c⟩:=x;exact(z,l,r,g,k _ _ (.inl rfl) e,c,)
 |dK kvs=>obtain⟨z,y,F,r,g,j,i,e,c⟩:=x;exact(z,y,F,r,g,j,i,k _ _ (.inl rfl) e,c,)
 |dT kvs=>obtain⟨z,y,xs,r,g,j,i,e,c⟩:=x;exact(z,y,xs,Paired.qN r λp q z=>(z.1,E _ _ z.2.1,z.2.2,),g,j,i,k _ _ (.inl rfl) e,c,)
 |set S n=>obtain⟨g,j,i,t,e,c⟩:=x;exact(g,j,i,t,k _ _ (.inl rfl) e,c,)
 |ins C dx fs=>obtain⟨d,z,ne,e,m,⟨s,j,i,B,c⟩,r⟩:=x;exact(D _ d,z,ne,k _ _ (.inl rfl) e,m,(s,j,i,k _ _ (.inr d) B,c,),r,)
 |own y=>obtain⟨g,e⟩:=x;exact(g,k _ _ (.inl rfl) e,)
 |xd fs=>obtain⟨m,⟨s,j,i,e,c⟩,r⟩:=x;exact(m,(s,j,i,k _ _ (.inl rfl) e,c,),r,)
 |rng lo hi=>obtain⟨t,u,v,e⟩:=x;exact(t,u,v,k _ _ (.inl rfl) e,)
 |frz g u ih=>obtain⟨e,q⟩:=x;exact(k _ _ (.inl rfl) e,ih q,)
 |tbl ps=>have e:h.get? a<*{cls:=.none,data:=.fields ps}:=x;show h'.get? a<*{cls:=.none,data:=.fields ps};exact k a _ (.inl rfl) e
 |met f y=>have e:h.get? a<*(uK (.ref f) (.ref y)):=x;show h'.get? a<*(uK (.ref f) (.ref y));exact k a _ (.inl rfl) e
 |ext φ=>obtain⟨p,⟨o,e⟩,A⟩:=x;exact(A _ _ p λo q=>k _ _ (.inl rfl) q,(o,k _ _ (.inl rfl) e,),A,)
theorem HOk.lt(x:HOk P w H h)(e:H a<*o):a<h.objs.size:=(x a o e).lt
def HOk.fresh(x:HOk P w H h)(e:h.objs.size<=a):H a=none:=by
 cases q:H a with
 |none=>rfl
 |some u=>exact absurd (aZ (x.lt q) e) (eL _)
def HOk.kept(x:HOk P w H h)(k:∀b u,h.get? b<*u->h'.get? b<*u):HOk P w H h':=λa o e=>
 (x a o e).ub (λb u _ q=>k b u q) (λ_ q=>q) λ_ _ q=>q
def HOk.laid(x:HOk P w H h)(k:∀b u,h.get? b<*u->h'.get? b<*u)(f:h.objs.size<=a)(g:dA P w (upd H a o) h' a o):HOk P w (upd H a o) h':=λb u e=>by
 have d:=x.fresh f;by_cases hb:b=a;·subst hb;rw[aq]at e;cases e;exact g
 .rw[aV hb]at e;exact(x b u e).ub (λc v _ q=>k c v q) (λc q=>by rw[aV (bL q d)];exact q) λc i q=>by rw[aV (bL q d)];exact q
end
def Rd(H:Hp)(a:Addr)(u:HO):Prop:=H a<*u\/∃o,H a<*(.frz o u)
def Rd.ok{H:Hp}{u:HO}(r:Rd H a u)(x:HOk P w H h):dA P w H h a u:=by
 rcases r with r|⟨o,r⟩;·exact x a u r
 .obtain⟨_,q⟩:=x a _ r;exact q
abbrev Mut:Option HO->Prop
 |some (.lst _)=>True
 |some (.dK _)=>True
 |some (.dT _)=>True
 |some (.set _ _)=>True
 |some (.ins _ _ _)=>True
 |some (.ext _)=>True
 |_=>False
section
variable {H:Hp}{x e:Addr}{o':HO}
def HOk.write(ok:HOk P w H h)(a:Mut (H x))(f:e=x\/H e<*(.own x))(k:∀b u,b≠e->h.get? b<*u->h'.get? b<*u)(j:∃u,h'.get? e<*u)
  (m:dA P w (upd H x o') h' x o'):HOk P w (upd H x o') h':=λb u q=>by
 have g:∀c y,H c<*(.own y)->c≠x:=λc y r z=>by subst z;rw[r]at a;exact a
 have n:∀c d,H c<*(.tup d)->c≠x:=λc d r z=>by subst z;rw[r]at a;exact a
 by_cases hb:b=x;·subst hb;rw[aq]at q;cases q;exact m
 .rw[aV hb]at q;by_cases hbe:b=e
  .have i:H b<*(.own x):=by
    rcases f with z|z;·exact absurd (hbe.trans z) hb
    .rw[hbe];exact z
   rw[q]at i;cases i;obtain⟨v,l⟩:=j;exact⟨v,by rw[hbe];exact l⟩
  .refine(ok b u q).ub (λc v hc r=>k c v ?_ r) (λc r=>by rw[aV (g c b r)];exact r) λc d r=>by rw[aV (n c d r)];exact r
   rcases hc with rfl|hc;·exact hbe
   .rintro rfl;rcases f with z|z;·exact g c b hc z
    .rw[hc]at z;cases z;exact hb rfl
end
structure Un(fs ex:List Addr)(H H':Hp)(h h':Heap):Prop where
 keep:∀b o,h.get? b<*o->H b=none->b∉fs->b∉ex->h'.get? b<*o
 slot:∀b o,h.get? b<*o->H b=none->b∈fs->b∉ex->∃sl,h'.get? b<*{o with slots:=sl}
 free:∀b o,h.get? b<*o->H b=none->b∉ex->H' b=none
 there:∀b o,h.get? b<*o->b∉ex->∃o',h'.get? b<*o'
 tups:∀b xs,H b<*(.tup xs)->H' b<*(.tup xs)
 frzs:∀b o u,H b<*(.frz o u)->H' b<*(.frz o u)
 tbls:∀b ps,H b<*(.tbl ps)->∃more,H' b<*(.tbl (ps++more))
section
variable {fs fs' ex ex':List Addr}{H H1 H2:Hp}{h2:Heap}{a x e:Addr}{o:HO}
def Un.any(u:Un fs ex H H1 h h1){ob:Obj}(q:h.get? b<*ob)(n:H b=none)(a:b∉ex):∃sl,h1.get? b<*{ob with slots:=sl}:=by
 by_cases hb:b∈fs;·exact u.slot b ob q n hb a
 .exact(ob.slots,u.keep b ob q n hb a,)
def Un.kept(k:∀b u,h.get? b<*u->h'.get? b<*u):Un fs ex H H h h':=
 ⟨λb a q _ _ _=>k b a q,λb a q _ _ _=>(a.slots,k b a q,),λ_ _ _ n _=>n,λb a q _=>(a,k b a q,),λ_ _ q=>q,λ_ _ _ q=>q,λ_ c q=>⟨#[],by rw[q];simp⟩⟩
def Un.refl:Un fs ex H H h h:=Un.kept λ_ _ q=>q
def Un.laid(k:∀b u,h.get? b<*u->h'.get? b<*u)(d:h.objs.size<=a)(c:H a=none):Un fs ex H (upd H a o) h h' where
 keep:=λb u q _ _ _=>k b u q
 slot:=λb u q _ _ _=>(u.slots,k b u q,)
 free:=λb u q n _=>by rw[aV (aL (aZ (aw q) d))];exact n
 there:=λb u q _=>(u,k b u q,)
 tups:=λb e q=>by rw[aV (bL q c)];exact q
 frzs:=λb u e q=>by rw[aV (bL q c)];exact q
 tbls:=λb f q=>⟨#[],by rw[aV (bL q c),q];simp⟩
def Un.write(a:Mut (H x))(g:e=x\/H e<*(.own x))(k:∀b u,b≠e->h.get? b<*u->h'.get? b<*u)(i:∃u,h'.get? e<*u):Un fs ex H (upd H x o) h h':=by
 have f:∀b,H b=none->b≠x:=λb n z=>by subst z;rw[n]at a;exact a
 have d:∀b,H b=none->b≠e:=λb n z=>by
  subst z;rcases g with r|r;·exact f b n r
  .rw[n]at r;cases r
 have c:∀b u,H b<*u->¬Mut (some u)->b≠x:=λb u q nm z=>by subst z;rw[q]at a;exact nm a
 refine⟨λb u q n _ _=>k b u (d b n) q,λb u q n _ _=>(u.slots,k b u (d b n) q,),λb u q n _=>by rw[aV (f b n)];exact n,λb u q _=>?_,
  λb j q=>by rw[aV (c b _ q λz=>z)];exact q,λb u j q=>by rw[aV (c b _ q λz=>z)];exact q,λb l q=>⟨#[],by rw[aV (c b _ q λz=>z),q];simp⟩⟩
 by_cases hbe:b=e;·subst hbe;exact i
 .exact(u,k b u hbe q,)
end
abbrev trk(h:Heap)(H:Hp):List Addr:=(aC h.objs.size).filter λa=>(H a).isSome
abbrev DM(h:Heap)(H:Hp):Heap:=PySem.W.hideAll h (trk h H)
def JG(h:Heap)(H:Hp):(DM h H).objs.size=h.objs.size:=PySem.W.hideAll_size _ _
def xX{H:Hp}{o:Obj}(e:h.get? b<*o)(n:H b=none):(DM h H).get? b<*o:=
 PySem.W.hideAll_get _ e λa=>by have q:(H b).isSome=true:=(eU.mp a).2;rw[n]at q;simp at q
def of_hidT{H:Hp}{o:Obj}(e:(DM h H).get? b<*o):h.get? b<*o/\H b=none:=by
 have a:h.get? b<*o:=PySem.W.of_hideAll (trk h H) e;refine(a,?_,);cases q:H b with
 |none=>rfl
 |some x=>have c:b∈trk h H:=eU.mpr ⟨bq.mpr (aw a),by simp[q]⟩;have z:(DM h H).get? b=none:=PySem.W.hideAll_none (trk h H) c;rw[z]at e;cases e
structure Mod(K:ah)(mg:Str->Option Value)(base:Heap):Prop where
 kin:K.In base
 glob:base.Ns bx mg
 blt:∃mb,base.Ns nO mb/\∀x:Str,x≠"__name__"->mb x=fv x
 nolimit:base.NoLimit
structure Cx where
 prog:Program
 w:World
 K:ah
 mg:Str->Option Value
 base:Heap
 A:Around
 N:List Str
 s₀:Shared
 H₀:Hp
 env:Env
 outer:List Env
 stack:List Env
 ex:List Addr
 fn:Str->Bool
 calm:Bool
 pn:List (Addr×Obj)
 xe:'I'
abbrev frs(l:List Env):List Addr:=l.filterMap (·.frame)
noncomputable abbrev Cx.fs(X:Cx):List Addr:=frs X.outer
def Vis(sc:Scope)(x:Str):Prop:=sc.names.lookup x<*.local\/sc.names.lookup x<*.cell\/sc.names.lookup x<*.free
def Loc(sc:Scope)(x:Str):Prop:=sc.names.lookup x<*.local\/sc.names.lookup x<*.cell
def Look(env:Env)(h:Heap)(m:Str->Option Value)(x:Str)(u:Value):Prop:=
 (env.kindOf x<*.local/\m x<*u)\/((env.kindOf x<*.cell\/env.kindOf x<*.free)/\∃c,env.cells.lookup x<*c/\h.IsCell c (some u))
structure Cx.Ok(X:Cx):Prop where
 mod:Mod X.K X.mg X.base
 kind:X.env.scope.kind=.function
 glob:X.env.globals=bx
 blt:X.env.builtins=nO
 above:X.s₀.heap.objs.size<=X.env.locals
 inj:∀x y c,X.env.cells.lookup x<*c->X.env.cells.lookup y<*c->x=y
 has:∀x,(X.env.kindOf x<*.cell\/X.env.kindOf x<*.free)->∃c,X.env.cells.lookup x<*c
 cab:∀x c,X.fn x=true->X.env.cells.lookup x<*c->X.s₀.heap.objs.size<=c
 hd:X.calm=true->X.A.handled=none
 frames:X.A.frames<*X.stack
 stk:X.stack=X.outer\/(X.stack=X.env::X.outer/\X.env.frame<*X.env.locals)
 exf:∀b∈X.ex,b≠X.env.locals/\∀x c,X.env.cells.lookup x<*c->c≠b
 bs:∀b o,X.base.get? b<*o->X.s₀.heap.get? b<*o/\X.H₀ b=none
 bsz:X.base.objs.size<=X.s₀.heap.objs.size
 noex:∀b o,X.base.get? b<*o->b∉X.ex
 exfs:∀b∈X.ex,b∉X.fs
 x6:X.s₀.heap.FunFrames X.base X.outer
 frf:∀b∈X.fs,X.H₀ b=none
structure Inv(X:Cx)(pins:List (Addr×Obj))(σ:List (Option V))(H:Hp)(s:Shared):Prop where
 ok:X.Ok
 os:s.os=X.s₀.os
 bare:pW s.gens
 base:Un X.fs X.ex X.H₀ H X.s₀.heap s.heap
 loc:∃m,s.heap.Ns X.env.locals m/\∀(i:Nat)(x:Str)(v:V),X.N[i]?<*x->σ[i]?<*(some v)->Vis X.env.scope x->∃u,RelV v u/\Look X.env s.heap m x u
 cell:∀x c,X.env.cells.lookup x<*c->∃v,s.heap.IsCell c v
 free:H X.env.locals=none
 freeC:∀x c,X.env.cells.lookup x<*c->H c=none
 pin:∀p∈X.pn++pins,s.heap.get? p.1<*p.2/\H p.1=none/\p.1≠X.env.locals/\p.1∉X.fs/\∀v,p.2.data≠.cell v
 hok:HOk X.prog X.w H s.heap
 len:σ.length=X.N.length
section
variable {X:Cx}{pins:List (Addr×Obj)}{σ:List (Option V)}{H H':Hp}{s:Shared}
def Cx.Ok.nofr(ok:X.Ok){o:Obj}(e:X.base.get? b<*o):b∉X.fs:=λa=>by have :=(ok.x6.mem a).1;rw[e]at this;cases this
theorem Inv.bs(I:'A'):∀b o,X.base.get? b<*o->s.heap.get? b<*o/\H b=none:=λb o e=>
 (I.base.keep b o (I.ok.bs b o e).1 (I.ok.bs b o e).2 (I.ok.nofr e) (I.ok.noex b o e),I.base.free b o (I.ok.bs b o e).1 (I.ok.bs b o e).2 (I.ok.noex b o e),)
def Inv.bk(I:'A'):∀b o,X.base.get? b<*o->s.heap.get? b<*o:=λb o e=>(I.bs b o e).1
theorem Inv.mod(I:'A'):Mod X.K X.mg X.base:=I.ok.mod
def Inv.kIn(I:'A'):X.K.In s.heap:=I.ok.mod.kin.keeps I.bk
theorem Inv.nolimit(I:'A'):s.heap.NoLimit:=I.ok.mod.nolimit.keeps I.bk
theorem Inv.lt(I:'A'):X.env.locals<⇑s:=let⟨_,hn,_⟩:=I.loc;hn.lt
def Inv.sz(I:'A'):X.s₀.heap.objs.size<=⇑s:=aO I.ok.above (jH I.lt)
def Inv.nofs(I:'A')(h:⇑s<=a):a∉X.fs:=λb=>by obtain⟨_,o,c,_⟩:=I.ok.x6.mem b;exact absurd (aZ (aw c) (aO I.sz h)) (eL _)
def Inv.cne(I:'A'):∀x c,X.env.cells.lookup x<*c->c≠X.env.locals:=λx c e z=>by obtain⟨v,o,b,a⟩:=I.cell x c e;obtain⟨m,⟨i,h,g,f,d,_⟩,_⟩:=I.loc;rw[z,f]at b;cases b;rw[d]at a;cases a
theorem Inv.x6(I:'A'):s.heap.FunFrames X.base X.outer:=by
 have all:∀(l:List Env),(∀b∈frs l,b∈X.fs)->X.s₀.heap.FunFrames X.base l->s.heap.FunFrames X.base l:=by
  intro l
  induction l with
  |nil=>intro _ _;trivial
  |cons env r ih=>intro d h;obtain⟨g,⟨L,o,hf,i,j,f⟩,k⟩:=h;have a:L∈X.fs:=d L (by unfold frs;rw[tW,hf];exact aM);obtain⟨m,e⟩:=I.base.slot L o j (I.ok.frf L a) a λz=>I.ok.exfs L z a;exact⟨g,(L,_,hf,i,e,f,),ih (λb c=>d b (by unfold frs;rw[tW,hf];exact aG _ c)) k⟩
 exact all X.outer (λ_ c=>c) I.ok.x6
theorem Inv.stack(I:'A'):s.heap.FunFrames X.base X.stack:=by
 rcases I.ok.stk with e|⟨e,hf⟩;·rw[e];exact I.x6
 .rw[e];obtain⟨m,a,_⟩:=I.loc;refine .cons (by rw[I.ok.kind];decide) hf a ?_ I.x6;exact rp (aO I.ok.bsz I.ok.above)
def Inv.E4(I:'A'):∀b∈frs X.stack,b∈X.env.locals::X.fs:=λb a=>by
 rcases I.ok.stk with e|⟨e,hf⟩;·rw[e]at a;exact aG _ a
 .rw[e]at a;unfold frs at a;rw[tW,hf]at a;exact a
def Inv.AL(I:'A'):∀b∈frs X.stack,H b=none:=λb hb=>by
 rcases aA.mp (I.E4 b hb)with e|hb;·rw[e];exact I.free
 .obtain⟨_,o,a,_⟩:=I.ok.x6.mem hb;exact I.base.free b o a (I.ok.frf b hb) λz=>I.ok.exfs b z hb
def Inv.step{g':Array lW}{d':Drawn}(I:'A')
  (t:∀b∈ch,(b∈X.ex\/X.s₀.heap.objs.size<=b)/\b≠X.env.locals/\(∀x c,X.env.cells.lookup x<*c->c≠b)/\∀p∈X.pn++pins,p.1≠b)
  (B:∀b o,b≠X.env.locals->b∉X.fs->b∉ch->s.heap.get? b<*o->H b=none->h'.get? b<*o)
  (slot:∀b o,b≠X.env.locals->b∈X.fs->b∉ch->s.heap.get? b<*o->H b=none->∃sl,h'.get? b<*{o with slots:=sl}) (free:∀b o,b∉ch->s.heap.get? b<*o->H b=none->H' b=none)
  (S:∀b o,b∉ch->s.heap.get? b<*o->∃o',h'.get? b<*o')
  (T:∀b xs,H b<*(.tup xs)->H' b<*(.tup xs)) (G:∀b o u,H b<*(.frz o u)->H' b<*(.frz o u)) (R:∀b ps,H b<*(.tbl ps)->∃more,H' b<*(.tbl (ps++more)))
  (P:∀m,s.heap.Ns X.env.locals m->h'.Ns X.env.locals m) (M:HOk X.prog X.w H' h') (J:pW g'):
  Inv X pins σ H' {s with heap:=h',gens:=g',drawn:=d',toks:=t'}:=by
 have neL:∀b o,X.s₀.heap.get? b<*o->b≠X.env.locals:=λb o e=>aL (aZ (aw e) I.ok.above);have y:∀b o,X.s₀.heap.get? b<*o->b∉X.ex->b∉ch:=λb o e a g=>by
  rcases(t b g).1 with z|z;·exact a z
  .exact absurd (aZ (aw e) z) (eL _)
 have C:∀x c,X.env.cells.lookup x<*c->∀v,s.heap.IsCell c v->h'.IsCell c v:=λx c e v ⟨o,h,A⟩=>by
  have w:c∉ch:=λz=>(t c z).2.2.1 x c e rfl;by_cases hc:c∈X.fs;·obtain⟨sl,q⟩:=slot c o (I.cne x c e) hc w h (I.freeC x c e);exact(_,q,A,)
  .exact(o,B c o (I.cne x c e) hc w h (I.freeC x c e),A,)
 refine(I.ok,I.os,J,(λb o e n g a=>?_,λb o e n g a=>?_,λb o e n a=>?_,λb o e a=>?_,λb xs e=>T b xs (I.base.tups b xs e),λb o xs e=>G b o xs (I.base.frzs b o xs e),λb ps e=>?_,),?_,λx c e=>?_,?_,λx c e=>?_,λp D=>?_,M,I.len,);·exact B b o (neL b o e) g (y b o e a) (I.base.keep b o e n g a) (I.base.free b o e n a)
 .obtain⟨sl,f⟩:=I.base.slot b o e n g a;obtain⟨Q,j⟩:=slot b _ (neL b o e) g (y b o e a) f (I.base.free b o e n a);exact(Q,j,)
 .obtain⟨o',f⟩:=I.base.there b o e a;exact free b o' (y b o e a) f (I.base.free b o e n a)
 .obtain⟨o',f⟩:=I.base.there b o e a;exact S b o' (y b o e a) f
 .obtain⟨N,f⟩:=I.base.tbls b ps e;obtain⟨O,j⟩:=R b _ f;exact⟨N++O,by rw[j,Array.append_assoc]⟩
 .obtain⟨m,L,K⟩:=I.loc;refine(m,P m L,λi x v f j F=>?_,);obtain⟨u,r,l⟩:=K i x v f j F;refine(u,r,?_,);rcases l with l|⟨k,c,e,z⟩;·exact .inl l
  .exact .inr (k,c,e,C x c e _ z,)
 .obtain⟨v,z⟩:=I.cell x c e;exact(v,C x c e v z,)
 .obtain⟨m,⟨o,_,_,h,_⟩,_⟩:=I.loc;exact free _ o (λz=>(t _ z).2.1 rfl) h I.free
 .obtain⟨v,o,h,A⟩:=I.cell x c e;exact free c o (λz=>(t c z).2.2.1 x c e rfl) h (I.freeC x c e)
 .obtain⟨e,n,ne,E,d⟩:=I.pin p D;have w:p.1∉ch:=λz=>(t p.1 z).2.2.2 p D rfl;exact(B p.1 p.2 ne E w e n,free p.1 p.2 w e n,ne,E,d,)
def Inv.un(I:'A')(u:Un X.fs [] H H' s.heap h')(j:HOk X.prog X.w H' h'):Inv X pins σ H' {s with heap:=h',toks:=t'}:=by obtain⟨m,⟨o,p,l,c,r⟩,_⟩:=id I.loc;obtain⟨v,h⟩:=u.any c I.free 'F';exact I.step (g':=s.gens) (d':=s.drawn) (ch:=[]) (λ_ z=>nomatch z) (λb o _ a _ e n=>u.keep b o e n a 'F') (λb o _ a _ e n=>u.slot b o e n a 'F') (λb o _ e n=>u.free b o e n 'F') (λb o _ e=>u.there b o e 'F') u.tups u.frzs u.tbls (λq i=>by obtain⟨t,g,f,d,k⟩:=i;rw[c]at d;cases d;exact(_,g,f,h,k,)) j I.bare
def Inv.call{g':Array lW}{d':Drawn}(I:'A')(u:Un (frs X.stack) ch H H' s.heap h')(t:HOk X.prog X.w H' h')(l:pW g')
  (f:∀b∈ch,(b∈X.ex\/X.s₀.heap.objs.size<=b)/\b≠X.env.locals/\(∀x c,X.env.cells.lookup x<*c->c≠b)/\∀p∈X.pn++pins,p.1≠b):
  Inv X pins σ H' {s with heap:=h',gens:=g',drawn:=d',toks:=t'}:=by
 obtain⟨m,⟨o,y,w,g,r⟩,_⟩:=id I.loc;obtain⟨C,d⟩:=u.any g I.free λz=>(f _ z).2.1 rfl;exact I.step (ch:=ch) f (λb o d k a e n=>u.keep b o e n (λz=>(aA.mp (I.E4 b z)).elim d k) a) (λb o _ _ a e n=>u.any e n a) (λb o a e n=>u.free b o e n a) (λb o a e=>u.there b o e a) u.tups u.frzs u.tbls (λA q=>by obtain⟨B,j,i,h,v⟩:=q;rw[g]at h;cases h;exact(_,j,i,d,v,)) t l
def Inv.turned(I:'A')(k:∀b o,b≠it->s.heap.get? b<*o->h'.get? b<*o)(y:H it=none)(d:it≠X.env.locals)
  (i:it∈X.ex\/X.s₀.heap.objs.size<=it)(j:∀x c,X.env.cells.lookup x<*c->c≠it)(l:∀p∈X.pn++pins,p.1≠it):Inv X pins σ H {s with heap:=h',toks:=t'}:=by
 have f:∀b u,H b<*u->b≠it:=λb u e z=>by rw[z,y]at e;cases e
 refine I.step (g':=s.gens) (d':=s.drawn) (ch:=[it]) (λb t=>?_) (λb o _ _ a e _=>k b o (λz=>a (by simp[z])) e) (λb o _ _ a e _=>⟨o.slots,k b o (λz=>a (by simp[z])) e⟩) (λ_ _ _ _ n=>n)
  (λb o a e=>⟨o,k b o (λz=>a (by simp[z])) e⟩) (λ_ _ e=>e) (λ_ _ _ e=>e) (λb B e=>⟨#[],by rw[e];simp⟩) (λm w=>?_) (λb u e=>?_) I.bare
 .have e:b=it:=by simpa using t
  subst e;exact(i,d,j,l,)
 .obtain⟨o,h,g,A,r⟩:=w;exact(o,h,g,k _ o (bK d) A,r,)
 .refine(I.hok b u e).ub (λc v a q=>k c v ?_ q) (λ_ q=>q) λ_ _ q=>q;rcases a with z|z;·rw[z];exact f b u e
  .exact f c _ z
def Inv.tok(I:'A')(t:Nat):Inv X pins σ H {s with toks:=t}:=I.un (h':=s.heap) (t':=t) Un.refl I.hok
theorem Inv.kept(I:'A')(k:∀b u,s.heap.get? b<*u->h'.get? b<*u):Inv X pins σ H {s with heap:=h',toks:=t'}:=I.un (Un.kept k) (I.hok.kept k)
theorem Inv.laid{o:HO}(I:'A')(k:∀b u,s.heap.get? b<*u->h'.get? b<*u)(c:⇑s<=a)(d:dA X.prog X.w (upd H a o) h' a o):
  Inv X pins σ (upd H a o) {s with heap:=h',toks:=t'}:=I.un (Un.laid k c (I.hok.fresh c)) (I.hok.laid k c d)
theorem Inv.write{x e:Addr}{o:HO}(I:'A')(d:Mut (H x))(a:e=x\/H e<*(.own x))(k:∀b u,b≠e->s.heap.get? b<*u->h'.get? b<*u)(c:∃u,h'.get? e<*u)
  (f:dA X.prog X.w (upd H x o) h' x o):Inv X pins σ (upd H x o) {s with heap:=h',toks:=t'}:=I.un (Un.write d a k c) (I.hok.write d a k c f)
def Inv.A8(I:'A')(h:∀p∈pins',s.heap.get? p.1<*p.2/\H p.1=none/\p.1≠X.env.locals/\p.1∉X.fs/\∀v,p.2.data≠.cell v):Inv X pins' σ H s:=
 (I.ok,I.os,I.bare,I.base,I.loc,I.cell,I.free,I.freeC,λp a=>(bz.mp a).elim (λz=>I.pin p (eO _ z)) (h p),I.hok,I.len,)
def xv(e:N.Nodup){x:Str}(a:N[i]?<*x)(b:N[j]?<*x):i=j:=by obtain⟨f,c⟩:=aF.mp a;obtain⟨g,d⟩:=aF.mp b;exact(fV e).mp (c.trans d.symm)
def IM{M:Model}{x:Str}{v:V}{Q:Unit->Shared->Prop}(I:'A')(S:X.N.Nodup)(hi:X.N[i]?<*x)(l:Loc X.env.scope x)(r:RelV v u)
  (h:∀s',Inv X pins (σ.set i (some v)) H s'->(∃a,dj a s.heap s'.heap/\(a=X.env.locals\/X.env.cells.lookup x<*a))->Q () s')(hf:X.fn x=true\/X.env.scope.names.lookup x<*.local:=by first |exact .inl rfl|exact .inr rfl|assumption):wpAny M A (storeName X.env x u) Q E s:=by
 obtain⟨a5,G,Y⟩:=id I.loc;have a1:(X.env.scope.kind== .class||(X.env.scope.kind== .module&&X.env.locals != X.env.globals))=false:=by rw[I.ok.kind];rfl
 have W:i<σ.length:=by rw[I.len];exact(aF.mp hi).1
 have cne:=I.cne;have a0:∀{a:Addr}{w:Heap},(∃o,s.heap.get? a<*o/\H a=none)->dj a s.heap w->HOk X.prog X.w H w:=λ{a w} ha f b ob e=>by
  obtain⟨_,_,U⟩:=ha;refine(I.hok b ob e).ub (λc C hc q=>(f.2 c ?_).trans q) (λ_ q=>q) λ_ _ q=>q;rintro rfl;rcases hc with rfl|hc;·rw[U]at e;cases e
  .rw[U]at hc;cases hc
 rcases l with hk|hk
 .refine wpAny_storeName_local hk G (λw a2 f=>?_) a1;obtain⟨oL,_,_,a3,_⟩:=id G;refine h _ (I.ok,I.os,I.bare,(λb o e n t l=>?_,λb o e n t l=>?_,I.base.free,λb o e l=>?_,I.base.tups,I.base.frzs,I.base.tbls,),(_,a2,λj y R g m D=>?_,),λy c e=>?_,I.free,I.freeC,λp J=>?_,a0 (oL,a3,I.free,) f,↥I.len,) (_,f,.inl rfl,);·exact(f.2 b (aL (aZ (aw e) I.ok.above))).trans (I.base.keep b o e n t l)
  .obtain⟨O,g⟩:=I.base.slot b o e n t l;exact(O,(f.2 b (aL (aZ (aw e) I.ok.above))).trans g,)
  .obtain⟨L,g⟩:=I.base.there b o e l;exact(L,(f.2 b (aL (aZ (aw e) I.ok.above))).trans g,)
  .by_cases hj:j=i;·subst hj;rw[hi]at g;cases g;rw[IB W]at m;cases m;exact⟨u,r,.inl ⟨hk,'F'⟩⟩
   .rw[rn (bK hj)]at m;obtain⟨P,N,q⟩:=Y j y R g m D;refine(P,N,?_,);rcases q with⟨k,e⟩ |⟨k,c,e,z⟩;·refine .inl (k,?_,);have :y≠x:=λe=>hj (xv S g (e▸hi));simp[this,e]
    .exact .inr (k,c,e,z.sameBut f (cne y c e),)
  .obtain⟨C,z⟩:=I.cell y c e;exact(C,z.sameBut f (cne y c e),)
  .obtain⟨e,n,ne,K,d⟩:=I.pin p J;exact((f.2 p.1 ne).trans e,n,ne,K,d,)
 .have F:X.fn x=true:=by
   rcases hf with z|z;·exact z
   .rw[z]at hk;cases hk
  obtain⟨c,hc⟩:=I.ok.has x (.inl hk);obtain⟨C,z⟩:=I.cell x c hc;refine wpAny_storeName_cell I.ok.kind hk hc z (λw T f=>?_);obtain⟨oc,Z,a4⟩:=id z;refine h {s with heap:=w} (I.ok,I.os,I.bare,(λb o e n t l=>?_,λb o e n t l=>?_,I.base.free,λb o e l=>?_,I.base.tups,I.base.frzs,I.base.tbls,),(a5,G.sameBut f (bK (cne x c hc)),λj y R g m D=>?_,),λy B e=>?_,I.free,I.freeC,λp J=>?_,a0 (oc,Z,I.freeC x c hc,) f,↥I.len,) (c,f,.inr hc,);·exact(f.2 b (aL (aZ (aw e) (I.ok.cab x c F hc)))).trans (I.base.keep b o e n t l)
  .obtain⟨O,g⟩:=I.base.slot b o e n t l;exact(O,(f.2 b (aL (aZ (aw e) (I.ok.cab x c F hc)))).trans g,)
  .obtain⟨L,g⟩:=I.base.there b o e l;exact(L,(f.2 b (aL (aZ (aw e) (I.ok.cab x c F hc)))).trans g,)
  .by_cases hj:j=i;·subst hj;rw[hi]at g;cases g;rw[IB W]at m;cases m;exact(u,r,.inr (.inl hk,c,hc,T,),)
   .rw[rn (bK hj)]at m;obtain⟨P,N,q⟩:=Y j y R g m D;refine(P,N,?_,);rcases q with q|⟨k,B,e,z'⟩;·exact .inl q
    .refine .inr (k,B,e,z'.sameBut f ?_,);rintro rfl;exact hj (xv S g (I.ok.inj _ _ _ e hc▸hi))
  .by_cases hcc:B=c;·subst hcc;exact(_,T,)
   .obtain⟨w2,z2⟩:=I.cell y B e;exact(w2,z2.sameBut f hcc,)
  .obtain⟨e,n,ne,K,d⟩:=I.pin p J;refine((f.2 p.1 ?_).trans e,n,ne,K,d,);intro q;rw[q,Z]at e;have q':oc=p.2:=bo e;exact d C (by rw[<-q'];exact a4)
def wN{M:Model}{x:Str}{v:V}{Q:Unit->Shared->Prop}(I:'A')(b:X.N.Nodup)(hi:X.N[i]?<*x)(c:Loc X.env.scope x)(r:RelV v u)
  (h:∀s',Inv X pins (σ.set i (some v)) H s'->Q () s')(hf:X.fn x=true\/X.env.scope.names.lookup x<*.local:=by first |exact .inl rfl|exact .inr rfl|assumption):wpAny M A (storeName X.env x u) Q E s:=
 IM I b hi c r (λs' a _=>h s' a) hf
def Inv.call'(I:'A')(f:s'.os=s.os)(u:Un (frs X.stack) ch H H' s.heap s'.heap)(g:HOk X.prog X.w H' s'.heap)(d:pW s'.gens)
  (a:∀b∈ch,(b∈X.ex\/X.s₀.heap.objs.size<=b)/\b≠X.env.locals/\(∀x c,X.env.cells.lookup x<*c->c≠b)/\∀p∈X.pn++pins,p.1≠b):Inv X pins σ H' s':=by
 obtain⟨i,g',d',t',h⟩:=s';have e:h=s.os:=f;subst e;exact I.call (g':=g') (t':=t') (d':=d') u g d a
end
noncomputable abbrev XK:=Value->Option Addr->Hp->Prop
noncomputable abbrev St:=List (Option V)
noncomputable abbrev VK:=V->Hp->Prop
noncomputable abbrev TE:=St->Hp->VK->Prop
noncomputable abbrev TT:=St->Hp->(Bool->Hp->Prop)->Prop
noncomputable abbrev TA:=St->Hp->(List V->Hp->Prop)->Prop
structure Ends where
 nx:St->Hp->Prop
 rt:VK
 bk:St->Hp->Prop:=λ_ _=>False
 ct:St->Hp->Prop:=λ_ _=>False
noncomputable abbrev TS:=Ends->St->Hp->Prop
def EP(X:Cx)(pins:List (Addr×Obj))(σ:St)(Q:VK)(u:Value)(s':Shared):Prop:=∃v H',Inv X pins σ H' s'/\RelV v u/\Q v H'
def TP(X:Cx)(pins:List (Addr×Obj))(σ:St)(Q:Bool->Hp->Prop)(b:Bool)(s':Shared):Prop:=∃H',Inv X pins σ H' s'/\Q b H'
def AP(X:Cx)(pins:List (Addr×Obj))(σ:St)(Q:List V->Hp->Prop)(us:List Value)(s':Shared):Prop:=∃vs H',Inv X pins σ H' s'/\bS vs us/\Q vs H'
def SP(X:Cx)(pins:List (Addr×Obj))(D:Ends)(f:Flow)(s':Shared):Prop:=
 match f with
 |.next=>∃a H',Inv X pins a H' s'/\D.nx a H'
 |.brk=>∃a H',Inv X pins a H' s'/\D.bk a H'
 |.cont=>∃a H',Inv X pins a H' s'/\D.ct a H'
 |.ret u=>∃v a H',Inv X pins a H' s'/\RelV v u/\D.rt v H'
def PE(X:Cx)(e:Expr)(t:TE):Prop:=
 ∀(pins:List (Addr×Obj))(s:Shared)(σ:St)(H:Hp)(Q:VK),'A'->t σ H Q->'C' (eval e X.env) (EP X pins σ Q) X.xe s
def PT(X:Cx)(e:Expr)(t:TT):Prop:=
 ∀(pins:List (Addr×Obj))(s:Shared)(σ:St)(H:Hp)(Q:Bool->Hp->Prop),'A'->t σ H Q->'C' (isTrue e X.env (eval e X.env)) (TP X pins σ Q) X.xe s
def PW(X:Cx)(e:Expr)(t:TT):Prop:=
 ∀(a:Sem Value)(pins:List (Addr×Obj))(s:Shared)(σ:St)(H:Hp)(Q:Bool->Hp->Prop),'A'->t σ H Q->'C' (isTrue e X.env a) (TP X pins σ Q) X.xe s
def PW.pt{X:Cx}{t:TT}(h:PW X e t):PT X e t:=h _
def PA(X:Cx)(es:List Expr)(t:TA):Prop:=
 ∀(pos:Pos)(pins:List (Addr×Obj))(s:Shared)(σ:St)(H:Hp)(Q:List V->Hp->Prop),'A'->t σ H Q->'C' (spliced (backTo pos (bf es X.env))) (AP X pins σ Q) X.xe s
def PS(X:Cx)(st:Stmt)(t:TS):Prop:=
 ∀(pins:List (Addr×Obj))(s:Shared)(σ:St)(H:Hp)(D:Ends),'A'->t D σ H->'C' (exec st X.env) (SP X pins D) X.xe s
def PSs(X:Cx)(st:List Stmt)(t:TS):Prop:=
 ∀(pins:List (Addr×Obj))(s:Shared)(σ:St)(H:Hp)(D:Ends),'A'->t D σ H->'C' (execs st X.env) (SP X pins D) X.xe s
def thn{c:Type}{t:Sem c}{Q b:c->Shared->Prop}{M:Model}(h:wpAny M A t Q E s)(d:∀a s,Q a s->b a s):wpAny M A t b E s:=da h d λ_ _ x=>x
section
variable {X:Cx}
def qG(i:Nat):TE:=λσ H Q=>∃v,σ[i]?<*(some v)/\Q v H
def tC(v:V):TE:=λ_ H Q=>Q v H
def Md{x:Str}(g:X.N[i]?<*x)(p:Vis X.env.scope x)(b:(x==("__debug__":Str))=false:=by decide) (j:(x==("__classdict__":Str))=false:=by decide):PE X (.Name x pos) (qG i):=by
 intro q s t H Q I h;obtain⟨v,e,h⟩:=h;obtain⟨m,o,k⟩:=I.loc;obtain⟨u,r,l⟩:=k i x v g e p;have a:EP X q t Q u s:=(v,H,I,r,h,);rcases l with⟨hk,n⟩ |⟨hk,c,d,f⟩;·exact Ka (wpAny_loadName_local I.ok.kind hk o n a) b
 .rcases hk with hk|hk;·exact Ka (wpAny_loadName_cell I.ok.kind hk d f a) b
  .exact Ka (wpAny_loadName_free I.ok.kind hk d f a j) b
def Mn{i j pos}:PE X (.Constant (.int i) j pos) (tC (.int i)):=λ_ _ _ H _ I h=>wpAny_Constant_int (.int i,H,I.tok _,(_,rfl,),h,)
def pe_bl{b j pos}:PE X (.Constant (.bool b) j pos) (tC (.bl b)):=λ_ _ _ H _ I h=>Constant_bool (.bl b,H,I,rfl,h,)
def Mj{j pos}:PE X (.Constant .none j pos) (tC .non):=λ_ _ _ H _ I h=>Constant_none (.non,H,I,rfl,h,)
def Mf{x j pos}:PE X (.Constant (.str x) j pos) (tC (.str x)):=λ_ _ _ H _ I h=>Calls.Constant_str (.str x,H,I.tok _,(_,rfl,),h,)
def Gl(X:Cx)(x:Str):Prop:=X.env.kindOf x<*.globalImplicit
def mR{σ:St}{H:Hp}{x:Str}{Q:'I'}(I:'A')(b:Gl X x)(c:X.mg x<*u)(h:Q u s)
  (a:(x==("__debug__":Str))=false:=by decide):'C' (eval (.Name x pos) X.env) Q E s:=
 Ck I.ok.kind b (Calls.loadGlobal_global (by rw[I.ok.glob];exact I.mod.glob.keeps I.bk) c h) a
def jj{σ:St}{H:Hp}{x:Str}{Q:'I'}(I:'A')(d:Gl X x)(e:X.mg x=none)(g:fv x<*u)(h:Q u s)
  (f:x≠"__name__":=by decide) (c:(x==("__debug__":Str))=false:=by decide):'C' (eval (.Name x pos) X.env) Q E s:=by
 obtain⟨i,a,b⟩:=I.mod.blt;exact Ck I.ok.kind d (Calls.loadGlobal_builtin (by rw[I.ok.glob];exact I.mod.glob.keeps I.bk) e (by rw[I.ok.blt];exact a.keeps I.bk) ((b x f).trans g) h) c
def Hn{x:Str}{v:V}(b:Gl X x)(c:X.mg x<*u)(r:RelV v u)(a:(x==("__debug__":Str))=false:=by decide):PE X (.Name x pos) (tC v):=
 λ_ _ _ H _ I h=>mR I b c (v,H,I,r,h,) a
def Hq{x:Str}{v:V}(b:Gl X x)(c:X.mg x=none)(e:fv x<*u)(r:RelV v u)(d:x≠"__name__":=by decide) (a:(x==("__debug__":Str))=false:=by decide):PE X (.Name x pos) (tC v):=
 λ_ _ _ H _ I h=>jj I b c e (v,H,I,r,h,) d a
variable {a b:Expr}{ta tb:TE}
variable {tA tB':TT}{rest:List Expr}
def tAnd(t u:TT):TT:=λσ H Q=>t σ H λc H1=>if c=true then u σ H1 Q else Q false H1
def tOr(t u:TT):TT:=λσ H Q=>t σ H λc H1=>if c=true then Q true H1 else u σ H1 Q
def tNot(t:TT):TT:=λσ H Q=>t σ H λc H1=>Q (!c) H1
def Hj(b:PT X a tA):PW X (.BoolOp .And [a] pos) tA:=by
 intro i d s f H Q I h;refine isTrue_and (thn (b d s f H Q I h) λc g e=>?_);cases c with
 |true=>exact isTrue_and_nil e
 |false=>exact e
def pw_or1(b:PT X a tA):PW X (.BoolOp .Or [a] pos) tA:=by
 intro i d s f H Q I h;refine isTrue_or (thn (b d s f H Q I h) λc g e=>?_);cases c with
 |false=>exact isTrue_or_nil e
 |true=>exact e
def Fj(j:PT X a tA)(k:PW X (.BoolOp .And (b::rest) pos) tB'):PW X (.BoolOp .And (a::b::rest) pos) (tAnd tA tB'):=by
 intro m f s i H Q I h;refine isTrue_and (thn (j f s i H _ I h) λc l ⟨d,e,g⟩=>?_);cases c with
 |true=>exact k m f l i d Q e g
 |false=>exact(d,e,g,)
def pw_or(j:PT X a tA)(k:PW X (.BoolOp .Or (b::rest) pos) tB'):PW X (.BoolOp .Or (a::b::rest) pos) (tOr tA tB'):=by
 intro m f s i H Q I h;refine isTrue_or (thn (j f s i H _ I h) λc l ⟨d,e,g⟩=>?_);cases c with
 |true=>exact(d,e,g,)
 |false=>exact k m f l i d Q e g
def pt_not(d:PT X a tA):PT X (.UnaryOp .Not a pos) (tNot tA):=by intro e s f H Q I h;exact isTrue_not (d e s f H (λc b=>Q (!c) b) I h)
def K6(ta tb:TE):TE:=λσ H Q=>ta σ H λx H1=>∃c,x=.bl c/\if c=true then tb σ H1 Q else Q (.bl false) H1
def tOrV(ta tb:TE):TE:=λσ H Q=>ta σ H λx H1=>∃c,x=.bl c/\if c=true then Q (.bl true) H1 else tb σ H1 Q
def K1(ta:TE):TE:=λσ H Q=>ta σ H λx H1=>∃c,x=.bl c/\Q (.bl (!c)) H1
def Mi{op}{t:TE}(h:PE X a t):PE X (.BoolOp op [a] pos) t:=λc s d H Q I b=>BoolOp_one (h c s d H Q I b)
def Mx(j:PE X a ta)(k:PE X (.BoolOp .And (b::rest) pos) tb):PE X (.BoolOp .And (a::b::rest) pos) (K6 ta tb):=by
 intro g s i H Q I h;refine BoolOp_and (thn (j g s i H _ I h) λv m ⟨x,e,f,l,d⟩=>?_);obtain⟨c,rfl,d⟩:=d;cases l;refine dB ?_;cases c with
 |true=>exact k g m i e Q f d
 |false=>exact(.bl false,e,f,rfl,d,)
def pe_or(j:PE X a ta)(k:PE X (.BoolOp .Or (b::rest) pos) tb):PE X (.BoolOp .Or (a::b::rest) pos) (tOrV ta tb):=by
 intro g s i H Q I h;refine BoolOp_or (thn (j g s i H _ I h) λv m ⟨x,e,f,l,d⟩=>?_);obtain⟨c,rfl,d⟩:=d;cases l;refine dB ?_;cases c with
 |false=>exact k g m i e Q f d
 |true=>exact(.bl true,e,f,rfl,d,)
def pe_not(f:PE X a ta):PE X (.UnaryOp .Not a pos) (K1 ta):=by intro g s j H Q I h;refine UnaryOp_ (thn (f g s j H _ I h) λv k ⟨x,d,e,i,b⟩=>?_);obtain⟨c,rfl,b⟩:=b;cases i;exact not_of (dB (.bl (!c),d,e,rfl,b,))
def tIf(t:TT)(ta tb:TE):TE:=λσ H Q=>t σ H λc H1=>if c=true then ta σ H1 Q else tb σ H1 Q
def Mo{c:Expr}(n:PT X c tA)(l:PE X a ta)(m:PE X b tb):PE X (.IfExp c a b pos) (tIf tA ta tb):=by
 intro e s f H Q I h;refine wpAny_IfExp (thn (n e s f H _ I h) λd k ⟨g,i,j⟩=>?_);cases d with
 |true=>exact l e k f g Q i j
 |false=>exact m e k f g Q i j
end
def SqL(K:ah)(H:Hp)(a:Addr)(xs:List V):Prop:=
 Rd H a (.lst xs)\/
  ∃(o:Obj)(ad:Array Value)(n:Nat),K.lookup a<*o/\o.cls=.type "list"/\o.dict=none/\o.data=.seq ad n/\ad.size<=sizeLine/\bS xs ad.toList
def SqT(K:ah)(H:Hp)(a:Addr)(xs:List V):Prop:=
 Rd H a (.tup xs)\/
  ∃(o:Obj)(ad:Array Value)(n:Nat),K.lookup a<*o/\o.cls=.type "tuple"/\o.data=.seq ad n/\ad.size<=sizeLine/\bS xs ad.toList
abbrev absV:Value->Option V
 |.none=>some .non
 |.bool b=>some (.bl b)
 |.int i _=>some (.int i)
 |.str x _=>some (.str x)
 |.bytes b _=>some (.byt b)
 |.float b _=>some (.flt b)
 |.ref a=>some (.ref a)
 |.type n=>some (.ty n)
 |_=>none
def RelV.abs{x:V}(r:RelV x u):absV u<*x:=by
 cases x with
 |non=>cases r;rfl
 |bl _=>cases r;rfl
 |int _=>obtain⟨t,rfl⟩:=r;rfl
 |str _=>obtain⟨t,rfl⟩:=r;rfl
 |byt _=>obtain⟨t,rfl⟩:=r;rfl
 |flt _=>obtain⟨t,rfl⟩:=r;rfl
 |ref _=>cases r;rfl
 |ty _=>cases r;rfl
def RelV.inj{x y:V}(r:RelV x u)(q:RelV y u):x=y:=bo (r.abs.symm.trans q.abs)
theorem bS.inj{xs ys:List V}(h:bS xs us):bS ys us->xs=ys:=by
 induction h generalizing ys with
 |nil=>intro k;cases k;rfl
 |cons r k ih=>
  intro w;cases w with
  |cons r' w'=>rw[r.inj r',ih w']
section
variable {X:Cx}{pins:List (Addr×Obj)}{σ:St}{H:Hp}{s:Shared}{a:Addr}{xs ys:List V}
def SqL.of(h:H a<*(.lst xs)):SqL K H a xs:=.inl (.inl h)
def SqT.of(h:H a<*(.tup xs)):SqT K H a xs:=.inl (.inl h)
def Inv.list(I:'A')(h:SqL X.K H a xs):∃ad:List Value,bS xs ad/\PlainL s.heap a ad.toArray/\xs.length<=sizeLine:=by
 rcases h with h|⟨o,ad,n,d,b,c,f,g,r⟩;·obtain⟨z,ad,n,r,e⟩:=h.ok I.hok;exact(ad,r,(_,n,e,rfl,rfl,rfl,),z,)
 .refine(ad.toList,r,(o,n,I.kIn a o d,b,c,↥f,),?_,);have e:=r.length;simp only[cq]at e;lia
def Inv.tuple(I:'A')(h:SqT X.K H a xs):∃ad:List Value,bS xs ad/\IsTup s.heap a ad.toArray/\xs.length<=sizeLine:=by
 rcases h with h|⟨o,ad,n,c,b,d,f,r⟩;·obtain⟨z,ad,r,p⟩:=h.ok I.hok;exact(ad,r,p,z,)
 .refine(ad.toList,r,(o,I.kIn a o c,b,n,↥d,),?_,);have e:=r.length;simp only[cq]at e;lia
def Inv.xP(I:'A')(h:SqL X.K H a xs)(h':SqL X.K H a ys):xs=ys:=by
 obtain⟨f,r,⟨o,n,e,_,_,d⟩,_⟩:=I.list h;obtain⟨g,i,⟨k,j,c,_,_,b⟩,_⟩:=I.list h';rw[e]at c;cases c;rw[d]at b;injection b with d1 _
 have :f=g:=by simpa using congrArg Array.toList d1
 subst this;exact r.inj i
def Inv.ku(I:'A')(h:SqT X.K H a xs)(h':SqT X.K H a ys):xs=ys:=by
 obtain⟨f,r,⟨o,e,_,n,d⟩,_⟩:=I.tuple h;obtain⟨g,i,⟨k,c,_,j,b⟩,_⟩:=I.tuple h';rw[e]at c;cases c;rw[d]at b;injection b with d1 _
 have :f=g:=by simpa using congrArg Array.toList d1
 subst this;exact r.inj i
end
section
variable {X:Cx}{st:Stmt}{rest:List Stmt}{t u:TS}{te:TE}
def CA:TS:=λD σ H=>D.nx σ H
def lG(t u:TS):TS:=λD σ H=>t {D with nx:=u D} σ H
def A7:PSs X [] CA:=λ_ _ a H _ I h=>wpAny_execs_nil (a,H,I,h,)
def rK(d:PS X st t)(e:PSs X rest u):PSs X (st::rest) (lG t u):=by
 intro a s i H D I h;refine wpAny_execs_cons (thn (d a s i H {D with nx:=u D} I h) λf g q=>?_);cases f with
 |next =>obtain⟨j,b,c,q⟩:=q;exact e a g j b D c q
 |ret v=>exact q
 |brk=>exact q
 |cont=>exact q
def K5:TS:=λD σ H=>D.bk σ H
def tCont:TS:=λD σ H=>D.ct σ H
def Hk:PS X (.Pass pos) CA:=λ_ _ a H _ I h=>wpAny_Pass (a,H,I,h,)
def L7:PS X (.Break pos) K5:=λ_ _ a H _ I h=>wpAny_Break (a,H,I,h,)
def C5:PS X (.Continue pos) tCont:=λ_ _ a H _ I h=>wpAny_Continue (a,H,I,h,)
def Inv.quiet{σ:St}{H:Hp}(I:'A'):interactive X.env=false:=by simp[interactive,I.ok.kind]
def K2(te:TE):TS:=λD σ H=>te σ H λ_ H1=>D.nx σ H1
def Hl(d:PE X e te)(hs:qZ e none pos.line X.env=pure false:=by rfl):PS X (.Expr e pos) (K2 te):=by intro f s a H D I h;exact wpAny_Expr_any (thn (d f s a H _ I h) λv j ⟨x,b,c,i,g⟩=>(a,b,c,g,)) I.quiet hs
def tRet(te:TE):TS:=λD σ H=>te σ H D.rt
def LZ(d:PE X e te):PS X (.Return (some e) pos) (tRet te):=by intro f s a H D I h;exact wpAny_Return_some (thn (d f s a H _ I h) λv j ⟨x,b,c,i,g⟩=>(x,a,b,c,i,g,))
def KZ:TS:=λD _ H=>D.rt .non H
def ps_retN:PS X (.Return none pos) KZ:=λ_ _ a H _ I h=>wpAny_Return_none (.non,a,H,I,rfl,h,)
def tIfS(c:TT)(t u:TS):TS:=λD σ H=>c σ H λb H1=>if b=true then t D σ H1 else u D σ H1
def ps_if{c:Expr}{a b:List Stmt}{l:TT}(o:PT X c l)(m:PSs X a t)(n:PSs X b u):PS X (.If c a b pos) (tIfS l t u):=by
 intro e s f H D I h;refine wpAny_If (thn (o e s f H _ I h) λd k ⟨g,i,j⟩=>?_);cases d with
 |true=>exact m e k f g D i j
 |false=>exact n e k f g D i j
end
noncomputable abbrev TG:=V->St->Hp->(St->Hp->Prop)->Prop
noncomputable abbrev TGs:=List V->St->Hp->(St->Hp->Prop)->Prop
def PG(X:Cx)(b:Expr)(t:TG):Prop:=
 ∀(pins:List (Addr×Obj))(s:Shared)(σ:St)(H:Hp)(v:V)(u:Value)(Q:St->Hp->Prop),'A'->RelV v u->t v σ H Q->
  'C' (assign b X.env u) (λ_ s'=>∃a H',Inv X pins a H' s'/\Q a H') X.xe s
def PGs(X:Cx)(ts:List Expr)(t:TGs):Prop:=
 ∀(pins:List (Addr×Obj))(s:Shared)(σ:St)(H:Hp)(vs:List V)(us:List Value)(Q:St->Hp->Prop),'A'->bS vs us->t vs σ H Q->
  'C' (assignInOrder ((iI ts X.env).map (·.2)) us) (λ_ s'=>∃a H',Inv X pins a H' s'/\Q a H') X.xe s
section
variable {X:Cx}
def iS(i:Nat):TG:=λv σ H Q=>Q (σ.set i (some v)) H
def A9{x:Str}(b:X.N.Nodup)(hi:X.N[i]?<*x)(c:Loc X.env.scope x)(hf:X.fn x=true\/X.env.scope.names.lookup x<*.local:=by first |exact .inl rfl|exact .inr rfl|assumption):PG X (.Name x pos) (iS i):=by intro d s f H v u Q I r h;exact wpAny_assign_Name (wN I b hi c r (λe a=>(_,H,a,h,)) hf)
def gNil:TGs:=λvs σ H Q=>vs=[]/\Q σ H
def NA(t:TG)(u:TGs):TGs:=λvs σ H Q=>∃v r,vs=v::r/\t v σ H λa H'=>u r a H' Q
def pgs_nil:PGs X [] gNil:=by intro b s a H d c Q I r h;obtain⟨e,h⟩:=h;subst e;cases r;exact assignInOrder_nil (a,H,I,h,)
def Mc{a:List Expr}{t:TG}{u:TGs}(g:PG X e t)(i:PGs X a u)
  (hs:(iI (e::a) X.env).map (·.2)=assign e X.env::(iI a X.env).map (·.2):=by rfl):PGs X (e::a) (NA t u):=by
 intro b s l H p n Q I r h;obtain⟨v,o,f,h⟩:=h;subst f;cases r with
 |cons r rr=>rw[hs];refine assignInOrder_cons (thn (g b s l H _ _ _ I r h) λ_ k ⟨m,c,d,j⟩=>?_);exact i b k m c _ _ Q d rr j
def gTup(K:ah)(n:Nat)(t:TGs):TG:=λv σ H Q=>∃a xs,v=.ref a/\SqT K H a xs/\xs.length=n/\t xs σ H Q
def pg_tup{c:List Expr}{t:TGs}(p:X.calm=true)(h:PGs X c t)
  (w:(iI c X.env).length=n:=by rfl) (x:(iI c X.env).findIdx? (·.1)=none:=by rfl):PG X (.Tuple c k pos) (gTup X.K n t):=by
 intro f s i H v u Q I r d;obtain⟨a,A,l,hq,q,d⟩:=d;subst l;cases r;obtain⟨C,g,y,B⟩:=I.tuple hq;refine assign_Tuple_tuple (I.ok.hd p) y (by simp[w,<-q,g.length]) x λm z=>?_;have j:Inv X f i H {s with heap:=m}:=I.kept (t':=s.toks) λb o e=>z b o (aL (aw e)) e;exact h f _ i H A _ Q j ↥g d
def nU(te:TE)(g:TG):TS:=λD σ H=>te σ H λx H1=>g x σ H1 D.nx
def Fl{b:TE}{g:TG}(j:PE X e b)(k:PG X tg g)(hs:OD [tg] e pos.line X.env=pure false:=by rfl) (l:swappedStores [tg] e X.env=pure none:=by rfl)
  (i:(iI [tg] X.env).map (·.2)=[assign tg X.env]:=by rfl):PS X (.Assign [tg] e pos) (nU b g):=by
 intro a s c H D I h;refine wpAny_Assign_stores (thn (j a s c H _ I h) λv o ⟨x,d,f,n,m⟩=>?_) hs l;rw[i];exact thn (k a o c d x v _ f n m) λ_ p q=>q
def ps_set{x:Str}{a:TE}(f:X.N.Nodup)(hi:X.N[i]?<*x)(j:Loc X.env.scope x)(g:PE X e a)(hs:qZ e (some (.Name x pos')) pos.line X.env=pure false:=by rfl) (hf:X.fn x=true\/X.env.scope.names.lookup x<*.local:=by first |exact .inl rfl|exact .inr rfl|assumption):
  PS X (.Assign [.Name x pos'] e pos) (nU a (iS i)):=by
 intro k s n H D I h;refine wpAny_Assign_Name (thn (g k s n H _ I h) λv o ⟨y,b,c,m,l⟩=>?_) hs;exact wN c f hi j m (λp d=>(_,b,d,l,)) hf
end
structure It where
 go:Nat->Hp->Prop
 yld:Nat->Hp->V->Hp->Prop
 stop:Nat->Hp->Prop
def pv(X:Cx)(pins:List (Addr×Obj))(H:Hp)(b:Addr):Prop:=
 H b=none/\b≠X.env.locals/\b∉X.fs/\(b∈X.ex\/X.s₀.heap.objs.size<=b)/\(∀x c,X.env.cells.lookup x<*c->c≠b)/\∀p∈X.pn++pins,p.1≠b
def Inv.ze{X:Cx}{σ:St}{H H':Hp}(I:'A')(a:⇑s<=b)(d:H' b=none):pv X pins H' b:=by
 refine(d,dQ (aZ I.lt a),I.nofs a,.inr (aO I.sz a),λx c e z=>?_,λp f z=>?_,);·obtain⟨v,q⟩:=I.cell x c e;exact absurd (aZ q.lt (by rw[z];exact a)) (eL _)
 .exact absurd (aZ (aw (I.pin p f).1) (by rw[z];exact a)) (eL _)
structure Turn(P:Program)(w:World)(K:ah)(tg:Expr)(J:It)(fp:List Addr)(it:Addr)(tn:Nat->Heap->Prop):Prop where
 mem:it∈fp
 obj:∀i h,tn i h->∀b∈fp,∃o,h.get? b<*o/\∀v,o.data≠.cell v
 keep:∀i h h',tn i h->(∀b∈fp,∀o,h.get? b<*o->h'.get? b<*o)->tn i h'
 item:∀(X:Cx),X.prog=P->X.w=w->X.K=K->X.calm=true->∀(i:Nat)(pins:List (Addr×Obj))(s:Shared)(σ:St)(H:Hp)(E:'I'),'A'->(∀b∈fp,pv X pins H b)->tn i s.heap->J.go i H->
  wpAny (model P w) X.A (pyNext (.ref it)) (λr s1=>∃u,r<*u/\
   wpAny (model P w) X.A (tP tg (.ref it) u) (λ_ s2=>∃x H',Inv X pins σ H' s2/\RelV x u/\J.yld i H x H'/\tn (i+1) s2.heap/\∀b∈fp,H' b=none) E s1) E s
 done:∀(X:Cx),X.prog=P->X.w=w->X.K=K->X.calm=true->∀(i:Nat)(pins:List (Addr×Obj))(s:Shared)(σ:St)(H:Hp)(E:'I'),'A'->(∀b∈fp,pv X pins H b)->tn i s.heap->J.stop i H->
  wpAny (model P w) X.A (pyNext (.ref it)) (λr s1=>r=none/\Inv X pins σ H s1) E s
 self:∀(A:Around)(i:Nat)(s:Shared)(Q:'I')(E:'I'),tn i s.heap->Q (.ref it) s->wpAny (model P w) A (pyIter (.ref it)) Q E s
noncomputable abbrev TI:=St->Hp->(It->Hp->Prop)->Prop
def PIE(X:Cx)(pins:List (Addr×Obj))(σ:St)(tg:Expr)(R:It->Hp->Prop)(c:Value)(s2:Shared):Prop:=
 ∃(it:Addr)(fp:List Addr)(a:Nat->Heap->Prop)(J:It)(H':Hp),c=.ref it/\Inv X pins σ H' s2/\Turn X.prog X.w X.K tg J fp it a/\a 0 s2.heap/\(∀b∈fp,pv X pins H' b)/\R J H'
def PI(X:Cx)(tg iter:Expr)(wi:TI):Prop:=
 ∀(pins:List (Addr×Obj))(s:Shared)(σ:St)(H:Hp)(R:It->Hp->Prop),'A'->wi σ H R->
  'C' (eval iter X.env) (λv a=>'C' (pyIter v) (PIE X pins σ tg R) X.xe a) X.xe s
def HP{M:Model}{o:Obj}{n:String}{vs:Array Value}{Q:Unit->Shared->Prop}(e:s.heap.get? it<*o)(b:o.cls=.type n)(c:o.data=.fields vs)
  (d:["enumerate","zip","dict_itemiterator","dict_reverseitemiterator","odict_iterator","itertools.zip_longest","itertools.pairwise"].contains n=false)(a:Q () s):wpAny M A (tP tg (.ref it) u) Q E s:=by
 unfold tP;cases tg<;>first
  |exact aj a
  | (cases u<;>first
    |exact aj a
    | (refine aa (wpAny_load e ?_)
       rw[b,c];show wpAny M A (if(["enumerate","zip","dict_itemiterator","dict_reverseitemiterator","odict_iterator","itertools.zip_longest","itertools.pairwise"].contains n&&vs[0]? ==some (rawInt _))=true then _ else _) Q E s;rw[if_neg (by intro h;rw[d,cU]at h;cases h)];exact aj a))
abbrev Itl(K:ah)(a:Addr):It:=
 (λi H=>∃xs x,SqL K H a xs/\xs[i]?<*x,λi H x H'=>H'=H/\∀xs,SqL K H a xs->xs[i]?<*x,λi H=>∃xs,SqL K H a xs/\xs.length<=i,)
abbrev Itt(K:ah)(a:Addr):It:=
 (λi H=>∃xs x,SqT K H a xs/\xs[i]?<*x,λi H x H'=>H'=H/\∀xs,SqT K H a xs->xs[i]?<*x,λi H=>∃xs,SqT K H a xs/\xs.length<=i,)
abbrev Itr(lo:Int)(n:Nat):It:=(λi _=>i<n,λi H x H'=>H'=H/\x=.int (lo+i),λi _=>n<=i,)
def zx(a j:Addr):Turn P w K tg (Itl K a) [j] j (λi h=>h.IsListIter j a i) where
 mem:=by simp
 obj:=λi h f b g=>by
  have e:b=j:=by simpa using g
  subst e;obtain⟨o,e,c,d⟩:=f;exact⟨o,e,λv z=>by rw[d]at z;cases z⟩
 keep:=λi h l f k=>f.at λo e=>k j 'F' o e
 item:=by intro X A C y G i J s M H E I hf f B;subst A C y;obtain⟨Y,x,hq,D⟩:=B;obtain⟨U,F,p,T⟩:=I.list hq;obtain⟨u,R,V⟩:=F.get D;obtain⟨m,n,Q,q,r,t⟩:=hf j 'F';refine wpAny_pyNext_list_item f p.isList (x:=u) ↥R λl L W=>?_;have N:Inv X J M H {s with heap:=l}:=I.turned (t':=s.toks) (λb o g e=>(W.2 b g).trans e) m n q r t;obtain⟨o,e,c,d⟩:=id L;exact⟨u,rfl,HP (s:={s with heap:=l}) e c d 'E' (x,H,N,V,⟨rfl,λys S=>by rw[I.xP S hq];exact D⟩,L,λb g=>(hf b g).1,)⟩
 done:=by intro X A C y G i J s M H E I hf f B;subst A C y;obtain⟨Y,hq,D⟩:=B;obtain⟨U,F,p,T⟩:=I.list hq;obtain⟨m,n,Q,q,r,t⟩:=hf j 'F';have Z:=F.length;exact wpAny_pyNext_list_end (I.ok.hd G) f p.isList (by simp;lia) λl O=>(rfl,I.turned (t':=s.toks) (λb o g e=>O b o g e) m n q r t,)
 self:=λ_ _ _ _ _ f h=>wpAny_pyIter_listiter f h
def EV(a j:Addr):Turn P w K tg (Itt K a) [j] j (λi h=>h.IsTupleIter j a i) where
 mem:=by simp
 obj:=λi h f b g=>by
  have e:b=j:=by simpa using g
  subst e;obtain⟨o,e,c,d⟩:=f;exact⟨o,e,λv z=>by rw[d]at z;cases z⟩
 keep:=λi h l f k=>f.at λo e=>k j 'F' o e
 item:=by intro X A C y J i L s N H E I hf f B;subst A C y;obtain⟨Y,x,hq,D⟩:=B;obtain⟨F,G,p,U⟩:=I.tuple hq;obtain⟨u,S,V⟩:=G.get D;obtain⟨m,n,R,q,r,t⟩:=hf j 'F';refine wpAny_pyNext_tuple_item f (show s.heap.IsTuple a F.toArray from p) (x:=u) ↥S λl M W=>?_;have O:Inv X L N H {s with heap:=l}:=I.turned (t':=s.toks) (λb o g e=>(W.2 b g).trans e) m n q r t;obtain⟨o,e,c,d⟩:=id M;exact⟨u,rfl,HP (s:={s with heap:=l}) e c d 'E' (x,H,O,V,⟨rfl,λys T=>by rw[I.ku T hq];exact D⟩,M,λb g=>(hf b g).1,)⟩
 done:=by intro X A C y J i L s N H E I hf f B;subst A C y;obtain⟨Y,hq,D⟩:=B;obtain⟨F,G,p,U⟩:=I.tuple hq;obtain⟨m,n,R,q,r,t⟩:=hf j 'F';have Z:=G.length;exact wpAny_pyNext_tuple_end (I.ok.hd J) f (show s.heap.IsTuple a F.toArray from p) (by simp;lia) λl Q=>(rfl,I.turned (t':=s.toks) (λb o g e=>Q b o g e) m n q r t,)
 self:=λ_ _ _ _ _ f h=>wpAny_pyIter_tupleiter f h
def EW(c:Addr)(lo:Int)(n:Nat):Turn P w K tg (Itr lo n) [c] c (λi h=>IsRangeIter h c (lo+(i:Nat)*1) ((n:Int)-(i:Nat)) 1) where
 mem:=by simp
 obj:=λi h a b d=>by
  have e:b=c:=by simpa using d
  subst e;exact⟨_,a,λv z=>by have M:Data.fields _=Data.cell v:=z;cases M⟩
 keep:=λi h f a k=>k c 'F' _ a
 item:=by intro X r y q u i A s C H E I hf a x;subst r y q;obtain⟨g,j,G,l,m,p⟩:=hf c 'F';have W:=Walks.range (prog:=X.prog) (w:=X.w) (I.ok.hd u) c lo 1 n;refine W.item i s _ _ x a λv f tk J B L=>?_;obtain⟨t,rfl⟩:=J;have D:Inv X A C H {s with heap:=f,toks:=tk}:=I.turned (λb o d e=>L b o ↥d e) g j l m p;refine(_,rfl,HP (s:={s with heap:=f,toks:=tk}) (n:="range_iterator") B rfl rfl 'E' (.int (lo+i),H,D,(t,?_,),(rfl,rfl,),B,λb d=>(hf b d).1,),);rw[Int.mul_one]
 done:=by intro X r y q u i A s C H E I hf a x;subst r y q;obtain⟨g,j,G,l,m,p⟩:=hf c 'F';exact wpAny_pyNext_range_end (I.ok.hd u) a (by have :n<=i:=x;lia) λf F=>(rfl,I.turned (t':=s.toks) (λb o d e=>F b o d e) g j l m p,)
 self:=λ_ _ _ _ _ a h=>wpAny_pyIter_rangeiter a h
section
variable {X:Cx}
def Nr(K:ah)(tl:TE):TI:=λσ H R=>tl σ H λx H1=>∃a,x=.ref a/\(∃xs,SqL K H1 a xs)/\R (Itl K a) H1
def pi_list{l:Expr}{f:TE}(j:PE X l f):PI X tg l (Nr X.K f):=by
 intro k s r H R I h;refine thn (j k s r H _ I h) λv d ⟨x,g,c,n,m⟩=>?_;obtain⟨a,e,⟨y,hq⟩,q⟩:=m;subst e;cases n;obtain⟨u,w,p,t⟩:=c.list hq;refine j9 p.isList ?_;refine(⇑d,[⇑d],_,_,g,rfl,c.kept (t':=d.toks) λb o e=>af _ e,zx a _,(_,av _ rfl,rfl,rfl,),λb i=>?_,q,);have e:b=⇑d:=by simpa using i
 subst e;exact c.ze (ay _) (c.hok.fresh (ay _))
def C4{σ:St}{H:Hp}{R:It->Hp->Prop}{lo hi:Int}{t u v:Tok}{tk:Nat}(I:'A')(f: -(2^62)<=lo)(g:lo<2^62)(h: -(2^62)<=hi)(i:hi<2^62)
  (q:R (Itr lo (hi-lo).toNat) H):'C' (pyIter (.ref ⇑s)) (PIE X pins σ tg R) E {s with heap:=s.heap.push {cls:=.type "range",data:=.fields #[.int lo t,.int hi u,.int 1 v]},toks:=tk}:=by
 refine wpAny_pyIter_range (IsRange.new ..) (small_one f g h i) ?_;have a:Inv X pins σ H {s with heap:=s.heap.push {cls:=.type "range",data:=.fields #[.int lo t,.int hi u,.int 1 v]},toks:=tk}:=I.kept λb o e=>af _ e;refine((s.heap.push {cls:=.type "range",data:=.fields #[.int lo t,.int hi u,.int 1 v]}).objs.size,[(s.heap.push {cls:=.type "range",data:=.fields #[.int lo t,.int hi u,.int 1 v]}).objs.size],_,_,H,rfl,
  a.kept (t':=tk) λb o e=>af _ e,EW _ lo (hi-lo).toNat,?_,λb j=>?_,q,)
 .have c:lo+((0:Nat):Int)*1=lo:=by simp
  have d:(((hi-lo).toNat:Nat):Int)-((0:Nat):Int)=wx lo hi 1:=by rw[rangeSize_one];split <;>lia
  show IsRangeIter _ _ (lo+((0:Nat):Int)*1) ((((hi-lo).toNat:Nat):Int)-((0:Nat):Int)) 1;rw[c,d];exact av _ rfl
 .have e:b=(s.heap.push {cls:=.type "range",data:=.fields #[.int lo t,.int hi u,.int 1 v]}).objs.size:=by simpa using j
  subst e;exact a.ze (ay _) (a.hok.fresh (ay _))
def Nq(ta:TA):TI:=λσ H R=>ta σ H λvs H1=>∃j:Int,vs=[.int j]∧-(2^62)<=j/\j<2^62/\R (Itr 0 j.toNat) H1
def Np(ta:TA):TI:=λσ H R=>ta σ H λvs H1=>∃i j:Int,vs=[.int i,.int j]/\(-(2^62)<=i/\i<2^62∧-(2^62)<=j/\j<2^62)/\R (Itr i (j-i).toNat) H1
def Jf{a:Expr}{c:TA}{p:Pos}(g:Gl X "range")(i:X.mg "range"=none)(f:PA X [a] c)(hs:bf [a] X.env=[(false,eval a X.env)]:=by rfl):PI X tg (.Call (.Name "range" p) [a] [] pos) (Nq c):=by
 intro k s n H R I h;refine Call_ (jj I g i boot_range (bX (thn (f pos k s n H _ I h) λv u ⟨w,o,d,m,b⟩=>?_) hs rfl));obtain⟨j,e,b,l,q⟩:=b;subst e;cases m with
 |cons r rr=>cases rr;obtain⟨t,rfl⟩:=r;exact call_range_1 (C4 d 'D' 'D' b l ↥q)
def Je{a b:Expr}{f:TA}{p:Pos}(l:Gl X "range")(m:X.mg "range"=none)(k:PA X [a,b] f)(hs:bf [a,b] X.env=[(false,eval a X.env),(false,eval b X.env)]:=by rfl) (d:bf [b] X.env=[(false,eval b X.env)]:=by rfl):
  PI X tg (.Call (.Name "range" p) [a,b] [] pos) (Np f):=by
 intro n s w H R I h;refine Call_ (jj I l m boot_range (bX (thn (k pos n s w H _ I h) λA y ⟨B,x,g,v,c⟩=>?_) (by rw[hs,d]) (by rw[d];rfl)));obtain⟨i,j,e,⟨c,o,u,q4⟩,q⟩:=c;subst e;cases v with
 |cons r rr=>
  cases rr with
  |cons r' rr=>cases rr;obtain⟨t,rfl⟩:=r;obtain⟨z,rfl⟩:=r';exact call_range_2 (C4 g c o u q4 q)
def tFor(wi:TI)(g:TG)(tb:TS):TS:=λD σ H=>wi σ H λJ H1=>∃W:Nat->Nat->St->Hp->Prop,(∃m,W 0 m σ H1)/\∀i m σ H,W i m σ H->
 (J.stop i H/\D.nx σ H)\/(J.go i H/\∃N:St->Hp->Prop,(∀b H',N b H'->∃a,a<m/\W (i+1) a b H')/\∀x H',J.yld i H x H'->g x σ H' λc H2=>tb {D with nx:=N,ct:=N,bk:=D.nx} c H2)
abbrev jL(fp:List Addr)(h:Heap):List (Addr×Obj):=fp.filterMap λb=>(h.get? b).map λo=>(b,o)
def ji{o:Obj}(a:b∈fp)(e:h.get? b<*o):(b,o)∈jL fp h:=List.mem_filterMap.mpr ⟨b,a,by rw[e];rfl⟩
def ui{p:Addr×Obj}(d:p∈jL fp h):p.1∈fp/\h.get? p.1<*p.2:=by
 obtain⟨b,c,e⟩:=List.mem_filterMap.mp d;cases q:h.get? b with
 |none=>rw[q]at e;cases e
 |some o=>rw[q]at e;have a:(b,o)=p:=bo e;subst a;exact(c,q,)
def Inv.pinned{σ:St}{H:Hp}(I:'A')(hf:∀b∈fp,pv X pins H b)(i:∀b∈fp,∃o,s.heap.get? b<*o/\∀v,o.data≠.cell v):Inv X (pins++jL fp s.heap) σ H s:=
 I.A8 λp j=>(bz.mp j).elim (λz=>I.pin p (ba _ z)) λz=>by obtain⟨c,e⟩:=ui z;obtain⟨f,g,h,_⟩:=hf p.1 c;obtain⟨o,a,d⟩:=i p.1 c;rw[e]at a;cases a;exact(e,f,g,h,d,)
def Inv.iN{b:List (Addr×Obj)}{σ:St}{H:Hp}(I:Inv X (pins++b) σ H s):'A':=I.A8 λp a=>I.pin p (ba _ (eO _ a))
def ps_for{C:List Stmt}{O:TI}{g:TG}{tb:TS}(p:PassesOwn (model X.prog X.w) X.A X.env X.xe)(G:X.calm=true)(hi:PI X tg iter O)(hg:PG X tg g)(d:PSs X C tb)
  (hs:∀x,ki iter X.env x=pure x:=by intro _;rfl):PS X (.For tg iter C [] pos) (tFor O g tb):=by
 intro k a5 P H D I a3;refine wpAny_For (thn (hi k a5 P H _ I a3) λa9 s1 h1=>thn h1 λb3 s2 h2=>?_) hs;obtain⟨it,l,N,b1,Q,e,S,T,a6,E,W,⟨m0,w0⟩,turn⟩:=h2;subst e
 --what stays true of the iterator's objects through the loop
 have y:∀{h:Hp},(∀b∈l,h b=none)->∀b∈l,pv X k h b:=λhn b d=>(hn b d,(E b d).2,);refine codeAny_forLoop_any (λn J=>∃i r h,Inv X k r h J/\N i J.heap/\(∀b∈l,h b=none)/\W i n r h) ?_ m0 (0,P,Q,S,a6,λb d=>(E b d).1,w0,);rintro n K ⟨i,s,t,A,M,F,w3⟩;rcases turn i n s t w3 with⟨a7,qn⟩ |⟨go,a0,hN,step⟩;·refine mJ p (thn (T.done X rfl rfl rfl G i k K s t X.xe A (y F) M a7) λa4 s4 ⟨u,U⟩=>?_);subst u;exact wpAny_execs_nil (s,t,U,qn,)
 .refine mJ p (thn (T.item X rfl rfl rfl G i k K s t X.xe A (y F) M go) λa4 s4 ⟨a8,u,h4⟩=>?_);subst u;refine mJ p (thn h4 λ_ L ⟨x,z,V,r5,y5,w,a2⟩=>?_);have Y:=V.pinned (y a2) (T.obj _ _ w);refine mJ p (thn (hg _ L s z x a8 _ Y r5 (step x z y5)) λ_ s6 ⟨b0,R,Z,q6⟩=>?_);refine mJ p (thn (d _ s6 b0 R _ Z q6) λa1 v j=>?_);have B:∀{f:St}{a:Hp},Inv X (k++jL l L.heap) f a v->a0 f a->∃m,m<n/\∃i r h,Inv X k r h v/\N i v.heap/\(∀b∈l,h b=none)/\W i m r h:=λ{f a} c q=>by obtain⟨m',hm,w7⟩:=hN f a q;refine(m',hm,i+1,f,a,c.iN,T.keep _ _ _ w λb d o e=>(c.pin (b,o) (ba _ (ba _ (ji d e)))).1,λb d=>?_,w7,);obtain⟨o,e,b2⟩:=T.obj _ _ w b d;exact(c.pin (b,o) (ba _ (ba _ (ji d e)))).2.1
  cases a1 with
  |next =>obtain⟨f,a,c,q⟩:=j;exact B c q
  |cont=>obtain⟨f,a,c,q⟩:=j;exact B c q
  |brk=>obtain⟨f,a,c,j⟩:=j;exact(f,a,c.iN,j,)
  |ret a9=>obtain⟨x7,f,a,c,r7,j⟩:=j;exact(x7,f,a,c.iN,r7,j,)
end
noncomputable abbrev R2:=V->V->Hp->VK->Prop
def OpR(X:Cx)(f:Value->Value->Sem Value)(r:R2):Prop:=
 ∀(pins:List (Addr×Obj))(s:Shared)(σ:St)(H:Hp)(x y:V)(v u:Value)(Q:VK),'A'->RelV x v->RelV y u->r x y H Q->
  'C' (f v u) (EP X pins σ Q) X.xe s
def UnR(X:Cx)(f:Value->Sem Value)(r:V->Hp->VK->Prop):Prop:=
 ∀(pins:List (Addr×Obj))(s:Shared)(σ:St)(H:Hp)(x:V)(v:Value)(Q:VK),'A'->RelV x v->r x H Q->
  'C' (f v) (EP X pins σ Q) X.xe s
def fA(X:Cx)(f:Value)(r:List V->Hp->VK->Prop):Prop:=
 ∀(pins:List (Addr×Obj))(s:Shared)(σ:St)(H:Hp)(xs:List V)(us:List Value)(Q:VK),'A'->bS xs us->r xs H Q->
  'C' (call f us) (EP X pins σ Q) X.xe s
def TruR(X:Cx)(r:V->Hp->(Bool->Hp->Prop)->Prop):Prop:=
 ∀(pins:List (Addr×Obj))(s:Shared)(σ:St)(H:Hp)(x:V)(v:Value)(Q:Bool->Hp->Prop),'A'->RelV x v->r x H Q->
  'C' (truthy v) (TP X pins σ Q) X.xe s
def tOp(r:R2)(ta tb:TE):TE:=λσ H Q=>ta σ H λx H1=>tb σ H1 λy H2=>r x y H2 Q
def tUn(r:V->Hp->VK->Prop)(ta:TE):TE:=λσ H Q=>ta σ H λx H1=>r x H1 Q
def rI(C:Int->Int->Prop)(g:Int->Int->V):R2:=λx y H Q=>∃i j,x=.int i/\y=.int j/\C i j/\Q (g i j) H
def rI0(g:Int->Int->V):R2:=λx y H Q=>∃i j,x=.int i/\y=.int j/\Q (g i j) H
def rU(g:Int->V):V->Hp->VK->Prop:=λx H Q=>∃i,x=.int i/\Q (g i) H
section
variable {X:Cx}{a b c:Expr}{ta tb tc:TE}
def binT(e:PE X a ta)(g:PE X b tb){σ:St}{H:Hp}{R:V->V->Hp->Prop}(I:'A')
  (h:ta σ H λx H1=>tb σ H1 λy H2=>R x y H2){Q:'I'}{f:Value->Value->Sem Value}
  (hf:∀v u s2 x y H2,Inv X pins σ H2 s2->RelV x v->RelV y u->R x y H2->'C' (f v u) Q X.xe s2):
  'C' (eval a X.env) (λv n=>'C' (eval b X.env) (λu o=>'C' (f v u) Q X.xe o) X.xe n) X.xe s:=by
 refine thn (e pins s σ H _ I h) λv m ⟨x,H1,c,k,i⟩=>?_;refine thn (g pins m σ H1 _ c i) λu s2 ⟨y,H2,d,l,j⟩=>?_;exact hf v u s2 x y H2 d k l j
def pe_op{op:Operator}{r:R2}(g:OpR X (eV op) r)(e:PE X a ta)(f:PE X b tb):PE X (.BinOp a op b pos) (tOp r ta tb):=by intro i s m H Q I h;exact wpAny_BinOp (binT e f I h λv u l x y c d j k q=>g i l m c x y v u Q d j k q)
def pe_un{op:UnaryOp}{r:V->Hp->VK->Prop}(g:UnR X (unaryOp op) r)(f:PE X a ta):PE X (.UnaryOp op a pos) (tUn r ta):=by intro b s c H Q I h;exact UnaryOp_ (thn (f b s c H _ I h) λv k ⟨x,d,e,j,i⟩=>g b k c d x v Q e j i)
def opI{f:Value->Value->Sem Value}{C:Int->Int->Prop}{g:Int->Int->Int}
  (b:∀(i j:Int)(t u:Tok)(s:Shared)(Q:'I')(E:'I'),C i j->Q (.int (g i j) s.toks) {s with toks:=s.toks+1}->'C' (f (.int i t) (.int j u)) Q E s):
  OpR X f (rI C λi j=>.int (g i j)):=by
 intro k s l H x y v u Q I c d h;obtain⟨i,j,rfl,rfl,a,q⟩:=h;obtain⟨t,rfl⟩:=c;obtain⟨e,rfl⟩:=d;exact b i j t e s _ _ a (.int (g i j),H,I.tok _,(_,rfl,),q,)
def opI0{f:Value->Value->Sem Value}{g:Int->Int->Int}
  (a:∀(i j:Int)(t u:Tok)(s:Shared)(Q:'I')(E:'I'),Q (.int (g i j) s.toks) {s with toks:=s.toks+1}->'C' (f (.int i t) (.int j u)) Q E s):
  OpR X f (rI0 λi j=>.int (g i j)):=by
 intro e s k H x y v u Q I b c h;obtain⟨i,j,rfl,rfl,q⟩:=h;obtain⟨t,rfl⟩:=b;obtain⟨d,rfl⟩:=c;exact a i j t d s _ _ (.int (g i j),H,I.tok _,(_,rfl,),q,)
def opB0{f:Value->Value->Sem Value}{g:Int->Int->Bool}
  (a:∀(i j:Int)(t u:Tok)(s:Shared)(Q:'I')(E:'I'),Q (.bool (g i j)) s->'C' (f (.int i t) (.int j u)) Q E s):
  OpR X f (rI0 λi j=>.bl (g i j)):=by
 intro e s k H x y v u Q I b c h;obtain⟨i,j,rfl,rfl,q⟩:=h;obtain⟨t,rfl⟩:=b;obtain⟨d,rfl⟩:=c;exact a i j t d s _ _ (.bl (g i j),H,I,rfl,q,)
def OB(i j:Int):Prop:=0<j/\j<1073741824
def J4(i j:Int):Prop:=0<=j/\j<=1000000/\i.natAbs<2^64
def GL(i j:Int):Prop:=(-(2^64)<i/\i<2^64)\/(-(2^64)<j/\j<2^64)
def GL.ok{i j:Int}(h:GL i j):IntMulOk i j:=by
 rcases h with⟨a,b⟩ |⟨a,b⟩;·exact .of_left (intBits_le_64 a b)
 .exact .of_right (intBits_le_64 a b)
def ET(k:Nat):(0:Int)<=2^k:=by rw[two_pow_cast];exact Int.natCast_nonneg _
def op_add:OpR X (eV .Add) (rI0 λi j=>.int (i+j)):=opI0 λ_ _ _ _ _ _ _ q=>add_int q
def op_sub:OpR X (eV .Sub) (rI0 λi j=>.int (i-j)):=opI0 λ_ _ _ _ _ _ _ q=>sub_int q
def op_mul:OpR X (eV .Mult) (rI GL λi j=>.int (i*j)):=opI λ_ _ _ _ _ _ _ a q=>mul_int q a.ok
def op_fdiv:OpR X (eV .FloorDiv) (rI OB λi j=>.int (i/j)):=opI λi j _ _ _ _ _ a q=>by have b:(0:Int)<j:=a.1;have c:j<1073741824:=a.2;exact floordiv_int 'D' (by rw[Ey i 'D'];exact q) (.inl (PyProof.noPylong_small 'D'))
def op_mod:OpR X (eV .Mod) (rI (λ_ j=>0<j) λi j=>.int (i%j)):=opI λi j _ _ _ _ _ a q=>by have b:(0:Int)<j:=a;exact mod_int' 'D' (by rw[Int.fmod_eq_emod_of_nonneg i 'D'];exact q)
def op_pow:OpR X (eV .Pow) (rI J4 λi j=>.int (i^j.toNat)):=opI λ_ _ _ _ _ _ _ a q=>pow_int_small a.1 a.2.1 a.2.2 q
def op_shl:OpR X (eV .LShift) (rI J4 λi j=>.int (i*2^j.toNat)):=opI λ_ _ _ _ _ _ _ a q=>lshift_int_small a.1 a.2.1 a.2.2 q
def op_shr:OpR X (eV .RShift) (rI (λ_ j=>0<=j) λi j=>.int (i/2^j.toNat)):=opI λi j _ _ _ _ _ a q=>
 rshift_int a (by rw[Ey i (ET _)];exact q)
def op_and:OpR X (eV .BitAnd) (rI0 λi j=>.int (i6 i j)):=opI0 λ_ _ _ _ _ _ _ q=>and_int q
def op_xor:OpR X (eV .BitXor) (rI0 λi j=>.int (k6 i j)):=opI0 λ_ _ _ _ _ _ _ q=>xor_int q
def unI{f:Value->Sem Value}{g:Int->Int}
  (a:∀(i:Int)(t:Tok)(s:Shared)(Q:'I')(E:'I'),Q (.int (g i) s.toks) {s with toks:=s.toks+1}->'C' (f (.int i t)) Q E s):
  UnR X f (rU λi=>.int (g i)):=by
 intro c s d H x v Q I b h;obtain⟨i,rfl,q⟩:=h;obtain⟨t,rfl⟩:=b;exact a i t s _ _ (.int (g i),H,I.tok _,(_,rfl,),q,)
def un_neg:UnR X (unaryOp .USub) (rU λi=>.int (-i)):=unI λ_ _ _ _ _ q=>neg_int q
end
section
variable {X:Cx}{a b c:Expr}{ta tb tc:TE}
def uB{σ:St}{H:Hp}{Q:VK}{k a:Bool}(I:'A')(q:Q (.bl k) H)(e:k=a):EP X pins σ Q (.bool a) s:=by subst e;exact(.bl k,H,I,rfl,q,)
def op_lt:OpR X (cZ .Lt) (rI0 λi j=>.bl (decide (i<j))):=opB0 λ_ _ _ _ _ _ _ q=>lt_int q
def op_le:OpR X (cZ .LtE) (rI0 λi j=>.bl (decide (i<=j))):=opB0 λ_ _ _ _ _ _ _ q=>le_int q
def op_gt:OpR X (cZ .Gt) (rI0 λi j=>.bl (decide (j<i))):=opB0 λ_ _ _ _ _ _ _ q=>gt_int q
def op_ge:OpR X (cZ .GtE) (rI0 λi j=>.bl (decide (j<=i))):=opB0 λ_ _ _ _ _ _ _ q=>ge_int q
def Jm:OpR X (cZ .In) (λx y H Q=>∃i j,x=.str i/\y=.str j/\Q (.bl (!(iq j i 0 j.length 1).isEmpty)) H):=by intro c s e H x y v u Q I a b h;obtain⟨i,j,rfl,rfl,q⟩:=h;obtain⟨t,rfl⟩:=a;obtain⟨d,rfl⟩:=b;exact in_str (uB I q rfl)
def op_isN:OpR X (cZ .Is) (λx y H Q=>y=.non/\Q (.bl (decide (x=.non))) H):=by
 intro c s d H x y v u Q I a b h;obtain⟨rfl,q⟩:=h;cases b;refine is_none_gen (uB I q ?_);cases x<;>first
  | (cases a;rfl)
  | (obtain⟨t,rfl⟩:=a;rfl)
def op_notN:OpR X (cZ .IsNot) (λx y H Q=>y=.non/\Q (.bl (!decide (x=.non))) H):=by
 intro c s d H x y v u Q I a b h;obtain⟨rfl,q⟩:=h;cases b;refine isnot_none_gen (uB I q ?_);cases x<;>first
  | (cases a;rfl)
  | (obtain⟨t,rfl⟩:=a;rfl)
def OpR.or{f:Value->Value->Sem Value}{r b:R2}(h:OpR X f r)(h':OpR X f b):OpR X f (λx y H Q=>r x y H Q\/b x y H Q):=by
 intro a s e H x y v u Q I c d q;rcases q with q|q;·exact h a s e H x y v u Q I c d q
 .exact h' a s e H x y v u Q I c d q
def pe_cmpR{op:CmpOp}{r:R2}(i:OpR X (cZ op) r)(e:PE X a ta)(f:PE X b tb)(g:OH op b=false):PE X (.Compare a [op] [b] pos) (tOp r ta tb):=by intro j s n H Q I h;exact wpAny_Compare1 (binT e f I h λv u m x y c d k l q=>i j m n c x y v u Q d k l q) g
def wI(t:TE):TT:=λσ H Q=>t σ H λx H'=>∃k,x=.bl k/\Q k H'
def pt_cmpR{op:CmpOp}{r:R2}(t:OpR X (cZ op) r)(o:PE X a ta)(p:PE X b tb)(q:OH op b=false):PT X (.Compare a [op] [b] pos) (wI (tOp r ta tb)):=by
 intro d s f H Q I h;refine wpAny_isTrue_Compare1 (thn (o d s f H _ I h) λv F ⟨x,g,l,C,w⟩=>thn (p d F f g _ l w) λu G ⟨y,i,m,D,A⟩=>
  thn (t d G f i x y v u _ m C D A) λc J ⟨z,j,n,E,k,e,B⟩=>?_) q
 subst e;cases E;exact dB (j,n,B,)
def wL(r c:R2)(ta tb tc:TE):TE:=λσ H Q=>ta σ H λx H1=>tb σ H1 λy H2=>r x y H2 λz a=>∃k,z=.bl k/\
 (if k=true then tc σ a λd b=>c y d b Q else Q (.bl false) a)
def Mr{op i:CmpOp}{r n:R2}(G:OpR X (cZ op) r)(J:OpR X (cZ i) n)(C:PE X a ta)(D:PE X b tb)(E:PE X c tc)
  (F:lastMarks [op,i] [b,c]=false:=by with_unfolding_all rfl):PE X (.Compare a [op,i] [b,c] pos) (wL r n ta tb tc):=by
 intro f s g H Q I h;refine Compare_chain (thn (C f s g H _ I h) λv P ⟨x,p,w,M,K⟩=>chain_link (thn (D f P g p _ w K) λu R ⟨y,q,A,o,L⟩=>
  thn (G f R g q x y v u _ A M o L) λd S ⟨z,j,l,N,k,e,m⟩=>?_)) F
 subst e;cases N;refine dB ?_;cases k with
 |false=>exact ite_ff (.bl false,j,l,rfl,m,)
 |true=>exact ite_tt (chain_last (thn (E f S g j _ l m) λU T ⟨V,t,B,O,q4⟩=>J f T g t y V u U Q B o O q4))
def LY{op g:CmpOp}{r m:R2}(K:OpR X (cZ op) r)(L:OpR X (cZ g) m)(E:PE X a ta)(F:PE X b tb)(G:PE X c tc)
  (J:lastMarks [op,g] [b,c]=false:=by with_unfolding_all rfl):PT X (.Compare a [op,g] [b,c] pos) (wI (wL r m ta tb tc)):=by
 intro d s f H a0 I h;refine isTrue_chain (thn (E d s f H _ I h) λv U ⟨x,o,w,Q,N⟩=>test_link (thn (F d U f o _ w N) λu V ⟨y,p,z,n,O⟩=>
  thn (K d V f p x y v u _ z Q n O) λa1 W ⟨a2,i,j,R,k,e,l⟩=>?_)) J
 subst e;cases R;refine dB ?_;cases k with
 |false=>obtain⟨k',C,M⟩:=l;cases C;exact ite_ff (i,j,M,)
 |true=>refine ite_tt (test_last (thn (G d W f i _ j l) λZ Y ⟨z',q,A,S,q4⟩=>thn (L d Y f q y z' u Z _ A n S q4) λd' s5 ⟨z2,t,B,T,k2,D,P⟩=>?_));subst D;cases T;exact dB (t,B,P,)
def TruV(K:ah)(x:V)(H:Hp)(k:Bool):Prop:=
 match x with
 |.non=>k=false
 |.bl b=>k=b
 |.int i=>k=(i != 0)
 |.str y=>y.length<=sizeLine/\k=((y.length:Int) != 0)
 |.byt y=>y.size<=sizeLine/\k=((y.size:Int) != 0)
 |.ref p=>(∃xs,SqL K H p xs/\k= !xs.isEmpty)\/(∃xs,SqT K H p xs/\k= !xs.isEmpty)\/∃kvs,H p<*(.dK kvs)/\k= !kvs.isEmpty
 |_=>False
def FZ{κ:Type}{a:List (κ×V)}{vs:List (κ×Value)}(r:KV a vs):(!vs.isEmpty)= !a.isEmpty:=by cases r<;>rfl
def xV{xs:List V}(r:bS xs ad):(!ad.toArray.isEmpty)= !xs.isEmpty:=by cases r<;>simp
def ur:(sizeLine:Nat)<2^63:=by rw[lU];decide
def tru_ok:TruR X (λx H Q=>∃k,TruV X.K x H k/\Q k H):=by
 intro C s D H x v Q I f h;obtain⟨k,e,q⟩:=h;have A:=ur;have B:sizeLine=16777216:=lU;cases x with
 |non=>cases f;have a:k=false:=e;subst a;exact truthy_none (H,I,q,)
 |bl b=>cases f;have a:k=b:=e;subst a;exact dB (H,I,q,)
 |int i=>obtain⟨t,rfl⟩:=f;have a:k=(i != 0):=e;subst a;exact PySem.P.truthy_int (H,I,q,)
 |str y=>obtain⟨t,rfl⟩:=f;obtain⟨w,a⟩:y.length<=sizeLine/\k=((y.length:Int) != 0):=e;subst a;exact PySem.P.truthy_str 'D' (H,I.tok _,q,)
 |byt y=>obtain⟨t,rfl⟩:=f;obtain⟨w,a⟩:y.size<=sizeLine/\k=((y.size:Int) != 0):=e;subst a;exact PySem.W.truthy_bytes 'D' (H,I.tok _,q,)
 |ref p=>
  cases f;have a:(∃c,SqL X.K H p c/\k= !c.isEmpty)\/(∃c,SqT X.K H p c/\k= !c.isEmpty)\/∃d,H p<*(.dK d)/\k= !d.isEmpty:=e;rcases a with⟨c,g,a⟩ |⟨c,g,a⟩ |⟨d,g,a⟩;·subst a;obtain⟨z,r,l,o⟩:=I.list g;have n:=r.length;exact wpAny_truthy_list l.isList (by simp only[aE];lia) ⟨H,I.tok _,by rw[xV r];exact q⟩
  .subst a;obtain⟨z,r,l,o⟩:=I.tuple g;have n:=r.length;exact truthy_tuple l (by simp only[aE];lia) ⟨H,I.tok _,by rw[xV r];exact q⟩
  .subst a;obtain⟨o,u,j,r,m⟩:d.length<=sizeLine/\(p==eS)=false/\∃j,KV d j/\s.heap.DictOf (cg X.prog X.w) p j:=I.hok p _ g;have n:d.length=j.length:=mM r;exact wpAny_truthy_dict u m 'D' ⟨H,I.tok _,by rw[FZ r];exact q⟩
 |_=>exact(show False from e).elim
def kF(f:PE X a ta)(g:∀c,isTrue a X.env c=(do let v<-c;Iu a.pos;holding [v] (truthy v))):
  PT X a (λσ H Q=>ta σ H λx H'=>∃k,TruV X.K x H' k/\Q k H'):=by
 intro b s σ H Q I h;exact isTrue_plain (thn (f b s σ H _ I h) λv l ⟨x,d,e,j,i⟩=>tru_ok b l σ d x v Q e j i) (g _)
def FG:OpR X (eV .Add) (λx y H Q=>∃i j,x=.str i/\y=.str j/\i.length+j.length<=sizeLine/\Q (.str (i++j)) H):=by intro e s f H x y v u Q I b c h;obtain⟨i,j,rfl,rfl,a,q⟩:=h;obtain⟨t,rfl⟩:=b;obtain⟨d,rfl⟩:=c;exact add_str (λd tk=>(.str (i++j),H,I.tok _,(_,rfl,),q,)) a
def vals1{x:V}(r:bS [x] us):∃u,us=[u]/\RelV x u:=by
 cases r with
 |cons r1 r2=>cases r2;exact(_,rfl,r1,)
def vals2{x y:V}(r:bS [x,y] us):∃u a,us=[u,a]/\RelV x u/\RelV y a:=by
 cases r with
 |cons r1 r2=>
  cases r2 with
  |cons r3 r4=>cases r4;exact(_,_,rfl,r1,r3,)
def JU:fA X (.type "int") (λxs H Q=>(∃i,xs=[.int i]/\Q (.int i) H)\/∃k,xs=[.bl k]/\Q (.int (if k then 1 else 0)) H):=by
 intro b s d H xs c Q I r h;rcases h with⟨i,rfl,q⟩ |⟨k,rfl,q⟩;·obtain⟨u,rfl,t,rfl⟩:=vals1 r;exact call_int_int (.int i,H,I,(_,rfl,),q,)
 .obtain⟨u,rfl,a⟩:=vals1 r;cases a;exact call_int_bool (.int (if k then 1 else 0),H,I.tok _,(_,rfl,),q,)
end
structure ObjM(h:Heap)(x dx C:Addr)(mA:Str->Option Value):Prop where
 obj:h.get? x<*(yJ C dx)
 ns:h.Ns1 dx mA
 ne:dx≠x
def Jw(n:h.Ns1 dx mA):∃od,h.get? dx<*od/\∀name,zt name od<*(mA name):=by
 obtain⟨o,b,l,j,d,f,_,i⟩:=n;refine(o,j,λname=>?_,);have e:=i name;unfold nsFind findBy at e;rw[<-uO]at e;unfold zt;rw[d];dsimp only;split;·rename_i y q;rw[q]at e;exact congrArg some e
 .rename_i q;rw[q]at e;have a:b.toList.any (·.refKey)=false:=by rw[List.any_eq_false];intro y k;obtain⟨z,t,g⟩:=f y (kq.mp k);simp[DictEntry.refKey,g]
  have c:¬b.toList.any (·.refKey)=true:=by rw[a];exact ao
  rw[if_neg c];exact congrArg some e
def ObjM.look{x:Addr}(I:ObjM h x dx C mA):∃od,PySem.W.InstAt h x (yJ C dx) C (some od)/\∀name,zt name od<*(mA name):=
 let⟨od,ho,hl⟩:=Jw I.ns
 (od,(I.obj,rfl,rfl,ho,),hl,)
abbrev mQ(f:Str)(v:V):List (Str×V)->List (Str×V)
 | []=>[(f,v)]
 | (g,x)::r=>if g=f then(g,v)::r else(g,x)::mQ f v r
theorem uX(f g:Str)(v:V):∀fs:List (Str×V),(mQ f v fs).lookup g=if g=f then some v else fs.lookup g
 | []=>by
  show de g [(f,v)]=_;by_cases h:g=f;·have a:(g==f)=true:=beq_iff_eq.mpr h;simp only[de,a,if_pos h]
  .have a:(g==f)=false:=beq_eq_false_iff_ne.mpr h;simp only[de,a,if_neg h]
 | (k,x)::r=>by
  have b:=uX f g v r;rw[show mQ f v ((k,x)::r)=(if k=f then(k,v)::r else(k,x)::mQ f v r)from rfl];by_cases hk:k=f
  .rw[if_pos hk];by_cases h:g=k;·have a:(g==k)=true:=beq_iff_eq.mpr h;simp only[de,a,if_pos (h.trans hk)]
   .have a:(g==k)=false:=beq_eq_false_iff_ne.mpr h;simp only[de,a,if_neg (λe:g=f=>h (e.trans hk.symm))]
  .rw[if_neg hk];by_cases h:g=k;·have a:(g==k)=true:=beq_iff_eq.mpr h;simp only[de,a,if_neg (λe:g=f=>hk (h.symm.trans e))]
   .have a:(g==k)=false:=beq_eq_false_iff_ne.mpr h;simp only[de,a];exact b
theorem uv(f:Str)(v:V):∀fs:List (Str×V),f∈(mQ f v fs).map (·.1)/\∀g,g∈fs.map (·.1)->g∈(mQ f v fs).map (·.1)
 | []=>⟨by simp[mQ],λg h=>by simp at h⟩
 | (k,x)::r=>by
  obtain⟨a,b⟩:=uv f v r;rw[show mQ f v ((k,x)::r)=(if k=f then(k,v)::r else(k,x)::mQ f v r)from rfl];by_cases hk:k=f;·rw[if_pos hk];subst hk;exact('F',λg h=>by simpa using h,)
  .rw[if_neg hk];refine(?_,λg h=>?_,);·rw[bG];exact aG _ a
   .rw[bG]at h⊢;rcases aA.mp h with e|e;·exact aA.mpr (.inl e)
    .exact aG _ (b g e)
def uH.some_of{v:V}{o:Option Value}(r:uH (some v) o):∃u,o<*u/\RelV v u:=by
 cases o with
 |none=>exact(show False from r).elim
 |some u=>exact(u,rfl,r,)
section
variable {H H':Hp}{a C dx:Addr}{fs fs':List (Str×V)}
def ins_get(b:HOk P w H h)(e:H a<*(.ins C dx fs)):∃mA,ObjM h a dx C mA/\(∀f,uH (fs.lookup f) (mA f))/\kX mA (fs.map (·.1))/\fs.length<=1000/\H dx<*(.own a):=by obtain⟨d,z,ne,c,mA,n,r,q⟩:=(show dA P w H h a (.ins C dx fs)from b a _ e);exact(mA,(c,n,ne,),r,q,z,d,)
end
structure Cls(K:ah)(C:Addr):Prop where
 pg:ON K C Str.empty=true
 hd:PySem.W.hasDictIn K C=true
 po:PySem.W.plainOver K C=true
 sa:fM K (.ref C) "__setattr__"<*(some (.builtin "object.__setattr__"))
def Cls.get(c:Cls K C)(f:Str):ON K C f=true:=c.pg
structure Meth(K:ah)(C:Addr)(m:Str)(f:Addr):Prop where
 at_:fM K (.ref C) m<*(some (.ref f))
 fn:PySem.W.isFn K (.ref f)=true
 kp:cj K (.ref f)=true
section
variable {X:Cx}{pins:List (Addr×Obj)}{σ:St}{H:Hp}{s:Shared}{E:'I'}{Q:'I'}{c:Value}{b:Bool}
inductive nN (K:ah) (H:Hp):V->Value->Prop where
 |non:nN K H .non (.type "NoneType")
 |bl (x:Bool):nN K H (.bl x) (.type "bool")
 |int (i:Int):nN K H (.int i) (.type "int")
 |str (x:Str):nN K H (.str x) (.type "str")
 |flt (x:UInt64):nN K H (.flt x) (.type "float")
 |lst {a:Addr} {xs:List V} (e:H a<*(.lst xs)):nN K H (.ref a) (.type "list")
 |frz {a:Addr} {o:Obj} {xs:List V} (e:H a<*(.frz o (.lst xs))):nN K H (.ref a) (.type "list")
 |tup {a:Addr} {xs:List V} (e:H a<*(.tup xs)):nN K H (.ref a) (.type "tuple")
 |dK {a:Addr} {kvs:List (Key×V)} (e:H a<*(.dK kvs)):nN K H (.ref a) (.type "dict")
 |dT {a:Addr} {kvs:List (List Key×V)} (e:H a<*(.dT kvs)):nN K H (.ref a) (.type "dict")
 |ins {a C dx:Addr} {fs:List (Str×V)} (e:H a<*(.ins C dx fs)) (cl:Cls K C) (ha:fM K (.ref C) "__class__"<*(some (.builtin "object.__class__")))
   (hn:uJ K (.builtin "object.__class__") "__get__"<*(some (.builtin "getset_descriptor.__get__"))) (htk:PySem.W.takesIn K (.builtin "object.__class__")<*true)
   (hm:Ce K C (.type "object")<*true):nN K H (.ref a) (.ref C)
def zU{x:V}{t:Value}(I:'A')(d:RelV x u)(ty:nN X.K H x t)(e:cF X.K t c<*b)(h:∀tk,Q (.bool b) {s with toks:=tk}):
  wpAny (model X.prog X.w) A (call (.builtin "isinstance") [u,c]) Q E s:=by
 cases ty with
 |non=>cases(show u=bO from d);exact dz PySem.W.kitx_none I.kIn True.intro e (λz=>nomatch z) h
 |bl y=>cases(show u=Cb y from d);exact dz PySem.W.kitx_bool I.kIn True.intro e (λz=>nomatch z) h
 |int i=>obtain⟨t,q⟩:=(show ∃t,u=lE i t from d);cases q;exact dz PySem.W.kitx_int I.kIn True.intro e (λz=>nomatch z) h
 |str y=>obtain⟨t,q⟩:=(show ∃t,u=iZ y t from d);cases q;exact dz PySem.W.kitx_str I.kIn True.intro e (λz=>nomatch z) h
 |flt y=>obtain⟨t,q⟩:=(show ∃t,u=Value.float y t from d);cases q;exact dz PySem.W.kitx_float I.kIn True.intro e (λz=>nomatch z) h
 | @lst a g ea=>cases(show u=bD a from d);obtain⟨_,_,n,_,f⟩:=(show dA X.prog X.w H s.heap a (.lst g)from I.hok a _ ea);exact dz Kt I.kIn (_,f,rfl,) e (λz=>nomatch z) h
 | @frz a ob g ea=>cases(show u=bD a from d);obtain⟨_,_,_,n,_,f⟩:=(show dA X.prog X.w H s.heap a (.frz ob (.lst g))from I.hok a _ ea);exact dz Kt I.kIn (_,f,rfl,) e (λz=>nomatch z) h
 | @tup a g ea=>cases(show u=bD a from d);obtain⟨_,_,_,p⟩:=(show dA X.prog X.w H s.heap a (.tup g)from I.hok a _ ea);obtain⟨o,f,j,_⟩:=p;exact dz PySem.W.kitx_tuple I.kIn (o,f,j,) e (λz=>nomatch z) h
 | @dK a kvs ea=>cases(show u=bD a from d);obtain⟨_,_,v,_,p⟩:=(show dA X.prog X.w H s.heap a (.dK kvs)from I.hok a _ ea);obtain⟨o,l,k,f,j,_⟩:=p;exact dz Ku I.kIn (o,f,j.1,) e (λz=>nomatch z) h
 | @dT a kvs ea=>cases(show u=bD a from d);obtain⟨_,_,g,_,o,l,k,f,j,_⟩:=(show dA X.prog X.w H s.heap a (.dT kvs)from I.hok a _ ea);exact dz Ku I.kIn (o,f,j.1,) e (λz=>nomatch z) h
 | @ins a C dx fs ea cl ha hn htk hm=>cases(show u=bD a from d);obtain⟨m,O,_⟩:=ins_get I.hok ea;obtain⟨r,J,_⟩:=O.look;exact dz (PySem.W.kitx_own (cl.get _) cl.hd ha hn htk hm) I.kIn J e (λz=>nomatch z) h
end
structure jm(k:Nat)(A:Around):Prop where
 hd:A.handled=none
 dp:A.depth+3*k+5<ke
 un:A.units+16*k+200<cLine
def jm.mono(r:jm k A)(h:j<=k):jm j A:=(r.hd,by have :=r.dp;lia,by have :=r.un;lia,)
theorem jm.deeper(r:jm (k+1) A)(env:Env):jm k (A.deeper env):=
 (r.hd,by have :=r.dp;show A.depth+1+3*k+5<_;lia,by have :=r.un;show A.units+3+16*k+200<_;lia,)
def FO{a:List (Str×Value)}:(A.under (.builtin "type.__call__" (.ref C::us,a,))).depth=A.depth+1:=by first |rfl|simp[EL,Code.weight,Code.isCreation,Code.isGuard,Code.isCaller,Code.frames,IC,guardIds]
def FN{a:List (Str×Value)}:(A.under (.builtin "type.__call__" (.ref C::us,a,))).units=A.units+1:=by first |rfl|simp[EL,Code.cUnits,Code.frames,IC]
def jm.make(r:jm (k+1) A)(C:Addr)(us:List Value)(a:List (Str×Value)):jm k (A.under (.builtin "type.__call__" (.ref C::us,a,))):=
 ⟨r.hd,by have :=r.dp;rw[FO];lia,by have :=r.un;rw[FN];lia⟩
theorem jm.depth(r:jm k A):A.depth<ke:=by have :=r.dp;lia
theorem jm.units(r:jm k A):A.units+64<cLine:=by have :=r.un;lia
def rD:TA:=λ_ H Q=>Q [] H
def jy(ta:TE)(a:TA):TA:=λσ H Q=>ta σ H λx H1=>a σ H1 λxs H2=>Q (x::xs) H2
section
variable {X:Cx}{es:List Expr}{te:TE}{t:TA}
def jg:PA X [] rD:=λ_ _ _ _ H Q I h=>Calls.spliced_nil ([],H,I,.nil,h,)
def fo(j:PE X e te)(k:PA X es t)(hs:bf (e::es) X.env=(false,eval e X.env)::bf es X.env:=by rfl):PA X (e::es) (jy te t):=by intro b a s c H Q I h;rw[hs];show wpAny _ _ (spliced ((false,eval e X.env)::backTo b (bf es X.env))) _ _ s;refine uL (thn (j a s c H _ I h) λu p ⟨x,d,g,n,l⟩=>?_);exact thn (k b a p c d _ g l) λv r ⟨q,f,i,o,m⟩=>(x::q,f,i,.cons n o,m,)
def tTup(t:TA):TE:=λσ H Q=>t σ H λxs H1=>xs.length<=sizeLine/\∀p,H1 p=none->Q (.ref p) (upd H1 p (.tup xs))
def tLst(t:TA):TE:=λσ H Q=>t σ H λxs H1=>xs.length<=sizeLine/\∀p,H1 p=none->Q (.ref p) (upd H1 p (.lst xs))
def Me{x1}(h:PA X es t):PE X (.Tuple es x1 pos) (tTup t):=by intro f s j H Q I hq;refine wpAny_Tuple_spliced (thn (h pos f s j H _ I hq) λg a ⟨i,c,d,r,z,q⟩=>(by rw[<-r.length];exact z,?_,));have hf:c ⇑a=none:=d.hok.fresh (ay _);refine(.ref ⇑a,upd c ⇑a (.tup i),d.laid (t':=a.toks) (λb u e=>af _ e) (ay _) ?_,rfl,q _ hf,);exact(z,g,r,(_,av _ rfl,rfl,_,rfl,),)
def Ml(h:PA X es t):PE X (.List es pos) (tLst t):=by intro f s j H Q I hq;refine wpAny_List_spliced (thn (h pos f s j H _ I hq) λg a ⟨i,c,d,r,z,q⟩=>(by rw[<-r.length];exact z,?_,));have hf:c ⇑a=none:=d.hok.fresh (ay _);refine(.ref ⇑a,upd c ⇑a (.lst i),d.laid (t':=a.toks) (λb u e=>af _ e) (ay _) ?_,rfl,q _ hf,);exact(z,g,0,r,av _ rfl,)
end
noncomputable abbrev Sp:=List V->Hp->VK->XK->Prop
noncomputable abbrev CXT:=List Env->Hp->Shared->XK->Value->Shared->Prop
structure GK(P:Program)(w:World)(K:ah)(mg:Str->Option Value)(base:Heap)(A:Around)(outer:List Env)(s:Shared)(H:Hp):Prop where
 frames:A.frames<*outer
 mod:Mod K mg base
 bs:∀b o,base.get? b<*o->s.heap.get? b<*o/\H b=none
 bsz:base.objs.size<=⇑s
 x6:s.heap.FunFrames base outer
 frf:∀b∈frs outer,H b=none
 hok:HOk P w H s.heap
 bare:pW s.gens
def CE(outer:List Env)(P:Program)(w:World)(H:Hp)(s:Shared)(Q:VK)(u:Value)(s':Shared):Prop:=
 ∃v H',s'.os=s.os/\pW s'.gens/\Un (frs outer) [] H H' s.heap s'.heap/\HOk P w H' s'.heap/\RelV v u/\Q v H'
def CR(CX:CXT)(outer:List Env)(P:Program)(w:World)(H:Hp)(s:Shared)(Q:VK)(E:XK)(r:Result)(s':Shared):Prop:=
 match r with
 |.ok (.ret u)=>CE outer P w H s Q u s'
 |.ok _=>False
 |.error e=>CX outer H s E e s'
structure jG(P:Program)(w:World)(K:ah)(mg:Str->Option Value)(base:Heap)(CX:CXT)(k:Nat)(f:Addr)(fd:fE)(ps:List Str)(sp:Sp):Prop where
 len:∀vs H Q E,sp vs H Q E->vs.length=ps.length
 run:∀(A:Around)(outer:List Env)(s:Shared)(H:Hp)(args:Args)(us:List Value)(vs:List V)(Q:VK)(E:XK),jm k A->GK P w K mg base A outer s H->BindsTo s fd args (ps.zip us)->bS vs us->sp vs H Q E->
  gK (model P w) A (.call (.ref f) args) (CR CX outer P w H s Q E) s
def GK.make{outer:List Env}{H:Hp}(e:GK P w K mg base A outer s H)(C:Addr)(us:List Value)(a:List (Str×Value)):
  GK P w K mg base (A.under (.builtin "type.__call__" (.ref C::us,a,))) outer s H:=(by first |exact e.frames| (simpa[EL,Code.envs,IC,pushEnvs]using e.frames),e.mod,e.bs,e.bsz,e.x6,e.frf,e.hok,e.bare,)
section
variable {X:Cx}{pins:List (Addr×Obj)}{σ:St}{H:Hp}{s s':Shared}
def Inv.env0(I:'A'):GK X.prog X.w X.K X.mg X.base X.A X.stack s H:=
 (I.ok.frames,I.ok.mod,I.bs,aO I.ok.bsz I.sz,I.stack,I.AL,I.hok,I.bare,)
def Inv.after{Q:VK}(I:'A')(h:CE X.stack X.prog X.w H s Q u s'):EP X pins σ Q u s':=by obtain⟨v,a,i,c,un,f,r,q⟩:=h;obtain⟨e,g,d,t,j⟩:=s';obtain rfl:j=s.os:=i;exact(v,a,I.call (h':=e) (g':=g) (d':=d) (t':=t) (ch:=[]) un f c (λb z=>absurd z 'F'),r,q,)
end
def CD(sp:Sp)(al:List V)(E:XK)(t:TA):TE:=λσ H Q=>t σ H λvs H1=>sp (vs++al) H1 Q E
def Binds(K:ah)(fd:fE)(ps:List Str)(ds:List Value):Prop:=
 ∀(s:Shared)(us:List Value),K.In s.heap->(us++ds).length=ps.length->BindsTo s fd (us,[],) (ps.zip (us++ds))
def Binds.all{a:fE}(h:∀us:List Value,us.length=ps.length->ri a (us,[],)=pure (ps.zip us)):Binds K a ps []:=λs us _ b=>by rw[dD]at b⊢;exact .of_eq (h us b)
section
variable {X:Cx}{CX:CXT}{f C:Addr}{fd:fE}{ps:List Str}{sp:Sp}{al:List V}{ds:List Value}{E:XK}{x m:Str}{p apos:Pos}{es:List Expr}{ta:TE}{t:TA}
structure Mk(K:ah)(C f:Addr):Prop where
 makes:PySem.W.makesIn K C=true
 init:fM K (.ref C) "__init__"<*(some (.ref f))
 fn:PySem.W.isFn K (.ref f)=true
 kp:cj K (.ref C)=true
end
structure we(N P:List Str)(sc:Scope):Prop where
 kind:sc.kind=.function
 co:sc.isCoroutine=false
 gen:sc.isGenerator=false
 nd:N.Nodup
 pre:N.take P.length=P
 par:∀x∈P,sc.names.lookup x<*.local\/sc.names.lookup x<*.cell
 nofree:∀y∈sc.names,y.2≠.free
theorem Am{b:Str->Option eM}{x:Str}:∀{binds:List (Str×Value)}{m:Str->Option Value},(∀v,(x,v)∉binds)->bindL b binds m x=m x
 | [],_,_=>rfl
 | (n,v)::r,m,h=>by
  unfold bindL;rw[Am λw a=>h w (aG _ a)];split
  .have :x≠n:=by rintro rfl;exact h v aM
   simp[this]
  .rfl
theorem Ao{b:Str->Option eM}{x:Str}:∀{binds:List (Str×Value)}{m:Str->Option Value},(∀v,(x,v)∉binds)->bindC b binds m x=m x
 | [],_,_=>rfl
 | (n,v)::r,m,h=>by
  unfold bindC;rw[Ao λw a=>h w (aG _ a)];split;·rfl
  .have :x≠n:=by rintro rfl;exact h v aM
   simp[this]
theorem An{a:Str->Option eM}{x:Str}{v:Value}:∀{P:List Str}{vs:List Value}{i:Nat}{m:Str->Option Value},P.Nodup->P[i]?<*x->vs[i]?<*v->a x<*.local->
  bindL a (P.zip vs) m x<*v
 | [],_,_,_,_,h,_,_=>by simp at h
 |_::_,[],_,_,_,_,h,_=>by simp at h
 |p::P,w::vs,0,m,nd,h1,h2,hk=>by simp at h1 h2;subst h1;subst h2;show bindL a ((p,w)::P.zip vs) m p=_;unfold bindL;rw[Am λv b=>(cT.mp nd).1 (Au b).1,if_pos hk];simp
 |p::P,w::vs,i+1,m,nd,h1,h2,hk=>by show bindL a ((p,w)::P.zip vs) m x=_;unfold bindL;exact An (i:=i) (cT.mp nd).2 ↥h1 ↥h2 hk
theorem Ap{a:Str->Option eM}{x:Str}{v:Value}:∀{P:List Str}{vs:List Value}{i:Nat}{m:Str->Option Value},P.Nodup->P[i]?<*x->vs[i]?<*v->a x≠some .local->
  bindC a (P.zip vs) m x<*v
 | [],_,_,_,_,h,_,_=>by simp at h
 |_::_,[],_,_,_,_,h,_=>by simp at h
 |p::P,w::vs,0,m,nd,h1,h2,hk=>by simp at h1 h2;subst h1;subst h2;show bindC a ((p,w)::P.zip vs) m p=_;unfold bindC;rw[Ao λv b=>(cT.mp nd).1 (Au b).1,if_neg hk];simp
 |p::P,w::vs,i+1,m,nd,h1,h2,hk=>by show bindC a ((p,w)::P.zip vs) m x=_;unfold bindC;exact Ap (i:=i) (cT.mp nd).2 ↥h1 ↥h2 hk
abbrev start(N:List Str)(vs:List V):St:=vs.map some++a8 (N.length-vs.length) none
abbrev BO(CX:CXT)(P:Program)(w:World)(K:ah)(mg:Str->Option Value)(base:Heap)(N:List Str)(qual:Str)(scope:Scope)(f:Addr)(cd:Value)(A:Around)(outer:List Env)(s:Shared)(H:Hp)(E:XK):Cx where
 prog:=P
 w:=w
 K:=K
 mg:=mg
 base:=base
 A:=A.deeper (envOfC qual scope ⇑s f cd)
 N:=N
 s₀:=s
 H₀:=H
 env:=envOfC qual scope ⇑s f cd
 outer:=outer
 stack:=envOfC qual scope ⇑s f cd::outer
 ex:=[]
 calm:=true
 fn:=λ_=>true
 pn:=[]
 xe:=λe s'=>wpAny (model P w) (A.deeper (envOfC qual scope ⇑s f cd)) (leaving (envOfC qual scope ⇑s f cd) e) (λ_ a=>CX outer H s E e a) (λb a=>CX outer H s E b a) s'
def D6{x:Str}(h:sc.names.lookup x<*.cell):∃c,(cO n sc.names []).lookup x<*c:=by have q:=Ex sc.names n [] (.inl h);exact cA.mp q
def JE{CX:CXT}{cd:Value}{outer:List Env}{C:Shared}{H:Hp}{E:XK}{vs:List V}
  (S:we N ps scope)(F:A.handled=none)(g:GK P w K mg base A outer s H)(J:vs.length=ps.length)(r:bS vs us)
  (x:InCallC s ⇑s (bindL (envOfC qual scope ⇑s f cd).kindOf (ps.zip us) λ_=>none) (cO (⇑s+1) scope.names []) (bindC (envOfC qual scope ⇑s f cd).kindOf (ps.zip us) λ_=>none) C):
  Inv (BO CX P w K mg base N qual scope f cd A outer s H E) [] (start N vs) H C:=by
 have L:ps.length<=N.length:=by have :=congrArg eP S.pre;rw[di]at this;lia
 obtain⟨l,tk,rfl,o⟩:=x.done;have m:∀b:Addr,b∉(BO CX P w K mg base N qual scope f cd A outer s H E).ex:=λb z=>absurd (show b∈([]:List Addr)from z) 'F';refine((g.mod,S.kind,rfl,rfl,ay _,λy z c l d=>?_,λy hy=>?_,λy c _ h=>?_,λ_=>F,Around.frames_deeper g.frames,.inr (rfl,rfl,),λb z=>absurd z (m b),g.bs,g.bsz,λb _ _=>m b,λb z=>absurd z (m b),g.x6,g.frf,),
  rfl,g.bare,Un.kept o,(_,x.toInCall.ns,λi y v l d I=>?_,),λy c h=>(_,x.cell y c h,),g.hok.fresh (ay _),λy c h=>?_,λp j=>absurd (show p∈([]:List (Addr×Obj))from j) 'F',g.hok.kept o,?_,)
 .exact name_of_addr x.apart (bB l) (bB d)
 .have hy:scope.names.lookup y<*.cell\/scope.names.lookup y<*.free:=hy;rcases hy with hy|hy;·exact D6 hy
  .exact absurd rfl (S.nofree _ (bB hy))
 .exact jH (x.above y c (bB h))
 .have hi:i<vs.length:=by
   unfold start at d;by_cases hi:i<vs.length;·exact hi
   .rw[dg ↥hi]at d;rw[List.getElem?_replicate]at d;split at d<;>cases d
  have D:vs[i]?<*v:=by
   unfold start at d;rw[fB ↥hi,ax]at d;cases e:vs[i]? with
   |none=>rw[e]at d;cases d
   |some a=>rw[e]at d;cases d;rfl
  obtain⟨u,t,G⟩:=r.get D;have j:ps[i]?<*y:=by rw[<-S.pre,nK 'D'];exact l
  have B:ps.Nodup:=by rw[<-S.pre];exact S.nd.sublist (wm _ _)
  refine(u,G,?_,);rcases S.par y (aH j)with k|k;·exact .inl (k,An B j t k,)
  .obtain⟨c,e⟩:=D6 (n:=⇑s+1) k;refine .inr (.inl k,c,e,?_,);have q:=x.cell y c e;rw[Ap B j t (by show scope.names.lookup y≠_;rw[k];decide)]at q;exact q
 .exact g.hok.fresh (jH (x.above y c (bB h)))
 .unfold start;show _=N.length;rw[bu,ai,jU];lia
def fn_of{CX:CXT}{name:Str}{B:Arguments}{h:List Stmt}{kV:Value}{an:Option Addr}
  {sp:Sp}(X:K.lookup f<*(oc,od,.func (aB name qual B h scope dV kV ap pm an am ct),bv,))(L:eF K am qual=true)(S:we N ps scope)
  (len:∀vs H Q E,sp vs H Q E->vs.length=ps.length)
  (G:∀(A:Around)(c:List Env)(s:Shared)(H:Hp)(vs:List V)(Q:VK)(E:XK),jm k (A.deeper (envOfC qual scope ⇑s f am))->sp vs H Q E->
   ∃t,PSs (BO CX P w K mg base N qual scope f am A c s H E) h t/\t {nx:=λ_ H'=>Q .non H',rt:=Q} (start N vs) H):
  jG P w K mg base CX (k+1) f (aB name qual B h scope dV kV ap pm an am ct) ps sp:=by
 refine(len,λA c s H Z Y vs Q E i d F r z=>?_,);have R:=len _ _ _ _ z;have m:K.In s.heap:=d.mod.kin.keeps λb o e=>(d.bs b o e).1;have W:s.heap.NoLimit:=d.mod.nolimit.keeps λb o e=>(d.bs b o e).1;have O:∀y∈ps.zip Y,scope.names.lookup y.1<*.local\/(scope.names.lookup y.1<*.cell/\((cO (⇑s+1) scope.names []).lookup y.1).isSome=true):=λ⟨n,v⟩ U=>by
  rcases S.par n (Au U).1 with q|q;·exact .inl q
  .exact .inr (q,Ex _ _ _ (.inl q),)
 refine codeAny_call_function i.depth (m _ _ X) rfl S.co S.gen rfl (PySem.W.codeRec_of m L) (F _ _ _ _ ?_);refine wpAny_newFunctionEnv_cells S.kind O λa0 M C x=>?_;subst M;refine(W.keeps x.toInCall.keep,codeAny_func ?_,);obtain⟨t,T,hq⟩:=G A c s H vs Q E (i.deeper _) z;have I:Inv (BO CX P w K mg base N qual scope f am A c s H E) [] (start N vs) H C:=JE S i.hd d R r x;refine da (T [] C (start N vs) H _ I hq) (λD l a=>?_) λe l a=>a;have p:∀{g:St}{H':Hp}{v:V}{u:Value},Inv (BO CX P w K mg base N qual scope f am A c s H E) [] g H' l->RelV v u->Q v H'->CE c P w H s Q u l:=
  λ{g H' v u} J j q=>(v,H',J.os,J.bare,J.base,J.hok,j,q,)
 cases D with
 |ret u=>obtain⟨v,g,H',J,j,q⟩:=a;exact p J j q
 |next =>obtain⟨g,H',J,q⟩:=a;exact p (v:=V.non) (u:=bO) J rfl q
 |brk=>obtain⟨_,_,_,q⟩:=a;exact gT q
 |cont=>obtain⟨_,_,_,q⟩:=a;exact gT q
section
variable {X:Cx}{x:Str}{p:Pos}{es:List Expr}{t:TA}{id T:String}{r:List V->Hp->VK->Prop}
def tCB(r:List V->Hp->VK->Prop)(t:TA):TE:=λσ H Q=>t σ H λvs H1=>r vs H1 Q
def Mu(g:fA X (.builtin id) r)(k:Gl X x)(l:X.mg x=none)(o:fv x<*(.builtin id))(f:PA X (e::es) t)(m:x≠"__name__":=by decide) (i:(x==("__debug__":Str))=false:=by decide)
  (j:bf (e::es) X.env=(false,eval e X.env)::bf es X.env:=by rfl) (n:(backTo pos (bf es X.env)).any (·.1)=false:=by rfl):PE X (.Call (.Name x p) (e::es) [] pos) (tCB r t):=by
 intro a s b H Q I h;refine fC (jj I k l o ?_ m i);exact i3 (thn (f pos a s b H _ I h) λw v ⟨y,c,d,u,q⟩=>g a v b c y w Q d u q) j n
def Jg(g:fA X (.type T) r)(k:Gl X x)(l:X.mg x=none)(o:fv x<*(.type T))(f:PA X (e::es) t)(m:x≠"__name__":=by decide) (i:(x==("__debug__":Str))=false:=by decide)
  (j:bf (e::es) X.env=(false,eval e X.env)::bf es X.env:=by rfl) (n:(backTo pos (bf es X.env)).any (·.1)=false:=by rfl):PE X (.Call (.Name x p) (e::es) [] pos) (tCB r t):=by
 intro a s b H Q I h;refine fC (jj I k l o ?_ m i);exact bX (thn (f pos a s b H _ I h) λw v ⟨y,c,d,u,q⟩=>g a v b c y w Q d u q) j n
end
end L2
variable {X:L2.Cx}{H H' H1 H2:L2.Hp}{σ:L2.St}{v x y:L2.V}{cs cs' al xs ys zs:List L2.V}
namespace HT
section
open PySem.SeqAt
open PySem.AutoSeq1 (wpAny_loadPart')
open PySem.MeetsSeq PySem.MeetsSeq2 PySem.MeetsSeq3
end
section
variable {E:'I'}{s:Shared}
def sL{t:Addr}{Q:'I'}(v:IsTup s.heap t vs.toArray)(r:IsTup s.heap b ws.toArray)(k:vs≠[])
  (p:ws=[]->Q (.ref t) s)(q:ws≠[]->Q (.ref ⇑s) {s with heap:=s.heap.push {cls:=.type "tuple",data:=.seq (vs++ws).toArray}})
  (u:vs.length+ws.length<=sizeLine):'B' (eV .Add (.ref t) (.ref b)) Q E s:=by
 obtain⟨⟨cls,d,data,m⟩,a,g,n,i⟩:=id v;obtain⟨⟨x,f,y,o⟩,c,h,l,j⟩:=id r;simp only at g i h j;subst g i h j;have e:vs.toArray++ws.toArray=(vs++ws).toArray:=by simp
 by_cases hw:ws=[]
 .exact concat_meets (_,a,rfl,) (_,c,rfl,) Et OG nP nh (mK _ _)
   (tuple_addW1 t b vs.toArray ws.toArray n l d f m o ↥k (by simp[hw])) (a,c,p hw,)
 .refine concat_meets (_,a,rfl,) (_,c,rfl,) Et OG nP nh (mK _ _)
   (tuple_addW2 t b vs.toArray ws.toArray n l d f m o ↥k ↥hw (by rw[aE,aE];exact u)) (a,c,?_,)
  rw[e];exact q hw
abbrev sIx(n d:Nat):Option Int->Nat
 |none=>d
 |some v=>if v<0 then(v+(n:Int)).toNat else min v.toNat n
theorem CY(n d:Nat):sIx n d none=d:=rfl
def vR(n d k:Nat):sIx n d (some (k:Int))=min k n:=by show(if(k:Int)<0 then((k:Int)+(n:Int)).toNat else min (k:Int).toNat n)=min k n;rw[if_neg 'D',aW]
def LA(n d:Nat)(a:d<=n)(o:Option Int):sIx n d o<=n:=by
 cases o with
 |none=>exact a
 |some v=>
  show(if v<0 then(v+(n:Int)).toNat else min v.toNat n)<=n;by_cases hv:v<0;·rw[if_pos hv];lia
  .rw[if_neg hv];exact Nat.min_le_right _ _
def clip_eq(v:Int)(n d:Nat):(if v<0 then max (v+(n:Int)) 0 else min v (n:Int))=((sIx n d (some v):Nat):Int):=by
 show(if v<0 then max (v+(n:Int)) 0 else min v (n:Int))=(((if v<0 then(v+(n:Int)).toNat else min v.toNat n):Nat):Int);by_cases hv:v<0;·simp only[if_pos hv];lia
 .simp only[if_neg hv];lia
end
end HT
namespace L2
noncomputable abbrev TO:=St->Hp->(Option Int->Hp->Prop)->Prop
def PO(X:Cx)(e:Option Expr)(t:TO):Prop:=
 ∀(pins:List (Addr×Obj))(s:Shared)(σ:St)(H:Hp)(Q:Option Int->Hp->Prop),'A'->t σ H Q->
  'C' (evalPart e X.env) (λu s'=>∃o H',Inv X pins σ H' s'/\IsPart u o/\Q o H') X.xe s
def AK:TO:=λ_ H Q=>Q none H
def K0(t:TE):TO:=λσ H Q=>t σ H λx H1=>∃i,x=.int i/\Q (some i) H1
def intsAre_of:∀{us:List Value},bS (ns.map V.int) us->cn us ns:=by
 induction ns with
 |nil=>intro us r;rw[lF]at r;cases r;exact .nil
 |cons n ns ih=>
  intro us r;rw[bG]at r;cases r with
  |cons r1 r2=>obtain⟨t,e⟩:=r1;subst e;exact .cons n t (ih r2)
section
variable {te:TE}{lo hi:Option Expr}{tl th:TO}{p2:Pos}
def po_none:PO X none AK:=by intro a s b H Q I h;rw[evalPart_none];exact aj (none,H,I,.none,h,)
def po_some(h:PE X e te):PO X (some e) (K0 te):=by intro d s j H Q I c;rw[evalPart_some];refine thn (h d s j H _ I c) λu k ⟨x,a,b,g,f⟩=>?_;obtain⟨i,rfl,q⟩:=f;obtain⟨t,rfl⟩:=g;exact(some i,a,b,.int i t,q,)
def SlR(X:Cx)(r:V->Option Int->Option Int->Hp->VK->Prop):Prop:=
 ∀(pins:List (Addr×Obj))(s:Shared)(σ:St)(H:Hp)(x:V)(v a b:Value)(lo hi:Option Int)(sl:Addr)(Q:VK),'A'->RelV x v->s.heap.IsSliceOf sl a b .none->IsPart a lo->IsPart b hi->r x lo hi H Q->
  ∃T id,typeLookup (.type T) "__getitem__"=pure (some (.builtin id))/\s.TypeIs v T/\'C' (getItem v (.ref sl)) (EP X pins σ Q) X.xe s
def SlR.or{r e:V->Option Int->Option Int->Hp->VK->Prop}(h:SlR X r)(h':SlR X e):SlR X (λx lo hi H Q=>r x lo hi H Q\/e x lo hi H Q):=by
 intro b s k H x v i j lo hi g Q I f a c d q;rcases q with q|q;·exact h b s k H x v i j lo hi g Q I f a c d q
 .exact h' b s k H x v i j lo hi g Q I f a c d q
def tSl(r:V->Option Int->Option Int->Hp->VK->Prop)(te:TE)(tl th:TO):TE:=λσ H Q=>te σ H λx H1=>tl σ H1 λl H2=>th σ H2 λu a=>r x l u a Q
def Mh{r:V->Option Int->Option Int->Hp->VK->Prop}(z:SlR X r)(t:PE X e te)(y:PO X lo tl)(B:PO X hi th):PE X (.Subscript e (.Slice lo hi none p2) pos) (tSl r te tl th):=by intro c s d H Q I h;refine Subscript_ (thn (t c s d H _ I h) λv K ⟨x,i,k,J,E⟩=>?_);refine wpAny_Slice (thn (y c K d i _ k E) λf L ⟨l,j,m,C,F⟩=>thn (B c L d j _ m F) λvu a ⟨u,g,n,D,G⟩=>?_);rw[evalPart_none];refine aj ?_;have o:Inv X c d g {a with heap:=a.heap.push {cls:=.type "slice",data:=.fields #[f,vu,.none]}}:=n.kept (t':=a.toks) λb M q=>af _ q;obtain⟨T,id,p,A,w⟩:=z c {a with heap:=a.heap.push {cls:=.type "slice",data:=.fields #[f,vu,.none]}} d g x v f vu l u ⇑a Q o J (Heap.IsSliceOf.new ..) C D G;show 'C' (OE e (.Slice lo hi none p2) v (.ref ⇑a)) (EP X c d Q) X.xe {a with heap:=a.heap.push {cls:=.type "slice",data:=.fields #[f,vu,.none]}};exact tail_any (ops:=[.ref ⇑a,v]) A p w (by with_unfolding_all rfl)
abbrev vG(xs:List V)(lo hi:Option Int):List V:=(xs.drop (HT.sIx xs.length 0 lo)).take (HT.sIx xs.length xs.length hi-HT.sIx xs.length 0 lo)
def D1(xs:List V)(lo hi:Option Int):(vG xs lo hi).length<=xs.length:=by unfold vG;rw[di,yQ];lia
def Hg(K:ah):R2:=λx y H Q=>∃a b xs ys,x=.ref a/\y=.ref b/\SqT K H a xs/\SqT K H b ys/\xs≠[]/\xs.length+ys.length<=sizeLine/\
 (ys=[]->Q (.ref a) H)/\(ys≠[]->∀p,H p=none->Q (.ref p) (upd H p (.tup (xs++ys))))
def bS.Bo(r:bS xs us):us=[]↔xs=[]:=by
 cases r with
 |nil=>simp
 |cons _ _=>simp
def op_catT:OpR X (eV .Add) (Hg X.K):=by intro D s E H x y v u Q I n p h;obtain⟨a,b,r,t,rfl,rfl,f,g,i,e,l,m⟩:=h;cases n;cases p;obtain⟨A,d,j,_⟩:=I.tuple f;obtain⟨B,c,k,_⟩:=I.tuple g;refine HT.sL j k (λz=>i (d.Bo.mp z)) (λz=>(.ref a,H,I,rfl,l (c.Bo.mp z),)) (λz=>?_) (by rw[<-d.length,<-c.length];exact e);refine(.ref ⇑s,_,I.laid (t':=s.toks) (o:=.tup (r++t)) (λb C q=>af _ q) (ay _) ?_,rfl,m (λw=>z (c.Bo.mpr w)) _ (I.hok.fresh (ay _)),);exact(by rw[bu];exact e,_,d.append c,IsTup.new _ _,)
end
abbrev ixN(n:Nat)(i:Int):Option Nat:=if 0<=i then(if i<n then some i.toNat else none)else if -(n:Int)<=i then some (i+n).toNat else none
abbrev atI{α:Type}(xs:List α)(i:Int):Option α:=(ixN xs.length i).bind λj=>xs[j]?
def ixN_seq{i:Int}(h:ixN n i<*j):seqIndex? i n<*j/\j<n∧-(n:Int)<=i/\i<n:=by
 unfold ixN at h;by_cases h0:0<=i
 .rw[if_pos h0]at h;by_cases h1:i<n;·rw[if_pos h1]at h;have e:i.toNat=j:=bo h;exact(by rw[EB h0 h1,e],'D','D',h1,)
  .rw[if_neg h1]at h;cases h
 .rw[if_neg h0]at h;by_cases h1: -(n:Int)<=i;·rw[if_pos h1]at h;have e:(i+n).toNat=j:=bo h;exact(by rw[seqIndex_neg 'D' h1,e],'D',h1,'D',)
  .rw[if_neg h1]at h;cases h
def B1{a:Type}{xs:List a}{i:Int}{v:a}(h:atI xs i<*v):∃j,seqIndex? i xs.length<*j/\xs[j]?<*v/\j<xs.length∧-(xs.length:Int)<=i/\i<xs.length:=by
 unfold atI at h;cases e:ixN xs.length i with
 |none=>rw[e]at h;cases h
 |some j=>rw[e]at h;obtain⟨b,c,d,f⟩:=ixN_seq e;exact(j,b,h,c,d,f,)
def cG{a:Type}{xs:List a}{v:a}(h:xs[j]?<*v):atI xs (j:Int)<*v:=by
 have b:j<xs.length:=(aF.mp h).1;have e:ixN xs.length (j:Int)<*j:=by unfold ixN;rw[if_pos 'D',if_pos 'D'];simp
 unfold atI;rw[e];exact h
def Ir(b:Expr):Prop:=∀o i,subscripted b false o i=operate [o,i] (getItem o i)
def IxR(X:Cx)(r:R2):Prop:=
 ∀(value a:Expr)(pins:List (Addr×Obj))(s:Shared)(σ:St)(H:Hp)(x y:V)(v u:Value)(Q:VK),'A'->RelV x v->RelV y u->r x y H Q->
  subscripted a false v u=operate [v,u] (getItem v u)->'C' (OE value a v u) (EP X pins σ Q) X.xe s
def MtR(X:Cx)(id:String)(r:V->List V->Hp->VK->Prop):Prop:=
 ∀(pins:List (Addr×Obj))(s:Shared)(σ:St)(H:Hp)(x:V)(xs:List V)(v:Value)(us:List Value)(Q:VK),'A'->RelV x v->bS xs us->r x xs H Q->
  'C' (call (.builtin id) (v::us)) (EP X pins σ Q) X.xe s
section
variable {a b:Expr}{ta tb:TE}
def IxR.or{r c:R2}(h:IxR X r)(h':IxR X c):IxR X (λx y H Q=>r x y H Q\/c x y H Q):=by
 intro g f b s i H x y v u Q I d e q a;rcases q with q|q;·exact h g f b s i H x y v u Q I d e q a
 .exact h' g f b s i H x y v u Q I d e q a
def MtR.or{id:String}{r b:V->List V->Hp->VK->Prop}(h:MtR X id r)(h':MtR X id b):MtR X id (λx xs H Q=>r x xs H Q\/b x xs H Q):=by
 intro a s f H x xs v e Q I d c q;rcases q with q|q;·exact h a s f H x xs v e Q I d c q
 .exact h' a s f H x xs v e Q I d c q
def pe_ix{r:R2}(g:IxR X r)(e:PE X a ta)(f:PE X b tb)(hs:Ir b):PE X (.Subscript a b pos) (tOp r ta tb):=by intro i s m H Q I h;exact Subscript_ (binT e f I h λv u l x y c d j k q=>g a b i l m c x y v u Q d j k q (hs _ _))
def rIxL(K:ah):R2:=λx y H Q=>∃p xs i v,x=.ref p/\y=.int i/\SqL K H p xs/\atI xs i<*v/\Q v H
def rIxT(K:ah):R2:=λx y H Q=>∃p xs i v,x=.ref p/\y=.int i/\SqT K H p xs/\atI xs i<*v/\Q v H
def rIxS:R2:=λx y H Q=>∃z i c,x=.str z/\y=.int i/\z.length<=sizeLine/\atI z.cps.toList i<*c/\Q (.str ⟨#[c]⟩) H
def ix_list:IxR X (rIxL X.K):=by
 intro M L g s k H x y v u Q I D E h f;obtain⟨p,N,i,z,rfl,rfl,hq,o,q⟩:=h;cases D;obtain⟨t,rfl⟩:=E;obtain⟨B,r,c,K⟩:=I.list hq;obtain⟨j,a,l,G,m,n⟩:=B1 o;obtain⟨w,d,C⟩:=r.get l;have A:=r.length;have J:=ur;have e:EP X g k Q w s:=(z,H,I,C,q,);by_cases h0:0<=i
 .have b:i.toNat=j:=by rw[EB h0 n]at a;exact bo a
  exact item_listR c.isList h0 'D' (by rw[b];simpa using d) e f
 .have b:(i+(B.toArray.size:Int)).toNat=j:=by rw[seqIndex_neg 'D' m]at a;rw[aE,<-A];exact bo a
  exact tK (x:=w) c.isList.typeIs slot_list_getitem.lookup
   (wpAny_getItem_list_neg (Q:=λr F=>r=w/\EP X g k Q r F) c.isList 'D' (by rw[aE]<;>lia) 'D' (by rw[b];simpa using d) (rfl,e,)) f
def ix_tup:IxR X (rIxT X.K):=by
 intro L K a s c H x y v u Q I o A h m;obtain⟨p,M,i,z,rfl,rfl,hq,k,q⟩:=h;cases o;obtain⟨t,rfl⟩:=A;obtain⟨J,r,b,G⟩:=I.tuple hq;obtain⟨j,f,g,C,D,E⟩:=B1 k;obtain⟨w,d,n⟩:=r.get g;have l:=r.length;have F:=ur;have e:EP X a c Q w s:=(z,H,I,n,q,);exact tK (x:=w) b.typeIs slot_tuple_getitem.lookup
  (getItem_tuple (j:=j) (Q:=λr B=>r=w/\EP X a c Q r B) b 'D' 'D' (by rw[aE,<-l];exact f) ↥d (rfl,e,)) m
def ix_str:IxR X rIxS:=by
 intro D B A s E H x y v u Q I n o h m;obtain⟨z,i,c,rfl,rfl,w,k,q⟩:=h;obtain⟨t,rfl⟩:=n;obtain⟨C,rfl⟩:=o;obtain⟨j,a,e,p,f,g⟩:=B1 k;have l:z.cps.toList.length=z.length:=by simp[Eu]
 rw[l]at a f g;have r:=ur;exact tail_any (typeIs_str s z t) slot_str_getitem.lookup (getItem_str (c:=c) (by have b:decide (i< -(2^63:Int))=false:=decide_eq_false 'D';have d:decide (i≥ 2^63)=false:=decide_eq_false 'D';rw[b,d,Bool.or_false]) (by rw[a];simpa using e) (.str ⟨#[c]⟩,H,I.tok _,(_,rfl,),q,)) m
def rIx(K:ah):R2:=λx y H Q=>rIxL K x y H Q\/rIxT K x y H Q\/rIxS x y H Q
def ix_seq:IxR X (rIx X.K):=ix_list.or (ix_tup.or ix_str)
def AW(lo hi:Option Int)(n:Nat):(lT lo hi none n).1=((HT.sIx n 0 lo:Nat):Int)/\(lT lo hi none n).2.1=((HT.sIx n n hi:Nat):Int)/\(lT lo hi none n).2.2=1:=by
 refine(?_,?_,rfl,)
 .cases lo with
  |none=>simp[lT,HT.sIx]
  |some i=>
   simp only[lT,HT.sIx,wk,show(1:Int)>0 by decide,if_true];by_cases h:i<0;·simp only[h,if_true]<;>lia
   .simp only[h,if_false]<;>lia
 .cases hi with
  |none=>simp[lT,HT.sIx]
  |some i=>
   simp only[lT,HT.sIx,wk,show(1:Int)>0 by decide,if_true];by_cases h:i<0;·simp only[h,if_true]<;>lia
   .simp only[h,if_false]<;>lia
def yW(a:List Value)(lo hi:Option Int):slicePick a.toArray lo hi none=((a.drop (HT.sIx a.length 0 lo)).take (HT.sIx a.length a.length hi-HT.sIx a.length 0 lo)).toArray:=by obtain⟨b,c,d⟩:=AW lo hi a.toArray.size;unfold slicePick;rw[b,c,d];simp only[sliceRange_one,pick_run,aE]<;>rfl
def rSlL(K:ah):V->Option Int->Option Int->Hp->VK->Prop:=λx lo hi H Q=>∃a xs,x=.ref a/\SqL K H a xs/\∀p,H p=none->Q (.ref p) (upd H p (.lst (vG xs lo hi)))
def sl_list:SlR X (rSlL X.K):=by intro p s y H x v u w lo hi t Q I l f j k h;obtain⟨a,c,rfl,g,q⟩:=h;cases l;obtain⟨m,r,d,i⟩:=I.list g;have e:=r.length;refine("list",_,slot_list_getitem.lookup,d.isList.typeIs,?_,);refine wpAny_getItem_list_slice d.isList f j k .none 'F' ?_ (by rw[aE]<;>lia);rw[yW,<-e];refine(.ref ⇑s,_,I.laid (t':=s.toks) (o:=.lst (vG c lo hi)) (λb n q=>af _ q) (ay _) ?_,rfl,q _ (I.hok.fresh (ay _)),);exact(aO (D1 c lo hi) i,_,0,(r.drop (HT.sIx c.length 0 lo)).take (HT.sIx c.length c.length hi-HT.sIx c.length 0 lo),av _ rfl,)
abbrev sG:V->Bool
 |.non=>true
 |.bl _=>true
 |.int _=>true
 |.str _=>true
 |_=>false
abbrev eqV:V->V->Bool
 |.non,.non=>true
 |.bl a,.bl b=>a==b
 |.bl a,.int b=>(if a then 1 else 0)==b
 |.int a,.bl b=>a==(if b then 1 else 0)
 |.int a,.int b=>a==b
 |.str a,.str b=>a==b
 |_,_=>false
def gD{v:Value}(f:RelV y u)(c:RelV x v)(g:sG y=true)(e:sG x=true):OM A s u v (eqV y x):=by
 cases y with
 |non=>
  cases f;cases x with
  |non=>cases c;exact OM.same _
  |bl b=>cases c;exact OM.none_bool b
  |int b=>obtain⟨t,rfl⟩:=c;exact OM.none_int b t
  |str b=>obtain⟨t,rfl⟩:=c;exact OM.none_str b t
  |_=>exact absurd (show false=true from e) ao
 |bl a=>
  cases f;cases x with
  |non=>cases c;exact OM.bool_none a
  |bl b=>cases c;exact OM.bool_bool a b
  |int b=>obtain⟨t,rfl⟩:=c;exact OM.bool_int a b t
  |str b=>obtain⟨t,rfl⟩:=c;exact OM.bool_str a b t
  |_=>exact absurd (show false=true from e) ao
 |int a=>
  obtain⟨d,rfl⟩:=f;cases x with
  |non=>cases c;exact OM.int_none a d
  |bl b=>cases c;exact OM.int_bool a d b
  |int b=>obtain⟨t,rfl⟩:=c;exact OM.int_int a d b t
  |str b=>obtain⟨t,rfl⟩:=c;exact ED a d b t
  |_=>exact absurd (show false=true from e) ao
 |str a=>
  obtain⟨d,rfl⟩:=f;cases x with
  |non=>cases c;exact OM.str_none a d
  |bl b=>cases c;exact OM.str_bool a d b
  |int b=>obtain⟨t,rfl⟩:=c;exact EC a d b t
  |str b=>obtain⟨t,rfl⟩:=c;exact OM.str_str a d b t
  |_=>exact absurd (show false=true from e) ao
 |_=>exact absurd (show false=true from g) ao
abbrev eqU(x:V)(u:Value):Bool:=match u with
 |.none=>eqV .non x
 |.bool b=>eqV (.bl b) x
 |.int i _=>eqV (.int i) x
 |.str z _=>eqV (.str z) x
 |_=>false
def NL(r:RelV y u)(f:sG y=true):eqU x u=eqV y x:=by
 cases y with
 |non=>cases r;rfl
 |bl b=>cases r;rfl
 |int i=>obtain⟨t,rfl⟩:=r;rfl
 |str z=>obtain⟨t,rfl⟩:=r;rfl
 |_=>exact absurd (show false=true from f) ao
theorem tF:∀{xs:List V}{us:List Value},bS xs us->xs.all sG=true->us.any (eqU x)=xs.any λy=>eqV y x
 |_,_,.nil,_=>rfl
 |y::xs,u::us,.cons r t,f=>by rw[EI,az]at f;rw[iM,iM,NL r f.1,tF t f.2]
theorem oB{v:Value}(b:RelV x v)(a:sG x=true):∀{xs:List V}{us:List Value},bS xs us->xs.all sG=true->∀u∈us,OM A s u v (eqU x u)
 |_,_,.nil,_=>λu hu=>by cases hu
 |y::xs,u::us,.cons r t,f=>λc hu=>by
  rw[EI,az]at f;rcases aA.mp hu with rfl|hu;·rw[NL r f.1];exact gD r b f.1 a
  .exact oB b a t f.2 c hu
abbrev inV(x:V)(xs:List V):Bool:=xs.any λy=>eqV y x
def rIn(K:ah)(a:Bool):R2:=λx y H Q=>∃p xs,y=.ref p/\(SqL K H p xs\/SqT K H p xs)/\sG x=true/\xs.all sG=true/\Q (.bl (if a then !inV x xs else inV x xs)) H
def Jn:OpR X (cZ .In) (rIn X.K false):=by
 intro i s k H x y v u Q I e g h;obtain⟨p,j,rfl,hq,d,fs,q⟩:=h;cases g;rcases hq with hq|hq;·obtain⟨a,r,c,f⟩:=I.list hq;refine SeqAt.in_listAt (eqU x) c.isList (λw b=>oB e d r fs w ↥b) (.bl _,H,I,rfl,?_,);rw[show a.toArray.any (eqU x)=a.any (eqU x) by simp,tF r fs];exact q
 .obtain⟨a,r,c,f⟩:=I.tuple hq;refine SeqAt.in_tupleAt (eqU x) c (λw b=>oB e d r fs w ↥b) (.bl _,H,I,rfl,?_,);rw[show a.toArray.any (eqU x)=a.any (eqU x) by simp,tF r fs];exact q
def Bi:OpR X (cZ .NotIn) (rIn X.K true):=by
 intro i s k H x y v u Q I e g h;obtain⟨p,j,rfl,hq,d,fs,q⟩:=h;cases g;rcases hq with hq|hq;·obtain⟨a,r,c,f⟩:=I.list hq;refine OL (eqU x) c.isList (λw b=>oB e d r fs w ↥b) (.bl _,H,I,rfl,?_,);rw[show a.toArray.any (eqU x)=a.any (eqU x) by simp,tF r fs];exact q
 .obtain⟨a,r,c,f⟩:=I.tuple hq;refine SeqAt.notIn_tupleAt (eqU x) c (λw b=>oB e d r fs w ↥b) (.bl _,H,I,rfl,?_,);rw[show a.toArray.any (eqU x)=a.any (eqU x) by simp,tF r fs];exact q
def Bh:OpR X (cZ .NotIn) (λx y H Q=>∃i j,x=.str i/\y=.str j/\Q (.bl (!(!(iq j i 0 j.length 1).isEmpty))) H):=by intro c s e H x y v u Q I a b h;obtain⟨i,j,rfl,rfl,q⟩:=h;obtain⟨t,rfl⟩:=a;obtain⟨d,rfl⟩:=b;exact notIn_str (.bl _,H,I,rfl,q,)
def BW:fA X (.builtin "len") (λxs H Q=>∃p ys,xs=[.ref p]/\(SqL X.K H p ys\/SqT X.K H p ys)/\Q (.int ys.length) H):=by
 intro i s k H xs j Q I r h;obtain⟨p,ys,rfl,hq,q⟩:=h;obtain⟨u,rfl,f⟩:=vals1 r;cases f;have g:=ur;rcases hq with hq|hq;·obtain⟨e,c,b,d⟩:=I.list hq;have a:=c.length;exact Calls.call_len_list b.isList (by simp only[aE]<;>lia) (.int ys.length,H,I.tok _,⟨s.toks+1,by rw[aE,a]⟩,q,)
 .obtain⟨e,c,b,d⟩:=I.tuple hq;have a:=c.length;exact len_tuple b (by simp only[aE]<;>lia) (.int ys.length,H,I.tok _,⟨s.toks+1,by rw[aE,a]⟩,q,)
def BV:fA X (.builtin "len") (λxs H Q=>∃z,xs=[.str z]/\z.length<=sizeLine/\Q (.int z.length) H):=by intro c s e H xs d Q I r h;obtain⟨z,rfl,b,q⟩:=h;obtain⟨u,rfl,t,rfl⟩:=vals1 r;have a:=ur;exact len_str 'D' (.int z.length,H,I.tok _,(_,rfl,),q,)
def fA.or{f:Value}{r b:List V->Hp->VK->Prop}(h:fA X f r)(h':fA X f b):fA X f (λxs H Q=>r xs H Q\/b xs H Q):=by
 intro a s e H xs d Q I c q;rcases q with q|q;·exact h a s e H xs d Q I c q
 .exact h' a s e H xs d Q I c q
def BU:fA X (.type "list") (λxs H Q=>∃p ys,xs=[.ref p]/\(SqL X.K H p ys\/SqT X.K H p ys)/\∀l,H l=none->Q (.ref l) (upd H l (.lst ys))):=by
 intro y s A H xs B Q I r h;obtain⟨p,ys,rfl,hq,q⟩:=h;obtain⟨u,rfl,z⟩:=vals1 r;cases z;have v:∀(c:List Value),bS ys c->ys.length<=sizeLine->∀(a:Heap)(d:Nat),(∀b w,s.heap.get? b<*w->a.get? b<*w)->
   a.get? ⇑s<*{cls:=.type "list",dict:=none,data:=.seq c.toArray d,slots:= #[]}->EP X y A Q (.ref ⇑s) {s with heap:=a}:=λc f g a d i e=>
  (.ref ⇑s,_,I.laid (t':=s.toks) i (ay _) (show dA X.prog X.w _ a _ (.lst ys)from(g,c,d,f,e,)),rfl,q _ (I.hok.fresh (ay _)),)
 rcases hq with hq|hq;·obtain⟨c,f,t,g⟩:=I.list hq;have x:=f.length;obtain⟨o,m,j,n,k⟩:=t.isList;exact call_list_seq p (.inl rfl) m j k (λa d i e=>v c f g a d i e) (by simp only[aE]<;>lia)
 .obtain⟨c,f,t,g⟩:=I.tuple hq;have x:=f.length;obtain⟨o,m,j,n,k⟩:=t;exact call_list_seq p (.inr rfl) m j k (λa d i e=>v c f g a d i e) (by simp only[aE]<;>lia)
def zo:fA X (.type "tuple") (λxs H Q=>∃p ys,xs=[.ref p]/\((SqL X.K H p ys/\∀l,H l=none->Q (.ref l) (upd H l (.tup ys)))\/(SqT X.K H p ys/\Q (.ref p) H))):=by
 intro j s k H xs w Q I r h;obtain⟨p,ys,rfl,h⟩:=h;obtain⟨u,rfl,t⟩:=vals1 r;cases t;rcases h with⟨hq,q⟩ |⟨hq,q⟩
 .obtain⟨c,f,d,i⟩:=I.list hq;have v:=f.length;refine call_tuple_list d.isList (λa n=>?_) (by simp only[aE]<;>lia);have g:Inv X j k H {s with heap:=a}:=I.kept (t':=s.toks) n;have m:Inv X j k (upd H a.objs.size (.tup ys)) {s with heap:=a.push {cls:=.type "tuple",data:=.seq c.toArray}}:=
   g.laid (t':=s.toks) (λb o e=>af _ e) (ay _) (show dA X.prog X.w _ _ _ (.tup ys)from(i,c,f,IsTup.new _ _,))
  exact(.ref a.objs.size,_,m,rfl,q _ (g.hok.fresh (ay _)),)
 .obtain⟨c,f,d,i⟩:=I.tuple hq;exact call_tuple_same d (.ref p,H,I,rfl,q,)
def tyV(K:ah)(T:String)(x:V)(H:Hp):Prop:=match x with
 |.str _=>T="str"
 |.int _=>T="int"
 |.ref p=>(T="list"/\∃xs,SqL K H p xs)\/(T="tuple"/\∃o,K.lookup p<*o/\o.cls=.type "tuple"/\o.dict=none)\/
   (T="dict"/\((∃kvs,H p<*(.dK kvs))\/∃kvs,H p<*(.dT kvs)))\/(T="set"/\∃S n,H p<*(.set S n))
 |_=>False
def tyV_is{T:String}{v:Value}(I:'A')(r:RelV x v)(ty:tyV X.K T x H):
  s.TypeIs v T/\∀a,v=.ref a->∃h,s.heap.get? a<*h/\h.dict=none:=by
 cases x with
 |str z=>obtain⟨t,rfl⟩:=r;cases(show T="str" from ty);exact⟨typeIs_str s z t,λ_ e=>nomatch e⟩
 |int i=>obtain⟨t,rfl⟩:=r;cases(show T="int" from ty);exact⟨typeIs_int s i t,λ_ e=>nomatch e⟩
 |ref p=>
  cases r;rcases ty with⟨rfl,q,hq⟩ |⟨rfl,o,b,k,g⟩ |⟨rfl,b⟩ |⟨rfl,S,n,b⟩;·obtain⟨m,_,j,_⟩:=I.list hq;refine(j.isList.typeIs,λa e=>?_,);cases e;obtain⟨o,n,e,c,g,_⟩:=j;exact(o,e,g,)
  .refine((o,I.kIn p o b,k,),λa e=>?_,);cases e;exact(o,I.kIn _ o b,g,)
  .have z:∃o,s.heap.get? p<*o/\o.ExactDict:=by
    rcases b with⟨l,b⟩ |⟨l,b⟩;·obtain⟨_,_,_,_,o,_,_,e,d,_⟩:=I.hok p _ b;exact(o,e,d,)
    .obtain⟨_,_,_,_,o,_,_,e,d,_⟩:=I.hok p _ b;exact(o,e,d,)
   obtain⟨o,e,d⟩:=z;refine((o,e,d.1,),λa f=>?_,);cases f;exact(o,e,d.2.1,)
  .obtain⟨o,_,_,_,e,d,_⟩:=I.hok p _ b;refine((o,e,d.1,),λa f=>?_,);cases f;exact(o,e,d.2.1,)
 |_=>exact gT ty
def tBM(K:ah)(T:String)(r:V->List V->Hp->VK->Prop)(to:TE)(t:TA):TE:=λσ H Q=>to σ H λx H1=>tyV K T x H1/\t σ H1 λxs H2=>r x xs H2 Q
variable {es:List Expr}{to:TE}{t:TA}{name:Str}{apos:Pos}{T id:String}{r:V->List V->Hp->VK->Prop}
def Mv(A:PlainAttrs T)(slot:Slot T name id)(z:typeOf (.builtin id)=pure (.type "method_descriptor"))(u:MtR X id r)(w:PE X o to)(m:PA X (e::es) t)
  (n:OI o name X.env (eval o X.env)=eval o X.env:=by rfl)
  (p:((backTo bn (bf (e::es) X.env)).all (λx=> !x.1)&&(Ca bn (pR [] X.env)).all (λx=>x.1.isSome)
   &&decide ((e::es).length+([]:List Keyword).length+(if([]:List Keyword).isEmpty then 0 else 1)<30))=true:=by rfl)
  (q:(apos.endLine==bn.line)=true:=by rfl) (hs:bf (e::es) X.env=(false,eval e X.env)::bf es X.env:=by rfl) (y:(backTo bn (bf es X.env)).any (·.1)=false:=by rfl):
  PE X (.Call (.Attribute o name apos) (e::es) [] bn) (tBM X.K T r to t):=by
 intro a s b H Q I h;refine wpAny_Call_method_late n p q rfl (thn (w a s b H _ I h) λv E ⟨x,g,c,f,ty,B⟩=>?_);obtain⟨k,l⟩:=tyV_is c f ty;refine(T,id,A,slot,z,k,l,?_,);have d:=m bn a E b g _ c B;rw[hs]at d⊢;refine Calls.callWith_builtin (by show(false||(backTo bn (bf es X.env)).any (·.1))=false;rw[y]<;>rfl) (Calls.evalArgs_plain ?_);exact thn d λG F ⟨J,i,j,D,C⟩=>u a F b i x J v G Q j f D C
end
def MtM(X:Cx)(id:String)(r:V->List V->Hp->VK->Prop):Prop:=
 ∀(pins:List (Addr×Obj))(s:Shared)(σ:St)(H:Hp)(x:V)(xs:List V)(v:Value)(us:List Value)(Q:VK),'A'->RelV x v->bS xs us->r x xs H Q->
  'C' (call (.builtin id) (v::us)) (EP X pins σ Q) X.xe s
def bS.one(h:bS [x] us):∃u,us=[u]/\RelV x u:=by
 cases h with
 |cons r k=>cases k with
  |nil=>exact(_,rfl,r,)
def bS.two{x y:V}{us:List Value}(h:bS [x,y] us):∃u v,us=[u,v]/\RelV x u/\RelV y v:=by
 cases h with
 |cons r k=>obtain⟨v,e,q⟩:=bS.one k;exact(_,v,by rw[e],r,q,)
theorem bS.eraseIdx:∀{xs:List V}{us:List Value}(i:Nat),bS xs us->bS (xs.eraseIdx i) (us.eraseIdx i)
 |_,_,_,.nil=>.nil
 |_,_,0,.cons _ t=>t
 |_,_,i+1,.cons r t=>.cons r (bS.eraseIdx i t)
theorem bS.rep(h:bS xs us):∀k:Nat,bS (a8 k xs).flatten (a8 k us).flatten
 | 0=>.nil
 |k+1=>by rw[dR,dR,ju,ju];exact bS.append h (bS.rep h k)
theorem zR{a:Type}:∀(l:List a)(i:Nat),(l.eraseIdx i).length<=l.length
 | [],_=>ay _
 |_::_,0=>dw _
 |_::r,i+1=>Nat.succ_le_succ (zR r i)
theorem foldl_rep(a:List Value):∀(k:Nat)(ac:List Value),
  List.foldl (λc x2=>c++x2) ac.toArray (a8 k a.toArray)=(ac++(a8 k a).flatten).toArray
 | 0,ac=>by simp
 |k+1,ac=>by
  have e:ac.toArray++a.toArray=(ac++a).toArray:=by simp
  have b:(ac++a)++(a8 k a).flatten=ac++(a8 (k+1) a).flatten:=by rw[dR,ju,ni]
  rw[<-b,<-foldl_rep a k (ac++a),<-e,dR,dU]
section
variable {pins:List (Addr×Obj)}{s:Shared}{l b:Addr}
def Inv.lset{f:Array Value->Array Value}(I:'A')(a:H l<*(.lst xs))
  (e:s.heap.get? l<*{cls:=.type "list",data:=.seq ad.toArray n}) (hf:f ad.toArray=its'.toArray) (d:bS ys its') (hz:ys.length<=sizeLine):
  Inv X pins σ (upd H l (.lst ys)) {s with heap:=s.heap.update l (a9 f),toks:=t'}:=by
 have q:=Kn e f;rw[hf]at q;refine I.write (x:=l) (e:=l) (by rw[a];exact trivial) (.inl rfl) (λg u b c=>(aP s.heap (a9 f) (bK b)).trans c) (_,q,) ?_;exact(hz,its',_,d,q,)
def Inv.lnew(I:'A')(a:bS ys ad)(hz:ys.length<=sizeLine):
  Inv X pins σ (upd H ⇑s (.lst ys)) {s with heap:=s.heap.push {cls:=.type "list",data:=.seq ad.toArray},toks:=t'}:=
 I.laid (λ_ _ q=>af _ q) (ay _) (hz,ad,0,a,av _ rfl,)
theorem Inv.fresh(I:'A'):H ⇑s=none:=I.hok.fresh (ay _)
def Inv.FP(I:'A')(a:H l<*(.lst xs)):xs.length<=sizeLine/\∃(ad:List Value)(n:Nat),bS xs ad/\xs.length=ad.length/\s.heap.get? l<*{cls:=.type "list",data:=.seq ad.toArray n}:=by obtain⟨z,ad,n,r,e⟩:=I.hok l _ a;exact(z,ad,n,r,r.length,e,)
def Ds(h:n<=sizeLine):gN n=false:=by unfold gN;exact decide_eq_false 'D'
end
section
def A6:V->List V->Hp->VK->Prop:=λx vs H Q=>∃l xs y,x=.ref l/\vs=[y]/\H l<*(.lst xs)/\xs.length<sizeLine/\Q .non (upd H l (.lst (xs++[y])))
def Ju:MtM X "list.append" A6:=by intro j s p H x m v k Q I f d h;obtain⟨l,o,y,rfl,rfl,a,i,q⟩:=h;cases f;obtain⟨u,rfl,c⟩:=d.one;obtain⟨z,b,n,r,g,e⟩:=I.FP a;refine tM F.slot_list_append (_,e,rfl,) F.entry_list_append (F.args_list_append_2 _ _) (PySem.list_append l b.toArray n u (by rw[aE];lia)) (e,?_,);refine(.non,_,I.lset (its':=b++[u]) a e 'F' (r.append (.cons c .nil)) ?_,rfl,q,);rw[bu,qD];lia
def Hf:V->List V->Hp->VK->Prop:=λx vs H Q=>∃l b xs zs,x=.ref l/\vs=[.ref b]/\H l<*(.lst xs)/\H b<*(.lst zs)/\xs.length+zs.length<=sizeLine/\Q .non (upd H l (.lst (xs++zs)))
def Jt:MtM X "list.extend" Hf:=by
 intro B s K H x D v C Q I t p h;obtain⟨l,b,E,J,rfl,rfl,d,g,A,q⟩:=h;cases t;obtain⟨u,rfl,o⟩:=p.one;cases o;obtain⟨z,a,n,r,w,e⟩:=I.FP d;obtain⟨G,c,k,m,y,f⟩:=I.FP g;have j:a.toArray.size+c.toArray.size<=sizeLine:=by rw[aE,aE];lia
 have i:¬(!a.toArray.isEmpty&&gN (a.toArray.size+c.toArray.size))=true:=by rw[Ds j,dP];exact ao
 refine tM F.slot_list_extend (_,e,rfl,) F.entry_list_extend (F.args_list_extend_2 _ _)
  (AutoSeq1.list_extend_list_list_0 l a.toArray n b c.toArray k i (by rw[aE];lia) 'D') (e,f,?_,)
 refine(.non,_,I.lset (its':=a++c) d e 'F' (r.append m) ?_,rfl,q,);rw[bu];lia
def LS:V->List V->Hp->VK->Prop:=λx vs H Q=>∃l xs i k y,x=.ref l/\vs=[.int i]/\H l<*(.lst xs)∧-(2^63)<=i/\i<2^63/\seqIndex? i xs.length<*k/\xs[k]?<*y/\Q y (upd H l (.lst (xs.eraseIdx k)))
def ML:MtM X "list.pop" LS:=by
 intro D s J H x G v E Q I B p h;obtain⟨l,C,i,k,y,rfl,rfl,b,c,d,f,m,q⟩:=h;cases B;obtain⟨u,rfl,o⟩:=p.one;obtain⟨t,rfl⟩:=o;obtain⟨z,a,n,r,g,e⟩:=I.FP b;obtain⟨w,j,A⟩:=r.get m;refine tM F.slot_list_pop (_,e,rfl,) F.entry_list_pop (F.args_list_pop_2 _ _)
  (MeetsSeq.list_pop_at l a.toArray n i t k w (fitsIndex_both c d) (by rw[aE,<-g];exact f) (by rw[<-pZ];exact j) (by rw[aE];lia)) (e,?_,)
 refine(y,_,I.lset (its':=a.eraseIdx k) b e ?_ (r.eraseIdx k) ?_,A,q,);·show a.toArray.eraseIdxIfInBounds k=(a.eraseIdx k).toArray;rw[List.eraseIdxIfInBounds_toArray]
 .have :=zR C k;lia
def rCat:R2:=λx y H Q=>∃l b xs zs,x=.ref l/\y=.ref b/\H l<*(.lst xs)/\H b<*(.lst zs)/\xs.length+zs.length<=sizeLine/\∀p,H p=none->Q (.ref p) (upd H p (.lst (xs++zs)))
def op_cat:OpR X (eV .Add) rCat:=by
 intro A s E H x y v u Q I k m h;obtain⟨l,b,B,D,rfl,rfl,i,g,t,q⟩:=h;cases k;cases m;obtain⟨z,a,n,r,o,e⟩:=I.FP i;obtain⟨C,c,w,j,p,d⟩:=I.FP g;refine PySem.P.add_list e d ?_ (by rw[aE,aE];lia);have f:a.toArray++c.toArray=(a++c).toArray:=by simp
 rw[f];exact(.ref _,_,I.lnew (t':=s.toks) (r.append j) (by rw[bu];lia),rfl,q _ I.fresh,)
def rRep:R2:=λx y H Q=>∃l k xs,x=.ref l/\y=.int k/\H l<*(.lst xs)∧-(2^63)<=k/\k<2^63/\xs.length*k.toNat<=sizeLine/\
 ∀p,H p=none->Q (.ref p) (upd H p (.lst (a8 k.toNat xs).flatten))
def len_rep{a:Type}(xs:List a)(k:Nat):(a8 k xs).flatten.length=k*xs.length:=by
 induction k with
 |zero=>simp
 |succ k ih=>rw[dR,ju,bu,ih,Ko,Nat.add_comm]
def op_rep:OpR X (eV .Mult) rRep:=by
 intro K s M H x y v u Q I E G h;obtain⟨l,k,L,rfl,rfl,o,i,j,f,q⟩:=h;cases E;obtain⟨t,rfl⟩:=G;obtain⟨z,b,n,r,A,e⟩:=I.FP o;have B:b.toArray.size*k.toNat<=sizeLine:=by rw[aE,<-A];exact f
 have p:¬b.toArray.size*k.toNat>(2^63-1)/8:=by
  have :(sizeLine:Nat)<=(2^63-1)/8:=by decide
  lia
 have w:¬(!Builtin.List.listFitsIndex k)=true:=by rw[fitsIndex_both i j];exact ao
 have C:¬gN (b.toArray.size*k.toNat)=true:=by rw[Ds B];exact ao
 have D:List.foldl (λc d=>c++d) #[] (a8 (if b.toArray.isEmpty=true then 0 else k.toNat) b.toArray)=(a8 k.toNat b).flatten.toArray:=by
  have g:∀m:Nat,List.foldl (λc d=>c++d) #[] (a8 m b.toArray)=(a8 m b).flatten.toArray:=λm=>by have :=foldl_rep b m [];rw[Av]at this;exact this
  rw[g];cases b with
  |nil=>simp
  |cons a r'=>rw[if_neg 'F']
 refine wpAny_binaryOp_repeat_ref (T:="list") (U:="int") 'E' (_,e,rfl,) (λJ=>typeIs_int J k t) noFill_list_mul F.fills_int_mul F.slot_int_rmul repeat_list F.slot_int_index.lookup
  (tM F.slot_int_rmul (typeIs_int s k t) F.entry_int_rmul (F.args_int_rmul_2 _ _) (int___rmul___int_list k t l b.toArray n)
   (e,rfl,(_,e,rfl,),tM F.slot_list_mul (_,e,rfl,) F.entry_list_mul (F.args_list_mul_2 _ _) (AutoListH.list___mul___list_int_3 l b.toArray n k t w p C) (e,?_,),))
 rw[D];exact(.ref _,_,I.lnew (t':=s.toks) (r.rep k.toNat) (by rw[len_rep,Nat.mul_comm];exact f),rfl,q _ I.fresh,)
end
section
variable {κ:Type}[DecidableEq κ]
abbrev fk(kvs:List (κ×V))(k:κ):Option V:=(kvs.find? λkv=>decide (kv.1=k)).map (·.2)
abbrev putK(kvs:List (κ×V))(k:κ)(v:V):List (κ×V):=
 if(kvs.any λkv=>decide (kv.1=k))=true then kvs.map (λkv=>if kv.1=k then(kv.1,v)else kv)else kvs++[(k,v)]
def gV{p:κ×V}{r:List (κ×V)}{k:κ}(e:p.1=k):fk (p::r) k<*p.2:=by simp[fk,iY,e]
def gW{p:κ×V}{r:List (κ×V)}{k:κ}(e:¬p.1=k):fk (p::r) k=fk r k:=by simp[fk,iY,e]
theorem kE(k:κ):∀kvs:List (κ×V),(kvs.any λkv=>decide (kv.1=k))=(fk kvs k).isSome
 | []=>rfl
 |p::r=>by
  rw[iM];by_cases e:p.1=k;·simp only[gV e,decide_eq_true e,Bool.true_or,gd]
  .rw[gW e,decide_eq_false e,Bool.false_or];exact kE k r
theorem Cv(k j:κ)(y:V):∀kvs:List (κ×V),fk (kvs.map λkv=>if kv.1=k then(kv.1,y)else kv) j=(fk kvs j).map λx=>if j=k then y else x
 | []=>rfl
 |p::r=>by
  have a:=Cv k j y r;rw[bG];by_cases h:p.1=k
  .rw[if_pos h];by_cases e:p.1=j;·rw[gV (p:=(p.1,y)) e,gV e,kB,if_pos (e.symm.trans h)]
   .rw[gW (p:=(p.1,y)) e,gW e,a]
  .rw[if_neg h];by_cases e:p.1=j;·rw[gV (p:=p) e,gV e,kB,if_neg (λz=>h (e.trans z))]
   .rw[gW (p:=p) e,gW e,a]
theorem zw(k j:κ)(y:V):∀kvs:List (κ×V),fk kvs k=none->fk (kvs++[(k,y)]) j=if j=k then some y else fk kvs j
 | [],_=>by
  by_cases e:k=j;·rw[if_pos e.symm];exact gV (p:=(k,y)) e
  .rw[if_neg (λz=>e z.symm)];exact gW (p:=(k,y)) e
 |p::r,hn=>by
  rw[yR];have a:¬p.1=k:=λz=>by rw[gV z]at hn;cases hn
  rw[gW a]at hn;have b:=zw k j y r hn;by_cases e:p.1=j;·rw[gV e,gV e,if_neg (λz=>a (e.trans z))]
  .rw[gW e,gW e,b]
def KJ(b:List (κ×V))(k j:κ)(y:V):fk (putK b k y) j=if j=k then some y else fk b j:=by
 unfold putK;by_cases a:(b.any λd=>decide (d.1=k))=true
 .rw[if_pos a,Cv];rw[kE]at a;by_cases e:j=k;·obtain⟨x,c⟩:=cA.mp a;rw[if_pos e,e,c,kB,if_pos rfl]
  .rw[if_neg e];cases fk b j with
   |none=>rfl
   |some x=>rw[kB,if_neg e]
 .rw[if_neg a];refine zw k j y b ?_;rw[kE]at a;cases q:fk b k with
  |none=>rfl
  |some x=>rw[q]at a;exact(a rfl).elim
def oG(a:List (κ×V))(k:κ)(v:V):(putK a k v).length<=a.length+1:=by
 unfold putK;split;·rw[ai];lia
 .rw[bu,aU,gy];lia
def LX{a:List (κ×V)}{k:κ}(v:V)(h:fk a k=none):putK a k v=a++[(k,v)]:=by unfold putK;rw[kE,h];exact if_neg 'E'
def uH.JD{o:Option V}{u:Option Value}(r:uH o u):o.isSome=u.isSome:=by
 cases o with
 |none=>cases u with
  |none=>rfl
  |some _=>exact(show False from r).elim
 |some _=>cases u with
  |none=>exact(show False from r).elim
  |some _=>rfl
theorem KV.any{a:List (κ×V)}{vs:List (κ×Value)}(r:KV a vs)(k:κ):(a.any λkv=>decide (kv.1=k))=vs.any λkv=>decide (kv.1=k):=by
 unfold KV at r
 induction r with
 |nil=>rfl
 |cons h t ih=>rw[iM,iM,ih,h.1]
def KV.repl{b:List (κ×V)}{vs:List (κ×Value)}(r:KV b vs)(k:κ)(d:RelV y u):
  KV (b.map λkv=>if kv.1=k then(kv.1,y)else kv) (vs.map λkv=>if kv.1=k then(kv.1,u)else kv):=by
 unfold KV at r⊢
 induction r with
 |nil=>exact .nil
 | @cons p q ps qs h t ih=>
  rw[bG,bG];refine .cons ?_ ih;obtain⟨a,c⟩:=h;by_cases e:p.1=k;·rw[if_pos e,if_pos (a.symm.trans e)];exact(a,d,)
  .rw[if_neg e,if_neg (λz=>e (a.trans z))];exact(a,c,)
def KV.put{a:List (κ×V)}{vs:List (κ×Value)}(r:KV a vs)(k:κ)(b:RelV y u):KV (putK a k y) (stored vs k u):=by
 unfold putK stored;rw[r.any k];by_cases e:(vs.any λc=>decide (c.1=k))=true;·rw[if_pos e,if_pos e];exact r.repl k b
 .rw[if_neg e,if_neg e];exact Paired.snoc r (rfl,b,)
end
def HJ{k:Key}(r:RelV (kV k) u):(cg P w).is k u=true:=by
 cases k with
 |inl i=>obtain⟨t,e⟩:=(show ∃t,u=lE i t from r);subst e;exact oA P w i t
 |inr x=>obtain⟨t,e⟩:=(show ∃t,u=iZ x t from r);subst e;exact Dy P w x t
theorem uw:∀{ks:List Key}{us:List Value},bS (ks.map kV) us->ItemsAre (cg P w) ks us
 | [],_,r=>by rw[lF]at r;cases r;exact .nil
 |k::ks,_,r=>by
  rw[bG]at r;cases r with
  |cons h t=>exact .cons (HJ h) (uw t)
noncomputable abbrev KT(H:Hp):List (List Key×V)->List (List Key×Addr×Value)->Prop:=Paired λp q=>p.1=q.1/\H q.2.1<*(.tup (p.1.map kV))/\RelV p.2 q.2.2
def KT.val{d:List (List Key×V)}{xs:List (List Key×Addr×Value)}(r:KT H d xs)(k:List Key):uH (fk d k) ((atKey xs k).map (·.2)):=by
 induction r with
 |nil=>exact True.intro
 | @cons p q ps qs h t ih=>
  obtain⟨c,_,f⟩:=h;by_cases e:p.1=k
  .have a:q.1=k:=c.symm.trans e;have b:atKey (q::qs) k<*q.2:=by simp[atKey,iY,a]
   rw[gV e,b];exact f
  .have a:¬q.1=k:=λz=>e (c.trans z);have b:atKey (q::qs) k=atKey qs k:=by simp[atKey,iY,a]
   rw[gW e,b];exact ih
def KT.repl{c:List (List Key×V)}{xs:List (List Key×Addr×Value)}(r:KT H c xs)(k:List Key)(f:RelV y u):
  KT H (c.map λkv=>if kv.1=k then(kv.1,y)else kv) (xs.map (putAt k u)):=by
 induction r with
 |nil=>exact .nil
 | @cons p q ps qs h t ih=>
  rw[bG,bG];refine .cons ?_ ih;obtain⟨a,b,d⟩:=h;unfold putAt;by_cases e:p.1=k;·rw[if_pos e,if_pos (a.symm.trans e)];exact(a,b,f,)
  .rw[if_neg e,if_neg (λz=>e (a.trans z))];exact(a,b,d,)
def KT.put{a:List (List Key×V)}{xs:List (List Key×Addr×Value)}(r:KT H a xs)(k:List Key)(d:H b<*(.tup (k.map kV)))(c:RelV y u):
  KT H (putK a k y) (storedH xs k b u):=by
 have e:(a.any λf=>decide (f.1=k))=(atKey xs k).isSome:=by rw[kE,(r.val k).JD,Option.isSome_map]
 unfold putK storedH;rw[e];by_cases q:(atKey xs k).isSome=true;·rw[if_pos q,if_pos q];exact r.repl k c
 .rw[if_neg q,if_neg q];exact Paired.snoc r (rfl,d,c,)
def KT.keeps{a:List (List Key×V)}{xs:List (List Key×Addr×Value)}(r:KT H a xs)(c:∀b ys,H b<*(.tup ys)->H' b<*(.tup ys)):KT H' a xs:=
 Paired.qN r λ_ _ z=>(z.1,c _ _ z.2.1,z.2.2,)
section
variable {a:Addr}
def rd_of{u:HO}(ok:HOk P w H h)(e:Rd H a u):dA P w H h a u:=e.ok ok
def dk_rd{b:List (Key×V)}(ok:HOk P w H h)(e:Rd H a (.dK b)):b.length<=sizeLine/\(a==eS)=false/\∃vs,KV b vs/\h.DictOf (cg P w) a vs:=
 show dA P w H h a (.dK b)from rd_of ok e
def dk_of{b:List (Key×V)}(ok:HOk P w H h)(e:H a<*(.dK b)):b.length<=sizeLine/\(a==eS)=false/\∃vs,KV b vs/\h.DictOf (cg P w) a vs:=dk_rd ok (.inl e)
def Nd{ks:List Key}(ok:HOk P w H h)(e:H a<*(.tup (ks.map kV))):(qY (cg P w)).is h ks a:=by obtain⟨_,f,r,o,b,c,n,d⟩:=(show dA P w H h a (.tup (ks.map kV))from ok a _ e);exact(o,f.toArray,n,b,c,d,↥(uw r),)
def dt_rd{b:List (List Key×V)}(ok:HOk P w H h)(e:Rd H a (.dT b)):b.length<=sizeLine/\(a==eS)=false/\
  ∃xs,KT H b xs/\h.DictOfH (qY (cg P w)) a xs:=by
 obtain⟨z,y,xs,r,o,d,c,f,g,i,j,k⟩:=(show dA P w H h a (.dT b)from rd_of ok e);refine(z,y,xs,r,o,d,c,f,g,i,j,λx hx=>?_,k,);have all:∀{l:List (List Key×V)}{m:List (List Key×Addr×Value)},KT H l m->∀x∈m,(qY (cg P w)).is h x.1 x.2.1:=by
  intro l m q
  induction q with
  |nil=>intro x hx;exact nomatch hx
  | @cons p q ps qs hq t ih=>
   intro x hx;rcases aA.mp hx with e|hx;·subst e;exact Nd ok (by rw[<-hq.1];exact hq.2.1)
   .exact ih x hx
 exact all r x hx
def NM{b:List (List Key×V)}(ok:HOk P w H h)(e:H a<*(.dT b)):b.length<=sizeLine/\(a==eS)=false/\
  ∃xs,KT H b xs/\h.DictOfH (qY (cg P w)) a xs:=dt_rd ok (.inl e)
end
section
variable {pins:List (Addr×Obj)}{s:Shared}{a:Addr}{u r:Value}{o:Option V}{E:'I'}
def Inv.big(I:'A'):eS<⇑s:=by have h:bx<⇑s:=(I.mod.glob.keeps I.bk).lt;exact gu 'E' h
def HZ{c:HO}(I:'A')(g:Mut (H a))(hs:dj a s.heap h')(f:∃q,h'.get? a<*q)(h:dA X.prog X.w (upd H a c) h' a c):
  Inv X pins σ (upd H a c) {s with heap:=h',toks:=t'}:=
 I.write (x:=a) (e:=a) g (.inl rfl) (λb q d z=>(hs.2 b d).trans z) f h
def dk_new{b:List (Key×V)}{vs:List (Key×Value)}(z:b.length<=sizeLine)(c:(a==eS)=false)(d:KV b vs)(dd:h'.DictOf (cg P w) a vs):
  dA P w H' h' a (.dK b):=(z,c,vs,d,dd,)
end
def DY(h:Heap)(a:eS<h.objs.size):dA P w H (h.push {cls:=.type "dict",data:=.dict #[]}) h.objs.size (.dK []):=
 (a7 _,beq_eq_false_iff_ne.mpr (bK (aL a)),[],.nil,Heap.DictOf.new h,)
def NO(h:Heap)(a:eS<h.objs.size):dA P w H (h.push {cls:=.type "dict",data:=.dict #[]}) h.objs.size (.dT []):=
 (a7 _,beq_eq_false_iff_ne.mpr (bK (aL a)),[],.nil,_,#[],0,av _ rfl,(rfl,rfl,rfl,),rfl,rfl,fU,)
def K4:TE:=λ_ H Q=>∀p,H p=none->Q (.ref p) (upd H p (.dK []))
def K3:TE:=λ_ H Q=>∀p,H p=none->Q (.ref p) (upd H p (.dT []))
section
def Mq:PE X (.Dict [] [] pos) K4:=λb s c H Q I h=>
 wpAny_Dict_empty (.ref ⇑s,_,I.laid (a:=⇑s) (o:=.dK []) (t':=s.toks) (λ_ _ q=>af _ q) (ay _) (DY s.heap I.big),rfl,h _ (I.hok.fresh (ay _)),)
def Mp:PE X (.Dict [] [] pos) K3:=λb s c H Q I h=>
 wpAny_Dict_empty (.ref ⇑s,_,I.laid (a:=⇑s) (o:=.dT []) (t':=s.toks) (λ_ _ q=>af _ q) (ay _) (NO s.heap I.big),rfl,h _ (I.hok.fresh (ay _)),)
end
abbrev E1:List (TE×TE)->St->Hp->(List (V×V)->Hp->Prop)->Prop
 | [],_,H,Q=>Q [] H
 | (tk,tv)::r,σ,H,Q=>tk σ H λx H1=>tv σ H1 λy H2=>E1 r σ H2 λps a=>Q ((x,y)::ps) a
noncomputable abbrev VV:List (V×V)->List (Value×Value)->Prop:=Paired λp q=>RelV p.1 q.1/\RelV p.2 q.2
def PPs(X:Cx)(pos:Pos)(a:List (Option Expr))(c:List Expr)(b:List (TE×TE)):Prop:=
 ∀(pins:List (Addr×Obj))(s:Shared)(σ:St)(H:Hp)(Q:List (V×V)->Hp->Prop),'A'->E1 b σ H Q->
  'C' (evalPairs (pairTrees a c X.env pos)) (λvs s'=>∃ps H',Inv X pins σ H' s'/\VV ps vs/\Q ps H') X.xe s
def pps_nil:PPs X pos [] [] []:=λa s b H Q I h=>pairTrees_nil_walk ([],H,I,.nil,h,)
def L9{k v:Expr}{ks:List (Option Expr)}{vs:List Expr}{tk d:TE}{c:List (TE×TE)}(m:PE X k tk)(o:PE X v d)(n:PPs X pos ks vs c):
  PPs X pos (some k::ks) (v::vs) ((tk,d)::c):=λa s b H Q I h=>
 pairTrees_cons_walk (thn (m a s b H _ I h) λu B ⟨x,e,i,z,q⟩=>thn (o a B b e _ i q) λE C ⟨y,f,j,A,r⟩=>
  thn (n a C b f _ j r) λF D ⟨p,g,l,w,t⟩=>((x,y)::p,g,l,.cons (z,A,) w,t,))
abbrev xJ(kvs more:List (Key×V)):List (Key×V):=more.foldl (λac kv=>putK ac kv.1 kv.2) kvs
def KV.merge:∀{more:List (Key×V)}{rs:List (Key×Value)}{kvs:List (Key×V)}{vs:List (Key×Value)},KV more rs->KV kvs vs->KV (xJ kvs more) (merged vs rs):=by
 intro more rs kvs vs r;unfold KV at r
 induction r generalizing kvs vs with
 |nil=>intro q;exact q
 | @cons p q ps qs h t ih=>
  intro a;have e:KV (putK kvs p.1 p.2) (stored vs q.1 q.2):=by have :=a.put p.1 h.2;rw[<-h.1];exact this
  exact ih e
theorem qf:∀(more kvs:List (Key×V)),(xJ kvs more).length<=kvs.length+more.length
 | [],kvs=>by show kvs.length<=kvs.length+0;lia
 |p::r,kvs=>by have a:=qf r (putK kvs p.1 p.2);have b:=oG kvs p.1 p.2;show(xJ (putK kvs p.1 p.2) r).length<=_;rw[aU];lia
theorem ym:∀{kvs:List (Key×V)}{ws:List (Value×Value)},VV (kvs.map λkv=>(kV kv.1,kv.2)) ws->∃rs,Carries (cg P w) ws rs/\KV kvs rs
 | [],_,r=>by rw[lF]at r;cases r;exact([],True.intro,.nil,)
 |p::kvs,_,r=>by
  rw[bG]at r;cases r with
  | @cons a b as bs h t=>obtain⟨rs,c,q⟩:=ym t;obtain⟨e,d⟩:=b;exact((p.1,d)::rs,(HJ h.1,rfl,c,),.cons (rfl,h.2,) q,)
def tDisp(a:List (TE×TE)):TE:=λσ H Q=>∀p,H p=none->E1 a σ (upd H p (.dK [])) λps H2=>H2 p<*(.dK [])/\∃kvs:List (Key×V),ps=kvs.map (λkv=>(kV kv.1,kv.2))/\kvs.length<=15/\Q (.ref p) (upd H2 p (.dK (xJ [] kvs)))
def pe_disp{b:List (Option Expr)}{d:List Expr}{j:List (TE×TE)}(h:PPs X pos b d j)(r:b.all (·.isSome)=true)(v:b.length=d.length)(h0:b≠[])
  (p:b.length<=15):PE X (.Dict b d pos) (tDisp j):=by
 intro B s J H Q I q;have x:=I.hok.fresh (ay ⇑s);have k:=I.laid (a:=⇑s) (o:=.dK []) (h':=s.heap.push {cls:=.type "dict",data:=.dict #[]}) (t':=s.toks) (λ_ _ q=>af _ q) (ay _) (DY s.heap I.big);refine wpAny_Dict_walk (knd:=cg X.prog X.w) r v h0 p (thn (h B _ J _ _ k (q _ x)) λR N ⟨M,K,f,E,e,i,m,L,C⟩=>?_);subst m;obtain⟨G,c,F⟩:=ym (P:=X.prog) (w:=X.w) E;obtain⟨z,t,O,D,l⟩:=dk_of f.hok e;cases D;refine(G,c,l,λh' g y=>(.ref ⇑s,_,?_,rfl,C,),);have A:(xJ [] i).length<=sizeLine:=by have n:=qf i [];rw[gy]at n;rw[lU];lia
 have u:∃q,h'.get? ⇑s<*q:=let⟨q,_,_,hq,_⟩:=g;(q,hq,);exact HZ f (by rw[e];exact True.intro) y u (dk_new A t (F.merge .nil) g)
end L2
namespace Att
open PySem.W PySem.Calls
def vE{P:Params}:∀(ns:List Int)(vs:List Value),WellAll P h vs (ns.map WData.int)->cn vs ns:=by
 intro ns
 induction ns with
 |nil=>intro vs w;rw[lF]at w;cases w;exact .nil
 |cons n ns ih=>
  intro vs w;rw[bG]at w;cases w with
  |cons a b=>cases a;exact .cons _ _ (ih _ b)
def IX{l:OpenLaw}(m:l.most<*n){P:Params}{args:List WData}{vals:List Value}
  (f:l.row.toRowW.claim.pre args=true)(p:WellAll P h vals args):
  ∃a vs ns,vals=[bD a]/\args=[WData.list (ns.map WData.int)]/\h.get? a<*{cls:=.type "list",data:=.seq vs.toArray}/\cn vs ns/\ns.length<=n:=by
 have o:WShape.hasAll [] args [.list .int]=true:=(pre_splitW f).1;have e:l.pre.holds [] {args:=args}=true:=(pre_splitW f).2;obtain⟨d,r,rfl,g,i⟩:=hasAllW_cons o;obtain rfl:=hasAllW_nil i;obtain⟨t,rfl,j⟩:=hasW_list g;obtain⟨ns,rfl⟩:=items_int j;have k:ns.length<=n:=by
  unfold OpenLaw.pre at e;have b:(WTm.not (.lt (.lit (.int (n:Int))) (.len (.arg 0)))).holds [] {args:=[.list (ns.map .int)]}=true:=by have b:=(holds_andW e).1;rw[m]at b;exact b
  have c:=condW_of b (w_not (w_lt w_lit (w_len_list (w_arg rfl))));rw[ai]at c;refine iA λq=>?_;have s:(n:Int)<((ns.length:Nat):Int):=by lia
  first
   | (rw[decide_eq_true s]at c;exact absurd c 'E')
   | (simp at c;lia)
 cases p with
 |cons w1 w2=>
  cases w2;cases w1 with
  |list ho hall=>exact(_,_,ns,rfl,rfl,ho,vE ns _ hall,k,)
def Jd(l:OpenLaw)(args:List WData):l.row.toRowW.claim.post args (.bool true) args=true:=
 postW_of (r:=l.row.toRowW) (X:=(true==true))
  (show WShape.has [] (.bool true) .bool=true by first |rfl|decide|simp[WShape.has,WShape.arms,WShape.armsAll])
  (show(WTm.eq .res (.lit (.bool true))).value [] {args:=args,res:=some (.bool true),after:=args}<*(.bool (true==true))from w_eq_bool (w_res rfl) w_lit) rfl
def Ej{l:OpenLaw}{q:Program}{XP:(Str->Option Value)->Heap->Prop}{YP:World->Heap->Prop}{d:DefRec}
  (y:l.most<*n)(p:d.params.defaults=[])
  (call:∀(w:World)(c b:Shared)(mg mb:Str->Option Value)(fa:Addr)(o:Obj)(pm cd ap:Value)(a:Addr)(vs:List Value)(ns:List Int),
   Ground q loose [] XP w c mg mb b.heap->YP w b.heap->
   b.heap.get? fa<*o->o.data=.func (docDef d.name d.params d.body d.scope pm cd ap)->b.heap.CodeRec cd d.name->mg d.name<*(.ref fa)->
   b.heap.get? a<*{cls:=.type "list",data:=.seq vs.toArray}->cn vs ns->ns.length<=n->b.gens= #[]->
   gK (model l.prog w) Iv (.call (.ref fa) ([.ref a],[],)) (λr s'=>r=.ok (.ret (.bool true))/\OldK b.heap s'.heap/\s'.os=b.os/\pW s'.gens) b):
  WalkO q loose XP YP l.row.toRowW d [] (λf vs=>PySem.call f vs):=by
 intro w c b mg mb G Y fa o pm cd ap g kV z m k e x s D vals E B F I C H;obtain rfl:g=.none:=Dflts.none e p;obtain rfl:kV=.none:=Dflts.noKw e;obtain⟨a,vs,ns,rfl,rfl,A,t,u⟩:=IX y B C;refine enter_call (kj (call w c b mg mb fa o pm cd ap a vs ns G Y z (fd_plain m) k x A t u s) λr s' hq=>?_);obtain⟨rfl,h,i,j⟩:=hq;exact(.inl ⟨.bool true,.bool true,[],rfl,λ_=>rfl,.bool true,Jd l _,λ_=>⟨kC,λ_ v=>(nomatch v)⟩⟩,h,i,j,)
end Att
namespace L2
theorem tX:∀{vs:List Value}{ns:List Int},cn vs ns->bS (ns.map V.int) vs
 |_,_,.nil=>.nil
 |_,_,.cons n t h=>.cons (t,rfl,) (tX h)
noncomputable abbrev KOf{K:ah}{h:Heap}(_:K.In h):ah:=K
noncomputable abbrev CX0:CXT:=λ_ _ _ _ _ _=>False
noncomputable abbrev E0:XK:=λ_ _ _=>False
structure Fun(K:ah)(x qual:Str)(st:Stmt)(f:Addr)(fd:fE):Prop where
 ex:∃(oc:Value)(od:Option Addr)(kV ap pm:Value)(an:Option Addr)(am ct:Value)(bv:Array (Option Value)),
  fd=aB x qual (aX st) (aS st) (aJ st) .none kV ap pm an am ct/\K.lookup f<*(oc,od,.func fd,bv,)/\eF K am qual=true
 kp:cj K (.ref f)=true
section
variable {mg:Str->Option Value}
def Fun.binds{x:Str}{st:Stmt}{a:fE}(F:Fun K x qual st f a)
  (h:∀(kV ap pm:Value)(an:Option Addr)(am ct:Value)(us:List Value),us.length=ps.length->ri (aB x qual (aX st) (aS st) (aJ st) .none kV ap pm an am ct) (us,[],)=pure (ps.zip us)):Binds K a ps []:=by
 obtain⟨d,e,kV,ap,pm,an,am,ct,g,rfl,c,b⟩:=F.ex;exact .all (h kV ap pm an am ct)
def Ga{x:Str}{st:Stmt}{an:Option Addr}{kV:Value}(l:K.lookup f<*(oc,od,.func (aB x qual (aX st) (aS st) (aJ st) .none kV ap pm an am ct),bv,))
  (c:eF K am qual=true)(k:cj K (.ref f)=true):Fun K x qual st f (aB x qual (aX st) (aS st) (aJ st) .none kV ap pm an am ct):=((oc,od,kV,ap,pm,an,am,ct,bv,rfl,l,c,),k,)
end
def aD(H H':Hp):Prop:=∀b o,H b<*o->H' b<*o
def aD.refl(H:Hp):aD H H:=λ_ _ h=>h
def aD.trans(a:aD H H1)(b:aD H1 H2):aD H H2:=λc o h=>b c o (a c o h)
def aD.free(e:aD H H')(h:H' l=Option.none):H l=Option.none:=by
 cases q:H l with
 |none=>rfl
 |some o=>rw[e l o q]at h;cases h
def aD.seq(e:aD H H')(h:SqL K H a xs):SqL K H' a xs:=by
 rcases h with(h|⟨o,h⟩) |h;·exact .inl (.inl (e _ _ h))
 .exact .inl (.inr (o,e _ _ h,))
 .exact .inr h
section
variable {κ:Type}[DecidableEq κ]
def Cu{a:List (κ×V)}{k:κ}(h:fk a k=none):¬k∈a.map (·.1):=by intro m;obtain⟨p,b,e⟩:=aN.mp m;have q:(a.any λc=>decide (c.1=k))=true:=bQ.mpr (p,b,decide_eq_true e,);rw[kE,h]at q;exact absurd q 'F'
def valV_in{a:List (κ×V)}{k:κ}(h:fk a k<*v):k∈a.map (·.1):=by
 have q:(a.any λc=>decide (c.1=k))=true:=by rw[kE,h];all_goals rfl
 obtain⟨p,b,e⟩:=bQ.mp q;exact aN.mpr (p,b,W0 e,)
theorem Hw:∀{l:List κ}{k:κ},l.Nodup->¬k∈l->(l++[k]).Nodup
 | [],k,_,_=>by simp
 |a::r,k,h,hk=>by
  obtain⟨b,c⟩:=cT.mp h;show(a::(r++[k])).Nodup;refine cT.mpr (λm=>?_,Hw c λm=>hk (aA.mpr (Or.inr m)),);rcases bz.mp m with q|q;·exact b q
  .exact hk (aA.mpr (Or.inl (aI.mp q).symm))
def nd_putK{a:List (κ×V)}{k:κ}(v:V)(b:(a.map (·.1)).Nodup)(h:fk a k=none):((putK a k v).map (·.1)).Nodup:=by rw[LX v h,cH];exact Hw b (Cu h)
end
abbrev fT(cells:List (Str×Addr)):List (Str×eM)->List (Str×Addr)->List (Str×Addr)
 | [],ac=>ac
 | (n,k)::r,ac=>fT cells r (if k=.free then(n,(cells.lookup n).getD 0)::ac else ac)
theorem qS{env:Env}{f:Str×eM->List (Str×Addr)->Sem (ForInStep (List (Str×Addr)))}
  (hf:∀n k a c,k=.free->env.cells.lookup n<*c->f (n,k) a=pure (.yield ((n,c)::a)))(b:∀n k a,k≠.free->f (n,k) a=pure (.yield a)):
  ∀(g:List (Str×eM))(ac:List (Str×Addr)),(∀y∈g,y.2=.free->∃c,env.cells.lookup y.1<*c)->forIn g ac f=(pure (fT env.cells g ac):Sem _)
 | [],ac,_=>rfl
 | (n,k)::r,ac,h=>by
  rw[pY];by_cases e:k=.free;·obtain⟨c,i⟩:=h (n,k) aM e;rw[hf n k ac c e i];show forIn r ((n,c)::ac) f=_;rw[qS hf b r _ λy d=>h y (aG _ d)];simp[fT,e,i]
  .rw[b n k ac e];show forIn r ac f=_;rw[qS hf b r _ λy d=>h y (aG _ d)];simp[fT,e]
def zm{env:Env}(h:∀y∈scope.names,y.2=.free->∃c,env.cells.lookup y.1<*c):Km scope env=pure (fT env.cells scope.names []):=by
 have q:=qS (env:=env) (f:=λx b=>match x with | (name,kind)=>if(kind==ck)=true then(do let a<-cellOf env name;pure (hZ ((name,a)::b)))else pure (hZ b))
  (λn k a c e g=>by
   subst e;simp only[cellOf,g];rfl) (λn k a e=>by
   have d:(k==ck)=false:=by simpa using e
   simp only[d,aY,if_false]) scope.names [] h
 unfold Km;show(forIn scope.names [] _>>=λr=>pure r)=_;exact(congrArg (·>>=λr=>pure r) q).trans rfl
theorem lM{cells:List (Str×Addr)}:∀(a:List (Str×eM))(ac:List (Str×Addr))(x:Str)(c:Addr),(fT cells a ac).lookup x<*c->
  ((x,ck)∈a/\c=(cells.lookup x).getD 0)\/ac.lookup x<*c
 | [],ac,x,c,h=>.inr h
 | (n,k)::r,ac,x,c,h=>by
  rcases lM r _ x c h with⟨q,e⟩ |q;·exact .inl (aG _ q,e,)
  .by_cases e:k=.free
   .rw[if_pos e,aT]at q;cases hx:x==n with
    |true=>
     rw[hx]at q;have b:x=n:=by simpa using hx
     subst b;subst e;exact .inl (aM,(bo q).symm,)
    |false=>rw[hx]at q;exact .inr q
   .rw[if_neg e]at q;exact .inr q
theorem yg{cells:List (Str×Addr)}:∀(a:List (Str×eM))(ac:List (Str×Addr))(x:Str),(ac.lookup x).isSome=true->((fT cells a ac).lookup x).isSome=true
 | [],ac,x,h=>h
 | (n,k)::r,ac,x,h=>by
  refine yg r _ x ?_;split;·rw[aT];cases x==n<;>simp_all
  .exact h
theorem qT{cells:List (Str×Addr)}:∀(a:List (Str×eM))(ac:List (Str×Addr))(x:Str),(x,ck)∈a->((fT cells a ac).lookup x).isSome=true
 | [],ac,x,h=>by simp at h
 | (n,k)::r,ac,x,h=>by
  rcases aA.mp h with q|q;·cases q;refine yg r _ n ?_;simp[aT]
  .exact qT r _ x q
theorem gb:∀(a:List (Str×eM))(n:Nat)(ac:List (Str×Addr)),cO n a ac=cO n a []++ac
 | [],_,_=>rfl
 | (x,k)::r,n,ac=>by
  unfold cO;split;·rw[gb r (n+1) ((x,n)::ac),gb r (n+1) [(x,n)],ni];rfl
  .exact gb r n ac
theorem lO:∀(a:List (Str×eM))(n:Nat)(ac:List (Str×Addr))(x:Str),(ac.lookup x).isSome=true->((cO n a ac).lookup x).isSome=true
 | [],_,_,_,h=>h
 | (y,k)::r,n,ac,x,h=>by
  unfold cO;split;·refine lO r _ _ x ?_;rw[aT];cases x==y<;>simp_all
  .exact lO r _ _ x h
theorem jt:∀(a:List (Str×eM))(n:Nat)(ac:List (Str×Addr))(x:Str),(x,dc)∈a->((cO n a ac).lookup x).isSome=true
 | [],_,_,_,h=>nomatch h
 | (y,k)::r,n,ac,x,h=>by
  unfold cO;rcases aA.mp h with q|q;·cases q;rw[if_pos (by rfl)];refine lO r _ _ _ ?_;simp[aT]
  .split;·exact jt r _ _ x q
   .exact jt r _ _ x q
theorem lN:∀(a:List (Str×eM))(n:Nat)(ac:List (Str×Addr))(x:Str)(c:Addr),(x,c)∈cO n a ac->(x,dc)∈a\/(x,c)∈ac
 | [],_,_,_,_,h=>.inr h
 | (y,k)::r,n,ac,x,c,h=>by
  unfold cO at h;split at h
  .rename_i hk;rcases lN r _ _ x c h with q|q;·exact .inl (aG _ q)
   .rcases aA.mp q with e|e
    .cases e;have :k=.cell:=by simpa using hk
     subst this;exact .inl aM
    .exact .inr e
  .rcases lN r _ _ x c h with q|q;·exact .inl (aG _ q)
   .exact .inr q
def Gd{M:Model}{d:Addr}{b:List (Str×Addr)}{c:Value}{outer:Env}{a:Addr}{Q:Env->Shared->Prop}
  (h:Q (newEnv scope ⇑s d (cO (⇑s+1) scope.names b) qual func c (some outer) a) {s with heap:=pushCells (s.heap.push {cls:=.type "dict",data:=.dict #[]}) scope.names}):
  wpAny M A (newFunctionEnv scope d b [] qual func c (some outer) a) Q E s:=by
 simp only[newFunctionEnv,gd,if_true];refine aa (wpAny_alloc ?_);refine aa (wpAny_layCells _ (λname kind e=>by cases hkc:kind==dc<;>simp[hkc]) _ _ _ _ ?_);rw[show({s with heap:=s.heap.push {cls:=.type "dict",data:=.dict #[]}}:Shared).heap.objs.size=⇑s+1 from bc ..];rw[lZ];exact aa (aj (aj h))
structure pP(X:Cx)(N':List Str)(sc:Scope):Prop where
 kind:sc.kind=.function
 cellk:∀y∈sc.names,y.2=.cell->sc.names.lookup y.1<*.cell
 own:∀y∈sc.names,y.2=.local->sc.names.lookup y.1<*.local
 free:∀y∈sc.names,y.2=.free->X.env.kindOf y.1<*.cell\/X.env.kindOf y.1<*.free
abbrev dZ(X:Cx)(N':List Str)(sc:Scope)(C:Addr)(s₀:Shared)(H₀:Hp)(fp:List Addr):Cx:=
 {X with N:=N',s₀:=s₀,H₀:=H₀,env:=compEnvC sc (cO (C+1) sc.names (fT X.env.cells sc.names [])) C X.env,outer:=X.stack,stack:=X.stack,ex:=fp,fn:=λx=>sc.names.any λy=>decide (y.1=x)&&decide (y.2=.cell),pn:=[],xe:=λ_ _=>False}
theorem nY{env:Env}:∀{a:List (Str×eM)}{x:Str}{k:eM},
  (a.map λ(n,k)=>if(k==ck&&env.scope.kind== .function&&env.kindOf n==some .cell)then(n,dc)else(n,k)).lookup x<*k->
  a.lookup x<*k\/(a.lookup x<*.free/\k=.cell)
 | [],_,_,h=>by simp at h
 | (n,k)::r,x,k',h=>by
  have b:= @nY env r x k';rw[bG]at h;change de x ((if(k==ck&&env.scope.kind== .function&&env.kindOf n==some .cell)=true then(n,dc)else(n,k))::_)=_ at h;cases hx:x==n with
  |true=>
   by_cases hc:(k==ck&&env.scope.kind== .function&&env.kindOf n==some .cell)=true
   .rw[if_pos hc]at h;simp only[aT,hx]at h⊢;have :k=.free:=by have :=hc;simp only[az]at this;simpa using this.1.1
    subst this;exact .inr (rfl,(bo h).symm,)
   .rw[if_neg hc]at h;simp only[aT,hx]at h⊢;exact .inl h
  |false=>
   have e:de x (r.map λ(n,k)=>if(k==ck&&env.scope.kind== .function&&env.kindOf n==some .cell)then(n,dc)else(n,k))<*k':=by split at h<;>simpa only[aT,hx]using h
   simp only[aT,hx];exact b e
theorem gP{env:Env}:∀{a:List (Str×eM)}{x:Str},a.lookup x<*.free->
  (a.map λ(n,k)=>if(k==ck&&env.scope.kind== .function&&env.kindOf n==some .cell)then(n,dc)else(n,k)).lookup x<*.free\/
  (a.map λ(n,k)=>if(k==ck&&env.scope.kind== .function&&env.kindOf n==some .cell)then(n,dc)else(n,k)).lookup x<*.cell
 | [],_,h=>by simp at h
 | (n,k)::r,x,h=>by
  have b:= @gP env r x;rw[bG];change de x ((if(k==ck&&env.scope.kind== .function&&env.kindOf n==some .cell)=true then(n,dc)else(n,k))::_)=_\/de x ((if(k==ck&&env.scope.kind== .function&&env.kindOf n==some .cell)=true then(n,dc)else(n,k))::_)=_;cases hx:x==n with
  |true=>
   simp only[aT,hx]at h;cases h;by_cases hc:(ck==ck&&env.scope.kind== .function&&env.kindOf n==some .cell)=true;·rw[if_pos hc];right;simp only[aT,hx]
   .rw[if_neg hc];left;simp only[aT,hx]
  |false=>simp only[aT,hx]at h;split <;>simpa only[aT,hx]using b h
theorem gC{env:Env}:∀{a:List (Str×eM)}{x:Str}{k:Option eM},a.lookup x=k->k≠some .free->
  (a.map λ(n,k)=>if(k==ck&&env.scope.kind== .function&&env.kindOf n==some .cell)then(n,dc)else(n,k)).lookup x=k
 | [],_,_,h,_=>by simpa using h
 | (n,k)::r,x,k',h,hf=>by
  have d:= @gC env r x k';rw[bG];change de x ((if(k==ck&&env.scope.kind== .function&&env.kindOf n==some .cell)=true then(n,dc)else(n,k))::_)=_;cases hx:x==n with
  |true=>
   simp only[aT,hx]at h;have c:k≠.free:=λe=>hf (by rw[<-h,e]);have b:(k==ck)=false:=by simpa using c
   rw[if_neg (by rw[b];simp)];simp only[aT,hx];exact h
  |false=>simp only[aT,hx]at h;split <;>simpa only[aT,hx]using d h hf
def zT{a:List (Str×Addr)}{env:Env}{x:Str}{k:eM}(h:(compEnvC sc a C env).kindOf x<*k):sc.names.lookup x<*k\/(sc.names.lookup x<*.free/\k=.cell):=nY (env:=env) h
def Gp{R:Result->Shared->Prop}{f d:Expr}{g:List Expr}{b e:Value}{env:Env}(I:Nat->Shared->Prop)
  (turn:∀n s,I n s->'B' (pyNext b) (λr i=>match r with
   |none=>R (.ok .next) i
   |some v=>'B' (tP d b v) (λ_ o=>'B' (assign d env v) (λ_ p=>
     'B' (forIn g true λc r=>if r=true then do let ok<-isTrue c env (eval c env);pure (hZ ok)else pure (hZ r)) (λok j=>
      if ok=true then 'B' (eval f env) (λx q=>
       'B' (call (.builtin "list.append") [e,x]) (λ_ t=>∃m,m<n/\I m t) (λ_ _=>False) q) (λ_ _=>False) j
      else ∃m,m<n/\I m j) (λ_ _=>False) p) (λ_ _=>False) o) (λ_ _=>False) i) (λ_ _=>False) s)
  (n:Nat) (h:I n s):
  gK (model prog w) A (.compLoop (.ListComp f [(d,iter,g,0,)] scope pos) 0 b e env) R s:=by
 refine codeAny_loop rfl I (λn s u=>?_) n h;show wpAny _ A ((compTurn (.ListComp f [(d,iter,g,0,)] scope pos) 0 b e env).onRaise (λx=>do nI x env;theTreesLotGoes x)) _ _ s;refine wpAny_noted ?_;rw[compTurn_list];refine aa (jo (aa (da (turn n s u) (λr i k=>?_) λ_ _ a=>a.elim)));cases r with
 |none=>exact aj k
 |some v=>
  refine aa (da k (λ_ o y=>?_) λ_ _ a=>a.elim);refine aa (da y (λ_ p z=>aa (da z (λok j l=>?_) λ_ _ a=>a.elim)) λ_ _ a=>a.elim);cases ok with
  |false=>exact aj (rfl,l,)
  |true=>exact aa (aa (da l (λx q B=>aa (da B (λ_ t C=>aj (aj (rfl,C,))) λ_ _ a=>a.elim)) λ_ _ a=>a.elim))
def PTs(X:Cx)(ifs:List Expr)(t:TT):Prop:=
 ∀(pins:List (Addr×Obj))(s:Shared)(σ:St)(H:Hp)(Q:Bool->Hp->Prop),'A'->t σ H Q->
  'C' (forIn ifs true λc r=>if r=true then do let ok<-isTrue c X.env (eval c X.env);pure (hZ ok)else pure (hZ r)) (TP X pins σ Q) X.xe s
def tYes:TT:=λ_ H Q=>Q true H
def pts_nil:PTs X [] tYes:=by intro a s b H Q I h;rw[lZ];exact aj (H,I,h,)
def pts_one{c:Expr}{t:TT}(h:PT X c t):PTs X [c] t:=by intro d s f H Q I a;rw[pY];simp only[if_true];refine aa (aa (thn (h d s f H Q I a) λb e q=>?_));refine aj ?_;show wpAny _ _ (forIn ([]:List Expr) b _) _ _ e;rw[lZ];exact aj q
def wK(wi:TI)(g:TG)(tc:TT)(te:TE)(mk:St->St):TE:=λσ H Q=>wi σ H λJ H1=>∃W:Nat->Nat->St->List V->Hp->Prop,(∃m,W 0 m (mk σ) [] H1)/\
 ∀i m h ac H2,W i m h ac H2->(J.stop i H2/\∀l,H2 l=none->Q (.ref l) (upd H2 l (.lst ac)))\/(J.go i H2/\∃N:St->List V->Hp->Prop,(∀j e H',N j e H'->∃f,f<m/\W (i+1) f j e H')/\
  ∀x c,J.yld i H2 x c->g x h c λa k=>tc a k λb d=>if b=true then te a d λv n=>ac.length<sizeLine/\N a (ac++[v]) n else N a ac d)
def Inv.track{o:HO}(I:'A')(hf:pv X pins H a)(p:dA X.prog X.w (upd H a o) s.heap a o):Inv X pins σ (upd H a o) s:=by
 obtain⟨g,h,t,i,j,k⟩:=hf;have :=I.step (g':=s.gens) (d':=s.drawn) (t':=s.toks) (h':=s.heap) (H':=upd H a o) (ch:=[a]) (λb d=>by
   have e:b=a:=by simpa using d
   subst e;exact(i,h,j,k,))
  (λb f _ _ _ q _=>q) (λb f _ _ _ q _=>(f.slots,q,)) (λb f d q n=>by rw[aV (λz=>d (by simp[z]))];exact n) (λb f _ q=>(f,q,))
  (λb r q=>by rw[aV (bL q g)];exact q) (λb f u q=>by rw[aV (bL q g)];exact q) (λb w q=>⟨#[],by rw[aV (bL q g),q];simp⟩)
  (λm l=>l) (λb u q=>by
   by_cases d:b=a;·subst d;rw[aq]at q;cases q;exact p
   .rw[aV d]at q;exact(I.hok b u q).ub (λc v _ e=>e) (λc e=>by rw[aV (bL e g)];exact e) λc r e=>by rw[aV (bL e g)];exact e) I.bare
 exact this
def GH{Q:'I'}(I:'A')(hf:pv X pins H a)
  (e:s.heap.get? a<*{cls:=.type "list",data:=.seq ad.toArray n}) (hz:ad.length<sizeLine)
  (h:∀h' m,Inv X pins σ H {s with heap:=h'}->h'.get? a<*{cls:=.type "list",data:=.seq (ad++[u]).toArray m}->(∀b o,b≠a->s.heap.get? b<*o->h'.get? b<*o)->Q .none {s with heap:=h'}):
  'C' (call (.builtin "list.append") [.ref a,u]) Q E s:=by
 refine tM F.slot_list_append (_,e,rfl,) F.entry_list_append (F.args_list_append_2 _ _) (PySem.list_append a ad.toArray n u (by rw[aE];lia)) (e,?_,);have q:=Kn e (·.push u);have c:ad.toArray.push u=(ad++[u]).toArray:=by simp
 rw[c]at q;have k:∀b o,b≠a->s.heap.get? b<*o->(s.heap.update a (a9 (·.push u))).get? b<*o:=λb o l z=>(aP s.heap _ (bK l)).trans z;obtain⟨d,f,p,g,i,j⟩:=hf;exact h _ _ (I.turned (t':=s.toks) k d f g i j) q k
section
variable {N':List Str}{elt:Expr}{ifs:List Expr}{wi:TI}{g:TG}{tc:TT}{te:TE}{mk:St->St}
def MkOk(X:Cx)(N':List Str)(sc:Scope)(mk:St->St):Prop:=
 ∀σ:St,σ.length=X.N.length->(mk σ).length=N'.length/\∀(i:Nat)(x:Str)(v:V),N'[i]?<*x->(mk σ)[i]?<*(some v)->sc.names.lookup x<*.free/\∃j:Nat,X.N[j]?<*x/\σ[j]?<*(some v)
def z7{Q:VK}{use:Option (Value->Sem Unit)}(S:pP X N' sc)(hm:MkOk X N' sc mk)(hc:X.calm=true)
  (hi:PI X tg iter wi)
  (a:∀C a5 a2 fp,(dZ X N' sc C a5 a2 fp).Ok->PG (dZ X N' sc C a5 a2 fp) tg g/\PTs (dZ X N' sc C a5 a2 fp) ifs tc/\PE (dZ X N' sc C a5 a2 fp) elt te)
  (hs:∀x,ki iter X.env x=pure x)(I:'A')(h:wK wi g tc te mk σ H Q)
  (e8:∀(l C:Addr)(H':Hp)(s':Shared)(m:Str->Option Value),Inv X pins σ H' s'->s'.heap.Ns C m->pv X pins H' C->(∃o,s'.heap.get? C<*o/\∀v,o.data≠.cell v)->Q (.ref l) H'->compPost (model X.prog X.w) X.A X.xe use QQ (.ref l) C (.ok .next) s'):
  'C' (comprehension (.ListComp elt [(tg,iter,ifs,0,)] sc pos) sc X.env (firstIterPos [(tg,iter,ifs,0,)] pos) (newList []) false (eval iter X.env) use) QQ X.xe s:=by
 have c5:∀y∈sc.names,y.2=.free->∃c,X.env.cells.lookup y.1<*c:=λy hy hf=>I.ok.has _ (S.free y hy hf);refine wpAny_comprehension_free (use:=use) rfl hs (zm c5) S.kind S.own ?_;refine thn (hi pins s σ H _ I h) λv s1 Z=>thn Z λh8 s2 h2=>?_;obtain⟨it,fp,tn,J,d,e,E,T,d4,W,e0,⟨m0,w0⟩,turn⟩:=h2;subst e
 --the list
 refine cm ?_;have f5:d ⇑s2=none:=E.fresh;have fD:pv X pins d ⇑s2:=E.ze (ay _) f5;have c0:(s2.heap.push {cls:=.type "list",dict:=none,data:=.seq ([]:List Value).toArray}).get? ⇑s2<*{cls:=.type "list",data:=.seq ([]:List Value).toArray 0}:=av _ rfl;have j:Inv X pins σ d {s2 with heap:=s2.heap.push {cls:=.type "list",dict:=none,data:=.seq ([]:List Value).toArray}}:=E.kept (t':=s2.toks) λb o e=>af _ e
 --the block's frame
 refine Gd ?_;dsimp only;have b4:(s2.heap.push {cls:=.type "list",dict:=none,data:=.seq ([]:List Value).toArray}).objs.size=⇑s2+1:=bc ..;have c3:⇑s2≠(s2.heap.push {cls:=.type "list",dict:=none,data:=.seq ([]:List Value).toArray}).objs.size:=by rw[b4];exact aL (eG _)
 have P:∀b o,s2.heap.get? b<*o->(s2.heap.push {cls:=.type "list",dict:=none,data:=.seq ([]:List Value).toArray}).get? b<*o:=λb o e=>af _ e;generalize hH3:s2.heap.push {cls:=.type "list",dict:=none,data:=.seq ([]:List Value).toArray}=P3 at j b4 c0 c3 P⊢;generalize hD:⇑s2=D0 at *;have c6:(pushCells (P3.push {cls:=.type "dict",data:=.dict #[]}) sc.names).Ns P3.objs.size (λ_=>none):=(Heap.Ns.new P3 (.type "dict")).keeps (pushCells_keeps _ _);have R:∀b o,P3.get? b<*o->(pushCells (P3.push {cls:=.type "dict",data:=.dict #[]}) sc.names).get? b<*o:=λb o e=>pushCells_keeps _ _ b o (af _ e);have U:=cellsFrom_ok sc.names (P3.push {cls:=.type "dict",data:=.dict #[]}) (P3.objs.size+1) [] (λ_ _ hm=>(nomatch hm),kC,) (by rw[bc];exact ay _);rw[bc]at U;generalize pushCells (P3.push {cls:=.type "dict",data:=.dict #[]}) sc.names=h4 at c6 R U⊢
 --the context
 have c2:∀b∈fp,b<D0:=λb a=>by obtain⟨o,e,_⟩:=T.obj _ _ d4 b a;rw[<-hD];exact aw e
 have a9:D0<P3.objs.size:=by rw[b4];exact eG _
 have A:∀x c,(fT X.env.cells sc.names []).lookup x<*c->X.env.cells.lookup x<*c/\(x,ck)∈sc.names:=λx c e=>by
  rcases lM _ _ x c e with⟨q,e'⟩ |q;·obtain⟨N,a0⟩:=c5 _ q rfl;have f0:X.env.cells.lookup x<*N:=a0;rw[f0]at e'⊢;exact(by rw[e'];rfl,q,)
  .simp at q
 have b9:∀x c,(fT X.env.cells sc.names []).lookup x<*c->c<P3.objs.size:=λx c e=>by obtain⟨v,o,f,_⟩:=j.cell x c (A x c e).1;exact aw f
 have O:∀x c,(cO (P3.objs.size+1) sc.names (fT X.env.cells sc.names [])).lookup x<*c->((x,c)∈cO (P3.objs.size+1) sc.names []/\P3.objs.size+1<=c/\h4.IsCell c none)\/(fT X.env.cells sc.names []).lookup x<*c:=λx c e=>by
  rw[gb,vv]at e;cases f:(cO (P3.objs.size+1) sc.names []).lookup x with
  |none=>rw[f]at e;exact .inr e
  |some N=>rw[f]at e;cases e;have m:=bB f;exact .inl (m,(U.empty x c m).2,(U.empty x c m).1,)
 have b8:∀x,sc.names.lookup x<*.free->(cO (P3.objs.size+1) sc.names (fT X.env.cells sc.names [])).lookup x=(fT X.env.cells sc.names []).lookup x:=λx hf=>by
  rw[gb,vv];cases f:(cO (P3.objs.size+1) sc.names []).lookup x with
  |none=>rfl
  |some N=>
   rcases lN _ _ _ _ _ (bB f)with q|q;·have :=S.cellk _ q rfl;rw[hf]at this;cases this
   .cases q
 have F:∀b∈D0::fp,pv X pins d b/\b<P3.objs.size:=λb a=>by
  rcases aA.mp a with z|z;·rw[z];exact(fD,a9,)
  .exact(W b z,gu (c2 b z) a9,)
 have ok:(dZ X N' sc P3.objs.size {s2 with heap:=P3} d (D0::fp)).Ok:=by
  refine(I.ok.mod,S.kind,I.ok.glob,I.ok.blt,ay _,λx y c Z h2=>?_,λx hx=>?_,λx c z=>?_,λz=>I.ok.hd z,I.ok.frames,.inl rfl,λb a=>(?_,λx c e=>?_,),j.bs,aO I.ok.bsz j.sz,λb o e a=>?_,λb a z=>?_,j.stack,j.AL,)
  .rcases O x c Z with⟨m1,l1,_⟩ |q1<;>rcases O y c h2 with⟨m2,l2,_⟩ |q2;·exact PySem.name_of_addr U.apart m1 m2
   .exact absurd l1 (Nat.not_le.mpr (bP (b9 y c q2)))
   .exact absurd l2 (Nat.not_le.mpr (bP (b9 x c q1)))
   .exact I.ok.inj x y c (A x c q1).1 (A y c q2).1
  .have q:sc.names.lookup x<*.free\/sc.names.lookup x<*.cell:=by
    rcases hx with hx|hx
    .rcases zT hx with q|q;·exact .inr q
     .exact .inl q.1
    .rcases zT hx with q|q;·exact .inl q
     .exact .inl q.1
   rcases q with q|q;·have Z:=cA.mp (qT (cells:=X.env.cells) _ [] _ (bB q));show ∃c,(cO (P3.objs.size+1) sc.names (fT X.env.cells sc.names [])).lookup x<*c;rw[b8 x q];exact Z
   .exact cA.mp (jt _ _ _ _ (bB q))
  .have z:(sc.names.any λy=>decide (y.1=x)&&decide (y.2=dc))=true:=z;obtain⟨y,hy,e⟩:=bQ.mp z;rw[az,decide_eq_true_eq,decide_eq_true_eq]at e;intro hc;rcases O x c hc with⟨_,l1,_⟩ |q1;·show P3.objs.size<=c;lia
   .have hk:=S.cellk y hy e.2;rw[e.1]at hk;rcases lM _ _ x c q1 with⟨q,_⟩ |q
    .have h2:(cO (P3.objs.size+1) sc.names []).lookup x≠none:=λh=>by have :=jt sc.names (P3.objs.size+1) [] x (bB hk);rw[h]at this;cases this
     have a0:(cO (P3.objs.size+1) sc.names (fT X.env.cells sc.names [])).lookup x<*c:=hc;rw[gb,vv]at a0;cases f:(cO (P3.objs.size+1) sc.names []).lookup x with
     |none=>exact absurd f h2
     |some N=>rw[f]at a0;cases a0;have :=(U.empty x c (bB f)).2;show P3.objs.size<=c;lia
    .cases q
  .exact aL (F b a).2
  .rcases O x c e with⟨_,l1,_⟩ |q1;·have :=(F b a).2;exact λz=>by subst z;lia
   .exact(F b a).1.2.2.2.2.1 x c (A x c q1).1
  .rcases(F b a).1.2.2.2.1 with z|z;·exact I.ok.noex b o e z
   .exact absurd (aZ (aw e) (aO I.ok.bsz z)) (eL _)
  .rcases aA.mp (E.E4 b z)with q|q;·exact(F b a).1.2.1 q
   .exact(F b a).1.2.2.1 q
 obtain⟨pg,pt,pe⟩:=a _ _ _ _ ok;have I4:Inv (dZ X N' sc P3.objs.size {s2 with heap:=P3} d (D0::fp)) [] (mk σ) d {s2 with heap:=h4}:=by
  obtain⟨ml,f6⟩:=hm σ I.len;have c9:∀x c v,X.env.cells.lookup x<*c->P3.IsCell c v->h4.IsCell c v:=λx c v e ⟨o,f,hd⟩=>(o,R c o f,hd,);refine(ok,rfl,E.bare,Un.kept R,(_,c6,λi x v e1 e2 e3=>?_,),λx c e=>?_,j.hok.fresh (ay _),λx c e=>?_,λp K=>absurd (show p∈([]:List (Addr×Obj))from K) 'F',j.hok.kept R,ml,)
  .obtain⟨hf,f7,hj,hv⟩:=f6 i x v e1 e2;obtain⟨m,G,hl⟩:=j.loc;have kx:=S.free (x,.free) (bB hf) rfl;obtain⟨u,b3,l⟩:=hl f7 x v hj hv (by
    rcases kx with q|q;·exact .inr (.inl q)
    .exact .inr (.inr q))
   refine(u,b3,.inr (?_,?_,),)
   .rcases gP (env:=X.env) hf with q|q;·exact .inr q
    .exact .inl q
   .rcases l with⟨q,_⟩ |⟨_,c,c4,f1⟩;·have c8:X.env.kindOf x<*.cell\/X.env.kindOf x<*.free:=kx;rw[q]at c8;rcases c8 with z|z<;>cases z
    .obtain⟨N,q⟩:=cA.mp (qT (cells:=X.env.cells) _ [] _ (bB hf));have :=(A x N q).1;rw[c4]at this;cases this;exact(c,by show(cO (P3.objs.size+1) sc.names (fT X.env.cells sc.names [])).lookup x<*c;rw[b8 x hf];exact q,c9 x c _ c4 f1,)
  .rcases O x c e with⟨_,_,hv⟩ |q1;·exact(none,hv,)
   .obtain⟨v,hv⟩:=j.cell x c (A x c q1).1;exact(v,c9 x c v (A x c q1).1 hv,)
  .rcases O x c e with⟨_,l1,_⟩ |q1;·exact j.hok.fresh (by show P3.objs.size<=c;lia)
   .exact j.freeC x c (A x c q1).1
 have d5:tn 0 h4:=T.keep _ _ _ d4 λb a o e=>R b o (P b o e);have f4:∀{H':Hp}{b:Addr},b∈D0::fp->H' b=none->pv (dZ X N' sc P3.objs.size {s2 with heap:=P3} d (D0::fp)) [] H' b:=λ{H' b} a G=>
  ⟨G,(ok.exf b a).1,ok.exfs b a,.inl a,(ok.exf b a).2,λp K=>absurd (show p∈([]:List (Addr×Obj))from K) 'F'⟩
 have a3:∀{b:Addr},b∈fp->b∈D0::fp:=λa=>aG _ a;have nD:∀b∈fp,b≠D0:=λb a=>aL (c2 b a)
 --the b2
 have b2:gK (model X.prog X.w) X.A (.compLoop (.ListComp elt [(tg,iter,ifs,0,)] sc pos) 0 (.ref it) (.ref D0) (compEnvC sc (cO (P3.objs.size+1) sc.names (fT X.env.cells sc.names [])) P3.objs.size X.env))
   (compPost (model X.prog X.w) X.A X.xe use QQ (.ref D0) P3.objs.size) {s2 with heap:=h4}:=by
  refine Gp (λn s'=>∃i B k H' r f8,Inv (dZ X N' sc P3.objs.size {s2 with heap:=P3} d (D0::fp)) [] B H' s'/\tn i s'.heap/\(∀b∈D0::fp,H' b=none)/\bS k r/\k.length<=sizeLine/\
    s'.heap.get? D0<*{cls:=.type "list",data:=.seq r.toArray f8}/\e0 i n B k H') ?_ m0
   (0,mk σ,[],_,[],0,I4,d5,λb a=>(F b a).1.1,.nil,a7 _,R _ _ c0,w0,)
  rintro n t ⟨i,B,k,D,r,kk,I5,d7,Y,a6,c7,e5,w5⟩;have b6:Inv (dZ X N' sc P3.objs.size {s2 with heap:=P3} d (D0::fp)) ([]++jL [D0] t.heap) B D t:=by
   refine I5.pinned (λb a=>?_) (λb a=>?_)
   .have z:b=D0:=by simpa using a
    rw[z];exact f4 aM (Y D0 aM)
   .have z:b=D0:=by simpa using a
    rw[z];exact⟨_,e5,λv z=>by cases z⟩
  obtain q|⟨go,NN,hN,step⟩:=turn i n B k D w5
  .obtain⟨h0,q⟩:=q;refine thn (T.done (dZ X N' sc P3.objs.size {s2 with heap:=P3} d (D0::fp)) rfl rfl rfl hc i _ t B D (λ_ _=>False) b6 (λb a=>?_) d7 h0) λb3 L ⟨hr,b7⟩=>?_
   .obtain⟨g0,g1,g2,g3,g4,_⟩:=f4 (a3 a) (Y b (a3 a));refine(g0,g1,g2,g3,g4,λp K=>?_,);have b1:p∈jL [D0] t.heap:=by simpa[dZ]using K
    obtain⟨z,_⟩:=ui b1;have z':p.1=D0:=by simpa using z
    rw[z'];exact(nD b a).symm
   subst hr;have M:=b7.iN;have e6:L.heap.get? D0<*{cls:=.type "list",data:=.seq r.toArray kk}:=(b7.pin (D0,_) (ba _ (ba _ (ji 'F' e5)))).1
   --back in the context around
   have un:Un (frs X.stack) fp d D s2.heap L.heap:=by
    have u:=M.base;have nb:∀b o,s2.heap.get? b<*o->b∉fp->b∉D0::fp:=λb o e a z=>by
     rcases aA.mp z with z|z;·exact absurd (aw e) (by rw[z,hD];exact eL _)
     .exact a z
    exact(λb o e n a hx=>u.keep b o (P b o e) n a (nb b o e hx),λb o e n a hx=>u.slot b o (P b o e) n a (nb b o e hx),λb o e n hx=>u.free b o (P b o e) n (nb b o e hx),λb o e hx=>u.there b o (P b o e) (nb b o e hx),u.tups,u.frzs,u.tbls,)
   have I7:Inv X pins σ D L:=by obtain⟨hh,g6,d6,t6,g7⟩:=L;have eo:g7=s2.os:=M.os;subst eo;exact E.call (h':=hh) (g':=g6) (d':=d6) (t':=t6) (ch:=fp) un M.hok M.bare λb a=>((W b a).2.2.2.1,(W b a).2.1,(W b a).2.2.2.2.1,(W b a).2.2.2.2.2,)
   have e7:pv X pins D D0:=(Y D0 aM,fD.2,);have I8:=I7.track (o:=.lst k) e7 (show dA X.prog X.w _ L.heap D0 (.lst k)from(c7,r,kk,a6,e6,));obtain⟨m,G,_⟩:=id M.loc;refine e8 _ P3.objs.size _ L m I8 G (E.ze (by rw[hD];exact jH a9) (by rw[aV (bK c3)];exact M.free)) ?_ (q D0 (Y D0 aM));obtain⟨o,es,ep,f,hd,_⟩:=G;exact⟨o,f,λv z=>by rw[hd]at z;cases z⟩
  .skip
   have c1:∀{H':Hp}{b:Addr},b∈fp->H' b=none->pv (dZ X N' sc P3.objs.size {s2 with heap:=P3} d (D0::fp)) ([]++jL [D0] t.heap) H' b:=λ{H' b} a G=>by
    obtain⟨g0,g1,g2,g3,g4,_⟩:=f4 (H':=H') (a3 a) G;refine(g0,g1,g2,g3,g4,λp K=>?_,);have b1:p∈jL [D0] t.heap:=by simpa[dZ]using K
    obtain⟨z,_⟩:=ui b1;have z':p.1=D0:=by simpa using z
    rw[z'];exact(nD b a).symm
   refine thn (T.item (dZ X N' sc P3.objs.size {s2 with heap:=P3} d (D0::fp)) rfl rfl rfl hc i _ t B D (λ_ _=>False) b6 (λb a=>c1 a (Y b (a3 a))) d7 go) λb3 L ⟨u,hr,h6⟩=>?_;subst hr;refine thn h6 λ_ s7 ⟨x,H7,I7,r7,y7,a4,e9⟩=>?_;have d9:=I7.pinned (λb a=>c1 a (e9 b a)) (T.obj _ _ a4);refine thn (pg _ s7 B H7 x u _ d9 r7 (step x H7 y7)) λ_ s8 ⟨V,H8,I8,q8⟩=>?_;refine thn (pt _ s8 V H8 _ I8 q8) λb s9 ⟨H9,I9,q9⟩=>?_;have d0:∀{a1:St}{H':Hp}{s':Shared},Inv (dZ X N' sc P3.objs.size {s2 with heap:=P3} d (D0::fp)) ([]++jL [D0] t.heap++jL fp s7.heap) a1 H' s'->s'.heap.get? D0<*{cls:=.type "list",data:=.seq r.toArray kk}/\H' D0=none:=λ{a1 H' s'} J=>by have :=J.pin (D0,_) (ba _ (eO _ (ba _ (ji 'F' e5))));exact(this.1,this.2.1,)
   have d3:∀{a1:St}{H':Hp}{s':Shared},Inv (dZ X N' sc P3.objs.size {s2 with heap:=P3} d (D0::fp)) ([]++jL [D0] t.heap++jL fp s7.heap) a1 H' s'->(∀b∈fp,∀o,s7.heap.get? b<*o->s'.heap.get? b<*o)/\(∀b∈fp,H' b=none):=λ{a1 H' s'} J=>by refine(λb a o e=>(J.pin (b,o) (ba _ (ba _ (ji a e)))).1,λb a=>?_,);obtain⟨o,e,h3⟩:=T.obj _ _ a4 b a;exact(J.pin (b,o) (ba _ (ba _ (ji a e)))).2.1
   cases b with
   |false=>
    rw[if_neg 'E']at q9⊢;obtain⟨m',b0,w7⟩:=hN V k H9 q9;obtain⟨d1,d2⟩:=d0 I9;obtain⟨p1,p2⟩:=d3 I9;refine(m',b0,i+1,V,k,H9,r,kk,I9.iN.iN,T.keep _ _ _ a4 p1,λb a=>?_,a6,c7,d1,w7,);rcases aA.mp a with z|z;·rw[z];exact d2
    .exact p2 b z
   |true=>
    rw[if_pos rfl]at q9⊢;refine thn (pe _ s9 V H9 _ I9 q9) λy h9 ⟨z,b5,a8,g9,g8⟩=>?_;obtain⟨h7,g5⟩:=g8;obtain⟨m',b0,w7⟩:=hN V _ b5 g5;obtain⟨d1,d2⟩:=d0 a8;obtain⟨p1,p2⟩:=d3 a8;have h5:r.length=k.length:=a6.length.symm;refine GH (X:=dZ X N' sc P3.objs.size {s2 with heap:=P3} d (D0::fp)) a8.iN.iN (f4 aM d2) d1 'D' λh' n' d8 e4 f9=>?_;refine(m',b0,i+1,V,k++[z],b5,r++[y],n',d8,T.keep _ _ _ a4 λb a o e=>f9 b o (nD b a) (p1 b a o e),λb a=>?_,a6.append (.cons g9 .nil),?_,e4,w7,)
    .rcases aA.mp a with w|w;·rw[w];exact d2
     .exact p2 b w
    .rw[bu,qD];lia
 exact codeAny_compStart_list b2 (T.self _ 0 _ _ _ d5 b2)
def pe_comp(S:pP X N' sc)(r:MkOk X N' sc mk)(p:X.calm=true)(hi:PI X tg iter wi)
  (f:∀C d c fp,(dZ X N' sc C d c fp).Ok->PG (dZ X N' sc C d c fp) tg g/\PTs (dZ X N' sc C d c fp) ifs tc/\PE (dZ X N' sc C d c fp) elt te)
  (hs:∀x,ki iter X.env x=pure x:=by intro _;rfl):PE X (.ListComp elt [(tg,iter,ifs,0,)] sc pos) (wK wi g tc te mk):=by
 intro v s w H Q I h;rw[eval_ListComp];refine z7 (use:=none) S r p hi f hs I h λl C i s' m j t a y q=>(m,t,λn u=>?_,);have k:Inv X v w i {s' with heap:=n,toks:=s'.toks}:=j.turned (λb o f e=>u.extBut b o f e) a.1 a.2.1 a.2.2.2.1 a.2.2.2.2.1 a.2.2.2.2.2;exact(.ref l,i,k,rfl,q,)
def Fk{x:Str}{A:Pos}(S:pP X N' sc)(Q:MkOk X N' sc mk)(P:X.calm=true)(hi:PI X tg iter wi)
  (n:∀C k f fp,(dZ X N' sc C k f fp).Ok->PG (dZ X N' sc C k f fp) tg g/\PTs (dZ X N' sc C k f fp) ifs tc/\PE (dZ X N' sc C k f fp) elt te)
  (O:X.N.Nodup)(Y:X.N[i]?<*x)(w:X.env.scope.names.lookup x<*.local)
  (W:qZ (.ListComp elt [(tg,iter,ifs,0,)] sc pos) (some (.Name x pos')) A.line X.env=pure true)
  (hs:∀x,ki iter X.env x=pure x:=by intro _;rfl):PS X (.Assign [.Name x pos'] (.ListComp elt [(tg,iter,ifs,0,)] sc pos) A) (nU (wK wi g tc te mk) (iS i)):=by
 intro j a1 B a2 D I h;rw[exec_Assign_Name_used _ _ _ _ W];refine aa (jo (aa ?_));show wpAny _ X.A (do let _<-comprehension (.ListComp elt [(tg,iter,ifs,0,)] sc pos) sc X.env (firstIterPos [(tg,iter,ifs,0,)] pos) (newList []) false (eval iter X.env) (some (assign (.Name x pos') X.env))) _ _ a1;refine aa (thn (z7 (use:=some (assign (.Name x pos') X.env)) (QQ:=λ_ c=>SP X j D .next c) S Q P hi n hs I h λl C r c m t R a N q=>?_) λ_ c hq=>aj (aj hq));obtain⟨d,v,H⟩:=id N;have F:Inv X (j++[(C,d)]) B r c:=t.A8 λp U=>(bz.mp U).elim (λz=>t.pin p (ba _ z)) λz=>by
  have e:p=(C,d):=by simpa using z
  subst e;exact(v,a.1,a.2.1,a.2.2.1,H,)
 show wpAny _ X.A (assign (.Name x pos') X.env (.ref l)) _ _ c;refine thn (A9 (i:=i) O Y (.inl w) (.inr w) (j++[(C,d)]) c B r (.ref l) (.ref l) D.nx F rfl q) λ_ s2 ⟨E,s,u,q2⟩=>?_;obtain⟨J,Z,_,_,_⟩:=u.pin (C,d) (ba _ (ba _ 'F'));have T:s2.heap.Ns C m:=by
  obtain⟨o,L,K,y,a0⟩:=R;have :o=d:=by rw[v]at y;exact(bo y).symm
  subst this;exact(o,L,K,J,a0,)
 refine(m,T,λM V=>?_,);have G:Inv X j E s {s2 with heap:=M,toks:=s2.toks}:=u.iN.turned (λb o n e=>V.extBut b o n e) Z a.2.1 a.2.2.2.1 a.2.2.2.2.1 a.2.2.2.2.2;exact(E,s,G,q2,)
end
section
def u9:fA X (.builtin "isinstance") (λxs H Q=>∃x T t b,xs=[x,.ty T]/\nN X.K H x t/\cF X.K t (.type T)<*b/\Q (.bl b) H):=by intro g s j H xs i Q I f h;obtain⟨x,T,t,b,rfl,ty,e,q⟩:=h;obtain⟨u,c,rfl,d,a⟩:=f.two;cases a;exact zU I d ty e λtk=>(.bl b,H,I.tok tk,rfl,q,)
def sN:fA X (.builtin "isinstance") (λxs H Q=>∃x C t b,xs=[x,.ref C]/\nN X.K H x t/\cF X.K t (.ref C)<*b/\Q (.bl b) H):=by intro g s j H xs i Q I f h;obtain⟨x,T,t,b,rfl,ty,e,q⟩:=h;obtain⟨u,c,rfl,d,a⟩:=f.two;cases a;exact zU I d ty e λtk=>(.bl b,H,I.tok tk,rfl,q,)
def Cw{bs:List Bool}(r:bS (bs.map V.bl) ad):TruthOf prog w A (λi v=>ad.toArray[i]?<*v) (λi=>bs.getD i false):=by
 intro i v s Q E c h;have hi:ad[i]?<*v:=by simpa using c
 have e:v=.bool (bs.getD i false):=by
  have d:=r.length;rw[ai]at d;have a:i<bs.length:=by have :=(aF.mp hi).1;lia
  obtain⟨u,b,f⟩:=bS.get (i:=i) (x:=.bl bs[i]) r (by simp[a]);rw[hi]at b;cases b;have g:v=Cb bs[i]:=f;rw[g,ag,ae a];rfl
 rw[e];exact dB h
def range_all(bs:List Bool):(aC bs.length).all (λi=>bs.getD i false)=bs.all id:=by
 have :bs=(aC bs.length).map λi=>bs.getD i false:=by
  apply cy;·simp
  .intro i a c;simp[a]
 rw[dE];simp only[bj,bq];constructor;·intro h x b;obtain⟨i,hi,rfl⟩:=dH.mp b;have :=h i hi;simpa[hi]using this
 .intro h i hi;have :=h bs[i] (aR hi);simpa[hi]using this
def range_any(bs:List Bool):(aC bs.length).any (λi=>bs.getD i false)=bs.any id:=by
 rw[dE];simp only[bQ,bq];constructor;·rintro⟨i,hi,h⟩;exact(bs[i],aR hi,by simpa[hi]using h,)
 .rintro⟨x,a,h⟩;obtain⟨i,hi,rfl⟩:=dH.mp a;exact(i,hi,by simpa[hi]using h,)
def Oc(d:X.calm=true):fA X (.builtin "all") (λxs H Q=>∃(p:Addr)(bs:List Bool),xs=[.ref p]/\SqL X.K H p (bs.map V.bl)/\Q (.bl (bs.all id)) H):=by
 intro w s y H xs x Q I m h;obtain⟨p,bs,rfl,hq,q⟩:=h;obtain⟨u,rfl,l⟩:=m.one;cases l;obtain⟨c,r,a,v⟩:=I.list hq;have f:c.toArray.size=bs.length:=by rw[aE,<-r.length,ai]
 have g:p≠⇑s:=by obtain⟨o,n,j,_⟩:=id a;exact aL (aw j)
 refine call_all_walk (j9 a.isList (⇑s,_,_,_,_,_,λi=>bs.getD i false,rfl,OJ (A:=X.A.in1) (I.ok.hd d) _ p g c.toArray,((_,av _ rfl,rfl,rfl,),a.isList.at λo e=>af _ e,),Cw r,λt tk k=>?_,));rw[f,range_all];exact(.bl (bs.all id),H,I.kept (t':=tk) λb o e=>k b o ↥(aL (aw e)) (af _ e),rfl,q,)
def Ob(d:X.calm=true):fA X (.builtin "any") (λxs H Q=>∃(p:Addr)(bs:List Bool),xs=[.ref p]/\SqL X.K H p (bs.map V.bl)/\Q (.bl (bs.any id)) H):=by
 intro w s y H xs x Q I m h;obtain⟨p,bs,rfl,hq,q⟩:=h;obtain⟨u,rfl,l⟩:=m.one;cases l;obtain⟨c,r,a,v⟩:=I.list hq;have f:c.toArray.size=bs.length:=by rw[aE,<-r.length,ai]
 have g:p≠⇑s:=by obtain⟨o,n,j,_⟩:=id a;exact aL (aw j)
 refine call_any_walk (j9 a.isList (⇑s,_,_,_,_,_,λi=>bs.getD i false,rfl,OJ (A:=X.A.in1) (I.ok.hd d) _ p g c.toArray,((_,av _ rfl,rfl,rfl,),a.isList.at λo e=>af _ e,),Cw r,λt tk k=>?_,));rw[f,range_any];exact(.bl (bs.any id),H,I.kept (t':=tk) λb o e=>k b o ↥(aL (aw e)) (af _ e),rfl,q,)
abbrev Gn(x:Str)(lo hi:Option Int):Str:=⟨((x.cps.toList.drop (HT.sIx x.length 0 lo)).take (HT.sIx x.length x.length hi-HT.sIx x.length 0 lo)).toArray⟩
def sIx_eq(n d:Nat)(i:Int):(max 0 (min (if i<0 then i+(n:Int)else i) (n:Int)))=((HT.sIx n d (some i):Nat):Int):=by have :=HT.clip_eq i n d;rw[<-this];split <;>lia
def strIx(lo hi:Option Int)(n:Nat):vA lo hi 1 n=(aC (HT.sIx n n hi-HT.sIx n 0 lo)).map λk=>HT.sIx n 0 lo+k:=by
 have j:∀a b:Nat,sliceRange (a:Int) (b:Int) 1=(aC (b-a)).map λk=>a+k:=by
  intro a b;unfold sliceRange;have e:(if(1:Int)>0 then(if(a:Int)<b then((b:Int)-a+1-1)/1 else 0)else(if(a:Int)>b then((a:Int)-b-1-1)/(-1)else 0)).toNat=b-a:=by rw[if_pos 'E'];split <;>lia
  simp only[e];apply cu;intro k l;lia
 have f:∀(o:Option Int)(d:Nat),(match o with |none=>(d:Int) |some i=>max 0 (min (if i<0 then i+(n:Int)else i) (n:Int)))=((HT.sIx n d o:Nat):Int):=by
  intro o d;cases o with
  |none=>rfl
  |some i=>exact sIx_eq n d i
 have c:=f lo 0;have g:=f hi n;unfold vA;simp only[show(1:Int)>0 by decide,if_true];have h:((0:Nat):Int)=0:=rfl;rw[h]at c;rw[<-j,<-c,<-g];cases lo<;>cases hi<;>rfl
def pickN(xs:Array Nat)(i:Nat):∀k,((aC k).map λm=>i+m).filterMap (xs[·]?)=(xs.toList.drop i).take k:=by
 intro k
 induction k with
 |zero=>simp
 |succ k ih=>
  rw[List.range_succ,cH,List.filterMap_append,ih];by_cases h:i+k<xs.size;·rw[List.take_succ,i5];simp[h]
  .rw[List.take_succ,i5];simp[h]
def IT(x:Str)(lo hi:Option Int):Txt.slice x lo hi=Gn x lo hi:=by
 have c:HT.sIx x.length 0 lo<=x.length:=HT.LA _ _ (a7 _) lo;have d:HT.sIx x.length x.length hi<=x.length:=HT.LA _ _ (ay _) hi;unfold Txt.slice Gn;rw[strIx];split
 .rename_i h;rw[az,beq_iff_eq,beq_iff_eq,ai,bU]at h;have a:HT.sIx x.length 0 lo=0:=by lia
  have b:HT.sIx x.length x.length hi=x.length:=by lia
  rw[a,b];have :x.cps.toList.length=x.length:=by simp[Eu]
  rw[List.drop_zero,Nat.sub_zero,<-this,fj]
 .rw[pickN]
def uY{v:Value}{o:Option Int}(p:IsPart v o):∃l:Option (Int×Tok),v=partValue l/\o=l.map (·.1):=by
 cases p with
 |none=>exact(none,rfl,rfl,)
 |int i t=>exact(some (i,t),rfl,rfl,)
def rSlS:V->Option Int->Option Int->Hp->VK->Prop:=λx lo hi H Q=>∃z,x=.str z/\z.length<=sizeLine/\Q (.str (Gn z lo hi)) H
def sl_str:SlR X rSlS:=by intro i s o H x v m n lo hi j Q I f a c d h;obtain⟨z,rfl,b,q⟩:=h;obtain⟨t,rfl⟩:=f;obtain⟨l,rfl,rfl⟩:=uY c;obtain⟨u,rfl,rfl⟩:=uY d;refine("str",_,F.slot_str_getitem.lookup,typeIs_str _ _ _,?_,);refine wpAny_getItem_str_slice (l:=l) (u:=u) (st:=none) a rfl (post_val_or_str (aO (Txt.slice_le z _ _) b,λg k=>?_,));have e:=IT z (l.map (·.1)) (u.map (·.1));unfold Txt.slice at e;refine(.str (Gn z (l.map (·.1)) (u.map (·.1))),H,I.tok k,(g,?_,),q,);rw[<-e];rfl
abbrev Its(x:Str):It:=(λi _=>i<x.length,λi H v H'=>H'=H/\∃c,x.cps[i]?<*c/\v=.str ⟨#[c]⟩,λi _=>x.length<=i,)
end
def zB(a:Addr)(x:Str)(t:Tok)(A:Around)(b:A.handled=none):
  Walks prog w A a [a] [a] x.cps.size (SignAt x) (λi h=>h.IsStrIter a (iG x) x t i):=by
 unfold iG;cases ha:x.cps.all (·<128);·simp only[aY,if_false];exact Walks.strWide b a x t
 .simp only[if_true];exact Walks.strAscii b a x t
def KN(x:Str)(f:Addr)(t:Tok):Turn P w K tg (Its x) [f] f (λi h=>h.IsStrIter f (iG x) x t i) where
 mem:=by simp
 obj:=λi h j b a=>by
  have e:b=f:=by simpa using a
  subst e;obtain⟨o,e,c,d⟩:=j;exact⟨o,e,λv z=>by rw[d]at z;cases z⟩
 keep:=λi h l j k=>let⟨o,ho,r⟩:=j;(o,k f 'F' o ho,r,)
 item:=by intro X G L F C i O s R H E I hf j J;subst G L F;obtain⟨m,p,U,q,y,B⟩:=hf f 'F';have W:=zB (prog:=X.prog) (w:=X.w) f x t X.A (I.ok.hd C);refine W.item i s _ _ J j λv l tk Z Q M=>?_;obtain⟨c,u,V,rfl⟩:=Z;have S:Inv X O R H {s with heap:=l,toks:=tk}:=I.turned (λb o a e=>M b o ↥a e) m p q y B;obtain⟨o,e,T,d⟩:=id Q;refine(_,rfl,HP (s:={s with heap:=l,toks:=tk}) (n:=iG x) e T d ?_ (.str ⟨#[c]⟩,H,S,(u,rfl,),(rfl,c,V,rfl,),Q,λb a=>(hf b a).1,),);unfold iG;split <;>decide
 done:=by
  intro X G L F C i O s R H E I hf j J;subst G L F;obtain⟨m,p,U,q,y,B⟩:=hf f 'F';have Y:x.length<=i:=J;by_cases hi:i=x.cps.size;·subst hi;have W:=zB (prog:=X.prog) (w:=X.w) f x t X.A (I.ok.hd C);exact W.done s _ _ j λl tk M=>(rfl,I.turned (λb o a e=>M b o ↥a e) m p q y B,)
  .have N:x.cps[i]? =none:=by rw[Array.getElem?_eq_none_iff];exact Y
   have g:s.heap.IsStrIter f (iG x) x t i:=j;unfold iG at g;cases ha:x.cps.all (·<128);·rw[ha]at g;exact wpAny_pyNext_wide_end (I.ok.hd C) g N λl D=>(rfl,I.turned (t':=s.toks) (λb o a e=>D b o a e) m p q y B,)
   .rw[ha]at g;exact wpAny_pyNext_ascii_end (I.ok.hd C) g N λl D=>(rfl,I.turned (t':=s.toks) (λb o a e=>D b o a e) m p q y B,)
 self:=λA i s a0 E j h=>by
  have g:s.heap.IsStrIter f (iG x) x t i:=j;unfold iG at g;cases ha:x.cps.all (·<128);·rw[ha]at g;exact wpAny_pyIter_striter_wide g h
  .rw[ha]at g;exact wpAny_pyIter_striter_ascii g h
def Inv.GU(I:'A')(k:∀b o,b∉ch->s.heap.get? b<*o->h'.get? b<*o)(hf:∀b∈ch,pv X pins H b):Inv X pins σ H {s with heap:=h'}:=by
 have g:∀b u,H b<*u->b∉ch:=λb u e z=>by rw[(hf b z).1]at e;cases e
 refine I.step (g':=s.gens) (d':=s.drawn) (ch:=ch) (λb v=>?_) (λb o _ _ a e _=>k b o a e) (λb o _ _ a e _=>(o.slots,k b o a e,)) (λ_ _ _ _ n=>n)
  (λb o a e=>(o,k b o a e,)) (λ_ _ e=>e) (λ_ _ _ e=>e) (λb B e=>⟨#[],by rw[e];simp⟩) (λm x=>?_) (λb u e=>?_) I.bare
 .obtain⟨y,j,A,l,p,t⟩:=hf b v;exact(l,j,p,t,)
 .obtain⟨o,i,h,q,r⟩:=x;exact(o,i,h,k _ o (λa=>(hf _ a).2.1 rfl) q,r,)
 .refine(I.hok b u e).ub (λd o w c=>k d o (λf=>?_) c) (λd c=>c) λd C c=>c;rcases w with zz|zz;·rw[zz]at f;exact g b u e f
  .exact g d _ zz f
def Inv.newL{o:HO}(I:'A')(k:∀b o,b∉ch->s.heap.get? b<*o->h'.get? b<*o)(hf:∀b∈ch,pv X pins H b)
  (a:dA X.prog X.w (upd H ⇑s o) h' ⇑s o):Inv X pins σ (upd H ⇑s o) {s with heap:=h',toks:=t'}:=
 ((I.GU k hf).tok t').track (I.ze (ay _) (I.hok.fresh (ay _))) a
abbrev Oz(a:Hp->List V->Prop):It:=
 (λi H=>∃xs x,a H xs/\xs[i]?<*x,λi H v H'=>∃p x,H p=none/\H'=upd H p (.tup [.int i,x])/\v=.ref p/\∀xs,a H xs->xs[i]?<*x,λi H=>∃xs,a H xs/\xs.length<=i,)
structure En(a it:Addr)(Sq:ah->Hp->List V->Prop)(S:Nat->Heap->Prop):Prop where
 obj:∀i h,S i h->∃o,h.get? it<*o/\∀v,o.data≠.cell v
 kp:∀i h h',S i h->(∀o,h.get? it<*o->h'.get? it<*o)->S i h'
 one:∀{X:Cx}{pins:List (Addr×Obj)}{σ:St}{H:Hp}{s:Shared}{xs ys:List V},'A'->Sq X.K H xs->Sq X.K H ys->xs=ys
 src:∀{X:Cx}{pins:List (Addr×Obj)}{σ:St}{H:Hp}{s:Shared}{xs:List V}{i:Nat},'A'->X.A.in1.handled=none->Sq X.K H xs->S i s.heap->∃(us:List Value)(R:Heap->Prop),bS xs us/\R s.heap/\
  (∀e o,s.heap.get? e<*o->o.cls=.type "enumerate"->e≠a)/\Draws X.prog X.w X.A.in1 it [it,a] us.toArray.size (λi v=>us.toArray[i]?<*v) (λi h=>S i h/\R h)/\
  (us.toArray.size<=i->∀(Q:'I')(E:'I'),(∀h' z,Heap.ExtBut it s.heap h'->(∃o,h'.get? z<*o/\o.cls=.type "StopIteration")->E (.ref z) {s with heap:=h'})->wpAny (model X.prog X.w) X.A.in1 (cf (.ref it)) Q E s)
def EY{es:List Expr}{kk:Nat}{L:ah->Hp->List V->Prop}{S:Nat->Heap->Prop}{e:Addr}(N:En a it L S)(t:e≠it):Turn P w K (.Tuple es kk pp) (Oz (L K)) [e,it] e (λi h=>(∃old,IsEnum h e it i old)/\S i h) where
 mem:=by simp
 obj:=λi h d b f=>by
  obtain⟨⟨old,c⟩,hs⟩:=d;have p:b=e\/b=it:=by simpa using f
  rcases p with rfl|rfl;·exact⟨_,c,λb6 z=>by cases z⟩
  .exact N.obj i h hs
 keep:=λi h l d k=>by obtain⟨⟨old,c⟩,g⟩:=d;exact⟨⟨old,k e 'F' _ c⟩,N.kp i h l g λo q=>k it 'F' o q⟩
 item:=by
  intro X n v m j i C s J H E I hf d r;subst n v m;obtain⟨xs,x,hq,A⟩:=r;obtain⟨⟨old,c⟩,g⟩:=d;obtain⟨B,a0,G,O,W,D,_⟩:=N.src I (I.ok.hd j) hq g;obtain⟨b3,U,ru⟩:=G.get A;obtain⟨f0,f1,f2,f3,f4,f5⟩:=hf e 'F';have a8:i<B.toArray.size:=by simpa using(aF.mp U).1
  have a9:it<⇑s:=by obtain⟨o,q,_⟩:=N.obj i _ g;exact aw q
  refine wpAny_pyNext_enum_itemD D c (g,O,) a8 t (by simp[t,W e _ c rfl]) λy l tk hy u b0 ht b5 kp=>?_;have a2:y=b3:=by
   have :B[i]?<*y:=by simpa using hy
   rw[U]at this;exact(bo this).symm
  subst a2;have hp:H ⇑s=none:=I.hok.fresh (ay _);have Y:Inv X C J (upd H ⇑s (.tup [.int i,x])) {s with heap:=l,toks:=tk+1}:=
   I.newL (ch:=[e,it]) (λa1 o j q=>kp a1 o (λz=>j (by simp[z])) (λz=>j (by simp[z])) q) hf (by show 2<=sizeLine;decide,[.int i tk,y],.cons (tk,rfl,) (.cons ru .nil),(_,ht,rfl,_,rfl,),)
  have M:(upd H ⇑s (.tup [.int i,x])) e=none:=by rw[aV (aL (aw c))];exact f0
  refine(_,rfl,wpAny_letOwnedTupleGo_enum (s:={s with heap:=l,toks:=tk+1}) u λa4 a7 R=>?_,);have Z:Inv X C J (upd H ⇑s (.tup [.int i,x])) {s with heap:=a4,toks:=tk+1}:=Y.turned (t':=tk+1) (λb o f q=>R.extBut b o f q) M f1 f3 f4 f5;refine(.ref ⇑s,_,Z,rfl,⟨_,x,hp,rfl,rfl,λys b2=>by rw[N.one I b2 hq];exact A⟩,((y,?_,),N.kp _ _ _ b0.1 λo q=>R.extBut it o (bK t) q,),λb f=>?_,)
  .have :((i:Int)+1)=((i+1:Nat):Int):=by push_cast;rfl
   rw[<-this];exact a7
  .have p:b=e\/b=it:=by simpa using f
   rcases p with rfl|rfl;·exact M
   .rw[aV (aL a9)];exact(hf _ 'F').1
 done:=by
  intro X n v m j i C s J H E I hf d r;subst n v m;obtain⟨xs,hq,A⟩:=r;obtain⟨⟨old,c⟩,g⟩:=d;obtain⟨B,a0,G,O,W,D,a3⟩:=N.src I (I.ok.hd j) hq g;obtain⟨g0,g1,g2,g3,g4,g5⟩:=hf it 'F';have Q:s.TypeIs (.ref e) "enumerate":=(_,c,rfl,);have b4:=G.length;unfold pyNext;refine aa (fX (dh (name:=aQ "__next__") Q F.slot_enumerate_next
   (cC F.slot_enumerate_next Q F.entry_enumerate_next ?_ (F.args_enumerate_next_1 _))))
  show wpAny _ _ (field (.ref e) 2>>=_) _ _ _;refine aa (dq c rfl (x:=.ref it) rfl ?_);refine aa (a3 (by simp;lia) _ _ λl z a6 b1=>?_);obtain⟨o,u,a5⟩:=b1;refine aa (kW (T:="StopIteration") (b:=true) (o,u,a5,) Ki ?_);exact aj (rfl,I.turned (t':=s.toks) (λb o f q=>a6 b o f q) g0 g1 g3 g4 g5,)
 self:=λ_ _ _ _ _ d h=>by obtain⟨⟨old,c⟩,_⟩:=d;exact wpAny_pyIter_enum c h
noncomputable abbrev Ite(K:ah)(a:Addr):It:=Oz λH xs=>SqL K H a xs
def en_list(a b:Addr):En a b (λK H xs=>SqL K H a xs) (λi h=>h.IsListIter b a i) where
 obj:=λi h l=>by obtain⟨o,t,c,d⟩:=l;exact⟨o,t,λv z=>by rw[d]at z;cases z⟩
 kp:=λi h m l k=>l.at k
 one:=λI h m=>I.xP h m
 src:=λ{X _ _ _ s xs i} I p hq r=>by
  obtain⟨f,x,g,y⟩:=I.list hq;have no:∀c o,s.heap.get? c<*o->o.cls≠.type "list"->c≠a:=λc o q n z=>by obtain⟨A,_,w,j,_⟩:=id g;rw[z,w]at q;cases q;exact n j
  have u:a≠b:=by obtain⟨o,q,j,_⟩:=id r;exact(no b o q (by rw[j];decide+kernel)).symm
  exact(f,λh=>h.IsList a f.toArray,x,g.isList,λe o q c=>no e o q (by rw[c];decide+kernel),Draws.list p b a u f.toArray,λh Q E k=>wpAny_nextOf_list_end p r g.isList (pB h) k,)
def Inv.enum{g:List Expr}{l:Nat}{c:ah->Hp->List V->Prop}{S:Nat->Heap->Prop}{R:It->Hp->Prop}{Q:'I'}(I:'A')(N:En a ⇑s c S)
  (e:IsEnum h' (⇑s+1) ⇑s 0 .none)(j:S 0 h')(m:∀b o,s.heap.get? b<*o->h'.get? b<*o)(q:R (Oz (c X.K)) H)
  (k:∀(it:Addr)(fp:List Addr)(f:Nat->Heap->Prop)(J:It),Inv X pins σ H {s with heap:=h'}->Turn X.prog X.w X.K (.Tuple g l pp) J fp it f->f 0 h'->(∀b∈fp,pv X pins H b)->R J H->Q (.ref it) {s with heap:=h'}):
  'C' (pyIter (.ref (⇑s+1))) Q E {s with heap:=h'}:=by
 refine wpAny_pyIter_enum (s:={s with heap:=h'}) e ?_;refine k _ [⇑s+1,⇑s] _ _ (I.kept (t':=s.toks) m) (EY N (Nat.succ_ne_self _)) ((_,e,),j,) (λb h=>?_) q;have i:b=⇑s+1\/b=⇑s:=by simpa using h
 have d:⇑s<=b:=by
  rcases i with z|z;·rw[z];exact dw _
  .rw[z];exact ay _
 exact I.ze d (I.hok.fresh d)
section
variable {es:List Expr}{kk:Nat}
def Nu(K:ah)(tl:TE):TI:=λσ H R=>tl σ H λx H1=>∃a,[x]=[.ref a]/\(∃xs,SqL K H1 a xs)/\R (Ite K a) H1
def pi_enum{l:Expr}{c:TE}{p:Pos}(n:Gl X "enumerate")(v:X.mg "enumerate"=none)(o:PE X l c)(hs:bf [l] X.env=[(false,eval l X.env)]:=by rfl):
  PI X (.Tuple es kk pp) (.Call (.Name "enumerate" p) [l] [] pos) (Nu X.K c):=by
 intro y s F H R I h;have k:PA X [l] (jy c rD):=fo o jg hs;refine Call_ (jj I n v boot_enumerate (bX (thn (k pos y s F H (λe b=>∃a,e=[.ref a]/\(∃g,SqL X.K b a g)/\R (Ite X.K a) b) I h) λP O ⟨e,b,d,C,B⟩=>?_) hs rfl));obtain⟨a,rfl,⟨g,hq⟩,q⟩:=B;obtain⟨u,rfl,D⟩:=C.one;cases D;obtain⟨M,N,A,L⟩:=d.list hq;exact call_enumerate_list A.isList λG m r K x=>d.enum (en_list a _) m r x q λw j E J i t z f q=>(w,j,E,J,b,rfl,i,t,z,f,q,)
end
inductive D where
 |non|bl (b:Bool) |int (i:Int) |str (x:Str) |tup (ds:List D) |lst (ds:List D)
 deriving Inhabited
mutual
noncomputable def Rep(K:ah)(H:Hp):D->V->Prop
 |.non,v=>v=.non
 |.bl b,v=>v=.bl b
 |.int i,v=>v=.int i
 |.str x,v=>v=.str x
 |.tup ds,v=>∃a xs,v=.ref a/\SqT K H a xs/\fu K H ds xs
 |.lst ds,v=>∃a xs,v=.ref a/\SqL K H a xs/\fu K H ds xs
noncomputable def fu(K:ah)(H:Hp):List D->List V->Prop
 | [],xs=>xs=[]
 |d::ds,xs=>∃x r,xs=x::r/\Rep K H d x/\fu K H ds r
end
def aD.tup{K:ah}{H H':Hp}{a:Addr}{xs:List V}(e:aD H H')(h:SqT K H a xs):SqT K H' a xs:=by
 rcases h with(h|⟨o,h⟩) |h;·exact .inl (.inl (e _ _ h))
 .exact .inl (.inr (o,e _ _ h,))
 .exact .inr h
mutual
theorem Rep.same(e:aD H H'):∀{d:D}{v:V},Rep K H d v->Rep K H' d v
 |.non,_,h=>h
 |.bl _,_,h=>h
 |.int _,_,h=>h
 |.str _,_,h=>h
 |.tup ds,_,h=>by obtain⟨a,g,b,c,f⟩:=h;exact(a,g,b,e.tup c,fu.same e f,)
 |.lst ds,_,h=>by obtain⟨a,g,b,c,f⟩:=h;exact(a,g,b,e.seq c,fu.same e f,)
theorem fu.same(e:aD H H'):∀{ds:List D}{xs:List V},fu K H ds xs->fu K H' ds xs
 | [],_,h=>h
 |d::ds,_,h=>by obtain⟨x,r,a,b,c⟩:=h;exact(x,r,a,Rep.same e b,fu.same e c,)
end
theorem fu.length:∀{ds:List D}{xs:List V},fu K H ds xs->xs.length=ds.length
 | [],_,h=>by rw[show _=[]from h];rfl
 |d::ds,_,h=>by obtain⟨x,r,rfl,_,a⟩:=h;rw[aU,aU,fu.length a]
theorem fu.at:∀{ds:List D}{xs:List V}{i:Nat}{d:D},fu K H ds xs->ds[i]?<*d->∃x,xs[i]?<*x/\Rep K H d x
 | [],_,i,d,h,e=>by simp at e
 |d::ds,_,0,d',h,e=>by obtain⟨y,r,rfl,a,b⟩:=h;simp at e;subst e;exact(y,rfl,a,)
 |d::ds,_,i+1,d',h,e=>by obtain⟨y,r,rfl,a,b⟩:=h;obtain⟨x,c,f⟩:=fu.at (i:=i) b ↥e;exact(x,↥c,f,)
theorem fu.ints:∀(ns:List Int),fu K H (ns.map D.int) (ns.map V.int)
 | []=>rfl
 |n::ns=>(_,_,rfl,rfl,fu.ints ns,)
mutual
noncomputable def eqD:D->D->Bool
 |.non,.non=>true
 |.bl a,.bl b=>a==b
 |.bl a,.int b=>(if a then 1 else 0)==b
 |.int a,.bl b=>a==(if b then 1 else 0)
 |.int a,.int b=>a==b
 |.str a,.str b=>a==b
 |.tup a,.tup b=>oM a b
 |.lst a,.lst b=>oM a b
 |_,_=>false
noncomputable def oM:List D->List D->Bool
 | [],[]=>true
 |a::as,b::bs=>eqD a b&&oM as bs
 |_,_=>false
end
mutual
noncomputable def hgt:D->Nat
 |.tup ds=>gQ ds+1
 |.lst ds=>gQ ds+1
 |_=>0
noncomputable def gQ:List D->Nat
 | []=>0
 |d::ds=>max (hgt d) (gQ ds)
end
theorem uA:∀{ds:List D}{i:Nat}{d:D},ds[i]?<*d->hgt d<=gQ ds
 | [],i,d,e=>by simp at e
 |d::ds,0,d',e=>by simp at e;subst e;simp only[gQ];lia
 |d::ds,i+1,d',e=>by have :=uA (i:=i) (ds:=ds) (d:=d') ↥e;simp only[gQ];lia
theorem DW:∀(c bs:List D)(e:Nat->Bool),c.length=bs.length->(∀(i:Nat) a b,c[i]?<*a->bs[i]?<*b->e i=eqD a b)->(aC c.length).all e=oM c bs
 | [],[],e,_,_=>rfl
 |a::c,b::bs,e,hl,h=>by rw[aU,List.range_succ_eq_map,EI,wq];have d:=h 0 a b rfl rfl;have j:=DW c bs (λi=>e (i+1)) ↥hl λi x y f g=>h (i+1) x y ↥f ↥g;rw[d];show(eqD a b&&(aC c.length).all (λi=>e (i+1)))=_;rw[j];rfl
 | [],b::bs,e,hl,_=>by simp at hl
 |a::c,[],e,hl,_=>by simp at hl
theorem sH:∀(c bs:List D),c.length≠bs.length->oM c bs=false
 | [],[],h=>absurd rfl h
 |a::c,b::bs,h=>by show(eqD a b&&oM c bs)=false;rw[sH c bs ↥h,dP]
 | [],b::bs,_=>rfl
 |a::c,[],_=>rfl
mutual
theorem yd:∀d:D,eqD d d=true
 |.non=>rfl
 |.bl b=>beq_self_eq_true b
 |.int i=>beq_self_eq_true i
 |.str x=>beq_self_eq_true x
 |.tup ds=>uD ds
 |.lst ds=>uD ds
theorem uD:∀ds:List D,oM ds ds=true
 | []=>rfl
 |d::ds=>eQ.mpr (yd d,uD ds,)
end
section
variable {pins:List (Addr×Obj)}{s:Shared}
mutual
theorem Inv.vT(I:'A'):∀{d c:D}{v:V},Rep X.K H d v->Rep X.K H c v->d=c
 |.non,c,v,h,h'=>by cases(show v=V.non from h);cases c<;>first | (obtain⟨_,_,z,_⟩:=h';cases z;done) |rfl| (cases h';done)
 |.bl b,c,v,h,h'=>by cases(show v=V.bl b from h);cases c<;>first | (obtain⟨_,_,z,_⟩:=h';cases z;done) | (cases h';rfl) | (cases h';done)
 |.int b,c,v,h,h'=>by cases(show v=V.int b from h);cases c<;>first | (obtain⟨_,_,z,_⟩:=h';cases z;done) | (cases h';rfl) | (cases h';done)
 |.str b,c,v,h,h'=>by cases(show v=V.str b from h);cases c<;>first | (obtain⟨_,_,z,_⟩:=h';cases z;done) | (cases h';rfl) | (cases h';done)
 |.tup ds,c,v,h,h'=>by
  obtain⟨a,w,rfl,j,p⟩:=h;cases c with
  |tup ds'=>obtain⟨b,q,e,f,k⟩:=h';cases e;have :=I.ku j f;subst this;rw[Inv.wZ I p k]
  |lst ds'=>obtain⟨b,q,e,f,k⟩:=h';cases e;obtain⟨r,_,⟨o,m,l,_⟩,_⟩:=I.tuple j;obtain⟨t,_,⟨u,n,i,g,_⟩,_⟩:=I.list f;rw[m]at i;cases i;rw[l]at g;exact absurd g (by decide+kernel)
  |_=>cases h'
 |.lst ds,c,v,h,h'=>by
  obtain⟨a,w,rfl,j,p⟩:=h;cases c with
  |lst ds'=>obtain⟨b,q,e,f,k⟩:=h';cases e;have :=I.xP j f;subst this;rw[Inv.wZ I p k]
  |tup ds'=>obtain⟨b,q,e,f,k⟩:=h';cases e;obtain⟨r,_,⟨o,n,m,l,_⟩,_⟩:=I.list j;obtain⟨t,_,⟨u,i,g,_⟩,_⟩:=I.tuple f;rw[m]at i;cases i;rw[l]at g;exact absurd g (by decide+kernel)
  |_=>cases h'
theorem Inv.wZ(I:'A'):∀{ds a:List D}{xs:List V},fu X.K H ds xs->fu X.K H a xs->ds=a
 | [],[],_,_,_=>rfl
 | [],d::ds,xs,h,h'=>by obtain⟨x,r,e,_⟩:=h';rw[show xs=[]from h]at e;cases e
 |d::ds,[],xs,h,h'=>by obtain⟨x,r,e,_⟩:=h;rw[show xs=[]from h']at e;cases e
 |d::ds,d'::a,xs,h,h'=>by obtain⟨x,r,rfl,b,f⟩:=h;obtain⟨y,i,e,c,g⟩:=h';cases e;rw[Inv.vT I b c,Inv.wZ I f g]
end
open PySem.SeqAt
abbrev eqJ(ds a:List D)(j:Nat):Bool:=match ds[j]?,a[j]? with |some d,some d'=>eqD d d'|_,_=>false
def BH{ds a:List D}(b:ds.length=a.length):(aC ds.length).all (eqJ ds a)=oM ds a:=DW ds a _ b λi x y c d=>by simp only[eqJ,c,d]
def HW{ds a:List D}:((aC (min ds.length a.length)).all (eqJ ds a)&&ds.length==a.length)=oM ds a:=by
 by_cases hl:ds.length=a.length;·rw[<-hl,Nat.min_self,beq_self_eq_true,Bool.and_true,BH hl]
 .rw[sH ds a hl,beq_eq_false_iff_ne.mpr hl,dP]
def BG{ds a:List D}(t:∀(i:Nat)(d b:D)(x y:V)(u f:Value),ds[i]?<*d->a[i]?<*b->Rep X.K H d x->Rep X.K H b y->RelV x u->RelV y f->EqAt A.in1 s u f (eqD d b))(k:fu X.K H ds xs)(l:fu X.K H a ys)(r:bS xs ad)(o:bS ys its'):ad.toArray.size=ds.length/\its'.toArray.size=a.length/\∀j (g:j<ad.toArray.size)(h:j<its'.toArray.size),EqAt A.in1 s ad.toArray[j] its'.toArray[j] (eqJ ds a j):=by
 have l1:=k.length;have l2:=l.length;have F:=r.length;have G:=o.length;refine(by simp;lia,by simp;lia,λj g h=>?_,);have p:j<ad.length:=by simpa using g
 have q:j<its'.length:=by simpa using h
 have c:ds[j]?<*ds[j]:=ae 'D';have e:a[j]?<*a[j]:=ae 'D';unfold eqJ;rw[c,e];obtain⟨x,v,C⟩:=k.at c;obtain⟨y,w,E⟩:=l.at e;obtain⟨u,m,z⟩:=r.get v;obtain⟨f,n,B⟩:=o.get w;rw[ae p]at m;rw[ae q]at n;cases m;cases n;exact t j _ _ x y _ _ c e C E z B
def Inv.rcTup(I:'A')(A:Around){ds g:List D}(o:∀(i:Nat)(d c:D)(x y:V)(u h:Value),ds[i]?<*d->g[i]?<*c->Rep X.K H d x->Rep X.K H c y->RelV x u->RelV y h->EqAt A.in1 s u h (eqD d c))(k:SqT X.K H a xs)(m:fu X.K H ds xs)(l:SqT X.K H b ys)(n:fu X.K H g ys)(q:A.units<cLine):RcAt A s (.ref a) (.ref b) (oM ds g):=by
 obtain⟨z,r,p,_⟩:=I.tuple k;obtain⟨B,w,v,_⟩:=I.tuple l;obtain⟨e,j,f⟩:=BG o m n r w;have t:=RcAt.tuples p v (A:=A) q f
 rwa [e,j,HW]at t
def Inv.rcLst(I:'A')(A:Around){ds c:List D}(v:∀(i:Nat)(d g:D)(x y:V)(u m:Value),ds[i]?<*d->c[i]?<*g->Rep X.K H d x->Rep X.K H g y->RelV x u->RelV y m->EqAt A.in1 s u m (eqD d g))(n:SqL X.K H a xs)(q:fu X.K H ds xs)(o:SqL X.K H b ys)(t:fu X.K H c ys)(j:A.units<cLine):RcAt A s (.ref a) (.ref b) (oM ds c):=by
 obtain⟨z,r,p,_⟩:=I.list n;obtain⟨B,w,l,_⟩:=I.list o;obtain⟨e,h,f⟩:=BG v q t r w;by_cases hl:ds.length=c.length
 .have k:=RcAt.lists p.isList l.isList (A:=A) (by rw[e,h,hl]) j f
  rwa [e,BH hl]at k
 .have k:=RcAt.lists_lengths p.isList l.isList (A:=A) (by rw[e,h];exact bne_iff_ne.mpr hl) j
  rwa [sH ds c hl]
def Inv.shp(I:'A'){d:D}(h:Rep X.K H d v)(r:RelV v u):(d=.non/\v=.non/\u=.none)\/(∃x,d=.bl x/\v=.bl x/\u=.bool x)\/(∃x t,d=.int x/\v=.int x/\u=.int x t)\/(∃x t,d=.str x/\v=.str x/\u=.str x t)\/(∃ds a xs ad,d=.tup ds/\v=.ref a/\u=.ref a/\SqT X.K H a xs/\fu X.K H ds xs/\IsTup s.heap a ad)\/∃ds a xs ad,d=.lst ds/\v=.ref a/\u=.ref a/\SqL X.K H a xs/\fu X.K H ds xs/\s.heap.IsList a ad:=by
 cases d with
 |non=>cases(show v=_ from h);cases r;exact .inl (rfl,rfl,rfl,)
 |bl x=>cases(show v=_ from h);cases r;exact .inr (.inl (x,rfl,rfl,rfl,))
 |int x=>cases(show v=_ from h);obtain⟨t,rfl⟩:=r;exact .inr (.inr (.inl (x,t,rfl,rfl,rfl,)))
 |str x=>cases(show v=_ from h);obtain⟨t,rfl⟩:=r;exact .inr (.inr (.inr (.inl (x,t,rfl,rfl,rfl,))))
 |tup ds=>obtain⟨a,xs,rfl,b,c⟩:=id h;cases r;obtain⟨ad,_,p,_⟩:=I.tuple b;exact .inr (.inr (.inr (.inr (.inl (ds,a,xs,_,rfl,rfl,rfl,b,c,p,)))))
 |lst ds=>obtain⟨a,xs,rfl,b,c⟩:=id h;cases r;obtain⟨ad,_,p,_⟩:=I.list b;exact .inr (.inr (.inr (.inr (.inr (ds,a,xs,_,rfl,rfl,rfl,b,c,p.isList,)))))
def Inv.eqAt1(I:'A')(A:Around)(O:∀(m:Nat)(ds k:List D)(i:Nat)(d f:D)(x y:V)(u j:Value),n=m+1->gQ ds<=m->ds[i]?<*d->k[i]?<*f->Rep X.K H d x->Rep X.K H f y->RelV x u->RelV y j->EqAt A.in1 s u j (eqD d f)):
  ∀(d f:D)(v N:V)(u j:Value),Rep X.K H d v->Rep X.K H f N->RelV v u->RelV N j->hgt d<=n->A.units+n+1<cLine->EqAt A s u j (eqD d f):=by
 intro d f v N u j h B r c o T;obtain⟨rfl,rfl,rfl⟩ |⟨_,rfl,rfl,rfl⟩ |⟨_,t,rfl,rfl,rfl⟩ |⟨_,t,rfl,rfl,rfl⟩ |⟨ds,a,R,P,rfl,rfl,rfl,C,F,p⟩ |⟨ds,a,R,P,rfl,rfl,rfl,C,F,p⟩:=I.shp h r<;>obtain⟨rfl,rfl,rfl⟩ |⟨_,rfl,rfl,rfl⟩ |⟨_,l,rfl,rfl,rfl⟩ |⟨_,l,rfl,rfl,rfl⟩ |⟨k,b,S,Q,rfl,rfl,rfl,E,G,g⟩ |⟨k,b,S,Q,rfl,rfl,rfl,E,G,g⟩:=I.shp B c
 .exact gD r c rfl rfl
 .exact gD r c rfl rfl
 .exact gD r c rfl rfl
 .exact gD r c rfl rfl
 .exact EqAt.none_tuple g 'D'
 .exact EqAt.none_list g 'D'
 .exact gD r c rfl rfl
 .exact gD r c rfl rfl
 .exact gD r c rfl rfl
 .exact gD r c rfl rfl
 .exact EqAt.bool_tuple _ g 'D'
 .exact EqAt.bool_list _ g 'D'
 .exact gD r c rfl rfl
 .exact gD r c rfl rfl
 .exact gD r c rfl rfl
 .exact gD r c rfl rfl
 .exact EqAt.int_tuple _ t g 'D'
 .exact EqAt.int_list _ t g 'D'
 .exact gD r c rfl rfl
 .exact gD r c rfl rfl
 .exact gD r c rfl rfl
 .exact gD r c rfl rfl
 .exact EqAt.str_tuple _ t g 'D'
 .exact EqAt.str_list _ t g 'D'
 .exact EqAt.tuple_none p 'D'
 .exact EqAt.tuple_bool _ p 'D'
 .exact EqAt.tuple_int _ l p 'D'
 .exact EqAt.tuple_str _ l p 'D'
 .have o:gQ ds+1<=_:=o;by_cases z:a=b;·subst z;have e:=I.vT h B;rw[<-e,yd];exact EqAt.same _
  .exact EqAt.of_refs z (Inv.rcTup I A (λi d f x y u j q w L M J K=>O (n-1) ds k i d f x y u j 'D' 'D' q w L M J K) C F E G 'D')
 .exact EqAt.tuple_list p g 'D'
 .exact EqAt.list_none p 'D'
 .exact EqAt.list_bool _ p 'D'
 .exact EqAt.list_int _ l p 'D'
 .exact EqAt.list_str _ l p 'D'
 .exact EqAt.list_tuple p g 'D'
 .have o:gQ ds+1<=_:=o;by_cases z:a=b;·subst z;have e:=I.vT h B;rw[<-e,yd];exact EqAt.same _
  .exact EqAt.of_refs z (Inv.rcLst I A (λi d f x y u j q w L M J K=>O (n-1) ds k i d f x y u j 'D' 'D' q w L M J K) C F E G 'D')
def Inv.DX(I:'A'):∀(n:Nat)(A:Around)(d a:D)(v c:V)(u b:Value),Rep X.K H d v->Rep X.K H a c->RelV v u->RelV c b->hgt d<=n->A.units+n+1<cLine->EqAt A s u b (eqD d a):=by
 intro n
 induction n with
 |zero=>exact λA d a v c u b h e r j f g=>Inv.eqAt1 I A (λm l o i d a x y u b k _ _ _ _ _ _ _=>absurd k 'D') d a v c u b h e r j f g
 |succ n ih=>exact λA d a v c u b h e r j f g=>Inv.eqAt1 I A (λm l o i d a x y u b k C p B w z q t=>ih A.in1 d a x y u b w z q t (by have :=uA p;lia) (by show A.units+1+n+1<cLine;lia)) d a v c u b h e r j f g
end
end L2
namespace L2
open PySem.SeqAt
section
variable {pins:List (Addr×Obj)}{s:Shared}
def Inv.neTup(I:'A')(A:Around){ds g:List D}(o:∀(i:Nat)(d c:D)(x y:V)(u h:Value),ds[i]?<*d->g[i]?<*c->Rep X.K H d x->Rep X.K H c y->RelV x u->RelV y h->EqAt A.in1 s u h (eqD d c))(k:SqT X.K H a xs)(m:fu X.K H ds xs)(l:SqT X.K H b ys)(n:fu X.K H g ys)(q:A.units<cLine):RcNeAt A s (.ref a) (.ref b) (!oM ds g):=by
 obtain⟨z,r,p,_⟩:=I.tuple k;obtain⟨B,w,v,_⟩:=I.tuple l;obtain⟨e,j,f⟩:=BG o m n r w;have t:=RcNeAt.tuples p v (A:=A) q f
 rwa [e,j,HW]at t
def Inv.neLst(I:'A')(A:Around){ds c:List D}(v:∀(i:Nat)(d g:D)(x y:V)(u m:Value),ds[i]?<*d->c[i]?<*g->Rep X.K H d x->Rep X.K H g y->RelV x u->RelV y m->EqAt A.in1 s u m (eqD d g))(n:SqL X.K H a xs)(q:fu X.K H ds xs)(o:SqL X.K H b ys)(t:fu X.K H c ys)(j:A.units<cLine):RcNeAt A s (.ref a) (.ref b) (!oM ds c):=by
 obtain⟨z,r,p,_⟩:=I.list n;obtain⟨B,w,l,_⟩:=I.list o;obtain⟨e,h,f⟩:=BG v q t r w;by_cases hl:ds.length=c.length
 .have k:=RcNeAt.lists p.isList l.isList (A:=A) (by rw[e,h,hl]) j f
  rwa [e,BH hl]at k
 .have k:=RcNeAt.lists_lengths p.isList l.isList (A:=A) (by rw[e,h];exact bne_iff_ne.mpr hl) j
  rwa [sH ds c hl]
def Inv.rcD(I:'A')(A:Around)(d d':D)(v C:V)(u f:Value)(h:Rep X.K H d v)(h':Rep X.K H d' C)(r:RelV v u)(K:RelV C f)(B:A.units+hgt d+1<cLine):RcAt A s u f (eqD d d'):=by
 obtain⟨rfl,rfl,rfl⟩ |⟨_,rfl,rfl,rfl⟩ |⟨_,t,rfl,rfl,rfl⟩ |⟨_,t,rfl,rfl,rfl⟩ |⟨g,a,L,G,rfl,rfl,rfl,k,m,p⟩ |⟨g,a,L,G,rfl,rfl,rfl,k,m,p⟩:=I.shp h r<;>obtain⟨rfl,rfl,rfl⟩ |⟨_,rfl,rfl,rfl⟩ |⟨_,c,rfl,rfl,rfl⟩ |⟨_,c,rfl,rfl,rfl⟩ |⟨E,b,M,J,rfl,rfl,rfl,l,n,e⟩ |⟨E,b,M,J,rfl,rfl,rfl,l,n,e⟩:=I.shp h' K
 .exact RcAt.none_none
 .exact RcAt.none_bool _
 .exact RcAt.none_int _ c
 .exact RcAt.none_str _ c
 .exact RcAt.none_tuple e 'D'
 .exact RcAt.none_list e 'D'
 .exact RcAt.bool_none _
 .exact RcAt.bool_bool _ _
 .exact RcAt.bool_int _ _ c
 .exact RcAt.bool_str _ _ c
 .exact RcAt.bool_tuple _ e 'D'
 .exact RcAt.bool_list _ e 'D'
 .exact RcAt.int_none _ t
 .exact RcAt.int_bool _ t _
 .exact RcAt.int_int _ t _ c
 .exact RcAt.int_str _ t _ c
 .exact RcAt.int_tuple _ t e 'D'
 .exact RcAt.int_list _ t e 'D'
 .exact RcAt.str_none _ t
 .exact RcAt.str_bool _ t _
 .exact RcAt.str_int _ t _ c
 .exact RcAt.str_str _ t _ c
 .exact RcAt.str_tuple _ t e 'D'
 .exact RcAt.str_list _ t e 'D'
 .exact RcAt.tuple_none p 'D'
 .exact RcAt.tuple_bool _ p 'D'
 .exact RcAt.tuple_int _ c p 'D'
 .exact RcAt.tuple_str _ c p 'D'
 .exact Inv.rcTup I A (λi d d' x y u f j F w z o q=>Inv.DX I (gQ g) A.in1 d d' x y u f w z o q (uA j) (by rw[hgt]at B;show A.units+1+gQ g+1<cLine;lia)) k m l n 'D'
 .exact RcAt.tuple_list p e 'D'
 .exact RcAt.list_none p 'D'
 .exact RcAt.list_bool _ p 'D'
 .exact RcAt.list_int _ c p 'D'
 .exact RcAt.list_str _ c p 'D'
 .exact RcAt.list_tuple p e 'D'
 .exact Inv.rcLst I A (λi d d' x y u f j F w z o q=>Inv.DX I (gQ g) A.in1 d d' x y u f w z o q (uA j) (by rw[hgt]at B;show A.units+1+gQ g+1<cLine;lia)) k m l n 'D'
def Inv.rcNeD(I:'A')(A:Around)(d d':D)(v C:V)(u f:Value)(h:Rep X.K H d v)(h':Rep X.K H d' C)(r:RelV v u)(K:RelV C f)(B:A.units+hgt d+1<cLine):RcNeAt A s u f (!eqD d d'):=by
 obtain⟨rfl,rfl,rfl⟩ |⟨_,rfl,rfl,rfl⟩ |⟨_,t,rfl,rfl,rfl⟩ |⟨_,t,rfl,rfl,rfl⟩ |⟨g,a,L,G,rfl,rfl,rfl,k,m,p⟩ |⟨g,a,L,G,rfl,rfl,rfl,k,m,p⟩:=I.shp h r<;>obtain⟨rfl,rfl,rfl⟩ |⟨_,rfl,rfl,rfl⟩ |⟨_,c,rfl,rfl,rfl⟩ |⟨_,c,rfl,rfl,rfl⟩ |⟨E,b,M,J,rfl,rfl,rfl,l,n,e⟩ |⟨E,b,M,J,rfl,rfl,rfl,l,n,e⟩:=I.shp h' K
 .exact RcNeAt.none_none
 .exact RcNeAt.none_bool _
 .exact RcNeAt.none_int _ c
 .exact RcNeAt.none_str _ c
 .exact RcNeAt.none_tuple e 'D'
 .exact RcNeAt.none_list e 'D'
 .exact RcNeAt.bool_none _
 .exact RcNeAt.bool_bool _ _
 .exact RcNeAt.bool_int _ _ c
 .exact RcNeAt.bool_str _ _ c
 .exact RcNeAt.bool_tuple _ e 'D'
 .exact RcNeAt.bool_list _ e 'D'
 .exact RcNeAt.int_none _ t
 .exact RcNeAt.int_bool _ t _
 .exact RcNeAt.int_int _ t _ c
 .exact RcNeAt.int_str _ t _ c
 .exact RcNeAt.int_tuple _ t e 'D'
 .exact RcNeAt.int_list _ t e 'D'
 .exact RcNeAt.str_none _ t
 .exact RcNeAt.str_bool _ t _
 .exact RcNeAt.str_int _ t _ c
 .exact RcNeAt.str_str _ t _ c
 .exact RcNeAt.str_tuple _ t e 'D'
 .exact RcNeAt.str_list _ t e 'D'
 .exact RcNeAt.tuple_none p 'D'
 .exact RcNeAt.tuple_bool _ p 'D'
 .exact RcNeAt.tuple_int _ c p 'D'
 .exact RcNeAt.tuple_str _ c p 'D'
 .exact Inv.neTup I A (λi d d' x y u f j F w z o q=>Inv.DX I (gQ g) A.in1 d d' x y u f w z o q (uA j) (by rw[hgt]at B;show A.units+1+gQ g+1<cLine;lia)) k m l n 'D'
 .exact RcNeAt.tuple_list p e 'D'
 .exact RcNeAt.list_none p 'D'
 .exact RcNeAt.list_bool _ p 'D'
 .exact RcNeAt.list_int _ c p 'D'
 .exact RcNeAt.list_str _ c p 'D'
 .exact RcNeAt.list_tuple p e 'D'
 .exact Inv.neLst I A (λi d d' x y u f j F w z o q=>Inv.DX I (gQ g) A.in1 d d' x y u f w z o q (uA j) (by rw[hgt]at B;show A.units+1+gQ g+1<cLine;lia)) k m l n 'D'
def rEqD(K:ah):R2:=λx y H Q=>∃d a,Rep K H d x/\Rep K H a y/\hgt d<=30/\Q (.bl (eqD d a)) H
def rNeD(K:ah):R2:=λx y H Q=>∃d a,Rep K H d x/\Rep K H a y/\hgt d<=30/\Q (.bl (!eqD d a)) H
def op_eqD(i:X.A.units+40<cLine):OpR X (cZ .Eq) (rEqD X.K):=by intro j s k H x y v u Q I e f h;obtain⟨d,a,b,c,g,q⟩:=h;exact I.rcD X.A d a x y v u b c e f 'D' _ _ _ _ (uB I q rfl)
def op_neD(i:X.A.units+40<cLine):OpR X (cZ .NotEq) (rNeD X.K):=by intro j s k H x y v u Q I e f h;obtain⟨d,a,b,c,g,q⟩:=h;exact I.rcNeD X.A d a x y v u b c e f 'D' _ _ _ _ (uB I q rfl)
end
end L2
namespace Q
open PySem.W
abbrev run{α:Type}(lt:Nat->Nat->Bool):KasT α->α
 |.ret a=>a
 |.ask i j k=>run lt (k (lt i j))
theorem run_bind{b c:Type}(lt:Nat->Nat->Bool)(f:b->KasT c):∀t:KasT b,run lt (t.bind f)=run lt (f (run lt t))
 |.ret a=>rfl
 |.ask i j k=>run_bind lt f (k (lt i j))
abbrev okT{α:Type}(lt:Nat->Nat->Bool)(n:Nat):KasT α->Prop
 |.ret _=>True
 |.ask i j k=>(i<n/\j<n/\i≠j)/\okT lt n (k (lt i j))
theorem pG{b c:Type}{lt:Nat->Nat->Bool}{f:b->KasT c}:∀{t:KasT b},okT lt n t->okT lt n (f (run lt t))->okT lt n (t.bind f)
 |.ret a,_,h=>h
 |.ask i j k,h,h'=>(h.1,pG h.2 h',)
structure Tot(lt:Nat->Nat->Bool)(n:Nat):Prop where
 tri:∀i j,i<n->j<n->i≠j->lt i j= !lt j i
 tr:∀i j k,i<n->j<n->k<n->lt i j=true->lt j k=true->lt i k=true
noncomputable abbrev at'(p:Array Nat)(i:Nat):Nat:=p.getD i 0
def Ip(p:Array Nat)(i:Nat):at' p i=(p[i]?).getD 0:=by simp[at',Array.getD_eq_getD_getElem?]
structure Pm(p:Array Nat)(n:Nat):Prop where
 perm:p.Perm (aC n).toArray
theorem Pm.size{p:Array Nat}(h:Pm p n):p.size=n:=by rw[h.perm.size_eq];simp
def Pm.lt{p:Array Nat}(h:Pm p n)(hi:i<n):at' p i<n:=by
 have a:i<p.size:=by rw[h.size];exact hi
 have e:at' p i=p[i]:=by simp[at',a]
 have m:p[i]∈(aC n).toArray:=h.perm.mem_iff.mp (Array.getElem_mem a);rw[e];simpa using m
def Pm.inj{p:Array Nat}(h:Pm p n)(hi:i<n)(f:j<n)(e:at' p i=at' p j):i=j:=by
 have a:i<p.size:=by rw[h.size];exact hi
 have b:j<p.size:=by rw[h.size];exact f
 have g:p.toList.Nodup:=by
  have q:p.toList.Perm (aC n):=by simpa using gU.mp h.perm
  exact q.nodup_iff.mpr List.nodup_range
 have c:at' p i=p.toList[i]'(by simpa using a):=by simp[at',a]
 have d:at' p j=p.toList[j]'(by simpa using b):=by simp[at',b]
 rw[c,d]at e;exact(fV g).mp e
def Oo{p:Array Nat}(a:j<=p.size)(k:Nat):at' (B9 p i j) k=if i<=k/\k<j then at' p (i+j-1-k)else at' p k:=by rw[Ip];unfold B9;rw[getElem?_mirror_all a];split <;>rw[Ip]
def Oq{p:Array Nat}{a d:Nat}(hs:a<p.size)(b:d<=a)(k:Nat):at' (bubble p a d) k=if k=a-d then at' p a else if a-d<k/\k<=a then at' p (k-1)else at' p k:=by
 rw[Ip,getElem?_bubble hs d b];split;·simp[at',hs]
 .split <;>rw[Ip]
def Pm.rev{p:Array Nat}(h:Pm p n):Pm (B9 p i j) n:=⟨(mirror_perm _ _ _ _).trans h.perm⟩
def Pm.bub{p:Array Nat}(h:Pm p n):Pm (bubble p i j) n:=⟨(bubble_perm _ _ _).trans h.perm⟩
def Up(lt:Nat->Nat->Bool)(p:Array Nat)(m:Nat):Prop:=∀i j,i<j->j<m->lt (at' p i) (at' p j)=true
def Dn(lt:Nat->Nat->Bool)(p:Array Nat)(m:Nat):Prop:=∀i j,i<j->j<m->lt (at' p j) (at' p i)=true
section
variable {lt:Nat->Nat->Bool}{N:Nat}{p:Array Nat}
theorem Tot.flip(T:Tot lt N)(P:Pm p N)(hi:i<N)(a:j<N)(n:i≠j)(h:lt (at' p i) (at' p j)=false):lt (at' p j) (at' p i)=true:=by have q:=T.tri _ _ (P.lt hi) (P.lt a) λe=>n (P.inj hi a e);rw[h]at q;simpa using q.symm
theorem Pm.ask{p:Array Nat}(P:Pm p N)(hi:i<N)(a:j<N)(n:i≠j):at' p i<N/\at' p j<N/\at' p i≠at' p j:=(P.lt hi,P.lt a,λe=>n (P.inj hi a e),)
theorem Up.succ(T:Tot lt N)(P:Pm p N)(c:1<=n)(b:n<N)(u:Up lt p n)(h:lt (at' p (n-1)) (at' p n)=true):Up lt p (n+1):=by
 intro i j a d;by_cases e:j=n
 .subst e;by_cases e2:i=j-1;·subst e2;exact h
  .exact T.tr _ _ _ (P.lt 'D') (P.lt 'D') (P.lt b) (u i (j-1) 'D' 'D') h
 .exact u i j a 'D'
theorem Dn.succ(T:Tot lt N)(P:Pm p N)(c:1<=n)(b:n<N)(u:Dn lt p n)(h:lt (at' p n) (at' p (n-1))=true):Dn lt p (n+1):=by
 intro i j a d;by_cases e:j=n
 .subst e;by_cases e2:i=j-1;·subst e2;exact h
  .exact T.tr _ _ _ (P.lt b) (P.lt 'D') (P.lt 'D') h (u i (j-1) 'D' 'D')
 .exact u i j a 'D'
theorem A3(T:Tot lt N)(P:Pm p N):∀(f n:Nat),1<=n->n+f<=N->Up lt p n->∃m,run lt (kas_asc p f n)=m/\n<=m/\m<=n+f/\Up lt p m/\(m=n+f\/lt (at' p m) (at' p (m-1))=true)/\okT lt N (kas_asc p f n)
 | 0,n,h1,h2,u=>(n,rfl,ay _,ay _,u,.inl rfl,trivial,)
 |f+1,n,h1,h2,u=>by
  unfold kas_asc;have a:=P.ask (i:=n) (j:=n-1) 'D' 'D' 'D';simp only[run,okT];by_cases c:lt (at' p n) (at' p (n-1))=true;·rw[if_pos c];exact(n,rfl,ay _,'D',u,.inr c,a,trivial,)
  .rw[if_neg c];have h:lt (at' p n) (at' p (n-1))=false:=by simpa using c
   obtain⟨m,e,k,l,b,d,g⟩:=A3 T P f (n+1) 'D' 'D' (u.succ T P h1 'D' (T.flip P 'D' 'D' 'D' h));refine(m,e,'D','D',b,?_,a,g,);rcases d with z|z;·exact .inl 'D'
   .exact .inr z
theorem CZ(T:Tot lt N)(P:Pm p N):∀(f n:Nat),1<=n->n+f<=N->Dn lt p n->∃m,run lt (kas_desc f p n 0)=(p,m,0)/\n<=m/\m<=n+f/\Dn lt p m/\okT lt N (kas_desc f p n 0)
 | 0,n,h1,h2,u=>(n,rfl,ay _,ay _,u,trivial,)
 |f+1,n,h1,h2,u=>by
  unfold kas_desc;have a:=P.ask (i:=n) (j:=n-1) 'D' 'D' 'D';have k:=P.ask (i:=n-1) (j:=n) 'D' 'D' 'D';simp only[run,okT];by_cases c:lt (at' p n) (at' p (n-1))=true;·rw[if_pos c,if_neg (eL 0)];obtain⟨m,e,l,o,b,g⟩:=CZ T P f (n+1) 'D' 'D' (u.succ T P h1 'D' c);exact(m,e,'D','D',b,a,g,)
  .rw[if_neg c];have h:lt (at' p n) (at' p (n-1))=false:=by simpa using c
   have d:=T.flip P 'D' 'D' 'D' h;simp only[run,okT];rw[if_pos d];exact(n,rfl,ay _,'D',u,a,k,trivial,)
theorem LL(T:Tot lt N)(P:Pm p N)(d:1<=n)(a:n<=N)(u:Dn lt p n):∃m p',run lt (kas_tail3 n N p)=(m,p')/\1<=m/\m<=N/\Up lt p' m/\Pm p' N/\okT lt N (kas_tail3 n N p):=by
 have g:Up lt (B9 p 0 n) n:=by intro i j l f;rw[Oo (by rw[P.size];exact a),Oo (by rw[P.size];exact a),if_pos (a7 _,'D',),if_pos (a7 _,f,)];exact u _ _ 'D' 'D'
 obtain⟨m,e,h,k,b,_,c⟩:=A3 T P.rev (N-n) n d 'D' g;unfold kas_tail3;refine(m,B9 p 0 n,?_,'D','D',b,P.rev,pG c trivial,);rw[run_bind,e];rfl
def A2(T:Tot lt N)(P:Pm p N)(q:n+1<=N)(u:Dn lt p (n+1)):∃m p',run lt (kh n N p)=(m,p')/\1<=m/\m<=N/\Up lt p' m/\Pm p' N/\okT lt N (kh n N p):=by
 obtain⟨m,e,l,o,a,b⟩:=CZ T P (N-(n+1)) (n+1) 'D' 'D' u;obtain⟨j,k,c,d,f,g,h,i⟩:=LL T P 'D' 'D' a;unfold kh;refine(j,k,?_,d,f,g,h,pG b ?_,);·rw[run_bind,e];exact c
 .rw[e];exact i
theorem Jb(T:Tot lt N)(P:Pm p N)(w:1<=N):∃m p',run lt (kas_count N p)=(m,p')/\1<=m/\m<=N/\Up lt p' m/\Pm p' N/\okT lt N (kas_count N p):=by
 obtain⟨m,e,f,v,b,g,h⟩:=A3 T P (N-1) 1 (ay _) 'D' (λi j s t=>by lia);have u:∃a p',run lt (if(m==N)=true then wt (m,p)else if m>1 then KasT.ask (p.getD 0 0) (p.getD (m-1) 0) λc=>if c=true then wt (m,p)else kh m N (B9 p 0 m)else kh m N p)=(a,p')/\1<=a/\a<=N/\Up lt p' a/\Pm p' N/\
   okT lt N (if(m==N)=true then wt (m,p)else if m>1 then KasT.ask (p.getD 0 0) (p.getD (m-1) 0) λc=>if c=true then wt (m,p)else kh m N (B9 p 0 m)else kh m N p):=by
  by_cases c:m=N;·rw[if_pos ↥c];exact(m,p,rfl,f,'D',b,P,trivial,)
  .rw[if_neg ↥c];by_cases d:m>1;·rw[if_pos d];simp only[run,okT];rw[if_pos (b 0 (m-1) 'D' 'D')];exact(m,p,rfl,f,'D',b,P,P.ask 'D' 'D' 'D',trivial,)
   .rw[if_neg d];obtain rfl:m=1:=by lia
    rcases g with z|z;·lia
    .exact A2 T P 'D' λi j s t=>by
      obtain rfl:j=1:=by lia
      obtain rfl:i=0:=by lia
      exact z
 obtain⟨a,p',k,l,n,o,q,r⟩:=u;unfold kas_count;refine(a,p',?_,l,n,o,q,pG h ?_,);·rw[run_bind,e];exact k
 .rw[e];exact r
theorem ue(T:Tot lt N)(P:Pm p N)(g:k<N)(u:Up lt p k):∀(f l r:Nat),l<=r->r<=k->r-l<=f->(∀i,i<l->lt (at' p i) (at' p k)=true)->(∀i,r<=i->i<k->lt (at' p k) (at' p i)=true)->
  ∃q,run lt (kas_place p k f l r)=q/\q<=k/\(∀i,i<q->lt (at' p i) (at' p k)=true)/\(∀i,q<=i->i<k->lt (at' p k) (at' p i)=true)/\okT lt N (kas_place p k f l r)
 | 0,l,r,h1,h2,h3,a,b=>(l,rfl,'D',a,λi hi=>b i 'D',trivial,)
 |f+1,l,r,h1,h2,h3,a,b=>by
  unfold kas_place;by_cases c:l≥ r;·rw[if_pos c];exact(l,rfl,'D',a,λi hi=>b i 'D',trivial,)
  .rw[if_neg c];have w:=P.ask (i:=k) (j:=(l+r)/2) g 'D' 'D';simp only[run,okT];by_cases d:lt (at' p k) (at' p ((l+r)/2))=true
   .rw[if_pos d];have h:=ue T P g u f l ((l+r)/2) 'D' 'D' 'D' a λi hi x=>?_;obtain⟨q,m,n,o,s,t⟩:=h;exact(q,m,n,o,s,w,t,);by_cases e:i=(l+r)/2;·rw[e];exact d
    .exact T.tr _ _ _ (P.lt g) (P.lt 'D') (P.lt 'D') d (u _ _ 'D' x)
   .rw[if_neg d];have v:=T.flip P g (by lia:(l+r)/2<N) 'D' ↥d;have h:=ue T P g u f ((l+r)/2+1) r 'D' h2 'D' (λi hi=>?_) b;obtain⟨q,m,n,o,s,t⟩:=h;exact(q,m,n,o,s,w,t,);by_cases e:i=(l+r)/2;·rw[e];exact v
    .exact T.tr _ _ _ (P.lt 'D') (P.lt 'D') (P.lt g) (u _ _ 'D' 'D') v
end
theorem Ha{lt:Nat->Nat->Bool}{N:Nat}(T:Tot lt N):∀(f k:Nat)(p:Array Nat),Pm p N->k+f=N->Up lt p k->∃p',run lt (kas_bin f p k)=p'/\Up lt p' N/\Pm p' N/\okT lt N (kas_bin f p k)
 | 0,k,p,P,h,u=>(p,rfl,by rw[<-h];exact u,P,trivial,)
 |f+1,k,p,P,h,u=>by
  have c:k<N:=by lia
  obtain⟨q,e,hq,a,b,m⟩:=ue T P c u k 0 k (a7 _) (ay _) 'D' (λi hi=>absurd hi (fG _)) λi t v=>by lia
  have l:=Ha T f (k+1) (bubble p k (k-q)) P.bub 'D' λi j w x=>?_;obtain⟨p',n,o,r,s⟩:=l;unfold kas_bin;refine(p',?_,o,r,pG m ?_,);·rw[run_bind,e];exact n
  .rw[e];exact s
  have d:k<p.size:=by rw[P.size];exact c
  rw[Oq d 'D',Oq d 'D'];have g:k-(k-q)=q:=by lia
  rw[g];by_cases c1:i=q;·rw[if_pos c1,if_neg 'D',if_pos 'D'];exact b _ 'D' 'D'
  .rw[if_neg c1];by_cases c2:j=q;·rw[if_pos c2,if_neg 'D'];exact a i 'D'
   .rw[if_neg c2];by_cases c3:q<i;·rw[if_pos 'D',if_pos 'D'];exact u _ _ 'D' 'D'
    .rw[if_neg 'D'];by_cases c4:q<j;·rw[if_pos 'D'];exact u _ _ 'D' 'D'
     .rw[if_neg 'D'];exact u _ _ 'D' 'D'
def gA{lt:Nat->Nat->Bool}{N:Nat}(T:Tot lt N)(p:1<=N):Pm (run lt (dX N)) N/\Up lt (run lt (dX N)) N/\okT lt N (dX N):=by
 have g:Pm (eI (aC N)) N:=⟨Array.Perm.refl _⟩;obtain⟨m,a,e,s,t,d,f,h⟩:=Jb T g p;have q:max m 1=m:=by lia
 have r:∃b,run lt (if m<N then kas_bin (N-max m 1) a (max m 1)else wt a)=b/\Up lt b N/\Pm b N/\okT lt N (if m<N then kas_bin (N-max m 1) a (max m 1)else wt a):=by
  rw[q];by_cases c:m<N;·rw[if_pos c];exact Ha T (N-m) m a f 'D' d
  .rw[if_neg c];have n:m=N:=by lia
   exact(a,rfl,by rw[<-n];exact d,f,trivial,)
 obtain⟨b,i,j,k,l⟩:=r;have o:run lt (dX N)=b:=by unfold dX;rw[run_bind,e];exact i
 rw[o];refine(k,j,?_,);unfold dX;refine pG h ?_;rw[e];exact l
theorem wp_run{lt:Nat->Nat->Bool}{N:Nat}{S:Shared->Prop}{b:Nat->Nat->(Bool->Shared->Prop)->Shared->Prop}{c:Type}{G:c->Shared->Prop}
  (h:∀i j C s,i<N->j<N->i≠j->S s->(∀s',S s'->C (lt i j) s')->b i j C s):
  ∀(t:KasT c)(s:Shared),okT lt N t->S s->(∀s',S s'->G (run lt t) s')->t.kasWp b G s
 |.ret a,s,_,hs,g=>g s hs
 |.ask i j k,s,ok,hs,g=>h i j _ s ok.1.1 ok.1.2.1 ok.1.2.2 hs λs' d=>wp_run h (k (lt i j)) s' ok.2 d g
end Q
namespace L2
structure Fly(h₀ h:Heap)(H:Hp)(pn:List (Addr×Obj))(a:Addr)(c:Value)(d:Option Addr):Prop where
 ex:∃T oe vs oT ts,h.get? a<*oe/\oe.cls=c/\oe.dict=d/\oe.data=.fields vs/\vs[1]?<*(.ref T)/\T≠a/\h.get? T<*oT/\oT.data=.fields ts/\ts[3]?<*.none/\h₀.get? T=none/\H T=none/\∀p∈pn,p.1≠T
 new:h₀.get? a=none
 un:H a=none
 pins:∀p∈pn,p.1≠a
def CXx(P:Program)(w:World):CXT:=λb H s E e s'=>
 ∃a c d H',e=.ref a/\s'.os=s.os/\pW s'.gens/\Un (frs b) [] H H' s.heap s'.heap/\HOk P w H' s'.heap/\Fly s.heap s'.heap H' [] a c d/\E c d H'
section
variable {pins:List (Addr×Obj)}{s:Shared}
def Inv.vN(I:'A')(k:∀b o,b≠it->s.heap.get? b<*o->h'.get? b<*o)(M:H it=none)(J:it≠X.env.locals)
  (F:X.s₀.heap.get? it=none)(t:∀x c,X.env.cells.lookup x<*c->c≠it)(G:∀p∈X.pn++pins,p.1≠it):Inv X pins σ H {s with heap:=h',toks:=t'}:=by
 have h:∀b o,X.s₀.heap.get? b<*o->b≠it:=λb o e z=>by rw[z,F]at e;cases e
 have y:∀b u,H b<*u->b≠it:=λb u e z=>by rw[z,M]at e;cases e
 refine(I.ok,I.os,I.bare,(λb o e n g a=>k b o (h b o e) (I.base.keep b o e n g a),λb o e n g a=>?_,I.base.free,λb o e a=>?_,I.base.tups,I.base.frzs,I.base.tbls,),?_,λx c e=>?_,I.free,I.freeC,λp w=>?_,λb u e=>?_,I.len,);·obtain⟨S,q⟩:=I.base.slot b o e n g a;exact(S,k _ _ (h b o e) q,)
 .obtain⟨Q,q⟩:=I.base.there b o e a;exact(Q,k _ _ (h b o e) q,)
 .obtain⟨m,⟨o,E,D,N,r⟩,L⟩:=I.loc;refine(m,(o,E,D,k _ _ (bK J) N,r,),λi x v A B C=>?_,);obtain⟨u,R,l⟩:=L i x v A B C;refine(u,R,?_,);rcases l with l|⟨O,c,e,j,q,f⟩;·exact .inl l
  .exact .inr (O,c,e,j,k _ _ (t x c e) q,f,)
 .obtain⟨v,j,q,f⟩:=I.cell x c e;exact(v,j,k _ _ (t x c e) q,f,)
 .obtain⟨e,n,ne,P,d⟩:=I.pin p w;exact(k _ _ (G p w) e,n,ne,P,d,)
 .refine(I.hok b u e).ub (λc v K q=>k c v ?_ q) (λ_ q=>q) λ_ _ q=>q;rcases K with z|z;·rw[z];exact y b u e
  .exact y c _ z
def Inv.w8(I:'A'){o:Obj}{vs:Array Value}(e:s.heap.get? a<*o)(f:o.data=.fields vs):a≠X.env.locals/\∀x c,X.env.cells.lookup x<*c->c≠a:=by
 refine(λz=>?_,λx c g z=>?_,);·obtain⟨m,⟨h,j,i,d,b,_⟩,_⟩:=I.loc;rw[<-z,e]at d;cases d;rw[f]at b;cases b
 .obtain⟨v,h,d,b⟩:=I.cell x c g;rw[z,e]at d;cases d;rw[f]at b;cases b
def dA.has{o:HO}(x:dA P w H h a o):∃b,h.get? a<*b:=by
 cases o with
 |lst xs=>obtain⟨_,_,_,_,e⟩:=x;exact(_,e,)
 |tup xs=>obtain⟨_,_,_,_,e,_⟩:=x;exact(_,e,)
 |dK kvs=>obtain⟨_,_,_,_,o,_,_,e,_⟩:=x;exact(_,e,)
 |dT kvs=>obtain⟨_,_,_,_,o,_,_,e,_⟩:=x;exact(_,e,)
 |set S n=>obtain⟨o,_,_,_,e,_⟩:=x;exact(_,e,)
 |ins C dx fs=>obtain⟨_,_,_,e,_⟩:=x;exact(_,e,)
 |own y=>exact x
 |xd fs=>obtain⟨_,⟨_,_,_,e,_⟩,_⟩:=x;exact(_,e,)
 |rng lo hi=>obtain⟨_,_,_,e⟩:=x;exact(_,e,)
 |frz b u=>obtain⟨e,_⟩:=x;exact(_,e,)
 |tbl ps=>exact(_,x,)
 |met f y=>exact(_,x,)
 |ext φ=>exact x.2.1
section
variable {M:Model}{E:'I'}{Q:Unit->Shared->Prop}
def enter{g:Obj}{vs:Array Value}{r:Value}{more:Bool}(I:'A')(v:X.stack=X.env::X.outer)(hf:X.env.frame<*X.env.locals)
  (B:s.heap.get? a<*g)(m:g.data=.fields vs)(T:1<vs.size)(h0:X.s₀.heap.get? a=none)(D:H a=none)(P:∀p∈X.pn++pins,p.1≠a)
  (h:∀s2,Inv X pins σ H s2->Fly X.s₀.heap s2.heap H (X.pn++pins) a g.cls g.dict->Q () s2):
  wpAny M X.A (do let f<-frameOf X.env;let l<-entryPlaceOf X.env.locals more;let b<-EA r f .none (rawInt X.env.locals) .none l;vJ (.ref a) 1 b)
   (λ_ s'=>wpAny M X.A (Er (.ref a) none) Q E s') E s:=by
 have a3:X.A.frames<*(X.env::X.outer):=by rw[<-v];exact I.ok.frames
 have N:s.heap.FunFrames X.base (X.env::X.outer):=by rw[<-v];exact I.stack
 have nofr:∀b∈frs X.stack,H b=none:=I.AL;refine aa (wpAny_frameOf_fun a3 N hf λd S=>?_);have k:Heap.SlotsOnly (frs X.stack) s.heap d:=by rw[v];exact S
 have a2:a∉frs X.stack:=λt=>by rw[v]at t;obtain⟨_,o,O,a4⟩:=N.mem t;rw[B]at O;cases O;exact a4 vs m
 have u1:Un (frs X.stack) [] H H s.heap d:=
  ⟨λb o e _ j _=>(k.2.1 b j).trans e,λb o e _ _ _=>k.2.2 b o e,λ_ _ _ n _=>n,λb o e _=>let⟨sl,q⟩:=k.2.2 b o e;(_,q,),λ_ _ q=>q,λ_ _ _ q=>q,λ_ ps q=>⟨#[],by rw[q];simp⟩⟩
 have k1:HOk X.prog X.w H d:=λb b2 e=>by
  refine(I.hok b b2 e).ub (λc b4 hc q=>(k.2.1 c λt=>?_).trans q) (λ_ q=>q) λ_ _ q=>q;have n:=nofr c t;rcases hc with z|z;·rw[z,e]at n;cases n
  .rw[z]at n;cases n
 have W:Inv X pins σ H {s with heap:=d}:=I.call (g':=s.gens) (t':=s.toks) (d':=s.drawn) (ch:=[]) u1 k1 I.bare λ_ z=>nomatch z;have J:d.get? a<*g:=(k.2.1 a a2).trans B;refine aa (wpAny_entryPlaceOf λi a6=>?_);unfold EA newFields;refine aa (cm ?_ (a6.sizeOk5 _ _ _ _ _));generalize hob:({cls:=.type "traceback",dict:=none,data:=.fields ([r,.ref X.env.locals,.none,rawInt X.env.locals,.none]++(if i.isEmpty then a8 6 bO else i)).toArray}:Obj)=ob;have u:ob.data=.fields ([r,.ref X.env.locals,.none,rawInt X.env.locals,.none]++(if i.isEmpty then a8 6 bO else i)).toArray:=by rw[<-hob]
 have a5:ob.isFreed=false:=by rw[<-hob];rfl
 have Y:Inv X pins σ H {s with heap:=d.push ob}:=W.kept (t':=s.toks) λb o e=>af _ e;have K:(d.push ob).get? a<*g:=af _ J;have a1:(d.push ob).get? d.objs.size<*ob:=av _ a5;have x:d.objs.size≠a:=dQ (aw J);have A:=fw m (·.setIfInBounds 1 (bD d.objs.size));refine vI K m T ?_;obtain⟨a7,a9⟩:=I.w8 B m;have C:Inv X pins σ H {s with heap:=(d.push ob).update a (fN (·.setIfInBounds 1 (.ref d.objs.size)))}:=
  Y.vN (t':=s.toks) (λb o j e=>by rw[aP _ _ (bK j)];exact e) D a7 h0 a9 P
 have L:=bW (fN (·.setIfInBounds 1 (bD d.objs.size))) K (jX A);have w:((d.push ob).update a (fN (·.setIfInBounds 1 (bD d.objs.size)))).get? d.objs.size<*ob:=by rw[aP _ _ (bK x)];exact a1
 have U:3<([r,.ref X.env.locals,.none,rawInt X.env.locals,.none]++(if i.isEmpty then a8 6 bO else i)).toArray.size:=by simp only[aE,bu,aU,gy];lia
 have V:(vs.setIfInBounds 1 (bD d.objs.size))[1]?<*(.ref d.objs.size):=by simp[T]
 refine wpAny_setFlight_none L A V w u U ?_;have y:⇑s<=d.objs.size:=Kq S.1.symm;have F:X.s₀.heap.get? d.objs.size=none:=rp (aO I.sz y);have G:H d.objs.size=none:=I.hok.fresh y;obtain⟨b0,b1⟩:=C.w8 w u;have R:∀p∈X.pn++pins,p.1≠d.objs.size:=λp hq z=>by have q:=aw (I.pin p hq).1;exact absurd (aZ (z▸q) y) (eL _)
 have Z:=C.vN (t':=s.toks) (h':=((d.push ob).update a (fN (·.setIfInBounds 1 (.ref d.objs.size)))).update d.objs.size (fN (·.setIfInBounds 3 .none)))
  (λb o j e=>by rw[aP _ _ (bK j)];exact e) G b0 F b1 R
 refine h _ Z ((d.objs.size,_,_,_,_,?_,Obj.cls_mapFields _ _,?_,A,V,x,bW _ w (jX (fw u _)),fw u _,?_,F,G,R,),h0,D,P,);·show(Heap.update _ _ _).get? a=_;rw[aP _ _ x];exact L
 .obtain⟨c',d',a0,b3⟩:=g;cases a0<;>rfl
 .rw[qF U]
def Dp{c:Value}(I:'A')(l:X.stack=X.env::X.outer)(hf:X.env.frame<*X.env.locals)(k:X.ex=[])(b:rq s.heap h' a c args)
  (h:∀s2,Inv X pins σ H s2->Fly X.s₀.heap s2.heap H (X.pn++pins) a c none->Q () s2):
  wpAny M X.A (nI (.ref a) X.env) (λ_ s'=>wpAny M X.A (Er (.ref a) none) Q E s') E {s with heap:=h'}:=by
 obtain⟨t,d,_,_⟩:=b.there;have f:Inv X pins σ H {s with heap:=h'}:=I.kept (t':=s.toks) b.keeps;have i:H a=none:=by
  cases q:H a with
  |none=>rfl
  |some o=>obtain⟨n,e⟩:=(I.hok a o q).has;rw[b.new]at e;cases e
 unfold nI;simp only[hf];refine aa (dq (x:=.none) d rfl (by rfl) ?_);rw[if_neg (show ¬(bO != bO)=true by simp)];have g:X.s₀.heap.get? a=none:=by
  cases q:X.s₀.heap.get? a with
  |none=>rfl
  |some o=>obtain⟨m,e⟩:=I.base.there a o q (by rw[k];simp);rw[b.new]at e;cases e
 exact enter f l hf d rfl 'F' g i (λp j z=>by have :=(I.pin p j).1;rw[z,b.new]at this;cases this) h
def Dq{c:Value}(I:'A')(R:X.stack=X.env::X.outer)(hf:X.env.frame<*X.env.locals)(L:X.ex=[])(J:s'.os=s.os)(G:pW s'.gens)(u:Un (frs X.stack) [] H H' s.heap s'.heap)(ok:HOk X.prog X.w H' s'.heap)
  (F:Fly s.heap s'.heap H' [] a c d)(h:∀s2,Inv X pins σ H' s2->Fly X.s₀.heap s2.heap H' (X.pn++pins) a c d->Q () s2):
  wpAny M X.A (nI (.ref a) X.env) (λ_ s'=>wpAny M X.A (Er (.ref a) none) Q E s') E s':=by
 obtain⟨⟨T,N,W,U,V,r,rfl,rfl,m,k,B,f,g,l,t,y,_⟩,v,A,_⟩:=F;have i:Inv X pins σ H' s':=I.call' (ch:=[]) J u ok G λ_ z=>nomatch z;have j:∀b,s.heap.get? b=none->X.s₀.heap.get? b=none:=λb n=>by
  cases q:X.s₀.heap.get? b with
  |none=>rfl
  |some o=>obtain⟨S,e⟩:=I.base.there b o q (by rw[L];simp);rw[n]at e;cases e
 have w:∀b,s.heap.get? b=none->∀p∈X.pn++pins,p.1≠b:=λb n p K z=>by have :=(I.pin p K).1;rw[z,n]at this;cases this
 unfold nI;simp only[hf];refine aa (dq r m k ?_);rw[if_pos (show(bD T != bO)=true by simp)];refine aa (dq f g l ?_);rw[if_neg (show ¬(bO==rawInt X.env.locals)=true by simp[rawInt])];refine aa (vI f g (cK.mp l).1 ?_);obtain⟨O,P⟩:=i.w8 f g;have x:=i.vN (t':=s'.toks) (h':=s'.heap.update T (fN (·.setIfInBounds 3 .none))) (λb o C e=>by rw[aP _ _ (bK C)];exact e) y O (j T t) P (w T t);have D:(s'.heap.update T (fN (·.setIfInBounds 3 .none))).get? a<*N:=by rw[aP _ _ B];exact r
 exact enter x R hf D m (cK.mp k).1 (j a v) A (w a v) h
end
end
end L2
namespace L2
open PySem.W
abbrev nu(K:ah)(C:Addr):Bool:=
 findIn K (.ref C) "__getattribute__"==some (some (.builtin "BaseException.__getattribute__"))&&findIn K (.ref C) "__getattr__"==some none&&
 findIn K (.ref C) "__class__"==some (some (.builtin "object.__class__"))&&specialIn K (.builtin "object.__class__") "__get__"==some (some (.builtin "getset_descriptor.__get__"))&&
 takesIn K (.builtin "object.__class__")==some true&&mroIn K C (.type "object")==some true&&mroIn K C (.type "BaseException")==some true&&(clsIn K C).isSome
structure yH(K:ah)(C:Addr):Prop where
 ga:findIn K (.ref C) "__getattribute__"<*(some (.builtin "BaseException.__getattribute__"))
 hook:findIn K (.ref C) "__getattr__"<*none
 cl:findIn K (.ref C) "__class__"<*(some (.builtin "object.__class__"))
 get:specialIn K (.builtin "object.__class__") "__get__"<*(some (.builtin "getset_descriptor.__get__"))
 tk:takesIn K (.builtin "object.__class__")<*true
 obj:mroIn K C (.type "object")<*true
 bex:mroIn K C (.type "BaseException")<*true
 isc:(clsIn K C).isSome=true
def DV(h:nu K C=true):yH K C:=by unfold nu at h;simp only[az,beq_iff_eq]at h;obtain⟨⟨⟨⟨⟨⟨⟨a,b⟩,c⟩,d⟩,e⟩,f⟩,g⟩,i⟩:=h;exact(a,b,c,d,e,f,g,i,)
def E5:splitId "BaseException.__getattribute__"<*("BaseException","__getattribute__"):=by decide+kernel
def Jz:builtinKind "BaseException.__getattribute__"<*.slot:=by decide+kernel
def ga_ne:(iJ "BaseException.__getattribute__"==iJ "object.__getattribute__")=false:=by decide+kernel
section
variable {E:'I'}{s:Shared}{a C:Addr}{o:Obj}{od:Option Obj}
def yD{M:Model}{b:Value}{Q:Unit->Shared->Prop}{g:Array lW}{d:Drawn}{t:Nat}{c:OsState}(e:K.In h)(J:InstAt h a o C od)(F:yH K C)(hq:Q () (h,g,d,t,c,)):
  wpAny M A (rh "BaseException.__getattribute__" ([.ref a,b],[],)) Q E (h,g,d,t,c,):=by
 have f:=J.type (M:=M);have i:=looks_mroIn (M:=M) e F.bex;have j:=PySem.F.args_bexc_ga (.ref a) b;simp only[rh,Jz,E5];unfold Kj;repeat(first |lk|wp_step)
 exact hq
def J0{tk:Tok}{R:Result->Shared->Prop}(b:K.In s.heap)(J:InstAt s.heap a o C od)(F:yH K C)(h:R (.ok (.ret (.ref C))) s):
  gK (model prog w) A (.call (.builtin "BaseException.__getattribute__") ([.ref a,.str "__class__" tk],[],)) R s:=by
 have hf:wj K C od "__class__"<*(.bind (.builtin "getset_descriptor.__get__") (.builtin "object.__class__")):=by obtain⟨cd,c⟩:=cA.mp F.isc;unfold wj;rw[c,fP,F.cl,fP];simp[F.get,F.tk]
 obtain⟨e,g,d,t,f⟩:=s;have i:=J.type (M:=model prog w);have j:=looks_find (M:=model prog w) b J hf;refine iH gv.ga.plain EH (yD b J F ?_);unfold Builtin.«object.__getattribute__»;repeat(first |with_reducible refine iF ?_ |lk|wp_step)
 refine class_get (s:=(e,g,d,t,f,)) b J F.obj ?_;repeat(first |lk|wp_step)
 exact h
def JI{Q:Option Value->Shared->Prop}(b:K.In s.heap)(J:InstAt s.heap a o C od)(F:yH K C)(h:Q (some (.ref C)) {s with toks:=s.toks+1}):
  'B' (getAttr? (.ref a) "__class__") Q E s:=by
 obtain⟨j,g,d,t,k⟩:=s;have c:=J.type (M:=model prog w);have e:=tL (M:=model prog w) b F.ga;have f:=tL (M:=model prog w) b F.hook;have hf:wj K C od "__class__"<*(.bind (.builtin "getset_descriptor.__get__") (.builtin "object.__class__")):=by obtain⟨cd,i⟩:=cA.mp F.isc;unfold wj;rw[i,fP,F.cl,fP];simp[F.get,F.tk]
 have l:=looks_find (M:=model prog w) b J hf;have m:=looks_mroIn (M:=model prog w) b F.bex;unfold getAttr? getAttrBy? getAttrBy;refine aa (wpAny_mkText (aa (fX (bY (aa (c.at (aa (e.at ?_))))))));show wpAny _ _ (if(Es (.ref C)&&(iJ "BaseException.__getattribute__"==iJ "object.__getattribute__"))=true then _ else _) _ _ _;rw[ga_ne,dP,if_neg ao];unfold getAttrByItsOwn hookBefore;rw[if_pos (show Es (.ref C)=true from rfl)];refine aa (f.at ?_);unfold callGetattribute boundAndCalled;rw[cU,if_neg ao];refine aa (fX (bY (aa ?_)));rw[gv.ga.bind (.ref a)];refine aj (iF (J0 (s:=(j,g,d,t+1,k,)) b J F ?_));exact handed_on rfl (aj h)
end
@[reducible]def bmV:List Value:=[.type "ValueError",.type "Exception",.type "BaseException",.type "object"]
abbrev qh(a:Addr)(c:Value)(d:Option Addr):HO:=.ext λh=>∃o,h.get? a<*o/\o.cls=c/\o.dict=d/\notCls o=true
section
variable {a C:Addr}
def Na(F:yH K C):KitX K (.ref a) (.ref C) (λh=>∃o od,InstAt h a o C od) where
 ty:=λM h _ p=>by obtain⟨o,od,J⟩:=p;exact J.type
 it:=λM h c _=>by
  obtain⟨cd,b⟩:=cA.mp F.isc;unfold clsIn at b;split at b;·rename_i ho;intro A Q E s k q;unfold isType loadHead;exact aa (J9 (k _ _ (c _ _ ho)) (aj q))
  .cases b
 ne:=λh e f g n i c d=>by
  obtain⟨cd,b⟩:=cA.mp F.isc;refine wy.mpr λq=>?_;obtain rfl:C=e:=bD.inj (beq_iff_eq.mp q);unfold clsIn at b;split at b;·rename_i ho;have z:=(c _ _ ho).symm.trans d;cases z
  .cases b
 ca:=λc p k=>by obtain⟨o,od,J⟩:=p;exact JI c J F k
def Gb(ok:HOk P w H h)(e:H a<*(qh a (.ref C) d))(i:∀dd,d<*dd->∃k,H dd<*(.ext k)):∃o od,InstAt h a o C od:=by
 obtain⟨⟨o,b,c,f,g⟩,_⟩:=ok a _ e;cases d with
 |none=>exact⟨o,none,b,c,g,by rw[f];exact True.intro⟩
 |some dd=>obtain⟨u,j⟩:=i dd rfl;obtain⟨od,z⟩:=(ok dd _ j).2.1;exact⟨o,some od,b,c,g,by rw[f];exact z⟩
end
section
def exc_obj{newId:String}(a:K.In h)(q:excIn K C bmB newId=true):
  ∃nm p N bs bm o sn sub ab col dd k0 k1 k2 k3 k5 mN,h.get? C<*(jJ nm p C N bs bm o sn sub ab col dd k0 k1 k2 k3 k5 newId)/\h.Ns N mN/\mN "__init__"=none/\OwnTail h bmB bm:=by
 unfold excIn at q;split at q
 case h_2=>cases q
 rename_i od cd sl ho;split at q
 case h_2=>cases q
 rename_i C' bm j0 j1 j2 j3 n j5 hm hs;rw[az,az,az,az,az,beq_iff_eq,beq_iff_eq,beq_iff_eq]at q;obtain⟨⟨⟨⟨⟨e,f⟩,g⟩,i⟩,b⟩,j⟩:=q;subst e;subst f;obtain⟨r,t,d,u,v,w,x,y,z,s,c⟩:=cd;have k:d=.ref C'::bm:=hm;have l:c=false:=by simpa using g
 have m:sl= #[j0,j1,j2,j3,some (.builtin n),j5]:=by
  apply Cm
  exact hs
 subst k;subst l;subst m;exact(_,_,_,_,_,_,_,_,_,_,_,_,_,_,_,_,_,a _ _ ho,.of_isNs (isNs_of_in a b),nsMap_none_of_in a b j,tail_of_in a i,)
def L6{x:Str}{b:List Expr}{t:TA}{E:St->XK}(y:Gl X x)(F:X.mg x<*(.ref C))(A:keepIn X.K (.ref C)=true)(hq:excIn X.K C bmV "ValueError.__new__"=true)(n:PA X (e::b) t)(p:X.calm=true)(w:(x==("__debug__":Str))=false)
  (K:bf (e::b) X.env=(false,eval e X.env)::bf b X.env)(J:(backTo bn (bf b X.env)).any (·.1)=false)
  (M:∀pins σ H s a c args h','A'->rq s.heap h' a c args->E σ c none H->X.xe (.ref a) {s with heap:=h'}):
  PS X (.Raise (some (.Call (.Name x np) (e::b) [] bn)) none pos) (λD σ H=>t σ H λvs H1=>vs.length<=sizeLine/\E σ (.ref C) none H1):=by
 intro pins s σ H D I h;obtain⟨nm,k,N,bs,bm,j,sn,sub,ab,col,dd,k0,k1,k2,k3,k5,R,l,m,G,T⟩:=exc_obj (bmB:=bmV) I.mod.kin hq;have o:bm.contains (.type "BaseException")=true:=T.hasType (by decide+kernel);rw[arm_exec_Raise];show wpAny _ _ (do Iu pos;raiseStmt X.env (some (do let v<-eval (.Call (.Name x np) (e::b) [] bn) X.env;Iu pos;pure v)) none) _ _ s;refine aa (jo (wpAny_raiseStmt_made_sub (C:=C) (nm:=nm) (q:=k) (N:=N) (bs:=bs) (bm:=bm) (hdct:=j) (sn:=sn) (sub:=sub) (ab:=ab) (col:=col) (dd:=dd) (k0:=k0) (k1:=k1) (k2:=k2) (k3:=k3) (k5:=k5) (newId:="ValueError.__new__") o (I.ok.hd p) (aa (da (Q:=λv d=>∃a u,v=.ref a/\d.heap.get? C<*(jJ nm k C N bs bm j sn sub ab col dd k0 k1 k2 k3 k5 "ValueError.__new__")/\d.heap.get? a<*{cls:=.ref C,data:=.fields #[.ref u,.none,.none,.none,.bool false,.none]}/\X.xe (.ref a) d) (E:=X.xe) ?_ (λv d z=>aa (jo (aj z))) λ_ _ z=>z))));refine fC (mR I y F ?_ w);refine tN (h₀:=X.base) I.ok.mod.kin A (thn (n bn pins s σ H _ I h) λU d ⟨vs,H1,f,r,B,q⟩=>(f.kIn,?_,)) K J;have i:=f.bk _ _ l;obtain⟨P,O,dr,tk,S⟩:=d;refine wpAny_call_exc_subT (hrest:=by rw[Av,<-r.length];exact B) kZ (T.keeps f.bk) i (m.keeps f.bk) G λh' a g=>?_;obtain⟨u,L,_,_⟩:=g.there;exact(a,u,rfl,g.keeps _ _ i,L,M pins σ H1 _ a _ _ h' f g q,)
end
abbrev Cx.re(X:Cx)(A:Around)(calm:Bool)(pn:List (Addr×Obj))(xe:'I'):Cx:={X with A:=A,calm:=calm,pn:=pn,xe:=xe}
section
variable {pins:List (Addr×Obj)}{s:Shared}
theorem Inv.re{calm:Bool}(I:'A')(a:A.frames=X.A.frames)(b:calm=true->A.handled=none)(c:∀p∈pn++pins',p∈X.pn++pins):
  Inv (X.re A calm pn xe) pins' σ H s:=
 ((I.ok.mod,I.ok.kind,I.ok.glob,I.ok.blt,I.ok.above,I.ok.inj,I.ok.has,I.ok.cab,b,a.trans I.ok.frames,I.ok.stk,I.ok.exf,I.ok.bs,I.ok.bsz,I.ok.noex,I.ok.exfs,I.ok.x6,I.ok.frf,),
  I.os,I.bare,I.base,I.loc,I.cell,I.free,I.freeC,λp q=>I.pin p (c p q),I.hok,I.len,)
def Inv.KL{calm:Bool}(ok:X.Ok)(I:Inv (X.re A calm pn xe) pins' σ H s)(a:∀p∈X.pn++pins,p∈pn++pins'):'A':=
 (ok,I.os,I.bare,I.base,I.loc,I.cell,I.free,I.freeC,λp q=>I.pin p (a p q),I.hok,I.len,)
def pJ{M:Model}{n:Str}{Q:Unit->Shared->Prop}(I:'A')(B:X.N.Nodup)(hi:X.N[i]?<*n)(F:X.env.scope.names.lookup n<*.local)
  (h:∀s',Inv X pins (σ.set i none) H s'->Q () s'):wpAny M A (do bindName X.env n .none;unbindBehindTheSuite X.env n pos) Q E s:=by
 obtain⟨m,u,G⟩:=id I.loc;have D:(X.env.scope.kind== .class||(X.env.scope.kind== .module&&X.env.locals != X.env.globals))=false:=by rw[I.ok.kind];rfl
 obtain⟨W,_,_,V,_⟩:=id u;refine wpAny_nameGoes_keeps F u D λU v J a=>h _ ?_;have t:∀b o,X.s₀.heap.get? b<*o->b≠X.env.locals:=λb o e=>aL (aZ (aw e) I.ok.above);refine(I.ok,I.os,I.bare,(λb o e n r l=>(a.2 b (t b o e)).trans (I.base.keep b o e n r l),λb o e n r l=>?_,I.base.free,λb o e l=>?_,I.base.tups,I.base.frzs,I.base.tbls,),(_,J,λj y T f g x=>?_,),λy c e=>?_,I.free,I.freeC,λp K=>?_,λb O e=>?_,↥I.len,);·obtain⟨R,f⟩:=I.base.slot b o e n r l;exact(R,(a.2 b (t b o e)).trans f,)
 .obtain⟨N,f⟩:=I.base.there b o e l;exact(N,(a.2 b (t b o e)).trans f,)
 .by_cases hj:j=i
  .subst hj;rw[List.getElem?_set]at g;split at g;·split at g<;>cases g
   .exact absurd rfl (by assumption)
  .rw[rn (bK hj)]at g;obtain⟨S,P,q⟩:=G j y T f g x;refine(S,P,?_,);rcases q with⟨k,e⟩ |⟨k,c,e,z⟩;·refine .inl (k,?_,);have :y≠n:=λe=>hj (xv B f (e▸hi));simp[this,e]
   .exact .inr (k,c,e,z.sameBut a (I.cne y c e),)
 .obtain⟨w,z⟩:=I.cell y c e;exact(w,z.sameBut a (I.cne y c e),)
 .obtain⟨e,n,ne,L,d⟩:=I.pin p K;exact((a.2 p.1 ne).trans e,n,ne,L,d,)
 .refine(I.hok b O e).ub (λc w C q=>(a.2 c ?_).trans q) (λ_ q=>q) λ_ _ q=>q;have hf:=I.free;rintro rfl;rcases C with z|z;·rw[<-z,hf]at e;cases e
  .rw[hf]at z;cases z
def Inv.take{c:Value}(I:'A')(K:X.ex=[])(F:Fly X.s₀.heap s.heap H (X.pn++pins) a c d):Inv X pins σ (upd H a (qh a c d)) s:=by
 obtain⟨⟨T,l,N,L,M,i,v,w,j,_⟩,y,f,A⟩:=F;obtain⟨D,E⟩:=I.w8 i j;refine(I.ok,I.os,I.bare,(I.base.keep,I.base.slot,λb o e n h=>?_,I.base.there,λb m e=>?_,λb o u e=>?_,λb C e=>?_,),I.loc,I.cell,?_,λx g e=>?_,λp q=>?_,λb u e=>?_,I.len,);·rw[aV (λz=>by rw[z,y]at e;cases e)];exact I.base.free b o e n h
 .have q:=I.base.tups b m e;rw[aV (bL q f)];exact q
 .have q:=I.base.frzs b o u e;rw[aV (bL q f)];exact q
 .obtain⟨more,q⟩:=I.base.tbls b C e;exact⟨more,by rw[aV (bL q f)];exact q⟩
 .rw[aV (bK D)];exact I.free
 .rw[aV (E x g e)];exact I.freeC x g e
 .obtain⟨e,n,ne,B,d⟩:=I.pin p q;exact(e,by rw[aV (A p q)];exact n,ne,B,d,)
 .by_cases h:b=a;·subst h;rw[aq]at e;cases e;refine(⟨l,i,v,w,by unfold notCls;rw[j]⟩,(l,i,),λG J p k=>?_,);obtain⟨o,t,r⟩:=p;exact(o,k o t,r,)
  .rw[aV h]at e;exact(I.hok b u e).ub (λ_ _ _ q=>q) (λg q=>by rw[aV (bL q f)];exact q) λg m q=>by rw[aV (bL q f)];exact q
end
abbrev Ends.drop(D:Ends)(i:Nat):Ends:={nx:=λσ H=>D.nx (σ.set i none) H,rt:=D.rt,bk:=λσ H=>D.bk (σ.set i none) H,ct:=λσ H=>D.ct (σ.set i none) H}
def oN(K:ah)(C:Addr)(i:Nat)(ts:TS)(D:Ends):St->XK:=λσ c d H=>
 c=c/\exmOne K c (.ref C)<*true/\∀a,H a=none->ts (D.drop i) (σ.set i (some (.ref a))) (upd H a (qh a c d))
def kD(X:Cx)(pins:List (Addr×Obj))(D:Ends)(hs:List ExceptHandler):'I':=λe a=>
 'C' (nI e X.env) (λ_ s2=>'C' (Er e none) (λ_ s3=>'C' (handleBy e X.env hs) (SP X pins D) X.xe s3) X.xe s2) X.xe a
section
variable {pins:List (Addr×Obj)}{s:Shared}{x n:Str}{C:Addr}{b₀:Stmt}{suite:List Stmt}{hpos:Pos}{ts:TS}{D:Ends}
structure Eo(X:Cx)(x n:Str)(C:Addr)(i:Nat)(suite:List Stmt)(ts:TS):Prop where
 nd:X.N.Nodup
 at_:X.N[i]?<*n
 loc:X.env.scope.names.lookup n<*.local
 gl:Gl X x
 mg:X.mg x<*(.ref C)
 db:(x==("__debug__":Str))=false
 stk:X.stack=X.env::X.outer
 fr:X.env.frame<*X.env.locals
 ex:X.ex=[]
 su:∀(pins:List (Addr×Obj))(a:Addr),PSs (X.re (X.A.mark (some (.ref a))) false (X.pn++pins) (λ_ _=>False)) suite ts
def uE{c:Value}(O:Eo X x n C i (b₀::suite) ts)(I:'A')(F:Fly X.s₀.heap s.heap H (X.pn++pins) a c d)(h:oN X.K C i ts D σ c d H):
  'C' (handleBy (.ref a) X.env [.ExceptHandler (some (.Name x np)) (some n) (b₀::suite) hpos]) (SP X pins D) X.xe s:=by
 obtain⟨_,hm,hk⟩:=h;obtain⟨⟨T,oe,vs,oT,tv,o,t,Y,G,w,E,m,l,y,K,A,L⟩,a0,B,hp⟩:=F;refine wpAny_handleBy_cons (codeAny_handlers_test ?_) (by intro q;cases q);have Q:Inv (X.re (X.A.mark (some (.ref a))) false (X.pn++pins) (λ_ _=>False)) [] σ H s:=I.re rfl (λz=>nomatch z) λp q=>by simpa using q
 refine mR Q O.gl O.mg ?_ O.db;have W:Looks (model X.prog X.w) s.heap (typeOf (.ref a)) c:=t▸(Looks.ld o).andThen .now;refine(exm_one I.kIn W hm).here (codeAny_handlers_suite_as ?_);refine wpAny_setFlight_none o G w m l (cK.mp y).1 ?_;obtain⟨a1,a2⟩:=I.w8 m l;have R:=I.vN (t':=s.toks) (h':=s.heap.update T (fN (·.setIfInBounds 3 .none))) (λa3 a4 Z e=>by rw[aP _ _ (bK Z)];exact e) A a1 K a2 L;have P:Fly X.s₀.heap (s.heap.update T (fN (·.setIfInBounds 3 .none))) H (X.pn++pins) a c d:=by refine((T,oe,vs,_,_,by rw[aP _ _ E];exact o,t,Y,G,w,E,bW _ m (jX (fw l _)),fw l _,?_,K,A,L,),a0,B,hp,);rw[qF (cK.mp y).1]
 have S:=R.take O.ex P;refine wN S O.nd O.at_ (.inl O.loc) (v:=.ref a) rfl (λM U=>?_) (.inr O.loc);have V:Inv (X.re (X.A.mark (some (.ref a))) false (X.pn++pins) (λ_ _=>False)) [] (σ.set i (some (.ref a))) (upd H a (qh a c d)) M:=U.re rfl (λz=>nomatch z) λp q=>by simpa using q
 refine da (O.su pins a [] M _ _ (D.drop i) V (hk a B)) (λf N q=>?_) λ_ _ z=>z.elim;have k:∀{j:St}{b:Hp},Inv (X.re (X.A.mark (some (.ref a))) false (X.pn++pins) (λ_ _=>False)) [] j b N->Inv X pins j b N:=λ{j b} J=>J.KL I.ok λp q=>by simpa using q
 cases f with
 |next =>obtain⟨j,b,J,q⟩:=q;exact pJ (k J) O.nd O.at_ O.loc λr g=>(_,_,g,q,)
 |brk=>obtain⟨j,b,J,q⟩:=q;exact pJ (k J) O.nd O.at_ O.loc λr g=>(_,_,g,q,)
 |cont=>obtain⟨j,b,J,q⟩:=q;exact pJ (k J) O.nd O.at_ O.loc λr g=>(_,_,g,q,)
 |ret u=>obtain⟨v,j,b,J,rv,q⟩:=q;exact pJ (k J) O.nd O.at_ O.loc λr g=>(v,_,_,g,rv,q,)
def KO(O:Eo X x n C i (b₀::suite) ts){e:Value}(ok:X.Ok)(m:X.calm=true)
  (I:Inv (X.re X.A X.calm (X.pn++pins) (kD X pins D [.ExceptHandler (some (.Name x np)) (some n) (b₀::suite) hpos])) pins' σ H s)(h:CXx X.prog X.w X.stack H s (oN X.K C i ts D σ) e s'):
  kD X pins D [.ExceptHandler (some (.Name x np)) (some n) (b₀::suite) hpos] e s':=by
 obtain⟨a,c,d,l,rfl,j,g,u,k,F,q⟩:=h;have J:'A':=I.KL ok λp z=>eO _ z;exact Dq J O.stk O.fr O.ex j g u k F λo f b=>uE O f b q
def KQ(O:Eo X x n C i (b₀::suite) ts){c:Value}(ok:X.Ok)
  (I:Inv (X.re X.A X.calm (X.pn++pins) (kD X pins D [.ExceptHandler (some (.Name x np)) (some n) (b₀::suite) hpos])) pins' σ H s)(e:rq s.heap h' a c args)(h:oN X.K C i ts D σ c none H):
  kD X pins D [.ExceptHandler (some (.Name x np)) (some n) (b₀::suite) hpos] (.ref a) {s with heap:=h'}:=by
 have J:'A':=I.KL ok λp z=>eO _ z;exact Dp J O.stk O.fr O.ex e λf d b=>uE O d b h
def ps_try{g:List Stmt}{tb:Ends->TS}(j:∀pins D,X.Ok->PSs (X.re X.A X.calm (X.pn++pins) (kD X pins D [.ExceptHandler (some (.Name x np)) (some n) (b₀::suite) hpos])) g (tb D)):
  PS X (.Try g [.ExceptHandler (some (.Name x np)) (some n) (b₀::suite) hpos] [] [] pos) (λD σ H=>tb D D σ H):=by
 intro pins s σ H D I h;have i:Inv (X.re X.A X.calm (X.pn++pins) (kD X pins D [.ExceptHandler (some (.Name x np)) (some n) (b₀::suite) hpos])) [] σ H s:=I.re rfl I.ok.hd λp q=>by simpa using q
 refine wpAny_Try_except (da (j pins D I.ok [] s σ H D i h) (λf d q=>?_) λe d q=>q);have c:∀{b:St}{a:Hp},Inv (X.re X.A X.calm (X.pn++pins) (kD X pins D [.ExceptHandler (some (.Name x np)) (some n) (b₀::suite) hpos])) [] b a d->Inv X pins b a d:=λ{b a} J=>J.KL I.ok λp q=>by simpa using q
 cases f with
 |next =>obtain⟨b,a,J,q⟩:=q;exact A7 pins d b a D (c J) q
 |brk=>obtain⟨b,a,J,q⟩:=q;exact(_,_,c J,q,)
 |cont=>obtain⟨b,a,J,q⟩:=q;exact(_,_,c J,q,)
 |ret u=>obtain⟨v,b,a,J,k,q⟩:=q;exact(v,_,_,c J,k,q,)
end
noncomputable abbrev XS:=St->XK
noncomputable abbrev N0:XS:=λ_=>E0
def As(CX:CXT)(X:Cx)(E:XS):Prop:=∀(pins:List (Addr×Obj))(σ:St)(H:Hp)(s:Shared)(e:Value)(s':Shared),'A'->CX X.stack H s (E σ) e s'->X.xe e s'
def MadeS(X:Cx)(E:XS):Prop:=∀(pins:List (Addr×Obj))(σ:St)(H:Hp)(s:Shared)(a:Addr)(c:Value)(args:List Value)(h':Heap),'A'->rq s.heap h' a c args->E σ c none H->X.xe (.ref a) {s with heap:=h'}
section
variable {CX:CXT}{f:Addr}{fd:fE}{ps:List Str}{sp:Sp}{ds:List Value}{E:XS}{x:Str}{p:Pos}{es:List Expr}{t:TA}
def G9{Q:VK}{vs:List V}(F:jG X.prog X.w X.K X.mg X.base CX k f fd ps sp)(g:jm k X.A)(b:Binds X.K fd ps ds)(c:bS al ds)(i:As CX X E)
  (I:'A')(r:bS vs us)(h:sp (vs++al) H Q (E σ)):'C' (call (.ref f) us) (EP X pins σ Q) X.xe s:=by
 have a:bS (vs++al) (us++ds):=r.append c;have d:(us++ds).length=ps.length:=a.length.symm.trans (F.len _ _ _ _ h);refine iF (kj (F.run X.A X.stack s H (us,[],) (us++ds) (vs++al) Q (E σ) g I.env0 (b s us I.kIn d) a h) λr j hq=>?_);cases r with
 |error e=>exact i pins σ H s e j I hq
 |ok fl=>cases fl<;>first |exact I.after hq|exact gT hq
def Ms(F:jG X.prog X.w X.K X.mg X.base CX k f fd ps sp)(o:jm k X.A)(j:Gl X x)(m:X.mg x<*(.ref f))(l:cj X.K (.ref f)=true)(c:Binds X.K fd ps ds)(d:bS al ds)(u:As CX X E)
  (b:PA X (e::es) t)(g:(x==("__debug__":Str))=false)(i:bf (e::es) X.env=(false,eval e X.env)::bf es X.env)(n:(backTo pos (bf es X.env)).any (·.1)=false):
  PE X (.Call (.Name x p) (e::es) [] pos) (λσ H Q=>CD sp al (E σ) t σ H Q):=by
 intro v s σ H Q I h;refine fC (mR I j m ?_ g);exact tN (h₀:=X.base) I.ok.mod.kin l (thn (b pos v s σ H _ I h) λz y ⟨A,w,a,r,q⟩=>(a.kIn,G9 F o c d u a r q,)) i n
def Jh(F:jG X.prog X.w X.K X.mg X.base CX k f fd ps sp)(i:jm k X.A)(d:Gl X x)(g:X.mg x<*(.ref f))(e:cj X.K (.ref f)=true)(a:Binds X.K fd ps ds)(b:bS al ds)(j:As CX X E)
  (c:(x==("__debug__":Str))=false):PE X (.Call (.Name x p) [] [] pos) (λσ H Q=>CD sp al (E σ) rD σ H Q):=by
 intro l s σ H Q I h;refine fC (mR I d g ?_ c);exact PySem.W.callWith_K0 I.kIn e (G9 (us:=[]) F i a b j I .nil h)
end
section
variable {mg:Str->Option Value}
def JY{cd:Value}{outer:List Env}{E:XK}:
  As (CXx P w) (BO (CXx P w) P w K mg base N qual scope f cd A outer s H E) (λ_=>E):=by
 intro R W Q U e S I h;obtain⟨a,c,d,i,rfl,D,C,u,G,F,q⟩:=h;show wpAny _ _ (leaving _ _) _ _ _;unfold leaving;refine aa (Dq I rfl rfl rfl D C u G F λV b g=>?_);obtain⟨⟨T,L,O,J,M,l,o,p,r,t,v,x,y,B,m,n,_⟩,j,k,_⟩:=g;exact(a,c,d,i,rfl,b.os,b.bare,b.base,b.hok,⟨⟨T,L,O,J,M,l,o,p,r,t,v,x,y,B,m,n,λ_ z=>nomatch z⟩,j,k,λ_ z=>nomatch z⟩,q,)
def JZ{cd:Value}{outer:List Env}{E:XK}:
  MadeS (BO (CXx P w) P w K mg base N qual scope f cd A outer s H E) (λ_=>E):=by
 intro G M e J a c D F I v q;show wpAny _ _ (leaving _ _) _ _ _;unfold leaving;refine aa (Dp I rfl rfl rfl v λL b d=>?_);obtain⟨⟨T,y,C,x,B,i,l,m,n,o,p,r,t,u,j,k,_⟩,g,h,_⟩:=d;exact(a,c,none,e,rfl,b.os,b.bare,b.base,b.hok,⟨⟨T,y,C,x,B,i,l,m,n,o,p,r,t,u,j,k,λ_ z=>nomatch z⟩,g,h,λ_ z=>nomatch z⟩,q,)
def JJ{o:List Env}{e:Value}(h:CXx P w o H s E0 e s'):False:=by obtain⟨_,_,_,_,_,_,_,_,_,_,q⟩:=h;exact q
def jG.calm{a:fE}{sp:Sp}(F:jG P w K mg base (CXx P w) k f a ps sp):jG P w K mg base CX0 k f a ps (λvs H Q _=>sp vs H Q E0):=
 ⟨λvs H Q E h=>F.len vs H Q E0 h,λA l s H b m vs Q E g d c j i=>kj (F.run A l s H b m vs Q E0 g d c j i) λr n q=>by
  cases r with
  |error e=>exact JJ q
  |ok fl=>cases fl<;>exact q⟩
end
end L2
namespace Q
open PySem.W L2
abbrev gB(lt:Nat->Nat->Bool)(vs:List Value):List Value:=if vs.length<2 then vs else(run lt (dX vs.length)).toList.map λi=>vs.getD i .none
def J6(prog:Program)(w:World)(A:Around)(lt:Nat->Nat->Bool)(vs:List Value)(h0:Heap):Prop:=
 ∀a:Shared,(∀b o,h0.get? b<*o->a.heap.get? b<*o)->
  ∃κ,(∀(c:SortKind->Shared->Prop)(d:'I'),c κ a->'B' (keyKind' vs.toArray) c d a)/\
   ∀i j (C:Bool->Shared->Prop),i<vs.length->j<vs.length->i≠j->C (lt i j) a->kas_ask prog w A κ vs i j C a
section
variable {E:'I'}{s:Shared}{lt:Nat->Nat->Bool}{vs:List Value}
def fQ(h:n<64):n<=sizeLine:=by rw[lU];lia
def G5(h:n<64):n<=sizeLine+1:=fK (fQ h)
def G0{P:dN->Shared->Prop}(T:Tot lt vs.length)(r:s.heap.get? a<*(seqObj "list" vs.toArray n))(k0:∀b o,h0.get? b<*o->s.heap.get? b<*o/\b≠a)(g:vs.length<64)
  (ask:2<=vs.length->J6 prog w A lt vs h0)(h:P (.done (.ret .none)) {s with heap:=sortedHeap s.heap a vs (gB lt vs).toArray}):'B' (Builtin.«list.sort» ([.ref a],[],)) P E s:=by
 have f:vs.toArray.size=vs.length:=by simp
 obtain⟨c,v⟩:∃c,(s.heap.update a (a9 λ_=> #[])).get? a<*(seqObj "list" #[] c):=(_,tQ r _,);have l:(((s.heap.update a (a9 λ_=> #[])).push (seqObj "tuple" vs.toArray 0)).push (seqObj "list" #[] 0)).get? a<*(seqObj "list" #[] c):=af _ (af _ v);have N:∀b o,h0.get? b<*o->(((s.heap.update a (a9 λ_=> #[])).push (seqObj "tuple" vs.toArray 0)).push (seqObj "list" #[] 0)).get? b<*o:=λb o e=>
  af _ (af _ ((aP _ _ (bK (k0 b o e).2)).trans (k0 b o e).1))
 rw[list_sort_plain];refine aa (listItems_at r rfl (aa (fZ r rfl ?_ (by rw[f];exact fQ g) (a7 _))));refine aa (vK v rfl (aa (J8 ?_ (show vs.length<=_ from fQ g))));refine aa (pX (bY ?_) (a7 _));by_cases hn:vs.length<2
 .have e:gB lt vs=vs:=if_pos hn;rw[e]at h;dsimp only;rw[if_pos (by rw[f];exact hn),if_pos (by rw[f];exact hn)];refine aa (aj (aa ?_));rw[StateT.run_pure];refine aj (aa (vK l rfl (aa (fZ l rfl ?_ (a7 _) ?_))))
  .have q:(arrOf (SortSt.mk' general' (vs.toArray.zip vs.toArray) #[] 7 none)).map (·.2)=vs.toArray:=by show(vs.toArray.zip vs.toArray).map (·.2)=vs.toArray;apply Cm;simp[nS]
   rw[q];have k:failedOf ((),SortSt.mk' general' (vs.toArray.zip vs.toArray) #[] 7 none).snd=none:=rfl;rw[k];simp only[bne_self_eq_false,aY,if_false];exact aj h
  .show((vs.toArray.zip vs.toArray).map (·.2)).size<=_;rw[Array.size_map,Array.size_zip,f,Nat.min_self];exact fK (fQ g)
 .have u:2<=vs.length:=by lia
  have e:gB lt vs=(run lt (dX vs.length)).toList.map λi=>vs.getD i .none:=if_neg hn;rw[e]at h;dsimp only;rw[if_neg (by rw[f];exact hn),if_neg (by rw[f];exact hn)];obtain⟨κ,J,K⟩:=ask u {s with heap:=((s.heap.update a (a9 λ_=> #[])).push (seqObj "tuple" vs.toArray 0)).push (seqObj "list" #[] 0)} N;obtain⟨y,R,x⟩:=gA T (by lia:1<=vs.length);refine aa (J _ _ (aa ?_));have O:=kat_run (prog:=prog) (w:=w) (A:=A) (E:=E) (κ:=κ) (ks:=vs) (vs:=vs) (s:={s with heap:=((s.heap.update a (a9 λ_=> #[])).push (seqObj "tuple" vs.toArray 0)).push (seqObj "list" #[] 0)})
   (Q:=λm d=>d={s with heap:=((s.heap.update a (a9 λ_=> #[])).push (seqObj "tuple" vs.toArray 0)).push (seqObj "list" #[] 0)}/\arrOf m=(run lt (dX vs.length)).map (kas_item (vs.toArray.zip vs.toArray))/\failedOf m=none)
   (G:=λp d=>d={s with heap:=((s.heap.update a (a9 λ_=> #[])).push (seqObj "tuple" vs.toArray 0)).push (seqObj "list" #[] 0)}/\p=run lt (dX vs.length)) rfl u g
   (λp m d _ B q k=>(k.1,by rw[B,k.2],q,))
   (wp_run (S:=λd=>d={s with heap:=((s.heap.update a (a9 λ_=> #[])).push (seqObj "tuple" vs.toArray 0)).push (seqObj "list" #[] 0)}) (λi j C d hi I H t D=>by subst t;exact K i j C hi I H (D _ rfl)) _ _ x rfl λd t=>(t,rfl,))
  refine da O ?_ λ_ _ z=>z;rintro⟨⟨⟩,m⟩ d ⟨rfl,F,hf⟩;have M:=kat_snds (ks:=vs) (vs:=vs) rfl F;dsimp only;rw[M,hf];have L:(eI ((run lt (dX vs.length)).toList.map λi=>vs.getD i bO)).size<=sizeLine+1:=by rw[aE,ai,cq,y.size];exact fK (fQ g)
  refine aa (vK l rfl (aa (fZ l rfl ?_ (a7 _) L)));simp only[bne_self_eq_false,aY,if_false];exact aj h
def ud{Q:'I'}(T:Tot lt vs.length)(g:s.heap.IsList l vs.toArray)(a:vs.length<64)(ask:2<=vs.length->J6 prog w A.in1.in1 lt vs s.heap)
  (h:Q (.ref (⇑s+1)) {s with heap:=sortedAll s.heap vs (gB lt vs).toArray}):'B' (call (.builtin "sorted") [.ref l]) Q E s:=by
 refine mL kind_sorted plain_sorted entry_sorted (args_sorted1 _) ?_;unfold Builtin.«sorted»;refine aa (m:=checkCount "sorted" 1 1 _) (aj (aa (collect_list g (aa (pX ?_ (show vs.length<=_ from fQ a))) (fQ a))));generalize hH:(s.heap.push (seqObj "list" #[] 0)).update ⇑s (a9 (·++vs.toArray))=h1;have d:h1.objs.size=⇑s+1:=by rw[<-hH,nT,Ke]
 have i:∀b o,s.heap.get? b<*o->h1.get? b<*o:=λb o e=>by have f:=aw e;rw[<-hH,aP _ _ (dQ f)];exact af _ e
 have c:(h1.push (seqObj "list" vs.toArray 0)).get? (⇑s+1)<*(seqObj "list" vs.toArray 0):=by rw[<-d];exact av _ rfl
 have hq:sortedAll s.heap vs (gB lt vs).toArray=sortedHeap (h1.push (seqObj "list" vs.toArray 0)) (⇑s+1) vs (gB lt vs).toArray:=by rw[<-hH];rfl
 rw[hq]at h;show wpAny _ _ _ _ _ {s with heap:=h1.push (seqObj "list" vs.toArray 0)};rw[d];refine aa (bY (cC Kb (_,c,rfl,) GN (G0 T c (λb o e=>(af _ (i b o e),aL (bP (aw e)),)) a ask (_,rfl,?_,)) (args_list_sort _)));exact aj (_,rfl,h,)
end
abbrev tlt(x y:Str):Bool:=decide (x.cps.toList<y.cps.toList)
abbrev oE(ks:List Str)(i j:Nat):Bool:=tlt (ks.getD i "") (ks.getD j "")
abbrev ord(ks:List Str):List Nat:=if ks.length<2 then aC ks.length else(run (oE ks) (dX ks.length)).toList
abbrev sortBy{α:Type}(d:α)(ks:List Str)(ys:List α):List α:=(ord ks).map λi=>ys.getD i d
def str_ext{x y:Str}(h:x.cps.toList=y.cps.toList):x=y:=by obtain⟨a⟩:=x;obtain⟨b⟩:=y;have :a=b:=Array.toList_inj.mp h;rw[this]
def zy{x y:Str}(a:tlt x y=true)(b:tlt y z=true):tlt x z=true:=by unfold tlt at *;rw[decide_eq_true_eq]at *;exact List.lt_trans a b
def tlt_tri{x y:Str}(h:x≠y):tlt x y= !tlt y x:=by
 unfold tlt;by_cases c:x.cps.toList<y.cps.toList;·have d:¬y.cps.toList<x.cps.toList:=λz=>List.lt_irrefl _ (List.lt_trans c z);rw[decide_eq_true c,decide_eq_false d];rfl
 .by_cases d:y.cps.toList<x.cps.toList;·rw[decide_eq_false c,decide_eq_true d];rfl
  .exact absurd (str_ext (List.le_antisymm (List.not_lt.mp d) (List.not_lt.mp c))) h
def wG(d:ks.Nodup):Tot (oE ks) ks.length where
 tri:=λi j hi c h=>tlt_tri λe=>h (by rw[ag,ag,ae hi,ae c]at e;exact(fV d).mp e)
 tr:=λi j k _ _ _ a b=>zy a b
def ord_len(ks:List Str)(a:ks.Nodup):(ord ks).length=ks.length:=by
 unfold ord;split;·simp
 .rw[cq,(gA (wG a) 'D').1.size]
theorem Mz(k:ks.Nodup)(f:ks.length=ys.length)(r:bS ys vs):bS (sortBy .non ks ys) (gB (oE ks) vs):=by
 have p:=r.length;have e:vs.length=ks.length:=by lia
 unfold gB sortBy ord;rw[e];by_cases c:ks.length<2
 .rw[if_pos c,if_pos c];have a:(aC ks.length).map (λi=>ys.getD i V.non)=ys:=by
   rw[f];apply cy;·simp
   .intro i o b;simp[b]
  rw[a];exact r
 .rw[if_neg c,if_neg c];have P:=(gA (wG k) 'D').1;have all:∀l:List Nat,(∀i∈l,i<ks.length)->bS (l.map λi=>ys.getD i V.non) (l.map λi=>vs.getD i bO):=by
   intro l
   induction l with
   |nil=>exact λ_=>.nil
   |cons i l ih=>
    intro h;have hi:i<ys.length:=by have :=h i (.head _);lia
    obtain⟨u,g,n⟩:=r.get (ae hi);refine .cons ?_ (ih λj d=>h j (.tail _ d));show L2.RelV (ys.getD i V.non) (vs.getD i bO);rw[ag,ae hi,ag,g];exact n
  refine all _ λi hi=>?_;have m:i∈(aC ks.length).toArray:=P.perm.mem_iff.mp (kq.mp hi);simpa using m
def K9(r:Cc vs ks)(hi:i<ks.length):∃t,vs.getD i .none=.str (ks.getD i "") t:=by
 induction r generalizing i with
 |nil=>exact absurd hi (fG _)
 |cons y t h ih=>
  cases i with
  |zero=>exact(t,rfl,)
  |succ i=>exact ih ↥hi
def wM(r:Cc vs ks):vs.length=ks.length:=by
 induction r with
 |nil=>rfl
 |cons y t h ih=>simp[ih]
section
def J3(r:Cc vs ks)(d:2<=vs.length):J6 prog w A (oE ks) vs h0:=by
 intro g _;refine(oneType',λf e q=>?_,λi j C hi a _ q=>?_,)
 .match vs,r,d with
  |v1::v2::rest,r,_=>rw[keyKind_strs r];exact aj q
 .rw[wM r]at hi a;obtain⟨t,b⟩:=K9 r hi;obtain⟨u,c⟩:=K9 r a;unfold kas_ask;rw[b,c,keyLt'_oneType];exact oneLt_str q
end
def tH(H:Hp)(ys:List V)(ks:List Str):Prop:=Paired (λv k=>∃a rest,v=V.ref a/\H a<*(.tup (V.str k::rest))) ys ks
theorem uP:∀{ys:List V}{ks:List Str},tH H ys ks->ks.length=ys.length
 |_,_,.nil=>rfl
 |_,_,.cons _ t=>by simp[uP t]
set_option maxHeartbeats 3200000
abbrev has(ac:List Key)(k:Key):Bool:=ac.any λx=>decide (x=k)
def j8{a:List Key}{k:Key}:has a k=true↔k∈a:=by
 unfold has;rw[bQ];constructor;·rintro⟨x,h,e⟩;rw[<-W0 e];exact h
 .exact λh=>(k,h,decide_eq_true rfl,)
abbrev more(ac:List Key)(k:Key):List Key:=if has ac k=true then ac else ac++[k]
abbrev met(ks:List Key):List Key:=ks.foldl more []
def MP(ks:List Key)(k:Key):met (ks++[k])=more (met ks) k:=by unfold met;rw[List.foldl_append];rfl
def Dz{a:List Key}{k j:Key}:j∈more a k↔j∈a\/j=k:=by
 unfold more;split
 .rename_i h;constructor;·exact .inl
  .rintro(z|rfl);·exact z
   .exact j8.mp h
 .simp
def rZ(a:List Key)(k:Key):(more a k).length=if has a k=true then a.length else a.length+1:=by unfold more;split <;>simp
def FK(ks:List Key):(met ks).length<=ks.length:=by
 unfold met;have g:∀(l a:List Key),(l.foldl more a).length<=a.length+l.length:=by
  intro l
  induction l with
  |nil=>intro a;simp
  |cons k l ih=>intro a;have c:=ih (more a k);have b:=rZ a k;rw[dU,aU];split at b<;>lia
 simpa using g ks []
def ll{ks:List Key}{k:Key}:k∈met ks↔k∈ks:=by
 unfold met;have g:∀(l a:List Key),k∈l.foldl more a↔k∈a\/k∈l:=by
  intro l
  induction l with
  |nil=>intro a;simp
  |cons j l ih=>intro a;rw[dU,ih,Dz,aA,or_assoc]
 simpa using g ks []
def Jv{ks:List Key}(h:ks.Nodup):met ks=ks:=by
 unfold met;have g:∀(l a:List Key),(a++l).Nodup->l.foldl more a=a++l:=by
  intro l
  induction l with
  |nil=>intro a _;simp
  |cons k l ih=>intro a b;have c:k∉a:=λz=>(du.mp b).2.2 k z k (.head _) rfl;have e:more a k=a++[k]:=if_neg λz=>c (j8.mp z);rw[dU,e,ih (a++[k]) ↥b];simp
 simpa using g ks [] ↥h
def Jo(ks:List Key):(met ks).Nodup:=by
 unfold met;have g:∀(l d:List Key),d.Nodup->(l.foldl more d).Nodup:=by
  intro l
  induction l with
  |nil=>intro d h;exact h
  |cons k l ih=>
   intro d h;rw[dU];refine ih _ ?_;unfold more;split;·exact h
   .rename_i c;refine du.mpr (h,'F',λa i b j e=>c ?_,);have f:b=k:=by simpa using j
    rw[<-f,<-e];exact j8.mpr i
 exact g ks [] fU
def Bn{ks:List Key}(h:(met ks).length=ks.length):ks.Nodup:=by
 have s:∀(l d:List Key),(l.foldl more d).length<=d.length+l.length:=by
  intro l
  induction l with
  |nil=>intro d;simp
  |cons k l ih=>intro d;have m:=ih (more d k);have f:=rZ d k;rw[dU,aU];split at f<;>lia
 have g:∀(l d:List Key),d.Nodup->(l.foldl more d).length=d.length+l.length->(d++l).Nodup:=by
  intro l
  induction l with
  |nil=>intro d h _;simpa using h
  |cons k l ih=>
   intro d q e;rw[dU,aU]at e;have m:=s l (more d k);have f:=rZ d k;by_cases c:has d k=true;·rw[if_pos c]at f;lia
   .rw[if_neg c]at f;have j:more d k=d++[k]:=if_neg c;rw[j]at e;have p:k∉d:=λz=>c (j8.mpr z);have r:(d++[k]).Nodup:=du.mpr ⟨q,'F',λa n b o e=>p (by
     have i:b=k:=by simpa using o
     rw[<-i,<-e];exact n)⟩
    have :=ih (d++[k]) r (by rw[bu,qD];lia);simpa using this
 simpa using g ks [] fU (by simpa[met]using h)
def met_one{ks:List Key}:(met ks).length<=1↔∀a∈ks,∀b∈ks,a=b:=by
 constructor
 .intro h a f b g;have c:=ll.mpr f;have d:=ll.mpr g
  match e:met ks,h with
  | [],_=>rw[e]at c;cases c
  | [x],_=>rw[e]at c d;rw[aI.mp c,aI.mp d]
 .intro h
  match e:met ks with
  | []=>simp
  | [x]=>simp
  |x::y::r=>have n:=Jo ks;rw[e]at n;have i:x∈ks:=ll.mp (by rw[e];exact .head _);have j:y∈ks:=ll.mp (by rw[e];exact .tail _ (.head _));have :=h x i y j;rw[this]at n;simp at n
noncomputable abbrev nL(led:Bool):Obj:={cls:=.type "set",dict:=none,data:=.set #[] 0 (.fresh 0 0 led)}
abbrev Fd(a:Addr)(n:Nat):HO:=.ext λh=>∃o es ep t,h.get? a<*o/\o.ExactSet/\o.data=.set es ep t/\es.size<gp/\t.fits es.size=true/\es.size=n
theorem Bz:∀{ks:List Key}{us:List Value},bS (ks.map kV) us->∀(i:Nat)(v:Value),us[i]?<*v->∃k,ks[i]?<*k/\RelV (kV k) v
 | [],_,.nil,i,v,e=>by simp at e
 |k::ks,_,.cons r t,0,v,e=>by simp at e;subst e;exact(k,rfl,r,)
 |k::ks,_,.cons r t,i+1,v,e=>Bz t i v ↥e
def rSet(K:ah):List V->Hp->VK->Prop:=λxs H Q=>∃p ks,xs=[V.ref p]/\SqL K H p (ks.map kV)/\ks.length<4000/\∀a,H a=none->Q (.ref a) (upd H a (Fd a (met ks).length))
def zq:fA X (.builtin "len") (λxs H Q=>∃a n,xs=[V.ref a]/\H a<*(Fd a n)/\Q (.int n) H):=by intro k s m H xs l Q I r h;obtain⟨a,n,rfl,e,q⟩:=h;obtain⟨u,rfl,i⟩:=vals1 r;cases i;obtain⟨⟨o,b,j,t,g,f,d,c,hf,rfl⟩,_⟩:=I.hok a _ e;refine call_len_set g f d hf (by have :b.size<4096:=c;lia) ?_;exact(.int b.size,H,I.tok _,(_,rfl,),q,)
end Q
namespace L2
section
def Hh(K:ah):R2:=λx y H Q=>∃a b ys,x=.ref a/\y=.ref b/\SqT K H a []/\SqT K H b ys/\Q (.ref b) H
def op_cat0:OpR X (eV .Add) (Hh X.K):=by intro K s N H x y v u Q I w z h;obtain⟨a,b,M,rfl,rfl,l,m,q⟩:=h;cases w;cases z;obtain⟨G,t,p,_⟩:=I.tuple l;obtain⟨J,L,r,_⟩:=I.tuple m;cases t;obtain⟨⟨C,j,E,A⟩,g,c,n,e⟩:=id p;obtain⟨⟨D,k,F,B⟩,i,d,o,f⟩:=id r;simp only at c e d f;subst c e d f;exact concat_meets (_,g,rfl,) (_,i,rfl,) Et OG nP nh (mK _ _) (tuple_addW0 a b _ _ n o j k A B rfl) (g,i,.ref b,H,I,rfl,q,)
theorem zX(a b:Array Nat):∀k:Nat,((a8 k a).foldl (·++·) b).size=b.size+k*a.size
 | 0=>by simp
 |k+1=>by rw[dR,dU,zX a (b++a) k,Array.size_append,Ko];lia
def LR:R2:=λx y H Q=>∃(z:Str)(n:Int),x=.str z/\y=.int n/\2<=n/\n<=1000/\1<=z.length/\z.length<=1000/\Q (.str ⟨(a8 n.toNat z.cps).foldl (·++·) #[]⟩) H
theorem op_repS:OpR X (eV .Mult) LR:=by
 intro m s p H x y v u Q I f g h;obtain⟨z,n,rfl,rfl,i,j,k,d,q⟩:=h;obtain⟨t,rfl⟩:=f;obtain⟨o,rfl⟩:=g;have b:¬n<1:=by lia
 have c:(n==1||z.length==0)=false:=by rw[Bool.or_eq_false_iff];exact⟨by simp;lia,by simp;lia⟩
 have a:z.length*n.toNat<=1000*1000:=Nat.mul_le_mul d 'D';have e:((n.toNat:Nat):Int)=n:=by lia
 have l:(z.length:Int)*n<=1000*1000:=by rw[<-e,<-Int.natCast_mul];exact Int.ofNat_le.mpr a
 refine P.mul_str (by rw[decide_eq_false 'D',decide_eq_false 'D'];rfl) (λ_ _=>?_) (λ_ _=>?_) ?_;·exact Int.not_lt.mpr (Int.le_ediv_of_mul_le 'D' 'D')
 .exact decide_eq_false (Nat.not_lt.mpr (aO a 'E'))
 .rw[if_neg b,if_neg (by rw[c];exact ao)];refine(?_,.str _,H,I.tok _,(_,rfl,),q,);show((a8 n.toNat z.cps).foldl (·++·) #[]).size<=_;rw[zX];exact aO (by rw[Nat.mul_comm];simpa[Eu]using a) (by decide:1000*1000<=sizeLine)
end
end L2
set_option maxHeartbeats 1000000
namespace HT
section
variable {K:Type}[DecidableEq K]{knd:HeapKind prog w K}{s:Shared}{E:'I'}
def setDef{d:Addr}{xs:List (K×Addr×Value)}{k:K}{v:Value}{Q:'I'}(n:knd.room A)(h:knd.is s.heap k a)(B:s.heap.DictOfH knd d xs)
  (r:∀u,(atKey xs k).map (·.2)<*u->Q u {s with toks:=s.toks+knd.draws k})
  (t:atKey xs k=none->∀h',h'.DictOfH knd d (storedH xs k a v)->dj d s.heap h'->Q v {s with heap:=h',toks:=s.toks+knd.draws k})
  (G:xs.length<=sizeLine):'B' (Kl d (.ref a) v) Q E s:=by
 obtain⟨o,F,q,c,z,b,g,l,i⟩:=B;unfold Kl;refine bY ?_;refine aa (knd.pyHash n h ?_);refine aa (wpAny_dictFind_heap (s:={s with toks:=s.toks+knd.draws k}) n h c b g l i ?_ ?_)
 .intro f;have C:k∉xs.map (·.1):=not_mem_keys_of_get f;refine aa (fW (aa (wpAny_updateDictKeys (hz:=by have e:=size_of_entries g;lia) (s:={s with toks:=s.toks+knd.draws k}) c b (aj (t (pT f) _ (_,_,q+1,bW _ c (Obj.isFreed_of_dict (OR b _)),
   z.mapDictKeys _,OR b _,?_,?_,?_,) (bM ..))))))
  .rw[storedH_new (pT f)];simp[g,entryOfKey]
  .rw[storedH_new (pT f)];intro x hx;rcases bz.mp hx with hx|hx;·exact knd.keeps (l x hx) c b (bM ..)
   .rw[aI.mp hx];exact knd.keeps h c b (bM ..)
  .rw[storedH_new (pT f),cH,du];refine(i,'F',λx hx y D e=>?_,);have :y=k:=by simpa using D
   exact C (by rw[<-this,<-e];exact hx)
 .intro j p m;refine aa (wpAny_dictEntries (s:={s with toks:=s.toks+knd.draws k}) c b ?_);rw[entry_at g j,m];exact aa (fW (aj (r _ (by rw[atKey_of_get i m];rfl))))
variable(knd) in
def Bv(d a:Addr)(g:(d==eS)=false)(b:Value):
  MeetsIn prog w (Builtin.«dict.setdefault» ([.ref d,.ref a,b],[],)) (λA R s=>knd.room A.in1/\∃k xs,knd.is s.heap k a/\s.heap.DictOfH knd d xs/\xs.length<=sizeLine/\
   (∀u,(atKey xs k).map (·.2)<*u->R (.ok (.ret u)) {s with toks:=s.toks+knd.draws k})/\
   (atKey xs k=none->∀h',h'.DictOfH knd d (storedH xs k a b)->dj d s.heap h'->R (.ok (.ret b)) {s with heap:=h',toks:=s.toks+knd.draws k})):=
 .of_wp λA R s ⟨m,k,xs,h,c,o,e,f⟩=>by unfold Builtin.«dict.setdefault»;refine aa ?_;unfold Builtin.Dict.keyAndDefault;refine aa (wpAny_notOrdered_dict c.typeIs ?_);show wpAny _ _ (pure (d,bD a,some b)) _ _ s;refine aj ?_;show wpAny _ _ (if(d==eS)=true then _ else(Kl d (.ref a) b>>=_)) _ _ s;rw[if_neg (by rw[g];exact ao)];exact aa (setDef m h c (λv n=>aj (v,rfl,e v n,)) (λj h' i l=>aj (b,rfl,f j h' i l,)) o)
end
end HT
namespace L2
section
variable {pins:List (Addr×Obj)}{s:Shared}{a b:Addr}{r:Value}{E:'I'}{kvs:List (List Key×V)}{k:List Key}
def NR{Q:'I'}(K:A.units+1<cLine)(I:'A')(e:H a<*(.dT kvs))(i:H b<*(.tup (k.map kV)))(O:RelV v r)(S:kvs.length<sizeLine)
  (C:∀x g s',fk kvs k<*x->Inv X pins σ H s'->RelV x g->Q g s')(D:fk kvs k=none->∀s',Inv X pins σ (upd H a (.dT (putK kvs k v))) s'->Q r s'):
  wpAny (model X.prog X.w) A (call (.builtin "dict.setdefault") [.ref a,.ref b,r]) Q E s:=by
 obtain⟨z,l,m,f,h⟩:=NM I.hok e;have N:m.length<=sizeLine:=by rw[<-mM f];exact z
 have F:(putK kvs k v).length<=sizeLine:=by have :=oG kvs k v;lia
 have d:=f.val k;refine call_meetsIn yK h.typeIs PySem.F.entry_dict_setdefault (PySem.F.args_dict_setdefault_3 _ _ _) (HT.Bv (qY (cg X.prog X.w)) a b l r) (tupleKind_room_in1 K,k,m,Nd I.hok i,h,N,λu L=>?_,λG R n J=>?_,)
 .rw[L]at d;cases hv:fk kvs k with
  |none=>rw[hv]at d;exact absurd d (by intro z;cases z)
  |some x=>rw[hv]at d;obtain⟨g,M,P⟩:=uH.some_of d;cases M;exact C x _ _ hv (I.tok _) P
 .rw[G]at d;refine D (by
   cases hv:fk kvs k with
   |none=>rfl
   |some x=>rw[hv]at d;exact absurd d (by intro z;cases z)) _ ?_
  obtain⟨q,p,o,hq,t,w,y,_,B⟩:=n;refine HZ I (by rw[e];exact True.intro) J (q,hq,) (F,l,_,(f.put k i O).keeps λc T j=>?_,q,p,o,hq,t,w,y,B,);rw[aV (ne_of j e (λz=>nomatch z))];exact j
end
section
theorem Dl:∀{ns:List Int}{ad:List Value},bS (ns.map V.int) ad->(∀v∈ad,∃a t,v=lE a t)/\numsOf ad=ns
 | [],_,.nil=>(λ_ h=>(nomatch h),rfl,)
 |n::ns,_,.cons r t=>by
  obtain⟨tk,rfl⟩:=r;obtain⟨b,c⟩:=Dl t;refine⟨λv hv=>?_,by rw[numsOf,c]⟩;rcases aA.mp hv with rfl|hv;·exact(_,_,rfl,)
  .exact b v hv
def ints_rep(r:bS (ns.map V.int) ad):∃xs:Array (Int×Tok),ad.toArray=intItems xs/\preSum (numAt xs) xs.size=ns.sum:=by obtain⟨a,b⟩:=Dl r;obtain⟨xs,e⟩:=AllInts.items (vs:=ad.toArray) λv c=>a v ↥c;refine(xs,e,?_,);rw[preSum_eq,eZ 'F',<-nums_intItems,<-e,b]
def N9(d:X.calm=true):fA X (.builtin "sum") (λxs H Q=>∃(p:Addr)(ns:List Int),xs=[.ref p]/\SqL X.K H p (ns.map V.int)/\Q (.int ns.sum) H):=by intro m s t H xs n Q I i h;obtain⟨p,ns,rfl,hq,q⟩:=h;obtain⟨u,rfl,g⟩:=i.one;cases g;obtain⟨l,r,f,k⟩:=I.list hq;obtain⟨o,b,c⟩:=ints_rep r;have a:=f.isList;rw[b]at a;refine sum_intListG (I.ok.hd d) a λj tk t' e=>?_;rw[c];exact(.int ns.sum,H,I.kept (t':=tk) e,(_,rfl,),q,)
def Jx{K:Type}[DecidableEq K]{knd:HeapKind prog w K}{d:Addr}{xs:List (K×Addr×Value)}{Q:'I'}(c:(d==eS)=false)(a:s.heap.DictOfH knd d xs)(l:(xs.length:Int)<2^63)
  (h:Q (.int xs.length (s.toks+1)) {s with toks:=s.toks+1+1}):'B' (call (.builtin "len") [.ref d]) Q E s:=by
 have i:MeetsIn prog w (Builtin.«dict.__len__» ([.ref d],[],)) (λ_ R s=>∃xs,s.heap.DictOfH knd d xs/\R (.ok (.ret (.int xs.length s.toks))) {s with toks:=s.toks+1}):=
  .of_wp λA R s ⟨xs,a,h⟩=>by obtain⟨o,b,j,g,k,e,f,_⟩:=a;show wpAny _ _ (dictSize d>>=_) _ _ s;unfold dictSize;refine aa (aa (wpAny_dictEntries g e (aj ?_)));show wpAny _ _ (Builtin.Dict.pendingCount d>>=_) _ _ s;refine aa (wpAny_pendingCount_other c ?_);refine wpAny_ret_mkInt ?_;have :b.size=xs.length:=size_of_entries f;rw[Nat.add_zero,this];exact h
 refine mL kind_len plain_len entry_len (args_len1 _) ?_;unfold Builtin.«len»;refine aa (m:=oneArg "len" _) (aj ?_);refine aa (m:=callSpecial? (.ref d) (aQ "__len__")) (dh (name:=aQ "__len__") a.typeIs F.slot_dict_len
  (call_meetsIn F.slot_dict_len a.typeIs F.entry_dict_len (F.args_dict_len_1 _) i (xs,a,?_,)))
 show wpAny _ _ _ _ _ {s with toks:=s.toks+1};refine aa (bY (aj ?_));refine aa (iE ?_);show wpAny _ _ (if((xs.length:Nat):Int)<0 then _ else _) _ _ _;rw[if_neg 'D'];show wpAny _ _ (if((xs.length:Nat):Int)≥ 2^63 then _ else _) _ _ _;rw[if_neg 'D'];exact aa (wpAny_mkInt (aj (_,rfl,h,)))
def D9:fA X (.builtin "len") (λxs H Q=>∃a kvs,xs=[V.ref a]/\H a<*(.dT kvs)/\Q (.int kvs.length) H):=by intro g s k H xs i Q I r h;obtain⟨a,kvs,rfl,e,q⟩:=h;obtain⟨u,rfl,f⟩:=vals1 r;cases f;obtain⟨z,d,j,b,c⟩:=NM I.hok e;refine Jx d c (by rw[<-mM b];rw[lU]at z;lia) ?_;rw[<-mM b];exact(.int kvs.length,H,I.tok _,(_,rfl,),q,)
def key_seq{ks:List Key}(I:'A')(h:SqT X.K H b (ks.map kV)):(qY (cg X.prog X.w)).is s.heap ks b:=by obtain⟨e,r,⟨o,a,c,n,d⟩,_⟩:=I.tuple h;exact(o,e.toArray,n,a,c,d,↥(uw r),)
def rIxD(K:ah):R2:=λx y H Q=>∃a b kvs k v,x=.ref a/\y=.ref b/\H a<*(.dT kvs)/\SqT K H b (k.map kV)/\fk kvs k<*v/\Q v H
def ix_dict(w:X.A.units+1<cLine):IxR X (rIxD X.K):=by
 intro K J g s j H x y v u Q I F G h t;obtain⟨a,b,N,k,z,rfl,rfl,e,l,A,q⟩:=h;cases F;cases G;obtain⟨_,M,L,D,d⟩:=NM I.hok e;have f:s.TypeIs (.ref a) "dict":=d.typeIs;unfold OE;refine aa ?_;rw[getitemInPython_of_ne f.not_modules];refine aa (wpAny_specialOf f PySem.F.slot_dict_getitem.lookup ?_);have c:'C' (subscripted J false (.ref a) (.ref b)) (λr i=>'C' (letTemporaryGo K (.ref a) r>>=λ_=>pure r) (EP X g j Q) X.xe i) X.xe s:=by rw[t];obtain⟨O,B,E⟩:=uH.some_of (v:=z) (o:=(atKey L k).map (·.2)) (by rw[<-A];exact D.val k);obtain⟨p,m,n⟩:=nR.mp B;refine wpAny_operating (da (wpAny_getItem_heap (Q:=EP X g j Q) (tupleKind_room_in1 w) (key_seq I l) d m ?_) (λr i C=>aa (wpAny_letTemporaryGo (aj C))) λ_ _ x=>x);rw[n];exact(z,H,I.tok _,E,q,)
 first
  |exact aj (aa c)
  |exact aa (aj (aa c))
  |exact aa c
def He:V->List V->Hp->VK->Prop:=λx xs H Q=>∃a b kvs k v,x=.ref a/\xs=[.ref b,v]/\H a<*(.dT kvs)/\H b<*(.tup (k.map kV))/\kvs.length<sizeLine/\
 (∀z,fk kvs k<*z->Q z H)/\(fk kvs k=none->Q v (upd H a (.dT (putK kvs k v))))
def Js(j:X.A.units+1<cLine):MtR X "dict.setdefault" He:=by intro A s E H x D v B Q I q p h;obtain⟨a,b,w,k,y,rfl,rfl,e,f,g,m,n⟩:=h;cases q;obtain⟨u,C,rfl,o,d⟩:=vals2 p;cases o;exact NR j I e f d g (λz w1 t l c r=>(z,H,c,r,m z l,)) λi t c=>(y,_,c,d,n i,)
end
section
def rInD(K:ah)(b:Bool):R2:=λx y H Q=>∃p xs ds d,y=.ref p/\SqL K H p xs/\Rep K H d x/\fu K H ds xs/\gQ ds<=30/\
 Q (.bl (if b then !(ds.any λa=>eqD a d)else ds.any λa=>eqD a d)) H
open Classical in
abbrev eqW(K:ah)(H:Hp)(d:D)(u:Value):Bool:=decide (∃y a,RelV y u/\Rep K H a y/\eqD a d=true)
open Classical in
def NK(I:'A'){d d':D}(r:RelV y u)(h:Rep X.K H d' y):eqW X.K H d u=eqD d' d:=by
 unfold eqW;cases e:eqD d' d with
 |true=>exact decide_eq_true (p:=∃y a,RelV y u/\Rep X.K H a y/\eqD a d=true) (y,d',r,h,e,)
 |false=>refine decide_eq_false ?_;rintro⟨z,a,c,f,b⟩;cases c.inj r;rw[I.vT f h,e]at b;cases b
theorem B4(I:'A'){d:D}:∀{ds:List D}{xs:List V}{us:List Value},bS xs us->fu X.K H ds xs->us.any (eqW X.K H d)=ds.any λd'=>eqD d' d
 | [],_,us,r,h=>by rw[show _=[]from h]at r;cases r;rfl
 |d'::ds,_,us,r,h=>by
  obtain⟨x,t,rfl,a,b⟩:=h;cases r with
  |cons r1 r2=>rw[iM,iM,NK I r1 a,B4 I r2 b]
theorem Bu(I:'A'){d:D}{v:Value}(c:Rep X.K H d x)(e:RelV x v)(a:A.units+31<cLine):∀{ds:List D}{xs:List V}{us:List Value},bS xs us->fu X.K H ds xs->gQ ds<=30->∀u∈us,OM A s u v (eqW X.K H d u)
 | [],_,us,r,h,_=>by rw[show _=[]from h]at r;cases r;exact λu a=>nomatch a
 |d'::ds,_,us,r,h,hh=>by
  obtain⟨y,t,rfl,b,f⟩:=h;cases r with
  |cons r1 r2=>
   have g:max (hgt d') (gQ ds)<=30:=hh;intro w hw;rcases aA.mp hw with rfl|hw;·rw[NK I r1 b];exact I.DX 30 A d' d _ x _ v b c r1 e 'D' 'D'
   .exact Bu I c e a r2 f 'D' w hw
def op_inD(l:X.A.units+40<cLine):OpR X (cZ .In) (rInD X.K false):=by intro n s t H x y v u Q I i j h;obtain⟨p,o,k,d,rfl,hq,c,a,e,q⟩:=h;cases j;obtain⟨b,r,g,m⟩:=I.list hq;refine SeqAt.in_listAt (eqW X.K H d) g.isList (λw f=>Bu I c i (by show X.A.units+1+31<cLine;lia) r a e w ↥f) (.bl _,H,I,rfl,?_,);rw[show b.toArray.any (eqW X.K H d)=b.any (eqW X.K H d) by simp,B4 I r a];exact q
def Jl(l:X.A.units+40<cLine):OpR X (cZ .NotIn) (rInD X.K true):=by intro n s t H x y v u Q I i j h;obtain⟨p,o,k,d,rfl,hq,c,a,e,q⟩:=h;cases j;obtain⟨b,r,g,m⟩:=I.list hq;refine OL (eqW X.K H d) g.isList (λw f=>Bu I c i (by show X.A.units+1+31<cLine;lia) r a e w ↥f) (.bl _,H,I,rfl,?_,);rw[show b.toArray.any (eqW X.K H d)=b.any (eqW X.K H d) by simp,B4 I r a];exact q
end
end L2
namespace Q
open PySem.W L2
abbrev ltI(ns:List Int)(i j:Nat):Bool:=decide (ns.getD i 0<ns.getD j 0)
abbrev FF(ns:List Int):List Nat:=if ns.length<2 then aC ns.length else(run (ltI ns) (dX ns.length)).toList
abbrev sortI(ns:List Int):List V:=(FF ns).map λi=>(ns.map V.int).getD i .non
def KR(d:ns.Nodup):Tot (ltI ns) ns.length where
 tri:=λi j hi c h=>by
  have g:ns.getD i 0≠ns.getD j 0:=λe=>by rw[ag,ag,ae hi,ae c]at e;exact h ((fV d).mp e)
  unfold ltI;by_cases a:ns.getD i 0<ns.getD j 0;·rw[decide_eq_true a,decide_eq_false 'D'];rfl
  .rw[decide_eq_false a,decide_eq_true 'D'];rfl
 tr:=λi j k hi c f a b=>by unfold ltI at a b⊢;have a:=W0 a;have b:=W0 b;exact decide_eq_true 'D'
def Di(a:ns.Nodup):(FF ns).length=ns.length:=by
 unfold FF;split;·simp
 .rw[cq,(gA (KR a) 'D').1.size]
theorem outI(n:ns.Nodup)(r:bS (ns.map V.int) vs):bS (sortI ns) (gB (ltI ns) vs):=by
 have g:=r.length;rw[ai]at g;have e:vs.length=ns.length:=by lia
 unfold gB sortI FF;rw[e];by_cases c:ns.length<2
 .rw[if_pos c,if_pos c];have a:(aC ns.length).map (λi=>(ns.map V.int).getD i V.non)=ns.map V.int:=by
   apply cy;·simp
   .intro i p b;have d:i<ns.length:=by simpa using b
    simp[d]
  rw[a];exact r
 .rw[if_neg c,if_neg c];have P:=(gA (KR n) 'D').1;have all:∀l:List Nat,(∀i∈l,i<ns.length)->bS (l.map λi=>(ns.map V.int).getD i V.non) (l.map λi=>vs.getD i bO):=by
   intro l
   induction l with
   |nil=>exact λ_=>.nil
   |cons i l ih=>
    intro h;have hi:i<(ns.map V.int).length:=by rw[ai];exact h i (.head _)
    obtain⟨u,k,o⟩:=r.get (ae hi);refine .cons ?_ (ih λj f=>h j (.tail _ f));show L2.RelV ((ns.map V.int).getD i V.non) (vs.getD i bO);rw[ag,ae hi,ag,k];exact o
  refine all _ λi hi=>?_;have m:i∈(aC ns.length).toArray:=P.perm.mem_iff.mp (kq.mp hi);simpa using m
def int_at(r:cn vs ns)(hi:i<ns.length):∃t,vs.getD i .none=.int (ns.getD i 0) t:=by
 induction r generalizing i with
 |nil=>exact absurd hi (fG _)
 |cons y t h ih=>
  cases i with
  |zero=>exact(t,rfl,)
  |succ i=>exact ih ↥hi
def Ni(r:cn vs ns):vs.length=ns.length:=by
 induction r with
 |nil=>rfl
 |cons y t h ih=>simp[ih]
def Ar(r:cn vs ns)(d:2<=vs.length):J6 prog w A (ltI ns) vs h0:=by
 intro g _;refine(oneType',λf e q=>?_,λi j C hi a _ q=>?_,)
 .match vs,r,d with
  |v1::v2::rest,r,_=>rw[keyKind_ints r];exact aj q
 .rw[Ni r]at hi a;obtain⟨t,b⟩:=int_at r hi;obtain⟨u,c⟩:=int_at r a;unfold kas_ask;rw[b,c,keyLt'_oneType];exact oneLt_int q
def LQ(K:ah):List V->Hp->VK->Prop:=λxs H Q=>∃p ns,xs=[V.ref p]/\SqL K H p (ns.map V.int)/\ns.length<64/\ns.Nodup/\∀l,H l=none->Q (.ref l) (upd H l (.lst (sortI ns)))
def BS:fA X (.builtin "sorted") (LQ X.K):=by
 intro x s A H z y Q I r h;obtain⟨p,a,rfl,hq,j,f,q⟩:=h;obtain⟨u,rfl,v⟩:=vals1 r;cases v;obtain⟨d,g,t,w⟩:=I.list hq;have l:=g.length;rw[ai]at l;have m:d.length=a.length:=by lia
 refine ud (lt:=ltI a) (vs:=d) (by rw[m];exact KR f) t.isList 'D' (λi=>Ar (intsAre_of g) i) ?_;obtain⟨c,k⟩:=sortedAll_at s.heap d (gB (ltI a) d).toArray;have n:(sortI a).length<=sizeLine:=by unfold sortI;rw[ai,Di f];exact fQ j
 exact(.ref (⇑s+1),_,I.laid (t':=s.toks) (λb o e=>OF e) (dw _) (show dA X.prog X.w _ _ _ (.lst (sortI a))from(n,_,c,outI f g,k,)),rfl,q _ (I.hok.fresh (dw _)),)
end Q
namespace L2
section
abbrev nats(n:Nat):List V:=(aC n).map λi:Nat=>V.int (i:Int)
def ES:∀(n:Nat)(ac:Array Value),ItemsOf (λi v=>∃t,v=lE (0+i*1) t) ac n->bS (nats n) ac.toList:=by
 intro n ac h;have g:∀(l:List Value)(k:Nat),(∀(j:Nat) v,l[j]?<*v->∃t,v=lE ((k+j:Nat):Int) t)->bS ((List.range' k l.length).map λi:Nat=>V.int (i:Int)) l:=by
  intro l
  induction l with
  |nil=>exact λ_ _=>.nil
  |cons v l ih=>intro k a;obtain⟨t,e⟩:=a 0 v rfl;refine .cons ⟨t,by rw[e];simp⟩ ?_;refine ih (k+1) λj w f=>?_;obtain⟨m,b⟩:=a (j+1) w ↥f;exact⟨m,by rw[b];congr 2;lia⟩
 have c:ac.toList.length=n:=by rw[cq];exact h.1
 have :=g ac.toList 0 λj v d=>by obtain⟨t,e⟩:=h.2 j v (by rw[<-pZ];exact d);exact⟨t,by rw[e];congr 1;lia⟩
 rw[c,<-List.range_eq_range']at this;exact this
def tLRng(ta:TA):TE:=λσ H Q=>ta σ H λvs H1=>∃n:Nat,vs=[.int n]/\n<=1000/\∀p,H1 p=none->Q (.ref p) (upd H1 p (.lst (nats n)))
def pe_lrng{a:Expr}{f:TA}{p:Pos}(k:X.calm=true)(l:Gl X "range")(w:X.mg "range"=none)(m:Gl X "list")(x:X.mg "list"=none)(j:PA X [a] f)(hs:bf [a] X.env=[(false,eval a X.env)]:=by rfl):
  PE X (.Call (.Name "list" p) [.Call (.Name "range" p') [a] [] pos'] [] pos) (tLRng f):=by
 intro A s D H Q I h;refine Call_ (jj I m x lX (bX (uL ?_) rfl rfl));refine Call_ (jj I l w boot_range (bX (thn (j pos' A s D H _ I h) λK J ⟨L,E,c,C,B⟩=>?_) hs rfl));obtain⟨n,e,G,q⟩:=B;subst e;cases C with
 |cons r rr=>
  cases rr;obtain⟨t,rfl⟩:=r;refine call_range_1 ?_;refine aj ?_;have y:wx 0 (n:Int) 1=(n:Int):=by rw[rangeSize_one];split <;>lia
  refine call_list_range (n:=n) (c.ok.hd k) (IsRange.new ..) (small_one 'E' 'E' 'D' 'D') y 'D' λF tk d g v i u=>?_;have z:=ES n d u;refine(.ref _,_,c.laid (t':=tk) (o:=.lst (nats n)) (λb o e=>v b o (af _ e)) ?_ (?_,d.toList,g,z,i,),rfl,q _ (c.hok.fresh ?_),);·simp[Heap.push]
  .unfold nats;rw[ai,bU,lU];lia
  .simp[Heap.push]
end
end L2
namespace D8
open PySem.W L2
noncomputable abbrev four:List (Int×Int):=[(0,0),(0,1),(1,0),(1,1)]
def Prs(H:Hp)(b:List Addr)(ps:List (Int×Int)):Prop:=b.length=ps.length/\∀(i:Nat) a q,b[i]?<*a->ps[i]?<*q->H a<*(.tup [.int q.1,.int q.2])
end D8
namespace L2
section
variable {es:List Expr}{kk:Nat}
def boot_zip:fv "zip"<*(.type "zip"):=by decide+kernel
end
def DkIn(P:Program)(w:World)(K:ah)(a:Addr)(kvs:List (Key×V)):Prop:=
 (a==eS)=false/\∃vs,KV kvs vs/\∀h,K.In h->h.DictOf (cg P w) a vs
end L2
namespace PySem
section
variable {E:'I'}{s:Shared}
def rO{j t:Addr}{xs:Array Value}{v:Value}{Q:'I'}(c:s.heap.IsTupleIter j t k)(g:s.heap.IsTuple t xs)(h:xs[k]?<*v)
  (q:∀h',h'.IsTupleIter j t (k+1)->dj j s.heap h'->Q v {s with heap:=h'}):'B' (cf (.ref j)) Q E s:=by
 obtain⟨o,b,d,a⟩:=id c;obtain⟨p,e,_,n,f⟩:=g;unfold cf;refine aa (dh (name:=aQ "__next__") c.typeIs iC (cC iC c.typeIs EK ?_ (Ez _)));show wpAny _ _ (field (.ref j) 0>>=_) _ _ s;refine aa (dq b a (x:=.ref t) rfl ?_);show wpAny _ _ (if(bD t==bO)=true then _ else _) _ _ s;rw[if_neg (λz:(bD t==bO)=true=>absurd z ao)];show wpAny _ _ (field (.ref j) 1>>=_) _ _ s;refine aa (dq b a (x:=.int k 0) rfl ?_);show wpAny _ _ (wg (.ref t)>>=_) _ _ s;refine aa (dm e f ?_);simp only[aW,h];refine aa (vI b a 'F' (aj (v,rfl,aj (q _ ?_ (bM ..)),)));exact⟨_,bW _ b (jX (fw a _)),(Obj.cls_mapFields ..).trans d,by rw[fw a];simp[rawInt]⟩
def Bk{j t:Addr}{xs:Array Value}{Q:'I'}(f:A.handled=none)(d:s.heap.IsTupleIter j t k)(i:s.heap.IsTuple t xs)(l:xs[k]? =none)
  (q:∀h' e,Heap.ExtBut j s.heap h'->(∃o,h'.get? e<*o/\o.cls=.type "StopIteration")->E (.ref e) {s with heap:=h'}):'B' (cf (.ref j)) Q E s:=by
 obtain⟨o,b,r,c⟩:=id d;obtain⟨p,g,_,n,h⟩:=i;unfold cf;refine aa (dh (name:=aQ "__next__") d.typeIs iC (cC iC d.typeIs EK ?_ (Ez _)));show wpAny _ _ (field (.ref j) 0>>=_) _ _ s;refine aa (dq b c (x:=.ref t) rfl ?_);show wpAny _ _ (if(bD t==bO)=true then _ else _) _ _ s;rw[if_neg (λz:(bD t==bO)=true=>absurd z ao)];show wpAny _ _ (field (.ref j) 1>>=_) _ _ s;refine aa (dq b c (x:=.int k 0) rfl ?_);show wpAny _ _ (wg (.ref t)>>=_) _ _ s;refine aa (dm g h ?_);simp only[aW,l];refine aa (fW (aa (vI b c 'F' ?_)));show wpAny _ _ (newExc (.type "StopIteration") []>>=_) _ _ _;refine aa ?_;simp only[newExc,newTuple];refine aa (cm ?_ (by size_fits));refine aa (m:=vL _ _) (pQ (a:=bO) (by first |rfl| (simp only[vL];rfl)) ?_);refine cm ?_ (by size_fits);simp only[Kg];refine aa (wpAny_handled ?_);first |rw[show A.in1.handled=none from f] |rw[f]
 refine aa (aj (wpAny_throw ?_));exact q _ _ (((bM ..).extBut.push _).push _) ⟨_,av _ rfl,rfl⟩
end
end PySem
namespace L2
def tup_ne{g:Array Value}{o:Obj}(f:h.IsTuple a g)(b:h.get? c<*o)(d:o.cls≠.type "tuple"):a≠c:=by obtain⟨i,e,k,_⟩:=f;rintro rfl;rw[e]at b;cases b;exact d k
end L2
namespace PySem
open _root_.PySem.Sem (wp)
local macro_rules | `(term| «the numeral») => return Lean.mkIdent (cz (cz (cz (Lean.Name.num (cz (cz (cz (cz (cz EJ "_private") "PySem") "Builtin") "Int") "W0All") 0) "PySem") "Builtin") "readNumeral")
local macro_rules | `(term| «a value») => return Lean.mkIdent (cz (cz (cz (cz (Lean.Name.num (cz (cz (cz (cz (cz EJ "_private") "PySem") "Builtin") "Int") "W0All") 0) "PySem") "Builtin") "Numeral") "value")
end PySem
namespace L2
inductive Fig:Str->Int->Prop
 |one {a:Nat} (h:a<10):Fig ⟨#[48+a]⟩ (a:Nat)
 |two {a b:Nat} (ha:a<10) (hb:b<10):Fig ⟨#[48+a,48+b]⟩ (10*a+b:Nat)
end L2
namespace Q
open PySem.W L2
abbrev llt:List Int->List Int->Bool
 | [],[]=>false
 | [],_::_=>true
 |_::_,[]=>false
 |a::x,b::y=>decide (a<b)||(decide (a=b)&&llt x y)
theorem zQ:∀{x y z:List Int},llt x y=true->llt y z=true->llt x z=true
 | [],[],_,h,_=>nomatch h
 | [],_::_,[],_,h=>nomatch h
 | [],_::_,_::_,_,_=>rfl
 |_::_,[],_,h,_=>nomatch h
 |_::_,_::_,[],_,h=>nomatch h
 |a::x,b::y,c::z,h,k=>by
  simp only[llt,cJ,az,decide_eq_true_eq]at h k⊢;rcases h with h|⟨rfl,h⟩
  .rcases k with k|⟨rfl,k⟩;·exact .inl 'D'
   .exact .inl h
  .rcases k with k|⟨rfl,k⟩;·exact .inl k
   .exact .inr (rfl,zQ h k,)
theorem vW:∀{x y:List Int},x≠y->llt x y= !llt y x
 | [],[],h=>absurd rfl h
 | [],_::_,_=>rfl
 |_::_,[],_=>rfl
 |a::x,b::y,h=>by
  by_cases e:a=b;·subst e;have :=vW (x:=x) (y:=y) λz=>h (by rw[z]);simp[llt,this]
  .by_cases c:a<b
   .have :¬b<a:=by lia
    simp[llt,c,this,e,bK e]
   .have :b<a:=by lia
    simp[llt,c,this,e,bK e]
abbrev ltL(ps:List (List Int))(i j:Nat):Bool:=llt (ps.getD i []) (ps.getD j [])
abbrev FE(ps:List (List Int)):List Nat:=if ps.length<2 then aC ps.length else(run (ltL ps) (dX ps.length)).toList
abbrev gz{α:Type}(d:α)(ps:List (List Int))(ys:List α):List α:=(FE ps).map λi=>ys.getD i d
def neL{ps:List (List Int)}(b:ps.Nodup)(hi:i<ps.length)(a:j<ps.length)(h:i≠j):ps.getD i []≠ps.getD j []:=λe=>by rw[ag,ag,ae hi,ae a]at e;exact h ((fV b).mp e)
def totL{ps:List (List Int)}(d:ps.Nodup):Tot (ltL ps) ps.length where
 tri:=λi j hi c h=>vW (neL d hi c h)
 tr:=λi j k _ _ _ a b=>zQ a b
theorem pF{ps:List (List Int)}(a:ps.Nodup):(FE ps).Perm (aC ps.length):=by
 unfold FE;split;·exact eY _
 .have P:=(gA (totL a) 'D').1;have :=gU.mp P.perm;simpa using this
theorem zI{ps:List (List Int)}(k:ps.Nodup)(f:ps.length=ys.length)(r:bS ys vs):bS (gz .non ps ys) (gB (ltL ps) vs):=by
 have p:=r.length;have e:vs.length=ps.length:=by lia
 unfold gB gz FE;rw[e];by_cases c:ps.length<2
 .rw[if_pos c,if_pos c];have a:(aC ps.length).map (λi=>ys.getD i V.non)=ys:=by
   rw[f];apply cy;·simp
   .intro i o b;simp[b]
  rw[a];exact r
 .rw[if_neg c,if_neg c];have P:=(gA (totL k) 'D').1;have all:∀l:List Nat,(∀i∈l,i<ps.length)->bS (l.map λi=>ys.getD i V.non) (l.map λi=>vs.getD i bO):=by
   intro l
   induction l with
   |nil=>exact λ_=>.nil
   |cons i l ih=>
    intro h;have hi:i<ys.length:=by have :=h i (.head _);lia
    obtain⟨u,g,n⟩:=r.get (ae hi);refine .cons ?_ (ih λj d=>h j (.tail _ d));show L2.RelV (ys.getD i V.non) (vs.getD i bO);rw[ag,ae hi,ag,g];exact n
  refine all _ λi hi=>?_;have m:i∈(aC ps.length).toArray:=P.perm.mem_iff.mp (kq.mp hi);simpa using m
def uI(h:Heap)(vs:List Value)(ps:List (List Int)):Prop:=Paired (λv k=>∃a o ad n,v=.ref a/\h.get? a<*o/\o.cls=.type "tuple"/\o.data=.seq ad n/\cn ad.toList k) vs ps
def gf{ps:List (List Int)}(r:uI h vs ps)(hi:i<vs.length):∃a o ad n,vs.getD i .none=.ref a/\h.get? a<*o/\o.data=.seq ad n/\cn ad.toList (ps.getD i []):=by
 unfold uI at r
 induction r generalizing i with
 |nil=>exact absurd hi (fG _)
 |cons y t ih=>
  cases i with
  |zero=>obtain⟨a,o,ad,n,b,c,f,d,e⟩:=y;exact(a,o,ad,n,b,c,d,e,)
  |succ i=>exact ih ↥hi
def Nj(s:∀b o,h.get? b<*o->h1.get? b<*o){ps:List (List Int)}(r:uI h vs ps)(e:∀k∈ps,k≠[]):∃fs,KatTups h1 vs fs/\fs.length=vs.length/\∀v∈fs,∃x t,v=lE x t:=by
 unfold uI at r
 induction r with
 |nil=>exact⟨[],.nil,rfl,λv hv=>nomatch hv⟩
 | @cons v k vs ps y t ih=>
  obtain⟨fs,f,g,i⟩:=ih λk c=>e k (aG _ c);obtain⟨a,o,q,n,rfl,j,m,p,d⟩:=y;have c:=e k aM;obtain⟨l⟩:=q;cases l with
  |nil=>cases d;exact absurd rfl c
  |cons u l=>
   cases d with
   |cons x t h=>
    refine(_::fs,.cons (s _ _ j) m p rfl f,by simp[g],λv hv=>?_,);rcases aA.mp hv with rfl|hv;·exact(_,_,rfl,)
    .exact i v hv
def MW{b j:Bool}{C:Bool->Shared->Prop}{xs ys:List Value}{x y:List Int}(i:Nat)(g:cn xs x)(d:cn ys y)(f:x.length=y.length)(h:x≠y)(q:C (llt x y) s):KatLex prog w A b j C (xs.zip ys) (i+1) s:=by
 induction g generalizing ys y i with
 |nil=>cases d with
  |nil=>exact absurd rfl h
  |cons=>simp at f
 |cons a t g ih=>cases d with
  |nil=>simp at f
  |cons c u d=>
   refine kat_cons (qX ?_);by_cases e:a=c;·subst e;rw[show(a==a)=true by simp];refine kat_yes (ih (i+1) d ↥f (λz=>h (by rw[z])) ?_);simp[llt]at q;exact q
   .rw[show(a==c)=false by simpa using e];refine kat_no ?_;rw[show(b&&(i+1==0))=false by simp];refine kat_one _ _ (lt_int ?_);simp[llt,e]at q;exact q
def B2{ps:List (List Int)}(s:ps.Nodup)(f:vs.length=ps.length)(r:uI h0 vs ps)(W:2<=vs.length)(g:∀k∈ps,k.length=m):J6 prog w A (ltL ps) vs h0:=by
 have l:m≠0:=λz=>by
  have e:∀i,i<ps.length->ps.getD i []=[]:=λi hi=>by rw[ag,ae hi];exact bh.mp ((g _ (aR hi)).trans z)
  exact neL s (i:=0) (j:=1) 'D' 'D' 'E' ((e 0 'D').trans (e 1 'D').symm)
 intro Z p;refine(tuples' true,λU S q=>?_,λi j C hi h M q=>?_,);·obtain⟨fs,B,V,D⟩:=Nj p r λk N z=>l (by rw[<-g k N,z];rfl);refine kat_kind (T:=.type "int") B 'D' (λv P=>?_) rfl q;obtain⟨x,t,rfl⟩:=D v P;exact Looks.of_pure rfl
 .obtain⟨a,o,Q,n,E,F,G,H⟩:=gf r hi;obtain⟨b,Y,R,X,I,J,K,L⟩:=gf r h;have O:=neL s (f▸hi) (f▸h) M;have l1:(ps.getD i []).length=m:=by rw[ag,ae (f▸hi)];exact g _ (aR _)
  have l2:(ps.getD j []).length=m:=by rw[ag,ae (f▸h)];exact g _ (aR _)
  unfold kas_ask;unfold ltL at q;rw[E,I];generalize ps.getD i []=x at *;generalize ps.getD j []=y at *;refine kat_lt (p _ _ F) G (p _ _ J) K ?_;generalize Q.toList=xs at *;generalize R.toList=ys at *;cases H with
  |nil=>exact absurd l1.symm l
  | @cons c t xs x hx=>
   cases L with
   |nil=>exact absurd l2.symm l
   | @cons d u ys y hy=>
    refine kat_cons (qX ?_);by_cases e:c=d;·subst e;rw[show(c==c)=true by simp];refine kat_yes (MW 0 hx hy (by simp at l1 l2;lia) (λz=>O (by rw[z])) ?_);simp[llt]at q;exact q
    .rw[show(c==d)=false by simpa using e];refine kat_no (oneLt_int ?_);simp[llt,e]at q;exact q
def IntKeys(H:Hp)(ys:List V)(ps:List (List Int)):Prop:=Paired (λv k=>∃a,v=V.ref a/\H a<*(.tup (k.map V.int))) ys ps
def uZ{ps:List (List Int)}(h:IntKeys H ys ps):ps.length=ys.length:=by
 unfold IntKeys at h
 induction h with
 |nil=>rfl
 |cons _ _ ih=>simp[ih]
def wa(ok:HOk P w H h){ps:List (List Int)}(k:IntKeys H ys ps):bS ys vs->uI h vs ps:=by
 unfold IntKeys at k
 induction k generalizing vs with
 |nil=>intro z;cases z;exact .nil
 |cons y t ih=>
  intro z;cases z with
  |cons r q=>obtain⟨a,rfl,e⟩:=y;cases r;obtain⟨_,f,g,o,b,c,n,d⟩:=ok a _ e;exact .cons (a,o,f.toArray,n,rfl,b,c,d,↥(intsAre_of g),) (ih q)
def LP(K:ah):List V->Hp->VK->Prop:=λxs H Q=>∃p ys ps m,xs=[V.ref p]/\SqL K H p ys/\ps.length<64/\ps.Nodup/\(∀k∈ps,k.length=m)/\IntKeys H ys ps/\∀l,H l=none->Q (.ref l) (upd H l (.lst (gz .non ps ys)))
def BR:fA X (.builtin "sorted") (LP X.K):=by
 intro C s F H E D Q I r h;obtain⟨p,i,a,m,rfl,hq,z,f,v,j,q⟩:=h;obtain⟨u,rfl,y⟩:=vals1 r;cases y;obtain⟨d,g,x,B⟩:=I.list hq;have t:a.length=i.length:=uZ j;have A:=g.length;have k:d.length=a.length:=by lia
 refine ud (lt:=ltL a) (vs:=d) (by rw[k];exact totL f) x.isList 'D' (λl=>B2 f k (wa I.hok j g) l v) ?_;obtain⟨c,n⟩:=sortedAll_at s.heap d (gB (ltL a) d).toArray;have w:(gz V.non a i).length<=sizeLine:=by unfold gz;rw[ai,(pF f).length_eq,bU];lia
 exact(.ref (⇑s+1),_,I.laid (t':=s.toks) (λb o e=>OF e) (dw _) (show dA X.prog X.w _ _ _ (.lst (gz .non a i))from(w,_,c,zI f t g,n,)),rfl,q _ (I.hok.fresh (dw _)),)
theorem DD:∀x:List Int,llt x x=false
 | []=>rfl
 |a::x=>by simp[llt,DD x]
def HF{B:Builtin}{op:CmpOp}{f:List Int->List Int->Bool}(H:(B=Builtin.«tuple.__lt__»/\op=.Lt/\f=llt)\/(B=Builtin.«tuple.__gt__»/\op=.Gt/\f=λa b=>llt b a)){a b:List Int}{P:dN->Shared->Prop}(M:IsTup s.heap p us.toArray)(J:IsTup s.heap q vs.toArray)
  (C:cn us a)(D:cn vs b)(I:a.length=b.length)
  (h:P (.done (.ret (.bool (f a b)))) s):'B' (B ([.ref p,.ref q],[],)) P E s:=by
 have⟨g,ci,fc⟩:∃g:Int->Int->Bool,(∀{m n:Int}{t u:Nat}{s:Shared}{Q:'I'},Q (.bool (g m n)) s->'B' (cZ op (.int m t) (.int n u)) Q E s)/\∀{m n:Int}{x y:List Int},m≠n->f (m::x) (n::y)=g m n:=by
  rcases H with⟨_,rfl,rfl⟩ |⟨_,rfl,rfl⟩;·exact⟨λm n=>decide (m<n),λq=>lt_int q,λc=>by simp[llt,c]⟩
  .exact⟨λm n=>decide (n<m),λq=>PyProof.Rows.gt_int q,λc=>by simp[llt,bK c]⟩
 rcases H with⟨rfl,rfl,hf⟩ |⟨rfl,rfl,hf⟩
 all_goals
  show wpAny _ _ (Kj (.ref q) (.type "tuple")>>=_) _ _ s;refine aa (kW J.typeIs isSubtype_tuple_tuple ?_);simp only[gF,aY,if_false];refine aa (tupleItemsOf_ M ?_);refine aa (tupleItemsOf_ J ?_);refine aa ?_;show wpAny _ _ (forIn (us.zip vs) _ _) _ _ s;refine wpAny_forIn_list _ (λK r G=>r.1=none/\G=s/\∃k l o v,K=List.zip k l/\k.length=l.length/\cn k o/\cn l v/\f a b=f o v) _ ?_ ?_ _ _ (rfl,rfl,us,vs,a,b,rfl,by rw[C.length,D.length,I],C,D,rfl,)
  .rintro x K ⟨r,_⟩ G ⟨F,rfl,k,l,o,v,e,j,i,d,z⟩;obtain rfl:r=none:=F;cases i with
   |nil=>cases e
   |cons m t i=>
    cases d with
    |nil=>cases j
    |cons n u d=>
     rw[vq]at e;cases e;dsimp only;refine aa (qX ?_);by_cases c:m=n;·rw[show(m==n)=true by simpa using c];simp only[gF,aY,if_false];refine aj (rfl,rfl,_,_,_,_,rfl,↥j,i,d,?_,);rw[z];simp[hf,llt,c]
     .rw[show(m==n)=false by simpa using c];simp only[Bool.not_false,if_true];rw[z,fc c]at h;refine aa (fW (aa (ci (aa (aj (aj ?_))))));exact aj h
  .rintro⟨r,_⟩ G ⟨F,rfl,k,l,o,v,e,j,i,d,z⟩;obtain rfl:r=none:=F;dsimp only;have L:f a b=false:=by
    rw[z];cases i with
    |nil=>cases d with
     |nil=>rw[hf];rfl
     |cons n u d=>cases j
    |cons m t i=>cases d with
     |nil=>cases j
     |cons n u d=>rw[vq]at e;cases e
   rw[L]at h;have N:us.toArray.size=vs.toArray.size:=by rw[aE,aE,C.length,D.length,I]
   rw[N];simp only[Builtin.Tuple.tupleCompareSizes,eL,decide_false];exact aj h
def HC{a b:List Int}{P:dN->Shared->Prop}(f:IsTup s.heap p us.toArray)(g:IsTup s.heap q vs.toArray)
  (c:cn us a)(d:cn vs b)(e:a.length=b.length)
  (h:P (.done (.ret (.bool (llt a b)))) s):'B' (Builtin.«tuple.__lt__» ([.ref p,.ref q],[],)) P E s:=HF (.inl (rfl,rfl,rfl,)) f g c d e h
def gt_tree{a b:List Int}{P:dN->Shared->Prop}(g:IsTup s.heap p us.toArray)(i:IsTup s.heap q vs.toArray)
  (c:cn us a)(d:cn vs b)(e:a.length=b.length)
  (h:P (.done (.ret (.bool (llt b a)))) s):'B' (Builtin.«tuple.__gt__» ([.ref p,.ref q],[],)) P E s:=HF (f:=λa b=>llt b a) (.inr (rfl,rfl,rfl,)) g i c d e h
section
variable {I:Addr}{fp wr:List Addr}{G:Array lW->Array lW->Prop}{P:Nat->Value->Prop}{St:Nat->Shared->Prop}{R:Result->Shared->Prop}
def MM{N:String}{B:Builtin}{op:CmpOp}(m:Kk table N<*B)(k:plainId N=true)(n:(N="min.loop"/\B=Builtin.«min.loop»/\op=.Lt)\/(N="max.loop"/\B=Builtin.«max.loop»/\op=.Gt))(W:WalksS prog w A.in1 I fp wr G 2 P St)(q:S∉fp){v0 v1:Value}(h0:∀v,P 0 v->v=v0)(M:∀v,P 1 v->v=v1){c:Nat}{bt:Bool}(U:St 0 s)
  (J:s.heap.get? S<*{cls:=.type "list",dict:=none,data:=.seq #[] c,slots:= #[]})
  (T:∀(s':Shared)(Q:'I')(E:'I'),Moved (S::wr) G s s'->Q (.bool bt) s'->wpAny (model prog w) A.in1 (richCompare op v1 v0) Q E s')
  (O:∀s',Moved (S::wr) G s s'->R (.ok (.ret (if bt=true then v1 else v0))) s'):gK (model prog w) A (.builtin N ([.ref I,.none,.ref S],[],)) R s:=by
 have r:S∉wr:=λh=>q (W.sub _ h);have H:∀b∈wr,b∈S::wr:=λb f=>aG _ f;have nm:(toString "min"++toString ".loop":String)="min.loop":=by decide
 have C:(toString "max"++toString ".loop":String)="max.loop":=by decide
 have D:∀{b:Addr},b∉S::wr->S≠b:=λf h=>f (by rw[h];exact aM)
 --the u turn
 have u:∀(a:Shared)(x:Value)(d:Nat),St 2 a->a.heap.get? S<*{cls:=.type "list",dict:=none,data:=.seq #[x,x] d,slots:= #[]}->Moved (S::wr) G s a->x=(if bt=true then v1 else v0)->
   gK (model prog w) A (.builtin N ([.ref I,.none,.ref S],[],)) R a:=by
  intro a x d F g y L;refine fg m ?_;rw[dG k _];rcases n with⟨rfl,rfl,rfl⟩ |⟨rfl,rfl,rfl⟩
  all_goals
   show wpAny _ A.in1 (wg (.ref S)>>=_) _ _ a;refine aa (dm g rfl ?_);show wpAny _ A.in1 (tryCatch (pyNext (.ref I)) _>>=_) _ _ a;refine aa (vH (W.done a _ _ F λs' j=>?_));have i:=j.heap S _ r g;show wpAny _ A.in1 (updateSeq S (λ_=> #[])>>=_) _ _ _;refine aa (tO i rfl (aa (iE (aj ?_))));rw[L];exact O _ (Kr W.gtrans y ((j.mono H).then_heap (tk:=s'.toks) (ay _) λb o f e=>(aP _ _ (D f)).trans e))
 --the K
 have K:∀(a:Shared)(d:Nat),St 1 a->a.heap.get? S<*{cls:=.type "list",dict:=none,data:=.seq #[v0,v0] d,slots:= #[]}->Moved (S::wr) G s a->
   gK (model prog w) A (.builtin N ([.ref I,.none,.ref S],[],)) R a:=by
  intro a d F g y;refine fg m ?_;rw[dG k _];rcases n with⟨rfl,rfl,rfl⟩ |⟨rfl,rfl,rfl⟩
  all_goals
   show wpAny _ A.in1 (wg (.ref S)>>=_) _ _ a;refine aa (dm g rfl ?_);show wpAny _ A.in1 (tryCatch (pyNext (.ref I)) _>>=_) _ _ a;refine aa (vH (W.item 1 a _ _ 'E' F λv s' p l j=>?_));obtain rfl:=M v p;have i:=j.heap S _ r g;have z:=Kr W.gtrans y (j.mono H);show wpAny _ A.in1 (tryCatch (holding [v,v] (richCompare _ v v0>>=_)) _>>=_) _ _ _;refine aa (vH (bY (aa (T _ _ _ z ?_))));refine aa (bY (dB ?_));refine aa (iE (aj ?_));cases f:bt with
   |true=>
    simp only[if_true];refine aa (tO i rfl (aa (iE ?_)))
    first |rw[nm] |rw[C]
    refine aj ⟨fY k _,u _ v _ (W.frame _ s' _ s'.toks l (ay _) λb t o e=>?_) (bW _ i rfl) (z.then_heap (ay _) λb o f e=>(aP _ _ (D f)).trans e) (by rw[f];rfl)⟩;exact(aP _ _ (λh:S=b=>q (by rw[h];exact t))).trans e
   |false=>
    simp only[aY,if_false];refine aa (iE ?_)
    first |rw[nm] |rw[C]
    exact aj ⟨fY k _,u _ v0 _ l i z (by rw[f];rfl)⟩
 refine fg m ?_;rw[dG k _];rcases n with⟨rfl,rfl,rfl⟩ |⟨rfl,rfl,rfl⟩
 all_goals
  show wpAny _ A.in1 (wg (.ref S)>>=_) _ _ s;refine aa (dm J rfl ?_);show wpAny _ A.in1 (tryCatch (pyNext (.ref I)) _>>=_) _ _ s;refine aa (vH (W.item 0 s _ _ 'E' U λv s' p l j=>?_));obtain rfl:=h0 v p;have i:=j.heap S _ r J;show wpAny _ A.in1 (updateSeq S (λ_=> #[v,v])>>=_) _ _ _;refine aa (tO i rfl ?_)
  first |rw[nm] |rw[C]
  refine aj ⟨fY k _,K _ _ (W.frame _ s' _ s'.toks l (ay _) λb t o e=>?_) (bW _ i rfl) ((j.mono H).then_heap (ay _) λb o f e=>(aP _ _ (D f)).trans e)⟩;exact(aP _ _ (λh:S=b=>q (by rw[h];exact t))).trans e
def mm_go{N:String}{B:Builtin}{op:CmpOp}(k:Kk table N<*B)(L:plainId N=true)(t:(N="min.loop"/\B=Builtin.«min.loop»/\op=.Lt)\/(N="max.loop"/\B=Builtin.«max.loop»/\op=.Gt))(y:A.handled=none){bt:Bool}
  (x:∀(s':Shared)(Q:'I')(E:'I'),(∀c o,s.heap.get? c<*o->s'.heap.get? c<*o)->Q (.bool bt) s'->wpAny (model prog w) A.in1 (richCompare op (.ref q) (.ref p)) Q E s')
  (h:∀h' tk,(∀c o,s.heap.get? c<*o->h'.get? c<*o)->R (.ok (.ret (if bt=true then .ref q else .ref p))) {s with heap:=h',toks:=tk}) (l:n=⇑s+1) (j:m=⇑s+2):
  gK (model prog w) A (.builtin N ([.ref n,.none,.ref m],[],)) R {s with heap:=((s.heap.push {cls:=.type "tuple",data:=.seq #[.ref p,.ref q]}).push {cls:=.type "tuple_iterator",data:=.fields #[.ref ⇑s,.int 0 0]}).push {cls:=.type "list",data:=.seq #[]}}:=by
 have u:(s.heap.push {cls:=.type "tuple",data:=.seq #[.ref p,.ref q]}).IsTuple ⇑s #[.ref p,.ref q]:=(_,av _ rfl,rfl,0,rfl,);have C:(s.heap.push {cls:=.type "tuple",data:=.seq #[.ref p,.ref q]}).objs.size=⇑s+1:=bc ..;have D:∀o d:Obj,((s.heap.push o).push d).objs.size=⇑s+2:=λo d=>by rw[bc,bc]
 rw[l,j];have old:∀{G:Array lW->Array lW->Prop}{F H I:Obj}{s':Shared},Moved [⇑s+2,⇑s+1] G {s with heap:=((s.heap.push F).push H).push I} s'->∀c o,s.heap.get? c<*o->s'.heap.get? c<*o:=λa c o e=>by have z:=aw e;refine a.heap c o (λb=>?_) (af _ (af _ (af _ e)));simp only[aA,bg,or_false]at b;rcases b with e|e<;>exact absurd z (by rw[e];exact Nat.not_lt.mpr (eH _ _))
 refine MM k L t (v0:=.ref p) (v1:=.ref q) (bt:=bt) ((Walks.tuple (A:=A.in1) y _ ⇑s (aL (eG _)) #[.ref p,.ref q]).toS) 'F' (λv e=>by simpa using e.symm) (λv e=>by simpa using e.symm) ((_,af _ (C▸av _ rfl),rfl,rfl,),(u.push _).push _,) (D _ _▸av _ rfl) (λs' g f a=>x s' g f (old a)) λs' a=>?_;have J:=old a;obtain⟨h',r,i,M,K⟩:=s';obtain rfl:r=s.gens:=a.gens;obtain rfl:i=s.drawn:=a.drawn;obtain rfl:K=s.os:=a.os;exact h h' M J
def JR{a b:List Int}{Q:'I'}(j:A.handled=none)(l:A.units+1<cLine)(m:IsTup s.heap p us.toArray)(n:IsTup s.heap q vs.toArray)(g:cn us a)(i:cn vs b)(k:a.length=b.length)
  (h:∀h' tk,(∀c o,s.heap.get? c<*o->h'.get? c<*o)->Q (if llt b a=true then .ref q else .ref p) {s with heap:=h',toks:=tk}):
  'B' (call (.builtin "min") [.ref p,.ref q]) Q E s:=by
 refine call_function_tree F.kind_min F.plain_min F.entry_min (F.args_min2 _ _) ?_;show wpAny _ A.in1 (fO "min" ["key","default"] 0 ([],[],)>>=_) _ _ s;refine aa (pQ (show fO "min" ["key","default"] 0 ([],[],)=pure [none,none]from rfl) ?_);show wpAny _ A.in1 (newTuple [.ref p,.ref q]>>=_) _ _ s;refine aa (cm (aa (eR (_,av _ rfl,rfl,0,rfl,) (aa (cm ?_)))));rw[show(toString "min"++toString ".loop":String)="min.loop" by decide];refine aj (fY F.plain_min_loop _,mm_go F.entry_min_loop F.plain_min_loop (.inl (rfl,rfl,rfl,)) j (λv u t old r=>?_) h (bc ..) ((bc ..).trans (congrArg (·+1) (bc ..))),);have f:=m.keeps old;have d:=n.keeps old;exact ng (op:=.Lt) d.typeIs f.typeIs rB (cC rB d.typeIs F.entry_tuple_lt (HC d f i g k.symm (_,rfl,(λe=>nomatch e),r,)) (F.args_tuple_lt_2 _ _)) l
def JT{a b:List Int}{Q:'I'}(j:A.handled=none)(l:A.units+1<cLine)(m:IsTup s.heap p us.toArray)(n:IsTup s.heap q vs.toArray)(g:cn us a)(i:cn vs b)(k:a.length=b.length)
  (h:∀h' tk,(∀c o,s.heap.get? c<*o->h'.get? c<*o)->Q (if llt a b=true then .ref q else .ref p) {s with heap:=h',toks:=tk}):
  'B' (call (.builtin "max") [.ref p,.ref q]) Q E s:=by
 refine call_function_tree F.kind_max F.plain_max F.entry_max (F.args_max2 _ _) ?_;show wpAny _ A.in1 (fO "max" ["key","default"] 0 ([],[],)>>=_) _ _ s;refine aa (pQ (show fO "max" ["key","default"] 0 ([],[],)=pure [none,none]from rfl) ?_);show wpAny _ A.in1 (newTuple [.ref p,.ref q]>>=_) _ _ s;refine aa (cm (aa (eR (_,av _ rfl,rfl,0,rfl,) (aa (cm ?_)))));rw[show(toString "max"++toString ".loop":String)="max.loop" by decide];refine aj (fY F.plain_max_loop _,mm_go F.entry_max_loop F.plain_max_loop (.inr (rfl,rfl,rfl,)) j (λv u t old r=>?_) h (bc ..) ((bc ..).trans (congrArg (·+1) (bc ..))),);have f:=m.keeps old;have d:=n.keeps old;exact ng (op:=.Gt) d.typeIs f.typeIs F.slot_tuple_gt (cC F.slot_tuple_gt d.typeIs F.entry_tuple_gt (gt_tree d f i g k.symm (_,rfl,(λe=>nomatch e),r,)) (F.args_tuple_gt_2 _ _)) l
end
def rMinL(K:ah):List V->Hp->VK->Prop:=λxs H Q=>∃(p q:Addr)(a b:List Int),xs=[V.ref p,V.ref q]/\SqT K H p (a.map V.int)/\SqT K H q (b.map V.int)/\a.length=b.length/\Q (if llt b a=true then .ref q else .ref p) H
def rMaxL(K:ah):List V->Hp->VK->Prop:=λxs H Q=>∃(p q:Addr)(a b:List Int),xs=[V.ref p,V.ref q]/\SqT K H p (a.map V.int)/\SqT K H q (b.map V.int)/\a.length=b.length/\Q (if llt a b=true then .ref q else .ref p) H
def JQ(e:X.calm=true)(g:X.A.units+1<cLine):fA X (.builtin "min") (rMinL X.K):=by intro x s B H A y Q I r h;obtain⟨p,q,a,b,rfl,c,d,f,hq⟩:=h;obtain⟨u,z,rfl,l,m⟩:=vals2 r;cases l;cases m;obtain⟨v,n,i,_⟩:=I.tuple c;obtain⟨w,o,j,_⟩:=I.tuple d;refine _root_.Q.JR (I.ok.hd e) g i j (intsAre_of n) (intsAre_of o) f λt tk k=>(_,H,I.kept k,?_,hq,);split <;>rfl
def JS(e:X.calm=true)(g:X.A.units+1<cLine):fA X (.builtin "max") (rMaxL X.K):=by intro x s B H A y Q I r h;obtain⟨p,q,a,b,rfl,c,d,f,hq⟩:=h;obtain⟨u,z,rfl,l,m⟩:=vals2 r;cases l;cases m;obtain⟨v,n,i,_⟩:=I.tuple c;obtain⟨w,o,j,_⟩:=I.tuple d;refine _root_.Q.JT (I.ok.hd e) g i j (intsAre_of n) (intsAre_of o) f λt tk k=>(_,H,I.kept k,?_,hq,);split <;>rfl
abbrev oO(k:List Int×List Int):List Int:=k.1++k.2
theorem HD:∀{a c:List Int}(b d:List Int),a.length=c.length->llt (a++b) (c++d)=(llt a c||(decide (a=c)&&llt b d))
 | [],[],b,d,_=>by simp[llt]
 |x::a,y::c,b,d,h=>by
  have e:=HD (a:=a) (c:=c) b d ↥h;simp only[yR,llt,e];by_cases e1:x=y;·subst e1;simp
  .simp[e1]
def P2(h:Heap)(v:Value)(k:List Int×List Int):Prop:=∃a o ad n x y rest us ws,v=.ref a/\h.get? a<*o/\o.cls=.type "tuple"/\o.data=.seq ad n/\ad.toList=.ref x::.ref y::rest/\IsTup h x (us:List Value).toArray/\IsTup h y (ws:List Value).toArray/\cn us k.1/\cn ws k.2
def P2s(h:Heap)(vs:List Value)(ps:List (List Int×List Int)):Prop:=Paired (P2 h) vs ps
def p2_at{ps:List (List Int×List Int)}(r:P2s h vs ps)(hi:i<vs.length):P2 h (vs.getD i .none) (ps.getD i ([],[])):=by
 unfold P2s at r
 induction r generalizing i with
 |nil=>exact absurd hi (fG _)
 |cons y t ih=>
  cases i with
  |zero=>exact y
  |succ i=>exact ih ↥hi
def p2_kat(c:∀b o,h.get? b<*o->h1.get? b<*o){ps:List (List Int×List Int)}(r:P2s h vs ps):∃fs,KatTups h1 vs fs/\fs.length=vs.length/\∀v∈fs,∃x o,v=bD x/\h1.get? x<*o/\o.cls=.type "tuple":=by
 unfold P2s at r
 induction r with
 |nil=>exact⟨[],.nil,rfl,λv hv=>nomatch hv⟩
 | @cons v k vs ps y t ih=>
  obtain⟨fs,d,e,f⟩:=ih;obtain⟨a,o,s,n,x,y,u,w,z,rfl,i,j,l,m,⟨q,p,g,_⟩,_⟩:=y;refine(.ref x::fs,.cons (c _ _ i) j l (by rw[<-pZ,m];rfl) d,by simp[e],λv hv=>?_,);rcases aA.mp hv with rfl|hv;·exact(x,q,rfl,c _ _ p,g,)
  .exact f v hv
section
variable {E:'I'}{s:Shared}
def FX{k:List Int}(r:cn us k):ItemsAre (cg prog w) (k.map .inl) us:=by
 induction r with
 |nil=>exact .nil
 |cons n t r ih=>exact .cons (oA _ _ _ _) ih
def GV{x:Addr}{k:List Int}(t:IsTup h x us.toArray)(r:cn us k):IsTupleKey (cg prog w) h (k.map .inl) x:=by obtain⟨o,c,a,n,b⟩:=t;exact(o,us.toArray,n,c,a,b,FX r,)
def inl_inj{a c:List Int}:decide (a.map (eK:Int->Key)=c.map eK)=decide (a=c):=by
 refine decide_eq_decide.mpr ⟨λh=>?_,λh=>by rw[h]⟩
 induction a generalizing c with
 |nil=>cases c with
  |nil=>rfl
  |cons=>cases h
 |cons x a ih=>cases c with
  |nil=>cases h
  |cons y c=>simp only[bG,Ky,eK.injEq]at h;rw[h.1,ih h.2]
def HV{x y:Addr}{a c:List Int}{Q:Bool->Shared->Prop}(e:A.units<cLine)(f:IsTup s.heap x us.toArray)(g:IsTup s.heap y ws.toArray)(b:cn us a)(d:cn ws c)(h:Q (decide (a=c)) s):'B' (eqBool (.ref x) (.ref y)) Q E s:=by rw[<-inl_inj]at h;exact wpAny_eqBool_tuple (knd:=cg prog w) e (GV f b) (GV g d) h
def HB{x y:Addr}{a c:List Int}{Q:Bool->Shared->Prop}(j:A.units<cLine)(b:IsTup s.heap x us.toArray)(d:IsTup s.heap y ws.toArray)(f:cn us a)(g:cn ws c)(i:a.length=c.length)(h:Q (llt a c) s):'B' (oneLt' false (.ref x) (.ref y)) Q E s:=
 kat_one _ _ (ng (op:=.Lt) b.typeIs d.typeIs rB (cC rB b.typeIs F.entry_tuple_lt (HC b d f g i (_,rfl,(λe=>nomatch e),h,)) (F.args_tuple_lt_2 _ _)) j)
end
def D7{ps:List (List Int×List Int)}(i:Nat):(ps.map oO).getD i []=oO (ps.getD i ([],[])):=by rw[ag,ag,ax];cases ps[i]? <;>rfl
def asks_p2{ps:List (List Int×List Int)}(f:A.units<cLine)(X:(ps.map oO).Nodup)(I:vs.length=ps.length)(r:P2s h0 vs ps)(h2:2<=vs.length)(J:∀k∈ps,k.1.length=m/\k.2.length=m):J6 prog w A (ltL (ps.map oO)) vs h0:=by
 intro s1 d;refine(tuples' false,λZ Y q=>?_,λi j C hi H V q=>?_,);·obtain⟨fs,K,a2,L⟩:=p2_kat d r;refine kat_kind (T:=.type "tuple") K 'D' (λv W=>?_) rfl q;obtain⟨x,o,rfl,g,h⟩:=L v W;intro A Q E a8 k q;exact B7 (o,k _ _ g,h,) q
 .obtain⟨a,o,a0,a5,x,b1,a6,us,ws,g,h,e3,M,N,s,t,u,y⟩:=p2_at r hi;obtain⟨a',o',a4,n',x',y',a7,a9,b0,O,P,f3,R,S,B,D,F,G⟩:=p2_at r H;have l:=neL X (i:=i) (j:=j) (by rw[ai];lia) (by rw[ai];lia) V;have l1:(ps.getD i ([],[])).1.length=m/\(ps.getD i ([],[])).2.length=m:=by rw[ag,ae (I▸hi)];exact J _ (aR _)
  have l2:(ps.getD j ([],[])).1.length=m/\(ps.getD j ([],[])).2.length=m:=by rw[ag,ae (I▸H)];exact J _ (aR _)
  unfold kas_ask;unfold ltL at q;rw[D7,D7]at q l;rw[g,O];generalize ps.getD i ([],[])=k at *;generalize ps.getD j ([],[])=k' at *;obtain⟨b,c⟩:=k;obtain⟨n,p⟩:=k';unfold oO at q l;rw[HD _ _ (l1.1.trans l2.1.symm)]at q;refine kat_lt (d _ _ h) M (d _ _ P) R ?_;rw[N,S];refine kat_cons (HV f (s.keeps d) (B.keeps d) u F ?_);by_cases e:b=n;·subst e;rw[show decide (b=b)=true by simp];have U:c≠p:=λz=>l (by rw[z]);refine kat_yes (kat_cons (HV f (t.keeps d) (D.keeps d) y G ?_));dsimp only;rw[show decide (c=p)=false by simpa using U];refine kat_no (HB f (t.keeps d) (D.keeps d) y G (l1.2.trans l2.2.symm) ?_);simp[DD]at q;exact q
  .rw[show decide (b=n)=false by simpa using e];refine kat_no (HB f (s.keeps d) (B.keeps d) u F (l1.1.trans l2.1.symm) ?_);simp[e]at q;exact q
def mI(H:Hp)(ys:List V)(ps:List (List Int×List Int)):Prop:=Paired (λv k=>∃a x y rest,v=V.ref a/\H a<*(.tup (.ref x::.ref y::rest))/\H x<*(.tup (k.1.map V.int))/\H y<*(.tup (k.2.map V.int))) ys ps
def AH{ps:List (List Int×List Int)}(h:mI H ys ps):ps.length=ys.length:=by
 unfold mI at h
 induction h with
 |nil=>rfl
 |cons _ _ ih=>simp[ih]
def p2_of(ok:HOk P w H h){ps:List (List Int×List Int)}(k:mI H ys ps):bS ys vs->P2s h vs ps:=by
 unfold mI at k
 induction k generalizing vs with
 |nil=>intro z;cases z;exact .nil
 |cons y t ih=>
  intro z;cases z with
  |cons r q=>
   obtain⟨a,x,z,A,rfl,e,g,i⟩:=y;cases r;obtain⟨_,v,b,o,c,d,n,f⟩:=ok a _ e;obtain⟨_,s,j,m⟩:=ok x _ g;obtain⟨_,u,l,p⟩:=ok z _ i;cases b with
   |cons r1 b=>cases b with
    |cons r2 b=>cases r1;cases r2;exact .cons (a,o,_,n,x,z,_,s,u,rfl,c,d,f,rfl,m,p,intsAre_of j,intsAre_of l,) (ih q)
def LO(K:ah):List V->Hp->VK->Prop:=λxs H Q=>∃(p:Addr)(ys:List V)(ps:List (List Int×List Int))(m:Nat),xs=[V.ref p]/\SqL K H p ys/\ps.length<64/\(ps.map oO).Nodup/\(∀k∈ps,k.1.length=m/\k.2.length=m)/\mI H ys ps/\∀l,H l=none->Q (.ref l) (upd H l (.lst (gz .non (ps.map oO) ys)))
def BQ(w:X.A.units+2<cLine):fA X (.builtin "sorted") (LO X.K):=by
 intro E s J H G F Q I r h;obtain⟨p,g,a,m,rfl,hq,B,f,v,j,q⟩:=h;obtain⟨u,rfl,A⟩:=vals1 r;cases A;obtain⟨d,i,z,D⟩:=I.list hq;have t:a.length=g.length:=AH j;have n:(a.map oO).length=g.length:=by rw[ai];exact t
 have C:=i.length;have x:d.length=(a.map oO).length:=by lia
 refine ud (lt:=ltL (a.map oO)) (vs:=d) (by rw[x];exact totL f) z.isList 'D' (λk=>asks_p2 w f 'D' (p2_of I.hok j i) k v) ?_;obtain⟨c,l⟩:=sortedAll_at s.heap d (gB (ltL (a.map oO)) d).toArray;have y:(gz V.non (a.map oO) g).length<=sizeLine:=by unfold gz;rw[ai,(pF f).length_eq,bU];lia
 exact(.ref (⇑s+1),_,I.laid (t':=s.toks) (λb o e=>OF e) (dw _) (show dA X.prog X.w _ _ _ (.lst (gz .non (a.map oO) g))from(y,_,c,zI f n i,l,)),rfl,q _ (I.hok.fresh (dw _)),)
end Q
namespace PySem
noncomputable abbrev eT1(h:Heap)(t:Addr):Heap:=h.push {cls:=.type "tuple_iterator",data:=.fields #[.ref t,.int 0 0]}
noncomputable abbrev eT2(h:Heap)(t:Addr):Heap:=(eT1 h t).push {cls:=.type "enumerate",data:=.fields #[.none,.bool false,.ref h.objs.size,rawInt 0,.none,.none]}
def DB(t:Addr)(xs:Array Value)(n:Nat)(c:Option Addr)(i:Array (Option Value)):
  Meets (Builtin.«enumerate.__new__» ([.type "enumerate",.ref t],[],)) (λ_ R s=>s.heap.get? t<*{cls:=.type "tuple",dict:=c,data:=.seq xs n,slots:=i}/\R (.ok (.ret (.ref (eT1 s.heap t).objs.size))) {s with heap:=eT2 s.heap t}):=
 .of_wp λk w A R s h=>by
  obtain⟨e,g,d,tk,f⟩:=s;obtain⟨a,h⟩:=h;have j:=sub_enumerate;have b:wu (yI (e,g,d,tk,f,)) t xs:=(_,a,rfl,n,rfl,)
  wp_walk using md a
  refine wpAny_stack_any λl=>aj ?_;split;·rename_i cc _ _ _ _ _;generalize(cc==lV "enumerate")=bb;cases bb<;>(wp_walk using md a,eR b;exact(_,rfl,h,))
  .wp_walk using md a,eR b
   exact(_,rfl,h,)
section
variable {E:'I'}{s:Shared}
def Gz{t:Addr}{xs:Array Value}{Q:'I'}(i:s.heap.IsTuple t xs)
  (q:∀h',IsEnum h' (⇑s+1) ⇑s 0 .none->h'.IsTupleIter ⇑s t 0->(∀c o,s.heap.get? c<*o->h'.get? c<*o)->Q (.ref (⇑s+1)) {s with heap:=h'}):
  'B' (call (.type "enumerate") [.ref t]) Q E s:=by
 obtain⟨⟨c,b,d,k⟩,e,f,n,g⟩:=i;obtain rfl:c=lV "tuple":=f;obtain rfl:d=Data.seq xs n:=g;have l:(eT1 s.heap t).objs.size=⇑s+1:=bc ..;have a:(eT2 s.heap t).get? (eT1 s.heap t).objs.size<*_:=av _ rfl;have h:(eT2 s.heap t).get? ⇑s<*_:=af _ (av _ rfl);refine callType_new F.called_enumerate 'E' (F.typeCall_enumerate_1 _) (F.newCall_enumerate_1 _) (λj=>F.args_object_init_2 j _) F.entry_enumerate_new (DB t xs n b k) (e,?_,);show _/\_;rw[l]at a⊢;exact((_,a,rfl,),q _ a (_,h,rfl,rfl,) λc o x=>af _ (af _ x),)
end
def drawsT(l:A.handled=none)(j t:Addr)(n:t≠j)(xs:Array Value):
  Draws prog w A j [j,t] xs.size (λi v=>xs[i]?<*v) (λi h=>h.IsTupleIter j t i/\h.IsTuple t xs) where
 live:=λ_ _ a=>by obtain⟨⟨o,b,_⟩,_⟩:=a;exact(o,b,)
 frame:=λ_ _ _ a c=>by obtain⟨⟨o,b,r⟩,⟨e,p,q⟩⟩:=a;exact⟨(o,c j 'F' o b,r,),(e,c t 'F' e p,q,)⟩
 item:=λi s Q E hi a k=>rO a.1 a.2 (v:=xs[i]) (by simp[hi]) λf m d=>k _ f s.toks (by simp[hi]) (m,a.2.extBut d.extBut n,) d
 done:=λs Q E a g=>Bk l a.1 a.2 'F' g
end PySem
namespace L2
noncomputable abbrev Itet(K:ah)(a:Addr):It:=Oz λH xs=>SqT K H a xs
def en_tup(a f:Addr):En a f (λK H xs=>SqT K H a xs) (λi h=>h.IsTupleIter f a i) where
 obj:=λi h j=>by obtain⟨o,p,c,d⟩:=j;exact⟨o,p,λv z=>by rw[d]at z;cases z⟩
 kp:=λi h l j k=>by obtain⟨o,u,r⟩:=j;exact(o,k o u,r,)
 one:=λI h l=>I.ku h l
 src:=λ{X _ _ _ s xs i} I m hq n=>by
  obtain⟨g,y,b,A⟩:=I.tuple hq;have b:s.heap.IsTuple a g.toArray:=b;have t:a≠f:=by obtain⟨B,w,x,_⟩:=id n;exact tup_ne b w (by rw[x];decide+kernel)
  exact(g,λh=>h.IsTuple a g.toArray,y,b,λe o q c=>bK (tup_ne b q (by rw[c];decide+kernel)),drawsT m f a t g.toArray,λh Q E k=>Bk m n b (pB h) k,)
section
variable {es:List Expr}{kk:Nat}
def F7(K:ah)(t:TA):TI:=λσ H R=>t σ H λvs H1=>∃a,vs=[.ref a]/\(∃xs,SqT K H1 a xs)/\R (Itet K a) H1
def Mb{l:Expr}{t:TA}{p:Pos}(k:Gl X "enumerate")(n:X.mg "enumerate"=none)(i:PA X [l] t)(hs:bf [l] X.env=[(false,eval l X.env)]:=by rfl):
  PI X (.Tuple es kk pp) (.Call (.Name "enumerate" p) [l] [] pos) (F7 X.K t):=by
 intro w s D H R I h;refine Call_ (jj I k n boot_enumerate (bX (thn (i pos w s D H _ I h) λK B ⟨L,d,c,y,x⟩=>?_) hs rfl));obtain⟨a,rfl,⟨M,hq⟩,q⟩:=x;obtain⟨u,rfl,A⟩:=y.one;cases A;obtain⟨r,G,b,F⟩:=c.tuple hq;have b:B.heap.IsTuple a r.toArray:=b;exact Gz b λE j m v=>c.enum (en_tup a _) j m v q λo g C J e t z f q=>(o,g,C,J,d,rfl,e,t,z,f,q,)
end
end L2
namespace L2
open PySem.W
section
variable {E:'I'}{g:Array lW}{d:Drawn}{t:Nat}{os:OsState}{nm q:Str}{C N:Addr}{bs bm bmB:List Value}{hdct:Bool}{sn:List Str}{sub:List Value}{ab:Bool}{col:Option Bool}{dd:Option Addr}{k0 k1 k2 k3 k5:Option Value}{B newId initId:String}
noncomputable abbrev Dv(h:Heap)(C:Addr)(rest:List Value):Heap:=(h.push {cls:=.type "tuple",data:=.seq rest.toArray}).push {cls:=.ref C,data:=.fields #[.ref h.objs.size,.none,.none,.none,.bool false,.none]}
def kG{o:Obj}(e:h.get? b<*o):(Dv h C rest).get? b<*o:=af _ (af _ e)
def Bq:(Dv h C rest).get? (h.objs.size+1)<*{cls:=.ref C,data:=.fields #[.ref h.objs.size,.none,.none,.none,.bool false,.none]}:=Heap.get?_push_at (by rw[bc]) rfl
def wD(F:ExcBaseFacts B newId initId bmB)(T:OwnTail h bmB bm){f:Obj}{Q:dN->Shared->Prop}(a:h.get? C<*(jJ nm q C N bs bm hdct sn sub ab col dd k0 k1 k2 k3 k5 newId))
  (m:h.Ns N mN)(hi:mN "__init__"<*(.ref fI))(hf:h.get? fI<*f)(l:f.cls=.type "function")(hrest:rest.length<=sizeLine)
  (hq:'B' (call (.ref fI) (.ref (h.objs.size+1)::rest)) (λr s'=>r=.none/\Q (.done (.ret (.ref (h.objs.size+1)))) s') E (Dv h C rest,g,d,t,os,)):
  'B' (Builtin.«type.__call__» (.ref C::rest,[],)) Q E (h,g,d,t,os,):=by
 repeat(first
  |with_reducible refine kb a ?_
  |with_reducible refine wpAny_madeBy_exc a ?_
  |wp_step)
 refine codeAny_call_builtin_code (vz _ F.quiet) (wpAny_check_new_subT F T a ?_);refine codeAny_exc_new_subT F T a ?_ hrest;show wpAny _ _ _ _ _ ((Dv h C rest,g,d,t,os,):Shared);have c:=kG (C:=C) (rest:=rest) a;have n:(Dv h C rest).Ns N mN:=m.keeps λb o e=>kG e;have i:=T.keeps (h':=Dv h C rest) λb o e=>kG e;have j:(bD C::bm).contains (.ref C)=true:=by simp
 have k:=Bq (h:=h) (C:=C) (rest:=rest);unfold Kj;repeat(first
  |with_reducible refine kb k ?_
  | (with_reducible refine wpAny_isSubtype_exc c ?_;rw[j])
  |wp_step)
 show wpAny _ _ (typeLookup (.ref C) _) _ _ _;refine wpAny_typeLookup_tail c n i F.mroIs F.init.lookup ?_;rw[hi];refine bY (aa ?_);unfold bindSpecial;refine aa (B7 (T:="function") (_,kG hf,l,) ?_);rw[if_pos 'E'];refine aj (aa (da hq (λr s' z=>?_) λ_ _ z=>z));obtain⟨rfl,z⟩:=z
 wp_walk
 exact z
def JV(F:ExcBaseFacts B newId initId bmB)(T:OwnTail h bmB bm){b:Obj}{Q:'I'}(a:h.get? C<*(jJ nm q C N bs bm hdct sn sub ab col dd k0 k1 k2 k3 k5 newId))
  (e:h.Ns N mN)(hi:mN "__init__"<*(.ref fI))(hf:h.get? fI<*b)(c:b.cls=.type "function")(hrest:rest.length<=sizeLine)
  (hq:wpAny (model prog w) (A.under (.builtin "type.__call__" (.ref C::rest,[],))) (call (.ref fI) (.ref (h.objs.size+1)::rest)) (λr s'=>r=.none/\Q (.ref (h.objs.size+1)) s') E (Dv h C rest,g,d,t,os,)):
  'B' (call (.ref C) rest) Q E (h,g,d,t,os,):=by
 have f:=tc_lookup;have i:=tc_bind (.ref C);have j:((h,g,d,t,os,):Shared).TypeIs (.ref C) "type":=(_,a,rfl,);refine iF (GO ?_);show wpAny _ _ (callAny (.ref C) _) _ _ _;repeat(any_goals (first
  |assumption
  |with_reducible refine kb a ?_
  |wp_step))
 refine(rfl,?_,);exact codeAny_call_builtin_at (vz _ (by decide+kernel)) entry_typeCall (wpAny_check_type_call_sub a (wD F T a e hi hf c hrest hq))
def J2(F:ExcBaseFacts B newId initId bmB)(T:OwnTail h bmB bm){e:Addr}{Q:'I'}(f:h.get? C<*(jJ nm q C N bs bm hdct sn sub ab col dd k0 k1 k2 k3 k5 newId))
  (a:h.get? e<*{cls:=.ref C,data:=.fields #[.ref x0,.none,.none,.none,.bool false,.none]}) (hrest:rest.length<=sizeLine)
  (hq:∀h':Heap,(∀b o,b≠e->h.get? b<*o->h'.get? b<*o)->(∃b,h'.get? e<*{cls:=.ref C,data:=.fields #[.ref b,.none,.none,.none,.bool false,.none]})->h.objs.size<=h'.objs.size->Q .none (h',g,d,t,os,)):
  'B' (call (.builtin initId) (.ref e::rest)) Q E (h,g,d,t,os,):=by
 refine iF (iH F.init.plain F.initEntry (wpAny_check_init_subT F T f a rfl ?_))
 wp_walk
 have j:=aw a;refine hq _ (λb o i c=>?_) (h.objs.size,?_,) ?_;·rw[aP _ _ (bK i)];exact af _ c
 .rw[bW _ (af _ a) rfl];rfl
 .rw[nT,bc];exact dw _
end
abbrev exO(e C:Addr)(d:Option Addr):HO:=.ext λh=>∃x0,h.get? e<*{cls:=.ref C,dict:=d,data:=.fields #[.ref x0,.none,.none,.none,.bool false,.none]}
abbrev xdO(d:Addr)(fs:List (Str×V)):HO:=.ext λh=>∃mA,h.Ns1 d mA/\(∀f,uH (fs.lookup f) (mA f))/\kX mA (fs.map (·.1))
abbrev isTT:Value->Bool
 |.type t=>decide (t="type")
 |_=>false
abbrev dCl(o:Option Obj)(k:ClassData->Array (Option Value)->Bool):Bool:=match o with
 |some o=>isTT o.cls&&(match o.data with
  |.cls cd=>k cd o.slots
  |_=>false)
 |none=>false
def dCl_of{o:Option Obj}{k:ClassData->Array (Option Value)->Bool}(h:dCl o k=true):∃od cd sl,o<*(.type "type",od,.cls cd,sl,)/\k cd sl=true:=by
 cases o with
 |none=>cases h
 |some o=>
  obtain⟨c,od,d,sl⟩:=o;obtain⟨a,b⟩:=eQ.mp h;have e:c=.type "type":=by cases c<;>first |cases a|exact congrArg _ (W0 a)
  subst e;cases d<;>first |exact⟨_,_,_,rfl,b⟩ |cases b
abbrev dMr(l:List Value)(k:Addr->List Value->Bool):Bool:=match l with
 |.ref c::bm=>k c bm
 |_=>false
def dMr_of{l:List Value}{k:Addr->List Value->Bool}(h:dMr l k=true):∃c bm,l=.ref c::bm/\k c bm=true:=by
 cases l with
 |nil=>cases h
 |cons v bm=>cases v<;>first |exact⟨_,_,rfl,h⟩ |cases h
abbrev dBn(o:Option Value)(k:String->Bool):Bool:=match o with
 |some (.builtin n)=>k n
 |_=>false
def dBn_of{o:Option Value}{k:String->Bool}(h:dBn o k=true):∃n,o<*(.builtin n)/\k n=true:=by
 cases o with
 |none=>cases h
 |some v=>cases v<;>first |exact⟨_,rfl,h⟩ |cases h
def mo{b:Type}{l:List b}(h:l.length=n+1):∃a r,l=a::r/\r.length=n:=by
 cases l with
 |nil=>cases h
 |cons a r=>exact(a,r,rfl,i4 h,)
abbrev oK(K:ah)(C f:Addr)(bmB:List Value)(newId:String):Bool:=dCl (K.lookup C) λcd sl=>dMr cd.mro λa bm=>decide (sl.toList.length=6)&&dBn (sl.toList.getD 4 none) λn=>
 a==C&&n==newId&& !cd.hasDel&&tailIn K bmB bm&&nsOkIn K cd.ns&&nsIn K cd.ns "__init__"==some (some (.ref f))
def ns_some{N:Addr}{n:Str}{v:Value}(X:K.In h)(G:h.Ns N mg)(e:nsIn K N n<*(some v)):mg n<*v:=by
 obtain⟨o,d,c,b,a,_,hf⟩:=G;unfold nsIn at e;split at e
 .rename_i q;have z:=X _ _ q;rw[b]at z;cases z;cases a;split at e;·rename_i en he;rw[<-hf];unfold nsFind findBy;rw[<-uO,he];simpa using e
  .split at e<;>cases e
 .cases e
def ExcO(h:Heap)(C f:Addr)(bmB:List Value)(newId:String):Prop:=∃nm b N bs bm a sn sub ab col dd k0 k1 k2 k3 k5 mN,h.get? C<*(jJ nm b C N bs bm a sn sub ab col dd k0 k1 k2 k3 k5 newId)/\h.Ns N mN/\mN "__init__"<*(.ref f)/\OwnTail h bmB bm
def yb{newId:String}(a:K.In h)(q:oK K C f bmB newId=true):ExcO h C f bmB newId:=by
 obtain⟨T,cd,F,v,q⟩:=dCl_of q;obtain⟨k,l,u,q⟩:=dMr_of q;obtain⟨E,q⟩:=eQ.mp q;obtain⟨n,c,q⟩:=dBn_of q;obtain⟨x,U,d,G⟩:=mo (W0 E);obtain⟨y,V,e,w1⟩:=mo G;obtain⟨z,W,g,H⟩:=mo w1;obtain⟨A,X,i,I⟩:=mo H;obtain⟨B,Y,j,w4⟩:=mo I;obtain⟨D,Z,b,w5⟩:=mo w4;rw[e,g,i,j,b,bh.mp w5]at d;rw[d]at c;have c:B<*(.builtin n):=c;subst c;have w:=d;rw[az,az,az,az,az,beq_iff_eq,beq_iff_eq,beq_iff_eq]at q;obtain⟨⟨⟨⟨⟨e,g⟩,i⟩,j⟩,b⟩,p⟩:=q;subst e;subst g;obtain⟨J,M,o,N,O,P,Q,R,S,L,m⟩:=cd;have r:o=.ref k::l:=u;have s:m=false:=by simpa using i
 have t:F= #[x,y,z,A,some (.builtin n),D]:=by
  apply Cm
  exact w
 subst r;subst s;subst t;exact(_,_,_,_,_,_,_,_,_,_,_,_,_,_,_,_,_,a _ _ v,.of_isNs (isNs_of_in a b),ns_some a (.of_isNs (isNs_of_in a b)) p,tail_of_in a j,)
structure MkX(K:ah)(C f:Addr):Prop where
 ex:oK K C f bmV "ValueError.__new__"=true
 fn:∃o,K.lookup f<*o/\o.cls=.type "function"
 kp:keepIn K (.ref C)=true
section
variable {CX:CXT}{C f:Addr}{fd:fE}{ps:List Str}{sp:Sp}{ds:List Value}{E:XK}
def Ja{Q:VK}{vs:List V}(M:MkX X.K C f)(F:jG X.prog X.w X.K X.mg X.base CX k f fd ps sp)(y:jm (k+1) X.A)(o:Binds X.K fd ps ds)(p:bS al ds)
  (A:∀(H':Hp)(i:Shared)(e:Value)(s':Shared),Inv X pins σ H' i->CX X.stack H' i E e s'->X.xe e s')(I:'A')(r:bS vs us)(w:vs.length<=sizeLine)
  (h:∀x,⇑s<=x->H x=none->sp (.ref x::(vs++al)) (upd H x (exO x C none)) (λv H2=>v=.non/\Q (.ref x) H2) E):
  'C' (call (.ref C) us) (EP X pins σ Q) X.xe s:=by
 have hq:=h (⇑s+1) (dw _) (I.hok.fresh (dw _));obtain⟨nm,qn,N,bs,K,U,sn,sub,J,L,O,W,Y,Z,k3,k5,mN,m,n,hi,T⟩:=yb (bmB:=bmV) I.kIn M.ex;obtain⟨oI,hf,q⟩:=M.fn;have c:Inv X pins σ (upd H (⇑s+1) (exO (⇑s+1) C none)) {s with heap:=Dv s.heap C us}:=by refine I.laid (t':=s.toks) (λb a0 e=>kG e) (dw _) ?_;exact((_,Bq,),(_,Bq,),λR S ⟨G,z⟩ k=>(G,k _ z,),)
 have g:bS (V.ref (⇑s+1)::(vs++al)) (bD (⇑s+1)::(us++ds)):=.cons rfl (r.append p);have t:(bD (⇑s+1)::us++ds).length=ps.length:=by have e:=g.length;rw[F.len _ _ _ _ hq]at e;exact e.symm
 obtain⟨d,P,dr,tk,os⟩:=s;refine JV (fI:=f) kZ T m n hi (I.kIn _ _ hf) q (by rw[<-r.length];exact w) ?_;refine iF (kj (F.run _ X.stack _ _ (bD (d.objs.size+1)::us,[],) (bD (d.objs.size+1)::(us++ds)) _ _ E (y.make C us []) (c.env0.make C us []) (o _ (bD (d.objs.size+1)::us) c.kIn t) g hq) λr s' a=>?_);cases r with
 |error e=>exact A _ _ e s' c a
 |ok fl=>
  cases fl with
  |ret u=>obtain⟨v,H',j,D,l,B⟩:=c.after a;subst l;exact(D,(V.ref (d.objs.size+1),H',j,rfl,B,),)
  |next =>exact gT a
  |brk=>exact gT a
  |cont=>exact gT a
end
end L2
namespace L2
open PySem.W PySem.Builtin PySem.Builtin.ObjectAttr
abbrev Df:List Value->Bool
 |.ref _::r=>Df r
 |l=>l==bmV
def refuseV(a:Value):refuseLoop a "__setattr__" bmV=pure ():=by kernel_rfl
theorem Hd(a:Value):∀{l:List Value},Df l=true->refuseLoop a "__setattr__" l=pure ()
 |.ref c::r,e=>by rw[refuseLoop_ref];exact Hd a e
 | [],e=>by cases e
 |.type n::r,e=>by rw[show(.type n::r:List Value)=bmV from beq_iff_eq.mp e];exact refuseV a
 |.none::r,e=>by cases e
 |.ellipsis::r,e=>by cases e
 |.notImplemented::r,e=>by cases e
 |.bool _::r,e=>by cases e
 |.int _ _::r,e=>by cases e
 |.float _ _::r,e=>by cases e
 |.str _ _::r,e=>by cases e
 |.bytes _ _::r,e=>by cases e
 |.builtin _::r,e=>by cases e
theorem zH:∀{l:List Value},Df l=true->l.contains (.type "object")=true
 |.ref c::r,e=>by rw[List.contains_cons,zH (l:=r) e,Bool.or_true]
 | [],e=>by cases e
 |.type n::r,e=>by rw[show(.type n::r:List Value)=bmV from beq_iff_eq.mp e];decide
 |.none::r,e=>by cases e
 |.ellipsis::r,e=>by cases e
 |.notImplemented::r,e=>by cases e
 |.bool _::r,e=>by cases e
 |.int _ _::r,e=>by cases e
 |.float _ _::r,e=>by cases e
 |.str _ _::r,e=>by cases e
 |.bytes _ _::r,e=>by cases e
 |.builtin _::r,e=>by cases e
section
variable {R:Result->Shared->Prop}{s:Shared}{x C:Addr}
def Dg{t:Obj}{od:Option Obj}{name:Str}{tk:Tok}{v:Value}(X:K.In s.heap)(I:InstAt s.heap x t C od)(o:(clsIn K C).any (λcd=>Df cd.mro)=true)(r:takerIn K C name<*none)
  (h:∀b,wpAny (model prog w) A.in1 (storeInOwnDict (.ref x) (.ref C) (.str name tk) name v b)
   (λk s'=>match k with |.done f=>R (.ok f) s'|.again c'=>c'.quiet=true/\gK (model prog w) A c' R s') (λe s'=>R (.error e) s') s):
  gK (model prog w) A (.call (.builtin "object.__setattr__") ([.ref x,.str name tk,v],[],)) R s:=by
 have c:=PySem.F.store_object;obtain⟨cd,i,d⟩:=any_some o;have ne:cd.mro.isEmpty=false:=by cases q:cd.mro with |nil=>rw[q]at d;cases d|cons _ _=>rfl
 have sub:Looks (model prog w) s.heap (Kj (.ref x) (.type "object")) true:=I.type.andThen (looks_mroIn X (by unfold mroIn;rw[i,fP,if_neg (by rw[ne];decide),zH d]));refine iH c.slot.plain c.entry (@check_slot (model prog w) _ _ s "object.__setattr__" "object" "__setattr__" (.ref x) [.str name tk,v] [] _ c.kind c.split sub (c.args (.ref x) (.str name tk) v) ?_);obtain⟨g,l,p⟩:=Option.bind_eq_some_iff.mp r;have n:Looks (model prog w) s.heap (mroOf (.ref C)) cd.mro:=(looks_clsIn X i).andThen .now;have j:Looks (model prog w) s.heap (storeTaker? g) none:=by
  cases g with
  |none=>exact .now
  |some a=>
   obtain⟨b,m,q⟩:=nR.mp p;refine(looks_takesIn X m).andThen ?_;cases b;·exact .now
   .cases q
 rw[osa_eq,refuse_eq];refine aa (aa (I.type.here (aa (n.here ?_))));rw[Hd _ d];refine aj (aa (I.type.here (aa ((tL X l).here (aa (j.here ?_))))));exact h _
end
section
variable {E:'I'}{s:Shared}{e C:Addr}{name:Str}{v:Value}{vs:Array Value}{Q:Unit->Shared->Prop}
structure StX(K:ah)(C:Addr)(name:Str):Prop where
 hs:findIn K (.ref C) "__setattr__"<*(some (.builtin "object.__setattr__"))
 hp:(clsIn K C).any (λcd=>Df cd.mro)=true
 ht:takerIn K C name<*none
 hd:(clsIn K C).any (·.hasDict)=true
noncomputable abbrev nv(C:Addr)(d:Option Addr)(vs:Array Value):Obj:={cls:=.ref C,dict:=d,data:=.fields vs}
def NJ(a:h.get? e<*(nv C none vs)):InstAt h e (nv C none vs) C none:=(a,rfl,rfl,trivial,)
def NI{d:Addr}{o:Obj}(b:h.get? e<*(nv C (some d) vs))(a:h.get? d<*o):InstAt h e (nv C (some d) vs) C (some o):=(b,rfl,rfl,a,)
def Fc(X:K.In s.heap)(S:StX K C name)(a:s.heap.get? e<*(nv C none vs))
  (h:∀h',h'.get? e<*(nv C (some ⇑s) vs)->h'.Ns1 ⇑s (λy=>if y=name then some v else none)->(∀b o,b≠e->s.heap.get? b<*o->h'.get? b<*o)->Q () {s with heap:=h',toks:=s.toks+2}):
  'B' (setAttr (.ref e) name v) Q E s:=by
 have I:=NJ a;refine set_plain X I S.hs (Dg (s:={s with toks:=s.toks+1}) X I S.hp S.ht λb=>?_);obtain⟨cd,k,m⟩:=any_some S.hd;refine aa (aj (aa (aa (J9 a (aa (Cf (s:={s with toks:=s.toks+1}) (Iy X k) ?_))))));rw[m];show wpAny _ _ (alloc {cls:=.type "dict",data:=.dict #[]}>>=_) _ _ _;have c:(s.heap.push {cls:=.type "dict",data:=.dict #[]}).get? e<*(nv C none vs):=af _ a;have r:=aw a;refine aa (wpAny_alloc (aa (wpAny_update c ?_)));show wpAny _ _ (pure (some ⇑s)) _ _ _;refine aj ?_;show wpAny _ _ (pure ()>>=_) _ _ _;refine aa (aj (aa ?_));have f:⇑s≠e:=dQ r;have n:((s.heap.push {cls:=.type "dict",data:=.dict #[]}).update e λo=>{o with dict:=some ⇑s}).get? ⇑s<*{cls:=.type "dict",data:=.dict #[]}:=by rw[aP _ _ (bK f)];exact av _ rfl
 have t:((s.heap.push {cls:=.type "dict",data:=.dict #[]}).update e λo=>{o with dict:=some ⇑s}).Ns1 ⇑s (λ_=>none):=
  (_,#[],_,n,rfl,λx B=>by simp at B,kC,λy=>rfl,)
 have z:kX (λ_=>none:Str->Option Value) []:=kX.nil;refine wpAny_nsSet1 t λh' d g=>?_;obtain⟨G,F,D,u,p,l⟩:=d.count (Ew name v z);refine aa (wpAny_lookBehind u (by rw[p];exact pastItsLine_dict (aO l (by show 1<=sizeLine+1;decide))) ?_);refine aj (h _ ?_ d λb o i q=>?_);·rw[g.2 _ (bK f),bW _ c rfl]
 .have j:b≠⇑s:=aL (aw q);rw[g.2 _ j,aP _ _ (bK i)];exact af _ q
def IU{d:Addr}{g:List Str}(X:K.In s.heap)(S:StX K C name)(a:s.heap.get? e<*(nv C (some d) vs))(c:s.heap.Ns1 d mA)(q:kX mA g)(B:g.length<sizeLine)
  (h:∀h',h'.Ns1 d (λy=>if y=name then some v else mA y)->dj d s.heap h'->Q () {s with heap:=h',toks:=s.toks+2}):
  'B' (setAttr (.ref e) name v) Q E s:=by
 obtain⟨o,u,r,m,z⟩:=id c;have I:=NI a m;refine set_plain X I S.hs (Dg (s:={s with toks:=s.toks+1}) X I S.hp S.ht λb=>?_);obtain⟨cd,i,k⟩:=any_some S.hd;refine aa (aj (aa (aa (J9 a (aa (Cf (s:={s with toks:=s.toks+1}) (Iy X i) ?_))))));rw[k];show wpAny _ _ (pure (some d)) _ _ _;refine aj ?_;show wpAny _ _ (pure ()>>=_) _ _ _;refine aa (aj (aa ?_));refine wpAny_nsSet1 (s:={s with toks:=s.toks+1}) c λh' f p=>?_;obtain⟨D,x,t,n,l,j⟩:=f.count (Ew name v q);refine aa (wpAny_lookBehind n (by rw[l];exact pastItsLine_dict (aO j (by rw[aU];lia))) ?_);exact aj (h _ f p)
end
end L2
namespace L2
open PySem.W
section
variable {pins:List (Addr×Obj)}{s:Shared}{E:'I'}{a C:Addr}{f:Str}
def xd_ok{d:Addr}{fs:List (Str×V)}(H:Hp)(n:h.Ns1 d mA)(r:∀f,uH (fs.lookup f) (mA f))(a:kX mA (fs.map (·.1))):dA P w H h d (xdO d fs):=
 ((mA,n,r,a,),let⟨o,_,_,e,_⟩:=n;(o,e,),λb c ⟨m,n,r⟩ k=>(m,n.at k,r,),)
def ex_ok{e:Addr}(H:Hp)(q:h.get? e<*(nv C d #[.ref x0,.none,.none,.none,.bool false,.none])):dA P w H h e (exO e C d):=
 ((x0,q,),(_,q,),λa b ⟨x,z⟩ k=>(x,k _ z,),)
def Ls{Q:Unit->Shared->Prop}(I:'A')(e:H a<*(exO a C none))(S:StX X.K C f)(F:RelV y u)
  (h:∀s' dd,H dd=none->Inv X pins σ (upd (upd H dd (xdO dd [(f,y)])) a (exO a C (some dd))) s'->Q () s'):wpAny (model X.prog X.w) A (setAttr (.ref a) f u) Q E s:=by
 obtain⟨⟨K,j⟩,_⟩:=I.hok a _ e;refine Fc I.kIn S j λG i t B=>h _ ⇑s (I.hok.fresh (ay _)) ?_;obtain⟨c,p,n,m,r⟩:=id t;have J:H ⇑s=none:=I.hok.fresh (ay _);have z:⇑s≠a:=dQ (aw j);have d:(s.heap.push c).get? ⇑s<*c:=av _ (Obj.isFreed_of_dict r.1);have D:(s.heap.push c).Ns1 ⇑s (λy=>if y=f then some u else none):=(c,p,n,d,r,);have k:Inv X pins σ (upd H ⇑s (xdO ⇑s [(f,y)])) {s with heap:=s.heap.push c,toks:=s.toks}:=by
  refine I.laid (t':=s.toks) (λb o q=>af _ q) (ay _) (xd_ok _ D (λg=>?_) λg w=>?_)
  .by_cases q:g=f;·subst q;simp[de];exact F
   .have :(g==f)=false:=by simpa using q
    simp[de,this,q];exact True.intro
  .by_cases q:g=f;·simp[q]
   .exact absurd (if_neg q) w
 have l:upd H ⇑s (xdO ⇑s [(f,y)]) a<*(exO a C none):=by rw[aV (bK z)];exact e
 refine k.write (x:=a) (e:=a) (t':=s.toks+2) (by rw[l];exact True.intro) (.inl rfl) (λb o v q=>?_) (_,i,) (ex_ok _ i);by_cases hbs:b=⇑s;·subst hbs;have q:(s.heap.push c).get? ⇑s<*o:=q;rw[d]at q;cases q;exact m
 .refine B b o v ?_;have q:(s.heap.push c).get? b<*o:=q;rw[Heap.get?_push_ne _ _ _ hbs]at q;exact q
def Lr{dd:Addr}{fs:List (Str×V)}{Q:Unit->Shared->Prop}(I:'A')(e:H a<*(exO a C (some dd)))(c:H dd<*(xdO dd fs))(B:fs.length<1000)(S:StX X.K C f)(v:RelV y u)
  (h:∀s',Inv X pins σ (upd H dd (xdO dd (mQ f y fs))) s'->Q () s'):wpAny (model X.prog X.w) A (setAttr (.ref a) f u) Q E s:=by
 obtain⟨⟨D,n⟩,_⟩:=I.hok a _ e;obtain⟨⟨d,t,r,j⟩,_⟩:=I.hok dd _ c;refine IU I.kIn S n t j (by rw[ai,lU];lia) λk i w=>h _ ?_;have m:∃o,k.get? dd<*o:=let⟨o,_,_,e',_⟩:=i;(o,e',);refine I.write (x:=dd) (e:=dd) (t':=s.toks+2) (by rw[c];exact True.intro) (.inl rfl) (λb o l q=>(w.2 b l).trans q) m (xd_ok _ i (λg=>?_) λg p=>?_)
 .show uH ((mQ f y fs).lookup g) (if g=f then some u else d g);rw[uX];by_cases q:g=f;·rw[if_pos q,if_pos q];exact v
  .rw[if_neg q,if_neg q];exact r g
 .by_cases q:g=f;·rw[q];exact(uv f y fs).1
  .refine(uv f y fs).2 g (j g λz=>p ?_);show(if g=f then some u else d g)=none;rw[if_neg q];exact z
end
def sFldX(K:ah)(ta tv:TE)(f:Str):TS:=λD σ H=>tv σ H λy H1=>ta σ H1 λx H2=>∃a C,x=.ref a/\StX K C f/\
 ((H2 a<*(exO a C none)/\∀dd,H2 dd=none->D.nx σ (upd (upd H2 dd (xdO dd [(f,y)])) a (exO a C (some dd))))\/
  ∃dd fs,H2 a<*(exO a C (some dd))/\H2 dd<*(xdO dd fs)/\fs.length<1000/\D.nx σ (upd H2 dd (xdO dd (mQ f y fs))))
section
variable {value:Expr}{f:Str}{ta tv:TE}
def ps_fldX(r:PE X o ta)(w:PE X value tv)(hs:qZ value (some (.Attribute o f pos')) pos.line X.env=pure false):PS X (.Assign [.Attribute o f pos'] value pos) (sFldX X.K ta tv f):=by
 intro i s b H D I h;refine plainObj_wpAny_Assign_Attribute (thn (w i s b H _ I h) λu E ⟨y,l,m,j,q⟩=>thn (r i E b l _ m q) λz J ⟨x,G,d,B,a,C,p,S,A⟩=>?_) hs;subst p;obtain rfl:z=bD a:=B;rcases A with⟨e,k⟩ |⟨g,fs,e,n,v,k⟩;·exact Ls d e S j λF g t c=>(b,_,c,k g t,)
 .exact Lr d e n v S j λF c=>(b,_,c,k,)
end
structure BsX(K:ah)(B:Addr):Prop where
 ga:specialIn K (.ref B) "__getattribute__"<*(some (.builtin "type.__getattribute__"))
 rd:readsIn K B (.type "type")=true
 fd:findCls K (.ref B) (.type "type") "__init__"<*(.val (.builtin "ValueError.__init__"))
def tBase(K:ah)(B:Addr)(t:TA):TE:=λσ H Q=>BsX K B/\t σ H λvs H1=>∃a C f us,vs=.ref a::us/\H1 a<*(exO a C none)/\us.length<=sizeLine/\oK K C f bmV "ValueError.__new__"=true/\Q .non H1
section
variable {x:Str}{B:Addr}{es:List Expr}{t:TA}{apos:Pos}
def LM{Q:VK}(I:'A')(e:H a<*(exO a C none))(m:us.length<=sizeLine)(p:oK X.K C f bmV "ValueError.__new__"=true)(q:Q .non H):
  'C' (call (.builtin "ValueError.__init__") (.ref a::us)) (EP X pins σ Q) X.xe s:=by
 obtain⟨⟨R,l⟩,_⟩:=I.hok a _ e;obtain⟨nm,O,N,bs,v,B,P,sub,u,w,y,F,G,J,K,L,M,j,A,hi,T⟩:=yb (bmB:=bmV) I.kIn p;obtain⟨D,h,dr,tk,t⟩:=s;refine J2 kZ T j l m λi r ⟨b,g⟩ E=>?_;have n:upd H a (exO a C none)=H:=by
  funext c
  by_cases z:c=a;·rw[z,aq,e]
  .rw[aV z]
 have d:Inv X pins σ (upd H a (exO a C none)) (i,h,dr,tk,t,):=I.write (x:=a) (e:=a) (t':=tk) (by rw[e];exact True.intro) (.inl rfl) (λb o k q=>r b o k q) (_,g,) (ex_ok _ g);rw[n]at d;exact(.non,H,d,rfl,q,)
def MO{env:Env}{name:Str}{a:List Expr}{Q:'I'}
  (g:OI o name env (eval o env)=eval o env)
  (i:((backTo pos (bf a env)).all (λx=> !x.1)&&(Ca pos (pR [] env)).all (λx=>x.1.isSome)
   &&decide (a.length+([]:List Keyword).length+(if([]:List Keyword).isEmpty then 0 else 1)<30))=true)
  (k:(apos.endLine==pos.line)=true)
  (h:'B' (eval o env) (λc d=>∀pl,'B' (getMethod c name pl) (λb f=>'B' (callWith pos b.1 b.2 (backTo pos (bf a env)) (Ca pos (pR [] env))) Q E f) E d) E s):
  'B' (eval (.Call (.Attribute o name apos) a [] pos) env) Q E s:=by
 rw[arm_eval_Call,g];refine aa (da h (λc d m=>?_) λ_ _ e=>e);refine aa (jo ?_);have j:methodCallForm (a.length+([]:List Keyword).length) (backTo pos (bf a env)) (Ca pos (pR [] env))=true:=i;have l:methodCallPos true o env apos pos=pure pos:=by unfold methodCallPos;simp[k]
 unfold methodCall;rw[j];refine aa (bY (da (m _) (λb f n=>?_) λ_ _ e=>e));exact aa (pQ l n)
def pe_base(m:Gl X x)(p:X.mg x<*(.ref B))(j:PA X (e::es) t)(k:(x==("__debug__":Str))=false)(u:bf (e::es) X.env=(false,eval e X.env)::bf es X.env)(r:(backTo pos (bf es X.env)).any (·.1)=false)
  (l:((backTo pos (bf (e::es) X.env)).all (λx=> !x.1)&&(Ca pos (pR [] X.env)).all (λx=>x.1.isSome)
   &&decide ((e::es).length+([]:List Keyword).length+(if([]:List Keyword).isEmpty then 0 else 1)<30))=true)
  (o:(apos.endLine==pos.line)=true):
  PE X (.Call (.Attribute (.Name x np) "__init__" apos) (e::es) [] pos) (tBase X.K B t):=by
 intro w s y H Q I h;obtain⟨b,h⟩:=h;refine MO rfl l o (mR I m p (λD=>?_) k);refine PySem.W.method_cls I.kIn b.ga (PySem.W.cls_value I.kIn b.rd b.fd (by decide+kernel) ?_);refine i3 (thn (j pos w _ y H _ (I.tok (s.toks+1)) h) λF E z=>?_) u r;obtain⟨G,A,d,c,a,C,f,J,g,i,n,v,q⟩:=z;subst g;cases c with
 |cons r0 c=>cases r0;exact LM d i (by rw[<-c.length];exact n) v q
end
abbrev del(H:Hp)(a:Addr):Hp:=λb=>if b=a then none else H b
def jB:del H a a=none:=if_pos rfl
def fS(h:b≠a):del H a b=H b:=if_neg h
section
variable {M:Model}{E:'I'}{env:Env}{nm q:Str}{C N:Addr}{bs bm:List Value}{hdct:Bool}{sn:List Str}{sub:List Value}{ab:Bool}{col:Option Bool}{dd:Option Addr}{k0 k1 k2 k3 k5:Option Value}{newId:String}
def Fi{x:Sem Value}{Q:Flow->Shared->Prop}(f:bm.contains (.type "BaseException")=true)(k:A.handled=none)
  (h:wpAny M A x (λv a=>∃e t dx,v=.ref e/\a.heap.get? C<*(jJ nm q C N bs bm hdct sn sub ab col dd k0 k1 k2 k3 k5 newId)/\
   a.heap.get? e<*(nv C dx #[.ref t,.none,.none,.none,.bool false,.none])/\E (.ref e) a) E s):
  wpAny M A (raiseStmt env (some x) none) Q E s:=by
 have i:(bD C::bm).contains (.type "BaseException")=true:=by rw[List.contains_cons,f,Bool.or_true]
 unfold raiseStmt;refine aa (da h (λv a l=>?_) λ_ _ x=>x);obtain⟨e,t,dx,rfl,b,j,c⟩:=l;obtain⟨m,g,d,tk,n⟩:=a;repeat(first |with_reducible refine kb j ?_ |with_reducible refine kb b ?_ | (with_reducible refine wpAny_isSubtype_exc b ?_;rw[i]) |wp_step)
 exact wpAny_raiseNew_none k c
end
section
variable {pins:List (Addr×Obj)}{s:Shared}
theorem Inv.del{g:Heap->Prop}(I:'A')(e:H a<*(.ext g)):Inv X pins σ (L2.del H a) s:=by
 have ne:∀{b:Addr}{o:HO},H b<*o->(∀j,o≠.ext j)->b≠a:=λ{b o} q n z=>by rw[z,e]at q;exact n g (bo q).symm
 refine(I.ok,I.os,I.bare,(I.base.keep,I.base.slot,λb o q n d=>?_,I.base.there,λb f q=>?_,λb o u q=>?_,λb h q=>?_,),I.loc,I.cell,?_,λx c q=>?_,λp q=>?_,λb u q=>?_,I.len,)
 .by_cases z:b=a;·rw[z];exact jB
  .rw[fS z];exact I.base.free b o q n d
 .have r:=I.base.tups b f q;rw[fS (ne r λ_ z=>by cases z)];exact r
 .have r:=I.base.frzs b o u q;rw[fS (ne r λ_ z=>by cases z)];exact r
 .obtain⟨more,r⟩:=I.base.tbls b h q;exact⟨more,by rw[fS (ne r λ_ z=>by cases z)];exact r⟩
 .by_cases z:X.env.locals=a;·rw[z];exact jB
  .rw[fS z];exact I.free
 .by_cases z:c=a;·rw[z];exact jB
  .rw[fS z];exact I.freeC x c q
 .obtain⟨i,n,r⟩:=I.pin p q;refine(i,?_,r,);by_cases z:p.1=a;·rw[z];exact jB
  .rw[fS z];exact n
 .by_cases d:b=a;·rw[d,jB]at q;cases q
  .rw[fS d]at q;exact(I.hok b u q).ub (λ_ _ _ r=>r) (λc r=>by rw[fS (ne r λ_ z=>by cases z)];exact r) λc f r=>by rw[fS (ne r λ_ z=>by cases z)];exact r
structure NewX(X:Cx)(pins:List (Addr×Obj))(H:Hp)(s:Shared)(a C:Addr)(d:Option Addr):Prop where
 at_:∃x0,s.heap.get? a<*(nv C d #[.ref x0,.none,.none,.none,.bool false,.none])
 new:X.s₀.heap.get? a=none
 un:H a=none
 pins:∀p∈X.pn++pins,p.1≠a
def zK{M:Model}{Q:Unit->Shared->Prop}(I:'A')(c:X.stack=X.env::X.outer)(hf:X.env.frame<*X.env.locals)(n:NewX X pins H s a C d)
  (h:∀s2,Inv X pins σ H s2->Fly X.s₀.heap s2.heap H (X.pn++pins) a (.ref C) d->Q () s2):
  wpAny M X.A (nI (.ref a) X.env) (λ_ s'=>wpAny M X.A (Er (.ref a) none) Q E s') E s:=by
 obtain⟨e,b⟩:=n.at_;unfold nI;simp only[hf];refine aa (dq (x:=.none) b rfl (by rfl) ?_);rw[if_neg (show ¬(bO != bO)=true by simp)];exact enter I c hf b rfl 'F' n.new n.un n.pins h
def GJ(X:Cx)(E:XS):Prop:=∀(pins:List (Addr×Obj))(σ:St)(H:Hp)(s:Shared)(a C:Addr)(d:Option Addr),'A'->NewX X pins H s a C d->E σ (.ref C) d H->X.xe (.ref a) s
def GA{cd:Value}{outer:List Env}{E:XK}:
  GJ (BO (CXx P w) P w K mg base N qual scope f cd A outer s H E) (λ_=>E):=by
 intro F L e G a C d I n q;show wpAny _ _ (leaving _ _) _ _ _;unfold leaving;refine aa (zK I rfl rfl n λJ b c=>?_);obtain⟨⟨T,y,D,x,B,i,l,m,o,p,r,t,u,v,j,k,_⟩,g,h,_⟩:=c;exact(a,.ref C,d,e,rfl,b.os,b.bare,b.base,b.hok,⟨⟨T,y,D,x,B,i,l,m,o,p,r,t,u,v,j,k,λ_ z=>nomatch z⟩,g,h,λ_ z=>nomatch z⟩,q,)
def II{x n:Str}{b:Stmt}{c:List Stmt}{e:Pos}{g:TS}{D:Ends}(O:Eo X x n C i (b::c) g){f:Addr}(ok:X.Ok)
  (I:Inv (X.re X.A X.calm (X.pn++pins) (kD X pins D [.ExceptHandler (some (.Name x np)) (some n) (b::c) e])) pins' σ H s)(m:NewX (X.re X.A X.calm (X.pn++pins) (kD X pins D [.ExceptHandler (some (.Name x np)) (some n) (b::c) e])) pins' H s a f d)(h:oN X.K C i g D σ (.ref f) d H):
  kD X pins D [.ExceptHandler (some (.Name x np)) (some n) (b::c) e] (.ref a) s:=by
 have J:'A':=I.KL ok λp z=>eO _ z;exact zK J O.stk O.fr (m.at_,m.new,m.un,λp l=>m.pins p (eO _ l),) λo k j=>uE O k j h
def Ly(C:Addr)(sp:Sp)(al:List V)(E:XS)(t:TA):TS:=λ_ σ H=>t σ H λvs H1=>vs.length<=sizeLine/\∀a,H1 a=none->
 sp (.ref a::(vs++al)) (upd H1 a (exO a C none)) (λv H2=>v=.non/\∃d,H2 a<*(exO a C d)/\E σ (.ref C) d (del H2 a)) (E σ)
def Jc{CX:CXT}{y:fE}{sp:Sp}{E:XS}{x:Str}{i:List Expr}{t:TA}(Mk:MkX X.K C f)(F:jG X.prog X.w X.K X.mg X.base CX k f y ps sp)(hr:jm (k+1) X.A)(W:Binds X.K y ps ds)(hd:bS al ds)
  (hx:As CX X E)(hg:Gl X x)(hm:X.mg x<*(.ref C))(S:PA X (e::i) t)(Z:X.calm=true)(a0:(x==("__debug__":Str))=false)
  (a3:bf (e::i) X.env=(false,eval e X.env)::bf i X.env)(a2:(backTo bn (bf i X.env)).any (·.1)=false)(a4:GJ X E):
  PS X (.Raise (some (.Call (.Name x np) (e::i) [] bn)) none pos) (Ly C sp al E t):=by
 intro u s g H D I h;obtain⟨nm,G,N,bs,bm,A,sn,sub,ab,col,dd,k0,k1,k2,k3,k5,mN,P,hN,hi,T⟩:=yb (bmB:=bmV) I.mod.kin Mk.ex;have Y:bm.contains (.type "BaseException")=true:=T.hasType (by decide+kernel);rw[arm_exec_Raise];show wpAny _ _ (do Iu pos;raiseStmt X.env (some (do let v<-eval (.Call (.Name x np) (e::i) [] bn) X.env;Iu pos;pure v)) none) _ _ s;refine aa (jo (Fi (C:=C) (nm:=nm) (q:=G) (N:=N) (bs:=bs) (bm:=bm) (hdct:=A) (sn:=sn) (sub:=sub) (ab:=ab) (col:=col) (dd:=dd) (k0:=k0) (k1:=k1) (k2:=k2) (k3:=k3) (k5:=k5) (newId:="ValueError.__new__") Y (I.ok.hd Z) (aa (da (Q:=λv c=>∃a a9 M,v=.ref a/\c.heap.get? C<*(jJ nm G C N bs bm A sn sub ab col dd k0 k1 k2 k3 k5 "ValueError.__new__")/\c.heap.get? a<*(nv C M #[.ref a9,.none,.none,.none,.bool false,.none])/\X.xe (.ref a) c) (E:=X.xe) ?_ (λv c z=>aa (jo (aj z))) λ_ _ z=>z))));refine fC (mR I hg hm ?_ a0);refine tN (h₀:=X.base) I.ok.mod.kin Mk.kp (thn (S bn u s g H _ I h) λus c ⟨vs,H1,l,a6,a1,q⟩=>(l.kIn,?_,)) a3 a2;refine da (Ja (E:=E g) (Q:=λv b=>∃a d,⇑c<=a/\v=.ref a/\b a<*(exO a C d)/\E g (.ref C) d (del b a)) Mk F hr W hd (λK s' e a8 L z=>hx u g K s' e a8 L z) l a6 a1 (λa m U=>?_)) (λv s2 z=>?_) λ_ _ z=>z
 .have e:(λ(v:V)(b:Hp)=>v=.non/\∃d,b a<*(exO a C d)/\E g (.ref C) d (del b a))=λv b=>v=.non/\∃j d,⇑c<=j/\V.ref a=V.ref j/\b j<*(exO j C d)/\E g (.ref C) d (del b j):=by
   funext v b
   apply propext
   constructor;·rintro⟨o,d,p,r⟩;exact(o,a,d,m,rfl,p,r,)
   .rintro⟨o,b0,d,_,O,p,r⟩;cases O;exact(o,d,p,r,)
  rw[<-e];exact q a U
 .obtain⟨w',b,n,a7,a,d,m,rfl,w,R⟩:=z;cases a7;obtain⟨⟨J,B⟩,_⟩:=n.hok a _ w;refine(a,J,d,rfl,n.bk _ _ P,B,a4 u g (del b a) s2 a C d (n.del w) ((J,B,),rp (aO l.sz m),jB,λa5 hp=>?_,) R,);exact aL (aZ (aw (l.pin a5 hp).1) m)
end
abbrev jW(K:ah)(C:Addr)(f:Str):Bool:=
 nu K C&&findIn K (.ref C) f==some none&&(match clsIn K C with |some cd=>cd.hasDict|none=>false)
def F9(r:RelV v u):handedIn u=true:=by
 cases v with
 |non=>cases r;rfl
 |bl b=>cases r;rfl
 |int i=>obtain⟨t,rfl⟩:=r;rfl
 |str x=>obtain⟨t,rfl⟩:=r;rfl
 |byt b=>obtain⟨t,rfl⟩:=r;rfl
 |flt b=>obtain⟨t,rfl⟩:=r;rfl
 |ref a=>cases r;rfl
 |ty n=>cases r;rfl
def MT{d:Addr}{m:Str->Option Value}{f:Str}(N:h.Ns1 d m)(e:m f<*u):∃o,h.get? d<*o/\lookIn f o<*(some u):=by
 obtain⟨o,a,g,c,b,_,_,hf⟩:=N;refine(o,c,?_,);have q:=(hf f).trans e;unfold nsFind findBy at q;rw[<-uO]at q;unfold lookIn;rw[b];dsimp only;cases hz:a.toList.find? (·.key.isStr f)with
 |none=>rw[hz]at q;cases q
 |some en=>rw[hz]at q;simpa using q
def DU{f:Str}{o:Obj}(F:jW K C f=true)(e:lookIn f o<*(some u)):wj K C (some o) f<*(.value u):=by
 unfold jW at F;rw[az,az,beq_iff_eq]at F;obtain⟨⟨_,b⟩,a⟩:=F;cases hc:clsIn K C with
 |none=>rw[hc]at a;cases a
 |some cd=>
  rw[hc]at a;unfold wj;rw[hc,fP,b,fP];have c:PySem.W.ownOf cd (some o) f<*(some u):=by unfold PySem.W.ownOf;rw[if_pos a];exact e
  simp[c]
section
variable {E:'I'}{s:Shared}{a C:Addr}{o:Obj}{od:Option Obj}{f:Str}{u:Value}
def Oj{tk:Tok}{R:Result->Shared->Prop}(b:K.In s.heap)(J:InstAt s.heap a o C od)(F:yH K C)(hf:wj K C od f<*(.value u))(h:R (.ok (.ret u)) s):
  gK (model prog w) A (.call (.builtin "BaseException.__getattribute__") ([.ref a,.str f tk],[],)) R s:=by
 obtain⟨i,g,d,t,j⟩:=s;have c:=J.type (M:=model prog w);have e:=looks_find (M:=model prog w) b J hf;refine iH gv.ga.plain EH (yD b J F ?_);unfold Builtin.«object.__getattribute__»;repeat(first |with_reducible refine iF ?_ |lk|wp_step)
 exact h
def exc_fld{b:Bool}{Q:'I'}(c:K.In s.heap)(J:InstAt s.heap a o C od)(F:yH K C)(hf:wj K C od f<*(.value u))(l:handedIn u=true)(h:Q u {s with toks:=s.toks+1}):
  'B' (getAttr (.ref a) f b) Q E s:=by
 obtain⟨k,g,d,t,m⟩:=s;have e:=J.type (M:=model prog w);have i:=tL (M:=model prog w) c F.ga;have j:=tL (M:=model prog w) c F.hook;unfold getAttr getAttrBy;refine aa (wpAny_mkText (bY (aa (e.at (aa (i.at ?_))))));show wpAny _ _ (if(Es (.ref C)&&(iJ "BaseException.__getattribute__"==iJ "object.__getattribute__"))=true then _ else _) _ _ _;rw[ga_ne,dP,if_neg ao];unfold getAttrByItsOwn hookBefore;rw[if_pos (show Es (.ref C)=true from rfl)];refine aa (j.at ?_);unfold callGetattribute boundAndCalled;rw[show Es (iJ "BaseException.__getattribute__")=false from rfl,dP,if_neg ao];refine aa (fX (bY (aa ?_)));rw[gv.ga.bind (.ref a)];refine aj (iF (Oj (s:=(k,g,d,t+1,m,)) c J F hf ?_));show wpAny _ _ (handedOut u) _ _ _;rw[handedOut_of l];exact aj h
end
def rFld(K:ah)(f:Str):V->Hp->VK->Prop:=λx H Q=>∃a C dd fs v,x=.ref a/\H a<*(qh a (.ref C) (some dd))/\H dd<*(xdO dd fs)/\jW K C f=true/\fs.lookup f<*v/\Q v H
section
variable {pins:List (Addr×Obj)}{s:Shared}
def get_fld{f:Str}{b:Bool}{Q:VK}(I:'A')(r:RelV x u)(h:rFld X.K f x H Q):'C' (getAttr u f b) (EP X pins σ Q) X.xe s:=by
 obtain⟨a,C,e,fs,v,rfl,l,m,F,p,q⟩:=h;obtain rfl:u=.ref a:=r;obtain⟨⟨o,g,i,j,k⟩,_⟩:=I.hok a _ l;obtain⟨⟨w,N,z,_⟩,_⟩:=I.hok e _ m;have c:=z f;rw[p]at c;cases hm:w f with
 |none=>rw[hm]at c;exact c.elim
 |some y=>
  rw[hm]at c;obtain⟨od,t,n⟩:=MT N hm;have d:nu X.K C=true:=by unfold jW at F;rw[az,az]at F;exact F.1.1
  exact exc_fld I.kIn (od:=some od) ⟨g,i,k,by rw[j];exact t⟩ (DV d) (DU F n) (F9 c) (v,H,I.tok _,c,q,)
def Ho{n f:Str}{t:TE}(b:PE X (.Name n np) t):PE X (.Attribute (.Name n np) f pos) (λσ H Q=>t σ H λx H1=>rFld X.K f x H1 Q):=by intro c s σ H Q I h;refine Attribute_name (thn (b c s σ H _ I h) λu d ⟨x,H1,a,r,q⟩=>?_);exact get_fld a r q
def sM:fA X (.builtin "isinstance") (λxs H Q=>∃a C d y cv b,xs=[.ref a,y]/\H a<*(qh a (.ref C) d)/\(∀dd,d<*dd->∃fs,H dd<*(xdO dd fs))/\nu X.K C=true/\((∃T,y=.ty T/\cv=lV T)\/(∃D,y=.ref D/\cv=bD D))/\kitOne X.K (.ref C) cv<*b/\Q (.bl b) H):=by
 intro o s r H xs p Q I n h;obtain⟨a,C,d,y,cv,b,rfl,g,j,ok,l,e,q⟩:=h;obtain⟨u,c,rfl,m,f⟩:=n.two;obtain rfl:u=bD a:=m;have i:c=cv:=by
  rcases l with⟨T,rfl,rfl⟩ |⟨D,rfl,rfl⟩;·cases f;rfl
  .cases f;rfl
 subst i;exact kia_one (Na (DV ok)) I.kIn (Gb I.hok g λdd z=>by obtain⟨fs,k⟩:=j dd z;exact(_,k,)) e (λz=>nomatch z) λtk=>(.bl b,H,I.tok tk,rfl,q,)
end
end L2
namespace Q
def uG(xs:Array Nat):Prop:=xs.toList.Pairwise (·<·)
structure Parts(xs:Array Nat)(j p:Nat):Prop where
 le:p<=xs.size
 lo:∀i x,i<p->xs[i]?<*x->x<j
 hi:∀i x,p<=i->xs[i]?<*x->j<=x
def vS{xs:Array Nat}(h:uG xs){x y:Nat}(e:i<k)(f:xs[i]?<*x)(j:xs[k]?<*y):x<y:=by
 have g:xs.toList[i]?<*x:=by simpa using f
 have l:xs.toList[k]?<*y:=by simpa using j
 obtain⟨c,a⟩:=aF.mp g;obtain⟨d,b⟩:=aF.mp l;have :=iB.mp h i k c d e;rw[a,b]at this;exact this
theorem xZ{xs:Array Nat}(h:uG xs)(j:Nat):∀(fuel lo hi:Nat),hi-lo<=fuel->lo<=hi->hi<=xs.size->(∀i x,i<lo->xs[i]?<*x->x<j)->(∀i x,hi<=i->xs[i]?<*x->j<=x)->Parts xs j (Cd xs j fuel lo hi)
 | 0,lo,hi,hf,hl,hs,a,b=>by
  have e:lo=hi:=by lia
  subst e;exact(hs,a,b,)
 |fuel+1,lo,hi,hf,hl,hs,a,b=>by
  unfold Cd;by_cases c:lo<hi
  .rw[if_pos c];have g:(lo+hi)/2<xs.size:=by lia
   have f:xs[(lo+hi)/2]?<*xs[(lo+hi)/2]:=by simp[g]
   have l:xs.getD ((lo+hi)/2) j=xs[(lo+hi)/2]:=by simp[OU,g]
   simp only[l];by_cases d:xs[(lo+hi)/2]<j
   .rw[if_pos d];refine xZ h j fuel _ hi 'D' 'D' hs (λi x m e=>?_) b;by_cases k:i=(lo+hi)/2;·subst k;rw[f]at e;cases e;exact d
    .exact gu (vS h 'D' e f) d
   .rw[if_neg d];refine xZ h j fuel lo _ 'D' 'D' 'D' a λi x m e=>?_;by_cases k:i=(lo+hi)/2;·subst k;rw[f]at e;cases e;lia
    .have :=vS h (by lia:(lo+hi)/2<i) f e;lia
  .rw[if_neg c];have e:lo=hi:=by lia
   subst e;exact(hs,a,b,)
def lC{xs:Array Nat}(h:uG xs)(j:Nat):Parts xs j (cE xs j):=
 xZ h j xs.size 0 xs.size 'D' (a7 _) (ay _) (λi x hi _=>absurd hi (fG _)) λi x hi e=>by have :=(cK.mp e).1;lia
def DJ{a:Type}(xs:Array a)(p:Nat)(x:a):(tR xs p x).toList=xs.toList.take p++x::xs.toList.drop p:=by unfold tR;simp;exact eZ 'F'
theorem C2{xs:Array Nat}(h:uG xs)(d:∀i:Nat,xs[i]? ≠some j):uG (tR xs (cE xs j) j):=by
 have P:=lC h j;unfold uG;rw[DJ];have sub:=h;unfold uG at sub;rw[List.pairwise_append];refine(sub.sublist (wm _ _),List.pairwise_cons.mpr (λy hy=>?_,sub.sublist (List.drop_sublist _ _),),λx f y hy=>?_,)
 .obtain⟨i,hi⟩:=bN.mp hy;rw[i5]at hi;have e:xs[cE xs j+i]?<*y:=by simpa using hi
  have :=P.hi _ _ (eH _ _) e;have ne:y≠j:=λz=>d _ (z▸e);lia
 .obtain⟨i,hi⟩:=bN.mp f;have a:i<cE xs j:=by have :=(aF.mp hi).1;rw[di]at this;lia
  rw[nK a]at hi;have e:xs[i]?<*x:=by simpa using hi
  have g:=P.lo _ _ a e;rcases aA.mp hy with rfl|hy;·exact g
  .obtain⟨k,b⟩:=bN.mp hy;rw[i5]at b;have c:xs[cE xs j+k]?<*y:=by simpa using b
   have :=P.hi _ _ (eH _ _) c;lia
theorem GC{xs:Array Nat}(h:uG xs){x:Nat}(e:xs[i]?<*x):cE xs (x+1)=i+1:=by
 have P:=lC h (x+1);have hi:=(cK.mp e).1;apply Cj
 .apply iA
  intro c;have f:i+1<xs.size:=aZ c P.le;have d:xs[i+1]?<*xs[i+1]:=by simp[f]
  have a:=P.lo _ _ c d;have b:=vS h (eG i) e d;lia
 .apply iA
  intro c;have :=P.hi i x 'D' e;lia
theorem GB{xs:Array Nat}(h:uG xs):cE xs 0=0:=by have P:=lC h 0;apply Cj _ (a7 _);apply iA;intro c;have a:0<xs.size:=aZ c P.le;have :=P.lo 0 xs[0] c (by simp[a]);lia
theorem J1{xs:Array Nat}(h:uG xs){x:Nat}(e:xs[i]?<*x):cE xs x=i:=by
 have P:=lC h x;apply Cj
 .apply iA
  intro c;exact eL _ (P.lo i x c e)
 .apply iA
  intro c;have f:cE xs x<xs.size:=gu c (cK.mp e).1;have d:xs[cE xs x]?<*xs[cE xs x]:=by simp[f]
  have a:=P.hi _ _ (ay _) d;have b:=vS h c d e;lia
def Ff(n:Nat):uG (Array.range n):=by unfold uG;rw[Array.toList_range];exact IA
structure kU(t:bI):Prop where
 up:uG t.place
 no:t.dummies= #[]
def slot_no{t:bI}(T:kU t)(j:Nat):t.slot j≠.dummy:=by
 unfold bI.slot;simp only[T.no];split;·simp
 .split;·rename_i h;exact absurd h (by simp[Cn])
  .simp
def IS{t:bI}(T:kU t)(h:t.slot j=.empty):∀i:Nat,t.place[i]? ≠some j:=λi e=>by have :=J1 T.up e;unfold bI.slot at h;simp only[this,e,beq_self_eq_true,if_true]at h;cases h
def zr(t:bI)(p:bI.Probe):(t.advance p).dummy=p.dummy:=by unfold bI.advance;split <;>rfl
theorem w9{t:bI}(T:kU t){f:Nat->Int}{h:Int}{d:Option Nat}:∀(fuel:Nat)(p:bI.Probe),p.dummy=none->pU t f h fuel p<*(.empty j d)->t.slot j=.empty/\d=none
 | 0,p,_,e=>by simp[pU]at e
 |fuel+1,p,hp,e=>by
  unfold pU at e;cases hs:t.slot p.j with
  |empty=>rw[hs]at e;simp only[iK,bI.Met.empty.injEq]at e;exact⟨by rw[<-e.1];exact hs,by rw[<-e.2];exact hp⟩
  |dummy=>exact absurd hs (slot_no T _)
  |live i=>
   rw[hs]at e;simp only at e;split at e;·cases e
   .exact w9 T fuel _ (by rw[zr];exact hp) e
def zd{t:bI}(T:kU t){h:Int}{b:Bool}(e:t.freeSlot h<*(j,b)):(∀i:Nat,t.place[i]? ≠some j)/\b=false:=by
 unfold bI.freeSlot at e;split at e;·rename_i j' d hm;unfold bI.probe at hm;obtain⟨a,c⟩:=w9 T _ _ (by rfl) hm;subst c;simp only[wk,Kv,iK,Prod.mk.injEq]at e;obtain⟨rfl,rfl⟩:=e;exact(IS T a,rfl,)
 .cases e
def jY(t:bI)(n:Nat):kU (t.standIn n):=(Ff n,rfl,)
def LW{t:bI}(T:kU t)(a:∀i:Nat,t.place[i]? ≠some j):kU (t.put j).1:=by refine(C2 T.up a,?_,);show(if Cn t.dummies j=true then _ else t.dummies)= #[];rw[T.no];simp[Cn]
def xp{t:bI}(T:kU t)(n:Nat):kU (t.orStandIn n):=by
 unfold Iw;split;·exact T
 .exact jY t n
def DG{t:bI}(T:kU t)(a:Array (Int×Value))(h:Int)(x:Value):kU (layNew t a h x).2.1/\(layNew t a h x).2.2.1=false:=by
 unfold layNew;split;·rename_i j b e;obtain⟨c,d⟩:=zd T e;subst d;exact(xp (LW T c) _,rfl,)
 .exact(jY t _,rfl,)
def zS{mask finger moves:Nat}{plain:Bool}{f:Array Int}{t:bI}{g:Array Nat}(h:bI.laid mask finger moves led plain f<*(t,g)):kU t/\t.led=led/\t.plain=plain:=by
 unfold bI.laid at h;cases e:bI.layClean mask f with
 |none=>rw[e]at h;cases h
 |some owner=>
  rw[e]at h;have i:some (({mask,place:=(((aC (mask+1)).filterMap λj=>(owner.getD j none).map (j,·)).map (·.1)).toArray,dummies:= #[],finger,led,moves,plain}:bI),(((aC (mask+1)).filterMap λj=>(owner.getD j none).map (j,·)).map (·.2)).toArray)<*(t,g):=h;have k:=(Prod.mk.inj (bo i)).1;subst k;refine((?_,rfl,),rfl,rfl,);show((((aC (mask+1)).filterMap λj=>(owner.getD j none).map (j,·)).map (·.1)).toArray).toList.Pairwise (·<·);rw[tS,gL,List.pairwise_filterMap];refine IA.imp λ{a b} l x c y d=>?_;cases ha:owner.getD a none with
  |none=>rw[ha]at c;cases c
  |some u=>
   cases hb:owner.getD b none with
   |none=>rw[hb]at d;cases d
   |some v=>rw[ha]at c;rw[hb]at d;cases c;cases d;exact l
def yX(t:bI)(a:Array (Int×Value))(b:Nat):kU (rg t a b).2.1:=by
 unfold rg;split
 .rename_i t' order e;simp only;split;·unfold OK at e;exact(zS e).1
  .exact jY t _
 .exact jY t _
theorem put_led(t:bI)(j:Nat):(t.put j).1.led=t.led:=rfl
def y8(t:bI)(n:Nat):(t.orStandIn n).led=t.led:=by unfold Iw;split <;>rfl
def FT(t:bI)(a:Array (Int×Value))(h:Int)(x:Value):(layNew t a h x).2.1.led=t.led:=by
 unfold layNew;split;·exact(y8 _ _).trans (put_led _ _)
 .rfl
def A5(t:bI)(a:Array (Int×Value))(b:Nat):(rg t a b).2.1.led=t.led:=by
 unfold rg;split
 .rename_i t' order e;simp only;split;·unfold OK at e;exact(zS e).2.1
  .rfl
 .rfl
section
variable {K:Type}[DecidableEq K]{knd:KeyKind prog w K}{E:'I'}{s:Shared}
def tI(knd:KeyKind prog w K)(h:Heap)(a:Addr)(S:K->Bool)(n:Nat)(led:Bool):Prop:=
 ∃o es ep t,h.get? a<*o/\o.ExactSet/\o.data=.set es ep t/\ElemsOf knd es.toList/\(∀k,S k=true↔∃e∈es.toList,knd.is k e.2=true)/\es.size<gp/\t.fits es.size=true/\es.size=n/\kU t/\t.led=led
def tI.of{S:K->Bool}(x:tI knd h a S n led):h.SetOf knd a S n:=by obtain⟨o,l,k,t,b,c,d,e,f,g,i,j,_⟩:=x;exact(o,l,k,t,b,c,d,e,f,g,i,j,)
def wX{o:Obj}{t:bI}(l:h.get? a<*o)(i:o.ExactSet)(j:o.data=.set es ep t){t':bI}{b:K->Bool}(d:ElemsOf knd es'.toList)(f:∀k,b k=true↔∃e∈es'.toList,knd.is k e.2=true)(c:es'.size<gp)(hf:t'.fits es'.size=true)(m:kU t'):
  tI knd (h.update a (Obj.putSet es' t')) a b es'.size t'.led:=by
 have g:=(SetOf_store (knd:=knd) l i j d f c hf).1;exact(_,es',ep+1,t',g,i,rfl,d,f,c,hf,rfl,m,rfl,)
def Em{g:Bool->Sem Unit}(H:∀(b:Bool)(D:Shared)(y:Unit->Shared->Prop),y () D->'B' (g b) y E D){o:Obj}{t:bI}(r:s.heap.get? a<*o)(v:o.ExactSet)(l:o.data=.set es ep t)
  {c:bI}{z:K->Bool}(n:ElemsOf knd bi.toList)(p:∀i,z i=true↔∃e∈bi.toList,knd.is i e.2=true)(f:bi.size<gp)(hf:c.fits bi.size=true)(I:kU c){J:Bool}{R:Option Bool->Shared->Prop}
  (h:∀h',dj a s.heap h'->tI knd h' a z bi.size c.led->R (some true) {s with heap:=h'}):
  'B' (do
    storeSet a bi c
    if(!J&&c.tooFull)=true then do
      g (rg c bi (fL bi.size)).2.2
      storeSet a (rg c bi (fL bi.size)).1 (rg c bi (fL bi.size)).2.1
      pure (some true)
     else pure (some true)) R E s:=by
 refine aa (wpAny_storeSet_of r l ?_ (pS f));have B:=(SetOf_store (knd:=knd) r v l n p f hf).1;have L:=wX (knd:=knd) r v l n p f hf I;have C:=bM s.heap a (Obj.putSet bi c);split
 .have d:=relayAll_perm c bi (fL bi.size);have u:=relayAll_fits c bi (fL bi.size);have k:=yX c bi (fL bi.size);have j:=A5 c bi (fL bi.size);generalize rg c bi (fL bi.size)=Rl at d u k j⊢;obtain⟨G,t3,M⟩:=Rl;dsimp only at d u k j⊢;have x:G.size=bi.size:=by rw[<-cq,d.length_eq,cq]
  refine aa (H _ _ _ (aa (wpAny_storeSet_of B rfl ?_ (pS (by rw[x];exact f)))));have F:=wX (knd:=knd) B v rfl (n.perm d) (λi=>(p i).trans (λ⟨e,m,q⟩=>(e,d.mem_iff.mpr m,q,),λ⟨e,m,q⟩=>(e,d.mem_iff.mp m,q,),)) (by rw[x];exact f) u k;rw[x,j]at F;exact aj (h _ (C.trans (bM _ a _)) F)
 .exact aj (h _ C L)
def Fn{t:bI}(T:kU t):kU {t with plain:=false}:=(T.up,T.no,)
def addX{S:K->Bool}{k:K}{x:Value}{Q:Bool->Shared->Prop}(G:knd.is k x=true)(I:x.scannable=true)(W:tI knd s.heap a S n led)(P:n+1<gp)
  (h:∀h',dj a s.heap h'->tI knd h' a (λc=>S c||decide (c=k)) (if S k then n else n+1) led->Q (!S k) {s with heap:=h'}):
  'B' (setAddHashed a x (knd.hash k)) Q E s:=by
 obtain⟨o,d,V,t,v,J,r,C,D,O,hf,H,R,B⟩:=W;have a1:d.size+1<gp:=by rw[H];exact P
 unfold setAddHashed setAddHashedIn;refine bY (aa (hW v r hf ?_));dsimp only;rw[byScan_of I O C];simp only[↓reduceIte];unfold setAddByScan;refine aa ?_;refine aa (fW (aa (wpAny_setScan_of G v r hf C ?_)));cases hr:List.findIdx? (λe=>knd.is k e.2) d.toList with
 |some j=>
  dsimp only;obtain⟨X,f,_⟩:=List.findIdx?_eq_some_iff_getElem.mp hr;have m:S k=true:=(D k).mpr (d.toList[j],aR X,f,);refine aj (aj ?_);have :=h s.heap (dj.refl a s.heap) (o,d,V,t,v,J,r,C,λc=>by rw[cJ,decide_eq_true_eq,<-D c];exact(λq=>q.elim id (λe=>e▸m),.inl,),O,hf,by rw[m];exact H,R,B,)
  rw[m]at this;exact this
 |none=>
  dsimp only;have m:S k=false:=by
   cases q:S k with
   |false=>rfl
   |true=>obtain⟨e,F,Z⟩:=(D k).mp q;have :=List.findIdx?_eq_none_iff.mp hr e F;rw[Z]at this;cases this
  have Y:∀(b:Bool){z:Shared}{g:Unit->Shared->Prop},g () z->'B' (match b with |true=>rule "set.scan.the-table-gave-way" |false=>pure ()) g E z:=λb z g q=>by cases b<;>first |exact aj q|exact fW q
  have f:=layNew_perm t d (knd.hash k) x;have u:=layNew_fits t d (knd.hash k) x;have p:=(DG R d (knd.hash k) x).1;have l:=FT t d (knd.hash k) x;generalize layNew t d (knd.hash k) x=L at f u p l⊢;obtain⟨i,t1,wd,a0⟩:=L;dsimp only at f u p l⊢;rw[Array.toList_push]at f;have l1:ElemsOf knd i.toList:=(C.push G I).perm f;have F:∀c,(S c||decide (c=k))=true↔∃e∈i.toList,knd.is c e.2=true:=mem_push_iff G D f;have T:i.size=n+1:=by rw[<-cq,f.length_eq,bu,cq,H];rfl
  have M:i.size<gp:=by rw[T];exact P
  refine aa (Y _ ?_);have N:∀h',dj a s.heap h'->tI knd h' a (λc=>S c||decide (c=k)) i.size led->Q true {s with heap:=h'}:=λh' y x=>by have :=h h' y;rw[m]at this;rw[T]at x;exact this x
  split
  .refine aa ?_;rw[hashByValue_scannable 8 I];refine aj (Em ?_ v J r l1 F M ?_ ?_ ?_);·intro b z g q;cases b<;>first |exact aj q|exact fW q
   .split;·exact u
    .exact bI.fits_plain_off u
   .split;·exact p
    .exact Fn p
   .intro h' y x;refine aj (N h' y ?_);split at x;·rw[l,B]at x;exact x
    .have U:({t1 with plain:=false}:bI).led=led:=l.trans B;rw[U]at x;exact x
  .refine aa (aj ?_);simp only[↓reduceIte];refine Em ?_ v J r l1 F M u p ?_;·intro b z g q;cases b<;>first |exact aj q|exact fW q
   .intro h' y x;rw[l,B]at x;exact aj (N h' y x)
end
end Q
set_option maxHeartbeats 3200000
namespace Q
open PySem.W L2
section
variable {R:Result->Shared->Prop}{I:Addr}{fp wr:List Addr}{G:Array lW->Array lW->Prop}{P:Nat->Value->Prop}{St:Nat->Shared->Prop}
theorem zD(W:WalksS prog w A.in1 I fp wr G n P St)(S:Addr)(h:S∉fp)(ks:List Key)(r:ks.length=n)(y:∀i v,P i v->∃k,ks[i]?<*k/\RelV (kV k) v)(d:n+1<gp):
  ∀(m i:Nat)(s:Shared),n-i=m->i<=n->St i s->tI (cg prog w) s.heap S (has (met (ks.take i))) (met (ks.take i)).length led->
   (∀s',Moved (S::wr) G s s'->tI (cg prog w) s'.heap S (has (met ks)) (met ks).length led->R (.ok (.ret .none)) s')->
   gK (model prog w) A (.builtin "set.update.loop" ([.ref S,.ref I],[],)) R s
 | 0,i,s,hm,hi,st,hS,hR=>by
  obtain rfl:i=n:=by lia
  rw[<-r,fj]at hS;refine fg nJ ?_;rw[dG gw _];show wpAny _ A.in1 (pyNext (.ref I)>>=_) _ _ s;refine aa (W.done s _ _ st λs' g=>?_);obtain⟨o,c,a,t,f,p⟩:=hS;exact aj (hR s' (g.mono λb d=>aG _ d) (o,c,a,t,g.heap S _ (λz=>h (W.sub _ z)) f,p,))
 |m+1,i,s,hm,hi,st,hS,hR=>by
  have q:i<n:=by lia
  refine fg nJ ?_;rw[dG gw _];show wpAny _ A.in1 (pyNext (.ref I)>>=_) _ _ s;refine aa (W.item i s _ _ q st λv s' D a0 g=>?_);obtain⟨k,O,l⟩:=y i v D;have E:tI (cg prog w) s'.heap S (has (met (ks.take i))) (met (ks.take i)).length led:=by obtain⟨o,c,a,t,f,p⟩:=hS;exact(o,c,a,t,g.heap S _ (λz=>h (W.sub _ z)) f,p,)
  have V:v.scannable=true:=by
   cases k with
   |inl j=>obtain⟨t,rfl⟩:=l;rfl
   |inr x=>obtain⟨t,rfl⟩:=l;rfl
  show wpAny _ A.in1 (holding [v] (setAdd S v)>>=_) _ _ s';refine aa (bY ?_);unfold setAdd;refine bY (aa ((cg prog w).pyHash (k:=k) (HJ l) ?_));have Q:=FK (ks.take i);rw[di]at Q;refine addX (knd:=cg prog w) (led:=led) (s:={s' with toks:=s'.toks+1}) (HJ l) V E 'D' λC u F=>?_;have B:ks.take (i+1)=ks.take i++[k]:=by rw[dO,O];rfl
  have H:tI (cg prog w) C S (has (met (ks.take (i+1)))) (met (ks.take (i+1))).length led:=by rw[B,MP];obtain⟨o,c,a,t,f,N,L,M,T,K,hf,U,X⟩:=F;refine(o,c,a,t,f,N,L,M,λj=>?_,K,hf,by rw[rZ];exact U,X,);rw[<-T j,j8,Dz,cJ,j8,decide_eq_true_eq]
  refine aj (fY gw _,zD W S h ks r y d m (i+1) _ 'D' q (W.frame _ s' _ _ a0 (dw _) λb hq o e=>?_) H λZ Y J=>?_,);·rw[u.2 b (λz:b=S=>h (by rw[<-z];exact hq))];exact e
  .refine hR Z (Kr W.gtrans ((g.mono λb d=>aG _ d).then_heap (dw _) λb o hq e=>?_) Y) J;rw[u.2 b (λz:b=S=>hq (by rw[z];exact aM))];exact e
end
section
variable {E:'I'}{s:Shared}
def JL(a:Value)(h:Q₁ (.ref ⇑s) {s with heap:=s.heap.push (nL (!w.params.followText "set-order"))}):gK (model prog w) A (.call (.builtin "set.__new__") ([.type "set",a],[],)) (wants Q₁ E) s:=by refine GO ?_;show wpAny _ A.in1 (do rh "set.__new__" ([.type "set",a],[],);again (.builtin "set.__new__" ([.type "set",a],[],))) _ _ s;refine aa (pQ (F.newCall_set_1 a) (aj (fY F.plain_set_new _,fg F.entry_set_new ?_,)));rw[dG F.plain_set_new _];unfold Builtin.«set.__new__» Builtin.Frozenset.newClass;have c:=sub_set_self;obtain⟨b,g,d,tk,e⟩:=s;dsimp only;wp_walk;refine iX (aj ?_);dsimp only;simp only[newObj];exact aa (wpAny_alloc (aj (aj h)))
def IV{P:Bool->Heap->Prop}{Q:'I'}(D:s.heap.IsList l items)
  (I:∀(led:Bool)(R:Result->Shared->Prop),(∀s',Moved (⇑s::[(s.heap.push (nL led)).objs.size]) (λa b=>b=a) {s with heap:=(s.heap.push (nL led)).push {cls:=.type "list_iterator",data:=.fields #[.ref l,.int 0 0]}} s'->P led s'.heap->R (.ok (.ret .none)) s')->gK (model prog w) A.in1.in1 (.builtin "set.update.loop" ([.ref ⇑s,.ref (s.heap.push (nL led)).objs.size],[],)) R {s with heap:=(s.heap.push (nL led)).push {cls:=.type "list_iterator",data:=.fields #[.ref l,.int 0 0]}})
  (h:∀(h':Heap)(tk:Nat),P (!w.params.followText "set-order") h'->(∀b o,b<⇑s->s.heap.get? b<*o->h'.get? b<*o)->Q (.ref ⇑s) {s with heap:=h',toks:=tk}):
  'B' (call (.type "set") [.ref l]) Q E s:=by
 have d:=F.called_set;obtain⟨c,tl,a1⟩:=d.mro;have W:=d.made;have X:=d.sub;have Y:=d.notType;have Z:=d.canCreate;have f5:=F.typeCall_set_1 (.ref l);refine iF (GO ?_);show wpAny _ _ (callAny (.type "set") _) _ _ _;refine aj (vz _ (by decide+kernel),fg F.entry_type_call ?_,);rw[Around.under_plain (weight_type_call_type "set" [.ref l] []) rfl];repeat(any_goals (first |assumption|wp_step))
 refine kj (JL (.ref l) (E:=E) (Q₁:=λobj n=>∃led:Bool,led=(!w.params.followText "set-order")/\obj=.ref ⇑s/\n={s with heap:=s.heap.push (nL led)}) (_,rfl,rfl,rfl,)) λr n f=>?_;rcases r with e|fl;·exact f
 rcases fl with _|_|_|obj;·exact f.elim
 .exact f.elim
 .exact f.elim
 obtain⟨led,H,rfl,rfl⟩:=f;rw[<-H]at h;have u:(s.heap.push (nL led)).get? ⇑s<*(nL led):=av _ rfl;have x:Shared.TypeIs {s with heap:=s.heap.push (nL led)} (.ref ⇑s) "set":=(_,u,rfl,);have f6:=d.init.lookup;have f7:=d.init.bind (.ref ⇑s);repeat(any_goals (first |assumption|wp_step))
 refine kj (iH (R:=wants (λr p=>r=.none/\∃h' tk,p={s with heap:=h',toks:=tk}/\P led h'/\
  (∀b o,b<⇑s->s.heap.get? b<*o->h'.get? b<*o)) E) d.init.plain F.entry_set_init (check_set_init_1 x ?_)) λU p g=>?_
 .obtain⟨O,m,y,k,B⟩:=D;obtain⟨L,M,N,T⟩:=O;obtain rfl:L=.type "list":=y;obtain rfl:N=.seq items k:=B;have J:(s.heap.push (nL led)).get? l<*{cls:=.type "list",dict:=M,data:=.seq items k,slots:=T}:=af _ m;have g1:=F.sub_list_set;have g2:=F.sub_list_frozenset;have g3:(lV "list"==lV "dict")=false:=by decide
  have G:(s.heap.push (nL led)).IsList l items:=(_,J,rfl,k,rfl,);unfold Builtin.«set.__init__» noKeywords Builtin.Frozenset.updateFrom;generalize hPI:pyIter=PI
  wp_walk
  subst hPI;refine j9 G (aa (wpAny_runValue ?_));have a0:l<⇑s:=aw m;have K:(s.heap.push (nL led)).objs.size=⇑s+1:=bc _ _;refine I led _ λs' i j=>?_
  .obtain⟨h',t,q,V,S⟩:=s';obtain rfl:t=s.gens:=i.gens;obtain rfl:q=s.drawn:=i.drawn;obtain rfl:S=s.os:=i.os;show wpAny _ _ _ _ _ _;refine aj ?_;show wpAny _ _ (ret bO) _ _ _;refine aj (rfl,h',V,rfl,j,λb o hq e=>i.heap b o (λz=>?_) (af _ (af _ e)),);rcases aA.mp z with z|z;·exact aL hq z
   .exact aL (bP hq) ((aI.mp z).trans K)
 .rcases U with e|fl2;·exact g
  rcases fl2 with _|_|_|v;·exact g.elim
  .exact g.elim
  .exact g.elim
  obtain⟨rfl,h',tk,rfl,j,C⟩:=g;repeat(any_goals (first |assumption|wp_step))
  exact h _ _ j C
def zE{ks:List Key}{Q:'I'}(p:A.handled=none)(a:s.heap.IsList l items)(q:ks.length=items.size)
  (u:∀(i:Nat)(v:Value),items[i]?<*v->∃k,ks[i]?<*k/\RelV (kV k) v)(m:items.size+1<gp)
  (h:∀(h':Heap)(tk:Nat),tI (cg prog w) h' ⇑s (has (met ks)) (met ks).length (!w.params.followText "set-order")->(∀b o,b<⇑s->s.heap.get? b<*o->h'.get? b<*o)->Q (.ref ⇑s) {s with heap:=h',toks:=tk}):
  'B' (call (.type "set") [.ref l]) Q E s:=by
 have c:l<⇑s:=let⟨_,e,_⟩:=a;aw e;refine IV (P:=λled h=>tI (cg prog w) h ⇑s (has (met ks)) (met ks).length led) a (λled R g=>?_) h;have f:A.in1.in1.in1.handled=none:=by simp[p]
 have d:(s.heap.push (nL led)).objs.size=⇑s+1:=bc _ _;have r:l≠(s.heap.push (nL led)).objs.size:=by rw[d];exact aL (bP c)
 have t:⇑s∉[(s.heap.push (nL led)).objs.size,l]:=by
  rw[d];intro z;rcases aA.mp z with z|z;·exact aL (eG _) z
  .exact dQ c (aI.mp z)
 have j:(s.heap.push (nL led)).get? ⇑s<*(nL led):=av _ rfl;refine zD (led:=led) ((OJ f _ l r items).toS) ⇑s t ks q u m (items.size-0) 0 _ 'D' (a7 _) ((_,av _ rfl,rfl,rfl,),(a.push _).push _,) ?_ g;exact(nL led,#[],0,_,af _ j,(rfl,rfl,rfl,),rfl,λe n=>by simp at n,λk=>by simp[met,has],'E',by rfl,rfl,(kC,rfl,),rfl,)
end
def JP(m:X.calm=true):fA X (.type "set") (rSet X.K):=by intro M s P H O N Q I r h;obtain⟨p,ks,rfl,hq,K,q⟩:=h;obtain⟨u,rfl,C⟩:=vals1 r;cases C;obtain⟨L,g,A,_⟩:=I.list hq;have f:=g.length;rw[ai]at f;refine zE (ks:=ks) (I.ok.hd m) A.isList (by rw[aE];exact f) (λi v e=>Bz g i v ↥e) (by rw[aE,<-f];unfold gp;lia) λD tk j y=>?_;refine(.ref ⇑s,_,I.laid (t':=tk) (λb o e=>y b o (aw e) e) (ay _) (show dA X.prog X.w _ _ _ (Fd _ (met ks).length)from ?_),rfl,q _ (I.hok.fresh (ay _)),);obtain⟨o,d,c,t,a,w,n,G,J,l,hf,x⟩:=j.of;refine((o,d,c,t,a,w,n,l,hf,x,),(o,a,),λE F z k=>?_,);obtain⟨o,d,c,t,a,B⟩:=z;exact(o,d,c,t,k o a,B,)
end Q
set_option maxHeartbeats 1000000
namespace Q
theorem jk{c:Type}:∀{l:List c}{i:Nat}(h:i<l.length),(l[i]::l.eraseIdx i).Perm l
 |a::l,0,_=>eY _
 |a::l,i+1,h=>by
  have hi:i<l.length:=by simpa using h
  have b:=jk hi;show(l[i]::a::l.eraseIdx i).Perm (a::l);exact(yO _ _ _).trans (b.cons a)
theorem Hm{c:Type}(next :Nat->Nat):∀(fuel k:Nat)(b:List c)(out:Array c),b.length<=fuel->(B8 next fuel k b out).toList.Perm (out.toList++b)
 | 0,k,b,out,h=>by have e:b=[]:=bh.mp 'D';subst e;simp[B8]
 |fuel+1,k,b,out,h=>by
  unfold B8;cases b with
  |nil=>simp
  |cons a l=>
   have hi:next k%(a::l).length<(a::l).length:=vM _ 'F'
   rw[ae hi];dsimp only;refine(Hm next fuel (k+1) _ _ (by rw[Cq hi];simp at h⊢;lia)).trans ?_;rw[Array.toList_push,ni];exact List.Perm.append_left _ (jk hi)
def pE{a:Type}(next :Nat->Nat)(xs:Array a):(jI next xs).toList.Perm xs.toList:=by unfold jI;exact(Hm next xs.size 0 xs.toList #[] 'F').trans 'F'
section
variable {M:Model}{E:'I'}
def yV{a:Source}{Q:Nat->Shared->Prop}(h:n≠0)(q:∀i d,i<n->Q i {s with drawn:=d}):wpAny M A (choose a n) Q E s:=λc p b=>by unfold choose;rw[Sem.wp_choose];exact(h,q _ _ (vM _ (Nat.pos_of_ne_zero h)),)
theorem zZ{b:Type}:∀(n:Nat)(xs:List b)(s:Shared)(Q:List b->Shared->Prop),xs.length<=n->(∀ys d,ys.Perm xs->Q ys {s with drawn:=d})->wpAny M A (drawOrder n xs) Q E s
 | 0,xs,s,Q,h,q=>by have e:xs=[]:=bh.mp 'D';subst e;unfold drawOrder;exact aj (q [] s.drawn (eY _))
 |n+1,[],s,Q,h,q=>by unfold drawOrder;exact aj (q [] s.drawn (eY _))
 |n+1,a::l,s,Q,h,q=>by unfold drawOrder;refine aa (yV 'F' λi d hi=>?_);rw[ae hi];dsimp only;refine aa (zZ n _ _ _ (by rw[Cq hi];simp at h⊢;lia) λys c f=>aj ?_);exact q _ c ((f.cons _).trans (jk hi))
end
end Q
set_option maxHeartbeats 3200000
namespace Q
open PySem.W L2
def fR:Slot "set_iterator" "__next__" "set_iterator.__next__":=
 .of (owner:="set_iterator") (n:="__next__") (by rw[typeLookup_type,builtinLookup_eq_fast];kernel_rfl) (by decide+kernel) (by decide+kernel) (by decide+kernel) (by first |exact .inl (by decide+kernel) |exact .inr (by decide+kernel)) (by rw[Kh];kernel_rfl)
def qi:Kk table "set_iterator.__next__"<*Builtin.«set_iterator.__next__»:=entryFor_of_tree 'G'
def tE(a:Value):argsOk "set_iterator.__next__" ([a],[],):=by unfold argsOk;kernel_rfl
def vF:Kk table "set.__iter__"<*Builtin.«frozenset.__iter__»:=entryFor_alias (id':="frozenset.__iter__") 'G' rfl (by decide+kernel) 'G'
noncomputable abbrev siO(S:Addr)(first :Value)(i n ep:Nat):Obj:={cls:=.type "set_iterator",dict:=none,data:=.fields #[first,.int i 0,.ref S,.int n 0,.int ep 0],slots:= #[]}
section
variable {E:'I'}{s:Shared}
abbrev js(es:Array (Int×Value))(t:bI):Bool:= !t.plain&&es.size>1
def rC{o:Obj}{t:bI}{Q:Bool->Shared->Prop}(c:s.heap.get? a<*o)(b:o.data=.set es ep t)(hf:t.fits es.size=true)(h:Q (!w.params.followText "set-order"&&js es t) s):
  'B' (setDrawn a) Q E s:=by
 unfold setDrawn Kf;refine aa (hW c b hf ?_);dsimp only;refine aa (aa (iX (aj (aj ?_))));exact h
def Ng{o:Obj}{t:bI}{Q:'I'}(b:s.heap.get? S<*o)(h:o.cls=.type "set")(a:o.data=.set es ep t)(hf:t.fits es.size=true)(l:es.size<gp)
  (f:(!w.params.followText "set-order"&&js es t)=false->Q (.ref ⇑s) {s with heap:=s.heap.push (siO S (.int 0 0) 0 es.size ep)})
  (g:(!w.params.followText "set-order"&&js es t)=true->∀(ps:List Nat)(d:Drawn),ps.Perm (aC es.size)->Q (.ref (⇑s+1)) {s with drawn:=d,heap:=(s.heap.push {cls:=.type "tuple",data:=.seq (ps.map λ(i:Nat)=>rawInt i).toArray}).push (siO S (.ref ⇑s) 0 es.size ep)}):
  'B' (pyIter (.ref S)) Q E s:=by
 have c:s.TypeIs (.ref S) "set":=(o,b,h,);refine wpAny_pyIter_slot c F.slot_set_iter (cC F.slot_set_iter c vF ?_ (F.args_set_iter_1 _));unfold Builtin.«frozenset.__iter__» Builtin.Frozenset.slot0 Builtin.Frozenset.sizeOf
 wp_walk
 have j:(t.place.size != es.size||decide (t.fill>t.mask))=false:=by simp only[bI.fits,az,beq_iff_eq,decide_eq_true_eq]at hf;simp[hf.1,Nat.not_lt.mpr hf.2]
 rw[a];dsimp only;rw[if_neg (by rw[j];decide)];refine aj (aj (aj ?_));refine aa (rC b a hf ?_);dsimp only;cases hb:(!w.params.followText "set-order"&&js es t)with
 |false=>rw[if_neg 'E'];refine aa (aj (aa (wpAny_setEpoch_of b a hf ?_)));refine aa (cm (aj (_,rfl,"set_iterator",_,(_,av _ rfl,rfl,),fR.lookup,f hb,)))
 |true=>rw[if_pos rfl];refine aa (zZ _ _ _ _ 'F' λps d e=>?_);refine aa (cm ?_ (by show(ps.map λ(i:Nat)=>rawInt i).toArray.size<=sizeLine;rw[aE,ai,e.length_eq,bU];exact pS l));have k:(s.heap.push {cls:=.type "tuple",data:=.seq (ps.map λ(i:Nat)=>rawInt i).toArray}).get? S<*o:=af _ b;refine aa (wpAny_setEpoch_of (s:={s with drawn:=d,heap:=s.heap.push {cls:=.type "tuple",data:=.seq (ps.map λ(i:Nat)=>rawInt i).toArray}}) k a hf ?_);have m:(s.heap.push {cls:=.type "tuple",data:=.seq (ps.map λ(i:Nat)=>rawInt i).toArray}).objs.size=⇑s+1:=bc ..;refine aa (cm (aj (_,rfl,"set_iterator",_,(_,av _ rfl,rfl,),fR.lookup,?_,)));have :=g hb ps d e;rw[<-m]at this;exact this
end
section
variable {E:'I'}{s:Shared}
structure lD(h:Heap)(S:Addr)(es:Array (Int×Value))(ep:Nat)(t:bI):Prop where
 ob:∃o,h.get? S<*o/\o.cls=.type "set"/\o.data=.set es ep t
 fit:t.fits es.size=true
def kz{first :Value}{t:bI}{Q:dN->Shared->Prop}(hi:s.heap.get? I<*(siO S first i es.size ep))(hs:lD s.heap S es ep t)
  (h:'B' (match first with
   |.int slot _=>do
    match<-setNext S slot.toNat i ep with
    |some (x,next)=>do
     vJ (.ref I) 0 (rawInt next)
     vJ (.ref I) 1 (rawInt ((i:Int)+1))
     ret x
    |none=>do
     vJ (.ref I) 2 .none
     Kg (<-newExc (.type "StopIteration") [])
   |_=>do
    let some places<-wg first |unsupported "internal:set_iterator"
    match places[i]? with
    |some (.int place _)=>do
     let x<-setNextDrawn S place.toNat ep
     vJ (.ref I) 1 (rawInt ((i:Int)+1))
     ret x
    |some _=>unsupported "internal:set_iterator"
    |none=>do
     vJ (.ref I) 0 (rawInt 0)
     vJ (.ref I) 2 .none
     Kg (<-newExc (.type "StopIteration") [])) Q E s):
  'B' (Builtin.«set_iterator.__next__» ([.ref I],[],)) Q E s:=by
 obtain⟨⟨o,b,c,a⟩,hf⟩:=hs;unfold Builtin.«set_iterator.__next__»;show wpAny _ _ (fieldsOf (.ref I)>>=_) _ _ _;refine aa (wpAny_fieldsOf hi rfl ?_);dsimp only;refine aa (wpAny_setEntries_of b a hf ?_);rw[if_neg 'F'];exact h
def nxA{t:bI}{o:Obj}{Q:Option (Value×Nat)->Shared->Prop}(c:w.params.followText "set-order"=true)(b:s.heap.get? S<*o)(a:o.data=.set es ep t)(hf:t.fits es.size=true)
  (q:Q ((jI (w.params.setOrder S ep) es)[i]?.map λe=>(e.2,k)) s):'B' (setNext S k i ep) Q E s:=by
 unfold setNext Kf;refine aa (hW b a hf ?_);dsimp only;refine aa (aa (iX (aj ?_)));dsimp only;rw[show(model prog w).w.params.followText "set-order"=true from c];simp only[if_true,bne_self_eq_false,aY,if_false];refine aa ?_;unfold setWalk Kf;refine aa (hW b a hf ?_);dsimp only;refine aa (aa (iX (aj ?_)));dsimp only;rw[show(model prog w).w.params.followText "set-order"=true from c];simp only[if_true];exact aa (iX (aj (aj q)))
def nxB{t:bI}{o:Obj}{Q:Option (Value×Nat)->Shared->Prop}(h:w.params.followText "set-order"=false)(e:js es t=false)(f:t.led=true)(g:s.heap.get? S<*o)(d:o.data=.set es ep t)(hf:t.fits es.size=true)(b:cE t.place k=i)
  (l:∀x j,es[i]?<*x->t.place[i]?<*j->Q (some (x.2,j+1)) s)(m:es[i]? =none->Q none s):'B' (setNext S k n ep) Q E s:=by
 unfold setNext Kf;refine aa (hW g d hf ?_);dsimp only;refine aa (aa (iX (aj ?_)));dsimp only;rw[show(model prog w).w.params.followText "set-order"=false from h];simp only[aY,if_false];rw[if_neg (λz=>by have c:js es t=true:=z;rw[e]at c;cases c)];refine aa (show wpAny _ _ (if(!t.led&& !es.isEmpty)=true then unsupported "set:maker-not-led" else pure ()) _ _ _ from ?_);rw[if_neg (by rw[f];simp)];refine aj (aj ?_);cases hx:es[i]? with
 |none=>simp only[b,hx];exact m hx
 |some x=>
  have q:t.place.size=es.size:=by simp only[bI.fits,az,beq_iff_eq]at hf;exact hf.1
  have p:i<es.size:=(cK.mp hx).1;have a:t.place[i]?<*(t.place[i]''D'):=by simp[show i<t.place.size by lia]
  simp only[b,hx,a];exact l x _ hx a
def nextA{t:bI}{x:Int×Value}{Q:dN->Shared->Prop}(g:w.params.followText "set-order"=true)(hi:s.heap.get? I<*(siO S (.int k 0) i es.size ep))(hs:lD s.heap S es ep t)
  (j:(jI (w.params.setOrder S ep) es)[i]?<*x)(h:∀h',h'.get? I<*(siO S (.int k 0) (i+1) es.size ep)->dj I s.heap h'->Q (.done (.ret x.2)) {s with heap:=h'}):
  'B' (Builtin.«set_iterator.__next__» ([.ref I],[],)) Q E s:=by
 refine kz hi hs ?_;obtain⟨⟨o,f,n,e⟩,hf⟩:=hs;refine aa (nxA g f e hf ?_);rw[j,kB];dsimp only;refine aa (cb hi 'F' λd a l=>?_);have a:d.get? I<*(siO S (.int k 0) i es.size ep):=a;refine aa (cb a 'F' λc b m=>?_);have b:c.get? I<*(siO S (.int k 0) (i+1) es.size ep):=b;exact aj (h c b (l.trans m))
def nextB{t:bI}{x:Int×Value}{Q:dN->Shared->Prop}(r:w.params.followText "set-order"=false)(m:js es t=false)(p:t.led=true)(hi:s.heap.get? I<*(siO S (.int k 0) i es.size ep))(hs:lD s.heap S es ep t)
  (n:cE t.place k=i)(e:es[i]?<*x)(h:∀h' j,t.place[i]?<*j->h'.get? I<*(siO S (.int (j+1:Nat) 0) (i+1) es.size ep)->dj I s.heap h'->Q (.done (.ret x.2)) {s with heap:=h'}):
  'B' (Builtin.«set_iterator.__next__» ([.ref I],[],)) Q E s:=by
 refine kz hi hs ?_;obtain⟨⟨o,q,B,l⟩,hf⟩:=hs;refine aa (nxB r m p q l hf n (λy j c f=>?_) λz=>by rw[e]at z;cases z);rw[e]at c;cases c;dsimp only;refine aa (cb hi 'F' λg a u=>?_);have a:g.get? I<*(siO S (.int (j+1:Nat) 0) i es.size ep):=a;refine aa (cb a 'F' λd b v=>?_);have b:d.get? I<*(siO S (.int (j+1:Nat) 0) (i+1) es.size ep):=b;exact aj (h d _ f b (u.trans v))
def nextC{p:Nat}{tk:Tok}{t:bI}{ps:Array Value}{c:Obj}{x:Int×Value}{Q:dN->Shared->Prop}(hi:s.heap.get? I<*(siO S (.ref T) i es.size ep))(hs:lD s.heap S es ep t)
  (d:s.heap.get? T<*c)(e:c.data=.seq ps m)(j:ps[i]?<*(.int p tk))(k:es[p]?<*x)(h:∀h',h'.get? I<*(siO S (.ref T) (i+1) es.size ep)->dj I s.heap h'->Q (.done (.ret x.2)) {s with heap:=h'}):
  'B' (Builtin.«set_iterator.__next__» ([.ref I],[],)) Q E s:=by
 refine kz hi hs ?_;obtain⟨⟨o,g,n,f⟩,hf⟩:=hs;dsimp only;refine aa (dm d e ?_);simp only[j,aW];refine aa ?_;unfold setNextDrawn;refine aa (hW g f hf ?_);simp only[bne_self_eq_false,aY,if_false,k];refine aj ?_;refine aa (cb hi 'F' λb a l=>?_);have a:b.get? I<*(siO S (.ref T) (i+1) es.size ep):=a;exact aj (h b a l)
end
section
variable {E:'I'}{s:Shared}
def qH{d:Type}{Q:d->Shared->Prop}(b:A.handled=none)(h:∀h' e,(∀c o,s.heap.get? c<*o->h'.get? c<*o)->(∃o,h'.get? e<*o/\o.cls=.type "StopIteration")->E (.ref e) {s with heap:=h'}):
  'B' (newExc (.type "StopIteration") []>>=λx=>Kg x) Q E s:=by
 refine aa ?_;simp only[newExc,newTuple];refine aa (cm ?_ (by size_fits));refine aa (m:=vL _ _) (pQ (a:=bO) (by first |rfl| (simp only[vL];rfl)) ?_);refine cm ?_ (by size_fits);simp only[Kg];refine aa (wpAny_handled ?_);rw[b];refine aa (aj (wpAny_throw ?_));exact h _ _ (λc o e=>af _ (af _ e)) (_,av _ rfl,rfl,)
def Ends(E:'I')(I:Addr)(s:Shared):Prop:=∀h' e,(∀c o,c≠I->s.heap.get? c<*o->h'.get? c<*o)->(∃o,h'.get? e<*o/\o.cls=.type "StopIteration")->E (.ref e) {s with heap:=h'}
def endA{t:bI}{Q:dN->Shared->Prop}(i:A.handled=none)(l:w.params.followText "set-order"=true)(hi:s.heap.get? I<*(siO S (.int k 0) es.size es.size ep))(hs:lD s.heap S es ep t)(h:Ends E I s):
  'B' (Builtin.«set_iterator.__next__» ([.ref I],[],)) Q E s:=by
 have m:(jI (w.params.setOrder S ep) es)[es.size]? =none:=by have :=(pE (w.params.setOrder S ep) es).length_eq;simp at this⊢;lia
 refine kz hi hs ?_;obtain⟨⟨o,j,u,f⟩,hf⟩:=hs;refine aa (nxA l j f hf ?_);rw[m,Option.map_none];dsimp only;refine aa (cb hi 'F' λd r p=>?_);exact qH (s:={s with heap:=d}) i λb e n g=>h b e (λc o a q=>n c o (p.extBut c o a q)) g
def endB{t:bI}{Q:dN->Shared->Prop}(m:A.handled=none)(u:w.params.followText "set-order"=false)(i:js es t=false)(p:t.led=true)(hi:s.heap.get? I<*(siO S (.int k 0) es.size es.size ep))(hs:lD s.heap S es ep t)
  (n:cE t.place k=es.size)(h:Ends E I s):'B' (Builtin.«set_iterator.__next__» ([.ref I],[],)) Q E s:=by
 refine kz hi hs ?_;obtain⟨⟨o,r,C,g⟩,hf⟩:=hs;refine aa (nxB u i p r g hf n (λy j b B=>by simp at b) λ_=>?_);dsimp only;refine aa (cb hi 'F' λf z x=>?_);exact qH (s:={s with heap:=f}) m λd e v l=>h d e (λc o a q=>v c o (x.extBut c o a q)) l
def endC{t:bI}{ps:Array Value}{d:Obj}{Q:dN->Shared->Prop}(n:A.handled=none)(hi:s.heap.get? I<*(siO S (.ref T) es.size es.size ep))(hs:lD s.heap S es ep t)(j:s.heap.get? T<*d)(k:d.data=.seq ps m)(y:ps.size=es.size)(h:Ends E I s):
  'B' (Builtin.«set_iterator.__next__» ([.ref I],[],)) Q E s:=by
 refine kz hi hs ?_;dsimp only;refine aa (dm j k ?_);have p:ps[es.size]? =none:=by simp;lia
 simp only[p];refine aa (cb hi 'F' λg a u=>?_);have a:g.get? I<*(siO S (.int 0 0) es.size es.size ep):=a;refine aa (cb a 'F' λi x v=>?_);exact qH (s:={s with heap:=i}) n λf e r l=>h f e (λc o b q=>r c o (v.extBut c o b (u.extBut c o b q))) l
end
def rH:Slot "set_iterator" "__iter__" "set_iterator.__iter__":=
 .of (owner:="set_iterator") (n:="__iter__") (by rw[typeLookup_type,builtinLookup_eq_fast];kernel_rfl) (by decide+kernel) (by decide+kernel) (by decide+kernel) (by first |exact .inl (by decide+kernel) |exact .inr (by decide+kernel)) (by rw[Kh];kernel_rfl)
def zk:Kk table "set_iterator.__iter__"<*Builtin.«dict_keyiterator.__iter__»:=
 entryFor_alias (id':="dict_keyiterator.__iter__") 'G' (by first |rfl|decide+kernel) (by decide+kernel) 'G'
def B3(a:Value):argsOk "set_iterator.__iter__" ([a],[],):=by unfold argsOk;kernel_rfl
section
variable {E:'I'}{s:Shared}
def AY{Q:Option Value->Shared->Prop}(b:s.TypeIs (.ref I) "set_iterator")(h:∀(a:dN->Shared->Prop)(c:'I'),(∀v h',Q (some v) {s with heap:=h'}->a (.done (.ret v)) {s with heap:=h'})->wpAny (model prog w) A.in1 (Builtin.«set_iterator.__next__» ([.ref I],[],)) a c s):
  'B' (pyNext (.ref I)) Q E s:=by
 unfold pyNext;exact aa (fX (dh (name:=aQ "__next__") b fR (cC fR b qi (h _ _ λv h' q=>(_,rfl,aj q,)) (tE _))))
def AZ{Q:Option Value->Shared->Prop}(d:s.TypeIs (.ref I) "set_iterator")(h:∀(f:dN->Shared->Prop)(a:'I'),(∀h' e,(∀c o,c≠I->s.heap.get? c<*o->h'.get? c<*o)->(∃o,h'.get? e<*o/\o.cls=.type "StopIteration")->a (.ref e) {s with heap:=h'})->wpAny (model prog w) A.in1 (Builtin.«set_iterator.__next__» ([.ref I],[],)) f a s)
  (q:∀h',(∀c o,c≠I->s.heap.get? c<*o->h'.get? c<*o)->Q none {s with heap:=h'}):'B' (pyNext (.ref I)) Q E s:=by
 unfold pyNext;refine aa (fX (dh (name:=aQ "__next__") d fR (cC fR d qi (h _ _ λh' e k j=>?_) (tE _))));obtain⟨o,g,i⟩:=j;exact aa (kW (T:="StopIteration") (b:=true) (o,g,i,) Ki (aj (q _ k)))
def AX{Q:'I'}(a:s.TypeIs (.ref I) "set_iterator")(h:Q (.ref I) s):'B' (pyIter (.ref I)) Q E s:=by refine wpAny_pyIter_slot a rH (cC rH a zk ?_ (B3 _));show wpAny _ _ (ret (.ref I)) _ _ s;exact aj (_,rfl,"set_iterator",_,a,fR.lookup,h,)
end
def lD.at{t:bI}(x:lD h S es ep t)(k:∀o,h.get? S<*o->h'.get? S<*o):lD h' S es ep t:=let⟨⟨o,a,b,c⟩,f⟩:=x;((o,k o a,b,c,),f,)
def walkA(y:A.handled=none)(l:w.params.followText "set-order"=true)(ne:S≠I)(a:Array (Int×Value))(c:Nat)(t:bI):
  Walks prog w A I [I,S] [I] a.size (λi v=>((jI (w.params.setOrder S c) a).toList.map (·.2))[i]?<*v) (λi h=>lD h S a c t/\∃k:Nat,h.get? I<*(siO S (.int k 0) i a.size c)) where
 sub:=λb d=>by simp at d⊢;exact .inl d
 frame:=λi h f ⟨x,k,e⟩ g=>⟨x.at λo q=>g S 'F' o q,k,g I 'F' _ e⟩
 item:=λi s Q E hi ⟨x,k,e⟩ j=>by
  have B:=(pE (w.params.setOrder S c) a).length_eq;simp only[cq]at B;have m:(jI (w.params.setOrder S c) a)[i]?<*((jI (w.params.setOrder S c) a)[i]''D'):=by simp[show i<(jI (w.params.setOrder S c) a).size by lia]
  refine AY (_,e,rfl,) λr p q=>nextA l e x m λf u n=>q _ f ?_;exact j _ f s.toks (by simp[m]) (x.at λo z=>n.extBut S o ne z,k,u,) λb o d z=>n.extBut b o ↥d z
 done:=λs Q E ⟨x,k,e⟩ j=>AZ (_,e,rfl,) (λr p q=>endA (by simp[y]) l e x q) λf g=>j f s.toks λb o d z=>g b o ↥d z
 self:=λi s Q E ⟨x,k,e⟩ q=>AX (_,e,rfl,) q
def walkB(G:A.handled=none)(r:w.params.followText "set-order"=false)(ne:S≠I)(a:Array (Int×Value))(m:Nat)(t:bI)(n:js a t=false)(p:t.led=true)(F:kU t):
  Walks prog w A I [I,S] [I] a.size (λi v=>(a.toList.map (·.2))[i]?<*v) (λi h=>lD h S a m t/\∃k:Nat,cE t.place k=i/\h.get? I<*(siO S (.int k 0) i a.size m)) where
 sub:=λb c=>by simp at c⊢;exact .inl c
 frame:=λi h f ⟨x,k,d,e⟩ g=>⟨x.at λo q=>g S 'F' o q,k,d,g I 'F' _ e⟩
 item:=λi s Q E hi ⟨x,k,d,e⟩ l=>by
  have u:a[i]?<*a[i]:=by simp[hi]
  refine AY (_,e,rfl,) λC B q=>nextB r n p e x d u λf j H D y=>q _ f ?_;exact l _ f s.toks (by simp[u]) (x.at λo z=>y.extBut S o ne z,j+1,GC F.up H,D,) λb o c z=>y.extBut b o ↥c z
 done:=λs Q E ⟨x,k,d,e⟩ l=>AZ (_,e,rfl,) (λC B q=>endB (by simp[G]) r n p e x d q) λf g=>l f s.toks λb o c z=>g b o ↥c z
 self:=λi s Q E ⟨x,k,d,e⟩ q=>AX (_,e,rfl,) q
def walkC(C:A.handled=none)(ne:S≠I)(F:T≠I)(a:Array (Int×Value))(m:Nat)(t:bI)(ps:List Nat)(k:ps.Perm (aC a.size)):
  Walks prog w A I [I,S,T] [I] a.size (λi v=>(ps.map λp=>(a.getD p (0,.none)).2)[i]?<*v) (λi h=>lD h S a m t/\h.get? T<*{cls:=.type "tuple",data:=.seq (ps.map λ(i:Nat)=>rawInt i).toArray}/\h.get? I<*(siO S (.ref T) i a.size m)) where
 sub:=λb c=>by simp at c⊢;exact .inl c
 frame:=λi h d ⟨x,z,e⟩ f=>⟨x.at λo q=>f S 'F' o q,f T 'F' _ z,f I 'F' _ e⟩
 item:=λi s Q E hi ⟨x,z,e⟩ g=>by
  have G:ps.length=a.size:=by rw[k.length_eq,bU]
  have j:i<ps.length:=by lia
  have n:ps[i]<a.size:=bq.mp (k.mem_iff.mp (aR j));have D:a[ps[i]]?<*a[ps[i]]:=by simp[n]
  refine AY (_,e,rfl,) λu r q=>nextC (p:=ps[i]) (tk:=0) e x z rfl (by simp[j,rawInt]) D λd B l=>q _ d ?_;exact g _ d s.toks (by simp[j,n,OU]) (x.at λo y=>l.extBut S o ne y,l.extBut T _ F z,B,) λb o c y=>l.extBut b o ↥c y
 done:=λs Q E ⟨x,z,e⟩ g=>AZ (_,e,rfl,) (λu r q=>endC (by simp[C]) e x z rfl (by simp[k.length_eq]) q) λd f=>g d s.toks λb o c y=>f b o ↥c y
 self:=λi s Q E ⟨x,z,e⟩ q=>AX (_,e,rfl,) q
end Q
namespace Q
open PySem.W L2
section
variable {E:'I'}{s:Shared}
def ite_yes{a:Type}{M:Model}{b:Bool}{x y:Sem a}{Q:a->Shared->Prop}(c:b=true)(h:wpAny M A x Q E s):wpAny M A (if b=true then x else y) Q E s:=by rw[if_pos c];exact h
def DL{Q:Bool->Shared->Prop}(a:s.TypeIs (.ref S) "set")(h:Q false s):'B' (uM (.ref S)) Q E s:=by
 unfold uM;refine aa (wpAny_specialOf a F.slot_set_len.lookup ?_);generalize hid:("set.__len__":String)=id0
 (fail_if_success (clear hid id0))
 wp_delta
 rw[show splitId id0<*("set","__len__")from by subst hid;decide+kernel];subst hid;refine aa (kW (b:=true) a (by rw[Kh];kernel_rfl) ?_);rw[if_neg 'E'];refine ite_yes (by decide+kernel) (aa (B7 a ?_));exact aj h
noncomputable abbrev jN(ac:Array Value)(c:Nat):Obj:={cls:=.type "list",dict:=none,data:=.seq ac c,slots:= #[]}
def touch{c:Nat}{Q:Unit->Shared->Prop}(f:s.heap.get? L<*(jN ac c))(hz:ac.size<=5000)(h:∀h' c',h'.get? L<*(jN ac c')->dj L s.heap h'->Q () {s with heap:=h'}):'B' (ma (.ref L)) Q E s:=by have g:ac.size<=sizeLine:=aO hz 'E';unfold ma;refine aa (fZ f rfl ?_ g (by simp;lia));have a:∃e,(s.heap.update L (a9 λx=>x.push bO)).get? L<*(jN (ac.push .none) e):=⟨_,by rw[bW _ f rfl];rfl⟩;obtain⟨e,a⟩:=a;refine fZ (s:={s with heap:=s.heap.update L (a9 λx=>x.push bO)}) a rfl ?_ (by simp;exact aO (by lia:ac.size+1<=5001) 'E') (by simp;lia);have d:∃b,((s.heap.update L (a9 λx=>x.push bO)).update L (a9 λx=>x.pop)).get? L<*(jN ac b):=⟨_,by rw[bW _ a rfl];simp[a9];rfl⟩;obtain⟨b,d⟩:=d;exact h _ b d ((bM ..).trans (bM ..))
def xM{k:List Addr}{P:Nat->Value->Prop}{St:Nat->Heap->Prop}{i:Value}{c:Nat}{R:Result->Shared->Prop}(hq:∀c' s',c'.quiet=true/\gK (model prog w) A c' R s'->Qf (.again c') s')(W:Walks prog w A.in1 I fp k n P St)(u:n<=sizeLine)(g:L∉fp)(q:s.heap.get? L<*(jN #[] c))(st:St 0 s.heap)
  (h:∀s' ac c',(∀b o,b∉L::k->s.heap.get? b<*o->s'.heap.get? b<*o)->s'.gens=s.gens->s'.drawn=s.drawn->s'.os=s.os->s'.heap.get? L<*(jN ac c')->ItemsOf P ac n->R (.ok (.ret i)) s'):
  wpAny (model prog w) A.in1 (do
   rule "list.extend.makes-room"
   let f<-ma (.ref L)
   (λ(f:Unit)=>again (Code.builtin "list.extend.loop" {pos:=[bD L,bD I,i]})) f) Qf E s:=by
 refine aa (fW (aa (touch q 'F' λp x m j=>?_)));have v:=W.frame 0 s.heap p st λb a o e=>j.extBut b o (λz=>g (z▸a)) e;refine aj (hq _ _ (fY F.plain_extend_loop _,codeAny_extend_loopS W.toS u _ g _ n 0 _ _ _ rfl (a7 _) v m (ItemsOf.nil P) λs' l c' d r t=>?_,));exact h s' l c' (λb o a e=>d.heap b o a (j.extBut b o (λz=>a (by rw[z];exact aM)) e)) d.gens d.drawn d.os r t
end
def FW(h:ItemsOf (λi v=>vs[i]?<*v) ac vs.length):ac.toList=vs:=by
 obtain⟨c,d⟩:=h;apply cy;·simpa using c
 .intro i a b;have :vs[i]?<*ac[i]:=d i ac[i] 'F';rw[ae b]at this;simpa using(bo this).symm
def es_map(c:Array (Int×Value)):((aC c.size).map λp=>(c.getD p (0,.none)).2)=c.toList.map (·.2):=by
 apply cy;·simp
 .intro i a b;have hi:i<c.size:=by simpa using a
  simp[hi,OU]
section
variable {E:'I'}{s:Shared}
def D4{o:Obj}{t:bI}{Q:List Value->Shared->Prop}(I:A.handled=none)(N:s.heap.get? S<*o)(n:o.cls=.type "set")(H:o.data=.set es ep t)(hf:t.fits es.size=true)(P:es.size<gp)(M:kU t)(Y:w.params.followText "set-order"=false->t.led=true)
  (U:∀(vs:List Value) s',vs.Perm (es.toList.map (·.2))->(∀b o,s.heap.get? b<*o->s'.heap.get? b<*o)->s'.gens=s.gens->s'.os=s.os->⇑s<⇑s'->Q vs s'):'B' (collect (.ref S)) Q E s:=by
 have m:S<⇑s:=aw N;have K:es.size<=sizeLine:=pS P;unfold collect;refine aa (wpAny_runValue (fg F.entry_proto_collect ?_));rw[dG F.plain_proto_collect _];show wpAny _ A.in1 (newList []>>=λa1=>again (.builtin "list.__iadd__" ([a1,.ref S],[],))) _ _ s;refine aa (cm ?_);refine aj (fY F.plain_list_iadd _,fg F.entry_list_iadd ?_,);rw[dG F.plain_list_iadd _];have G:(s.heap.push (jN #[] 0)).get? ⇑s<*(jN #[] 0):=av _ rfl;have u:(s.heap.push (jN #[] 0)).get? S<*o:=af _ N;have x:(s.heap.push (jN #[] 0)).objs.size=⇑s+1:=bc ..;have V:Shared.TypeIs {s with heap:=s.heap.push (jN #[] 0)} (.ref S) "set":=(o,u,n,);show wpAny _ A.in1 (uN (.ref ⇑s) (.ref S) (.ref ⇑s)) _ _ {s with heap:=s.heap.push (jN #[] 0)};unfold uN;refine aa (B7 V ?_);rw[if_neg (by simp[Builtin.List.listSameRef];exact dQ m)];have D:∀(vs:List Value)(s':Shared)(c:Array Value)(a:Nat),vs.length=es.size->vs.Perm (es.toList.map (·.2))->(∀b o,s.heap.get? b<*o->s'.heap.get? b<*o)->s'.gens=s.gens->s'.os=s.os->s'.heap.get? ⇑s<*(jN c a)->ItemsOf (λi a3=>vs[i]?<*a3) c es.size->
   'B' (load ⇑s>>=λa4=>match a4.data with |.seq xs _=>pure xs.toList|_=>unsupported "internal:collect") Q E s':=λvs s' c a r v j l B e g=>by
  refine aa (wpAny_load e ?_);rw[<-r]at g;have :=FW g;exact aj (by rw[this];exact U vs s' v j l B (aw e))
 refine aa (Ng u n H hf P (λJ=>?_) λJ f d v=>?_)
 .rw[x];refine aa (bY (DL (o,af _ u,n,) ?_));refine ite_yes (by decide+kernel) ?_;have z:((s.heap.push (jN #[] 0)).push (siO S (.int 0 0) 0 es.size ep)).get? (⇑s+1)<*(siO S (.int 0 0) 0 es.size ep):=by rw[<-x];exact av _ rfl
  have L:lD ((s.heap.push (jN #[] 0)).push (siO S (.int 0 0) 0 es.size ep)) S es ep t:=((o,af _ u,n,H,),hf,);have C:⇑s∉[⇑s+1,S]:=by simp only[aA,bg,or_false,not_or];exact(aL (eG _),dQ m,)
  have R:∀(s':Shared),(∀b o,b∉⇑s::[⇑s+1]->((s.heap.push (jN #[] 0)).push (siO S (.int 0 0) 0 es.size ep)).get? b<*o->s'.heap.get? b<*o)->∀b o,s.heap.get? b<*o->s'.heap.get? b<*o:=λs' k b o e=>by have p:=aw e;refine k b o ?_ (af _ (af _ e));simp only[aA,bg,or_false,not_or];exact(aL p,aL (bP p),)
  cases hw:w.params.followText "set-order" with
  |true=>
   have r:((jI (w.params.setOrder S ep) es).toList.map (·.2)).length=es.size:=by have :=(pE (w.params.setOrder S ep) es).length_eq;simpa using this
   refine xM (s:={s with heap:=(s.heap.push (jN #[] 0)).push (siO S (.int 0 0) 0 es.size ep)}) (λa s' h=>h) (walkA (A:=A.in1) (by simp[I]) hw (aL (bP m)) es ep t) K C (af _ G) (L,0,z,) λs' c a j l B y e g=>?_;exact D _ s' c a r ((pE (w.params.setOrder S ep) es).map _) (R s' j) l y e g
  |false=>
   have X:js es t=false:=by rw[hw]at J;simpa using J
   refine xM (s:={s with heap:=(s.heap.push (jN #[] 0)).push (siO S (.int 0 0) 0 es.size ep)}) (λa s' h=>h) (walkB (A:=A.in1) (by simp[I]) hw (aL (bP m)) es ep t X (Y hw) M) K C (af _ G) (L,0,GB M.up,z,) λs' c a j l B y e g=>?_;exact D _ s' c a 'F' (eY _) (R s' j) l y e g
 .rw[x];have Z:((s.heap.push (jN #[] 0)).push {cls:=.type "tuple",data:=.seq (f.map λ(i:Nat)=>rawInt i).toArray}).objs.size=⇑s+1+1:=by rw[bc,x]
  have W:((s.heap.push (jN #[] 0)).push {cls:=.type "tuple",data:=.seq (f.map λ(i:Nat)=>rawInt i).toArray}).get? (⇑s+1)<*{cls:=.type "tuple",data:=.seq (f.map λ(i:Nat)=>rawInt i).toArray}:=by rw[<-x];exact av _ rfl
  have O:((s.heap.push (jN #[] 0)).push {cls:=.type "tuple",data:=.seq (f.map λ(i:Nat)=>rawInt i).toArray}).get? S<*o:=af _ u;have T:((s.heap.push (jN #[] 0)).push {cls:=.type "tuple",data:=.seq (f.map λ(i:Nat)=>rawInt i).toArray}).get? ⇑s<*(jN #[] 0):=af _ G;have a0:∀b o,s.heap.get? b<*o->((s.heap.push (jN #[] 0)).push {cls:=.type "tuple",data:=.seq (f.map λ(i:Nat)=>rawInt i).toArray}).get? b<*o:=λb o e=>af _ (af _ e);generalize(s.heap.push (jN #[] 0)).push {cls:=.type "tuple",data:=.seq (f.map λ(i:Nat)=>rawInt i).toArray}=h2 at *;refine aa (bY (DL (o,af _ O,n,) ?_));refine ite_yes (by decide+kernel) ?_;have z:(h2.push (siO S (.ref (⇑s+1)) 0 es.size ep)).get? (⇑s+1+1)<*(siO S (.ref (⇑s+1)) 0 es.size ep):=by rw[<-Z];exact av _ rfl
  have C:⇑s∉[⇑s+1+1,S,⇑s+1]:=by simp only[aA,bg,or_false,not_or];exact(aL (bP (eG _)),dQ m,aL (eG _),)
  have r:(f.map λa2=>(es.getD a2 (0,.none)).2).length=es.size:=by rw[ai,v.length_eq,bU]
  refine xM (s:={s with drawn:=d,heap:=h2.push (siO S (.ref (⇑s+1)) 0 es.size ep)}) (λa s' h=>h) (walkC (A:=A.in1) (by simp[I]) (aL (bP (bP m))) (aL (eG _)) es ep t f v) K C (af _ T)
   (((o,af _ O,n,H,),hf,),af _ W,z,) λs' c a j l B y e g=>?_
  refine D _ s' c a r ((v.map _).trans (by rw[es_map])) (λb o q=>?_) l y e g;have p:=aw q;refine j b o ?_ (af _ (a0 b o q));simp only[aA,bg,or_false,not_or];exact(aL p,aL (bP (bP p)),)
end
def JF{xs:List Value}(p:vs.Perm xs):∀{ks:List Int},cn xs ks->∃ms:List Int,ms.Perm ks/\cn vs ms:=by
 induction p with
 |nil=>intro ks h;exact(ks,eY _,h,)
 |cons x p ih=>
  intro ks h;cases h with
  |cons k t h=>obtain⟨ms,a,b⟩:=ih h;exact(k::ms,a.cons k,.cons k t b,)
 |swap x y l=>
  intro ks h;cases h with
  |cons k t h=>cases h with
   |cons k' t' h=>exact(k'::k::_,yO _ _ _,.cons k' t' (.cons k t h),)
 |trans p q ih1 ih2=>intro ks h;obtain⟨ms,a,b⟩:=ih2 h;obtain⟨e,c,d⟩:=ih1 b;exact(e,c.trans a,d,)
section
variable {E:'I'}{s:Shared}
def E9{o:Obj}{t:bI}{ks:List Int}{Q:'I'}(v:A.handled=none)(B:s.heap.get? S<*o)(q:o.cls=.type "set")(u:o.data=.set es ep t)(hf:t.fits es.size=true)(n:es.size<64)(p:kU t)(z:w.params.followText "set-order"=false->t.led=true)
  (x:cn (es.toList.map (·.2)) ks)(I:ks.Nodup)
  (h:∀(ms:List Int)(vs:List Value)(s':Shared)(l:Addr)(c:Nat),ms.Perm ks->cn vs ms->(∀b o,s.heap.get? b<*o->s'.heap.get? b<*o)->s'.gens=s.gens->s'.os=s.os->⇑s<=l->s'.heap.get? l<*(seqObj "list" (gB (ltI ms) vs).toArray c)->Q (.ref l) s'):
  'B' (call (.builtin "sorted") [.ref S]) Q E s:=by
 refine mL kind_sorted plain_sorted entry_sorted (args_sorted1 _) ?_;unfold Builtin.«sorted»;refine aa (m:=checkCount "sorted" 1 1 _) (aj (aa (D4 (by simp[v]) B q u hf (gu n 'E') p z λvs s' d H D F G=>aa (pX ?_ ?_))))
 .obtain⟨ms,j,f⟩:=JF d x;have y:vs.length=ms.length:=f.length;have C:vs.length<64:=by have :=d.length_eq;simp at this;lia
  have a:(s'.heap.push (seqObj "list" vs.toArray 0)).get? ⇑s'<*(seqObj "list" vs.toArray 0):=av _ rfl;have J:ms.Nodup:=j.nodup_iff.mpr I;show wpAny _ _ _ _ _ {s' with heap:=s'.heap.push (seqObj "list" vs.toArray 0)};refine aa (bY (cC Kb (_,a,rfl,) GN (G0 (lt:=ltI ms) (h0:=s'.heap) (by rw[y];exact KR J) a (λb o e=>(af _ e,aL (aw e),)) C (λk=>Ar f k) (_,rfl,?_,)) (args_list_sort _)));refine aj (_,rfl,?_,);obtain⟨c,r⟩:=sortedHeap_at (out:=(gB (ltI ms) vs).toArray) a;refine h ms vs _ _ c j f (λb o e=>?_) D F (jH G) r;have g:=H b o e;have i:=aw g;show(sortedHeap (s'.heap.push (seqObj "list" vs.toArray 0)) ⇑s' vs (gB (ltI ms) vs).toArray).get? b<*o;rw[sortedHeap_old (aL i) (by rw[Ke];exact bP i)];exact af _ g
 .have :=d.length_eq;simp at this;exact aO (by lia:vs.length<=64) 'E'
end
def Bs(ks:List Key):(met ks).Nodup:=by
 unfold met;have g:∀(l d:List Key),d.Nodup->(l.foldl more d).Nodup:=by
  intro l
  induction l with
  |nil=>exact λ_ h=>h
  |cons k l ih=>
   intro d h;refine ih _ ?_;unfold more;split;·exact h
   .rename_i c;refine du.mpr (h,'F',λa f b e=>?_,);rw[aI]at e;subst e;intro z;subst z;exact c (j8.mpr f)
 exact g ks [] fU
theorem zG{c:Type}[DecidableEq c]:∀{m l:List c},m.Nodup->(∀x∈m,x∈l)->l.length=m.length->l.Perm m
 | [],l,_,_,h=>by rw[gy]at h;rw[List.eq_nil_of_length_eq_zero h]
 |a::m,l,nd,hs,h=>by have d:a∈l:=hs a aM;have p:=Kw d;rw[cT]at nd;have e:=p.length_eq;rw[aU]at e h;have q:=zG (m:=m) (l:=l.erase a) nd.2 (λx b=>(rm (λz:x=a=>nd.1 (by rw[<-z];exact b))).mpr (hs x (aG _ b))) 'D';exact p.trans (q.cons a)
section
def HI{k:Int}{v:Value}(h:(cg prog w).is (.inl k) v=true):∃t,v=.int k t:=by rw[FJ]at h;exact Value.isInt_shape (k:=k) (v:=v) h
def vZ{l:List (Int×Value)}(h:ElemsOf (cg prog w) l)(hi:∀e∈l,∀k,(cg prog w).is k e.2=true->∃n:Int,k=.inl n):∃ms:List Int,cn (l.map (·.2)) ms:=by
 induction l with
 |nil=>exact([],.nil,)
 |cons e l ih=>obtain⟨ms,r⟩:=ih h.tail λb d=>hi b (aG _ d);obtain⟨⟨k,a,_⟩,_⟩:=h.head;obtain⟨n,rfl⟩:=hi e aM k a;obtain⟨t,c⟩:=HI a;refine(n::ms,?_,);rw[bG,c];exact .cons n t r
def Nh:∀{vs:List Value}{ms:List Int},cn vs ms->∀n,n∈ms↔∃v∈vs,(cg prog w).is (.inl n) v=true:=by
 intro vs ms r
 induction r with
 |nil=>simp
 |cons k t r ih=>
  intro n;rw[aA,ih n];constructor
  .rintro(rfl|⟨v,hv,e⟩);·exact(_,aM,oA _ _ _ _,)
   .exact(v,aG _ hv,e,)
  .rintro⟨v,hv,e⟩;rcases aA.mp hv with rfl|hv;·obtain⟨b,a⟩:=HI e;cases a;exact .inl rfl
   .exact .inr (v,hv,e,)
def IW(x:tI (cg prog w) h a (has (met (ns.map .inl))) (met (ns.map .inl)).length led):
  ∃o es ep t ms,h.get? a<*o/\o.cls=.type "set"/\o.data=.set es ep t/\t.fits es.size=true/\es.size<=ns.length/\kU t/\t.led=led/\cn (es.toList.map (·.2)) ms/\ms.Nodup/\∀n,n∈ms↔n∈ns:=by
 obtain⟨o,es,ep,t,A,f,m,s,g,D,hf,d,l,j⟩:=x;have u:=FK (ns.map (eK:Int->Key));rw[ai]at u;have inl:∀e∈es.toList,∀k,(cg prog w).is k e.2=true->∃n:Int,n∈ns/\k=.inl n:=λe b k c=>by have :=ll.mp (j8.mp ((g k).mpr (e,b,c,)));obtain⟨n,d,rfl⟩:=aN.mp this;exact(n,d,rfl,)
 obtain⟨ms,r⟩:=vZ s λe b k c=>let⟨n,_,e⟩:=inl e b k c;(n,e,);have mem:∀n,n∈ms↔n∈ns:=λn=>by
  rw[Nh (prog:=prog) (w:=w) r n];constructor;·rintro⟨v,B,e⟩;obtain⟨i,q,rfl⟩:=aN.mp B;obtain⟨E,y,z⟩:=inl i q _ e;cases z;exact y
  .intro h;obtain⟨e,b,c⟩:=(g (.inl n)).mp (j8.mpr (ll.mpr (tT h)));exact(e.2,tT b,c,)
 have len:ms.length=es.size:=by have :=r.length;simp at this;lia
 have p:(ms.map (eK:Int->Key)).Perm (met (ns.map .inl)):=zG (Bs _) (λx f=>by obtain⟨n,d,rfl⟩:=aN.mp (ll.mp f);exact tT ((mem n).mpr d)) (by rw[ai];lia)
 have C:(ms.map (eK:Int->Key)).Nodup:=p.nodup_iff.mpr (Bs _);exact(o,es,ep,t,ms,A,f.1,m,hf,'D',l,j,r,(gL.mp C).imp λh z=>h (congrArg _ z),mem,)
end
end Q
namespace L2
open Q
section
def Inv.same{σ:List (Option V)}(I:'A')(c:s'.heap=s.heap)(e:s'.gens=s.gens)(f:s'.os=s.os):Inv X pins σ H s':=by obtain⟨h,g,d,t,o⟩:=s;obtain⟨b,a,j,k,i⟩:=s';obtain rfl:b=h:=c;obtain rfl:a=g:=e;obtain rfl:i=o:=f;exact(I.ok,I.os,I.bare,I.base,I.loc,I.cell,I.free,I.freeC,I.pin,I.hok,I.len,)
theorem rQ{c:Type}[DecidableEq c]:∀{l m:List c},l.Nodup->(∀x∈l,x∈m)->l.length<=m.length
 | [],_,_,_=>a7 _
 |a::l,m,nd,h=>by rw[cT]at nd;have d:=h a aM;have p:=(Kw d).length_eq;have :=rQ (m:=m.erase a) nd.2 λx b=>(rm λz:x=a=>nd.1 (z▸b)).mpr (h x (aG _ b));rw[aU]at p⊢;lia
def Few(ns:List Int):Prop:=ns.length<1000/\∃ms:List Int,ms.length<64/\∀x∈ns,x∈ms
def Few.of(h:ns.length<64):Few ns:=('D',ns,h,λ_ h=>h,)
def Cz(K:ah)(ta:TA):TE:=λσ H Q=>ta σ H λvs H1=>∃(p:Addr)(ns:List Int),vs=[V.ref p]/\SqL K H1 p (ns.map V.int)/\Few ns/\
 ∀(ms:List Int) l,ms.Nodup->(∀x,x∈ms↔x∈ns)->H1 l=none->Q (.ref l) (upd H1 l (.lst (sortI ms)))
def BY:fv "sorted"<*(.builtin "sorted"):=by decide+kernel
def JX:fv "set"<*(.type "set"):=by decide+kernel
def Fq{a:Expr}{C:TA}{p:Pos}(v:X.calm=true)(K:Gl X "sorted")(N:X.mg "sorted"=none)(L:Gl X "set")(O:X.mg "set"=none)(G:PA X [a] C)(hs:bf [a] X.env=[(false,eval a X.env)]:=by rfl):
  PE X (.Call (.Name "sorted" p) [.Call (.Name "set" p') [a] [] pos'] [] pos) (Cz X.K C):=by
 intro a3 s σ H a8 I h;refine Call_ (jj I K N BY (i3 (uL ?_) rfl rfl));refine Call_ (jj I L O JX (bX (thn (G pos' a3 s σ H _ I h) λus s1 ⟨vs,H1,d,r1,q1⟩=>?_) hs rfl));obtain⟨pl,z,e,hq,⟨a9,mm,b0,P⟩,a5⟩:=q1;subst e;obtain⟨b4,rfl,rx⟩:=vals1 r1;cases rx;obtain⟨S,A,a4,_⟩:=d.list hq;have j:=A.length;rw[ai]at j;have r2:bS ((z.map (eK:Int->Key)).map kV) S:=by rw[bT];exact A
 refine zE (ks:=z.map .inl) (d.ok.hd v) a4.isList (by rw[aE,ai];exact j) (λi a6 e=>Bz r2 i a6 ↥e) (by rw[aE,<-j];unfold gp;lia) λh' tk E Z=>?_;obtain⟨o,u,ep,t,ms,y,m,J,hf,b3,F,D,r,n,mem⟩:=IW E;have b1:u.size<64:=by have g:=r.length;simp at g;have :=rQ n λx m=>P x ((mem x).mp m);lia
 refine aj ?_;refine E9 (s:={s1 with heap:=h',toks:=tk}) (d.ok.hd v) y m J hf 'D' F (λa7=>by rw[D,a7];rfl) r n λf vs B l c k Q a0 T U V W=>?_;have q:f.Nodup:=k.nodup_iff.mpr n;have b2:f.length=u.size:=by have a1:=k.length_eq;have g:=r.length;simp at g;lia
 have Y:∀b o,s1.heap.get? b<*o->B.heap.get? b<*o:=λb o e=>a0 b o (Z b o (aw e) e);have M:⇑s1<h'.objs.size:=aw y;have w:⇑s1<=l:=aO (jH M) V;have R:(sortI f).length<=sizeLine:=by unfold sortI;rw[ai,Di q];exact fQ 'D'
 exact(.ref l,_,(d.laid (h':=B.heap) (t':=s1.toks) Y w (show dA X.prog X.w _ _ _ (.lst (sortI f))from(R,_,c,outI q (tX Q),W,))).same rfl T U,rfl,a5 _ _ q (λx=>(k.mem_iff).trans (mem x)) (d.hok.fresh w),)
end
end L2
set_option maxHeartbeats 1000000
namespace Q
open PySem.W L2
section
variable {E:'I'}{s:Shared}{lt:Nat->Nat->Bool}{vs:List Value}
open Classical in
end
end Q
set_option maxHeartbeats 3200000
set_option maxHeartbeats 1000000
namespace PySem
def jT(h:Heap)(T:Addr)(a b c:Value):Prop:=h.get? T<*{cls:=.type "tuple",data:=.seq #[a,b,c]}
section
variable {E:'I'}{s:Shared}
def AG{a b c x:Value}{Q:Unit->Shared->Prop}(d:jT s.heap T a b c)
  (h:∀h',h'.get? T<*{cls:=.type "tuple",data:=.seq ((#[a,b,c]:Array Value).setIfInBounds k x)}->dj T s.heap h'->Q () {s with heap:=h'}):
  'B' (updateSeq T (·.setIfInBounds k x)) Q E s:=by
 refine tO d rfl (h _ ?_ (bM ..));rw[bW _ d rfl];simp[a9]
structure Z3(a b c n k:Nat)(h:Heap)(f:Value):Prop where
 hz:IsZip h (n+5) (n+3) (n+4) f
 hTI:jT h (n+3) (.ref n) (.ref (n+1)) (.ref (n+2))
 hTO:∃u1 u2 u3,jT h (n+4) u1 u2 u3
 h1:h.IsTupleIter n a k
 h2:h.IsTupleIter (n+1) b k
 h3:h.IsTupleIter (n+2) c k
def adr{a b:Nat}(h:a≠b): @Ne Addr a b:=h
def z3_item{a b c:Nat}{xs ys zs:Array Value}{x y v:Value}{Q:'I'}(la:a<n)(lb:b<n)(lc:c<n)(st:Z3 a b c n k s.heap .none)(t1:s.heap.IsTuple a xs)(t2:s.heap.IsTuple b ys)(t3:s.heap.IsTuple c zs)(hx:xs[k]?<*x)(hy:ys[k]?<*y)(hv:zs[k]?<*v)
  (q:∀h',Z3 a b c n (k+1) h' (rawInt ⇑s)->jT h' ⇑s x y v->(∀d o,d∉[n+5,n+4,n,n+1,n+2]->s.heap.get? d<*o->h'.get? d<*o)->Q (.ref ⇑s) {s with heap:=h'}):
  'B' (Builtin.«zip.__next__» ([.ref (n+5)],[],)) (λa0 s'=>∃v,a0=.done (.ret v)/\Q v s') E s:=by
 obtain⟨C,P,⟨u1,L,D,a1⟩,h1,h2,h3⟩:=st;show wpAny _ _ (field (.ref (n+5)) 2>>=_) _ _ _;refine aa (dq C rfl (x:=.bool false) rfl ?_);show wpAny _ _ (field (.ref (n+5)) 3>>=_) _ _ _;refine aa (dq C rfl (x:=.ref (n+3)) rfl ?_);refine aa (dm P rfl ?_);show wpAny _ _ (eB (.ref (n+5))>>=_) _ _ _;refine aa ?_;unfold eB;refine aa (dq C rfl (x:=.none) rfl (aj ?_));simp only[if_true];refine aa (fW (aa (dq C rfl (x:=.ref (n+4)) rfl ?_)));refine aa (cb C 'F' λha M i=>?_);have M:IsZip ha (n+5) (n+3) (n+4) .ellipsis:=M;refine aa ?_;simp only[List.zipIdx_cons,List.zipIdx_nil,pY,lZ];refine aa (aa (yP ?_));show wpAny _ _ (cf (.ref n)>>=_) _ _ _;refine aa (rO (h1.extBut i.extBut (adr 'D')) (t1.extBut i.extBut (adr 'D')) hx λhb jb l=>aj ?_);have T:jT hb (n+4) u1 L D:=l.extBut _ _ (adr 'D') (i.extBut _ _ (adr 'D') a1);refine aa (dm T rfl (aa (AG T λh J m=>aa (iE (aj ?_)))));have J:jT h (n+4) x L D:=J;have kc:∀d o,d∉[n+5,n+4,n,n+1,n+2]->s.heap.get? d<*o->h.get? d<*o:=λd o j e=>by simp only[aA,bg,or_false,not_or]at j;exact m.extBut _ _ j.2.1 (l.extBut _ _ j.2.2.1 (i.extBut _ _ j.1 e))
 have k2:h.IsTupleIter (n+1) b k:=((h2.extBut i.extBut (adr 'D')).extBut l.extBut (adr 'D')).extBut m.extBut (adr 'D');have k3:h.IsTupleIter (n+2) c k:=((h3.extBut i.extBut (adr 'D')).extBut l.extBut (adr 'D')).extBut m.extBut (adr 'D');have S:∀{d:Nat}{I:Array Value},d<n->s.heap.IsTuple d I->h.IsTuple d I:=λ{d I} j t=>((t.extBut i.extBut (adr 'D')).extBut l.extBut (adr 'D')).extBut m.extBut (adr 'D');have zc:IsZip h (n+5) (n+3) (n+4) .ellipsis:=m.extBut _ _ (adr 'D') (l.extBut _ _ (adr 'D') M);have jc:h.IsTupleIter n a (k+1):=jb.extBut m.extBut (adr 'D');have a3:h.objs.size=⇑s:=by rw[m.1,l.1,i.1]
 refine aa (aa (yP ?_));show wpAny _ _ (cf (.ref (n+1))>>=_) _ _ _;refine aa (rO k2 (S lb t2) hy λj jd p=>aj ?_);have U:jT j (n+4) x L D:=p.extBut _ _ (adr 'D') J;refine aa (dm U rfl (aa (AG U λhe K r=>aa (iE (aj ?_)))));have K:jT he (n+4) x y D:=K;refine aa (aa (yP ?_));show wpAny _ _ (cf (.ref (n+2))>>=_) _ _ _;refine aa (rO ((k3.extBut p.extBut (adr 'D')).extBut r.extBut (adr 'D')) (((S lc t3).extBut p.extBut (adr 'D')).extBut r.extBut (adr 'D')) hv λhf jf u=>aj ?_);have of:jT hf (n+4) x y D:=u.extBut _ _ (adr 'D') K;refine aa (dm of rfl (aa (AG of λf G z=>aa (iE (aj (aj ?_))))));have G:jT f (n+4) x y v:=G;refine aa (dm G rfl (aa (J8 ?_)));have sz:f.objs.size=⇑s:=by rw[z.1,u.1,r.1,p.1,a3]
 have Y:IsZip f (n+5) (n+3) (n+4) .ellipsis:=z.extBut _ _ (adr 'D') (u.extBut _ _ (adr 'D') (r.extBut _ _ (adr 'D') (p.extBut _ _ (adr 'D') zc)));have R:∀d o,d∉[n+5,n+4,n,n+1,n+2]->s.heap.get? d<*o->f.get? d<*o:=λd o g e=>by have e':=kc d o g e;simp only[aA,bg,or_false,not_or]at g;exact z.extBut _ _ g.2.1 (u.extBut _ _ g.2.2.2.2 (r.extBut _ _ g.2.1 (p.extBut _ _ g.2.2.2.1 e')))
 have j1:f.IsTupleIter n a (k+1):=(((jc.extBut p.extBut (adr 'D')).extBut r.extBut (adr 'D')).extBut u.extBut (adr 'D')).extBut z.extBut (adr 'D');have j2:f.IsTupleIter (n+1) b (k+1):=((jd.extBut r.extBut (adr 'D')).extBut u.extBut (adr 'D')).extBut z.extBut (adr 'D');have j3:f.IsTupleIter (n+2) c (k+1):=jf.extBut z.extBut (adr 'D');have Z:n+5<f.objs.size:=aw Y;show wpAny _ _ (l8 (.ref (n+5)) (.ref f.objs.size)>>=_) _ _ _;refine aa ?_;unfold l8;have zf:IsZip (f.push {cls:=.type "tuple",data:=.seq #[x,y,v]}) (n+5) (n+3) (n+4) .ellipsis:=af _ Y;refine aa (cb zf 'F' λhi N V=>?_);have N:IsZip hi (n+5) (n+3) (n+4) (rawInt f.objs.size):=N;refine cb N 'F' λF H W=>?_;have H:IsZip F (n+5) (n+3) (n+4) (rawInt f.objs.size):=H;have B:∀d o,d≠n+5->f.get? d<*o->F.get? d<*o:=λd o O e=>W.extBut _ _ O (V.extBut _ _ O (af _ e));have X:jT F f.objs.size x y v:=W.extBut _ _ (dQ Z) (V.extBut _ _ (dQ Z) (av _ rfl));rw[sz]at H X;refine aj (_,rfl,?_,);show Q (.ref f.objs.size) _;rw[sz];exact q F (H,B _ _ (adr 'D') (R _ _ (by simp only[aA,bg,or_false,not_or];exact(adr 'D',adr 'D',adr 'D',adr 'D',adr 'D',)) P),(_,_,_,B _ _ (adr 'D') G,),j1.at λo e=>B _ o (adr 'D') e,j2.at λo e=>B _ o (adr 'D') e,j3.at λo e=>B _ o (adr 'D') e,) X λd o g e=>B d o (λa2=>g (by simp[a2])) (R d o g e)
def z3_end{a b c:Nat}{xs:Array Value}{Q:Fin->Shared->Prop}(C:A.handled=none)(K:a<n)(st:Z3 a b c n k s.heap .none)(G:s.heap.IsTuple a xs)(D:xs[k]? =none)
  (q:∀h' e,(∀d o,d∉[n+5,n+4,n,n+1,n+2]->s.heap.get? d<*o->h'.get? d<*o)->(∃o,h'.get? e<*o/\o.cls=.type "StopIteration")->E (.ref e) {s with heap:=h'}):
  'B' (Builtin.«zip.__next__» ([.ref (n+5)],[],)) Q E s:=by
 obtain⟨f,u,⟨u1,L,M,J⟩,t,H,I⟩:=st;show wpAny _ _ (field (.ref (n+5)) 2>>=_) _ _ _;refine aa (dq f rfl (x:=.bool false) rfl ?_);show wpAny _ _ (field (.ref (n+5)) 3>>=_) _ _ _;refine aa (dq f rfl (x:=.ref (n+3)) rfl ?_);refine aa (dm u rfl ?_);show wpAny _ _ (eB (.ref (n+5))>>=_) _ _ _;refine aa ?_;unfold eB;refine aa (dq f rfl (x:=.none) rfl (aj ?_));simp only[if_true];refine aa (fW (aa (dq f rfl (x:=.ref (n+4)) rfl ?_)));refine aa (cb f 'F' λv j i=>?_);have j:IsZip v (n+5) (n+3) (n+4) .ellipsis:=j;refine aa ?_;simp only[List.zipIdx_cons,List.zipIdx_nil,pY,lZ];refine aa (aa (yP ?_));show wpAny _ _ (cf (.ref n)>>=_) _ _ _;refine aa (Bk C (t.extBut i.extBut (adr 'D')) (G.extBut i.extBut (adr 'D')) D λy e m B=>?_);obtain⟨F,h,l⟩:=B;have r:IsZip y (n+5) (n+3) (n+4) .ellipsis:=m _ _ (adr 'D') j;have ne:e≠n+5:=λx=>by subst x;rw[r]at h;cases h;simp at l
 refine cb r 'F' λz _ p=>q z e (λd o g x=>?_) (F,p.extBut _ _ ne h,l,);simp only[aA,bg,or_false,not_or]at g;exact p.extBut _ _ g.1 (m _ _ g.2.2.1 (i.extBut _ _ g.1 x))
def Ma{a b c:Nat}{xs ys zs:Array Value}{x y v:Value}{Q:Option Value->Shared->Prop}(m:a<n)(p:b<n)(r:c<n)(st:Z3 a b c n k s.heap .none)(t:s.heap.IsTuple a xs)(u:s.heap.IsTuple b ys)(t3:s.heap.IsTuple c zs)(j:xs[k]?<*x)(l:ys[k]?<*y)(i:zs[k]?<*v)
  (q:∀h',Z3 a b c n (k+1) h' (rawInt ⇑s)->jT h' ⇑s x y v->(∀d o,d∉[n+5,n+4,n,n+1,n+2]->s.heap.get? d<*o->h'.get? d<*o)->Q (some (.ref ⇑s)) {s with heap:=h'}):
  'B' (pyNext (.ref (n+5))) Q E s:=by
 have e:s.TypeIs (.ref (n+5)) "zip":=(_,st.hz,rfl,);unfold pyNext;exact aa (fX (dh (name:=aQ "__next__") e rA (cC rA e F.entry_zip_next (z3_item m p r st t u t3 j l i λh' f g h=>aj (q h' f g h)) (F.args_zip_next_1 _))))
def pn3_end{a b c:Nat}{xs:Array Value}{Q:Option Value->Shared->Prop}(j:A.handled=none)(p:a<n)(st:Z3 a b c n k s.heap .none)(r:s.heap.IsTuple a xs)(l:xs[k]? =none)
  (q:∀h',(∀d o,d∉[n+5,n+4,n,n+1,n+2]->s.heap.get? d<*o->h'.get? d<*o)->Q none {s with heap:=h'}):'B' (pyNext (.ref (n+5))) Q E s:=by
 have f:s.TypeIs (.ref (n+5)) "zip":=(_,st.hz,rfl,);unfold pyNext;refine aa (fX (dh (name:=aQ "__next__") f rA (cC rA f F.entry_zip_next (z3_end j p st r l λh' e m i=>?_) (F.args_zip_next_1 _))));obtain⟨o,g,h⟩:=i;exact aa (kW (T:="StopIteration") (b:=true) (o,g,h,) Ki (aj (q _ m)))
end
noncomputable abbrev w1(h:Heap)(a:Addr):Heap:=h.push {cls:=.type "tuple_iterator",data:=.fields #[.ref a,.int 0 0]}
noncomputable abbrev w4(h:Heap)(a b c:Addr):Heap:=(w1 (w1 (w1 h a) b) c).push {cls:=.type "tuple",data:=.seq #[.ref h.objs.size,.ref (w1 h a).objs.size,.ref (w1 (w1 h a) b).objs.size]}
noncomputable abbrev w5(h:Heap)(a b c:Addr):Heap:=(w4 h a b c).push {cls:=.type "tuple",data:=.seq #[.none,.none,.none]}
noncomputable abbrev w6(h:Heap)(a b c:Addr):Heap:=(w5 h a b c).push {cls:=.type "zip",data:=.fields #[.none,.bool false,.bool false,.ref (w1 (w1 (w1 h a) b) c).objs.size,.ref (w4 h a b c).objs.size]}
def FL(a b c:Addr)(xs ys zs:Array Value):Meets (Builtin.«zip.__new__» ([.type "zip",.ref a,.ref b,.ref c],[],)) (λ_ R s=>s.heap.IsTuple a xs/\s.heap.IsTuple b ys/\s.heap.IsTuple c zs/\R (.ok (.ret (.ref (w5 s.heap a b c).objs.size))) {s with heap:=w6 s.heap a b c}):=
 .of_wp λr w A R s h=>by
  obtain⟨f,g,d,tk,i⟩:=s;obtain⟨m,n,p,h⟩:=h;have q:=sub_zip;have j:wu (yI (f,g,d,tk,i,)) a xs:=m;have k:wu (yI (w1 f a,g,d,tk,i,)) b ys:=n.at λo e=>af _ e;have l:wu (yI (w1 (w1 f a) b,g,d,tk,i,)) c zs:=p.at λo e=>af _ (af _ e)
  wp_walk using eR j,eR k,eR l
  exact(_,rfl,h,)
end PySem
namespace PySem.F
def wF(a b c:Value):checkTypeCall "zip" ([a,b,c],[],)=pure ():=by kernel_rfl
def y9(a b c:Value):rh "zip.__new__" ([.type "zip",a,b,c],[],)=pure ():=by kernel_rfl
def qW(a b c d:Value):argsOk "object.__init__" ([a,b,c,d],[],):=by unfold argsOk;rw[signature?_of (id:="object.__init__") (n:=['_','_','t','i','n','i','_','_']) (o:=['t','c','e','j','b','o']) 'G' owner_object];kernel_rfl
end PySem.F
namespace PySem
def JO{xs ys zs:Array Value}{Q:'I'}(u:s.heap.IsTuple a xs)(v:s.heap.IsTuple b ys)(y:s.heap.IsTuple c zs)
  (h:∀h',Z3 a b c ⇑s 0 h' .none->(∀d o,s.heap.get? d<*o->h'.get? d<*o)->Q (.ref (⇑s+5)) {s with heap:=h'}):
  'B' (call (.type "zip") [.ref a,.ref b,.ref c]) Q E s:=by
 refine callType_new F.called_zip 'E' (F.wF _ _ _) (F.y9 _ _ _) (λz=>F.qW z _ _ _) F.entry_zip_new (FL a b c xs ys zs) (u,v,y,?_,);have i:(w1 s.heap a).objs.size=⇑s+1:=bc ..;have j:(w1 (w1 s.heap a) b).objs.size=⇑s+2:=by rw[bc,i]
 have k:(w1 (w1 (w1 s.heap a) b) c).objs.size=⇑s+3:=by rw[bc,j]
 have l:(w4 s.heap a b c).objs.size=⇑s+4:=by rw[bc,k]
 have r:(w5 s.heap a b c).objs.size=⇑s+5:=by rw[bc,l]
 have g:(w6 s.heap a b c).get? (w5 s.heap a b c).objs.size<*_:=av _ rfl;have q:(w6 s.heap a b c).get? (w4 s.heap a b c).objs.size<*_:=af _ (av _ rfl);have p:(w6 s.heap a b c).get? (w1 (w1 (w1 s.heap a) b) c).objs.size<*_:=af _ (af _ (av _ rfl));have f:∀d o,(w1 (w1 (w1 s.heap a) b) c).get? d<*o->(w6 s.heap a b c).get? d<*o:=λd o e=>af _ (af _ (af _ e));have n:(w6 s.heap a b c).get? (w1 (w1 s.heap a) b).objs.size<*_:=f _ _ (av _ rfl);have m:(w6 s.heap a b c).get? (w1 s.heap a).objs.size<*_:=f _ _ (af _ (av _ rfl));have t:(w6 s.heap a b c).get? ⇑s<*_:=f _ _ (af _ (af _ (av _ rfl)));show _/\_;rw[k,l,r]at g;rw[l]at q;rw[i,j,k]at p;rw[j]at n;rw[i]at m;rw[r];exact((_,g,rfl,),h _ (g,p,(_,_,_,q,),(_,t,rfl,rfl,),(_,m,rfl,rfl,),(_,n,rfl,rfl,),) λd o x=>f _ _ (af _ (af _ (af _ x))),)
end PySem
namespace L2
abbrev Itz3(K:ah)(a b c:Addr):It:=
 (λi H=>∃xs ys zs x y z,SqT K H a xs/\SqT K H b ys/\SqT K H c zs/\xs[i]?<*x/\ys[i]?<*y/\zs[i]?<*z,
  λi H v H'=>∃p x y z,H p=none/\H'=upd H p (.tup [x,y,z])/\v=.ref p/\(∀xs,SqT K H a xs->xs[i]?<*x)/\(∀ys,SqT K H b ys->ys[i]?<*y)/\∀zs,SqT K H c zs->zs[i]?<*z,
  λi H=>∃xs,SqT K H a xs/\xs.length<=i,)
def IH{es:List Expr}{kk:Nat}(a b c n:Nat)(la:a<n)(lb:b<n)(lc:c<n):Turn P w K (.Tuple es kk pp) (Itz3 K a b c) [n+5,n+3,n+4,n,n+1,n+2] (n+5) (λi h=>Z3 a b c n i h .none) where
 mem:=by simp
 obj:=λi h f d e=>by
  obtain⟨L,D,⟨u1,u,A,E⟩,⟨o1,e1,c1,d1⟩,⟨o2,e2,c2,d2⟩,⟨o3,e3,c3,d3⟩⟩:=f;simp only[aA,bg,or_false]at e;rcases e with rfl|rfl|rfl|rfl|rfl|rfl;·exact⟨_,L,λv z=>by cases z⟩
  .exact⟨_,D,λv z=>by cases z⟩
  .exact⟨_,E,λv z=>by cases z⟩
  .exact⟨o1,e1,λv z=>by rw[d1]at z;cases z⟩
  .exact⟨o2,e2,λv z=>by rw[d2]at z;cases z⟩
  .exact⟨o3,e3,λv z=>by rw[d3]at z;cases z⟩
 keep:=λi h p f k=>by obtain⟨L,D,⟨u1,u,A,E⟩,h1,h2,h3⟩:=f;exact⟨k _ 'F' _ L,k _ 'F' _ D,⟨u1,u,A,k _ 'F' _ E⟩,h1.at λo q=>k _ 'F' o q,h2.at λo q=>k _ 'F' o q,h3.at λo q=>k _ 'F' o q⟩
 item:=by
  intro X C G B U i O s T H a1 I hf f F;subst C G B;obtain⟨xs,ys,zs,x,y,z,t,V,W,J,Y,Z⟩:=F;obtain⟨M,S,g,_⟩:=I.tuple t;obtain⟨a8,b3,Q,_⟩:=I.tuple V;obtain⟨a9,b4,R,_⟩:=I.tuple W;obtain⟨b7,hu,ru⟩:=S.get J;obtain⟨u,a5,b0⟩:=b3.get Y;obtain⟨A,a6,b2⟩:=b4.get Z;have g:s.heap.IsTuple a M.toArray:=g;have Q:s.heap.IsTuple b a8.toArray:=Q;have R:s.heap.IsTuple c a9.toArray:=R;have a0:=f;refine Ma la lb lc f g Q R ↥hu ↥a5 ↥a6 λp j b5 N=>?_;have hp:H ⇑s=none:=I.hok.fresh (ay _);have b6:∀d∈[n+5,n+4,n,n+1,n+2],d∈[n+5,n+3,n+4,n,n+1,n+2]:=λd e=>by simp only[aA,bg,or_false]at e⊢;rcases e with h|h|h|h|h<;>simp[h]
  have I1:Inv X O T (upd H ⇑s (.tup [x,y,z])) {s with heap:=p}:=
   I.newL (t':=s.toks) N (λd e=>hf d (b6 d e)) (by show 3<=sizeLine;decide,[b7,u,A],.cons ru (.cons b0 (.cons b2 .nil)),(_,b5,rfl,_,rfl,),)
  obtain⟨f0,f1,f2,f3,f4,f5⟩:=hf (n+5) 'F';have fz:(upd H ⇑s (.tup [x,y,z])) (n+5)=none:=by rw[aV (aL (aw a0.hz))];exact f0
  refine(_,rfl,wpAny_letOwnedTupleGo_zip (s:={s with heap:=p}) j.hz λa2 a7 l=>?_,);have I2:Inv X O T (upd H ⇑s (.tup [x,y,z])) {s with heap:=a2}:=I1.turned (t':=s.toks) (λd o hb q=>l.extBut d o hb q) fz f1 f3 f4 f5;obtain⟨v1,v2,v3,a3⟩:=j.hTO;refine(.ref ⇑s,_,I2,rfl,⟨_,x,y,z,hp,rfl,rfl,(λvs m=>by rw[I.ku m t];exact J),(λvs m=>by rw[I.ku m V];exact Y),(λvs m=>by rw[I.ku m W];exact Z)⟩,
   (a7,l.extBut _ _ (adr 'D') j.hTI,(v1,v2,v3,l.extBut _ _ (adr 'D') a3,),j.h1.at λo q=>l.extBut _ o (adr 'D') q,j.h2.at λo q=>l.extBut _ o (adr 'D') q,j.h3.at λo q=>l.extBut _ o (adr 'D') q,),λd e=>?_,)
  have a4:d<⇑s:=by
   obtain⟨g1,g2,⟨_,_,_,g3⟩,⟨_,g4,_⟩,⟨_,g5,_⟩,⟨_,g6,_⟩⟩:=a0;simp only[aA,bg,or_false]at e;rcases e with rfl|rfl|rfl|rfl|rfl|rfl;·exact aw g1
   .exact aw g2
   .exact aw g3
   .exact aw g4
   .exact aw g5
   .exact aw g6
  rw[aV (aL a4)];exact(hf d e).1
 done:=by intro X C G B U i O s T H a1 I hf f F;subst C G B;obtain⟨xs,t,J⟩:=F;obtain⟨M,S,g,_⟩:=I.tuple t;have g:s.heap.IsTuple a M.toArray:=g;have l1:=S.length;refine pn3_end (I.ok.hd U) la f g (by simp;lia) λp N=>?_;exact⟨rfl,I.GU (ch:=[n+5,n+4,n,n+1,n+2]) (λd o r q=>N d o r q) λd r=>hf d (by simp only[aA,bg,or_false]at r⊢;rcases r with h|h|h|h|h<;>simp[h])⟩
 self:=λ_ _ _ _ _ f h=>wpAny_pyIter_zip f.hz h
section
variable {es:List Expr}{kk:Nat}
def iZip3(K:ah)(t:TA):TI:=λσ H R=>t σ H λvs H1=>∃a b c,vs=[.ref a,.ref b,.ref c]/\(∃xs,SqT K H1 a xs)/\(∃ys,SqT K H1 b ys)/\(∃zs,SqT K H1 c zs)/\R (Itz3 K a b c) H1
def pi_zip3{l m r:Expr}{t:TA}{p:Pos}(B:Gl X "zip")(C:X.mg "zip"=none)(A:PA X [l,m,r] t)(hs:bf [l,m,r] X.env=(false,eval l X.env)::bf [m,r] X.env)(D:(backTo pos (bf [m,r] X.env)).any (·.1)=false):
  PI X (.Tuple es kk pp) (.Call (.Name "zip" p) [l,m,r] [] pos) (iZip3 X.K t):=by
 intro w s x H R I h;refine Call_ (jj I B C boot_zip (bX (thn (A pos w s x H _ I h) λV s1 ⟨W,n,g,f,Q⟩=>?_) hs D));obtain⟨a,b,c,rfl,⟨Y,E⟩,⟨Z,F⟩,⟨zs,G⟩,q⟩:=Q;cases f with
 |cons ra f=>cases f with
  |cons rb f=>cases f with
   |cons rc f=>cases f with
    |nil=>
     cases ra;cases rb;cases rc;obtain⟨J,S,i,_⟩:=g.tuple E;obtain⟨K,T,j,_⟩:=g.tuple F;obtain⟨L,U,k,_⟩:=g.tuple G;have i:s1.heap.IsTuple a J.toArray:=i;have j:s1.heap.IsTuple b K.toArray:=j;have k:s1.heap.IsTuple c L.toArray:=k;have N:a<⇑s1:=let⟨_,e,_⟩:=i;aw e;have O:b<⇑s1:=let⟨_,e,_⟩:=j;aw e;have P:c<⇑s1:=let⟨_,e,_⟩:=k;aw e;refine JO i j k λo z M=>?_;refine wpAny_pyIter_zip (s:={s1 with heap:=o}) z.hz ?_;have y:Inv X w x n {s1 with heap:=o,toks:=s1.toks}:=g.kept M;refine(_,_,_,_,n,rfl,y,IH a b c _ N O P,z,λd v=>?_,q,);have u:⇑s1<=d:=by
      simp only[aA,bg,or_false]at v;rcases v with rfl|rfl|rfl|rfl|rfl|rfl;·exact eH _ _
      .exact eH _ _
      .exact eH _ _
      .exact ay _
      .exact eH _ _
      .exact eH _ _
     exact g.ze u (g.hok.fresh u)
end
def rLtS:R2:=λx y H Q=>∃i j,x=.str i/\y=.str j/\Q (.bl (_root_.Q.tlt i j)) H
def op_ltS:OpR X (cZ .Lt) rLtS:=by intro c s e H x y v u Q I a b h;obtain⟨i,j,rfl,rfl,q⟩:=h;obtain⟨t,rfl⟩:=a;obtain⟨d,rfl⟩:=b;exact PyProof.Rows.lt_str (uB I q rfl)
end L2
namespace Q
open PySem.W L2
noncomputable abbrev Tri:=Int×Str×Str
abbrev t3(x y:Tri):Bool:=decide (x.1<y.1)||(decide (x.1=y.1)&&(tlt x.2.1 y.2.1||(decide (x.2.1=y.2.1)&&tlt x.2.2 y.2.2)))
end Q
set_option genInjectivity false
set_option genSizeOf false
namespace R
open L2
inductive Bf where
 |len|isinstance|all|any|list|tuple|set|sum|int|lend|sorti|isx|sortl|minl|maxl|sortt
 deriving DecidableEq
abbrev Bf.name:Bf->Str
 |.len=>"len" |.isinstance=>"isinstance" |.all=>"all" |.any=>"any" |.list=>"list" |.tuple=>"tuple" |.set=>"set" |.sum=>"sum" |.int=>"int" |.lend=>"len" |.sorti=>"sorted" |.isx=>"isinstance" |.sortl=>"sorted" |.minl=>"min" |.maxl=>"max" |.sortt=>"sorted"
abbrev Bf.val:Bf->Value
 |.len=>.builtin "len" |.isinstance=>.builtin "isinstance" |.all=>.builtin "all" |.any=>.builtin "any" |.list=>.type "list" |.tuple=>.type "tuple" |.set=>.type "set" |.sum=>.builtin "sum" |.int=>.type "int" |.lend=>.builtin "len" |.sorti=>.builtin "sorted" |.isx=>.builtin "isinstance" |.sortl=>.builtin "sorted" |.minl=>.builtin "min" |.maxl=>.builtin "max" |.sortt=>.builtin "sorted"
def Bf.boot:∀b:Bf,fv b.name<*b.val
 |.len=>PySem.boot_len|.isinstance=>boot_isinstance|.all=>boot_all|.any=>boot_any|.list=>lX|.tuple=>yL
 |.set=>by decide+kernel|.sum=>by decide+kernel|.int=>zu|.lend=>PySem.boot_len|.sorti=>by decide+kernel|.isx=>boot_isinstance|.sortl=>by decide+kernel|.minl=>by decide+kernel|.maxl=>by decide+kernel|.sortt=>by decide+kernel
def Bf.plain:∀b:Bf,b.name≠"__name__"/\(b.name==("__debug__":Str))=false:=by intro b;cases b<;>exact(by decide+kernel,by decide+kernel,)
inductive Ty where
 |int|bool|str|list|tuple|dict|valueError
 deriving DecidableEq
abbrev Ty.name:Ty->Str
 |.int=>"int" |.bool=>"bool" |.str=>"str" |.list=>"list" |.tuple=>"tuple" |.dict=>"dict" |.valueError=>"ValueError"
abbrev Ty.t:Ty->String
 |.int=>"int" |.bool=>"bool" |.str=>"str" |.list=>"list" |.tuple=>"tuple" |.dict=>"dict" |.valueError=>"ValueError"
def Ty.boot:∀b:Ty,fv b.name<*(.type b.t)
 |.int=>zu|.bool=>PyProof.Rows.boot_bool|.str=>PyProof.Rows.boot_str|.list=>lX|.tuple=>yL|.dict=>PyProof.Rows.boot_dict|.valueError=>by decide+kernel
def Ty.plain:∀b:Ty,b.name≠"__name__"/\(b.name==("__debug__":Str))=false:=by intro b;cases b<;>exact(by decide+kernel,by decide+kernel,)
abbrev nZ(K:ah):Operator->R2
 |.Add=>λx y H Q=>(rI0 λi j=>.int (i+j)) x y H Q\/(∃i j,x=.str i/\y=.str j/\i.length+j.length<=sizeLine/\Q (.str (i++j)) H)\/rCat x y H Q\/Hg K x y H Q\/Hh K x y H Q
 |.Sub=>rI0 λi j=>.int (i-j)
 |.Mult=>λx y H Q=>(rI GL λi j=>.int (i*j)) x y H Q\/rRep x y H Q\/LR x y H Q
 |.Mod=>rI (λ_ j=>0<j) λi j=>.int (i%j)
 |.FloorDiv=>rI OB λi j=>.int (i/j)
 |.Pow=>rI J4 λi j=>.int (i^j.toNat)
 |.RShift=>rI (λ_ j=>0<=j) λi j=>.int (i/2^j.toNat)
 |.LShift=>rI J4 λi j=>.int (i*2^j.toNat)
 |.BitAnd=>rI0 λi j=>.int (i6 i j)
 |.BitXor=>rI0 λi j=>.int (k6 i j)
 |_=>λ_ _ _ _=>False
abbrev gh(K:ah):CmpOp->R2
 |.Eq=>rEqD K
 |.NotEq=>rNeD K
 |.Lt=>λx y H Q=>(rI0 λi j=>.bl (decide (i<j))) x y H Q\/rLtS x y H Q
 |.LtE=>rI0 λi j=>.bl (decide (i<=j))
 |.Gt=>rI0 λi j=>.bl (decide (j<i))
 |.GtE=>rI0 λi j=>.bl (decide (j<=i))
 |.Is=>λx y H Q=>y=.non/\Q (.bl (decide (x=.non))) H
 |.IsNot=>λx y H Q=>y=.non/\Q (.bl (!decide (x=.non))) H
 |.In=>λx y H Q=>((∃i j,x=.str i/\y=.str j/\Q (.bl (!(iq j i 0 j.length 1).isEmpty)) H)\/rInD K false x y H Q)\/rIn K false x y H Q
 |.NotIn=>λx y H Q=>((∃i j,x=.str i/\y=.str j/\Q (.bl (!(!(iq j i 0 j.length 1).isEmpty))) H)\/rInD K true x y H Q)\/rIn K true x y H Q
abbrev rUn(K:ah):UnaryOp->V->Hp->VK->Prop
 |.USub=>rU λi=>.int (-i)
 |_=>λ_ _ _=>False
def rSlc(K:ah):V->Option Int->Option Int->Hp->VK->Prop:=λx lo hi H Q=>rSlL K x lo hi H Q\/rSlS x lo hi H Q
abbrev rBf(K:ah):Bf->List V->Hp->VK->Prop
 |.len=>λxs H Q=>(∃p ys,xs=[.ref p]/\(SqL K H p ys\/SqT K H p ys)/\Q (.int ys.length) H)\/(∃z:Str,xs=[.str z]/\z.length<=sizeLine/\Q (.int z.length) H)\/(∃a n,xs=[V.ref a]/\H a<*(_root_.Q.Fd a n)/\Q (.int n) H)
 |.isinstance=>λxs H Q=>(∃x T t b,xs=[x,.ty T]/\nN K H x t/\cF K t (.type T)<*b/\Q (.bl b) H)\/(∃x C t b,xs=[x,.ref C]/\nN K H x t/\cF K t (.ref C)<*b/\Q (.bl b) H)
 |.all=>λxs H Q=>∃(p:Addr)(bs:List Bool),xs=[.ref p]/\SqL K H p (bs.map V.bl)/\Q (.bl (bs.all id)) H
 |.any=>λxs H Q=>∃(p:Addr)(bs:List Bool),xs=[.ref p]/\SqL K H p (bs.map V.bl)/\Q (.bl (bs.any id)) H
 |.list=>λxs H Q=>∃p ys,xs=[.ref p]/\(SqL K H p ys\/SqT K H p ys)/\∀l,H l=none->Q (.ref l) (upd H l (.lst ys))
 |.tuple=>λxs H Q=>∃p ys,xs=[.ref p]/\((SqL K H p ys/\∀l,H l=none->Q (.ref l) (upd H l (.tup ys)))\/(SqT K H p ys/\Q (.ref p) H))
 |.set=>Q.rSet K
 |.sum=>λxs H Q=>∃(p:Addr)(ns:List Int),xs=[.ref p]/\SqL K H p (ns.map V.int)/\Q (.int ns.sum) H
 |.int=>λxs H Q=>(∃i,xs=[.int i]/\Q (.int i) H)\/∃k,xs=[.bl k]/\Q (.int (if k then 1 else 0)) H
 |.lend=>λxs H Q=>∃a kvs,xs=[V.ref a]/\H a<*(.dT kvs)/\Q (.int kvs.length) H
 |.sorti=>Q.LQ K
 |.sortl=>Q.LP K
 |.sortt=>Q.LO K
 |.minl=>Q.rMinL K
 |.maxl=>Q.rMaxL K
 |.isx=>λxs H Q=>∃a C d y cv b,xs=[.ref a,y]/\H a<*(qh a (.ref C) d)/\(∀dd,d<*dd->∃fs,H dd<*(xdO dd fs))/\nu K C=true/\((∃T,y=.ty T/\cv=lV T)\/(∃D,y=.ref D/\cv=bD D))/\cF K (.ref C) cv<*b/\Q (.bl b) H
inductive Mm where
 |append|clear|reverse|pop|index|extend
 deriving DecidableEq
abbrev Mm.name:Mm->Str
 |.append=>"append" |.clear=>"clear" |.reverse=>"reverse" |.pop=>"pop" |.index=>"index" |.extend=>"extend"
abbrev Mm.id:Mm->String
 |.append=>"list.append" |.clear=>"list.clear" |.reverse=>"list.reverse" |.pop=>"list.pop" |.index=>"list.index" |.extend=>"list.extend"
abbrev rMm:Mm->V->List V->Hp->VK->Prop
 |.append=>A6
 |.clear=>λ_ _ _ _=>False
 |.reverse=>λ_ _ _ _=>False
 |.pop=>λx xs H Q=>False\/LS x xs H Q
 |.index=>λ_ _ _ _=>False
 |.extend=>Hf
abbrev baseOk:Expr->Bool
 |.Name .. =>true|.Subscript .. =>true
 |.Call f _ _ _=>match f with
  |.Attribute .. =>true
  |_=>false
 |_=>false
mutual
inductive CE where
 |var (i:Nat)
 |con (c:Const)
 |glo (x:Str)
 |ty (t:Ty)
 |bin (op:Operator) (a b:CE)
 |un (op:UnaryOp) (a:CE)
 |cmp (op:CmpOp) (a b:CE)
 |chain (op op':CmpOp) (a b c:CE)
 |not (a:CE)
 |and (a b:CE)
 |or (a b:CE)
 |ite (c a b:CE)
 |idx (a i:CE)
 |cut (a:CE) (lo hi:CO)
 |tup (es:CL)
 |lst (es:CL)
 |dic (ps:CP)
 |call (f:Str) (es:CL)
 |bfn (b:Bf) (es:CL)
 |meth1 (m:Mm) (o a:CE)
 |idxd (a i:CE)
 |dicT
 |setd (o a b:CE)
 |base (x:Str) (es:CL)
 |fld (a:CE) (f:Str)
 |lrng (a:CE)
 |sortset (a:CE)
 |comp (own:List Str) (fr:List Nat) (tg:CG) (it:CI) (cond:CO) (elt:CE)
inductive CL where
 |nil
 |cons (e:CE) (es:CL)
inductive CP where
 |nil
 |cons (k v:CE) (r:CP)
inductive CO where
 |no
 |yes (e:CE)
inductive CG where
 |name (i:Nat)
 |tup (gs:CGs)
inductive CGs where
 |nil
 |cons (g:CG) (gs:CGs)
inductive CI where
 |seq (e:CE)
 |lseq (e:CE)
 |range1 (e:CE)
 |range2 (a b:CE)
 |enum (e:CE)
 |zip3 (a b c:CE)
 |enumt (e:CE)
end
abbrev CL.len:CL->Nat
 |.nil=>0
 |.cons _ r=>r.len+1
abbrev CGs.len:CGs->Nat
 |.nil=>0
 |.cons _ r=>r.len+1
mutual
inductive CS where
 |asg (g:CG) (e:CE)
 |asgc (i:Nat) (e:CE)
 |expr (e:CE)
 |iff (c:CE) (a b:CB)
 |forr (g:CG) (it:CI) (b:CB)
 |ret (e:CE)
 |retN
 |pass|brk|cont
 |rais (x:Str) (es:CL)
 |raisX (x:Str) (es:CL)
 |fldX (o:CE) (f:Str) (e:CE)
 |tryc (x:Str) (i:Nat) (b su:CB)
inductive CB where
 |nil
 |hole
 |cons (s:CS) (r:CB)
end
abbrev DH(sc:Scope)(x:Str):Bool:=sc.names.lookup x==some .local||sc.names.lookup x==some .cell||sc.names.lookup x==some .free
abbrev j7(sc:Scope)(x:Str):Bool:=sc.names.lookup x==some .globalImplicit
abbrev rN(x:Str):Bool:=(x==("__debug__":Str))==false&&(x==("__classdict__":Str))==false
abbrev okCon:Const->Bool
 |.none=>true|.bool _=>true|.int _=>true|.str _=>true|_=>false
abbrev cv:Const->V
 |.none=>.non|.bool b=>.bl b|.int i=>.int i|.str x=>.str x|_=>.non
abbrev namesOf(N own:List Str)(fr:List Nat):List Str:=own++fr.map λj=>N.getD j ""
abbrev mO(own:List Str)(fr:List Nat)(σ:L2.St):L2.St:=own.map (λ_=>none)++fr.map λj=>(σ[j]?).getD none
abbrev BA:Expr->Bool
 |.Slice .. =>true
 |_=>false
abbrev isSet:Expr->Bool
 |.Set .. =>true
 |_=>false
abbrev xW:Expr->Bool
 |.ListComp .. =>true|.SetComp .. =>true|.DictComp .. =>true
 |_=>false
abbrev oH:Expr->Bool
 |.Tuple .. =>true
 |_=>false
abbrev Bj(sc sc':Scope)(N own:List Str)(fr:List Nat):Bool:=
 decide (sc'.kind=.function)&&sc'.names.all (λy=>decide (y.2=.cell->sc'.names.lookup y.1<*.cell))&&sc'.names.all (λy=>decide (y.2=.local->sc'.names.lookup y.1<*.local))&&
 sc'.names.all (λy=>decide (y.2=.free->sc.names.lookup y.1<*.cell\/sc.names.lookup y.1<*.free))&&decide ((namesOf N own fr).Nodup)&&
 fr.all (λj=>decide (j<N.length)&&sc'.names.lookup (N.getD j "")==some .free)&&own.all (λx=>sc'.names.lookup x==some .local||sc'.names.lookup x==some .cell)
def dk{P:Prop}(h:false=true):P:=(ao h).elim
def MC{P:Prop}(h:true=false):P:=(ao h.symm).elim
def an{a b:Bool}(h:(a&&b)=true):a=true/\b=true:=by rwa [az]at h
def qL{a:Bool}(h:(!a)=true):a=false:=by simpa using h
def gS{a b c:Bool}(h:(a&&b&&c)=true):a=true/\b=true/\c=true:=let⟨h,z⟩:=an h;let⟨x,y⟩:=an h;(x,y,z,)
def kT{a b c d:Bool}(h:(a&&b&&c&&d)=true):a=true/\b=true/\c=true/\d=true:=let⟨h,z⟩:=an h;let⟨x,y,w⟩:=gS h;(x,y,w,z,)
def and5{a b c d e:Bool}(h:(a&&b&&c&&d&&e)=true):a=true/\b=true/\c=true/\d=true/\e=true:=let⟨h,z⟩:=an h;let⟨x,y,w,v⟩:=kT h;(x,y,w,v,z,)
section
variable {s:Stmt}
abbrev l1{α:Type}(l:List α)(f:α->Bool):Bool:=match l with
 |a::r=>r.isEmpty&&f a
 | []=>false
def kK{b:Type}{l:List b}{f:b->Bool}(h:l1 l f=true):∃a,l=[a]/\f a=true:=by
 cases l with
 |nil=>exact dk h
 |cons a r=>
  obtain⟨c,h⟩:=an h;cases r with
  |nil=>exact(a,rfl,h,)
  |cons=>exact dk c
abbrev l2{α:Type}(l:List α)(f:α->α->Bool):Bool:=match l with
 |a::r=>l1 r (f a)
 | []=>false
def xR{c:Type}{l:List c}{f:c->c->Bool}(h:l2 l f=true):∃a b,l=[a,b]/\f a b=true:=by
 cases l with
 |nil=>exact dk h
 |cons a r=>obtain⟨b,rfl,h⟩:=kK h;exact(a,b,rfl,h,)
abbrev dNm(e:Expr)(f:Str->Pos->Bool):Bool:=match e with
 |.Name x p=>f x p
 |_=>false
def gR{f}(h:dNm e f=true):∃x p,e=.Name x p/\f x p=true:=by cases e<;>first |exact⟨_,_,rfl,h⟩ |exact dk h
abbrev dCn(e:Expr)(f:Const->Bool):Bool:=match e with
 |.Constant c _ _=>f c
 |_=>false
def Gj{f}(h:dCn e f=true):∃c j p,e=.Constant c j p/\f c=true:=by cases e<;>first |exact⟨_,_,_,rfl,h⟩ |exact dk h
abbrev dBi(e:Expr)(f:Expr->Operator->Expr->Bool):Bool:=match e with
 |.BinOp a op b _=>f a op b
 |_=>false
def N1{f}(h:dBi e f=true):∃a c b p,e=.BinOp a c b p/\f a c b=true:=by cases e<;>first |exact⟨_,_,_,_,rfl,h⟩ |exact dk h
abbrev dUn(e:Expr)(f:UnaryOp->Expr->Bool):Bool:=match e with
 |.UnaryOp op a _=>f op a
 |_=>false
def Ge{f}(h:dUn e f=true):∃b a p,e=.UnaryOp b a p/\f b a=true:=by cases e<;>first |exact⟨_,_,_,rfl,h⟩ |exact dk h
abbrev dCm(e:Expr)(f:Expr->List CmpOp->List Expr->Bool):Bool:=match e with
 |.Compare a os es _=>f a os es
 |_=>false
def Gk{f}(h:dCm e f=true):∃a os es p,e=.Compare a os es p/\f a os es=true:=by cases e<;>first |exact⟨_,_,_,_,rfl,h⟩ |exact dk h
abbrev dC1(e:Expr)(f:Expr->CmpOp->Expr->Bool):Bool:=dCm e λa os es=>l1 os λc=>l1 es λb=> !isSet b&&f a c b
def NZ{f}(h:dC1 e f=true):∃a c b p,e=.Compare a [c] [b] p/\isSet b=false/\f a c b=true:=by obtain⟨a,i,g,p,rfl,k⟩:=Gk h;obtain⟨c,rfl,l⟩:=kK k;obtain⟨b,rfl,m⟩:=kK l;obtain⟨d,n⟩:=an m;exact(a,c,b,p,rfl,qL d,n,)
abbrev dBo(e:Expr)(f:BoolOp->Expr->Expr->Bool):Bool:=match e with
 |.BoolOp op es p=>match es with
  |a::r=>match r with
   |b::r=>match r with
    | []=>f op a b
    |c::r=>f op a (.BoolOp op (b::c::r) p)
   | []=>false
  | []=>false
 |_=>false
def qR{f}(h:dBo e f=true):∃d a x p,f d a x=true/\(e=.BoolOp d [a,x] p\/∃b c r,x=.BoolOp d (b::c::r) p/\e=.BoolOp d (a::b::c::r) p):=by
 cases e<;>first |exact dk h|skip
 rename_i d es p;cases es with
 |nil=>exact dk h
 |cons a r=>cases r with
  |nil=>exact dk h
  |cons b r=>cases r with
   |nil=>exact(d,a,b,p,h,.inl rfl,)
   |cons c r=>exact(d,a,_,p,h,.inr (b,c,r,rfl,rfl,),)
abbrev dIf(e:Expr)(f:Expr->Expr->Expr->Bool):Bool:=match e with
 |.IfExp c a b _=>f c a b
 |_=>false
def dIf_of{f}(h:dIf e f=true):∃c a b p,e=.IfExp c a b p/\f c a b=true:=by cases e<;>first |exact⟨_,_,_,_,rfl,h⟩ |exact dk h
abbrev dSu(e:Expr)(f:Expr->Expr->Bool):Bool:=match e with
 |.Subscript a i _=>f a i
 |_=>false
def BJ{f}(h:dSu e f=true):∃a i p,e=.Subscript a i p/\f a i=true:=by cases e<;>first |exact⟨_,_,_,rfl,h⟩ |exact dk h
abbrev dSl(e:Expr)(f:Option Expr->Option Expr->Option Expr->Bool):Bool:=match e with
 |.Slice a b c _=>f a b c
 |_=>false
def dSl_of{f}(h:dSl e f=true):∃a b c p,e=.Slice a b c p/\f a b c=true:=by cases e<;>first |exact⟨_,_,_,_,rfl,h⟩ |exact dk h
abbrev dTu(e:Expr)(f:List Expr->Bool):Bool:=match e with
 |.Tuple es _ _=>f es
 |_=>false
def Gf{f}(h:dTu e f=true):∃es k p,e=.Tuple es k p/\f es=true:=by cases e<;>first |exact⟨_,_,_,rfl,h⟩ |exact dk h
abbrev dLi(e:Expr)(f:List Expr->Bool):Bool:=match e with
 |.List es _=>f es
 |_=>false
def NT{f}(h:dLi e f=true):∃es p,e=.List es p/\f es=true:=by cases e<;>first |exact⟨_,_,rfl,h⟩ |exact dk h
abbrev dDi(e:Expr)(f:List (Option Expr)->List Expr->Bool):Bool:=match e with
 |.Dict ks vs _=>f ks vs
 |_=>false
def NX{f}(h:dDi e f=true):∃ks vs p,e=.Dict ks vs p/\f ks vs=true:=by cases e<;>first |exact⟨_,_,_,rfl,h⟩ |exact dk h
abbrev dCa(e:Expr)(f:Expr->List Expr->Pos->Bool):Bool:=match e with
 |.Call g es ks p=>ks.isEmpty&&f g es p
 |_=>false
def NY{f}(h:dCa e f=true):∃g es p,e=.Call g es [] p/\f g es p=true:=by
 cases e<;>first |exact dk h|skip
 rename_i g es ks p;obtain⟨a,h⟩:=an h;cases ks with
 |nil=>exact(g,es,p,rfl,h,)
 |cons=>exact dk a
abbrev dFn(e:Expr)(f:Str->List Expr->Bool):Bool:=dCa e λg es _=>dNm g λx _=>f x es
def iU{f}(h:dFn e f=true):∃x np es p,e=.Call (.Name x np) es [] p/\f x es=true:=by obtain⟨g,es,p,rfl,k⟩:=NY h;obtain⟨x,np,rfl,l⟩:=gR k;exact(x,np,es,p,rfl,l,)
abbrev dAt(e:Expr)(f:Expr->Str->Pos->Bool):Bool:=match e with
 |.Attribute a x p=>f a x p
 |_=>false
def BL{f}(h:dAt e f=true):∃a x p,e=.Attribute a x p/\f a x p=true:=by cases e<;>first |exact⟨_,_,_,rfl,h⟩ |exact dk h
abbrev dMt(m:Str)(e:Expr)(f:Expr->List Expr->Bool):Bool:=dCa e λg es b=>dAt g λo c a=>decide (m=c)&&(a.endLine==b.line)&&f o es
def BK{m:Str}{f}(h:dMt m e f=true):∃o a es b,e=.Call (.Attribute o m a) es [] b/\(a.endLine==b.line)=true/\f o es=true:=by obtain⟨g,es,b,rfl,k⟩:=NY h;obtain⟨o,i,a,rfl,l⟩:=BL k;obtain⟨c,d,n⟩:=gS l;cases W0 c;exact(o,a,es,b,rfl,d,n,)
abbrev dLc(e:Expr)(f:Expr->List Comprehension->Scope->Pos->Bool):Bool:=match e with
 |.ListComp a gs sc p=>f a gs sc p
 |_=>false
def Gh{f}(h:dLc e f=true):∃a gs sc p,e=.ListComp a gs sc p/\f a gs sc p=true:=by cases e<;>first |exact⟨_,_,_,_,rfl,h⟩ |exact dk h
abbrev dAs(s:Stmt)(f:Expr->Expr->Pos->Bool):Bool:=match s with
 |.Assign ts e p=>l1 ts λg=>f g e p
 |_=>false
def BN{f}(h:dAs s f=true):∃g e p,s=.Assign [g] e p/\f g e p=true:=by
 cases s<;>first |exact dk h|skip
 obtain⟨g,rfl,h⟩:=kK h;exact(g,_,_,rfl,h,)
abbrev dEx(s:Stmt)(f:Expr->Bool):Bool:=match s with
 |.Expr e _=>f e
 |_=>false
def NW{f}(h:dEx s f=true):∃e p,s=.Expr e p/\f e=true:=by cases s<;>first |exact⟨_,_,rfl,h⟩ |exact dk h
abbrev dIs(s:Stmt)(f:Expr->List Stmt->List Stmt->Bool):Bool:=match s with
 |.If c a b _=>f c a b
 |_=>false
def NU{f}(h:dIs s f=true):∃c a b p,s=.If c a b p/\f c a b=true:=by cases s<;>first |exact⟨_,_,_,_,rfl,h⟩ |exact dk h
abbrev dFo(s:Stmt)(f:Expr->Expr->List Stmt->Bool):Bool:=match s with
 |.For g i a b _=>b.isEmpty&&f g i a
 |_=>false
def dFo_of{f}(h:dFo s f=true):∃g i a p,s=.For g i a [] p/\f g i a=true:=by
 cases s<;>first |exact dk h|skip
 rename_i g i a b p;obtain⟨c,h⟩:=an h;cases b with
 |nil=>exact(g,i,a,p,rfl,h,)
 |cons=>exact dk c
abbrev dRt(s:Stmt)(f:Option Expr->Bool):Bool:=match s with
 |.Return e _=>f e
 |_=>false
def Gg{f}(h:dRt s f=true):∃e p,s=.Return e p/\f e=true:=by cases s<;>first |exact⟨_,_,rfl,h⟩ |exact dk h
abbrev dRa(s:Stmt)(f:Str->List Expr->Bool):Bool:=match s with
 |.Raise e c _=>match e with
  |some e=>c.isNone&&dFn e f
  |none=>false
 |_=>false
def NS{f}(h:dRa s f=true):∃x np es a p,s=.Raise (some (.Call (.Name x np) es [] a)) none p/\f x es=true:=by
 cases s<;>first |exact dk h|skip
 rename_i e c p;cases e with
 |none=>exact dk h
 |some e=>
  obtain⟨b,k⟩:=an h;obtain⟨x,np,es,a,rfl,l⟩:=iU k;cases c with
  |none=>exact(x,np,es,a,p,rfl,l,)
  |some=>exact dk b
abbrev dTr(s:Stmt)(f:List Stmt->Str->Str->List Stmt->Bool):Bool:=match s with
 |.Try b hs o r _=>o.isEmpty&&r.isEmpty&&l1 hs λh=>match h with
  |.ExceptHandler t n ss _=>match t with
   |some t=>match n with
    |some n=>dNm t λx _=>f b x n ss
    |none=>false
   |none=>false
 |_=>false
def dTr_of{f}(h:dTr s f=true):∃b x np n a c p,s=.Try b [.ExceptHandler (some (.Name x np)) (some n) a c] [] [] p/\f b x n a=true:=by
 cases s<;>first |exact dk h|skip
 rename_i b hs o r p;obtain⟨d,e,k⟩:=gS h;obtain⟨⟨t,n,a,c⟩,rfl,l⟩:=kK k;cases o with
 |cons=>exact dk d
 |nil=>cases r with
  |cons=>exact dk e
  |nil=>cases t with
   |none=>exact dk l
   |some t=>cases n with
    |none=>exact dk l
    |some n=>obtain⟨x,np,rfl,m⟩:=gR l;exact(b,x,np,n,a,c,p,rfl,m,)
end
abbrev u1{α:Type}(l:List α)(f:α->List α->Bool):Bool:=match l with
 |a::r=>f a r
 | []=>false
def wC{b:Type}{l:List b}{f:b->List b->Bool}(h:u1 l f=true):∃a r,l=a::r/\f a r=true:=by
 cases l with
 |nil=>exact dk h
 |cons a r=>exact(a,r,rfl,h,)
abbrev om{α:Type}(o:Option α)(f:α->Bool):Bool:=match o with
 |some x=>f x
 |none=>false
def Hr{a:Type}{o:Option a}{f:a->Bool}(h:om o f=true):∃x,o<*x/\f x=true:=by
 cases o with
 |none=>exact dk h
 |some x=>exact(x,rfl,h,)
def nil_of{a:Type}{l:List a}(h:l.isEmpty=true):l=[]:=List.isEmpty_iff.mp h
abbrev dFF(f g:Str)(sc:Scope)(e:Expr)(k:Expr->Bool):Bool:=dFn e λb es=>l1 es λx=>dFn x λc es=>l1 es λa=>decide (b=f)&&decide (c=g)&&j7 sc f&&j7 sc g&&k a
def NV{f g:Str}{k}(h:dFF f g sc e k=true):∃p a q r t,e=.Call (.Name f p) [.Call (.Name g q) [a] [] r] [] t/\j7 sc f=true/\j7 sc g=true/\k a=true:=by obtain⟨_,p,_,t,rfl,i⟩:=iU h;obtain⟨x,rfl,j⟩:=kK i;obtain⟨_,q,_,r,rfl,l⟩:=iU j;obtain⟨a,rfl,m⟩:=kK l;obtain⟨b,c,d,o,n⟩:=and5 m;cases W0 b;cases W0 c;exact(p,a,q,r,t,rfl,d,o,n,)
mutual
noncomputable def dF(sc:Scope)(N:List Str):CE->Expr->Bool
 |.var i,e=>dNm e λx _=>N[i]? ==some x&&DH sc x&&rN x
 |.con c,e=>dCn e λc'=>okCon c&&decide (c=c')
 |.glo x,e=>dNm e λy _=>decide (x=y)&&j7 sc x&&rN x
 |.ty t,e=>dNm e λy _=>decide (t.name=y)&&j7 sc y
 |.bin h a b,e=>dBi e λd w j=>decide (h=w)&&dF sc N a d&&dF sc N b j
 |.un h a,e=>dUn e λw d=>decide (h=w)&&dF sc N a d
 |.cmp h a b,e=>dC1 e λd w j=>decide (h=w)&&dF sc N a d&&dF sc N b j
 |.chain o1 o2 a b c,e=>dCm e λd os es=>l2 os λp q=>l2 es λj c'=>decide (o1=p)&&decide (o2=q)&& !isSet c'&&(dF sc N a d&&dF sc N b j&&dF sc N c c')
 |.not a,e=>dUn e λh d=>decide (h=.Not)&&dF sc N a d
 |.and a b,e=>dBo e λh d x=>decide (h=.And)&&dF sc N a d&&dF sc N b x
 |.or a b,e=>dBo e λh d x=>decide (h=.Or)&&dF sc N a d&&dF sc N b x
 |.ite c a b,e=>dIf e λc' d j=>dF sc N c c'&&dF sc N a d&&dF sc N b j
 |.idx a i,e=>dSu e λd r=> !BA r&&dF sc N a d&&dF sc N i r
 |.cut a lo hi,e=>dSu e λd s=>dSl s λl u t=>t.isNone&&dF sc N a d&&(chkO sc N lo l&&chkO sc N hi u)
 |.tup es,e=>dTu e λes'=>mr sc N es es'
 |.lst es,e=>dLi e λes'=>mr sc N es es'
 |.dic ps,e=>dDi e λks vs=>decide (ks.length<=15)&&chkP sc N ps ks vs
 |.call f es,e=>dFn e λk es'=>decide (f=k)&&j7 sc f&&rN f&&mr sc N es es'
 |.bfn b es,e=>dFn e λk es'=>decide (b.name=k)&&j7 sc k&& !es'.isEmpty&&mr sc N es es'
 |.meth1 m o a,e=>dMt m.name e λo' es=>l1 es λd=>baseOk o'&&dF sc N o o'&&dF sc N a d
 |.idxd a i,e=>dSu e λd r=> !BA r&&dF sc N a d&&dF sc N i r
 |.dicT,e=>dDi e λks vs=>ks.isEmpty&&vs.isEmpty
 |.setd o a b,e=>dMt (aQ "setdefault") e λo' es=>l2 es λd j=>baseOk o'&&dF sc N o o'&&(dF sc N a d&&dF sc N b j)
 |.base x es,e=>dMt (aQ "__init__") e λo es'=>dNm o λA _=>decide (x=A)&&j7 sc x&&rN x&&(decide (es.len<29)&& !es'.isEmpty&&mr sc N es es')
 |.fld a f,e=>dAt e λv k _=>dNm v λn np=>decide (f=k)&&dF sc N a (.Name n np)
 |.sortset a,e=>dFF "sorted" "set" sc e (dF sc N a)
 |.lrng a,e=>dFF "list" "range" sc e (dF sc N a)
 |.comp own fr tg it cond elt,e=>dLc e λz gs sc' _=>l1 gs λg=>decide (g.is_async=0)&&Bj sc sc' N own fr&& !isSet g.iter&&(chkI sc N it g.iter g.target&&yj sc' (namesOf N own fr) false tg g.target&&chkC sc' (namesOf N own fr) cond g.ifs&&dF sc' (namesOf N own fr) elt z)
noncomputable def mr(sc:Scope)(N:List Str):CL->List Expr->Bool
 |.nil,es=>es.isEmpty
 |.cons e r,es=>u1 es λa b=>dF sc N e a&&mr sc N r b
noncomputable def chkP(sc:Scope)(N:List Str):CP->List (Option Expr)->List Expr->Bool
 |.nil,ks,vs=>ks.isEmpty&&vs.isEmpty
 |.cons k v r,ks,vs=>u1 ks λa b=>u1 vs λc d=>om a λa=>dF sc N k a&&dF sc N v c&&chkP sc N r b d
noncomputable def chkO(sc:Scope)(N:List Str):CO->Option Expr->Bool
 |.no,o=>o.isNone
 |.yes e,o=>om o (dF sc N e)
noncomputable def chkC(sc:Scope)(N:List Str):CO->List Expr->Bool
 |.no,o=>o.isEmpty
 |.yes e,o=>l1 o (dF sc N e)
noncomputable def yj(sc:Scope)(N:List Str)(all:Bool):CG->Expr->Bool
 |.name i,e=>dNm e λx _=>N[i]? ==some x&&(sc.names.lookup x==some .local||sc.names.lookup x==some .cell)
 |.tup gs,e=>dTu e λes=>yi sc N all gs es
noncomputable def yi(sc:Scope)(N:List Str)(all:Bool):CGs->List Expr->Bool
 |.nil,es=>es.isEmpty
 |.cons g gs,es=>u1 es λa es'=>yj sc N all g a&&yi sc N all gs es'
noncomputable def chkI(sc:Scope)(N:List Str):CI->Expr->Expr->Bool
 |.seq e,d,_=>dF sc N e d
 |.lseq e,d,_=>dF sc N e d
 |.range1 e,x,_=>dFn x λf es=>l1 es λd=>decide (f="range")&&j7 sc f&&dF sc N e d
 |.range2 a b,x,_=>dFn x λf es=>l2 es λg h=>decide (f="range")&&j7 sc f&&dF sc N a g&&dF sc N b h
 |.enum e,x,tg'=>dFn x λf es=>l1 es λd=>decide (f="enumerate")&&j7 sc f&&dF sc N e d&&oH tg'
 |.zip3 a b c,x,tg'=>dFn x λf es=>u1 es λg r=>l2 r λh c'=>decide (f="zip")&&j7 sc f&&dF sc N a g&&(dF sc N b h&&dF sc N c c'&&oH tg')
 |.enumt e,x,tg'=>dFn x λf es=>l1 es λd=>decide (f="enumerate")&&j7 sc f&&dF sc N e d&&oH tg'
end
mutual
noncomputable def qb:CE->Bool
 |.var _=>true
 |.con _=>true
 |.glo _=>true
 |.ty _=>true
 |.lst es=>xO es
 |.tup es=>xO es
 |.bfn .isinstance es=>xO es
 |.bfn .isx es=>xO es
 |.fld a _=>qb a
 |.bin _ a b=>qb a&&qb b
 |.meth1 _ a b=>qb a&&qb b
 |_=>false
noncomputable def xO:CL->Bool
 |.nil=>true
 |.cons e es=>qb e&&xO es
end
abbrev HE:CE->Bool
 |.bfn .isx es=>xO es
 |_=>false
abbrev liteT:CE->Bool
 |.and a b=>HE a&&HE b
 |c=>HE c
mutual
noncomputable def liteS:CS->Bool
 |.asg (.name _) e=>qb e
 |.ret e=>qb e
 |.pass=>true
 |.expr e=>qb e
 |.iff c a b=>liteT c&&(DE a&&DE b)
 |_=>false
noncomputable def DE:CB->Bool
 |.nil=>true
 |.hole=>false
 |.cons s r=>liteS s&&DE r
end
abbrev isCe:CE->Bool
 |.comp .. =>true
 |_=>false
mutual
noncomputable def chkS(sc:Scope)(N:List Str):CS->Stmt->Bool
 |.asg g e,s=>dAs s λk h _=>yj sc N true g k&&dF sc N e h&& !xW h&& !(oH k&&oH h)
 |.asgc i e,s=>isCe e&&dAs s λg h _=>dNm g λx p=>dLc h λa b c d=>N[i]? ==some x&&(sc.names.lookup x==some .local||sc.names.lookup x==some .cell)&&dF sc N e (.ListComp a b c d)&&
   (sc.names.lookup x==some .cell||(decide (p.line=d.line)&& !(c.names.any λy=>decide (y.1=x)&&(decide (y.2=.local)||decide (y.2=.cell)))))
 |.expr e,s=>dEx s λh=>dF sc N e h&& !xW h
 |.iff c a b,s=>dIs s λc' r j=>dF sc N c c'&&qV sc N a r&&qV sc N b j
 |.forr g it b,s=>dFo s λk m j=>yj sc N true g k&&chkI sc N it m k&& !isSet m&&qV sc N b j
 |.ret e,s=>dRt s λo=>om o (dF sc N e)
 |.retN,s=>dRt s λo=>o.isNone
 |.rais x es,s=>dRa s λl es'=>decide (x=l)&&j7 sc x&&rN x&&(!es'.isEmpty&&mr sc N es es')
 |.raisX x es,s=>dRa s λl es'=>decide (x=l)&&j7 sc x&&rN x&&(!es'.isEmpty&&mr sc N es es')
 |.fldX o f e,s=>dAs s λg h _=>dAt g λo' t _=>decide (f=t)&&dF sc N o o'&&dF sc N e h&& !xW h
 |.tryc x i b su,s=>dTr s λj l n q=>decide (x=l)&&j7 sc x&&rN x&&(N[i]? ==some n&&sc.names.lookup n==some .local&&DE su)&&(!q.isEmpty&&qV sc N su q&&qV sc N b j)
 |.pass,s=>match s with
  |.Pass _=>true
  |_=>false
 |.brk,s=>match s with
  |.Break _=>true
  |_=>false
 |.cont,s=>match s with
  |.Continue _=>true
  |_=>false
noncomputable def qV(sc:Scope)(N:List Str):CB->List Stmt->Bool
 |.hole,_=>true
 |.nil,ss=>ss.isEmpty
 |.cons s r,ss=>u1 ss λs' a=>chkS sc N s s'&&qV sc N r a
end
structure Gam where
 val:Str->Option V
 fn:Str->Nat->Option (Sp×List V)
 ini:Str->Nat->Option (Addr×Sp×List V)
 dic:Addr->Option (List (Key×V))
 mak:Str->Nat->Option (Addr×Sp×List V)
 mth:Str->Nat->Option (Addr×Sp×List V)
def F8(K:ah)(tl:TE):TI:=λσ H R=>tl σ H λx H1=>(∃a,x=.ref a/\(∃xs,SqL K H1 a xs)/\R (Itl K a) H1)\/(∃a,x=.ref a/\(∃xs,SqT K H1 a xs)/\R (Itt K a) H1)\/(∃z,x=.str z/\R (Its z) H1)
def Cy(K:ah)(t:TE):TT:=λσ H Q=>t σ H λx H1=>∃k,TruV K x H1 k/\Q k H1
mutual
noncomputable def wpE(G:Gam)(K:ah)(E:XS):CE->TE
 |.var i=>qG i
 |.con c=>tC (cv c)
 |.glo x=>λσ H Q=>∃v,G.val x<*v/\Q v H
 |.ty t=>tC (.ty t.t)
 |.bin op a b=>tOp (nZ K op) (wpE G K E a) (wpE G K E b)
 |.un op a=>tUn (rUn K op) (wpE G K E a)
 |.cmp op a b=>tOp (gh K op) (wpE G K E a) (wpE G K E b)
 |.chain o1 o2 a b c=>wL (gh K o1) (gh K o2) (wpE G K E a) (wpE G K E b) (wpE G K E c)
 |.not a=>K1 (wpE G K E a)
 |.and a b=>K6 (wpE G K E a) (wpE G K E b)
 |.or a b=>tOrV (wpE G K E a) (wpE G K E b)
 |.ite c a b=>tIf (wpT G K E c) (wpE G K E a) (wpE G K E b)
 |.idx a i=>tOp (rIx K) (wpE G K E a) (wpE G K E i)
 |.cut a lo hi=>tSl (rSlc K) (wpE G K E a) (wpO G K E lo) (wpO G K E hi)
 |.tup es=>tTup (wpL G K E es)
 |.lst es=>tLst (wpL G K E es)
 |.dic ps=>λσ H Q=>(ps=.nil/\K4 σ H Q)\/(ps≠.nil/\tDisp (wpP G K E ps) σ H Q)
 |.call f es=>λσ H Q=>∃sp al,G.fn f es.len<*(sp,al)/\CD sp al (E σ) (wpL G K E es) σ H Q
 |.bfn b es=>tCB (rBf K b) (wpL G K E es)
 |.meth1 m o a=>tBM K "list" (rMm m) (wpE G K E o) (jy (wpE G K E a) rD)
 |.idxd a i=>tOp (rIxD K) (wpE G K E a) (wpE G K E i)
 |.dicT=>K3
 |.setd o a b=>tBM K "dict" He (wpE G K E o) (jy (wpE G K E a) (jy (wpE G K E b) rD))
 |.base x es=>λσ H Q=>∃B,G.val x<*(.ref B)/\tBase K B (wpL G K E es) σ H Q
 |.fld a f=>λσ H Q=>wpE G K E a σ H λx H1=>rFld K f x H1 Q
 |.lrng a=>tLRng (jy (wpE G K E a) rD)
 |.sortset a=>Cz K (jy (wpE G K E a) rD)
 |.comp own fr tg it cond elt=>wK (wpI G K E it) (wpG G K N0 tg) (wpC G K N0 cond) (wpE G K N0 elt) (mO own fr)
noncomputable def wpT(G:Gam)(K:ah)(E:XS):CE->TT
 |.cmp op a b=>wI (tOp (gh K op) (wpE G K E a) (wpE G K E b))
 |.chain o1 o2 a b c=>wI (wL (gh K o1) (gh K o2) (wpE G K E a) (wpE G K E b) (wpE G K E c))
 |.not a=>tNot (wpT G K E a)
 |.and a b=>tAnd (wpT G K E a) (wpT G K E b)
 |.or a b=>tOr (wpT G K E a) (wpT G K E b)
 |.ite _ _ _=>λ_ _ _=>False
 |.var i=>Cy K (qG i)
 |.con c=>Cy K (tC (cv c))
 |.glo x=>Cy K (λσ H Q=>∃v,G.val x<*v/\Q v H)
 |.idx a i=>Cy K (tOp (rIx K) (wpE G K E a) (wpE G K E i))
 |.call f es=>Cy K (λσ H Q=>∃sp al,G.fn f es.len<*(sp,al)/\CD sp al (E σ) (wpL G K E es) σ H Q)
 |.bfn b es=>Cy K (tCB (rBf K b) (wpL G K E es))
 |_=>λ_ _ _=>False
noncomputable def wpL(G:Gam)(K:ah)(E:XS):CL->TA
 |.nil=>rD
 |.cons e es=>jy (wpE G K E e) (wpL G K E es)
noncomputable def wpP(G:Gam)(K:ah)(E:XS):CP->List (TE×TE)
 |.nil=>[]
 |.cons k v r=>(wpE G K E k,wpE G K E v)::wpP G K E r
noncomputable def wpO(G:Gam)(K:ah)(E:XS):CO->TO
 |.no=>AK
 |.yes e=>K0 (wpE G K E e)
noncomputable def wpC(G:Gam)(K:ah)(E:XS):CO->TT
 |.no=>tYes
 |.yes e=>wpT G K E e
noncomputable def wpG(G:Gam)(K:ah)(E:XS):CG->TG
 |.name i=>iS i
 |.tup gs=>gTup K gs.len (wpGs G K E gs)
noncomputable def wpGs(G:Gam)(K:ah)(E:XS):CGs->TGs
 |.nil=>gNil
 |.cons g gs=>NA (wpG G K E g) (wpGs G K E gs)
noncomputable def wpI(G:Gam)(K:ah)(E:XS):CI->TI
 |.seq e=>F8 K (wpE G K E e)
 |.lseq e=>Nr K (wpE G K E e)
 |.range1 e=>Nq (jy (wpE G K E e) rD)
 |.range2 a b=>Np (jy (wpE G K E a) (jy (wpE G K E b) rD))
 |.enum e=>Nu K (wpE G K E e)
 |.zip3 a b c=>iZip3 K (jy (wpE G K E a) (jy (wpE G K E b) (jy (wpE G K E c) rD)))
 |.enumt e=>F7 K (jy (wpE G K E e) rD)
end
mutual
noncomputable def wpS(G:Gam)(K:ah)(E:XS):CS->TS
 |.asg g e=>nU (wpE G K E e) (wpG G K E g)
 |.asgc i e=>nU (wpE G K E e) (iS i)
 |.expr e=>K2 (wpE G K E e)
 |.iff c a b=>tIfS (wpT G K E c) (wpB G K E a) (wpB G K E b)
 |.forr g it b=>tFor (wpI G K E it) (wpG G K E g) (wpB G K E b)
 |.ret e=>tRet (wpE G K E e)
 |.retN=>KZ
 |.rais x es=>λD σ H=>∃C,G.val x<*(.ref C)/\cj K (.ref C)=true/\PySem.W.excIn K C bmV "ValueError.__new__"=true/\wpL G K E es σ H λvs H1=>vs.length<=sizeLine/\E σ (.ref C) none H1
 |.raisX x es=>λD σ H=>∃C sp al,G.ini x es.len<*(C,sp,al)/\Ly C sp al E (wpL G K E es) D σ H
 |.fldX o f e=>sFldX K (wpE G K E o) (wpE G K E e) f
 |.tryc x i b su=>λD σ H=>∃C,G.val x<*(.ref C)/\wpB G K (oN K C i (wpB G K N0 su) D) b D σ H
 |.pass=>CA
 |.brk=>K5
 |.cont=>tCont
noncomputable def wpB(G:Gam)(K:ah)(E:XS):CB->TS
 |.nil=>CA
 |.hole=>λ_ _ _=>False
 |.cons s r=>lG (wpS G K E s) (wpB G K E r)
end
noncomputable abbrev Sat(G:Gam)(K:ah)(sp:Sp)(c:CB)(N:List Str):Prop:=∀vs H Q E,sp vs H Q E->wpB G K (λ_=>E) c {nx:=λ_ H'=>Q .non H',rt:=Q} (L2.start N vs) H
abbrev jF:List Str:=["len","isinstance","all","any","list","tuple","int","bool","str","dict","range","enumerate","sorted","set","min","max","ValueError","sum","zip","reversed"]
structure Ok(CX:CXT)(G:Gam)(E:XS)(sc:Scope)(N:List Str)(all:Bool)(X:Cx):Prop where
 names:X.N=N
 top:all=true->X.stack=X.env::X.outer/\X.env.frame<*X.env.locals/\X.ex=[]
 nd:N.Nodup
 loc:∀x,sc.names.lookup x<*.local->X.env.scope.names.lookup x<*.local
 cel:∀x,sc.names.lookup x<*.cell->X.env.scope.names.lookup x<*.cell
 fre:∀x,sc.names.lookup x<*.free->X.env.scope.names.lookup x<*.cell\/X.env.scope.names.lookup x<*.free
 glo:∀x,sc.names.lookup x<*.globalImplicit->X.env.scope.names.lookup x<*.globalImplicit
 all:all=true->∀x,X.fn x=true
 own:∀x,sc.names.lookup x<*.cell->X.fn x=true
 calm:X.calm=true
 hu:X.A.units+50<cLine
 val:∀x v,G.val x<*v->∃u,X.mg x<*u/\RelV v u
 fn:∀x n sp al,G.fn x n<*(sp,al)->∃f fd ps ds k,jG X.prog X.w X.K X.mg X.base CX k f fd ps sp/\jm k X.A/\X.mg x<*(.ref f)/\cj X.K (.ref f)=true/\Binds X.K fd ps ds/\bS al ds
 ini:∀x n C sp al,G.ini x n<*(C,sp,al)->∃f fd ps ds k,MkX X.K C f/\jG X.prog X.w X.K X.mg X.base CX k f fd ps sp/\jm (k+1) X.A/\X.mg x<*(.ref C)/\Binds X.K fd ps ds/\bS al ds
 dic:∀a kvs,G.dic a<*kvs->DkIn X.prog X.w X.K a kvs
 mak:∀x n C sp al,G.mak x n<*(C,sp,al)->∃f fd ps ds k,Mk X.K C f/\jG X.prog X.w X.K X.mg X.base CX k f fd ps sp/\jm (k+1) X.A/\X.mg x<*(.ref C)/\Binds X.K fd ps ds/\bS al ds
 mth:∀m n C sp al,G.mth m n<*(C,sp,al)->∃f fd ps ds k,Cls X.K C/\Meth X.K C m f/\jG X.prog X.w X.K X.mg X.base CX k f fd ps sp/\jm k X.A/\Binds X.K fd ps ds/\bS al ds
 blt:∀x∈jF,X.mg x=none
 px:PassesOwn (model X.prog X.w) X.A X.env X.xe
 pass:As CX X E
 made:MadeS X E
 madeX:GJ X E
 cx:CX=CXx X.prog X.w
def Bf.mem:∀b:Bf,b.name∈jF:=by intro b;cases b<;>decide+kernel
def Ty.mem:∀b:Ty,b.name∈jF:=by intro b;cases b<;>decide+kernel
section
variable {CX:CXT}{G:Gam}{E:XS}{N:List Str}{all:Bool}
def Ok.vis(o:Ok CX G E sc N all X){x:Str}(h:DH sc x=true):Vis X.env.scope x:=by
 unfold DH at h;rw[cJ,cJ,beq_iff_eq,beq_iff_eq,beq_iff_eq]at h;rcases h with(h|h) |h;·exact .inl (o.loc x h)
 .exact .inr (.inl (o.cel x h))
 .rcases o.fre x h with q|q;·exact .inr (.inl q)
  .exact .inr (.inr q)
def Ok.gl(o:Ok CX G E sc N all X){x:Str}(h:j7 sc x=true):Gl X x:=by unfold j7 at h;rw[beq_iff_eq]at h;exact o.glo x h
def gX{x:Str}(h:rN x=true):(x==("__debug__":Str))=false/\(x==("__classdict__":Str))=false:=by unfold rN at h;rw[az,beq_iff_eq,beq_iff_eq]at h;exact h
def Hi:∀a,OpR X (eV a) (nZ X.K a)
 |.Add=>op_add.or (FG.or (op_cat.or (op_catT.or op_cat0)))
 |.Sub=>op_sub
 |.Mult=>op_mul.or (op_rep.or op_repS)
 |.Mod=>op_mod
 |.FloorDiv=>op_fdiv
 |.Pow=>op_pow
 |.RShift=>op_shr
 |.MatMult=>λ_ _ _ _ _ _ _ _ _ _ _ _ h=>h.elim
 |.Div=>λ_ _ _ _ _ _ _ _ _ _ _ _ h=>h.elim
 |.LShift=>op_shl
 |.BitOr=>λ_ _ _ _ _ _ _ _ _ _ _ _ h=>h.elim
 |.BitXor=>op_xor
 |.BitAnd=>op_and
def pD(b:X.A.units+50<cLine):∀a,OpR X (cZ a) (gh X.K a)
 |.Eq=>op_eqD 'D'
 |.NotEq=>op_neD 'D'
 |.Lt=>op_lt.or op_ltS
 |.LtE=>op_le
 |.Gt=>op_gt
 |.GtE=>op_ge
 |.Is=>op_isN
 |.IsNot=>op_notN
 |.In=>(Jm.or (op_inD 'D')).or Jn
 |.NotIn=>(Bh.or (Jl 'D')).or Bi
def rUn_ok:∀a,UnR X (unaryOp a) (rUn X.K a)
 |.USub=>un_neg
 |.Not=>λ_ _ _ _ _ _ _ _ _ h=>h.elim
 |.UAdd=>λ_ _ _ _ _ _ _ _ _ h=>h.elim
 |.Invert=>λ_ _ _ _ _ _ _ _ _ h=>h.elim
def rSlc_ok:SlR X (rSlc X.K):=sl_list.or sl_str
def rBf_ok(a:X.calm=true)(c:X.A.units+50<cLine):∀b,fA X (Bf.val b) (rBf X.K b)
 |.len=>BW.or (BV.or Q.zq)
 |.isinstance=>u9.or sN
 |.all=>Oc a
 |.any=>Ob a
 |.list=>BU
 |.tuple=>zo
 |.set=>Q.JP a
 |.sum=>N9 a
 |.int=>JU
 |.lend=>D9
 |.sorti=>Q.BS
 |.sortl=>Q.BR
 |.sortt=>Q.BQ 'D'
 |.minl=>Q.JQ a 'D'
 |.maxl=>Q.JS a 'D'
 |.isx=>sM
def Mm.slot:∀m:Mm,Slot "list" m.name m.id
 |.append=>PySem.F.slot_list_append|.clear=>PySem.F.slot_list_clear|.reverse=>PySem.F.slot_list_reverse|.pop=>PySem.F.slot_list_pop|.index=>PySem.F.slot_list_index|.extend=>PySem.F.slot_list_extend
def Mm.ty:∀m:Mm,typeOf (.builtin m.id)=pure (.type "method_descriptor")
 |.append=>PySem.F.type_list_append|.clear=>PySem.F.type_list_clear|.reverse=>PySem.F.type_list_reverse|.pop=>PySem.F.type_list_pop|.index=>PySem.F.type_list_index|.extend=>PySem.F.type_list_extend
def LU:∀m:Mm,MtR X m.id (rMm m)
 |.append=>Ju|.clear=>λ_ _ _ _ _ _ _ _ _ _ _ _ h=>h.elim|.reverse=>λ_ _ _ _ _ _ _ _ _ _ _ _ h=>h.elim|.pop=>MtR.or (r:=λ_ _ _ _=>False) (λ_ _ _ _ _ _ _ _ _ _ _ _ h=>h.elim) ML|.index=>λ_ _ _ _ _ _ _ _ _ _ _ _ h=>h.elim|.extend=>Jt
def BZ(h:baseOk o=true)(nm:Str)(env:Env)(t:Sem Value):OI o nm env t=t:=by
 cases o<;>first
  |rfl
  |exact dk h
  | (rename_i f es ks p;cases f<;>first
   |rfl
   |exact dk h)
def bJ{c:CE}(h:dF sc N c e=true)(a:List Expr)(env:Env):bf (e::a) env=(false,eval e env)::bf a env:=by
 cases e<;>first
  |rfl
  | (cases c<;>exact dk h)
def kA{c:CE}{r:CL}{e:List Expr}(h:mr sc N (.cons c r) e=true):∃b d,e=b::d/\dF sc N c b=true/\mr sc N r d=true:=
 let⟨b,d,a,k⟩:=wC h
 (b,d,a,an k,)
def mq{a:List Expr}(h:mr sc N .nil a=true):a=[]:=nil_of h
theorem qU:∀{l:CL}{es:List Expr},mr sc N l es=true->∀(env:Env)(pos:Pos),(backTo pos (bf es env)).any (·.1)=false
 |.nil,es,h,env,pos=>by rw[mq h];rfl
 |.cons c r,es,h,env,pos=>by obtain⟨e,d,rfl,a,b⟩:=kA h;rw[bJ a];show(false||(backTo pos (bf d env)).any (·.1))=false;rw[qU b];rfl
def CM{l:CL}{a:List Expr}(h:mr sc N l a=true)(g:(!a.isEmpty)=true):∃e es',a=e::es'/\∀(env:Env)(pos:Pos),bf (e::es') env=(false,eval e env)::bf es' env/\(backTo pos (bf es' env)).any (·.1)=false:=by
 cases l with
 |nil=>obtain rfl:=mq h;exact dk g
 |cons c r=>obtain⟨b,i,rfl,d,f⟩:=kA h;exact(b,i,rfl,λenv pos=>(bJ d _ _,qU f _ _,),)
theorem D5:∀{l:CL}{es:List Expr},mr sc N l es=true->es.length=l.len
 |.nil,es,h=>by rw[mq h];rfl
 |.cons c r,es,h=>by obtain⟨b,e,rfl,d,a⟩:=kA h;rw[aU,D5 a,CL.len]
def Bm(h:isSet e=false)(env:Env):∀x,ki e env x=pure x:=by
 intro x;cases e<;>first
  |rfl
  | (exact MC h)
def pH(h:isSet e=false)(op:CmpOp):OH op e=false:=by
 cases e<;>first
  |rfl
  | (exact MC h)
def C6(h:BA e=false):Ir e:=by
 intro o i;cases e<;>first
  |rfl
  | (exact MC h)
def rR(h:xW e=false)(t:Option Expr)(l:Nat)(env:Env):qZ e t l env=pure false:=by
 cases e<;>first
  |rfl
  | (exact MC h)
def pt_tru{t:TE}(h:PE X e t)(b:∀a,isTrue e X.env a=(do let v<-a;Iu e.pos;holding [v] (truthy v))):PT X e (Cy X.K t):=kF h b
def pi_any{l:Expr}{k:TE}(m:PE X l k):PI X tg l (F8 X.K k):=by
 intro r s y H R I h;refine thn (m r s y H _ I h) λv c ⟨x,g,d,i,q1⟩=>?_;have A:∀{B:TE}{C:TI},True:=λ{_ _}=>trivial;rcases q1 with q1|q1|q1
 .obtain⟨a,e,⟨w,hq⟩,q⟩:=q1;subst e;cases i;obtain⟨j,u,p,n⟩:=d.list hq;refine j9 p.isList ?_;refine(⇑c,[⇑c],_,_,g,rfl,d.kept (t':=c.toks) λb o e=>af _ e,zx a _,(_,av _ rfl,rfl,rfl,),λb f=>?_,q,);have e:b=⇑c:=by simpa using f
  subst e;exact d.ze (ay _) (d.hok.fresh (ay _))
 .obtain⟨a,e,⟨w,hq⟩,q⟩:=q1;subst e;cases i;obtain⟨j,u,p,n⟩:=d.tuple hq;refine eR (show c.heap.IsTuple a j.toArray from p) ?_;refine(⇑c,[⇑c],_,_,g,rfl,d.kept (t':=c.toks) λb o e=>af _ e,EV a _,(_,av _ rfl,rfl,rfl,),λb f=>?_,q,);have e:b=⇑c:=by simpa using f
  subst e;exact d.ze (ay _) (d.hok.fresh (ay _))
 .obtain⟨z,e,q⟩:=q1;subst e;obtain⟨t,rfl⟩:=i;refine wpAny_pyIter_strU ?_;refine(⇑c,[⇑c],_,_,g,rfl,d.kept (t':=c.toks) λb o e=>af _ e,KN z _ t,(_,av _ rfl,rfl,rfl,),λb f=>?_,q,);have e:b=⇑c:=by simpa using f
  subst e;exact d.ze (ay _) (d.hok.fresh (ay _))
end
set_option maxHeartbeats 4000000
section
variable {CX:CXT}{G:Gam}
structure pO(sc sc':Scope)(N own:List Str)(fr:List Nat):Prop where
 kind:sc'.kind=.function
 cellk:∀y∈sc'.names,y.2=.cell->sc'.names.lookup y.1<*.cell
 own1:∀y∈sc'.names,y.2=.local->sc'.names.lookup y.1<*.local
 free:∀y∈sc'.names,y.2=.free->sc.names.lookup y.1<*.cell\/sc.names.lookup y.1<*.free
 nd:(namesOf N own fr).Nodup
 fr:∀j∈fr,j<N.length/\sc'.names.lookup (N.getD j "")<*.free
 own2:∀x∈own,sc'.names.lookup x<*.local\/sc'.names.lookup x<*.cell
def wY{own:List Str}{fr:List Nat}(h:Bj sc sc' N own fr=true):pO sc sc' N own fr:=by unfold Bj at h;simp only[az,bj,decide_eq_true_eq,beq_iff_eq,cJ]at h;obtain⟨⟨⟨⟨⟨⟨a,b⟩,c⟩,d⟩,e⟩,f⟩,g⟩:=h;exact(a,b,c,d,e,f,g,)
def pO.comp{E:XS}{own:List Str}{fr:List Nat}{all:Bool}(S:pO sc sc' N own fr)(o:Ok CX G E sc N all X):pP X (namesOf N own fr) sc':=
 ⟨S.kind,S.cellk,S.own1,λy a hf=>by
  rcases S.free y a hf with q|q;·exact .inl (o.cel _ q)
  .exact o.fre _ q⟩
def pO.mkOk{E:XS}{own:List Str}{fr:List Nat}{all:Bool}(S:pO sc sc' N own fr)(o:Ok CX G E sc N all X):MkOk X (namesOf N own fr) sc' (mO own fr):=by
 intro e g;refine(by simp[mO,namesOf],λi x v b a=>?_,);unfold mO at a;unfold namesOf at b;by_cases hi:i<own.length
 .rw[fB ↥hi,ax]at a;cases q:own[i]? with
  |none=>rw[q]at a;cases a
  |some z=>rw[q]at a;cases a
 .rw[dg ↥hi,ax,ai]at a;rw[dg ↥hi,ax]at b;cases q:fr[i-own.length]? with
  |none=>rw[q]at a;cases a
  |some j=>
   rw[q]at b a;have d:N.getD j ""=x:=bo b;have c:(e[j]?).getD none<*v:=bo a;obtain⟨f,hf⟩:=S.fr j (aH q);refine(by rw[<-d];exact hf,j,?_,?_,);·rw[o.names,<-d,ag,ae f];rfl
   .cases w:e[j]? with
    |none=>rw[w]at c;cases c
    |some z=>rw[w]at c;exact congrArg some c
noncomputable abbrev HX(CX:CXT):Prop:=∀o H s e s',CX o H s E0 e s'->False
def Ok.comp{E:XS}{own:List Str}{fr:List Nat}{all:Bool}(c:HX CX)(S:pO sc sc' N own fr)(o:Ok CX G E sc N all X)(C:Addr)(d:Shared)(a:Hp)(b:List Addr):
  Ok CX G N0 sc' (namesOf N own fr) false (dZ X (namesOf N own fr) sc' C d a b) where
 names:=rfl
 nd:=S.nd
 loc:=λx h=>lookup_relabel_local (env:=X.env) h
 cel:=λx h=>gC (env:=X.env) h 'E'
 own:=λx h=>bQ.mpr ⟨(x,.cell),bB h,'F'⟩
 fre:=λx h=>(gP (env:=X.env) h).symm
 glo:=λx h=>gC (env:=X.env) h 'E'
 all:=λh=>absurd h 'E'
 calm:=o.calm
 hu:=o.hu
 val:=o.val
 fn:=o.fn
 ini:=o.ini
 dic:=o.dic
 mak:=o.mak
 mth:=o.mth
 blt:=o.blt
 px:=PassesOwn.never
 pass:=λ_ _ _ _ _ _ _ h=>(c _ _ _ _ _ h).elim
 made:=λ_ _ _ _ _ _ _ _ _ _ h=>h.elim
 madeX:=λ_ _ _ _ _ _ _ _ _ h=>h.elim
 cx:=o.cx
 top:=λh=>absurd h 'E'
def rP{all:Bool}{g:CG}(h:yj sc N all g e=true)(a:List Expr)(env:Env):iI (e::a) env=(false,assign e env)::iI a env:=by
 cases e<;>first
  |rfl
  | (cases g<;>exact dk h)
def yh{all:Bool}{g:CG}{r:CGs}{d:List Expr}(h:yi sc N all (.cons g r) d=true):∃b c,d=b::c/\yj sc N all g b=true/\yi sc N all r c=true:=
 let⟨b,c,a,k⟩:=wC h
 (b,c,a,an k,)
def z8{all:Bool}{a:List Expr}(h:yi sc N all .nil a=true):a=[]:=nil_of h
theorem u7{all:Bool}:∀{gs:CGs}{es:List Expr},yi sc N all gs es=true->∀env,(iI es env).length=gs.len/\(iI es env).findIdx? (·.1)=none
 |.nil,es,h,env=>by rw[z8 h];exact(rfl,rfl,)
 |.cons g r,es,h,env=>by obtain⟨e,f,rfl,c,d⟩:=yh h;obtain⟨a,b⟩:=u7 d env;rw[rP c];refine(by rw[aU,a,CGs.len],?_,);rw[List.findIdx?_cons];simp[b]
end
section
variable {CX:CXT}{G:Gam}
noncomputable abbrev IHE(CX:CXT)(G:Gam)(c:CE):Prop:=∀(e:Expr){E:XS}{sc:Scope}{N:List Str}{all:Bool}{X:Cx},Ok CX G E sc N all X->dF sc N c e=true->PE X e (wpE G X.K E c)
noncomputable abbrev IHT(CX:CXT)(G:Gam)(c:CE):Prop:=∀(e:Expr){E:XS}{sc:Scope}{N:List Str}{all:Bool}{X:Cx},Ok CX G E sc N all X->dF sc N c e=true->PT X e (wpT G X.K E c)
abbrev isBo:Expr->Bool
 |.BoolOp .. =>true
 |_=>false
def isBo_of(h:isBo e=true):∃a es p,e=.BoolOp a es p:=by
 cases e<;>first
  |exact⟨_,_,_,rfl⟩
  |exact dk h
noncomputable abbrev IHW(CX:CXT)(G:Gam)(c:CE):Prop:=∀(e:Expr){E:XS}{sc:Scope}{N:List Str}{all:Bool}{X:Cx},Ok CX G E sc N all X->dF sc N c e=true->isBo e=true->PW X e (wpT G X.K E c)
noncomputable abbrev IHL(CX:CXT)(G:Gam)(c:CL):Prop:=∀(es:List Expr){E:XS}{sc:Scope}{N:List Str}{all:Bool}{X:Cx},Ok CX G E sc N all X->mr sc N c es=true->PA X es (wpL G X.K E c)
noncomputable abbrev IHP(CX:CXT)(G:Gam)(c:CP):Prop:=∀(ks:List (Option Expr))(vs:List Expr){E:XS}{sc:Scope}{N:List Str}{all:Bool}{X:Cx},Ok CX G E sc N all X->chkP sc N c ks vs=true->∀pos,
  PPs X pos ks vs (wpP G X.K E c)/\ks.all (·.isSome)=true/\ks.length=vs.length/\(c≠.nil->ks≠[])
noncomputable abbrev IHO(CX:CXT)(G:Gam)(c:CO):Prop:=∀(e:Option Expr){E:XS}{sc:Scope}{N:List Str}{all:Bool}{X:Cx},Ok CX G E sc N all X->chkO sc N c e=true->PO X e (wpO G X.K E c)
noncomputable abbrev IHC(CX:CXT)(G:Gam)(c:CO):Prop:=∀(es:List Expr){E:XS}{sc:Scope}{N:List Str}{all:Bool}{X:Cx},Ok CX G E sc N all X->chkC sc N c es=true->PTs X es (wpC G X.K E c)
noncomputable abbrev IHG(CX:CXT)(G:Gam)(c:CG):Prop:=∀(e:Expr){E:XS}{sc:Scope}{N:List Str}{all:Bool}{X:Cx},Ok CX G E sc N all X->yj sc N all c e=true->PG X e (wpG G X.K E c)
noncomputable abbrev OA(CX:CXT)(G:Gam)(c:CGs):Prop:=∀(es:List Expr){E:XS}{sc:Scope}{N:List Str}{all:Bool}{X:Cx},Ok CX G E sc N all X->yi sc N all c es=true->PGs X es (wpGs G X.K E c)
noncomputable abbrev IHI(CX:CXT)(G:Gam)(c:CI):Prop:=∀(e tg:Expr){E:XS}{sc:Scope}{N:List Str}{all:Bool}{X:Cx},Ok CX G E sc N all X->chkI sc N c e tg=true->PI X tg e (wpI G X.K E c)
def LD:IHE CX G (.var i):=by intro e E g N all X o h;obtain⟨x,p,rfl,k⟩:=gR h;obtain⟨c,d,f⟩:=gS k;obtain⟨a,b⟩:=gX f;exact Md (by rw[o.names];exact beq_iff_eq.mp c) (o.vis d) a b
def LI{c:Const}:IHE CX G (.con c):=by
  intro e E g N all X o h;obtain⟨f,j,p,rfl,k⟩:=Gj h;obtain⟨a,d⟩:=an k;cases W0 d;cases c with
  |none=>exact Mj
  |bool b=>exact pe_bl
  |int i=>exact Mn
  |str x=>exact Mf
  |_=>exact dk a
def LH{x:Str}:IHE CX G (.glo x):=by intro e E l N all X o h;obtain⟨y,p,rfl,k⟩:=gR h;obtain⟨a,b,c⟩:=gS k;cases W0 a;intro i s j H Q I g;obtain⟨v,f,q⟩:=g;obtain⟨u,d,r⟩:=o.val _ _ f;exact Hn (o.gl b) d r (gX c).1 i s j H Q I q
def sE_ty{t:Ty}:IHE CX G (.ty t):=by intro e E c N all X o h;obtain⟨y,p,rfl,k⟩:=gR h;obtain⟨a,b⟩:=an k;cases W0 a;exact Hq (o.gl b) (o.blt _ t.mem) t.boot rfl t.plain.1 t.plain.2
def sE_bin{op:Operator}{a b:CE}(g:IHE CX G a)(i:IHE CX G b):IHE CX G (.bin op a b):=by intro e E n N all X o h;obtain⟨j,m,l,p,rfl,k⟩:=N1 h;obtain⟨c,d,f⟩:=gS k;cases W0 c;exact pe_op (Hi op) (g _ o d) (i _ o f)
def sE_un{op:UnaryOp}{a:CE}(d:IHE CX G a):IHE CX G (.un op a):=by intro e E i N all X o h;obtain⟨g,f,p,rfl,k⟩:=Ge h;obtain⟨b,c⟩:=an k;cases W0 b;exact pe_un (rUn_ok op) (d _ o c)
def sE_cmp{op:CmpOp}{a b:CE}(i:IHE CX G a)(j:IHE CX G b):IHE CX G (.cmp op a b):=by intro e E q N all X o h;obtain⟨l,n,m,p,rfl,c,k⟩:=NZ h;obtain⟨d,f,g⟩:=gS k;cases W0 d;exact pe_cmpR (pD o.hu op) (i _ o f) (j _ o g) (pH c op)
def LJ{f d:CmpOp}{a b c:CE}(t:IHE CX G a)(u:IHE CX G b)(v:IHE CX G c):IHE CX G (.chain f d a b c):=by intro e E D N all X o h;obtain⟨w,A,z,p,rfl,k⟩:=Gk h;obtain⟨B,C,rfl,l⟩:=xR k;obtain⟨x,y,rfl,m⟩:=xR l;obtain⟨g,i,j,n⟩:=kT m;obtain⟨q,r,s⟩:=gS n;cases W0 g;cases W0 i;exact Mr (pD o.hu f) (pD o.hu d) (t _ o q) (u _ o r) (v _ o s) (pH (qL j) d)
def sE_not{a:CE}(d:IHE CX G a):IHE CX G (.not a):=by intro e E i N all X o h;obtain⟨g,f,p,rfl,k⟩:=Ge h;obtain⟨b,c⟩:=an k;cases W0 b;exact pe_not (d _ o c)
def sE_and{a b:CE}(f:IHE CX G a)(g:IHE CX G b):IHE CX G (.and a b):=by
  intro e E s N all X o h;obtain⟨q,j,x,p,k,m⟩:=qR h;obtain⟨i,c,d⟩:=gS k;cases W0 i;rcases m with rfl|⟨l,n,r,rfl,rfl⟩;·exact Mx (f _ o c) (Mi (g _ o d))
  .exact Mx (f _ o c) (g _ o d)
def sE_or{a b:CE}(f:IHE CX G a)(g:IHE CX G b):IHE CX G (.or a b):=by
  intro e E s N all X o h;obtain⟨q,j,x,p,k,m⟩:=qR h;obtain⟨i,c,d⟩:=gS k;cases W0 i;rcases m with rfl|⟨l,n,r,rfl,rfl⟩;·exact pe_or (f _ o c) (Mi (g _ o d))
  .exact pe_or (f _ o c) (g _ o d)
def sE_ite{c a b:CE}(l:IHT CX G c)(i:IHE CX G a)(j:IHE CX G b):IHE CX G (.ite c a b):=by intro e E r N all X o h;obtain⟨q,m,n,p,rfl,k⟩:=dIf_of h;obtain⟨d,f,g⟩:=gS k;exact Mo (l _ o d) (i _ o f) (j _ o g)
def LG{a i:CE}(f:IHE CX G a)(g:IHE CX G i):IHE CX G (.idx a i):=by intro e E m N all X o h;obtain⟨j,l,p,rfl,k⟩:=BJ h;obtain⟨b,c,d⟩:=gS k;exact pe_ix ix_seq (f _ o c) (g _ o d) (C6 (qL b))
def sE_cut{a:CE}{lo hi:CO}(g:IHE CX G a)(j:IHO CX G lo)(i:IHO CX G hi):IHE CX G (.cut a lo hi):=by intro e E v N all X o h;obtain⟨q,s,p,rfl,k⟩:=BJ h;obtain⟨l,u,t,r,rfl,m⟩:=dSl_of k;obtain⟨b,c,n⟩:=gS m;obtain⟨d,f⟩:=an n;cases hU.mp b;exact Mh rSlc_ok (g _ o c) (j _ o d) (i _ o f)
def sE_tup{a:CL}(b:IHL CX G a):IHE CX G (.tup a):=by intro e E d N all X o h;obtain⟨c,j,p,rfl,k⟩:=Gf h;exact Me (b _ o k)
def sE_lst{a:CL}(b:IHL CX G a):IHE CX G (.lst a):=by intro e E d N all X o h;obtain⟨c,p,rfl,k⟩:=NT h;exact Ml (b _ o k)
def sE_dic{ps:CP}(l:IHP CX G ps):IHE CX G (.dic ps):=by
  intro e E v N all X o h;obtain⟨m,u,p,rfl,k⟩:=NX h;obtain⟨g,c⟩:=an k;intro d s f H Q I a;rcases a with⟨b,a⟩ |⟨b,a⟩;·subst b;obtain⟨i,j⟩:=an c;obtain rfl:=nil_of i;obtain rfl:=nil_of j;exact Mq d s f H Q I a
  .obtain⟨n,q,r,t⟩:=l m u o c p;exact pe_disp n q r (t b) (W0 g) d s f H Q I a
def G8{f:Str}{b:CL}(x:IHL CX G b):IHE CX G (.call f b):=by
  intro e E K N all X o h;obtain⟨A,D,u,p,rfl,k⟩:=iU h;obtain⟨v,d,g,c⟩:=kT k;cases W0 v;intro r s t H Q I a;obtain⟨L,z,hf,a⟩:=a;obtain⟨B,C,J,y,k,F,n,m,l,i,j⟩:=o.fn _ _ _ _ hf;cases u with
  |nil=>
   cases b with
   |nil=>exact Jh F n (o.gl d) m l i j o.pass (gX g).1 r s t H Q I a
   |cons=>exact dk c
  |cons e1 r1=>have w:=x _ o c;obtain⟨_,_,e,q⟩:=CM c rfl;cases e;exact Ms F n (o.gl d) m l i j o.pass w (gX g).1 (q _ p).1 (q _ _).2 r s t H Q I a
def Bf.kind:∀b:Bf,(∃n,b.val=.builtin n)\/∃n,b.val=.type n:=by intro b;cases b<;>first |exact .inl ⟨_,rfl⟩ |exact .inr ⟨_,rfl⟩
def Mw{b:Bf}{a:List Expr}{t:TA}{l:CL}(c:fA X b.val (rBf X.K b))(i:Gl X b.name)(j:X.mg b.name=none)(g:PA X a t)(k:(!a.isEmpty)=true)(h:mr sc N l a=true):PE X (.Call (.Name b.name np) a [] pos) (tCB (rBf X.K b) t):=by
 obtain⟨e,m,rfl,d⟩:=CM h k;have f:=b.boot;rcases b.kind with⟨n,q⟩ |⟨n,q⟩;·rw[q]at c f;exact Mu c i j f g b.plain.1 b.plain.2 (d _ pos).1 (d _ _).2
 .rw[q]at c f;exact Jg c i j f g b.plain.1 b.plain.2 (d _ pos).1 (d _ _).2
def LK{b:Bf}{a:CL}(i:IHL CX G a):IHE CX G (.bfn b a):=by intro e E n N all X o h;obtain⟨l,m,j,p,rfl,k⟩:=iU h;obtain⟨d,f,g,c⟩:=kT k;cases W0 d;exact Mw (rBf_ok o.calm o.hu b) (o.gl f) (o.blt _ b.mem) (i _ o c) g c
def LF{m:Mm}{b a:CE}(j:IHE CX G b)(i:IHE CX G a):IHE CX G (.meth1 m b a):=by intro e E t N all X o h;obtain⟨s,p,r,q,rfl,d,k⟩:=BK h;obtain⟨n,rfl,l⟩:=kK k;obtain⟨f,g,c⟩:=gS l;exact Mv Co m.slot m.ty (LU m) (j _ o g) (fo (i _ o c) jg (bJ c _ _)) (BZ f _ _ _) (by rw[bJ c];rfl) d (bJ c _ _) rfl
def sE_idxd{a i:CE}(f:IHE CX G a)(g:IHE CX G i):IHE CX G (.idxd a i):=by intro e E m N all X o h;obtain⟨j,l,p,rfl,k⟩:=BJ h;obtain⟨b,c,d⟩:=gS k;exact pe_ix (ix_dict (by have :=o.hu;lia)) (f _ o c) (g _ o d) (C6 (qL b))
def sE_dicT:IHE CX G .dicT:=by intro e E d N all X o h;obtain⟨c,f,p,rfl,k⟩:=NX h;obtain⟨a,b⟩:=an k;obtain rfl:=nil_of a;obtain rfl:=nil_of b;exact Mp
def sE_setd{b a c:CE}(p:IHE CX G b)(n:IHE CX G a)(q:IHE CX G c):IHE CX G (.setd b a c):=by intro e E x N all X o h;obtain⟨w,s,v,u,rfl,g,k⟩:=BK h;obtain⟨r,t,rfl,l⟩:=xR k;obtain⟨i,j,m⟩:=gS l;obtain⟨d,f⟩:=an m;exact Mv PySem.F.plainAttrs_dict yK PySem.F.type_dict_setdefault (Js (by have :=o.hu;lia)) (p _ o j) (fo (n _ o d) (fo (q _ o f) jg (bJ f _ _)) (bJ d _ _)) (BZ i _ _ _) (by rw[bJ d,bJ f];rfl) g (bJ d _ _) (by rw[bJ f];rfl)
def N6{l:CL}{a:List Expr}(h:mr sc N l a=true)(d:l.len<29)(env:Env)(b:Pos):((backTo b (bf a env)).all (λx=> !x.1)&&(Ca b (pR [] env)).all (λx=>x.1.isSome)
   &&decide (a.length+([]:List Keyword).length+(if([]:List Keyword).isEmpty then 0 else 1)<30))=true:=by
 have c:=qU h env b;rw[az,az];refine((?_,rfl,),?_,);·rw[List.any_eq_false]at c;exact bj.mpr λx e=>by simpa using c x e
 .rw[decide_eq_true_eq,D5 h];exact gu d 'E'
def sE_base{x:Str}{c:CL}(z:IHL CX G c):IHE CX G (.base x c):=by intro e E M N all X o h;obtain⟨L,F,J,b,rfl,f,k⟩:=BK h;obtain⟨O,K,rfl,l⟩:=gR k;obtain⟨g,i,j,m⟩:=kT l;obtain⟨n,p,a⟩:=gS m;cases W0 g;intro A s D H Q I y;obtain⟨B,w,q⟩:=y;obtain⟨u,v,C⟩:=o.val _ _ w;obtain rfl:u=bD B:=C;have t:=z _ o a;have r:=N6 a (W0 n) X.env b;obtain⟨_,_,rfl,d⟩:=CM a p;exact pe_base (o.gl i) v t (gX j).1 (d _ b).1 (d _ _).2 r f A s D H Q I q
def sE_fld{a:CE}{f:Str}(d:IHE CX G a):IHE CX G (.fld a f):=by intro e E j N all X o h;obtain⟨v,g,p,rfl,k⟩:=BL h;obtain⟨n,i,rfl,l⟩:=gR k;obtain⟨b,c⟩:=an l;cases W0 b;exact Ho (d _ o c)
def sE_lrng{a:CE}(f:IHE CX G a):IHE CX G (.lrng a):=by intro e E i N all X o h;obtain⟨p,g,q,r,t,rfl,c,d,b⟩:=NV h;exact pe_lrng o.calm (o.gl d) (o.blt _ (by decide+kernel)) (o.gl c) (o.blt _ (by decide+kernel)) (fo (f _ o b) jg (bJ b _ _)) (bJ b _ _)
def Fe{a:CE}(f:IHE CX G a):IHE CX G (.sortset a):=by intro e E i N all X o h;obtain⟨p,g,q,r,t,rfl,c,d,b⟩:=NV h;exact Fq o.calm (o.gl c) (o.blt _ (by decide+kernel)) (o.gl d) (o.blt _ (by decide+kernel)) (fo (f _ o b) jg (bJ b _ _)) (bJ b _ _)
def sE_comp(c:HX CX){own:List Str}{fr:List Nat}{j:CG}{i:CI}{f:CO}{g:CE}(A:IHI CX G i)(z:IHG CX G j)(w:IHC CX G f)(x:IHE CX G g):IHE CX G (.comp own fr j i f g):=by
  intro e E I N all X o h;obtain⟨B,D,J,p,rfl,k⟩:=Gh h;obtain⟨⟨K,H,F,y⟩,rfl,l⟩:=kK k;obtain⟨n,q,r,m⟩:=kT l;obtain⟨s,t,u,v⟩:=kT m;cases W0 n;have S:=wY q;exact pe_comp (S.comp o) (S.mkOk o) o.calm (A _ _ o s)
   (λC d a b _=>(z _ (o.comp c S C d a b) t,w _ (o.comp c S C d a b) u,x _ (o.comp c S C d a b) v,)) (Bm (qL r) _)
def sT_cmp{op:CmpOp}{a b:CE}(i:IHE CX G a)(j:IHE CX G b):IHT CX G (.cmp op a b):=by intro e E q N all X o h;obtain⟨l,n,m,p,rfl,c,k⟩:=NZ h;obtain⟨d,f,g⟩:=gS k;cases W0 d;exact pt_cmpR (pD o.hu op) (i _ o f) (j _ o g) (pH c op)
def Lx{f d:CmpOp}{a b c:CE}(t:IHE CX G a)(u:IHE CX G b)(v:IHE CX G c):IHT CX G (.chain f d a b c):=by intro e E D N all X o h;obtain⟨w,A,z,p,rfl,k⟩:=Gk h;obtain⟨B,C,rfl,l⟩:=xR k;obtain⟨x,y,rfl,m⟩:=xR l;obtain⟨g,i,j,n⟩:=kT m;obtain⟨q,r,s⟩:=gS n;cases W0 g;cases W0 i;exact LY (pD o.hu f) (pD o.hu d) (t _ o q) (u _ o r) (v _ o s) (pH (qL j) d)
def sT_not{a:CE}(d:IHT CX G a):IHT CX G (.not a):=by intro e E i N all X o h;obtain⟨g,f,p,rfl,k⟩:=Ge h;obtain⟨b,c⟩:=an k;cases W0 b;exact pt_not (d _ o c)
def sT_var:IHT CX G (.var i):=by intro e E a N all X o h;have q:=LD e o h;obtain⟨x,p,rfl,k⟩:=gR h;exact kF q λ_=>rfl
def sT_con{c:Const}:IHT CX G (.con c):=by intro e E a N all X o h;have q:=LI e o h;obtain⟨x,j,p,rfl,k⟩:=Gj h;exact kF q λ_=>rfl
def sT_glo{x:Str}:IHT CX G (.glo x):=by intro e E a N all X o h;have q:=LH e o h;obtain⟨x,p,rfl,k⟩:=gR h;exact kF q λ_=>rfl
def sT_idx{a i:CE}(b:IHE CX G a)(c:IHE CX G i):IHT CX G (.idx a i):=by intro e E d N all X o h;have q:=LG b c e o h;obtain⟨x,y,p,rfl,k⟩:=BJ h;exact kF q λ_=>rfl
def sT_call{f:Str}{a:CL}(b:IHL CX G a):IHT CX G (.call f a):=by intro e E d N all X o h;have q:=G8 b e o h;obtain⟨x,c,a,p,rfl,k⟩:=iU h;exact kF q λ_=>rfl
def sT_bfn{b:Bf}{a:CL}(c:IHL CX G a):IHT CX G (.bfn b a):=by intro e E f N all X o h;have q:=LK c e o h;obtain⟨x,d,a,p,rfl,k⟩:=iU h;exact kF q λ_=>rfl
def Lw{a b:CE}(f:IHT CX G a)(i:IHT CX G b)(j:IHW CX G b):IHW CX G (.and a b):=by
  intro e E t N all X o h;obtain⟨s,l,x,p,k,m⟩:=qR h;obtain⟨g,c,d⟩:=gS k;cases W0 g;rcases m with rfl|⟨n,q,r,rfl,rfl⟩;·exact λ_=>Fj (f _ o c) (Hj (i _ o d))
  .exact λ_=>Fj (f _ o c) (j _ o d rfl)
def sT_and{a b:CE}(c:IHW CX G (.and a b)):IHT CX G (.and a b):=by intro e E j N all X o h;obtain⟨i,d,x,p,k,m⟩:=qR h;exact(c _ o h (by rcases m with rfl|⟨f,g,r,rfl,rfl⟩<;>rfl)).pt
def sW_or{a b:CE}(f:IHT CX G a)(i:IHT CX G b)(j:IHW CX G b):IHW CX G (.or a b):=by
  intro e E t N all X o h;obtain⟨s,l,x,p,k,m⟩:=qR h;obtain⟨g,c,d⟩:=gS k;cases W0 g;rcases m with rfl|⟨n,q,r,rfl,rfl⟩;·exact λ_=>pw_or (f _ o c) (pw_or1 (i _ o d))
  .exact λ_=>pw_or (f _ o c) (j _ o d rfl)
def sT_or{a b:CE}(c:IHW CX G (.or a b)):IHT CX G (.or a b):=by intro e E j N all X o h;obtain⟨i,d,x,p,k,m⟩:=qR h;exact(c _ o h (by rcases m with rfl|⟨f,g,r,rfl,rfl⟩<;>rfl)).pt
def sL_nil:IHL CX G .nil:=by intro a E b N all X o h;obtain rfl:=mq h;exact jg
def sL_cons{c:CE}{r:CL}(d:IHE CX G c)(e:IHL CX G r):IHL CX G (.cons c r):=by intro g E j N all X o h;obtain⟨f,i,rfl,a,b⟩:=kA h;exact fo (d _ o a) (e _ o b) (bJ a _ _)
def sP_nil:IHP CX G .nil:=by intro c f E e N all X o h d;obtain⟨a,b⟩:=an h;obtain rfl:=nil_of a;obtain rfl:=nil_of b;exact(pps_nil,rfl,rfl,λz=>absurd rfl z,)
def sP_cons{k v:CE}{r:CP}(e:IHP CX G r)(d:IHE CX G k)(f:IHE CX G v):IHP CX G (.cons k v r):=by intro s x E u N all X o h q;obtain⟨g,t,rfl,l⟩:=wC h;obtain⟨w,y,rfl,m⟩:=wC l;obtain⟨g,rfl,n⟩:=Hr m;obtain⟨a,b,c⟩:=gS n;obtain⟨i,j,p,_⟩:=e _ _ o c q;exact⟨L9 (d _ o a) (f _ o b) i,by simp[j],by simp[p],λ_=>by simp⟩
def sO_no:IHO CX G .no:=by intro e E a N all X o h;obtain rfl:=hU.mp h;exact po_none
def sO_yes{c:CE}(a:IHE CX G c):IHO CX G (.yes c):=by intro e E d N all X o h;obtain⟨b,rfl,k⟩:=Hr h;exact po_some (a _ o k)
def sC_no:IHC CX G .no:=by intro a E b N all X o h;obtain rfl:=nil_of h;exact pts_nil
def sC_yes{c:CE}(a:IHT CX G c):IHC CX G (.yes c):=by intro d E e N all X o h;obtain⟨b,rfl,k⟩:=kK h;exact pts_one (a _ o k)
def sG_name:IHG CX G (.name i):=by
  intro e E c N all X o h;obtain⟨x,p,rfl,k⟩:=gR h;rw[az,cJ,beq_iff_eq,beq_iff_eq,beq_iff_eq]at k;obtain⟨b,a⟩:=k;refine A9 (by rw[o.names];exact o.nd) (by rw[o.names];exact b) ?_ ?_
  .rcases a with q|q;·exact .inl (o.loc x q)
   .exact .inr (o.cel x q)
  .rcases a with q|q;·exact .inr (o.loc x q)
   .exact .inl (o.own x q)
def sG_tup{c:CGs}(d:OA CX G c):IHG CX G (.tup c):=by intro e E g N all X o h;obtain⟨f,j,p,rfl,k⟩:=Gf h;obtain⟨a,b⟩:=u7 k X.env;exact pg_tup o.calm (d _ o k) a b
def sGs_nil:OA CX G .nil:=by intro a E b N all X o h;obtain rfl:=z8 h;exact pgs_nil
def LC{c:CG}{r:CGs}(d:IHG CX G c)(e:OA CX G r):OA CX G (.cons c r):=by intro g E j N all X o h;obtain⟨f,i,rfl,a,b⟩:=yh h;exact Mc (d _ o a) (e _ o b) (by rw[rP a];rfl)
def sI_seq{c:CE}(a:IHE CX G c):IHI CX G (.seq c):=by intro e d E b N all X o h;exact pi_any (a _ o h)
def sI_lseq{c:CE}(a:IHE CX G c):IHI CX G (.lseq c):=by intro e d E b N all X o h;exact pi_list (a _ o h)
def IZ{c:CE}(g:IHE CX G c):IHI CX G (.range1 c):=by intro e q E n N all X o h;obtain⟨f,m,j,p,rfl,k⟩:=iU h;obtain⟨i,rfl,l⟩:=kK k;obtain⟨b,d,a⟩:=gS l;cases W0 b;exact Jf (o.gl d) (o.blt _ (by decide+kernel)) (fo (g _ o a) jg (bJ a _ _)) (bJ a _ _)
def IY{a b:CE}(j:IHE CX G a)(m:IHE CX G b):IHI CX G (.range2 a b):=by intro e u E t N all X o h;obtain⟨f,s,r,p,rfl,k⟩:=iU h;obtain⟨n,q,rfl,l⟩:=xR k;obtain⟨g,i,d,c⟩:=kT l;cases W0 g;exact Je (o.gl i) (o.blt _ (by decide+kernel)) (fo (j _ o d) (fo (m _ o c) jg (bJ c _ _)) (bJ d _ _)) (by rw[bJ d,bJ c];rfl) (bJ c _ _)
def uy(h:oH e=true):∃es k p,e=.Tuple es k p:=by cases e<;>first |exact⟨_,_,_,rfl⟩ |exact dk h
def sI_enum{c:CE}(m:IHE CX G c):IHI CX G (.enum c):=by intro e t E s N all X o h;obtain⟨f,q,b,p,rfl,k⟩:=iU h;obtain⟨n,rfl,l⟩:=kK k;obtain⟨d,g,a,i⟩:=kT l;cases W0 d;obtain⟨b,j,r,rfl⟩:=uy i;exact pi_enum (o.gl g) (o.blt _ (by decide+kernel)) (m _ o a) (bJ a _ _)
def sI_zip3{a b c:CE}(t:IHE CX G a)(u:IHE CX G b)(v:IHE CX G c):IHI CX G (.zip3 a b c):=by intro e C E B N all X o h;obtain⟨f,z,m,p,rfl,k⟩:=iU h;obtain⟨w,r,rfl,k⟩:=wC k;obtain⟨x,y,rfl,l⟩:=xR k;obtain⟨n,q,d,l⟩:=kT l;obtain⟨g,i,s⟩:=gS l;cases W0 n;obtain⟨m,j,A,rfl⟩:=uy s;exact pi_zip3 (o.gl q) (o.blt _ (by decide+kernel)) (fo (t _ o d) (fo (u _ o g) (fo (v _ o i) jg (bJ i _ _)) (bJ g _ _)) (bJ d _ _)) (bJ d _ _) (by rw[bJ g,bJ i];rfl)
def LB{c:CE}(m:IHE CX G c):IHI CX G (.enumt c):=by intro e t E s N all X o h;obtain⟨f,q,b,p,rfl,k⟩:=iU h;obtain⟨n,rfl,l⟩:=kK k;obtain⟨d,g,a,i⟩:=kT l;cases W0 d;obtain⟨b,j,r,rfl⟩:=uy i;exact Mb (o.gl g) (o.blt _ (by decide+kernel)) (fo (m _ o a) jg (bJ a _ _)) (bJ a _ _)
mutual
theorem bH(d:HX CX):∀c:CE,IHE CX G c
 |.var i=>LD
 |.con c=>LI
 |.glo x=>LH
 |.ty t=>sE_ty
 |.bin op a b=>sE_bin (bH d a) (bH d b)
 |.un op a=>sE_un (bH d a)
 |.cmp op a b=>sE_cmp (bH d a) (bH d b)
 |.chain o1 o2 a b c=>LJ (bH d a) (bH d b) (bH d c)
 |.not a=>sE_not (bH d a)
 |.and a b=>sE_and (bH d a) (bH d b)
 |.or a b=>sE_or (bH d a) (bH d b)
 |.ite c a b=>sE_ite (jK d c) (bH d a) (bH d b)
 |.idx a i=>LG (bH d a) (bH d i)
 |.cut a lo hi=>sE_cut (bH d a) (Ln d lo) (Ln d hi)
 |.tup es=>sE_tup (lJ d es)
 |.lst es=>sE_lst (lJ d es)
 |.dic ps=>sE_dic (Ll d ps)
 |.call f es=>G8 (lJ d es)
 |.bfn b es=>LK (lJ d es)
 |.meth1 m b a=>LF (bH d b) (bH d a)
 |.idxd a i=>sE_idxd (bH d a) (bH d i)
 |.dicT=>sE_dicT
 |.setd b a c=>sE_setd (bH d b) (bH d a) (bH d c)
 |.base x es=>sE_base (lJ d es)
 |.fld a f=>sE_fld (bH d a)
 |.lrng a=>sE_lrng (bH d a)
 |.sortset a=>Fe (bH d a)
 |.comp own fr tg it cond elt=>sE_comp d (E8 d it) (uc d tg) (Lp d cond) (bH d elt)
theorem jK(d:HX CX)(c:CE):IHT CX G c:=by
 cases c with
 |cmp op a b=>exact sT_cmp (bH d a) (bH d b)
 |chain p q a b c=>exact Lx (bH d a) (bH d b) (bH d c)
 |not a=>exact sT_not (jK d a)
 |and a b=>exact sT_and (Lw (jK d a) (jK d b) (AV d b))
 |or a b=>exact sT_or (sW_or (jK d a) (jK d b) (AV d b))
 |var i=>exact sT_var
 |con c=>exact sT_con
 |glo x=>exact sT_glo
 |idx a i=>exact sT_idx (bH d a) (bH d i)
 |call f es=>exact sT_call (lJ d es)
 |bfn b es=>exact sT_bfn (lJ d es)
 |_=>exact λ_ _ _ _ _ _ _ _ _ _ _ _ _ _ z=>z.elim
theorem AV(d:HX CX)(c:CE):IHW CX G c:=by
 cases c with
 |and a b=>exact Lw (jK d a) (jK d b) (AV d b)
 |or a b=>exact sW_or (jK d a) (jK d b) (AV d b)
 |_=>intro e E j N all X o h f;obtain⟨i,g,p,rfl⟩:=isBo_of f;exact dk h
theorem lJ(a:HX CX):∀c:CL,IHL CX G c
 |.nil=>sL_nil
 |.cons c r=>sL_cons (bH a c) (lJ a r)
theorem Ll(a:HX CX):∀c:CP,IHP CX G c
 |.nil=>sP_nil
 |.cons k v r=>sP_cons (Ll a r) (bH a k) (bH a v)
theorem Ln(a:HX CX):∀c:CO,IHO CX G c
 |.no=>sO_no
 |.yes c=>sO_yes (bH a c)
theorem Lp(a:HX CX):∀c:CO,IHC CX G c
 |.no=>sC_no
 |.yes c=>sC_yes (jK a c)
theorem uc(a:HX CX):∀c:CG,IHG CX G c
 |.name i=>sG_name
 |.tup gs=>sG_tup (GZ a gs)
theorem GZ(a:HX CX):∀c:CGs,OA CX G c
 |.nil=>sGs_nil
 |.cons c r=>LC (uc a c) (GZ a r)
theorem E8(d:HX CX):∀c:CI,IHI CX G c
 |.seq c=>sI_seq (bH d c)
 |.lseq c=>sI_lseq (bH d c)
 |.range1 c=>IZ (bH d c)
 |.range2 a b=>IY (bH d a) (bH d b)
 |.enum c=>sI_enum (bH d c)
 |.zip3 a b c=>sI_zip3 (bH d a) (bH d b) (bH d c)
 |.enumt c=>LB (bH d c)
end
end
section
variable {CX:CXT}{G:Gam}
def xw{all:Bool}{g:CG}(h:yj sc N all g tg=true)(a:(oH tg&&oH e)=false)(env:Env):swappedStores [tg] e env=pure none:=by
 cases tg with
 |Tuple es k p=>
  cases e<;>first
   |rfl
   | (exact MC a)
 |List es p=>cases g<;>exact dk h
 |_=>rfl
def CF{a:Expr}{b:List Comprehension}{c:Scope}{d p:Pos}{x:Str}{l:Nat}{env:Env}(h:env.kindOf x≠some .local):qZ (.ListComp a b c d) (some (.Name x p)) l env=pure false:=by
 show(pure (env.blockKind== .function&&env.kindOf x==some .local&&p.line==d.line&& !(c.names.any λ(n,k)=>n==x&&(k== .local||k== .cell))):Sem Bool)=pure false;have e:(env.kindOf x==some eM.local)=false:=by simpa using h
 rw[e,dP,cU,cU]
def E2{a:Expr}{b:List Comprehension}{c:Scope}{d p:Pos}{x:Str}{l:Nat}{env:Env}(g:env.scope.kind=.function)(h:env.kindOf x<*.local)(i:p.line=d.line)
  (j:(c.names.any λy=>decide (y.1=x)&&(decide (y.2=.local)||decide (y.2=.cell)))=false):qZ (.ListComp a b c d) (some (.Name x p)) l env=pure true:=by
 show(pure (env.blockKind== .function&&env.kindOf x==some .local&&p.line==d.line&& !(c.names.any λ(n,k)=>n==x&&(k== .local||k== .cell))):Sem Bool)=pure true;have e:env.blockKind=.function:=by unfold Env.blockKind;rw[g];rfl
 have f:(c.names.any λ(n,k)=>n==x&&(k==eM.local||k==dc))=false:=by rw[<-j];congr 1
 rw[e,h,i,f];simp
def Gq{c:CE}(h:isCe c=true):∃own fr tg it a elt,c=.comp own fr tg it a elt:=by
 cases c with
 |comp own fr tg it a elt=>exact(_,_,_,_,_,_,rfl,)
 |_=>exact dk h
def Du(h:xW e=false)(a:Expr)(l:Nat)(env:Env):OD [a] e l env=pure false:=by unfold OD;exact rR h _ _ _
structure OkL(G:Gam)(sc:Scope)(N:List Str)(X:Cx):Prop where
 names:X.N=N
 nd:N.Nodup
 loc:∀x,sc.names.lookup x<*.local->X.env.scope.names.lookup x<*.local
 cel:∀x,sc.names.lookup x<*.cell->X.env.scope.names.lookup x<*.cell
 fre:∀x,sc.names.lookup x<*.free->X.env.scope.names.lookup x<*.cell\/X.env.scope.names.lookup x<*.free
 glo:∀x,sc.names.lookup x<*.globalImplicit->X.env.scope.names.lookup x<*.globalImplicit
 all:∀x,X.fn x=true
 val:∀x v,G.val x<*v->∃u,X.mg x<*u/\RelV v u
 blt:∀x∈jF,X.mg x=none
def OkL.vis(o:OkL G sc N X){x:Str}(h:DH sc x=true):Vis X.env.scope x:=by
 unfold DH at h;rw[cJ,cJ,beq_iff_eq,beq_iff_eq,beq_iff_eq]at h;rcases h with(h|h) |h;·exact .inl (o.loc x h)
 .exact .inr (.inl (o.cel x h))
 .rcases o.fre x h with q|q;·exact .inr (.inl q)
  .exact .inr (.inr q)
def OkL.gl(o:OkL G sc N X){x:Str}(h:j7 sc x=true):Gl X x:=by unfold j7 at h;rw[beq_iff_eq]at h;exact o.glo x h
def isi_ok:fA X (.builtin "isinstance") (rBf X.K .isinstance):=u9.or sN
mutual
theorem gZ(c:CE)(e:Expr){E:XS}(o:OkL G sc N X)(l:qb c=true)(h:dF sc N c e=true):PE X e (wpE G X.K E c):=by
 cases c with
 |var i=>obtain⟨x,p,rfl,k⟩:=gR h;obtain⟨g,d,w⟩:=gS k;obtain⟨D,F⟩:=gX w;exact Md (by rw[o.names];exact beq_iff_eq.mp g) (o.vis d) D F
 |con c=>
  obtain⟨V,j,p,rfl,k⟩:=Gj h;obtain⟨g,d⟩:=an k;cases W0 d;cases c with
  |none=>exact Mj
  |bool b=>exact pe_bl
  |int i=>exact Mn
  |str x=>exact Mf
  |_=>exact dk g
 |glo x=>obtain⟨y,p,rfl,k⟩:=gR h;obtain⟨g,d,w⟩:=gS k;cases W0 g;intro R s S H Q I O;obtain⟨v,M,q⟩:=O;obtain⟨u,L,r⟩:=o.val _ _ M;exact Hn (o.gl d) L r (gX w).1 R s S H Q I q
 |ty t=>obtain⟨y,p,rfl,k⟩:=gR h;obtain⟨g,d⟩:=an k;cases W0 g;exact Hq (o.gl d) (o.blt _ t.mem) t.boot rfl t.plain.1 t.plain.2
 |lst z=>obtain⟨B,p,rfl,k⟩:=NT h;exact Ml (oF z _ o l k)
 |tup z=>obtain⟨B,j,p,rfl,k⟩:=Gf h;exact Me (oF z _ o l k)
 |bfn b z=>
  obtain⟨J,P,B,p,rfl,k⟩:=iU h;obtain⟨g,d,w,A⟩:=kT k;cases W0 g;cases b with
  |isinstance=>exact Mw (b:=.isinstance) isi_ok (o.gl d) (o.blt _ (Bf.mem _)) (oF z _ o l A) w A
  |isx=>exact Mw (b:=.isx) sM (o.gl d) (o.blt _ (Bf.mem _)) (oF z _ o l A) w A
  |_=>exact dk l
 |fld a f=>obtain⟨v,J,p,rfl,k⟩:=BL h;obtain⟨n,P,rfl,m⟩:=gR k;obtain⟨g,d⟩:=an m;cases W0 g;exact Ho (gZ a _ o l d)
 |meth1 m a b=>obtain⟨l1,l2⟩:=an l;obtain⟨Y,T,z,W,rfl,K,k⟩:=BK h;obtain⟨C,rfl,n⟩:=kK k;obtain⟨g,d,w⟩:=gS n;exact Mv Co m.slot m.ty (LU m) (gZ a _ o l1 d) (fo (gZ b _ o l2 w) jg (bJ w _ _)) (BZ g _ _ _) (by rw[bJ w];rfl) K (bJ w _ _) rfl
 |bin op a b=>obtain⟨l1,l2⟩:=an l;obtain⟨C,Z,U,p,rfl,k⟩:=N1 h;obtain⟨g,d,w⟩:=gS k;cases W0 g;exact pe_op (Hi op) (gZ a _ o l1 d) (gZ b _ o l2 w)
 |_=>exact dk l
theorem oF(c:CL)(a:List Expr){E:XS}(o:OkL G sc N X)(l:xO c=true)(h:mr sc N c a=true):PA X a (wpL G X.K E c):=by
 cases c with
 |nil=>obtain rfl:=mq h;exact jg
 |cons c r=>obtain⟨e,f,rfl,b,d⟩:=kA h;obtain⟨l1,l2⟩:=an l;exact fo (gZ c _ o l1 b) (oF r _ o l2 d) (bJ b _ _)
end
def xN(c:CE)(e:Expr){E:XS}(o:OkL G sc N X)(l:HE c=true)(h:dF sc N c e=true):PT X e (wpT G X.K E c)/\∀f b p,e≠.BoolOp f b p:=by
 cases c with
 |bfn b a=>
  cases b with
  |isx=>have d:=gZ (E:=E) (.bfn .isx a) e o l h;obtain⟨x,g,a,p,rfl,k⟩:=iU h;exact⟨pt_tru d (λ_=>rfl),λ_ _ _ z=>nomatch z⟩
  |_=>exact dk l
 |_=>exact dk l
def MU(c:CE)(e:Expr){E:XS}(o:OkL G sc N X)(l:liteT c=true)(h:dF sc N c e=true):PT X e (wpT G X.K E c):=by
 cases c with
 |and a b=>
  obtain⟨l1,l2⟩:=an l;obtain⟨s,j,x,p,k,m⟩:=qR h;obtain⟨d,f,g⟩:=gS k;cases W0 d;obtain⟨i,nb⟩:=xN (E:=E) b x o l2 g;rcases m with rfl|⟨n,q,r,rfl,rfl⟩;·exact(Fj (xN a _ o l1 f).1 (Hj i)).pt
  .exact absurd rfl (nb _ _ _)
 |_=>refine(xN _ e o ?_ h).1;exact l
mutual
theorem MV(c:CS)(st:Stmt){E:XS}(o:OkL G sc N X)(l:liteS c=true)(h:chkS sc N c st=true):PS X st (wpS G X.K E c):=by
 cases c with
 |asg g e=>
  obtain⟨z,n,p,rfl,k⟩:=BN h;obtain⟨d,f,j,A⟩:=kT k;cases g with
  |name i=>
   obtain⟨x,p,rfl,m⟩:=gR d;rw[az,cJ,beq_iff_eq,beq_iff_eq,beq_iff_eq]at m;refine Fl (gZ e _ o l f) ?_ (Du (qL j) _ _ _) rfl rfl;refine A9 (by rw[o.names];exact o.nd) (by rw[o.names];exact m.1) ?_ (.inl (o.all x));rcases m.2 with q|q;·exact .inl (o.loc x q)
   .exact .inr (o.cel x q)
  |_=>exact dk l
 |ret e=>obtain⟨r,p,rfl,k⟩:=Gg h;obtain⟨n,rfl,m⟩:=Hr k;exact LZ (gZ e _ o l m)
 |pass=>
  cases st<;>first
   |exact Hk
   |exact dk h
 |expr e=>obtain⟨n,p,rfl,k⟩:=NW h;obtain⟨s,t⟩:=an k;exact Hl (gZ e _ o l s) (rR (qL t) _ _ _)
 |iff c a b=>obtain⟨l1,l⟩:=an l;obtain⟨l2,u⟩:=an l;obtain⟨y,v,w,p,rfl,k⟩:=NU h;obtain⟨d,f,j⟩:=gS k;exact ps_if (MU c _ o l1 d) (sx a _ o l2 f) (sx b _ o u j)
 |_=>exact dk l
theorem sx(c:CB)(st:List Stmt){E:XS}(o:OkL G sc N X)(l:DE c=true)(h:qV sc N c st=true):PSs X st (wpB G X.K E c):=by
 cases c with
 |hole=>exact dk l
 |nil=>obtain rfl:=nil_of h;exact A7
 |cons s r=>obtain⟨l1,l2⟩:=an l;obtain⟨e,d,rfl,k⟩:=wC h;obtain⟨a,b⟩:=an k;exact rK (MV s _ o l1 a) (sx r _ o l2 b)
end
mutual
theorem Lk(d:HX CX):∀(c:CS)(st:Stmt){E:XS}{sc:Scope}{N:List Str}{X:Cx},Ok CX G E sc N true X->(∀pins σ H s,'A'->X.env.scope.kind=.function)->chkS sc N c st=true->PS X st (wpS G X.K E c)
 |.asg g e,st,E,sc,N,X,o,hk,h=>by obtain⟨P,B,p,rfl,k⟩:=BN h;obtain⟨f,j,r,t⟩:=kT k;exact Fl (bH d e _ o j) (uc d g _ o f) (rR (qL r) _ _ _) (xw f (qL t) _) (by rw[rP f];rfl)
 |.asgc i e,st,E,sc,N,X,o,hk,h=>by
  obtain⟨Q,h⟩:=an h;obtain⟨P,B,sp,rfl,k⟩:=BN h;obtain⟨x,p,rfl,l⟩:=gR k;obtain⟨a,b,c,a4,rfl,m⟩:=Gh l;obtain⟨f,j,r,t⟩:=kT m;rw[beq_iff_eq]at f;rw[cJ,beq_iff_eq,beq_iff_eq]at j;rw[cJ,beq_iff_eq]at t;obtain⟨own,fr,tg,T,a3,a5,rfl⟩:=Gq Q;by_cases hl:X.env.scope.names.lookup x<*.local
  .rcases t with q|q;·rw[o.cel x q]at hl;cases hl
   obtain⟨q1,q2⟩:=an q;obtain⟨b2,gs,b6,p',e1,r1⟩:=Gh r;cases e1;obtain⟨⟨b7,b4,b3,b8⟩,rfl,r2⟩:=kK r1;obtain⟨g0,g1,g2,r3⟩:=kT r2;obtain⟨g3,g4,g5,g6⟩:=kT r3;cases W0 g0;have S:=wY g1;intro pins s σ H D I v;exact Fk (S.comp o) (S.mkOk o) o.calm (E8 d T _ _ o g3)
    (λC W K M _=>(uc d tg _ (o.comp d S C W K M) g4,Lp d a3 _ (o.comp d S C W K M) g5,bH d a5 _ (o.comp d S C W K M) g6,))
    (by rw[o.names];exact o.nd) (by rw[o.names];exact f) hl (E2 (hk pins σ H s I) hl (W0 q1) (qL q2)) (Bm (qL g2) _) pins s σ H D I v
  .have hc:sc.names.lookup x<*.cell:=by
    rcases j with q|q;·exact absurd (o.loc x q) hl
    .exact q
   exact ps_set (by rw[o.names];exact o.nd) (by rw[o.names];exact f) (.inr (o.cel x hc)) (bH d _ _ o r) (CF (by rw[show X.env.kindOf x=_ from o.cel x hc];decide)) (.inl (o.all rfl x))
 |.expr e,st,E,sc,N,X,o,hk,h=>by obtain⟨B,p,rfl,k⟩:=NW h;obtain⟨f,j⟩:=an k;exact Hl (bH d e _ o f) (rR (qL j) _ _ _)
 |.iff c a b,st,E,sc,N,X,o,hk,h=>by obtain⟨c',a',Z,p,rfl,k⟩:=NU h;obtain⟨f,j,r⟩:=gS k;exact ps_if (jK d c _ o f) (qJ d a _ o hk j) (qJ d b _ o hk r)
 |.forr g T b,st,E,sc,N,X,o,hk,h=>by obtain⟨P,i',Z,p,rfl,k⟩:=dFo_of h;obtain⟨f,j,r,t⟩:=kT k;exact ps_for o.px o.calm (E8 d T _ _ o j) (uc d g _ o f) (qJ d b _ o hk t) (Bm (qL r) _)
 |.ret e,st,E,sc,N,X,o,hk,h=>by obtain⟨a9,p,rfl,k⟩:=Gg h;obtain⟨B,rfl,m⟩:=Hr k;exact LZ (bH d e _ o m)
 |.retN,st,E,sc,N,X,o,hk,h=>by obtain⟨a9,p,rfl,k⟩:=Gg h;obtain rfl:=hU.mp k;exact ps_retN
 |.rais x es,st,E,sc,N,X,o,hk,h=>by obtain⟨x',U,a6,L,p,rfl,k⟩:=NS h;obtain⟨f,j,r,m⟩:=kT k;obtain⟨t,w⟩:=an m;cases W0 f;intro pins s σ H D I v;obtain⟨C,A,a8,hq,v⟩:=v;obtain⟨u,hu,V⟩:=o.val _ _ A;obtain rfl:u=bD C:=V;have R:=lJ d es _ o w;obtain⟨_,_,rfl,y⟩:=CM w t;exact L6 (o.gl j) hu a8 hq R o.calm (gX r).1 (y _ L).1 (y _ _).2 o.made pins s σ H D I v
 |.raisX x es,st,E,sc,N,X,o,hk,h=>by obtain⟨x',U,a6,L,p,rfl,k⟩:=NS h;obtain⟨f,j,r,m⟩:=kT k;obtain⟨t,w⟩:=an m;cases W0 f;intro pins s σ H D I v;obtain⟨C,sp,b1,A,v⟩:=v;obtain⟨a7,fd,ps,ds,k,hM,a2,hr,hu,hb,hd⟩:=o.ini _ _ _ _ _ A;have R:=lJ d es _ o w;obtain⟨_,_,rfl,y⟩:=CM w t;exact Jc hM a2 hr hb hd o.pass (o.gl j) hu R o.calm (gX r).1 (y _ L).1 (y _ _).2 o.madeX pins s σ H D I v
 |.fldX a a7 e,st,E,sc,N,X,o,hk,h=>by obtain⟨P,B,p,rfl,k⟩:=BN h;obtain⟨o',f',p',rfl,l⟩:=BL k;obtain⟨f,j,r,t⟩:=kT l;cases W0 f;exact ps_fldX (bH d a _ o j) (bH d e _ o r) (rR (qL t) _ _ _)
 |.tryc x i b su,st,E,sc,N,X,o,hk,h=>by
  obtain⟨Z,x',U,n,F,hp,p,rfl,k⟩:=dTr_of h;obtain⟨f,j,r,m,m'⟩:=and5 k;obtain⟨t,w,h6⟩:=gS m;obtain⟨Q,h7,h8⟩:=gS m';cases W0 f;rw[beq_iff_eq]at t w;cases F with
  |nil=>exact dk Q
  |cons s0 F=>
   obtain⟨t1,t2,t3⟩:=o.top rfl;intro pins s σ H D I v;obtain⟨C,A,v⟩:=v;obtain⟨u,hu,V⟩:=o.val _ _ A;obtain rfl:u=bD C:=V;have O:Eo X x n C i (s0::F) (wpB G X.K N0 su):=
    {nd:=by rw[o.names];exact o.nd,at_:=by rw[o.names];exact t,loc:=o.loc n w,gl:=o.gl j,mg:=hu,db:=(gX r).1,stk:=t1,fr:=t2,ex:=t3
     su:=λpins a=>sx su _ (X:=X.re (X.A.mark (some (.ref a))) false (X.pn++pins) (λ_ _=>False)) (o.names,o.nd,o.loc,o.cel,o.fre,o.glo,o.all rfl,o.val,o.blt,) h6 h7}
   exact ps_try (X:=X) (tb:=λD=>wpB G X.K (oN X.K C i (wpB G X.K N0 su) D) b) (λpins D ok=>qJ d b _ (X:=X.re X.A X.calm (X.pn++pins) (kD X pins D [.ExceptHandler (some (.Name x U)) (some n) (s0::F) hp]))
    {names:=o.names,top:=λ_=>(t1,t2,t3,),nd:=o.nd,loc:=o.loc,cel:=o.cel,fre:=o.fre,glo:=o.glo,all:=o.all,own:=o.own,calm:=o.calm,hu:=o.hu,val:=o.val,fn:=o.fn,ini:=o.ini,dic:=o.dic,mak:=o.mak,mth:=o.mth,blt:=o.blt,px:=PassesOwn.looking
     pass:=λa0 a1 Y s' e b5 J z=>KO O ok o.calm J (by rw[o.cx]at z;exact z)
     made:=λa0 a1 Y s' a c b0 h' J hm z=>KQ O ok J hm z
     madeX:=λa0 a1 Y s' a C' a4 J m z=>II O ok J m z
     cx:=o.cx} (λ_ _ _ _ J=>J.ok.kind) h8) pins s σ H D I v
 |.pass,st,E,sc,N,X,o,hk,h=>by
  cases st<;>first
   |exact Hk
   |exact dk h
 |.brk,st,E,sc,N,X,o,hk,h=>by
  cases st<;>first
   |exact L7
   |exact dk h
 |.cont,st,E,sc,N,X,o,hk,h=>by
  cases st<;>first
   |exact C5
   |exact dk h
theorem qJ(a:HX CX):∀(c:CB)(st:List Stmt){E:XS}{sc:Scope}{N:List Str}{X:Cx},Ok CX G E sc N true X->(∀pins σ H s,'A'->X.env.scope.kind=.function)->qV sc N c st=true->PSs X st (wpB G X.K E c)
 |.hole,_,_,_,_,_,_,_,_=>λ_ _ _ _ _ _ z=>z.elim
 |.nil,st,E,sc,N,X,o,hk,h=>by obtain rfl:=nil_of h;exact A7
 |.cons s r,st,E,sc,N,X,o,hk,h=>by obtain⟨f,e,rfl,k⟩:=wC h;obtain⟨b,d⟩:=an k;exact rK (Lk a s _ o hk b) (qJ a r _ o hk d)
end
end
structure GOk(P:Program)(w:World)(K:ah)(mg:Str->Option Value)(base:Heap)(CX:CXT)(k:Nat)(G:Gam):Prop where
 val:∀x v,G.val x<*v->∃u,mg x<*u/\RelV v u
 fn:∀x n sp al,G.fn x n<*(sp,al)->∃f fd ps ds j,j<=k/\jG P w K mg base CX j f fd ps sp/\mg x<*(.ref f)/\cj K (.ref f)=true/\Binds K fd ps ds/\bS al ds
 ini:∀x n C sp al,G.ini x n<*(C,sp,al)->∃f fd ps ds j,j+1<=k/\MkX K C f/\jG P w K mg base CX j f fd ps sp/\mg x<*(.ref C)/\Binds K fd ps ds/\bS al ds
 dic:∀a kvs,G.dic a<*kvs->DkIn P w K a kvs
 mak:∀x n C sp al,G.mak x n<*(C,sp,al)->∃f fd ps ds j,j+1<=k/\Mk K C f/\jG P w K mg base CX j f fd ps sp/\mg x<*(.ref C)/\Binds K fd ps ds/\bS al ds
 mth:∀m n C sp al,G.mth m n<*(C,sp,al)->∃f fd ps ds j,j<=k/\Cls K C/\Meth K C m f/\jG P w K mg base CX j f fd ps sp/\Binds K fd ps ds/\bS al ds
 blt:∀x∈jF,mg x=none
abbrev oa(N ps:List Str)(sc:Scope):Bool:=
 decide (sc.kind=.function)&&decide (sc.isCoroutine=false)&&decide (sc.isGenerator=false)&&decide N.Nodup&&decide (N.take ps.length=ps)&&
 ps.all (λx=>sc.names.lookup x==some .local||sc.names.lookup x==some .cell)&&sc.names.all (λy=>decide (y.2≠.free))
def Dj(h:oa N ps sc=true):we N ps sc:=by unfold oa at h;simp only[az,bj,decide_eq_true_eq,beq_iff_eq,cJ]at h;obtain⟨⟨⟨⟨⟨⟨a,b⟩,c⟩,d⟩,e⟩,f⟩,g⟩:=h;exact(a,b,c,d,e,f,g,)
section
variable {mg:Str->Option Value}
def MA{G:Gam}{outer:List Env}{E:XK}(S:we N ps sc)(g:GOk P w K mg base (CXx P w) k G)(i:jm k (A.deeper (envOfC qual sc ⇑s f am))):Ok (CXx P w) G (λ_=>E) sc N true (BO (CXx P w) P w K mg base N qual sc f am A outer s H E):=
  {names:=rfl,top:=λ_=>(rfl,rfl,rfl,),nd:=S.nd,loc:=λ_ z=>z,cel:=λ_ z=>z,fre:=λy z=>absurd rfl (S.nofree _ (bB z)),glo:=λ_ z=>z,all:=λ_ _=>rfl,own:=λ_ _=>rfl,calm:=rfl,
   hu:=by have :=i.units;show _+50<cLine;exact cR (Nat.add_le_add_left 'E' _) this
   val:=g.val
   fn:=λy n h a e=>by obtain⟨b,fd',ps',ds',j,hj,F',hm,hk,hb,d⟩:=g.fn y n h a e;exact(b,fd',ps',ds',j,F',i.mono hj,hm,hk,hb,d,)
   ini:=λy n C h a e=>by obtain⟨b,fd',ps',ds',j,hj,M,F',hm,hb,d⟩:=g.ini y n C h a e;exact(b,fd',ps',ds',j,M,F',i.mono hj,hm,hb,d,)
   dic:=g.dic
   mak:=λy n C h a e=>by obtain⟨b,fd',ps',ds',j,hj,M,F',hm,hb,d⟩:=g.mak y n C h a e;exact(b,fd',ps',ds',j,M,F',i.mono hj,hm,hb,d,)
   mth:=λy n C h a e=>by obtain⟨b,fd',ps',ds',j,hj,c,M,F',hb,d⟩:=g.mth y n C h a e;exact(b,fd',ps',ds',j,c,M,F',i.mono hj,hb,d,)
   blt:=g.blt,px:=PassesOwn.leaving,pass:=JY,made:=JZ,madeX:=GA,cx:=rfl}
def ya{x:Str}{st:Stmt}{kV:Value}{an:Option Addr}{G:Gam}{sp:Sp}{a:CB}(j:K.lookup f<*(oc,od,.func (aB x qual (aX st) (aS st) (aJ st) dV kV ap pm an am ct),bv,))(c:eF K am qual=true)(d:oa N ps (aJ st)=true)(b:qV (aJ st) N a (aS st)=true)
  (g:GOk P w K mg base (CXx P w) k G)(len:∀vs H Q E,sp vs H Q E->vs.length=ps.length)
  (h:∀vs H Q E,sp vs H Q E->wpB G K (λ_=>E) a {nx:=λ_ H'=>Q .non H',rt:=Q} (start N vs) H):jG P w K mg base (CXx P w) (k+1) f (aB x qual (aX st) (aS st) (aJ st) dV kV ap pm an am ct) ps sp:=by
 have S:=Dj d;refine fn_of j c S len λA l s H vs Q E e i=>?_;exact(_,qJ (λ_ _ _ _ _ z=>JJ z) a _ (MA S g e) (λ_ _ _ _ _=>S.kind) b,h vs H Q E i,)
def HU{x:Str}{st:Stmt}{b:fE}{G:Gam}{sp:Sp}{a:CB}(F:Fun K x qual st f b)(e:oa N ps (aJ st)=true)(c:qV (aJ st) N a (aS st)=true)
  (g:GOk P w K mg base (CXx P w) k G)(len:∀vs H Q E,sp vs H Q E->vs.length=ps.length)
  (h:∀vs H Q E,sp vs H Q E->wpB G K (λ_=>E) a {nx:=λ_ H'=>Q .non H',rt:=Q} (start N vs) H):jG P w K mg base (CXx P w) (k+1) f b ps sp:=by
 obtain⟨n,o,kV,m,q,an,j,l,p,rfl,i,d⟩:=F.ex;exact ya i d e c g len h
end
abbrev gam(vals:List (Str×V))(c:List ((Str×Nat)×(Sp×List V)))(d:List ((Str×Nat)×(Addr×Sp×List V)):=[]) (b:List (Addr×List (Key×V)):=[]) (e f:List ((Str×Nat)×(Addr×Sp×List V)):=[]):Gam:=(λx=>vals.lookup x,λx n=>c.lookup (x,n),λx n=>d.lookup (x,n),λa=>b.lookup a,λx n=>e.lookup (x,n),λm n=>f.lookup (m,n),)
theorem DA{c:Type}{b:c}:∀{l:List (Addr×c)},l.lookup a<*b->(a,b)∈l
 | [],h=>nomatch h
 | (k,v)::l,h=>by
  rw[aT]at h;cases q:(a==k)with
  |true=>rw[q]at h;cases h;rw[beq_iff_eq.mp q];exact aM
  |false=>rw[q]at h;exact aG _ (DA h)
section
variable {mg:Str->Option Value}{CX:CXT}
def GOk.start{vals:List (Str×V)}(i:∀x v,(x,v)∈vals->∃u,mg x<*u/\RelV v u)(f:∀x∈jF,mg x=none){b:List (Addr×List (Key×V))}(g:∀a kvs,(a,kvs)∈b->DkIn P w K a kvs:=by intro a kvs h;exact nomatch h):GOk P w K mg base CX 0 (gam vals [] [] b):=
 (λx v e=>i x v (bB e),λx n d c e=>(nomatch e),λx n C d c e=>(nomatch e),λa kvs e=>g a kvs (DA (show de a b<*kvs from e)),λx n C d c e=>(nomatch e),λx n C d c e=>(nomatch e),f,)
def GOk.add{vals:List (Str×V)}{s:List ((Str×Nat)×(Sp×List V))}{x:Str}{p:fE}{sp:Sp}{u v z:List ((Str×Nat)×(Addr×Sp×List V))}{t:List (Addr×List (Key×V))}(g:GOk P w K mg base CX k (gam vals s u t v z))
  (F:jG P w K mg base CX (k+1) f p ps sp)(G:mg x<*(.ref f))(E:cj K (.ref f)=true)(B:Binds K p ps ds)(D:bS al ds):GOk P w K mg base CX (k+1) (gam vals (((x,n),(sp,al))::s) u t v z):=by
 refine(g.val,λy m b a e=>?_,λy m C b a e=>?_,g.dic,λy m C b a e=>?_,λy m C b a e=>?_,g.blt,)
 rotate_left
 rotate_left
 .obtain⟨d,h,l,c,j,i,r⟩:=g.mak y m C b a e;exact(d,h,l,c,j,fK i,r,)
 .obtain⟨d,h,l,c,j,i,r⟩:=g.mth y m C b a e;exact(d,h,l,c,j,fK i,r,)
 rotate_left
 .obtain⟨d,h,l,c,j,i,r⟩:=g.ini y m C b a e;exact(d,h,l,c,j,fK i,r,)
 have o:de (y,m) (((x,n),(sp,al))::s)<*(b,a):=e;rw[aT]at o;cases q:((y,m)==(x,n))with
 |true=>rw[q]at o;have A:(y,m)=(x,n):=eq_of_beq q;cases A;cases o;exact(f,p,ps,ds,k+1,ay _,F,G,E,B,D,)
 |false=>rw[q]at o;obtain⟨d,h,l,c,j,i,r⟩:=g.fn y m b a o;exact(d,h,l,c,j,fK i,r,)
def GOk.addI{vals:List (Str×V)}{v:List ((Str×Nat)×(Sp×List V))}{x:Str}{p:fE}{sp:Sp}{s z A:List ((Str×Nat)×(Addr×Sp×List V))}{u:List (Addr×List (Key×V))}(g:GOk P w K mg base CX k (gam vals v s u z A))
  (M:MkX K C f)(F:jG P w K mg base CX (k+1) f p ps sp)(G:mg x<*(.ref C))(D:Binds K p ps ds)(E:bS al ds):GOk P w K mg base CX (k+2) (gam vals v (((x,n),(C,sp,al))::s) u z A):=by
 refine(g.val,λy m b a e=>?_,λy m t b a e=>?_,g.dic,λy m C b a e=>(by
  obtain⟨d,h,l,c,j,i,r⟩:=g.mak y m C b a e;exact(d,h,l,c,j,aO i 'D',r,)),λy m C b a e=>(by
  obtain⟨d,h,l,c,j,i,r⟩:=g.mth y m C b a e;exact(d,h,l,c,j,aO i 'D',r,)),g.blt,)
 .obtain⟨d,h,l,c,j,i,r⟩:=g.fn y m b a e;exact(d,h,l,c,j,aO i 'D',r,)
 have o:de (y,m) (((x,n),(C,sp,al))::s)<*(t,b,a):=e;rw[aT]at o;cases q:((y,m)==(x,n))with
 |true=>rw[q]at o;have B:(y,m)=(x,n):=eq_of_beq q;cases B;cases o;exact(f,p,ps,ds,k+1,ay _,M,F,G,D,E,)
 |false=>rw[q]at o;obtain⟨d,h,l,c,j,i,r⟩:=g.ini y m t b a o;exact(d,h,l,c,j,aO i 'D',r,)
end
section
variable {Q:VK}{i j:Int}
def B5:nZ K .Add (.int i) (.int j) H Q↔Q (.int (i+j)) H:=by show _\/_↔_;simp[rI0,rCat,Hg,Hh]
def K8:nZ K .Sub (.int i) (.int j) H Q↔Q (.int (i-j)) H:=by show rI0 _ _ _ _ _↔_;simp[rI0]
def mul_ii:nZ K .Mult (.int i) (.int j) H Q↔GL i j/\Q (.int (i*j)) H:=by show _\/_↔_;simp[rI,rRep,LR]
def um:nZ K .Mod (.int i) (.int j) H Q↔0<j/\Q (.int (i%j)) H:=by show rI _ _ _ _ _ _↔_;simp[rI]
def div_ii:nZ K .FloorDiv (.int i) (.int j) H Q↔OB i j/\Q (.int (i/j)) H:=by show rI _ _ _ _ _ _↔_;simp[rI]
def pow_ii:nZ K .Pow (.int i) (.int j) H Q↔J4 i j/\Q (.int (i^j.toNat)) H:=by show rI _ _ _ _ _ _↔_;simp[rI]
def shr_ii:nZ K .RShift (.int i) (.int j) H Q↔0<=j/\Q (.int (i/2^j.toNat)) H:=by show rI _ _ _ _ _ _↔_;simp[rI]
def Ov{x y:Str}:nZ K .Add (.str x) (.str y) H Q↔x.length+y.length<=sizeLine/\Q (.str (x++y)) H:=by show _\/_↔_;simp[rI0,rCat,Hg,Hh]
def MR:gh K .Lt (.int i) (.int j) H Q↔Q (.bl (decide (i<j))) H:=by simp[gh,rI0,rLtS]
def MY:gh K .LtE (.int i) (.int j) H Q↔Q (.bl (decide (i<=j))) H:=by simp[gh,rI0]
def HM:gh K .Gt (.int i) (.int j) H Q↔Q (.bl (decide (j<i))) H:=by simp[gh,rI0]
def Hb{d:D}:Rep K H d (.int i)↔d=.int i:=by cases d<;>simp[Rep,eq_comm]
def rep_str{d:D}{x:Str}:Rep K H d (.str x)↔d=.str x:=by cases d<;>simp[Rep,eq_comm]
def lq:gh K .Eq (.int i) (.int j) H Q↔Q (.bl (decide (i=j))) H:=by
 simp only[gh,rEqD,Hb];constructor;·rintro⟨_,_,rfl,rfl,_,q⟩;exact q
 .intro q;exact(_,_,rfl,rfl,a7 _,q,)
def ME:gh K .NotEq (.int i) (.int j) H Q↔Q (.bl (!decide (i=j))) H:=by
 simp only[gh,rNeD,Hb];constructor;·rintro⟨_,_,rfl,rfl,_,q⟩;exact q
 .intro q;exact(_,_,rfl,rfl,a7 _,q,)
def eq_ss{x y:Str}:gh K .Eq (.str x) (.str y) H Q↔Q (.bl (decide (x=y))) H:=by
 simp only[gh,rEqD,rep_str];constructor;·rintro⟨_,_,rfl,rfl,_,q⟩;simpa[show eqD (.str x) (.str y)=(x==y)from rfl,Ks]using q
 .intro q;exact(_,_,rfl,rfl,a7 _,by simpa[show eqD (.str x) (.str y)=(x==y)from rfl,Ks]using q,)
def is_n:gh K .Is x .non H Q↔Q (.bl (decide (x=.non))) H:=by simp[gh]
def isnot_n:gh K .IsNot x .non H Q↔Q (.bl (!decide (x=.non))) H:=by simp[gh]
def len_s:rBf K .len [.str z] H Q↔z.length<=sizeLine/\Q (.int z.length) H:=by simp[rBf]
def idx_s:rIx K (.str z) (.int i) H Q↔∃c,z.length<=sizeLine/\atI z.cps.toList i<*c/\Q (.str ⟨#[c]⟩) H:=by simp[rIx,rIxL,rIxT,rIxS]
def cut_s{lo hi:Option Int}:rSlc K (.str z) lo hi H Q↔z.length<=sizeLine/\Q (.str (Gn z lo hi)) H:=by simp[rSlc,rSlL,rSlS]
end
structure tJ(J:It)(n:Nat)(it:Nat->V->Hp->Prop)(Hc:Hp->Prop):Prop where
 go:∀i H,Hc H->i<n->J.go i H
 stop:∀i H,Hc H->n<=i->J.stop i H
 yld:∀i H x H',Hc H->i<n->J.yld i H x H'->it i x H'/\aD H H'
section
def dI:tJ (Itl K a) xs.length (λi x _=>xs[i]?<*x) (λH=>SqL K H a xs) where
 go:=λi H h hi=>⟨xs,xs[i],h,by simp[hi]⟩
 stop:=λi H h hi=>(xs,h,hi,)
 yld:=λi H x b h hi y=>by obtain⟨e,y⟩:=y;subst e;exact(y xs h,aD.refl _,)
def A0:tJ (Itt K a) xs.length (λi x _=>xs[i]?<*x) (λH=>SqT K H a xs) where
 go:=λi H h hi=>⟨xs,xs[i],h,by simp[hi]⟩
 stop:=λi H h hi=>(xs,h,hi,)
 yld:=λi H x b h hi y=>by obtain⟨e,y⟩:=y;subst e;exact(y xs h,aD.refl _,)
def dM{lo:Int}:tJ (Itr lo n) n (λi x _=>x=.int (lo+i)) (λ_=>True) where
 go:=λi H _ hi=>hi
 stop:=λi H _ hi=>hi
 yld:=λi H x a _ hi y=>by obtain⟨e,y⟩:=y;subst e;exact(y,aD.refl _,)
def seq_str:tJ (Its z) z.length (λi x _=>∃c,z.cps[i]?<*c/\x=.str ⟨#[c]⟩) (λ_=>True) where
 go:=λi H _ hi=>hi
 stop:=λi H _ hi=>hi
 yld:=λi H x a _ hi y=>by obtain⟨e,y⟩:=y;subst e;exact(y,aD.refl _,)
def au{o:HO}(h:H p=none):aD H (upd H p o):=λb u e=>by rw[aV (bL e h)];exact e
def cX{o:HO}(h:upd H p o=H1)(a:H p=none):aD H H1/\H1 p<*o:=by subst h;exact(au a,aq,)
def rJ{a:Hp->List V->Prop}:tJ (Oz a) xs.length (λi x H=>∃p v,x=.ref p/\H p<*(.tup [.int i,v])/\xs[i]?<*v) (λH=>a H xs) where
 go:=λi H h hi=>⟨xs,xs[i],h,by simp[hi]⟩
 stop:=λi H h hi=>(xs,h,hi,)
 yld:=λi H x d h hi y=>by obtain⟨p,v,c,e,b,y⟩:=y;subst e b;exact((p,v,rfl,aq,y xs h,),au c,)
def ForB(J:It)(g:TG)(tb:TS)(D:Ends)(σ:L2.St)(H:Hp):Prop:=∃W:Nat->Nat->L2.St->Hp->Prop,(∃m,W 0 m σ H)/\∀i m σ H,W i m σ H->
 (J.stop i H/\D.nx σ H)\/(J.go i H/\∃N:L2.St->Hp->Prop,(∀b H',N b H'->∃a,a<m/\W (i+1) a b H')/\∀x H',J.yld i H x H'->g x σ H' λc H2=>tb {D with nx:=N,ct:=N,bk:=D.nx} c H2)
def Ep(J:It)(g:TG)(tc:TT)(te:TE)(o:L2.St)(H1:Hp)(Q:VK):Prop:=∃W:Nat->Nat->L2.St->List V->Hp->Prop,(∃m,W 0 m o [] H1)/\
 ∀i m h ac H2,W i m h ac H2->(J.stop i H2/\∀l,H2 l=none->Q (.ref l) (upd H2 l (.lst ac)))\/(J.go i H2/\∃N:L2.St->List V->Hp->Prop,(∀j e H',N j e H'->∃f,f<m/\W (i+1) f j e H')/\
  ∀x c,J.yld i H2 x c->g x h c λa k=>tc a k λb d=>if b=true then te a d λv n=>ac.length<sizeLine/\N a (ac++[v]) n else N a ac d)
def HR{J:It}{c:Nat->V->Hp->Prop}{b:Hp->Prop}{g:TG}{tb:TS}{D:Ends}(S:tJ J n c b)(a:Nat->L2.St->Hp->Prop)(h0:a 0 σ H)(f:∀i σ H,i<=n->a i σ H->b H)
  (hs:∀i x σ H H',i<n->a i σ H->c i x H'->aD H H'->g x σ H' λl H2=>tb {D with nx:=a (i+1),ct:=a (i+1),bk:=D.nx} l H2) (d:∀σ H,a n σ H->D.nx σ H):
  ForB J g tb D σ H:=by
 refine(λi m σ H=>m=n-i/\i<=n/\a i σ H,(n,'F',a7 _,h0,),?_,);rintro i m σ H ⟨rfl,hi,p⟩;have q:=f i σ H hi p;by_cases hlt:i<n;·refine .inr (S.go i H q hlt,a (i+1),λo H' h=>(n-(i+1),'D',rfl,hlt,h,),λx H' y=>?_,);obtain⟨j,k⟩:=S.yld i H x H' q hlt y;exact hs i x σ H H' hlt p j k
 .have e:i=n:=by lia
  subst e;exact .inl (S.stop i H q (ay _),d σ H p,)
def cW{J:It}{B:Nat->V->Hp->Prop}{w:Hp->Prop}{g:TG}{D:TE}{Q:VK}{E:L2.St}(S:tJ J n B w)(hn:n<=sizeLine)(O:∀H,aD H1 H->w H)
  (F:Nat->V->Hp->Prop)(I:∀i v H H',aD H H'->F i v H->F i v H')(T:L2.St->Prop)(N:T E)
  (step:∀i x p o (R:L2.St->V->Hp->Prop),i<n->T p->aD H1 o->B i x o->(∀j v h,T j->aD o h->F i v h->R j v h)->g x p o λG K=>D G K (R G))
  (M:∀vs H2 l,vs.length=n->(∀(i:Nat) v,vs[i]?<*v->F i v H2)->aD H1 H2->H2 l=none->Q (.ref l) (upd H2 l (.lst vs))):
  Ep J g tYes D E H1 Q:=by
 refine(λi m p f H2=>m=n-i/\i<=n/\T p/\f.length=i/\aD H1 H2/\∀(k:Nat) v,f[k]?<*v->F k v H2,⟨n,'F',a7 _,N,rfl,aD.refl _,λk v e=>by simp at e⟩,?_,);rintro i m p f H2 ⟨rfl,hi,X,A,s,z⟩;have q:=O H2 s;by_cases hlt:i<n
 .refine .inr (S.go i H2 q hlt,λj t H'=>T j/\t.length=i+1/\aD H1 H'/\∀(k:Nat) v,t[k]?<*v->F k v H',λj t H' ⟨a,b,c,d⟩=>(n-(i+1),'D',rfl,hlt,a,b,c,d,),λx o y=>?_,);obtain⟨Z,u⟩:=S.yld i H2 x o q hlt y;refine step i x p o (λj v h=>f.length<sizeLine/\T j/\(f++[v]).length=i+1/\aD H1 h/\∀(k:Nat) r,(f++[v])[k]?<*r->F k r h) hlt X (s.trans u) Z λj v h Y C L=>('D',Y,by simp[A],(s.trans u).trans C,λk r e=>?_,);by_cases hk:k<f.length;·rw[fB hk]at e;exact I k r H2 h (u.trans C) (z k r e)
  .rw[dg 'D']at e;have U:k-f.length=0:=by have :=(aF.mp e).1;simp at this;lia
   rw[U]at e;have P:k=i:=by lia
   simp at e;subst e;rw[P];exact L
 .have e:i=n:=by lia
  subst e;exact .inl (S.stop i H2 q (ay _),λl W=>M f H2 l A z s W,)
def cQ{c:TI}{g:TG}{a:TT}{b:TE}{mk:L2.St->L2.St}{Q:VK}(h:c σ H λJ H1=>Ep J g a b (mk σ) H1 Q):wK c g a b mk σ H Q:=h
def iT{a:TI}{g:TG}{tb:TS}{D:Ends}(h:a σ H λJ H1=>ForB J g tb D σ H1):tFor a g tb D σ H:=h
def Ek{R:It->Hp->Prop}(a:σ[i]?<*(some (.str z)))(h:R (Its z) H):F8 K (qG i) σ H R:=(_,a,.inr (.inr (z,rfl,h,)),)
def cD{R:It->Hp->Prop}(b:σ[i]?<*(some (.ref a)))(hq:SqL K H a xs)(h:R (Itl K a) H):F8 K (qG i) σ H R:=(_,b,.inl (a,rfl,(xs,hq,),h,),)
def vp{R:It->Hp->Prop}(b:σ[i]?<*(some (.ref a)))(hq:SqT K H a xs)(h:R (Itt K a) H):F8 K (qG i) σ H R:=(_,b,.inr (.inl (a,rfl,(xs,hq,),h,)),)
def bool_list{vs:List V}{b:Nat->Bool}(c:vs.length=n)(h:∀(i:Nat) v,vs[i]?<*v->v=.bl (b i)):vs=((aC n).map b).map V.bl:=by
 apply cy;·simp[c]
 .intro i a d;have :=h i vs[i] (by simp[a]);simp[this]
def tG{a:Type}(l:List a)(d:a)(f:a->Bool):((aC l.length).map λi=>f (l.getD i d)).all id=l.all f:=by
 rw[wq,dE];simp only[bj,bq,Ax,id];constructor;·intro h c b;obtain⟨i,hi,rfl⟩:=dH.mp b;have :=h i hi;rw[ag,ae hi]at this;exact this
 .intro h i hi;have :=h _ (aR hi);rw[ag,ae hi];exact this
def getD_some{a:Type}{l:List a}{d x:a}(h:l[i]?<*x):l.getD i d=x:=by rw[ag,h];rfl
theorem pL:∀ns:List Int,gQ (ns.map D.int)=0
 | []=>rfl
 |n::ns=>by rw[bG,gQ,pL ns];rfl
def xQ(x y:Str):(x++y).length=x.length+y.length:=by show(x.cps++y.cps).size=_;rw[Array.size_append];rfl
end
def HasFn(K:ah)(x:Str)(st:Stmt):Prop:=∃(f:Addr)(oc:Value)(od an:Option Addr)(bv:Array (Option Value))(kV ap pm am ct:Value),cY K bx x<*(some (.ref f))/\
 K.lookup f<*(oc,od,.func (aB x x (aX st) (aS st) (aJ st) .none kV ap pm an am ct),bv,)/\eF K am x=true/\cj K (.ref f)=true
def Ny{x:Str}{st:Stmt}{an:Option Addr}{kV:Value}(a:cY K bx x<*(some (.ref f)))
  (l:K.lookup f<*(oc,od,.func (aB x x (aX st) (aS st) (aJ st) .none kV ap pm an am ct),bv,))(c:eF K am x=true)(k:cj K (.ref f)=true):HasFn K x st:=
 (f,oc,od,an,bv,kV,ap,pm,am,ct,a,l,c,k,)
structure Def(K:ah)(mg:Str->Option Value)(x:Str)(st:Stmt):Prop where
 ex:∃f fd,Fun K x x st f fd/\mg x<*(.ref f)
def HasFn.def{x:Str}{st:Stmt}(X:K.In h)(b:h.Ns bx mg)(H:HasFn K x st):Def K mg x st:=by obtain⟨f,i,j,an,m,kV,g,n,d,e,a,l,c,k⟩:=H;exact(f,_,Ga l c k,cL X b a,)
section
variable {mg:Str->Option Value}
def cB{vals:List (Str×V)}{b:List ((Str×Nat)×(Sp×List V))}{x:Str}{st:Stmt}{sp:Sp}{l:CB}{e i j:List ((Str×Nat)×(Addr×Sp×List V))}{a:List (Addr×List (Key×V))}(g:GOk P w K mg base (CXx P w) k (gam vals b e a i j))(d:Def K mg x st)
  (c:(oa N ps (aJ st)&&qV (aJ st) N l (aS st))=true)
  (m:∀(kV ap pm:Value)(an:Option Addr)(am ct:Value)(us:List Value),us.length=ps.length->ri (aB x x (aX st) (aS st) (aJ st) .none kV ap pm an am ct) (us,[],)=pure (ps.zip us))
  (len:∀vs H Q E,sp vs H Q E->vs.length=ps.length)
  (h:∀vs H Q E,sp vs H Q E->wpB (gam vals b e a i j) K (λ_=>E) l {nx:=λ_ H'=>Q .non H',rt:=Q} (L2.start N vs) H):GOk P w K mg base (CXx P w) (k+1) (gam vals (((x,ps.length),(sp,[]))::b) e a i j):=by
 rw[az]at c;obtain⟨f,p,F,o⟩:=d.ex;exact g.add (n:=ps.length) (HU F c.1 c.2 g len h) o F.kp (F.binds m) .nil
end
end R
local macro_rules|`(tactic|ext)=>do let a:=("R.wpB R.wpS R.wpE R.wpT R.wpL R.wpO R.wpC R.wpG R.wpGs R.wpI L2.lG L2.tRet L2.KZ L2.CA L2.nU L2.K2 L2.tIfS L2.K6 L2.tOrV L2.K1 L2.tNot L2.tAnd L2.tOr L2.wI R.Cy L2.tIf L2.tCB L2.jy L2.rD L2.qG L2.tC L2.tOp L2.tUn L2.wL L2.tTup L2.tLst L2.CD L2.tBM L2.tSl L2.K0 L2.AK R.cv L2.iS L2.gTup L2.NA L2.gNil R.CGs.len L2.Nq L2.Np L2.Nr L2.Nu List.getElem?_cons_zero List.getElem?_cons_succ Option.some.injEq exists_eq_left' exists_eq_left L2.V.bl.injEq L2.V.int.injEq L2.V.str.injEq List.set_cons_zero List.set_cons_succ R.CL.len R.Ty.t R.B5 R.K8 R.mul_ii R.um R.div_ii R.pow_ii R.shr_ii R.Ov R.MR R.MY R.HM R.lq R.ME R.eq_ss R.is_n R.isnot_n R.len_s R.idx_s R.cut_s List.append_nil R.mO List.map_cons List.map_nil List.nil_append List.cons_append".splitOn " ").toArray.map λs=>Lean.mkIdent ("_root_."++s).toName;`(tactic|simp only[$[$a:term],*])
namespace Cp
open R
abbrev Fz:List Str:=["thing"]
abbrev xE:List Str:=["thing"]
abbrev yz:CB:=
  (.cons (.ret (.and (.bfn .isinstance (.cons (.var 0) (.cons (.ty .int) .nil))) (.not (.bfn .isinstance (.cons (.var 0) (.cons (.ty .bool) .nil))))))
  .nil)
abbrev Jj:List Str:=["thing"]
abbrev zO:List Str:=["thing"]
abbrev Aa:CB:=
  (.cons (.iff (.not (.bfn .isinstance (.cons (.var 0) (.cons (.ty .str) .nil))))
  (.cons (.ret (.con (.bool false)))
  .nil)
  .nil)
  (.cons (.iff (.not (.chain .LtE .LtE (.con (.int 1)) (.bfn .len (.cons (.var 0) .nil)) (.glo "LONGEST_NAME")))
  (.cons (.ret (.con (.bool false)))
  .nil)
  .nil)
  (.cons (.ret (.bfn .all (.cons (.comp ["sign"] [] (.name 0) (.seq (.var 0)) .no (.cmp .In (.var 0) (.glo "LETTERS"))) .nil)))
  .nil)))
abbrev Be:List Str:=["thing"]
abbrev rX:List Str:=["thing"]
abbrev sW:CB:=
  (.cons (.ret (.and (.call "is_whole" (.cons (.var 0) .nil)) (.cmp .In (.var 0) (.tup (.cons (.con (.int 0)) (.cons (.con (.int 1)) .nil))))))
  .nil)
abbrev xm:List Str:=["thing"]
abbrev oy:List Str:=["thing"]
abbrev pj:CB:=
  (.cons (.iff (.or (.not (.bfn .isinstance (.cons (.var 0) (.cons (.ty .tuple) .nil)))) (.cmp .Gt (.bfn .len (.cons (.var 0) .nil)) (.glo "MOST_PLACES")))
  (.cons (.ret (.con (.bool false)))
  .nil)
  .nil)
  (.cons (.ret (.bfn .all (.cons (.comp ["part"] [] (.name 0) (.seq (.var 0)) .no (.call "is_reading" (.cons (.var 0) .nil))) .nil)))
  .nil))
end Cp
set_option maxHeartbeats 1000000
namespace Cp
open L2 R
abbrev iD:Option HO->String
 |some (.lst _)=>"list"
 |some (.frz _ (.lst _))=>"list"
 |some (.tup _)=>"tuple"
 |some (.dK _)=>"dict"
 |some (.dT _)=>"dict"
 |_=>"?"
abbrev tyName(H:Hp):V->String
 |.non=>"NoneType"
 |.bl _=>"bool"
 |.int _=>"int"
 |.str _=>"str"
 |.ref a=>iD (H a)
 |_=>"?"
def Known(H:Hp)(x:V):Prop:=tyName H x≠"?"
def Known.same(h:Known H x)(s:aD H H'):Known H' x/\tyName H' x=tyName H x:=by
 cases x with
 |ref a=>
  have b:iD (H a)≠"?":=h;show iD (H' a)≠"?"/\iD (H' a)=iD (H a);cases e:H a with
  |none=>rw[e]at b;exact absurd rfl b
  |some o=>rw[s a o e];rw[e]at b;exact(b,rfl,)
 |_=>exact(h,rfl,)
def Known.ty(h:Known H x):nN K H x (.type (tyName H x)):=by
 cases x with
 |non=>exact .non
 |bl b=>exact .bl b
 |int i=>exact .int i
 |str s=>exact .str s
 |ref a=>
  have c:iD (H a)≠"?":=h;show nN K H (.ref a) (.type (iD (H a)));cases e:H a with
  |none=>rw[e]at c;exact absurd rfl c
  |some o=>
   rw[e]at c;cases o with
   |lst xs=>exact .lst e
   |tup xs=>exact .tup e
   |dK kvs=>exact .dK e
   |dT kvs=>exact .dT e
   |frz ob u=>
    cases u with
    |lst xs=>exact .frz e
    |_=>exact absurd rfl c
   |_=>exact absurd rfl c
 |_=>exact absurd rfl h
def Nv{P:Option HO->Prop}(o:Option HO)(c:∀xs,P (some (.lst xs)))(d:∀b xs,P (some (.frz b (.lst xs))))(e:∀xs,P (some (.tup xs)))(f:∀kvs,P (some (.dK kvs)))(g:∀kvs,P (some (.dT kvs)))(a:iD o="?"->P o):P o:=by
 cases o with
 |none=>exact a rfl
 |some o=>
  cases o with
  |lst xs=>exact c xs
  |tup xs=>exact e xs
  |dK kvs=>exact f kvs
  |dT kvs=>exact g kvs
  |frz b u=>
   cases u with
   |lst xs=>exact d b xs
   |_=>exact a rfl
  |_=>exact a rfl
def Known.mem(h:Known H x):tyName H x∈["NoneType","bool","int","str","list","tuple","dict"]:=by
 cases x with
 |ref a=>
  have b:iD (H a)≠"?":=h;show iD (H a)∈_;cases e:H a with
  |none=>rw[e]at b;exact absurd rfl b
  |some o=>
   rw[e]at b;cases o with
   |lst xs=>show "list"∈_;decide
   |tup xs=>show "tuple"∈_;decide
   |dK kvs=>show "dict"∈_;decide
   |dT kvs=>show "dict"∈_;decide
   |frz ob u=>
    cases u with
    |lst xs=>show "list"∈_;decide
    |_=>exact absurd rfl b
   |_=>exact absurd rfl b
 |_=>first
  |exact absurd rfl h
  |exact aM
  |exact aG _ aM
  |exact aG _ (aG _ aM)
  |exact aG _ (aG _ (aG _ aM))
abbrev jV(a b:String):Bool:=a==b||(a=="bool"&&b=="int")
def kit_ty(K:ah):∀(a:String)(t:Ty),a∈["NoneType","bool","int","str","list","tuple","dict"]->cF K (.type a) (.type t.t)<*(jV a t.t):=by intro a t h;simp only[aA,bg,or_false]at h;rcases h with rfl|rfl|rfl|rfl|rfl|rfl|rfl<;>cases t<;>rfl
def isi{Q:VK}(h:Known H x)(t:Ty)(q:Q (.bl (jV (tyName H x) t.t)) H):rBf K .isinstance [x,.ty t.t] H Q:=
 .inl (x,t.t,_,_,rfl,h.ty,kit_ty K _ t h.mem,q,)
def By{i:Int}:Known H (.int i):=by show "int"≠"?";decide
def kn_bl{i:Bool}:Known H (.bl i):=by show "bool"≠"?";decide
def FV:Known H .non:=by show "NoneType"≠"?";decide
def xS{x:Str}:Known H (.str x):=by show "str"≠"?";decide
def qO(h:H a<*(.tup xs)):Known H (.ref a):=by show iD (H a)≠"?";rw[h];show "tuple"≠"?";decide
def uu(h:H a<*(.lst xs)):Known H (.ref a):=by show iD (H a)≠"?";rw[h];show "list"≠"?";decide
def kn_dK{xs:List (Key×V)}(h:H a<*(.dK xs)):Known H (.ref a):=by show iD (H a)≠"?";rw[h];show "dict"≠"?";decide
def fH{o:HO}(s:aD H H1)(h:H l=none):aD H (upd H1 l o):=λb u e=>by rw[aV (bL e h)];exact s b u e
abbrev isWhole:V->Bool
 |.int _=>true
 |_=>false
abbrev bF:V->Bool
 |.int i=>i==0||i==1
 |_=>false
def spB(f:V->Bool):Sp:=λvs H Q _=>∃x,vs=[x]/\Known H x/\∀H',aD H H'->Q (.bl (f x)) H'
def sub_int(h:Known H x):(jV (tyName H x) "int"&& !jV (tyName H x) "bool")=isWhole x:=by
 cases x with
 |ref a=>have b:iD (H a)≠"?":=h;exact Nv (P:=λo=>(jV (iD o) "int"&& !jV (iD o) "bool")=false) (H a) (λ_=>rfl) (λ_ _=>rfl) (λ_=>rfl) (λ_=>rfl) (λ_=>rfl) λe=>by rw[e];rfl
 |_=>rfl
def Cr{G:Gam}:Sat G K (spB isWhole) yz xE:=by
 rintro c H Q E ⟨x,rfl,b,q⟩;unfold yz;change wpB G K _ _ _ [some x] H;ext;refine isi b .int (_,rfl,?_,);have e:=sub_int b;cases h1:jV (tyName H x) "int" with
 |false=>rw[h1,cU]at e;have a:=q H (aD.refl H);rw[<-e]at a;simpa[Ty.t,h1]using a
 |true=>rw[h1,fh]at e;have a:=q H (aD.refl H);rw[<-e]at a;simp only[Ty.t,h1,if_true];exact isi b .bool (_,rfl,a,)
def yU{G:Gam}(d:G.fn "is_whole" 1<*(spB isWhole,[])):
  Sat G K (spB bF) sW rX:=by
 rintro j H Q E ⟨x,rfl,f,q⟩;unfold sW;change wpB G K _ _ _ [some x] H;ext;refine(_,_,d,x,rfl,f,λc b=>(_,rfl,?_,),);cases x with
 |int i=>
  refine('E',λp g=>.inr (p,_,rfl,.inr (SqT.of aq),rfl,rfl,?_,),);have h:=q _ (b.trans (au (o:=.tup [.int 0,.int 1]) g));have e:(if false=true then !inV (.int i) [.int 0,.int 1]else inV (.int i) [.int 0,.int 1])=bF (.int i):=by show((0:Int)==i||((1:Int)==i||false))=(i==0||i==1);rw[Bool.or_false,Bool.beq_comm,Bool.beq_comm (a:=(1:Int))]
  rw[e];exact h
 |_=>exact q c b
abbrev jO(c:Nat):Bool:=decide (97<=c/\c<=122)
abbrev eJ(z:Str):Bool:=decide (1<=z.length/\z.length<=8)&&z.cps.toList.all jO
abbrev isName:V->Bool
 |.str z=>eJ z
 |_=>false
abbrev LETTERS:Str:="abcdefghijklmnopqrstuvwxyz"
def DF(c:Nat):decide (c∈LETTERS.cps.toList)=jO c:=by unfold jO;rw[show LETTERS.cps.toList=List.range' 97 26 by decide+kernel,decide_eq_decide,List.mem_range'_1];exact(λh=>(h.1,Nat.le_of_lt_succ h.2,),λh=>(h.1,Nat.lt_succ_of_le h.2,),)
def F6{c:Nat}{Q:VK}(q:Q (.bl (jO c)) H):gh K .In (.str ⟨#[c]⟩) (.str LETTERS) H Q:=by refine .inl (.inl (_,_,rfl,rfl,?_,));rw[StrLaws.found_one,DF];exact q
def FQ:(20000:Nat)<=sizeLine:=by decide
def spN:Sp:=λvs H Q _=>∃x,vs=[x]/\Known H x/\(∀z,x=.str z->z.length<=20000)/\∀H',aD H H'->Q (.bl (isName x)) H'
def sub_str(h:Known H x):jV (tyName H x) "str"=(match x with |.str _=>true|_=>false):=by
 cases x with
 |ref a=>exact Nv (P:=λo=>jV (iD o) "str"=false) (H a) (λ_=>rfl) (λ_ _=>rfl) (λ_=>rfl) (λ_=>rfl) (λ_=>rfl) λe=>by rw[e];rfl
 |_=>rfl
def EN{G:Gam}(v1:G.val "LETTERS"<*(.str LETTERS))(A:G.val "LONGEST_NAME"<*(.int 8)):
  Sat G K spN Aa zO:=by
 rintro B H Q E ⟨x,rfl,m,g,q⟩;unfold Aa;change wpB G K _ _ _ [some x] H;ext;refine isi m .str (_,rfl,?_,);rw[show Ty.t .str="str" from rfl,sub_str m];cases x with
 |str z=>
  have g:=g z rfl;have n:z.length<=sizeLine:=aO g FQ;have all:∀R:VK,(∀b,aD H b->R (.bl (z.cps.toList.all jO)) b)->wK (F8 K (qG 0)) (iS 0) tYes (tOp (gh K .In) (qG 0) λF H Q=>∃v,G.val "LETTERS"<*v/\Q v H) (mO ["sign"] []) [some (.str z)] H λx j=>rBf K .all [x] j R:=by
   intro R r;refine cQ (Ek rfl (cW seq_str n (λ_ _=>trivial) (λi v _=>v=.bl (jO (z.cps.toList.getD i 0))) (λ_ _ _ _ _ h=>h) (λo=>∃t,o=[t]) (none,rfl,) ?_ ?_))
   .rintro i x o C R hi ⟨t,rfl⟩ D ⟨c,s,rfl⟩ k;refine(_,rfl,_,v1,F6 (k _ _ _ (_,rfl,) (aD.refl _) ?_),);have :z.cps.toList[i]?<*c:=by simpa using s
    rw[ag,this];rfl
   .intro B j l w p y u;have e:=bool_list w p;subst e;refine(l,_,rfl,SqL.of aq,?_,);have f:((aC z.length).map λi=>jO (z.cps.toList.getD i 0)).all id=z.cps.toList.all jO:=by have :=tG z.cps.toList 0 jO;rw[show z.cps.toList.length=z.length by simp[Eu]]at this;exact this
    rw[f];exact r _ (y.trans (au u))
  simp only[gF,aY,if_false,A,iK,exists_eq_left',exists_eq_left,V.bl.injEq,V.int.injEq,MY,len_s,n,true_and];have a:∀b,aD H b->Q (.bl (eJ z)) b:=q;unfold eJ at a;by_cases h1:1<=z.length
  .by_cases h2:z.length<=8;·have d:decide ((1:Int)<=z.length)=true:=decide_eq_true 'D';have f:decide ((z.length:Int)<=8)=true:=decide_eq_true 'D';rw[decide_eq_true (And.intro h1 h2),fh]at a;simp only[d,f,if_true,gF,aY,if_false];exact all Q a
   .have d:decide ((1:Int)<=z.length)=true:=decide_eq_true 'D';have f:decide ((z.length:Int)<=8)=false:=decide_eq_false 'D';rw[decide_eq_false (λh=>h2 h.2),cU]at a;simp only[d,f,if_true,Bool.not_false];exact a H (aD.refl H)
  .have d:decide ((1:Int)<=z.length)=false:=decide_eq_false 'D';rw[decide_eq_false (λh=>h1 h.1),cU]at a;simp only[d,aY,if_false,Bool.not_false,if_true];exact a H (aD.refl H)
 |_=>exact q H (aD.refl H)
abbrev cN:Option HO->Option (List V)
 |some (.tup xs)=>some xs
 |_=>none
def mS{o:Option HO}(h:cN o<*xs):o<*(.tup xs):=by
 cases o with
 |none=>cases h
 |some o=>cases o<;>first | (cases h;rfl) |cases h
def zA(o:Option HO):jV (iD o) "tuple"=(cN o).isSome:=by
 cases o with
 |none=>rfl
 |some o=>
  cases o with
  |frz ob u=>cases u<;>rfl
  |_=>rfl
abbrev bZ(H:Hp):V->Bool
 |.ref a=>match cN (H a)with
  |some xs=>decide (xs.length<=60)&&xs.all bF
  |none=>false
 |_=>false
def spR:Sp:=λvs H Q _=>∃x,vs=[x]/\Known H x/\(∀a xs,x=.ref a->H a<*(.tup xs)->xs.length<=20000/\∀y∈xs,Known H y)/\∀H',aD H H'->Q (.bl (bZ H x)) H'
def vB{G:Gam}(m:G.fn "is_reading" 1<*(spB bF,[]))(v1:G.val "MOST_PLACES"<*(.int 60)):
  Sat G K spR pj oy:=by
 rintro I H Q E ⟨x,rfl,o,w,q⟩;unfold pj;change wpB G K _ _ _ [some x] H;ext;refine isi o .tuple (_,rfl,?_,);rw[show Ty.t .tuple="tuple" from rfl];cases x with
 |ref a=>
  show if(!jV (iD (H a)) "tuple")=true then _ else _
  rw[zA];have d:∀b,aD H b->Q (.bl (match cN (H a)with |some xs=>decide (xs.length<=60)&&xs.all bF|none=>false)) b:=q;cases e0:cN (H a)with
  |none=>rw[e0]at d;exact d H (aD.refl H)
  |some xs=>
    rw[e0]at d;have e:=mS e0;have c:∀b,aD H b->Q (.bl (decide (xs.length<=60)&&xs.all bF)) b:=d;obtain⟨p,z⟩:=w a xs rfl e;have r:xs.length<=sizeLine:=aO p FQ;simp only[gd,gF,aY,if_false];refine Or.inl (a,xs,rfl,.inr (SqT.of e),_,v1,?_,);rw[HM];refine(_,rfl,?_,);by_cases hle:xs.length<=60
    .rw[decide_eq_true hle,fh]at c;have f:decide ((60:Int)<xs.length)=false:=decide_eq_false 'D';rw[f];simp only[aY,if_false];refine cQ (vp rfl (SqT.of e) (cW A0 r (λJ B=>B.tup (SqT.of e)) (λi v _=>v=.bl (bF (xs.getD i .non))) (λ_ _ _ _ _ h=>h) (λj=>∃t,j=[t]) (none,rfl,) ?_ ?_));·rintro i y j M R hi ⟨t,rfl⟩ D g k;have A:y∈xs:=aH g;exact⟨_,_,m,y,rfl,y,rfl,((z y A).same D).1,λN F=>k _ _ _ (_,rfl,) F (by rw[getD_some g])⟩
     .intro I L l u n C s;have e:=bool_list u n;subst e;refine(l,_,rfl,SqL.of aq,?_,);rw[tG xs .non bF];exact c _ (C.trans (au s))
    .rw[decide_eq_false hle,cU]at c;have f:decide ((60:Int)<xs.length)=true:=decide_eq_true 'D';rw[f];simpa using c H (aD.refl H)
 |_=>exact q H (aD.refl H)
end Cp
namespace Cp
open R
abbrev Jk:List Str:=["thing"]
abbrev zP:List Str:=["thing"]
abbrev Ab:CB:=
  (.cons (.iff (.or (.not (.bfn .isinstance (.cons (.var 0) (.cons (.ty .tuple) .nil)))) (.cmp .NotEq (.bfn .len (.cons (.var 0) .nil)) (.con (.int 2))))
  (.cons (.ret (.con (.bool false)))
  .nil)
  .nil)
  (.cons (.ret (.and (.call "is_name" (.cons (.idx (.var 0) (.con (.int 0))) .nil)) (.call "are_readings" (.cons (.idx (.var 0) (.con (.int 1))) .nil))))
  .nil))
abbrev FA:List Str:=["thing"]
abbrev xF:List Str:=["thing","names","counts"]
abbrev yA:CB:=
  (.cons (.iff (.or (.not (.bfn .isinstance (.cons (.var 0) (.cons (.ty .list) .nil)))) (.cmp .Gt (.bfn .len (.cons (.var 0) .nil)) (.glo "MOST_COPIES")))
  (.cons (.ret (.con (.bool false)))
  .nil)
  .nil)
  (.cons (.iff (.not (.bfn .all (.cons (.comp ["part"] [] (.name 0) (.seq (.var 0)) .no (.call "is_copy" (.cons (.var 0) .nil))) .nil)))
  (.cons (.ret (.con (.bool false)))
  .nil)
  .nil)
  (.cons (.asgc 1 (.comp ["name","readings"] [] (.tup (.cons (.name 0) (.cons (.name 1) .nil))) (.seq (.var 0)) .no (.var 0)))
  (.cons (.asgc 2 (.comp ["name","readings"] [] (.tup (.cons (.name 0) (.cons (.name 1) .nil))) (.seq (.var 0)) .no (.bfn .len (.cons (.var 1) .nil))))
  (.cons (.ret (.and (.cmp .Eq (.bfn .len (.cons (.bfn .set (.cons (.var 1) .nil)) .nil)) (.bfn .len (.cons (.var 1) .nil))) (.cmp .LtE (.bfn .len (.cons (.bfn .set (.cons (.var 2) .nil)) .nil)) (.con (.int 1)))))
  .nil)))))
abbrev Bb:List Str:=["table"]
abbrev rT:List Str:=["table"]
abbrev sP:CB:=
  (.cons (.iff (.not (.call "is_table" (.cons (.var 0) .nil)))
  (.cons (.rais "NoTable" (.cons (.con (.str "this is no table")) .nil))
  .nil)
  .nil)
  .nil)
abbrev yZ:List Str:=["table"]
abbrev p8:List Str:=["table"]
abbrev qo:CB:=
  (.cons (.expr (.call "need_table" (.cons (.var 0) .nil)))
  (.cons (.iff (.cmp .Eq (.bfn .len (.cons (.var 0) .nil)) (.con (.int 0)))
  (.cons (.ret (.con (.int 0)))
  .nil)
  .nil)
  (.cons (.ret (.bfn .len (.cons (.idx (.idx (.var 0) (.con (.int 0))) (.con (.int 1))) .nil)))
  .nil)))
end Cp
namespace Cp
open L2 R
def Kn1(H:Hp)(x:V):Prop:=Known H x/\∀z,x=.str z->z.length<=20000
def Kn2(H:Hp)(x:V):Prop:=Kn1 H x/\∀a xs,x=.ref a->H a<*(.tup xs)->xs.length<=20000/\∀y∈xs,Kn1 H y
def Kn3(H:Hp)(x:V):Prop:=Kn1 H x/\∀a xs,x=.ref a->H a<*(.tup xs)->xs.length<=20000/\∀y∈xs,Kn2 H y
abbrev cS:Option HO->Option (List V)
 |some (.lst xs)=>some xs
 |some (.frz _ (.lst xs))=>some xs
 |_=>none
def Kn4(H:Hp)(x:V):Prop:=Kn1 H x/\∀a xs,x=.ref a->cS (H a)<*xs->xs.length<=20000/\∀y∈xs,Kn3 H y
def Aq{o:HO}(s:aD H H')(k:H a≠none)(h:H' a<*o):H a<*o:=by
 cases e:H a with
 |none=>exact absurd e k
 |some u=>rw[s a u e]at h;exact h
def Known.some(k:Known H (.ref a)):H a≠none:=λe=>by have b:iD (H a)≠"?":=k;rw[e]at b;exact b rfl
theorem Kn1.same(h:Kn1 H x)(s:aD H H'):Kn1 H' x:=((h.1.same s).1,h.2,)
theorem Kn2.same(h:Kn2 H x)(s:aD H H'):Kn2 H' x:=⟨h.1.same s,λa d e b=>by subst e;obtain⟨l,k⟩:=h.2 a d rfl (Aq s h.1.1.some b);exact(l,λy c=>(k y c).same s,)⟩
theorem Kn3.same(h:Kn3 H x)(s:aD H H'):Kn3 H' x:=⟨h.1.same s,λa d e b=>by subst e;obtain⟨l,k⟩:=h.2 a d rfl (Aq s h.1.1.some b);exact(l,λy c=>(k y c).same s,)⟩
def uF(h:Known H x)(s:aD H H'):bZ H' x=bZ H x:=by
 cases x with
 |ref a=>
  show(match cN (H' a)with |some xs=>_|none=>_)=(match cN (H a)with |some xs=>_|none=>_);cases e:H a with
  |none=>exact absurd e h.some
  |some o=>rw[s a o e]
 |_=>rfl
abbrev cP(H:Hp):V->Bool
 |.ref a=>match cN (H a)with
  |some [n,r]=>isName n&&bZ H r
  |_=>false
 |_=>false
def pN(h:Kn3 H x)(s:aD H H'):cP H' x=cP H x:=by
 cases x with
 |ref a=>
  show(match cN (H' a)with |some [n,r]=>_|_=>_)=(match cN (H a)with |some [n,r]=>_|_=>_);cases e:H a with
  |none=>exact absurd e h.1.1.some
  |some o=>
   rw[s a o e];cases o with
   |tup xs=>
    match xs with
    | []=>rfl
    | [_]=>rfl
    | [n,r]=>have k:=(h.2 a _ rfl e).2 r 'F';show(isName n&&bZ H' r)=(isName n&&bZ H r);rw[uF k.1.1 s]
    |_::_::_::_=>rfl
   |_=>rfl
 |_=>rfl
def spC:Sp:=λvs H Q _=>∃x,vs=[x]/\Kn3 H x/\∀H',aD H H'->Q (.bl (cP H x)) H'
def EO{G:Gam}(t:G.fn "is_name" 1<*(spN,[]))(u:G.fn "are_readings" 1<*(spR,[])):
  Sat G K spC Ab zP:=by
 rintro B H Q E ⟨x,rfl,i,q⟩;unfold Ab;change wpB G K _ _ _ [some x] H;ext;refine isi i.1.1 .tuple (_,rfl,?_,);rw[show Ty.t .tuple="tuple" from rfl];cases x with
 |ref a=>
  show if(!jV (iD (H a)) "tuple")=true then _ else _
  rw[zA];have c:∀f,aD H f->Q (.bl (match cN (H a)with |some [n,r]=>isName n&&bZ H r|_=>false)) f:=q;cases e0:cN (H a)with
  |none=>rw[e0]at c;exact c H (aD.refl H)
  |some xs=>
   have e:=mS e0;rw[e0]at c;obtain⟨w,d⟩:=i.2 a xs rfl e;simp only[gd,gF,aY,if_false];refine Or.inl (a,xs,rfl,.inr (SqT.of e),?_,);show gh K .NotEq (.int (xs.length:Int)) (.int 2) H _;rw[ME];refine(_,rfl,?_,)
   match xs,w,d,e,c with
   | [],_,_,_,c=>exact c H (aD.refl H)
   | [_],_,_,_,c=>exact c H (aD.refl H)
   |_::_::_::r,_,_,_,c=>rw[if_pos (by simp;lia)];exact c H (aD.refl H)
   | [n,r],_,d,e,c=>
    rw[if_neg 'F'];have kn:=d n 'F';have j:=d r 'F';refine(_,_,t,.inr (.inl (a,[n,r],0,n,rfl,rfl,SqT.of e,rfl,n,rfl,kn.1.1,kn.1.2,λo g=>(_,rfl,?_,),)),);have h:∀f,aD H f->Q (.bl (isName n&&bZ H r)) f:=c;cases en:isName n with
    |false=>rw[en,cU]at h;rw[if_neg ao];exact h o g
    |true=>
     rw[en,fh]at h;rw[if_pos rfl];have m:=j.same g;refine(_,_,u,.inr (.inl (a,[n,r],1,r,rfl,rfl,g.tup (SqT.of e),rfl,r,rfl,m.1.1,λb A s v=>?_,λp z=>?_,)),);·obtain⟨l,k⟩:=m.2 b A s v;exact(l,λy d=>(k y d).1,)
     .rw[uF j.1.1 g];exact h p (g.trans z)
 |_=>exact q H (aD.refl H)
def DC{vs:List V}{f:V->V}(c:vs.length=xs.length)(h:∀(i:Nat) v,vs[i]?<*v->v=f (xs.getD i .non)):vs=xs.map f:=by
 apply cy;·simp[c]
 .intro i a d;have b:i<xs.length:=by lia
  have :=h i vs[i] (by simp[a]);rw[this,cw,ag,ae b];rfl
theorem zL:∀(l:List Str),(l.map (fJ:Str->Key)).Nodup↔l.Nodup
 | []=>by simp
 |x::l=>by
  rw[bG,cT,cT,zL l];have e:fJ x∈l.map (fJ:Str->Key)↔x∈l:=by
   constructor
   .intro h;obtain⟨y,a,e⟩:=aN.mp h;injection e with e
    rw[<-e];exact a
   .exact λh=>aN.mpr (x,h,rfl,)
  rw[e]
def jz(h:cS (H a)<*xs):SqL K H a xs:=by
 cases e:H a with
 |none=>rw[e]at h;cases h
 |some o=>
  rw[e]at h;cases o with
  |lst ys=>cases h;exact .inl (.inl e)
  |frz ob u=>cases u<;>first | (cases h;exact .inl (.inr ⟨ob,e⟩)) |cases h
  |_=>cases h
def K7(o:Option HO):jV (iD o) "list"=(cS o).isSome:=by
 cases o with
 |none=>rfl
 |some o=>
  cases o with
  |frz ob u=>cases u<;>rfl
  |_=>rfl
abbrev aK(H:Hp):V->Str
 |.ref a=>match cN (H a)with
  |some (.str z::_)=>z
  |_=>""
 |_=>""
abbrev bE(H:Hp):V->Nat
 |.ref a=>match cN (H a)with
  |some [_,.ref b]=>(cN (H b)).elim 0 eP
  |_=>0
 |_=>0
def iy(h:cP H x=true):∃a z b ys,x=.ref a/\H a<*(.tup [.str z,.ref b])/\H b<*(.tup ys)/\eJ z=true/\ys.length<=60/\(∀y∈ys,bF y=true)/\aK H x=z/\bE H x=ys.length:=by
 cases x with
 |ref a=>
  have d:(match cN (H a)with |some [n,r]=>isName n&&bZ H r|_=>false)=true:=h;split at d
  .rename_i n r e;rw[az]at d;obtain⟨f,g⟩:=d;cases n with
   |str z=>
    cases r with
    |ref b=>
     have c:(match cN (H b)with |some xs=>decide (xs.length<=60)&&xs.all bF|none=>false)=true:=g;split at c
     .rename_i ys eb;rw[az,decide_eq_true_eq,bj]at c;refine(a,z,b,ys,rfl,mS e,mS eb,f,c.1,c.2,?_,?_,);·show(match cN (H a)with |some (.str z::_)=>z|_=>"")=z;rw[e]
      .show(match cN (H a)with |some [_,.ref b]=>(cN (H b)).elim 0 eP|_=>0)=ys.length;rw[e];show(cN (H b)).elim 0 eP=ys.length;rw[eb];rfl
     .cases c
    |_=>cases g
   |_=>cases f
  .cases d
 |_=>cases h
abbrev bC(H:Hp):V->Bool
 |.ref a=>match cS (H a)with
  |some xs=>decide (xs.length<=40)&&(xs.all (cP H)&&(decide ((xs.map (aK H)).Nodup)&&decide (∀y∈xs,∀z∈xs,bE H y=bE H z)))
  |none=>false
 |_=>false
def spT:Sp:=λvs H Q _=>∃x,vs=[x]/\Kn4 H x/\∀H',aD H H'->Q (.bl (bC H x)) H'
def Ct{G:Gam}(g1:G.fn "is_copy" 1<*(spC,[]))(v1:G.val "MOST_COPIES"<*(.int 40)):
  Sat G K spT yA xF:=by
 rintro vs H Q c0 ⟨a0,rfl,W,q⟩;unfold yA;change wpB G K _ _ _ [some a0,none,none] H;ext;refine isi W.1.1 .list (_,rfl,?_,);rw[show Ty.t .list="list" from rfl];cases a0 with
 |ref a=>
  show if(!jV (iD (H a)) "list")=true then _ else _
  rw[K7];have x:∀f,aD H f->Q (.bl (match cS (H a)with |some xs=>decide (xs.length<=40)&&(xs.all (cP H)&&(decide ((xs.map (aK H)).Nodup)&&decide (∀y∈xs,∀z∈xs,bE H y=bE H z))) |none=>false)) f:=q;cases e0:cS (H a)with
  |none=>rw[e0]at x;exact x H (aD.refl H)
  |some xs=>
   rw[e0]at x;obtain⟨hl,hy⟩:=W.2 a xs rfl e0;have L:xs.length<=sizeLine:=aO hl FQ;simp only[gd,gF,aY,if_false];refine Or.inl (a,xs,rfl,.inl (jz e0),_,v1,?_,);rw[HM];refine(_,rfl,?_,);by_cases hle:xs.length<=40
   .rw[decide_eq_false (by lia:¬(40:Int)<xs.length),if_neg ao];have m:∀f,aD H f->Q (.bl (xs.all (cP H)&&(decide ((xs.map (aK H)).Nodup)&&decide (∀y∈xs,∀z∈xs,bE H y=bE H z)))) f:=λf s'=>by have z:Q (.bl (decide (xs.length<=40)&&(xs.all (cP H)&&(decide ((xs.map (aK H)).Nodup)&&decide (∀y∈xs,∀z∈xs,bE H y=bE H z))))) f:=x f s';rw[decide_eq_true hle,fh]at z;exact z
    have B:∀{r:Hp},aD H r->SqL K r a xs:=λn=>n.seq (jz e0);refine cQ (cD rfl (jz e0) (cW dI L (λr n=>B n) (λi v _=>v=.bl (cP H (xs.getD i .non))) (λ_ _ _ _ _ h=>h) (λg=>∃t,g=[t]) (none,rfl,) ?_ ?_));·rintro i y g T R hi ⟨t,rfl⟩ e d k;have Y:=hy y (aH d);exact⟨_,_,g1,y,rfl,y,rfl,Y.same e,λs A=>k _ _ _ (_,rfl,) A (by rw[getD_some d,pN Y e])⟩
    intro vs S l b5 hF s2 b0;have a1:=bool_list b5 hF;subst a1;refine(l,_,rfl,SqL.of aq,_,rfl,?_,);rw[tG xs .non (cP H)];have e:aD H (upd S l (.lst (((aC xs.length).map λi=>cP H (xs.getD i .non)).map V.bl))):=s2.trans (au b0);generalize upd S l (.lst (((aC xs.length).map λi=>cP H (xs.getD i .non)).map V.bl))=T at e;cases ea:xs.all (cP H)with
    |false=>rw[ea,cU]at m;rw[if_pos (by rfl)];exact m T e
    |true=>
     rw[ea,fh]at m;rw[if_neg 'F'];rw[bj]at ea;have sh:∀{i:Nat}{y:V},xs[i]?<*y->∃a z b o,y=.ref a/\H a<*(.tup [.str z,.ref b])/\H b<*(.tup o)/\aK H y=z/\bE H y=o.length:=λd=>by obtain⟨a,z,b,o,j,D,E,_,_,_,h7,h8⟩:=iy (ea _ (aH d));exact(a,z,b,o,j,D,E,h7,h8,)
     refine cQ (cD rfl (B e) (cW dI L (λr n=>B (e.trans n)) (λi v _=>v=.str (aK H (xs.getD i .non))) (λ_ _ _ _ _ h=>h) (λg=>∃t u,g=[t,u]) (none,none,rfl,) ?_ ?_));·rintro i y g s R hi ⟨t,u,rfl⟩ A d k;obtain⟨b,z,c,o,rfl,j,D,E,U⟩:=sh d;refine(b,_,rfl,(e.trans A).tup (SqT.of j),rfl,_,_,rfl,_,_,rfl,rfl,_,rfl,k _ _ _ (_,_,rfl,) (aD.refl _) ?_,);rw[getD_some d,E]
     intro b8 s l1 b6 a4 A b1;have e1:b8=xs.map λy=>V.str (aK H y):=DC b6 a4;subst e1;have p:aD H (upd s l1 (.lst (xs.map λy=>V.str (aK H y)))):=e.trans (A.trans (au b1));have O:SqL K (upd s l1 (.lst (xs.map λy=>V.str (aK H y)))) l1 (xs.map λy=>V.str (aK H y)):=SqL.of aq;generalize upd s l1 (.lst (xs.map λy=>V.str (aK H y)))=H5 at p O;refine cQ (cD rfl (B p) (cW dI L (λr n=>B (p.trans n)) (λi v _=>v=.int (bE H (xs.getD i .non))) (λ_ _ _ _ _ h=>h) (λg=>∃t u,g=[t,u]) (none,none,rfl,) ?_ ?_));·rintro i y g C R hi ⟨t,u,rfl⟩ F d k;obtain⟨b,z,c,o,rfl,j,D,E,U⟩:=sh d;refine(b,_,rfl,(p.trans F).tup (SqT.of j),rfl,_,_,rfl,_,_,rfl,rfl,_,rfl,Or.inl (c,o,rfl,.inr ((p.trans F).tup (SqT.of D)),k _ _ _ (_,_,rfl,) (aD.refl _) ?_,),);rw[getD_some d,U]
     intro b9 C l2 b7 a5 F b2;have e2:b9=xs.map λy=>V.int (bE H y):=DC b7 a5;subst e2;have I:aD H5 (upd C l2 (.lst (xs.map λy=>V.int (bE H y)))):=F.trans (au b2);have Z:SqL K (upd C l2 (.lst (xs.map λy=>V.int (bE H y)))) l2 (xs.map λy=>V.int (bE H y)):=SqL.of aq;generalize upd C l2 (.lst (xs.map λy=>V.int (bE H y)))=H7 at I Z;have a2:(xs.map λy=>(fJ (aK H y):Key)).map kV=xs.map λy=>V.str (aK H y):=by rw[bT];rfl
     have a3:(xs.map λy=>(eK (bE H y:Int):Key)).map kV=xs.map λy=>V.int (bE H y):=by rw[bT];rfl
     refine(l1,xs.map λy=>(fJ (aK H y):Key),rfl,by rw[a2];exact I.seq O,by rw[ai];lia,λw a6=>?_,);refine .inr (.inr (w,_,rfl,aq,?_,));have J:aD H7 (upd H7 w (_root_.Q.Fd w (_root_.Q.met (xs.map λy=>(fJ (aK H y):Key))).length)):=au a6;generalize upd H7 w (_root_.Q.Fd w (_root_.Q.met (xs.map λy=>(fJ (aK H y):Key))).length)=H8 at J;refine Or.inl (l1,_,rfl,.inl (J.seq (I.seq O)),?_,);show gh K .Eq (.int ((_root_.Q.met (xs.map λy=>(fJ (aK H y):Key))).length:Int)) (.int ((xs.map λy=>V.str (aK H y)).length:Int)) H8 _;rw[lq];refine(_,rfl,?_,);have b3:decide (((_root_.Q.met (xs.map λy=>(fJ (aK H y):Key))).length:Int)=((xs.map λy=>V.str (aK H y)).length:Int))=decide ((xs.map (aK H)).Nodup):=by
      rw[decide_eq_decide,ai];have X:(xs.map λy=>(fJ (aK H y):Key)).Nodup↔(xs.map (aK H)).Nodup:=by
       have :(xs.map λy=>(fJ (aK H y):Key))=(xs.map (aK H)).map fJ:=by rw[bT];rfl
       rw[this];exact zL _
      constructor;·intro z;refine X.mp (_root_.Q.Bn ?_);rw[ai];exact zv z
      .intro z;rw[_root_.Q.Jv (X.mpr z),ai]
     rw[b3];have s9:aD H H8:=p.trans (I.trans J);cases en:decide ((xs.map (aK H)).Nodup)with
     |false=>rw[en,cU]at m;rw[if_neg ao];exact m H8 s9
     |true=>
      rw[en,fh]at m;rw[if_pos rfl];refine(l2,xs.map λy=>(eK (bE H y:Int):Key),rfl,by rw[a3];exact J.seq Z,by rw[ai];lia,λc2 a7=>?_,);refine .inr (.inr (c2,_,rfl,aq,?_,));show gh K .LtE (.int ((_root_.Q.met (xs.map λy=>(eK (bE H y:Int):Key))).length:Int)) (.int 1) _ Q;rw[MY];have b4:decide (((_root_.Q.met (xs.map λy=>(eK (bE H y:Int):Key))).length:Int)<=1)=decide (∀y∈xs,∀z∈xs,bE H y=bE H z):=by
       rw[decide_eq_decide];have j:((_root_.Q.met (xs.map λy=>(eK (bE H y:Int):Key))).length:Int)<=1↔(_root_.Q.met (xs.map λy=>(eK (bE H y:Int):Key))).length<=1:=by lia
       rw[j,_root_.Q.met_one];constructor;·intro z y M P N;have :=z _ (aN.mpr (y,M,rfl,)) _ (aN.mpr (P,N,rfl,));injection this with this;lia
       .intro z k1 a8 k2 a9;obtain⟨y,M,rfl⟩:=aN.mp a8;obtain⟨P,N,rfl⟩:=aN.mp a9;rw[z y M P N]
      rw[b4];exact m _ (s9.trans (au a7))
   .rw[decide_eq_true (by lia:(40:Int)<xs.length),if_pos rfl];have q1:Q (.bl (decide (xs.length<=40)&&(xs.all (cP H)&&(decide ((xs.map (aK H)).Nodup)&&decide (∀y∈xs,∀z∈xs,bE H y=bE H z))))) H:=x H (aD.refl H);rw[decide_eq_false hle,cU]at q1;exact q1
 |_=>exact q H (aD.refl H)
def XC(K:ah)(C:Addr):Prop:=cj K (.ref C)=true/\PySem.W.excIn K C bmV "ValueError.__new__"=true
theorem Kn4.same(h:Kn4 H x)(s:aD H H'):Kn4 H' x:=⟨h.1.same s,λa c e b=>by
 subst e;have d:cS (H a)<*c:=by
  cases e:H a with
  |none=>exact absurd e h.1.1.some
  |some o=>rw[s a o e]at b;exact b
 obtain⟨l,k⟩:=h.2 a c rfl d;exact(l,λy f=>(k y f).same s,)⟩
def rM:(1:Nat)<=sizeLine:=by decide
def wR(C:Addr):Sp:=λvs H Q E=>∃x,vs=[x]/\Kn4 H x/\(bC H x=true->∀H',aD H H'->Q .non H')/\(bC H x=false->∀H',aD H H'->E (.ref C) none H')
def yT{G:Gam}(d:G.fn "is_table" 1<*(spT,[]))(v1:G.val "NoTable"<*(.ref C))(c:XC K C):
  Sat G K (wR C) sP rT:=by
 rintro i H Q E ⟨x,rfl,f,g,h⟩;unfold sP;change wpB G K _ _ _ [some x] H;ext;refine(_,_,d,x,rfl,f,λa b=>(_,rfl,?_,),);cases e:bC H x with
 |true=>rw[if_neg 'F'];exact g e a b
 |false=>rw[if_pos (by rfl)];exact(C,v1,c.1,c.2,rM,h e a b,)
abbrev count(H:Hp):V->Nat
 |.ref a=>match cS (H a)with
  |some (y::_)=>bE H y
  |_=>0
 |_=>0
def cM(h:bC H x=true):∃a xs,x=.ref a/\cS (H a)<*xs/\xs.length<=40/\(∀y∈xs,cP H y=true)/\(xs.map (aK H)).Nodup/\∀y∈xs,bE H y=count H x:=by
 cases x with
 |ref a=>
  have b:(match cS (H a)with |some xs=>decide (xs.length<=40)&&(xs.all (cP H)&&(decide ((xs.map (aK H)).Nodup)&&decide (∀y∈xs,∀z∈xs,bE H y=bE H z))) |none=>false)=true:=h;split at b
  .rename_i xs e;rw[az,az,az,decide_eq_true_eq,decide_eq_true_eq,decide_eq_true_eq,bj]at b;obtain⟨d,f,g,i⟩:=b;refine(a,xs,rfl,e,d,f,g,λy c=>?_,);show _=(match cS (H a)with |some (y::_)=>bE H y|_=>0);rw[e];cases xs with
   |nil=>cases c
   |cons z r=>exact i y c z (.head _)
  .cases b
 |_=>cases h
def vP(C:Addr):Sp:=λvs H Q E=>∃x,vs=[x]/\Kn4 H x/\(bC H x=true->∀H',aD H H'->Q (.int (count H x)) H')/\(bC H x=false->∀H',aD H H'->E (.ref C) none H')
def wz{G:Gam}(m:G.fn "need_table" 1<*(wR C,[])):
  Sat G K (vP C) qo p8:=by
 rintro D H Q E ⟨x,rfl,p,i,u⟩;unfold qo;change wpB G K _ _ _ [some x] H;ext;refine(_,_,m,x,rfl,p,λe f d=>?_,u,);obtain⟨a,g,rfl,h,A,n,B,o⟩:=cM e;have k:SqL K f a g:=d.seq (jz h);refine Or.inl (a,g,rfl,.inl k,?_,);show gh K .Eq (.int (g.length:Int)) (.int 0) f _;rw[lq];refine(_,rfl,?_,);cases g with
 |nil=>
  rw[if_pos (by rfl)];have z:=i e f d;have l:count H (.ref a)=0:=by show(match cS (H a)with |some (y::_)=>bE H y|_=>0)=0;rw[h]
  rw[l]at z;exact z
 |cons y r=>rw[if_neg (by simp;lia)];obtain⟨b,z,c,v,rfl,q,s,_,_,_,_,t⟩:=iy (n y (.head _));refine .inl (a,_,0,.ref b,rfl,rfl,k,cG (j:=0) rfl,?_,);refine .inr (.inl (b,_,1,.ref c,rfl,rfl,d.tup (SqT.of q),rfl,?_,));refine Or.inl (c,v,rfl,.inr (d.tup (SqT.of s)),?_,);have w:=i e f d;rw[<-o _ (.head _),t]at w;exact w
abbrev isPlace(H:Hp)(x:V):V->Bool
 |.int i=>decide (0<=i/\i<count H x)
 |_=>false
abbrev me(H:Hp):V->List V
 |.ref a=>match cN (H a)with
  |some [_,.ref b]=>(cN (H b)).getD []
  |_=>[]
 |_=>[]
abbrev at_(H:Hp)(i:Int)(y:V):V:=(me H y).getD i.toNat .non
def iV(h:cP H x=true):∃a b,x=.ref a/\H a<*(.tup [.str (aK H x),.ref b])/\H b<*(.tup (me H x))/\(me H x).length=bE H x/\∀y∈me H x,bF y=true:=by
 obtain⟨a,z,b,c,rfl,d,f,_,_,g,i,j⟩:=iy h;have e:me H (.ref a)=c:=by show(match cN (H a)with |some [_,.ref b]=>(cN (H b)).getD [] |_=>[])=c;rw[d];show(cN (H b)).getD []=c;rw[f];rfl
 refine⟨a,b,rfl,by rw[i];exact d,by rw[e];exact f,by rw[e,j],by rw[e];exact g⟩
def GG{i:Int}(h:cP H y=true)(g:bE H y=count H x)(hi:isPlace H x (.int i)=true):atI (me H y) i<*(at_ H i y)/\bF (at_ H i y)=true:=by
 have k:0<=i/\i<count H x:=W0 hi;obtain⟨a,b,_,_,_,f,c⟩:=iV h;have d:i.toNat<(me H y).length:=by lia
 have e:(me H y)[i.toNat]?<*(at_ H i y):=by unfold at_;rw[ag,ae d];rfl
 refine(?_,c _ (aH e),);have :=cG (j:=i.toNat) e
 rwa [show((i.toNat:Nat):Int)=i by lia]at this
def jr(h:bF v=true):v=.int 0\/v=.int 1:=by
 cases v with
 |int i=>
  have a:(i==0||i==1)=true:=h;rw[cJ,beq_iff_eq,beq_iff_eq]at a;rcases a with rfl|rfl;·exact .inl rfl
  .exact .inr rfl
 |_=>cases h
def wc{J:It}{C:Hp->Prop}{g:TG}{K:TT}{L:TE}{Q:VK}{O:L2.St}{w:Type}{ds:List w}(Z:xs.length=ds.length)(S:tJ J xs.length (λi x _=>xs[i]?<*x) C)(hn:xs.length<=sizeLine)(W:∀H,aD H1 H->C H)
  (t:w->Bool)(f:V->w->V)(T:L2.St->Prop)(U:T O)
  (step:∀(i:Nat) x a k h (E:L2.St->V->Hp->Prop)(D:L2.St->Hp->Prop),xs[i]?<*x->ds[i]?<*a->T k->aD H1 h->(∀d j,T d->aD h j->t a=true->E d (f x a) j)->(∀d j,T d->aD h j->t a=false->D d j)->
   g x k h λo P=>K o P λb B=>if b=true then L o B (E o)else D o B)
  (R:∀H2 l,aD H1 H2->H2 l=none->Q (.ref l) (upd H2 l (.lst (((xs.zip ds).filter λp=>t p.2).map λp=>f p.1 p.2)))):Ep J g K L O H1 Q:=by
 have N:(xs.zip ds).length=xs.length:=by rw[List.length_zip];lia
 refine(λi m k F H2=>m=xs.length-i/\i<=xs.length/\T k/\F=(((xs.zip ds).take i).filter λp=>t p.2).map (λp=>f p.1 p.2)/\aD H1 H2,(xs.length,'F',a7 _,U,'F',aD.refl _,),?_,);rintro i m k F H2 ⟨rfl,hi,Y,rfl,n⟩;have q:=W H2 n;by_cases hlt:i<xs.length
 .refine .inr (S.go i H2 q hlt,λd G A=>T d/\G=(((xs.zip ds).take (i+1)).filter λp=>t p.2).map (λp=>f p.1 p.2)/\aD H1 A,λd G A ⟨a,b,c⟩=>(xs.length-(i+1),'D',rfl,hlt,a,b,c,),λx h y=>?_,);obtain⟨M,v⟩:=S.yld i H2 x h q hlt y;have I:ds[i]?<*ds[i]:=ae 'D';have e:(xs.zip ds).take (i+1)=(xs.zip ds).take i++[(x,ds[i])]:=by rw[dO,(List.getElem?_zip_eq_some (z:=(x,ds[i]))).mpr (M,I,)];rfl
  have a0:((((xs.zip ds).take i).filter λp=>t p.2).map (λp=>f p.1 p.2)).length<=i:=by rw[ai];refine aO (qE _ _) ?_;rw[di];lia
  refine step i x _ k h _ _ M I Y (n.trans v) (λd j r s u=>('D',r,?_,(n.trans v).trans s,)) (λd j r s u=>(r,?_,(n.trans v).trans s,));·rw[e,l7,cH];simp[u]
  .rw[e,l7,cH];simp[u]
 .have e:i=xs.length:=by lia
  subst e;rw[<-N,fj];exact .inl (S.stop _ H2 q (by rw[N];exact ay _),λl X=>R H2 l n X,)
def z6{J:It}{p:Hp->Prop}{g:TG}{u:TT}{v:TE}{Q:VK}{w:L2.St}(S:tJ J xs.length (λi x _=>xs[i]?<*x) p)(D:xs.length<=sizeLine)(C:∀H,aD H1 H->p H)
  (t:V->Bool)(f:V->V)(T:L2.St->Prop)(B:T w)
  (step:∀x m c (k:L2.St->V->Hp->Prop)(j:L2.St->Hp->Prop),x∈xs->T m->aD H1 c->(∀e d,T e->aD c d->t x=true->k e (f x) d)->(∀e d,T e->aD c d->t x=false->j e d)->
   g x m c λn y=>u n y λb o=>if b=true then v n o (k n)else j n o)
  (A:∀H2 l,aD H1 H2->H2 l=none->Q (.ref l) (upd H2 l (.lst ((xs.filter t).map f)))):Ep J g u v w H1 Q:=by
 refine wc rfl S D C t (λ_ a=>f a) T B (λi x a m c k j q r=>?_) λH2 l s h=>?_;·rw[q]at r;cases r;exact step x m c k j (aH q)
 .have z:=A H2 l s h;rw[<-nS (l₁:=xs) (l₂:=xs) (ay _),Aw,bT]at z;exact z
end Cp
namespace Lt
open R
abbrev y6:List Str:=["_law_script","_law_k"]
abbrev qa:List Str:=["_law_script","_law_k"]
abbrev qC:CB:=
  (.cons (.iff (.cmp .Lt (.var 1) (.bfn .len (.cons (.var 0) .nil)))
  (.cons (.ret (.idx (.var 0) (.var 1)))
  .nil)
  .nil)
  (.cons (.ret (.con (.int 0)))
  .nil))
end Lt
namespace Lt
open L2 R Cp
def Ib{i j:Int}(h0:0<=j)(a:j<18446744073709551616):GL i j:=.inr ('D','D',)
def u6{i j:Int}(h0:0<=i)(a:i<18446744073709551616):GL i j:=.inl ('D','D',)
def E7(K:ah):Sp:=λvs H Q _=>∃(a:Addr)(ns:List Int)(k:Nat),vs=[.ref a,.int k]/\SqL K H a (ns.map V.int)/\Q (.int (ns.getD k 0)) H
def wp_cell{G:Gam}:Sat G K (E7 K) qC qa:=by
 rintro d H Q E ⟨a,b,k,rfl,c,q⟩;unfold qC;change wpB G K _ _ _ [some (.ref a),some (.int k)] H;ext;refine Or.inl (a,_,rfl,.inl c,?_,);show gh K .Lt (.int (k:Int)) (.int ((b.map V.int).length:Int)) H _;rw[MR,ai];refine(_,rfl,?_,);by_cases hk:k<b.length;·rw[decide_eq_true (by lia:(k:Int)<(b.length:Int)),if_pos rfl];refine .inl (a,_,k,_,rfl,rfl,c,cG (j:=k) (v:=.int (b.getD k 0)) ?_,q,);rw[ax,ae hk,ag,ae hk];rfl
 .rw[decide_eq_false (by lia:¬(k:Int)<(b.length:Int)),if_neg ao];rw[ag,bV 'D']at q;exact q
def mod2(x:Int):bF (.int (x%2))=true:=by
 have a:0<=x%2:=bA _ 'E';have b:x%2<2:=bR _ 'E';have h:x%2=0\/x%2=1:=by lia
 rcases h with h|h<;>rw[h]<;>rfl
abbrev Bx(x:Int):Nat:=97+(x%26).toNat
def lett_ok(x:Int):jO (Bx x)=true:=by have a:0<=x%26:=bA _ 'E';have b:x%26<26:=bR _ 'E';unfold jO Bx;exact decide_eq_true 'D'
def MX{x y:Int}(h:Bx x=Bx y):x%26=y%26:=by have a:0<=x%26:=bA _ 'E';have b:0<=y%26:=bA _ 'E';unfold Bx at h;have e:=Nat.add_left_cancel h;rw[<-Int.toNat_of_nonneg a,<-Int.toNat_of_nonneg b,e]
noncomputable abbrev mkS(l:List Nat):Str:=⟨l.toArray⟩
def mk_app(a b:List Nat):mkS a++mkS b=mkS (a++b):=by show(⟨a.toArray++b.toArray⟩:Str)=⟨(a++b).toArray⟩;rw[List.append_toArray]
def xI(a:List Nat):(mkS a).length=a.length:=by show a.toArray.size=_;simp
def N2(l:List Nat)(k:Nat):Gn (mkS l) none (some (k:Int))=mkS (l.take k):=by
 unfold Gn;rw[HT.vR,HT.CY,xI];show mkS _=_;congr 1;show((l.toArray.toList.drop 0).take (min k l.length-0))=l.take k;rw[List.drop_zero,Nat.sub_zero];show l.take (min k l.length)=l.take k;by_cases h:k<=l.length;·rw[Nat.min_eq_left h]
 .rw[Nat.min_eq_right 'D',fj,eZ 'D']
def FR:∀j:Fin 26,LETTERS.cps.toList[j.val]?<*(97+j.val):=by decide+kernel
def GF(x:Int):atI LETTERS.cps.toList (x%26)<*(Bx x):=by have b:0<=x%26:=bA _ 'E';have c:x%26<26:=bR _ 'E';obtain⟨j,a⟩:=dJ b;rw[a];refine cG ?_;have :=FR (j,'D',);rw[this];unfold Bx;rw[a];rfl
def Bw:LETTERS.length<=sizeLine:=by decide+kernel
def short(h:n<=40):n<=sizeLine:=aO h 'E'
theorem mk1(x:Nat):(⟨#[x]⟩:Str)=mkS [x]:=rfl
end Lt
namespace Q
open PySem.W L2
theorem Dh(a:ks.Nodup):(ord ks).Perm (aC ks.length):=by
 unfold ord;split;·exact eY _
 .have P:=(gA (wG a) 'D').1;have :=gU.mp P.perm;simpa using this
def range_getD{a:Type}(d:a)(ys:List a):(aC ys.length).map (λi=>ys.getD i d)=ys:=by
 apply cy;·simp
 .intro i c b;simp[b]
def dY{a:Type}(d:a){ys:List a}(c:ks.Nodup)(b:ks.length=ys.length):(sortBy d ks ys).Perm ys:=by unfold sortBy;have h:=(Dh c).map λi=>ys.getD i d;rw[b,range_getD]at h;exact h
def wW{a b:Type}(d:a)(f:a->b)(ks:List Str)(ys:List a):(sortBy d ks ys).map f=sortBy (f d) ks (ys.map f):=by unfold sortBy;rw[bT];apply cu;intro i _;show f (ys.getD i d)=(ys.map f).getD i (f d);rw[ag,ag,ax];cases ys[i]? <;>rfl
theorem jq(m:ks.Nodup):(sortBy ("":Str) ks ks).Pairwise λa b=>tlt a b=true:=by
 unfold sortBy ord;split
 .rename_i h;rw[range_getD]
  match ks,h with
  | [],_=>exact .nil
  | [x],_=>simp
  |_::_::_,h=>simp at h;lia
 .rename_i h;obtain⟨P,U,_⟩:=gA (wG m) (by lia:1<=ks.length);rw[iB];intro i j hi f d;have n:i<ks.length:=by simpa[P.size]using hi
  have g:j<ks.length:=by simpa[P.size]using f
  have u:=U i j d g;rw[cw,cw];have e:∀(k:Nat)(c:k<(run (oE ks) (dX ks.length)).toList.length),(run (oE ks) (dX ks.length)).toList[k]=at' (run (oE ks) (dX ks.length)) k:=λk c=>by
   have l:k<(run (oE ks) (dX ks.length)).size:=by simpa using c
   simp[at',l]
  rw[e,e];exact u
def IL{x y:Str}(a:tlt x y=true)(b:tlt y x=true):False:=by have c:=zy a b;unfold tlt at c;exact List.lt_irrefl _ (W0 c)
theorem lK:∀{l m:List Str},l.Perm m->l.Pairwise (λa b=>tlt a b=true)->m.Pairwise (λa b=>tlt a b=true)->l=m
 | [],m,p,_,_=>by rw[List.nil_perm.mp p]
 |x::l,[],p,_,_=>by simpa using p.length_eq
 |x::l,y::m,p,h1,h2=>by
  rw[List.pairwise_cons]at h1 h2;have e:x=y:=by
   by_cases e:x=y;·exact e
   .have c:x∈m:=by
     have :=p.mem_iff.mp (aM (a:=x) (l:=l));rcases aA.mp this with z|z;·exact absurd z e
     .exact z
    have d:y∈l:=by
     have :=p.mem_iff.mpr (aM (a:=y) (l:=m));rcases aA.mp this with z|z;·exact absurd z.symm e
     .exact z
    exact(IL (h1.1 y d) (h2.1 x c)).elim
  subst e;rw[lK (List.perm_cons x |>.mp p) h1.2 h2.2]
def uQ{g:Type}(d:g)(f:g->Str)(p:g->Bool){ys:List g}(c:(ys.map f).Nodup):((sortBy d (ys.map f) ys).filter p).map f=sortBy ("":Str) ((ys.filter p).map f) ((ys.filter p).map f):=by
 have j:((ys.filter p).map f).Nodup:=c.sublist (tV.map _);refine lK ?_ ?_ (jq j);·exact(((dY d c 'F').filter p).map f).trans (dY ("":Str) j rfl).symm
 .have h:((sortBy d (ys.map f) ys).map f).Pairwise λa b=>tlt a b=true:=by
   have r:=jq c;unfold sortBy at r⊢;rw[bT];have e:(ord (ys.map f)).map (f∘λi=>ys.getD i d)=(ord (ys.map f)).map λi=>(ys.map f).getD i ("":Str):=by
    apply cu
    intro i hi;have k:i<ys.length:=by have :=(Dh c).mem_iff.mp hi;simpa using this
    show f (ys.getD i d)=(ys.map f).getD i ("":Str);rw[ag,ag,ax,ae k];rfl
   rw[e];exact r
  exact h.sublist (tV.map _)
end Q
namespace Lt
open L2 R Cp
def Jr(h:Known H x)(s:aD H H'):aK H' x=aK H x:=by
 cases x with
 |ref a=>
  show(match cN (H' a)with |some (.str z::_)=>z|_=>"")=(match cN (H a)with |some (.str z::_)=>z|_=>"");cases e:H a with
  |none=>exact absurd e h.some
  |some o=>rw[s a o e]
 |_=>rfl
def hO(h:Kn3 H x)(s:aD H H'):bE H' x=bE H x:=by
 cases x with
 |ref a=>
  show(match cN (H' a)with |some [_,.ref b]=>(cN (H' b)).elim 0 eP|_=>0)=(match cN (H a)with |some [_,.ref b]=>(cN (H b)).elim 0 eP|_=>0);cases e:H a with
  |none=>exact absurd e h.1.1.some
  |some o=>
   rw[s a o e];cases o with
   |tup xs=>
    match xs with
    | []=>rfl
    | [_]=>rfl
    | [n,r]=>
     cases r with
     |ref b=>
      have k:=(h.2 a _ rfl e).2 (.ref b) 'F';show(cN (H' b)).elim 0 eP=(cN (H b)).elim 0 eP;cases eb:H b with
      |none=>exact absurd eb k.1.1.some
      |some ob=>rw[s b ob eb]
     |_=>rfl
    |_::y::_::_=>cases y<;>rfl
   |_=>rfl
 |_=>rfl
def MS(h:Known H (.ref a))(s:aD H H'):cS (H' a)=cS (H a):=by
 cases e:H a with
 |none=>exact absurd e h.some
 |some o=>rw[s a o e]
def i8(h:Kn4 H x)(s:aD H H'):bC H' x=bC H x:=by
 cases x with
 |ref a=>
  show(match cS (H' a)with |some xs=>decide (xs.length<=40)&&(xs.all (cP H')&&(decide ((xs.map (aK H')).Nodup)&&decide (∀y∈xs,∀z∈xs,bE H' y=bE H' z))) |none=>false)=
   (match cS (H a)with |some xs=>decide (xs.length<=40)&&(xs.all (cP H)&&(decide ((xs.map (aK H)).Nodup)&&decide (∀y∈xs,∀z∈xs,bE H y=bE H z))) |none=>false)
  rw[MS h.1.1 s];cases e:cS (H a)with
  |none=>rfl
  |some xs=>
   have c:=(h.2 a xs rfl e).2;have f:xs.all (cP H')=xs.all (cP H):=by rw[dE,bj,bj];exact⟨λz y b=>by rw[<-pN (c y b) s];exact z y b,λz y b=>by rw[pN (c y b) s];exact z y b⟩
   have g:xs.map (aK H')=xs.map (aK H):=cu λy b=>Jr (c y b).1.1 s;have i:decide (∀y∈xs,∀z∈xs,bE H' y=bE H' z)=decide (∀y∈xs,∀z∈xs,bE H y=bE H z):=by rw[decide_eq_decide];exact⟨λw y b z d=>by rw[<-hO (c y b) s,<-hO (c z d) s];exact w y b z d,λw y b z d=>by rw[hO (c y b) s,hO (c z d) s];exact w y b z d⟩
   show(decide (xs.length<=40)&&(xs.all (cP H')&&(decide ((xs.map (aK H')).Nodup)&&decide (∀y∈xs,∀z∈xs,bE H' y=bE H' z))))=(decide (xs.length<=40)&&(xs.all (cP H)&&(decide ((xs.map (aK H)).Nodup)&&decide (∀y∈xs,∀z∈xs,bE H y=bE H z))));rw[f,g,i]
 |_=>rfl
mutual
theorem yc:∀d:D,eqD d d=true
 |.non=>rfl
 |.bl b=>by cases b<;>rfl
 |.int i=>by show(i==i)=true;simp
 |.str x=>by show(x==x)=true;simp
 |.tup ds=>uC ds
 |.lst ds=>uC ds
theorem uC:∀ds:List D,oM ds ds=true
 | []=>rfl
 |d::ds=>by show(eqD d d&&oM ds ds)=true;rw[yc d,uC ds];rfl
end
end Lt
namespace L2
section
variable {κ α:Type}[DecidableEq κ](kf:α->κ)(vf:α->V)
abbrev sF(ac:List (κ×V))(y:α):List (κ×V):=if(fk ac (kf y)).isSome then ac else putK ac (kf y) (vf y)
abbrev fnd(ys:List α):List (κ×V):=ys.foldl (sF kf vf) []
theorem ND(a:List (κ×V))(y:α)(k:κ):fk (sF kf vf a y) k=if(fk a k).isSome then fk a k else if k=kf y then some (vf y)else none:=by
 unfold sF;cases h:fk a (kf y)with
 |some v=>
  show fk a k=_;cases hk:fk a k with
  |some u=>rfl
  |none=>rw[if_neg 'F',if_neg];intro e;rw[e,h]at hk;cases hk
 |none=>
  rw[if_neg 'F',KJ];by_cases e:k=kf y;·rw[if_pos e,e,h];simp
  .rw[if_neg e];cases hk:fk a k<;>simp[e]
theorem fndS_nd{a:List (κ×V)}(y:α)(h:(a.map (·.1)).Nodup):((sF kf vf a y).map (·.1)).Nodup:=by
 unfold sF;cases e:fk a (kf y)with
 |some v=>exact h
 |none=>rw[if_neg 'F'];exact nd_putK _ h e
theorem NF(a:List (κ×V))(y:α):(sF kf vf a y).length<=a.length+1:=by
 unfold sF;split;·lia
 .exact oG _ _ _
theorem DS:∀(ys:List α)(ac:List (κ×V)),(ys.foldl (sF kf vf) ac).length<=ac.length+ys.length
 | [],ac=>ay _
 |y::ys,ac=>by have :=DS ys (sF kf vf ac y);have :=NF kf vf ac y;simp only[dU,aU];lia
theorem HS:∀(ys:List α){ac:List (κ×V)},(ac.map (·.1)).Nodup->((ys.foldl (sF kf vf) ac).map (·.1)).Nodup
 | [],_,h=>h
 |y::ys,_,h=>HS ys (fndS_nd kf vf y h)
theorem DR:∀(ys:List α)(ac:List (κ×V))(k:κ),fk (ys.foldl (sF kf vf) ac) k=if(fk ac k).isSome then fk ac k else(ys.find? λy=>decide (kf y=k)).map vf
 | [],ac,k=>by show fk ac k=_;cases fk ac k<;>rfl
 |y::ys,ac,k=>by
  rw[dU,DR ys,ND];cases hk:fk ac k with
  |some u=>simp
  |none=>
   simp only[Kv,aY,if_false];by_cases e:k=kf y;·rw[if_pos e,iY];simp[e]
   .have a:¬kf y=k:=λz=>e z.symm;rw[if_neg e,iY];simp[a]
theorem BE(ys:List α)(k:κ):fk (fnd kf vf ys) k=(ys.find? λy=>decide (kf y=k)).map vf:=by unfold fnd;rw[DR];rfl
theorem fnd_nd(ys:List α):((fnd kf vf ys).map (·.1)).Nodup:=HS kf vf ys fU
theorem fnd_len(ys:List α):(fnd kf vf ys).length<=ys.length:=by have :=DS kf vf ys [];rw[gy,yM]at this;exact this
theorem BF{ys:List α}{k:κ}:k∈(fnd kf vf ys).map (·.1)↔∃y∈ys,kf y=k:=by
 constructor
 .intro h;cases e:fk (fnd kf vf ys) k with
  |none=>exact absurd h (Cu e)
  |some v=>rw[BE]at e;obtain⟨y,a,_⟩:=nR.mp e;exact(y,List.mem_of_find?_eq_some a,by have :=List.find?_some a;simpa using this,)
 .rintro⟨y,a,e⟩;cases h:fk (fnd kf vf ys) k with
  |some v=>exact valV_in h
  |none=>rw[BE,Option.map_eq_none_iff,vy]at h;exact absurd e (by have :=h y a;simpa using this)
theorem MF:∀{l m:List κ},l.Nodup->(∀x∈l,x∈m)->l.length<=m.length
 | [],_,_,_=>a7 _
 |a::l,m,h,hs=>by obtain⟨d,f⟩:=cT.mp h;have b:=hs a (.head _);have :=MF (l:=l) (m:=m.erase a) f λx c=>(rm (λe:x=a=>d (by rw[<-e];exact c))).mpr (hs x (.tail _ c));rw[List.length_erase_of_mem b]at this;have :=List.length_pos_of_mem b;simp only[aU];lia
theorem fnd_all{ys:List α}{ks:List κ}(b:ks.Nodup)(hs:∀y∈ys,kf y∈ks):(fnd kf vf ys).length<ks.length↔∃k∈ks,∀y∈ys,kf y≠k:=by
 have l:∀k∈(fnd kf vf ys).map (·.1),k∈ks:=λk h=>by obtain⟨y,a,e⟩:=(BF kf vf).mp h;rw[<-e];exact hs y a
 have i:=fnd_nd kf vf ys;constructor
 .intro m;apply gM
  intro j;have d:∀k∈ks,k∈(fnd kf vf ys).map (·.1):=λk b=>by
   apply gM
   intro c;exact j (k,b,λy a e=>c ((BF kf vf).mpr (y,a,e,)),)
  have :=MF b d;rw[ai]at this;lia
 .rintro⟨k,g,f⟩;have c:k∉(fnd kf vf ys).map (·.1):=λh=>by obtain⟨y,a,e⟩:=(BF kf vf).mp h;exact f y a e
  have :(k::(fnd kf vf ys).map (·.1)).Nodup:=cT.mpr (c,i,);have :=MF this (λx hx=>by
   rcases aA.mp hx with rfl|hx;·exact g
   .exact l x hx)
  rw[aU,ai]at this;lia
end
end L2
namespace Kc
open R
abbrev ug:List Str:=["copies","one","other"]
abbrev mj:List Str:=["copies","one","other","found","name","readings"]
abbrev mD:CB:=
  (.cons (.asg (.name 3) (.dicT))
  (.cons (.forr (.tup (.cons (.name 4) (.cons (.name 5) .nil))) (.seq (.var 0))
  (.cons (.expr (.setd (.var 3) (.tup (.cons (.idx (.var 5) (.var 1)) (.cons (.idx (.var 5) (.var 2)) .nil))) (.var 4)))
  .nil))
  (.cons (.iff (.cmp .Lt (.bfn .lend (.cons (.var 3) .nil)) (.bfn .len (.cons (.glo "KINDS") .nil)))
  (.cons (.ret (.con .none))
  .nil)
  .nil)
  (.cons (.ret (.bfn .tuple (.cons (.comp ["kind"] [3] (.name 0) (.seq (.glo "KINDS")) .no (.idxd (.var 1) (.var 0))) .nil)))
  .nil))))
end Kc
namespace Kc
open L2 R Cp Lt
def gG{J:It}{k:Nat->V->Hp->Prop}{j:Hp->Prop}{g:TG}{tb:TS}{D:Ends}(S:tJ J n k j)(e:Nat->L2.St->Hp->Prop)(h0:e 0 σ H)(m:∀i σ H,i<=n->e i σ H->j H)
  (hs:∀i x σ H H' (D2:Ends),i<n->e i σ H->k i x H'->aD H H'->(∀f H2,e (i+1) f H2->D2.nx f H2)->D2.rt=D.rt->g x σ H' λf H2=>tb D2 f H2)(l:∀σ H,e n σ H->D.nx σ H):ForB J g tb D σ H:=
 HR S e h0 m (λi x σ H H' a b c d=>hs i x σ H H' _ a b c d (λ_ _ h=>h) rfl) l
def iu(h:us.length=1):∃a,us=[a]:=by
 cases us with
 |nil=>exact nomatch h
 |cons a r=>exact⟨a,by rw[bh.mp (i4 h)]⟩
def fm(h:us.length=2):∃a b,us=[a,b]:=by
 cases us with
 |nil=>exact nomatch h
 |cons a r=>obtain⟨b,e⟩:=iu (i4 h);exact⟨a,b,by rw[e]⟩
def jw(h:us.length=3):∃a b c,us=[a,b,c]:=by
 cases us with
 |nil=>exact nomatch h
 |cons a r=>obtain⟨b,c,e⟩:=fm (i4 h);exact⟨a,b,c,by rw[e]⟩
def cV{b:Type}{F:b->Prop}{vs:List V}(h:∃a,F a)(k:∀a,F a->vs.length=n):vs.length=n:=let⟨a,f⟩:=h;k a f
def ff{P:Prop}{l vs:List V}(h:vs=l/\P)(e:l.length=n):vs.length=n:=by rw[h.1];exact e
abbrev num(H:Hp)(i:Int)(y:V):Int:=match at_ H i y with
 |.int n=>n
 |_=>0
abbrev KP:List (Int×Int):=[(0,0),(0,1),(1,0),(1,1)]
abbrev qP(k:Int×Int):List Key:=[.inl k.1,.inl k.2]
abbrev kf(H:Hp)(i j:Int)(y:V):List Key:=qP (num H i y,num H j y)
abbrev lL(H:Hp)(xs:List V)(i j:Int):Bool:=KP.all λk=>xs.any λy=>decide (num H i y=k.1/\num H j y=k.2)
abbrev firstOf(H:Hp)(xs:List V)(i j:Int)(k:Int×Int):V:=((xs.find? λy=>decide (kf H i j y=qP k)).map λy=>V.str (aK H y)).getD .non
def Kinds(K:ah)(kd:Addr):Prop:=∃a b c d:Addr,∀H:Hp,SqT K H kd [.ref a,.ref b,.ref c,.ref d]/\SqT K H a [.int 0,.int 0]/\SqT K H b [.int 0,.int 1]/\SqT K H c [.int 1,.int 0]/\SqT K H d [.int 1,.int 1]
theorem Kinds.at(h:Kinds K kd):∃a:List V,a.length=4/\(∀H:Hp,SqT K H kd a)/\∀(H:Hp)(i:Nat) x,a[i]?<*x->∃(b:Addr)(k:Int×Int),x=.ref b/\KP[i]?<*k/\SqT K H b ((qP k).map kV):=by
 obtain⟨c,d,f,g,h⟩:=h;refine([.ref c,.ref d,.ref f,.ref g],rfl,λH=>(h H).1,λH i x e=>?_,);obtain⟨_,j,l,m,o⟩:=h H
 match i,e with
 | 0,e=>cases e;exact(c,_,rfl,rfl,j,)
 | 1,e=>cases e;exact(d,_,rfl,rfl,l,)
 | 2,e=>cases e;exact(f,_,rfl,rfl,m,)
 | 3,e=>cases e;exact(g,_,rfl,rfl,o,)
 |n+4,e=>simp at e
def Bl{i:Int}(h:cP H y=true)(a:bE H y=count H x)(hi:isPlace H x (.int i)=true):at_ H i y=.int (num H i y)/\(num H i y=0\/num H i y=1):=by
 have :=(GG h a hi).2;unfold num;rcases jr this with e|e;·rw[e];exact(rfl,.inl rfl,)
 .rw[e];exact(rfl,.inr rfl,)
def Nf{k l:Int×Int}(h:qP k=qP l):k=l:=by
 unfold qP at h;injection h with h1 h2
 injection h2 with h2 _;injection h1 with h1;injection h2 with h2;exact Prod.ext h1 h2
def Nb:(KP.map qP).Nodup:=by decide+kernel
def kf_eq{i j:Int}{k:Int×Int}:kf H i j y=qP k↔(num H i y=k.1/\num H j y=k.2):=by
 constructor;·intro h;have :=Nf h;rw[<-this];exact(rfl,rfl,)
 .rintro⟨a,b⟩;unfold kf;rw[a,b]
def sE{i j:Int}(c:V->V)(hs:∀y∈xs,kf H i j y∈KP.map qP):(fnd (kf H i j) c xs).length<4↔lL H xs i j=false:=by
 rw[show(4:Nat)=(KP.map qP).length from rfl,fnd_all (kf H i j) c Nb hs];unfold lL;rw[List.all_eq_false];constructor;·rintro⟨k,d,h⟩;obtain⟨p,a,rfl⟩:=aN.mp d;refine(p,a,?_,);intro z;obtain⟨y,b,e⟩:=bQ.mp z;exact h y b (kf_eq.mpr (W0 e))
 .rintro⟨p,a,h⟩;refine(qP p,aN.mpr (p,a,rfl,),λy b e=>h ?_,);exact bQ.mpr (y,b,decide_eq_true (kf_eq.mp e),)
def kf_in{i j:Int}(b:∀y∈xs,cP H y=true)(c:∀y∈xs,bE H y=count H x)(hi:isPlace H x (.int i)=true)(h:isPlace H x (.int j)=true):∀y∈xs,kf H i j y∈KP.map qP:=by intro y a;have d:=(Bl (b y a) (c y a) hi).2;have g:=(Bl (b y a) (c y a) h).2;unfold kf;refine aN.mpr (_,?_,rfl,);rcases d with e|e<;>rcases g with f|f<;>rw[e,f]<;>simp[KP]
def AU:Sp:=λvs H Q _=>∃a xs i j b,vs=[.ref a,.int i,.int j]/\aD b H/\bC b (.ref a)=true/\cS (b a)<*xs/\isPlace b (.ref a) (.int i)=true/\isPlace b (.ref a) (.int j)=true/\
 (lL b xs i j=false->∀H',aD H H'->Q .non H')/\(lL b xs i j=true->∀H' l,aD H H'->H l=none->H' l<*(.tup (KP.map (firstOf b xs i j)))->Q (.ref l) H')
def KG{G:Gam}(v1:G.val "KINDS"<*(.ref kd))(hk:Kinds K kd):
  Sat G K AU mD mj:=by
 rintro P H a6 a5 ⟨a,f,i,j,e,rfl,O,ht,W,hi,L,q1,q2⟩;unfold mD;change wpB G K _ _ _ [some (.ref a),some (.int i),some (.int j),none,none,none] H;ext;intro d T;obtain⟨a',b0,ea,R,h2,w,h4,A⟩:=cM ht;cases ea;rw[W]at R;cases R;obtain⟨as,J,M,a2⟩:=hk.at;have Z:∀{s:Hp},aD e s->SqL K s a f:=λo=>o.seq (jz W);have Y:aD H (upd H d (.dT [])):=au T;refine iT (cD rfl (Z (O.trans Y)) (gG dI (λk F I=>aD H I/\I d<*(.dT (fnd (kf e i j) (λy=>V.str (aK e y)) (f.take k)))/\∃u v,F=[some (.ref a),some (.int i),some (.int j),some (.ref d),u,v])
  (Y,aq,none,none,rfl,) (λk F I _ p=>Z (O.trans p.1)) ?_ ?_))
 .rintro k y F s m D2 a9 ⟨o,q,u,v,rfl⟩ D g S _;have h:=aH D;have ei:=Bl (w y h) (A y h) hi;have ej:=Bl (w y h) (A y h) L;have gi:=(GG (w y h) (A y h) hi).1;have gj:=(GG (w y h) (A y h) L).1;obtain⟨b,c,rfl,k1,X,k3,k4⟩:=iV (w y h);have x:=O.trans (o.trans g);refine(b,_,rfl,x.tup (SqT.of k1),rfl,_,_,rfl,_,_,rfl,rfl,?_,);ext;refine(.inr (.inr (.inl (rfl,.inr (_,g _ _ q,),))),?_,);refine .inr (.inl (c,_,i,_,rfl,rfl,x.tup (SqT.of X),gi,?_,));refine .inr (.inl (c,_,j,_,rfl,rfl,x.tup (SqT.of X),gj,short 'F',λp C=>?_,));have E:aD m (upd m p (.tup [at_ e i (.ref b),at_ e j (.ref b)])):=au C;have hf:(fnd (kf e i j) (λy=>V.str (aK e y)) (f.take k)).length<=40:=aO (fnd_len _ _ _) (by rw[di];lia);have et:f.take (k+1)=f.take k++[V.ref b]:=by rw[dO,D];rfl
  have Q:fnd (kf e i j) (λy=>V.str (aK e y)) (f.take (k+1))=sF (kf e i j) (λy=>V.str (aK e y)) (fnd (kf e i j) (λy=>V.str (aK e y)) (f.take k)) (.ref b):=by unfold fnd;rw[et,List.foldl_append];rfl
  refine(d,p,_,kf e i j (.ref b),_,rfl,rfl,E _ _ (g _ _ q),?_,cR hf 'E',λz N=>?_,λN=>?_,);·rw[aq,ei.1,ej.1];rfl
  .refine S _ _ (o.trans (g.trans E),?_,_,_,rfl,);rw[Q];unfold sF;rw[N];exact E _ _ (g _ _ q)
  .refine S _ _ (fH (o.trans (g.trans E)) T,?_,_,_,rfl,);rw[Q];unfold sF;rw[N];exact aq
 .rintro F s ⟨o,q,u,v,rfl⟩;rw[fj]at q;ext;refine(d,_,rfl,q,_,v1,Or.inl (kd,as,rfl,.inr (M _),?_,),);rw[J];show gh K .Lt (.int _) (.int ((4:Nat):Int)) s _;rw[MR];refine(_,rfl,?_,);have r:=sE (λy=>V.str (aK e y)) (kf_in w A hi L);cases hf:lL e f i j with
  |false=>have :=r.mpr hf;rw[decide_eq_true 'D',if_pos rfl];exact q1 hf s o
  |true=>
   have a8:¬(fnd (kf e i j) (λy=>V.str (aK e y)) f).length<4:=λz=>by rw[r.mp z]at hf;cases hf
   rw[decide_eq_false 'D',if_neg ao];refine cQ (_,v1,.inr (.inl (kd,rfl,(_,M _,),?_,)),);refine cW A0 (by rw[J];exact short 'E') (λm _=>M m) (λn v _=>v=firstOf e f i j (KP.getD n (0,0))) (λ_ _ _ _ _ a0=>a0) (λτ=>∃t,τ=[t,some (.ref d)]) (none,rfl,) ?_ ?_
   .rintro n y τ m a7 hn ⟨t,rfl⟩ g D k;obtain⟨b,p,rfl,C,B⟩:=a2 m n y D;ext;have a1:f.any (λy=>decide (num e i y=p.1/\num e j y=p.2))=true:=by unfold lL at hf;exact bj.mp hf p (aH C)
    obtain⟨y0,a4,e0⟩:=bQ.mp a1;cases r:f.find? (λy=>decide (kf e i j y=qP p))with
    |none=>rw[vy]at r;exact absurd (decide_eq_true (kf_eq.mpr (W0 e0))) (r y0 a4)
    |some y1=>
     refine(d,b,_,qP p,V.str (aK e y1),rfl,rfl,g _ _ q,B,?_,?_,);·rw[BE,r];rfl
     .refine k _ _ _ (_,rfl,) (aD.refl _) ?_;rw[getD_some C];unfold firstOf;rw[r];rfl
   .intro P m l U hF g a3;have ev:P=KP.map (firstOf e f i j):=by
     rw[J]at U;apply cy;·rw[U];rfl
     .intro n m1 m2;have :=hF n P[n] (by simp[m1]);rw[this,cw,ag,ae ↥m2];rfl
    subst ev;refine(l,_,rfl,.inl (SqL.of aq,λb B=>?_,),);have x:aD H (upd m l (.lst (KP.map (firstOf e f i j)))):=o.trans (g.trans (au a3));exact q2 hf _ b (x.trans (au B)) (x.free B) aq
end Kc
namespace K21
open R
abbrev Fy:List Str:=["_law_cell","_law_place"]
abbrev xD:List Str:=["_law_cell","_law_place","_law_own","_law_number"]
abbrev sU:CB:=
  (.cons (.ret (.bin .Mod (.bin .Mult (.var 3) (.var 3)) (.con (.int 2147483587))))
  .nil)
abbrev m6:CB:=
  (.cons (.asg (.name 3) (.bin .Mod (.bin .Mult (.bin .Add (.bin .Mod (.bin .FloorDiv (.var 0) (.con (.int 2))) (.bin .Pow (.con (.int 10)) (.con (.int 30)))) (.con (.int 1))) (.bin .Add (.con (.int 48271)) (.bin .Mult (.bin .Mult (.con (.int 7919)) (.var 1)) (.var 1)))) (.con (.int 2147483629))))
  sU)
abbrev m8:CB:=
  (.cons (.iff (.and (.cmp .Eq (.bin .Mod (.var 0) (.con (.int 2))) (.con (.int 1))) (.cmp .NotEq (.var 2) (.con (.int 0))))
  (.cons (.ret (.bin .Mod (.var 2) (.con (.int 2147483648))))
  .nil)
  .nil)
  m6)
abbrev yr:CB:=
  (.cons (.asg (.name 2) (.bin .RShift (.var 0) (.bin .Add (.con (.int 2)) (.bin .Mult (.con (.int 31)) (.bin .Mod (.var 1) (.con (.int 64)))))))
  m8)
abbrev Dc:List Str:=["_law_cell","_law_many"]
abbrev uU:List Str:=["_law_cell","_law_many","_law_letters","_law_size","_law_at","_law_names_here","_law_k","_law_name","_law_j"]
abbrev qr:CB:=
  (.cons (.ret (.var 5))
  .nil)
abbrev nC:CB:=
  (.cons (.expr (.meth1 .append (.var 5) (.cut (.var 7) .no (.yes (.bin .Add (.bin .Add (.var 4) (.con (.int 1))) (.bin .Mod (.bin .Add (.bin .Mult (.var 6) (.var 6)) (.var 3)) (.bin .Sub (.var 3) (.var 4))))))))
  .nil)
abbrev nF:CB:=
  (.cons (.forr (.name 8) (.range1 (.var 3))
  (.cons (.asg (.name 7) (.bin .Add (.var 7) (.idx (.var 2) (.bin .Mod (.bin .Add (.call "_law_draw" (.cons (.var 0) (.cons (.bin .Add (.con (.int 10)) (.var 8)) .nil))) (.bin .Mult (.bin .Mult (.con (.int 7)) (.var 6)) (.bfn .int (.cons (.cmp .Eq (.var 8) (.var 4)) .nil)))) (.con (.int 26))))))
  .nil))
  nC)
abbrev qt:CB:=
  (.cons (.forr (.name 6) (.range1 (.var 1))
  (.cons (.asg (.name 7) (.con (.str "")))
  nF))
  qr)
abbrev qu:CB:=
  (.cons (.asg (.name 5) (.lst .nil))
  qt)
abbrev qv:CB:=
  (.cons (.asg (.name 4) (.bin .Mod (.call "_law_draw" (.cons (.var 0) (.cons (.con (.int 2)) .nil))) (.var 3)))
  qu)
abbrev qw:CB:=
  (.cons (.asg (.name 3) (.bin .Add (.con (.int 1)) (.bin .Mod (.call "_law_draw" (.cons (.var 0) (.cons (.con (.int 1)) .nil))) (.con (.int 8)))))
  qv)
abbrev vh:CB:=
  (.cons (.asg (.name 2) (.con (.str "abcdefghijklmnopqrstuvwxyz")))
  qw)
end K21
namespace K21
open L2 R Cp Lt Kc
def shl_ii{Q:VK}{i j:Int}:nZ K .LShift (.int i) (.int j) H Q↔J4 i j/\Q (.int (i*2^j.toNat)) H:=by simp[nZ,rI]
def int_b{Q:VK}{b:Bool}:rBf K .int [.bl b] H Q↔Q (.int (if b then 1 else 0)) H:=by simp[rBf]
abbrev own(c k:Int):Int:=c/2^(2+31*(k%64)).toNat
abbrev nb(c k:Int):Int:=(c/2%10^Int.toNat 30+1)*(48271+7919*k*k)%2147483629
abbrev draw(c k:Int):Int:=if c%2=1/\own c k≠0 then own c k%2147483648 else nb c k*nb c k%2147483587
def BI(c k:Int):0<=draw c k:=by
 unfold draw;split;·exact bA _ 'E'
 .exact bA _ 'E'
def lH:Sp:=λvs H Q _=>∃c k:Int,vs=[.int c,.int k]/\0<=k/\k<=200/\Q (.int (draw c k)) H
def wp_draw{G:Gam}:Sat G K lH yr xD:=by
 rintro l H Q E ⟨c,k,rfl,d,f,q⟩;unfold yr;change wpB G K _ _ _ [some (.int c),some (.int k),none,none] H;ext;have j:0<=k%64:=bA _ 'E';refine('E',u6 'E' 'E','D',?_,);have e:¬(c%2=1/\own c k≠0)->wpB G K (λ_=>E) m6 {nx:=λ_ g=>Q .non g,rt:=Q} [some (.int c),some (.int k),some (.int (own c k)),none] H:=λz=>by
  have i:0<=7919*k*k/\7919*k*k<=316760000:=by have a:0<=k*k:=Int.mul_nonneg d d;have b:k*k<=200*200:=Int.mul_le_mul f f d 'E';rw[Int.mul_assoc];lia
  have h:0<=nb c k/\nb c k<2147483629:=(bA _ 'E',bR _ 'E',);unfold draw at q;rw[if_neg z]at q;unfold m6 sU;ext;exact(('E','E',),('E','E','E',),'E',u6 'E' 'E',Ib d 'D',Ib 'D' 'D','E',u6 h.1 'D','E',q,)
 change wpB G K _ m8 _ [some (.int c),some (.int k),some (.int (own c k)),none] H;generalize ho:own c k=w at e⊢;unfold m8;ext;refine('E',?_,);by_cases a:c%2=1
 .rw[decide_eq_true a,if_pos rfl];by_cases b:w=0;·rw[decide_eq_true b];exact e λz=>z.2 b
  .rw[decide_eq_false b];unfold draw at q;rw[ho,if_pos (a,b,)]at q;exact('E',q,)
 .rw[decide_eq_false a];exact e λz=>a z.1
abbrev size(c:Int):Nat:=(1+draw c 1%8).toNat
abbrev att(c:Int):Nat:=(draw c 2%(size c:Int)).toNat
def size_eq(c:Int):1+draw c 1%8=(size c:Int)/\1<=size c/\size c<=8:=by have a:0<=draw c 1%8:=bA _ 'E';have b:draw c 1%8<8:=bR _ 'E';unfold size;lia
def GD(c:Int):draw c 2%(size c:Int)=(att c:Int)/\att c<size c:=by have d:=size_eq c;have a:0<=draw c 2%(size c:Int):=bA _ 'D';have b:draw c 2%(size c:Int)<(size c:Int):=bR _ 'D';unfold att;lia
abbrev sgn(c:Int)(k j:Nat):Nat:=Bx (draw c (10+(j:Int))+7*(k:Int)*(if(j:Int)=(att c:Int)then 1 else 0))
abbrev full(c:Int)(k:Nat):List Nat:=(aC (size c)).map (sgn c k)
abbrev ye(c:Int)(k:Nat):Nat:=att c+1+(k*k+size c)%(size c-att c)
abbrev nm(c:Int)(k:Nat):Str:=mkS ((full c k).take (ye c k))
def sD(c:Int)(k:Nat):(full c k).length=size c:=by unfold full;simp
def BP(c:Int)(k:Nat):att c+1<=ye c k/\ye c k<=size c:=by have h:=(GD c).2;have :=vM (k*k+size c) (show 0<size c-att c by lia);unfold ye;lia
def p6(c:Int)(k:Nat):eJ (nm c k)=true:=by
 have e:=BP c k;have f:=size_eq c;have b:(nm c k).length=ye c k:=by unfold nm;rw[xI,di,sD];lia
 unfold eJ;rw[b,az];refine(decide_eq_true 'D',?_,);show((full c k).take (ye c k)).toArray.toList.all jO=true;rw[tS,bj];intro y d;have a:=rj d;unfold full at a;obtain⟨j,_,rfl⟩:=aN.mp a;exact lett_ok _
def MD{c:Int}(hi:i<16)(m:j<16)(h:nm c i=nm c j):i=j:=by
 have e:(full c i).take (ye c i)=(full c j).take (ye c j):=by have :=congrArg (λz:Str=>z.cps.toList) h;simpa[nm]using this
 have d:=(GD c).2;have b:∀k:Nat,((full c k).take (ye c k))[att c]?<*(Bx (draw c (10+(att c:Int))+7*(k:Int))):=λk=>by have g:=BP c k;rw[nK 'D'];unfold full;rw[ax,bw d];show some (sgn c k (att c))=_;unfold sgn;rw[if_pos rfl,Int.mul_one]
 have a:=congrArg (λl:List Nat=>l[att c]?) e;simp only[b]at a;have f:=MX (bo a);lia
def AN:Sp:=λvs H Q _=>∃(c:Int)(m:Nat),vs=[.int c,.int m]/\m<=16/\∀H' l,aD H H'->H l=none->H' l<*(.lst ((aC m).map λk=>V.str (nm c k)))->Q (.ref l) H'
def Kz{G:Gam}(h:G.fn "_law_draw" 2<*(lH,[])):
  Sat G K AN vh uU:=by
 rintro T H Q E ⟨c,m,rfl,S,q⟩;unfold vh qw qv qu;change wpB G K _ _ _ [some (.int c),some (.int m),none,none,none,none,none,none,none] H;ext;refine(_,_,h,c,1,rfl,'E','E',?_,);have F:=size_eq c;have C:=GD c;ext;refine('E',?_,);rw[F.1];refine(_,_,h,c,2,rfl,'E','E',?_,);ext;refine('D',?_,);rw[C.1];refine(short 'F',λl i=>?_,);unfold qt;ext;refine iT ?_;ext;refine((m:Int),rfl,'D','D',?_,);refine gG dM (λk a d=>aD H d/\d l<*(.lst ((aC k).map λk=>V.str (nm c k)))/\∃u v w,a=[some (.int c),some (.int m),some (.str LETTERS),some (.int (size c)),some (.int (att c)),some (.ref l),u,v,w])
  (au i,aq,none,none,none,rfl,) (λ_ _ _ _ _=>trivial) ?_ ?_
 .rintro k x a o f L R ⟨n,e,u,v,w,rfl⟩ rfl r A _;have p:f l<*(.lst ((aC k).map λk=>V.str (nm c k))):=r _ _ e;have I:aD H f:=n.trans r;ext;simp only[eN];unfold nF;ext;refine iT ?_;ext;refine((size c:Int),rfl,'D','D',?_,);refine gG dM (λj a d=>aD f d/\∃w,a=[some (.int c),some (.int m),some (.str LETTERS),some (.int (size c)),some (.int (att c)),some (.ref l),some (.int k),some (.str (mkS ((full c k).take j))),w])
   (aD.refl _,w,rfl,) (λ_ _ _ _ _=>trivial) ?_ ?_
  .rintro j x a s N M P ⟨b,w,rfl⟩ rfl J B _;have D:j<size c:=by lia
   ext;simp only[eN];refine(_,_,h,c,10+(j:Int),rfl,'D','D',?_,);ext;refine(u6 'E' 'E',?_,);rw[int_b];ext;have y:(if decide ((j:Int)=(att c:Int))=true then(1:Int)else 0)=if(j:Int)=(att c:Int)then 1 else 0:=by
    by_cases z:(j:Int)=(att c:Int);·rw[decide_eq_true z,if_pos rfl,if_pos z]
    .rw[decide_eq_false z,if_neg ao,if_neg z]
   rw[y];refine(Ib (by split <;>lia) (by split <;>lia),'E',_,Bw,GF _,?_,B _ _ (b.trans J,some (.int j),?_,),);·rw[mk1,xI,xI,di,sD];exact short (by simp;lia)
   .have g:(full c k)[j]?<*(sgn c k j):=by unfold full;rw[ax,bw D];rfl
    rw[mk1,mk_app,dO,g];rfl
  .rintro a s ⟨b,w,rfl⟩;unfold nC;ext;have O:=BP c k;have t:(att c:Int)+1+((k:Int)*(k:Int)+(size c:Int))%((size c:Int)-(att c:Int))=(ye c k:Int):=by
    unfold ye;have :(size c:Int)-(att c:Int)=((size c-att c:Nat):Int):=by lia
    rw[this];push_cast;rfl
   have g:(full c k).take (size c)=full c k:=eZ (by rw[sD];exact ay _);rw[show((size c:Int)).toNat=size c from aW _,g];refine(.inl (rfl,_,SqL.of (b _ _ p),),u6 'D' 'D','D',?_,);rw[t,N2];refine(by rw[xI,sD];exact short 'D',l,_,_,rfl,rfl,b _ _ p,cR (by simp;lia:((aC k).map λk=>V.str (nm c k)).length<=40) 'E',A _ _ (fH (I.trans b) i,?_,_,_,_,rfl,),);rw[aq,List.range_succ,cH];rfl
 .rintro a o ⟨n,e,u,v,w,rfl⟩;unfold qr;ext;rw[show((m:Int)).toNat=m from aW _]at e;exact q o l n i e
def Dr(H:Hp)(nf:Nat->Str)(n:Nat)(ys:List V):Prop:=∀(i:Nat) y,ys[i]?<*y->∃b r zs,y=.ref b/\H b<*(.tup [.str (nf i),.ref r])/\H r<*(.tup zs)/\zs.length=n/\∀z∈zs,bF z=true
def sJ(k:∀i,eJ (nf i)=true)(d:Dr H nf n ys)(t:n<=60)(e:ys[i]?<*y):cP H y=true/\aK H y=nf i/\bE H y=n/\Kn3 H y:=by
 obtain⟨b,r,m,rfl,c,h,p,j⟩:=d i y e;have o:bZ H (.ref r)=true:=by show(match cN (H r)with |some g=>decide (g.length<=60)&&g.all bF|none=>false)=true;rw[h];show(decide (m.length<=60)&&m.all bF)=true;rw[decide_eq_true 'D',fh,bj];exact j
 have q:(nf i).length<=20000:=by have :=k i;unfold eJ at this;rw[az,decide_eq_true_eq]at this;lia
 refine(?_,?_,?_,⟨qO c,λz e=>nomatch e⟩,λa g e f=>?_,);·show(match cN (H b)with |some [n,r]=>isName n&&bZ H r|_=>false)=true;rw[c];show(eJ (nf i)&&bZ H (.ref r))=true;rw[k,o];rfl
 .show(match cN (H b)with |some (.str z::_)=>z|_=>("":Str))=_;rw[c];rfl
 .show(match cN (H b)with |some [_,.ref b]=>(cN (H b)).elim 0 eP|_=>0)=n;rw[c];show(cN (H r)).elim 0 eP=n;rw[h];exact p
 .injection e with e
  subst e;rw[c]at f;cases f;refine(by show 2<=20000;decide,λy l=>?_,);simp only[aA,bg,or_false]at l;rcases l with rfl|rfl;·exact⟨⟨xS,λz e=>by injection e with e;rw[<-e];exact q⟩,λa g e=>nomatch e⟩
  .refine(⟨qO h,λz e=>nomatch e⟩,λa g e f=>?_,);injection e with e;subst e;rw[h]at f;cases f;refine('D',λz s=>?_,);rcases jr (j z s)with rfl|rfl
   .exact⟨By,λz e=>nomatch e⟩
   .exact⟨By,λz e=>nomatch e⟩
def sI{t:Addr}(h:∀i,eJ (nf i)=true)(q:∀i j,i<ys.length->j<ys.length->nf i=nf j->i=j)(m:H t<*(.lst ys))(d:Dr H nf n ys)(r:ys.length<=40)(g:n<=60):Kn4 H (.ref t)/\bC H (.ref t)=true/\(∀y∈ys,cP H y=true)/\∀y∈ys,bE H y=n:=by
 have at':∀y∈ys,∃i,ys[i]?<*y:=λy c=>bN.mp c;have o:∀y∈ys,cP H y=true:=λy c=>let⟨i,e⟩:=at' y c;(sJ h d g e).1;have k:∀y∈ys,bE H y=n:=λy c=>let⟨i,e⟩:=at' y c;(sJ h d g e).2.2.1;refine((⟨uu m,λz e=>nomatch e⟩,λa f e p=>?_,),?_,o,k,)
 .injection e with e
  subst e;rw[m]at p;cases p;exact('D',λy c=>let⟨i,e⟩:=at' y c;(sJ h d g e).2.2.2,)
 .show(match cS (H t)with |some f=>decide (f.length<=40)&&(f.all (cP H)&&(decide ((f.map (aK H)).Nodup)&&decide (∀y∈f,∀z∈f,bE H y=bE H z))) |none=>false)=true;rw[m];show(decide (ys.length<=40)&&(ys.all (cP H)&&(decide ((ys.map (aK H)).Nodup)&&decide (∀y∈ys,∀z∈ys,bE H y=bE H z))))=true;rw[decide_eq_true r,fh,az,az,bj,decide_eq_true_eq,decide_eq_true_eq];refine⟨o,?_,λy c z s=>by rw[k y c,k z s]⟩;show List.Pairwise (λa b=>a≠b) _;rw[iB];intro i j hi l u e;rw[ai]at hi l;rw[cw,cw,(sJ h d g (ae hi)).2.1,(sJ h d g (ae l)).2.1]at e;have :=q i j hi l e;lia
def pow2(h:j<30):OB 0 ((2:Int)^j):=by
 have a:(2:Nat)^j<2^30:=Nat.pow_lt_pow_right 'E' h;have b:0<(2:Nat)^j:=Nat.pow_pos 'E';have e:((2:Int)^j)=((2^j:Nat):Int):=by push_cast;rfl
 rw[e];constructor;·lia
 .exact Int.ofNat_lt.mpr a
def wa{vs:List V}(h:∀(i:Nat) v,vs[i]?<*v->∃m:Int,v=.int m):∃ns:List Int,vs=ns.map V.int:=by
 induction vs with
 |nil=>exact([],rfl,)
 |cons v vs ih=>obtain⟨m,rfl⟩:=h 0 v rfl;obtain⟨ns,rfl⟩:=ih λi w e=>h (i+1) w ↥e;exact(m::ns,rfl,)
def DZ(b:List Int)(lo hi:Option Int):∃ms:List Int,vG (b.map V.int) lo hi=ms.map V.int:=by refine wa λi v e=>?_;have a:=aH e;unfold vG at a;obtain⟨m,_,rfl⟩:=aN.mp (List.mem_of_mem_drop (rj a));exact(m,rfl,)
end K21
namespace K22
open R
abbrev vD:List Str:=["_law_readings","_law_some"]
abbrev nr:List Str:=["_law_readings","_law_some"]
abbrev nz:CB:=
  (.cons (.ret (.bfn .tuple (.cons (.comp ["_law_j"] [1,0] (.name 0) (.range1 (.bfn .len (.cons (.var 0) .nil))) .no (.ite (.cmp .In (.var 0) (.var 1)) (.bin .Sub (.con (.int 1)) (.idx (.var 2) (.var 0))) (.idx (.var 2) (.var 0)))) .nil)))
  .nil)
abbrev Dd:List Str:=["_law_cells","_law_many"]
abbrev uV:List Str:=["_law_cells","_law_many","_law_seed","_law_nodes","_law_links","_law_fresh","_law_k","_law_number","_law_some","_law_j","_law_at"]
abbrev qx:CB:=
  (.cons (.ret (.tup (.cons (.var 3) (.cons (.var 4) .nil))))
  .nil)
abbrev iW:CB:=
  (.cons (.expr (.meth1 .append (.var 3) (.call "_law_otherwise" (.cons (.idx (.var 3) (.var 10)) (.cons (.var 8) .nil)))))
  .nil)
abbrev ly:CB:=
  (.cons (.expr (.meth1 .append (.var 4) (.tup (.cons (.var 10) (.cons (.bfn .len (.cons (.var 3) .nil)) (.cons (.bfn .sorti (.cons (.var 8) .nil)) .nil))))))
  iW)
abbrev jP:CB:=
  (.cons (.iff (.cmp .NotEq (.var 8) (.lst .nil))
  (.cons (.asg (.name 10) (.bin .Mod (.call "_law_draw" (.cons (.idx (.var 0) (.var 6)) (.cons (.bin .Add (.con (.int 41)) (.bin .Mult (.con (.int 4)) (.var 6))) .nil))) (.bfn .len (.cons (.var 3) .nil))))
  ly)
  .nil)
  .nil)
abbrev jQ:CB:=
  (.cons (.forr (.name 9) (.range1 (.bin .Add (.con (.int 1)) (.bin .FloorDiv (.bin .Mod (.var 7) (.con (.int 7))) (.con (.int 5)))))
  (.cons (.iff (.cmp .NotEq (.var 5) (.lst .nil))
  (.cons (.expr (.meth1 .append (.var 8) (.meth1 .pop (.var 5) (.bin .Mod (.bin .FloorDiv (.var 7) (.idx (.lst (.cons (.con (.int 7)) (.cons (.con (.int 112)) .nil))) (.var 9))) (.bfn .len (.cons (.var 5) .nil))))))
  .nil)
  .nil)
  .nil))
  jP)
abbrev nG:CB:=
  (.cons (.asg (.name 8) (.lst .nil))
  jQ)
abbrev lP:CB:=
  (.cons (.forr (.name 6) (.range1 (.bfn .len (.cons (.var 0) .nil)))
  (.cons (.asg (.name 7) (.call "_law_draw" (.cons (.idx (.var 0) (.var 6)) (.cons (.bin .Add (.con (.int 40)) (.bin .Mult (.con (.int 4)) (.var 6))) .nil))))
  nG))
  qx)
abbrev qz:CB:=
  (.cons (.asg (.name 5) (.lrng (.var 1)))
  lP)
abbrev qA:CB:=
  (.cons (.asg (.name 4) (.lst .nil))
  qz)
abbrev lQ:CB:=
  (.cons (.asg (.name 3) (.lst (.cons (.bfn .tuple (.cons (.comp ["_law_j"] [2] (.name 0) (.range1 (.var 1)) .no (.bin .Mod (.bin .FloorDiv (.var 1) (.bin .LShift (.con (.int 1)) (.var 0))) (.con (.int 2)))) .nil)) .nil)))
  qA)
abbrev qB:CB:=
  (.cons (.iff (.cmp .NotEq (.var 0) (.lst .nil))
  (.cons (.asg (.name 2) (.call "_law_draw" (.cons (.idx (.var 0) (.con (.int 0))) (.cons (.con (.int 20)) .nil))))
  .nil)
  .nil)
  lQ)
abbrev vk:CB:=
  (.cons (.asg (.name 2) (.con (.int 1)))
  qB)
abbrev Fw:List Str:=["_law_cells","_law_nodes"]
abbrev xC:List Str:=["_law_cells","_law_nodes","_law_held_here","_law_k","_law_number"]
abbrev sS:CB:=
  (.cons (.ret (.var 2))
  .nil)
abbrev oU:CB:=
  (.cons (.iff (.or (.cmp .Gt (.bin .Mod (.var 4) (.con (.int 5))) (.con (.int 0))) (.cmp .Eq (.var 2) (.lst .nil)))
  (.cons (.expr (.meth1 .append (.var 2) (.bin .Mod (.var 3) (.bfn .len (.cons (.var 1) .nil)))))
  .nil)
  (.cons (.expr (.meth1 .append (.var 2) (.bin .Mod (.bin .FloorDiv (.var 4) (.con (.int 5))) (.bfn .len (.cons (.var 1) .nil)))))
  .nil))
  .nil)
abbrev sT:CB:=
  (.cons (.forr (.name 3) (.range1 (.bfn .len (.cons (.var 0) .nil)))
  (.cons (.asg (.name 4) (.call "_law_draw" (.cons (.idx (.var 0) (.var 3)) (.cons (.bin .Add (.con (.int 60)) (.var 3)) .nil))))
  oU))
  sS)
abbrev yq:CB:=
  (.cons (.asg (.name 2) (.lst .nil))
  sT)
end K22
namespace K22
open L2 R Cp Lt Kc K21
def lh{t:Addr}{fs:List Int}(c:SqL K H t (fs.map V.int))(b:H p<*(.lst [])):∃d a,Rep K H d (.ref t)/\Rep K H a (.ref p)/\hgt d<=30/\eqD d a=decide (fs=[]):=by
 refine(.lst (fs.map D.int),.lst [],(t,_,rfl,c,fu.ints fs,),(p,[],rfl,SqL.of b,rfl,),by show gQ (fs.map D.int)+1<=30;rw[pL];decide,?_,);cases fs with
 |nil=>rfl
 |cons x r=>rw[decide_eq_false 'F'];rfl
theorem jk:∀(l:List Int)(z:Nat)(h:z<l.length),(l[z]::l.eraseIdx z).Perm l
 | [],_,h=>absurd h (fG _)
 |a::l,0,_=>eY _
 |a::l,z+1,h=>by
  have b:z<l.length:=by simpa using h
  exact(yO a l[z] (l.eraseIdx z)).trans ((jk l z b).cons a)
section
variable {G:Gam}
section
variable {E:XS}{D2:Ends}{a nd lk fr sm:Addr}{sd d0:Int}{ls:List V}
def sC(a:k<ns.length):(ns.map V.int)[k]?<*(.int (ns.getD k 0)):=by rw[ax,ae a,ag,ae a];rfl
end
end
def E6(K:ah):Sp:=λvs H Q _=>∃(a nd:Addr)(ns:List Int)(ys:List V),vs=[.ref a,.ref nd]/\SqL K H a (ns.map V.int)/\SqL K H nd ys/\ns.length<=16/\ys≠[]/\
 ∀(H':Hp)(l:Addr)(hs:List Int),aD H H'->H l=none->H' l<*(.lst (hs.map V.int))->hs.length=ns.length->(∀h∈hs,0<=h/\h<ys.length)->Q (.ref l) H'
section
variable {G:Gam}
def wp_held(L:G.fn "_law_draw" 2<*(lH,[])):
  Sat G K (E6 K) yq xC:=by
 rintro vs H Q E ⟨a,g,x,f,rfl,B,t,Z,S,q⟩;unfold yq sT;change wpB G K _ _ _ [some (.ref a),some (.ref g),none,none,none] H;ext;have a0:0<f.length:=eW.mpr S;refine(short 'F',λl s=>?_,);have C:aD H (upd H l (.lst [])):=au s;refine iT ?_;ext;refine Or.inl (a,_,rfl,.inl (C.seq B),_,rfl,by rw[ai];lia,by rw[ai];lia,?_,);refine gG dM (λk z j=>aD H j/\∃b:List Int,j l<*(.lst (b.map V.int))/\b.length=k/\(∀h∈b,0<=h/\h<f.length)/\∃u v,z=[some (.ref a),some (.ref g),some (.ref l),u,v])
  (C,[],aq,rfl,'F',none,none,rfl,) (λ_ _ _ _ _=>trivial) ?_ ?_
 .rintro k a1 z A m F O ⟨y,b,e,o,p,u,v,rfl⟩ rfl D M _;have P:k<x.length:=by simpa using O
  have i:=y.trans D;have e:=D _ _ e;ext;simp only[eN];refine(_,_,L,.inl (a,_,k,_,rfl,rfl,i.seq B,cG (sC P),?_,),);ext;refine(_,_,rfl,'D','D',?_,);have N:=BI (x.getD k 0) (60+(k:Int));generalize draw (x.getD k 0) (60+(k:Int))=d0 at N⊢;unfold oU;ext;refine('E',?_,);have r:∀(n:Hp)(w:Int),aD m n->A6 (.ref l) [.int (w%(f.length:Int))] n λ_ j=>F.nx [some (.ref a),some (.ref g),some (.ref l),some (V.int k),some (V.int d0)] j:=by
   intro n w c;refine⟨l,b.map V.int,_,rfl,rfl,c _ _ e,cR (by rw[ai];lia:(b.map V.int).length<=40) 'E',M _ _ (fH (i.trans c) s,b++[w%(f.length:Int)],by rw[aq,cH];rfl,by simp[o],λh hh=>?_,_,_,rfl,)⟩;rcases bz.mp hh with hh|hh;·exact p h hh
   .rw[aI]at hh;subst hh;exact(bA _ 'D',bR _ 'D',)
  by_cases h5:(0:Int)<d0%5;·rw[decide_eq_true h5,if_pos rfl,if_pos trivial];refine(.inl (rfl,_,SqL.of e,),Or.inl (g,f,rfl,.inl (i.seq t),?_,),);ext;exact('D',r m _ (aD.refl _),)
  .rw[decide_eq_false h5,if_neg ao];refine(short 'F',λT R=>?_,);generalize hX:upd m T _=H3;obtain⟨c,J⟩:=cX hX R;clear hX;obtain⟨d,I,U,W,X,Y⟩:=lh (K:=K) (SqL.of (c _ _ e)) J;refine(d,I,U,W,X,_,rfl,?_,);rw[Y];by_cases hf:b=[];·rw[decide_eq_true hf,if_pos rfl];refine(.inl (rfl,_,SqL.of (c _ _ e),),Or.inl (g,f,rfl,.inl ((i.trans c).seq t),?_,),);ext;exact('D',r H3 _ c,)
   .rw[decide_eq_false hf,if_neg ao];refine(.inl (rfl,_,SqL.of (c _ _ e),),('E','E',),Or.inl (g,f,rfl,.inl ((i.trans c).seq t),?_,),);ext;exact('D',r H3 _ c,)
 .rintro z A ⟨y,b,e,o,p,u,v,rfl⟩;unfold sS;ext;exact q A l b y s e (by simp at o;lia) p
end
end K22
namespace Lm
open PySem.W L2 Q
noncomputable abbrev Kp(h h':Heap):Prop:=∀b o,h.get? b<*o->h'.get? b<*o
section
variable {E:'I'}{s:Shared}
def Oa{Q:'I'}{x:Str}{u:Arguments}{k:Value}{p q t:Pos}{a:Array Value}
  (hf:s.heap.get? f<*(kla_obj "<lambda>" qual u (.Subscript (.Name x p) (.Constant (.int 0) j q) t) scope [] pm c' ce))(C:s.heap.CodeRec (.ref c') qual)(K:A.depth<ke)(I:s.heap.NoLimit)
  (B:∀v,ri (kla_fn "<lambda>" qual u (.Subscript (.Name x p) (.Constant (.int 0) j q) t) scope [] pm (.ref c') ce) ([v],[],)=pure [(x,v)])
  (m:scope.names.lookup x<*.local)(G:(x==("__debug__":Str))=false)(d:scope.kind=.function)(D:∀y∈scope.names,y.2≠.cell)(F:scope.isCoroutine=false)(H:scope.isGenerator=false)
  (L:IsTup s.heap b a)(h0:a[0]?<*k)(h:∀h' t',Kp s.heap h'->Q k {s with heap:=h',toks:=t'}):'B' (call (.ref f) [.ref b]) Q E s:=by
 refine iF (kla_callFunE K hf rfl F H rfl C ?_);rw[B];refine aj (wpAny_newFunctionEnv D (λy M=>?_) (λn J i=>(I.fresh _ i,?_,)) d)
 .have e:y=(x,.ref b):=by simpa using M
  rw[e];exact m
 have g:Kp s.heap n:=λb o e=>i.extBut b o (aL (aw e)) (af _ e);refine kla_codeExpr (Subscript_ (Ka (wpAny_loadName_local d m J (v:=.ref b) 'F' ?_) G));refine wpAny_Constant_int ?_;have l:IsTup n b a:=by obtain⟨o,e,c⟩:=L;exact(o,g _ _ e,c,)
 have N:0<a.size:=by
  rcases Nat.eq_zero_or_pos a.size with z|z;·rw[pB 'D']at h0;cases h0
  .exact z
 exact tK (x:=k) l.typeIs slot_tuple_getitem.lookup
  (getItem_tuple (j:=0) (Q:=λr O=>r=k/\_) l 'E' 'E' (by rw[EB 'E' 'D'];rfl) h0 (rfl,h _ _ g,)) rfl
def Keys(prog:Program)(w:World)(A:Around)(f:Value)(vs:List Value)(ks:List Str)(h0:Heap):Prop:=
 ∀(i:Nat)(v:Value)(k:Str),vs[i]?<*v->ks[i]?<*k->∀(s1:Shared)(E:'I')(a:'I'),Kp h0 s1.heap->
  (∀t h' t',Kp s1.heap h'->a (.str k t) {s1 with heap:=h',toks:=t'})->'B' (call f [v]) a E s1
theorem strs_snoc{k:Str}{t:Tok}:∀{vs:List Value}{ks:List Str},Cc vs ks->Cc (vs++[.str k t]) (ks++[k])
 |_,_,.nil=>.cons k t .nil
 |_,_,.cons y u h=>.cons y u (strs_snoc h)
def GW{e f:Nat}{st:SortSt}{P:dN->Shared->Prop}(t:(arrOf st).map (·.2)=eI out)(hz:out.length<64)(p:kv.length<64)(hf:failedOf st=none)
  (n:s.heap.get? kS<*(seqObj "list" kv.toArray e))(l:s.heap.get? a<*(seqObj "list" #[] f))(r:kS≠a)
  (h:∀h' c,(∀b o,b≠a->b≠kS->s.heap.get? b<*o->h'.get? b<*o)->h'.get? a<*(seqObj "list" out.toArray c)->P (.done (.ret .none)) {s with heap:=h'}):
  'B' (ksk_tail a false f (.ref kS) st) P E s:=by
 have i:=bM s.heap kS (a9 λ_=>(#[]:Array Value));have g:(s.heap.update kS (a9 λ_=>(#[]:Array Value))).get? a<*(seqObj "list" #[] f):=(i.2 a (bK r)).trans l;have u:=bM (s.heap.update kS (a9 λ_=>(#[]:Array Value))) a (a9 λ_=>eI out);obtain⟨d,m⟩:∃d,((s.heap.update kS (a9 λ_=>(#[]:Array Value))).update a (a9 λ_=>eI out)).get? a<*(seqObj "list" (eI out) d):=(_,tQ g λ_=>eI out,);unfold ksk_tail;try dsimp only
 rw[t];refine aa (fZ n rfl ?_ (by rw[aE];exact fQ p) (a7 _));refine aa (iE ?_);refine aa (vK g rfl ?_);refine aa (fZ g rfl ?_ (a7 _) ↥(G5 hz));rw[hf];simp only[bne_self_eq_false,aY,if_false];exact aj (h _ d (λb o j k q=>(u.2 b j).trans ((i.2 b k).trans q)) m)
def end_ok{e f:Nat}{P:dN->Shared->Prop}(U:ks.Nodup)(r:Cc kv ks)(y:ks.length=vs.length)(m:vs.length<64)
  (x:s.heap.get? kS<*(seqObj "list" kv.toArray e))(v:s.heap.get? a<*(seqObj "list" #[] f))(B:kS≠a)
  (h:∀h' c,(∀b o,b≠a->b≠kS->s.heap.get? b<*o->h'.get? b<*o)->h'.get? a<*(seqObj "list" (gB (oE ks) vs).toArray c)->P (.done (.ret .none)) {s with heap:=h'}):
  'B' (ksk_end a false vs.toArray f (.ref kS) (eI kv)) P E s:=by
 have g:vs.toArray.size=vs.length:=by simp
 have O:=wM r;have n:kv.length=vs.length:=O.trans y;unfold ksk_end;simp only[aY,if_false];by_cases hn:vs.length<2;·have l:gB (oE ks) vs=vs:=if_pos hn;rw[l]at h;rw[if_pos (by rw[g];exact hn),if_pos (by rw[g];exact hn)];refine aa (aj (aa ?_));rw[StateT.run_pure];refine aj (GW (out:=vs) ?_ m 'D' rfl x v B h);show(kv.toArray.zip vs.toArray).map (·.2)=vs.toArray;apply Cm;simp[nS,n]
 .have I:2<=vs.length:=by lia
  have l:gB (oE ks) vs=(run (oE ks) (dX vs.length)).toList.map λi=>vs.getD i .none:=if_neg hn;rw[l]at h;rw[if_neg (by rw[g];exact hn),if_neg (by rw[g];exact hn)];obtain⟨κ,M,N⟩:=J3 (prog:=prog) (w:=w) (A:=A) (h0:=s.heap) r 'D' s (λ_ _ q=>q);have T:Tot (oE ks) vs.length:=by rw[<-y];exact wG U
  obtain⟨F,V,D⟩:=gA T (by lia:1<=vs.length);refine aa (M _ _ (aa ?_));have R:=kat_run (prog:=prog) (w:=w) (A:=A) (E:=E) (κ:=κ) (ks:=kv) (vs:=vs) (s:=s)
   (Q:=λk d=>d=s/\arrOf k=(run (oE ks) (dX vs.length)).map (kas_item (kv.toArray.zip vs.toArray))/\failedOf k=none)
   (G:=λp d=>d=s/\p=run (oE ks) (dX vs.length)) n I m
   (λp k d _ f H u=>(u.1,by rw[f,u.2],H,))
   (wp_run (S:=λd=>d=s) (λi j C d hi W L t J=>by subst t;exact N i j C 'D' 'D' L (J _ rfl)) _ _ D rfl λd t=>(t,rfl,))
  refine da R ?_ λ_ _ z=>z;rintro⟨⟨⟩,k⟩ d ⟨rfl,K,hf⟩;exact GW (kat_snds n K) (by rw[ai,cq,F.size];exact m) 'D' hf x v B h
def Lq{f:Value}{P:dN->Shared->Prop}(X:ks.Nodup)(U:ks.length=vs.length)(u:s.heap.get? a<*(seqObj "list" vs.toArray n))
  (k0:∀b o,h0.get? b<*o->s.heap.get? b<*o/\b≠a)(F:vs.length<64)(W:Keys prog w A f vs ks h0)
  (h:∀h' t' c,(∀b o,b≠a->s.heap.get? b<*o->h'.get? b<*o)->h'.get? a<*(seqObj "list" (gB (oE ks) vs).toArray c)->P (.done (.ret .none)) {s with heap:=h',toks:=t'}):
  'B' (ksk_tree a f false) P E s:=by
 have V:vs.toArray.size=vs.length:=by simp
 have S:a<⇑s:=aw u;have Y:=bM s.heap a (a9 λ_=>(#[]:Array Value));obtain⟨m,M⟩:∃m,(s.heap.update a (a9 λ_=>(#[]:Array Value))).get? a<*(seqObj "list" #[] m):=(_,tQ u λ_=> #[],);unfold ksk_tree;refine aa (listItems_at u rfl ?_);refine aa (fZ u rfl ?_ (by rw[V];exact fQ F) (a7 _));refine aa (vK M rfl ?_);refine aa (J8 ?_ (show vs.length<=_ from fQ F));refine aa (pX ?_ (a7 _));refine bY ?_;have J:((s.heap.update a (a9 λ_=>(#[]:Array Value))).push (seqObj "tuple" vs.toArray 0)).get? a<*(seqObj "list" #[] m):=af _ M;have O:∀b o,b≠a->s.heap.get? b<*o->((s.heap.update a (a9 λ_=>(#[]:Array Value))).push (seqObj "tuple" vs.toArray 0)).get? b<*o:=λb o g q=>af _ ((Y.2 b g).trans q);have v:⇑s<((s.heap.update a (a9 λ_=>(#[]:Array Value))).push (seqObj "tuple" vs.toArray 0)).objs.size:=by rw[Ke,nT];lia
 show wpAny _ _ (ksk_rest a f false vs.toArray m (.ref ((s.heap.update a (a9 λ_=>(#[]:Array Value))).push (seqObj "tuple" vs.toArray 0)).objs.size)) _ _
  {s with heap:=((s.heap.update a (a9 λ_=>(#[]:Array Value))).push (seqObj "tuple" vs.toArray 0)).push (seqObj "list" #[] 0)}
 generalize(s.heap.update a (a9 λ_=>(#[]:Array Value))).push (seqObj "tuple" vs.toArray 0)=h1 at J O v⊢;have L:h1.objs.size≠a:=dQ (gu S v);unfold ksk_rest;refine aa (fW ?_)
 first
  |rw[List.forIn_toArray]
  | (rw[<-OV];simp only[tS])
  |rw[<-OV]
 refine aa (ksk_fold (λi H=>∃l C d e,H={s with heap:=l,toks:=C}/\Cc d (ks.take i)/\l.get? h1.objs.size<*(seqObj "list" (eI d) e)/\l.get? a<*(seqObj "list" #[] m)/\∀b o,b≠a->s.heap.get? b<*o->l.get? b<*o)
  vs 0 _ ⟨_,s.toks,[],0,rfl,by rw[List.take_zero];exact .nil,av _ rfl,af _ J,λb o g q=>af _ (O b o g q)⟩ ?_ ?_)
 .rintro j x H N ⟨l,C,d,e,rfl,r,p,G,B⟩;rw[yM]at r;have Z:j<vs.length:=(aF.mp N).1;have K:ks[j]?<*(ks[j]''D'):=ae 'D';have a0:d.length=j:=by rw[wM r,di];lia
  refine aa (fX (W j x _ N K _ _ _ (λb o q=>B b o (k0 b o q).2 (k0 b o q).1) λt I t3 y=>?_));have Q:=bM I h1.objs.size (a9 (·.push (iZ (ks[j]''D') t)));have R:(eI d).push (iZ (ks[j]''D') t)=eI (d++[iZ (ks[j]''D') t]):=by simp
  obtain⟨D,T⟩:∃D,(I.update h1.objs.size (a9 (·.push (iZ (ks[j]''D') t)))).get? h1.objs.size<*(seqObj "list" (eI (d++[iZ (ks[j]''D') t])) D):=⟨_,by rw[<-R];exact tQ (y _ _ p) (·.push _)⟩;try dsimp only
  refine aa (fZ (y _ _ p) rfl ?_ (by rw[aE];exact fQ 'D') (aO (Kq (Array.size_push ..)) (by rw[aE];exact G5 'D')));refine aj (rfl,_,t3,d++[iZ (ks[j]''D') t],D,rfl,?_,T,(Q.2 a (bK L)).trans (y _ _ G),λb o g q=>(Q.2 b (aL (gu (aw q) v))).trans (y _ _ (B b o g q)),);rw[yM,dO,K];exact strs_snoc r
 .rintro H ⟨l,C,d,e,rfl,r,p,G,B⟩;rw[yM,eZ 'D']at r;try dsimp only
  refine aa (listItems_at p rfl ?_);exact end_ok X r U F p G L λh' c k q=>h h' C c (λb o g z=>k b o g (aL (gu (aw z) v)) (B b o g z)) q
def Fb{Q:'I'}(t:ks.Nodup)(n:ks.length=vs.length)(j:s.heap.IsList l vs.toArray)(a:vs.length<64)(r:Keys prog w A.in1.in1 (.ref q) vs ks s.heap)
  (h:∀h' t' c,Kp s.heap h'->h'.get? (⇑s+1)<*(seqObj "list" (gB (oE ks) vs).toArray c)->Q (.ref (⇑s+1)) {s with heap:=h',toks:=t'}):
  'B' (call (.builtin "sorted") [.ref l] [(aQ "key",.ref q)]) Q E s:=by
 refine call_function_entry_kw kind_sorted plain_sorted entry_sorted (ksk_s1 _ _) ?_;unfold Builtin.«sorted»;refine aa (m:=checkCount "sorted" 1 1 _) (aj ?_);refine aa (collect_list j ?_ ↥(fQ a));refine aa (pX ?_ (show vs.length<=_ from fQ a));have g:((s.heap.push (seqObj "list" #[] 0)).update ⇑s (a9 (·++vs.toArray))).objs.size=⇑s+1:=by rw[nT,Ke]
 have p:Kp s.heap ((s.heap.push (seqObj "list" #[] 0)).update ⇑s (a9 (·++vs.toArray))):=λb o e=>by have i:=aw e;rw[aP _ _ (dQ i)];exact af _ e
 have d:(((s.heap.push (seqObj "list" #[] 0)).update ⇑s (a9 (·++vs.toArray))).push (seqObj "list" vs.toArray 0)).get? (⇑s+1)<*(seqObj "list" vs.toArray 0):=by rw[<-g];exact av _ rfl
 show wpAny _ _ _ _ _ {s with heap:=((s.heap.push (seqObj "list" #[] 0)).update ⇑s (a9 (·++vs.toArray))).push (seqObj "list" vs.toArray 0)};rw[g];have f:Kp s.heap (((s.heap.push (seqObj "list" #[] 0)).update ⇑s (a9 (·++vs.toArray))).push (seqObj "list" vs.toArray 0)):=λb o e=>af _ (p b o e);generalize((s.heap.push (seqObj "list" #[] 0)).update ⇑s (a9 (·++vs.toArray))).push (seqObj "list" vs.toArray 0)=h1 at d f⊢;refine aa (bY (wpAny_call_entry_kw Kb (_,d,rfl,) GN ?_ (ksk_l1 _ _)));show wpAny (model prog w) A.in1.in1 (Builtin.«list.sort» ([.ref (⇑s+1)],[(aQ "key",.ref q)],)) _ _ _;rw[ksk_t1];exact Lq (s:={s with heap:=h1}) t n d (λb o e=>(f b o e,aL (bP (aw e)),)) a r λh' t' c k z=>(_,rfl,aj (_,rfl,h h' t' c (λb o e=>k b o (aL (bP (aw e))) (f b o e)) z,),)
end
structure Tb where
 P:Addr
 pos:Pos
 q:Str
def Tab(T:Tb)(H:Hp):Prop:=H T.P<*(.tbl #[])\/∃c' oc u vs t,H T.P<*(.tbl #[rawInt T.pos.line,rawInt T.pos.col,.ref c'])/\H c'<*(.frz oc u)/\oc.data=.fields vs/\vs[1]?<*(.str T.q t)
structure Gr(T:Tb)(H H':Hp):Prop where
 keep:∀b o,b≠T.P->H b<*o->H' b<*o
 tab:Tab T H->Tab T H'
def Gr.refl(T:Tb)(H:Hp):Gr T H H:=(λ_ _ _ e=>e,λt=>t,)
def Gr.trans{T:Tb}(a:Gr T H H1)(b:Gr T H1 H2):Gr T H H2:=(λc o n e=>b.keep c o n (a.keep c o n e),λt=>b.tab (a.tab t),)
def Gr.of{T:Tb}(e:aD H H'):Gr T H H':=
 ⟨λb o _ q=>e b o q,λt=>by
  rcases t with t|⟨a,h,u,i,tk,c,d,f,g⟩;·exact .inl (e _ _ t)
  .exact .inr (a,h,u,i,tk,e _ _ c,e _ _ d,f,g,)⟩
def Tab.ne{T:Tb}(t:Tab T H){o:HO}(e:H b<*o)(n:∀ps,o≠.tbl ps):b≠T.P:=by
 intro z;subst z;rcases t with t|⟨c,h,u,i,tk,a,d,f,g⟩;·rw[t]at e;exact n _ (bo e).symm
 .rw[a]at e;exact n _ (bo e).symm
section
variable {T:Tb}{a:Addr}
def Gr.at(g:Gr T H H')(t:Tab T H){o:HO}(e:H a<*o)(n:∀ps,o≠.tbl ps):H' a<*o:=g.keep a o (t.ne e n) e
theorem Gr.lst(g:Gr T H H')(t:Tab T H)(e:H a<*(.lst xs)):H' a<*(.lst xs):=g.at t e λ_ z=>by cases z
def Gr.i7(g:Gr T H H')(t:Tab T H)(e:H a<*(.tup xs)):H' a<*(.tup xs):=g.at t e λ_ z=>by cases z
theorem Gr.frz(g:Gr T H H')(t:Tab T H){o:Obj}{u:HO}(e:H a<*(.frz o u)):H' a<*(.frz o u):=g.at t e λ_ z=>by cases z
def Gr.seq(g:Gr T H H')(t:Tab T H)(h:SqL K H a xs):SqL K H' a xs:=by
 rcases h with(h|⟨o,h⟩) |h;·exact .inl (.inl (g.lst t h))
 .exact .inl (.inr (o,g.frz t h,))
 .exact .inr h
end
def un_tab{fs:List Addr}{j:Obj}{ps more:Array Value}(r:HOk P w H h)(i:∀b o,b≠p->h.get? b<*o->h'.get? b<*o)(c:H p<*(.tbl ps))(l:h.objs.size<=c')
  (s:h'.get? p<*(tabObj (ps++more)))(k:h'.get? c'<*j):
  Un fs [] H (upd (upd H c' (.frz j (.ext λ_=>True))) p (.tbl (ps++more))) h h'/\HOk P w (upd (upd H c' (.frz j (.ext λ_=>True))) p (.tbl (ps++more))) h':=by
 have m:H c'=none:=r.fresh l;have ne:c'≠p:=bK (bL c m);have g:∀{b:Addr}{o:HO},H b<*o->b≠p->upd (upd H c' (.frz j (.ext λ_=>True))) p (.tbl (ps++more)) b<*o:=λ{b o} e n=>by rw[aV n,aV (bL e m)];exact e
 have f:∀{b:Addr}{o:HO},H b<*o->(∀t,o≠.tbl t)->b≠p:=λ{b o} e n z=>by subst z;rw[c]at e;exact n _ (bo e).symm
 refine((λb o e n _ _=>i b o (λz=>by rw[z,c]at n;cases n) e,λb o e n _ _=>⟨o.slots,i b o (λz=>by rw[z,c]at n;cases n) e⟩,λb o e n _=>?_,λb o e _=>?_,λb A e=>g e (f e λ_ z=>by cases z),
  λb o u e=>g e (f e λ_ z=>by cases z),λb t e=>?_,),λb o e=>?_,)
 .have a:b≠p:=λz=>by rw[z,c]at n;cases n
  rw[aV a,aV (aL (aZ (aw e) l))];exact n
 .by_cases a:b=p;·exact⟨_,by rw[a];exact s⟩
  .exact(o,i b o a e,)
 .by_cases a:b=p;·subst a;rw[c]at e;cases e;exact(more,aq,)
  .exact⟨#[],by rw[g e a];simp⟩
 .by_cases a:b=p;·subst a;rw[aq]at e;cases e;exact s
  .rw[aV a]at e;by_cases hc2:b=c';·subst hc2;rw[aq]at e;cases e;exact(k,trivial,(_,k,),λ_ _ _ _=>trivial,)
   .rw[aV hc2]at e;refine(r b o e).ub (λd v x q=>i d v ?_ q) (λd q=>g q (f q λ_ z=>by cases z)) λd A q=>g q (f q λ_ z=>by cases z);rcases x with z|z;·rw[z];exact a
    .exact f z λ_ y=>by cases y
def BM(mg:Str->Option Value)(h:Heap):Prop:=∃bm a,mg "__builtins__"<*(.ref bm)/\bm≠nO/\bm≠bx/\h.get? bm<*a/\a.cls=.type "module"/\a.dict<*nO/\a.data=.plain
def rSortK(K:ah)(T:Tb):List V->Hp->VK->Prop:=λxs H Q=>∃a ys ks,xs=[V.ref a]/\SqL K H a ys/\ks.length<64/\ks.Nodup/\tH H ys ks/\Tab T H/\
 ∀H2 l,Gr T H H2->H2 l=none->Q (.ref l) (upd H2 l (.lst (sortBy .non ks ys)))
def wJ(K:ah)(T:Tb)(te:TE):TE:=λσ H Q=>jy te rD σ H λxs H1=>rSortK K T xs H1 Q
structure Oy(env:Env)(params:Arguments)(x:Str)(body:Expr)(scope:Scope):Prop where
 cl:Km scope env=pure []
 df:defaultsOf params env=([],[])
 bd:∀(qual:Str)(pm ce v:Value)(c':Addr),ri (kla_fn "<lambda>" qual params body scope [] pm (.ref c') ce) ([v],[],)=pure [(x,v)]
 lk:scope.names.lookup x<*.local
 dbg:(x==("__debug__":Str))=false
 kd:scope.kind=.function
 nc:∀y∈scope.names,y.2≠.cell
 co:scope.isCoroutine=false
 gn:scope.isGenerator=false
section
variable {te:TE}{T:Tb}{c:Addr}{p kp p1 p2 p3:Pos}{x:Str}{params:Arguments}
theorem vZ(O:Oy X.env params x (.Subscript (.Name x p1) (.Constant (.int 0) j p2) p3) scope)(ok:HOk X.prog X.w H s.heap)
  (hf:s.heap.get? f<*(kla_obj "<lambda>" qual params (.Subscript (.Name x p1) (.Constant (.int 0) j p2) p3) scope [] pm c' ce))(e:s.heap.CodeRec (.ref c') qual)(h:A.depth<ke)(g:s.heap.NoLimit):
  ∀{ys:List V}{ks:List Str}{vs:List Value},tH H ys ks->bS ys vs->Keys prog w A (.ref f) vs ks s.heap
 |_,_,_,.nil,.nil=>λi v k c=>by simp at c
 |_,_,_,.cons y t,.cons r q=>by
  intro i v k c d G E l b hq;cases i with
  |zero=>
   obtain⟨a,K,rfl,p⟩:=y;cases r;have m:v=bD a:=by simpa using c.symm
   subst m;obtain⟨_,J,F,o,u,z,n,B⟩:=ok a _ p;cases F with
   |cons r0 _=>obtain⟨tk,rfl⟩:=r0;obtain rfl:=bo d;exact Oa (b _ _ hf) (e.keeps b) h (g.keeps b) (λv=>O.bd _ _ _ v _) O.lk O.dbg O.kd O.nc O.co O.gn (o,b _ _ u,z,n,B,) 'F' λC I D=>hq tk C I D
  |succ i=>exact vZ O ok hf e h g t q i v k ↥c ↥d G E l b hq
def zC{Q:VK}(O:Oy X.env params x (.Subscript (.Name x p1) (.Constant (.int 0) j p2) p3) scope)(I:'A')
  (hf:s.heap.get? f<*(kla_obj "<lambda>" T.q params (.Subscript (.Name x p1) (.Constant (.int 0) j p2) p3) scope [] pm c' ce))(g:s.heap.CodeRec (.ref c') T.q)(m:X.A.depth<ke)
  (hq:SqL X.K H a ys)(u:ks.length<64)(b:ks.Nodup)(d:tH H ys ks)(q:∀l,H l=none->Q (.ref l) (upd H l (.lst (sortBy .non ks ys)))):
  'C' (call (.builtin "sorted") [.ref a] [(aQ "key",.ref f)]) (EP X pins σ Q) X.xe s:=by
 obtain⟨p,c,r,w⟩:=I.list hq;have i:ks.length=ys.length:=uP d;have v:=c.length;have n:ks.length=p.length:=by lia
 refine Fb b n r.isList 'D' (vZ (A:=X.A.in1.in1) O I.hok hf g m I.nolimit d c) λt t' e k h=>?_;have o:(sortBy V.non ks ys).length<=sizeLine:=by unfold sortBy;rw[ai,ord_len ks b];lia
 exact(.ref (⇑s+1),_,I.laid (t':=t') k (dw _) (show dA X.prog X.w _ _ _ (.lst (sortBy .non ks ys))from(o,_,e,Mz b i c,h,)),rfl,q _ (I.hok.fresh (dw _)),)
def Mg(he:PE X e te)(hs:bf [e] X.env=(false,eval e X.env)::bf [] X.env)(hg:Gl X "sorted")(hm:X.mg "sorted"=none)(B:X.env.code=.ref c)(A:CodeHd X.base c T.P)(hq:X.env.qual++"<lambda>"=T.q)(hb:BM X.mg X.base)
  (O:Oy X.env params x (.Subscript (.Name x p1) (.Constant (.int 0) j p2) p3) scope)(J:X.A.depth<ke):
  PE X (.Call (.Name "sorted" p) [e] [(some (aQ "key"),.Lambda params (.Subscript (.Name x p1) (.Constant (.int 0) j p2) p3) scope T.pos,kp,)] pos) (wJ X.K T te):=by
 intro a9 b9 σ H c0 I a0;refine fC (jj (u:=.builtin "sorted") I hg hm (by decide+kernel) ?_);refine callWith_kw (thn (fo he jg hs pos a9 b9 σ H _ I a0) λus f ⟨i,g,a,b7,c1,ys,ks,ev,M,w,L,F,tb,q⟩=>?_) (by rw[hs];rfl) (by rw[hs];rfl);subst ev;obtain⟨u,rfl,rx⟩:=vals1 b7;cases rx;obtain⟨v,ob,R,S,Q,s,U,V,W⟩:=hb;have E:f.heap.Ns bx X.mg:=a.mod.glob.keeps a.bk;have a1:v≠T.P:=λz=>by have n:=(a.bs _ _ s).2;rw[z]at n;rcases tb with t|⟨_,_,_,_,_,t,_⟩<;>(rw[t]at n;cases n)
 have a3:bx≠T.P:=λz=>by obtain⟨o,es,ep,g1,g2,_⟩:=a.mod.glob;have n:=(a.bs _ _ g1).2;rw[z]at n;rcases tb with t|⟨_,_,_,_,_,t,_⟩<;>(rw[t]at n;cases n)
 have y:f.heap.BuiltinsAt X.mg T.P:=(v,ob,R,S,Q,a1,a.bk _ _ s,U,V,W,);refine kws_cons (kla_eval O.df ?_);rw[hq];rcases tb with t|⟨d,h,u,i,tk,t,a2,k,a6⟩
 .refine kla_makeFunction (mg:=X.mg) O.cl a.ok.glob E B (A.keeps a.bk) (ps:= #[]) (a.hok _ _ t) True.intro rfl a3 y λd m h' tk hx D c3 a4 a5=>kws_nil ?_;obtain⟨c2,h,i,N,ec,k,C,K⟩:=a4;cases ec;have a7:∀b o,b≠T.P->f.heap.get? b<*o->(h'.push (kla_obj "<lambda>" T.q params (.Subscript (.Name x p1) (.Constant (.int 0) j p2) p3) scope [] ((X.mg "__name__").getD .none) d m)).get? b<*o:=λb o n e=>af _ (hx b o n e);obtain⟨un,ok⟩:=un_tab (fs:=frs X.stack) a.hok a7 t D (af _ a5) (af _ k);have l:=a.call (g':=f.gens) (t':=tk) (d':=f.drawn) un ok a.bare (λb z=>absurd z 'F');have P:Tab T g:=.inl t;have gr:Gr T g (upd (upd g d (.frz h (.ext λ_=>True))) T.P (.tbl (#[]++ #[rawInt T.pos.line,rawInt T.pos.col,bD d]))):=by
   have G:g d=none:=a.hok.fresh D;refine(λb o n e=>by rw[aV n,aV (bL e G)];exact e,λ_=>.inr (d,h,.ext λ_=>True,i,N,?_,?_,C,K,),);·rw[aq];simp
   .rw[aV (bK (bL t G)),aq]
  exact zC O l (av _ rfl) (d,h,i,N,rfl,af _ k,C,K,) J (gr.seq P M) w L (Paired.qN F λc6 c5 ⟨b,b8,Y,Z⟩=>(b,b8,Y,gr.i7 P Z,)) (q _ · gr)
 .refine kla_makeFunctionHit (mg:=X.mg) O.cl a.ok.glob E B (A.keeps a.bk) (a.hok _ _ t) (by simp[TriplesOk,rawInt]) (cv:=.ref d) (by simp[codeAmong,rawInt]) y λm h' tk r c4=>kws_nil ?_;have l:=a.call (H':=g) (h':=h'.push (kla_obj "<lambda>" T.q params (.Subscript (.Name x p1) (.Constant (.int 0) j p2) p3) scope [] ((X.mg "__name__").getD .none) d m)) (g':=f.gens) (t':=tk) (d':=f.drawn) (ch:=[])
   (Un.kept λb o e=>af _ (r b o e)) (a.hok.kept λb o e=>af _ (r b o e)) a.bare (λb z=>absurd z 'F')
  exact zC O l (av _ rfl) (d,h,i,_,rfl,af _ (r _ _ (a.hok _ _ a2).1),k,a6,) J M w L F λa8 hl=>q g a8 (Gr.refl _ _) hl
end
end Lm
namespace Lm
open PySem.W L2 Q R
abbrev sy(lx:Str)(p:Pos):Arguments:={posonlyargs:=[],args:=[(lx,none,p,)],vararg:=none,kwonlyargs:=[],kw_defaults:=[],kwarg:=none,defaults:=[]}
abbrev isArg(lx:Str):List Arg->Bool
 |x::r=>r.isEmpty&&(x.annotation.isNone&&x.arg==lx)
 | []=>false
abbrev zV(lx:Str)(a:Arguments):Bool:=a.posonlyargs.isEmpty&&(a.vararg.isNone&&(a.kwonlyargs.isEmpty&&(a.kw_defaults.isEmpty&&(a.kwarg.isNone&&(a.defaults.isEmpty&&isArg lx a.args)))))
def jS{a b:Bool}(h:(a&&b)=true):a=true/\b=true:=by rwa [az]at h
def emp{a:Type}{l:List a}(h:l.isEmpty=true):l=[]:=List.isEmpty_iff.mp h
def non{a:Type}{l:Option a}(h:l.isNone=true):l=none:=hU.mp h
def FU{a:Arguments}(h:zV lx a=true):∃p,a=sy lx p:=by
 obtain⟨po,b,s,o,n,q,c⟩:=a;obtain⟨d,h⟩:=jS h;obtain⟨e,h⟩:=jS h;obtain⟨f,h⟩:=jS h;obtain⟨g,h⟩:=jS h;obtain⟨i,h⟩:=jS h;obtain⟨j,h⟩:=jS h;cases b with
 |nil=>exact(ao h).elim
 |cons x r=>obtain⟨k,h⟩:=jS h;obtain⟨l,m⟩:=jS h;obtain⟨y,an,p⟩:=x;exact⟨p,by rw[(emp d:po=[]),(non e:s=none),(emp f:o=[]),(emp g:n=[]),(non i:q=none),(emp j:c=[]),(emp k:r=[]),(non l:an=none),(eq_of_beq m:y=lx)];rfl⟩
abbrev qQ(lx:Str)(sc:Scope):Bool:=decide (sc.names=[(lx,.local)])&&(decide (sc.kind=.function)&&(decide (sc.isCoroutine=false)&&(decide (sc.isGenerator=false)&&(lx==("__debug__":Str))==false)))
abbrev isNm(lx:Str):Expr->Bool
 |.Name x _=>x==lx
 |_=>false
def HK(h:isNm lx e=true):∃p,e=.Name lx p:=by
 cases e with
 |Name x p=>cases eq_of_beq h;exact(p,rfl,)
 |_=>exact(ao h).elim
abbrev isZero:Expr->Bool
 |.Constant c _ _=>decide (c=.int 0)
 |_=>false
def JC(h:isZero e=true):∃j p,e=.Constant (.int 0) j p:=by
 cases e with
 |Constant c j p=>cases W0 h;exact(j,p,rfl,)
 |_=>exact(ao h).elim
abbrev HL(lx:Str):Expr->Bool
 |.Subscript a b _=>isNm lx a&&isZero b
 |_=>false
def FY(h:HL lx e=true):∃p1 j p2 p3,e=.Subscript (.Name lx p1) (.Constant (.int 0) j p2) p3:=by
 cases e with
 |Subscript a b p=>obtain⟨c,d⟩:=jS h;obtain⟨p1,rfl⟩:=HK c;obtain⟨j,p2,rfl⟩:=JC d;exact(_,_,_,_,rfl,)
 |_=>exact(ao h).elim
abbrev Gs(lx:Str)(pos:Pos):Expr->Bool
 |.Lambda params body scope lp=>decide (lp=pos)&&(zV lx params&&(qQ lx scope&&HL lx body))
 |_=>false
def JM(h:Gs lx pos e=true):∃a scope p1 j p2 p3,e=.Lambda (sy lx a) (.Subscript (.Name lx p1) (.Constant (.int 0) j p2) p3) scope pos/\qQ lx scope=true:=by
 cases e with
 |Lambda params body scope lp=>obtain⟨b,h⟩:=jS h;obtain⟨c,h⟩:=jS h;obtain⟨d,f⟩:=jS h;cases W0 b;obtain⟨a,rfl⟩:=FU c;obtain⟨p1,j,p2,p3,rfl⟩:=FY f;exact(_,_,_,_,_,_,rfl,d,)
 |_=>exact(ao h).elim
abbrev N7(lx:Str)(pos:Pos):List Keyword->Bool
 |k::r=>r.isEmpty&&(decide (k.arg<*(aQ "key"))&&Gs lx pos k.value)
 | []=>false
abbrev yk(sc:Scope)(N:List Str)(a:CE)(lx:Str)(pos:Pos):Expr->Bool
 |.Call f es ks _=>isNm "sorted" f&&(j7 sc "sorted"&&(mr sc N (.cons a .nil) es&&N7 lx pos ks))
 |_=>false
abbrev N5(sc:Scope)(N:List Str)(i:Nat):List Expr->Bool
 |g::r=>r.isEmpty&&yj sc N true (.name i) g
 | []=>false
abbrev Gu(sc:Scope)(N:List Str)(i:Nat)(a:CE)(lx:Str)(pos:Pos):Stmt->Bool
 |.Assign ts v _=>N5 sc N i ts&&yk sc N a lx pos v
 |_=>false
def asg_of{a:CE}{s:Stmt}(h:Gu sc N i a lx pos s=true):∃ts v p,s=.Assign ts v p/\N5 sc N i ts=true/\yk sc N a lx pos v=true:=by
 cases s<;>first |exact dk h|skip
 obtain⟨b,c⟩:=jS h;exact(_,_,_,rfl,b,c,)
def tg_of{a:List Expr}(h:N5 sc N i a=true):∃g,a=[g]/\yj sc N true (.name i) g=true:=by
 cases a with
 |nil=>exact dk h
 |cons g r=>obtain⟨b,c⟩:=jS h;cases emp b;exact(g,rfl,c,)
def Oe{b:CE}{v:Expr}(h:yk sc N b lx pos v=true):∃f es ks c,v=.Call f es ks c/\isNm "sorted" f=true/\j7 sc "sorted"=true/\mr sc N (.cons b .nil) es=true/\N7 lx pos ks=true:=by
 cases v<;>first |exact dk h|skip
 obtain⟨d,a⟩:=jS h;obtain⟨e,a⟩:=jS a;obtain⟨g,i⟩:=jS a;exact(_,_,_,_,rfl,d,e,g,i,)
def kw_of{ks:List Keyword}(h:N7 lx pos ks=true):∃kv kp,ks=[(some (aQ "key"),kv,kp,)]/\Gs lx pos kv=true:=by
 cases ks with
 |nil=>exact dk h
 |cons k ks=>obtain⟨a,b⟩:=jS h;obtain⟨c,d⟩:=jS b;cases emp a;obtain⟨e,kv,kp⟩:=k;cases W0 c;exact(_,_,rfl,d,)
def AsgO(sc:Scope)(N:List Str)(i:Nat)(a:CE)(lx:Str)(pos:Pos)(s:Stmt):Prop:=∃g e c scope p1 j p2 p3 p kp b sp,s=.Assign [g] (.Call (.Name "sorted" p) [e] [(some (aQ "key"),.Lambda (sy lx c) (.Subscript (.Name lx p1) (.Constant (.int 0) j p2) p3) scope pos,kp,)] b) sp/\
  yj sc N true (.name i) g=true/\j7 sc "sorted"=true/\dF sc N a e=true/\qQ lx scope=true
def JN{a:CE}{s:Stmt}(h:Gu sc N i a lx pos s=true):AsgO sc N i a lx pos s:=by obtain⟨I,v,H,rfl,c,m⟩:=asg_of h;obtain⟨g,rfl,n⟩:=tg_of c;obtain⟨f,x,z,w,rfl,o,q,r,t⟩:=Oe m;obtain⟨p,rfl⟩:=HK o;obtain⟨e,F,rfl,u,d⟩:=kA r;cases mq d;obtain⟨A,y,rfl,k⟩:=kw_of t;obtain⟨E,G,B,j,C,D,b,l⟩:=JM k;cases b;exact(_,_,_,_,_,_,_,_,_,_,_,_,rfl,n,q,u,l,)
abbrev chkK(sc:Scope)(N:List Str)(a:CS)(i:Nat)(c:CE)(lx:Str)(pos:Pos)(b:CB):List Stmt->Bool
 |s1::r=>chkS sc N a s1&&rst r
 | []=>false
where rst:List Stmt->Bool
 |s2::rest=>Gu sc N i c lx pos s2&&qV sc N b rest
 | []=>false
section
variable {mg:Str->Option Value}
def NG{x:Str}{st:Stmt}{q:fE}{G:Gam}{sp:Sp}{l:CS}{n:CE}{m:CB}{T:Tb}(F:Fun K x qual st f q)(Y:oa N ps (aJ st)=true)
  (b:chkK (aJ st) N l i n lx T.pos m (aS st)=true)(W:q.code=.ref c)(O:CodeHd base c T.P)(hq:qual++".<locals>."++"<lambda>"=T.q)(U:BM mg base)
  (V:∀(p:Pos)(j:Expr)(scope:Scope)(qual:Str)(pm ce v:Value)(c':Addr),ri (kla_fn "<lambda>" qual (sy lx p) j scope [] pm (.ref c') ce) ([v],[],)=pure [(lx,v)])
  (g:GOk P w K mg base (CXx P w) k G)(len:∀vs H Q E,sp vs H Q E->vs.length=ps.length)
  (h:∀vs H Q E,sp vs H Q E->lG (wpS G K (λ_=>E) l) (lG (nU (wJ K T (wpE G K (λ_=>E) n)) (iS i)) (wpB G K (λ_=>E) m)) {nx:=λ_ H'=>Q .non H',rt:=Q} (start N vs) H):jG P w K mg base (CXx P w) (k+1) f q ps sp:=by
 have S:=Dj Y;obtain⟨oc,od,kV,a1,pm,an,C,ct,a3,rfl,lk,X⟩:=F.ex;have D:C=.ref c:=W;subst D;refine fn_of lk X S len λa0 outer a4 H vs Q E u Z=>?_;have o:=MA (outer:=outer) (E:=E) (H:=H) S g u;refine(_,?_,h vs H Q E Z,);generalize hB:aS st=j at b;cases j with
 |nil=>exact(ao b).elim
 |cons s1 r=>
  obtain⟨I,b⟩:=jS b;cases r with
  |nil=>exact(ao b).elim
  |cons s2 rest=>
  obtain⟨J,L⟩:=jS b;obtain⟨g',e,pa,scope,p1,a2,p2,p3,p,kp,cp,a5,rfl,s,M,t,a⟩:=JN J;obtain⟨d,a⟩:=jS a;obtain⟨y,a⟩:=jS a;obtain⟨A,a⟩:=jS a;obtain⟨B,n5⟩:=jS a;rw[decide_eq_true_eq]at d y A B;have R:=uc (CX:=CXx P w) (λ_ _ _ _ _ z=>JJ z) (.name i) _ o s;refine rK (Lk (λ_ _ _ _ _ z=>JJ z) l s1 o (λ_ _ _ _ _=>S.kind) I) (rK ?_ (qJ (λ_ _ _ _ _ z=>JJ z) m rest o (λ_ _ _ _ _=>S.kind) L));refine Fl (Mg (c:=c) (T:=T) (bH (λ_ _ _ _ _ z=>JJ z) n e o t) (bJ t [] _) (o.gl M) (g.blt _ (by decide+kernel)) rfl O hq U ?_ ?_) R (Du rfl _ _ _) (xw s (dP _) _) (by rw[rP s];rfl)
  .refine(?_,rfl,λqual pm ce v c'=>V pa _ _ qual pm ce v c',by rw[d];simp,↥n5,y,?_,A,B,);·unfold Km;rw[d];rfl
   .rw[d];intro z hz;have :z=(lx,eM.local):=by simpa using hz
    rw[this];exact λz=>by cases z
  .exact u.depth
end
abbrev kL(K:ah)(tabs:List Addr)(a:Addr)(vs:List Value)(ns:List Int):Hp:=λb=>
 if b∈tabs then some (.tbl #[])else if b=a/\K.lookup a=none then some (.frz {cls:=.type "list",data:=.seq vs.toArray} (.lst (ns.map V.int)))else none
def Jy{CX:CXT}{D:fE}{x:Str}{sp:Sp}{c:Shared}(B:K.In c.heap)
  (J:c.heap.Ns bx mg)(f:c.heap.Ns nO mb)(a0:∀x:Str,x≠"__name__"->mb x=fv x)(a2:c.heap.NoLimit)(hg:c.gens= #[])(j:c.heap.get? a<*{cls:=.type "list",data:=.seq vs.toArray})
  (hi:cn vs ns) (I:ns.length<=sizeLine) (hr:jm k Iv) (t:∀p∈tabs,c.heap.get? p<*(tabObj #[])/\isCodeTable c.heap p/\K.lookup p=none)
  (F:∀base:Heap,K.In base->base.Ns bx mg->(∀b o,c.heap.get? b<*o->o.cls≠.none->o.cls≠.type "list"->base.get? b<*o)->jG P w K mg base CX k fa D [x] sp)
  (a1:∀(s:Shared)(u:Value),BindsTo s D ([u],[],) [(x,u)])
  (a4:∀H:Hp,(∀p∈tabs,H p<*(.tbl #[]))->SqL K H a (ns.map V.int)->sp [.ref a] H (λv _=>v=.bl true) λ_ _ _=>False) (W:∀H e s',CX [] H c (λ_ _ _=>False) e s'->False):
  gK (model P w) Iv (.call (.ref fa) ([.ref a],[],)) (λr s'=>r=.ok (.ret (.bool true))/\OldK c.heap s'.heap/\s'.os=c.os/\pW s'.gens) c:=by
 have M:=tX hi;have a5:=hi.length;have y:∀b,(b∈tabs/\kL K tabs a vs ns b<*(.tbl #[]))\/(b=a/\K.lookup a=none/\kL K tabs a vs ns b<*(.frz {cls:=.type "list",data:=.seq vs.toArray} (.lst (ns.map V.int))))\/kL K tabs a vs ns b=none:=λb=>by
  unfold kL;by_cases i:b∈tabs;·exact .inl (i,if_pos i,)
  .rw[if_neg i];by_cases g:b=a/\K.lookup a=none;·exact .inr (.inl (g.1,g.2,if_pos g,))
   .exact .inr (.inr (if_neg g))
 have N:∀p∈tabs,kL K tabs a vs ns p<*(.tbl #[]):=λp hp=>if_pos hp;have Z:a∉tabs:=λz=>by have :=(t a z).1;rw[j]at this;cases this
 --what is neither a table nor a list is not tracked
 have O:∀{b:Addr}{o:Obj},c.heap.get? b<*o->o.cls≠.none\/(∃n l,o.data=.dict n l)->o.cls≠.type "list"\/(∃n l,o.data=.dict n l)->kL K tabs a vs ns b=none:=λ{b o} e i g=>by
  rcases y b with⟨q,_⟩ |⟨rfl,_⟩ |q
  .have :=(t b q).1;rw[e]at this;cases this;rcases i with z|⟨_,_,z⟩;·exact absurd rfl z
   .cases z
  .rw[j]at e;cases e;rcases g with z|⟨_,_,z⟩;·exact absurd rfl z
   .cases z
  .exact q
 have A:∀{b:Addr}{m:Str->Option Value},c.heap.Ns b m->(DM c.heap (kL K tabs a vs ns)).Ns b m:=λ{b m} ⟨o,n,l,e,d,r⟩=>(o,n,l,xX e (O e (.inr (_,_,d,)) (.inr (_,_,d,))),d,r,);have G:K.In (DM c.heap (kL K tabs a vs ns)):=λb o e=>xX (B b o e) (by
  rcases y b with⟨q,_⟩ |⟨rfl,z,_⟩ |q;·rw[(t b q).2.2]at e;cases e
  .rw[z]at e;cases e
  .exact q)
 have a3:HOk P w (kL K tabs a vs ns) c.heap:=λb o e=>by
  rcases y b with⟨q,z⟩ |⟨rfl,_,z⟩ |z;·rw[z]at e;cases e;exact(t b q).1
  .rw[z]at e;cases e;exact(j,by rw[ai];exact I,vs,_,M,j,)
  .rw[z]at e;cases e
 have Y:SqL K (kL K tabs a vs ns) a (ns.map V.int):=by
  cases hk:K.lookup a with
  |none=>refine .inl (.inr ({cls:=.type "list",data:=.seq vs.toArray},?_,));unfold kL;rw[if_neg Z,if_pos (rfl,hk,)]
  |some o=>have e:=B a o hk;rw[j]at e;cases e;exact .inr (_,vs.toArray,_,hk,rfl,rfl,rfl,by rw[aE,a5];exact I,↥M,)
 have X:Mod K mg (DM c.heap (kL K tabs a vs ns)):=(G,A J,(mb,A f,a0,),let⟨mc,i,g⟩:=a2;(mc,A i,g,),);have S:GK P w K mg (DM c.heap (kL K tabs a vs ns)) Iv [] c (kL K tabs a vs ns):=(rfl,X,λb o e=>of_hidT e,Kq (JG _ _),trivial,λb f=>absurd (show b∈([]:List Addr)from f) 'F',a3,.of_eq hg,);have U:=F _ G (A J) λb o e i g=>xX e (O e (.inl i) (.inl g));refine kj (U.run Iv [] c (kL K tabs a vs ns) ([.ref a],[],) [.ref a] [.ref a] _ _ hr S (a1 c (.ref a)) (.cons rfl .nil) (a4 _ N Y)) λr s' h=>?_;cases r with
 |error e=>exact(W _ e s' h).elim
 |ok fl=>
  cases fl with
  |next =>exact gT h
  |brk=>exact gT h
  |cont=>exact gT h
  |ret u=>
   obtain⟨v,H',os,Q,un,L,r',q⟩:=h;have q':v=.bl true:=q;subst q';obtain rfl:u=Cb true:=r';have kept:∀b o,c.heap.get? b<*o->b∉tabs->s'.heap.get? b<*o:=λb o e nt=>by
    rcases y b with⟨z,_⟩ |⟨rfl,_,z⟩ |z;·exact absurd z nt
    .have z2:=un.frzs b _ _ z;obtain⟨T,_⟩:=L b _ z2;rw[j]at e;cases e;exact T
    .exact un.keep b o e z (by intro z;exact absurd (show b∈([]:List Addr)from z) 'F') 'F'
   have E:∀b∈tabs,∃more,s'.heap.get? b<*(tabObj (#[]++more)):=λb f=>by obtain⟨more,z⟩:=un.tbls b _ (N b f);exact(more,L b _ z,)
   refine(rfl,(λb o e=>?_,λb o e=>?_,),os,Q,)
   .by_cases f:b∈tabs;·obtain⟨C,R,_⟩:=t b f;rw[e]at C;cases C;obtain⟨more,z⟩:=E b f;exact .inr (.inl (R,rfl,#[],more,rfl,z,))
    .exact .inl (kept b o e f)
   .by_cases f:b∈tabs;·obtain⟨more,z⟩:=E b f;exact(_,z,)
    .exact(o,kept b o e f,)
def bm_of(l:h.Ns bx mg)(j:∃bm a,mg "__builtins__"<*(.ref bm)/\bm≠nO/\h.get? bm<*a/\a.cls=.type "module"/\a.dict<*nO/\a.data=.plain):BM mg h:=by obtain⟨bm,a,d,f,b,g,i,c⟩:=j;refine(bm,a,d,f,λq=>?_,b,g,i,c,);obtain⟨o,n,m,e,k,_⟩:=l;rw[q,e]at b;cases b;rw[k]at c;cases c
def KI{l:PySem.W.OpenLaw}{q:Program}{XP:(Str->Option Value)->Heap->Prop}{YP:World->Heap->Prop}{d:DefRec}{K:Params->ah}{CX:CXT}{sp:ah->Sp}{x:Str}
  (Q:l.most<*n)(R:n<=sizeLine)(M:d.params.defaults=[])(U:jm k Iv)(I:∀(w:World)(h:Heap),YP w h->(K w.params).In h)
  (E:∀(w:World)(c:Shared)(mg mb:Str->Option Value)(h:Heap),Ground q loose [] XP w c mg mb h->YP w h->∀p∈tabs,h.get? p<*(tabObj #[])/\isCodeTable h p/\(K w.params).lookup p=none)
  (F:∀(w:World)(mg:Str->Option Value)(fa:Addr)(h:Heap),(K w.params).In h->h.Ns bx mg->mg d.name<*(.ref fa)->
   ∃fd:fE,(∀(s:Shared)(u:Value),BindsTo s fd ([u],[],) [(x,u)])/\
    ∀base:Heap,(K w.params).In base->base.Ns bx mg->BM mg base->jG l.prog w (K w.params) mg base CX k fa fd [x] (sp (K w.params)))
  (W:∀(K:ah)(H:Hp)(a:Addr)(ns:List Int),ns.length<=n->(∀p∈tabs,H p<*(.tbl #[]))->SqL K H a (ns.map V.int)->sp K [.ref a] H (λv _=>v=.bl true) λ_ _ _=>False)
  (C:∀(H:Hp)(s:Shared)(e:Value)(s':Shared),CX [] H s (λ_ _ _=>False) e s'->False):
  PySem.W.WalkO q loose XP YP l.row.toRowW d [] (λf vs=>PySem.call f vs):=by
 refine Att.Ej Q M λw c a0 mg mb fa a3 pm cd a1 a vs ns G Y ho hd a2 P T O j N=>?_;have g:=I w _ Y;obtain⟨fd,J,D⟩:=F w mg fa _ g G.T.g P;have L:=bm_of G.T.g G.T.bmain;refine Jy g G.T.g G.T.b G.T.builtins G.T.nolimit N T O (aO j R) U (E w c mg mb _ G Y) (λbase X Z k3=>D base X Z ?_) J (λH t S=>W _ H a ns j t S) λH e s'=>C H a0 e s';obtain⟨i,m,r,y,o,z,b,A,B⟩:=L;exact(i,m,r,y,o,k3 i m z (by rw[b];nofun) (by rw[b];decide),b,A,B,)
end Lm
namespace Cp
open L2 R Lm
abbrev rL:List Str:=["table"]
abbrev j6:List Str:=["table","ordered"]
abbrev lS:CS:=.expr (.call "need_table" (.cons (.var 0) .nil))
abbrev lR:CB:=.cons (.ret (.comp ["name","readings"] [] (.tup (.cons (.name 0) (.cons (.name 1) .nil))) (.seq (.var 1)) .no (.tup (.cons (.var 0) (.cons (.bfn .tuple (.cons (.bfn .list (.cons (.var 1) .nil)) .nil)) .nil))))) .nil
def _root_.Lm.Gr.free{T:Tb}(g:Gr T H H')(t:Tab T H)(h:H' l=none):H l=none:=by
 cases e:H l with
 |none=>rfl
 |some o=>
  by_cases n:l=T.P
  .rcases g.tab t with z|⟨_,_,_,_,_,z,_⟩;·rw[n,z]at h;cases h
   .rw[n,z]at h;cases h
  .rw[g.keep l o n e]at h;cases h
abbrev srt(H:Hp):V->List V
 |.ref a=>match cS (H a)with
  |some ys=>_root_.Q.sortBy .non (ys.map (aK H)) ys
  |none=>[]
 |_=>[]
def Copied(H H':Hp)(us zs:List V):Prop:=zs.length=us.length/\∀(i:Nat) z,zs[i]?<*z->∃b r,z=.ref b/\H' b<*(.tup [.str (aK H (us.getD i .non)),.ref r])/\H' r<*(.tup (me H (us.getD i .non)))
def qI(C:Addr)(T:Tb):Sp:=λvs H Q E=>∃x,vs=[x]/\Kn4 H x/\Tab T H/\(bC H x=true->∀H' l zs,Gr T H H'->H l=none->H' l<*(.lst zs)->Copied H H' (srt H x) zs->Q (.ref l) H')/\(bC H x=false->∀H',aD H H'->E (.ref C) none H')
theorem tk_of(s:aD H H'):∀{xs:List V},(∀y∈xs,cP H y=true)->_root_.Q.tH H' xs (xs.map (aK H))
 | [],_=>.nil
 |y::xs,h=>by obtain⟨a,b,e,c,_⟩:=iV (h y (.head _));exact .cons (a,_,e,s _ _ c,) (tk_of s λz d=>h z (.tail _ d))
def yS{G:Gam}{T:Tb}(S:G.fn "need_table" 1<*(wR C,[])):
  ∀vs H Q E,qI C T vs H Q E->lG (R.wpS G K (λ_=>E) lS) (lG (nU (wJ K T (wpE G K (λ_=>E) (.var 0))) (iS 1)) (wpB G K (λ_=>E) lR)) {nx:=λ_ H'=>Q .non H',rt:=Q} (L2.start j6 vs) H:=by
 rintro vs H Q E ⟨x,rfl,X,tb,q1,q2⟩;unfold lS lR;change lG _ _ _ [some x,none] H;unfold wJ;ext;refine(_,_,S,x,rfl,X,λe M k=>?_,q2,);obtain⟨a,d,rfl,A,U,B,D,h5⟩:=cM e;have a4:Tab T M:=(Gr.of k).tab tb;refine(a,d,d.map (aK H),rfl,k.seq (jz A),by rw[ai];lia,D,tk_of k B,a4,λm l gr Y=>?_,);have N:srt H (.ref a)=_root_.Q.sortBy V.non (d.map (aK H)) d:=by show(match cS (H a)with |some d=>_root_.Q.sortBy V.non (d.map (aK H)) d|none=>[])=_;rw[A]
 have w:(_root_.Q.sortBy V.non (d.map (aK H)) d).Perm d:=_root_.Q.dY V.non D 'F';have o:=q1 e;rw[N]at o;generalize _root_.Q.sortBy V.non (d.map (aK H)) d=us at w o⊢;have j:Gr T H (upd m l (.lst us)):=(Gr.of k).trans (gr.trans (Gr.of (au Y)));have n:upd m l (.lst us) l<*(.lst us):=aq;generalize upd m l (.lst us)=H3 at j n⊢;have a0:us.length<=40:=by rw[w.length_eq];exact U
 refine cQ (cD rfl (SqL.of n) (cW dI (aO a0 'E') (λf g=>SqL.of (g _ _ n)) (λi v H'=>∃b r,v=V.ref b/\H' b<*(.tup [.str (aK H (us.getD i .non)),.ref r])/\H' r<*(.tup (me H (us.getD i .non))))
  (λi v f H5 h ⟨b,r,p,q,s⟩=>(b,r,p,h _ _ q,h _ _ s,)) (λL=>∃t u,L=[t,u]) (none,none,rfl,) ?_ ?_))
 .rintro a6 y L f R hi ⟨t,u,rfl⟩ g J a2;have hm:y∈d:=w.mem_iff.mp (aH J);obtain⟨b,c,rfl,k1,k2,k3,k4⟩:=iV (B y hm);have O:=g _ _ (j.i7 tb k1);have P:=g _ _ (j.i7 tb k2);refine(b,_,rfl,SqT.of O,rfl,_,_,rfl,_,_,rfl,rfl,?_,);ext;refine⟨c,_,rfl,.inr (SqT.of P),λl1 Z=>⟨l1,_,rfl,.inl ⟨SqL.of aq,λr hr=>(aO (by simp :_<=2) 'E',λa3 I=>a2 _ _ _ (_,_,rfl,) ((au Z).trans ((au hr).trans (au I))) ?_,)⟩⟩⟩;rw[getD_some J];exact⟨a3,r,rfl,aq,by rw[aV (bL aq I)];exact aq⟩
 .intro vs f l2 a1 W g F;have z:Gr T H f:=j.trans (Gr.of g);have h:aD f (upd f l2 (.lst vs)):=au F;refine o _ l2 vs (z.trans (Gr.of h)) (z.free tb F) aq (a1,λi a5 hz=>?_,);obtain⟨b,r,p,q,s⟩:=W i a5 hz;exact(b,r,p,h _ _ q,h _ _ s,)
end Cp
namespace K22
open R
abbrev p_clash:List Str:=["table"]
abbrev Hz:List Str:=["table","copies","count","one","other","names"]
abbrev Ai:CB:=
  (.cons (.ret (.con .none))
  .nil)
abbrev Aj:CB:=
  (.cons (.forr (.name 3) (.range1 (.var 2))
  (.cons (.forr (.name 4) (.range2 (.bin .Add (.var 3) (.con (.int 1))) (.var 2))
  (.cons (.asg (.name 5) (.call "first_of_kinds" (.cons (.var 1) (.cons (.var 3) (.cons (.var 4) .nil)))))
  (.cons (.iff (.cmp .IsNot (.var 5) (.con .none))
  (.cons (.ret (.tup (.cons (.var 3) (.cons (.var 4) (.cons (.var 5) .nil)))))
  .nil)
  .nil)
  .nil)))
  .nil))
  Ai)
abbrev Ak:CB:=
  (.cons (.asg (.name 2) (.call "place_count" (.cons (.var 1) .nil)))
  Aj)
abbrev Io:CB:=
  (.cons (.asg (.name 1) (.call "table_list" (.cons (.var 0) .nil)))
  Ak)
end K22
namespace K22
open L2 R Cp Lt Kc K21 Lm
abbrev cd(H:Hp)(y:V):Str×List V:=(aK H y,me H y)
abbrev Dm(i:Int)(p:Str×List V):Int:=match p.2.getD i.toNat .non with
 |.int n=>n
 |_=>0
abbrev isK(i j:Int)(k:Int×Int)(p:Str×List V):Bool:=decide (Dm i p=k.1/\Dm j p=k.2)
abbrev qg(rows:List (Str×List V))(i j:Int):Bool:=KP.all λk=>rows.any (isK i j k)
abbrev mh(rows:List (Str×List V))(i j:Int)(k:Int×Int):Str:=((rows.find? (isK i j k)).map (·.1)).getD ""
def HQ{i j:Int}:lL H xs i j=qg (xs.map (cd H)) i j:=by unfold lL qg;congr 1;funext k;rw[pV];rfl
def MI{i j:Int}(h:lL H xs i j=true):KP.map (firstOf H xs i j)=(KP.map (mh (xs.map (cd H)) i j)).map V.str:=by
 rw[bT];refine cu λk d=>?_;have c:xs.any (λy=>decide (num H i y=k.1/\num H j y=k.2))=true:=by unfold lL at h;exact bj.mp h k d
 have b:(λy=>decide (kf H i j y=qP k))=(isK i j k)∘(cd H):=by
  funext y
  exact decide_eq_decide.mpr kf_eq
 show firstOf H xs i j k=V.str (mh (xs.map (cd H)) i j k);unfold firstOf mh;rw[b,List.find?_map];obtain⟨f,e,a⟩:=bQ.mp c;cases hf:xs.find? ((isK i j k)∘(cd H))with
 |none=>rw[vy]at hf;exact absurd a (hf f e)
 |some y=>rfl
structure nH(rows:List (Str×List V))(n i j:Nat):Prop where
 ij:i<j
 jn:j<n
 four:qg rows i j=true
 no:∀a b:Nat,a<b->b<n->(a<i\/a=i/\b<j)->qg rows a b=false
def NoC(rows:List (Str×List V))(n:Nat):Prop:=∀a b:Nat,a<b->b<n->qg rows a b=false
def nH.one{rows:List (Str×List V)}{a b:Nat}(f:nH rows n i j)(g:nH rows n a b):i=a/\j=b:=by
 have c:¬(a<i\/a=i/\b<j):=λz=>by have :=f.no a b g.ij g.jn z;rw[g.four]at this;cases this
 have d:¬(i<a\/i=a/\j<b):=λz=>by have :=g.no i j f.ij f.jn z;rw[f.four]at this;cases this
 lia
def Res(H:Hp)(rows:List (Str×List V))(n:Nat)(v:V):Prop:=(v=.non/\NoC rows n)\/∃(i j:Nat)(a l:Addr),v=.ref a/\nH rows n i j/\H a<*(.tup [.int i,.int j,.ref l])/\H l<*(.tup ((KP.map (mh rows i j)).map V.str))
abbrev rowsOf(H:Hp)(x:V):List (Str×List V):=(srt H x).map (cd H)
def i9(a:H b<*(.tup [.str z,.ref r]))(e:H r<*(.tup zs)):cd H (.ref b)=(z,zs):=by
 have c:aK H (.ref b)=z:=by show(match cN (H b)with |some (.str z::_)=>z|_=>("":Str))=_;rw[a];rfl
 have d:me H (.ref b)=zs:=by show(match cN (H b)with |some [_,.ref b]=>(cN (H b)).getD [] |_=>[])=zs;rw[a];show(cN (H r)).getD []=zs;rw[e];rfl
 unfold cd;rw[c,d]
def jZ{t:Addr}(h:cS (H t)<*ys):srt H (.ref t)=_root_.Q.sortBy .non (ys.map (aK H)) ys:=by show(match cS (H t)with |some ys=>_root_.Q.sortBy V.non (ys.map (aK H)) ys|none=>[])=_;rw[h]
def uj(h:cP H x=true):eJ (aK H x)=true:=by obtain⟨_,_,_,_,_,_,_,a,_,_,b,_⟩:=iy h;rw[b];exact a
def yf(e:bC H x=true)(h:H' l<*(.lst zs))(c:Copied H H' (srt H x) zs):
  Kn4 H' (.ref l)/\bC H' (.ref l)=true/\count H' (.ref l)=count H x/\zs.map (cd H')=rowsOf H x:=by
 obtain⟨a,n,rfl,s,T,E,F,G⟩:=cM e;have Q:=jZ s;have d:(srt H (.ref a)).Perm n:=by rw[Q];exact _root_.Q.dY V.non F 'F'
 unfold rowsOf;generalize srt H (.ref a)=us at c d⊢;have Z:us.length<=40:=by rw[d.length_eq];exact T
 have K:∀u∈us,cP H u=true/\bE H u=count H (.ref a):=λu I=>(E u (d.mem_iff.mp I),G u (d.mem_iff.mp I),);have nd:(us.map (aK H)).Nodup:=(d.map (aK H)).nodup_iff.mpr F;have get:∀{i:Nat}{z:V},zs[i]?<*z->us[i]?<*(us.getD i .non)/\us.getD i .non∈us:=λ{i z} f=>by
  have hi:i<us.length:=by have :=(aF.mp f).1;rw[<-c.1];exact this
  have e:us[i]?<*(us.getD i .non):=by rw[ag,ae hi];rfl
  exact(e,aH e,)
 let nf:Nat->Str:=λi=>if i<us.length then aK H (us.getD i .non)else "a"
 have J:∀i,eJ (nf i)=true:=λi=>by
  show eJ (if i<us.length then aK H (us.getD i .non)else "a")=true;split
  .rename_i hi;have e:us[i]?<*(us.getD i .non):=by rw[ag,ae hi];rfl
   exact uj (K _ (aH e)).1
  .decide+kernel
 have dr:Dr H' nf (count H (.ref a)) zs:=λi z f=>by obtain⟨b,r,X,t,v⟩:=c.2 i z f;obtain⟨R,S⟩:=get f;have hi:i<us.length:=(aF.mp R).1;obtain⟨N,O⟩:=K _ S;obtain⟨_,_,_,_,_,k3,k4⟩:=iV N;refine(b,r,_,X,?_,v,by rw[k3,O],k4,);show H' b<*(.tup [.str (if i<us.length then aK H (us.getD i .non)else "a"),.ref r]);rw[if_pos hi];exact t
 have hn60:n=[]\/count H (.ref a)<=60:=by
  cases n with
  |nil=>exact .inl rfl
  |cons y r=>
   right
   rw[<-G y (.head _)];obtain⟨_,_,_,_,_,_,_,_,U,_,_,W⟩:=iy (E y (.head _));rw[W];exact U
 have Y:∀i j,i<zs.length->j<zs.length->nf i=nf j->i=j:=λi j hi w e=>by
  rw[c.1]at hi w;have o:(if i<us.length then aK H (us.getD i .non)else "a")=(if j<us.length then aK H (us.getD j .non)else "a"):=e;rw[if_pos hi,if_pos w]at o;have g:∀k (A:k<us.length),(us.map (aK H))[k]'(by simpa using A)=aK H (us.getD k .non):=λk A=>by rw[cw,ag,ae A];rfl
  rw[<-g i hi,<-g j w]at o;exact(fV nd).mp o
 have L:zs=[]↔us=[]:=by rw[<-bh,c.1,bh]
 have M:zs.map (cd H')=us.map (cd H):=by
  apply jv
  intro i;rw[ax,ax];cases f:zs[i]? with
  |none=>
   have :us.length<=i:=by have :=List.getElem?_eq_none_iff.mp f;rw[c.1]at this;exact this
   rw[bV this];rfl
  |some z=>obtain⟨b,r,rfl,t,v⟩:=c.2 i z f;rw[(get f).1];show some (cd H' (.ref b))<*(cd H (us.getD i .non));rw[i9 t v];rfl
 rcases hn60 with m|hn60
 .have B:us=[]:=by rw[m]at d;exact List.perm_nil.mp d
  have a0:=L.mpr B;subst a0;have P:Dr H' nf 0 []:=λi y e=>by simp at e
  obtain⟨C,D,_,_⟩:=sI J (λi j hi=>absurd hi 'F') h P 'F' 'E';refine(C,D,?_,M,);have p:count H' (.ref l)=0:=by show(match cS (H' l)with |some (y::_)=>bE H' y|_=>0)=0;rw[h];rfl
  have q:count H (.ref a)=0:=by show(match cS (H a)with |some (y::_)=>bE H y|_=>0)=0;rw[s,m]
  rw[p,q]
 .obtain⟨C,D,_,t4⟩:=sI J Y h dr (by rw[c.1];exact Z) hn60;refine(C,D,?_,M,);cases zs with
  |nil=>
   have B:=L.mp rfl;have m:n=[]:=by rw[B]at d;exact List.nil_perm.mp d
   have p:count H' (.ref l)=0:=by show(match cS (H' l)with |some (y::_)=>bE H' y|_=>0)=0;rw[h];rfl
   have q:count H (.ref a)=0:=by show(match cS (H a)with |some (y::_)=>bE H y|_=>0)=0;rw[s,m]
   rw[p,q]
  |cons z r=>show(match cS (H' l)with |some (y::_)=>bE H' y|_=>0)=_;rw[h];exact t4 z (.head _)
def vQ(C:Addr)(T:Tb):Sp:=λvs H Q E=>∃x,vs=[x]/\Kn4 H x/\Tab T H/\(bC H x=true->∀H' v,Gr T H H'->Res H' (rowsOf H x) (count H x) v->Q v H')/\(bC H x=false->∀H',aD H H'->E (.ref C) none H')
def KH{G:Gam}{T:Tb}(g1:G.fn "table_list" 1<*(qI C T,[]))(g2:G.fn "place_count" 1<*(vP C,[]))(g3:G.fn "first_of_kinds" 3<*(AU,[])):
  Sat G K (vQ C T) Io Hz:=by
 rintro vs H a9 a8 ⟨x,rfl,hk,tb,q1,q2⟩;unfold Io Ak;change wpB G K _ _ _ [some x,none,none,none,none,none] H;ext;refine(_,_,g1,x,rfl,hk,tb,λe d l N gr hl D Z=>?_,q2,);obtain⟨kn,M,B,t⟩:=yf e D Z;have s:=q1 e;generalize rowsOf H x=rw0 at t s;generalize hn:count H x=n at B s;refine⟨_,_,g2,.ref l,rfl,kn,λ_ H2 s2=>?_,λz=>by rw[M]at z;cases z⟩;rw[B];have S:cS (d l)<*N:=by rw[D];rfl
 have U:∀z:Nat,z<n->isPlace d (.ref l) (.int z)=true:=λz hz=>decide_eq_true ('D','D',);have b0:n<=60:=by
  obtain⟨P,b1,ea,R,f2,f3,f4,f5⟩:=cM M;cases ea;rw[S]at R;cases R;rw[<-B];cases N with
  |nil=>show(match cS (d l)with |some (y::_)=>bE d y|_=>0)<=60;rw[D];exact a7 _
  |cons y r=>rw[<-f5 y (.head _)];obtain⟨_,_,_,_,_,_,_,_,a1,_,_,h8⟩:=iy (f3 y (.head _));rw[h8];exact a1
 unfold Aj;ext;refine iT ?_;ext;refine((n:Int),rfl,'D','D',?_,);refine gG dM (λi h A=>aD d A/\(∀a b:Nat,a<i->a<b->b<n->qg rw0 a b=false)/\∃u v w,h=[some x,some (.ref l),some (.int n),u,v,w])
  (s2,λa b a0=>absurd a0 'D',none,none,none,rfl,) (λ_ _ _ _ _=>trivial) ?_ ?_
 .rintro i y h O H4 D2 hi ⟨F,no,u,v,w,rfl⟩ rfl s4 a2 a5;have a4:i<n:=by lia
  ext;simp only[eN];refine iT ?_;ext;refine(_,_,rfl,('D','D','D','D',),?_,);refine gG dM (λm h A=>aD d A/\(∀b:Nat,i<b->b<i+1+m->qg rw0 i b=false)/\∃v w,h=[some x,some (.ref l),some (.int n),some (.int i),v,w])
   (F.trans s4,λb g c=>absurd c 'D',_,_,rfl,) (λ_ _ _ _ _=>trivial) ?_ ?_
  .rintro m y h W X D3 hm ⟨I,o,v,w,rfl⟩ rfl s6 a3 a6;have E:i+1+m<n:=by lia
   have ej:(i:Int)+1+(m:Int)=((i+1+m:Nat):Int):=by lia
   ext;rw[ej];generalize hjj:i+1+m=j at E o⊢;have J:aD d X:=I.trans s6;refine(_,_,g3,l,N,i,j,d,rfl,J,M,S,U i a4,U j E,λf Y L=>?_,λf Y p L hp ep=>?_,)
   .show if(!decide (V.non=V.non))=true then _ else _
    rw[if_neg 'F'];refine a3 _ _ (J.trans L,λb g c=>?_,_,_,rfl,);by_cases hb:b=j;·rw[hb,<-t,<-HQ];exact f
    .exact o b g 'D'
   .show if(!decide (V.ref p=V.non))=true then _ else _
    rw[if_pos 'F'];refine(short 'F',λa q=>?_,);rw[a6,a5];refine s _ _ (gr.trans (Gr.of (J.trans (L.trans (au q))))) (.inr (i,j,a,p,rfl,('D',E,by rw[<-t,<-HQ];exact f,λP Q g c k=>?_,),aq,?_,))
    .rcases k with k|⟨rfl,k⟩;·exact no P Q k g c
     .exact o Q g 'D'
    .rw[au q _ _ ep,MI f,t]
  .rintro h W ⟨I,o,v,w,rfl⟩;refine a2 _ _ (I,λa b g c k=>?_,_,_,_,rfl,);by_cases q:a=i;·subst q;exact o b c 'D'
   .exact no a b 'D' c k
 .rintro h O ⟨F,no,u,v,w,rfl⟩;unfold Ai;ext;exact s O .non (gr.trans (Gr.of F)) (.inl ⟨rfl,λa b g c=>no a b (by simp;lia) g c⟩)
theorem xK{d g:Type}{f:d->g}{ys:List d}(hf:∀a∈ys,∀b∈ys,f a=f b->a=b):∀{l m:List d},(∀a∈l,a∈ys)->(∀a∈m,a∈ys)->l.map f=m.map f->l=m
 | [],[],_,_,_=>rfl
 | [],_::_,_,_,e=>by simp at e
 |_::_,[],_,_,e=>by simp at e
 |a::l,b::m,h1,h2,e=>by
  rw[bG,bG]at e;injection e with e1 e2
  rw[hf a (h1 a (.head _)) b (h2 b (.head _)) e1,xK hf (λx c=>h1 x (.tail _ c)) (λx c=>h2 x (.tail _ c)) e2]
def Jp{c m:Type}{f:c->m}{ys:List c}(l:(ys.map f).Nodup):∀a∈ys,∀b∈ys,f a=f b->a=b:=λa g b h e=>by
 obtain⟨i,hi,rfl⟩:=dH.mp g;obtain⟨j,k,rfl⟩:=dH.mp h;have d:(ys.map f)[i]'(by simpa using hi)=(ys.map f)[j]'(by simpa using k):=by rw[cw,cw];exact e
 have :=(fV l).mp d;subst this;rfl
end K22
namespace Q
open PySem.W L2
theorem zJ(a:ns.Nodup):(FF ns).Perm (aC ns.length):=by
 unfold FF;split;·exact eY _
 .have P:=(gA (KR a) 'D').1;have :=gU.mp P.perm;simpa using this
end Q
namespace M3
def and_nat(m n:Nat):i6 (m:Int) (n:Int)=((m&&& n:Nat):Int):=by unfold i6;simp
def xor_bit{a b:Int}(c:a=0\/a=1)(d:b=0\/b=1):k6 a b=if a=b then 0 else 1:=by rcases c with rfl|rfl<;>rcases d with rfl|rfl<;>decide
abbrev num:List Bool->Nat->Nat
 | [],n=>n
 |b::bs,n=>num bs (n*2+b.toNat)
theorem xr:∀(bs:List Bool)(b:Bool)(n:Nat),num (bs++[b]) n=num bs n*2+b.toNat
 | [],_,_=>rfl
 |c::bs,b,n=>xr bs b _
theorem Ht:∀(bs:List Bool)(i:Nat),(num bs.reverse 0).testBit i=(bs[i]?).getD false
 | [],i=>by simp[num]
 |b::bs,i=>by
  rw[List.reverse_cons,xr];cases i with
  |zero=>rw[Nat.testBit_zero];cases b<;>simp <;>lia
  |succ i=>
   rw[Nat.testBit_succ];have e:(num bs.reverse 0*2+b.toNat)/2=num bs.reverse 0:=by
    have a:b.toNat<=1:=by cases b<;>decide
    lia
   rw[e,Ht bs i];simp
end M3
namespace M4
open Q
abbrev bl(f:Nat->Int)(n:Nat)(P:Nat->Bool):List Int:=(aC n).map λp=>if P p=true then 1-f p else f p
def kR(f:Nat->Int)(n:Nat)(P:Nat->Bool):(bl f n P).length=n:=by simp[bl]
def Al{f:Nat->Int}{P Q:Nat->Bool}(h:bl f n P=bl f n Q)(hf:∀p,p<n->f p=0\/f p=1){p:Nat}(a:p<n):P p=Q p:=by
 have e:(bl f n P)[p]? =(bl f n Q)[p]? :=by rw[h]
 simp[bl,a]at e;rcases hf p a with z|z<;>cases hP:P p<;>cases hQ:Q p<;>simp[hP,hQ,z]at e⊢
abbrev sub(grp:Nat->Nat)(g p:Nat):Bool:=decide (grp p&&& g=g)
abbrev above(grp:Nat->Nat)(g p:Nat):Bool:=decide (grp p&&& g=g/\grp p≠g)
variable {f:Nat->Int}{grp:Nat->Nat}(hf:∀p,p<n->f p=0\/f p=1)
include hf
theorem Ei{p:Nat}(a:p<n):bl f n (sub grp (grp p))≠bl f n λ_=>false:=λh=>by have :=Al h hf a;simp[sub]at this
theorem Eh{p q:Nat}(d:p<n)(hq:q<n)(c:grp p≠grp q):bl f n (sub grp (grp p))≠bl f n (sub grp (grp q)):=λh=>by have a:=Al h hf d;have b:=Al h hf hq;simp[sub]at a b;exact c (by rw[<-b,Nat.and_comm,a])
theorem N4{p q:Nat}(e:p<n)(hq:q<n)(c:bl f n (sub grp (grp p))=bl f n (above grp (grp q)))(d:bl f n (sub grp (grp q))=bl f n (above grp (grp p))):False:=by have a:=Al c hf e;have b:=Al d hf hq;simp[sub,above]at a b;exact a.2 (by rw[<-b.1,Nat.and_comm,a.1])
theorem G6{p:Nat}(a:p<n):bl f n (above grp (grp p))≠bl f n (sub grp (grp p)):=λh=>by have :=Al h hf a;simp[sub,above]at this
abbrev lo(a b:List Int):List Int:=if llt b a=true then b else a
abbrev hi(a b:List Int):List Int:=if llt a b=true then b else a
omit hf in
theorem lohi{a b c d:List Int}(e:lo a b=lo c d)(f:hi a b=hi c d)(g:a≠b)(h:c≠d):(a=c/\b=d)\/(a=d/\b=c):=by
 have i:=vW (bK g);have j:=vW (bK h);unfold lo at e;unfold hi at f;rw[i,j]at e;cases x:llt a b<;>cases y:llt c d<;>rw[x,y]at e f<;>simp only[Bool.not_false,gF,if_true,aY,if_false]at e f
 .exact .inl (f,e,)
 .exact .inr (f,e,)
 .exact .inr (e,f,)
 .exact .inl (e,f,)
theorem JW{p q:Nat}(a:p<n)(hq:q<n)(d:grp p≠grp q):
  lo (bl f n (above grp (grp p))) (bl f n (sub grp (grp p)))++hi (bl f n (above grp (grp p))) (bl f n (sub grp (grp p)))≠
  lo (bl f n (above grp (grp q))) (bl f n (sub grp (grp q)))++hi (bl f n (above grp (grp q))) (bl f n (sub grp (grp q))):=λh=>by
 have len:∀P Q:Nat->Bool,(lo (bl f n P) (bl f n Q)).length=n:=λP Q=>by unfold lo;split <;>exact kR _ _ _
 obtain⟨b,c⟩:=List.append_inj h ((len _ _).trans (len _ _).symm);rcases lohi b c (G6 hf a) (G6 hf hq)with⟨_,z⟩ |⟨e,g⟩;·exact Eh hf a hq d z
 .exact N4 hf a hq g e.symm
end M4
namespace Q
open L2
def IQ(a:ns.Nodup):∃qs:List Int,sortI ns=qs.map V.int/\qs.Perm ns:=by
 refine((FF ns).map λi=>ns.getD i 0,?_,?_,);·unfold sortI;rw[bT];refine cu λi hi=>?_;have b:i<ns.length:=bq.mp ((zJ a).mem_iff.mp hi);show(ns.map V.int).getD i .non=V.int (ns.getD i 0);rw[ag,ag,ax,ae b];rfl
 .have h:=(zJ a).map λi=>ns.getD i 0;rw[range_getD]at h;exact h
end Q
namespace M5
open M3 M4 Q L2
abbrev plc(n:Nat)(P:Nat->Bool):List Int:=((aC n).filter P).map λp:Nat=>(p:Int)
def vV{P:Nat->Bool}(h:i<n):(i:Int)∈plc n P↔P i=true:=by
 unfold plc;rw[aN];constructor
 .rintro⟨p,a,e⟩;have :p=i:=by lia
  rw[<-this];exact(eU.mp a).2
 .intro e;exact(i,eU.mpr (bq.mpr h,e,),rfl,)
abbrev trn(zs:List Int)(ms:List Int):List Int:=(aC zs.length).map λi:Nat=>if(i:Int)∈ms then 1-zs.getD i 0 else zs.getD i 0
def IJ{zs:List Int}{P:Nat->Bool}:trn zs (plc zs.length P)=bl (λp=>zs.getD p 0) zs.length P:=by
 unfold trn bl;refine cu λi hi=>?_;have hi:=bq.mp hi;by_cases h:P i=true;·rw[if_pos ((vV hi).mpr h),if_pos h]
 .rw[if_neg (λz=>h ((vV hi).mp z)),if_neg h]
def tD{f:Nat->Int}{P:Nat->Bool}(h:i<n):(bl f n P).getD i 0=if P i=true then 1-f i else f i:=by unfold bl;rw[ag,ax,bw h];rfl
def trn_bl{f:Nat->Int}{S E:Nat->Bool}(h:∀p,E p=true->S p=true):trn (bl f n S) (plc n E)=bl f n λp=>S p&& !E p:=by
 unfold trn;rw[kR];refine cu λi hi=>?_;have hi:=bq.mp hi;rw[tD hi];show _=if(S i&& !E i)=true then 1-f i else f i
 cases hE:E i with
 |true=>
  rw[if_pos ((vV hi).mpr hE),h i hE,if_pos rfl];show 1-(1-f i)=if(true&& !true)=true then _ else f i
  rw[if_neg 'F'];lia
 |false=>rw[if_neg (λz=>by rw[(vV hi).mp z]at hE;cases hE)];cases S i<;>rfl
def NH(zs:List Int):bl (λp=>zs.getD p 0) zs.length (λ_=>false)=zs:=by
 unfold bl;apply cy;·simp
 .intro i b a;simp[a]
abbrev own(grp:Nat->Nat)(g p:Nat):Bool:=decide (grp p=g)
def own_sub{grp:Nat->Nat}{g p:Nat}(h:own grp g p=true):sub grp g p=true:=by have :grp p=g:=W0 h;refine decide_eq_true ?_;rw[this];exact Nat.and_self g
def Ow(grp:Nat->Nat)(g:Nat):(λp=>sub grp g p&& !own grp g p)=above grp g:=by
 funext p
 unfold sub own above;by_cases h1:grp p&&& g=g<;>by_cases h2:grp p=g<;>simp[h1,h2]
abbrev nB(f:Nat->Int)(n:Nat)(grp:Nat->Nat)(q:Int):List Int:=bl f n (sub grp q.toNat)
abbrev nA(f:Nat->Int)(n:Nat)(grp:Nat->Nat)(q:Int):List Int:=bl f n (above grp q.toNat)
abbrev iQ(f:Nat->Int)(n:Nat)(grp:Nat->Nat)(qs:List Int):List (List Int):=bl f n (λ_=>false)::qs.map (nB f n grp)
abbrev brK(f:Nat->Int)(n:Nat)(grp:Nat->Nat)(qs:List Int):List (List Int×List Int):=qs.map λq=>(lo (nA f n grp q) (nB f n grp q),hi (nA f n grp q) (nB f n grp q))
def Grs(n:Nat)(grp:Nat->Nat)(qs:List Int):Prop:=qs.Nodup/\∀q∈qs,∃p,p<n/\q=(grp p:Int)
section
variable {f:Nat->Int}{grp:Nat->Nat}(hf:∀p,p<n->f p=0\/f p=1)(hq:Grs n grp qs)
include hf hq
theorem MQ{j:Type}{F:Int->j}(h:∀p q,p<n->q<n->grp p≠grp q->F (grp p:Int)≠F (grp q:Int)):(qs.map F).Nodup:=by refine gL.mpr ?_;have p:List.Pairwise (λa b=>a≠b) qs:=hq.1;refine(List.Pairwise.and_mem.mp p).imp ?_;rintro a b ⟨c,d,f⟩;obtain⟨x,g,rfl⟩:=hq.2 a c;obtain⟨y,i,rfl⟩:=hq.2 b d;exact h x y g i (λe=>f (by rw[e]))
theorem Dt:(iQ f n grp qs).Nodup:=by
 unfold iQ;refine cT.mpr (λz=>?_,MQ hf hq λp q a b c=>?_,);·obtain⟨q,b,e⟩:=aN.mp z;obtain⟨p,a,rfl⟩:=hq.2 q b;exact Ei hf a (by unfold nB at e;rw[aW]at e;exact e)
 .unfold nB;rw[aW,aW];exact Eh hf a b c
theorem Oh:((brK f n grp qs).map oO).Nodup:=by unfold brK;rw[bT];refine MQ hf hq λp q b c a=>?_;show lo (nA f n grp (grp p:Int)) (nB f n grp (grp p:Int))++hi (nA f n grp (grp p:Int)) (nB f n grp (grp p:Int))≠lo (nA f n grp (grp q:Int)) (nB f n grp (grp q:Int))++hi (nA f n grp (grp q:Int)) (nB f n grp (grp q:Int));unfold nA nB;rw[aW,aW];exact JW hf b c a
end
def zM{f:Nat->Int}{grp:Nat->Nat}:∀k∈iQ f n grp qs,k.length=n:=λk hk=>by
 rcases aA.mp hk with rfl|hk;·exact kR _ _ _
 .obtain⟨q,_,rfl⟩:=aN.mp hk;exact kR _ _ _
def lo_len{a b:List Int}(c:a.length=n)(d:b.length=n):(M4.lo a b).length=n:=by unfold M4.lo;split <;>assumption
def hi_len{a b:List Int}(c:a.length=n)(d:b.length=n):(hi a b).length=n:=by unfold hi;split <;>assumption
def brK_len{f:Nat->Int}{grp:Nat->Nat}:∀k∈brK f n grp qs,k.1.length=n/\k.2.length=n:=λk a=>by obtain⟨q,_,rfl⟩:=aN.mp a;exact(lo_len (kR _ _ _) (kR _ _ _),hi_len (kR _ _ _) (kR _ _ _),)
def HN{grp:Nat->Nat}(h:Grs n grp qs):qs.length<=n:=by
 have e:qs.length<=((aC n).map λp:Nat=>(grp p:Int)).length:=by refine List.Nodup.length_le_of_subset h.1 λq hq=>?_;obtain⟨p,a,rfl⟩:=h.2 q hq;exact aN.mpr (p,bq.mpr a,rfl,)
 simpa using e
end M5
namespace K32
open R
abbrev FC:List Str:=["copies","place"]
abbrev xG:List Str:=["copies","place","first","group","name","readings"]
abbrev sX:CB:=
  (.cons (.ret (.var 3))
  .nil)
abbrev sY:CB:=
  (.cons (.forr (.tup (.cons (.name 4) (.cons (.name 5) .nil))) (.seq (.var 0))
  (.cons (.asg (.name 3) (.bin .Add (.bin .Mult (.var 3) (.con (.int 2))) (.bin .BitXor (.idx (.var 5) (.var 1)) (.var 2))))
  .nil))
  sX)
abbrev sZ:CB:=
  (.cons (.asg (.name 3) (.con (.int 0)))
  sY)
abbrev yB:CB:=
  (.cons (.asg (.name 2) (.idx (.idx (.idx (.var 0) (.con (.int 0))) (.con (.int 1))) (.var 1)))
  sZ)
abbrev My:List Str:=["readings","places"]
abbrev Dw:List Str:=["readings","places"]
abbrev Ea:CB:=
  (.cons (.ret (.bfn .tuple (.cons (.comp ["place","reading"] [1] (.tup (.cons (.name 0) (.cons (.name 1) .nil))) (.enumt (.var 0)) .no (.ite (.cmp .In (.var 0) (.var 2)) (.bin .Sub (.con (.int 1)) (.var 1)) (.var 1))) .nil)))
  .nil)
abbrev p_grown:List Str:=["copies"]
abbrev Hx:List Str:=["copies","first","groups","nodes","branches","group","places","around","below","above"]
abbrev Ac:CB:=
  (.cons (.ret (.tup (.cons (.bfn .sortl (.cons (.var 3) .nil)) (.cons (.bfn .sortt (.cons (.var 4) .nil)) .nil))))
  .nil)
abbrev oZ:CB:=
  (.cons (.expr (.meth1 .append (.var 4) (.tup (.cons (.bfn .minl (.cons (.var 9) (.cons (.var 8) .nil))) (.cons (.bfn .maxl (.cons (.var 9) (.cons (.var 8) .nil))) (.cons (.bfn .tuple (.cons (.var 6) .nil)) .nil))))))
  .nil)
abbrev o4:CB:=
  (.cons (.expr (.meth1 .append (.var 3) (.var 8)))
  oZ)
abbrev vn:CB:=
  (.cons (.asg (.name 9) (.call "turned" (.cons (.var 8) (.cons (.var 6) .nil))))
  o4)
abbrev o5:CB:=
  (.cons (.asg (.name 8) (.call "turned" (.cons (.var 1) (.cons (.var 7) .nil))))
  vn)
abbrev vo:CB:=
  (.cons (.asgc 7 (.comp ["place"] [5,2] (.name 0) (.range1 (.bfn .len (.cons (.var 1) .nil))) (.yes (.cmp .Eq (.bin .BitAnd (.idx (.var 2) (.var 0)) (.var 1)) (.var 1))) (.var 0)))
  o5)
abbrev o6:CB:=
  (.cons (.asgc 6 (.comp ["place"] [5,2] (.name 0) (.range1 (.bfn .len (.cons (.var 1) .nil))) (.yes (.cmp .Eq (.idx (.var 2) (.var 0)) (.var 1))) (.var 0)))
  vo)
abbrev Ad:CB:=
  (.cons (.forr (.name 5) (.lseq (.sortset (.var 2)))
  (.cons (.iff (.cmp .Eq (.var 5) (.con (.int 0)))
  (.cons (.cont)
  .nil)
  .nil)
  o6))
  Ac)
abbrev Ae:CB:=
  (.cons (.asg (.name 4) (.lst .nil))
  Ad)
abbrev Af:CB:=
  (.cons (.asg (.name 3) (.lst (.cons (.var 1) .nil)))
  Ae)
abbrev Ag:CB:=
  (.cons (.asgc 2 (.comp ["place"] [0] (.name 0) (.range1 (.bfn .len (.cons (.var 1) .nil))) .no (.call "group_at" (.cons (.var 1) (.cons (.var 0) .nil)))))
  Af)
abbrev Il:CB:=
  (.cons (.asg (.name 1) (.idx (.idx (.var 0) (.con (.int 0))) (.con (.int 1))))
  Ag)
end K32
namespace K32
open L2 R Cp Lt Kc K21 K22 Lm M3 M4 M5
def fF(h:n<=63):n<=sizeLine:=aO h 'E'
def lt60(h:n<=63):n<sizeLine:=cR h 'E'
def xor_ii{i j:Int}{Q:VK}:nZ K .BitXor (.int i) (.int j) H Q↔Q (.int (k6 i j)) H:=by show rI0 _ _ _ _ _↔_;simp[rI0]
def and_ii{i j:Int}{Q:VK}:nZ K .BitAnd (.int i) (.int j) H Q↔Q (.int (i6 i j)) H:=by show rI0 _ _ _ _ _↔_;simp[rI0]
def BB(a:Int)(l:List Int):inV (V.int a) (l.map V.int)=decide (a∈l):=by
 unfold inV;rw[pV,dE,bQ,decide_eq_true_eq];constructor;·rintro⟨x,b,e⟩;have :x=a:=beq_iff_eq.mp e;rw[<-this];exact b
 .intro h;exact(a,h,beq_self_eq_true a,)
def pM(ms:List Int):(ms.map V.int).all sG=true:=by rw[bj];intro v a;obtain⟨m,_,rfl⟩:=aN.mp a;rfl
def zF:tJ (Itet K a) xs.length (λi x H=>∃p v,x=.ref p/\H p<*(.tup [.int i,v])/\xs[i]?<*v) (λH=>SqT K H a xs):=rJ
def gf{zs:List Int}(h:i<zs.length):(zs.map V.int)[i]?<*(.int (zs.getD i 0)):=by rw[ax,ae h,ag,ae h];rfl
structure Cps(H:Hp)(c:Addr)(ys:List V)(n:Nat)(rows:List (List Int)):Prop where
 ec:H c<*(.lst ys)
 len:ys.length<=40
 rl:rows.length=ys.length
 n60:n<=60
 at_:∀(i:Nat) y,ys[i]?<*y->∃b z r,y=.ref b/\H b<*(.tup [.str z,.ref r])/\H r<*(.tup ((rows.getD i []).map V.int))
 rd:∀zs∈rows,zs.length=n/\∀x∈zs,x=0\/x=1
def Cps.same(d:Cps H c ys n rows)(s:aD H H'):Cps H' c ys n rows:=
 {d with ec:=s _ _ d.ec,at_:=λi y e=>let⟨b,z,r,h1,h2,h3⟩:=d.at_ i y e;(b,z,r,h1,s _ _ h2,s _ _ h3,)}
def Cps.row(d:Cps H c ys n rows)(hi:i<ys.length):(rows.getD i []).length=n/\∀p,p<n->(rows.getD i []).getD p 0=0\/(rows.getD i []).getD p 0=1:=by
 have a:i<rows.length:=by rw[d.rl];exact hi
 have e:rows.getD i []=rows[i]:=by rw[ag,ae a];rfl
 obtain⟨b,f⟩:=d.rd rows[i] (aR a);rw[e];refine(b,λp g=>f _ ?_,);rw[ag,ae 'D'];exact aR _
abbrev fr(rows:List (List Int))(p:Nat):Int:=(rows.getD 0 []).getD p 0
abbrev bt(rows:List (List Int))(p:Nat)(r:List Int):Bool:= !decide (r.getD p 0=fr rows p)
abbrev grp(rows:List (List Int))(p:Nat):Nat:=M3.num (rows.map (bt rows p)) 0
def AS:Sp:=λvs H Q _=>∃(c:Addr)(p:Nat)(ys:List V)(n:Nat)(rows:List (List Int)),vs=[.ref c,.int p]/\Cps H c ys n rows/\ys≠[]/\p<n/\∀H',aD H H'->Q (.int (grp rows p)) H'
def KE{G:Gam}:Sat G K AS yB xG:=by
 rintro Z H Q E ⟨c,p,e,n,a,rfl,d,O,w,q⟩;unfold yB;change wpB G K _ _ _ [some (.ref c),some (.int p),none,none,none,none] H;ext;have g:0<e.length:=eW.mpr O;obtain⟨b,a0,r,z,A,B⟩:=d.at_ 0 e[0] (ae g);obtain⟨X,S⟩:=d.row g;have L:e[0]?<*(.ref b):=by rw[ae g,z]
 refine .inl (c,e,0,_,rfl,rfl,SqL.of d.ec,cG (j:=0) L,?_,);refine .inr (.inl (b,_,1,_,rfl,rfl,SqT.of A,rfl,?_,));refine .inr (.inl (r,_,p,_,rfl,rfl,SqT.of B,cG (gf 'D'),?_,));unfold sZ;ext;unfold sY;ext;refine iT (cD rfl (SqL.of d.ec) (gG dI (λk f m=>aD H m/\∃u v,f=[some (.ref c),some (.int p),some (.int (fr a p)),some (.int (M3.num ((a.take k).map (bt a p)) 0:Nat)),u,v])
  (aD.refl _,none,none,rfl,) (λk f m _ s=>s.1.seq (SqL.of d.ec)) ?_ ?_))
 .rintro k y f o W V t ⟨i,u,v,rfl⟩ P T M _;obtain⟨x,z',R,rfl,I,J⟩:=d.at_ k y P;have l:=i.trans T;obtain⟨Y,U⟩:=d.row t;have N:k<a.length:=by rw[d.rl];exact t
  refine(x,_,rfl,SqT.of (l _ _ I),rfl,_,_,rfl,_,_,rfl,rfl,?_,);ext;refine(Ib 'E' 'E',.inr (.inl (R,_,p,_,rfl,rfl,SqT.of (l _ _ J),cG (gf 'D'),?_,)),);refine xor_ii.mpr (B5.mpr ?_);rw[show k6 ((a.getD k []).getD p 0) (fr a p)=if(a.getD k []).getD p 0=(a.getD 0 []).getD p 0 then 0 else 1 from xor_bit (U p w) (S p w)];have F:a.take (k+1)=a.take k++[a.getD k []]:=by rw[dO,ag,ae N];rfl
  have D:(if(a.getD k []).getD p 0=(a.getD 0 []).getD p 0 then(0:Int)else 1)=((bt a p (a.getD k [])).toNat:Int):=by
   unfold bt fr;by_cases h:(a.getD k []).getD p 0=(a.getD 0 []).getD p 0;·rw[if_pos h,decide_eq_true h];rfl
   .rw[if_neg h,decide_eq_false h];rfl
  have C:((M3.num ((a.take k).map (bt a p)) 0:Nat):Int)*2+((bt a p (a.getD k [])).toNat:Int)=((M3.num ((a.take (k+1)).map (bt a p)) 0:Nat):Int):=by rw[F,cH,bG,lF,xr];push_cast;rfl
  rw[D,C];exact M _ _ (l,_,_,rfl,)
 .rintro f o ⟨i,u,v,rfl⟩;unfold sX;ext;rw[<-d.rl,fj];exact q o i
def nV(K:ah):Sp:=λvs H Q _=>∃(r b:Addr)(zs ms:List Int),vs=[.ref r,.ref b]/\SqT K H r (zs.map V.int)/\SqL K H b (ms.map V.int)/\zs.length<=60/\
 ∀(H':Hp)(p:Addr),aD H H'->H p=none->H' p<*(.tup ((trn zs ms).map V.int))->Q (.ref p) H'
def ID{G:Gam}:Sat G K (nV K) Ea Dw:=by
 rintro f H Q E ⟨r,b,g,a,rfl,m,y,B,q⟩;unfold Ea;change wpB G K _ _ _ [some (.ref r),some (.ref b)] H;ext;refine cQ (_,rfl,r,rfl,(_,m,),?_,);refine cW zF (fF (by rw[ai];lia)) (λt d=>d.tup m) (λi v _=>v=.int (if(i:Int)∈a then 1-g.getD i 0 else g.getD i 0)) (λ_ _ _ _ _ h=>h) (λs=>∃u v,s=[u,v,some (.ref b)]) (none,none,rfl,) ?_ ?_
 .rintro i x s t R hi ⟨u,v,rfl⟩ d ⟨p,v,rfl,c,n⟩ k;rw[ai]at hi;rw[gf hi]at n;cases n;refine(p,_,rfl,SqT.of c,rfl,_,_,rfl,_,_,rfl,rfl,?_,);ext;refine .inr (b,_,rfl,.inl (d.seq y),rfl,pM a,_,rfl,?_,);show if inV (V.int (i:Int)) (a.map V.int)=true then _ else _
  rw[BB];by_cases h:(i:Int)∈a;·rw[decide_eq_true h,if_pos rfl];exact k _ _ _ (_,_,rfl,) (aD.refl _) (by rw[if_pos h])
  .rw[decide_eq_false h,if_neg ao];exact k _ _ _ (_,_,rfl,) (aD.refl _) (by rw[if_neg h])
 .intro f A l z w o j;rw[ai]at z;have e:f=(trn g a).map V.int:=by
   unfold trn;apply jv;intro i;rw[ax,ax];by_cases hi:i<f.length;·rw[ae hi,bw 'D',w i _ (ae hi)];rfl
   .rw[bV 'D',bV (by rw[bU];lia)];rfl
  rw[e];exact(l,_,rfl,.inl (SqL.of aq,λp c=>q _ p (o.trans ((au j).trans (au c))) ((o.trans (au j)).free c) aq,),)
def NC{J:It}{k:Nat->V->Hp->Prop}{j:Hp->Prop}{g:TG}{tb:TS}{D:Ends}(S:tJ J n k j)(e:Nat->L2.St->Hp->Prop)(h0:e 0 σ H)(m:∀i σ H,i<=n->e i σ H->j H)
  (hs:∀i x σ H H' (D2:Ends),i<n->e i σ H->k i x H'->aD H H'->(∀f H2,e (i+1) f H2->D2.nx f H2)->(∀f H2,e (i+1) f H2->D2.ct f H2)->g x σ H' λf H2=>tb D2 f H2)(l:∀σ H,e n σ H->D.nx σ H):ForB J g tb D σ H:=
 HR S e h0 m (λi x σ H H' a b c d=>hs i x σ H H' _ a b c d (λ_ _ h=>h) (λ_ _ h=>h)) l
def Lv:tJ (Itr 0 n) (nats n).length (λi x _=>(nats n)[i]?<*x) (λ_=>True) where
 go:=λi H h hi=>dM.go i H h (by simpa[nats]using hi)
 stop:=λi H h hi=>dM.stop i H h (by simpa[nats]using hi)
 yld:=λi H x b h hi y=>by
  have a:i<n:=by simpa[nats]using hi
  obtain⟨e,s⟩:=dM.yld i H x b h a y;refine(?_,s,);subst e;unfold nats;rw[ax,bw a,eN];rfl
def Jq{t:V->Bool}{P:Nat->Bool}(h:∀p,p<n->t (.int p)=P p):((nats n).filter t).map id=(plc n P).map V.int:=by unfold nats plc;rw[Kx,Aw,bT];rw[show(aC n).filter (t∘λi:Nat=>V.int (i:Int))=(aC n).filter P from List.filter_congr λp a=>h p (bq.mp a)];rfl
def Paired.snoc{c d:Type}{F:c->d->Prop}{a:c}{b:d}(h:F a b){l:List c}{m:List d}(p:Paired F l m):Paired F (l++[a]) (m++[b]):=by
 induction p with
 |nil=>exact .cons h .nil
 |cons x r ih=>exact .cons x ih
def Tk(H H':Hp):Prop:=∀a xs,H a<*(.tup xs)->H' a<*(.tup xs)
def Tk.of(s:aD H H'):Tk H H':=λa _ e=>s a _ e
def tY(h:H a<*(.lst xs)):Tk H (upd H a (.lst ys)):=λb _ e=>by rw[aV (λz=>by rw[z,h]at e;cases e)];exact e
def dS(t:Tk H H'){ps:List (List Int)}(h:_root_.Q.IntKeys H ys ps):_root_.Q.IntKeys H' ys ps:=Paired.qN h λv k z=>by obtain⟨a,e,f⟩:=z;exact(a,e,t _ _ f,)
def BrOf(f:Nat->Int)(n:Nat)(g:Nat->Nat)(H:Hp)(v:V)(q:Int):Prop:=∃a x y z,v=V.ref a/\H a<*(.tup [.ref x,.ref y,.ref z])/\H x<*(.tup ((lo (nA f n g q) (nB f n g q)).map V.int))/\H y<*(.tup ((hi (nA f n g q) (nB f n g q)).map V.int))/\H z<*(.tup ((plc n (own g q.toNat)).map V.int))
def m9(f:Nat->Int)(n:Nat)(g:Nat->Nat)(H:Hp)(bs:List V)(qs:List Int):Prop:=Paired (BrOf f n g H) bs qs
def m9.tk{f:Nat->Int}{g:Nat->Nat}(t:Tk H H'){bs:List V}(h:m9 f n g H bs qs):m9 f n g H' bs qs:=Paired.qN h λv k w=>by obtain⟨a,x,y,z,e,b,c,d,i⟩:=w;exact(a,x,y,z,e,t _ _ b,t _ _ c,t _ _ d,t _ _ i,)
def m9.two{f:Nat->Int}{n:Nat}{g:Nat->Nat}{H:Hp}{bs:List V}{b:List Int}(h:m9 f n g H bs b):_root_.Q.mI H bs (brK f n g b):=by
 unfold m9 at h
 induction h with
 |nil=>exact .nil
 |cons x r ih=>obtain⟨a,x,y,z,e,c,d,i,_⟩:=x;exact .cons (a,x,y,_,e,c,d,i,) ih
def je{a b:Type}{F:a->b->Prop}{l:List a}{m:List b}(h:Paired F l m):m.length=l.length:=by
 induction h with
 |nil=>rfl
 |cons _ _ ih=>simp[ih]
abbrev gsI(rows:List (List Int))(n:Nat):List Int:=(aC n).map λp:Nat=>(grp rows p:Int)
def BC:(gsI rows n).length=n:=by simp[gsI]
def Nz{p:Nat}(h:p<n):(gsI rows n).getD p 0=(grp rows p:Int):=by unfold gsI;rw[ag,ax,bw h];rfl
abbrev dn(qs:List Int)(k:Nat):List Int:=(qs.take k).filter λq=> !decide (q=0)
def dn_zero(h:qs[k]?<*0):dn qs (k+1)=dn qs k:=by unfold dn;rw[dO,h,l7];simp
def HY{q:Int}(h:qs[k]?<*q)(a:q≠0):dn qs (k+1)=dn qs k++[q]:=by unfold dn;rw[dO,h,l7];simp[a]
def NQ{g:Nat->Nat}(h:Grs n g qs):Grs n g (dn qs k):=by have s:(dn qs k).Sublist qs:=tV.trans (wm k qs);exact(h.1.sublist s,λq hq=>h.2 q (s.subset hq),)
def NP{g:Nat->Nat}(h:Grs n g qs):(dn qs k).length<=n:=HN (NQ h)
structure Fx(H:Hp)(gl nd br so:Addr):Prop where
 fnd:H nd=none
 fbr:H br=none
 n1:nd≠br
 n2:nd≠gl
 n3:nd≠so
 n4:br≠gl
 n5:br≠so
structure Gx(rows:List (List Int))(n:Nat)(qs:List Int)(H:Hp)(gl nd br so:Addr)(ds:List Int)(ks bs:List V)(H':Hp):Prop where
 s:aD H H'
 eg:H' gl<*(.lst ((gsI rows n).map V.int))
 eo:H' so<*(.lst (qs.map V.int))
 en:H' nd<*(.lst ks)
 eb:H' br<*(.lst bs)
 nk:_root_.Q.IntKeys H' ks (iQ (fr rows) n (grp rows) ds)
 bk:m9 (fr rows) n (grp rows) H' bs ds
section
variable {gl nd br so c r0:Addr}{ds:List Int}{ks bs:List V}{G:Gam}{E:XS}{D:Ends}
def Gx.same(g:Gx rows n qs H gl nd br so ds ks bs H')(s:aD H' H2):Gx rows n qs H gl nd br so ds ks bs H2:=
 (g.s.trans s,s _ _ g.eg,s _ _ g.eo,s _ _ g.en,s _ _ g.eb,dS (Tk.of s) g.nk,g.bk.tk (Tk.of s),)
def Gx.ksl(g:Gx rows n qs H gl nd br so ds ks bs H'):ks.length=ds.length+1:=by have :=je g.nk;simpa[iQ]using this.symm
def Gx.bsl(g:Gx rows n qs H gl nd br so ds ks bs H'):bs.length=ds.length:=(je g.bk).symm
def Gv(rows:List (List Int))(n:Nat)(qs:List Int)(H:Hp)(c r0 gl nd br so:Addr)(k:Nat)(σ:L2.St)(H':Hp):Prop:=
 (∃ks bs,Gx rows n qs H gl nd br so (dn qs k) ks bs H')/\∃u v w x y,σ=[some (.ref c),some (.ref r0),some (.ref gl),some (.ref nd),some (.ref br),u,v,w,x,y]
def FH{f:Nat->Int}{g:Nat->Nat}{q:Int}:iQ f n g (ds++[q])=iQ f n g ds++[nB f n g q]:=by simp[iQ]
def pick{p:Prop}[Decidable p]{x y:Addr}{A B:List Int}(a:H x<*(.tup (A.map V.int)))(b:H y<*(.tup (B.map V.int))):∃z,(if p then V.ref y else V.ref x)=V.ref z/\H z<*(.tup ((if p then B else A).map V.int)):=by
 split;·exact(y,rfl,b,)
 .exact(x,rfl,a,)
def AB(F:Fx H gl nd br so)(T:n<=60)(hq:Grs n (grp rows) qs){q:Int}(L:qs[k]?<*q)(h0:q≠0)(J:∀u H2,Gv rows n qs H c r0 gl nd br so (k+1) u H2->D.nx u H2)
  (s:aD H H')(v:H' gl<*(.lst ((gsI rows n).map V.int)))(A:H' so<*(.lst (qs.map V.int)))(w:H' nd<*(.lst ks))(m:H' br<*(.lst bs))(P:_root_.Q.IntKeys H' ks (iQ (fr rows) n (grp rows) (dn qs (k+1))))(bk:m9 (fr rows) n (grp rows) H' bs (dn qs k))
  (B:H' pl<*(.lst ((plc n (own (grp rows) q.toNat)).map V.int)))(g:H' be<*(.tup ((nB (fr rows) n (grp rows) q).map V.int)))(f:H' ab<*(.tup ((nA (fr rows) n (grp rows) q).map V.int))):
  wpB G K E oZ D [some (.ref c),some (.ref r0),some (.ref gl),some (.ref nd),some (.ref br),some (.int q),some (.ref pl),some (.ref ar),some (.ref be),some (.ref ab)] H':=by
 have S:(dn qs k).length<=n:=NP hq;have R:=je bk;unfold oZ;ext;have t:(nA (fr rows) n (grp rows) q).length=(nB (fr rows) n (grp rows) q).length:=(kR _ _ _).trans (kR _ _ _).symm;obtain⟨x,C,M⟩:=pick (p:=_root_.Q.llt (nB (fr rows) n (grp rows) q) (nA (fr rows) n (grp rows) q)=true) f g;obtain⟨y,I,N⟩:=pick (p:=_root_.Q.llt (nA (fr rows) n (grp rows) q) (nB (fr rows) n (grp rows) q)=true) f g;refine(.inl (rfl,_,SqL.of m,),ab,be,_,_,rfl,SqT.of f,SqT.of g,t,ab,be,_,_,rfl,SqT.of f,SqT.of g,t,?_,);rw[C,I];refine⟨pl,_,rfl,.inl ⟨SqL.of B,λz O=>(short 'F',λa r=>?_,)⟩⟩;have d:aD H' (upd (upd H' z (.tup ((plc n (own (grp rows) q.toNat)).map V.int))) a (.tup [.ref x,.ref y,.ref z])):=(au O).trans (au r);have j:upd (upd H' z (.tup ((plc n (own (grp rows) q.toNat)).map V.int))) a (.tup [.ref x,.ref y,.ref z]) a<*(.tup [.ref x,.ref y,.ref z]):=aq;have l:upd (upd H' z (.tup ((plc n (own (grp rows) q.toNat)).map V.int))) a (.tup [.ref x,.ref y,.ref z]) z<*(.tup ((plc n (own (grp rows) q.toNat)).map V.int)):=au r _ _ aq;generalize upd (upd H' z (.tup ((plc n (own (grp rows) q.toNat)).map V.int))) a (.tup [.ref x,.ref y,.ref z])=H1 at d j l⊢;have o:=d _ _ m;refine(br,bs,_,rfl,rfl,o,lt60 'D',J _ _ ((ks,bs++[.ref a],?_,),_,_,_,_,_,rfl,),);have i:Tk H1 (upd H1 br (.lst (bs++[V.ref a]))):=tY o;have h:Tk H' (upd H1 br (.lst (bs++[V.ref a]))):=λb Q e=>i b Q (d _ _ e);refine(fH (s.trans d) F.fbr,?_,?_,?_,aq,dS h P,?_,);·rw[aV (bK F.n4)];exact d _ _ v
 .rw[aV (bK F.n5)];exact d _ _ A
 .rw[aV F.n1];exact d _ _ w
 .rw[HY L h0];exact Paired.snoc (a,x,y,z,rfl,i _ _ j,h _ _ M,h _ _ N,i _ _ l,) (bk.tk h)
def AD(F:Fx H gl nd br so)(j:n<=60)(hq:Grs n (grp rows) qs){q:Int}(d:qs[k]?<*q)(h0:q≠0)(i:∀e H2,Gv rows n qs H c r0 gl nd br so (k+1) e H2->D.nx e H2)
  (g:Gx rows n qs H gl nd br so (dn qs k) ks bs H')(l:pl≠nd)(h:H' pl<*(.lst ((plc n (own (grp rows) q.toNat)).map V.int)))(b:H' be<*(.tup ((nB (fr rows) n (grp rows) q).map V.int)))(f:H' ab<*(.tup ((nA (fr rows) n (grp rows) q).map V.int))):
  wpB G K E o4 D [some (.ref c),some (.ref r0),some (.ref gl),some (.ref nd),some (.ref br),some (.int q),some (.ref pl),some (.ref ar),some (.ref be),some (.ref ab)] H':=by
 have m:(dn qs k).length<=n:=NP hq;have o:=g.ksl;unfold o4;ext;refine(.inl (rfl,_,SqL.of g.en,),nd,ks,_,rfl,rfl,g.en,lt60 'D',?_,);have a:Tk H' (upd H' nd (.lst (ks++[V.ref be]))):=tY g.en;refine AB F j hq d h0 i (fH g.s F.fnd) ?_ ?_ aq ?_ ?_ (g.bk.tk a) ?_ (a _ _ b) (a _ _ f);·rw[aV (bK F.n2)];exact g.eg
 .rw[aV (bK F.n3)];exact g.eo
 .rw[aV (bK F.n1)];exact g.eb
 .rw[HY d h0,FH];exact Paired.snoc (be,rfl,a _ _ b,) (dS a g.nk)
 .rw[aV l];exact h
def C1{P:Nat->Bool}{Q:VK}{d:TT}{τs:List (Option V)}(s:n<=60)
  (step:∀(p:Nat)(u:Option V)(a:Hp)(R:Bool->Hp->Prop),p<n->aD H1 a->R (P p) a->d (some (.int p)::τs) a R)
  (g:∀H2 l,aD H1 H2->H2 l=none->Q (.ref l) (upd H2 l (.lst ((plc n P).map V.int)))):
  Ep (Itr 0 n) (iS 0) d (qG 0) (none::τs) H1 Q:=by
 refine z6 (xs:=nats n) Lv (fF (by unfold nats;simp;lia)) (λ_ _=>trivial) (λv=>match v with |.int i=>P i.toNat|_=>false) id (λf=>∃u,f=u::τs) (none,rfl,) ?_ ?_
 .rintro x f a r q c ⟨u,rfl⟩ o k kf;unfold nats at c;obtain⟨p,b,rfl⟩:=aN.mp c;have b:=bq.mp b;refine step p u a _ b o ?_;have e:P ((p:Int)).toNat=P p:=by rw[aW]
  cases h:P p with
  |true=>rw[if_pos rfl];exact(_,rfl,k _ _ (_,rfl,) (aD.refl _) (e.trans h),)
  |false=>rw[if_neg ao];exact kf _ _ (_,rfl,) (aD.refl _) (e.trans h)
 .intro H2 l m j;rw[Jq (P:=P) λp b=>by show P ((p:Int)).toNat=P p;rw[aW]];exact g H2 l m j
def AE(h:G.fn "turned" 2<*(nV K,[]))(F:Fx H gl nd br so)(i:n<=60)(u:(rows.getD 0 []).length=n)(v:H r0<*(.tup ((rows.getD 0 []).map V.int)))(hq:Grs n (grp rows) qs){q:Int}(t:qs[k]?<*q)(h0:q≠0)(s:∀j H2,Gv rows n qs H c r0 gl nd br so (k+1) j H2->D.nx j H2){x y:Option V}
  (g:Gx rows n qs H gl nd br so (dn qs k) ks bs H')(w:pl≠nd)(f:H' pl<*(.lst ((plc n (own (grp rows) q.toNat)).map V.int)))(r:H' ar<*(.lst ((plc n (M4.sub (grp rows) q.toNat)).map V.int))):
  wpB G K E o5 D [some (.ref c),some (.ref r0),some (.ref gl),some (.ref nd),some (.ref br),some (.int q),some (.ref pl),some (.ref ar),x,y] H':=by
 unfold o5;ext;refine(_,_,h,r0,ar,_,_,rfl,SqT.of (g.s _ _ v),SqL.of r,'D',λz l b _ a=>?_,);have m:trn (rows.getD 0 []) (plc n (M4.sub (grp rows) q.toNat))=nB (fr rows) n (grp rows) q:=by rw[<-u];exact IJ
 rw[m]at a;unfold vn;ext;refine(_,_,h,l,pl,_,_,rfl,SqT.of a,SqL.of (b _ _ f),by unfold nB;rw[kR];exact i,λH2 A d _ e=>?_,);have o:trn (nB (fr rows) n (grp rows) q) (plc n (own (grp rows) q.toNat))=nA (fr rows) n (grp rows) q:=by unfold nB nA;rw[trn_bl λp=>own_sub,Ow]
 rw[o]at e;exact AD F i hq t h0 s (g.same (b.trans d)) w (d _ _ (b _ _ f)) (d _ _ a) e
def AF(L:G.fn "turned" 2<*(nV K,[]))(F:Fx H gl nd br so)(i:n<=60)(t:(rows.getD 0 []).length=n)(l:H r0<*(.tup ((rows.getD 0 []).map V.int)))(hq:Grs n (grp rows) qs){q:Int}(s:qs[k]?<*q)(h0:q≠0)(M:∀I H2,Gv rows n qs H c r0 gl nd br so (k+1) I H2->D.nx I H2){v w x y:Option V}
  (g:Gx rows n qs H gl nd br so (dn qs k) ks bs H'):
  wpB G K E o6 D [some (.ref c),some (.ref r0),some (.ref gl),some (.ref nd),some (.ref br),some (.int q),v,w,x,y] H':=by
 obtain⟨T,S,J⟩:=hq.2 q (aH s);have A:q=(q.toNat:Int):=by rw[J,aW]
 have B:((rows.getD 0 []).map V.int).length=n:=by rw[ai];exact t
 unfold o6;ext;refine cQ ?_;ext;refine Or.inl (r0,_,rfl,.inr (SqT.of (g.s _ _ l)),_,rfl,'D','D',?_,);rw[B,aW];refine C1 (P:=own (grp rows) q.toNat) (τs:=[some (.int q),some (.ref gl)]) i ?_ ?_
 .intro p u m R b a h;ext;refine .inl (gl,_,p,_,rfl,rfl,SqL.of (a _ _ g.eg),cG (gf (by rw[BC];exact b)),?_,);rw[Nz b];refine lq.mpr ?_;refine(_,rfl,?_,);have e:decide ((grp rows p:Int)=q)=own (grp rows) q.toNat p:=by unfold M5.own;rw[A,aW];exact decide_eq_decide.mpr 'D'
  rw[e];exact h
 intro f d C j;have O:aD H' (upd f d (.lst ((plc n (own (grp rows) q.toNat)).map V.int))):=C.trans (au j);have o:upd f d (.lst ((plc n (own (grp rows) q.toNat)).map V.int)) d<*(.lst ((plc n (own (grp rows) q.toNat)).map V.int)):=aq;have N:d≠nd:=λz=>by rw[z,C _ _ g.en]at j;cases j
 have g:=g.same O;generalize upd f d (.lst ((plc n (own (grp rows) q.toNat)).map V.int))=H2 at o g⊢;unfold vo;ext;refine cQ ?_;ext;refine Or.inl (r0,_,rfl,.inr (SqT.of (g.s _ _ l)),_,rfl,'D','D',?_,);rw[B,aW];refine C1 (P:=M4.sub (grp rows) q.toNat) (τs:=[some (.int q),some (.ref gl)]) i ?_ ?_
 .intro p u m R b a h;ext;refine .inl (gl,_,p,_,rfl,rfl,SqL.of (a _ _ g.eg),cG (gf (by rw[BC];exact b)),?_,);rw[Nz b];refine and_ii.mpr (lq.mpr (_,rfl,?_,));have e:decide (i6 (grp rows p:Int) q=q)=M4.sub (grp rows) q.toNat p:=by unfold M4.sub;rw[A,and_nat,aW];exact decide_eq_decide.mpr 'D'
  rw[e];exact h
 intro m Q a r;exact AE L F i t l hq s h0 M (g.same (a.trans (au r))) N ((a.trans (au r)) _ _ o) aq
end
def yG(rows:List (List Int))(n:Nat)(H:Hp)(H':Hp)(p:Addr):Prop:=∃(a bl:Addr)(ks bs:List V)(qs:List Int),H' p<*(.tup [.ref a,.ref bl])/\H a=none/\H bl=none/\a≠bl/\Grs n (grp rows) qs/\0∉qs/\(∀p,p<n->grp rows p≠0->(grp rows p:Int)∈qs)/\
 _root_.Q.IntKeys H' ks (iQ (fr rows) n (grp rows) qs)/\m9 (fr rows) n (grp rows) H' bs qs/\H' a<*(.lst (_root_.Q.gz .non (iQ (fr rows) n (grp rows) qs) ks))/\H' bl<*(.lst (_root_.Q.gz .non ((brK (fr rows) n (grp rows) qs).map _root_.Q.oO) bs))
def wU:Sp:=λvs H Q _=>∃(c:Addr)(ys:List V)(n:Nat)(rows:List (List Int)),vs=[.ref c]/\Cps H c ys n rows/\ys≠[]/\∀H' p,aD H H'->H p=none->yG rows n H H' p->Q (.ref p) H'
def IG{G:Gam}(g1:G.fn "group_at" 2<*(AS,[]))(I:G.fn "turned" 2<*(nV K,[])):Sat G K wU Il Hx:=by
 rintro vs H b4 b3 ⟨c,O,n,a,rfl,d,hy,q⟩;unfold Il;change wpB G K _ _ _ [some (.ref c),none,none,none,none,none,none,none,none,none] H;ext;have r:0<O.length:=eW.mpr hy;obtain⟨a1,z,s,e1,e2,S⟩:=d.at_ 0 O[0] (ae r);obtain⟨X,hf⟩:=d.row r;have hf:∀p,p<n->fr a p=0\/fr a p=1:=hf;have hn:=d.n60;have a9:((a.getD 0 []).map V.int).length=n:=by rw[ai];exact X
 have g0:O[0]?<*(.ref a1):=by rw[ae r,e1]
 refine .inl (c,O,0,_,rfl,rfl,SqL.of d.ec,cG (j:=0) g0,?_,);refine .inr (.inl (a1,_,1,_,rfl,rfl,SqT.of e2,rfl,?_,));unfold Ag;ext;refine cQ ?_;ext;refine Or.inl (s,_,rfl,.inr (SqT.of S),_,rfl,'D','D',?_,);rw[a9,aW];refine cW dM (fF 'D') (λ_ _=>trivial) (λi a0 _=>a0=.int (grp a i)) (λ_ _ _ _ _ h=>h) (λτ=>∃u,τ=[u,some (.ref c)]) (none,rfl,) ?_ ?_;·rintro i b1 τ D b5 hi ⟨u,rfl⟩ w rfl k;ext;simp only[eN];exact(_,_,g1,c,i,O,n,a,rfl,d.same w,hy,'D',λE N=>k _ _ _ (_,rfl,) N rfl,)
 intro vs H1 gl c0 hF s1 a8;have ev:vs=(gsI a n).map V.int:=by
  unfold gsI;apply jv;intro i;rw[ax,ax];by_cases hi:i<vs.length;·rw[ae hi,bw 'D',hF i _ (ae hi)];rfl
  .rw[bV 'D',bV (by rw[bU];lia)];rfl
 rw[ev];generalize hX:upd H1 gl _=H2;obtain⟨M,t⟩:=cX hX a8;clear hX
 replace M:=s1.trans (M)
 unfold Af;ext;refine(short 'F',λf R=>?_,);have w:aD H2 (upd H2 f (.lst [.ref s])):=au R;have v:upd H2 f (.lst [.ref s]) f<*(.lst [.ref s]):=aq;have n2:f≠gl:=λz=>by rw[z,t]at R;cases R
 have fnd:H f=none:=M.free R;generalize upd H2 f (.lst [.ref s])=D at w v⊢;unfold Ae;ext;refine(short 'F',λe y=>?_,);have N:aD D (upd D e (.lst [])):=au y;have T:upd D e (.lst []) e<*(.lst []):=aq;have n1:f≠e:=λz=>by rw[<-z,v]at y;cases y
 have n4:e≠gl:=λz=>by rw[z,w _ _ t]at y;cases y
 have a7:H e=none:=(M.trans w).free y;have v:=N _ _ v;have t:=N _ _ (w _ _ t);have Z:=M.trans (w.trans N);generalize upd D e (.lst [])=E at Z T v t⊢;unfold Ad;ext;refine iT ?_;ext;refine(_,rfl,gl,gsI a n,rfl,SqL.of t,Few.of (by rw[BC];lia),λms l a4 mem L=>?_,);obtain⟨b,eq,Y⟩:=_root_.Q.IQ a4;have hq:Grs n (grp a) b:=⟨Y.nodup_iff.mpr a4,λq hq=>by have h:=(mem q).mp (Y.mem_iff.mp hq);unfold gsI at h;obtain⟨p,A,a6⟩:=aN.mp h;exact(p,bq.mp A,a6.symm,)⟩
 rw[eq];have C:aD E (upd E l (.lst (b.map V.int))):=au L;have W:upd E l (.lst (b.map V.int)) l<*(.lst (b.map V.int)):=aq;have n3:f≠l:=λz=>by rw[<-z,v]at L;cases L
 have n5:e≠l:=λz=>by rw[<-z,T]at L;cases L
 have a5:Fx H gl f e l:=(fnd,a7,n1,n2,n3,n4,n5,);generalize upd E l (.lst (b.map V.int))=H5 at C W⊢;have gx:Gx a n b H gl f e l (dn b 0) [.ref s] [] H5:=by
  refine(Z.trans C,C _ _ t,W,C _ _ v,C _ _ T,?_,.nil,);refine .cons (s,rfl,?_,) .nil;have ef:bl (fr a) n (λ_=>false)=a.getD 0 []:=by rw[<-X];exact NH _
  rw[ef];exact(Z.trans C) _ _ S
 refine(l,rfl,(_,SqL.of W,),NC (dI (xs:=b.map V.int)) (Gv a n b H c s gl f e l) ((_,_,gx,),_,_,_,_,_,rfl,) (λk σ H' _ g=>?_) ?_ ?_,);·obtain⟨⟨m,bs,g⟩,_⟩:=g;exact SqL.of g.eo
 .rintro k b1 σ F H7 D2 hk ⟨⟨m,bs,g⟩,u,a0,b0,x',b2,rfl⟩ hx s7 hD hC;have g:=g.same s7;rw[ai]at hk;have Q:b[k]?<*b[k]:=ae hk;rw[ax,Q]at hx;cases hx;generalize b[k]=q at Q;ext;by_cases r:q=0;·rw[decide_eq_true r,if_pos rfl];refine hC _ _ ((m,bs,?_,),_,_,_,_,_,rfl,);rw[dn_zero (by rw[Q,r])];exact g
  .rw[decide_eq_false r,if_neg ao];exact AF I a5 hn X S hq Q r hD g
 .rintro σ F ⟨⟨m,bs,g⟩,u,a0,b0,x',b2,rfl⟩;rw[ai]at g;have J:Grs n (grp a) (dn b b.length):=NQ hq;have a2:dn b b.length=b.filter λq=> !decide (q=0):=by unfold dn;rw[fj]
  have z0:(0:Int)∉dn b b.length:=λz=>by rw[a2]at z;simpa using(eU.mp z).2
  have all:∀p,p<n->grp a p≠0->(grp a p:Int)∈dn b b.length:=λp A h=>by
   rw[a2];refine eU.mpr (Y.mem_iff.mpr ((mem _).mpr ?_),?_,);·unfold gsI;exact aN.mpr (p,bq.mpr A,rfl,)
   .have :¬((grp a p:Int)=0):=by lia
    rw[decide_eq_false this];rfl
  generalize dn b b.length=ds at g J z0 all;have b8:ds.length<=n:=HN J;have b9:=g.ksl;have b7:=g.bsl;have c1:=je g.nk;have b6:=je g.bk.two;unfold Ac;ext;refine(f,m,_,n,rfl,SqL.of g.en,'D',Dt hf J,zM,g.nk,λB a3=>?_,);have t1:aD F (upd F B (.lst (_root_.Q.gz .non (iQ (fr a) n (grp a) ds) m))):=au a3;have U:upd F B (.lst (_root_.Q.gz .non (iQ (fr a) n (grp a) ds) m)) B<*(.lst (_root_.Q.gz .non (iQ (fr a) n (grp a) ds) m)):=aq;have x:=g.same t1;generalize upd F B (.lst (_root_.Q.gz .non (iQ (fr a) n (grp a) ds) m))=H7 at t1 U x⊢;refine⟨e,bs,_,n,rfl,SqL.of x.eb,'D',Oh hf J,brK_len,x.bk.two,λbl P=>(short 'F',λp A=>?_,)⟩;have t2:=au (o:=.lst (_root_.Q.gz .non ((brK (fr a) n (grp a) ds).map _root_.Q.oO) bs)) P;have t3:=au (o:=.tup [.ref B,.ref bl]) A;have I:=x.same (t2.trans t3);refine q _ p I.s (((x.s).trans t2).free A) (B,bl,m,bs,ds,aq,g.s.free a3,x.s.free P,λz=>by(rw[<-z,U]at P;cases P),J,z0,all,I.nk,I.bk,(t2.trans t3) _ _ U,t3 _ _ aq,)
end K32
namespace K32
open R
abbrev nj:List Str:=["self","one","other","names"]
abbrev jM:List Str:=["self","one","other","names"]
abbrev lz:CB:=
  (.cons (.fldX (.var 0) "names" (.var 3))
  .nil)
abbrev lA:CB:=
  (.cons (.fldX (.var 0) "other" (.var 2))
  lz)
abbrev lB:CB:=
  (.cons (.fldX (.var 0) "one" (.var 1))
  lA)
abbrev jR:CB:=
  (.cons (.expr (.base "KinError" (.cons (.var 0) (.cons (.var 1) (.cons (.var 2) (.cons (.var 3) .nil))))))
  lB)
abbrev C9:List Str:=["table","name"]
abbrev uT:List Str:=["table","name"]
abbrev qp:CB:=
  (.cons (.iff (.or (.not (.call "is_name" (.cons (.var 1) .nil))) (.not (.bfn .any (.cons (.comp ["copy"] [1] (.name 0) (.seq (.var 0)) .no (.cmp .Eq (.var 1) (.idx (.var 0) (.con (.int 0))))) .nil))))
  (.cons (.rais "NoName" (.cons (.con (.str "this is no name of a copy of the table")) .nil))
  .nil)
  .nil)
  .nil)
abbrev vg:CB:=
  (.cons (.expr (.call "need_table" (.cons (.var 0) .nil)))
  qp)
abbrev xi:List Str:=["table"]
abbrev oo:List Str:=["table","found"]
abbrev my:CB:=
  (.cons (.iff (.cmp .IsNot (.var 1) (.con .none))
  (.cons (.raisX "Clash" (.cons (.idx (.var 1) (.con (.int 0))) (.cons (.idx (.var 1) (.con (.int 1))) (.cons (.idx (.var 1) (.con (.int 2))) .nil))))
  .nil)
  .nil)
  .nil)
abbrev oR:CB:=
  (.cons (.asg (.name 1) (.call "clash" (.cons (.var 0) .nil)))
  my)
abbrev p_tree:List Str:=["table"]
abbrev MJ:List Str:=["table","copies"]
abbrev Eb:CB:=
  (.cons (.ret (.call "grown" (.cons (.var 1) .nil)))
  .nil)
abbrev Ec:CB:=
  (.cons (.iff (.cmp .Eq (.bfn .len (.cons (.var 1) .nil)) (.con (.int 0)))
  (.cons (.ret (.tup (.cons (.lst .nil) (.cons (.lst .nil) .nil))))
  .nil)
  .nil)
  Eb)
abbrev Ed:CB:=
  (.cons (.expr (.call "refuse_clash" (.cons (.var 1) .nil)))
  Ec)
abbrev Of:CB:=
  (.cons (.asg (.name 1) (.call "table_list" (.cons (.var 0) .nil)))
  Ed)
abbrev Ji:List Str:=["table","name"]
abbrev zN:List Str:=["table","name","found"]
abbrev vd:CB:=
  (.cons (.ret (.idx (.var 2) (.con (.int 0))))
  .nil)
abbrev ve:CB:=
  (.cons (.asgc 2 (.comp ["other","readings"] [1] (.tup (.cons (.name 0) (.cons (.name 1) .nil))) (.seq (.call "table_list" (.cons (.var 0) .nil))) (.yes (.cmp .Eq (.var 0) (.var 2))) (.var 1)))
  vd)
abbrev z9:CB:=
  (.cons (.expr (.call "need_name" (.cons (.var 0) (.cons (.var 1) .nil))))
  ve)
end K32
namespace K32
open L2 R Cp Lt Kc K21 K22 Lm M5
def put2:mQ (aQ "other") y [(aQ "one",x)]=[(aQ "one",x),(aQ "other",y)]:=by unfold mQ mQ;rw[if_neg (by decide+kernel)]
def put3{z:V}:mQ (aQ "names") z [(aQ "one",x),(aQ "other",y)]=[(aQ "one",x),(aQ "other",y),(aQ "names",z)]:=by unfold mQ mQ mQ;rw[if_neg (by decide+kernel),if_neg (by decide+kernel)]
structure Cl(K:ah)(B C:Addr):Prop where
 bs:BsX K B
 s1:StX K C "one"
 s2:StX K C "other"
 s3:StX K C "names"
 ex:∃f,oK K C f bmV "ValueError.__new__"=true
abbrev zh(x y z:V):List (Str×V):=[("one",x),("other",y),("names",z)]
def AQ(C:Addr):Sp:=λvs H Q _=>∃a x y z,vs=[.ref a,x,y,z]/\H a<*(exO a C none)/\∀dd H',dd≠a->H dd=none->H' a<*(exO a C (some dd))->H' dd<*(xdO dd (zh x y z))->(∀b,b≠a->b≠dd->H' b=H b)->Q .non H'
def KC{G:Gam}{B:Addr}(v1:G.val "KinError"<*(.ref B))(n:Cl K B C):
  Sat G K (AQ C) jR jM:=by
 rintro j H Q E ⟨a,x,y,z,rfl,g,q⟩;unfold jR;change wpB G K _ _ _ [some (.ref a),some x,some y,some z] H;ext;obtain⟨f,hf⟩:=n.ex;refine(B,v1,n.bs,?_,);refine(_,rfl,_,rfl,_,rfl,_,rfl,a,C,f,[x,y,z],rfl,g,short (by show 3<=40;decide),hf,?_,);unfold lB;refine(_,rfl,_,rfl,a,C,rfl,n.s1,.inl (g,λc h=>?_,),);have ne:c≠a:=λe=>by rw[e,g]at h;cases h
 unfold lA;refine⟨_,rfl,_,rfl,a,C,rfl,n.s2,.inr (c,_,aq,by rw[aV ne];exact aq,'F',?_,)⟩;unfold lz;rw[put2];refine⟨_,rfl,_,rfl,a,C,rfl,n.s3,.inr (c,_,by rw[aV (bK ne)];exact aq,aq,'F',?_,)⟩;rw[put3];refine q c _ ne h ?_ aq λb i d=>?_;·rw[aV (bK ne),aV (bK ne)];exact aq
 .rw[aV d,aV d,aV i,aV d]
def wQ(C CC:Addr)(T:Tb):Sp:=λvs H Q E=>∃x,vs=[x]/\Kn4 H x/\Tab T H/\(bC H x=false->∀H',aD H H'->E (.ref C) none H')/\
 (bC H x=true->(NoC (rowsOf H x) (count H x)->∀H',Gr T H H'->Q .non H')/\
  ∀H' (i j:Nat)(l dd:Addr),Gr T H H'->nH (rowsOf H x) (count H x) i j->H' l<*(.tup ((KP.map (mh (rowsOf H x) i j)).map V.str))->H' dd<*(xdO dd (zh (.int i) (.int j) (.ref l)))->E (.ref CC) (some dd) H')
def IE{G:Gam}{T:Tb}(w:G.fn "clash" 1<*(vQ C T,[]))(y:G.ini "Clash" 3<*(CC,AQ CC,[])):
  Sat G K (wQ C CC T) oR oo:=by
 rintro O H Q E ⟨x,rfl,B,tb,I,J⟩;unfold oR;change wpB G K _ _ _ [some x,none] H;ext;refine(_,_,w,x,rfl,B,tb,λe d v gr N=>?_,I,);obtain⟨M,L⟩:=J e;unfold my;ext;rcases N with⟨rfl,z⟩ |⟨i,j,a,l,rfl,t,f,s⟩;·rw[if_neg 'F'];exact M z d gr
 .rw[if_pos 'F'];refine(CC,_,_,y,?_,);refine(_,rfl,.inr (.inl (a,_,0,_,rfl,rfl,SqT.of f,rfl,?_,)),);refine(_,rfl,.inr (.inl (a,_,1,_,rfl,rfl,SqT.of f,rfl,?_,)),);refine(_,rfl,.inr (.inl (a,_,2,_,rfl,rfl,SqT.of f,rfl,?_,)),);refine(short (by show 3<=40;decide),λp D=>(p,_,_,_,rfl,aq,λc n ne k o q r=>(rfl,some c,o,?_,),),);have A:d c=none:=by rw[aV ne]at k;exact k
  have m:aD d (del n p):=λb u g=>by have h:b≠p:=bL g D;have F:b≠c:=bL g A;rw[fS h,r b h F,aV h];exact g
  exact L _ i j l c (gr.trans (Gr.of m)) t (m _ _ s) (by rw[fS ne];exact q)
def CW(e:bC H x=true)(m:H' l<*(.lst zs))(h:zs.map (cd H')=rowsOf H x)(t:bC H' (.ref l)=true):rowsOf H' (.ref l)=rowsOf H x/\srt H' (.ref l)=zs:=by
 have i:cS (H' l)<*zs:=by rw[m];rfl
 obtain⟨y,C,o,j,z,A,b,B⟩:=cM t;cases o;rw[i]at j;cases j;obtain⟨a,ys,rfl,p,u,v,g,w⟩:=cM e;have c:∀l:List V,l.filter (λ_=>true)=l:=λl=>OT.mpr λ_ _=>rfl;have r:(_root_.Q.sortBy V.non (ys.map (aK H)) ys).map (aK H)=_root_.Q.sortBy ("":Str) (ys.map (aK H)) (ys.map (aK H)):=by
  have :=_root_.Q.uQ V.non (aK H) (λ_=>true) g
  rwa [c,c]at this
 have s:(_root_.Q.sortBy V.non (zs.map (aK H')) zs).map (aK H')=_root_.Q.sortBy ("":Str) (zs.map (aK H')) (zs.map (aK H')):=by
  have :=_root_.Q.uQ V.non (aK H') (λ_=>true) b
  rwa [c,c]at this
 have n:zs.map (aK H')=_root_.Q.sortBy ("":Str) (ys.map (aK H)) (ys.map (aK H)):=by rw[<-r,<-jZ p];have :=congrArg (List.map nQ) h;unfold rowsOf at this;rw[bT,bT]at this;exact this
 have q:=_root_.Q.dY V.non b (ys:=zs) 'F';have k:_root_.Q.sortBy V.non (zs.map (aK H')) zs=zs:=by refine xK (Jp b) (λa d=>q.mem_iff.mp d) (λa d=>d) ?_;rw[s];refine _root_.Q.lK (_root_.Q.dY ("":Str) b rfl) (_root_.Q.jq b) ?_;rw[n];exact _root_.Q.jq g
 have f:srt H' (.ref l)=zs:=by rw[jZ i,k]
 refine(?_,f,);show(srt H' (.ref l)).map (cd H')=_;rw[f];exact h
abbrev intOf:V->Int
 |.int i=>i
 |_=>0
def pK(h:∀z∈zs,bF z=true):(zs.map intOf).map V.int=zs/\∀x∈zs.map intOf,x=0\/x=1:=by
 constructor
 .rw[bT]
  conv =>rhs;rw[<-Kx zs]
  refine cu λz a=>?_;rcases jr (h z a)with e|e<;>rw[e]<;>rfl
 .intro x b;obtain⟨z,a,rfl⟩:=aN.mp b;rcases jr (h z a)with e|e<;>rw[e];·exact .inl rfl
  .exact .inr rfl
abbrev rI(R:List (Str×List V)):List (List Int):=R.map λp=>p.2.map intOf
def cps_of(d:H l<*(.lst zs))(w:bC H (.ref l)=true):Cps H l zs (count H (.ref l)) (rI (zs.map (cd H))):=by
 have g:cS (H l)<*zs:=by rw[d];rfl
 obtain⟨z,B,q,m,x,c,A,n⟩:=cM w;cases q;rw[g]at m;cases m;refine(d,x,by simp[rI],?_,λi y e=>?_,λr v=>?_,)
 .cases zs with
  |nil=>show(match cS (H l)with |some (y::_)=>bE H y|_=>0)<=60;rw[g];exact a7 _
  |cons y r=>rw[<-n y (.head _)];obtain⟨_,_,_,_,_,_,_,_,s,_,_,t⟩:=iy (c y (.head _));rw[t];exact s
 .obtain⟨b,r,rfl,h,j,k,a⟩:=iV (c y (aH e));refine(b,_,r,rfl,h,?_,);have o:(rI (zs.map (cd H))).getD i []=(me H (.ref b)).map intOf:=by unfold rI;rw[ag,ax,ax,e];rfl
  rw[o,(pK a).1];exact j
 .obtain⟨p,u,rfl⟩:=aN.mp v;obtain⟨y,f,rfl⟩:=aN.mp u;obtain⟨b,r,rfl,h,j,k,a⟩:=iV (c y f);refine(?_,(pK a).2,);rw[ai,<-n _ f];exact k
def gr_free{T:Tb}(g:Gr T H H')(t:Tab T H')(h:H' p=none):H p=none:=by
 cases e:H p with
 |none=>rfl
 |some o=>
  have a:p≠T.P:=λz=>by rw[z]at h;rcases t with t|⟨_,_,_,_,_,t,_⟩<;>(rw[h]at t;cases t)
  rw[g.keep p o a e]at h;cases h
def Cps.gr{T:Tb}(d:Cps H c ys n rows)(g:Gr T H H')(a:Tab T H):Cps H' c ys n rows:=
 {d with ec:=g.lst a d.ec,at_:=λi y e=>let⟨b,z,r,h1,h2,h3⟩:=d.at_ i y e;(b,z,r,h1,g.i7 a h2,g.i7 a h3,)}
def yG.old{a:Hp}(g:yG rows n H H' p)(f:∀p,H p=none->a p=none):yG rows n a H' p:=by obtain⟨i,bl,h,bs,j,b,c,d,e⟩:=g;exact(i,bl,h,bs,j,b,f _ c,f _ d,e,)
def TreeK(R:List (Str×List V))(n:Nat)(H H':Hp)(p:Addr):Prop:=
 (R=[]/\∃a b,H' p<*(.tup [.ref a,.ref b])/\H a=none/\H b=none/\a≠b/\H' a<*(.lst [])/\H' b<*(.lst []))\/(R≠[]/\yG (rI R) n H H' p)
def wO(C CC:Addr)(T:Tb):Sp:=λvs H Q E=>∃x,vs=[x]/\Kn4 H x/\Tab T H/\(bC H x=false->∀H',aD H H'->E (.ref C) none H')/\
 (bC H x=true->(NoC (rowsOf H x) (count H x)->∀H' p,Gr T H H'->H p=none->TreeK (rowsOf H x) (count H x) H H' p->Q (.ref p) H')/\
  ∀H' (i j:Nat)(l dd:Addr),Gr T H H'->nH (rowsOf H x) (count H x) i j->H' l<*(.tup ((KP.map (mh (rowsOf H x) i j)).map V.str))->H' dd<*(xdO dd (zh (.int i) (.int j) (.ref l)))->E (.ref CC) (some dd) H')
def wp_tree{G:Gam}{T:Tb}(P:G.fn "table_list" 1<*(qI C T,[]))(Q:G.fn "refuse_clash" 1<*(wQ C CC T,[]))(S:G.fn "grown" 1<*(wU,[])):
  Sat G K (wO C CC T) Of MJ:=by
 rintro vs H a2 a1 ⟨x,rfl,W,tb,Y,Z⟩;unfold Of;change wpB G K _ _ _ [some x,none] H;ext;refine(_,_,P,x,rfl,W,tb,λe H1 l r gr hl t M=>?_,Y,);obtain⟨m,w⟩:=Z e;obtain⟨kn,E,g,y⟩:=yf e t M;obtain⟨q,_⟩:=CW e t y E;have cps:=cps_of t E;rw[g,y]at cps;have u:r.length=(rowsOf H x).length:=by rw[<-y,ai]
 have D:=gr.tab tb;generalize rowsOf H x=R at m w q cps u;generalize count H x=n at m w g cps;unfold Ed;ext;refine(_,_,Q,.ref l,rfl,kn,D,λz=>by(rw[E]at z;cases z),λ_=>(λv s c=>?_,λs i j X N c I F O=>?_,),)
 .rw[q,g]at v;have cps:=cps.gr c D;have a0:=c.tab D;have d:∀p,s p=none->H p=none:=λp=>gr_free (gr.trans c) a0;unfold Ec;ext;refine Or.inl (l,r,rfl,.inl (SqL.of cps.ec),?_,);refine lq.mpr (_,rfl,?_,);by_cases hz:r=[];·have V:R=[]:=bh.mp (by rw[<-u,hz];rfl);rw[hz,if_pos 'F'];refine⟨short 'F',λa J=>⟨short 'F',λb h=>(short 'F',λp k=>?_,)⟩⟩;have A:=au (o:=.lst []) J;have B:=au (o:=.lst []) h;have f:=au (o:=.tup [.ref a,.ref b]) k;refine m v _ p ((gr.trans c).trans (Gr.of (A.trans (B.trans f)))) (d _ ((A.trans B).free k)) (.inl (V,a,b,aq,d _ J,d _ (A.free h),λz=>?_,(B.trans f) _ _ aq,f _ _ aq,));rw[<-z,aq]at h;cases h
  .rw[if_neg (λz=>hz (bh.mp (by have :=W0 z;lia)))];unfold Eb;ext;refine(_,_,S,l,r,n,rI R,rfl,cps,hz,λL p f k U=>?_,);exact m v L p ((gr.trans c).trans (Gr.of f)) (d _ k) (.inr (λz=>hz (bh.mp (by rw[u,z];rfl)),U.old d,))
 .rw[q,g]at I;rw[q]at F;exact w s i j X N (gr.trans c) I F O
def jA(H:Hp)(x y:V):Prop:=∃(a:Addr)(ys:List V)(z:Str)(c:V),x=.ref a/\cS (H a)<*ys/\y=.str z/\c∈ys/\aK H c=z
def rG(C CN:Addr):Sp:=λvs H Q E=>∃x y,vs=[x,y]/\Kn4 H x/\Known H y/\(∀z,y=.str z->z.length<=20000)/\(bC H x=false->∀H',aD H H'->E (.ref C) none H')/\
 (bC H x=true->(jA H x y->∀H',aD H H'->Q .non H')/\(¬jA H x y->∀H',aD H H'->E (.ref CN) none H'))
def IF{G:Gam}(M:G.fn "need_table" 1<*(wR C,[]))(N:G.fn "is_name" 1<*(spN,[]))(v1:G.val "NoName"<*(.ref CN))(n:XC K CN):
  Sat G K (rG C CN) vg uT:=by
 rintro s H a3 a2 ⟨x,y,rfl,Q,Y,U,Z,q2⟩;unfold vg;change wpB G K _ _ _ [some x,some y] H;ext;refine(_,_,M,x,rfl,Q,λe H1 D=>?_,Z,);obtain⟨qy,B⟩:=q2 e;obtain⟨a,g,rfl,m,O,A,h4,h5⟩:=cM e;unfold qp;ext;refine(_,_,N,y,rfl,(Y.same D).1,U,λp f=>(_,rfl,?_,),);have f:aD H p:=D.trans f;cases hn:isName y with
 |false=>
  rw[if_pos 'F'];have S:¬jA H (.ref a) y:=by rintro⟨I,a1,z,c,q,j,rfl,d,r⟩;cases q;rw[m]at j;cases j;have :=uj (A c d);rw[r]at this;rw[show isName (V.str z)=eJ z from rfl,this]at hn;cases hn
  exact(CN,v1,n.1,n.2,short 'F',B S p f,)
 |true=>
  rw[if_neg 'F'];obtain⟨z,rfl⟩:∃z,y=.str z:=by
   cases y with
   |str z=>exact(z,rfl,)
   |_=>cases hn
  have w:SqL K p a g:=f.seq (jz m);refine cQ (cD rfl w (cW dI (short O) (λt k=>k.seq w) (λi a0 _=>∃c,g[i]?<*c/\a0=.bl (decide (z=aK H c))) (λ_ _ _ _ _ h=>h) (λF=>∃u,F=[u,some (.str z)]) (none,rfl,) ?_ ?_));·rintro i c F t a4 hi ⟨u,rfl⟩ k d X;obtain⟨b,a6,rfl,W,k2,k3,k4⟩:=iV (A c (aH d));ext;refine .inr (.inl (b,_,0,_,rfl,rfl,SqT.of (k _ _ (f _ _ W)),rfl,?_,));ext;exact X _ _ _ (_,rfl,) (aD.refl _) (_,d,rfl,)
  .intro s t l a5 P k R;have L:s=(g.map λc=>decide (z=aK H c)).map V.bl:=by
    apply jv
    intro i;rw[ax,ax];by_cases hi:i<s.length;·obtain⟨c,d,T⟩:=P i _ (ae hi);rw[ae hi,T,d];rfl
    .rw[bV 'D',bV 'D'];rfl
   rw[L];have E:=f.trans (k.trans (au (o:=.lst ((g.map λc=>decide (z=aK H c)).map V.bl)) R));refine(l,_,rfl,SqL.of aq,_,rfl,?_,);have v:(g.map λc=>decide (z=aK H c)).any id=true↔jA H (.ref a) (.str z):=by
    rw[pV,bQ];constructor;·rintro⟨c,d,e⟩;exact(a,g,z,c,rfl,m,rfl,d,(W0 e).symm,)
    .rintro⟨I,a1,z',c,q,j,J,d,r⟩;cases q;rw[m]at j;cases j;cases J;exact(c,d,decide_eq_true r.symm,)
   by_cases hh:jA H (.ref a) (.str z);·rw[v.mpr hh,if_neg 'F'];exact qy hh _ E
   .rw[wy.mpr λz=>hh (v.mp z),if_pos 'F'];exact(CN,v1,n.1,n.2,short 'F',B hh _ E,)
abbrev rdV(H:Hp):V->V
 |.ref a=>match cN (H a)with
  |some [_,r]=>r
  |_=>.non
 |_=>.non
def LN{r:V}(h:H b<*(.tup [x,r])):rdV H (.ref b)=r:=by show(match cN (H b)with |some [_,r]=>r|_=>V.non)=r;rw[h];rfl
def AM(C CN:Addr)(T:Tb):Sp:=λvs H Q E=>∃x y,vs=[x,y]/\Kn4 H x/\Known H y/\(∀z,y=.str z->z.length<=20000)/\Tab T H/\(bC H x=false->∀H',aD H H'->E (.ref C) none H')/\
 (bC H x=true->(¬jA H x y->∀H',aD H H'->E (.ref CN) none H')/\
  (jA H x y->∀(a:Addr)(ys:List V)(c:V) H' r,x=.ref a->cS (H a)<*ys->c∈ys->y=.str (aK H c)->Gr T H H'->H' r<*(.tup (me H c))->Q (.ref r) H'))
def EM{G:Gam}{T:Tb}(g1:G.fn "need_name" 2<*(rG C CN,[]))(g2:G.fn "table_list" 1<*(qI C T,[])):
  Sat G K (AM C CN T) z9 zN:=by
 rintro vs H b5 b4 ⟨x,y,rfl,M,ky,a8,tb,q1,X⟩;unfold z9;change wpB G K _ _ _ [some x,some y,none] H;ext;refine(_,_,g1,x,y,rfl,M,ky,a8,q1,λe=>(λS s q=>?_,(X e).1,),);have b2:=(X e).2 S;obtain⟨a,m,rfl,n,J,L,h4,h5⟩:=cM e;obtain⟨a',b3,z,c0,D,A,rfl,a3,e4⟩:=S;cases D;rw[n]at A;cases A;have Q:bC s (.ref a)=true:=by rw[i8 M q];exact e
 unfold ve;ext;refine cQ ?_;ext;refine⟨_,_,g2,_,rfl,.ref a,rfl,M.same q,(Gr.of q).tab tb,λ_ d b0 l gr hl R w=>.inl (b0,rfl,(l,SqL.of R,),?_,),λY=>by(rw[Q]at Y;cases Y)⟩;have a1:Gr T H d:=(Gr.of q).trans gr;have a2:cS (s a)<*m:=by
  obtain⟨a',b3,ea,f,_⟩:=cM Q;cases ea;have hs:=q.seq (K:=K) (jz n);cases eh:H a with
  |none=>rw[eh]at n;cases n
  |some o=>rw[q _ _ eh,<-eh];exact n
 have F:∀c∈m,aK s c=aK H c/\me s c=me H c:=λc k=>by obtain⟨b,r,rfl,f,g,_⟩:=iV (L c k);have D:=i9 f g;have A:=i9 (q _ _ f) (q _ _ g);exact(congrArg nQ (A.trans D.symm),congrArg Prod.snd (A.trans D.symm),)
 have a4:m.map (aK s)=m.map (aK H):=cu λc k=>(F c k).1;have E:(srt s (.ref a)).Perm m:=by rw[jZ a2];exact _root_.Q.dY V.non (by rw[a4];exact h4) 'F'
 generalize srt s (.ref a)=us at w E;have a9:l.length<=40:=by rw[w.1,E.length_eq];exact J
 have O:∀(i:Nat) y,l[i]?<*y->∃b r c,y=.ref b/\c∈m/\us[i]?<*c/\d b<*(.tup [.str (aK H c),.ref r])/\d r<*(.tup (me H c)):=λi y p=>by
  obtain⟨b,r,rfl,f,g⟩:=w.2 i y p;have hi:i<us.length:=by rw[<-w.1];exact(aF.mp p).1
  have B:us.getD i .non=us[i]:=by rw[ag,ae hi];rfl
  have k:us[i]∈m:=E.mem_iff.mp (aR hi);rw[B,(F _ k).1]at f;rw[B,(F _ k).2]at g;exact(b,r,us[i],rfl,k,ae hi,f,g,)
 have P:∀y∈l,∃b r c,y=.ref b/\c∈m/\d b<*(.tup [.str (aK H c),.ref r])/\d r<*(.tup (me H c)):=λy p=>by obtain⟨i,hi⟩:=bN.mp p;obtain⟨b,r,c,n,J,_,L⟩:=O i y hi;exact(b,r,c,n,J,L,)
 refine z6 dI (short a9) (λN t=>t.seq (SqL.of R)) (λy=>decide (aK d y=z)) (rdV d) (λZ=>∃u v,Z=[u,v,some (.str z)]) (none,none,rfl,) ?_ ?_
 .rintro y Z N Rt Rf p ⟨u,v,rfl⟩ t kt kf;obtain⟨b,r,c,rfl,k,f,g⟩:=P y p;refine(b,_,rfl,SqT.of (t _ _ f),rfl,_,_,rfl,_,_,rfl,rfl,?_,);ext;have I:aK d (.ref b)=aK H c:=congrArg nQ (i9 f g);have er:rdV d (.ref b)=.ref r:=LN f;rw[<-I,<-er];by_cases h:aK d (.ref b)=z;·rw[decide_eq_true h,if_pos rfl];exact kt _ _ (_,_,rfl,) (aD.refl _) (decide_eq_true h)
  .rw[decide_eq_false h,if_neg ao];exact kf _ _ (_,_,rfl,) (aD.refl _) (decide_eq_false h)
 .intro N b1 t W;have ex:∃y∈l,aK d y=z:=by
   obtain⟨i,hi,e5⟩:=dH.mp (E.mem_iff.mpr a3);have U:i<l.length:=by rw[w.1];exact hi
   obtain⟨b,r,c,e6,k,B,f,g⟩:=O i l[i] (ae U);refine(l[i],aR U,?_,);rw[ae hi,e5]at B;cases B;rw[e6,show aK d (.ref b)=aK H c0 from congrArg nQ (i9 f g),e4]
  obtain⟨y0,a5,a0⟩:=ex;cases hf:l.filter (λy=>decide (aK d y=z))with
  |nil=>have :y0∈l.filter λy=>decide (aK d y=z):=eU.mpr (a5,decide_eq_true a0,);rw[hf]at this;cases this
  |cons y rest=>
   have p:y∈l.filter λy=>decide (aK d y=z):=by rw[hf];exact .head _
   obtain⟨a6,a7⟩:=eU.mp p;obtain⟨b,r,c,rfl,k,f,g⟩:=P y a6;rw[bG,LN f];unfold vd;ext;refine .inl (b1,_,0,_,rfl,rfl,SqL.of aq,cG (j:=0) rfl,?_,);have I:aK d (.ref b)=aK H c:=congrArg nQ (i9 f g);exact b2 a m c _ r rfl n k (by rw[<-I,W0 a7]) (a1.trans (Gr.of (t.trans (au W)))) ((t.trans (au W)) _ _ g)
end K32
namespace R
open L2
def Mk(G:Gam)(K:ah)(E:XS)(σ:L2.St)(H:Hp)(e:CE)(b:V->Hp->Prop):Prop:=∀H',aD H H'->∀Q:VK,(∀v a,aD H' a->b v a->Q v a)->wpE G K E e σ H' Q
def MkL(G:Gam)(K:ah)(E:XS)(σ:L2.St)(H:Hp)(es:CL)(b:List V->Hp->Prop):Prop:=∀H',aD H H'->∀Q:List V->Hp->Prop,(∀v a,aD H' a->b v a->Q v a)->wpL G K E es σ H' Q
def gJ{α:Type}(a:α->Hp->Prop):Prop:=∀v H H',aD H H'->a v H->a v H'
def yF(n:Nat)(a:V->Hp->Prop)(v:V)(H:Hp):Prop:=∃p vs,v=.ref p/\H p<*(.lst vs)/\vs.length=n/\∀x∈vs,a x H
def Lst(a:List V->Hp->Prop)(v:V)(H:Hp):Prop:=∃p vs,v=.ref p/\H p<*(.lst vs)/\a vs H
def Tup(a:List V->Hp->Prop)(v:V)(H:Hp):Prop:=∃p vs,v=.ref p/\H p<*(.tup vs)/\a vs H
def Two(c d:V->Hp->Prop)(vs:List V)(H:Hp):Prop:=∃a b,vs=[a,b]/\c a H/\d b H
def One(b:V->Hp->Prop)(vs:List V)(H:Hp):Prop:=∃a,vs=[a]/\b a H
def Is(v:V):V->Hp->Prop:=λx _=>x=v
def hV:gJ (Is v):=λ_ _ _ _ h=>h
def tZ{a:V->Hp->Prop}(h:gJ a):gJ (yF n a):=λv H i s ⟨p,g,b,c,d,e⟩=>(p,g,b,s _ _ c,d,λx f=>h _ _ _ s (e x f),)
def rF{b:V->Hp->Prop}(h:gJ b):gJ (One b):=λv H c s ⟨a,e,r⟩=>(a,e,h _ _ _ s r,)
def rE{c d:V->Hp->Prop}(h:gJ c)(h':gJ d):gJ (Two c d):=λv H g s ⟨a,b,e,r,f⟩=>(a,b,e,h _ _ _ s r,h' _ _ _ s f,)
def CK:gJ (λ(vs:List V)(_:Hp)=>vs=[]):=λ_ _ _ _ h=>h
section
variable {G:Gam}{E:XS}
def Mk.imp{e:CE}{b c:V->Hp->Prop}(h:Mk G K E σ H e b)(f:∀v H',aD H H'->b v H'->c v H'):Mk G K E σ H e c:=λH' s Q q=>h H' s Q λv a d r=>q v a d (f v a (s.trans d) r)
def dy{c:Const}:Mk G K E σ H (.con c) (Is (cv c)):=λa s Q q=>q _ a (aD.refl _) rfl
def gO(h:σ[i]?<*(some v)):Mk G K E σ H (.var i) (Is v):=λa s Q q=>(v,h,q _ a (aD.refl _) rfl,)
def lj:MkL G K E σ H .nil (λvs _=>vs=[]):=λa s Q q=>q _ a (aD.refl _) rfl
def mn{e:CE}{c:CL}{a:V->Hp->Prop}{b:List V->Hp->Prop}(i:Mk G K E σ H e a)(m:gJ a)(j:MkL G K E σ H c b):MkL G K E σ H (.cons e c) (λvs H'=>∃v r,vs=v::r/\a v H'/\b r H'):=λH' s Q q=>
 i H' s _ λv g d k=>j g (s.trans d) _ λvs h f l=>q _ h (d.trans f) (v,vs,rfl,m _ _ _ f k,l,)
def sk{e:CE}{a:V->Hp->Prop}(h:Mk G K E σ H e a)(i:gJ a):MkL G K E σ H (.cons e .nil) (One a):=λb s Q q=>
 mn h i lj b s Q λj c t ⟨v,r,d,f,g⟩=>q _ c t (v,by rw[d,g],f,)
def r9{e c:CE}{a b:V->Hp->Prop}(k:Mk G K E σ H e a)(m:gJ a)(l:Mk G K E σ H c b)(n:gJ b):MkL G K E σ H (.cons e (.cons c .nil)) (Two a b):=λd s Q q=>
 mn k m (sk l n) d s Q λo f t ⟨v,r,g,h,w,i,j⟩=>q _ f t (v,w,by rw[g,i],h,j,)
def oz{b:CL}{a:List V->Hp->Prop}(h:MkL G K E σ H b a)(e:gJ a)(d:∀vs H',a vs H'->vs.length<=1000):Mk G K E σ H (.lst b) (Lst a):=λH' s Q q=>
 h H' s _ λvs f t r=>(aO (d _ _ r) 'E',λp c=>q _ _ (t.trans (au c)) (p,vs,rfl,aq,e _ _ _ (au c) r,),)
def uo{b:CL}{a:List V->Hp->Prop}(h:MkL G K E σ H b a)(e:gJ a)(d:∀vs H',a vs H'->vs.length<=1000):Mk G K E σ H (.tup b) (Tup a):=λH' s Q q=>
 h H' s _ λvs f t r=>(aO (d _ _ r) 'E',λp c=>q _ _ (t.trans (au c)) (p,vs,rfl,aq,e _ _ _ (au c) r,),)
def len_one{b:V->Hp->Prop}:∀vs H',One b vs H'->vs.length<=1000:=λvs H' ⟨a,e,_⟩=>by rw[e];exact(by decide:1<=1000)
def vX{c d:V->Hp->Prop}:∀vs H',Two c d vs H'->vs.length<=1000:=λvs H' ⟨a,b,e,_⟩=>by rw[e];exact(by decide:2<=1000)
def HG:∀(vs:List V)(H':Hp),vs=[]->vs.length<=1000:=λvs H' e=>by rw[e];exact(by decide:0<=1000)
abbrev J7(P:CE->Prop):CL->Prop
 |.nil=>True
 |.cons e es=>P e/\J7 P es
theorem HA{a:V->Hp->Prop}(c:gJ a):∀{es:CL},J7 (λe=>Mk G K E σ H e a) es->MkL G K E σ H es (λvs H'=>vs.length=es.len/\∀v∈vs,a v H')
 |.nil,_=>λH' s Q q=>q _ H' (aD.refl _) ⟨rfl,λ_ z=>nomatch z⟩
 |.cons e es,h=>λH' s Q q=>mn h.1 c (HA c h.2) H' s Q λvs d t ⟨v,r,b,f,g,i⟩=>q _ d t ⟨by rw[b,aU,g];rfl,λx hx=>by
   rw[b]at hx;rcases aA.mp hx with rfl|hx;·exact f
   .exact i x hx⟩
def qM{c:V->Hp->Prop}{d:CL}(i:gJ c)(g:d.len=n)(q:n<=1000)(h:J7 (λe=>Mk G K E σ H e c) d):Mk G K E σ H (.lst d) (yF n c):=
 (oz (HA i h) (λf u w s ⟨a,b⟩=>(a,λv t=>i _ _ _ s (b v t),)) λf j r=>by rw[r.1,g];exact q).imp λv j _ ⟨p,f,k,l,m,o⟩=>(p,f,k,l,by rw[m,g],o,)
def Br{a b:CE}{c:V->Hp->Prop}(f:gJ c)(C:Mk G K E σ H a (yF m c))(D:Mk G K E σ H b (yF n c))(d:m+n<=1000):Mk G K E σ H (.bin .Add a b) (yF (m+n) c):=λj s Q q=>
 C j s _ λv k g ⟨p,h,y,z,A,B⟩=>D k (s.trans g) _ λw I e ⟨F,i,o,r,t,u⟩=>.inr (.inr (.inl ⟨p,F,h,i,y,o,e _ _ z,r,aO (by lia:_<=1000) 'E',λl d=>by
  refine q _ _ (g.trans (e.trans (au d))) (l,h++i,rfl,aq,by rw[bu,A,t],λx hx=>?_,);rcases bz.mp hx with hx|hx;·exact f _ _ _ (e.trans (au d)) (B x hx)
  .exact f _ _ _ (au d) (u x hx)⟩))
def FI{a i:CE}{k:Int}{b:V->Hp->Prop}(x:gJ b)(t:Mk G K E σ H a (yF n b))(u:Mk G K E σ H i (Is (.int k)))(h0:0<=k)(A:k<n):Mk G K E σ H (.idx a i) b:=λg s Q q=>
 t g s _ λv h f ⟨p,d,l,m,z,o⟩=>u h (s.trans f) _ λw y c r=>by
  obtain⟨j,rfl⟩:=dJ h0;have e:j<d.length:=by lia
  exact .inl (p,d,j,d[j],l,r,SqL.of (c _ _ m),cG (ae e),q _ _ (f.trans c) (x _ _ _ c (o _ (aR e))),)
end
end R
variable {G:R.Gam}
namespace K02
open L2 R Cp Lt Lm
def vY(h:Known H (.ref p)):Kn1 H (.ref p):=⟨h,λz e=>nomatch e⟩
def kn2_tup(h:H p<*(.tup xs))(b:xs.length<=20000)(c:∀y∈xs,Kn1 H y):Kn2 H (.ref p):=⟨vY (qO h),λa d e g=>by injection e with e;subst e;rw[h]at g;cases g;exact(b,c,)⟩
def kn3_tup(h:H p<*(.tup xs))(b:xs.length<=20000)(c:∀y∈xs,Kn2 H y):Kn3 H (.ref p):=⟨vY (qO h),λa d e g=>by injection e with e;subst e;rw[h]at g;cases g;exact(b,c,)⟩
def kn4_lst(h:H p<*(.lst xs))(b:xs.length<=20000)(c:∀y∈xs,Kn3 H y):Kn4 H (.ref p):=⟨vY (uu h),λa d e g=>by injection e with e;subst e;rw[h]at g;cases g;exact(b,c,)⟩
abbrev Atom:V->Prop
 |.int _=>True|.bl _=>True|.non=>True|.str z=>z.length<=20000 |_=>False
def sA(h:Atom v):Kn1 H v:=by
 cases v with
 |int i=>exact⟨By,λz e=>nomatch e⟩
 |bl i=>exact⟨kn_bl,λz e=>nomatch e⟩
 |non=>exact⟨FV,λz e=>nomatch e⟩
 |str z=>exact(xS,λy e=>by injection e with e;subst e;exact h,)
 |_=>exact h.elim
def yE(h:Atom v)(e:v=.ref a):False:=by subst e;exact h
def M9(h:Atom v):Kn2 H v:=(sA h,λa b e=>(yE h e).elim,)
def M2(h:Atom v):Kn3 H v:=(sA h,λa b e=>(yE h e).elim,)
def M1(h:Atom v):Kn4 H v:=(sA h,λa b e=>(yE h e).elim,)
def Bad(v:V)(H:Hp):Prop:=Kn4 H v/\bC H v=false
def NoC(v:V)(H:Hp):Prop:=Kn3 H v/\cP H v=false
def CH:gJ NoC:=λv H c s ⟨a,b⟩=>⟨a.same s,by rw[pN a s];exact b⟩
def Ol(h:Atom v):Bad v H:=⟨M1 h,by cases v<;>first |rfl|exact h.elim⟩
def bad_tup(h:H p<*(.tup xs)):Bad (.ref p) H:=by
 refine((vY (qO h),λa b e g=>?_,),?_,);·injection e with e;subst e;rw[h]at g;cases g
 .show(match cS (H p)with |some xs=>_|none=>_)=false;rw[h];rfl
def B0(h:H p<*(.lst xs))(k:xs.length<=20000)(c:∀y∈xs,Kn3 H y)(n:xs.length<=40->(∀y∈xs,cP H y=true)->(xs.map (aK H)).Nodup->(∀y∈xs,∀z∈xs,bE H y=bE H z)->False):Bad (.ref p) H:=by
 refine(kn4_lst h k c,?_,);cases e:bC H (.ref p)with
 |false=>rfl
 |true=>
  obtain⟨a,m,b,d,g,i,j,f⟩:=cM e;injection b with b
  subst b;rw[h]at d;cases d;exact(n g i j λy c z l=>by rw[f y c,f z l]).elim
def bad_one(h:Lst (One NoC) v H):Bad v H:=by obtain⟨p,b,rfl,e,x,rfl,k,n⟩:=h;refine B0 e 'F' (λy a=>by rw[aI.mp a];exact k) λ_ c _ _=>?_;rw[c x 'F']at n;cases n
def noc_tup(h:H p<*(.tup xs))(c:xs.length<=20000)(d:∀y∈xs,Kn2 H y)(n:∀a b,xs=[a,b]->isName a=false\/bZ H b=false):NoC (.ref p) H:=by
 refine(kn3_tup h c d,?_,);show(match cN (H p)with |some [n,r]=>isName n&&bZ H r|_=>false)=false;rw[h];show(match some xs with |some [n,r]=>isName n&&bZ H r|_=>false)=false
 match xs,n with
 | [],_=>rfl
 | [_],_=>rfl
 | [a,b],n=>
  rcases n a b rfl with z|z;·show(isName a&&bZ H b)=false;rw[z];rfl
  .show(isName a&&bZ H b)=false;rw[z,dP]
 |_::_::_::_,_=>rfl
def are_tup(h:H p<*(.tup xs))(n:xs.all bF=false):bZ H (.ref p)=false:=by show(match cN (H p)with |some xs=>decide (xs.length<=60)&&xs.all bF|none=>false)=false;rw[h];show(decide (xs.length<=60)&&xs.all bF)=false;rw[n,dP]
section
variable {G:Gam}{E:XS}
def mk_bad{c:Const}(h:Atom (cv c)):Mk G K E σ H (.con c) Bad:=dy.imp λv _ _ e=>by rw[show v=cv c from e];exact Ol h
def mk_lone{e:CE}(h:Mk G K E σ H e NoC):Mk G K E σ H (.lst (.cons e .nil)) Bad:=(oz (sk h CH) (rF CH) len_one).imp λ_ _ _=>bad_one
def sv{a:V->Hp->Prop}(c:gJ a)(h:σ[i]?<*(some v))(r:a v H):Mk G K E σ H (.var i) a:=λb s Q q=>(v,h,q _ b (aD.refl _) (c _ _ _ s r),)
end
def GY:gJ (λ(vs:List V)(_:Hp)=>vs=xs):=λ_ _ _ _ h=>h
def mf{r:V}(h:H p<*(.tup [.str z,r])):aK H (.ref p)=z:=by show(match cN (H p)with |some (.str z::_)=>z|_=>("":Str))=z;rw[h];rfl
def Ia{z:V}(h:H p<*(.tup [z,.ref r]))(h':H r<*(.tup xs)):bE H (.ref p)=xs.length:=by show(match cN (H p)with |some [_,.ref b]=>(cN (H b)).elim 0 eP|_=>0)=xs.length;rw[h];show(cN (H r)).elim 0 eP=xs.length;rw[h'];rfl
end K02
namespace K23
open L2 R Cp Lt Kc K21 K02
section
variable {G:Gam}{E:XS}{t r:Addr}{nf:Nat->Str}{rs:List V}
def mk_nocP{a e:CE}{c d:V->Hp->Prop}(g:gJ c)(q:Mk G K E σ H a c)(i:gJ d)(r:Mk G K E σ H e d)(k:∀v w H',c v H'->d w H'->Kn2 H' v/\Kn2 H' w/\(isName v=false\/bZ H' w=false)):Mk G K E σ H (.tup (.cons a (.cons e .nil))) NoC:=(uo (r9 q g r i) (rE g i) vX).imp λv H' _ h=>by
 obtain⟨p,A,j,l,a,b,m,n,o⟩:=h;subst j m;obtain⟨s,t,u⟩:=k _ _ _ n o;refine noc_tup l 'F' (λy f=>?_) λx y z=>?_
 .simp only[aA,bg,or_false]at f;rcases f with rfl|rfl;·exact s
  .exact t
 .injection z with z1 z2
  injection z2 with z2 _;subst z1 z2;exact u
def Lc:gJ (λv H'=>Kn2 H' v/\bZ H' v=false):=λv H H' s ⟨a,b⟩=>⟨a.same s,by rw[uF a.1.1 s];exact b⟩
def mk_noR1{c:Const}(g:Atom (cv c))(i:bF (cv c)=false):Mk G K E σ H (.tup (.cons (.con c) .nil)) (λv H'=>Kn2 H' v/\bZ H' v=false):=(uo (sk dy hV) (rF hV) len_one).imp λv H' _ h=>by obtain⟨p,k,d,b,a,e,f⟩:=h;subst d e;rw[show a=_ from f]at b;refine(kn2_tup b 'F' λy j=>by rw[aI.mp j];exact sA g,are_tup b ?_,);simp[i]
end
def gH{P:CE->Prop}{a:CE}{r:CL}(h:P a)(k:J7 P r):J7 P (.cons a r):=(h,k,)
def GI{P:CE->Prop}:J7 P .nil:=trivial
end K23
namespace K32
open L2 R Cp Lt Kc K21 K22 K02 Lm M5
def Dk(H:Hp)(d:Option Addr):Prop:=∀dd,d<*dd->∃fs,H dd<*(xdO dd fs)
def Dk.same(h:Dk H d)(s:aD H H'):Dk H' d:=λa e=>let⟨fs,f⟩:=h a e;(fs,s _ _ f,)
def xU{D:Addr}{b:Bool}{Q:VK}(e:H a<*(qh a (.ref C) d))(c:Dk H d)(o:nu K C=true)(k:cF K (.ref C) (.ref D)<*b)(q:Q (.bl b) H):rBf K .isx [.ref a,.ref D] H Q:=
 (a,C,d,_,_,b,rfl,e,c,o,.inr (D,rfl,rfl,),k,q,)
def isxV{b:Bool}{Q:VK}(e:H a<*(qh a (.ref C) d))(c:Dk H d)(o:nu K C=true)(k:cF K (.ref C) (.type "ValueError")<*b)(q:Q (.bl b) H):rBf K .isx [.ref a,.ty "ValueError"] H Q:=
 (a,C,d,_,_,b,rfl,e,c,o,.inl (_,rfl,rfl,),k,q,)
section
variable {G:Gam}{CE C CN CC CP CR:Addr}{T:Tb}
def lk2{z:V}:(zh x y z).lookup (aQ "other")<*y:=by unfold zh;rw[aT,show((aQ "other")==(aQ "one"))=false by decide+kernel,aT,beq_self_eq_true]
def lk3{z:V}:(zh x y z).lookup (aQ "names")<*z:=by unfold zh;rw[aT,show((aQ "names")==(aQ "one"))=false by decide+kernel,aT,show((aQ "names")==(aQ "other"))=false by decide+kernel,aT,beq_self_eq_true]
def jx(e:bC H x=true)(s:aD H H1):rowsOf H1 x=rowsOf H x/\∀y,jA H1 x y↔jA H x y:=by
 obtain⟨a,h,rfl,f,A,u,v,B⟩:=cM e;have m:cS (H1 a)<*h:=by
  cases eh:H a with
  |none=>rw[eh]at f;cases f
  |some o=>rw[s _ _ eh,<-eh];exact f
 have n:∀c∈h,cd H1 c=cd H c:=λc d=>by obtain⟨b,r,rfl,p,q,_⟩:=iV (u c d);exact(i9 (s _ _ p) (s _ _ q)).trans (i9 p q).symm
 have l:∀c∈h,aK H1 c=aK H c:=λc d=>congrArg nQ (n c d);refine(?_,λy=>?_,);·unfold rowsOf;rw[jZ f,jZ m,cu l];exact cu λc d=>n c ((_root_.Q.dY V.non v 'F').mem_iff.mp d)
 .constructor;·rintro⟨t,w,z,c,i,g,j,d,k⟩;cases i;rw[m]at g;cases g;exact⟨a,h,z,c,rfl,f,j,d,by rw[<-l c d];exact k⟩
  .rintro⟨t,w,z,c,i,g,j,d,k⟩;cases i;rw[f]at g;cases g;exact⟨a,h,z,c,rfl,m,j,d,by rw[l c d];exact k⟩
end
end K32
namespace M6
def Ok(n:Nat)(v:List Int):Prop:=v.length=n/\∀x∈v,x=0\/x=1
def Ok.at{v:List Int}(h:Ok n v)(i:Nat):v.getD i 0=0\/v.getD i 0=1:=by
 rw[ag];cases e:v[i]? with
 |none=>exact .inl rfl
 |some x=>exact h.2 x (aH e)
def Mis(vs:List (List Int))(i j:Nat):Prop:=∃a b:Int,(a=0\/a=1)/\(b=0\/b=1)/\∀v∈vs,¬(v.getD i 0=a/\v.getD j 0=b)
def Mis.sub{vs c:List (List Int)}(h:Mis vs i j)(s:∀w∈c,w∈vs):Mis c i j:=let⟨a,b,ha,hb,k⟩:=h;(a,b,ha,hb,λw d=>k w (s w d),)
end M6
namespace M7
open K32
section
def Oi(p i:Nat):(grp rows p).testBit i=((rows.reverse[i]?).map (bt rows p)).getD false:=by unfold grp;have :=M3.Ht (rows.map (bt rows p)).reverse i;rw[List.reverse_reverse]at this;rw[this,<-List.map_reverse,ax]
def gnz{p:Nat}:grp rows p≠0↔∃r∈rows,bt rows p r=true:=by
 constructor
 .intro h;apply gM
  intro a;apply h;apply Nat.eq_of_testBit_eq;intro i;rw[Oi,Nat.zero_testBit];cases e:rows.reverse[i]? with
  |none=>rfl
  |some r=>
   cases b:bt rows p r with
   |false=>exact b
   |true=>exact absurd (r,List.mem_reverse.mp (aH e),b,) a
 .rintro⟨r,c,h⟩ z;obtain⟨i,hi⟩:=bN.mp (List.mem_reverse.mpr c);have :=Oi (rows:=rows) p i;rw[hi,z,Nat.zero_testBit]at this;rw[show((some r).map (bt rows p)).getD false=bt rows p r from rfl,h]at this;cases this
end
end M7
namespace K24
open L2 R Cp Lt Kc K21 K22 Lm
def sE{rows:List (Str×List V)}{i j:Int}:qg rows i j=true↔∀u v:Int,(u=0\/u=1)->(v=0\/v=1)->∃r∈rows,Dm i r=u/\Dm j r=v:=by
 unfold qg;rw[bj];constructor
 .intro h u v a f;have d:(u,v)∈KP:=by unfold KP;rcases a with rfl|rfl<;>rcases f with rfl|rfl<;>simp
  obtain⟨r,c,e⟩:=bQ.mp (h (u,v) d);exact(r,c,W0 e,)
 .intro h k b;have a:(k.1=0\/k.1=1)/\(k.2=0\/k.2=1):=by unfold KP at b;simp only[aA,bg,or_false]at b;rcases b with rfl|rfl|rfl|rfl<;>simp
  obtain⟨r,c,e⟩:=h k.1 k.2 a.1 a.2;exact bQ.mpr (r,c,decide_eq_true e,)
end K24
namespace K83
open L2 R Cp Lt Kc Lm
def ja{a b:Type}{F:a->b->Prop}{l:List a}{m:List b}(p:Paired F l m):l.length=m.length:=by
 induction p with
 |nil=>rfl
 |cons _ _ ih=>rw[aU,aU,ih]
def pr_at{c d:Type}{F:c->d->Prop}{l:List c}{m:List d}(p:Paired F l m):∀{i:Nat}{a:c},l[i]?<*a->∃b,m[i]?<*b/\F a b:=by
 induction p with
 |nil=>intro i a h;cases h
 |cons h _ ih=>
  intro i a e;cases i with
  |zero=>cases e;exact(_,rfl,h,)
  |succ i=>exact ih e
end K83
namespace K83
open L2 R Cp Lt Lm K02
def ordL_lt{ps:List (List Int)}(a:ps.Nodup)(h:i∈_root_.Q.FE ps):i<ps.length:=bq.mp ((_root_.Q.pF a).mem_iff.mp h)
def wV{a:Type}(d:a){ps:List (List Int)}{ys:List a}(c:ps.Nodup)(b:ps.length=ys.length):(_root_.Q.gz d ps ys).Perm ys:=by unfold _root_.Q.gz;have h:=(_root_.Q.pF c).map λi=>ys.getD i d;rw[b,_root_.Q.range_getD]at h;exact h
abbrev nd1(k:List Int):L2.D:=.tup (k.map .int)
end K83
namespace M8
open K32 M7 K83
noncomputable abbrev Tri:=List Int×List Int×List Int
abbrev srtN(xs:List (List Int)):List (List Int):=_root_.Q.gz [] xs xs
end M8
namespace M10
open M6
abbrev oth(v ms:List Int):List Int:=(aC v.length).map λj:Nat=>if(j:Int)∈ms then 1-v.getD j 0 else v.getD j 0
def oth_len(v ms:List Int):(oth v ms).length=v.length:=by simp[oth]
def oth_at{v:List Int}(h:j<v.length):(oth v ms).getD j 0=if(j:Int)∈ms then 1-v.getD j 0 else v.getD j 0:=by unfold oth;rw[ag,ax,bw h];rfl
def oth_ok{v:List Int}(h:Ok n v):Ok n (oth v ms):=⟨by rw[oth_len];exact h.1,λx a=>by obtain⟨j,_,rfl⟩:=aN.mp a;have :=h.at j;split <;>lia⟩
structure Gt(n:Nat)(fs:List Int)(vs:List (List Int)):Prop where
 ok:∀v∈vs,Ok n v
 mis:∀i j,i<j->j<n->Mis vs i j
 one:∀p:Nat,(p:Int)∈fs->∀v∈vs,∀w∈vs,v.getD p 0=w.getD p 0
def Gt.sub{fs:List Int}{vs:List (List Int)}(t:Gt n fs vs)(h:∀x∈gs,x∈fs):Gt n gs vs:=(t.ok,t.mis,λp a=>t.one p (h _ a),)
def Gt.start{fs v:List Int}(h:Ok n v):Gt n fs [v]:=by
 refine⟨λw a=>by rw[aI.mp a];exact h,λi j _ _=>(1-v.getD i 0,0,?_,.inl rfl,λw a ⟨e,_⟩=>?_,),λp _ x b y c=>by rw[aI.mp b,aI.mp c]⟩;·have :=h.at i;lia
 .rw[aI.mp a]at e;lia
def Gt.turn{fs:List Int}{vs:List (List Int)}(t:Gt n (ms++fs) vs)(A:(ms++fs).Nodup){v:List Int}(e:v∈vs):Gt n fs (vs++[oth v ms]):=by
 have f:=t.ok v e;have l:=oth_ok (ms:=ms) f;have at_:∀j,j<n->(oth v ms).getD j 0=if(j:Int)∈ms then 1-v.getD j 0 else v.getD j 0:=λj g=>oth_at (by rw[f.1];exact g)
 refine(λx d=>?_,λi j w g=>?_,λp q=>?_,)
 .rcases bz.mp d with h|h;·exact t.ok x h
  .rw[aI.mp h];exact l
 .have hi:i<n:=by lia
  have E:=f.at i;have F:=f.at j;by_cases c1:(i:Int)∈ms
  .have C:∀x∈vs,x.getD i 0=v.getD i 0:=λx d=>t.one i (bz.mpr (.inl c1)) x d v e;refine(1-v.getD i 0,1-(oth v ms).getD j 0,'D',by have :=l.at j;lia,λx d ⟨m,o⟩=>?_,);rcases bz.mp d with h|h;·rw[C x h]at m;lia
   .rw[aI.mp h]at o;lia
  .by_cases c2:(j:Int)∈ms
   .have D:∀x∈vs,x.getD j 0=v.getD j 0:=λx d=>t.one j (bz.mpr (.inl c2)) x d v e;refine(1-(oth v ms).getD i 0,1-v.getD j 0,by have :=l.at i;lia,'D',λx d ⟨m,o⟩=>?_,);rcases bz.mp d with h|h;·rw[D x h]at o;lia
    .rw[aI.mp h]at m;lia
   .obtain⟨a,b,s,u,k⟩:=t.mis i j w g;refine(a,b,s,u,λx d=>?_,);rcases bz.mp d with h|h;·exact k x h
    .rw[aI.mp h,at_ i hi,at_ j g,if_neg c1,if_neg c2];exact k v e
 .have B:(p:Int)∉ms:=λh=>(du.mp A).2.2 _ h _ q rfl;have r:∀x∈vs++[oth v ms],x.getD p 0=v.getD p 0:=λx d=>by
   rcases bz.mp d with h|h;·exact t.one p (bz.mpr (.inr q)) x h v e
   .rw[aI.mp h];by_cases c:p<n;·rw[at_ p c,if_neg B]
    .rw[ag,ag,bV (by rw[l.1];lia),bV (by rw[f.1];lia)]
  intro x d y z;rw[r x d,r y z]
end M10
namespace K34
open L2 R Cp Lt Kc K21 K22 Lm M5 K32
def Nn{b:List (List Int)}(h:_root_.Q.IntKeys H ys b){z:Nat}(e:ys[z]?<*y):∃r zs,y=.ref r/\H r<*(.tup (zs.map V.int))/\zs∈b:=by
 unfold _root_.Q.IntKeys at h
 induction h generalizing z with
 |nil=>simp at e
 |cons y0 t ih=>
  cases z with
  |zero=>obtain⟨a,rfl,k⟩:=y0;simp at e;exact(a,_,e.symm,k,aM,)
  |succ z=>simp at e;obtain⟨r,zs,c,d,f⟩:=ih e;exact(r,zs,c,d,aG _ f,)
def nW(K:ah):Sp:=λvs H Q _=>∃(r b:Addr)(zs ms:List Int),vs=[.ref r,.ref b]/\SqT K H r (zs.map V.int)/\SqL K H b (ms.map V.int)/\zs.length<=40/\
 ∀(H':Hp)(p:Addr),aD H H'->H p=none->H' p<*(.tup ((M10.oth zs ms).map V.int))->Q (.ref p) H'
def wp_othN:Sat G K (nW K) nz nr:=by
 rintro g H Q E ⟨r,b,c,a,rfl,d,w,B,q⟩;unfold nz;change wpB G K _ _ _ [some (.ref r),some (.ref b)] H;ext;refine cQ ?_;ext;refine Or.inl (r,_,rfl,.inr d,_,rfl,by rw[ai];lia,by rw[ai];lia,?_,);rw[ai];refine cW dM (short 'D') (λ_ _=>trivial) (λi v _=>v=.int (if(i:Int)∈a then 1-c.getD i 0 else c.getD i 0)) (λ_ _ _ _ _ h=>h) (λs=>∃t,s=[t,some (.ref b),some (.ref r)]) (none,rfl,) ?_ ?_
 .rintro i x s A R hi ⟨t,rfl⟩ f rfl k;ext;simp only[eN];have y:i<c.length:=by lia
  have j:=gf y;refine .inr (b,_,rfl,.inl (f.seq w),rfl,pM a,_,rfl,?_,);show if inV (V.int (i:Int)) (a.map V.int)=true then _ else _
  rw[BB];by_cases h:(i:Int)∈a;·rw[decide_eq_true h,if_pos rfl];refine .inr (.inl (r,_,i,_,rfl,rfl,f.tup d,cG j,?_,));ext;exact k _ _ _ (_,rfl,) (aD.refl _) (by rw[if_pos h])
  .rw[decide_eq_false h,if_neg ao];refine .inr (.inl (r,_,i,_,rfl,rfl,f.tup d,cG j,?_,));exact k _ _ _ (_,rfl,) (aD.refl _) (by rw[if_neg h])
 .intro g z l C u o m;have e:g=(M10.oth c a).map V.int:=by
   unfold M10.oth;apply jv;intro i;rw[ax,ax];by_cases hi:i<g.length;·rw[ae hi,bw 'D',u i _ (ae hi)];rfl
   .rw[bV 'D',bV (by rw[bU];lia)];rfl
  subst e;exact(l,_,rfl,.inl (SqL.of aq,λp n=>q _ p (o.trans ((au m).trans (au n))) ((o.trans (au m)).free n) aq,),)
def AR(K:ah):Sp:=λvs H Q _=>∃(a:Addr)(ns:List Int)(n:Nat),vs=[.ref a,.int n]/\SqL K H a (ns.map V.int)/\ns.length<=14/\n<=10/\
 ∀(H':Hp)(p nd lk:Addr)(ys:List V),aD H H'->H' p<*(.tup [.ref nd,.ref lk])->H nd=none->H' nd<*(.lst ys)->ys≠[]->ys.length<=15->∀vs,_root_.Q.IntKeys H' ys vs->M10.Gt n [] vs->Q (.ref p) H'
section
variable {G:Gam}
structure Fs(H:Hp)(nd lk fr:Addr):Prop where
 fnd:H nd=none
 flk:H lk=none
 ffr:H fr=none
 n1:nd≠lk
 n2:nd≠fr
 n3:lk≠fr
def Gw(H:Hp)(a nd lk fr:Addr)(n:Nat)(sd:Int)(k:Nat)(σ:L2.St)(H':Hp):Prop:=aD H H'/\∃(ys ls:List V)(fs:List Int),H' nd<*(.lst ys)/\H' lk<*(.lst ls)/\H' fr<*(.lst (fs.map V.int))/\ys≠[]/\ys.length<=k+1/\ls.length<=k/\fs.Nodup/\fs.length<=n/\(∃vs,_root_.Q.IntKeys H' ys vs/\M10.Gt n fs vs)/\∃u v w x y,σ=[some (.ref a),some (.int n),some (.int sd),some (.ref nd),some (.ref lk),some (.ref fr),u,v,w,x,y]
section
variable {E:XS}{D2:Ends}{a nd lk fr sm:Addr}{sd d0:Int}{ls:List V}{ws:List (List Int)}
def Gi(H:Hp)(a nd lk fr sm:Addr)(n k:Nat)(sd d0:Int)(ys ls:List V)(ws:List (List Int))(j:Nat)(σ:L2.St)(H':Hp):Prop:=aD H H'/\H' nd<*(.lst ys)/\H' lk<*(.lst ls)/\_root_.Q.IntKeys H' ys ws/\∃(fs ms:List Int),M10.Gt n (ms++fs) ws/\H' fr<*(.lst (fs.map V.int))/\H' sm<*(.lst (ms.map V.int))/\(ms++fs).Nodup/\ms.length<=j/\fs.length<=n/\∃x y,σ=[some (.ref a),some (.int n),some (.int sd),some (.ref nd),some (.ref lk),some (.ref fr),some (.int k),some (.int d0),some (.ref sm),x,y]
def Gi.same(g:Gi H a nd lk fr sm n k sd d0 ys ls ws j σ H1)(s:aD H1 H2):Gi H a nd lk fr sm n k sd d0 ys ls ws j σ H2:=by obtain⟨d,e,t3,f,fs,b,c,h,i,l⟩:=g;exact(d.trans s,s _ _ e,s _ _ t3,dS (Tk.of s) f,fs,b,c,s _ _ h,s _ _ i,l,)
def sC(a:k<ns.length):(ns.map V.int)[k]?<*(.int (ns.getD k 0)):=by rw[ax,ae a,ag,ae a];rfl
def wA(w:G.fn "_law_otherwise" 2<*(nW K,[]))(F:Fs H nd lk fr)(S:k<14)(T:n<=10)(Q:ys≠[])(R:ys.length<=k+1)(B:ls.length<=k+1)(A:∀t H2,Gw H a nd lk fr n sd (k+1) t H2->D2.nx t H2){i:Hp}{z:Nat}(C:z<ys.length){x y:Option V}
  (g:Gi H a nd lk fr sm n k sd d0 ys ls ws j [some (.ref a),some (.int n),some (.int sd),some (.ref nd),some (.ref lk),some (.ref fr),some (.int k),some (.int d0),some (.ref sm),x,y] i):
  wpB G K E iW D2 [some (.ref a),some (.int n),some (.int sd),some (.ref nd),some (.ref lk),some (.ref fr),some (.int k),some (.int d0),some (.ref sm),x,some (.int z)] i:=by
 obtain⟨J,e,L,q,fs,m,o,M,N,s,W,O,_⟩:=g;unfold iW;ext;have v:fs.Nodup:=(du.mp s).2.1;have d:ys[z]?<*ys[z]:=ae C;obtain⟨r,h,u,D,l⟩:=Nn q d;have I:=o.ok h l;rw[u]at d;refine(.inl (rfl,_,SqL.of e,),_,_,w,.inl (nd,ys,z,_,rfl,rfl,SqL.of e,cG d,?_,),);refine(r,sm,h,m,rfl,SqT.of D,SqL.of N,by rw[I.1];lia,λP p b U c=>?_,);have f:=b _ _ e;refine(nd,ys,_,rfl,rfl,f,cR (by lia:ys.length<=40) 'E',?_,);refine A _ _ (fH (J.trans b) F.fnd,ys++[.ref p],ls,fs,aq,?_,?_,'F',by simp;lia,B,v,O,(ws++[M10.oth h m],Paired.snoc (p,rfl,?_,) (dS (tY f) (dS (Tk.of b) q)),o.turn s l,),_,_,_,_,_,rfl,);·rw[aV (bK F.n1)];exact b _ _ L
 .rw[aV (bK F.n2)];exact b _ _ M
 .rw[aV (λz=>by rw[z,f]at c;cases c)];exact c
def Az(I:G.fn "_law_draw" 2<*(lH,[]))(J:G.fn "_law_otherwise" 2<*(nW K,[]))(F:Fs H nd lk fr)(Y:lk≠sm)(L:SqL K H a (ns.map V.int))(N:k<ns.length)(M:k<14)(P:n<=10)(l:ys≠[])(A:ys.length<=k+1)(b6:ls.length<=k)(t:∀w H2,Gw H a nd lk fr n sd (k+1) w H2->D2.nx w H2)(a0:j<=2){i:Hp}{x y:Option V}
  (g:Gi H a nd lk fr sm n k sd d0 ys ls ws j [some (.ref a),some (.int n),some (.int sd),some (.ref nd),some (.ref lk),some (.ref fr),some (.int k),some (.int d0),some (.ref sm),x,y] i):
  wpB G K E jP D2 [some (.ref a),some (.int n),some (.int sd),some (.ref nd),some (.ref lk),some (.ref fr),some (.int k),some (.int d0),some (.ref sm),x,y] i:=by
 unfold jP;ext;refine(short 'F',λp0 Q=>?_,);generalize hX:upd i p0 _=H13;obtain⟨gq,C⟩:=cX hX Q;clear hX
 replace g:=g.same gq
 obtain⟨e,c,t3,q,fs,b,p,r,f,h,u,s,_⟩:=id g;have D:fs.Nodup:=(du.mp h).2.1;have Z:b.Nodup:=(du.mp h).1;obtain⟨d,B,r1,r2,r3,r4⟩:=lh (K:=K) (SqL.of f) C;refine(d,B,r1,r2,r3,_,rfl,?_,);rw[r4];by_cases hf:b=[];·rw[decide_eq_true hf];exact t _ _ (e,ys,ls,fs,c,t3,r,l,'D','D',D,s,(ws,q,p.sub λx T=>bz.mpr (.inr T),),_,_,_,_,_,rfl,)
 .rw[decide_eq_false hf];show if true=true then _ else _
  rw[if_pos rfl];refine(_,_,I,.inl (a,_,k,_,rfl,rfl,e.seq L,cG (sC N),?_,),);ext;refine(u6 'E' 'E',_,_,rfl,'D','D',?_,);have a1:0<ys.length:=eW.mpr l;generalize draw (ns.getD k 0) (41+4*(k:Int))=d1;refine Or.inl (nd,ys,rfl,.inl (SqL.of c),?_,);ext;refine('D',?_,);have X:0<=d1%(ys.length:Int):=bA _ 'D';have i1:d1%(ys.length:Int)<ys.length:=bR _ 'D';obtain⟨z,U⟩:=dJ X;rw[U];have W:z<ys.length:=by lia
  unfold ly;ext;refine(.inl (rfl,_,SqL.of t3,),Or.inl (nd,ys,rfl,.inl (SqL.of c),?_,),);have O:b.length<64:=by lia
  refine⟨sm,b,rfl,SqL.of f,O,Z,λm R=>(short 'F',λv S=>?_,)⟩;have g:=g.same ((au (o:=.lst (_root_.Q.sortI b)) R).trans (au (o:=.tup [.int z,.int ys.length,.ref m]) S));generalize upd (upd H13 m (.lst (_root_.Q.sortI b))) v (.tup [.int z,.int ys.length,.ref m])=H15 at g⊢;obtain⟨e,c,t3,q,fs,b,p,r,f,h,u,s,_⟩:=g;refine(lk,ls,_,rfl,rfl,t3,cR (by lia:ls.length<=40) 'E',?_,);refine wA (j:=j) (ls:=ls++[.ref v]) J F M P l A (by simp;lia) t W (x:=x) (y:=y) (fH e F.flk,?_,aq,dS (tY t3) q,fs,b,p,?_,?_,h,u,s,_,_,rfl,);·rw[aV F.n1];exact c
  .rw[aV (bK F.n3)];exact r
  .rw[aV (bK Y)];exact f
def AA(R:G.fn "_law_draw" 2<*(lH,[]))(S:G.fn "_law_otherwise" 2<*(nW K,[]))(F:Fs H nd lk fr)(Q:H sm=none)(m1:nd≠sm)(r:lk≠sm)(s:fr≠sm)(U:SqL K H a (ns.map V.int))(a0:k<ns.length)(Z:k<14)(hn:n<=10)(a4:0<=d0)(I:ys≠[])(J:ys.length<=k+1)(L:ls.length<=k)(T:∀B H2,Gw H a nd lk fr n sd (k+1) B H2->D2.nx B H2){o:Hp}{x y:Option V}
  (g:Gi H a nd lk fr sm n k sd d0 ys ls ws 0 [some (.ref a),some (.int n),some (.int sd),some (.ref nd),some (.ref lk),some (.ref fr),some (.int k),some (.int d0),some (.ref sm),x,y] o):
  wpB G K E jQ D2 [some (.ref a),some (.int n),some (.int sd),some (.ref nd),some (.ref lk),some (.ref fr),some (.int k),some (.int d0),some (.ref sm),x,y] o:=by
 unfold jQ;ext;refine iT ?_;ext;have a7:0<=d0%7:=bA _ 'E';have a8:d0%7<7:=bR _ 'E';refine('E',('E','E',),_,rfl,'D','D',?_,);refine gG dM (Gi H a nd lk fr sm n k sd d0 ys ls ws) g (λ_ _ _ _ _=>trivial) ?_ ?_
 .rintro j x σ C D D3 hj g rfl a3 p _;have a6:j<2:=by lia
  have g:=g.same a3;obtain⟨_,_,_,_,_,_,_,_,_,_,_,_,x,y,rfl⟩:=id g;ext;simp only[eN];refine(short 'F',λp0 a1=>?_,);generalize hX:upd D p0 _=H13;obtain⟨gq,N⟩:=cX hX a1;clear hX
  replace g:=g.same gq
  obtain⟨i,l,t3,m,fs,b,v,c,h,A,t8,t9,_⟩:=g;obtain⟨d,M,r1,r2,r3,r4⟩:=lh (K:=K) (SqL.of c) N;refine(d,M,r1,r2,r3,_,rfl,?_,);rw[r4];by_cases hf:fs=[];·rw[decide_eq_true hf];exact p _ _ (i,l,t3,m,fs,b,v,c,h,A,'D',t9,_,_,rfl,)
  .rw[decide_eq_false hf];show if true=true then _ else _
   rw[if_pos rfl];have a5:0<fs.length:=eW.mpr hf;refine(.inl (rfl,_,SqL.of h,),.inl (rfl,_,SqL.of c,),short 'F',λt a2=>?_,);generalize hX:upd H13 t _=H14;obtain⟨e,O⟩:=cX hX a2;clear hX;have l:=e _ _ l;have t3:=e _ _ t3;have m:=dS (Tk.of e) m;have c:=e _ _ c;have h:=e _ _ h;have i:=i.trans e;obtain⟨f,W,X⟩:∃f:Int,[V.int 7,V.int 112][j]?<*(.int f)/\OB d0 f:=by
    have :j=0\/j=1:=by lia
    rcases this with rfl|rfl;·exact(7,rfl,'E','E',)
    .exact(112,rfl,'E','E',)
   refine .inl (t,_,j,_,rfl,rfl,SqL.of O,cG W,?_,);ext;refine(X,Or.inl (fr,_,rfl,.inl (SqL.of c),?_,),);rw[ai];ext;have i0:0<=d0/f%(fs.length:Int):=bA _ 'D';have i1:d0/f%(fs.length:Int)<fs.length:=bR _ 'D';obtain⟨z,hz⟩:=dJ i0;rw[hz];have q:z<fs.length:=by lia
   have Y:(fs.map V.int)[z]?<*(.int fs[z]):=by rw[ax,ae q];rfl
   refine('D',.inr (fr,_,z,z,_,rfl,rfl,c,'D','D',?_,Y,?_,),);·rw[ai,EB 'D' 'D'];simp
   have P:(fs.map V.int).eraseIdx z=(fs.eraseIdx z).map V.int:=by rw[yN,yN,cH,List.map_take,List.map_drop]
   rw[P];have w:upd H14 fr (.lst ((fs.eraseIdx z).map V.int)) sm<*(.lst (b.map V.int)):=by rw[aV (bK s)];exact h
   refine(sm,b.map V.int,_,rfl,rfl,w,cR (by rw[ai];lia:(b.map V.int).length<=40) 'E',?_,);have u:((b++[fs[z]])++fs.eraseIdx z).Perm (b++fs):=by rw[ni];exact(jk fs z q).append_left b
   refine p _ _ (fH (fH i F.ffr) Q,?_,?_,dS (tY w) (dS (tY c) m),fs.eraseIdx z,b++[fs[z]],v.sub (λx hx=>u.mem_iff.mp hx),?_,?_,u.nodup_iff.mpr A,by simp;lia,by rw[List.length_eraseIdx];split <;>lia,_,_,rfl,);·rw[aV m1,aV F.n2];exact l
   .rw[aV r,aV F.n3];exact t3
   .rw[aV s];exact aq
   .rw[aq,cH];rfl
 .intro σ C g;obtain⟨_,_,_,_,_,_,_,_,_,_,_,_,x,y,rfl⟩:=id g;exact Az R S F r U a0 Z hn I J L T 'D' g
end
def ER(N:G.fn "_law_draw" 2<*(lH,[]))(U:G.fn "_law_otherwise" 2<*(nW K,[])){E:XS}{Q:VK}{i x:Hp}{D:Ends}{b d fr:Addr}{h:Int}(F:Fs H b d fr)(R:aD i H)(t:SqL K H a (ns.map V.int))(a4:ns.length<=14)(Y:n<=10)(Z:D.rt=Q)
  (q:∀(H':Hp)(p b d:Addr)(ys:List V),aD i H'->H' p<*(.tup [.ref b,.ref d])->i b=none->H' b<*(.lst ys)->ys≠[]->ys.length<=15->∀vs,_root_.Q.IntKeys H' ys vs->M10.Gt n [] vs->Q (.ref p) H')
  (g:Gw H a b d fr n h 0 [some (.ref a),some (.int n),some (.int h),some (.ref b),some (.ref d),some (.ref fr),none,none,none,none,none] x):
  wpB G K E lP D [some (.ref a),some (.int n),some (.int h),some (.ref b),some (.ref d),some (.ref fr),none,none,none,none,none] x:=by
 unfold lP;ext;refine iT ?_;ext;refine Or.inl (a,_,rfl,.inl (g.1.seq t),_,rfl,by rw[ai];lia,by rw[ai];lia,?_,);refine gG dM (Gw H a b d fr n h) g (λ_ _ _ _ _=>trivial) ?_ ?_
 .rintro k a3 σ T j D2 X ⟨w,ys,ls,fs,m,y,A,o,r,B,C,I,⟨S,s,l⟩,a0,a1,a2,x',y',rfl⟩ rfl e W _;have P:k<ns.length:=by simpa using X
  have v:aD H j:=w.trans e;ext;simp only[eN];refine(_,_,N,.inl (a,_,k,_,rfl,rfl,v.seq t,cG (sC P),?_,),);ext;refine(u6 'E' 'E',_,_,rfl,'D','D',?_,);have O:=BI (ns.getD k 0) (40+4*(k:Int));generalize draw (ns.getD k 0) (40+4*(k:Int))=d0 at O⊢;unfold nG;ext;refine(short 'F',λsm c=>?_,);have J:=e _ _ m;have L:=e _ _ y;have M:=e _ _ A;have f:aD j (upd j sm (.lst [])):=au c;exact AA N U F (v.free c) (λz=>by rw[<-z,J]at c;cases c) (λz=>by rw[<-z,L]at c;cases c) (λz=>by rw[<-z,M]at c;cases c) t P 'D' Y O o r B W
   (v.trans f,f _ _ J,f _ _ L,dS (Tk.of (e.trans f)) s,fs,[],l,f _ _ M,aq,↥C,'F',I,_,_,rfl,)
 .rintro σ T ⟨w,ys,ls,fs,m,y,A,o,r,B,C,I,⟨S,s,l⟩,a0,a1,a2,x',y',rfl⟩;unfold qx;ext;refine(short 'F',λp u=>?_,);rw[Z];exact q _ p b d ys (R.trans (w.trans (au u))) aq (R.free F.fnd) (au u _ _ m) o (by simp at r;lia) S (dS (Tk.of (au u)) s) (l.sub λa3 hx=>by cases hx)
def wB(I:G.fn "_law_draw" 2<*(lH,[]))(J:G.fn "_law_otherwise" 2<*(nW K,[])){E:XS}{Q:VK}{r:Hp}{D:Ends}{A:Int}(s0:aD r H)(M:SqL K H a (ns.map V.int))(R:ns.length<=14)(P:n<=10)(S:D.rt=Q)
  (q:∀(H':Hp)(p nd lk:Addr)(ys:List V),aD r H'->H' p<*(.tup [.ref nd,.ref lk])->r nd=none->H' nd<*(.lst ys)->ys≠[]->ys.length<=15->∀vs,_root_.Q.IntKeys H' ys vs->M10.Gt n [] vs->Q (.ref p) H'):
  wpB G K E lQ D [some (.ref a),some (.int n),some (.int A),none,none,none,none,none,none,none,none] H:=by
 unfold lQ;ext;refine cQ ?_;ext;refine((n:Int),rfl,'D','D',?_,);refine cW dM (short 'D') (λ_ _=>trivial) (λi a0 _=>bF a0=true) (λ_ _ _ _ _ h=>h) (λB=>∃t,B=[t,some (.int A)]) (none,rfl,) ?_ ?_;·rintro a2 a3 B j a1 hj ⟨t',rfl⟩ d rfl k;ext;rw[shl_ii];ext;simp only[eN,Int.one_mul,aW];exact(('D','D','E',),pow2 'D','E',k _ _ _ (_,rfl,) (aD.refl _) (mod2 _),)
 intro vs j l U L s3 O;have y:∀z∈vs,bF z=true:=λz X=>by obtain⟨k,N⟩:=bN.mp X;exact L k z N
 have W:vs.length=n:=by rw[U];lia
 refine⟨l,vs,rfl,.inl ⟨SqL.of aq,λb T=>(short 'F',λnd v=>?_,)⟩⟩;have f:aD H (upd (upd j l (.lst vs)) b (.tup vs)):=s3.trans ((au O).trans (au T));have x:upd (upd j l (.lst vs)) b (.tup vs) b<*(.tup vs):=aq;generalize upd (upd j l (.lst vs)) b (.tup vs)=H4 at f x v⊢;have d:aD H4 (upd H4 nd (.lst [.ref b])):=au v;have u:upd H4 nd (.lst [.ref b]) nd<*(.lst [.ref b]):=aq;have fnd:H nd=none:=f.free v;generalize upd H4 nd (.lst [.ref b])=H5 at d u⊢;unfold qA;ext;refine(short 'F',λlk m=>?_,);have g:aD H5 (upd H5 lk (.lst [])):=au m;have s:upd H5 lk (.lst []) lk<*(.lst []):=aq;have Y:nd≠lk:=λz=>by rw[<-z,u]at m;cases m
 have F:H lk=none:=(f.trans d).free m;generalize upd H5 lk (.lst [])=H6 at g s⊢;unfold qz;ext;refine(_,rfl,n,rfl,'D',λfr c=>?_,);have o:aD H6 (upd H6 fr (.lst (nats n))):=au c;have w:=g _ _ u;have C:nats n=((aC n).map λi:Nat=>(i:Int)).map V.int:=by unfold nats;rw[bT];rfl
 have Z:((aC n).map λi:Nat=>(i:Int)).Nodup:=by rw[lY,gL];exact(List.nodup_range (n:=n)).imp λh e=>h (zv e)
 refine ER I J ⟨fnd,F,(f.trans (d.trans g)).free c,Y,(λz=>by rw[<-z,w]at c;cases c),(λz=>by rw[<-z,s]at c;cases c)⟩ s0 M R P S q
  (f.trans (d.trans (g.trans o)),[.ref b],[],_,o _ _ w,o _ _ s,by rw[aq,C],'F','F','F',Z,'F',⟨[vs.map K32.intOf],.cons (b,rfl,?_,) .nil,.start (by rw[ai];exact W,(K32.pK y).2,)⟩,_,_,_,_,_,rfl,)
 rw[(K32.pK y).1];exact o _ _ (g _ _ (d _ _ x))
def KD(f:G.fn "_law_draw" 2<*(lH,[]))(g:G.fn "_law_otherwise" 2<*(nW K,[])):
  Sat G K (AR K) vk uV:=by
 rintro w H Q E ⟨a,e,n,rfl,c,k,h,q⟩;unfold vk qB;change wpB G K _ _ _ [some (.ref a),some (.int n),none,none,none,none,none,none,none,none,none] H;ext;refine(short 'F',λr p=>?_,);generalize hX:upd H r _=H1;obtain⟨b,m⟩:=cX hX p;clear hX;obtain⟨d,l,s,t,u,v⟩:=lh (K:=K) (b.seq c) m;refine(d,l,s,t,u,_,rfl,?_,);rw[v];by_cases hf:e=[];·rw[decide_eq_true hf];exact wB f g b (b.seq c) k h rfl q
 .rw[decide_eq_false hf];show if true=true then _ else _
  rw[if_pos rfl];have i:0<e.length:=eW.mpr hf;have o:(e.map V.int)[0]?<*(.int (e.getD 0 0)):=by rw[ax,ae i,ag,ae i];rfl
  refine(_,_,f,.inl (a,_,0,_,rfl,rfl,b.seq c,cG (j:=0) o,_,20,rfl,'E','E',?_,),);exact wB f g b (b.seq c) k h rfl q
end
end K34
namespace K34
open L2 R Cp Lt Kc K21 K22 Lm M5 K32 K24
structure Tn(H:Hp)(t:Addr)(nf:Nat->Str)(n:Nat)(ys:List V)(rows:List (List Int)):Prop where
 et:H t<*(.lst ys)
 ln:rows.length=ys.length
 row:∀(i:Nat) y,ys[i]?<*y->∃b r,y=.ref b/\H b<*(.tup [.str (nf i),.ref r])/\H r<*(.tup ((rows.getD i []).map V.int))
 ok:∀i,eJ (nf i)=true
 inj:∀i j,i<ys.length->j<ys.length->nf i=nf j->i=j
 len:ys.length<=40
 n10:n<=60
 rd:∀r∈rows,M6.Ok n r
 mis:∀i j,i<j->j<n->M6.Mis rows i j
section
variable {t:Addr}{nf:Nat->Str}{T:Tb}
def Tn.get(d:Tn H t nf n ys rows)(h:i<ys.length):rows.getD i []∈rows:=by rw[ag,ae (by rw[d.ln];exact h)];exact aR _
def Tn.gr(d:Tn H t nf n ys rows)(g:Gr T H H')(a:Tab T H):Tn H' t nf n ys rows:=
 {d with et:=g.lst a d.et,row:=λi y e=>let⟨b,r,h1,h2,h3⟩:=d.row i y e;(b,r,h1,g.i7 a h2,g.i7 a h3,)}
def Tn.same(d:Tn H t nf n ys rows)(s:aD H H'):Tn H' t nf n ys rows:=
 {d with et:=s _ _ d.et,row:=λi y e=>let⟨b,r,h1,h2,h3⟩:=d.row i y e;(b,r,h1,s _ _ h2,s _ _ h3,)}
def Tn.dr(d:Tn H t nf n ys rows):Dr H nf n ys:=λi y e=>by obtain⟨b,r,a,c,f⟩:=d.row i y e;have o:=d.rd _ (d.get (aF.mp e).1);refine(b,r,_,a,c,f,by rw[ai];exact o.1,λz h=>?_,);obtain⟨x,g,rfl⟩:=aN.mp h;rcases o.2 x g with rfl|rfl<;>rfl
def Tn.tab(d:Tn H t nf n ys rows):Kn4 H (.ref t)/\bC H (.ref t)=true/\(∀y∈ys,cP H y=true)/\∀y∈ys,bE H y=n:=
 sI d.ok d.inj d.et d.dr (by have :=d.len;lia) (by have :=d.n10;lia)
theorem Tn.count(d:Tn H t nf n ys rows)(h:ys≠[]):Cp.count H (.ref t)=n:=by
 show(match cS (H t)with |some (y::_)=>bE H y|_=>0)=n;rw[d.et];cases ys with
 |nil=>exact absurd rfl h
 |cons y r=>exact d.tab.2.2.2 y (.head _)
def Tn.perm(d:Tn H t nf n ys rows):(rowsOf H (.ref t)).Perm (ys.map (cd H)):=by
 have f:(ys.map (aK H)).Nodup:=by obtain⟨a,j,e,b,g,h,c,i⟩:=cM d.tab.2.1;cases e;rw[show cS (H t)<*ys by rw[d.et];rfl]at b;cases b;exact c
 unfold rowsOf;rw[jZ (show cS (H t)<*ys by rw[d.et];rfl)];exact(_root_.Q.dY V.non f 'F').map (cd H)
def Tn.cds(d:Tn H t nf n ys rows)(x:Str×List V):x∈ys.map (cd H)↔∃i,i<ys.length/\x=(nf i,(rows.getD i []).map V.int):=by
 constructor;·intro h;obtain⟨y,g,rfl⟩:=aN.mp h;obtain⟨i,e⟩:=bN.mp g;obtain⟨b,r,rfl,a,c⟩:=d.row i y e;exact(i,(aF.mp e).1,i9 a c,)
 .rintro⟨i,hi,rfl⟩;have e:=ae hi;obtain⟨b,r,f,a,c⟩:=d.row i _ e;refine aN.mpr (ys[i],aR hi,?_,);rw[f];exact i9 a c
def DI(z:List Int):(z.map V.int).map intOf=z:=by
 rw[bT]
 conv =>rhs;rw[<-Kx z]
 rfl
def Tn.mem(d:Tn H t nf n ys rows)(r:List Int):r∈K32.rI (rowsOf H (.ref t))↔r∈rows:=by
 unfold K32.rI;rw[(d.perm.map _).mem_iff];constructor;·intro h;obtain⟨x,a,rfl⟩:=aN.mp h;obtain⟨i,hi,rfl⟩:=(d.cds x).mp a;rw[DI];exact d.get hi
 .intro h;obtain⟨i,hi,rfl⟩:=dH.mp h;refine aN.mpr ((nf i,(rows.getD i []).map V.int),(d.cds _).mpr (i,by rw[<-d.ln];exact hi,rfl,),?_,);rw[DI,ag,ae hi];rfl
def Hs{r:Str×List V}{z:List Int}(e:r.2=z.map V.int)(i:Nat)(h:i<z.length):Dm i r=z.getD i 0:=by unfold Dm;rw[e,aW,ag,ax,ag,ae h];rfl
def Tn.noc(d:Tn H t nf n ys rows):NoC (rowsOf H (.ref t)) (Cp.count H (.ref t)):=λa b j h=>by
 rw[wy];intro z;rw[K24.sE]at z;have mem:∀r∈rowsOf H (.ref t),∃q∈rows,r.2=q.map V.int:=λr c=>by obtain⟨i,hi,rfl⟩:=(d.cds r).mp (d.perm.mem_iff.mp c);exact(_,d.get hi,rfl,)
 have p:ys≠[]:=λe=>by obtain⟨r,c,_⟩:=z 0 0 (.inl rfl) (.inl rfl);obtain⟨q,hq,_⟩:=mem r c;have :=d.ln;rw[e]at this;rw[bh.mp this]at hq;cases hq
 rw[d.count p]at h;obtain⟨u,v,l,m,k⟩:=d.mis a b j h;obtain⟨r,c,f,g⟩:=z u v l m;obtain⟨q,hq,e⟩:=mem r c;have o:=d.rd q hq;rw[Hs e a (by rw[o.1];lia)]at f;rw[Hs e b (by rw[o.1];lia)]at g;exact k q hq (f,g,)
end
end K34
namespace K34
open L2 R Cp Lt Kc K21 K22 Lm M5 K32
theorem pr_mk{c d:Type}{F:c->d->Prop}:∀{l:List c}{m:List d},l.length=m.length->(∀(j:Nat) a b,l[j]?<*a->m[j]?<*b->F a b)->Paired F l m
 | [],[],_,_=>.nil
 |a::l,b::m,h,f=>.cons (f 0 a b rfl rfl) (pr_mk (i4 h) λj x y e g=>f (j+1) x y ↥e ↥g)
end K34
namespace K75
open R
abbrev Bd:List Str:=["thing","count"]
abbrev rW:List Str:=["thing","count"]
abbrev oX:CB:=
  (.cons (.ret (.call "is_reading" (.cons (.idx (.var 0) (.con (.int 1))) .nil)))
  .nil)
abbrev oY:CB:=
  (.cons (.iff (.or (.not (.call "is_whole" (.cons (.idx (.var 0) (.con (.int 0))) .nil))) (.not (.chain .LtE .Lt (.con (.int 0)) (.idx (.var 0) (.con (.int 0))) (.var 1))))
  (.cons (.ret (.con (.bool false)))
  .nil)
  .nil)
  oX)
abbrev sV:CB:=
  (.cons (.iff (.or (.not (.bfn .isinstance (.cons (.var 0) (.cons (.ty .tuple) .nil)))) (.cmp .NotEq (.bfn .len (.cons (.var 0) .nil)) (.con (.int 2))))
  (.cons (.ret (.con (.bool false)))
  .nil)
  .nil)
  oY)
abbrev xl:List Str:=["thing","count"]
abbrev ou:List Str:=["thing","count"]
abbrev mE:CB:=
  (.cons (.ret (.cmp .Eq (.bfn .len (.cons (.bfn .set (.cons (.comp ["place","elder"] [] (.tup (.cons (.name 0) (.cons (.name 1) .nil))) (.seq (.var 0)) .no (.var 0)) .nil)) .nil)) (.bfn .len (.cons (.var 0) .nil))))
  .nil)
abbrev mF:CB:=
  (.cons (.iff (.not (.bfn .all (.cons (.comp ["part"] [1] (.name 0) (.seq (.var 0)) .no (.call "is_telling" (.cons (.var 0) (.cons (.var 1) .nil)))) .nil)))
  (.cons (.ret (.con (.bool false)))
  .nil)
  .nil)
  mE)
abbrev ph:CB:=
  (.cons (.iff (.not (.bfn .isinstance (.cons (.var 0) (.cons (.ty .list) .nil))))
  (.cons (.ret (.con (.bool false)))
  .nil)
  .nil)
  mF)
abbrev C7:List Str:=["nodes","tellings"]
abbrev uR:List Str:=["nodes","tellings"]
abbrev vb:CB:=
  (.cons (.ret (.comp ["node"] [1] (.name 0) (.seq (.var 0)) (.yes (.bfn .all (.cons (.comp ["place","elder"] [0] (.tup (.cons (.name 0) (.cons (.name 1) .nil))) (.seq (.var 1)) .no (.cmp .Eq (.idx (.var 2) (.var 0)) (.var 1))) .nil))) (.var 0)))
  .nil)
abbrev uf:List Str:=["branches","nodes","tellings"]
abbrev mi:List Str:=["branches","nodes","tellings","told","found","one","other","places"]
abbrev kM:CB:=
  (.cons (.ret (.var 4))
  .nil)
abbrev kN:CB:=
  (.cons (.forr (.tup (.cons (.name 5) (.cons (.name 6) (.cons (.name 7) .nil)))) (.seq (.var 0))
  (.cons (.iff (.or (.cmp .In (.var 5) (.var 1)) (.cmp .In (.var 6) (.var 1)))
  (.cons (.expr (.meth1 .extend (.var 4) (.comp ["place"] [3] (.name 0) (.seq (.var 7)) (.yes (.cmp .NotIn (.var 0) (.var 1))) (.var 0))))
  .nil)
  .nil)
  .nil))
  kM)
abbrev kO:CB:=
  (.cons (.asg (.name 4) (.lst .nil))
  kN)
abbrev mw:CB:=
  (.cons (.asgc 3 (.comp ["place","elder"] [] (.tup (.cons (.name 0) (.cons (.name 1) .nil))) (.seq (.var 2)) .no (.var 0)))
  kO)
abbrev Bg:List Str:=["table","tellings"]
abbrev rY:List Str:=["table","tellings","whole","nodes","unknown"]
abbrev o7:CB:=
  (.cons (.ret (.bfn .tuple (.cons (.comp ["place","reading"] [4] (.tup (.cons (.name 0) (.cons (.name 1) .nil))) (.enumt (.idx (.var 3) (.con (.int 0)))) .no (.ite (.cmp .In (.var 0) (.var 2)) (.con .none) (.var 1))) .nil)))
  .nil)
abbrev o8:CB:=
  (.cons (.asg (.name 4) (.call "unknown_places" (.cons (.idx (.var 2) (.con (.int 1))) (.cons (.var 3) (.cons (.var 1) .nil)))))
  o7)
abbrev o9:CB:=
  (.cons (.asg (.name 3) (.call "told_nodes" (.cons (.idx (.var 2) (.con (.int 0))) (.cons (.var 1) .nil))))
  o8)
abbrev pd:CB:=
  (.cons (.asg (.name 2) (.call "tree" (.cons (.var 0) .nil)))
  o9)
abbrev td:CB:=
  (.cons (.expr (.call "need_tellings" (.cons (.var 0) (.cons (.var 1) .nil))))
  pd)
end K75
namespace K75
open L2 R Cp Lt Kc K21 K22 Lm M5 K32 K34
def TgV(H:Hp)(z:V)(q:Nat×Int):Prop:=∃a,z=V.ref a/\H a<*(.tup [.int q.1,.int q.2])
structure Tls(H:Hp)(l:Addr)(zs:List V)(ts:List (Nat×Int)):Prop where
 hl:H l<*(.lst zs)
 pr:Paired (TgV H) zs ts
def Tls.same(d:Tls H l zs ts)(s:aD H H'):Tls H' l zs ts:=(s _ _ d.hl,Paired.qN d.pr λ_ _ ⟨a,e,h⟩=>(a,e,s _ _ h,),)
def Tls.gr{T:Tb}(d:Tls H l zs ts)(g:Gr T H H')(b:Tab T H):Tls H' l zs ts:=(g.lst b d.hl,Paired.qN d.pr λ_ _ ⟨a,e,h⟩=>(a,e,g.i7 b h,),)
structure Vt(n:Nat)(ts:List (Nat×Int)):Prop where
 ok:∀q∈ts,q.1<n/\(q.2=0\/q.2=1)
 nd:(ts.map (·.1)).Nodup
def iP{a b:Type}{P:a->b->Prop}{xs:List a}{ys:List b}(h:Paired P xs ys){x:a}(e:xs[i]?<*x):∃y,ys[i]?<*y/\P x y:=K83.pr_at h e
def Bs{ks:List Key}(d:ks.Nodup):(_root_.Q.met ks).length=ks.length:=by have a:=_root_.Q.FK ks;have b:=L2.rQ d (m:=_root_.Q.met ks) λx c=>_root_.Q.ll.mpr c;lia
def NdV(K:ah)(H:Hp)(v:V)(k:List Int):Prop:=∃b,v=V.ref b/\SqT K H b (k.map V.int)
def NdV.same{k:List Int}(h:NdV K H v k)(s:aD H H'):NdV K H' v k:=let⟨b,e,q⟩:=h;(b,e,s.tup q,)
abbrev rdT(ts:List (Nat×Int))(v:List Int):Bool:=ts.all λq=>decide (v.getD q.1 0=q.2)
theorem GR{a:Type}{P:V->a->Prop}(t:a->Bool):∀{xs:List V}{ds:List a},Paired P xs ds->Paired P (((xs.zip ds).filter λp=>t p.2).map λp=>p.1) (ds.filter t)
 |_,_,.nil=>.nil
 |x::xs,d::ds,.cons h r=>by
  have b:=GR t r;rw[vq,List.filter_cons,List.filter_cons];cases c:t d with
  |true=>exact .cons h b
  |false=>exact b
def CU(K:ah):Sp:=λvs H Q _=>∃(a l:Addr)(n:Nat)(us zs:List V)(ns:List (List Int))(ts:List (Nat×Int)),vs=[.ref a,.ref l]/\SqL K H a us/\Paired (NdV K H) us ns/\(∀v∈ns,v.length=n)/\ns.length<=61/\n<=60/\Tls H l zs ts/\(∀q∈ts,q.1<n/\(q.2=0\/q.2=1))/\ts.length<=60/\
 ∀H' b ws,aD H H'->H b=none->H' b<*(.lst ws)->Paired (NdV K H') ws (ns.filter (rdT ts))->Q (.ref b) H'
def wp_thr:Sat G K (CU K) vb uR:=by
 rintro vs H a1 a0 ⟨a,l,a4,F,s,B,f,rfl,t,m,R,a5,a6,d,v,tl,q⟩;have ul:F.length=B.length:=K83.ja m;have zl:s.length=f.length:=K83.ja d.pr;unfold vb;change wpB G K _ _ _ [some (.ref a),some (.ref l)] H;ext;refine cQ (cD rfl t (wc ul dI (fF 'D') (λI n=>n.seq t) (rdT f) (λx _=>x) (λj=>∃u,j=[u,some (.ref l)]) (none,rfl,) ?_ ?_))
 .rintro i x k j H3 Rt Rf S y ⟨u,rfl⟩ g X kf;obtain⟨k',z,b,rfl,N⟩:=iP m S;rw[y]at z;cases z;have W:=R k (aH y);ext;refine cQ (cD rfl (SqL.of (g _ _ d.hl)) (cW dI (fF 'D') (λI n=>SqL.of (n _ _ (g _ _ d.hl))) (λi v _=>v=.bl (decide (k.getD (f.getD i (0,0)).1 0=(f.getD i (0,0)).2))) (λ_ _ _ _ _ h=>h) (λj=>∃u w,j=[u,w,some (.ref b)]) (none,none,rfl,) ?_ ?_));·rintro a3 a7 j J a2 hj ⟨u',w,rfl⟩ r T U;obtain⟨q',hq,c,rfl,P⟩:=iP d.pr T;obtain⟨Z,o2⟩:=v q' (aH hq);have D:=g.trans r;refine(c,_,rfl,SqT.of (D _ _ P),rfl,_,_,rfl,_,_,rfl,rfl,?_,);ext;refine .inr (.inl (b,_,_,_,rfl,rfl,D.tup N,cG (gf (by rw[W];exact Z)),lq.mpr (U _ _ _ (_,_,rfl,) (aD.refl _) ?_),));rw[getD_some hq]
  .intro bs J Y O M r Q;have e:=bool_list O M;subst e;refine(Y,_,rfl,SqL.of aq,_,rfl,?_,);have L:(((aC s.length).map λi=>decide (k.getD (f.getD i (0,0)).1 0=(f.getD i (0,0)).2)).all id)=rdT f k:=by unfold rdT;rw[zl,<-tG f (0,0) λq:Nat×Int=>decide (k.getD q.1 0=q.2)]
   rw[L];have E:=r.trans (au (o:=.lst (((aC s.length).map λi=>decide (k.getD (f.getD i (0,0)).1 0=(f.getD i (0,0)).2)).map V.bl)) Q);cases c:rdT f k with
   |true=>rw[if_pos rfl];exact X _ _ (_,rfl,) E c
   |false=>rw[if_neg 'E'];exact kf _ _ (_,rfl,) E c
 .intro H2 l2 C A;have g:=C.trans (au (o:=.lst (((F.zip B).filter λp=>rdT f p.2).map λp=>p.1)) A);exact q _ l2 _ g (C.free A) aq (GR (rdT f) (Paired.qN m λ_ _ h=>h.same g))
theorem zY:∀u v:List Int,oM (u.map L2.D.int) (v.map .int)=decide (u=v)
 | [],[]=>rfl
 | [],_::_=>rfl
 |_::_,[]=>rfl
 |a::u,b::v=>by
  show(eqD (.int a) (.int b)&&oM (u.map L2.D.int) (v.map .int))=_;rw[zY u v];have e:eqD (.int a) (.int b)=decide (a=b):=by show(a==b)=_;rw[dE,beq_iff_eq,decide_eq_true_eq]
  rw[e,dE,az,decide_eq_true_eq,decide_eq_true_eq,decide_eq_true_eq,Ky]
def Gc(u v:List Int):eqD (K83.nd1 u) (K83.nd1 v)=decide (u=v):=zY u v
theorem Hv:∀{us:List V}{ns:List (List Int)},Paired (NdV K H) us ns->fu K H (ns.map K83.nd1) us
 |_,_,.nil=>rfl
 |_,_,.cons ⟨b,e,h⟩ r=>by subst e;exact(_,_,rfl,(b,_,rfl,h,fu.ints _,),Hv r,)
theorem DO:∀ns:List (List Int),gQ (ns.map K83.nd1)<=1
 | []=>a7 _
 |v::ns=>by
  have :=DO ns;have a:hgt (K83.nd1 v)=1:=by show gQ (v.map L2.D.int)+1=1;rw[pL]
  show max (hgt (K83.nd1 v)) (gQ (ns.map K83.nd1))<=1;lia
def any_nd(a:List (List Int))(v:List Int):((a.map K83.nd1).any λd=>eqD d (K83.nd1 v))=decide (v∈a):=by
 rw[pV,dE,bQ,decide_eq_true_eq];constructor
 .rintro⟨x,b,e⟩;have :x=v:=by have e:eqD (K83.nd1 x) (K83.nd1 v)=true:=e;rw[Gc]at e;exact W0 e
  exact this▸b
 .intro h;refine(v,h,?_,);show eqD (K83.nd1 v) (K83.nd1 v)=true;rw[Gc,decide_eq_true rfl]
def Nl{us:List V}{a:List (List Int)}{v:List Int}{Q:VK}(c:SqL K H p us)(d:Paired (NdV K H) us a)(e:NdV K H x v)(q:Q (.bl (decide (v∈a))) H):gh K .In x (.ref p) H Q:=by obtain⟨b,rfl,f⟩:=e;refine .inl (.inr (p,us,_,K83.nd1 v,rfl,c,(b,_,rfl,f,fu.ints _,),Hv d,aO (DO a) 'E',?_,));rw[if_neg ao,any_nd];exact q
def TrV(K:ah)(H:Hp)(v:V)(x:M8.Tri):Prop:=∃c p q r,v=V.ref c/\SqT K H c [.ref p,.ref q,.ref r]/\SqT K H p (x.1.map V.int)/\SqT K H q (x.2.1.map V.int)/\SqT K H r (x.2.2.map V.int)
def told_is{vs:List V}(d:vs.length=m)(e:m=ts.length)(c:∀(i:Nat)(v:V),vs[i]?<*v->v=V.int (((ts.map (·.1)).getD i 0:Nat):Int)):vs=(ts.map λq=>(q.1:Int)).map V.int:=by
 rw[bT];apply cy;·rw[d,ai,e]
 .intro i b a;rw[c i _ (ae b),cw,ag,ax,ae (by rw[ai]at a;exact a)];rfl
def JH(t:Int->Bool):(((qs.map V.int).zip qs).filter λp=>t p.2).map (λp=>V.int p.2)=(qs.filter t).map V.int:=by
 conv =>rhs;rw[<-nS (l₁:=qs.map V.int) (l₂:=qs) (by rw[ai];exact ay _),Aw,bT]
 rfl
abbrev unB(ns:List (List Int))(ts:List (Nat×Int))(x:M8.Tri):List Int:=if x.1∈ns\/x.2.1∈ns then x.2.2.filter λp=>decide (p∉ts.map λq=>(q.1:Int))else[]
def spUp(K:ah):Sp:=λvs H Q _=>∃(b a l:Addr)(bs us zs:List V)(xs:List M8.Tri)(ns:List (List Int))(ts:List (Nat×Int)),vs=[.ref b,.ref a,.ref l]/\SqL K H b bs/\Paired (TrV K H) bs xs/\xs.length<=60/\(∀x∈xs,x.2.2.length<=60)/\SqL K H a us/\Paired (NdV K H) us ns/\Tls H l zs ts/\ts.length<=60/\
 ∀H' f,aD H H'->H f=none->H' f<*(.lst ((xs.flatMap (unB ns ts)).map V.int))->Q (.ref f) H'
theorem DT{a:Type}{g:a->List Int}:∀{xs:List a},(∀x∈xs,(g x).length<=m)->(xs.flatMap g).length<=xs.length*m
 | [],_=>a7 _
 |x::xs,h=>by have c:=h x aM;have d:=DT (xs:=xs) λy b=>h y (aG _ b);rw[wo,bu,aU,Ko];lia
def GS(a:List (List Int))(b:List (Nat×Int))(x:M8.Tri):(unB a b x).length<=x.2.2.length:=by
 unfold unB;split;·exact qE _ _
 .exact a7 _
def wp_up:Sat G K (spUp K) mw mi:=by
 rintro vs H a9 a8 ⟨b,a,l,bs,us,zs,xs,e,j,rfl,W,pb,b6,a0,U,pn,d,b5,q⟩;have zl:zs.length=j.length:=K83.ja d.pr;have bl:bs.length=xs.length:=K83.ja pb;unfold mw;change wpB G K _ _ _ [some (.ref b),some (.ref a),some (.ref l),none,none,none,none,none] H;ext;refine cQ (cD rfl (SqL.of d.hl) (cW dI (fF 'D') (λs F=>SqL.of (F _ _ d.hl)) (λi v _=>v=.int (((j.map (·.1)).getD i 0:Nat):Int)) (λ_ _ _ _ _ h=>h) (λI=>∃u w,I=[u,w]) (none,none,rfl,) ?_ ?_));·rintro i x I J b0 hi ⟨u,w,rfl⟩ k N a5;obtain⟨E,hq,c,rfl,Q⟩:=iP d.pr N;refine(c,_,rfl,SqT.of (k _ _ Q),rfl,_,_,rfl,_,_,rfl,rfl,_,rfl,a5 _ _ _ (_,_,rfl,) (aD.refl _) ?_,);rw[ag,ax,hq];rfl
 intro vs s A a4 hF F a3;have e4:=told_is a4 zl hF;subst e4;generalize hX:upd s A _=H2;obtain⟨t,et⟩:=cX hX a3;clear hX
 replace t:=F.trans (t)
 unfold kO;ext;refine(a7 _,λf hf=>?_,);have s3:=au (o:=.lst []) hf;have n0:H f=none:=t.free hf;unfold kN;ext;refine iT (cD rfl ((t.trans s3).seq W) (gG dI (λi O P=>aD H2 P/\P f<*(.lst (((xs.take i).flatMap (unB e j)).map V.int))/\∃u v w,O=[some (.ref b),some (.ref a),some (.ref l),some (.ref A),some (.ref f),u,v,w])
  (s3,aq,_,_,_,rfl,) (λi O P _ a6=>(t.trans a6.1).seq W) ?_ ?_))
 .rintro i y O H3 J R hi ⟨k,L,u,v,w,rfl⟩ B C T _;obtain⟨x,N,c,p,E,r,rfl,Q,hp,hq,Y⟩:=iP pb B;have b3:=a0 x (aH N);have n:=t.trans (k.trans C);have M:=C _ _ L;have S:xs.take (i+1)=xs.take i++[x]:=by rw[dO,N];rfl
  refine(c,_,rfl,n.tup Q,rfl,_,_,rfl,_,_,rfl,_,_,rfl,rfl,?_,);have a1:=Paired.qN pn λ_ _ h=>h.same n;have no:¬(x.1∈e\/x.2.1∈e)->R.nx [some (.ref b),some (.ref a),some (.ref l),some (.ref A),some (.ref f),some (.ref p),some (.ref E),some (.ref r)] J:=λz=>by refine T _ _ (k.trans C,?_,_,_,_,rfl,);rw[S,OS,wo,List.flatMap_nil,dD,show unB e j x=[]from if_neg z,dD];exact M
  have yes:x.1∈e\/x.2.1∈e->tyV K "list" (V.ref f) J/\wK (F8 K (qG 7)) (iS 0) (wI (tOp (gh K .NotIn) (qG 0) (qG 1))) (qG 0) (mO ["place"] [3]) [some (.ref b),some (.ref a),some (.ref l),some (.ref A),some (.ref f),some (.ref p),some (.ref E),some (.ref r)] J λx s=>rMm .extend (.ref f) [x] s λx s=>R.nx [some (.ref b),some (.ref a),some (.ref l),some (.ref A),some (.ref f),some (.ref p),some (.ref E),some (.ref r)] s:=λz=>by
   refine(.inl (rfl,_,SqL.of M,),?_,);refine cQ (vp rfl (n.tup Y) (wc (ds:=x.2.2) (by rw[ai]) A0 (fF (by rw[ai];lia)) (λs F=>F.tup (n.tup Y)) (λm=>decide (m∉j.map λq=>(q.1:Int))) (λ_ m=>.int m) (λI=>∃u,I=[u,some (.ref A)]) (none,rfl,) ?_ ?_))
   .rintro b4 y m I H5 Rt Rf B hm ⟨u',rfl⟩ D kt kf;rw[ax,hm]at B;cases B;ext;refine .inr (A,_,rfl,.inl (SqL.of (D _ _ ((k.trans C) _ _ et))),rfl,pM _,_,rfl,?_,);rw[if_pos rfl,BB];by_cases c:m∈j.map λq=>(q.1:Int);·rw[if_neg (by rw[decide_eq_true c];decide)];exact kf _ _ (_,rfl,) (aD.refl _) ↥c
    .rw[if_pos (by rw[decide_eq_false c];rfl)];exact kt _ _ (_,rfl,) (aD.refl _) ↥c
   .intro H5 Z D X;have e5:(((x.2.2.map V.int).zip x.2.2).filter λp=>decide (p.2∉j.map λq=>(q.1:Int))).map (λp=>V.int p.2)=(unB e j x).map V.int:=by unfold unB;rw[if_pos z];exact JH λp=>decide (p∉j.map λq=>(q.1:Int))
    have a2:f≠Z:=bL (D _ _ M) X;have b1:((xs.take i).flatMap (unB e j)).length<=3600:=by have :=DT (m:=60) (g:=unB e j) (xs:=xs.take i) λy B=>aO (GS e j y) (a0 y (rj B));rw[di]at this;have :min i xs.length*60<=60*60:=Nat.mul_le_mul 'D' (ay _);lia
    have b2:=GS e j x;rw[e5];refine(f,Z,_,_,rfl,rfl,by rw[aV a2];exact D _ _ M,aq,?_,?_,);·rw[ai,ai];exact aO (by lia:_<=4000) 'E'
    .refine T _ _ (fH (fH ((k.trans C).trans D) (((k.trans C).trans D).free X)) hf,?_,_,_,_,rfl,);rw[aq,S,OS,wo,List.flatMap_nil,dD,cH]
  ext;refine Nl (n.seq U) a1 (p,rfl,n.tup hp,) (_,rfl,?_,);by_cases c1:x.1∈e;·rw[if_pos (decide_eq_true c1),if_pos trivial];exact yes (.inl c1)
  .rw[if_neg ↥c1];refine Nl (n.seq U) a1 (E,rfl,n.tup hq,) (_,rfl,?_,);by_cases c2:x.2.1∈e;·rw[if_pos (decide_eq_true c2)];exact yes (.inr c2)
   .rw[if_neg ↥c2];exact no λz=>z.elim c1 c2
 .rintro O H3 ⟨k,L,u,v,w,rfl⟩;unfold kM;ext;rw[bl,fj]at L;exact q _ _ (t.trans k) n0 L
def plc_len(n:Nat)(P:Nat->Bool):(M5.plc n P).length<=n:=by unfold M5.plc;rw[ai];exact aO (qE _ _) (by rw[bU];exact ay _)
end K75
namespace K63
open R
abbrev vC:List Str:=["table","tellings"]
abbrev nq:List Str:=["table","tellings","count"]
abbrev lr:CB:=
  (.cons (.iff (.not (.call "are_tellings" (.cons (.var 1) (.cons (.var 2) .nil))))
  (.cons (.rais "NoTelling" (.cons (.con (.str "these are no tellings of the table")) .nil))
  .nil)
  .nil)
  .nil)
abbrev lu:CB:=
  (.cons (.iff (.cmp .Eq (.bfn .len (.cons (.var 0) .nil)) (.con (.int 0)))
  (.cons (.rais "NoTable" (.cons (.con (.str "a table without copies has no node")) .nil))
  .nil)
  .nil)
  lr)
abbrev ny:CB:=
  (.cons (.asg (.name 2) (.call "place_count" (.cons (.var 0) .nil)))
  lu)
end K63
namespace K63
open L2 R Cp Lt Kc K21 K22 Lm K23 K02 K32 K34 K75
inductive Th where
 |at(v:V)
 |tp (vs:List V)
 |ls (vs:List V)
abbrev ThV(H:Hp)(x:V):Th->Prop
 |.at v=>x=v
 |.tp vs=>∃a,x=.ref a/\H a<*(.tup vs)
 |.ls vs=>∃a,x=.ref a/\H a<*(.lst vs)
def Atm(v:V):Prop:=v=.non\/(∃b,v=.bl b)\/(∃i,v=.int i)\/∃z,v=.str z
abbrev Th.ok:Th->Prop
 |.at v=>Atm v
 |.tp vs=>∀v∈vs,Atm v
 |.ls vs=>∀v∈vs,Atm v
def dW{t:Th}:gJ (λv H=>ThV H v t):=λv H b s h=>by
 cases t with
 |«at» w=>exact h
 |tp vs=>exact let⟨a,e,q⟩:=h;(a,e,s _ _ q,)
 |ls vs=>exact let⟨a,e,q⟩:=h;(a,e,s _ _ q,)
def Atm.kn(h:Atm v):Known H v:=by
 rcases h with rfl|⟨b,rfl⟩ |⟨i,rfl⟩ |⟨z,rfl⟩;·exact FV
 .exact kn_bl
 .exact By
 .exact xS
def th_kn{t:Th}(h:ThV H x t)(o:t.ok):Known H x:=by
 cases t with
 |«at» v=>rw[show x=v from h];exact Atm.kn o
 |tp vs=>obtain⟨a,rfl,e⟩:=h;exact qO e
 |ls vs=>obtain⟨a,rfl,e⟩:=h;exact uu e
abbrev whV:V->Int
 |.int i=>i
 |_=>0
abbrev tgT(n:Nat):Th->Bool
 |.tp [p,e]=>isWhole p&&(decide (0<=whV p/\whV p<n)&&bF e)
 |_=>false
def Lf:Sp:=λvs H Q _=>∃(x:V)(n:Nat)(t:Th),vs=[x,.int n]/\ThV H x t/\t.ok/\∀H',aD H H'->Q (.bl (tgT n t)) H'
def wp_tgA(k:G.fn "is_whole" 1<*(spB isWhole,[]))(l:G.fn "is_reading" 1<*(spB bF,[])):
  Sat G K Lf sV rW:=by
 rintro h H Q E ⟨x,n,t,rfl,g,o,q⟩;unfold sV;change wpB G K _ _ _ [some x,some (.int n)] H;ext;refine isi (th_kn g o) .tuple (_,rfl,?_,);cases t with
 |«at» v=>
  rw[show jV (tyName H x) (Ty.t .tuple)=false by rw[show x=v from g];rcases o with rfl|⟨b,rfl⟩ |⟨i,rfl⟩ |⟨z,rfl⟩<;>rfl,if_pos (by rfl)]
  exact q _ (aD.refl _)
 |ls h=>obtain⟨a,rfl,c⟩:=g;rw[show tyName H (.ref a)="list" by show iD (H a)=_;rw[c];rfl,if_pos 'E'];exact q _ (aD.refl _)
 |tp h=>
  obtain⟨a,rfl,c⟩:=g;rw[show tyName H (.ref a)="tuple" by show iD (H a)=_;rw[c];rfl,if_neg 'E'];refine .inl (a,_,rfl,.inr (SqT.of c),ME.mpr (_,rfl,?_,),)
  match h,c,o,q with
  | [],_,_,q=>exact q _ (aD.refl _)
  | [_],_,_,q=>exact q _ (aD.refl _)
  |_::_::_::r,_,_,q=>rw[if_pos (by simp;lia)];exact q _ (aD.refl _)
  | [p,e],c,o,q=>
   rw[if_neg 'F'];have s:Atm p:=o p 'F';have m:Atm e:=o e 'F';have d:∀j,aD H j->Q (.bl (isWhole p&&(decide (0<=whV p/\whV p<n)&&bF e))) j:=q;unfold oY;ext;refine(_,_,k,.inr (.inl (a,_,0,_,rfl,rfl,SqT.of c,rfl,p,rfl,s.kn,λw f=>(_,rfl,?_,),)),);cases p with
   |int i=>
    rw[show(!isWhole (.int i))=false from rfl,if_neg 'E'];refine .inr (.inl (a,_,0,_,rfl,rfl,SqT.of (f _ _ c),rfl,?_,));ext;by_cases c0:0<=i
    .rw[if_pos (decide_eq_true c0)];by_cases c1:i<n;·rw[decide_eq_true c1,if_neg 'E'];rw[show(isWhole (.int i)&&(decide (0<=whV (.int i)/\whV (.int i)<n)&&bF e))=bF e by rw[decide_eq_true (show 0<=whV (.int i)/\whV (.int i)<n from(c0,c1,))];rfl]at d;unfold oX;ext;exact(_,_,l,.inr (.inl (a,_,1,_,rfl,rfl,SqT.of (f _ _ c),rfl,e,rfl,m.kn,λy u=>d _ (f.trans u),)),)
     .rw[decide_eq_false c1,if_pos 'E'];rw[decide_eq_false (show ¬(0<=whV (.int i)/\whV (.int i)<n)from λz=>c1 z.2)]at d;exact d _ f
    .rw[if_neg (λz=>c0 (W0 z)),if_pos 'E'];rw[decide_eq_false (show ¬(0<=whV (.int i)/\whV (.int i)<n)from λz=>c0 z.1)]at d;exact d _ f
   |_=>exact d _ f
abbrev plK:Th->Key
 |.tp (p::_)=>.inl (whV p)
 |_=>.inl 0
abbrev atT(n:Nat)(ts:List Th):Bool:=ts.all (tgT n)&&decide ((_root_.Q.met (ts.map plK)).length=ts.length)
abbrev TlX(H:Hp)(y:V):Option (List Th)->Prop
 |some ts=>∃l zs,y=.ref l/\H l<*(.lst zs)/\Paired (ThV H) zs ts/\ts.length<=2/\∀t∈ts,t.ok
 |none=>y=.non\/∃a,y=.ref a/\(H a<*(.dK [])\/H a<*(.tup []))
def TlX.same{o:Option (List Th)}(h:TlX H y o)(s:aD H H'):TlX H' y o:=by
 cases o with
 |some ts=>exact let⟨l,zs,e,h1,h2,h3,h4⟩:=h;(l,zs,e,s _ _ h1,Paired.qN h2 λ_ _ h=>dW _ _ _ s h,h3,h4,)
 |none=>exact h.imp id λ⟨a,e,h⟩=>(a,e,h.imp (s _ _) (s _ _),)
abbrev atX(n:Nat):Option (List Th)->Bool
 |some ts=>atT n ts
 |none=>false
def Lj:Sp:=λvs H Q _=>∃(y:V)(n:Nat)(o:Option (List Th)),vs=[y,.int n]/\TlX H y o/\∀H',aD H H'->Q (.bl (atX n o)) H'
def KY{t:Th}(h:tgT n t=true):∃p e,t=.tp [.int p,e]/\plK t=.inl p:=by
 cases t with
 |«at» v=>cases h
 |ls vs=>cases h
 |tp vs=>
  match vs,h with
  | [],h=>cases h
  | [_],h=>cases h
  |_::_::_::_,h=>cases h
  | [p,e],h=>
   cases p with
   |int i=>exact(i,e,rfl,rfl,)
   |_=>cases h
def wp_atA(U:G.fn "is_telling" 2<*(Lf,[])):Sat G K Lj ph ou:=by
 rintro r H Q a4 ⟨y,n,o,rfl,d,q⟩;unfold ph;change wpB G K _ _ _ [some y,some (.int n)] H;ext;cases o with
 |none=>
  have kn:Known H y/\jV (tyName H y) (Ty.t .list)=false:=by
   rcases d with rfl|⟨a,rfl,h|h⟩;·exact(FV,rfl,)
   .exact⟨kn_dK h,by rw[show tyName H (.ref a)="dict" by show iD (H a)=_;rw[h];rfl];rfl⟩
   .exact⟨qO h,by rw[show tyName H (.ref a)="tuple" by show iD (H a)=_;rw[h];rfl];rfl⟩
  refine isi kn.1 .list (_,rfl,?_,);rw[kn.2,if_pos (by rfl)];exact q _ (aD.refl _)
 |some ts=>
  obtain⟨l,m,rfl,f,A,t2,ok⟩:=d;have D:m.length=ts.length:=K83.ja A;have q:∀E,aD H E->Q (.bl (atT n ts)) E:=q;refine isi (uu f) .list (_,rfl,?_,);rw[show tyName H (.ref l)="list" by show iD (H l)=_;rw[f];rfl,if_neg 'E'];unfold mF;ext;refine cQ (cD rfl (SqL.of f) (cW dI (fF 'D') (λN B=>SqL.of (B _ _ f)) (λi v _=>v=.bl (tgT n (ts.getD i (.at .non)))) (λ_ _ _ _ _ h=>h) (λp=>∃u,p=[u,some (.int n)]) (none,rfl,) ?_ ?_));·rintro i x p P R hi ⟨u,rfl⟩ b z k;obtain⟨t,g,C⟩:=iP A z;ext;exact⟨_,_,U,x,n,t,rfl,dW _ _ _ b C,ok t (aH g),λs j=>k _ _ _ (_,rfl,) j (by rw[ag,g];rfl)⟩
  intro r O l2 a2 X s2 a0;have e:r=((aC m.length).map λi=>tgT n (ts.getD i (.at .non))).map V.bl:=by rw[<-a2];exact bool_list rfl X
  subst e;refine(l2,_,rfl,SqL.of aq,_,rfl,?_,);have S:(((aC m.length).map λi=>tgT n (ts.getD i (.at .non))).all id)=ts.all (tgT n):=by
   rw[D,wq];apply dE.mpr;rw[bj,bj];constructor;·intro h t g;obtain⟨i,hi⟩:=bN.mp g;have :=h i (bq.mpr (aF.mp hi).1);simp only[Ax,ag,hi]at this;exact this
   .intro h i hi;have hi:=bq.mp hi;simp only[Ax,ag,ae hi];exact h _ (aR hi)
  rw[S];have b:=s2.trans (au (o:=.lst (((aC m.length).map λi=>tgT n (ts.getD i (.at .non))).map V.bl)) a0);generalize upd O l2 (.lst (((aC m.length).map λi=>tgT n (ts.getD i (.at .non))).map V.bl))=P at b;unfold atT at q;cases ea:ts.all (tgT n)with
  |false=>rw[ea,cU]at q;rw[if_pos (by rfl)];exact q _ b
  |true=>
   rw[ea,fh]at q;rw[if_neg 'E'];rw[bj]at ea;unfold mE;ext;refine cQ (cD rfl (SqL.of (b _ _ f)) (cW dI (fF 'D') (λN B=>SqL.of (B _ _ (b _ _ f))) (λi v _=>v=kV (plK (ts.getD i (.at .non)))) (λ_ _ _ _ _ h=>h) (λp=>∃u w,p=[u,w]) (none,none,rfl,) ?_ ?_));·rintro i x p s R hi ⟨u,w,rfl⟩ j z k;obtain⟨t,g,C⟩:=iP A z;obtain⟨a5,e,rfl,ep⟩:=KY (ea t (aH g));obtain⟨a,rfl,Z⟩:=C;refine(a,_,rfl,SqT.of ((b.trans j) _ _ Z),rfl,_,_,rfl,_,_,rfl,rfl,_,rfl,k _ _ _ (_,_,rfl,) (aD.refl _) ?_,);rw[ag,g];rfl
   intro r s J a3 Y j a1;have T:r=(ts.map plK).map kV:=by
    rw[bT];apply cy;·rw[a3,ai,D]
    .intro i W F;rw[Y i _ (ae W),cw,ag,ae (by rw[ai]at F;exact F)];rfl
   subst T;refine(J,_,rfl,SqL.of aq,by rw[ai];lia,λc I=>?_,);have L:=b.trans (j.trans (au (o:=.lst ((ts.map plK).map kV)) a1));generalize upd s J (.lst ((ts.map plK).map kV))=H5 at L I;refine .inr (.inr (c,_,rfl,aq,?_,));have M:=L.trans (au (o:=_root_.Q.Fd c (_root_.Q.met (ts.map plK)).length) I);refine .inl (l,_,rfl,.inl (SqL.of (M _ _ f)),lq.mpr ?_,);rw[D,show decide (((_root_.Q.met (ts.map plK)).length:Int)=(ts.length:Int))=decide ((_root_.Q.met (ts.map plK)).length=ts.length)from decide_eq_decide.mpr (λh=>by lia,λh=>by lia,)];exact q _ M
def CV(C CO:Addr):Sp:=λvs H Q E=>∃(x y:V)(o:Option (List Th)),vs=[x,y]/\Kn4 H x/\TlX H y o/\
 (((bC H x=false\/∃t,x=.ref t/\H t<*(.lst []))/\∀H',aD H H'->E (.ref C) none H')\/
  (bC H x=true/\(∃t c cs,x=.ref t/\H t<*(.lst (c::cs)))/\((atX (count H x) o=false/\∀H',aD H H'->E (.ref CO) none H')\/(atX (count H x) o=true/\∀H',aD H H'->Q .non H'))))
def wp_ntA{CO:Addr}(j:G.fn "place_count" 1<*(vP C,[]))(k:G.fn "are_tellings" 2<*(Lj,[]))(v1:G.val "NoTable"<*(.ref C))(f:XC K C)(n:G.val "NoTelling"<*(.ref CO))(g:XC K CO):
  Sat G K (CV C CO) ny nq:=by
 rintro s H Q E ⟨x,y,o,rfl,l,m,h⟩;unfold ny;change wpB G K _ _ _ [some x,some y,none] H;ext;refine(_,_,j,x,rfl,l,λe i a=>?_,λe i a=>?_,)
 .unfold lu;ext;rcases h with⟨z|⟨t,rfl,b⟩,q⟩ |⟨_,⟨t,c,r,rfl,b⟩,h⟩;·rw[e]at z;cases z
  .refine .inl (t,_,rfl,.inl (SqL.of (a _ _ b)),lq.mpr (_,rfl,?_,),);rw[if_pos (by rfl)];exact(C,v1,f.1,f.2,rM,q _ a,)
  .refine .inl (t,_,rfl,.inl (SqL.of (a _ _ b)),lq.mpr (_,rfl,?_,),);rw[if_neg (by simp;lia)];unfold lr;ext;refine(_,_,k,y,_,o,rfl,m.same a,λp d=>(_,rfl,?_,),);rcases h with⟨z,q⟩ |⟨z,q⟩;·rw[z,if_pos (by rfl)];exact(CO,n,g.1,g.2,rM,q _ (a.trans d),)
   .rw[z,if_neg 'E'];exact q _ (a.trans d)
 .rcases h with⟨_,q⟩ |⟨z,_⟩;·exact q _ a
  .rw[e]at z;cases z
section
variable {dl p:Addr}{bs vs:List V}
def oh:aD (del H dl) H:=λb o e=>by
 by_cases c:b=dl;·rw[c,jB]at e;cases e
 .rw[fS c]at e;exact e
end
section
variable {G:Gam}{E:XS}{dl:Addr}{bs:List V}
def NoT(n:Nat)(y:V)(H:Hp):Prop:=∃o,TlX H y o/\atX n o=false
def CJ:gJ (NoT n):=λ_ _ _ s ⟨o,h,e⟩=>(o,h.same s,e,)
def gY{e:CE}{a:CL}{vs:List V}(h:Mk G K E σ H e (Is v))(i:MkL G K E σ H a (λws _=>ws=vs)):MkL G K E σ H (.cons e a) (λws _=>ws=v::vs):=λb s Q q=>
 mn h hV i b s Q λws c t ⟨j,r,d,f,g⟩=>q _ c t (by rw[d,show j=v from f,g])
def MN{i:Int}:Mk G K E σ H (.un .USub (.con (.int i))) (Is (.int (-i))):=λa s Q q=>(i,rfl,q _ a (aD.refl _) rfl,)
def pq{a:V}(h:Atm a):∀v∈[a],Atm v:=λv b=>by rw[aI.mp b];exact h
def pk{a:V}{r:List V}(h:Atm a)(k:∀v∈r,Atm v):∀v∈a::r,Atm v:=λv hv=>by
 rcases aA.mp hv with rfl|hv;·exact h
 .exact k v hv
def eX{i:Int}:Atm (.int i):=.inr (.inr (.inl (i,rfl,)))
def atm_b{b:Bool}:Atm (.bl b):=.inr (.inl (b,rfl,))
def atm_s:Atm (.str z):=.inr (.inr (.inr (z,rfl,)))
def Om:Atm .non:=.inl rfl
end
section
variable {G:Gam}{T:Tb}{CE C CO CC CT:Addr}
def vO{t:Addr}(d:Tn H t nf n cs rows)(ne:cs≠[]):∃t' c cs',V.ref t=.ref t'/\H t'<*(.lst (c::cs')):=by
 cases cs with
 |nil=>exact absurd rfl ne
 |cons c cs'=>exact(t,c,cs',rfl,d.et,)
def hO(k:Kn4 H x)(e:bC H x=true)(s:aD H H1):bC H1 x=true/\count H1 x=count H x:=by
 have i:bC H1 x=true:=by rw[i8 k s];exact e
 refine(i,?_,);obtain⟨a,d,rfl,c,l,j,m,n⟩:=cM e;have f:cS (H1 a)<*d:=by
  cases eh:H a with
  |none=>rw[eh]at c;cases c
  |some o=>rw[s _ _ eh,<-eh];exact c
 cases d with
 |nil=>show(match cS (H1 a)with |some (y::_)=>bE H1 y|_=>0)=(match cS (H a)with |some (y::_)=>bE H y|_=>0);rw[c,f]
 |cons y d=>show(match cS (H1 a)with |some (y::_)=>bE H1 y|_=>0)=(match cS (H a)with |some (y::_)=>bE H y|_=>0);rw[c,f];obtain⟨b,r,rfl,g,h,_⟩:=iV (j y 'F');show bE H1 (.ref b)=bE H (.ref b);rw[Ia (s _ _ g) (s _ _ h),Ia g h]
def tree_no{E:XK}{Q:VK}(d:Kn4 H x)(e:bC H x=true)(m:¬NoC (rowsOf H x) (count H x))(r:∀H' (i j:Nat)(l dd:Addr),Gr T H H'->nH (rowsOf H x) (count H x) i j->H' l<*(.tup ((KP.map (mh (rowsOf H x) i j)).map V.str))->H' dd<*(xdO dd (zh (.int i) (.int j) (.ref l)))->E (.ref CC) (some dd) H')(s:aD H H1)(tb:Tab T H1):K32.wO C CC T [x] H1 Q E:=by obtain⟨h,b⟩:=hO d e s;have a:=(jx e s).1;refine⟨x,rfl,d.same s,tb,λz=>by(rw[h]at z;cases z),λ_=>(λn=>absurd (by rw[a,b]at n;exact n) m,λH' i j l dd g f c k=>?_,)⟩;rw[a,b]at f;rw[a]at c;exact r H' i j l dd ((Gr.of s).trans g) f c k
theorem pr_of{a c:Type}{P:a->c->Prop}:∀{xs:List a},(∀x∈xs,∃y,P x y)->∃ys,Paired P xs ys
 | [],_=>([],.nil,)
 |x::xs,h=>
  let⟨y,hy⟩:=h x 'F'
  let⟨ys,hs⟩:=pr_of (xs:=xs) λz b=>h z (aG _ b)
  (y::ys,.cons hy hs,)
theorem L8{a b:Type}{P:a->b->Prop}:∀{xs:List a}{ys:List b},Paired P xs ys->∀y∈ys,∃x,P x y
 |_,_,.nil,_,h=>nomatch h
 |_,_,.cons h t,y,hy=>by
  rcases aA.mp hy with rfl|hy;·exact(_,h,)
  .exact L8 t y hy
structure Tr(K:ah)(H:Hp)(nl bl:Addr)(nys bys:List V)(ns:List (List Int))(xs:List M8.Tri)(n:Nat):Prop where
 en:H nl<*(.lst nys)
 pn:Paired (NdV K H) nys ns
 ne:ns≠[]
 ln:∀v∈ns,v.length=n
 l61:ns.length<=61
 eb:H bl<*(.lst bys)
 pb:Paired (TrV K H) bys xs
 l60:xs.length<=60
 lp:∀x∈xs,x.2.2.length<=60
def El(a:List (List Int)):a.filter (rdT [])=a:=OT.mpr λ_ _=>rfl
end
end K63
namespace K75
open R
abbrev De:List Str:=["node","other","known"]
abbrev uW:List Str:=["node","other","known"]
abbrev vm:CB:=
  (.cons (.ret (.bfn .all (.cons (.comp ["here","there","first"] [] (.tup (.cons (.name 0) (.cons (.name 1) (.cons (.name 2) .nil)))) (.zip3 (.var 0) (.var 1) (.var 2)) .no (.or (.cmp .Eq (.var 1) (.var 0)) (.cmp .Eq (.var 1) (.var 2)))) .nil)))
  .nil)
abbrev p_comes:List Str:=["copy","other","known"]
abbrev Hy:List Str:=["copy","other","known"]
abbrev Ah:CB:=
  (.cons (.ret (.call "is_behind" (.cons (.idx (.var 0) (.con (.int 1))) (.cons (.idx (.var 1) (.con (.int 1))) (.cons (.var 2) .nil)))))
  .nil)
abbrev Im:CB:=
  (.cons (.iff (.cmp .Eq (.idx (.var 0) (.con (.int 1))) (.idx (.var 1) (.con (.int 1))))
  (.cons (.ret (.cmp .Lt (.idx (.var 1) (.con (.int 0))) (.idx (.var 0) (.con (.int 0)))))
  .nil)
  .nil)
  Ah)
abbrev C8:List Str:=["table","tellings"]
abbrev uS:List Str:=["table","tellings","known","copies"]
abbrev qj:CB:=
  (.cons (.ret (.comp ["copy"] [2,3] (.name 0) (.seq (.var 3)) (.yes (.bfn .any (.cons (.comp ["other"] [0,1] (.name 0) (.seq (.var 2)) .no (.call "comes" (.cons (.var 1) (.cons (.var 0) (.cons (.var 2) .nil))))) .nil))) (.idx (.var 0) (.con (.int 0)))))
  .nil)
abbrev qk:CB:=
  (.cons (.asg (.name 3) (.call "table_list" (.cons (.var 0) .nil)))
  qj)
abbrev vc:CB:=
  (.cons (.asg (.name 2) (.call "first_read" (.cons (.var 0) (.cons (.var 1) .nil))))
  qk)
end K75
namespace K75
open L2 R Cp Lt Kc K21 K22 Lm M5 K32 K34
abbrev cps(nf:Nat->Str)(rows:List (List Int))(m:Nat):List (Str×List Int):=(aC m).map λi=>(nf i,rows.getD i [])
abbrev sR(nf:Nat->Str)(rows:List (List Int))(m:Nat):List (Str×List Int):=_root_.Q.sortBy ("",[]) ((cps nf rows m).map (·.1)) (cps nf rows m)
def CpV(H:Hp)(z:V)(r:Str×List Int):Prop:=∃b a,z=V.ref b/\H b<*(.tup [.str r.1,.ref a])/\H a<*(.tup (r.2.map V.int))
section
variable {t:Addr}{nf:Nat->Str}
def Tn_nd(d:Tn H t nf n ys rows):((cps nf rows ys.length).map (·.1)).Nodup:=by unfold cps;rw[bT,lY,gL];refine iB.mpr λi j hi a b z=>?_;rw[bU]at hi a;rw[vx,vx]at z;exact absurd (d.inj i j hi a z) 'D'
def G7(d:Tn H t nf n ys rows):(sR nf rows ys.length).Perm (cps nf rows ys.length):=_root_.Q.dY _ (Tn_nd d) 'F'
def sR_mem(d:Tn H t nf n ys rows){r:Str×List Int}:r∈sR nf rows ys.length↔∃i,i<ys.length/\r=(nf i,rows.getD i []):=by
 rw[(G7 d).mem_iff];unfold cps;rw[aN];constructor;·rintro⟨i,hi,rfl⟩;exact(i,bq.mp hi,rfl,)
 .rintro⟨i,hi,rfl⟩;exact(i,bq.mpr hi,rfl,)
def Lz(d:Tn H t nf n ys rows):(sR nf rows ys.length).length=ys.length:=by rw[(G7 d).length_eq];unfold cps;rw[ai,bU]
def N8(d:Tn H t nf n ys rows):ys.map (cd H)=(cps nf rows ys.length).map λr=>(r.1,r.2.map V.int):=by
 apply cy;·unfold cps;simp
 .intro i a g;rw[ai]at a;obtain⟨b,r,e,c,f⟩:=d.row i ys[i] (ae a);rw[cw,cw,e,i9 c f];unfold cps;rw[cw,vx]
def rows_is(d:Tn H t nf n ys rows):rowsOf H (.ref t)=(sR nf rows ys.length).map λr=>(r.1,r.2.map V.int):=by
 unfold rowsOf;rw[jZ (show cS (H t)<*ys by rw[d.et];rfl)];rw[_root_.Q.wW,N8 d];unfold sR;rw[_root_.Q.wW];have e:ys.map (aK H)=(cps nf rows ys.length).map (·.1):=by have :=congrArg (List.map nQ) (N8 d);rw[bT,bT]at this;exact this
 rw[e];rfl
def tl_c{T:Tb}{Q:VK}{E:XK}(d:Tn H t nf n ys rows)(tb:Tab T H)(q:∀H' l zs,Gr T H H'->H l=none->H' l<*(.lst zs)->Paired (CpV H') zs (sR nf rows ys.length)->Q (.ref l) H'):qI C T [.ref t] H Q E:=by
 refine⟨.ref t,rfl,d.tab.1,tb,λ_ H' l zs gr x w i=>q H' l zs gr x w ?_,λz=>by(rw[d.tab.2.1]at z;cases z)⟩;have f:=rows_is d;unfold rowsOf at f;have p:(srt H (.ref t)).length=(sR nf rows ys.length).length:=by
  have :=congrArg eP f
  rwa [ai,ai]at this
 refine K34.pr_mk (by rw[i.1,p]) λj z r u k=>?_;obtain⟨b,a,rfl,g,h⟩:=i.2 j z u;have s:j<(srt H (.ref t)).length:=by rw[p];exact(aF.mp k).1
 have m:((srt H (.ref t)).map (cd H))[j]?<*(r.1,r.2.map V.int):=by rw[f,ax,k];rfl
 rw[ax,ae s]at m;have o:cd H (srt H (.ref t))[j]=(r.1,r.2.map V.int):=bo m;have v:(srt H (.ref t)).getD j .non=(srt H (.ref t))[j]:=by rw[ag,ae s];rfl
 rw[v]at g h;have c:=congrArg nQ o;have e:=congrArg Prod.snd o;have c:aK H (srt H (.ref t))[j]=r.1:=c;have e:me H (srt H (.ref t))[j]=r.2.map V.int:=e;rw[c]at g;rw[e]at h;exact(b,a,rfl,g,h,)
end
abbrev bhd(x y:List Int)(ks:List V):Bool:=(aC x.length).all λi=>decide (y.getD i 0=x.getD i 0)||decide (ks.getD i .non=.int (y.getD i 0))
def Kd(k:V):Prop:=k=.non\/∃i:Int,k=.int i
def spIb(K:ah):Sp:=λvs H Q _=>∃(a b c:Addr)(x y:List Int)(ks:List V),vs=[.ref a,.ref b,.ref c]/\SqT K H a (x.map V.int)/\SqT K H b (y.map V.int)/\SqT K H c ks/\y.length=x.length/\ks.length=x.length/\x.length<=60/\(∀k∈ks,Kd k)/\∀H',aD H H'->Q (.bl (bhd x y ks)) H'
def Lu(m:ys.length=xs.length)(n:zs.length=xs.length):tJ (Itz3 K a b c) xs.length (λi v H=>∃p x y z,v=.ref p/\H p<*(.tup [x,y,z])/\xs[i]?<*x/\ys[i]?<*y/\zs[i]?<*z) (λH=>SqT K H a xs/\SqT K H b ys/\SqT K H c zs) where
 go:=λi H h hi=>(xs,ys,zs,xs[i],ys[i]''D',zs[i]''D',h.1,h.2.1,h.2.2,ae _,ae _,ae _,)
 stop:=λi H h hi=>(xs,h.1,hi,)
 yld:=λi H v l h hi y=>by obtain⟨p,x,y,z,f,e,d,g,j,k⟩:=y;subst e d;exact((p,x,y,z,rfl,aq,g _ h.1,j _ h.2.1,k _ h.2.2,),au f,)
def eq_kd{i:Int}{k:V}{Q:VK}(h:Kd k)(q:Q (.bl (decide (k=.int i))) H):gh K .Eq (.int i) k H Q:=by
 rcases h with rfl|⟨j,rfl⟩;·refine(.int i,.non,rfl,rfl,a7 _,?_,);rw[decide_eq_false (by intro z;cases z)]at q;exact q
 .refine lq.mpr ?_;rw[show decide (i=j)=decide (V.int j=V.int i) by rw[dE,decide_eq_true_eq,decide_eq_true_eq];exact(λz=>by rw[z],λz=>(V.int.inj z).symm,)];exact q
def wp_ib:Sat G K (spIb K) vm uW:=by
 rintro M H Q E ⟨a,b,c,x,y,d,rfl,g,j,k,l1,l2,S,J,q⟩;unfold vm;change wpB G K _ _ _ [some (.ref a),some (.ref b),some (.ref c)] H;ext;refine cQ (_,rfl,_,rfl,_,rfl,a,b,c,rfl,(_,g,),(_,j,),(_,k,),?_,);refine cW (Lu (xs:=x.map V.int) (ys:=y.map V.int) (zs:=d) (by simp[l1]) (by simp[l2])) (fF (by rw[ai];lia)) (λN f=>(f.tup g,f.tup j,f.tup k,)) (λi v _=>v=.bl (decide (y.getD i 0=x.getD i 0)||decide (d.getD i .non=.int (y.getD i 0)))) (λ_ _ _ _ _ h=>h) (λt=>∃u v w,t=[u,v,w]) (none,none,none,rfl,) ?_ ?_
 .rintro i z t P R hi ⟨u,v,w,rfl⟩ T ⟨p,U,W,r,rfl,F,n,o,m⟩ s;rw[ai]at hi;rw[gf hi]at n;rw[gf 'D']at o;cases n;cases o;have A:d.getD i .non=r:=getD_some m;refine(p,_,rfl,SqT.of F,rfl,_,_,rfl,_,_,rfl,_,_,rfl,rfl,?_,);ext;by_cases z1:y.getD i 0=x.getD i 0;·rw[if_pos (decide_eq_true z1)];exact s _ _ _ (_,_,_,rfl,) (aD.refl _) (by rw[decide_eq_true z1];rfl)
  .rw[if_neg ↥z1];refine eq_kd (J r (aH m)) (s _ _ _ (_,_,_,rfl,) (aD.refl _) ?_);rw[decide_eq_false z1,A];rfl
 .intro M O l I C L D;have e:=bool_list I C;subst e;refine(l,_,rfl,SqL.of aq,?_,);have B:(((aC (x.map V.int).length).map λi=>decide (y.getD i 0=x.getD i 0)||decide (d.getD i .non=.int (y.getD i 0))).all id)=bhd x y d:=by unfold bhd;rw[wq,ai];rfl
  rw[B];exact q _ (L.trans (au D))
abbrev cmD(r o:Str×List Int)(ks:List V):Bool:=if r.2=o.2 then _root_.Q.tlt o.1 r.1 else bhd r.2 o.2 ks
def CpT(K:ah)(H:Hp)(z:V)(r:Str×List Int):Prop:=∃b a,z=V.ref b/\SqT K H b [.str r.1,.ref a]/\SqT K H a (r.2.map V.int)
def spCm(K:ah):Sp:=λvs H Q _=>∃(v w:V)(c:Addr)(r o:Str×List Int)(ks:List V),vs=[v,w,.ref c]/\CpT K H v r/\CpT K H w o/\SqT K H c ks/\o.2.length=r.2.length/\ks.length=r.2.length/\r.2.length<=60/\(∀k∈ks,Kd k)/\∀H',aD H H'->Q (.bl (cmD r o ks)) H'
def wp_cm(j:G.fn "is_behind" 3<*(spIb K,[])):Sat G K (spCm K) Im Hy:=by
 rintro t H Q E ⟨v,w,c,r,o,m,rfl,⟨p,a,rfl,e,g⟩,⟨d,b,rfl,f,h⟩,k,l1,l2,n,l,q⟩;unfold Im;change wpB G K _ _ _ [some (.ref p),some (.ref d),some (.ref c)] H;ext;refine .inr (.inl (p,_,1,_,rfl,rfl,e,rfl,.inr (.inl (d,_,1,_,rfl,rfl,f,rfl,?_,)),));refine(K83.nd1 r.2,K83.nd1 o.2,(a,_,rfl,g,fu.ints _,),(b,_,rfl,h,fu.ints _,),?_,_,rfl,?_,);·show gQ (r.2.map L2.D.int)+1<=30;rw[pL];decide
 rw[Gc];by_cases z:r.2=o.2;·rw[if_pos (decide_eq_true z)];refine .inr (.inl (d,_,0,_,rfl,rfl,f,rfl,.inr (.inl (p,_,0,_,rfl,rfl,e,rfl,.inr (_,_,rfl,rfl,?_,),)),));have :=q H (aD.refl H);unfold cmD at this;rw[if_pos z]at this;exact this
 .rw[if_neg ↥z];unfold Ah;ext;refine(_,_,j,.inr (.inl (p,_,1,_,rfl,rfl,e,rfl,.inr (.inl (d,_,1,_,rfl,rfl,f,rfl,a,b,c,r.2,o.2,m,rfl,g,h,k,l1,l2,n,l,λi s=>?_,)),)),);have :=q i s;unfold cmD at this;rw[if_neg z]at this;exact this
end K75
namespace K61
open K75
abbrev tw(ts:List (Nat×Int))(i j:Nat):List (Nat×Int):=[ts.getD i (0,0),ts.getD j (0,0)]
structure Fp(ns:List (List Int))(ts:List (Nat×Int))(i j:Nat):Prop where
 ij:i<=j
 jl:j<ts.length
 no:ns.filter (rdT (tw ts i j))=[]
 ft:∀i' j',i'<=j'->j'<ts.length->i'<i\/i'=i/\j'<j->ns.filter (rdT (tw ts i' j'))≠[]
end K61
namespace Bt
open L2 R Cp Lt Kc K21 K22
def Nn{ks:List (List Int)}(h:_root_.Q.IntKeys H ys ks):∀j,j<ks.length->∃a,ys[j]?<*(V.ref a)/\H a<*(.tup ((ks.getD j []).map V.int)):=by
 unfold _root_.Q.IntKeys at h
 induction h with
 |nil=>intro j b;exact absurd b (fG _)
 |cons r t ih=>
  intro j b;cases j with
  |zero=>obtain⟨a,rfl,f⟩:=r;exact(a,rfl,f,)
  |succ j=>exact ih j ↥b
end Bt
namespace K62
open L2 R Cp Lt Kc K21 K22 Lm K32 K34 K75
def IP{ks:List (List Int)}(c:ks.Nodup)(h:_root_.Q.IntKeys H ys ks):Paired (NdV K H) (_root_.Q.gz .non ks ys) (M8.srtN ks):=by
 unfold M8.srtN _root_.Q.gz;have lt:∀i∈_root_.Q.FE ks,i<ks.length:=λi hi=>K83.ordL_lt c hi;generalize _root_.Q.FE ks=o at lt
 induction o with
 |nil=>exact .nil
 |cons i o ih=>obtain⟨a,e,f⟩:=Bt.Nn h i (lt i (.head _));refine .cons (a,?_,SqT.of f,) (ih λj b=>lt j (.tail _ b));show ys.getD i V.non=V.ref a;rw[ag,e];rfl
end K62
namespace K61
open R
abbrev n6:List Str:=["self","one","other"]
abbrev kJ:List Str:=["self","one","other"]
abbrev mG:CB:=
  (.cons (.fldX (.var 0) "other" (.var 2))
  .nil)
abbrev mH:CB:=
  (.cons (.fldX (.var 0) "one" (.var 1))
  mG)
abbrev kQ:CB:=
  (.cons (.expr (.base "KinError" (.cons (.var 0) (.cons (.var 1) (.cons (.var 2) .nil)))))
  mH)
abbrev yY:List Str:=["nodes","tellings"]
abbrev p7:List Str:=["nodes","tellings","place","one","other"]
abbrev qm:CB:=
  (.cons (.forr (.tup (.cons (.name 2) (.cons (.name 3) .nil))) (.enum (.var 1))
  (.cons (.forr (.name 4) (.seq (.cut (.var 1) (.yes (.var 2)) .no))
  (.cons (.iff (.cmp .Eq (.bfn .len (.cons (.call "that_read" (.cons (.var 0) (.cons (.lst (.cons (.var 3) (.cons (.var 4) .nil))) .nil))) .nil)) (.con (.int 0)))
  (.cons (.raisX "Torn" (.cons (.bfn .tuple (.cons (.bfn .list (.cons (.var 3) .nil)) .nil)) (.cons (.bfn .tuple (.cons (.bfn .list (.cons (.var 4) .nil)) .nil)) .nil)))
  .nil)
  .nil)
  .nil))
  .nil))
  .nil)
abbrev Ba:List Str:=["nodes","tellings"]
abbrev rS:List Str:=["nodes","tellings","found"]
abbrev oP:CB:=
  (.cons (.ret (.var 2))
  .nil)
abbrev oQ:CB:=
  (.cons (.iff (.cmp .Eq (.bfn .len (.cons (.var 2) .nil)) (.con (.int 0)))
  (.cons (.expr (.call "refuse_torn" (.cons (.var 0) (.cons (.var 1) .nil))))
  .nil)
  .nil)
  oP)
abbrev sO:CB:=
  (.cons (.asg (.name 2) (.call "that_read" (.cons (.var 0) (.cons (.var 1) .nil))))
  oQ)
end K61
namespace K61
open L2 R Cp Lt Kc K21 K22 Lm M5 K32 K34 K75 K62
structure Cl2(K:ah)(B C:Addr):Prop where
 bs:BsX K B
 s1:StX K C "one"
 s2:StX K C "other"
 ex:∃f,oK K C f bmV "ValueError.__new__"=true
abbrev fl2(x y:V):List (Str×V):=[("one",x),("other",y)]
def AO(C:Addr):Sp:=λvs H Q _=>∃a x y,vs=[.ref a,x,y]/\H a<*(exO a C none)/\∀dd H',dd≠a->H dd=none->H' a<*(exO a C (some dd))->H' dd<*(xdO dd (fl2 x y))->(∀b,b≠a->b≠dd->H' b=H b)->Q .non H'
section
variable {G:Gam}{B C CT:Addr}{T:Tb}
def KA(v1:G.val "KinError"<*(.ref B))(n:Cl2 K B C):
  Sat G K (AO C) kQ kJ:=by
 rintro j H Q E ⟨a,x,y,rfl,d,q⟩;unfold kQ;change wpB G K _ _ _ [some (.ref a),some x,some y] H;ext;obtain⟨f,hf⟩:=n.ex;refine(B,v1,n.bs,?_,);refine(_,rfl,_,rfl,_,rfl,a,C,f,[x,y],rfl,d,short (by show 2<=40;decide),hf,?_,);unfold mH;refine(_,rfl,_,rfl,a,C,rfl,n.s1,.inl (d,λc g=>?_,),);have ne:c≠a:=λe=>by rw[e,d]at g;cases g
 unfold mG;refine⟨_,rfl,_,rfl,a,C,rfl,n.s2,.inr (c,_,aq,by rw[aV ne];exact aq,'F',?_,)⟩;rw[put2];refine q c _ ne g ?_ aq λb i h=>?_;·rw[aV (bK ne)];exact aq
 .rw[aV h,aV i,aV h]
def JK{z:Nat}(h:z<=ys.length):vG ys (some (z:Int)) none=ys.drop z:=by unfold vG;rw[HT.CY,HT.vR,Nat.min_eq_left h,eZ (by rw[yQ];lia)]
structure Nt(K:ah)(H:Hp)(a l:Addr)(n:Nat)(us zs:List V)(ns:List (List Int))(ts:List (Nat×Int)):Prop where
 ha:SqL K H a us
 pn:Paired (NdV K H) us ns
 hv:∀v∈ns,v.length=n
 nl:ns.length<=61
 n60:n<=60
 tl:Tls H l zs ts
 ok:∀q∈ts,q.1<n/\(q.2=0\/q.2=1)
 t60:ts.length<=60
theorem Nt.same{us:List V}{b:List (List Int)}(d:Nt K H a l n us zs b ts)(s:aD H H'):Nt K H' a l n us zs b ts:=
 {d with ha:=s.seq d.ha,pn:=Paired.qN d.pn λ_ _ h=>h.same s,tl:=d.tl.same s}
def Nt.two{H H':Hp}{a l b:Addr}{n i j:Nat}{us zs:List V}{p:List (List Int)}{c:List (Nat×Int)}{x y:V}(d:Nt K H a l n us zs p c)(s:aD H H')(f:zs[i]?<*x)(g:zs[j]?<*y)(e:H' b<*(.lst [x,y])):Nt K H' a b n us [x,y] p (tw c i j):=by
 obtain⟨q,hq,f⟩:=iP d.tl.pr f;obtain⟨r,o,g⟩:=iP d.tl.pr g;have k:c.getD i (0,0)=q:=by rw[ag,hq];rfl
 have m:c.getD j (0,0)=r:=by rw[ag,o];rfl
 have t:∀{x:V}{q:Nat×Int},TgV H x q->TgV H' x q:=λ⟨a,e,h⟩=>(a,e,s _ _ h,);refine{d.same s with tl:=(e,?_,),ok:=λz hz=>?_,t60:=by show 2<=60;decide};·unfold tw;rw[k,m];exact .cons (t f) (.cons (t g) .nil)
 .unfold tw at hz;rw[k,m]at hz;rcases aA.mp hz with rfl|hz;·exact d.ok _ (aH hq)
  .rw[aI.mp hz];exact d.ok _ (aH o)
def Nt.thr{us:List V}{c:List (List Int)}(d:Nt K H a l n us zs c ts){Q:VK}{E:XK}(q:∀H' b ws,aD H H'->H b=none->H' b<*(.lst ws)->Paired (NdV K H') ws (c.filter (rdT ts))->Q (.ref b) H'):CU K [.ref a,.ref l] H Q E:=
 (a,l,n,us,zs,c,ts,rfl,d.ha,d.pn,d.hv,d.nl,d.n60,d.tl,d.ok,d.t60,q,)
def Tw(H:Hp)(ts:List (Nat×Int))(i j:Nat)(x y:V):Prop:=TgV H x (ts.getD i (0,0))/\TgV H y (ts.getD j (0,0))
def EKt(T:Tb)(CT:Addr)(H:Hp)(ns:List (List Int))(ts:List (Nat×Int))(E:XK):Prop:=∀H' i j x y dd,Gr T H H'->Fp ns ts i j->Tw H' ts i j x y->H' dd<*(xdO dd (fl2 x y))->E (.ref CT) (some dd) H'
def Un(ns:List (List Int))(ts:List (Nat×Int)):Prop:=∃i j,i<=j/\j<ts.length/\ns.filter (rdT (tw ts i j))=[]
def spRt(K:ah)(T:Tb)(CT:Addr):Sp:=λvs H _ E=>∃(a l:Addr)(n:Nat)(us zs:List V)(ns:List (List Int))(ts:List (Nat×Int)),vs=[.ref a,.ref l]/\Nt K H a l n us zs ns ts/\Un ns ts/\EKt T CT H ns ts E
def Lo(ns:List (List Int))(ts:List (Nat×Int))(i j:Nat):Prop:=∀a b,a<=b->b<ts.length->a<i\/a=i/\b<j->ns.filter (rdT (tw ts a b))≠[]
theorem wp_rt(g1:G.fn "that_read" 2<*(CU K,[]))(gI:G.ini "Torn" 2<*(CT,AO CT,[])):
  Sat G K (spRt K T CT) qm p7:=by
 rintro vs H b8 b7 ⟨a,l,b9,us,k,M,f,rfl,d,⟨i0,j0,h1,h2,h3⟩,qe⟩;have zl:k.length=f.length:=K83.ja d.tl.pr;unfold qm;change wpB G K _ _ _ [some (.ref a),some (.ref l),none,none,none] H;ext;refine iT ?_;ext;refine(l,rfl,(k,SqL.of d.tl.hl,),?_,);refine gG (rJ (xs:=k)) (λi g E=>aD H E/\Lo M f i i/\∃u a5 w,g=[some (.ref a),some (.ref l),u,a5,w]) (aD.refl _,λ_ _ _ _ z=>by lia,_,_,_,rfl,) (λ_ _ _ _ ⟨s,_⟩=>SqL.of (s _ _ d.tl.hl)) ?_ ?_
 .rintro i c0 g H3 H4 D2 hi ⟨s3,lo,u,a5,w,rfl⟩ ⟨p,R,rfl,J,B⟩ s4 a6 _;obtain⟨v,b3,y,n,a8⟩:=iP d.tl.pr B;subst n;refine(p,_,rfl,SqT.of J,rfl,_,_,rfl,_,_,rfl,rfl,?_,);have a0:=s3.trans s4;refine iT ?_;refine(_,rfl,_,rfl,_,rfl,.inl (l,k,rfl,SqL.of (a0 _ _ d.tl.hl),λpc b2=>.inl (pc,rfl,(_,SqL.of aq,),?_,),),);rw[JK (jH hi)];generalize hX:upd H4 pc _=H5;obtain⟨s5,f5⟩:=cX hX b2;clear hX;have a3:=a0.trans s5;refine gG (dI (xs:=k.drop i)) (λm g E=>aD H5 E/\Lo M f i (i+m)/\∃w,g=[some (.ref a),some (.ref l),some (.int i),some (.ref y),w]) (aD.refl _,λh j a b c=>lo h j a b 'D',_,rfl,) (λ_ _ _ _ ⟨s,_⟩=>SqL.of (s _ _ f5)) ?_ ?_
  .rintro m b6 g H6 H7 D3 hm ⟨C,t,w',rfl⟩ r s7 a7 _;have a4:=a3.trans (C.trans s7);have r:k[i+m]?<*b6:=by rw[<-r,i5]
   obtain⟨x,b4,F,q,a9⟩:=iP d.tl.pr r;subst q;have jl:i+m<f.length:=by rw[<-zl];exact(aF.mp r).1
   ext;refine(_,_,g1,short 'F',λp2 b1=>?_,);have D:=au (o:=.lst [V.ref y,V.ref F]) b1;have W:=d.two (a4.trans D) B r aq;generalize upd H7 p2 (.lst [V.ref y,V.ref F])=H8 at D W⊢;refine W.thr λH9 l9 ws s9 n9 h9 p9=>?_;have Q:=K83.ja p9;have N:=a4.trans (D.trans s9);refine .inl (l9,_,rfl,.inl (SqL.of h9),lq.mpr (_,rfl,?_,),);by_cases c:M.filter (rdT (tw f i (i+m)))=[]
   .rw[c]at Q;rw[Q,if_pos (by rfl)];refine(CT,_,_,gI,?_,);refine(_,rfl,y,_,rfl,.inr (SqT.of (N _ _ a8)),λR B=>(R,_,rfl,.inl (SqL.of aq,λS Y=>?_,),),);have P:=au (o:=.lst [V.int v.1,V.int v.2]) B;generalize upd H9 R (.lst [V.int v.1,V.int v.2])=G1 at P Y⊢;generalize hX:upd G1 S _=G2;obtain⟨t2,u2⟩:=cX hX Y;clear hX;refine(_,rfl,F,_,rfl,.inr (SqT.of ((N.trans (P.trans t2)) _ _ a9)),λx3 b5=>(x3,_,rfl,.inl (SqL.of aq,λU Z=>?_,),),);have t3:=au (o:=.lst [V.int x.1,V.int x.2]) b5;generalize upd G2 x3 (.lst [V.int x.1,V.int x.2])=G3 at t3 Z⊢;generalize hX:upd G3 U _=G4;obtain⟨t4,u4⟩:=cX hX Z;clear hX;refine(short (by show 2<=40;decide),λp J=>(p,_,_,rfl,aq,λA H2 ne X n q e3=>(rfl,some A,n,?_,),),);have b0:G4 A=none:=by rw[aV ne]at X;exact X
    have O:aD G4 (del H2 p):=λb u I=>by have L:b≠p:=bL I J;have n2:b≠A:=bL I b0;rw[fS L,e3 b L n2,aV L];exact I
    refine qe _ i (i+m) (.ref S) (.ref U) A (Gr.of (N.trans (P.trans (t2.trans (t3.trans (t4.trans O)))))) ('D',jl,c,t,) ?_ (by rw[fS ne];exact q);have n:f.getD i (0,0)=v:=by rw[ag,b3];rfl
    have q:f.getD (i+m) (0,0)=x:=by rw[ag,b4];rfl
    unfold Tw;rw[n,q];exact((S,rfl,(t3.trans (t4.trans O)) _ _ u2,),(U,rfl,O _ _ u4,),)
   .rw[if_neg (by rw[Q];exact λz=>c (bh.mp (by have :=W0 z;lia)))];refine a7 _ _ (C.trans (s7.trans (D.trans s9)),λh j a b z=>?_,_,rfl,);by_cases e:h=i/\j=i+m;·rw[e.1,e.2];exact c
    .exact t h j a b 'D'
  .rintro g H6 ⟨C,t,w',rfl⟩;rw[yQ]at t;exact a6 _ _ (a3.trans C,λh j a b c=>t h j a b 'D',_,_,_,rfl,)
 .rintro g H3 ⟨_,lo,_⟩;exact absurd h3 (lo i0 j0 h1 h2 (.inl 'D'))
def Le(K:ah)(T:Tb)(CT:Addr):Sp:=λvs H Q E=>∃(a l:Addr)(n:Nat)(us zs:List V)(ns:List (List Int))(ts:List (Nat×Int)),vs=[.ref a,.ref l]/\Nt K H a l n us zs ns ts/\
 (ns.filter (rdT ts)≠[]->∀H' b ws,aD H H'->H b=none->H' b<*(.lst ws)->Paired (NdV K H') ws (ns.filter (rdT ts))->Q (.ref b) H')/\
 (ns.filter (rdT ts)=[]->Un ns ts/\EKt T CT H ns ts E)
def EKt.gr{a:List (List Int)}{E:XK}(h:EKt T CT H a ts E)(g:Gr T H H'):EKt T CT H' a ts E:=λ_ _ _ _ _ _ b f t e=>h _ _ _ _ _ _ (g.trans b) f t e
def wp_tn1(k:G.fn "that_read" 2<*(CU K,[]))(m:G.fn "refuse_torn" 2<*(spRt K T CT,[])):
  Sat G K (Le K T CT) sO rS:=by
 rintro v H Q E ⟨a,l,n,r,s,h,j,rfl,d,p,q⟩;unfold sO;change wpB G K _ _ _ [some (.ref a),some (.ref l),none] H;ext;refine(_,_,k,d.thr λt l1 w b o g i=>?_,);unfold oQ;ext;have f:=K83.ja i;refine .inl (l1,_,rfl,.inl (SqL.of g),lq.mpr (_,rfl,?_,),);by_cases c:h.filter (rdT j)=[];·rw[c]at f;rw[f,if_pos (by rfl)];obtain⟨u,e⟩:=q c;exact(_,_,m,a,l,n,r,s,h,j,rfl,d.same b,u,e.gr (Gr.of b),)
 .rw[if_neg (by rw[f];exact λz=>c (bh.mp (by have :=W0 z;lia)))];unfold oP;ext;exact p c _ _ _ b o g i
def lkO:(fl2 x y).lookup (aQ "other")<*y:=by unfold fl2;rw[aT,show((aQ "other")==(aQ "one"))=false by decide+kernel,aT,beq_self_eq_true]
def Tw.same(t:Tw H ts i j x y)(s:aD H H'):Tw H' ts i j x y:=(let⟨a,e,h⟩:=t.1;(a,e,s _ _ h,),let⟨a,e,h⟩:=t.2;(a,e,s _ _ h,),)
end
end K61
namespace K73
open R
abbrev FD:List Str:=["table","tellings","name","other"]
abbrev xH:List Str:=["table","tellings","name","other","known"]
abbrev tf:CB:=
  (.cons (.ret (.call "comes" (.cons (.tup (.cons (.var 2) (.cons (.call "node_of" (.cons (.var 0) (.cons (.var 2) .nil))) .nil))) (.cons (.tup (.cons (.var 3) (.cons (.call "node_of" (.cons (.var 0) (.cons (.var 3) .nil))) .nil))) (.cons (.var 4) .nil)))))
  .nil)
abbrev tj:CB:=
  (.cons (.asg (.name 4) (.call "first_read" (.cons (.var 0) (.cons (.var 1) .nil))))
  tf)
abbrev tm:CB:=
  (.cons (.iff (.cmp .Eq (.var 2) (.var 3))
  (.cons (.rais "NoName" (.cons (.con (.str "a copy and another one are asked for, not one copy twice")) .nil))
  .nil)
  .nil)
  tj)
abbrev tu:CB:=
  (.cons (.expr (.call "need_name" (.cons (.var 0) (.cons (.var 3) .nil))))
  tm)
abbrev tB:CB:=
  (.cons (.expr (.call "need_name" (.cons (.var 0) (.cons (.var 2) .nil))))
  tu)
abbrev yC:CB:=
  (.cons (.expr (.call "need_tellings" (.cons (.var 0) (.cons (.var 1) .nil))))
  tB)
end K73
namespace K73
open L2 R Cp Lt Kc K21 K22 Lm K23 K02 K32 K34 K75 K63
section
variable {G:Gam}{T:Tb}{CE C CO CN CC CT:Addr}
abbrev ths(ts:List (Nat×Int)):List Th:=ts.map λq=>.tp [.int q.1,.int q.2]
theorem th_pr:∀{zs:List V}{ts:List (Nat×Int)},Paired (TgV H) zs ts->Paired (ThV H) zs (ths ts)
 |_,_,.nil=>.nil
 |_,_,.cons h t=>.cons h (th_pr t)
def Ay(d:Tls H l zs ts)(v:Vt n ts)(l2:ts.length<=2):TlX H (.ref l) (some (ths ts))/\atX n (some (ths ts))=true:=by
 refine((l,zs,rfl,d.hl,th_pr d.pr,by unfold ths;rw[ai];exact l2,λt a=>?_,),?_,);·obtain⟨q,_,rfl⟩:=aN.mp a;exact pk eX (pq eX)
 .show((ths ts).all (tgT n)&&decide ((_root_.Q.met ((ths ts).map plK)).length=(ths ts).length))=true;have e:(ths ts).map plK=ts.map λq=>(eK (q.1:Int):Key):=by unfold ths;rw[bT];rfl
  have b:=Bs (ks:=ts.map λq=>(eK (q.1:Int):Key)) (by have :=v.nd;rw[lY,gL]at this⊢;exact this.imp λh z=>h (zv (eK.inj z)))
  rw[e,b,ai,az];refine⟨bj.mpr λt a=>?_,decide_eq_true (by unfold ths;rw[ai])⟩;obtain⟨q,hq,rfl⟩:=aN.mp a;obtain⟨f,c⟩:=v.ok q hq;show(true&&(decide (0<=(q.1:Int)/\(q.1:Int)<n)&&bF (.int q.2)))=true;rw[decide_eq_true ('D','D',)];rcases c with e|e<;>rw[e]<;>rfl
structure Tz(K:ah)(H:Hp)(nl bl:Addr)(nys bys:List V)(ns:List (List Int))(xs:List M8.Tri)(n:Nat)(rows:List (List Int)):Prop where
 tr:Tr K H nl bl nys bys ns xs n
 zs:∀p,p<n->(∀r∈rows,r.getD p 0=0)->∀v∈ns,v.getD p 0=0
 so:∀p,p<n->(∃r∈rows,r.getD p 0=0)->∃v∈ns,v.getD p 0=0
def tree_gz{t:Addr}(d:Tn H t nf n cs rows)(ne:cs≠[])(tk:K32.TreeK (rowsOf H (.ref t)) (count H (.ref t)) H H' p):∃o bl X D ns xs,H' p<*(.tup [.ref o,.ref bl])/\Tz K H' o bl X D ns xs n rows:=by
 have U:=d.n10;rcases tk with⟨h,_⟩ |⟨h,g⟩;·have :=d.perm.length_eq;rw[h,ai]at this;exact absurd (bh.mp this.symm) ne
 .rw[d.count ne]at g;have j:=d.mem;have hf:∀q,q<n->K32.fr (K32.rI (rowsOf H (.ref t))) q=0\/K32.fr (K32.rI (rowsOf H (.ref t))) q=1:=λq hq=>by
   cases e:K32.rI (rowsOf H (.ref t))with
   |nil=>exact absurd (tU.mp e) h
   |cons r R=>exact(d.rd r ((j r).mp (by rw[e];exact aM))).at q
  generalize K32.rI (rowsOf H (.ref t))=R at g hf j;obtain⟨o,bl,ks,bs,c,M,_,_,_,hq,Z,qc,y,bk,L,J⟩:=g;have nd1:=M5.Dt hf hq;have W:=M5.Oh hf hq;have kl:=_root_.Q.uZ y;have C:bs.length=c.length:=K83.ja bk;have ql:c.length<=n:=by
   have :=L2.rQ hq.1 (m:=(aC n).map λp=>(K32.grp R p:Int)) λq h=>by obtain⟨p,b,rfl⟩:=hq.2 q h;exact aN.mpr (p,bq.mpr b,rfl,)
   rwa [ai,bU]at this
  have B:=K83.wV V.non W (ys:=bs) (by rw[ai];unfold M5.brK;rw[ai,C]);obtain⟨xs,s⟩:=pr_of (P:=λv x=>TrV K H' v x/\x.2.2.length<=60) (xs:=_root_.Q.gz V.non ((M5.brK (K32.fr R) n (K32.grp R) c).map _root_.Q.oO) bs) λv hv=>by obtain⟨a1,hi⟩:=bN.mp (B.mem_iff.mp hv);obtain⟨q,k,a,x,a0,z,e,E,F,G,I⟩:=iP bk hi;exact((_,_,_),(a,x,a0,z,e,SqT.of E,SqT.of F,SqT.of G,SqT.of I,),aO (K75.plc_len _ _) U,)
  have Y:=K62.IP (K:=K) nd1 y;have i:(M8.srtN (M5.iQ (K32.fr R) n (K32.grp R) c)).Perm (M5.iQ (K32.fr R) n (K32.grp R) c):=K83.wV [] nd1 rfl;have l2:xs.length=bs.length:=by rw[<-K83.ja s,B.length_eq]
  have A:(M5.iQ (K32.fr R) n (K32.grp R) c).length=c.length+1:=by unfold M5.iQ;rw[aU,ai]
  have O:∀p,(∀r∈rows,r.getD p 0=0)->K32.fr R p=0:=λp l=>by
   unfold K32.fr;cases e:R with
   |nil=>rfl
   |cons r R'=>exact l r ((j r).mp (by rw[e];exact aM))
  refine(o,bl,_,_,_,xs,M,(L,Y,(λz=>by have :=i.length_eq;rw[z,A]at this;simp at this),(λv hv=>M5.zM v (i.mem_iff.mp hv)),by rw[i.length_eq,A];lia,J,Paired.qN s λ_ _ h=>h.1,'D',λx T=>let⟨_,h⟩:=L8 s x T;h.2,),λp b l v hv=>?_,λp b ⟨r,w,N⟩=>?_,)
  .have f:=O p l;have Q:K32.grp R p=0:=gM λz=>by obtain⟨r,w,u⟩:=M7.gnz.mp z;unfold K32.bt at u;rw[f,l r ((j r).mp w)]at u;exact absurd u 'E'
   rcases aA.mp (i.mem_iff.mp hv)with rfl|hv;·rw[M5.tD b];exact f
   .obtain⟨q,k,rfl⟩:=aN.mp hv;unfold M5.nB;rw[M5.tD b,if_neg];·exact f
    .intro z;unfold M4.sub at z;rw[Q]at z;obtain⟨p',_,rfl⟩:=hq.2 q k;have z:=W0 z;rw[aW,Nat.zero_and]at z;rw[<-z]at k;exact Z k
  .by_cases f:K32.fr R p=0;·refine(_,i.mem_iff.mpr aM,?_,);rw[M5.tD b];exact f
   .have S:K32.grp R p≠0:=M7.gnz.mpr ⟨r,(j r).mpr w,by unfold K32.bt;rw[N,decide_eq_false (λz=>f z.symm)];rfl⟩;refine(_,i.mem_iff.mpr (aG _ (aN.mpr (_,qc p b S,rfl,))),?_,);unfold M5.nB;rw[M5.tD b,if_pos];·have :=hf p b;lia
    .unfold M4.sub;rw[aW,Nat.and_self];exact decide_eq_true rfl
end
section
variable {G:Gam}{T:Tb}{CE C CO CN CC CT:Addr}
inductive Tor (rows:List (List Int)) (n:Nat):List (Nat×Int)->Prop where
 |one {p:Nat}:p<n->(∀r∈rows,r.getD p 0=0)->Tor rows n [(p,1)]
 |two {p q:Nat}:p<n->q<n->q≠p->(∀r∈rows,r.getD p 0=0)->(∃r∈rows,r.getD q 0=0)->Tor rows n [(q,0),(p,1)]
def Tor.vt(h:Tor rows n ts):Vt n ts/\ts.length<=2:=by
 cases h with
 |one h1 h2=>exact⟨⟨λq hq=>by rw[aI.mp hq];exact(h1,.inr rfl,),'F'⟩,'F'⟩
 |two h1 h2 h3 h4 h5=>
  refine⟨⟨λq hq=>?_,by simp[h3]⟩,'F'⟩;rcases aA.mp hq with rfl|hq;·exact(h2,.inl rfl,)
  .rw[aI.mp hq];exact(h1,.inr rfl,)
def wb{a:List (List Int)}{p:Nat}(b:(p,1)∈ts)(hz:∀v∈a,v.getD p 0=0):a.filter (rdT ts)=[]:=by rw[List.filter_eq_nil_iff];intro v c z;have :=W0 (bj.mp z _ b);rw[hz v c]at this;cases this
def KW{o bl:Addr}{r k:List V}{a:List (List Int)}{xs:List M8.Tri}(z:Tz K H o bl r k a xs n rows)(h:Tor rows n ts):
  a.filter (rdT ts)=[]/\K61.Un a ts/\∀i j,K61.Fp a ts i j->i=0/\j=ts.length-1:=by
 cases h with
 |one h1 h2=>have b:=z.zs _ h1 h2;refine(wb (.head _) b,(0,0,ay _,'F',wb (.head _) b,),λi j f=>?_,);have :=f.jl;have :=f.ij;simp only[aU,gy]at *;lia
 | @two p q h1 h2 h3 h4 h5=>
  have b:=z.zs _ h1 h4;have no:a.filter (rdT (K61.tw [(q,0),(p,1)] 0 1))=[]:=wb (.tail _ (.head _)) b;refine(wb (.tail _ (.head _)) b,(0,1,'E','F',no,),λi j f=>?_,);have g:=f.no;have m:=f.ft 0 1;simp only[aU,gy]at *;by_cases c:i=0
  .by_cases d:j=0;·rw[c,d]at g;obtain⟨v,l,e⟩:=z.so q h2 h5;refine absurd (eU.mpr (l,?_,):v∈a.filter (rdT (K61.tw [(q,0),(p,1)] 0 0))) (by rw[g];exact bg);show(decide (v.getD q 0=0)&&(decide (v.getD q 0=0)&&true))=true;rw[e];rfl
   .exact(c,'D',)
  .exact absurd no (m 'D' 'D' 'D')
def Cla(T:Tb)(CC:Addr)(H:Hp)(x:V)(E:XK):Prop:=∀H' (i j:Nat)(l dd:Addr),Gr T H H'->nH (rowsOf H x) (count H x) i j->H' l<*(.tup ((KP.map (mh (rowsOf H x) i j)).map V.str))->H' dd<*(xdO dd (zh (.int i) (.int j) (.ref l)))->E (.ref CC) (some dd) H'
def Tre(T:Tb)(CT:Addr)(H:Hp)(ts:List (Nat×Int))(E:XK):Prop:=∀H' x y dd,Gr T H H'->K61.Tw H' ts 0 (ts.length-1) x y->H' dd<*(xdO dd (K61.fl2 x y))->E (.ref CT) (some dd) H'
structure Yes(H:Hp)(x y:V):Prop where
 kn:Kn4 H x
 tb:bC H x=true
 ne:∃t c cs,x=.ref t/\H t<*(.lst (c::cs))
 tl:∃o,TlX H y o/\atX (count H x) o=true
theorem Yes.same(h:Yes H x y)(s:aD H H1):Yes H1 x y:=by obtain⟨b,d⟩:=hO h.kn h.tb s;obtain⟨t,c,a,e,g⟩:=h.ne;obtain⟨o,f,z⟩:=h.tl;exact⟨h.kn.same s,b,(t,c,a,e,s _ _ g,),o,f.same s,by rw[d];exact z⟩
def Rest(T:Tb)(CC CT:Addr)(H:Hp)(x y:V)(E:XK)(W:Nat->Prop):Prop:=
 (Yes H x y/\¬NoC (rowsOf H x) (count H x)/\Cla T CC H x E)\/
 ∃t l nf n cs rows zs ts,x=.ref t/\y=.ref l/\Tn H t nf n cs rows/\cs≠[]/\Tls H l zs ts/\((Tor rows n ts/\Tre T CT H ts E)\/(ts=[]/\W n))
def Rest.yes{E:XK}{W:Nat->Prop}(h:Rest T CC CT H x y E W):Yes H x y:=by
 rcases h with⟨h,_⟩ |⟨t,l,g,n,f,i,j,a,rfl,rfl,d,ne,e,h⟩;·exact h
 .have v:Vt n a/\a.length<=2:=by
   rcases h with⟨h,_⟩ |⟨rfl,_⟩;·exact h.vt
   .exact⟨(λ_ z=>(nomatch z),fU,),'F'⟩
  obtain⟨b,c⟩:=Ay e v.1 v.2;exact⟨d.tab.1,d.tab.2.1,vO d ne,_,b,by rw[d.count ne];exact c⟩
def Cla.same{E:XK}(h:Cla T CC H x E)(m:Kn4 H x)(e:bC H x=true)(s:aD H H1):Cla T CC H1 x E:=λb i j l c g f a k=>by obtain⟨_,d⟩:=hO m e s;rw[(jx e s).1]at f a;rw[d]at f;exact h b i j l c ((Gr.of s).trans g) f a k
theorem Rest.same{E:XK}{W c:Nat->Prop}(h:Rest T CC CT H x y E W)(s:aD H H1)(w:∀n,W n->c n):Rest T CC CT H1 x y E c:=by
 rcases h with⟨h,j,r⟩ |⟨t,l,k,n,f,m,q,p,rfl,rfl,d,ne,o,h⟩;·refine .inl (h.same s,?_,r.same h.kn h.tb s,);rw[(jx h.tb s).1,(hO h.kn h.tb s).2];exact j
 .exact .inr (t,l,k,n,f,m,q,p,rfl,rfl,d.same s,ne,o.same s,h.imp (λ⟨a,b⟩=>(a,λe x y i g=>b e x y i ((Gr.of s).trans g),)) λ⟨a,b⟩=>(a,w _ b,),)
def Fo(C CO:Addr)(H:Hp)(x y:V)(E:XK)(R:Prop):Prop:=
 (Kn4 H x/\(bC H x=false\/∃t,x=.ref t/\H t<*(.lst []))/\(∃o,TlX H y o)/\∀H',aD H H'->E (.ref C) none H')\/
 (Kn4 H x/\bC H x=true/\(∃t c cs,x=.ref t/\H t<*(.lst (c::cs)))/\NoT (count H x) y H/\∀H',aD H H'->E (.ref CO) none H')\/(Yes H x y/\R)
def Fo.go{E:XK}{R:Prop}(h:Fo C CO H x y E R){Q:VK}(q:R->Yes H x y->∀H1,aD H H1->Q .non H1):CV C CO [x,y] H Q E:=by
 rcases h with⟨b,e,⟨o,a⟩,r⟩ |⟨b,e,ne,⟨o,a,z⟩,r⟩ |⟨h,r⟩;·exact(x,y,o,rfl,b,a,.inl (e,r,),)
 .exact(x,y,o,rfl,b,a,.inr (e,ne,.inl (z,r,),),)
 .obtain⟨o,a,z⟩:=h.tl;exact(x,y,o,rfl,h.kn,a,.inr (h.tb,h.ne,.inr (z,q r h,),),)
theorem Fo.imp{E f:XK}{R g:Prop}(h:Fo C CO H x y E R)(i:∀H',aD H H'->E (.ref C) none H'->f (.ref C) none H')(j:∀H',aD H H'->E (.ref CO) none H'->f (.ref CO) none H')(r:R->g):Fo C CO H x y f g:=
 Or.imp (λ⟨a,b,c,d⟩=>(a,b,c,λH' s=>i H' s (d H' s),)) (Or.imp (λ⟨a,b,c,d,e⟩=>(a,b,c,d,λH' s=>j H' s (e H' s),)) λ⟨a,b⟩=>(a,r b,)) h
theorem Fo.same{E:XK}{R g:Prop}(h:Fo C CO H x y E R)(s:aD H H1)(r:R->g):Fo C CO H1 x y E g:=by
 rcases h with⟨a,e,⟨o,d⟩,q⟩ |⟨a,e,⟨t,c,i,l,m⟩,⟨o,d,z⟩,q⟩ |⟨h,q⟩;·exact .inl (a.same s,e.imp (λe=>by rw[i8 a s];exact e) (λ⟨t,e,h⟩=>(t,e,s _ _ h,)),(o,d.same s,),λb f=>q b (s.trans f),)
 .obtain⟨j,k⟩:=hO a e s;exact .inr (.inl (a.same s,j,(t,c,i,l,s _ _ m,),⟨o,d.same s,by rw[k];exact z⟩,λb f=>q b (s.trans f),))
 .exact .inr (.inr (h.same s,r q,))
def tree_z{t:Addr}{Q:VK}{E:XK}(d:Tn H t nf n cs rows)(ne:cs≠[])(tb:Tab T H)(q:∀H2 p a bl c b ns xs,Gr T H H2->H2 p<*(.tup [.ref a,.ref bl])->Tz K H2 a bl c b ns xs n rows->Q (.ref p) H2):K32.wO C CC T [.ref t] H Q E:=by
 refine(_,rfl,d.tab.1,tb,λz=>by(rw[d.tab.2.1]at z;cases z),λ_=>(λ_ H2 p g _ tk=>?_,λk i j l m g f o r=>?_,),);·obtain⟨a,bl,c,b,ns,xs,e,h⟩:=tree_gz d ne tk;exact q H2 p a bl c b ns xs g e h
 .have :=d.noc i j f.ij f.jn;rw[f.four]at this;cases this
def spFo(T:Tb)(C CO CC CT:Addr):Sp:=λvs H Q E=>∃x y,vs=[x,y]/\Tab T H/\Fo C CO H x y E (Rest T CC CT H x y E λn=>∀H' c ks,Gr T H H'->H' c<*(.tup ks)->ks.length=n->(∀k∈ks,Kd k)->Q (.ref c) H')
def wp_fo(g1:G.fn "need_tellings" 2<*(CV C CO,[]))(J:G.fn "tree" 1<*(K32.wO C CC T,[]))(g3:G.fn "told_nodes" 2<*(K61.Le K T CT,[]))(g4:G.fn "unknown_places" 3<*(spUp K,[])):
  Sat G K (spFo T C CO CC CT) td rY:=by
 rintro vs H b6 b5 ⟨x,y,rfl,tb,h⟩;unfold td;change wpB G K _ _ _ [some x,some y,none,none,none] H;ext;refine(_,_,g1,h.go λh _ H1 g=>?_,);have A:=(Gr.of g).tab tb;unfold pd;ext;rcases h with⟨h,nc,r⟩ |⟨t,l,nf,n,cs,b8,zs,D,rfl,rfl,d,ne,tl,q⟩;·exact(_,_,J,tree_no h.kn h.tb nc r g A,)
 have b2:=d.n10;refine(_,_,J,tree_z (K:=K) (d.same g) ne A λH2 p nl bl b3 Y z S gr O E=>?_,);have a:=E.tr;have B:=(tl.same g).gr gr A;have L:=(Gr.of (T:=T) g).trans gr;unfold o9;ext;have ok:(∀q∈D,q.1<n/\(q.2=0\/q.2=1))/\D.length<=2:=by
  rcases q with⟨h,_⟩ |⟨rfl,_⟩;·exact(h.vt.1.ok,h.vt.2,)
  .exact⟨λ_ b4=>(nomatch b4),'F'⟩
 refine(_,_,g3,.inr (.inl (p,_,0,_,rfl,rfl,SqT.of O,rfl,nl,l,n,b3,zs,z,D,rfl,(SqL.of a.en,a.pn,a.ln,a.l61,b2,B,ok.1,aO ok.2 'E',),λa6 H3 l1 F e _ m s=>?_,λN=>?_,)),)
 .rcases q with⟨h,_⟩ |⟨rfl,q⟩;·exact absurd (KW E h).1 a6
  cases B.pr;have a4:=B.hl;rw[El]at s;unfold o8;ext;refine⟨_,_,g4,.inr (.inl (p,_,1,_,rfl,rfl,SqT.of (e _ _ O),rfl,bl,l1,l,Y,F,[],S,z,[],rfl,SqL.of (e _ _ a.eb),(Paired.qN a.pb λ_ _ ⟨c,p,q,r,a0,m,h2,h3,o⟩=>(c,p,q,r,a0,e.tup m,e.tup h2,e.tup h3,e.tup o,)),a.l60,a.lp,SqL.of m,s,(e _ _ a4,.nil,),'F',λW f v _ o=>?_,))⟩;generalize S.flatMap (unB z [])=Q at o;have a2:Gr T H W:=L.trans (Gr.of (e.trans v));have a3:=v _ _ m;have R:0<F.length:=by rw[K83.ja s];exact eW.mpr a.ne
  obtain⟨v1,a9,X,eb,M⟩:=iP s (ae R);have lv:v1.length=n:=a.ln _ (aH a9);unfold o7;ext;refine cQ ?_;simp only[F7];ext;refine .inl (l1,_,0,_,rfl,rfl,SqL.of a3,(cG (by rw[ae R,eb]):atI F ((0:Nat):Int)=_),?_,);refine(X,rfl,(_,v.tup M,),?_,);refine cW zF (fF (by rw[ai];lia)) (λI j=>j.tup (v.tup M)) (λ_ w _=>Kd w) (λ_ _ _ _ _ h=>h) (λU=>∃u w,U=[u,w,some (.ref f)]) (none,none,rfl,) ?_ ?_
  .rintro i x U I b7 hi ⟨u,w,rfl⟩ j ⟨c,y,rfl,hc,P⟩ k;rw[ai]at hi;rw[gf hi]at P;cases P;refine(c,_,rfl,SqT.of hc,rfl,_,_,rfl,_,_,rfl,rfl,?_,);ext;refine .inr (f,_,rfl,.inl (SqL.of (j _ _ o)),rfl,pM _,_,rfl,?_,);rw[if_neg ao];generalize inV _ _=b;cases b;·rw[if_neg ao];exact k _ _ _ (_,_,rfl,) (aD.refl _) (.inr (_,rfl,))
   .rw[if_pos rfl];exact k _ _ _ (_,_,rfl,) (aD.refl _) (.inl rfl)
  .intro Q I l5 a8 hF j a5;refine⟨l5,_,rfl,.inl ⟨SqL.of aq,λp5 a7=>q _ p5 Q (a2.trans (Gr.of ((j.trans (au a5)).trans (au a7)))) aq (by rw[a8,ai,lv]) λk hk=>?_⟩⟩;obtain⟨i,hi⟩:=bN.mp hk;exact hF i k hi
 .rcases q with⟨h,q⟩ |⟨rfl,_⟩;·obtain⟨_,un,fp⟩:=KW E h;refine(un,λV i b1 x y Z a1 f tw hd=>?_,);obtain⟨rfl,rfl⟩:=fp i b1 f;exact q V x y Z (L.trans a1) tw hd
  .rw[El]at N;exact absurd N a.ne
structure Nm(H:Hp)(a:V):Prop where
 kn:Known H a
 ln:∀z,a=.str z->z.length<=20000
def Li(T:Tb)(C CO CN CC CT:Addr):Sp:=λvs H Q E=>∃x y a b,vs=[x,y,a,b]/\Tab T H/\Fo C CO H x y E (Nm H a/\Nm H b/\
 (((¬jA H x a\/¬jA H x b\/a=b)/\∀H',aD H H'->E (.ref CN) none H')\/(jA H x a/\jA H x b/\a≠b/\Rest T CC CT H x y E λ_=>∀H' v,Gr T H H'->Q v H')))
theorem Nm.same{a:V}(h:Nm H a)(s:aD H H'):Nm H' a:=((h.kn.same s).1,h.ln,)
def Nx{t:Addr}(d:Tn H t nf n cs rows){a:V}(h:jA H (.ref t) a):∃i,i<cs.length/\a=.str (nf i):=by obtain⟨m,o,z,c,e,f,rfl,k,g⟩:=h;cases e;rw[d.et]at f;cases f;obtain⟨i,hi⟩:=bN.mp k;have l:=(aF.mp hi).1;obtain⟨b,r,rfl,j,_⟩:=d.row i _ hi;refine(i,l,?_,);rw[<-g,mf j]
def wp_coA(g1:G.fn "need_tellings" 2<*(CV C CO,[]))(g2:G.fn "need_name" 2<*(rG C CN,[]))(g3:G.fn "first_read" 2<*(spFo T C CO CC CT,[]))(g4:G.fn "node_of" 2<*(AM C CN T,[]))(g5:G.fn "comes" 3<*(spCm K,[]))(v1:G.val "NoName"<*(.ref CN))(xc:XC K CN):
  Sat G K (Li T C CO CN CC CT) yC xH:=by
 rintro vs H Q E ⟨x,a6,a,b,rfl,tb,h⟩;unfold yC;change wpB G K _ _ _ [some x,some a6,some a,some b,none] H;ext;refine(_,_,g1,h.go λ⟨na,nb,h⟩ D H1 A=>?_,);have y1:=D.same A;unfold tB;ext;have t1:=(jx D.tb A).2;refine(_,_,g2,x,a,rfl,y1.kn,(na.same A).kn,na.ln,λz=>by(rw[y1.tb]at z;cases z),λ_=>(λf H2 P=>?_,λf H2 P=>?_,),)
 .have f:=(t1 a).mp f;have B:=A.trans P;have y2:=D.same B;have t2:=(jx D.tb B).2;unfold tu;ext;refine(_,_,g2,x,b,rfl,y2.kn,(nb.same B).kn,nb.ln,λz=>by(rw[y2.tb]at z;cases z),λ_=>(λg H3 R=>?_,λg H3 R=>?_,),)
  .have g:=(t2 b).mp g;have s:=B.trans R;obtain⟨_,_,z1,_,_,_,rfl,_⟩:=id f;obtain⟨_,_,z2,_,_,_,rfl,_⟩:=id g;unfold tm;ext;rcases h with⟨h,q⟩ |⟨_,_,ab,h⟩
   .rcases h with h|h|h;·exact absurd f h
    .exact absurd g h
    .cases h;rw[if_pos 'F'];exact(CN,v1,xc.1,xc.2,rM,q _ s,)
   rw[if_neg ↥(λz=>ab (by rw[z]))];have X:=(Gr.of s).tab tb;have y3:=D.same s;unfold tj;ext;refine(_,_,g3,x,a6,rfl,X,.inr (.inr (y3,?_,)),);rcases h with⟨hy,nc,a5⟩ |⟨t,a3,c,n,m,r,zs,ts,rfl,rfl,d,ne,tl,h⟩;·exact(Rest.same (W:=λ_=>False) (.inl (hy,nc,a5,)) s λ_ z=>z.elim)
   rcases h with h|⟨rfl,q⟩;·exact(Rest.same (W:=λ_=>False) (.inr (t,a3,c,n,m,r,zs,ts,rfl,rfl,d,ne,tl,.inl h,)) s λ_ z=>z.elim)
   refine .inr (t,a3,c,n,m,r,zs,[],rfl,rfl,d.same s,ne,tl.same s,.inr (rfl,λH5 a7 ks M hc kl kd=>?_,),);obtain⟨i,hi,e1⟩:=Nx d f;obtain⟨j,hj,F⟩:=Nx d g;cases e1;cases F;have b7:=d.n10;have d5:=(d.same s).gr M X;have J:=M.tab X;have a4:∀{H:Hp}{k:Nat}{Q:VK}{E:XK},Tn H t c n m r->Tab T H->k<m.length->(∀u p,Gr T H u->u p<*(.tup ((r.getD k []).map V.int))->Q (.ref p) u)->AM C CN T [.ref t,.str (c k)] H Q E:=λ{H k Q E} d tb N q=>by obtain⟨bk,a5,ey,g,hr⟩:=d.row k _ (ae N);refine⟨_,_,rfl,d.tab.1,xS,λz e=>by cases e;exact by have :=d.ok k;unfold eJ at this;simp only[az,decide_eq_true_eq]at this;lia,tb,λz=>by(rw[d.tab.2.1]at z;cases z),λ_=>(λz=>absurd ⟨t,m,c k,m[k],rfl,by rw[d.et];rfl,rfl,aR N,by rw[ey,mf g]⟩ z,λ_ l b8 c' u p e h1 b2 F a8 I=>?_,)⟩;cases e;rw[d.et]at h1;cases h1;obtain⟨k',a2⟩:=bN.mp b2;obtain⟨b',r',rfl,a1,b4⟩:=d.row k' _ a2;rw[mf a1]at F;cases d.inj k k' N (aF.mp a2).1 (V.str.inj F);rw[show me H (.ref b')=_ from congrArg Prod.snd (i9 a1 b4)]at I;exact q u p a8 I
   unfold tf;ext;refine(_,_,g5,_,_,g4,a4 d5 J hi λY p a9 I=>(by show 2<=sizeLine;decide,λa f=>?_,),);have S:=au (o:=.tup [.str (c i),.ref p]) f;have ea:upd Y a (.tup [.str (c i),.ref p]) a<*(.tup [.str (c i),.ref p]):=aq;have v:=a9.trans (Gr.of (T:=T) S);generalize upd Y a (.tup [.str (c i),.ref p])=H7 at S ea v;have d7:=d5.gr v J;have L:=v.tab J;refine(_,_,g4,a4 d7 L hj λZ y b0 b3=>(by show 2<=sizeLine;decide,λl b1=>?_,),);have U:=au (o:=.tup [.str (c j),.ref y]) b1;have a0:upd Z l (.tup [.str (c j),.ref y]) l<*(.tup [.str (c j),.ref y]):=aq;have w:=b0.trans (Gr.of (T:=T) U);generalize upd Z l (.tup [.str (c j),.ref y])=H9 at U a0 w;have O:=d.rd _ (d.get hi);have oj:=d.rd _ (d.get hj);exact(.ref a,.ref l,a7,(c i,r.getD i []),(c j,r.getD j []),_,rfl,(a,p,rfl,SqT.of (w.i7 L ea),SqT.of (w.i7 L (S _ _ I)),),(l,y,rfl,SqT.of a0,SqT.of (U _ _ b3),),SqT.of (w.i7 L (v.i7 J hc)),by rw[O.1,oj.1],by rw[kl,O.1],by rw[O.1];lia,kd,λb6 b5=>q _ _ ((Gr.of (T:=T) s).trans (M.trans (v.trans (w.trans (Gr.of b5))))),)
  .rcases h with⟨_,q⟩ |⟨_,h,_⟩;·exact q _ (B.trans R)
   .exact absurd ((t2 b).mpr h) g
 .rcases h with⟨_,q⟩ |⟨h,_⟩;·exact q _ (A.trans P)
  .exact absurd ((t1 a).mpr h) f
end
end K73
namespace K73
open R
abbrev Bc:List Str:=["_law_table","_law_tellings","_law_pair"]
abbrev rV:List Str:=["_law_table","_law_tellings","_law_pair","_law_truths_here","e"]
abbrev eA:CB:=
  (.cons (.ret (.var 3))
  .nil)
abbrev su4:CB:=
  (.cons (.iff (.bfn .isx (.cons (.var 4) (.cons (.glo "Torn") .nil)))
  (.cons (.expr (.meth1 .append (.var 3) (.tup (.cons (.fld (.var 4) "one") (.cons (.fld (.var 4) "other") .nil)))))
  .nil)
  .nil)
  .nil)
abbrev su3:CB:=
  (.cons (.iff (.bfn .isx (.cons (.var 4) (.cons (.glo "Clash") .nil)))
  (.cons (.expr (.meth1 .append (.var 3) (.tup (.cons (.fld (.var 4) "one") (.cons (.fld (.var 4) "other") (.cons (.fld (.var 4) "names") .nil))))))
  .nil)
  .nil)
  su4)
abbrev su1:CB:=
  (.cons (.asg (.name 3) (.lst (.cons (.bfn .isx (.cons (.var 4) (.cons (.glo "NoTable") .nil))) (.cons (.bfn .isx (.cons (.var 4) (.cons (.glo "NoTelling") .nil))) (.cons (.bfn .isx (.cons (.var 4) (.cons (.glo "NoName") .nil))) (.cons (.bfn .isx (.cons (.var 4) (.cons (.glo "Clash") .nil))) .nil))))))
  (.cons (.asg (.name 3) (.bin .Add (.var 3) (.lst (.cons (.bfn .isx (.cons (.var 4) (.cons (.glo "Torn") .nil))) (.cons (.bfn .isx (.cons (.var 4) (.cons (.ty .valueError) .nil))) .nil)))))
  su3))
abbrev oS:CB:=
  (.cons (.tryc "KinError" 4
  (.cons (.iff (.cmp .Is (.var 2) (.con .none))
  (.cons (.expr (.call "set_aside" (.cons (.var 0) (.cons (.var 1) .nil))))
  .nil)
  (.cons (.expr (.call "comes_of" (.cons (.var 0) (.cons (.var 1) (.cons (.idx (.var 2) (.con (.int 0))) (.cons (.idx (.var 2) (.con (.int 1))) .nil))))))
  .nil))
  .nil)
  su1)
  eA)
abbrev sQ:CB:=
  (.cons (.asg (.name 3) (.lst .nil))
  oS)
abbrev Fu:List Str:=["_law_place"]
abbrev xA:List Str:=["_law_place"]
abbrev yo:CB:=
  (.cons (.ret (.comp ["_law_k"] [0] (.name 0) (.range1 (.con (.int 6))) .no (.or (.cmp .Eq (.var 0) (.var 1)) (.cmp .Eq (.var 0) (.con (.int 5))))))
  .nil)
end K73
namespace K73
open L2 R Cp Lt Kc K21 K22 Lm K23 K02 K32 K34 K75 K63
section
variable {G:Gam}{T:Tb}{CE C CO CN CC CT:Addr}
def Lg(T:Tb)(C CO CC CT:Addr):Sp:=λvs H Q E=>∃x y,vs=[x,y]/\Tab T H/\Fo C CO H x y E (Rest T CC CT H x y E λ_=>∀H' v,Gr T H H'->Q v H')
def Rest.told{E:XK}{W g:Nat->Prop}(h:Rest T CC CT H x y E W)(q:∀t nf n cs rows,x=.ref t->Tn H t nf n cs rows->cs≠[]->W n->g n):Rest T CC CT H x y E g:=
 Or.imp id (λ⟨t,l,nf,n,cs,rows,j,i,a,b,c,d,e,f⟩=>(t,l,nf,n,cs,rows,j,i,a,b,c,d,e,Or.imp id (λ⟨u,w⟩=>(u,q t nf n cs rows a c d w,)) f,)) h
def wp_saA(X:G.fn "first_read" 2<*(spFo T C CO CC CT,[]))(Y:G.fn "table_list" 1<*(qI C T,[]))(Z:G.fn "comes" 3<*(spCm K,[])):
  Sat G K (Lg T C CO CC CT) vc uS:=by
 rintro vs H b1 b0 ⟨x,y,rfl,tb,h⟩;unfold vc;change wpB G K _ _ _ [some x,some y,none,none] H;ext;refine(_,_,X,x,y,rfl,tb,h.imp (λ_ _ h=>h) (λ_ _ h=>h) λr=>r.told ?_,);rintro t l a7 g m rfl d ne a8 H1 c k D hc kl kd;have b2:=d.n10;have yl:=d.len;have U:=d.gr D tb;have Q:=D.tab tb;unfold qk;ext;refine(_,_,Y,tl_c U Q λH2 f E M b3 hf B=>?_,);have a3:=M.i7 Q hc;have wl:E.length=g.length:=by rw[K83.ja B,Lz d]
 have P:∀r∈sR l m g.length,r.2.length=a7:=λr A=>by obtain⟨a5,hi,rfl⟩:=(sR_mem d).mp A;exact(d.rd _ (d.get hi)).1
 unfold qj;ext;refine cQ (cD rfl (SqL.of hf) (wc (K83.ja B) dI (fF 'D') (λF n=>SqL.of (n _ _ hf)) (λr=>(sR l m g.length).any λo=>cmD r o k) (λ_ r=>.str r.1) (λv=>∃u,v=[u,some (.ref c),some (.ref f)]) (none,rfl,) ?_ ?_))
 .rintro a5 x r v F Rt Rf hx A ⟨u,rfl⟩ n kt kf;obtain⟨r',O,b,a,rfl,N,ha⟩:=iP B hx;rw[A]at O;cases O;have l1:=P r (aH A);ext;refine cQ (cD rfl (SqL.of (n _ _ hf)) (cW dI (fF 'D') (λI q=>SqL.of (q _ _ (n _ _ hf))) (λj a9 _=>a9=.bl (cmD r ((sR l m g.length).getD j ("",[])) k)) (λ_ _ _ _ _ h=>h) (λv=>∃u,v=[u,some (.ref b),some (.ref c)]) (none,rfl,) ?_ ?_));·rintro j y v I R i ⟨u',rfl⟩ q hy a6;obtain⟨o,w,J,S,rfl,a1,a0⟩:=iP B hy;have l2:=P o (aH w);have p:=n.trans q;ext;refine(_,_,Z,.ref b,.ref J,c,r,o,_,rfl,(b,a,rfl,SqT.of (p _ _ N),SqT.of (p _ _ ha),),(J,S,rfl,SqT.of (p _ _ a1),SqT.of (p _ _ a0),),SqT.of (p _ _ a3),by rw[l1,l2],by rw[kl,l1],'D',kd,λH5 s=>a6 _ _ _ (_,rfl,) s ?_,);rw[getD_some w]
  .intro bs I l4 a2 hF q a4;have e:=bool_list a2 hF;subst e;refine(l4,_,rfl,SqL.of aq,_,rfl,?_,);have W:(((aC E.length).map λj=>cmD r ((sR l m g.length).getD j ("",[])) k).any id)=(sR l m g.length).any λo=>cmD r o k:=by
    rw[wl];have L:=Lz d;generalize sR l m g.length=R at L;rw[<-L,pV,dE,bQ,bQ];constructor
    .rintro⟨j,i,h⟩;have i:=bq.mp i;refine(_,aR i,?_,);have h:cmD r (R.getD j ("",[])) k=true:=h
     rwa [getD_some (ae i)]at h
    .rintro⟨o,w,h⟩;obtain⟨j,i,rfl⟩:=dH.mp w;refine(j,bq.mpr i,?_,);show cmD r (R.getD j ("",[])) k=true;rw[getD_some (ae i)];exact h
   rw[W];have s:=q.trans (au (o:=.lst (((aC E.length).map λj=>cmD r ((sR l m g.length).getD j ("",[])) k).map V.bl)) a4);cases z:(sR l m g.length).any λo=>cmD r o k with
   |true=>rw[if_pos rfl];exact .inr (.inl (b,_,0,_,rfl,rfl,SqT.of ((n.trans s) _ _ N),rfl,kt _ _ (_,rfl,) s z,))
   |false=>rw[if_neg 'E'];exact kf _ _ (_,rfl,) s z
 .intro F b4 n hp;exact a8 _ _ (D.trans (M.trans (Gr.of (n.trans (au hp)))))
structure Xh(G:Gam)(CE C CO CN CC CT:Addr):Prop where
 v0:G.val "KinError"<*(.ref CE)
 v1:G.val "NoTable"<*(.ref C)
 v2:G.val "NoTelling"<*(.ref CO)
 v3:G.val "NoName"<*(.ref CN)
 v4:G.val "Clash"<*(.ref CC)
 v5:G.val "Torn"<*(.ref CT)
structure Rh(K:ah)(CE C CO CN CC CT Ci:Addr)(k:Nat):Prop where
 o:nu K Ci=true
 m:PySem.W.exmOne K (.ref Ci) (.ref CE)<*true
 k1:cF K (.ref Ci) (.ref C)<*(decide (k=0))
 k2:cF K (.ref Ci) (.ref CO)<*(decide (k=1))
 k3:cF K (.ref Ci) (.ref CN)<*(decide (k=2))
 k4:cF K (.ref Ci) (.ref CC)<*(decide (k=3))
 k5:cF K (.ref Ci) (.ref CT)<*(decide (k=4))
 kv:cF K (.ref Ci) (.type "ValueError")<*true
abbrev only(k:Nat):List V:=[.bl (decide (k=0)),.bl (decide (k=1)),.bl (decide (k=2)),.bl (decide (k=3)),.bl (decide (k=4)),.bl true]
def Gy(X:Xh G CE C CO CN CC CT){n:Addr}(F:Rh K CE C CO CN CC CT n k){D:Ends}{a b c e f:Option V}(g:Dk H' d)
  (q:∀i x l,aD H' i->H' l=none->i x<*(qh x (.ref n) d)->i l<*(.lst (only k))->wpB G K N0 su3 (D.drop 4) [a,b,c,some (.ref l),some (.ref x)] i):
  oN K CE 4 (wpB G K N0 su1) D [a,b,c,e,f] (.ref n) d H':=by
 refine(rfl,F.m,λx B=>?_,);generalize hX:upd H' x _=H1;obtain⟨t,h⟩:=cX hX B;clear hX;have g:=g.same t;unfold su1;ext;refine⟨_,X.v1,xU h g F.o F.k1 ⟨_,X.v2,xU h g F.o F.k2 ⟨_,X.v3,xU h g F.o F.k3 ⟨_,X.v4,xU h g F.o F.k4 (short 'F',λl z=>?_,)⟩⟩⟩⟩;obtain⟨w,s⟩:∃w,w=[V.bl (decide (k=0)),V.bl (decide (k=1)),V.bl (decide (k=2)),V.bl (decide (k=3))]:=(_,rfl,);rw[<-s];generalize hX:upd H1 l _=H2;obtain⟨j,v⟩:=cX hX z;clear hX;have h:=j _ _ h;have g:=g.same j;refine⟨_,X.v5,xU h g F.o F.k5 (isxV h g F.o F.kv (short 'F',λl2 A=>?_,))⟩;obtain⟨u,r⟩:∃u,u=[V.bl (decide (k=4)),V.bl true]:=(_,rfl,);rw[<-r];generalize hX:upd H2 l2 _=H3;obtain⟨m,y⟩:=cX hX A;clear hX;refine .inr (.inr (.inl (l,l2,_,_,rfl,rfl,m _ _ v,y,by rw[s,r];exact short 'F',λp o=>?_,)));refine q _ x p (t.trans (j.trans (m.trans (au o)))) ((t.trans (j.trans m)).free o) (au o _ _ (m _ _ h)) ?_;rw[aq,s,r];rfl
def E3{D:Ends}{E:XS}{Q:VK}(d:D.rt=Q){a b c:Option V}{x:Option V}(q:Q (.ref l) H):(Ends.drop {nx:=wpB G K E eA D,rt:=D.rt,bk:=D.bk,ct:=D.ct} 4).nx [a,b,c,some (.ref l),x] H:=by change wpB G K E eA D [a,b,c,some (.ref l),none] H;unfold eA;ext;rw[d];exact q
def EX(C CO CN CC CT:Addr)(Q:VK):XK:=λc d H=>
 ((∃k a,((k=0/\a=C)\/(k=1/\a=CO)\/(k=2/\a=CN))/\c=.ref a/\d=none/\∀H' l,aD H H'->H' l<*(.lst (only k))->Q (.ref l) H')\/
  (c=.ref CC/\∃dd x y z,d<*dd/\H dd<*(xdO dd (zh x y z))/\∀H' l p,aD H H'->H' l<*(.lst (only 3++[.ref p]))->H' p<*(.tup [x,y,z])->Q (.ref l) H')\/
  (c=.ref CT/\∃dd x y,d<*dd/\H dd<*(xdO dd (K61.fl2 x y))/\∀H' l p,aD H H'->H' l<*(.lst (only 4++[.ref p]))->H' p<*(.tup [x,y])->Q (.ref l) H'))
structure Fh(K:ah)(CE C CO CN CC CT:Addr):Prop where
 r0:Rh K CE C CO CN CC CT C 0
 r1:Rh K CE C CO CN CC CT CO 1
 r2:Rh K CE C CO CN CC CT CN 2
 r3:Rh K CE C CO CN CC CT CC 3
 r4:Rh K CE C CO CN CC CT CT 4
 f1:jW K CC "one"=true
 f2:jW K CC "other"=true
 f3:jW K CC "names"=true
 f4:jW K CT "one"=true
 f5:jW K CT "other"=true
def Iq{P:Hp->Prop}{us:List V}(j:aD H' H2)(g:H' l=none)(c:H2 l<*(.lst us))
  (q:∀a p,aD H' a->(∀b o,b≠l->H2 b<*o->a b<*o)->a l<*(.lst (us++[.ref p]))->a p<*(.tup zs)->P a)(i:H2 p=none):
  P (upd (upd H2 p (.tup zs)) l (.lst (us++[.ref p]))):=by
 generalize hX:upd H2 p _=H3;obtain⟨f,d⟩:=cX hX i;clear hX;have c:=f _ _ c;refine q _ p (fH (j.trans f) g) (λb o n h=>by rw[aV n];exact f _ _ h) aq ?_;rw[aV (λe=>by rw[e,c]at d;cases d)];exact d
def cat(X:Xh G CE C CO CN CC CT)(F:Fh K CE C CO CN CC CT){D:Ends}{E:XS}{Q:VK}(B:D.rt=Q){J:Value}{a b c e f:Option V}(h:EX C CO CN CC CT Q J d H'):
  oN K CE 4 (wpB G K N0 su1) {nx:=wpB G K E eA D,rt:=D.rt,bk:=D.bk,ct:=D.ct} [a,b,c,e,f] J d H':=by
 rcases h with⟨k,M,P,rfl,rfl,q⟩ |⟨rfl,o,x,y,z,rfl,i,q⟩ |⟨rfl,o,x,y,rfl,i,q⟩
 .have j:∀{H:Hp},Dk H none:=λo e=>by cases e
  have R:Rh K CE C CO CN CC CT M k/\k≠3/\k≠4:=by
   rcases P with⟨rfl,rfl⟩ |⟨rfl,rfl⟩ |⟨rfl,rfl⟩;·exact(F.r0,'E','E',)
   .exact(F.r1,'E','E',)
   .exact(F.r2,'E','E',)
  refine Gy X R.1 j λI x l n _ g m=>?_;unfold su3;ext;refine(_,X.v4,xU g j R.1.o R.1.k4 (_,rfl,?_,),);rw[if_neg (λz=>R.2.1 (W0 z))];unfold su4;ext;refine(_,X.v5,xU g j R.1.o R.1.k5 (_,rfl,?_,),);rw[if_neg (λz=>R.2.2 (W0 z))];exact E3 B (q _ _ n m)
 .have j:∀{H:Hp},aD H' H->Dk H (some o):=λs O e=>by cases e;exact(_,s _ _ i,)
  refine Gy X F.r3 (j (aD.refl _)) λI w l n A g m=>?_;have i:=n _ _ i;unfold su3;ext;refine(_,X.v4,xU g (j n) F.r3.o F.r3.k4 (_,rfl,?_,),);rw[if_pos 'E'];refine(.inl (rfl,_,SqL.of m,),?_,);refine(w,CC,o,_,x,rfl,g,i,F.f1,rfl,?_,);refine(w,CC,o,_,y,rfl,g,i,F.f2,lk2,?_,);refine⟨w,CC,o,_,z,rfl,g,i,F.f3,lk3,(short 'F',λp r=>?_,)⟩;refine(l,_,_,rfl,rfl,au r _ _ m,cR (show 6<=40 by decide) 'E',?_,);refine Iq n A m (λN p t L u v=>?_) r;unfold su4;ext;refine⟨_,X.v5,xU (L _ _ (λe=>by rw[e,m]at g;cases g) g) (j t) F.r3.o F.r3.k5 (_,rfl,?_,)⟩;rw[if_neg 'E'];exact E3 B (q _ _ _ t u v)
 .have j:∀{H:Hp},aD H' H->Dk H (some o):=λs O e=>by cases e;exact(_,s _ _ i,)
  refine Gy X F.r4 (j (aD.refl _)) λI w l n A g m=>?_;have i:=n _ _ i;unfold su3;ext;refine(_,X.v4,xU g (j n) F.r4.o F.r4.k4 (_,rfl,?_,),);rw[if_neg 'E'];unfold su4;ext;refine(_,X.v5,xU g (j n) F.r4.o F.r4.k5 (_,rfl,?_,),);rw[if_pos 'E'];refine(.inl (rfl,_,SqL.of m,),?_,);refine(w,CT,o,_,x,rfl,g,i,F.f4,rfl,?_,);refine⟨w,CT,o,_,y,rfl,g,i,F.f5,K61.lkO,(short 'F',λp r=>?_,)⟩;refine(l,_,_,rfl,rfl,au r _ _ m,cR (show 6<=40 by decide) 'E',?_,);exact Iq n A m (λN p t L u v=>E3 B (q _ _ _ t u v)) r
def Rest.mono{E m:XK}{W o:Nat->Prop}(h:Rest T CC CT H x y E W)(e:∀c d H',E c d H'->m c d H')(w:∀n,W n->o n):Rest T CC CT H x y m o:=
 Or.imp (λ⟨a,b,c⟩=>(a,b,λH' i j l k g f r s=>e _ _ _ (c H' i j l k g f r s),)) (λ⟨t,l,z,n,p,A,C,B,a,b,c,d,q,f⟩=>(t,l,z,n,p,A,C,B,a,b,c,d,q,Or.imp (λ⟨u,v⟩=>(u,λH' x y k g t h=>e _ _ _ (v H' x y k g t h),)) (λ⟨u,v⟩=>(u,w _ v,)) f,)) h
def Prs(T:Tb)(CN CC CT:Addr)(H:Hp)(x y a b:V)(E:XK)(W:Nat->Prop):Prop:=Nm H a/\Nm H b/\
 (((¬jA H x a\/¬jA H x b\/a=b)/\∀H',aD H H'->E (.ref CN) none H')\/(jA H x a/\jA H x b/\a≠b/\Rest T CC CT H x y E W))
theorem Prs.same{a b:V}{E:XK}{W e:Nat->Prop}(h:Prs T CN CC CT H x y a b E W)(j:bC H x=true)(s:aD H H1)(w:∀n,W n->e n):Prs T CN CC CT H1 x y a b E e:=by obtain⟨g,i,h⟩:=h;refine(g.same s,i.same s,?_,);have t:=(jx j s).2;rw[t a,t b];exact h.imp (λ⟨a,b⟩=>(a,λf k=>b f (s.trans k),)) λ⟨a,b,c,d⟩=>(a,b,c,d.same s w,)
theorem Prs.mono{a b:V}{E f:XK}{W g:Nat->Prop}(h:Prs T CN CC CT H x y a b E W)(e:∀c d H',E c d H'->f c d H')(w:∀n,W n->g n):Prs T CN CC CT H x y a b f g:=
 (h.1,h.2.1,h.2.2.imp (λ⟨a,b⟩=>(a,λH' i=>e _ _ _ (b H' i),)) λ⟨a,b,c,d⟩=>(a,b,c,d.mono e w,),)
def CQ(T:Tb)(C CO CN CC CT:Addr):Sp:=λvs H Q _=>∃x y p,vs=[x,y,p]/\Tab T H/\
 ((p=.non/\Fo C CO H x y (EX C CO CN CC CT Q) (Rest T CC CT H x y (EX C CO CN CC CT Q) λ_=>∀H' l,Gr T H H'->H' l<*(.lst [])->Q (.ref l) H'))\/
  ∃r a b,p=.ref r/\H r<*(.tup [a,b])/\Fo C CO H x y (EX C CO CN CC CT Q) (Prs T CN CC CT H x y a b (EX C CO CN CC CT Q) λ_=>∀H' l,Gr T H H'->H' l<*(.lst [])->Q (.ref l) H'))
def wp_tr3(X:Xh G CE C CO CN CC CT)(F:Fh K CE C CO CN CC CT)(k:G.fn "set_aside" 2<*(Lg T C CO CC CT,[]))(m:G.fn "comes_of" 4<*(Li T C CO CN CC CT,[])):
  Sat G K (CQ T C CO CN CC CT) sQ rV:=by
 rintro u H Q E ⟨x,y,p,rfl,tb,h⟩;unfold sQ;change wpB G K _ _ _ [some x,some y,some p,none,none] H;ext;refine(short 'F',λl s=>?_,);generalize hX:upd H l _=H1;obtain⟨d,j⟩:=cX hX s;clear hX;have e:=(Gr.of d).tab tb;have W:∀n:Nat,(∀c l,Gr T H c->c l<*(.lst [])->Q (.ref l) c)->∀c (v:V),Gr T H1 c->wpB G K (λ_=>E) eA {nx:=λ_ c=>Q .non c,rt:=Q} [some x,some y,some p,some (.ref l),none] c:=λ_ q c v g=>by unfold eA;ext;exact q _ l ((Gr.of d).trans g) (g.lst e j)
 unfold oS;ext;refine(CE,X.v0,?_,);rcases h with⟨rfl,h⟩ |⟨r,a,b,rfl,t,h⟩;·rw[if_pos 'E'];exact(_,_,k,x,y,rfl,e,(h.same d λr=>r.same d W).imp (λ_ _ h=>cat X F rfl h) (λ_ _ h=>cat X F rfl h) λr=>r.mono (λ_ _ _ h=>cat X F rfl h) λ_ h=>h,)
 .rw[if_neg 'F'];have f:=d _ _ t;refine(_,_,m,.inr (.inl (r,_,0,_,rfl,rfl,SqT.of f,rfl,.inr (.inl (r,_,1,_,rfl,rfl,SqT.of f,rfl,x,y,a,b,rfl,e,?_,)),)),);have o:Fo C CO H1 x y (EX C CO CN CC CT Q) (Prs T CN CC CT H1 x y a b (EX C CO CN CC CT Q) λ_=>∀c (v:V),Gr T H1 c->wpB G K (λ_=>E) eA {nx:=λ_ c=>Q .non c,rt:=Q} [some x,some y,some (.ref r),some (.ref l),none] c):=by
   rcases h with h|h|⟨i,h⟩;·exact Fo.same (.inl h) d λz=>z
   .exact Fo.same (.inr (.inl h)) d λz=>z
   .exact .inr (.inr (i.same d,h.same i.tb d W,))
  exact o.imp (λ_ _ h=>cat X F rfl h) (λ_ _ h=>cat X F rfl h) λr=>r.mono (λ_ _ _ h=>cat X F rfl h) λ_ h=>h
end
end K73
namespace K73
open R
abbrev qK:List Str:=["_law_many","_law_draw_here"]
abbrev kH:List Str:=["_law_many","_law_draw_here","_law_far","_law_some","_law_place"]
abbrev gE:CB:=
  (.cons (.ret (.idx (.var 3) (.bin .Mod (.var 1) (.bfn .len (.cons (.var 3) .nil)))))
  .nil)
abbrev jC:CB:=
  (.cons (.iff (.cmp .Gt (.var 0) (.con (.int 0)))
  (.cons (.asg (.name 4) (.bin .Mod (.var 2) (.var 0)))
  (.cons (.asg (.name 3) (.bin .Add (.var 3) (.lst (.cons (.lst (.cons (.tup (.cons (.var 4) (.cons (.con (.int 2)) .nil))) .nil)) (.cons (.lst (.cons (.tup (.cons (.var 4) (.cons (.con (.bool true)) .nil))) .nil)) (.cons (.lst (.cons (.tup (.cons (.var 4) (.cons (.con .none) .nil))) .nil)) (.cons (.lst (.cons (.tup (.cons (.var 4) (.cons (.con (.int 0)) .nil))) (.cons (.tup (.cons (.var 4) (.cons (.con (.int 0)) .nil))) .nil))) .nil)))))))
  (.cons (.asg (.name 3) (.bin .Add (.var 3) (.lst (.cons (.lst (.cons (.tup (.cons (.var 4) (.cons (.con (.int 1)) .nil))) (.cons (.tup (.cons (.var 4) (.cons (.con (.int 0)) .nil))) .nil))) (.cons (.lst (.cons (.tup (.cons (.var 4) (.cons (.un .USub (.con (.int 1))) .nil))) .nil)) .nil)))))
  .nil)))
  .nil)
  gE)
abbrev jD:CB:=
  (.cons (.asg (.name 3) (.bin .Add (.var 3) (.lst (.cons (.lst (.cons (.tup (.cons (.con (.bool true)) (.cons (.con (.int 0)) .nil))) .nil)) (.cons (.lst (.cons (.tup (.cons (.con (.str "0")) (.cons (.con (.int 0)) .nil))) .nil)) .nil)))))
  jC)
abbrev jE:CB:=
  (.cons (.asg (.name 3) (.lst (.cons (.con .none) (.cons (.tup .nil) (.cons (.dic .nil) (.cons (.lst (.cons (.con .none) .nil)) (.cons (.lst (.cons (.tup (.cons (.var 0) (.cons (.con (.int 0)) .nil))) .nil)) (.cons (.lst (.cons (.tup (.cons (.bin .Add (.var 0) (.var 2)) (.cons (.con (.int 1)) .nil))) .nil)) (.cons (.lst (.cons (.tup (.cons (.bin .Sub (.un .USub (.con (.int 1))) (.var 2)) (.cons (.con (.int 0)) .nil))) .nil)) (.cons (.lst (.cons (.lst (.cons (.con (.int 0)) (.cons (.con (.int 0)) .nil))) .nil)) (.cons (.lst (.cons (.tup (.cons (.con (.int 0)) .nil)) .nil)) (.cons (.lst (.cons (.tup (.cons (.con (.int 0)) (.cons (.con (.int 0)) (.cons (.con (.int 0)) .nil)))) .nil)) .nil))))))))))))
  jD)
abbrev kP:CB:=
  (.cons (.asg (.name 2) (.bin .Mod (.bin .FloorDiv (.var 1) (.con (.int 20))) (.bin .Pow (.con (.int 10)) (.con (.int 9)))))
  jE)
abbrev xk:List Str:=["_law_names_here","_law_draw_here"]
abbrev ot:List Str:=["_law_names_here","_law_draw_here","_law_none"]
abbrev mC:CB:=
  (.cons (.ret (.idx (.lst (.cons (.tup (.cons (.idx (.var 0) (.con (.int 0))) (.cons (.idx (.var 0) (.con (.int 0))) .nil))) (.cons (.tup (.cons (.idx (.var 0) (.con (.int 0))) (.cons (.var 2) .nil))) (.cons (.tup (.cons (.var 2) (.cons (.idx (.var 0) (.con (.int 1))) .nil))) (.cons (.tup (.cons (.var 2) (.cons (.var 2) .nil))) .nil))))) (.bin .Mod (.bin .FloorDiv (.var 1) (.con (.int 6))) (.con (.int 4)))))
  .nil)
abbrev oW:CB:=
  (.cons (.asg (.name 2) (.idx (.lst (.cons (.con .none) (.cons (.con (.str "")) (.cons (.con (.int 3)) (.cons (.bin .Add (.idx (.var 0) (.con (.int 0))) (.con (.str "zzzzzzzz"))) (.cons (.con (.str "Zz")) (.cons (.lst (.cons (.idx (.var 0) (.con (.int 0))) .nil)) .nil))))))) (.bin .Mod (.var 1) (.con (.int 6)))))
  mC)
end K73
namespace K73
open L2 R Cp Lt Kc K21 K22 Lm K23 K02 K32 K34 K75 K63
section
variable {G:Gam}{T:Tb}{C CO CN CC CT:Addr}
def spOn:Sp:=λvs H Q _=>∃k:Nat,vs=[.int k]/\k<=4/\∀H' l,aD H H'->H l=none->H' l<*(.lst (only k))->Q (.ref l) H'
def wp_on:Sat G K spOn yo xA:=by
 rintro r H Q E ⟨k,rfl,o,q⟩;unfold yo;change wpB G K _ _ _ [some (.int k)] H;ext;refine cQ ?_;ext;refine(6,rfl,'E','E',?_,);refine cW (dM) (fF 'E') (λ_ _=>trivial) (λi w _=>w=.bl (decide (i=k)||decide (i=5))) (λ_ _ _ _ _ h=>h) (λf=>∃u,f=[u,some (.int k)]) (none,rfl,) ?_ ?_
 .rintro i x f n R hi ⟨u,rfl⟩ p rfl b;ext;by_cases c:i=k;·subst c;rw[if_pos 'F'];exact b _ _ _ (_,rfl,) (aD.refl _) 'F'
  .rw[if_neg (by simp;lia)];exact b _ _ _ (_,rfl,) (aD.refl _) (by rw[decide_eq_false c,Bool.false_or];exact congrArg V.bl (decide_eq_decide.mpr 'D'))
 .intro bs m l j g d a;have e:=bool_list j g;refine q _ l (d.trans (au a)) (d.free a) ?_;rw[aq,e];obtain rfl|rfl|rfl|rfl|rfl:k=0\/k=1\/k=2\/k=3\/k=4:=by lia
  all_goals rfl
section
variable {E:XS}
def nt_at{c:Const}:Mk G K E σ H (.con c) (λx H=>ThV H x (.at (cv c))):=dy
def Hu{a:CL}{vs:List V}(h:MkL G K E σ H a (λws _=>ws=vs))(l:vs.length<=1000):Mk G K E σ H (.tup a) (λx H=>ThV H x (.tp vs)):=
 (uo h GY (λws _ e=>by rw[e];exact l)).imp λv f s ⟨p,ws,b,c,d⟩=>⟨p,b,by rw[<-d];exact c⟩
def nt_ls{a:CL}{vs:List V}(h:MkL G K E σ H a (λws _=>ws=vs))(l:vs.length<=1000):Mk G K E σ H (.lst a) (λx H=>ThV H x (.ls vs)):=
 (oz h GY (λws _ e=>by rw[e];exact l)).imp λv f s ⟨p,ws,b,c,d⟩=>⟨p,b,by rw[<-d];exact c⟩
def no_non:Mk G K E σ H (.con .none) (NoT n):=dy.imp λv a _ e=>(none,.inl e,rfl,)
def no_tup0:Mk G K E σ H (.tup .nil) (NoT n):=(uo lj CK HG).imp λv d s ⟨p,e,a,b,c⟩=>(none,.inr ⟨p,a,.inr (by rw[<-c];exact b)⟩,rfl,)
def no_dic:Mk G K E σ H (.dic .nil) (NoT n):=λb s Q q=>.inl (rfl,λp a=>q _ _ (au a) (none,.inr (p,rfl,.inl aq,),rfl,),)
def jh{e:CE}{t:Th}(h:Mk G K E σ H e (λx H=>ThV H x t))(o:t.ok)(z:tgT n t=false):Mk G K E σ H (.lst (.cons e .nil)) (NoT n):=
 (oz (sk h dW) (rF dW) len_one).imp λv g s ⟨p,j,a,b,x,c,d⟩=>⟨some [t],⟨p,[x],a,by rw[<-c];exact b,.cons d .nil,'F',λi f=>by rw[aI.mp f];exact o⟩,by show((tgT n t&&true)&&_)=false;rw[z];rfl⟩
def MB{e b:CE}{vs a:List V}(h:Mk G K E σ H e (λx H=>ThV H x (.tp vs)))(h':Mk G K E σ H b (λx H=>ThV H x (.tp a)))(o:∀v∈vs,Atm v)(j:∀v∈a,Atm v)(z:K63.atT n [.tp vs,.tp a]=false):Mk G K E σ H (.lst (.cons e (.cons b .nil))) (NoT n):=
 (oz (r9 h dW h' dW) (rE dW dW) vX).imp λv k s ⟨p,m,c,d,x,y,f,g,i⟩=>⟨some [.tp vs,.tp a],⟨p,[x,y],c,by rw[<-f];exact d,.cons g (.cons i .nil),'F',λl ht=>by
  rcases aA.mp ht with rfl|ht;·exact o
  .rw[aI.mp ht];exact j⟩,z⟩
def Dx{a b:CE}{o:Operator}{z:V}(h:Mk G K E σ H a (Is x))(i:Mk G K E σ H b (Is y))(k:∀{H Q},Q z H->nZ K o x y H Q):Mk G K E σ H (.bin o a b) (Is z):=λd s Q q=>
 h d s _ λv e c f=>i e (s.trans c) _ λw l j g=>by rw[show v=x from f,show w=y from g];exact k (q _ _ (c.trans j) rfl)
def EZ{p e:Int}(h:¬(0<=p/\p<n)):tgT n (.tp [.int p,.int e])=false:=by show(true&&(decide (0<=p/\p<n)&&_))=false;rw[decide_eq_false h];rfl
def AJ{p:Int}{e:V}(h:bF e=false):tgT n (.tp [.int p,e])=false:=by show(true&&(_&&bF e))=false;rw[h,dP];rfl
end
def spBt:Sp:=λvs H Q _=>∃(n:Nat)(d:Int),vs=[.int n,.int d]/\n<=1000/\0<=d/\∀H' x,aD H H'->NoT n x H'->Q x H'
def wp_bt:Sat G K spBt kP kH:=by
 rintro k H Q E ⟨n,d,rfl,n1,W,q⟩;have g:gJ (NoT n):=CJ;unfold kP;change wpB G K _ _ _ [some (.int n),some (.int d),none,none,none] H;ext;refine(('E','E',),('E','E','E',),'E',?_,);have M:0<=d/20%10^Int.toNat 9:=bA _ 'E';generalize d/20%10^Int.toNat 9=far at M;have A:∀{j:Hp}{v:V}{m:Nat}{u:Option V},aD H j->yF m (NoT n) v j->0<m->m<=100->wpB G K (λ_=>E) gE {nx:=λ_ D=>Q .non D,rt:=Q} [some (.int n),some (.int d),some (.int far),some v,u] j:=λ{j v m u} l b Y Z=>by
  obtain⟨p,k,rfl,w,X,L⟩:=b;unfold gE;ext;refine Or.inl (p,k,rfl,.inl (SqL.of w),um.mpr ('D',?_,),);obtain⟨i,hi⟩:=dJ (bA d (b:=(k.length:Int)) 'D');have P:=bR d (b:=(k.length:Int)) 'D';rw[hi]at P⊢;have B:i<k.length:=by lia
  exact .inl (p,k,i,_,rfl,rfl,SqL.of w,cG (ae B),q _ _ l (L _ (aR B)),)
 have f:∀{o:L2.St}{H:Hp}{a b:CE}{x y:V},Mk G K (λ_=>E) o H a (Is x)->Mk G K (λ_=>E) o H b (Is y)->Mk G K (λ_=>E) o H (.tup (.cons a (.cons b .nil))) (λz H=>ThV H z (.tp [x,y])):=λN O=>Hu (gY N (gY O lj)) 'F';unfold jE wpB R.wpS lG nU wpG iS;refine(?h:Mk G K (λ_=>E) _ H _ (yF 10 (NoT n))) H (aD.refl _) _ λv1 j l F=>?_
 case h=>
  exact qM g rfl 'E' (gH no_non (gH no_tup0 (gH no_dic (gH (jh nt_at Om rfl)
  (gH (jh (f (gO rfl) dy) (pk eX (pq eX)) (EZ 'D')) (gH (jh (f (Dx (gO (v:=.int n) rfl) (gO rfl) λq=>B5.mpr q) dy) (pk eX (pq eX)) (EZ 'D'))
  (gH (jh (f (Dx MN (gO (v:=.int far) rfl) λq=>K8.mpr q) dy) (pk eX (pq eX)) (EZ 'D')) (gH (jh (nt_ls (gY dy (gY dy lj)) 'E') (pk eX (pq eX)) rfl)
  (gH (jh (Hu (gY dy lj) 'E') (pq eX) rfl) (gH (jh (Hu (gY dy (gY dy (gY dy lj))) 'E') (pk eX (pk eX (pq eX))) rfl) GI))))))))))
 simp only[eD,eE];unfold jD wpB R.wpS lG nU wpG iS;refine(?h:Mk G K (λ_=>E) _ j _ (yF 12 (NoT n))) j (aD.refl _) _ λv2 r C t=>?_
 case h=>
  exact Br (n:=2) g (sv (tZ g) rfl F) (qM g rfl 'E' (gH (jh (f dy dy) (pk atm_b (pq eX)) rfl) (gH (jh (f dy dy) (pk atm_s (pq eX)) rfl) GI))) 'E'
 simp only[eD,eE];unfold jC wpB R.wpS lG;simp only[wpT,tIfS,wI,tOp,wpE,qG,tC,cv,GQ,iK,exists_eq_left'];refine HM.mpr (_,rfl,?_,);by_cases c:(0:Int)<n
 .rw[if_pos (decide_eq_true c)];unfold wpB R.wpS lG nU wpG iS;refine(_,rfl,_,rfl,um.mpr (c,?_,),);generalize far%(n:Int)=pl;simp only[eD,eE];have two:∀e:Int,K63.atT n [.tp [.int pl,.int e],.tp [.int pl,.int 0]]=false:=λe=>by unfold K63.atT;rw[Bool.and_eq_false_iff];refine .inr (decide_eq_false ?_);show ¬(_root_.Q.met [eK pl,eK pl]).length=2;simp[_root_.Q.met,_root_.Q.more,_root_.Q.has]
  unfold wpB R.wpS lG nU wpG iS;refine(?h:Mk G K (λ_=>E) _ r _ (yF 16 (NoT n))) r (aD.refl _) _ λv3 s S I=>?_
  case h=>
   exact Br (n:=4) g (sv (tZ g) rfl t) (qM g rfl 'E'
   (gH (jh (f (gO rfl) dy) (pk eX (pq eX)) (AJ rfl)) (gH (jh (f (gO (v:=.int pl) rfl) dy) (pk eX (pq atm_b)) (AJ rfl)) (gH (jh (f (gO (v:=.int pl) rfl) dy) (pk eX (pq Om)) (AJ rfl))
   (gH (MB (f (gO (v:=.int pl) rfl) dy) (f (gO (v:=.int pl) rfl) dy) (pk eX (pq eX)) (pk eX (pq eX)) (two 0)) GI))))) 'E'
  simp only[eD,eE];unfold wpB R.wpS lG nU wpG iS;refine(?h:Mk G K (λ_=>E) _ s _ (yF 18 (NoT n))) s (aD.refl _) _ λv5 U T J=>?_
  case h=>
   exact Br (n:=2) g (sv (tZ g) rfl I) (qM g rfl 'E'
   (gH (MB (f (gO (v:=.int pl) rfl) dy) (f (gO (v:=.int pl) rfl) dy) (pk eX (pq eX)) (pk eX (pq eX)) (two 1)) (gH (jh (f (gO (v:=.int pl) rfl) MN) (pk eX (pq eX)) (AJ rfl)) GI))) 'E'
  simp only[eD,eE];exact A (l.trans (C.trans (S.trans T))) J 'E' 'E'
 .rw[if_neg (λz=>c (W0 z))];exact A (l.trans C) t 'E' 'E'
def Od(v:V)(H:Hp):Prop:=(Atm v\/∃p us,v=.ref p/\H p<*(.lst us))/\∀z,v=.str z->z.length<=20000/\eJ z=false
def iO:gJ Od:=λv H b s h=>(h.1.imp id λ⟨p,a,e,x⟩=>(p,a,e,s _ _ x,),h.2,)
def Od.nm(h:Od v H):Nm H v:=⟨by
 rcases h.1 with h|⟨p,a,rfl,e⟩;·exact Atm.kn h
 .exact uu e,λz e=>(h.2 z e).1⟩
def Od.no(h:Od v H)(e:bC H x=true):¬jA H x v:=by rintro⟨a,l,z,y,rfl,b,rfl,i,d⟩;obtain⟨j,m,c,f,k,g,_⟩:=cM e;cases c;rw[f]at b;cases b;have :=(h.2 z rfl).2;rw[<-d,uj (g y i)]at this;cases this
def Bp(nf:Nat->Str)(v:V)(H:Hp):Prop:=∃r a b,v=.ref r/\H r<*(.tup [a,b])/\((a=.str (nf 0)/\b=.str (nf 0))\/(a=.str (nf 0)/\Od b H)\/(Od a H/\b=.str (nf 1))\/(Od a H/\Od b H))
def k9:gJ (Bp nf):=λv H d s ⟨r,a,b,e,h,c⟩=>(r,a,b,e,s _ _ h,c.imp id (Or.imp (λ⟨u,w⟩=>(u,iO _ _ _ s w,)) (Or.imp (λ⟨u,w⟩=>(iO _ _ _ s u,w,)) λ⟨u,w⟩=>(iO _ _ _ s u,iO _ _ _ s w,))),)
def spBp(K:ah):Sp:=λvs H Q _=>∃(l:Addr)(d:Int)(nf:Nat->Str)(m:Nat),vs=[.ref l,.int d]/\0<=d/\2<=m/\(∀i,eJ (nf i)=true)/\SqL K H l ((aC m).map λk=>V.str (nf k))/\∀H' x,aD H H'->Bp nf x H'->Q x H'
def wp_bp:Sat G K (spBp K) oW ot:=by
 rintro N H Q E ⟨l,d,c,a0,rfl,d0,m2,ok,C,q⟩;have n8:∀k,(c k).length<=8/\1<=(c k).length:=λk=>by have :=ok k;unfold eJ at this;rw[az,decide_eq_true_eq]at this;lia
 unfold oW;change wpB G K _ _ _ [some (.ref l),some (.int d),none] H;have nm:∀{f:Hp}{k:Nat}{u:Option V},aD H f->k<2->Mk G K (λ_=>E) [some (.ref l),some (.int d),u] f (.idx (.var 0) (.con (.int k))) (Is (.str (c k))):=λ{f k u} j hk g s Q q=>
  ⟨_,rfl,.inl (l,_,k,_,rfl,rfl,(j.trans s).seq C,cG (by rw[ax,bw 'D'];rfl),q _ _ (aD.refl _) rfl,)⟩
 have I:∀{H:Hp}{v:V},(Atm v\/∃p us,v=.ref p/\H p<*(.lst us))->(∀z,v≠.str z)->Od v H:=λk h=>(k,λz e=>absurd e (h z),);have F:∀{H:Hp}{z:Str},z.length<=20000->eJ z=false->Od (.str z) H:=λZ h=>⟨.inl atm_s,λz e=>by cases e;exact(Z,h,)⟩;have n:∀{σ:L2.St}{H:Hp}{k:Const},(∀g:Hp,Od (cv k) g)->Mk G K (λ_=>E) σ H (.con k) Od:=λh=>dy.imp λv g _ e=>by rw[show v=_ from e];exact h g
 unfold wpB R.wpS lG nU wpG iS;refine(?h:Mk G K (λ_=>E) _ H _ Od) H (aD.refl _) _ λi f j P=>?_
 case h=>
  refine FI iO (qM iO rfl 'E' (gH (n λ_=>I (.inl Om) λ_ z=>by cases z) (gH (n λ_=>F (by decide+kernel) (by decide+kernel)) (gH (n λ_=>I (.inl eX) λ_ z=>by cases z) (gH ?_ (gH (n λ_=>F (by decide+kernel) (by decide+kernel)) (gH ?_ GI))))))) (Dx (gO rfl) dy λq=>um.mpr ('E',q,)) (bA _ 'E') (bR _ 'E')
  .intro g s Q q;refine nm (aD.refl _) (by decide:0<2) g s _ λv O J e=>?_;rw[show v=_ from e];have B:(aQ "zzzzzzzz").length=8:=by decide+kernel
   have h0:=n8 0;refine Ov.mpr ⟨short (by rw[B];lia),q _ _ J (F (by rw[xQ,B];lia) ?_)⟩;have C:(c 0++aQ "zzzzzzzz").length=(c 0).length+8:=by rw[xQ,B]
   unfold eJ;rw[C,decide_eq_false 'D',cU]
  .exact(oz (sk (nm (aD.refl _) (by decide:0<2)) hV) (rF hV) len_one).imp λv g _ ⟨p,N,w,A,_⟩=>by rw[w];exact I (.inr (p,_,rfl,A,)) λz e=>nomatch e
 simp only[eD,eE];unfold mC wpB R.wpS lG tRet;refine(?h:Mk G K (λ_=>E) _ f _ (Bp c)) f (aD.refl _) _ λm O J S=>q _ _ (j.trans J) S;have m:Mk G K (λ_=>E) [some (.ref l),some (.int d),some i] f (.var 2) Od:=sv iO rfl P;have D:Mk G K (λ_=>E) [some (.ref l),some (.int d),some i] f (.idx (.var 0) (.con (.int (0:Nat)))) (Is (.str (c 0))):=nm j 'E';have n1:Mk G K (λ_=>E) [some (.ref l),some (.int d),some i] f (.idx (.var 0) (.con (.int (1:Nat)))) (Is (.str (c 1))):=nm j 'E';have o:∀{a b:CE}{r t:V->Hp->Prop},gJ r->gJ t->Mk G K (λ_=>E) [some (.ref l),some (.int d),some i] f a r->Mk G K (λ_=>E) [some (.ref l),some (.int d),some i] f b t->(∀x y H,r x H->t y H->((x=.str (c 0)/\y=.str (c 0))\/(x=.str (c 0)/\Od y H)\/(Od x H/\y=.str (c 1))\/(Od x H/\Od y H)))->Mk G K (λ_=>E) [some (.ref l),some (.int d),some i] f (.tup (.cons a (.cons b .nil))) (Bp c):=λL M X Y k=>
  (uo (r9 X L Y M) (rE L M) vX).imp λv g _ ⟨p,N,w,A,x,y,T,U,W⟩=>(p,x,y,w,by rw[A,T],k x y g U W,)
 exact FI k9 (qM k9 rfl 'E' (gH (o hV hV D D λ_ _ _ a b=>.inl (a,b,)) (gH (o hV iO D m λ_ _ _ a b=>.inr (.inl (a,b,))) (gH (o iO hV m n1 λ_ _ _ a b=>.inr (.inr (.inl (a,b,)))) (gH (o iO iO m m λ_ _ _ a b=>.inr (.inr (.inr (a,b,)))) GI))))) (Dx (Dx (gO (v:=.int d) rfl) dy λq=>div_ii.mpr (('E','E',),q,)) dy λq=>um.mpr ('E',q,)) (bA _ 'E') (bR _ 'E')
end
end K73
namespace K73
open R
abbrev xj:List Str:=["_law_table","_law_many","_law_names_here"]
abbrev oq:List Str:=["_law_table","_law_many","_law_names_here","_law_some","_law_k","_law_more"]
abbrev mz:CB:=
  (.cons (.ret (.var 3))
  .nil)
abbrev iz:CB:=
  (.cons (.expr (.meth1 .append (.var 3) (.tup (.cons (.idx (.var 2) (.bin .Add (.bfn .len (.cons (.var 0) .nil)) (.var 4))) (.cons (.bin .Add (.bfn .tuple (.cons (.bin .Mult (.lst (.cons (.con (.int 0)) .nil)) (.var 1)) .nil)) (.var 5)) .nil)))))
  .nil)
abbrev mB:CB:=
  (.cons (.forr (.name 4) (.range1 (.con (.int 4)))
  (.cons (.asg (.name 5) (.idx (.lst (.cons (.tup (.cons (.con (.int 0)) (.cons (.con (.int 0)) .nil))) (.cons (.tup (.cons (.con (.int 0)) (.cons (.con (.int 1)) .nil))) (.cons (.tup (.cons (.con (.int 1)) (.cons (.con (.int 0)) .nil))) (.cons (.tup (.cons (.con (.int 1)) (.cons (.con (.int 1)) .nil))) .nil))))) (.var 4)))
  iz))
  mz)
abbrev oV:CB:=
  (.cons (.asgc 3 (.comp ["_law_k","_law_name","_law_readings"] [] (.tup (.cons (.name 0) (.cons (.tup (.cons (.name 1) (.cons (.name 2) .nil))) .nil))) (.enum (.var 0)) .no (.tup (.cons (.var 1) (.cons (.bin .Add (.var 2) (.idx (.lst (.cons (.tup (.cons (.con (.int 0)) (.cons (.con (.int 0)) .nil))) (.cons (.tup (.cons (.con (.int 0)) (.cons (.con (.int 1)) .nil))) (.cons (.tup (.cons (.con (.int 1)) (.cons (.con (.int 0)) .nil))) (.cons (.tup (.cons (.con (.int 1)) (.cons (.con (.int 1)) .nil))) .nil))))) (.bin .Mod (.var 0) (.con (.int 4))))) .nil)))))
  mB)
abbrev Ft:List Str:=["_law_table","_law_many"]
abbrev xy:List Str:=["_law_table","_law_many"]
abbrev yn:CB:=
  (.cons (.ret (.comp ["_law_k","_law_name","_law_readings"] [] (.tup (.cons (.name 0) (.cons (.tup (.cons (.name 1) (.cons (.name 2) .nil))) .nil))) (.enum (.var 0)) .no (.tup (.cons (.var 1) (.cons (.bin .Add (.var 2) (.tup (.cons (.con (.int 0)) (.cons (.bfn .int (.cons (.cmp .Eq (.var 0) (.con (.int 0))) .nil)) .nil)))) .nil)))))
  .nil)
end K73
namespace K73
open L2 R Cp Lt Kc K21 K22 Lm K23 K02 K32 K34 K75 K63
section
variable {G:Gam}{T:Tb}{C CO CN CC CT:Addr}
def sL{Q:VK}(a:H r<*(.tup (gs.map V.int)))(b:H p<*(.tup (hs.map V.int)))(c:gs.length<=60)(d:hs.length<=60)(ne:hs≠[])(q:∀H' l,aD H H'->H' l<*(.tup ((gs++hs).map V.int))->Q (.ref l) H'):nZ K .Add (.ref r) (.ref p) H Q:=by
 by_cases hy:gs=[];·rw[hy]at a q;exact .inr (.inr (.inr (.inr (r,p,_,rfl,rfl,SqT.of a,SqT.of b,q _ _ (aD.refl _) b,))))
 .exact .inr (.inr (.inr (.inl ⟨r,p,_,_,rfl,rfl,SqT.of a,SqT.of b,(λz=>hy (tU.mp z)),aO (by simp;lia:_<=120) 'E',λz=>absurd (tU.mp z) ne,λ_ l c=>q _ _ (au c) (by rw[aq,cH])⟩)))
abbrev k7(rows:List (List Int)):List (List Int):=(aC rows.length).map λi=>rows.getD i []++[0,if i=0 then 1 else 0]
def KU(h:i<rows.length):(k7 rows).getD i []=rows.getD i []++[0,if i=0 then 1 else 0]:=by unfold k7;rw[ag,ax,bw h];rfl
def IK{v:List Int}(h:v∈k7 rows):∃i,i<rows.length/\v=rows.getD i []++[0,if i=0 then 1 else 0]:=by obtain⟨i,hi,rfl⟩:=aN.mp h;exact(i,bq.mp hi,rfl,)
def at_l{r s:List Int}{p:Nat}(h:p<r.length):(r++s).getD p 0=r.getD p 0:=by rw[ag,fB h,ag]
def at_r{r s:List Int}{p:Nat}:(r++s).getD (r.length+p) 0=s.getD p 0:=by rw[ag,dg (eH _ _),ag,pA]
def pC{t:Addr}(d:Tn H t nf n cs rows){v:List Int}(c:v∈k7 rows):∃i r,i<rows.length/\r=rows.getD i []/\r∈rows/\M6.Ok n r/\M6.Ok (n+2) v/\(∀p,p<n->v.getD p 0=r.getD p 0)/\v.getD n 0=0/\v.getD (n+1) 0=if i=0 then 1 else 0:=by
 obtain⟨i,hi,rfl⟩:=IK c;have a:=d.get (by rw[<-d.ln];exact hi);have o:=d.rd _ a;refine(i,_,hi,rfl,a,o,(by rw[bu,o.1];rfl,λx hx=>?_,),λp b=>at_l (by rw[o.1];exact b),?_,?_,)
 .rcases bz.mp hx with hx|hx;·exact o.2 x hx
  .rcases aA.mp hx with rfl|hx;·exact .inl rfl
   .rw[aI.mp hx];split;·exact .inr rfl
    .exact .inl rfl
 .have :=at_r (r:=rows.getD i []) (s:=[0,if i=0 then 1 else 0]) (p:=0);rw[o.1]at this;exact this
 .have :=at_r (r:=rows.getD i []) (s:=[0,if i=0 then 1 else 0]) (p:=1);rw[o.1]at this;exact this
def KS{t:Addr}(d:Tn H t nf n cs rows):∀i j,i<j->j<n+2->M6.Mis (k7 rows) i j:=λi j q u=>by
 by_cases c:j<n;·obtain⟨a,b,o,p,k⟩:=d.mis i j q c;refine(a,b,o,p,λv f z=>?_,);obtain⟨m,r,_,_,s,_,_,e,_⟩:=pC d f;rw[e i 'D',e j c]at z;exact k r s z
 .by_cases c2:j=n;·subst c2;refine(0,1,.inl rfl,.inr rfl,λv f z=>?_,);obtain⟨_,_,_,_,_,_,_,_,e,_⟩:=pC d f;rw[e]at z;exact absurd z.2 'E'
  .obtain rfl:j=n+1:=by lia
   by_cases c3:i=n;·subst c3;refine(1,0,.inr rfl,.inl rfl,λv f z=>?_,);obtain⟨_,_,_,_,_,_,_,_,e,_⟩:=pC d f;rw[e]at z;exact absurd z.1 'E'
   .refine(1-(rows.getD 0 []).getD i 0,1,?_,.inr rfl,λv f z=>?_,)
    .by_cases l0:0<cs.length
     .rcases(d.rd _ (d.get l0)).at i with h|h<;>rw[h];·exact .inr rfl
      .exact .inl rfl
     .have :rows=[]:=bh.mp (by rw[d.ln];lia);rw[this];exact .inr rfl
    .obtain⟨m,r,_,g,_,_,_,e,_,l⟩:=pC d f;rw[e i 'D',l]at z;by_cases m0:m=0;·rw[g,m0]at z;lia
     .rw[if_neg m0]at z;exact absurd z.2 'E'
def wH{t:Addr}(d:Tn H t nf n cs rows)(two:2<=cs.length):Tor (k7 rows) (n+2) [(n,1)]/\Tor (k7 rows) (n+2) [(n+1,0),(n,1)]:=by
 have z:∀r∈k7 rows,r.getD n 0=0:=λr a=>by obtain⟨_,_,_,_,_,_,_,_,e,_⟩:=pC d a;exact e
 refine⟨.one 'D' z,.two 'D' 'D' 'D' z (_,aN.mpr (1,bq.mpr (by rw[d.ln];lia),rfl,),?_,)⟩;have o:=d.rd _ (d.get (i:=1) 'D');have :=at_r (r:=rows.getD 1 []) (s:=[0,if 1=0 then 1 else 0]) (p:=1);rw[o.1]at this;exact this
def Ld:Sp:=λvs H Q _=>∃(t:Addr)(nf:Nat->Str)(n:Nat)(cs:List V)(rows:List (List Int)),vs=[.ref t,.int n]/\Tn H t nf n cs rows/\n<=20/\∀H' t' cs',aD H H'->Tn H' t' nf (n+2) cs' (k7 rows)->cs'.length=cs.length->Q (.ref t') H'
def wp_to3:Sat G K Ld yn xy:=by
 rintro vs H a1 a0 ⟨t,W,n,L,E,rfl,d,n5,q⟩;have cl:=d.len;unfold yn;change wpB G K _ _ _ [some (.ref t),some (.int n)] H;ext;refine cQ ?_;ext;refine(t,rfl,(L,SqL.of d.et,),?_,);refine cW (rJ) (fF 'D') (λg f=>SqL.of (f _ _ d.et)) (λi w B=>∃b r,w=.ref b/\B b<*(.tup [.str (W i),.ref r])/\B r<*(.tup ((E.getD i []++[0,if i=0 then 1 else 0]).map V.int))) (λi w I J s ⟨b,r,e,h,l⟩=>(b,r,e,s _ _ h,s _ _ l,)) (λF=>∃u v w,F=[u,v,w]) (none,none,none,rfl,) ?_ ?_
 .rintro i a3 F g a2 hi ⟨u,v,w,rfl⟩ f ⟨p,y,rfl,R,S⟩ k;obtain⟨b,r,rfl,P,x⟩:=d.row i y S;have o:=d.rd _ (d.get hi);ext;refine(p,_,rfl,SqT.of R,rfl,_,_,rfl,_,_,rfl,b,_,rfl,SqT.of (f _ _ P),rfl,_,_,rfl,_,_,rfl,rfl,rfl,lq.mpr (.inr (_,rfl,by show 2<=sizeLine;decide,λc Q=>?_,)),);have a:=au (o:=.tup [V.int 0,V.int (if decide ((i:Int)=0)=true then 1 else 0)]) Q;have C:upd g c (.tup [V.int 0,V.int (if decide ((i:Int)=0)=true then 1 else 0)]) c<*(.tup (([0,if i=0 then 1 else 0]:List Int).map V.int)):=by
   rw[aq];by_cases c:i=0;·subst c;rfl
   .rw[if_neg (λz=>c (by have :=W0 z;lia)),if_neg c];rfl
  generalize upd g c (.tup [V.int 0,V.int (if decide ((i:Int)=0)=true then 1 else 0)])=I at a C⊢;refine sL (a _ _ (f _ _ x)) C (by rw[o.1];lia) 'F' 'F' λJ U X N=>(by show 2<=sizeLine;decide,λZ D=>?_,);exact k _ _ _ (_,_,_,rfl,) (a.trans (X.trans (au D))) (Z,U,rfl,aq,au D _ _ N,)
 .intro Y H4 T A O a m;refine q _ T Y (a.trans (au m)) (aq,?_,λi y e=>?_,d.ok,λi j hi hj=>d.inj i j 'D' 'D','D','D',λr x=>?_,KS d,) A;·unfold k7;rw[ai,bU,d.ln,A]
  .obtain⟨b,r,M,h,l⟩:=O i y e;have hi:i<E.length:=by rw[d.ln,<-A];exact(aF.mp e).1
   exact⟨b,r,M,au m _ _ h,by rw[KU hi];exact au m _ _ l⟩
  .obtain⟨_,_,_,_,_,_,o,_⟩:=pC d x;exact o
abbrev qd(i:Nat):List Int:=[((i/2:Nat):Int),((i%2:Nat):Int)]
def LV(h:i<4):∀x∈qd i,x=0\/x=1:=λx a=>by unfold qd at a;simp only[aA,bg,or_false]at a;lia
abbrev q4:CL:=(.cons (.tup (.cons (.con (.int 0)) (.cons (.con (.int 0)) .nil))) (.cons (.tup (.cons (.con (.int 0)) (.cons (.con (.int 1)) .nil))) (.cons (.tup (.cons (.con (.int 1)) (.cons (.con (.int 0)) .nil))) (.cons (.tup (.cons (.con (.int 1)) (.cons (.con (.int 1)) .nil))) .nil))))
def mk_ixL{E:XS}{a e:CE}{d:List V->Hp->Prop}{b:V->Hp->Prop}(x:gJ b)(o:Mk G K E σ H a (Lst d))(r:Mk G K E σ H e (Is (.int i)))(k:∀vs H,d vs H->∃y,vs[i]?<*y/\b y H):Mk G K E σ H (.idx a e) b:=λg s Q q=>
 o g s _ λv h f ⟨p,vs,j,l,m⟩=>r h (s.trans f) _ λw z c n=>by obtain⟨y,t,u⟩:=k _ _ m;exact .inl (p,vs,i,y,j,n,SqL.of (c _ _ l),cG t,q _ _ (f.trans c) (x _ _ _ c u),)
def mk_q4{E:XS}{e:CE}(hi:i<4)(h:Mk G K E σ H e (Is (.int i))):Mk G K E σ H (.idx (.lst q4) e) (λx H=>ThV H x (.tp ((qd i).map V.int))):=by
 have l:∀{a b:Int},Mk G K E σ H (.tup (.cons (.con (.int a)) (.cons (.con (.int b)) .nil))) (λx H=>ThV H x (.tp [.int a,.int b])):=Hu (gY dy (gY dy lj)) 'F';refine mk_ixL dW (oz (mn (l) dW (mn (l (a:=0)) dW (r9 (l (b:=0)) dW (l (a:=1) (b:=1)) dW))) ?_ ?_) h ?_;·rintro p o u s ⟨a,m,q,f,b,n,r,g,c,d,t,j,k⟩;exact(a,m,q,dW _ _ _ s f,b,n,r,dW _ _ _ s g,c,d,t,dW _ _ _ s j,dW _ _ _ s k,)
 .rintro p o ⟨a,m,rfl,f,b,n,rfl,g,c,d,rfl,j,k⟩;show 4<=1000;decide
 .rintro p o ⟨a,m,rfl,f,b,n,rfl,g,c,d,rfl,j,k⟩;obtain rfl|rfl|rfl|rfl:i=0\/i=1\/i=2\/i=3:=by lia
  .exact(a,rfl,f,)
  .exact(b,rfl,g,)
  .exact(c,rfl,j,)
  .exact(d,rfl,k,)
def mk_el{E:XS}{a e x:CE}(A:Mk G K E σ H a (Is (.str z)))(B:Mk G K E σ H e (λx H=>ThV H x (.tp (gs.map V.int))))(F:Mk G K E σ H x (λx H=>ThV H x (.tp (hs.map V.int))))(D:gs.length<=60)(C:hs.length<=60)(ne:hs≠[]):
  Mk G K E σ H (.tup (.cons a (.cons (.bin .Add e x) .nil))) (λv H=>∃b r,v=.ref b/\H b<*(.tup [.str z,.ref r])/\H r<*(.tup ((gs++hs).map V.int))):=by
 have cat:Mk G K E σ H (.bin .Add e x) (λx H=>ThV H x (.tp ((gs++hs).map V.int))):=λg s Q q=>
  B g s _ λv j h f=>F j (s.trans h) _ λw J i ⟨p,d,t⟩=>by obtain⟨r,c,f⟩:=dW _ _ _ i f;rw[c,d];exact sL f t D C ne λL l I u=>q _ _ (h.trans (i.trans I)) (l,rfl,u,)
 exact(uo (r9 A hV cat dW) (rE hV dW) vX).imp λv g s ⟨p,M,c,d,x,y,k,m,r,n,o⟩=>(p,r,c,by rw[d,k,show x=_ from m,n],o,)
abbrev C0(rows:List (List Int))(n j:Nat):List Int:=if j<rows.length then rows.getD j []++qd (j%4)else a8 n 0++qd (j-rows.length)
def RwC(nf:Nat->Str)(rows:List (List Int))(n j:Nat)(y:V)(H:Hp):Prop:=∃b r,y=.ref b/\H b<*(.tup [.str (nf j),.ref r])/\H r<*(.tup ((C0 rows n j).map V.int))
def spCl(K:ah):Sp:=λvs H Q _=>∃(t l:Addr)(nf:Nat->Str)(n:Nat)(cs:List V)(rows:List (List Int)),vs=[.ref t,.int n,.ref l]/\Tn H t nf n cs rows/\n<=20/\cs.length<=8/\SqL K H l ((aC 12).map λk=>V.str (nf k))/\∀H' t' ys,aD H H'->H' t'<*(.lst ys)->ys.length=cs.length+4->(∀j y,ys[j]?<*y->RwC nf rows n j y H')->Q (.ref t') H'
def wp_cl:Sat G K (spCl K) oV oq:=by
 rintro Z H a6 E ⟨t,l,N,n,k,O,rfl,d,n5,c8,hl,q⟩;unfold oV;change wpB G K _ _ _ [some (.ref t),some (.int n),some (.ref l),none,none,none] H;unfold wpB _root_.R.wpS lG nU;rw[wpE];refine cQ ?_;rw[wpI];refine(_,rfl,t,rfl,(k,SqL.of d.et,),?_,);refine cW (rJ) (fF 'D') (λH3 P=>SqL.of (P _ _ d.et)) (λi w B=>RwC N O n i w B) (λi w H5 S s ⟨b,r,e,m,x⟩=>(b,r,e,s _ _ m,s _ _ x,)) (λτ=>∃u v w,τ=[u,v,w]) (none,none,none,rfl,) ?_ ?_;·rintro i b8 τ H3 a0 hi ⟨u,v,w,rfl⟩ P ⟨p,y,rfl,X,D⟩ b3;obtain⟨b,r,rfl,W,L⟩:=d.row i y D;have o:=d.rd _ (d.get hi);refine(p,_,rfl,SqT.of X,rfl,_,_,rfl,_,_,rfl,b,_,rfl,SqT.of (P _ _ W),rfl,_,_,rfl,_,_,rfl,rfl,rfl,?_,);refine mk_el (hs:=qd (i%4)) (gO rfl) (sv dW rfl (r,rfl,P _ _ L,)) (mk_q4 (vM _ 'E') λB s a6 q=>?_) (by rw[o.1];lia) (by show 2<=60;decide) (by unfold qd;simp) H3 (aD.refl _) _ λw' S z ⟨T,Y,e,m,x⟩=>b3 _ _ _ (_,_,_,rfl,) z ⟨T,Y,e,m,by unfold C0;rw[if_pos (by rw[d.ln];exact hi)];exact x⟩;exact⟨_,rfl,(um (K:=K)).mpr ⟨'E',q _ _ (aD.refl _) (by show V.int ((i:Int)%4)=_;rw[Int.natCast_emod];rfl)⟩⟩
 .intro A R a c0 I s4 J;have fl:=s4.free J;have s5:=s4.trans (au (o:=.lst A) J);have e5:upd R a (.lst A) a<*(.lst A):=aq;have I:∀i v,A[i]?<*v->RwC N O n i v (upd R a (.lst A)):=λi v e=>let⟨b,r,U,m,x⟩:=I i v e;(b,r,U,au J _ _ m,au J _ _ x,);generalize upd R a (.lst A)=H5 at s5 e5 I⊢;change wpB G K _ _ _ [some (.ref t),some (.int n),some (.ref l),some (.ref a),none,none] H5;unfold mB wpB _root_.R.wpS lG;refine iT ?_;ext;refine(4,rfl,'E','E',?_,);refine gG (dM) (λi σ B=>aD H B/\∃g,B a<*(.lst g)/\g.length=k.length+i/\(∀j y,g[j]?<*y->RwC N O n j y B)/\∃u v,σ=[some (.ref t),some (.int n),some (.ref l),some (.ref a),u,v]) (s5,A,e5,'D',I,_,_,rfl,) (λ_ _ _ _ _=>trivial) ?_ ?_
  .rintro i b8 σ S H7 D2 hi ⟨z,g,f,yl,D,u,v,rfl⟩ rfl s7 b1 _;have b4:=mk_q4 (G:=G) (K:=K) (E:=λ_=>E) (σ:=[some (.ref t),some (.int n),some (.ref l),some (.ref a),some (.int i),v]) (H:=H7) (e:=.var 4) hi (gO rfl);simp only[eN];refine b4 H7 (aD.refl _) _ λw H8 s8 ⟨r5,e,h5⟩=>?_;subst e;have C:=s7.trans s8;have f:=C _ _ f;change wpB G K _ iz D2 [some (.ref t),some (.int n),some (.ref l),some (.ref a),some (.int i),some (.ref r5)] H8;unfold iz;ext;refine(.inl (rfl,_,SqL.of f,),.inl (t,_,rfl,.inl (SqL.of ((z.trans C) _ _ d.et)),?_,),);refine(B5 (K:=K)).mpr (.inl ⟨l,_,(k.length+i:Nat),.str (N (k.length+i)),rfl,by rw[Int.natCast_add],(z.trans C).seq hl,cG (by rw[ax,bw 'D'];rfl),(short 'F',λp X=>.inr (.inl ?_),)⟩);generalize hX:upd H8 p _=H9;obtain⟨s9,ep⟩:=cX hX X;clear hX;refine(p,n,_,rfl,rfl,ep,'D','D',short (by simp;lia),λF b2=>?_,);have er:∀n:Nat,(a8 n [V.int 0]).flatten=(a8 n (0:Int)).map V.int:=λn=>by
    induction n with
    |zero=>rfl
    |succ n ih=>rw[dR,ju,ih,dR];rfl
   have a2:aD H9 (upd H9 F (.lst ((a8 n (0:Int)).map V.int))):=au b2;show rBf K .tuple [.ref F] (upd H9 F (.lst (a8 n [V.int 0]).flatten)) _;rw[er];refine(F,_,rfl,.inl (SqL.of aq,λr L=>?_,),);generalize upd H9 F (.lst ((a8 n (0:Int)).map V.int))=H10 at a2 L⊢;generalize hX:upd H10 r _=H11;obtain⟨b6,a7⟩:=cX hX L;clear hX;have a4:=s9.trans (a2.trans b6);refine sL a7 (a4 _ _ h5) (by rw[jU];lia) (by show 2<=60;decide) (by unfold qd;simp) λa5 b5 b7 b0=>(by show 2<=sizeLine;decide,λb W=>?_,);generalize hX:upd a5 b _=H13;obtain⟨a3,a9⟩:=cX hX W;clear hX;have Q:=a4.trans (b7.trans a3);have f:=Q _ _ f;refine⟨a,_,_,rfl,rfl,f,cR (show g.length<=40 by lia) 'E',b1 _ _ (fH ((z.trans C).trans Q) fl,_,aq,by rw[bu];simp;lia,λj y e=>?_,_,_,rfl,)⟩;have M:∀{a1:Addr}{Z:List V},H13 a1<*(.tup Z)->upd H13 a (.lst (g++[.ref b])) a1<*(.tup Z):=λh=>by rw[aV (λb9=>by rw[b9,f]at h;cases h)];exact h
   by_cases c:j<g.length;·rw[fB c]at e;obtain⟨T,Y,U,m,x⟩:=D j y e;exact(T,Y,U,M ((C.trans Q) _ _ m),M ((C.trans Q) _ _ x),)
   .have jl:=(aF.mp e).1;rw[bu]at jl;obtain rfl:j=k.length+i:=by simp at jl;lia
    rw[dg 'D',show k.length+i-g.length=0 by lia]at e;cases e;refine(b,b5,rfl,M a9,?_,);unfold C0;rw[if_neg (by rw[d.ln];lia),show k.length+i-O.length=i by rw[d.ln];lia];exact M (a3 _ _ b0)
  .rintro σ S ⟨z,g,f,yl,D,u,v,rfl⟩;unfold mz;ext;exact q _ _ _ z f yl D
end
section
variable {G:Gam}{T:Tb}{C CO CN CC CT:Addr}
def A1(g:Gr T H H'):aD (del H T.P) (del H' T.P):=λb o e=>by
 by_cases c:b=T.P;·rw[c,jB]at e;cases e
 .rw[fS c]at e⊢;exact g.keep _ _ c e
def u5(tb:Tab T H){o:HO}(h:H a<*o)(n:∀ps,o≠.tbl ps):del H T.P a<*o:=by rw[fS (tb.ne h n)];exact h
def kn_P(tb:Tab T H)(k:Known H (.ref a)):a≠T.P:=λz=>by have k:iD (H a)≠"?":=k;rw[z]at k;rcases tb with e|⟨_,_,_,_,_,e,_⟩<;>rw[e]at k<;>exact k rfl
def HH(tb:Tab T H)(h:Kn1 H x):Kn1 (del H T.P) x:=(by
 cases x with
 |ref a=>show iD (del H T.P a)≠"?";rw[fS (kn_P tb h.1)];exact h.1
 |_=>exact h.1,h.2,)
def kn2_P(tb:Tab T H)(h:Kn2 H x):Kn2 (del H T.P) x:=(HH tb h.1,λa d e b=>let⟨l,k⟩:=h.2 a d e (oh _ _ b);(l,λy c=>HH tb (k y c),),)
def kn3_P(tb:Tab T H)(h:Kn3 H x):Kn3 (del H T.P) x:=(HH tb h.1,λa d e b=>let⟨l,k⟩:=h.2 a d e (oh _ _ b);(l,λy c=>kn2_P tb (k y c),),)
def kn4_P(tb:Tab T H)(h:Kn4 H x):Kn4 (del H T.P) x:=⟨HH tb h.1,λa d e b=>by subst e;rw[fS (kn_P tb h.1.1)]at b;obtain⟨l,k⟩:=h.2 a d rfl b;exact(l,λy c=>kn3_P tb (k y c),)⟩
def bad_gr(h:Bad x H)(g:Gr T H H')(tb:Tab T H):Bad x H':=by have k:=kn4_P tb h.1;have s:=(A1 g).trans (oh (H:=H') (dl:=T.P));refine(k.same s,?_,);rw[i8 k s,<-i8 k oh];exact h.2
def tlx_P(tb:Tab T H){o:Option (List Th)}(h:TlX H y o):TlX (del H T.P) y o:=by
 cases o with
 |some ts=>
  obtain⟨l,g,e,b,c,d,f⟩:=h;refine(l,g,e,u5 tb b (λ_ z=>by cases z),Paired.qN c λv t h=>?_,d,f,);cases t with
  |«at» w=>exact h
  |tp vs=>exact let⟨a,e,q⟩:=h;⟨a,e,u5 tb q λ_ z=>by cases z⟩
  |ls vs=>exact let⟨a,e,q⟩:=h;⟨a,e,u5 tb q λ_ z=>by cases z⟩
 |none=>exact h.imp id λ⟨a,e,h⟩=>⟨a,e,h.imp (λh=>u5 tb h λ_ z=>by cases z) (λh=>u5 tb h λ_ z=>by cases z)⟩
def xu(h:NoT n y H)(g:Gr T H H')(tb:Tab T H):NoT n y H':=let⟨o,h,e⟩:=h;(o,(tlx_P tb h).same ((A1 g).trans oh),e,)
def Od.gr(h:Od v H)(g:Gr T H H')(tb:Tab T H):Od v H':=(h.1.imp id λ⟨p,a,e,x⟩=>(p,a,e,g.lst tb x,),h.2,)
theorem Bp.gr(h:Bp nf v H)(g:Gr T H H')(tb:Tab T H):Bp nf v H':=let⟨r,a,b,e,h,c⟩:=h;(r,a,b,e,g.i7 tb h,c.imp id (Or.imp (λ⟨u,w⟩=>(u,w.gr g tb,)) (Or.imp (λ⟨u,w⟩=>(u.gr g tb,w,)) λ⟨u,w⟩=>(u.gr g tb,w.gr g tb,))),)
abbrev onD(k:Nat):List L2.D:=[.bl (decide (k=0)),.bl (decide (k=1)),.bl (decide (k=2)),.bl (decide (k=3)),.bl (decide (k=4)),.bl true]
def nX{us:List V}{ds:List L2.D}(h:H l<*(.lst (only k++us)))(r:fu K H ds us):Rep K H (.lst (onD k++ds)) (.ref l):=
 (l,_,rfl,SqL.of h,_,_,rfl,rfl,_,_,rfl,rfl,_,_,rfl,rfl,_,_,rfl,rfl,_,_,rfl,rfl,_,_,rfl,rfl,r,)
def A4{d:L2.D}(h:Rep K H d v):fu K H [d] [v]:=(v,[],rfl,h,rfl,)
def Ask(K:ah)(T:Tb)(C CO CN CC CT:Addr)(H:Hp)(x y p:V)(d:L2.D):Prop:=∀{Q:VK}{E:XK},(∀H' l,Gr T H H'->Rep K H' d (.ref l)->Q (.ref l) H')->CQ T C CO CN CC CT [x,y,p] H Q E
def Ox(H:Hp)(x p:V):Prop:=p=.non\/∃r a b,p=.ref r/\H r<*(.tup [a,b])/\Nm H a/\Nm H b/\jA H x a/\jA H x b/\a≠b
def OC(H:Hp)(p:V):Prop:=p=.non\/∃r a b,p=.ref r/\H r<*(.tup [a,b])
def Bp.any(h:Bp nf v H):OC H v:=let⟨r,a,b,e,h,_⟩:=h;.inr (r,a,b,e,h,)
def AI{p:V}{Q:VK}{E:XK}(tb:Tab T H)(po:Ox H x p)(r:Rest T CC CT H x y (EX C CO CN CC CT Q) λ_=>∀H' l,Gr T H H'->H' l<*(.lst [])->Q (.ref l) H'):CQ T C CO CN CC CT [x,y,p] H Q E:=by
 rcases po with rfl|⟨q,a,b,rfl,f,g,nb,d,e,c⟩;·exact(x,y,_,rfl,tb,.inl (rfl,.inr (.inr (r.yes,r,)),),)
 .exact(x,y,_,rfl,tb,.inr (q,a,b,rfl,f,.inr (.inr (r.yes,g,nb,.inr (d,e,c,r,),)),),)
def ask_0{p:V}(tb:Tab T H)(d:OC H p)(g:Kn4 H x)(e:bC H x=false\/∃t,x=.ref t/\H t<*(.lst []))(o:∃o,TlX H y o):Ask K T C CO CN CC CT H x y p (.lst (onD 0)):=λ{Q E} q=>by
 have c:∀{R:Prop},Fo C CO H x y (EX C CO CN CC CT Q) R:=.inl ⟨g,e,o,λk i=>.inl ⟨0,C,.inl (rfl,rfl,),rfl,rfl,λm l j f=>q _ _ (Gr.of (i.trans j)) (nX (ds:=[]) (us:=[]) (by rw[dD];exact f) rfl)⟩⟩;rcases d with rfl|⟨r,a,b,rfl,h⟩;·exact(x,y,_,rfl,tb,.inl (rfl,c,),)
 .exact(x,y,_,rfl,tb,.inr (r,a,b,rfl,h,c,),)
def ask_1{p:V}(tb:Tab T H)(f:OC H p)(h:Kn4 H x)(e:bC H x=true)(ne:∃t c cs,x=.ref t/\H t<*(.lst (c::cs)))(no:NoT (count H x) y H):Ask K T C CO CN CC CT H x y p (.lst (onD 1)):=λ{Q E} q=>by
 have d:∀{R:Prop},Fo C CO H x y (EX C CO CN CC CT Q) R:=.inr (.inl ⟨h,e,ne,no,λm j=>.inl ⟨1,CO,.inr (.inl (rfl,rfl,)),rfl,rfl,λn l k g=>q _ _ (Gr.of (j.trans k)) (nX (ds:=[]) (us:=[]) (by rw[dD];exact g) rfl)⟩⟩);rcases f with rfl|⟨r,a,b,rfl,i⟩;·exact(x,y,_,rfl,tb,.inl (rfl,d,),)
 .exact(x,y,_,rfl,tb,.inr (r,a,b,rfl,i,d,),)
def p6(h:eJ z=true):Nm H (.str z):=⟨xS,λw e=>by cases e;unfold eJ at h;rw[az,decide_eq_true_eq]at h;lia⟩
def Ou{p:V}(tb:Tab T H)(ok:∀i,eJ (nf i)=true)(f:Bp nf p H)(c:Yes H x y):Ask K T C CO CN CC CT H x y p (.lst (onD 2)):=λ{Q E} q=>by
 obtain⟨r,a,b,rfl,k,h⟩:=f;refine(x,y,_,rfl,tb,.inr (r,a,b,rfl,k,.inr (.inr (c,?_,)),),);have d:∀e,aD H e->EX C CO CN CC CT Q (.ref CN) none e:=λo m=>.inl ⟨2,CN,.inr (.inr (rfl,rfl,)),rfl,rfl,λs l n j=>q _ _ (Gr.of (m.trans n)) (nX (ds:=[]) (us:=[]) (by rw[dD];exact j) rfl)⟩;rcases h with⟨rfl,rfl⟩ |⟨rfl,h⟩ |⟨h,rfl⟩ |⟨h,g⟩;·exact(p6 (ok _),p6 (ok _),.inl (.inr (.inr rfl),d,),)
 .exact(p6 (ok _),h.nm,.inl (.inr (.inl (h.no c.tb)),d,),)
 .exact(h.nm,p6 (ok _),.inl (.inl (h.no c.tb),d,),)
 .exact(h.nm,g.nm,.inl (.inl (h.no c.tb),d,),)
abbrev ndD(rows:List (Str×List V))(i j:Nat):L2.D:=.tup [.int i,.int j,.tup ((KP.map (mh rows i j)).map L2.D.str)]
theorem C3:∀zs:List Str,fu K H (zs.map L2.D.str) (zs.map V.str)
 | []=>rfl
 |z::zs=>(_,_,rfl,rfl,C3 zs,)
def Fg{rows:List (Str×List V)}(h:H p<*(.tup [.int i,.int j,.ref r]))(a:H r<*(.tup ((KP.map (mh rows i j)).map V.str))):Rep K H (ndD rows i j) (.ref p):=
 (p,_,rfl,SqT.of h,_,_,rfl,rfl,_,_,rfl,rfl,_,_,rfl,(r,_,rfl,SqT.of a,C3 _,),rfl,)
def ask_3{p:V}(tb:Tab T H)(po:Ox H x p)(m:Yes H x y)(a:nH (rowsOf H x) (count H x) i j):Ask K T C CO CN CC CT H x y p (.lst (onD 3++[ndD (rowsOf H x) i j])):=λ{Q E} q=>by
 refine AI tb po (.inl (m,λn=>?_,λo s t l c g f d e=>?_,));·have :=n i j a.ij a.jn;rw[a.four]at this;cases this
 .obtain⟨rfl,rfl⟩:=a.one f;exact .inr (.inl (rfl,c,_,_,_,rfl,e,λr u v b h k=>q _ _ (g.trans (Gr.of b)) (nX h (A4 (Fg k (b _ _ d)))),))
abbrev twD(ts:List (Nat×Int))(i j:Nat):L2.D:=.tup [.tup [.int (ts.getD i (0,0)).1,.int (ts.getD i (0,0)).2],.tup [.int (ts.getD j (0,0)).1,.int (ts.getD j (0,0)).2]]
def EU(h:H p<*(.tup [x,y]))(t:K61.Tw H ts i j x y):Rep K H (twD ts i j) (.ref p):=by obtain⟨⟨a,rfl,c⟩,b,rfl,d⟩:=t;exact(p,_,rfl,SqT.of h,_,_,rfl,(a,_,rfl,SqT.of c,_,_,rfl,rfl,_,_,rfl,rfl,rfl,),_,_,rfl,(b,_,rfl,SqT.of d,_,_,rfl,rfl,_,_,rfl,rfl,rfl,),rfl,)
def ask_4{t:Addr}{p:V}(tb:Tab T H)(po:Ox H (.ref t) p)(d:Tn H t nf n cs rows)(ne:cs≠[])(i:Tls H l zs ts)(h:Tor rows n ts):Ask K T C CO CN CC CT H (.ref t) (.ref l) p (.lst (onD 4++[twD ts 0 (ts.length-1)])):=λ{Q E} q=>
 AI tb po (.inr (t,l,nf,n,cs,rows,zs,ts,rfl,rfl,d,ne,i,.inl (h,λj x y b g tw f=>.inr (.inr (rfl,b,x,y,rfl,f,λk m o a c e=>q _ _ (g.trans (Gr.of a)) (nX c (A4 (EU e (tw.same a)))),)),),))
def Ot{t:Addr}{p:V}(tb:Tab T H)(po:Ox H (.ref t) p)(d:Tn H t nf n cs rows)(ne:cs≠[])(a:H l<*(.lst [])):Ask K T C CO CN CC CT H (.ref t) (.ref l) p (.lst []):=λ{Q E} q=>
 AI tb po (.inr (t,l,nf,n,cs,rows,[],[],rfl,rfl,d,ne,(a,.nil,),.inr (rfl,λc b g h=>q _ _ g (b,_,rfl,SqL.of h,rfl,),),))
structure Cs(H:Hp)(t:Addr)(nf:Nat->Str)(n:Nat)(ys:List V)(rows:List (List Int)):Prop where
 et:H t<*(.lst ys)
 yl:ys.length=rows.length+4
 rw_:∀j y,ys[j]?<*y->RwC nf rows n j y H
 ok:∀i,eJ (nf i)=true
 inj:∀i j,i<12->j<12->nf i=nf j->i=j
 r8:rows.length<=8
 n20:n<=20
 rd:∀r∈rows,M6.Ok n r
section
variable {t:Addr}{nf:Nat->Str}
def Cs.gr(c:Cs H t nf n ys rows)(g:Gr T H H')(tb:Tab T H):Cs H' t nf n ys rows:={c with et:=g.lst tb c.et,rw_:=λj y e=>let⟨b,r,e1,h1,h2⟩:=c.rw_ j y e;(b,r,e1,g.i7 tb h1,g.i7 tb h2,)}
def Cs.row(c:Cs H t nf n ys rows)(h:j<ys.length):M6.Ok (n+2) (C0 rows n j):=by
 have a:=c.yl;unfold C0;split
 .rename_i hj;have o:=c.rd _ (aR hj);rw[ag,ae hj];refine(by rw[bu];show rows[j].length+2=_;rw[o.1],λx hx=>?_,);rcases bz.mp hx with hx|hx;·exact o.2 x hx
  .exact LV (vM _ 'E') x hx
 .rename_i hj;refine(by rw[bu,jU];rfl,λx hx=>?_,);rcases bz.mp hx with hx|hx;·exact .inl (List.eq_of_mem_replicate hx)
  .exact LV 'D' x hx
def Cs.dr(c:Cs H t nf n ys rows):Dr H nf (n+2) ys:=λi y e=>by obtain⟨b,r,a,d,f⟩:=c.rw_ i y e;have o:=c.row (aF.mp e).1;refine(b,r,_,a,d,f,by rw[ai];exact o.1,λz h=>?_,);obtain⟨x,g,rfl⟩:=aN.mp h;rcases o.2 x g with rfl|rfl<;>rfl
def Cs.tab(c:Cs H t nf n ys rows):Kn4 H (.ref t)/\bC H (.ref t)=true/\(∀y∈ys,cP H y=true)/\∀y∈ys,bE H y=n+2:=by have :=c.yl;have :=c.r8;have :=c.n20;exact sI c.ok (λi j hi a=>c.inj i j 'D' 'D') c.et c.dr 'D' 'D'
def Cs.ne(c:Cs H t nf n ys rows):∃t' y cs,V.ref t=.ref t'/\H t'<*(.lst (y::cs)):=by
 have :=c.yl;cases h:ys with
 |nil=>rw[h]at this;simp at this
 |cons y cs=>exact⟨t,y,cs,rfl,by rw[c.et,h]⟩
theorem Cs.count(c:Cs H t nf n ys rows):Cp.count H (.ref t)=n+2:=by
 show(match cS (H t)with |some (y::_)=>bE H y|_=>0)=n+2;have a:=c.yl;rw[c.et];have :=c.tab.2.2.2;cases ys with
 |nil=>simp at a
 |cons y r=>exact this y (.head _)
def Cs.mem(c:Cs H t nf n ys rows)(h:j<ys.length):(nf j,(C0 rows n j).map V.int)∈rowsOf H (.ref t):=by
 have k:(ys.map (aK H)).Nodup:=by obtain⟨a,o,e,d,f,l,i,m⟩:=cM c.tab.2.1;cases e;rw[show cS (H t)<*ys by rw[c.et];rfl]at d;cases d;exact i
 unfold rowsOf;rw[jZ (show cS (H t)<*ys by rw[c.et];rfl),((_root_.Q.dY V.non k 'F').map (cd H)).mem_iff];obtain⟨b,r,g,d,f⟩:=c.rw_ j _ (ae h);refine aN.mpr (ys[j],aR h,?_,);rw[g];exact i9 d f
def Cs.four(c:Cs H t nf n ys rows):¬NoC (rowsOf H (.ref t)) (Cp.count H (.ref t)):=λno=>by
 rw[c.count]at no;have i:=c.yl;have :qg (rowsOf H (.ref t)) n (n+1:Nat)=true:=K24.sE.mpr λu v f g=>by
  obtain⟨k,h,b,d⟩:∃k:Nat,k<4/\((k/2:Nat):Int)=u/\((k%2:Nat):Int)=v:=by
   rcases f with rfl|rfl<;>rcases g with rfl|rfl;·exact(0,'E',rfl,rfl,)
   .exact(1,'E',rfl,rfl,)
   .exact(2,'E',rfl,rfl,)
   .exact(3,'E',rfl,rfl,)
  refine(_,c.mem (j:=rows.length+k) 'D',?_,);have e:C0 rows n (rows.length+k)=a8 n 0++qd k:=by unfold C0;rw[if_neg 'D',pA]
  rw[e];have a:∀m:Nat,((a8 n (0:Int)++qd k).map V.int).getD (n+m) .non=((qd k).map V.int).getD m .non:=λm=>by rw[cH,ag,dg 'F',ag,ai,jU,pA]
  constructor;·unfold Dm;rw[show(n:Int).toNat=n+0 by simp,a 0];exact b
  .unfold Dm;rw[aW,a 1];exact d
 rw[no n (n+1) 'D' 'D']at this;cases this
def Cs.has(c:Cs H t nf n ys rows)(h:j<ys.length):jA H (.ref t) (.str (nf j)):=by obtain⟨b,r,a,d,e⟩:=c.rw_ j _ (ae h);exact⟨t,ys,nf j,ys[j],rfl,by rw[c.et];rfl,rfl,aR h,by rw[a,mf d]⟩
def Cs.yes(c:Cs H t nf n ys rows)(d:Tls H l zs ts)(v:Vt (n+2) ts)(l2:ts.length<=2):Yes H (.ref t) (.ref l):=by obtain⟨a,b⟩:=Ay d v l2;exact⟨c.tab.1,c.tab.2.1,c.ne,_,a,by rw[c.count];exact b⟩
end
end
end K73
namespace K73
open R
abbrev Fv:List Str:=["_law_table","_law_clashing_here","_law_many","_law_names_here","_law_pair"]
abbrev xB:List Str:=["_law_table","_law_clashing_here","_law_many","_law_names_here","_law_pair","_law_fields","_law_torn_here"]
abbrev mT:CB:=
  (.cons (.ret (.cmp .Eq (.call "_law_truths" (.cons (.var 6) (.cons (.bfn .list (.cons (.var 5) .nil)) (.cons (.tup (.cons (.idx (.var 3) (.con (.int 0))) (.cons (.idx (.var 3) (.con (.int 1))) .nil))) .nil)))) (.bin .Add (.call "_law_only" (.cons (.con (.int 4)) .nil)) (.lst (.cons (.var 5) .nil)))))
  .nil)
abbrev mU:CB:=
  (.cons (.asg (.name 5) (.tup (.cons (.tup (.cons (.bin .Add (.var 2) (.con (.int 1))) (.cons (.con (.int 0)) .nil))) (.cons (.tup (.cons (.var 2) (.cons (.con (.int 1)) .nil))) .nil))))
  mT)
abbrev mV:CB:=
  (.cons (.iff (.cmp .NotEq (.call "_law_truths" (.cons (.var 6) (.cons (.lst (.cons (.tup (.cons (.var 2) (.cons (.con (.int 1)) .nil))) .nil)) (.cons (.con .none) .nil)))) (.bin .Add (.call "_law_only" (.cons (.con (.int 4)) .nil)) (.lst (.cons (.tup (.cons (.tup (.cons (.var 2) (.cons (.con (.int 1)) .nil))) (.cons (.tup (.cons (.var 2) (.cons (.con (.int 1)) .nil))) .nil))) .nil))))
  (.cons (.ret (.con (.bool false)))
  .nil)
  .nil)
  mU)
abbrev mW:CB:=
  (.cons (.iff (.cmp .NotEq (.call "_law_truths" (.cons (.var 6) (.cons (.lst (.cons (.tup (.cons (.var 2) (.cons (.con (.int 1)) .nil))) .nil)) (.cons (.var 4) .nil)))) (.call "_law_only" (.cons (.con (.int 2)) .nil)))
  (.cons (.ret (.con (.bool false)))
  .nil)
  .nil)
  mV)
abbrev mX:CB:=
  (.cons (.asg (.name 6) (.call "_law_torn" (.cons (.var 0) (.cons (.var 2) .nil))))
  mW)
abbrev mY:CB:=
  (.cons (.iff (.cmp .NotEq (.call "_law_truths" (.cons (.var 1) (.cons (.lst (.cons (.tup (.cons (.var 2) (.cons (.con (.int 0)) .nil))) (.cons (.tup (.cons (.bin .Add (.var 2) (.con (.int 1))) (.cons (.con (.int 1)) .nil))) .nil))) (.cons (.tup (.cons (.idx (.var 3) (.con (.int 0))) (.cons (.idx (.var 3) (.con (.int 1))) .nil))) .nil)))) (.bin .Add (.call "_law_only" (.cons (.con (.int 3)) .nil)) (.lst (.cons (.var 5) .nil))))
  (.cons (.ret (.con (.bool false)))
  .nil)
  .nil)
  mX)
abbrev mZ:CB:=
  (.cons (.iff (.cmp .NotEq (.call "_law_truths" (.cons (.var 1) (.cons (.lst .nil) (.cons (.con .none) .nil)))) (.bin .Add (.call "_law_only" (.cons (.con (.int 3)) .nil)) (.lst (.cons (.var 5) .nil))))
  (.cons (.ret (.con (.bool false)))
  .nil)
  .nil)
  mY)
abbrev m5:CB:=
  (.cons (.iff (.or (.cmp .Is (.var 5) (.con .none)) (.cmp .NotEq (.call "_law_truths" (.cons (.var 1) (.cons (.lst (.cons (.tup (.cons (.var 2) (.cons (.con (.int 0)) .nil))) .nil)) (.cons (.var 4) .nil)))) (.call "_law_only" (.cons (.con (.int 2)) .nil))))
  (.cons (.ret (.con (.bool false)))
  .nil)
  .nil)
  mZ)
abbrev yp:CB:=
  (.cons (.asg (.name 5) (.call "clash" (.cons (.var 1) .nil)))
  m5)
end K73
namespace K73
open L2 R Cp Lt Kc K21 K22 Lm K23 K02 K32 K34 K75 K63
section
variable {G:Gam}{T:Tb}{C CO CN CC CT:Addr}
def xY{ds:List L2.D}(h:gQ ds<=20):hgt (.lst (onD k++ds))<=30:=by show max 0 (max 0 (max 0 (max 0 (max 0 (max 0 (gQ ds))))))+1<=30;lia
theorem DN:∀zs:List Str,gQ (zs.map L2.D.str)=0
 | []=>rfl
 |z::zs=>by show max 0 (gQ (zs.map L2.D.str))=0;rw[DN zs];rfl
def Nw{rows:List (Str×List V)}:gQ [ndD rows i j]<=20:=by show max (max 0 (max 0 (max (gQ _+1) 0))+1) 0<=20;rw[DN];decide
def pI{d:L2.D}{Q:VK}(a:Rep K H d x)(b:Rep K H d y)(c:hgt d<=30)(q:Q (.bl false) H):gh K .NotEq x y H Q:=⟨d,d,a,b,c,by rw[yc];exact q⟩
def mP{d:L2.D}(s:aD H H')(h:Rep K H d v):Rep K H' d v:=Rep.same s h
structure La(T:Tb)(H:Hp)(t tc l:Addr)(p:V)(nf:Nat->Str)(n:Nat)(cs ys:List V)(rows:List (List Int))(Rw:List (Str×List V)):Prop where
 tb:Tab T H
 d:Tn H t nf n cs rows
 c2:2<=cs.length
 el:H l<*(.lst ((aC 12).map λk=>V.str (nf k)))
 bp:Bp nf p H
 c:Cs H tc nf n ys rows
 ro:rowsOf H (.ref tc)=Rw
structure Gl(G:Gam)(K:ah)(T:Tb)(C CO CN CC CT:Addr):Prop where
 gt:G.fn "_law_truths" 3<*(CQ T C CO CN CC CT,[])
 go:G.fn "_law_only" 1<*(spOn,[])
 gc:G.fn "clash" 1<*(vQ C T,[])
 gr:G.fn "_law_torn" 2<*(Ld,[])
section
variable {t tc l:Addr}{p:V}{nf:Nat->Str}{Rw:List (Str×List V)}{E:XS}{D:Ends}{Q:VK}
def Cs.rows_gr(c:Cs H t nf n ys rows)(g:Gr T H H')(tb:Tab T H):rowsOf H' (.ref t)=rowsOf H (.ref t):=by have a:Cs (del H T.P) t nf n ys rows:={c with et:=u5 tb c.et (λ_ z=>by cases z),rw_:=λj y e=>let⟨b,r,e1,h1,h2⟩:=c.rw_ j y e;⟨b,r,e1,u5 tb h1 (λ_ z=>by cases z),u5 tb h2 (λ_ z=>by cases z)⟩};rw[(jx a.tab.2.1 ((A1 g).trans oh)).1,<-(jx a.tab.2.1 oh).1]
theorem La.gr(L:La T H t tc l p nf n cs ys rows Rw)(g:Gr T H H'):La T H' t tc l p nf n cs ys rows Rw:=⟨g.tab L.tb,L.d.gr g L.tb,L.c2,g.lst L.tb L.el,L.bp.gr g L.tb,L.c.gr g L.tb,by rw[L.c.rows_gr g L.tb,L.ro]⟩
def La.same(L:La T H t tc l p nf n cs ys rows Rw)(s:aD H H'):La T H' t tc l p nf n cs ys rows Rw:=L.gr (Gr.of s)
def La.po(L:La T H t tc l p nf n cs ys rows Rw)(b:H r<*(.tup [.str (nf 0),.str (nf 1)]))(h0:jA H x (.str (nf 0)))(a:jA H x (.str (nf 1))):Ox H x (.ref r):=
 .inr ⟨r,_,_,rfl,b,p6 (L.c.ok _),p6 (L.c.ok _),h0,a,λz=>by have :=L.c.inj 0 1 'E' 'E' (V.str.inj z);cases this⟩
def tls1{q:Nat}{e:Int}(h:H b<*(.lst [.ref a]))(c:H a<*(.tup [.int q,.int e])):Tls H b [.ref a] [(q,e)]:=(h,.cons (a,rfl,c,) .nil,)
def tls2{q f:Nat}{e d:Int}(h:H b<*(.lst [.ref a,.ref c]))(g:H a<*(.tup [.int q,.int e]))(i:H c<*(.tup [.int f,.int d])):Tls H b [.ref a,.ref c] [(q,e),(f,d)]:=(h,.cons (a,rfl,g,) (.cons (c,rfl,i,) .nil),)
def lg(g:Gl G K T C CO CN CC CT)(d:k<=4){a:VK}{E:XK}(r:Rep K H (.lst (onD k)) x)(q:∀H2,aD H H2->a (.bl false) H2):∃sp al,G.fn "_law_only" 1<*(sp,al)/\sp (.int k::al) H (λy H2=>gh K .NotEq x y H2 a) E:=
 ⟨_,_,g.go,k,rfl,d,λH2 l2 b _ c=>pI (mP b r) (nX (by rw[dD];exact c) rfl) (xY (ds:=[]) (a7 _)) (q _ b)⟩
def xq(g:Gl G K T C CO CN CC CT)(i:k<=4){c:VK}{E:XK}{d:L2.D}(r:Rep K H d v)(q:∀H2 l2,aD H H2->Rep K H2 (.lst (onD k++[d])) (.ref l2)->c (.ref l2) H2):∃sp al,G.fn "_law_only" 1<*(sp,al)/\sp (.int k::al) H (λy H2=>1<=sizeLine/\∀p,H2 p=none->nZ K .Add y (.ref p) (upd H2 p (.lst [v])) c) E:=
 (_,_,g.go,k,rfl,i,λH2 l2 f _ h=>('E',λp a=>.inr (.inr (.inl (l2,p,_,_,rfl,rfl,au a _ _ h,aq,short (by show 7<=40;decide),λb e=>q _ _ (f.trans ((au a).trans (au e))) (nX aq (A4 (mP (f.trans ((au a).trans (au e))) r))),))),),)
def la_9(g:Gl G K T C CO CN CC CT)(L:La T H t tc l p nf n cs ys rows Rw)(B:Tn H to nf (n+2) cs' (k7 rows))(o:cs'.length=cs.length)(v:H a<*(.tup [.int (n+1:Nat),.int 0]))(w:H b<*(.tup [.int n,.int 1]))(hf:H f<*(.tup [.ref a,.ref b]))(N:D.rt=Q)(q:∀H',Q (.bl true) H'):
  wpB G K E mT D [some (.ref t),some (.ref tc),some (.int n),some (.ref l),some p,some (.ref f),some (.ref to)] H:=by
 unfold mT;ext;refine(_,_,g.gt,f,_,rfl,.inr (SqT.of hf),λm M=>?_,);generalize hX:upd H m _=H1;obtain⟨x,F⟩:=cX hX M;clear hX;have u:=(L.same x).el;have at_:∀k:Nat,k<12->atI ((aC 12).map λk=>V.str (nf k)) k<*(.str (nf k)):=λk h=>cG (by rw[ax,bw h];rfl);refine .inl ⟨l,_,0,_,rfl,rfl,SqL.of u,at_ 0 'E',.inl (l,_,1,_,rfl,rfl,SqL.of u,at_ 1 'E',short 'F',λr O=>?_,)⟩;generalize hX:upd H1 r _=H2;obtain⟨y,I⟩:=cX hX O;clear hX;have s:=x.trans y;have c:=L.same s;have i:=B.same s;have A:=L.c2;have has:∀k,k<cs'.length->jA H2 (.ref to) (.str (nf k)):=λk h=>by obtain⟨b,r,e,J,_⟩:=i.row k _ (ae h);exact⟨to,cs',nf k,cs'[k],rfl,by rw[i.et];rfl,rfl,aR h,by rw[e,mf J]⟩
 refine ask_4 (K:=K) c.tb (c.po I (has 0 'D') (has 1 'D')) i (λz=>by rw[z]at o;simp at o;lia) (tls2 (y _ _ F) (s _ _ v) (s _ _ w)) (wH c.d A).2 λU X j P=>?_;refine xq g 'E' (d:=twD [(n+1,0),(n,1)] 0 1) (EU (j.i7 c.tb (s _ _ hf)) ((a,rfl,j.i7 c.tb (s _ _ v),),b,rfl,j.i7 c.tb (s _ _ w),)) λW Y S R=>(_,_,mP S P,R,xY (by show 2<=20;decide),?_,);rw[show twD [(n+1,0),(n,1)] 0 1=twD [(n+1,0),(n,1)] 0 ([(n+1,(0:Int)),(n,1)].length-1)from rfl,yc,N];exact q _
def la_8(g:Gl G K T C CO CN CC CT)(L:La T H t tc l p nf n cs ys rows Rw)(r:Tn H to nf (n+2) cs' (k7 rows))(m:cs'.length=cs.length)(v:D.rt=Q)(q:∀H',Q (.bl true) H'){k:Option V}:
  wpB G K E mU D [some (.ref t),some (.ref tc),some (.int n),some (.ref l),some p,k,some (.ref to)] H:=by
 unfold mU;ext;refine⟨short 'F',λa u=>⟨short 'F',λb i=>(short 'F',λf hf=>?_,)⟩⟩;have j:=au (o:=.tup [V.int (n+1),V.int 0]) u;have e:upd H a (.tup [V.int (n+1),V.int 0]) a<*(.tup [V.int (n+1:Nat),V.int 0]):=aq;generalize upd H a (.tup [V.int (n+1),V.int 0])=H1 at j e i hf⊢;have c:=au (o:=.tup [V.int n,V.int 1]) i;have h:upd H1 b (.tup [V.int n,V.int 1]) b<*(.tup [V.int n,V.int 1]):=aq;generalize upd H1 b (.tup [V.int n,V.int 1])=H2 at c h hf⊢;have d:=au (o:=.tup [V.ref a,V.ref b]) hf;have s:=j.trans (c.trans d);exact la_9 g (L.same s) (r.same s) m ((c.trans d) _ _ e) (d _ _ h) aq v q
def la_7(g:Gl G K T C CO CN CC CT)(L:La T H t tc l p nf n cs ys rows Rw)(X:Tn H to nf (n+2) cs' (k7 rows))(m:cs'.length=cs.length)(hr:D.rt=Q)(q:∀H',Q (.bl true) H'){W:Option V}:
  wpB G K E mV D [some (.ref t),some (.ref tc),some (.int n),some (.ref l),some p,W,some (.ref to)] H:=by
 unfold mV;ext;have n2:cs'≠[]:=λa1=>by have :=L.c2;rw[a1]at m;simp at m;lia
 refine⟨_,_,g.gt,short 'F',λa ha=>(short 'F',λb J=>?_,)⟩;have O:=au (o:=.tup [V.int n,V.int 1]) ha;have z:upd H a (.tup [V.int n,V.int 1]) a<*(.tup [V.int n,V.int 1]):=aq;generalize upd H a (.tup [V.int n,V.int 1])=H1 at O z J⊢;generalize hX:upd H1 b _=H2;obtain⟨P,Z⟩:=cX hX J;clear hX;have s:=O.trans P;have e:=L.same s;have y:=X.same s;refine ask_4 (K:=K) e.tb (.inl rfl) y n2 (tls1 Z (P _ _ z)) (wH e.d e.c2).1 λH3 l3 I r3=>⟨_,_,g.go,4,rfl,'E',λx l4 u _ h4=>⟨short 'F',λc a0=>⟨short 'F',λd M=>⟨short 'F',λf r=>(short 'F',λN h=>?_,)⟩⟩⟩⟩;have U:=(e.gr I).same u;have Y:=(y.gr I e.tb).same u;have r4:=mP u r3;have R:=au (o:=.tup [V.int n,V.int 1]) a0;have A:upd x c (.tup [V.int n,V.int 1]) c<*(.tup [V.int n,V.int 1]):=aq;generalize upd x c (.tup [V.int n,V.int 1])=H5 at R A M r h⊢;have v:=au (o:=.tup [V.int n,V.int 1]) M;have B:upd H5 d (.tup [V.int n,V.int 1]) d<*(.tup [V.int n,V.int 1]):=aq;generalize upd H5 d (.tup [V.int n,V.int 1])=H6 at v B r h⊢;have j:=au (o:=.tup [V.ref c,V.ref d]) r;have F:upd H6 f (.tup [V.ref c,V.ref d]) f<*(.tup [V.ref c,V.ref d]):=aq;generalize upd H6 f (.tup [V.ref c,V.ref d])=H7 at j F h⊢;generalize hX:upd H7 N _=H8;obtain⟨S,e8⟩:=cX hX h;clear hX;have i:=R.trans (v.trans (j.trans S));refine .inr (.inr (.inl (l4,N,_,_,rfl,rfl,i _ _ h4,e8,short (by show 7<=40;decide),λa2 hc=>?_,)));have k:=au (o:=.lst (only 4++[V.ref f])) hc;have w:=S.trans k;refine pI (mP (i.trans k) r4) (nX aq (A4 (EU (w _ _ F) ((c,rfl,(v.trans (j.trans w)) _ _ A,),d,rfl,(j.trans w) _ _ B,)))) (xY (by show 2<=20;decide)) (_,rfl,?_,);rw[if_neg ao];exact la_8 g (U.same (i.trans k)) (Y.same (i.trans k)) m hr q
def la_6(g:Gl G K T C CO CN CC CT)(L:La T H t tc l p nf n cs ys rows Rw)(w:Tn H to nf (n+2) cs' (k7 rows))(e:cs'.length=cs.length)(A:D.rt=Q)(q:∀H',Q (.bl true) H'){v:Option V}:
  wpB G K E mW D [some (.ref t),some (.ref tc),some (.int n),some (.ref l),some p,v,some (.ref to)] H:=by
 unfold mW;ext;have j:cs'≠[]:=λz=>by have :=L.c2;rw[z]at e;simp at e;lia
 refine⟨_,_,g.gt,short 'F',λa y=>(short 'F',λb i=>?_,)⟩;have k:=au (o:=.tup [V.int n,V.int 1]) y;have f:upd H a (.tup [V.int n,V.int 1]) a<*(.tup [V.int n,V.int 1]):=aq;generalize upd H a (.tup [V.int n,V.int 1])=H1 at k f i⊢;generalize hX:upd H1 b _=H2;obtain⟨m,x⟩:=cX hX i;clear hX;have s:=k.trans m;have c:=L.same s;have d:=w.same s;have u:=(wH c.d c.c2).1;obtain⟨F,I⟩:=Ay (tls1 x (m _ _ f)) u.vt.1 u.vt.2;refine Ou c.tb c.c.ok c.bp ⟨d.tab.1,d.tab.2.1,vO d j,_,F,by rw[d.count j];exact I⟩ λJ N h B=>lg g 'E' B λM r=>(_,rfl,?_,);rw[if_neg ao];exact la_7 g ((c.gr h).same r) ((d.gr h c.tb).same r) e A q
def la_5(g:Gl G K T C CO CN CC CT)(L:La T H t tc l p nf n cs ys rows Rw)(e:D.rt=Q)(q:∀H',Q (.bl true) H'){a b:Option V}:
  wpB G K E mX D [some (.ref t),some (.ref tc),some (.int n),some (.ref l),some p,a,b] H:=by
 unfold mX;ext;exact(_,_,g.gr,t,nf,n,cs,rows,rfl,L.d,L.c.n20,λh j i f d c=>la_6 g (L.same f) d c e q,)
def la_4(g:Gl G K T C CO CN CC CT)(L:La T H t tc l p nf n cs ys rows Rw)(W:D.rt=Q)(q:∀H',Q (.bl true) H'){J:Option V}(R:nH Rw (n+2) i j)(O:H a<*(.tup [.int i,.int j,.ref r]))(P:H r<*(.tup ((KP.map (mh Rw i j)).map V.str))):
  wpB G K E mY D [some (.ref t),some (.ref tc),some (.int n),some (.ref l),some p,some (.ref a),J] H:=by
 unfold mY;ext;refine⟨_,_,g.gt,short 'F',λb S=>⟨short 'F',λu B=>(short 'F',λm w=>?_,)⟩⟩;have x:=au (o:=.tup [V.int n,V.int 0]) S;have y:upd H b (.tup [V.int n,V.int 0]) b<*(.tup [V.int n,V.int 0]):=aq;generalize upd H b (.tup [V.int n,V.int 0])=H1 at x y B w⊢;have d:=au (o:=.tup [V.int (n+1),V.int 1]) B;have z:upd H1 u (.tup [V.int (n+1),V.int 1]) u<*(.tup [V.int (n+1:Nat),V.int 1]):=aq;generalize upd H1 u (.tup [V.int (n+1),V.int 1])=H2 at d z w⊢;generalize hX:upd H2 m _=H3;obtain⟨e,M⟩:=cX hX w;clear hX;have A:=(L.same (x.trans (d.trans e))).el;have at_:∀k:Nat,k<12->atI ((aC 12).map λk=>V.str (nf k)) k<*(.str (nf k)):=λk U=>cG (by rw[ax,bw U];rfl);refine .inl ⟨l,_,0,_,rfl,rfl,SqL.of A,at_ 0 'E',.inl (l,_,1,_,rfl,rfl,SqL.of A,at_ 1 'E',short 'F',λf hf=>?_,)⟩;generalize hX:upd H3 f _=H4;obtain⟨h,N⟩:=cX hX hf;clear hX;have s:=x.trans (d.trans (e.trans h));have c:=L.same s;have yl:=c.c.yl;refine ask_3 (K:=K) c.tb (c.po N (c.c.has 'D') (c.c.has 'D')) (c.c.yes (tls2 (h _ _ M) ((d.trans (e.trans h)) _ _ y) ((e.trans h) _ _ z)) ⟨λq hq=>?_,'F'⟩ 'F') (by rw[c.ro,c.c.count];exact R) λY l5 v F=>?_
 .rcases aA.mp hq with rfl|hq;·exact('D',.inl rfl,)
  .rw[aI.mp hq];exact('D',.inr rfl,)
 .rw[c.ro]at F;refine xq g 'E' (Fg (v.i7 c.tb (s _ _ O)) (v.i7 c.tb (s _ _ P))) λZ l6 I X=>pI (mP I F) X (xY Nw) (_,rfl,?_,);rw[if_neg ao];exact la_5 g ((c.gr v).same I) W q
def la_3(g:Gl G K T C CO CN CC CT)(L:La T H t tc l p nf n cs ys rows Rw)(w:D.rt=Q)(q:∀H',Q (.bl true) H'){o:Option V}(h:nH Rw (n+2) i j)(e:H a<*(.tup [.int i,.int j,.ref r]))(f:H r<*(.tup ((KP.map (mh Rw i j)).map V.str))):
  wpB G K E mZ D [some (.ref t),some (.ref tc),some (.int n),some (.ref l),some p,some (.ref a),o] H:=by
 unfold mZ;ext;refine(_,_,g.gt,short 'F',λm v=>?_,);generalize hX:upd H m _=H1;obtain⟨s,u⟩:=cX hX v;clear hX;have b:=L.same s;refine ask_3 (K:=K) b.tb (.inl rfl) (b.c.yes (u,.nil,) (λ_ z=>(nomatch z),fU,) 'F') (by rw[b.ro,b.c.count];exact h) λy B c k=>?_;rw[b.ro]at k;refine xq g 'E' (Fg (c.i7 b.tb (s _ _ e)) (c.i7 b.tb (s _ _ f))) λA F d x=>pI (mP d k) x (xY Nw) (_,rfl,?_,);rw[if_neg ao];exact la_4 g ((b.gr c).same d) w q h (d _ _ (c.i7 b.tb (s _ _ e))) (d _ _ (c.i7 b.tb (s _ _ f)))
def la_2(g:Gl G K T C CO CN CC CT)(L:La T H t tc l p nf n cs ys rows Rw)(B:D.rt=Q)(q:∀H',Q (.bl true) H'){v:Option V}(z:nH Rw (n+2) i j)(x:H a<*(.tup [.int i,.int j,.ref r]))(y:H r<*(.tup ((KP.map (mh Rw i j)).map V.str))):
  wpB G K E m5 D [some (.ref t),some (.ref tc),some (.int n),some (.ref l),some p,some (.ref a),v] H:=by
 unfold m5;ext;rw[if_neg 'F'];refine⟨_,_,g.gt,short 'F',λb A=>(short 'F',λm h=>?_,)⟩;have k:=au (o:=.tup [V.int n,V.int 0]) A;have f:upd H b (.tup [V.int n,V.int 0]) b<*(.tup [V.int n,V.int 0]):=aq;generalize upd H b (.tup [V.int n,V.int 0])=H1 at k f h⊢;generalize hX:upd H1 m _=H2;obtain⟨u,w⟩:=cX hX h;clear hX;have s:=k.trans u;have c:=L.same s;refine Ou c.tb c.c.ok c.bp (c.c.yes (tls1 w (u _ _ f)) ⟨λq hq=>by rw[aI.mp hq];exact('D',.inl rfl,),'F'⟩ 'F') λI M d F=>lg g 'E' F λJ e=>(_,rfl,?_,);rw[if_neg ao];exact la_3 g ((c.gr d).same e) B q z (e _ _ (d.i7 c.tb (s _ _ x))) (e _ _ (d.i7 c.tb (s _ _ y)))
def spLa(T:Tb):Sp:=λvs H Q _=>∃(t tc l:Addr)(p:V)(nf:Nat->Str)(n:Nat)(cs ys:List V)(rows:List (List Int)),vs=[.ref t,.ref tc,.int n,.ref l,p]/\La T H t tc l p nf n cs ys rows (rowsOf H (.ref tc))/\∀H',Q (.bl true) H'
def wp_la(g:Gl G K T C CO CN CC CT):Sat G K (spLa T) yp xB:=by
 rintro w H Q E ⟨t,c,l,p,s,n,o,x,u,rfl,L,q⟩;unfold yp;change wpB G K _ _ _ [some (.ref t),some (.ref c),some (.int n),some (.ref l),some p,none,none] H;ext;refine⟨_,_,g.gc,.ref c,rfl,L.c.tab.1,L.tb,λ_ m v f k=>?_,λz=>by(rw[L.c.tab.2.1]at z;cases z)⟩;rcases k with⟨_,h⟩ |⟨i,j,a,r,rfl,b,d,e⟩;·exact absurd h L.c.four
 rw[L.c.count]at b;exact la_2 g (L.gr f) rfl q b d e
end
end
end K73
namespace K73
open R
abbrev p_law:List Str:=["_law_script"]
abbrev MK:List Str:=["_law_script","_law_many","_law_cells","_law_nodes","_law_links","_law_held_here","_law_names_here","_law_table","_law_draw_here","_law_pair","_law_bad","_law_none","_law_clashing_here"]
abbrev Ee:CB:=
  (.cons (.ret (.call "_law_late" (.cons (.var 7) (.cons (.var 12) (.cons (.var 1) (.cons (.var 6) (.cons (.var 9) .nil)))))))
  .nil)
abbrev yt:CB:=
  (.cons (.iff (.cmp .NotEq (.call "_law_truths" (.cons (.var 12) (.cons (.call "_law_bad_tellings" (.cons (.bin .Add (.var 1) (.con (.int 2))) (.cons (.bin .FloorDiv (.var 8) (.con (.int 24))) .nil))) (.cons (.con .none) .nil)))) (.call "_law_only" (.cons (.con (.int 1)) .nil)))
  (.cons (.ret (.con (.bool false)))
  .nil)
  .nil)
  Ee)
abbrev Ef:CB:=
  (.cons (.asg (.name 12) (.call "_law_clashing" (.cons (.var 7) (.cons (.var 1) (.cons (.var 6) .nil)))))
  yt)
abbrev yu:CB:=
  (.cons (.iff (.cmp .NotEq (.call "_law_truths" (.cons (.var 7) (.cons (.lst .nil) (.cons (.var 9) .nil)))) (.call "_law_only" (.cons (.con (.int 2)) .nil)))
  (.cons (.ret (.con (.bool false)))
  .nil)
  .nil)
  Ef)
abbrev yv:CB:=
  (.cons (.iff (.or (.cmp .NotEq (.call "_law_truths" (.cons (.var 7) (.cons (.var 10) (.cons (.con .none) .nil)))) (.call "_law_only" (.cons (.con (.int 1)) .nil))) (.cmp .NotEq (.call "_law_truths" (.cons (.var 7) (.cons (.var 10) (.cons (.var 9) .nil)))) (.call "_law_only" (.cons (.con (.int 1)) .nil))))
  (.cons (.ret (.con (.bool false)))
  .nil)
  .nil)
  yu)
abbrev yw:CB:=
  (.cons (.iff (.or (.cmp .NotEq (.call "_law_truths" (.cons (.var 11) (.cons (.var 10) (.cons (.con .none) .nil)))) (.call "_law_only" (.cons (.con (.int 0)) .nil))) (.cmp .NotEq (.call "_law_truths" (.cons (.var 11) (.cons (.var 10) (.cons (.var 9) .nil)))) (.call "_law_only" (.cons (.con (.int 0)) .nil))))
  (.cons (.ret (.con (.bool false)))
  .nil)
  .nil)
  yv)
abbrev yx:CB:=
  (.cons (.iff (.or (.cmp .NotEq (.call "_law_truths" (.cons (.var 7) (.cons (.lst .nil) (.cons (.con .none) .nil)))) (.lst .nil)) (.cmp .NotEq (.call "_law_truths" (.cons (.var 7) (.cons (.lst .nil) (.cons (.tup (.cons (.idx (.var 6) (.con (.int 0))) (.cons (.idx (.var 6) (.con (.int 1))) .nil))) .nil)))) (.lst .nil)))
  (.cons (.ret (.con (.bool false)))
  .nil)
  .nil)
  yw)
abbrev yy:CB:=
  (.cons (.asg (.name 11) (.idx (.lst (.cons (.con .none) (.cons (.lst .nil) (.cons (.bfn .tuple (.cons (.var 7) .nil)) (.cons (.bin .Add (.var 7) (.cut (.var 7) .no (.yes (.con (.int 1))))) (.cons (.bin .Add (.var 7) (.lst (.cons (.con .none) .nil))) (.cons (.lst (.cons (.tup (.cons (.con (.str "a")) (.cons (.tup (.cons (.con (.int 2)) .nil)) .nil))) .nil)) .nil))))))) (.bin .Mod (.bin .FloorDiv (.var 8) (.con (.int 7))) (.con (.int 6)))))
  yx)
abbrev Eg:CB:=
  (.cons (.asg (.name 10) (.call "_law_bad_tellings" (.cons (.var 1) (.cons (.bin .FloorDiv (.var 8) (.con (.int 24))) .nil))))
  yy)
abbrev Ic:CB:=
  (.cons (.asg (.name 9) (.call "_law_bad_pair" (.cons (.var 6) (.cons (.var 8) .nil))))
  Eg)
abbrev BX:CB:=
  (.cons (.asg (.name 8) (.call "_law_draw" (.cons (.call "_law_cell_at" (.cons (.var 0) (.cons (.con (.int 1)) .nil))) (.cons (.con (.int 6)) .nil))))
  Ic)
abbrev Ie:CB:=
  (.cons (.asgc 7 (.comp ["_law_k"] [6,3,5] (.name 0) (.range1 (.bfn .len (.cons (.var 5) .nil))) .no (.tup (.cons (.idx (.var 1) (.var 0)) (.cons (.idx (.var 2) (.idx (.var 3) (.var 0))) .nil)))))
  BX)
abbrev Ig:CB:=
  (.cons (.asg (.name 6) (.call "_law_names" (.cons (.call "_law_cell_at" (.cons (.var 0) (.cons (.con (.int 0)) .nil))) (.cons (.con (.int 12)) .nil))))
  Ie)
abbrev Ih:CB:=
  (.cons (.asg (.name 5) (.call "_law_held" (.cons (.var 2) (.cons (.var 3) .nil))))
  Ig)
abbrev Ii:CB:=
  (.cons (.asg (.tup (.cons (.name 3) (.cons (.name 4) .nil))) (.call "_law_grown" (.cons (.var 2) (.cons (.var 1) .nil))))
  Ih)
abbrev Ij:CB:=
  (.cons (.asg (.name 2) (.bin .Add (.lst (.cons (.call "_law_cell_at" (.cons (.var 0) (.cons (.con (.int 2)) .nil))) (.cons (.call "_law_cell_at" (.cons (.var 0) (.cons (.con (.int 3)) .nil))) .nil))) (.cut (.var 0) (.yes (.con (.int 4))) (.yes (.con (.int 10))))))
  Ii)
abbrev Ik:CB:=
  (.cons (.asg (.name 1) (.bin .Mod (.call "_law_draw" (.cons (.call "_law_cell_at" (.cons (.var 0) (.cons (.con (.int 1)) .nil))) (.cons (.con (.int 3)) .nil))) (.con (.int 9))))
  Ij)
abbrev Og:CB:=
  (.cons (.asgc 0 (.comp ["_law_cell"] [0] (.name 0) (.seq (.var 0)) .no (.bin .Add (.bin .Mult (.con (.int 2)) (.var 0)) (.bin .Mod (.bfn .sum (.cons (.cut (.var 1) .no (.yes (.con (.int 1)))) .nil)) (.con (.int 2))))))
  Ik)
end K73
namespace K73
open L2 R Cp Lt Kc K21 K22 Lm K23 K02 K32 K34 K75 K63
section
variable {G:Gam}{T:Tb}{C CO CN CC CT:Addr}
structure G73(G:Gam)(K:ah)(T:Tb)(C CO CN CC CT:Addr):Prop where
 l:Gl G K T C CO CN CC CT
 c0:G.fn "_law_cell_at" 2<*(E7 K,[])
 c1:G.fn "_law_draw" 2<*(K21.lH,[])
 c2:G.fn "_law_names" 2<*(K21.AN,[])
 c3:G.fn "_law_grown" 2<*(K34.AR K,[])
 c4:G.fn "_law_held" 2<*(K22.E6 K,[])
 c5:G.fn "_law_bad_pair" 2<*(spBp K,[])
 c6:G.fn "_law_bad_tellings" 2<*(spBt,[])
 c7:G.fn "_law_clashing" 3<*(spCl K,[])
 c8:G.fn "_law_late" 5<*(spLa T,[])
structure Lb(T:Tb)(H:Hp)(t l:Addr)(nf:Nat->Str)(n:Nat)(cs:List V)(rows:List (List Int)):Prop where
 tb:Tab T H
 d:Tn H t nf n cs rows
 c2:2<=cs.length
 c8:cs.length<=8
 n20:n<=20
 el:H l<*(.lst ((aC 12).map λk=>V.str (nf k)))
 inj:∀i j,i<12->j<12->nf i=nf j->i=j
def NB(v:V)(H:Hp):Prop:=Kn4 H v/\(bC H v=false\/∃t,v=.ref t/\H t<*(.lst []))
def GX:gJ NB:=λv H a s h=>⟨h.1.same s,h.2.imp (λe=>by rw[i8 h.1 s];exact e) λ⟨t,e,h⟩=>(t,e,s _ _ h,)⟩
section
variable {t l:Addr}{p bad no:V}{nf:Nat->Str}{d:Int}{E:XS}{D:Ends}{Q:VK}{x0 x2 x3 x4 x5 x9 x10 x11 x12:Option V}
def MH(h:NB v H)(g:Gr T H H')(tb:Tab T H):NB v H':=by
 rcases h with⟨k,e|⟨t,e,h⟩⟩;·obtain⟨a,b⟩:=bad_gr (k,e,) g tb;exact(a,.inl b,)
 .exact((kn4_P tb k).same ((A1 g).trans oh),.inr (t,e,g.lst tb h,),)
theorem Lb.gr(L:Lb T H t l nf n cs rows)(g:Gr T H H'):Lb T H' t l nf n cs rows:={L with tb:=g.tab L.tb,d:=L.d.gr g L.tb,el:=g.lst L.tb L.el}
def Lb.same(L:Lb T H t l nf n cs rows)(s:aD H H'):Lb T H' t l nf n cs rows:=L.gr (Gr.of s)
def Lb.ne(L:Lb T H t l nf n cs rows):cs≠[]:=λz=>by have :=L.c2;rw[z]at this;exact absurd this 'E'
def Lb.yes(L:Lb T H t l nf n cs rows){m:Addr}(h:H m<*(.lst [])):Yes H (.ref t) (.ref m):=by obtain⟨a,b⟩:=Ay (h,.nil,) (λ_ z=>(nomatch z),fU,) 'F';exact⟨L.d.tab.1,L.d.tab.2.1,vO L.d L.ne,_,a,by rw[L.d.count L.ne];exact b⟩
def lw_17(g:G73 G K T C CO CN CC CT)(L:Lb T H t l nf n cs rows)(k:Bp nf p H){j:Addr}(c:Cs H j nf n ys rows)(o:0<=d)(s:D.rt=Q)(q:∀H',Q (.bl true) H'):
  wpB G K E yt D [x0,some (.int n),x2,x3,x4,x5,some (.ref l),some (.ref t),some (.int d),some p,x10,x11,some (.ref j)] H:=by
 unfold yt;ext;have A:=L.n20;refine(_,_,g.l.gt,_,_,g.c6,('E','E',),n+2,d/24,rfl,'D',Int.ediv_nonneg o 'E',λx b i u=>?_,);have e:=L.same i;have a:=c.gr (Gr.of i) L.tb;refine ask_1 e.tb (.inl rfl) a.tab.1 a.tab.2.1 a.ne (by rw[a.count];exact u) λy l2 r v=>lg g.l 'E' v λz w=>(_,rfl,?_,);rw[if_neg ao];have h:=r.trans (Gr.of w);unfold Ee;ext;have f:=e.gr h;have m:=a.gr h e.tb;refine(_,_,g.c8,t,j,l,p,nf,n,cs,ys,rows,rfl,(f.tb,f.d,f.c2,f.el,(k9 _ _ _ i k).gr h e.tb,m,rfl,),λH'=>?_,);rw[s];exact q _
def lw_15(g:G73 G K T C CO CN CC CT)(L:Lb T H t l nf n cs rows)(e:Bp nf p H)(j:0<=d)(u:D.rt=Q)(q:∀H',Q (.bl true) H'):
  wpB G K E yu D [x0,some (.int n),x2,x3,x4,x5,some (.ref l),some (.ref t),some (.int d),some p,x10,x11,x12] H:=by
 unfold yu;ext;refine(_,_,g.l.gt,short 'F',λm s=>?_,);generalize hX:upd H m _=H1;obtain⟨c,k⟩:=cX hX s;clear hX;have b:=L.same c;refine Ou b.tb b.d.ok (k9 _ _ _ c e) (b.yes k) λz l2 r v=>lg g.l 'E' v λA x=>(_,rfl,?_,);rw[if_neg ao];have f:=r.trans (Gr.of x);have a:=b.gr f;have i:=(k9 _ _ _ c e).gr f b.tb;unfold Ef;ext;refine(_,_,g.c7,t,l,nf,n,cs,rows,rfl,a.d,a.n20,a.c8,SqL.of a.el,λB F I h o y w=>?_,);exact lw_17 g (a.same h) (k9 _ _ _ h i) (o,by rw[y,a.d.ln],w,a.d.ok,a.inj,by rw[a.d.ln];exact a.c8,a.n20,a.d.rd,) j u q
def lw_14(g:G73 G K T C CO CN CC CT)(L:Lb T H t l nf n cs rows)(i:Bp nf p H)(a:NoT n bad H)(j:0<=d)(r:D.rt=Q)(q:∀H',Q (.bl true) H'):
  wpB G K E yv D [x0,some (.int n),x2,x3,x4,x5,some (.ref l),some (.ref t),some (.int d),some p,some bad,x11,x12] H:=by
 have ask:∀{H:Hp}{p:V},Lb T H t l nf n cs rows->NoT n bad H->OC H p->Ask K T C CO CN CC CT H (.ref t) bad p (.lst (onD 1)):=λL a h=>ask_1 L.tb h L.d.tab.1 L.d.tab.2.1 (vO L.d L.ne) (by rw[L.d.count L.ne];exact a);unfold yv;ext;refine(_,_,g.l.gt,ask L a (.inl rfl) λy l2 m u=>lg g.l 'E' u λz w=>?_,);have c:=m.trans (Gr.of w);have b:=L.gr c;have e:=i.gr c L.tb;have s:=xu a c L.tb;refine(_,rfl,?_,);rw[if_neg ao];refine(_,_,g.l.gt,ask b s e.any λA F o v=>lg g.l (k:=1) 'E' v λB x=>(_,rfl,?_,),);rw[if_neg ao];have f:=o.trans (Gr.of (T:=T) x);exact lw_15 g (b.gr f) (e.gr f b.tb) j r q
def lw_13(g:G73 G K T C CO CN CC CT)(L:Lb T H t l nf n cs rows)(m:Bp nf p H)(c:NoT n bad H)(nb:NB no H)(r:0<=d)(v:D.rt=Q)(q:∀H',Q (.bl true) H'):
  wpB G K E yw D [x0,some (.int n),x2,x3,x4,x5,some (.ref l),some (.ref t),some (.int d),some p,some bad,some no,x12] H:=by
 have ask:∀{H:Hp}{p:V},Tab T H->NB no H->NoT n bad H->OC H p->Ask K T C CO CN CC CT H no bad p (.lst (onD 0)):=λtb nb c j=>ask_0 tb j nb.1 nb.2 (let⟨o,h,_⟩:=c;(o,h,));unfold yw;ext;refine(_,_,g.l.gt,ask L.tb nb c (.inl rfl) λB l2 s x=>lg g.l 'E' x λF z=>?_,);have b:=s.trans (Gr.of z);have a:=L.gr b;have f:=m.gr b L.tb;have i:=xu c b L.tb;have w:=MH nb b L.tb;refine(_,rfl,?_,);rw[if_neg ao];refine(_,_,g.l.gt,ask a.tb w i f.any λI M u y=>lg g.l (k:=0) 'E' y λJ A=>(_,rfl,?_,),);rw[if_neg ao];have e:=u.trans (Gr.of (T:=T) A);exact lw_14 g (a.gr e) (f.gr e a.tb) (xu i e a.tb) r v q
theorem lw_12(g:G73 G K T C CO CN CC CT)(L:Lb T H t l nf n cs rows)(B:Bp nf p H)(nt:NoT n bad H)(nb:NB no H)(I:0<=d)(W:D.rt=Q)(q:∀H',Q (.bl true) H'):
  wpB G K E yx D [x0,some (.int n),x2,x3,x4,x5,some (.ref l),some (.ref t),some (.int d),some p,some bad,some no,x12] H:=by
 unfold yx;ext;have v:hgt (.lst [])<=30:=by decide
 refine(_,_,g.l.gt,short 'F',λm S=>?_,);generalize hX:upd H m _=H1;obtain⟨z,J⟩:=cX hX S;clear hX;have i:=L.same z;refine Ot i.tb (.inl rfl) i.d i.ne J λA l2 O r2=>(short 'F',λy w=>pI (mP (au w) r2) (y,_,rfl,SqL.of aq,rfl,) v (_,rfl,?_,),);rw[if_neg ao];have c:=(Gr.of z).trans (O.trans (Gr.of (au (o:=.lst []) w)));generalize upd A y (.lst [])=H3 at c⊢;have a:=L.gr c;have F:=B.gr c L.tb;have a1:=xu nt c L.tb;have a0:=MH nb c L.tb;refine(_,_,g.l.gt,short 'F',λY U=>?_,);generalize hX:upd H3 Y _=H4;obtain⟨j,M⟩:=cX hX U;clear hX;have u:=(a.same j).el;have at_:∀k:Nat,k<12->atI ((aC 12).map λk=>V.str (nf k)) k<*(.str (nf k)):=λk h=>cG (by rw[ax,bw h];rfl);refine .inl ⟨l,_,0,_,rfl,rfl,SqL.of u,at_ 0 'E',.inl (l,_,1,_,rfl,rfl,SqL.of u,at_ 1 'E',short 'F',λr X=>?_,)⟩;generalize hX:upd H4 r _=H5;obtain⟨s,N⟩:=cX hX X;clear hX;have b:=(a.same j).same s;have c2:=L.c2;have has:∀k,k<cs.length->jA H5 (.ref t) (.str (nf k)):=λk h=>by obtain⟨a3,r,e,R,_⟩:=b.d.row k _ (ae h);exact⟨t,cs,nf k,cs[k],rfl,by rw[b.d.et];rfl,rfl,aR h,by rw[e,mf R]⟩
 refine Ot (K:=K) b.tb (.inr ⟨r,_,_,rfl,N,p6 (L.d.ok _),p6 (L.d.ok _),has 0 'D',has 1 'D',λa2=>by have :=L.inj 0 1 'E' 'E' (V.str.inj a2);cases this⟩) b.d b.ne (s _ _ M) λH6 l6 P r6=>(short 'F',λZ x=>pI (mP (au x) r6) (Z,_,rfl,SqL.of aq,rfl,) v (_,rfl,?_,),);rw[if_neg ao];have f:=(Gr.of (T:=T) (j.trans s)).trans (P.trans (Gr.of (au (o:=.lst []) x)));exact lw_13 g (a.gr f) (F.gr f a.tb) (xu a1 f a.tb) (MH a0 f a.tb) I W q
section
def M0(d:Tn H t nf n cs rows):∀y∈cs,Kn3 H y:=(d.tab.1.2 t cs rfl (by rw[d.et];rfl)).2
def xx(h:Bad v H):NB v H:=(h.1,.inl h.2,)
def nb_tup(L:Lb T H t l nf n cs rows)(a:σ[7]?<*(some (.ref t))):Mk G K E σ H (.bfn .tuple (.cons (.var 7) .nil)) NB:=λc s Q q=>
 (_,a,t,cs,rfl,.inl (SqL.of (s _ _ L.d.et),λp b=>q _ _ (au b) (xx (bad_tup aq)),),)
def nb_none(L:Lb T H t l nf n cs rows)(d:σ[7]?<*(some (.ref t))):Mk G K E σ H (.bin .Add (.var 7) (.lst (.cons (.con .none) .nil))) NB:=λf s Q q=>by
 have g:=L.c8;refine(_,d,short 'E',λm a=>.inr (.inr (.inl (t,m,cs,[.non],rfl,rfl,au a _ _ (s _ _ L.d.et),aq,short (by show cs.length+1<=40;lia),λp e=>?_,))),);have b:=(au a).trans (au (o:=.lst (cs++[V.non])) e);refine q _ _ b (xx (B0 aq (by simp;lia) (λy hy=>?_) λ_ c _ _=>?_))
 .rcases bz.mp hy with hy|hy;·exact M0 (L.d.same (s.trans b)) y hy
  .rw[aI.mp hy];exact M2 trivial
 .have :=c .non 'F';cases this
def MG(L:Lb T H t l nf n cs rows)(b:σ[7]?<*(some (.ref t))):Mk G K E σ H (.bin .Add (.var 7) (.cut (.var 7) .no (.yes (.con (.int 1))))) NB:=λh s Q q=>by
 have f:=L.c8;have ne:=L.ne;obtain⟨y,r,rfl⟩:∃y r,cs=y::r:=by
  cases cs with
  |nil=>exact absurd rfl ne
  |cons y r=>exact(y,r,rfl,)
 have e:vG (y::r) none (some 1)=[y]:=by simp[vG,HT.sIx]
 refine(_,b,_,b,_,rfl,.inl (t,y::r,rfl,SqL.of (s _ _ L.d.et),λm c=>?_,),);rw[e];refine .inr (.inr (.inl (t,m,y::r,[y],rfl,rfl,au c _ _ (s _ _ L.d.et),aq,short (by show(y::r).length+1<=40;lia),λp g=>?_,)));have a:=(au c).trans (au (o:=.lst ((y::r)++[y])) g);refine q _ _ a (xx (B0 aq (by simp at f⊢;lia) (λz hz=>?_) λ_ _ d _=>?_))
 .rcases bz.mp hz with hz|hz;·exact M0 (L.d.same (s.trans a)) z hz
  .rw[aI.mp hz];exact M0 (L.d.same (s.trans a)) y (.head _)
 .rw[cH,du]at d;exact d.2.2 _ (aN.mpr (y,.head _,rfl,)) _ (aN.mpr (y,.head _,rfl,)) rfl
end
def lw_11(g:G73 G K T C CO CN CC CT)(L:Lb T H t l nf n cs rows)(o:Bp nf p H)(F:NoT n bad H)(r:0<=d)(y:D.rt=Q)(q:∀H',Q (.bl true) H'):
  wpB G K E yy D [x0,some (.int n),x2,x3,x4,x5,some (.ref l),some (.ref t),some (.int d),some p,some bad,x11,x12] H:=by
 unfold yy wpB R.wpS lG nU wpG iS;have A:∀{b:L2.St},b[8]?<*(some (.int d))->Mk G K E b H (.bin .Mod (.bin .FloorDiv (.var 8) (.con (.int 7))) (.con (.int 6))) (Is (.int (d/7%6))):=λ{b} h H' s Q q=>by refine(_,h,?_,);ext;exact(('E','E',),'E',q _ _ (aD.refl _) rfl,)
 have m:∀{b:L2.St},Mk G K E b H (.lst (.cons (.tup (.cons (.con (.str "a")) (.cons (.tup (.cons (.con (.int 2)) .nil)) .nil))) .nil)) NB:=(mk_lone (K23.mk_nocP hV dy K23.Lc (K23.mk_noR1 (c:=.int 2) trivial rfl) λv w H' e k=>by rw[show v=_ from e];exact(M9 (by show _<=_;decide+kernel),k.1,.inr k.2,))).imp λv H' _ h=>xx h
 have B:∀{b:L2.St},Mk G K E b H (.lst .nil) NB:=(oz lj CK HG).imp λv H' s ⟨p,J,u,f,x⟩=>by subst u x;exact(⟨⟨uu f,λz e=>by cases e⟩,λa M e j=>by cases e;rw[f]at j;cases j;exact⟨a7 _,λ_ z=>nomatch z⟩⟩,.inr (p,rfl,f,),)
 refine FI GX (qM GX rfl 'E' (gH ((mk_bad (c:=.none) trivial).imp λv H' _ h=>xx h) (gH B (gH (nb_tup L rfl) (gH (MG L rfl) (gH (nb_none L rfl) (gH m GI))))))) (A rfl) (bA _ 'E') (bR _ 'E') H (aD.refl _) _ λno I i nb=>?_;simp only[eD,eE];exact lw_12 g (L.same i) (k9 _ _ _ i o) (CJ _ _ _ i F) nb r y q
def lw_8(g:G73 G K T C CO CN CC CT)(L:Lb T H t l nf n cs rows)(hs:H b<*(.lst (ns.map V.int)))(h:D.rt=Q)(q:∀H',Q (.bl true) H'){k:Option V}:
  wpB G K E BX D [some (.ref b),some (.int n),x2,x3,x4,x5,some (.ref l),some (.ref t),k,x9,x10,x11,x12] H:=by
 unfold BX;ext;refine(_,_,g.c1,_,_,g.c0,b,ns,1,rfl,SqL.of hs,_,6,rfl,'E','E',?_,);have a:=BI (ns.getD 1 0) 6;generalize K21.draw (ns.getD 1 0) 6=d at a;unfold Ic;ext;refine(_,_,g.c5,l,d,nf,12,rfl,a,'E',L.d.ok,SqL.of L.el,λm p j f=>?_,);have e:=L.same j;unfold Eg;ext;have s:=L.n20;refine(_,_,g.c6,('E','E',),n,d/24,rfl,'D',Int.ediv_nonneg a 'E',λo r c i=>?_,);exact lw_11 g (e.same c) (k9 _ _ _ c f) i a h q
end
def N3(xs:List V):(vG xs (some 4) (some 10)).length<=6:=by unfold vG;rw[di,show HT.sIx xs.length xs.length (some 10)=min 10 xs.length from HT.vR _ _ 10,show HT.sIx xs.length 0 (some 4)=min 4 xs.length from HT.vR _ _ 4];lia
def Lh(K:ah)(T:Tb):Sp:=λvs H Q _=>∃(a:Addr)(ns:List Int),vs=[.ref a]/\SqL K H a (ns.map V.int)/\ns.length<=63/\Tab T H/\∀H',Q (.bl true) H'
def wp_law(g:G73 G K T C CO CN CC CT):Sat G K (Lh K T) Og MK:=by
 rintro I a9 d6 d5 ⟨a,ns,rfl,Q,c0,d3,c9⟩;unfold Og;change wpB G K _ _ _ [some (.ref a),none,none,none,none,none,none,none,none,none,none,none,none] a9;ext;refine cQ (cD rfl Q (cW dI (by rw[ai];exact aO c0 'E') (λH1 W=>W.seq Q) (λi v _=>∃m:Int,v=.int m) (λ_ _ _ _ _ b5=>b5) (λD=>∃t,D=[t,some (.ref a)]) (none,rfl,) ?_ ?_))
 .rintro i y D H3 b0 hi ⟨t,rfl⟩ H hy k;obtain⟨m,hm⟩:∃m:Int,y=.int m:=by obtain⟨m,_,rfl⟩:=aN.mp (aH hy);exact(m,rfl,)
  subst hm;ext;refine(u6 'E' 'E',.inl (a,_,rfl,H.seq Q,λl hl=>?_,),);obtain⟨h,E⟩:=DZ ns none (some 1);refine(l,h,rfl,by rw[<-E];exact SqL.of aq,?_,);ext;exact('E',k _ _ _ (_,rfl,) (au hl) (_,rfl,),)
 intro I H1 b a3 N W hb;obtain⟨d,rfl⟩:=K21.wa N;generalize hX:upd H1 b _=H2;obtain⟨X,u⟩:=cX hX hb;clear hX
 replace X:=W.trans (X)
 have d4:=(Gr.of X).tab d3;unfold Ik;ext;refine(_,_,g.c1,_,_,g.c0,b,d,1,rfl,SqL.of u,_,3,rfl,'E','E',?_,);ext;have h0:0<=K21.draw (d.getD 1 0) 3%9:=bA _ 'E';have p:K21.draw (d.getD 1 0) 3%9<9:=bR _ 'E';obtain⟨n,hn⟩:=dJ h0;rw[hn];have c8:n<=10:=by lia
 refine('E',?_,);obtain⟨h,E⟩:=DZ d (some 4) (some 10);have e0:h.length<=6:=by have :=N3 (d.map V.int);rw[E,ai]at this;exact this
 unfold Ij;ext;refine(_,_,g.c0,b,d,2,rfl,SqL.of u,_,_,g.c0,b,d,3,rfl,SqL.of u,(by show 2<=sizeLine;decide),λp1 c1=>?_,);generalize hX:upd H2 p1 _=H3;obtain⟨H,e3⟩:=cX hX c1;clear hX;refine .inl (b,_,rfl,SqL.of (H _ _ u),λp2 c2=>?_,);rw[E];generalize hX:upd H3 p2 _=H4;obtain⟨s4,e4⟩:=cX hX c2;clear hX;refine .inr (.inr (.inl (p1,p2,_,_,rfl,rfl,s4 _ _ e3,e4,?_,λU c3=>?_,)));·rw[ai];exact aO (by show 2+h.length<=60;lia) 'E'
 have b1:[V.int (d.getD 2 0),V.int (d.getD 3 0)]++h.map V.int=(d.getD 2 0::d.getD 3 0::h).map V.int:=rfl;rw[b1];have b8:(d.getD 2 0::d.getD 3 0::h).length<=8:=by rw[aU,aU];lia
 have b7:2<=(d.getD 2 0::d.getD 3 0::h).length:=by rw[aU,aU];lia
 generalize d.getD 2 0::d.getD 3 0::h=h at b8 b7;have b9:h.length<=14:=by lia
 generalize hX:upd H4 U _=H5;obtain⟨s5,ep⟩:=cX hX c3;clear hX;have d0:=H.trans (s4.trans s5);unfold Ii;ext;refine(_,_,g.c3,U,h,n,rfl,SqL.of ep,b9,c8,λH6 pr S lk B s6 b4 fnd a1 c4 e6 o ik gt=>?_,);refine(pr,_,rfl,SqT.of b4,rfl,_,_,rfl,_,_,rfl,rfl,?_,);have d1:=d0.trans s6;unfold Ih;ext;refine(_,_,g.c4,U,S,h,B,rfl,SqL.of (s6 _ _ ep),SqL.of a1,'D',c4,λH7 l2 f s7 d8 b2 d7 hh=>?_,);have a6:=d1.trans s7;unfold Ig;ext;refine(_,_,g.c2,_,_,g.c0,b,d,0,rfl,SqL.of (a6 _ _ u),_,12,rfl,'E',λH8 l Y hl L=>?_,);generalize d.getD 0 0=c at L;have d2:=a6.trans Y;have a7:=s7.trans Y;have b3:=a7 _ _ a1;have a0:=Y _ _ b2;have c7:=dS (Tk.of a7) ik;have yl:o.length=B.length:=je ik;have c6:∀z,z<B.length->∃r,B[z]?<*(.ref r)/\H8 r<*(.tup ((o.getD z []).map V.int)):=λz A=>by obtain⟨k,e,r,p,q⟩:=K83.pr_at c7 (ae A);refine(r,by rw[ae A,p],?_,);rw[getD_some e];exact q
 have e5:f.length<=8:=by lia
 unfold Ie;ext;refine cQ ?_;ext;refine Or.inl (l2,_,rfl,.inl (SqL.of a0),_,rfl,by rw[ai];lia,by rw[ai];lia,?_,);refine cW dM (short (by simp;lia)) (λ_ _=>trivial) (λk v Z=>∃b r,v=.ref b/\Z b<*(.tup [.str (K21.nm c k),.ref r])/\Z r<*(.tup ((o.getD (f.getD k 0).toNat []).map V.int)))
  (λk v H8 J a5 ⟨b,r,p,q,M⟩=>(b,r,p,a5 _ _ q,a5 _ _ M,)) (λD=>∃t,D=[t,some (.ref l),some (.ref S),some (.ref l2)]) (none,rfl,) ?_ ?_
 .rintro k x D J b0 w ⟨t,rfl⟩ s rfl kk;ext;simp only[eN];have P:k<f.length:=by simpa using w
  have b6:((aC 12).map λk=>V.str (K21.nm c k))[k]?<*(.str (K21.nm c k)):=by rw[ax,bw 'D'];rfl
  have O:f.getD k 0∈f:=by rw[ag,ae P];exact aR P
  obtain⟨i0,i1⟩:=hh _ O;obtain⟨z,A⟩:=dJ i0;have c5:z<B.length:=by lia
  obtain⟨r,e1,e2⟩:=c6 z c5;refine .inl (l,_,k,_,rfl,rfl,SqL.of (s _ _ L),cG b6,?_,);refine .inl (l2,_,k,_,rfl,rfl,SqL.of (s _ _ a0),cG (gf P),?_,);rw[A];refine .inl (S,_,z,_,rfl,rfl,SqL.of (s _ _ b3),cG e1,short 'F',λtp a2=>?_,);refine kk _ _ _ (_,rfl,) (au a2) (tp,r,rfl,aq,?_,);rw[A,aW];exact au a2 _ _ (s _ _ e2)
 .intro I J t a3 N s ht;have a4:I.length=f.length:=by simpa using a3
  generalize hX:upd J t _=H10;obtain⟨F,et⟩:=cX hX ht;clear hX;have a8:=d2.trans (s.trans F);have gm:∀k,k<f.length->o.getD (f.getD k 0).toNat []∈o:=λk w=>by
   have O:f.getD k 0∈f:=by rw[ag,ae w];exact aR w
   obtain⟨i0,i1⟩:=hh _ O;have :(f.getD k 0).toNat<o.length:=by lia
   rw[ag,ae this];exact aR this
  have sub:∀x∈(aC f.length).map (λk=>o.getD (f.getD k 0).toNat []),x∈o:=λx R=>by obtain⟨k,w,rfl⟩:=aN.mp R;exact gm k (bq.mp w)
  have d9:Tn H10 t (K21.nm c) n I ((aC f.length).map λk=>o.getD (f.getD k 0).toNat []):=by
   refine(et,by simp[a4],λi y e=>?_,K21.p6 c,λi j hi hj e=>K21.MD 'D' 'D' e,'D','D',λx R=>gt.ok x (sub x R),λi j p q=>(gt.mis i j p q).sub sub,);obtain⟨b',r,p,q,M⟩:=N i y e;refine(b',r,p,F _ _ q,?_,);have hi:i<f.length:=by rw[<-a4];exact(aF.mp e).1
   rw[F _ _ M,ag (l:=(aC f.length).map _),ax,bw hi];rfl
  exact lw_8 g ((Gr.of (T:=T) a8).tab d4,d9,'D','D','D',(s.trans F) _ _ L,λi j hi hj e=>K21.MD 'D' 'D' e,) (a8 _ _ u) rfl c9
end
end K73
set_option maxHeartbeats 0
namespace K73
open PySem.Calls L2 R Cp Lt Lm
def BD(h:us.length=4):∃a b c d,us=[a,b,c,d]:=by
 cases us with
 |nil=>exact nomatch h
 |cons a r=>obtain⟨b,c,d,e⟩:=Kc.jw (i4 h);exact⟨a,b,c,d,by rw[e]⟩
def iR{f g i j:Type}{P:f->g->i->j->Prop}{q:Prop}(h:∃a b c d,P a b c d)(k:∀a b c d,P a b c d->q):q:=let⟨a,b,c,d,e⟩:=h;k a b c d e
def five_of(h:us.length=5):∃a b c d e,us=[a,b,c,d,e]:=by
 cases us with
 |nil=>exact nomatch h
 |cons a r=>obtain⟨b,c,d,e,f⟩:=BD (i4 h);exact⟨a,b,c,d,e,by rw[f]⟩
abbrev MZ(st:Stmt):Pos:=match aS st with
 |_::.Assign _ (.Call _ _ [⟨_,.Lambda _ _ _ p,_⟩] _) _::_=>p
 |_=>(0,0,0,0,)
abbrev tb(p:Addr):Tb:=(p,MZ (top 20),"table_list.<locals>.<lambda>",)
def tl_ok:(oa j6 rL (aJ (top 20))&&chkK (aJ (top 20)) j6 lS 1 (.var 0) "copy" (MZ (top 20)) lR (aS (top 20)))=true:=by decide+kernel
def tl_q:("table_list":Str)++".<locals>."++"<lambda>"="table_list.<locals>.<lambda>":=by decide+kernel
abbrev vals(C CE CC CT CO CN kd:Addr):List (Str×V):=[("LETTERS",.str LETTERS),("LONGEST_NAME",.int 8),("MOST_PLACES",.int 60),("MOST_COPIES",.int 40),("NoTable",.ref C),("KinError",.ref CE),("Clash",.ref CC),("Torn",.ref CT),("NoTelling",.ref CO),("NoName",.ref CN),("KINDS",.ref kd)]
def vU{i j:Int}{t u:Tok}(l:K.lookup a<*(.type "tuple",od,.seq #[.int i t,.int j u] n,sl,))(H:Hp):SqT K H a [.int i,.int j]:=
 .inr (_,_,_,l,rfl,rfl,by show 2<=sizeLine;decide,.cons (t,rfl,) (.cons (u,rfl,) .nil),)
def Nc{a b c d:Addr}{g h i j:Nat}{k:Array (Option Value)}{m o p t3 q u1 r s:Tok}(l:K.lookup kd<*(.type "tuple",od,.seq #[.ref a,.ref b,.ref c,.ref d] n,sl,))
  (e:K.lookup a<*(.type "tuple",o0,.seq #[.int 0 m,.int 0 q] g,s0,))(l1:K.lookup b<*(.type "tuple",o1,.seq #[.int 0 o,.int 1 u1] h,k,))(l2:K.lookup c<*(.type "tuple",o2,.seq #[.int 1 p,.int 0 r] i,s2,))(f:K.lookup d<*(.type "tuple",o3,.seq #[.int 1 t3,.int 1 s] j,s3,)):Kc.Kinds K kd:=
 (a,b,c,d,λH=>(.inr (_,_,_,l,rfl,rfl,by show 4<=sizeLine;decide,.cons rfl (.cons rfl (.cons rfl (.cons rfl .nil))),),vU e H,vU l1 H,vU l2 H,vU f H,),)
def hJ{cd:ClassData}(a:fM K (.ref C) "__getattribute__"<*(some (.builtin "BaseException.__getattribute__")))(b:fM K (.ref C) "__getattr__"<*none)(c:fM K (.ref C) "__class__"<*(some (.builtin "object.__class__")))
  (d:uJ K (.builtin "object.__class__") "__get__"<*(some (.builtin "getset_descriptor.__get__")))(e:PySem.W.takesIn K (.builtin "object.__class__")<*true)(f:Ce K C (.type "object")<*true)(g:Ce K C (.type "BaseException")<*true)(h:PySem.W.clsIn K C<*cd):nu K C=true:=by
 unfold nu;rw[a,b,c,d,e,f,g,h];simp only[beq_self_eq_true,Bool.and_self,gd]
def oJ{f:Str}{cd:ClassData}(a:nu K C=true)(b:fM K (.ref C) f<*none)(c:PySem.W.clsIn K C<*cd)(d:cd.hasDict=true):jW K C f=true:=by unfold jW;rw[a,b,c];simp only[beq_self_eq_true,Bool.and_self,d]
def B6(K:ah)(x:Str)(st:Stmt)(c p:Addr):Prop:=∃(f:Addr)(oc:Value)(od an:Option Addr)(bv:Array (Option Value))(kV ap pm ct:Value),cY K bx x<*(some (.ref f))/\
 K.lookup f<*(oc,od,.func (aB x x (aX st) (aS st) (aJ st) .none kV ap pm an (.ref c) ct),bv,)/\eF K (.ref c) x=true/\cj K (.ref f)=true/\OQ K c p=true
def zW{x:Str}{st:Stmt}{an:Option Addr}{kV:Value}(a:cY K bx x<*(some (.ref f)))
  (l:K.lookup f<*(oc,od,.func (aB x x (aX st) (aS st) (aJ st) .none kV ap pm an (.ref c) ct),bv,))(k:eF K (.ref c) x=true)(q:cj K (.ref f)=true)(h:OQ K c p=true):∃c,B6 K x st c p:=
 (c,f,oc,od,an,bv,kV,ap,pm,ct,a,l,k,q,h,)
def add_fnK{vals:List (Str×V)}{e:List ((Str×Nat)×(Sp×List V))}{x:Str}{st:Stmt}{sp:Sp}{o:CS}{r:R.CE}{q:CB}{T:Tb}{j:List ((Str×Nat)×(Addr×Sp×List V))}{b:List (Addr×List (Key×V))}
  (g:GOk P w K mg base (CXx P w) k (gam vals e j b))(X:K.In h)(u:K.In base)(t:h.Ns bx mg)(d:B6 K x st c T.P)(m:(oa N ps (aJ st)&&chkK (aJ st) N o i r lx T.pos q (aS st))=true)(hq:x++".<locals>."++"<lambda>"=T.q)(z:BM mg base)
  (B:∀(p:Pos)(y:Expr)(scope:Scope)(qual:Str)(pm ce v:Value)(c':Addr),ri (PySem.W.kla_fn "<lambda>" qual (sy lx p) y scope [] pm (.ref c') ce) ([v],[],)=pure [(lx,v)])
  (A:∀(kV ap pm:Value)(an:Option Addr)(am ct:Value)(us:List Value),us.length=ps.length->ri (aB x x (aX st) (aS st) (aJ st) .none kV ap pm an am ct) (us,[],)=pure (ps.zip us))(len:∀vs H Q E,sp vs H Q E->vs.length=ps.length)
  (C:∀vs H Q E,sp vs H Q E->lG (R.wpS (gam vals e j b) K (λ_=>E) o) (lG (nU (wJ K T (wpE (gam vals e j b) K (λ_=>E) r)) (iS i)) (wpB (gam vals e j b) K (λ_=>E) q)) {nx:=λ_ H'=>Q .non H',rt:=Q} (L2.start N vs) H):
  GOk P w K mg base (CXx P w) (k+1) (gam vals (((x,ps.length),(sp,[]))::e) j b):=by
 rw[az]at m;obtain⟨f,I,J,an,L,kV,ap,pm,ct,a,l,D,s,G⟩:=d;have F:=Ga l D s;exact g.add (n:=ps.length) (NG F m.1 m.2 rfl (Iz u G) hq z B g len C) (cL X t a) s (F.binds A) .nil
def F5{kV:Value}{an:Option Addr}:Binds K (aB "__init__" "Clash.__init__" (aX (eT 2 0)) (aS (eT 2 0)) (aJ (eT 2 0)) .none kV ap pm an am ct) K32.nj []:=λs b X a=>by rw[dD]at a⊢;obtain⟨_,_,_,_,rfl⟩:=BD a;exact .of_eq rfl
def init_ok:(oa K32.jM K32.nj (aJ (eT 2 0))&&qV (aJ (eT 2 0)) K32.jM K32.jR (aS (eT 2 0)))=true:=by decide+kernel
def DK{kV:Value}{an:Option Addr}:Binds K (aB "__init__" "Torn.__init__" (aX (eT 3 0)) (aS (eT 3 0)) (aJ (eT 3 0)) .none kV ap pm an am ct) K61.n6 []:=λs b X a=>by rw[dD]at a⊢;obtain⟨_,_,_,rfl⟩:=Kc.jw a;exact .of_eq rfl
def Nk:(oa K61.kJ K61.n6 (aJ (eT 3 0))&&qV (aJ (eT 3 0)) K61.kJ K61.kQ (aS (eT 3 0)))=true:=by decide+kernel
set_option hygiene false in
local macro_rules
 | `(#v[])=>`('G')
 | `(#v[0])=>`(Kc.ff h rfl)
 | `(#v[1,$z])=>`(Kc.cV h λ_ h=>$z)
 | `(#v[4,$z])=>`(iR h λ_ _ _ _ h=>$z)
 | `(#v[1])=>`(λ_ _ _ _ _ _ f b=>by obtain⟨_,rfl⟩:=Kc.iu b;rfl)
 | `(#v[2])=>`(λ_ _ _ _ _ _ f b=>by obtain⟨_,_,rfl⟩:=Kc.fm b;rfl)
 | `(#v[3])=>`(λ_ _ _ _ _ _ f b=>by obtain⟨_,_,_,rfl⟩:=Kc.jw b;rfl)
 | `(#v[4])=>`(λ_ _ _ _ _ _ f b=>by obtain⟨_,_,_,_,rfl⟩:=BD b;rfl)
 | `(#v[5])=>`(λ_ _ _ _ _ _ f b=>by obtain⟨_,_,_,_,_,rfl⟩:=five_of b;rfl)
 | `(#v[$N,$p,$g,$d,$s,$w,$e,$z])=>`(cB (N:=$N) (ps:=$p) $g (HasFn.def X d $d) (by decide+kernel) $e (sp:=$s) (λ_ _ _ _ h=>$z) ($w))
def all_mk(X:K.In h)(d:h.Ns bx mg)(k4:mg "law"<*(.ref fa)){F G t3 I:Tok}{CE CT CO fI2:Addr}{k7 a5 l2 cdI a2:Value}{k8 a6 l3 cdI2 a3:Value}
  (v1:cY K bx "LETTERS"<*(some (.str LETTERS F)))(v2:cY K bx "LONGEST_NAME"<*(some (.int 8 G)))(v3:cY K bx "MOST_PLACES"<*(some (.int 60 t3)))(v4:cY K bx "MOST_COPIES"<*(some (.int 40 I)))(v5:cY K bx "NoTable"<*(some (.ref C)))(v6:cY K bx "KinError"<*(some (.ref CE)))(J:cY K bx "Clash"<*(some (.ref CC)))(L:cY K bx "Torn"<*(some (.ref CT)))(v9:cY K bx "NoTelling"<*(some (.ref CO)))(l9:cY K bx "NoName"<*(some (.ref CN)))(m0:cY K bx "KINDS"<*(some (.ref kd)))
  (M:XC K C)(xo:XC K CO)(O:XC K CN)(R:K73.Rh K CE C CO CN CC CT C 0)(S:K73.Rh K CE C CO CN CC CT CO 1)(U:K73.Rh K CE C CO CN CC CT CN 2)(V:K73.Rh K CE C CO CN CC CT CC 3)(W:K73.Rh K CE C CO CN CC CT CT 4)(f1:jW K CC "one"=true)(f2:jW K CC "other"=true)(f3:jW K CC "names"=true)(f4:jW K CT "one"=true)(f5:jW K CT "other"=true)(k9:Kc.Kinds K kd)(A:oK K CC fI bmV "ValueError.__new__"=true)(kI:cj K (.ref CC)=true)(y:K.lookup fI<*(.type "function",dL,.func (aB "__init__" "Clash.__init__" (aX (eT 2 0)) (aS (eT 2 0)) (aJ (eT 2 0)) .none k7 a5 l2 dv cdI a2),cr,))(cI:eF K cdI "Clash.__init__"=true)(i:uJ K (.ref CE) "__getattribute__"<*(some (.builtin "type.__getattribute__")))(j:PySem.W.readsIn K CE (.type "type")=true)(k:PySem.W.findCls K (.ref CE) (.type "type") "__init__"<*(.val (.builtin "ValueError.__init__")))(l4:StX K CC "one")(l6:StX K CC "other")(l8:StX K CC "names")(D:oK K CT fI2 bmV "ValueError.__new__"=true)(k6:cj K (.ref CT)=true)(z:K.lookup fI2<*(.type "function",ed,.func (aB "__init__" "Torn.__init__" (aX (eT 3 0)) (aS (eT 3 0)) (aJ (eT 3 0)) .none k8 a6 l3 dC cdI2 a3),dt,))(a0:eF K cdI2 "Torn.__init__"=true)(l5:StX K CT "one")(l7:StX K CT "other")(bl:∀x∈jF,cY K bx x<*none)
  (e5:HasFn K "is_whole" (top 12))(e6:HasFn K "is_name" (top 13))(e7:HasFn K "is_reading" (top 14))(e8:HasFn K "are_readings" (top 15))(e9:HasFn K "is_copy" (top 16))(f0:HasFn K "is_table" (top 17))(f6:HasFn K "need_table" (top 18))(f7:HasFn K "need_name" (top 19))(f8:HasFn K "place_count" (top 21))(f9:HasFn K "first_of_kinds" (top 24))(h0:HasFn K "clash" (top 25))(h1:HasFn K "refuse_clash" (top 26))(h2:HasFn K "group_at" (top 28))(h3:HasFn K "turned" (top 29))(h4:HasFn K "grown" (top 30))(h5:HasFn K "tree" (top 31))(h6:HasFn K "node_of" (top 32))(h7:HasFn K "is_telling" (top 34))(h8:HasFn K "are_tellings" (top 35))(h9:HasFn K "need_tellings" (top 36))(i0:HasFn K "that_read" (top 37))(i1:HasFn K "refuse_torn" (top 38))(i2:HasFn K "told_nodes" (top 39))(i3:HasFn K "unknown_places" (top 40))(i4:HasFn K "first_read" (top 41))(i5:HasFn K "is_behind" (top 43))(i6:HasFn K "comes" (top 44))(i7:HasFn K "comes_of" (top 45))(i8:HasFn K "set_aside" (top 46))(i9:HasFn K "_law_cell_at" (top 48))(j0:HasFn K "_law_draw" (top 50))(j1:HasFn K "_law_names" (top 51))(j2:HasFn K "_law_otherwise" (top 52))(j3:HasFn K "_law_grown" (top 53))(j4:HasFn K "_law_held" (top 54))(j5:HasFn K "_law_truths" (top 55))(j7:HasFn K "_law_only" (top 56))(j8:HasFn K "_law_bad_tellings" (top 57))(j9:HasFn K "_law_bad_pair" (top 58))(k0:HasFn K "_law_clashing" (top 59))(k1:HasFn K "_law_torn" (top 60))(k2:HasFn K "_law_late" (top 61))(f:∃c,B6 K "table_list" (top 20) c p)(k3:HasFn K "law" (top 62)):
  ∃fd:fE,(∀(s:Shared)(v:Value),BindsTo s fd ([v],[],) [("_law_script",v)])/\∀base:Heap,K.In base->base.Ns bx mg->BM mg base->jG P w K mg base CX0 48 fa fd ["_law_script"] (λvs H Q _=>Lh K (tb p) vs H Q E0):=by
 obtain⟨m1,m2,od,an,m3,kV,a4,pm,a1,ct,a,l0,c,k5⟩:=id k3;have a7:=k4.symm.trans (cL X d a);cases a7;obtain⟨cc,f⟩:=f;refine(aB "law" "law" (aX (top 62)) (aS (top 62)) (aJ (top 62)) .none kV a4 pm an a1 ct,λs v=>.of_eq rfl,λbase Z _ bm=>?_,);have hv:∀x v,(x,v)∈vals C CE CC CT CO CN kd->∃u,mg x<*u/\RelV v u:=by
  intro x v r;simp only[vals,aA,bg,or_false,Prod.mk.injEq]at r;rcases r with⟨rfl,rfl⟩ |⟨rfl,rfl⟩ |⟨rfl,rfl⟩ |⟨rfl,rfl⟩ |⟨rfl,rfl⟩ |⟨rfl,rfl⟩ |⟨rfl,rfl⟩ |⟨rfl,rfl⟩ |⟨rfl,rfl⟩ |⟨rfl,rfl⟩ |⟨rfl,rfl⟩;·exact(_,cL X d v1,F,rfl,)
  .exact(_,cL X d v2,G,rfl,)
  .exact(_,cL X d v3,t3,rfl,)
  .exact(_,cL X d v4,I,rfl,)
  .exact(_,cL X d v5,rfl,)
  .exact(_,cL X d v6,rfl,)
  .exact(_,cL X d J,rfl,)
  .exact(_,cL X d L,rfl,)
  .exact(_,cL X d v9,rfl,)
  .exact(_,cL X d l9,rfl,)
  .exact(_,cL X d m0,rfl,)
 have g0:GOk P w K mg base (CXx P w) 0 (gam (vals C CE CC CT CO CN kd) []):=GOk.start hv λx hx=>PySem.W.mg_none_of X d (bl x hx);have g1:=#v[Cp.xE,Cp.Fz,g0,e5,spB isWhole,Cr,#v[1],#v[1,#v[0]]];have g2:=#v[Cp.zO,Cp.Jj,g1,e6,spN,EN #v[] #v[],#v[1],#v[1,#v[0]]];have g3:=#v[Cp.rX,Cp.Be,g2,e7,spB bF,yU #v[],#v[1],#v[1,#v[0]]];have g4:=#v[Cp.oy,Cp.xm,g3,e8,spR,vB #v[] #v[],#v[1],#v[1,#v[0]]];have g5:=#v[Cp.zP,Cp.Jk,g4,e9,spC,EO #v[] #v[],#v[1],#v[1,#v[0]]];have g6:=#v[Cp.xF,Cp.FA,g5,f0,Cp.spT,Ct #v[] #v[],#v[1],#v[1,#v[0]]];have g7:=#v[Cp.rT,Cp.Bb,g6,f6,wR C,yT #v[] #v[] M,#v[1],#v[1,#v[0]]];have g8:=#v[K32.uT,K32.C9,g7,f7,K32.rG C CN,K32.IF (C:=C) (CN:=CN) #v[] #v[] #v[] O,#v[2],#v[1,#v[1,#v[0]]]];have g9:=add_fnK (T:=tb p) (N:=j6) (ps:=rL) (lx:="copy") g8 X Z d f tl_ok tl_q bm (λ_ _ _ _ _ _ _ _=>rfl) (λ_ _ _ _ _ _ e b=>by obtain⟨_,rfl⟩:=Kc.iu b;rfl) (sp:=qI C (tb p)) (λvs H Q E h=>Kc.cV h λ_ h=>Kc.ff h rfl) (yS (C:=C) #v[]);have a8:=#v[Cp.p8,Cp.yZ,g9,f8,vP C,wz (C:=C) #v[],#v[1],#v[1,#v[0]]];have a9:=#v[Kc.mj,Kc.ug,a8,f9,Kc.AU,Kc.KG #v[] k9,#v[3],#v[4,#v[1,#v[0]]]];have m:=#v[K22.Hz,K22.p_clash,a9,h0,K22.vQ C (tb p),K22.KH (C:=C) (T:=tb p) #v[] #v[] #v[],#v[1],#v[1,#v[0]]];have nt:K32.Cl K CE CC:=((i,j,k,),l4,l6,l8,fI,A,);have hi:=eQ.mp init_ok;have b0:=m.addI (n:=3) (x:="Clash") (C:=CC) (A,(_,y,rfl,),kI,) (ya y cI hi.1 hi.2 m (sp:=K32.AQ CC) (λvs H Q E h=>Kc.cV h λ_ h=>Kc.cV h λ_ h=>Kc.cV h λ_ h=>Kc.cV h λ_ h=>Kc.ff h rfl) (K32.KC (B:=CE) (C:=CC) #v[] nt)) (cL X d J) F5 .nil;have b4:=#v[K32.oo,K32.xi,b0,h1,K32.wQ C CC (tb p),K32.IE (C:=C) (CC:=CC) (T:=tb p) #v[] #v[],#v[1],#v[1,#v[0]]];have b5:=#v[K32.xG,K32.FC,b4,h2,K32.AS,K32.KE,#v[2],#v[4,#v[1,#v[0]]]];have b6:=#v[K32.Dw,K32.My,b5,h3,K32.nV K,K32.ID,#v[2],#v[4,#v[0]]];have b7:=#v[K32.Hx,K32.p_grown,b6,h4,K32.wU,K32.IG #v[] #v[],#v[1],#v[4,#v[0]]];have b8:=#v[K32.MJ,K32.p_tree,b7,h5,K32.wO C CC (tb p),K32.wp_tree (C:=C) (CC:=CC) (T:=tb p) #v[] #v[] #v[],#v[1],#v[1,#v[0]]];have b9:=#v[K32.zN,K32.Ji,b8,h6,K32.AM C CN (tb p),K32.EM (C:=C) (CN:=CN) (T:=tb p) #v[] #v[],#v[2],#v[1,#v[1,#v[0]]]];have c0:=#v[K75.rW,K75.Bd,b9,h7,K63.Lf,K63.wp_tgA #v[] #v[],#v[2],#v[1,#v[1,#v[1,#v[0]]]]];have c1:=#v[K75.ou,K75.xl,c0,h8,K63.Lj,K63.wp_atA #v[],#v[2],#v[1,#v[1,#v[1,#v[0]]]]];have c2:=#v[K63.nq,K63.vC,c1,h9,K63.CV C CO,K63.wp_ntA (C:=C) (CO:=CO) #v[] #v[] #v[] M #v[] xo,#v[2],#v[1,#v[1,#v[1,#v[0]]]]];have o:=#v[K75.uR,K75.C7,c2,i0,K75.CU K,K75.wp_thr,#v[2],#v[4,#v[1,#v[1,#v[1,#v[0]]]]]];have l1:K61.Cl2 K CE CT:=((i,j,k,),l5,l7,fI2,D,);have q:=eQ.mp Nk;have c3:=o.addI (n:=2) (x:="Torn") (C:=CT) (D,(_,z,rfl,),k6,) (ya z a0 q.1 q.2 o (sp:=K61.AO CT) (λvs H Q E h=>Kc.cV h λ_ h=>Kc.cV h λ_ h=>Kc.cV h λ_ h=>Kc.ff h rfl) (K61.KA (B:=CE) (C:=CT) #v[] l1)) (cL X d L) DK .nil;have c4:=#v[K61.p7,K61.yY,c3,i1,K61.spRt K (tb p) CT,K61.wp_rt (T:=tb p) #v[] #v[],#v[2],#v[4,#v[1,#v[1,#v[1,#v[0]]]]]];have c5:=#v[K61.rS,K61.Ba,c4,i2,K61.Le K (tb p) CT,K61.wp_tn1 (T:=tb p) #v[] #v[],#v[2],#v[4,#v[1,#v[1,#v[1,#v[0]]]]]];have c6:=#v[K75.mi,K75.uf,c5,i3,K75.spUp K,K75.wp_up,#v[3],#v[4,#v[4,#v[1,#v[0]]]]];have c7:=#v[K75.rY,K75.Bg,c6,i4,K73.spFo (tb p) C CO CC CT,K73.wp_fo (T:=tb p) #v[] #v[] #v[] #v[],#v[2],#v[1,#v[1,#v[0]]]];have c8:=#v[K75.uW,K75.De,c7,i5,K75.spIb K,K75.wp_ib,#v[3],#v[4,#v[1,#v[1,#v[0]]]]];have c9:=#v[K75.Hy,K75.p_comes,c8,i6,K75.spCm K,K75.wp_cm #v[],#v[3],#v[4,#v[1,#v[1,#v[0]]]]];have d0:=#v[K73.xH,K73.FD,c9,i7,K73.Li (tb p) C CO CN CC CT,K73.wp_coA (T:=tb p) (C:=C) (CO:=CO) (CN:=CN) (CC:=CC) (CT:=CT) #v[] #v[] #v[] #v[] #v[] #v[] O,#v[4],#v[4,#v[0]]];have d1:=#v[K75.uS,K75.C8,d0,i8,K73.Lg (tb p) C CO CC CT,K73.wp_saA (C:=C) (T:=tb p) #v[] #v[] #v[],#v[2],#v[1,#v[1,#v[0]]]];have d2:=#v[Lt.qa,Lt.y6,d1,i9,Lt.E7 K,Lt.wp_cell,#v[2],#v[1,#v[1,#v[1,#v[0]]]]];have d3:=#v[K21.xD,K21.Fy,d2,j0,K21.lH,K21.wp_draw,#v[2],#v[1,#v[1,#v[0]]]];have d4:=#v[K21.uU,K21.Dc,d3,j1,K21.AN,K21.Kz #v[],#v[2],#v[1,#v[1,#v[0]]]];have d5:=#v[K22.nr,K22.vD,d4,j2,K34.nW K,K34.wp_othN,#v[2],#v[4,#v[0]]];have d6:=#v[K22.uV,K22.Dd,d5,j3,K34.AR K,K34.KD #v[] #v[],#v[2],#v[1,#v[1,#v[1,#v[0]]]]];have d7:=#v[K22.xC,K22.Fw,d6,j4,K22.E6 K,K22.wp_held #v[],#v[2],#v[4,#v[0]]];have Y:∀l t,K73.Xh (gam (vals C CE CC CT CO CN kd) l t) CE C CO CN CC CT:=λl t=>('G','G','G','G','G','G',);have d8:=#v[K73.rV,K73.Bc,d7,j5,K73.CQ (tb p) C CO CN CC CT,K73.wp_tr3 (T:=tb p) (Y _ _) (R,S,U,V,W,f1,f2,f3,f4,f5,) #v[] #v[],#v[3],#v[1,#v[1,#v[1,#v[0]]]]];have d9:=#v[K73.xA,K73.Fu,d8,j7,K73.spOn,K73.wp_on,#v[1],#v[1,#v[0]]];have e0:=#v[K73.kH,K73.qK,d9,j8,K73.spBt,K73.wp_bt,#v[2],#v[1,#v[1,#v[0]]]];have e1:=#v[K73.ot,K73.xk,e0,j9,K73.spBp K,K73.wp_bp,#v[2],#v[4,#v[0]]];have e2:=#v[K73.oq,K73.xj,e1,k0,K73.spCl K,K73.wp_cl,#v[3],#v[4,#v[1,#v[1,#v[0]]]]];have e3:=#v[K73.xy,K73.Ft,e2,k1,K73.Ld,K73.wp_to3,#v[2],#v[4,#v[1,#v[0]]]];have e4:=#v[K73.xB,K73.Fv,e3,k2,K73.spLa (tb p),K73.wp_la (T:=tb p) (C:=C) (CO:=CO) (CN:=CN) (CC:=CC) (CT:=CT) (#v[],#v[],#v[],#v[],),#v[5],#v[4,#v[4,#v[1,#v[0]]]]];have g:(oa K73.MK K73.p_law (aJ (top 62))&&qV (aJ (top 62)) K73.MK K73.Og (aS (top 62)))=true:=by decide+kernel
 rw[az]at g;exact jG.calm (HU (Ga l0 c k5) g.1 g.2 e4 (λvs H Q E h=>Kc.cV h λ_ h=>Kc.cV h λ_ h=>Kc.ff h rfl) (wp_law (T:=tb p) (C:=C) (CO:=CO) (CN:=CN) (CC:=CC) (CT:=CT) ((#v[],#v[],#v[],#v[],),#v[],#v[],#v[],#v[],#v[],#v[],#v[],#v[],#v[],)))
end K73
open PySem.W
set_option maxRecDepth 100000 in
set_option maxHeartbeats 0 in
theorem PySem.Challenge.cw_copykin_k73_refused_kin_holds : PySem.Challenge.rw_copykin_k73_refused_kin.Holds := by
 w_on;refine PySem.W.holds_law K73.saidW fun said=>?_
 refine PySem.W.holds_open (q:=K73.vw) (loose:=K73.loo) (Xt:=K73.xt)
  (XP:=PySem.W.XL K73.vw []) (Yf:=EF (kY K73.DP K73.DQ (λ_=>by kernel_rfl) [151])) (Ya:=EE (kY K73.DP K73.DQ (λ_=>by kernel_rfl) [151]))
  (YP:=PySem.W.Hook.says (kY K73.DP K73.DQ (λ_=>by kernel_rfl) [151])) (N:=5620) (λw=>K73.both (K73.leftA w) (K73.leftB w)) (PySem.W.Hook.of _) (PySem.W.Hook.keeps _)
  (λs e=>PySem.W.xl_of s (eQ.mp e).1) PySem.W.XL.keeps
  (by rfl) (by rfl) (by rfl)
  (λs e=>PySem.W.recFacts_of (eQ.mp e).2) rfl (by assumption) (by decide+kernel)
  (rfl,rfl,rfl,rfl,rfl,by decide+kernel,) ?hw ?hc
 (case hw=>w_witness2)
 k_fill
 refine Lm.KI (l:=PySem.Challenge.rw_copykin_k73_refused_kin) (n:=63) (k:=48) (x:="_law_script") (CX:=L2.CX0) (sp:=λK=>λvs H Q _=>K73.Lh K (K73.tb 151) vs H Q L2.E0) (tabs:=[151]) rfl 'E' rfl (rfl,'E','E',) (λw h Y=>OP Y) ?T ?F (λK H a ns hl ht hS=>(a,ns,rfl,hS,hl,.inl (ht 151 (aI.mpr rfl)),λ_=>rfl,)) (λ_ _ _ _ z=>z)
 case T=>
  intro w s₀ mg mb h G Y p hp;obtain rfl:=aI.mp hp;have KX:=OP Y;have T:=PySem.W.km_tabs_of Y 151 (aI.mpr rfl);have F:∃c,K73.B6 (L2.KOf KX) "table_list" (K73.top 20) c 151:=by
   dsimp only[L2.KOf];refine' K73.zW ?ta ?tl ?tk ?tq ?th;(case ta=>k_is);(case tl=>k_is);(case tk=>k_is);(case tq=>k_is);(case th=>first |k_is|kernel_rfl)
  obtain⟨c,_,_,_,_,_,_,_,_,_,_,_,_,_,q⟩:=F;exact(T,((Iz KX q).tab T).isCodeTable,'G',)
 case F=>
  intro w mg fa h KX G hmg;refine' K73.all_mk (p:=151) (fI:=41) (cdI:=.ref 40) (fI2:=60) (cdI2:=.ref 59) KX G hmg ?v1 ?v2 ?v3 ?v4 ?v5 ?v6 ?v7 ?v8 ?v9 ?v10 ?v11 ?xc ?xo ?xn ?F0 ?F1 ?F2 ?F3 ?F4 ?f1 ?f2 ?f3 ?f4 ?f5 ?kd0 ?mx ?kI ?lI ?cI ?b1 ?b2 ?b3 ?st1 ?st2 ?st3 ?mx2 ?kI2 ?lI2 ?cI2 ?st1_2 ?st2_2 ?bl ?h12 ?h13 ?h14 ?h15 ?h16 ?h17 ?h18 ?h19 ?h21 ?h24 ?h25 ?h26 ?h28 ?h29 ?h30 ?h31 ?h32 ?h34 ?h35 ?h36 ?h37 ?h38 ?h39 ?h40 ?h41 ?h43 ?h44 ?h45 ?h46 ?h48 ?h50 ?h51 ?h52 ?h53 ?h54 ?h55 ?h56 ?h57 ?h58 ?h59 ?h60 ?h61 ?h20 ?h62
  (case v1=>k_is);(case v2=>k_is);(case v3=>k_is);(case v4=>k_is);(case v5=>k_is);(case v6=>k_is);(case v7=>k_is);(case v8=>k_is);(case v9=>k_is);(case v10=>k_is);(case v11=>k_is)
  (case xc=>refine'(?x1,?x2,);(case x1=>k_is);(case x2=>k_exc))
  (case xo=>refine'(?x1,?x2,);(case x1=>k_is);(case x2=>k_exc))
  (case xn=>refine'(?x1,?x2,);(case x1=>k_is);(case x2=>k_exc))
  (case F0=>refine'(?o,?m,?k1,?k2,?k3,?k4,?k5,?kv,);(case o=>refine' K73.hJ ?xa ?xb ?xc ?xd ?xe ?xf ?xg ?xh;(case xa=>k_is);(case xb=>k_is);(case xc=>k_is);(case xd=>k_is);(case xe=>k_is);(case xf=>k_is);(case xg=>k_is);(case xh=>k_is));(case m=>kts_exm);(case k1=>show _<*true;kit_is);(case k2=>show _<*false;kit_is);(case k3=>show _<*false;kit_is);(case k4=>show _<*false;kit_is);(case k5=>show _<*false;kit_is);(case kv=>kit_is))
  (case F1=>refine'(?o,?m,?k1,?k2,?k3,?k4,?k5,?kv,);(case o=>refine' K73.hJ ?xa ?xb ?xc ?xd ?xe ?xf ?xg ?xh;(case xa=>k_is);(case xb=>k_is);(case xc=>k_is);(case xd=>k_is);(case xe=>k_is);(case xf=>k_is);(case xg=>k_is);(case xh=>k_is));(case m=>kts_exm);(case k1=>show _<*false;kit_is);(case k2=>show _<*true;kit_is);(case k3=>show _<*false;kit_is);(case k4=>show _<*false;kit_is);(case k5=>show _<*false;kit_is);(case kv=>kit_is))
  (case F2=>refine'(?o,?m,?k1,?k2,?k3,?k4,?k5,?kv,);(case o=>refine' K73.hJ ?xa ?xb ?xc ?xd ?xe ?xf ?xg ?xh;(case xa=>k_is);(case xb=>k_is);(case xc=>k_is);(case xd=>k_is);(case xe=>k_is);(case xf=>k_is);(case xg=>k_is);(case xh=>k_is));(case m=>kts_exm);(case k1=>show _<*false;kit_is);(case k2=>show _<*false;kit_is);(case k3=>show _<*true;kit_is);(case k4=>show _<*false;kit_is);(case k5=>show _<*false;kit_is);(case kv=>kit_is))
  (case F3=>refine'(?o,?m,?k1,?k2,?k3,?k4,?k5,?kv,);(case o=>refine' K73.hJ ?xa ?xb ?xc ?xd ?xe ?xf ?xg ?xh;(case xa=>k_is);(case xb=>k_is);(case xc=>k_is);(case xd=>k_is);(case xe=>k_is);(case xf=>k_is);(case xg=>k_is);(case xh=>k_is));(case m=>kts_exm);(case k1=>show _<*false;kit_is);(case k2=>show _<*false;kit_is);(case k3=>show _<*false;kit_is);(case k4=>show _<*true;kit_is);(case k5=>show _<*false;kit_is);(case kv=>kit_is))
  (case F4=>refine'(?o,?m,?k1,?k2,?k3,?k4,?k5,?kv,);(case o=>refine' K73.hJ ?xa ?xb ?xc ?xd ?xe ?xf ?xg ?xh;(case xa=>k_is);(case xb=>k_is);(case xc=>k_is);(case xd=>k_is);(case xe=>k_is);(case xf=>k_is);(case xg=>k_is);(case xh=>k_is));(case m=>kts_exm);(case k1=>show _<*false;kit_is);(case k2=>show _<*false;kit_is);(case k3=>show _<*false;kit_is);(case k4=>show _<*false;kit_is);(case k5=>show _<*true;kit_is);(case kv=>kit_is))
  (case f1=>refine' K73.oJ (K73.hJ ?xa ?xb ?xc ?xd ?xe ?xf ?xg ?xh) ?fb ?fc ?fd;(case xa=>k_is);(case xb=>k_is);(case xc=>k_is);(case xd=>k_is);(case xe=>k_is);(case xf=>k_is);(case xg=>k_is);(case xh=>k_is);(case fb=>k_is);(case fc=>k_is);(case fd=>rfl))
  (case f2=>refine' K73.oJ (K73.hJ ?xa ?xb ?xc ?xd ?xe ?xf ?xg ?xh) ?fb ?fc ?fd;(case xa=>k_is);(case xb=>k_is);(case xc=>k_is);(case xd=>k_is);(case xe=>k_is);(case xf=>k_is);(case xg=>k_is);(case xh=>k_is);(case fb=>k_is);(case fc=>k_is);(case fd=>rfl))
  (case f3=>refine' K73.oJ (K73.hJ ?xa ?xb ?xc ?xd ?xe ?xf ?xg ?xh) ?fb ?fc ?fd;(case xa=>k_is);(case xb=>k_is);(case xc=>k_is);(case xd=>k_is);(case xe=>k_is);(case xf=>k_is);(case xg=>k_is);(case xh=>k_is);(case fb=>k_is);(case fc=>k_is);(case fd=>rfl))
  (case f4=>refine' K73.oJ (K73.hJ ?xa ?xb ?xc ?xd ?xe ?xf ?xg ?xh) ?fb ?fc ?fd;(case xa=>k_is);(case xb=>k_is);(case xc=>k_is);(case xd=>k_is);(case xe=>k_is);(case xf=>k_is);(case xg=>k_is);(case xh=>k_is);(case fb=>k_is);(case fc=>k_is);(case fd=>rfl))
  (case f5=>refine' K73.oJ (K73.hJ ?xa ?xb ?xc ?xd ?xe ?xf ?xg ?xh) ?fb ?fc ?fd;(case xa=>k_is);(case xb=>k_is);(case xc=>k_is);(case xd=>k_is);(case xe=>k_is);(case xf=>k_is);(case xg=>k_is);(case xh=>k_is);(case fb=>k_is);(case fc=>k_is);(case fd=>rfl))
  (case kd0=>refine' K73.Nc ?l ?l0 ?l1 ?l2 ?l3;(case l=>k_is);(case l0=>k_is);(case l1=>k_is);(case l2=>k_is);(case l3=>k_is))
  (case mx=>first |k_exc|kernel_rfl)
  (case kI=>k_is)
  (case lI=>k_is)
  (case cI=>k_is)
  (case b1=>k_is)
  (case b2=>first |k_is|kernel_rfl)
  (case b3=>first |k_is|kernel_rfl)
  (case st1=>refine'(?s1,?s2,?s3,?s4,);(case s1=>k_is);(case s2=>first |k_is|kernel_rfl);(case s3=>first |k_is|kernel_rfl);(case s4=>first |k_is|kernel_rfl))
  (case st2=>refine'(?s1,?s2,?s3,?s4,);(case s1=>k_is);(case s2=>first |k_is|kernel_rfl);(case s3=>first |k_is|kernel_rfl);(case s4=>first |k_is|kernel_rfl))
  (case st3=>refine'(?s1,?s2,?s3,?s4,);(case s1=>k_is);(case s2=>first |k_is|kernel_rfl);(case s3=>first |k_is|kernel_rfl);(case s4=>first |k_is|kernel_rfl))
  (case mx2=>first |k_exc|kernel_rfl)
  (case kI2=>k_is)
  (case lI2=>k_is)
  (case cI2=>k_is)
  (case st1_2=>refine'(?s1,?s2,?s3,?s4,);(case s1=>k_is);(case s2=>first |k_is|kernel_rfl);(case s3=>first |k_is|kernel_rfl);(case s4=>first |k_is|kernel_rfl))
  (case st2_2=>refine'(?s1,?s2,?s3,?s4,);(case s1=>k_is);(case s2=>first |k_is|kernel_rfl);(case s3=>first |k_is|kernel_rfl);(case s4=>first |k_is|kernel_rfl))
  (case bl=>
   intro x hx;simp only[R.jF,aA,bg,or_false]at hx;rcases hx with rfl|rfl|rfl|rfl|rfl|rfl|rfl|rfl|rfl|rfl|rfl|rfl|rfl|rfl|rfl|rfl|rfl|rfl|rfl|rfl<;>k_is)
  (case h20=>refine' K73.zW ?ua ?ul ?uk ?uq ?uh;(case ua=>k_is);(case ul=>k_is);(case uk=>k_is);(case uq=>k_is);(case uh=>first |k_is|kernel_rfl))
  all_goals(refine' R.Ny ?a ?l ?c ?k;(case a=>k_is);(case l=>k_is);(case c=>k_is);(case k=>k_is))
