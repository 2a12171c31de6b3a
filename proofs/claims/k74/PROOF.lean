import PyProof.Rows.All
import Wide.All
import OpenK.AllK
import Wide.FinOn
import Lean
import PyProof.EqAt
import PyProof.EqKinds
import PyProof.TupleCall
import PyProof.NeKinds
import PySem.Challenge.RW_copykin_k74_whole_known_stays
open Array renaming length_toList → cq, getElem?_eq_some_iff → dF, perm_iff_toList_perm → gv, mem_toList_iff → ji, getElem?_toList → nG, forIn_toList → Jn
open Bool renaming false_ne_true → aE, and_eq_true → aQ, false_eq_true → aS, eq_iff_iff → cb, or_eq_true → cQ, false_and → dG, eq_false_iff → dH, not_true → eM, true_and → fm, and_false → iL, and_eq_true_iff → FC
open Classical renaming byContradiction → aF, not_forall → fY, not_imp → pX, epsilon_spec → yN
open False renaming elim → km
open ForInStep renaming yield → gG
open Int renaming toNat_natCast → aU, emod_nonneg → bE, emod_lt_of_pos → bM, eq_ofNat_of_zero_le → cW, zero_add → eA, fdiv_eq_ediv_of_nonneg → AK
open Int.ofNat renaming inj → vy
open Lean.Name renaming str → cB, anonymous → AX
open List renaming getElem?_eq_getElem → aa, getD_eq_getElem?_getD → af, length_map → ai, getElem?_map → ao, mem_cons → av, range → aw, mem_map → az, mem_cons_self → aB, mem_singleton → aD, size_toArray → aG, getElem?_eq_some_iff → aH, mem_of_getElem? → aI, mem_cons_of_mem → aJ, mem_range → aM, mem_filter → aN, length_eq_zero_iff → aV, map_map → aY, mem_append_right → a8, length_append → a9, length_range → ba, mem_append → bc, getElem_map → bo, any_eq_true → bp, lookup_cons → bw, getElem_mem → bx, map_cons → bA, not_mem_nil → bB, all_eq_true → bC, length_cons → bG, getElem?_eq_none → bK, map_congr_left → bO, ext_getElem → bR, length_singleton → bS, getElem?_range → bU, map_append → bZ, mem_iff_getElem? → cj, nodup_cons → cy, nodup_append → cC, mem_iff_getElem → cD, length_take → cR, pairwise_map → cS, getElem?_append_right → cZ, take_add_one → dk, getElem_inj → dz, length_pos_iff → dI, pairwise_iff_getElem → dU, getElem?_append_left → dW, length_filter_le → dY, take_length → d7, toArray → d8, take_of_length_le → eL, zip_cons_cons → eP, nodup_iff_pairwise_ne → eQ, foldl_cons → eZ, map_id → ff, getElem_range → fO, filter_append → fP, ext_getElem? → gd, nodup_nil → gw, filter_cons → gF, filter_sublist → gO, find?_cons → iq, pairwise_cons → iu, replicate → iJ, map_nil → iK, mem_reverse → i2, mem_append_left → jm, lookup → jo, length → jq, length_nil → jC, append_nil → jD, getElem?_drop → kz, forIn_nil → kA, getElem?_take_of_lt → lS, any_cons → lT, all_cons → lU, nodup_range → l7, mem_flatMap → l8, any_map → nq, forIn_cons → nC, perm_cons_erase → oG, mem_of_mem_take → oH, mem_erase_of_ne → oI, toList_toArray → p9, mem_map_of_mem → qa, filterMap_cons → qb, lookup_append → rA, find?_eq_none → rB, take_sublist → sk, flatMap_cons → sr, append_assoc → sv, all_map → sx, eraseIdx_eq_take_drop_succ → uM, length_drop → uR, cons_append → uS, of_mem_zip → wI, length_eraseIdx_of_lt → yQ, drop_zero → yR, getElem?_eq_none_iff → AJ, pairwise_lt_range → DL, getElem?_set_self → DM, mem_of_mem_drop → Fw, getElem?_set_ne → Fy, map_eq_nil_iff → Jk, flatMap_append → Jl, filter_eq_self → Jm
open List.Pairwise renaming and_mem → k9, nil → nF
open List.Perm renaming refl → eJ, swap → uN
open List.cons renaming injEq → Fz
open Nat renaming le_refl → aA, ne_of_lt → aL, le_trans → aT, zero_le → aX, lt_of_lt_of_le → bj, lt_succ_of_lt → bz, le_add_right → bY, lt_succ_self → cA, lt_of_le_of_lt → da, ne_of_gt → dh, le_succ → dP, lt_irrefl → eN, not_lt_zero → fc, le_succ_of_le → fj, lt_trans → gK, le_of_not_lt → gL, not_lt → iA, le_of_lt → kj, eq_of_testBit_eq → pW, zero_add → uL, le_antisymm → yJ, sub_self → Fl, min_self → Fn, le_of_eq → Fo, and_self → Fp
open Nat.succ renaming inj → lR
open Ne renaming symm → cn
open Option renaming isSome_iff_exists → fb, isNone_iff_eq_none → gC, isSome_some → gR, map_some → jl, getD_none → r9, map_eq_some_iff → AW, isSome_none → Fv
open Option.some renaming inj → bg, injEq → jB
open Prod renaming fst → Fu
open Prod.mk renaming inj → iY
open PyProof.Rows renaming IntsAre → ck, callWith_type1 → cw, listUpdate_at → fI, boot_list → ku, AllBare → nr, callWith_builtin1 → oF, subscriptTail_builtinR → pV, get?_update_seq → pZ, seqEpoch_at → rO, StrsAre → r8, boot_tuple → uK, tupleItemsOf_ → uP, sortedAll_old → uQ, boot_int → vx, sortedAll_at → yD, entry_list_sort → B8, slot_list_sort → Fb, size_push' → Fc, subscriptTail → I0
open PyProof.Rows.F renaming plain_set_update_loop → fT, entry_set_update_loop → lQ
open PySem renaming wpAny_bind → ae, wpAny_pure → aj, mem_of_lookup → bq, SetTable → bI, mainGlobals → bP, starEach → bT, wpAny_setField_rec → bW, wpAny_newObj_type → cg, wpAny_call_entry → cE, wpAny_seqItems → cF, cellsFrom → cJ, wpAny_holding → cN, compareOp → cP, wpAny_truthy_bool → cY, wpAny_callSpecial?_slot → dc, wpAny_field → dg, codeAny_builtin → di, wpAny_askSetting → dD, plainId_quiet → dO, wpAny_setState_of → dS, NameKind → eh, wpAny_pyIter_tuple → eD, Fin → eE, wpAny_letGo → eH, bootBuiltins → eU, wpAny_rule → eX, wpAny_tryCatch → fQ, scanBound → fR, wpAny_mono → gb, sysModules → gc, wpAny_updateSeq → gh, binaryOp → gp, FuncData → gu, strIterType → gP, assignEach → gQ, wpAny_isInstance → hV, pickOrder → hW, codeAny → hZ, wpAny_Call_Name_kw → iN, wpAny_pyIter_list → i9, recursionLimit → ja, foldedSetIterable → jg, Value → jh, wpAny_eqBool_int → jG, seqItems? → jH, wpAny_attempt → jX, sliceBounds → kh, wpAny_passesOwn → k7, wpAny_richCompare_same_room → lF, codeAny_mono → lG, noteFrame → lP, setsByText → lZ, builtinsNs → l6, fits_of_scanBound → nh, atKey_none_of_get → ni, wpAny_newList → ny, tupleKind → oz, relayAll → oA, bindArgs → oB, letOwnedTupleGo → pY, wpAny_setField → rK, wpAny_of_eq → rL, sizeLine_eq → rM, setField → rN, firstArgMember → rP, swapsWith → r6, wpAny_onRaise → uO, Addr → yI, GenState → yK, updateSeq → AG, setFlight → AH, seqIndex_of → AN, richCompare → AO, Str → AV, Within → B9, Shared → Ca, callerA → DH, wpAny_newTuple → E8, wpAny_Name → E9, raiseNew → Fd, isSubtype_type → Ff, isSubtype_stop → Fg, dictSetDefault → Fh, closureFor → Fi, call_meets → Fj, swapsWithSole → IZ, behindInMarks → Ja
open PySem.Around renaming under_plainId → cz
open PySem.AutoSeq1 renaming wpAny_loadPart' → kD
open PySem.Builtin renaming bitAnd → iB, bitXor → jK
open PySem.Builtin.Builtins renaming bindParams → fq
open PySem.Builtin.List renaming listTooLong → jE, listTouch → kC, listLengthHint → qL, listExtendWith → qM
open PySem.Builtin.Range renaming rangeSize → sC
open PySem.Builtin.SmallTypes renaming nextOf → cG, ownedTupleIsFree → d5, ownedTupleHandOut → kB
open PySem.Builtin.Str renaming occurrences → gH, strSliceIndices → rC
open PySem.Builtin.Tuple renaming tupleCompareSizes → eR
open PySem.Calls renaming call_function_entry → lg, spliced_cons → qK, Name_function_global → yO
open PySem.EntryCells renaming newEntry → AM
open PySem.F renaming plain_min_loop → fK, plain_max_loop → fL, slot_tuple_iterator_next → gM, slot_zip_next → oJ, slot_tuple_lt → oK, slot_dict_setdefault → uJ, entry_min_loop → yL, entry_max_loop → yM, args_tuple_iterator_next_1 → AL, entry_tuple_iterator_next → AY
open PySem.Heap renaming get?_push_of_some → ag, get?_push_size → aq, lt_size → au, get?_update_other → aR, size_push → bF, get?_update_self → cm, SameBut → dq, IsTuple → sA, size_update → uT, get?_none_of_le → FA
open PySem.Heap.SameBut renaming update → bJ
open PySem.IsL renaming update → Fk
open PySem.Moved renaming trans → oE
open PySem.NameKind renaming free → cf, cell → cV
open PySem.Obj renaming mapSeq → aZ, mapFields → ip, data_mapFields → iz, isFreed_of_fields → oD, data_mapDictKeys → Jj
open PySem.Paired renaming length → lh
open PySem.PassesOwn renaming leaving → DK
open PySem.PyData renaming keyHash → ay
open PySem.SeqAt renaming notIn_listAt → Jd, EqAt → Je
open PySem.SeqAt.EqAt renaming str_int → AQ, int_str → AR
open PySem.SetTable renaming below → cO, grown → fk, insertAt → p8, has → yP, orStandIn → DI, relaid → Jc
open PySem.SetTable.below renaming go → yH
open PySem.SetTable.probe renaming go → nj
open PySem.Shared renaming heap → uH
open PySem.Str renaming ofString → cT
open PySem.Value renaming none → bL, ref → cK, str → fF, int → fS, type → ki, bool → yG
open PySem.W renaming Frag → ah, fnOf → aK, keepIn → cU, kia_one → dm, kas_sort → dE, nsIn → eI, mg_of → eY, codeIn → fo, kitOne → iy, kas_descPart → je, kmHook → jI, findIn → jJ, kas_sort → lH, methodObj → qJ, instObj → uI, lookIn → vv, kas_rev → yF, cellsFrom_some → AI, kas_ask → DG, codeHd_of_K → DJ, kat_cons → Fe, kitx_list → Fq, kitx_dict → Ft, plainGet → Jf, openEnds → Jg, km_in_of → Jh, codeHdIn → Ji
open PySem.W.Hook renaming val → AS, obs → AU
open PySem.W.KasT renaming ret → sy
open PySem.Walks renaming list → Jb
open PySem.pickOrder renaming go → yE
open Sum renaming inl → dX, inr → fh
set_option Elab.async false
set_option linter.all false
set_option maxRecDepth 100000
set_option maxHeartbeats 0
variable {es es' es1:Array (Int×jh)}{osl s0 s2 s3 sl:Array (Option jh)}{acc items:Array jh}{led:Bool}{ps rows rows2:List (List Int)}{ts:List (Nat×Int)}{pins pins':List (yI×PySem.Obj)}{ms ns o qs r v:List Int}{ch fp tabs:List yI}{N ks loose:List AV}{args ds its its' kv out us vs ws:List jh}{ep i j k m n p q t':Nat}{nf nf2:Nat->AV}{d func o0 o1 o2 o3 od:Option yI}{C I L S T a ab ar b be c c' dx f fa it kS kd l pl:yI}{A:PySem.Around}{e iter tg:PySem.Expr}{Qf:eE->Ca->Prop}{base h h' h0 h1:PySem.Heap}{p' pos pos' pp:PySem.Pos}{P prog:PySem.Program}{sc sc' scope:PySem.Scope}{s s':Ca}{lx qual x z:AV}{mA mb mg:AV->Option jh}{cdv ct ctv dV doc oc pm u v0 v1:jh}{E QQ Q₁:jh->Ca->Prop}{K:ah}{w:PySem.World}
namespace L2
open PySem
noncomputable def bD(s:Stmt):Arguments:=match s with
 |.FunctionDef _ a _ _ _ _ _ _ _ _=>a
 |_=>{posonlyargs:=[],args:=[],vararg:=none,kwonlyargs:=[],kw_defaults:=[],kwarg:=none,defaults:=[]}
noncomputable def bf(s:Stmt):List Stmt:=match s with
 |.FunctionDef _ _ b _ _ _ _ _ _ _=>b
 |_=>[]
noncomputable def aP(s:Stmt):Scope:=match s with
 |.FunctionDef _ _ _ _ _ _ sc _ _ _=>sc
 |_=>{kind:=.function,names:=[],isGenerator:=false,isCoroutine:=false}
end L2
namespace K74
open PySem PySem.Spec PySem.Calls PyProof.Rows
noncomputable def top(i:Nat):Stmt:=PySem.Challenge.pw_copykin_k74_whole_known_stays.main.body.getD i (.Pass ⟨0,0,0,0⟩)
noncomputable def vw:Program:=
 {PySem.Challenge.pw_copykin_k74_whole_known_stays with main:={PySem.Challenge.pw_copykin_k74_whole_known_stays.main with body:=[top 1,top 2,top 3,top 4,top 5,top 7,top 8,top 9,top 10,top 11,top 12,top 13,top 14,top 15,top 16,top 17,top 18,top 19,top 21,top 22,top 23,top 24,top 26,top 27,top 28,top 29,top 31,top 32,top 33,top 34,top 35,top 36,top 37,top 38,top 39,top 41,top 42,top 43,top 45,top 46,top 47,top 48,top 49,top 50,top 51,top 52,top 53]}}
noncomputable def loo:List Str:=[]
noncomputable def xt(s:Shared):Bool:=PySem.W.xlAt vw [] s&&PySem.W.recOk [] s
noncomputable def lhsA(w:World):=(Jg treeTable PySem.Challenge.pw_copykin_k74_whole_known_stays w 4716).map
 (PySem.W.openSeen vw loo (importedModules PySem.Challenge.pw_copykin_k74_whole_known_stays.main.body) xt true)
noncomputable def rhsA(_:World):=some (PySem.W.openGood vw loo)
noncomputable def seen{α:Type}(_:α):Bool:=true
theorem laidA:(seen lhsA&&seen rhsA)=true:=by k_qdec
theorem leftA(w:World):lhsA w=rhsA w:=by
 have _:=laidA;rw[PySem.W.Fast.te15968762718498189261,PySem.W.Fast.te12053685046303529257]
 kernel_rfl
theorem both{α β γ:Type}{o:Option α}{f:α->β}{g:α->γ}{a:β}{b:γ}(h:o.map f=some a)(k:o.map g=some b):(o.map fun s=>(f s,g s))=some (a,b):=by
 cases o with
 |none=>cases h
 |some x=>
  injection h with h;injection k with k;rw[<-h,<-k];rfl
end K74
namespace K74
open PySem PySem.Spec PySem.Calls PyProof.Rows L2
noncomputable def z8(P:PySem.Params):ah:=
 (nat_lit 2,⟨.none,none,(.dict #[] 0),#[]⟩)::
 (nat_lit 3,⟨.type "dict",none,(.dict #[⟨ay P "__name__",.str "__name__" 165,.str "law_copykin_k74_whole_known_stays" 529⟩,⟨ay P "__doc__",.str "__doc__" 166,.none⟩,⟨ay P "__package__",.str "__package__" 167,.none⟩,⟨ay P "__loader__",.str "__loader__" 168,.builtin "__main__.__loader__#opaque"⟩,⟨ay P "__spec__",.str "__spec__" 169,.none⟩,⟨ay P "__annotations__",.str "__annotations__" 170,.ref 6⟩,⟨ay P "__builtins__",.str "__builtins__" 171,.ref 4⟩,⟨ay P "__file__",.str "__file__" 173,.str "/claim/cut.py" 172⟩,⟨ay P "__cached__",.str "__cached__" 174,.none⟩,⟨ay P "KinError",.str "KinError" 206,.ref 24⟩,⟨ay P "Clash",.str "Clash" 235,.ref 44⟩,⟨ay P "Torn",.str "Torn" 262,.ref 63⟩,⟨ay P "NoTable",.str "NoTable" 278,.ref 75⟩,⟨ay P "NoTelling",.str "NoTelling" 294,.ref 87⟩,⟨ay P "LETTERS",.str "LETTERS" 298,.str "abcdefghijklmnopqrstuvwxyz" 297⟩,⟨ay P "LONGEST_NAME",.str "LONGEST_NAME" 300,.int 8 299⟩,⟨ay P "MOST_PLACES",.str "MOST_PLACES" 302,.int 60 301⟩,⟨ay P "MOST_COPIES",.str "MOST_COPIES" 304,.int 40 303⟩,⟨ay P "is_whole",.str "is_whole" 311,.ref 96⟩,⟨ay P "is_name",.str "is_name" 317,.ref 101⟩,⟨ay P "is_reading",.str "is_reading" 324,.ref 108⟩,⟨ay P "are_readings",.str "are_readings" 330,.ref 113⟩,⟨ay P "is_copy",.str "is_copy" 337,.ref 120⟩,⟨ay P "is_table",.str "is_table" 343,.ref 125⟩,⟨ay P "need_table",.str "need_table" 350,.ref 132⟩,⟨ay P "table_list",.str "table_list" 356,.ref 137⟩,⟨ay P "place_count",.str "place_count" 363,.ref 144⟩,⟨ay P "KINDS",.str "KINDS" 374,.ref 149⟩,⟨ay P "first_of_kinds",.str "first_of_kinds" 380,.ref 154⟩,⟨ay P "clash",.str "clash" 392,.ref 161⟩,⟨ay P "refuse_clash",.str "refuse_clash" 400,.ref 168⟩,⟨ay P "group_at",.str "group_at" 414,.ref 175⟩,⟨ay P "turned",.str "turned" 420,.ref 180⟩,⟨ay P "grown",.str "grown" 426,.ref 185⟩,⟨ay P "tree",.str "tree" 434,.ref 192⟩,⟨ay P "is_telling",.str "is_telling" 444,.ref 199⟩,⟨ay P "are_tellings",.str "are_tellings" 450,.ref 204⟩,⟨ay P "need_tellings",.str "need_tellings" 459,.ref 211⟩,⟨ay P "that_read",.str "that_read" 465,.ref 216⟩,⟨ay P "refuse_torn",.str "refuse_torn" 476,.ref 223⟩,⟨ay P "told_nodes",.str "told_nodes" 485,.ref 230⟩,⟨ay P "stands",.str "stands" 493,.ref 237⟩,⟨ay P "unknown_places",.str "unknown_places" 499,.ref 242⟩,⟨ay P "first_read",.str "first_read" 505,.ref 247⟩,⟨ay P "is_behind",.str "is_behind" 513,.ref 252⟩,⟨ay P "comes",.str "comes" 522,.ref 259⟩,⟨ay P "set_aside",.str "set_aside" 528,.ref 264⟩,⟨ay P "_law_cell_at",.str "_law_cell_at" 538,.ref 271⟩,⟨ay P "_law_whole",.str "_law_whole" 545,.ref 278⟩,⟨ay P "_law_draw",.str "_law_draw" 555,.ref 285⟩,⟨ay P "_law_names",.str "_law_names" 570,.ref 292⟩,⟨ay P "_law_otherwise",.str "_law_otherwise" 576,.ref 297⟩,⟨ay P "_law_grown",.str "_law_grown" 582,.ref 302⟩,⟨ay P "_law_held",.str "_law_held" 593,.ref 309⟩,⟨ay P "_law_tellings",.str "_law_tellings" 599,.ref 314⟩,⟨ay P "law",.str "law" 605,.ref 319⟩] 56),#[]⟩)::
 (nat_lit 95,⟨.type "code",none,(.fields #[.str "is_whole" 305,.str "is_whole" 306,.str "/claim/cut.py" 307,.int 26 0,.int 1 0,.int 0 0,.int 0 0,.int 3 0,.ref 90,.bool true,.int 181 0,.ref 91,.none,.ref 92,.ref 93,.ref 94,.int 309 0,.int 26 0,.str "/claim/cut.py" 310]),#[]⟩)::
 (nat_lit 96,⟨.type "function",none,(.func (aK "is_whole" "is_whole" (bD (top 11)) (bf (top 11)) (aP (top 11)) .none .none .none (.str "copykin.tables" 295) none (.ref 95) .none)),#[]⟩)::
 (nat_lit 100,⟨.type "code",none,(.fields #[.str "is_name" 312,.str "is_name" 313,.str "/claim/cut.py" 314,.int 28 0,.int 1 0,.int 0 0,.int 0 0,.int 3 0,.ref 97,.bool true,.int 181 0,.ref 98,.none,.none,.none,.ref 99,.int 315 0,.int 28 0,.str "/claim/cut.py" 316]),#[]⟩)::
 (nat_lit 101,⟨.type "function",none,(.func (aK "is_name" "is_name" (bD (top 12)) (bf (top 12)) (aP (top 12)) .none .none .none (.str "copykin.tables" 295) none (.ref 100) .none)),#[]⟩)::
 (nat_lit 107,⟨.type "code",none,(.fields #[.str "is_reading" 318,.str "is_reading" 319,.str "/claim/cut.py" 320,.int 34 0,.int 1 0,.int 0 0,.int 0 0,.int 3 0,.ref 102,.bool true,.int 181 0,.ref 103,.none,.ref 104,.ref 105,.ref 106,.int 322 0,.int 34 0,.str "/claim/cut.py" 323]),#[]⟩)::
 (nat_lit 108,⟨.type "function",none,(.func (aK "is_reading" "is_reading" (bD (top 13)) (bf (top 13)) (aP (top 13)) .none .none .none (.str "copykin.tables" 295) none (.ref 107) .none)),#[]⟩)::
 (nat_lit 112,⟨.type "code",none,(.fields #[.str "are_readings" 325,.str "are_readings" 326,.str "/claim/cut.py" 327,.int 36 0,.int 1 0,.int 0 0,.int 0 0,.int 3 0,.ref 109,.bool true,.int 181 0,.ref 110,.none,.none,.none,.ref 111,.int 328 0,.int 36 0,.str "/claim/cut.py" 329]),#[]⟩)::
 (nat_lit 113,⟨.type "function",none,(.func (aK "are_readings" "are_readings" (bD (top 14)) (bf (top 14)) (aP (top 14)) .none .none .none (.str "copykin.tables" 295) none (.ref 112) .none)),#[]⟩)::
 (nat_lit 119,⟨.type "code",none,(.fields #[.str "is_copy" 331,.str "is_copy" 332,.str "/claim/cut.py" 333,.int 40 0,.int 1 0,.int 0 0,.int 0 0,.int 3 0,.ref 114,.bool true,.int 181 0,.ref 115,.none,.ref 116,.ref 117,.ref 118,.int 335 0,.int 40 0,.str "/claim/cut.py" 336]),#[]⟩)::
 (nat_lit 120,⟨.type "function",none,(.func (aK "is_copy" "is_copy" (bD (top 15)) (bf (top 15)) (aP (top 15)) .none .none .none (.str "copykin.tables" 295) none (.ref 119) .none)),#[]⟩)::
 (nat_lit 124,⟨.type "code",none,(.fields #[.str "is_table" 338,.str "is_table" 339,.str "/claim/cut.py" 340,.int 44 0,.int 1 0,.int 0 0,.int 0 0,.int 3 0,.ref 121,.bool true,.int 181 0,.ref 122,.none,.none,.none,.ref 123,.int 341 0,.int 44 0,.str "/claim/cut.py" 342]),#[]⟩)::
 (nat_lit 125,⟨.type "function",none,(.func (aK "is_table" "is_table" (bD (top 16)) (bf (top 16)) (aP (top 16)) .none .none .none (.str "copykin.tables" 295) none (.ref 124) .none)),#[]⟩)::
 (nat_lit 131,⟨.type "code",none,(.fields #[.str "need_table" 344,.str "need_table" 345,.str "/claim/cut.py" 346,.int 52 0,.int 1 0,.int 0 0,.int 0 0,.int 3 0,.ref 126,.bool true,.int 181 0,.ref 127,.none,.ref 128,.ref 129,.ref 130,.int 348 0,.int 52 0,.str "/claim/cut.py" 349]),#[]⟩)::
 (nat_lit 132,⟨.type "function",none,(.func (aK "need_table" "need_table" (bD (top 17)) (bf (top 17)) (aP (top 17)) .none .none .none (.str "copykin.tables" 295) none (.ref 131) .none)),#[]⟩)::
 (nat_lit 136,⟨.type "code",none,(.fields #[.str "table_list" 351,.str "table_list" 352,.str "/claim/cut.py" 353,.int 55 0,.int 1 0,.int 0 0,.int 0 0,.int 3 0,.ref 133,.bool true,.int 181 0,.ref 134,.none,.none,.none,.ref 135,.int 354 0,.int 55 0,.str "/claim/cut.py" 355]),#[]⟩)::
 (nat_lit 137,⟨.type "function",none,(.func (aK "table_list" "table_list" (bD (top 18)) (bf (top 18)) (aP (top 18)) .none .none .none (.str "copykin.tables" 295) none (.ref 136) .none)),#[]⟩)::
 (nat_lit 143,⟨.type "code",none,(.fields #[.str "place_count" 357,.str "place_count" 358,.str "/claim/cut.py" 359,.int 59 0,.int 1 0,.int 0 0,.int 0 0,.int 3 0,.ref 138,.bool true,.int 181 0,.ref 139,.none,.ref 140,.ref 141,.ref 142,.int 361 0,.int 59 0,.str "/claim/cut.py" 362]),#[]⟩)::
 (nat_lit 144,⟨.type "function",none,(.func (aK "place_count" "place_count" (bD (top 19)) (bf (top 19)) (aP (top 19)) .none .none .none (.str "copykin.tables" 295) none (.ref 143) .none)),#[]⟩)::
 (nat_lit 145,⟨.type "tuple",none,(.seq #[.int 0 366,.int 0 367] 0),#[]⟩)::
 (nat_lit 146,⟨.type "tuple",none,(.seq #[.int 0 368,.int 1 369] 0),#[]⟩)::
 (nat_lit 147,⟨.type "tuple",none,(.seq #[.int 1 370,.int 0 371] 0),#[]⟩)::
 (nat_lit 148,⟨.type "tuple",none,(.seq #[.int 1 372,.int 1 373] 0),#[]⟩)::
 (nat_lit 149,⟨.type "tuple",none,(.seq #[.ref 145,.ref 146,.ref 147,.ref 148] 0),#[]⟩)::
 (nat_lit 153,⟨.type "code",none,(.fields #[.str "first_of_kinds" 375,.str "first_of_kinds" 376,.str "/claim/cut.py" 377,.int 66 0,.int 3 0,.int 0 0,.int 0 0,.int 3 0,.ref 150,.bool true,.int 181 0,.ref 151,.none,.none,.none,.ref 152,.int 378 0,.int 66 0,.str "/claim/cut.py" 379]),#[]⟩)::
 (nat_lit 154,⟨.type "function",none,(.func (aK "first_of_kinds" "first_of_kinds" (bD (top 22)) (bf (top 22)) (aP (top 22)) .none .none .none (.str "copykin.clashes" 364) none (.ref 153) .none)),#[]⟩)::
 (nat_lit 160,⟨.type "code",none,(.fields #[.str "clash" 381,.str "clash" 382,.str "/claim/cut.py" 383,.int 73 0,.int 1 0,.int 0 0,.int 0 0,.int 3 0,.ref 155,.bool true,.int 181 0,.ref 156,.none,.ref 157,.ref 158,.ref 159,.int 390 0,.int 73 0,.str "/claim/cut.py" 391]),#[]⟩)::
 (nat_lit 161,⟨.type "function",none,(.func (aK "clash" "clash" (bD (top 23)) (bf (top 23)) (aP (top 23)) .none .none .none (.str "copykin.clashes" 364) none (.ref 160) .none)),#[]⟩)::
 (nat_lit 167,⟨.type "code",none,(.fields #[.str "refuse_clash" 393,.str "refuse_clash" 394,.str "/claim/cut.py" 395,.int 82 0,.int 1 0,.int 0 0,.int 0 0,.int 3 0,.ref 162,.bool true,.int 181 0,.ref 163,.none,.ref 164,.ref 165,.ref 166,.int 398 0,.int 82 0,.str "/claim/cut.py" 399]),#[]⟩)::
 (nat_lit 168,⟨.type "function",none,(.func (aK "refuse_clash" "refuse_clash" (bD (top 24)) (bf (top 24)) (aP (top 24)) .none .none .none (.str "copykin.clashes" 364) none (.ref 167) .none)),#[]⟩)::
 (nat_lit 174,⟨.type "code",none,(.fields #[.str "group_at" 403,.str "group_at" 404,.str "/claim/cut.py" 405,.int 87 0,.int 2 0,.int 0 0,.int 0 0,.int 3 0,.ref 169,.bool true,.int 181 0,.ref 170,.none,.ref 171,.ref 172,.ref 173,.int 412 0,.int 87 0,.str "/claim/cut.py" 413]),#[]⟩)::
 (nat_lit 175,⟨.type "function",none,(.func (aK "group_at" "group_at" (bD (top 26)) (bf (top 26)) (aP (top 26)) .none .none .none (.str "copykin.trees" 401) none (.ref 174) .none)),#[]⟩)::
 (nat_lit 179,⟨.type "code",none,(.fields #[.str "turned" 415,.str "turned" 416,.str "/claim/cut.py" 417,.int 93 0,.int 2 0,.int 0 0,.int 0 0,.int 3 0,.ref 176,.bool true,.int 181 0,.ref 177,.none,.none,.none,.ref 178,.int 418 0,.int 93 0,.str "/claim/cut.py" 419]),#[]⟩)::
 (nat_lit 180,⟨.type "function",none,(.func (aK "turned" "turned" (bD (top 27)) (bf (top 27)) (aP (top 27)) .none .none .none (.str "copykin.trees" 401) none (.ref 179) .none)),#[]⟩)::
 (nat_lit 184,⟨.type "code",none,(.fields #[.str "grown" 421,.str "grown" 422,.str "/claim/cut.py" 423,.int 95 0,.int 1 0,.int 0 0,.int 0 0,.int 3 0,.ref 181,.bool true,.int 181 0,.ref 182,.none,.none,.none,.ref 183,.int 424 0,.int 95 0,.str "/claim/cut.py" 425]),#[]⟩)::
 (nat_lit 185,⟨.type "function",none,(.func (aK "grown" "grown" (bD (top 28)) (bf (top 28)) (aP (top 28)) .none .none .none (.str "copykin.trees" 401) none (.ref 184) .none)),#[]⟩)::
 (nat_lit 191,⟨.type "code",none,(.fields #[.str "tree" 427,.str "tree" 428,.str "/claim/cut.py" 429,.int 110 0,.int 1 0,.int 0 0,.int 0 0,.int 3 0,.ref 186,.bool true,.int 181 0,.ref 187,.none,.ref 188,.ref 189,.ref 190,.int 432 0,.int 110 0,.str "/claim/cut.py" 433]),#[]⟩)::
 (nat_lit 192,⟨.type "function",none,(.func (aK "tree" "tree" (bD (top 29)) (bf (top 29)) (aP (top 29)) .none .none .none (.str "copykin.trees" 401) none (.ref 191) .none)),#[]⟩)::
 (nat_lit 198,⟨.type "code",none,(.fields #[.str "is_telling" 437,.str "is_telling" 438,.str "/claim/cut.py" 439,.int 117 0,.int 2 0,.int 0 0,.int 0 0,.int 3 0,.ref 193,.bool true,.int 181 0,.ref 194,.none,.ref 195,.ref 196,.ref 197,.int 442 0,.int 117 0,.str "/claim/cut.py" 443]),#[]⟩)::
 (nat_lit 199,⟨.type "function",none,(.func (aK "is_telling" "is_telling" (bD (top 31)) (bf (top 31)) (aP (top 31)) .none .none .none (.str "copykin.standing" 435) none (.ref 198) .none)),#[]⟩)::
 (nat_lit 203,⟨.type "code",none,(.fields #[.str "are_tellings" 445,.str "are_tellings" 446,.str "/claim/cut.py" 447,.int 123 0,.int 2 0,.int 0 0,.int 0 0,.int 3 0,.ref 200,.bool true,.int 181 0,.ref 201,.none,.none,.none,.ref 202,.int 448 0,.int 123 0,.str "/claim/cut.py" 449]),#[]⟩)::
 (nat_lit 204,⟨.type "function",none,(.func (aK "are_tellings" "are_tellings" (bD (top 32)) (bf (top 32)) (aP (top 32)) .none .none .none (.str "copykin.standing" 435) none (.ref 203) .none)),#[]⟩)::
 (nat_lit 210,⟨.type "code",none,(.fields #[.str "need_tellings" 451,.str "need_tellings" 452,.str "/claim/cut.py" 453,.int 129 0,.int 2 0,.int 0 0,.int 0 0,.int 3 0,.ref 205,.bool true,.int 181 0,.ref 206,.none,.ref 207,.ref 208,.ref 209,.int 457 0,.int 129 0,.str "/claim/cut.py" 458]),#[]⟩)::
 (nat_lit 211,⟨.type "function",none,(.func (aK "need_tellings" "need_tellings" (bD (top 33)) (bf (top 33)) (aP (top 33)) .none .none .none (.str "copykin.standing" 435) none (.ref 210) .none)),#[]⟩)::
 (nat_lit 215,⟨.type "code",none,(.fields #[.str "that_read" 460,.str "that_read" 461,.str "/claim/cut.py" 462,.int 135 0,.int 2 0,.int 0 0,.int 0 0,.int 3 0,.ref 212,.bool true,.int 181 0,.ref 213,.none,.none,.none,.ref 214,.int 463 0,.int 135 0,.str "/claim/cut.py" 464]),#[]⟩)::
 (nat_lit 216,⟨.type "function",none,(.func (aK "that_read" "that_read" (bD (top 34)) (bf (top 34)) (aP (top 34)) .none .none .none (.str "copykin.standing" 435) none (.ref 215) .none)),#[]⟩)::
 (nat_lit 229,⟨.type "code",none,(.fields #[.str "told_nodes" 477,.str "told_nodes" 478,.str "/claim/cut.py" 479,.int 142 0,.int 2 0,.int 0 0,.int 0 0,.int 3 0,.ref 224,.bool true,.int 181 0,.ref 225,.none,.ref 226,.ref 227,.ref 228,.int 483 0,.int 142 0,.str "/claim/cut.py" 484]),#[]⟩)::
 (nat_lit 230,⟨.type "function",none,(.func (aK "told_nodes" "told_nodes" (bD (top 36)) (bf (top 36)) (aP (top 36)) .none .none .none (.str "copykin.standing" 435) none (.ref 229) .none)),#[]⟩)::
 (nat_lit 236,⟨.type "code",none,(.fields #[.str "stands" 486,.str "stands" 487,.str "/claim/cut.py" 488,.int 147 0,.int 2 0,.int 0 0,.int 0 0,.int 3 0,.ref 231,.bool true,.int 181 0,.ref 232,.none,.ref 233,.ref 234,.ref 235,.int 491 0,.int 147 0,.str "/claim/cut.py" 492]),#[]⟩)::
 (nat_lit 237,⟨.type "function",none,(.func (aK "stands" "stands" (bD (top 37)) (bf (top 37)) (aP (top 37)) .none .none .none (.str "copykin.standing" 435) none (.ref 236) .none)),#[]⟩)::
 (nat_lit 241,⟨.type "code",none,(.fields #[.str "unknown_places" 494,.str "unknown_places" 495,.str "/claim/cut.py" 496,.int 150 0,.int 3 0,.int 0 0,.int 0 0,.int 3 0,.ref 238,.bool true,.int 181 0,.ref 239,.none,.none,.none,.ref 240,.int 497 0,.int 150 0,.str "/claim/cut.py" 498]),#[]⟩)::
 (nat_lit 242,⟨.type "function",none,(.func (aK "unknown_places" "unknown_places" (bD (top 38)) (bf (top 38)) (aP (top 38)) .none .none .none (.str "copykin.standing" 435) none (.ref 241) .none)),#[]⟩)::
 (nat_lit 246,⟨.type "code",none,(.fields #[.str "first_read" 500,.str "first_read" 501,.str "/claim/cut.py" 502,.int 157 0,.int 2 0,.int 0 0,.int 0 0,.int 3 0,.ref 243,.bool true,.int 181 0,.ref 244,.none,.none,.none,.ref 245,.int 503 0,.int 157 0,.str "/claim/cut.py" 504]),#[]⟩)::
 (nat_lit 247,⟨.type "function",none,(.func (aK "first_read" "first_read" (bD (top 39)) (bf (top 39)) (aP (top 39)) .none .none .none (.str "copykin.standing" 435) none (.ref 246) .none)),#[]⟩)::
 (nat_lit 251,⟨.type "code",none,(.fields #[.str "is_behind" 508,.str "is_behind" 509,.str "/claim/cut.py" 510,.int 164 0,.int 3 0,.int 0 0,.int 0 0,.int 3 0,.ref 248,.bool true,.int 181 0,.ref 249,.none,.none,.none,.ref 250,.int 511 0,.int 164 0,.str "/claim/cut.py" 512]),#[]⟩)::
 (nat_lit 252,⟨.type "function",none,(.func (aK "is_behind" "is_behind" (bD (top 41)) (bf (top 41)) (aP (top 41)) .none .none .none (.str "copykin.aside" 506) none (.ref 251) .none)),#[]⟩)::
 (nat_lit 258,⟨.type "code",none,(.fields #[.str "comes" 514,.str "comes" 515,.str "/claim/cut.py" 516,.int 166 0,.int 3 0,.int 0 0,.int 0 0,.int 3 0,.ref 253,.bool true,.int 181 0,.ref 254,.none,.ref 255,.ref 256,.ref 257,.int 520 0,.int 166 0,.str "/claim/cut.py" 521]),#[]⟩)::
 (nat_lit 259,⟨.type "function",none,(.func (aK "comes" "comes" (bD (top 42)) (bf (top 42)) (aP (top 42)) .none .none .none (.str "copykin.aside" 506) none (.ref 258) .none)),#[]⟩)::
 (nat_lit 263,⟨.type "code",none,(.fields #[.str "set_aside" 523,.str "set_aside" 524,.str "/claim/cut.py" 525,.int 170 0,.int 2 0,.int 0 0,.int 0 0,.int 3 0,.ref 260,.bool true,.int 181 0,.ref 261,.none,.none,.none,.ref 262,.int 526 0,.int 170 0,.str "/claim/cut.py" 527]),#[]⟩)::
 (nat_lit 264,⟨.type "function",none,(.func (aK "set_aside" "set_aside" (bD (top 43)) (bf (top 43)) (aP (top 43)) .none .none .none (.str "copykin.aside" 506) none (.ref 263) .none)),#[]⟩)::
 (nat_lit 270,⟨.type "code",none,(.fields #[.str "_law_cell_at" 531,.str "_law_cell_at" 532,.str "/claim/cut.py" 533,.int 175 0,.int 2 0,.int 0 0,.int 0 0,.int 3 0,.ref 265,.bool true,.int 181 0,.ref 266,.none,.ref 267,.ref 268,.ref 269,.int 536 0,.int 175 0,.str "/claim/cut.py" 537]),#[]⟩)::
 (nat_lit 271,⟨.type "function",none,(.func (aK "_law_cell_at" "_law_cell_at" (bD (top 45)) (bf (top 45)) (aP (top 45)) .none .none .none (.str "law_copykin_k74_whole_known_stays" 529) none (.ref 270) .none)),#[]⟩)::
 (nat_lit 284,⟨.type "code",none,(.fields #[.str "_law_draw" 546,.str "_law_draw" 547,.str "/claim/cut.py" 548,.int 181 0,.int 2 0,.int 0 0,.int 0 0,.int 3 0,.ref 279,.bool true,.int 181 0,.ref 280,.none,.ref 281,.ref 282,.ref 283,.int 553 0,.int 181 0,.str "/claim/cut.py" 554]),#[]⟩)::
 (nat_lit 285,⟨.type "function",none,(.func (aK "_law_draw" "_law_draw" (bD (top 47)) (bf (top 47)) (aP (top 47)) .none .none .none (.str "law_copykin_k74_whole_known_stays" 529) none (.ref 284) .none)),#[]⟩)::
 (nat_lit 291,⟨.type "code",none,(.fields #[.str "_law_names" 556,.str "_law_names" 557,.str "/claim/cut.py" 558,.int 187 0,.int 2 0,.int 0 0,.int 0 0,.int 3 0,.ref 286,.bool true,.int 181 0,.ref 287,.none,.ref 288,.ref 289,.ref 290,.int 568 0,.int 187 0,.str "/claim/cut.py" 569]),#[]⟩)::
 (nat_lit 292,⟨.type "function",none,(.func (aK "_law_names" "_law_names" (bD (top 48)) (bf (top 48)) (aP (top 48)) .none .none .none (.str "law_copykin_k74_whole_known_stays" 529) none (.ref 291) .none)),#[]⟩)::
 (nat_lit 296,⟨.type "code",none,(.fields #[.str "_law_otherwise" 571,.str "_law_otherwise" 572,.str "/claim/cut.py" 573,.int 198 0,.int 2 0,.int 0 0,.int 0 0,.int 3 0,.ref 293,.bool true,.int 181 0,.ref 294,.none,.none,.none,.ref 295,.int 574 0,.int 198 0,.str "/claim/cut.py" 575]),#[]⟩)::
 (nat_lit 297,⟨.type "function",none,(.func (aK "_law_otherwise" "_law_otherwise" (bD (top 49)) (bf (top 49)) (aP (top 49)) .none .none .none (.str "law_copykin_k74_whole_known_stays" 529) none (.ref 296) .none)),#[]⟩)::
 (nat_lit 301,⟨.type "code",none,(.fields #[.str "_law_grown" 577,.str "_law_grown" 578,.str "/claim/cut.py" 579,.int 200 0,.int 2 0,.int 0 0,.int 0 0,.int 3 0,.ref 298,.bool true,.int 181 0,.ref 299,.none,.none,.none,.ref 300,.int 580 0,.int 200 0,.str "/claim/cut.py" 581]),#[]⟩)::
 (nat_lit 302,⟨.type "function",none,(.func (aK "_law_grown" "_law_grown" (bD (top 50)) (bf (top 50)) (aP (top 50)) .none .none .none (.str "law_copykin_k74_whole_known_stays" 529) none (.ref 301) .none)),#[]⟩)::
 (nat_lit 308,⟨.type "code",none,(.fields #[.str "_law_held" 583,.str "_law_held" 584,.str "/claim/cut.py" 585,.int 218 0,.int 2 0,.int 0 0,.int 0 0,.int 3 0,.ref 303,.bool true,.int 181 0,.ref 304,.none,.ref 305,.ref 306,.ref 307,.int 591 0,.int 218 0,.str "/claim/cut.py" 592]),#[]⟩)::
 (nat_lit 309,⟨.type "function",none,(.func (aK "_law_held" "_law_held" (bD (top 51)) (bf (top 51)) (aP (top 51)) .none .none .none (.str "law_copykin_k74_whole_known_stays" 529) none (.ref 308) .none)),#[]⟩)::
 (nat_lit 313,⟨.type "code",none,(.fields #[.str "_law_tellings" 594,.str "_law_tellings" 595,.str "/claim/cut.py" 596,.int 227 0,.int 3 0,.int 0 0,.int 0 0,.int 3 0,.ref 310,.bool true,.int 181 0,.ref 311,.none,.none,.none,.ref 312,.int 597 0,.int 227 0,.str "/claim/cut.py" 598]),#[]⟩)::
 (nat_lit 314,⟨.type "function",none,(.func (aK "_law_tellings" "_law_tellings" (bD (top 52)) (bf (top 52)) (aP (top 52)) .none .none .none (.str "law_copykin_k74_whole_known_stays" 529) none (.ref 313) .none)),#[]⟩)::
 (nat_lit 318,⟨.type "code",none,(.fields #[.str "law" 600,.str "law" 601,.str "/claim/cut.py" 602,.int 238 0,.int 1 0,.int 0 0,.int 0 0,.int 3 0,.ref 315,.bool true,.int 181 0,.ref 316,.none,.none,.none,.ref 317,.int 603 0,.int 238 0,.str "/claim/cut.py" 604]),#[]⟩)::
 (nat_lit 319,⟨.type "function",none,(.func (aK "law" "law" (bD (top 53)) (bf (top 53)) (aP (top 53)) .none .none .none (.str "law_copykin_k74_whole_known_stays" 529) none (.ref 318) .none)),#[]⟩)::[]
noncomputable def z9:List Addr:=[2,3,95,96,100,101,107,108,112,113,119,120,124,125,131,132,136,137,143,144,145,146,147,148,149,153,154,160,161,167,168,174,175,179,180,184,185,191,192,198,199,203,204,210,211,215,216,229,230,236,237,241,242,246,247,251,252,258,259,263,264,270,271,284,285,291,292,296,297,301,302,308,309,313,314,318,319]
noncomputable def lhsB(w:World):=(Jg treeTable PySem.Challenge.pw_copykin_k74_whole_known_stays w 4716).map (AU (jI K74.z8 K74.z9 (fun _=>by kernel_rfl) [134]))
noncomputable def rhsB(w:World):=some (AS (jI K74.z8 K74.z9 (fun _=>by kernel_rfl) [134]) w)
theorem laidB:(seen lhsB&&seen rhsB)=true:=by k_qdec
theorem leftB(w:World):lhsB w=rhsB w:=by
 have _:=laidB;rw[PySem.W.Fast.te14346436666299679865,PySem.W.Fast.te12654493156381476691]
 kernel_rfl
end K74
namespace L2
open PySem PySem.Spec PyProof.Rows
noncomputable abbrev Key:=Sum Int Str
noncomputable def tQ:Key->Value->Bool
 |.inl k,v=>Value.isInt k v
 |.inr x,v=>Value.isStrOf x v
noncomputable def keyH(w:World):Key->Int
 |.inl k=>hashInt k
 |.inr x=>hashStr w x
theorem eT:∀{k:Key}{v:Value},tQ k v=true->(∃i t,k=dX i/\v=fS i t)\/(∃x t,k=fh x/\v=fF x t)
 |.inl i,v,h=>by
  obtain⟨t,e⟩:=Value.isInt_shape (k:=i) (v:=v) h;exact .inl ⟨i,t,rfl,e⟩
 |.inr x,v,h=>by
  obtain⟨t,e⟩:=Value.isStrOf_shape (x:=x) (v:=v) h;exact .inr ⟨x,t,rfl,e⟩
theorem EG(i:Int)(t:Tok):tQ (.inl i) (.int i t)=true:=by simp[tQ,Value.isInt]
theorem EF(x:Str)(t:Tok):tQ (.inr x) (.str x t)=true:=by simp[tQ,Value.isStrOf]
theorem key_ll(a b:Int):decide ((dX a:Key)=dX b)=(a==b):=by
 by_cases e:a=b
 ·subst e;simp
 ·have h:¬(dX a:Key)=dX b:=fun q=>e (dX.inj q)
  rw[decide_eq_false h];exact(beq_eq_false_iff_ne.mpr e).symm
theorem key_rr(a b:Str):decide ((fh a:Key)=fh b)=decide (a=b):=by
 by_cases e:a=b
 ·subst e;simp
 ·have h:¬(fh a:Key)=fh b:=fun q=>e (fh.inj q)
  rw[decide_eq_false h,decide_eq_false e]
theorem key_lr(a:Int)(b:Str):decide ((dX a:Key)=fh b)=false:=decide_eq_false (fun q=>nomatch q)
theorem key_rl(a:Str)(b:Int):decide ((fh a:Key)=dX b)=false:=decide_eq_false (fun q=>nomatch q)
noncomputable def cH(prog:Program)(w:World):PySem.KeyKind prog w Key where
 is:=tQ
 hash:=keyH w
 inj:=fun v a b ha hb=>by
  rcases eT ha with⟨i,t,rfl,rfl⟩ |⟨x,t,rfl,rfl⟩
  ·rcases eT hb with⟨j,u,rfl,e⟩ |⟨y,u,rfl,e⟩
   ·injection e with e1 _;rw[e1]
   ·exact nomatch e
  ·rcases eT hb with⟨j,u,rfl,e⟩ |⟨y,u,rfl,e⟩
   ·exact nomatch e
   ·injection e with e1 _;rw[e1]
 byValue:=fun k v h=>by
  rcases eT h with⟨i,t,rfl,rfl⟩ |⟨x,t,rfl,rfl⟩<;>rfl
 pyHash:=fun hv h=>by
  rcases eT hv with⟨i,t,rfl,rfl⟩ |⟨x,t,rfl,rfl⟩
  ·exact wpAny_pyHash_int h
  ·exact wpAny_pyHash_str h
 eqBool:=fun hu hv h=>by
  rcases eT hu with⟨i,t,rfl,rfl⟩ |⟨x,t,rfl,rfl⟩
  ·rcases eT hv with⟨j,u,rfl,rfl⟩ |⟨y,u,rfl,rfl⟩
   ·rw[key_ll]at h;exact jG h
   ·rw[key_lr]at h;exact AR i t y u _ _ _ _ h
  ·rcases eT hv with⟨j,u,rfl,rfl⟩ |⟨y,u,rfl,rfl⟩
   ·rw[key_rl]at h;exact AQ x t j u _ _ _ _ h
   ·rw[key_rr]at h;exact wpAny_eqBool_str h
 «strs»:=fun k x t v h=>by
  rcases eT h with⟨i,u,rfl,e⟩ |⟨y,u,rfl,e⟩
  ·exact nomatch e
  ·injection e with e1 _
   subst e1;cases v<;>rfl
theorem Bz(prog:Program)(w:World)(k:Key)(v:Value):(cH prog w).is k v=tQ k v:=rfl
theorem mq(prog:Program)(w:World)(i:Int)(t:Tok):(cH prog w).is (.inl i) (.int i t)=true:=EG i t
theorem zM(prog:Program)(w:World)(x:Str)(t:Tok):(cH prog w).is (.inr x) (.str x t)=true:=EF x t
inductive V where
 |non|bl (b:Bool) |int (i:Int) |str (x:Str) |byt (b:Array UInt8) |flt (b:UInt64) |ref (a:Addr) |ty (n:String)
 deriving DecidableEq
noncomputable def RelV:V->Value->Prop
 |.non,u=>u=bL
 |.bl b,u=>u=yG b
 |.int i,u=>∃t,u=fS i t
 |.str x,u=>∃t,u=fF x t
 |.byt b,u=>∃t,u=Value.bytes b t
 |.flt b,u=>∃t,u=Value.float b t
 |.ref a,u=>u=cK a
 |.ty n,u=>u=ki n
noncomputable abbrev bX:List V->List Value->Prop:=Paired RelV
theorem bX.length{xs:List V}(r:bX xs us):xs.length=us.length:=lh r
theorem bX.get:∀{xs:List V}{us:List Value}{i:Nat}{x:V},bX xs us->xs[i]? =some x->∃u,us[i]? =some u/\RelV x u
 |_,_,_,_,.nil,e=>by simp at e
 |_,_,0,_,.cons r _,e=>by simp at e;subst e;exact⟨_,rfl,r⟩
 |_,_,i+1,x,.cons _ t,e=>by
  obtain⟨u,h1,h2⟩:=bX.get (i:=i) (x:=x) t (by simpa using e);exact⟨u,by simpa using h1,h2⟩
theorem bX.append:∀{xs ys:List V}{us ws:List Value},bX xs us->bX ys ws->bX (xs++ys) (us++ws)
 |_,_,_,_,.nil,s=>s
 |_,_,_,_,.cons r t,s=>.cons r (bX.append t s)
theorem bX.take:∀{xs:List V}{us:List Value}(n:Nat),bX xs us->bX (xs.take n) (us.take n)
 |_,_,0,_=>.nil
 |_,_,_+1,.nil=>.nil
 |_,_,n+1,.cons r t=>.cons r (bX.take n t)
theorem bX.drop:∀{xs:List V}{us:List Value}(n:Nat),bX xs us->bX (xs.drop n) (us.drop n)
 |_,_,0,r=>r
 |_,_,_+1,.nil=>.nil
 |_,_,n+1,.cons _ t=>bX.drop n t
noncomputable def uG:Option V->Option Value->Prop
 |some v,some u=>RelV v u
 |none,none=>True
 |_,_=>False
noncomputable def KV{κ:Type}:List (κ×V)->List (κ×Value)->Prop:=Paired fun(p:κ×V)(q:κ×Value)=>p.1=q.1/\RelV p.2 q.2
noncomputable def kV:Key->V
 |.inl i=>.int i
 |.inr x=>.str x
inductive HO where
 |lst (xs:List V)
 |tup (xs:List V)
 |dK (kvs:List (Key×V)) |dT (kvs:List (List Key×V))
 |set (S:Int->Bool) (n:Nat)
 |ins (C dx:Addr) (fs:List (Str×V))
 |own (x:Addr)
 |xd (fs:List (Str×V))
 |met (f x:Addr)
 |rng (lo hi:Int)
 |frz (o:Obj) (u:HO)
 |tbl (ps:Array Value)
 |ext (φ:Heap->Prop)
noncomputable abbrev Hp:=Addr->Option HO
noncomputable def upd(H:Hp)(a:Addr)(o:HO):Hp:=fun b=>if b=a then some o else H b
theorem ax{H:Hp}{o:HO}:upd H a o a=some o:=by unfold upd;rw[if_pos rfl]
theorem a7{H:Hp}{o:HO}(h:b≠a):upd H a o b=H b:=by unfold upd;rw[if_neg h]
theorem ne_of{H:Hp}{o u:HO}(h:H a=some o)(h':H b=some u)(d:o≠u):a≠b:=by
 intro e;subst e;rw[h]at h';exact d (bg h')
theorem bH{H:Hp}{o:HO}(h:H a=some o)(h':H b=none):a≠b:=by
 intro e;subst e;rw[h]at h';cases h'
section
variable(P:Program)(w:World)
noncomputable def dN(H:Hp)(h:Heap)(a:Addr):HO->Prop
 |.lst xs=>xs.length<=sizeLine/\∃(its:List Value)(n:Nat),bX xs its/\h.get? a=some {cls:=.type "list",data:=.seq its.toArray n}
 |.tup xs=>xs.length<=sizeLine/\∃its:List Value,bX xs its/\IsTup h a its.toArray
 |.dK kvs=>kvs.length<=sizeLine/\(a==gc)=false/\∃vs,KV kvs vs/\h.DictOf (cH P w) a vs
 |.dT kvs=>kvs.length<=sizeLine/\(a==gc)=false/\∃xs:List (List Key×Addr×Value),
   Paired (fun(p:List Key×V)(q:List Key×Addr×Value)=>p.1=q.1/\H q.2.1=some (.tup (p.1.map kV))/\RelV p.2 q.2.2) kvs xs/\
   ∃o es ep,h.get? a=some o/\o.ExactDict/\o.data=.dict es ep/\es.toList=xs.map (entryOfKey (oz (cH P w)))/\(xs.map (·.1)).Nodup
 |.set S n=>h.SetOf (intKind P w) a S n
 |.ins C dx fs=>H dx=some (.own a)/\fs.length<=1000/\dx≠a/\h.get? a=some (uI C dx)/\
   ∃mA,h.Ns1 dx mA/\(∀f,uG (fs.lookup f) (mA f))/\B9 mA (fs.map (·.1))
 |.own _=>∃o,h.get? a=some o
 |.xd fs=>∃mA,h.Ns1 a mA/\∀f,uG (fs.lookup f) (mA f)
 |.rng lo hi=>∃t u v,h.get? a=some {cls:=.type "range",data:=.fields #[.int lo t,.int hi u,.int 1 v]}
 |.frz o u=>h.get? a=some o/\dN H h a u
 |.tbl ps=>h.get? a=some {cls:=.none,data:=.fields ps}
 |.met f x=>h.get? a=some (qJ (.ref f) (.ref x))
 |.ext φ=>φ h/\(∃o,h.get? a=some o)/\∀h1 h2:Heap,φ h1->(∀o,h1.get? a=some o->h2.get? a=some o)->φ h2
noncomputable def HOk(H:Hp)(h:Heap):Prop:=∀a o,H a=some o->dN P w H h a o
end
section
variable {P:Program}{w:World}{H H':Hp}{h h':Heap}{a:Addr}{o:HO}
theorem dN.lt(x:dN P w H h a o):a<h.objs.size:=by
 cases o with
 |lst xs=>obtain⟨_,_,_,_,e⟩:=x;exact au e
 |tup xs=>obtain⟨_,_,_,p⟩:=x;exact p.lt
 |dK kvs=>obtain⟨_,_,_,_,o,_,_,e,_⟩:=x;exact au e
 |dT kvs=>obtain⟨_,_,_,_,o,_,_,e,_⟩:=x;exact au e
 |set S n=>obtain⟨o,_,_,_,e,_⟩:=x;exact au e
 |ins C dx fs=>obtain⟨_,_,_,e,_⟩:=x;exact au e
 |own y=>obtain⟨_,e⟩:=x;exact au e
 |xd fs=>obtain⟨_,⟨_,_,_,e,_⟩,_⟩:=x;exact au e
 |rng lo hi=>obtain⟨_,_,_,e⟩:=x;exact au e
 |frz ob u=>obtain⟨e,_⟩:=x;exact au e
 |tbl ps=>exact au (show h.get? a=some _ from x)
 |met f y=>exact au (show h.get? a=some _ from x)
 |ext φ=>obtain⟨_,⟨_,e⟩,_⟩:=x;exact au e
theorem Paired.qt{α β:Type}{F G:α->β->Prop}:∀{l₁:List α}{l₂:List β},Paired F l₁ l₂->(∀a b,F a b->G a b)->Paired G l₁ l₂
 |_,_,.nil,_=>.nil
 |_,_,.cons r t,f=>.cons (f _ _ r) (Paired.qt t f)
theorem dN.lW(x:dN P w H h a o)(k:∀b u,(b=a\/H b=some (.own a))->h.get? b=some u->h'.get? b=some u)
  (ho:∀b,H b=some (.own a)->H' b=some (.own a))(ht:∀b xs,H b=some (.tup xs)->H' b=some (.tup xs)):dN P w H' h' a o:=by
 induction o with
 |lst xs=>obtain⟨z,its,n,r,e⟩:=x;exact⟨z,its,n,r,k _ _ (.inl rfl) e⟩
 |tup xs=>obtain⟨z,its,r,ob,e,c⟩:=x;exact⟨z,its,r,ob,k _ _ (.inl rfl) e,c⟩
 |dK kvs=>obtain⟨z,y,vs,r,ob,es,ep,e,c⟩:=x;exact⟨z,y,vs,r,ob,es,ep,k _ _ (.inl rfl) e,c⟩
 |dT kvs=>
  obtain⟨z,y,xs,r,ob,es,ep,e,c⟩:=x;exact⟨z,y,xs,Paired.qt r fun p q z=>⟨z.1,ht _ _ z.2.1,z.2.2⟩,ob,es,ep,k _ _ (.inl rfl) e,c⟩
 |set S n=>obtain⟨ob,es,ep,t,e,c⟩:=x;exact⟨ob,es,ep,t,k _ _ (.inl rfl) e,c⟩
 |ins C dx fs=>
  obtain⟨d,z,ne,e,mA,⟨od,es,ep,e2,c⟩,r⟩:=x;exact⟨ho _ d,z,ne,k _ _ (.inl rfl) e,mA,⟨od,es,ep,k _ _ (.inr d) e2,c⟩,r⟩
 |own y=>obtain⟨ob,e⟩:=x;exact⟨ob,k _ _ (.inl rfl) e⟩
 |xd fs=>obtain⟨mA,⟨od,es,ep,e,c⟩,r⟩:=x;exact⟨mA,⟨od,es,ep,k _ _ (.inl rfl) e,c⟩,r⟩
 |rng lo hi=>obtain⟨t,u,v,e⟩:=x;exact⟨t,u,v,k _ _ (.inl rfl) e⟩
 |frz ob u ih=>obtain⟨e,q⟩:=x;exact⟨k _ _ (.inl rfl) e,ih q⟩
 |tbl ps=>
  have e:h.get? a=some {cls:=.none,data:=.fields ps}:=x;show h'.get? a=some {cls:=.none,data:=.fields ps};exact k a _ (.inl rfl) e
 |met f y=>
  have e:h.get? a=some (qJ (.ref f) (.ref y)):=x;show h'.get? a=some (qJ (.ref f) (.ref y));exact k a _ (.inl rfl) e
 |ext φ=>obtain⟨p,⟨o,e⟩,st⟩:=x;exact⟨st _ _ p fun o q=>k _ _ (.inl rfl) q,⟨o,k _ _ (.inl rfl) e⟩,st⟩
theorem HOk.lt(x:HOk P w H h)(e:H a=some o):a<h.objs.size:=(x a o e).lt
theorem HOk.fresh(x:HOk P w H h)(e:h.objs.size<=a):H a=none:=by
 cases q:H a with
 |none=>rfl
 |some u=>exact absurd (bj (x.lt q) e) (eN _)
theorem HOk.kept(x:HOk P w H h)(k:∀b u,h.get? b=some u->h'.get? b=some u):HOk P w H h':=fun a o e=>
 (x a o e).lW (fun b u _ q=>k b u q) (fun _ q=>q) fun _ _ q=>q
theorem HOk.laid(x:HOk P w H h)(k:∀b u,h.get? b=some u->h'.get? b=some u)(hp:h.objs.size<=a)(new:dN P w (upd H a o) h' a o):HOk P w (upd H a o) h':=fun b u e=>by
 have hn:=x.fresh hp;by_cases hb:b=a
 ·subst hb;rw[ax]at e;cases e;exact new
 ·rw[a7 hb]at e
  exact(x b u e).lW (fun c v _ q=>k c v q) (fun c q=>by rw[a7 (bH q hn)];exact q) fun c xs q=>by rw[a7 (bH q hn)];exact q
end
noncomputable def Rd(H:Hp)(a:Addr)(u:HO):Prop:=H a=some u\/∃o,H a=some (.frz o u)
theorem Rd.ok{H:Hp}{u:HO}(r:Rd H a u)(x:HOk P w H h):dN P w H h a u:=by
 rcases r with r|⟨o,r⟩
 ·exact x a u r
 ·obtain⟨_,q⟩:=x a _ r
  exact q
noncomputable def Mut:Option HO->Prop
 |some (.lst _)=>True
 |some (.dK _)=>True
 |some (.dT _)=>True
 |some (.set _ _)=>True
 |some (.ins _ _ _)=>True
 |some (.ext _)=>True
 |_=>False
section
variable {P:Program}{w:World}{H:Hp}{h h':Heap}{x e:Addr}{o':HO}
theorem HOk.write(ok:HOk P w H h)(mu:Mut (H x))(he:e=x\/H e=some (.own x))(k:∀b u,b≠e->h.get? b=some u->h'.get? b=some u)(heo:∃u,h'.get? e=some u)
  (new:dN P w (upd H x o') h' x o'):HOk P w (upd H x o') h':=fun b u q=>by
 have nown:∀c y,H c=some (.own y)->c≠x:=fun c y r z=>by subst z;rw[r]at mu;exact mu
 have ntup:∀c xs,H c=some (.tup xs)->c≠x:=fun c xs r z=>by subst z;rw[r]at mu;exact mu
 by_cases hb:b=x
 ·subst hb;rw[ax]at q;cases q;exact new
 ·rw[a7 hb]at q
  by_cases hbe:b=e
  ·have q':H b=some (.own x):=by
    rcases he with z|z
    ·exact absurd (hbe.trans z) hb
    ·rw[hbe];exact z
   rw[q]at q';cases q';obtain⟨v,hv⟩:=heo;exact⟨v,by rw[hbe];exact hv⟩
  ·refine(ok b u q).lW (fun c v hc r=>k c v ?_ r) (fun c r=>by rw[a7 (nown c b r)];exact r) fun c xs r=>by rw[a7 (ntup c xs r)];exact r
   rcases hc with rfl|hc
   ·exact hbe
   ·rintro rfl
    rcases he with z|z
    ·exact nown c b hc z
    ·rw[hc]at z;cases z;exact hb rfl
end
structure Un(fs ex:List Addr)(H H':Hp)(h h':Heap):Prop where
 keep:∀b o,h.get? b=some o->H b=none->b∉fs->b∉ex->h'.get? b=some o
 slot:∀b o,h.get? b=some o->H b=none->b∈fs->b∉ex->∃sl,h'.get? b=some {o with slots:=sl}
 free:∀b o,h.get? b=some o->H b=none->b∉ex->H' b=none
 there:∀b o,h.get? b=some o->b∉ex->∃o',h'.get? b=some o'
 tups:∀b xs,H b=some (.tup xs)->H' b=some (.tup xs)
 frzs:∀b o u,H b=some (.frz o u)->H' b=some (.frz o u)
 tbls:∀b ps,H b=some (.tbl ps)->∃more,H' b=some (.tbl (ps++more))
section
variable {fs fs' ex ex':List Addr}{H H1 H2:Hp}{h h1 h2 h':Heap}{a x e:Addr}{o:HO}
theorem Un.any(u:Un fs ex H H1 h h1){ob:Obj}(q:h.get? b=some ob)(n:H b=none)(hx:b∉ex):∃sl,h1.get? b=some {ob with slots:=sl}:=by
 by_cases hb:b∈fs
 ·exact u.slot b ob q n hb hx
 ·exact⟨ob.slots,u.keep b ob q n hb hx⟩
theorem Un.kept(k:∀b u,h.get? b=some u->h'.get? b=some u):Un fs ex H H h h':=
 ⟨fun b ob q _ _ _=>k b ob q,fun b ob q _ _ _=>⟨ob.slots,k b ob q⟩,fun _ _ _ n _=>n,fun b ob q _=>⟨ob,k b ob q⟩,fun _ _ q=>q,fun _ _ _ q=>q,fun _ ps q=>⟨#[],by rw[q];simp⟩⟩
theorem Un.refl:Un fs ex H H h h:=Un.kept fun _ _ q=>q
theorem Un.laid(k:∀b u,h.get? b=some u->h'.get? b=some u)(hp:h.objs.size<=a)(hn:H a=none):Un fs ex H (upd H a o) h h' where
 keep:=fun b u q _ _ _=>k b u q
 slot:=fun b u q _ _ _=>⟨u.slots,k b u q⟩
 free:=fun b u q n _=>by rw[a7 (aL (bj (au q) hp))];exact n
 there:=fun b u q _=>⟨u,k b u q⟩
 tups:=fun b xs q=>by rw[a7 (bH q hn)];exact q
 frzs:=fun b u xs q=>by rw[a7 (bH q hn)];exact q
 tbls:=fun b ps q=>⟨#[],by rw[a7 (bH q hn),q];simp⟩
theorem Un.write(mu:Mut (H x))(he:e=x\/H e=some (.own x))(k:∀b u,b≠e->h.get? b=some u->h'.get? b=some u)(heo:∃u,h'.get? e=some u):Un fs ex H (upd H x o) h h':=by
 have hx:∀b,H b=none->b≠x:=fun b n z=>by subst z;rw[n]at mu;exact mu
 have hb:∀b,H b=none->b≠e:=fun b n z=>by
  subst z;rcases he with r|r
  ·exact hx b n r
  ·rw[n]at r;cases r
 have hm:∀b u,H b=some u->¬Mut (some u)->b≠x:=fun b u q nm z=>by subst z;rw[q]at mu;exact nm mu
 refine⟨fun b u q n _ _=>k b u (hb b n) q,fun b u q n _ _=>⟨u.slots,k b u (hb b n) q⟩,fun b u q n _=>by rw[a7 (hx b n)];exact n,fun b u q _=>?_,
  fun b xs q=>by rw[a7 (hm b _ q fun z=>z)];exact q,fun b u xs q=>by rw[a7 (hm b _ q fun z=>z)];exact q,fun b ps q=>⟨#[],by rw[a7 (hm b _ q fun z=>z),q];simp⟩⟩
 by_cases hbe:b=e
 ·subst hbe;exact heo
 ·exact⟨u,k b u hbe q⟩
end
noncomputable def trk(h:Heap)(H:Hp):List Addr:=(aw h.objs.size).filter fun a=>(H a).isSome
noncomputable def z6(h:Heap)(H:Hp):Heap:=PySem.W.hideAll h (trk h H)
theorem EL(h:Heap)(H:Hp):(z6 h H).objs.size=h.objs.size:=PySem.W.hideAll_size _ _
theorem tT{H:Hp}{o:Obj}(e:h.get? b=some o)(n:H b=none):(z6 h H).get? b=some o:=
 PySem.W.hideAll_get _ e fun hm=>by
  have q:(H b).isSome=true:=(aN.mp hm).2;rw[n]at q;simp at q
theorem of_hidT{H:Hp}{o:Obj}(e:(z6 h H).get? b=some o):h.get? b=some o/\H b=none:=by
 have e':h.get? b=some o:=PySem.W.of_hideAll (trk h H) e;refine⟨e',?_⟩;cases q:H b with
 |none=>rfl
 |some x=>
  have hm:b∈trk h H:=aN.mpr ⟨aM.mpr (au e'),by simp[q]⟩;have z:(z6 h H).get? b=none:=PySem.W.hideAll_none (trk h H) hm;rw[z]at e;cases e
structure Mod(K:ah)(mg:Str->Option Value)(base:Heap):Prop where
 kin:K.In base
 glob:base.Ns bP mg
 blt:∃mb,base.Ns l6 mb/\∀x:Str,x≠"__name__"->mb x=eU x
 nolimit:base.NoLimit
structure Cx where
 prog:Program
 w:World
 K:ah
 mg:Str->Option Value
 base:Heap
 A:Around
 N:List Str
 s₀:Shared
 H₀:Hp
 env:Env
 outer:List Env
 stack:List Env
 ex:List Addr
 fn:Str->Bool
 calm:Bool
 pn:List (Addr×Obj)
 xe:Value->Shared->Prop
noncomputable def frs(l:List Env):List Addr:=l.filterMap (·.frame)
noncomputable abbrev Cx.fs(X:Cx):List Addr:=frs X.outer
noncomputable def Vis(sc:Scope)(x:Str):Prop:=sc.names.lookup x=some .local\/sc.names.lookup x=some .cell\/sc.names.lookup x=some .free
noncomputable def Loc(sc:Scope)(x:Str):Prop:=sc.names.lookup x=some .local\/sc.names.lookup x=some .cell
noncomputable def Look(env:Env)(h:Heap)(m:Str->Option Value)(x:Str)(u:Value):Prop:=
 (env.kindOf x=some .local/\m x=some u)\/((env.kindOf x=some .cell\/env.kindOf x=some .free)/\∃c,env.cells.lookup x=some c/\h.IsCell c (some u))
structure Cx.Ok(X:Cx):Prop where
 mod:Mod X.K X.mg X.base
 kind:X.env.scope.kind=.function
 glob:X.env.globals=bP
 blt:X.env.builtins=l6
 above:X.s₀.heap.objs.size<=X.env.locals
 inj:∀x y c,X.env.cells.lookup x=some c->X.env.cells.lookup y=some c->x=y
 has:∀x,(X.env.kindOf x=some .cell\/X.env.kindOf x=some .free)->∃c,X.env.cells.lookup x=some c
 cab:∀x c,X.fn x=true->X.env.cells.lookup x=some c->X.s₀.heap.objs.size<=c
 hd:X.calm=true->X.A.handled=none
 frames:X.A.frames=some X.stack
 stk:X.stack=X.outer\/(X.stack=X.env::X.outer/\X.env.frame=some X.env.locals)
 exf:∀b∈X.ex,b≠X.env.locals/\∀x c,X.env.cells.lookup x=some c->c≠b
 bs:∀b o,X.base.get? b=some o->X.s₀.heap.get? b=some o/\X.H₀ b=none
 bsz:X.base.objs.size<=X.s₀.heap.objs.size
 noex:∀b o,X.base.get? b=some o->b∉X.ex
 exfs:∀b∈X.ex,b∉X.fs
 yc:X.s₀.heap.FunFrames X.base X.outer
 frf:∀b∈X.fs,X.H₀ b=none
structure Inv(X:Cx)(pins:List (Addr×Obj))(σ:List (Option V))(H:Hp)(s:Shared):Prop where
 ok:X.Ok
 os:s.os=X.s₀.os
 bare:nr s.gens
 base:Un X.fs X.ex X.H₀ H X.s₀.heap s.heap
 loc:∃m,s.heap.Ns X.env.locals m/\∀(i:Nat)(x:Str)(v:V),X.N[i]? =some x->σ[i]? =some (some v)->Vis X.env.scope x->∃u,RelV v u/\Look X.env s.heap m x u
 cell:∀x c,X.env.cells.lookup x=some c->∃v,s.heap.IsCell c v
 free:H X.env.locals=none
 freeC:∀x c,X.env.cells.lookup x=some c->H c=none
 pin:∀p∈X.pn++pins,s.heap.get? p.1=some p.2/\H p.1=none/\p.1≠X.env.locals/\p.1∉X.fs/\∀v,p.2.data≠.cell v
 hok:HOk X.prog X.w H s.heap
 len:σ.length=X.N.length
section
variable {X:Cx}{pins:List (Addr×Obj)}{σ:List (Option V)}{H H':Hp}{s:Shared}{h':Heap}
theorem Cx.Ok.nofr(ok:X.Ok){o:Obj}(e:X.base.get? b=some o):b∉X.fs:=fun hb=>by
 have :=(ok.yc.mem hb).1
 rw[e]at this;cases this
theorem Inv.bs(I:Inv X pins σ H s):∀b o,X.base.get? b=some o->s.heap.get? b=some o/\H b=none:=fun b o e=>
 ⟨I.base.keep b o (I.ok.bs b o e).1 (I.ok.bs b o e).2 (I.ok.nofr e) (I.ok.noex b o e),I.base.free b o (I.ok.bs b o e).1 (I.ok.bs b o e).2 (I.ok.noex b o e)⟩
theorem Inv.bk(I:Inv X pins σ H s):∀b o,X.base.get? b=some o->s.heap.get? b=some o:=fun b o e=>(I.bs b o e).1
theorem Inv.mod(I:Inv X pins σ H s):Mod X.K X.mg X.base:=I.ok.mod
theorem Inv.kIn(I:Inv X pins σ H s):X.K.In s.heap:=I.ok.mod.kin.keeps I.bk
theorem Inv.nolimit(I:Inv X pins σ H s):s.heap.NoLimit:=I.ok.mod.nolimit.keeps I.bk
theorem Inv.lt(I:Inv X pins σ H s):X.env.locals<s.heap.objs.size:=let⟨_,hn,_⟩:=I.loc;hn.lt
theorem Inv.sz(I:Inv X pins σ H s):X.s₀.heap.objs.size<=s.heap.objs.size:=aT I.ok.above (kj I.lt)
theorem Inv.nofs(I:Inv X pins σ H s)(h:s.heap.objs.size<=a):a∉X.fs:=fun hb=>by
 obtain⟨_,o,ho,_⟩:=I.ok.yc.mem hb;exact absurd (bj (au ho) (aT I.sz h)) (eN _)
theorem Inv.cne(I:Inv X pins σ H s):∀x c,X.env.cells.lookup x=some c->c≠X.env.locals:=fun x c e z=>by
 obtain⟨v,o,ho,hd⟩:=I.cell x c e;obtain⟨m,⟨o',es,ep,ho',hd',_⟩,_⟩:=I.loc;rw[z,ho']at ho;cases ho;rw[hd']at hd;cases hd
theorem Inv.yc(I:Inv X pins σ H s):s.heap.FunFrames X.base X.outer:=by
 have all:∀(l:List Env),(∀b∈frs l,b∈X.fs)->X.s₀.heap.FunFrames X.base l->s.heap.FunFrames X.base l:=by
  intro l
  induction l with
  |nil=>intro _ _;trivial
  |cons env r ih=>
   intro hs hl;obtain⟨hk,⟨L,o,hf,hn,ho,hd⟩,hr⟩:=hl;have hL:L∈X.fs:=hs L (by unfold frs;rw[qb,hf];exact aB);obtain⟨sl,e⟩:=I.base.slot L o ho (I.ok.frf L hL) hL fun z=>I.ok.exfs L z hL;exact⟨hk,⟨L,_,hf,hn,e,hd⟩,ih (fun b hb=>hs b (by unfold frs;rw[qb,hf];exact aJ _ hb)) hr⟩
 exact all X.outer (fun _ hb=>hb) I.ok.yc
theorem Inv.stack(I:Inv X pins σ H s):s.heap.FunFrames X.base X.stack:=by
 rcases I.ok.stk with e|⟨e,hf⟩
 ·rw[e];exact I.yc
 ·rw[e]
  obtain⟨m,hn,_⟩:=I.loc;refine .cons (by rw[I.ok.kind];decide) hf hn ?_ I.yc;exact FA (aT I.ok.bsz I.ok.above)
theorem Inv.Ba(I:Inv X pins σ H s):∀b∈frs X.stack,b∈X.env.locals::X.fs:=fun b hb=>by
 rcases I.ok.stk with e|⟨e,hf⟩
 ·rw[e]at hb;exact aJ _ hb
 ·rw[e]at hb
  unfold frs at hb;rw[qb,hf]at hb;exact hb
theorem Inv.wY(I:Inv X pins σ H s):∀b∈frs X.stack,H b=none:=fun b hb=>by
 rcases av.mp (I.Ba b hb)with e|hb
 ·rw[e];exact I.free
 ·obtain⟨_,o,ho,_⟩:=I.ok.yc.mem hb
  exact I.base.free b o ho (I.ok.frf b hb) fun z=>I.ok.exfs b z hb
theorem Inv.step{g':Array yK}{d':Drawn}(I:Inv X pins σ H s)
  (hch:∀b∈ch,(b∈X.ex\/X.s₀.heap.objs.size<=b)/\b≠X.env.locals/\(∀x c,X.env.cells.lookup x=some c->c≠b)/\∀p∈X.pn++pins,p.1≠b)
  (keep:∀b o,b≠X.env.locals->b∉X.fs->b∉ch->s.heap.get? b=some o->H b=none->h'.get? b=some o)
  (slot:∀b o,b≠X.env.locals->b∈X.fs->b∉ch->s.heap.get? b=some o->H b=none->∃sl,h'.get? b=some {o with slots:=sl}) (free:∀b o,b∉ch->s.heap.get? b=some o->H b=none->H' b=none)
  (there:∀b o,b∉ch->s.heap.get? b=some o->∃o',h'.get? b=some o')
  (tups:∀b xs,H b=some (.tup xs)->H' b=some (.tup xs)) (frzs:∀b o u,H b=some (.frz o u)->H' b=some (.frz o u)) (tbls:∀b ps,H b=some (.tbl ps)->∃more,H' b=some (.tbl (ps++more)))
  (ns:∀m,s.heap.Ns X.env.locals m->h'.Ns X.env.locals m) (hok:HOk X.prog X.w H' h') (hg:nr g'):
  Inv X pins σ H' {s with heap:=h',gens:=g',drawn:=d',toks:=t'}:=by
 have neL:∀b o,X.s₀.heap.get? b=some o->b≠X.env.locals:=fun b o e=>aL (bj (au e) I.ok.above);have neC:∀b o,X.s₀.heap.get? b=some o->b∉X.ex->b∉ch:=fun b o e hx hb=>by
  rcases(hch b hb).1 with z|z
  ·exact hx z
  ·exact absurd (bj (au e) z) (eN _)
 have cellK:∀x c,X.env.cells.lookup x=some c->∀v,s.heap.IsCell c v->h'.IsCell c v:=fun x c e v ⟨o,ho,hd⟩=>by
  have nch:c∉ch:=fun z=>(hch c z).2.2.1 x c e rfl;by_cases hc:c∈X.fs
  ·obtain⟨sl,q⟩:=slot c o (I.cne x c e) hc nch ho (I.freeC x c e)
   exact⟨_,q,hd⟩
  ·exact⟨o,keep c o (I.cne x c e) hc nch ho (I.freeC x c e),hd⟩
 refine⟨I.ok,I.os,hg,⟨fun b o e n hb hx=>?_,fun b o e n hb hx=>?_,fun b o e n hx=>?_,fun b o e hx=>?_,fun b xs e=>tups b xs (I.base.tups b xs e),fun b o xs e=>frzs b o xs (I.base.frzs b o xs e),fun b ps e=>?_⟩,?_,fun x c e=>?_,?_,fun x c e=>?_,fun p hp=>?_,hok,I.len⟩
 ·exact keep b o (neL b o e) hb (neC b o e hx) (I.base.keep b o e n hb hx) (I.base.free b o e n hx)
 ·obtain⟨sl,e1⟩:=I.base.slot b o e n hb hx
  obtain⟨sl',e2⟩:=slot b _ (neL b o e) hb (neC b o e hx) e1 (I.base.free b o e n hx);exact⟨sl',e2⟩
 ·obtain⟨o',e1⟩:=I.base.there b o e hx
  exact free b o' (neC b o e hx) e1 (I.base.free b o e n hx)
 ·obtain⟨o',e1⟩:=I.base.there b o e hx
  exact there b o' (neC b o e hx) e1
 ·obtain⟨m1,e1⟩:=I.base.tbls b ps e
  obtain⟨m2,e2⟩:=tbls b _ e1;exact⟨m1++m2,by rw[e2,Array.append_assoc]⟩
 ·obtain⟨m,hn,hl⟩:=I.loc
  refine⟨m,ns m hn,fun i x v e1 e2 e3=>?_⟩;obtain⟨u,r,l⟩:=hl i x v e1 e2 e3;refine⟨u,r,?_⟩;rcases l with l|⟨k,c,e,z⟩
  ·exact .inl l
  ·exact .inr ⟨k,c,e,cellK x c e _ z⟩
 ·obtain⟨v,z⟩:=I.cell x c e
  exact⟨v,cellK x c e v z⟩
 ·obtain⟨m,⟨o,_,_,ho,_⟩,_⟩:=I.loc
  exact free _ o (fun z=>(hch _ z).2.1 rfl) ho I.free
 ·obtain⟨v,o,ho,hd⟩:=I.cell x c e
  exact free c o (fun z=>(hch c z).2.2.1 x c e rfl) ho (I.freeC x c e)
 ·obtain⟨e,n,ne,nf,d⟩:=I.pin p hp
  have nch:p.1∉ch:=fun z=>(hch p.1 z).2.2.2 p hp rfl;exact⟨keep p.1 p.2 ne nf nch e n,free p.1 p.2 nch e n,ne,nf,d⟩
theorem Inv.un(I:Inv X pins σ H s)(u:Un X.fs [] H H' s.heap h')(hok:HOk X.prog X.w H' h'):Inv X pins σ H' {s with heap:=h',toks:=t'}:=by
 obtain⟨m,⟨o,es,ep,ho,r⟩,_⟩:=id I.loc;obtain⟨sl,hL⟩:=u.any ho I.free (by simp);exact I.step (g':=s.gens) (d':=s.drawn) (ch:=[]) (fun _ z=>nomatch z) (fun b o _ hb _ e n=>u.keep b o e n hb (by simp)) (fun b o _ hb _ e n=>u.slot b o e n hb (by simp)) (fun b o _ e n=>u.free b o e n (by simp)) (fun b o _ e=>u.there b o e (by simp)) u.tups u.frzs u.tbls (fun m' hm=>by
  obtain⟨o',es',ep',ho',r'⟩:=hm;rw[ho]at ho';cases ho';exact⟨_,es',ep',hL,r'⟩) hok I.bare
theorem Inv.call{g':Array yK}{d':Drawn}(I:Inv X pins σ H s)(u:Un (frs X.stack) ch H H' s.heap h')(hok:HOk X.prog X.w H' h')(hg:nr g')
  (hch:∀b∈ch,(b∈X.ex\/X.s₀.heap.objs.size<=b)/\b≠X.env.locals/\(∀x c,X.env.cells.lookup x=some c->c≠b)/\∀p∈X.pn++pins,p.1≠b):
  Inv X pins σ H' {s with heap:=h',gens:=g',drawn:=d',toks:=t'}:=by
 obtain⟨m,⟨o,es,ep,ho,r⟩,_⟩:=id I.loc;obtain⟨sl,hL⟩:=u.any ho I.free fun z=>(hch _ z).2.1 rfl;exact I.step (ch:=ch) hch (fun b o hL hb hc e n=>u.keep b o e n (fun z=>(av.mp (I.Ba b z)).elim hL hb) hc) (fun b o _ _ hc e n=>u.any e n hc) (fun b o hc e n=>u.free b o e n hc) (fun b o hc e=>u.there b o e hc) u.tups u.frzs u.tbls (fun m' hm=>by
  obtain⟨o',es',ep',ho',r'⟩:=hm;rw[ho]at ho';cases ho';exact⟨_,es',ep',hL,r'⟩) hok hg
theorem Inv.turned(I:Inv X pins σ H s)(k:∀b o,b≠it->s.heap.get? b=some o->h'.get? b=some o)(hn:H it=none)(hL:it≠X.env.locals)
  (h1:it∈X.ex\/X.s₀.heap.objs.size<=it)(h2:∀x c,X.env.cells.lookup x=some c->c≠it)(h3:∀p∈X.pn++pins,p.1≠it):Inv X pins σ H {s with heap:=h',toks:=t'}:=by
 have nit:∀b u,H b=some u->b≠it:=fun b u e z=>by rw[z,hn]at e;cases e
 refine I.step (g':=s.gens) (d':=s.drawn) (ch:=[it]) (fun b hb=>?_) (fun b o _ _ hc e _=>k b o (fun z=>hc (by simp[z])) e) (fun b o _ _ hc e _=>⟨o.slots,k b o (fun z=>hc (by simp[z])) e⟩) (fun _ _ _ _ n=>n)
  (fun b o hc e=>⟨o,k b o (fun z=>hc (by simp[z])) e⟩) (fun _ _ e=>e) (fun _ _ _ e=>e) (fun b ps e=>⟨#[],by rw[e];simp⟩) (fun m hm=>?_) (fun b u e=>?_) I.bare
 ·have e:b=it:=by simpa using hb
  subst e;exact⟨h1,hL,h2,h3⟩
 ·obtain⟨o,es,ep,ho,r⟩:=hm
  exact⟨o,es,ep,k _ o (cn hL) ho,r⟩
 ·refine(I.hok b u e).lW (fun c v hc q=>k c v ?_ q) (fun _ q=>q) fun _ _ q=>q
  rcases hc with z|z
  ·rw[z];exact nit b u e
  ·exact nit c _ z
theorem Inv.tok(I:Inv X pins σ H s)(t:Nat):Inv X pins σ H {s with toks:=t}:=I.un (h':=s.heap) (t':=t) Un.refl I.hok
theorem Inv.kept(I:Inv X pins σ H s)(k:∀b u,s.heap.get? b=some u->h'.get? b=some u):Inv X pins σ H {s with heap:=h',toks:=t'}:=I.un (Un.kept k) (I.hok.kept k)
theorem Inv.laid{o:HO}(I:Inv X pins σ H s)(k:∀b u,s.heap.get? b=some u->h'.get? b=some u)(hp:s.heap.objs.size<=a)(new:dN X.prog X.w (upd H a o) h' a o):
  Inv X pins σ (upd H a o) {s with heap:=h',toks:=t'}:=I.un (Un.laid k hp (I.hok.fresh hp)) (I.hok.laid k hp new)
theorem Inv.write{x e:Addr}{o:HO}(I:Inv X pins σ H s)(mu:Mut (H x))(he:e=x\/H e=some (.own x))(k:∀b u,b≠e->s.heap.get? b=some u->h'.get? b=some u)(heo:∃u,h'.get? e=some u)
  (new:dN X.prog X.w (upd H x o) h' x o):Inv X pins σ (upd H x o) {s with heap:=h',toks:=t'}:=I.un (Un.write mu he k heo) (I.hok.write mu he k heo new)
theorem Inv.xx(I:Inv X pins σ H s)(h:∀p∈pins',s.heap.get? p.1=some p.2/\H p.1=none/\p.1≠X.env.locals/\p.1∉X.fs/\∀v,p.2.data≠.cell v):Inv X pins' σ H s:=
 ⟨I.ok,I.os,I.bare,I.base,I.loc,I.cell,I.free,I.freeC,fun p hp=>(bc.mp hp).elim (fun z=>I.pin p (jm _ z)) (h p),I.hok,I.len⟩
theorem zI(hN:N.Nodup)(a:N[i]? =some x)(b:N[j]? =some x):i=j:=by
 obtain⟨h1,e1⟩:=aH.mp a;obtain⟨h2,e2⟩:=aH.mp b;exact(dz hN).mp (e1.trans e2.symm)
theorem DT{M:Model}{v:V}{Q:Unit->Shared->Prop}(I:Inv X pins σ H s)(hN:X.N.Nodup)(hi:X.N[i]? =some x)(hx:Loc X.env.scope x)(r:RelV v u)
  (h:∀s',Inv X pins (σ.set i (some v)) H s'->(∃a,dq a s.heap s'.heap/\(a=X.env.locals\/X.env.cells.lookup x=some a))->Q () s')(hf:X.fn x=true\/X.env.scope.names.lookup x=some .local:=by first |exact .inl rfl|exact .inr rfl|assumption):wpAny M A (storeName X.env x u) Q E s:=by
 obtain⟨m,hn,hl⟩:=id I.loc;have hcls:(X.env.scope.kind== .class||(X.env.scope.kind== .module&&X.env.locals != X.env.globals))=false:=by rw[I.ok.kind];rfl
 have hiσ:i<σ.length:=by rw[I.len];exact(aH.mp hi).1
 have cne:=I.cne;have tracked:∀{a:Addr}{h':Heap},(∃o,s.heap.get? a=some o/\H a=none)->dq a s.heap h'->HOk X.prog X.w H h':=fun{a h'} ha hs b ob e=>by
  obtain⟨_,_,hfree⟩:=ha;refine(I.hok b ob e).lW (fun c w' hc q=>(hs.2 c ?_).trans q) (fun _ q=>q) fun _ _ q=>q;rintro rfl;rcases hc with rfl|hc
  ·rw[hfree]at e;cases e
  ·rw[hfree]at hc;cases hc
 rcases hx with hk|hk
 ·refine wpAny_storeName_local hk hn (fun h' hn' hs=>?_) hcls
  obtain⟨oL,_,_,hoL,_⟩:=id hn;refine h _ ⟨I.ok,I.os,I.bare,⟨fun b o e n hb hx=>?_,fun b o e n hb hx=>?_,I.base.free,fun b o e hx=>?_,I.base.tups,I.base.frzs,I.base.tbls⟩,⟨_,hn',fun j y v' e1 e2 e3=>?_⟩,fun y c e=>?_,I.free,I.freeC,fun p hp=>?_,tracked ⟨oL,hoL,I.free⟩ hs,by simpa using I.len⟩ ⟨_,hs,.inl rfl⟩
  ·exact(hs.2 b (aL (bj (au e) I.ok.above))).trans (I.base.keep b o e n hb hx)
  ·obtain⟨sl,e1⟩:=I.base.slot b o e n hb hx
   exact⟨sl,(hs.2 b (aL (bj (au e) I.ok.above))).trans e1⟩
  ·obtain⟨o',e1⟩:=I.base.there b o e hx
   exact⟨o',(hs.2 b (aL (bj (au e) I.ok.above))).trans e1⟩
  ·by_cases hj:j=i
   ·subst hj
    rw[hi]at e1;cases e1;rw[DM hiσ]at e2;cases e2;exact⟨u,r,.inl ⟨hk,by simp⟩⟩
   ·rw[Fy (cn hj)]at e2
    obtain⟨u',r',q⟩:=hl j y v' e1 e2 e3;refine⟨u',r',?_⟩;rcases q with⟨k,e⟩ |⟨k,c,e,z⟩
    ·refine .inl ⟨k,?_⟩
     have :y≠x:=fun e=>hj (zI hN e1 (e▸hi));simp[this,e]
    ·exact .inr ⟨k,c,e,z.sameBut hs (cne y c e)⟩
  ·obtain⟨w',z⟩:=I.cell y c e
   exact⟨w',z.sameBut hs (cne y c e)⟩
  ·obtain⟨e,n,ne,nf,d⟩:=I.pin p hp
   exact⟨(hs.2 p.1 ne).trans e,n,ne,nf,d⟩
 ·have hfn:X.fn x=true:=by
   rcases hf with z|z
   ·exact z
   ·rw[z]at hk;cases hk
  obtain⟨c,hc⟩:=I.ok.has x (.inl hk);obtain⟨w',z⟩:=I.cell x c hc;refine wpAny_storeName_cell I.ok.kind hk hc z (fun h' hc' hs=>?_);obtain⟨oc,hoc,hocd⟩:=id z;refine h {s with heap:=h'} ⟨I.ok,I.os,I.bare,⟨fun b o e n hb hx=>?_,fun b o e n hb hx=>?_,I.base.free,fun b o e hx=>?_,I.base.tups,I.base.frzs,I.base.tbls⟩,⟨m,hn.sameBut hs (cn (cne x c hc)),fun j y v' e1 e2 e3=>?_⟩,fun y c' e=>?_,I.free,I.freeC,fun p hp=>?_,tracked ⟨oc,hoc,I.freeC x c hc⟩ hs,by simpa using I.len⟩ ⟨c,hs,.inr hc⟩
  ·exact(hs.2 b (aL (bj (au e) (I.ok.cab x c hfn hc)))).trans (I.base.keep b o e n hb hx)
  ·obtain⟨sl,e1⟩:=I.base.slot b o e n hb hx
   exact⟨sl,(hs.2 b (aL (bj (au e) (I.ok.cab x c hfn hc)))).trans e1⟩
  ·obtain⟨o',e1⟩:=I.base.there b o e hx
   exact⟨o',(hs.2 b (aL (bj (au e) (I.ok.cab x c hfn hc)))).trans e1⟩
  ·by_cases hj:j=i
   ·subst hj
    rw[hi]at e1;cases e1;rw[DM hiσ]at e2;cases e2;exact⟨u,r,.inr ⟨.inl hk,c,hc,hc'⟩⟩
   ·rw[Fy (cn hj)]at e2
    obtain⟨u',r',q⟩:=hl j y v' e1 e2 e3;refine⟨u',r',?_⟩;rcases q with q|⟨k,c',e,z'⟩
    ·exact .inl q
    ·refine .inr ⟨k,c',e,z'.sameBut hs ?_⟩
     rintro rfl;exact hj (zI hN e1 (I.ok.inj _ _ _ e hc▸hi))
  ·by_cases hcc:c'=c
   ·subst hcc;exact⟨_,hc'⟩
   ·obtain⟨w2,z2⟩:=I.cell y c' e
    exact⟨w2,z2.sameBut hs hcc⟩
  ·obtain⟨e,n,ne,nf,d⟩:=I.pin p hp
   refine⟨(hs.2 p.1 ?_).trans e,n,ne,nf,d⟩;intro q;rw[q,hoc]at e;have q':oc=p.2:=bg e;exact d w' (by rw[<-q'];exact hocd)
theorem zd{M:Model}{v:V}{Q:Unit->Shared->Prop}(I:Inv X pins σ H s)(hN:X.N.Nodup)(hi:X.N[i]? =some x)(hx:Loc X.env.scope x)(r:RelV v u)
  (h:∀s',Inv X pins (σ.set i (some v)) H s'->Q () s')(hf:X.fn x=true\/X.env.scope.names.lookup x=some .local:=by first |exact .inl rfl|exact .inr rfl|assumption):wpAny M A (storeName X.env x u) Q E s:=
 DT I hN hi hx r (fun s' I' _=>h s' I') hf
theorem Inv.call'(I:Inv X pins σ H s)(ho:s'.os=s.os)(u:Un (frs X.stack) ch H H' s.heap s'.heap)(hok:HOk X.prog X.w H' s'.heap)(hg:nr s'.gens)
  (hch:∀b∈ch,(b∈X.ex\/X.s₀.heap.objs.size<=b)/\b≠X.env.locals/\(∀x c,X.env.cells.lookup x=some c->c≠b)/\∀p∈X.pn++pins,p.1≠b):Inv X pins σ H' s':=by
 obtain⟨h',g',d',t',o'⟩:=s';have e:o'=s.os:=ho;subst e;exact I.call (g':=g') (t':=t') (d':=d') u hok hg hch
end
noncomputable abbrev XK:=Value->Option Addr->Hp->Prop
noncomputable abbrev St:=List (Option V)
noncomputable abbrev VK:=V->Hp->Prop
noncomputable abbrev TE:=St->Hp->VK->Prop
noncomputable abbrev TT:=St->Hp->(Bool->Hp->Prop)->Prop
noncomputable abbrev TA:=St->Hp->(List V->Hp->Prop)->Prop
structure Ends where
 nx:St->Hp->Prop
 rt:VK
 bk:St->Hp->Prop:=fun _ _=>False
 ct:St->Hp->Prop:=fun _ _=>False
noncomputable abbrev TS:=Ends->St->Hp->Prop
noncomputable def EP(X:Cx)(pins:List (Addr×Obj))(σ:St)(Q:VK)(u:Value)(s':Shared):Prop:=∃v H',Inv X pins σ H' s'/\RelV v u/\Q v H'
noncomputable def TP(X:Cx)(pins:List (Addr×Obj))(σ:St)(Q:Bool->Hp->Prop)(b:Bool)(s':Shared):Prop:=∃H',Inv X pins σ H' s'/\Q b H'
noncomputable def AP(X:Cx)(pins:List (Addr×Obj))(σ:St)(Q:List V->Hp->Prop)(us:List Value)(s':Shared):Prop:=∃vs H',Inv X pins σ H' s'/\bX vs us/\Q vs H'
noncomputable def SP(X:Cx)(pins:List (Addr×Obj))(D:Ends)(f:Flow)(s':Shared):Prop:=
 match f with
 |.next=>∃σ' H',Inv X pins σ' H' s'/\D.nx σ' H'
 |.brk=>∃σ' H',Inv X pins σ' H' s'/\D.bk σ' H'
 |.cont=>∃σ' H',Inv X pins σ' H' s'/\D.ct σ' H'
 |.ret u=>∃v σ' H',Inv X pins σ' H' s'/\RelV v u/\D.rt v H'
noncomputable def PE(X:Cx)(e:Expr)(t:TE):Prop:=
 ∀(pins:List (Addr×Obj))(s:Shared)(σ:St)(H:Hp)(Q:VK),Inv X pins σ H s->t σ H Q->wpAny (model X.prog X.w) X.A (eval e X.env) (EP X pins σ Q) X.xe s
noncomputable def PT(X:Cx)(e:Expr)(t:TT):Prop:=
 ∀(pins:List (Addr×Obj))(s:Shared)(σ:St)(H:Hp)(Q:Bool->Hp->Prop),Inv X pins σ H s->t σ H Q->wpAny (model X.prog X.w) X.A (isTrue e X.env (eval e X.env)) (TP X pins σ Q) X.xe s
noncomputable def PW(X:Cx)(e:Expr)(t:TT):Prop:=
 ∀(whole:Sem Value)(pins:List (Addr×Obj))(s:Shared)(σ:St)(H:Hp)(Q:Bool->Hp->Prop),Inv X pins σ H s->t σ H Q->wpAny (model X.prog X.w) X.A (isTrue e X.env whole) (TP X pins σ Q) X.xe s
theorem PW.pt{X:Cx}{t:TT}(h:PW X e t):PT X e t:=h _
noncomputable def PA(X:Cx)(es:List Expr)(t:TA):Prop:=
 ∀(pos:Pos)(pins:List (Addr×Obj))(s:Shared)(σ:St)(H:Hp)(Q:List V->Hp->Prop),Inv X pins σ H s->t σ H Q->wpAny (model X.prog X.w) X.A (spliced (backTo pos (bT es X.env))) (AP X pins σ Q) X.xe s
noncomputable def PS(X:Cx)(st:Stmt)(t:TS):Prop:=
 ∀(pins:List (Addr×Obj))(s:Shared)(σ:St)(H:Hp)(D:Ends),Inv X pins σ H s->t D σ H->wpAny (model X.prog X.w) X.A (exec st X.env) (SP X pins D) X.xe s
noncomputable def PSs(X:Cx)(st:List Stmt)(t:TS):Prop:=
 ∀(pins:List (Addr×Obj))(s:Shared)(σ:St)(H:Hp)(D:Ends),Inv X pins σ H s->t D σ H->wpAny (model X.prog X.w) X.A (execs st X.env) (SP X pins D) X.xe s
theorem thn{α:Type}{t:Sem α}{Q Q':α->Shared->Prop}{M:Model}(h:wpAny M A t Q E s)(hQ:∀a s,Q a s->Q' a s):wpAny M A t Q' E s:=gb h hQ fun _ _ x=>x
section
variable {X:Cx}
noncomputable def lV(i:Nat):TE:=fun σ H Q=>∃v,σ[i]? =some (some v)/\Q v H
noncomputable def tC(v:V):TE:=fun _ H Q=>Q v H
theorem pe_var(hN:X.N[i]? =some x)(hv:Vis X.env.scope x)(hd:(x==("__debug__":Str))=false:=by decide) (hcd:(x==("__classdict__":Str))=false:=by decide):PE X (.Name x pos) (lV i):=by
 intro pins s σ H Q I h;obtain⟨v,e,h⟩:=h;obtain⟨m,hn,hl⟩:=I.loc;obtain⟨u,r,l⟩:=hl i x v hN e hv;have fin:EP X pins σ Q u s:=⟨v,H,I,r,h⟩;rcases l with⟨hk,hm⟩ |⟨hk,c,hc,hcell⟩
 ·exact E9 (wpAny_loadName_local I.ok.kind hk hn hm fin) hd
 ·rcases hk with hk|hk
  ·exact E9 (wpAny_loadName_cell I.ok.kind hk hc hcell fin) hd
  ·exact E9 (wpAny_loadName_free I.ok.kind hk hc hcell fin hcd) hd
theorem pe_int{i j pos}:PE X (.Constant (.int i) j pos) (tC (.int i)):=fun _ _ _ H _ I h=>wpAny_Constant_int ⟨.int i,H,I.tok _,⟨_,rfl⟩,h⟩
theorem pe_bl{b j pos}:PE X (.Constant (.bool b) j pos) (tC (.bl b)):=fun _ _ _ H _ I h=>Constant_bool ⟨.bl b,H,I,rfl,h⟩
theorem pe_non{j pos}:PE X (.Constant .none j pos) (tC .non):=fun _ _ _ H _ I h=>Constant_none ⟨.non,H,I,rfl,h⟩
theorem pe_str{x j pos}:PE X (.Constant (.str x) j pos) (tC (.str x)):=fun _ _ _ H _ I h=>Calls.Constant_str ⟨.str x,H,I.tok _,⟨_,rfl⟩,h⟩
noncomputable def Gl(X:Cx)(x:Str):Prop:=X.env.kindOf x=some .globalImplicit
theorem xW{σ:St}{H:Hp}{Q:Value->Shared->Prop}(I:Inv X pins σ H s)(hg:Gl X x)(hm:X.mg x=some u)(h:Q u s)
  (hd:(x==("__debug__":Str))=false:=by decide):wpAny (model X.prog X.w) X.A (eval (.Name x pos) X.env) Q E s:=
 yO I.ok.kind hg (Calls.loadGlobal_global (by rw[I.ok.glob];exact I.mod.glob.keeps I.bk) hm h) hd
theorem iS{σ:St}{H:Hp}{Q:Value->Shared->Prop}(I:Inv X pins σ H s)(hg:Gl X x)(hm:X.mg x=none)(hv:eU x=some u)(h:Q u s)
  (hn:x≠"__name__":=by decide) (hd:(x==("__debug__":Str))=false:=by decide):wpAny (model X.prog X.w) X.A (eval (.Name x pos) X.env) Q E s:=by
 obtain⟨mb,h1,h2⟩:=I.mod.blt;exact yO I.ok.kind hg (Calls.loadGlobal_builtin (by rw[I.ok.glob];exact I.mod.glob.keeps I.bk) hm (by rw[I.ok.blt];exact h1.keeps I.bk) ((h2 x hn).trans hv) h) hd
theorem pe_glob{v:V}(hg:Gl X x)(hm:X.mg x=some u)(r:RelV v u)(hd:(x==("__debug__":Str))=false:=by decide):PE X (.Name x pos) (tC v):=
 fun _ _ _ H _ I h=>xW I hg hm ⟨v,H,I,r,h⟩ hd
theorem pe_bltn{v:V}(hg:Gl X x)(hm:X.mg x=none)(hv:eU x=some u)(r:RelV v u)(hn:x≠"__name__":=by decide) (hd:(x==("__debug__":Str))=false:=by decide):PE X (.Name x pos) (tC v):=
 fun _ _ _ H _ I h=>iS I hg hm hv ⟨v,H,I,r,h⟩ hn hd
variable {a b:Expr}{ta tb:TE}{pos:Pos}
variable {tA tB':TT}{rest:List Expr}
noncomputable def tAnd(t u:TT):TT:=fun σ H Q=>t σ H fun c H1=>if c=true then u σ H1 Q else Q false H1
noncomputable def tOr(t u:TT):TT:=fun σ H Q=>t σ H fun c H1=>if c=true then Q true H1 else u σ H1 Q
noncomputable def tNot(t:TT):TT:=fun σ H Q=>t σ H fun c H1=>Q (!c) H1
theorem pw_and1(ha:PT X a tA):PW X (.BoolOp .And [a] pos) tA:=by
 intro wh pins s σ H Q I h;refine isTrue_and (thn (ha pins s σ H Q I h) fun c s1 e=>?_);cases c with
 |true=>exact isTrue_and_nil e
 |false=>exact e
theorem pw_or1(ha:PT X a tA):PW X (.BoolOp .Or [a] pos) tA:=by
 intro wh pins s σ H Q I h;refine isTrue_or (thn (ha pins s σ H Q I h) fun c s1 e=>?_);cases c with
 |false=>exact isTrue_or_nil e
 |true=>exact e
theorem GF(ha:PT X a tA)(hb:PW X (.BoolOp .And (b::rest) pos) tB'):PW X (.BoolOp .And (a::b::rest) pos) (tAnd tA tB'):=by
 intro wh pins s σ H Q I h;refine isTrue_and (thn (ha pins s σ H _ I h) fun c s1 ⟨H1,I1,q1⟩=>?_);cases c with
 |true=>exact hb wh pins s1 σ H1 Q I1 q1
 |false=>exact⟨H1,I1,q1⟩
theorem pw_or(ha:PT X a tA)(hb:PW X (.BoolOp .Or (b::rest) pos) tB'):PW X (.BoolOp .Or (a::b::rest) pos) (tOr tA tB'):=by
 intro wh pins s σ H Q I h;refine isTrue_or (thn (ha pins s σ H _ I h) fun c s1 ⟨H1,I1,q1⟩=>?_);cases c with
 |true=>exact⟨H1,I1,q1⟩
 |false=>exact hb wh pins s1 σ H1 Q I1 q1
theorem pt_not(ha:PT X a tA):PT X (.UnaryOp .Not a pos) (tNot tA):=by
 intro pins s σ H Q I h;exact isTrue_not (ha pins s σ H (fun c H1=>Q (!c) H1) I h)
noncomputable def FZ(ta tb:TE):TE:=fun σ H Q=>ta σ H fun x H1=>∃c,x=.bl c/\if c=true then tb σ H1 Q else Q (.bl false) H1
noncomputable def tOrV(ta tb:TE):TE:=fun σ H Q=>ta σ H fun x H1=>∃c,x=.bl c/\if c=true then Q (.bl true) H1 else tb σ H1 Q
noncomputable def FV(ta:TE):TE:=fun σ H Q=>ta σ H fun x H1=>∃c,x=.bl c/\Q (.bl (!c)) H1
theorem GV{op}{t:TE}(h:PE X a t):PE X (.BoolOp op [a] pos) t:=fun pins s σ H Q I hw=>BoolOp_one (h pins s σ H Q I hw)
theorem G1(ha:PE X a ta)(hb:PE X (.BoolOp .And (b::rest) pos) tb):PE X (.BoolOp .And (a::b::rest) pos) (FZ ta tb):=by
 intro pins s σ H Q I h;refine BoolOp_and (thn (ha pins s σ H _ I h) fun v s1 ⟨x,H1,I1,r1,q1⟩=>?_);obtain⟨c,rfl,q1⟩:=q1;cases r1;refine cY ?_;cases c with
 |true=>exact hb pins s1 σ H1 Q I1 q1
 |false=>exact⟨.bl false,H1,I1,rfl,q1⟩
theorem pe_or(ha:PE X a ta)(hb:PE X (.BoolOp .Or (b::rest) pos) tb):PE X (.BoolOp .Or (a::b::rest) pos) (tOrV ta tb):=by
 intro pins s σ H Q I h;refine BoolOp_or (thn (ha pins s σ H _ I h) fun v s1 ⟨x,H1,I1,r1,q1⟩=>?_);obtain⟨c,rfl,q1⟩:=q1;cases r1;refine cY ?_;cases c with
 |false=>exact hb pins s1 σ H1 Q I1 q1
 |true=>exact⟨.bl true,H1,I1,rfl,q1⟩
theorem pe_not(ha:PE X a ta):PE X (.UnaryOp .Not a pos) (FV ta):=by
 intro pins s σ H Q I h;refine UnaryOp_ (thn (ha pins s σ H _ I h) fun v s1 ⟨x,H1,I1,r1,q1⟩=>?_);obtain⟨c,rfl,q1⟩:=q1;cases r1;exact not_of (cY ⟨.bl (!c),H1,I1,rfl,q1⟩)
noncomputable def tIf(t:TT)(ta tb:TE):TE:=fun σ H Q=>t σ H fun c H1=>if c=true then ta σ H1 Q else tb σ H1 Q
theorem GW{c:Expr}(hc:PT X c tA)(ha:PE X a ta)(hb:PE X b tb):PE X (.IfExp c a b pos) (tIf tA ta tb):=by
 intro pins s σ H Q I h;refine wpAny_IfExp (thn (hc pins s σ H _ I h) fun d s1 ⟨H1,I1,q1⟩=>?_);cases d with
 |true=>exact ha pins s1 σ H1 Q I1 q1
 |false=>exact hb pins s1 σ H1 Q I1 q1
end
noncomputable def SqL(K:ah)(H:Hp)(a:Addr)(xs:List V):Prop:=
 Rd H a (.lst xs)\/
  ∃(o:Obj)(its:Array Value)(n:Nat),K.lookup a=some o/\o.cls=.type "list"/\o.dict=none/\o.data=.seq its n/\its.size<=sizeLine/\bX xs its.toList
noncomputable def SqT(K:ah)(H:Hp)(a:Addr)(xs:List V):Prop:=
 Rd H a (.tup xs)\/
  ∃(o:Obj)(its:Array Value)(n:Nat),K.lookup a=some o/\o.cls=.type "tuple"/\o.data=.seq its n/\its.size<=sizeLine/\bX xs its.toList
noncomputable def absV:Value->Option V
 |.none=>some .non
 |.bool b=>some (.bl b)
 |.int i _=>some (.int i)
 |.str x _=>some (.str x)
 |.bytes b _=>some (.byt b)
 |.float b _=>some (.flt b)
 |.ref a=>some (.ref a)
 |.type n=>some (.ty n)
 |_=>none
theorem RelV.abs{x:V}(r:RelV x u):absV u=some x:=by
 cases x with
 |non=>cases r;rfl
 |bl _=>cases r;rfl
 |int _=>obtain⟨t,rfl⟩:=r;rfl
 |str _=>obtain⟨t,rfl⟩:=r;rfl
 |byt _=>obtain⟨t,rfl⟩:=r;rfl
 |flt _=>obtain⟨t,rfl⟩:=r;rfl
 |ref _=>cases r;rfl
 |ty _=>cases r;rfl
theorem RelV.inj{x y:V}(r:RelV x u)(q:RelV y u):x=y:=bg (r.abs.symm.trans q.abs)
theorem bX.inj{xs ys:List V}(h:bX xs us):bX ys us->xs=ys:=by
 induction h generalizing ys with
 |nil=>intro k;cases k;rfl
 |cons r k ih=>
  intro w;cases w with
  |cons r' w'=>rw[r.inj r',ih w']
section
variable {X:Cx}{pins:List (Addr×Obj)}{σ:St}{H:Hp}{s:Shared}{a:Addr}{xs ys:List V}
theorem SqL.of(h:H a=some (.lst xs)):SqL K H a xs:=.inl (.inl h)
theorem SqT.of(h:H a=some (.tup xs)):SqT K H a xs:=.inl (.inl h)
theorem Inv.list(I:Inv X pins σ H s)(h:SqL X.K H a xs):∃its:List Value,bX xs its/\PlainL s.heap a its.toArray/\xs.length<=sizeLine:=by
 rcases h with h|⟨o,its,n,hk,hc,hd,hs,hz,r⟩
 ·obtain⟨z,its,n,r,e⟩:=h.ok I.hok
  exact⟨its,r,⟨_,n,e,rfl,rfl,rfl⟩,z⟩
 ·refine⟨its.toList,r,⟨o,n,I.kIn a o hk,hc,hd,by simpa using hs⟩,?_⟩
  have e:=r.length;simp only[cq]at e;omega
theorem Inv.tuple(I:Inv X pins σ H s)(h:SqT X.K H a xs):∃its:List Value,bX xs its/\IsTup s.heap a its.toArray/\xs.length<=sizeLine:=by
 rcases h with h|⟨o,its,n,hk,hc,hs,hz,r⟩
 ·obtain⟨z,its,r,p⟩:=h.ok I.hok
  exact⟨its,r,p,z⟩
 ·refine⟨its.toList,r,⟨o,I.kIn a o hk,hc,n,by simpa using hs⟩,?_⟩
  have e:=r.length;simp only[cq]at e;omega
theorem Inv.zR(I:Inv X pins σ H s)(h:SqL X.K H a xs)(h':SqL X.K H a ys):xs=ys:=by
 obtain⟨its,r,⟨o,n,e,_,_,d⟩,_⟩:=I.list h;obtain⟨its',r',⟨o',n',e',_,_,d'⟩,_⟩:=I.list h';rw[e]at e';cases e';rw[d]at d';injection d' with d1 _
 have :its=its':=by simpa using congrArg Array.toList d1
 subst this;exact r.inj r'
theorem Inv.jj(I:Inv X pins σ H s)(h:SqT X.K H a xs)(h':SqT X.K H a ys):xs=ys:=by
 obtain⟨its,r,⟨o,e,_,n,d⟩,_⟩:=I.tuple h;obtain⟨its',r',⟨o',e',_,n',d'⟩,_⟩:=I.tuple h';rw[e]at e';cases e';rw[d]at d';injection d' with d1 _
 have :its=its':=by simpa using congrArg Array.toList d1
 subst this;exact r.inj r'
end
section
variable {X:Cx}{st:Stmt}{rest:List Stmt}{t u:TS}{e:Expr}{te:TE}{pos:Pos}
noncomputable def y6:TS:=fun D σ H=>D.nx σ H
noncomputable def uY(t u:TS):TS:=fun D σ H=>t {D with nx:=u D} σ H
theorem pss_nil:PSs X [] y6:=fun _ _ σ H _ I h=>wpAny_execs_nil ⟨σ,H,I,h⟩
theorem sW(h1:PS X st t)(h2:PSs X rest u):PSs X (st::rest) (uY t u):=by
 intro pins s σ H D I h;refine wpAny_execs_cons (thn (h1 pins s σ H {D with nx:=u D} I h) fun f s1 q=>?_);cases f with
 |next =>
  obtain⟨σ',H',I',q⟩:=q;exact h2 pins s1 σ' H' D I' q
 |ret v=>exact q
 |brk=>exact q
 |cont=>exact q
noncomputable def FY:TS:=fun D σ H=>D.bk σ H
noncomputable def tCont:TS:=fun D σ H=>D.ct σ H
theorem ps_pass:PS X (.Pass pos) y6:=fun _ _ σ H _ I h=>wpAny_Pass ⟨σ,H,I,h⟩
theorem GJ:PS X (.Break pos) FY:=fun _ _ σ H _ I h=>wpAny_Break ⟨σ,H,I,h⟩
theorem zv:PS X (.Continue pos) tCont:=fun _ _ σ H _ I h=>wpAny_Continue ⟨σ,H,I,h⟩
theorem Inv.quiet{σ:St}{H:Hp}(I:Inv X pins σ H s):interactive X.env=false:=by simp[interactive,I.ok.kind]
noncomputable def FW(te:TE):TS:=fun D σ H=>te σ H fun _ H1=>D.nx σ H1
theorem ps_expr(he:PE X e te)(hs:r6 e none pos.line X.env=pure false:=by rfl):PS X (.Expr e pos) (FW te):=by
 intro pins s σ H D I h;exact wpAny_Expr_any (thn (he pins s σ H _ I h) fun v s1 ⟨x,H1,I1,r1,q1⟩=>⟨σ,H1,I1,q1⟩) I.quiet hs
noncomputable def tRet(te:TE):TS:=fun D σ H=>te σ H D.rt
theorem ps_ret(he:PE X e te):PS X (.Return (some e) pos) (tRet te):=by
 intro pins s σ H D I h;exact wpAny_Return_some (thn (he pins s σ H _ I h) fun v s1 ⟨x,H1,I1,r1,q1⟩=>⟨x,σ,H1,I1,r1,q1⟩)
noncomputable def FT:TS:=fun D _ H=>D.rt .non H
theorem ps_retN:PS X (.Return none pos) FT:=fun _ _ σ H _ I h=>wpAny_Return_none ⟨.non,σ,H,I,rfl,h⟩
noncomputable def tIfS(c:TT)(t u:TS):TS:=fun D σ H=>c σ H fun b H1=>if b=true then t D σ H1 else u D σ H1
theorem ps_if{c:Expr}{a b:List Stmt}{tc:TT}(hc:PT X c tc)(ha:PSs X a t)(hb:PSs X b u):PS X (.If c a b pos) (tIfS tc t u):=by
 intro pins s σ H D I h;refine wpAny_If (thn (hc pins s σ H _ I h) fun d s1 ⟨H1,I1,q1⟩=>?_);cases d with
 |true=>exact ha pins s1 σ H1 D I1 q1
 |false=>exact hb pins s1 σ H1 D I1 q1
end
noncomputable abbrev TG:=V->St->Hp->(St->Hp->Prop)->Prop
noncomputable abbrev TGs:=List V->St->Hp->(St->Hp->Prop)->Prop
noncomputable def PG(X:Cx)(target:Expr)(t:TG):Prop:=
 ∀(pins:List (Addr×Obj))(s:Shared)(σ:St)(H:Hp)(v:V)(u:Value)(Q:St->Hp->Prop),Inv X pins σ H s->RelV v u->t v σ H Q->
  wpAny (model X.prog X.w) X.A (assign target X.env u) (fun _ s'=>∃σ' H',Inv X pins σ' H' s'/\Q σ' H') X.xe s
noncomputable def PGs(X:Cx)(ts:List Expr)(t:TGs):Prop:=
 ∀(pins:List (Addr×Obj))(s:Shared)(σ:St)(H:Hp)(vs:List V)(us:List Value)(Q:St->Hp->Prop),Inv X pins σ H s->bX vs us->t vs σ H Q->
  wpAny (model X.prog X.w) X.A (assignInOrder ((gQ ts X.env).map (·.2)) us) (fun _ s'=>∃σ' H',Inv X pins σ' H' s'/\Q σ' H') X.xe s
section
variable {X:Cx}{pos:Pos}
noncomputable def kM(i:Nat):TG:=fun v σ H Q=>Q (σ.set i (some v)) H
theorem CM(hN:X.N.Nodup)(hi:X.N[i]? =some x)(hx:Loc X.env.scope x)(hf:X.fn x=true\/X.env.scope.names.lookup x=some .local:=by first |exact .inl rfl|exact .inr rfl|assumption):PG X (.Name x pos) (kM i):=by
 intro pins s σ H v u Q I r h;exact wpAny_assign_Name (zd I hN hi hx r (fun s' I'=>⟨_,H,I',h⟩) hf)
noncomputable def gNil:TGs:=fun vs σ H Q=>vs=[]/\Q σ H
noncomputable def HK(t:TG)(u:TGs):TGs:=fun vs σ H Q=>∃v r,vs=v::r/\t v σ H fun σ' H'=>u r σ' H' Q
theorem pgs_nil:PGs X [] gNil:=by
 intro pins s σ H vs us Q I r h;obtain⟨e,h⟩:=h;subst e;cases r;exact assignInOrder_nil ⟨σ,H,I,h⟩
theorem GR{es:List Expr}{t:TG}{u:TGs}(h1:PG X e t)(h2:PGs X es u)
  (hs:(gQ (e::es) X.env).map (·.2)=assign e X.env::(gQ es X.env).map (·.2):=by rfl):PGs X (e::es) (HK t u):=by
 intro pins s σ H vs us Q I r h;obtain⟨v,vr,e1,h⟩:=h;subst e1;cases r with
 |cons r rr=>
  rw[hs];refine assignInOrder_cons (thn (h1 pins s σ H _ _ _ I r h) fun _ s1 ⟨σ1,H1,I1,q1⟩=>?_);exact h2 pins s1 σ1 H1 _ _ Q I1 rr q1
noncomputable def gTup(K:ah)(n:Nat)(t:TGs):TG:=fun v σ H Q=>∃a xs,v=.ref a/\SqT K H a xs/\xs.length=n/\t xs σ H Q
theorem pg_tup{es:List Expr}{t:TGs}(hc:X.calm=true)(h:PGs X es t)
  (hn:(gQ es X.env).length=n:=by rfl) (hst:(gQ es X.env).findIdx? (·.1)=none:=by rfl):PG X (.Tuple es k pos) (gTup X.K n t):=by
 intro pins s σ H v u Q I r hw;obtain⟨a,xs,e1,hq,hl,hw⟩:=hw;subst e1;cases r;obtain⟨its,rv,ht,hz⟩:=I.tuple hq;refine assign_Tuple_tuple (I.ok.hd hc) ht (by simp[hn,<-hl,rv.length]) hst fun h' hx=>?_;have I1:Inv X pins σ H {s with heap:=h'}:=I.kept (t':=s.toks) fun b o e=>hx b o (aL (au e)) e;exact h pins _ σ H xs _ Q I1 (by simpa using rv) hw
noncomputable def wX(te:TE)(g:TG):TS:=fun D σ H=>te σ H fun x H1=>g x σ H1 D.nx
theorem GK{te:TE}{g:TG}(he:PE X e te)(hg:PG X tg g)(hs:IZ [tg] e pos.line X.env=pure false:=by rfl) (hw:swappedStores [tg] e X.env=pure none:=by rfl)
  (h1:(gQ [tg] X.env).map (·.2)=[assign tg X.env]:=by rfl):PS X (.Assign [tg] e pos) (wX te g):=by
 intro pins s σ H D I h;refine wpAny_Assign_stores (thn (he pins s σ H _ I h) fun v s1 ⟨x,H1,I1,r1,q1⟩=>?_) hs hw;rw[h1];exact thn (hg pins s1 σ H1 x v _ I1 r1 q1) fun _ s2 q=>q
theorem ps_set{te:TE}(hN:X.N.Nodup)(hi:X.N[i]? =some x)(hx:Loc X.env.scope x)(he:PE X e te)(hs:r6 e (some (.Name x pos')) pos.line X.env=pure false:=by rfl) (hf:X.fn x=true\/X.env.scope.names.lookup x=some .local:=by first |exact .inl rfl|exact .inr rfl|assumption):
  PS X (.Assign [.Name x pos'] e pos) (wX te (kM i)):=by
 intro pins s σ H D I h;refine wpAny_Assign_Name (thn (he pins s σ H _ I h) fun v s1 ⟨y,H1,I1,r1,q1⟩=>?_) hs;exact zd I1 hN hi hx r1 (fun s2 I2=>⟨_,H1,I2,q1⟩) hf
end
section
variable {X:Cx}{pos:Pos}
noncomputable def tWhile(c:TT)(tb:TS):TS:=fun D σ H=>∃W:Nat->St->Hp->Prop,(∃m,W m σ H)/\∀m σ H,W m σ H->
 c σ H fun b H1=>if b=true then ∃N:St->Hp->Prop,(∀σ' H',N σ' H'->∃m',m'<m/\W m' σ' H')/\tb {D with nx:=N,ct:=N,bk:=D.nx} σ H1 else D.nx σ H1
end
structure It where
 go:Nat->Hp->Prop
 yld:Nat->Hp->V->Hp->Prop
 stop:Nat->Hp->Prop
noncomputable def oy(X:Cx)(pins:List (Addr×Obj))(H:Hp)(b:Addr):Prop:=
 H b=none/\b≠X.env.locals/\b∉X.fs/\(b∈X.ex\/X.s₀.heap.objs.size<=b)/\(∀x c,X.env.cells.lookup x=some c->c≠b)/\∀p∈X.pn++pins,p.1≠b
theorem Inv.yd{X:Cx}{σ:St}{H H':Hp}(I:Inv X pins σ H s)(hb:s.heap.objs.size<=b)(hn:H' b=none):oy X pins H' b:=by
 refine⟨hn,dh (bj I.lt hb),I.nofs hb,.inr (aT I.sz hb),fun x c e z=>?_,fun p hp z=>?_⟩
 ·obtain⟨v,q⟩:=I.cell x c e
  exact absurd (bj q.lt (by rw[z];exact hb)) (eN _)
 ·exact absurd (bj (au (I.pin p hp).1) (by rw[z];exact hb)) (eN _)
structure Turn(P:Program)(w:World)(K:ah)(tg:Expr)(J:It)(fp:List Addr)(it:Addr)(tn:Nat->Heap->Prop):Prop where
 mem:it∈fp
 obj:∀i h,tn i h->∀b∈fp,∃o,h.get? b=some o/\∀v,o.data≠.cell v
 keep:∀i h h',tn i h->(∀b∈fp,∀o,h.get? b=some o->h'.get? b=some o)->tn i h'
 item:∀(X:Cx),X.prog=P->X.w=w->X.K=K->X.calm=true->∀(i:Nat)(pins:List (Addr×Obj))(s:Shared)(σ:St)(H:Hp)(E:Value->Shared->Prop),Inv X pins σ H s->(∀b∈fp,oy X pins H b)->tn i s.heap->J.go i H->
  wpAny (model P w) X.A (pyNext (.ref it)) (fun r s1=>∃u,r=some u/\
   wpAny (model P w) X.A (pY tg (.ref it) u) (fun _ s2=>∃x H',Inv X pins σ H' s2/\RelV x u/\J.yld i H x H'/\tn (i+1) s2.heap/\∀b∈fp,H' b=none) E s1) E s
 done:∀(X:Cx),X.prog=P->X.w=w->X.K=K->X.calm=true->∀(i:Nat)(pins:List (Addr×Obj))(s:Shared)(σ:St)(H:Hp)(E:Value->Shared->Prop),Inv X pins σ H s->(∀b∈fp,oy X pins H b)->tn i s.heap->J.stop i H->
  wpAny (model P w) X.A (pyNext (.ref it)) (fun r s1=>r=none/\Inv X pins σ H s1) E s
 self:∀(A:Around)(i:Nat)(s:Shared)(Q:Value->Shared->Prop)(E:Value->Shared->Prop),tn i s.heap->Q (.ref it) s->wpAny (model P w) A (pyIter (.ref it)) Q E s
noncomputable abbrev TI:=St->Hp->(It->Hp->Prop)->Prop
noncomputable def PIE(X:Cx)(pins:List (Addr×Obj))(σ:St)(tg:Expr)(R:It->Hp->Prop)(itv:Value)(s2:Shared):Prop:=
 ∃(it:Addr)(fp:List Addr)(tn:Nat->Heap->Prop)(J:It)(H':Hp),itv=.ref it/\Inv X pins σ H' s2/\Turn X.prog X.w X.K tg J fp it tn/\tn 0 s2.heap/\(∀b∈fp,oy X pins H' b)/\R J H'
noncomputable def PI(X:Cx)(tg iter:Expr)(wi:TI):Prop:=
 ∀(pins:List (Addr×Obj))(s:Shared)(σ:St)(H:Hp)(R:It->Hp->Prop),Inv X pins σ H s->wi σ H R->
  wpAny (model X.prog X.w) X.A (eval iter X.env) (fun v s1=>wpAny (model X.prog X.w) X.A (pyIter v) (PIE X pins σ tg R) X.xe s1) X.xe s
theorem Dc{M:Model}{o:Obj}{n:String}{vs:Array Value}{Q:Unit->Shared->Prop}(ho:s.heap.get? it=some o)(hc:o.cls=.type n)(hd:o.data=.fields vs)
  (hn:["enumerate","zip","dict_itemiterator","dict_reverseitemiterator","odict_iterator","itertools.zip_longest","itertools.pairwise"].contains n=false)(hQ:Q () s):wpAny M A (pY tg (.ref it) u) Q E s:=by
 unfold pY;cases tg<;>first
  |exact aj hQ
  | (cases u<;>first
    |exact aj hQ
    | (refine ae (wpAny_load ho ?_)
       rw[hc,hd];show wpAny M A (if(["enumerate","zip","dict_itemiterator","dict_reverseitemiterator","odict_iterator","itertools.zip_longest","itertools.pairwise"].contains n&&vs[0]? ==some (rawInt _))=true then _ else _) Q E s;rw[if_neg (by intro h;rw[hn,dG]at h;cases h)];exact aj hQ))
noncomputable def Itl(K:ah)(a:Addr):It:=
 ⟨fun i H=>∃xs x,SqL K H a xs/\xs[i]? =some x,fun i H x H'=>H'=H/\∀xs,SqL K H a xs->xs[i]? =some x,fun i H=>∃xs,SqL K H a xs/\xs.length<=i⟩
noncomputable def Itt(K:ah)(a:Addr):It:=
 ⟨fun i H=>∃xs x,SqT K H a xs/\xs[i]? =some x,fun i H x H'=>H'=H/\∀xs,SqT K H a xs->xs[i]? =some x,fun i H=>∃xs,SqT K H a xs/\xs.length<=i⟩
noncomputable def Itr(lo:Int)(n:Nat):It:=⟨fun i _=>i<n,fun i H x H'=>H'=H/\x=.int (lo+i),fun i _=>n<=i⟩
theorem vB(a it:Addr):Turn P w K tg (Itl K a) [it] it (fun i h=>h.IsListIter it a i) where
 mem:=by simp
 obj:=fun i h st b hb=>by
  have e:b=it:=by simpa using hb
  subst e;obtain⟨o,e,c,d⟩:=st;exact⟨o,e,fun v z=>by rw[d]at z;cases z⟩
 keep:=fun i h h' st k=>st.at fun o e=>k it (by simp) o e
 item:=by
  intro X hP hw hK hc i pins s σ H E I hf st hg;subst hP hw hK;obtain⟨xs,x,hq,hx⟩:=hg;obtain⟨its,rv,p,hz⟩:=I.list hq;obtain⟨u,hu,ru⟩:=rv.get hx;obtain⟨f0,f1,f2,f3,f4,f5⟩:=hf it (by simp);refine wpAny_pyNext_list_item st p.isList (x:=u) (by simpa using hu) fun h' st' sb=>?_;have I1:Inv X pins σ H {s with heap:=h'}:=I.turned (t':=s.toks) (fun b o hb e=>(sb.2 b hb).trans e) f0 f1 f3 f4 f5;obtain⟨o,e,c,d⟩:=id st';exact⟨u,rfl,Dc (s:={s with heap:=h'}) e c d (by decide) ⟨x,H,I1,ru,⟨rfl,fun ys hy=>by rw[I.zR hy hq];exact hx⟩,st',fun b hb=>(hf b hb).1⟩⟩
 done:=by
  intro X hP hw hK hc i pins s σ H E I hf st hg;subst hP hw hK;obtain⟨xs,hq,hx⟩:=hg;obtain⟨its,rv,p,hz⟩:=I.list hq;obtain⟨f0,f1,f2,f3,f4,f5⟩:=hf it (by simp);have hl:=rv.length;exact wpAny_pyNext_list_end (I.ok.hd hc) st p.isList (by simp;omega) fun h' eb=>⟨rfl,I.turned (t':=s.toks) (fun b o hb e=>eb b o hb e) f0 f1 f3 f4 f5⟩
 self:=fun _ _ _ _ _ st h=>wpAny_pyIter_listiter st h
theorem A4(a it:Addr):Turn P w K tg (Itt K a) [it] it (fun i h=>h.IsTupleIter it a i) where
 mem:=by simp
 obj:=fun i h st b hb=>by
  have e:b=it:=by simpa using hb
  subst e;obtain⟨o,e,c,d⟩:=st;exact⟨o,e,fun v z=>by rw[d]at z;cases z⟩
 keep:=fun i h h' st k=>st.at fun o e=>k it (by simp) o e
 item:=by
  intro X hP hw hK hc i pins s σ H E I hf st hg;subst hP hw hK;obtain⟨xs,x,hq,hx⟩:=hg;obtain⟨its,rv,p,hz⟩:=I.tuple hq;obtain⟨u,hu,ru⟩:=rv.get hx;obtain⟨f0,f1,f2,f3,f4,f5⟩:=hf it (by simp);refine wpAny_pyNext_tuple_item st (show s.heap.IsTuple a its.toArray from p) (x:=u) (by simpa using hu) fun h' st' sb=>?_;have I1:Inv X pins σ H {s with heap:=h'}:=I.turned (t':=s.toks) (fun b o hb e=>(sb.2 b hb).trans e) f0 f1 f3 f4 f5;obtain⟨o,e,c,d⟩:=id st';exact⟨u,rfl,Dc (s:={s with heap:=h'}) e c d (by decide) ⟨x,H,I1,ru,⟨rfl,fun ys hy=>by rw[I.jj hy hq];exact hx⟩,st',fun b hb=>(hf b hb).1⟩⟩
 done:=by
  intro X hP hw hK hc i pins s σ H E I hf st hg;subst hP hw hK;obtain⟨xs,hq,hx⟩:=hg;obtain⟨its,rv,p,hz⟩:=I.tuple hq;obtain⟨f0,f1,f2,f3,f4,f5⟩:=hf it (by simp);have hl:=rv.length;exact wpAny_pyNext_tuple_end (I.ok.hd hc) st (show s.heap.IsTuple a its.toArray from p) (by simp;omega) fun h' eb=>⟨rfl,I.turned (t':=s.toks) (fun b o hb e=>eb b o hb e) f0 f1 f3 f4 f5⟩
 self:=fun _ _ _ _ _ st h=>wpAny_pyIter_tupleiter st h
theorem A5(it:Addr)(lo:Int)(n:Nat):Turn P w K tg (Itr lo n) [it] it (fun i h=>IsRangeIter h it (lo+(i:Nat)*1) ((n:Int)-(i:Nat)) 1) where
 mem:=by simp
 obj:=fun i h st b hb=>by
  have e:b=it:=by simpa using hb
  subst e;exact⟨_,st,fun v z=>by
   have z':Data.fields _=Data.cell v:=z;cases z'⟩
 keep:=fun i h h' st k=>k it (by simp) _ st
 item:=by
  intro X hP hw hK hc i pins s σ H E I hf st hg;subst hP hw hK;obtain⟨f0,f1,f2,f3,f4,f5⟩:=hf it (by simp);have W:=Walks.range (prog:=X.prog) (w:=X.w) (I.ok.hd hc) it lo 1 n;refine W.item i s _ _ hg st fun v h' tk hv st' kk=>?_;obtain⟨t,rfl⟩:=hv;have I1:Inv X pins σ H {s with heap:=h',toks:=tk}:=I.turned (fun b o hb e=>kk b o (by simpa using hb) e) f0 f1 f3 f4 f5;refine⟨_,rfl,Dc (s:={s with heap:=h',toks:=tk}) (n:="range_iterator") st' rfl rfl (by decide) ⟨.int (lo+i),H,I1,⟨t,?_⟩,⟨rfl,rfl⟩,st',fun b hb=>(hf b hb).1⟩⟩;rw[Int.mul_one]
 done:=by
  intro X hP hw hK hc i pins s σ H E I hf st hg;subst hP hw hK;obtain⟨f0,f1,f2,f3,f4,f5⟩:=hf it (by simp);exact wpAny_pyNext_range_end (I.ok.hd hc) st (by have :n<=i:=hg;omega) fun h' eb=>⟨rfl,I.turned (t':=s.toks) (fun b o hb e=>eb b o hb e) f0 f1 f3 f4 f5⟩
 self:=fun _ _ _ _ _ st h=>wpAny_pyIter_rangeiter st h
section
variable {X:Cx}{tg:Expr}
noncomputable def HG(K:ah)(tl:TE):TI:=fun σ H R=>tl σ H fun x H1=>∃a,x=.ref a/\(∃xs,SqL K H1 a xs)/\R (Itl K a) H1
theorem pi_list{l:Expr}{tl:TE}(hl:PE X l tl):PI X tg l (HG X.K tl):=by
 intro pins s σ H R I h;refine thn (hl pins s σ H _ I h) fun v s1 ⟨x,H1,I1,r1,q1⟩=>?_;obtain⟨a,e,⟨xs,hq⟩,q⟩:=q1;subst e;cases r1;obtain⟨its,rv,p,hz⟩:=I1.list hq;refine i9 p.isList ?_;refine⟨s1.heap.objs.size,[s1.heap.objs.size],_,_,H1,rfl,I1.kept (t':=s1.toks) fun b o e=>ag _ e,vB a _,⟨_,aq _ rfl,rfl,rfl⟩,fun b hb=>?_,q⟩;have e:b=s1.heap.objs.size:=by simpa using hb
 subst e;exact I1.yd (aA _) (I1.hok.fresh (aA _))
theorem zu{σ:St}{H:Hp}{R:It->Hp->Prop}{lo hi:Int}{t u v:Tok}{tk:Nat}(I:Inv X pins σ H s)(h1: -(2^62)<=lo)(h2:lo<2^62)(h3: -(2^62)<=hi)(h4:hi<2^62)
  (q:R (Itr lo (hi-lo).toNat) H):wpAny (model X.prog X.w) X.A (pyIter (.ref s.heap.objs.size)) (PIE X pins σ tg R) E {s with heap:=s.heap.push {cls:=.type "range",data:=.fields #[.int lo t,.int hi u,.int 1 v]},toks:=tk}:=by
 refine wpAny_pyIter_range (IsRange.new ..) (small_one h1 h2 h3 h4) ?_;have I1:Inv X pins σ H {s with heap:=s.heap.push {cls:=.type "range",data:=.fields #[.int lo t,.int hi u,.int 1 v]},toks:=tk}:=I.kept fun b o e=>ag _ e;refine⟨(s.heap.push {cls:=.type "range",data:=.fields #[.int lo t,.int hi u,.int 1 v]}).objs.size,[(s.heap.push {cls:=.type "range",data:=.fields #[.int lo t,.int hi u,.int 1 v]}).objs.size],_,_,H,rfl,
  I1.kept (t':=tk) fun b o e=>ag _ e,A5 _ lo (hi-lo).toNat,?_,fun b hb=>?_,q⟩
 ·have e1:lo+((0:Nat):Int)*1=lo:=by simp
  have e2:(((hi-lo).toNat:Nat):Int)-((0:Nat):Int)=sC lo hi 1:=by rw[rangeSize_one];split <;>omega
  show IsRangeIter _ _ (lo+((0:Nat):Int)*1) ((((hi-lo).toNat:Nat):Int)-((0:Nat):Int)) 1;rw[e1,e2];exact aq _ rfl
 ·have e:b=(s.heap.push {cls:=.type "range",data:=.fields #[.int lo t,.int hi u,.int 1 v]}).objs.size:=by simpa using hb
  subst e;exact I1.yd (aA _) (I1.hok.fresh (aA _))
noncomputable def HF(ta:TA):TI:=fun σ H R=>ta σ H fun vs H1=>∃j:Int,vs=[.int j]∧-(2^62)<=j/\j<2^62/\R (Itr 0 j.toNat) H1
noncomputable def HE(ta:TA):TI:=fun σ H R=>ta σ H fun vs H1=>∃i j:Int,vs=[.int i,.int j]/\(-(2^62)<=i/\i<2^62∧-(2^62)<=j/\j<2^62)/\R (Itr i (j-i).toNat) H1
theorem Ec{a:Expr}{ta:TA}{p:Pos}(hg:Gl X "range")(hm:X.mg "range"=none)(ha:PA X [a] ta)(hs:bT [a] X.env=[(false,eval a X.env)]:=by rfl):PI X tg (.Call (.Name "range" p) [a] [] pos) (HF ta):=by
 intro pins s σ H R I h;refine Call_ (iS I hg hm boot_range (cw (thn (ha pos pins s σ H _ I h) fun us s1 ⟨vs,H1,I1,r1,q1⟩=>?_) hs rfl));obtain⟨j,e,q1,q2,q⟩:=q1;subst e;cases r1 with
 |cons r rr=>
  cases rr;obtain⟨t,rfl⟩:=r;exact call_range_1 (zu I1 (by omega) (by omega) q1 q2 (by simpa using q))
theorem Eb{a b:Expr}{ta:TA}{p:Pos}(hg:Gl X "range")(hm:X.mg "range"=none)(ha:PA X [a,b] ta)(hs:bT [a,b] X.env=[(false,eval a X.env),(false,eval b X.env)]:=by rfl) (hs2:bT [b] X.env=[(false,eval b X.env)]:=by rfl):
  PI X tg (.Call (.Name "range" p) [a,b] [] pos) (HE ta):=by
 intro pins s σ H R I h;refine Call_ (iS I hg hm boot_range (cw (thn (ha pos pins s σ H _ I h) fun us s1 ⟨vs,H1,I1,r1,q1⟩=>?_) (by rw[hs,hs2]) (by rw[hs2];rfl)));obtain⟨i,j,e,⟨q1,q2,q3,q4⟩,q⟩:=q1;subst e;cases r1 with
 |cons r rr=>
  cases rr with
  |cons r' rr=>
   cases rr;obtain⟨t,rfl⟩:=r;obtain⟨t',rfl⟩:=r';exact call_range_2 (zu I1 q1 q2 q3 q4 q)
noncomputable def tFor(wi:TI)(g:TG)(tb:TS):TS:=fun D σ H=>wi σ H fun J H1=>∃W:Nat->Nat->St->Hp->Prop,(∃m,W 0 m σ H1)/\∀i m σ H,W i m σ H->
 (J.stop i H/\D.nx σ H)\/(J.go i H/\∃N:St->Hp->Prop,(∀σ' H',N σ' H'->∃m',m'<m/\W (i+1) m' σ' H')/\∀x H',J.yld i H x H'->g x σ H' fun σ2 H2=>tb {D with nx:=N,ct:=N,bk:=D.nx} σ2 H2)
noncomputable def iP(fp:List Addr)(h:Heap):List (Addr×Obj):=fp.filterMap fun b=>(h.get? b).map fun o=>(b,o)
theorem iE{o:Obj}(hb:b∈fp)(e:h.get? b=some o):(b,o)∈iP fp h:=List.mem_filterMap.mpr ⟨b,hb,by rw[e];rfl⟩
theorem qr{p:Addr×Obj}(hp:p∈iP fp h):p.1∈fp/\h.get? p.1=some p.2:=by
 obtain⟨b,hb,e⟩:=List.mem_filterMap.mp hp;cases q:h.get? b with
 |none=>rw[q]at e;cases e
 |some o=>
  rw[q]at e;have e':(b,o)=p:=bg e;subst e';exact⟨hb,q⟩
theorem Inv.pinned{σ:St}{H:Hp}(I:Inv X pins σ H s)(hf:∀b∈fp,oy X pins H b)(ho:∀b∈fp,∃o,s.heap.get? b=some o/\∀v,o.data≠.cell v):Inv X (pins++iP fp s.heap) σ H s:=
 I.xx fun p hp=>(bc.mp hp).elim (fun z=>I.pin p (a8 _ z)) fun z=>by
  obtain⟨hb,e⟩:=qr z;obtain⟨f0,f1,f2,_⟩:=hf p.1 hb;obtain⟨o,e',d⟩:=ho p.1 hb;rw[e]at e';cases e';exact⟨e,f0,f1,f2,d⟩
theorem Inv.gS{pl:List (Addr×Obj)}{σ:St}{H:Hp}(I:Inv X (pins++pl) σ H s):Inv X pins σ H s:=I.xx fun p hp=>I.pin p (a8 _ (jm _ hp))
theorem ps_for{body:List Stmt}{wi:TI}{g:TG}{tb:TS}(hp:PassesOwn (model X.prog X.w) X.A X.env X.xe)(hc:X.calm=true)(hi:PI X tg iter wi)(hg:PG X tg g)(hb:PSs X body tb)
  (hs:∀x,jg iter X.env x=pure x:=by intro _;rfl):PS X (.For tg iter body [] pos) (tFor wi g tb):=by
 intro pins s σ H D I h;refine wpAny_For (thn (hi pins s σ H _ I h) fun v s1 h1=>thn h1 fun itv s2 h2=>?_) hs;obtain⟨it,fp,tn,J,H2,e,I2,T,st2,f2,W,⟨m0,w0⟩,turn⟩:=h2;subst e
 --what stays true of the iterator's objects through the loop
 have stat:∀{H':Hp},(∀b∈fp,H' b=none)->∀b∈fp,oy X pins H' b:=fun hn b hb=>⟨hn b hb,(f2 b hb).2⟩;refine codeAny_forLoop_any (fun n s'=>∃i σ' H',Inv X pins σ' H' s'/\tn i s'.heap/\(∀b∈fp,H' b=none)/\W i n σ' H') ?_ m0 ⟨0,σ,H2,I2,st2,fun b hb=>(f2 b hb).1,w0⟩;rintro n s3 ⟨i,σ3,H3,I3,st3,fr3,w3⟩;rcases turn i n σ3 H3 w3 with⟨stop,qn⟩ |⟨go,N,hN,step⟩
 ·refine k7 hp (thn (T.done X rfl rfl rfl hc i pins s3 σ3 H3 X.xe I3 (stat fr3) st3 stop) fun r s4 ⟨hr,I4⟩=>?_)
  subst hr;exact wpAny_execs_nil ⟨σ3,H3,I4,qn⟩
 ·refine k7 hp (thn (T.item X rfl rfl rfl hc i pins s3 σ3 H3 X.xe I3 (stat fr3) st3 go) fun r s4 ⟨u,hr,h4⟩=>?_)
  subst hr;refine k7 hp (thn h4 fun _ s5 ⟨x,H5,I5,r5,y5,st5,fr5⟩=>?_);have I5':=I5.pinned (stat fr5) (T.obj _ _ st5);refine k7 hp (thn (hg _ s5 σ3 H5 x u _ I5' r5 (step x H5 y5)) fun _ s6 ⟨σ6,H6,I6,q6⟩=>?_);refine k7 hp (thn (hb _ s6 σ6 H6 _ I6 q6) fun f s7 q7=>?_);have again:∀{σ7:St}{H7:Hp},Inv X (pins++iP fp s5.heap) σ7 H7 s7->N σ7 H7->∃m,m<n/\∃i σ' H',Inv X pins σ' H' s7/\tn i s7.heap/\(∀b∈fp,H' b=none)/\W i m σ' H':=fun{σ7 H7} I7 n7=>by
   obtain⟨m',hm,w7⟩:=hN σ7 H7 n7;refine⟨m',hm,i+1,σ7,H7,I7.gS,T.keep _ _ _ st5 fun b hb o e=>(I7.pin (b,o) (a8 _ (a8 _ (iE hb e)))).1,fun b hb=>?_,w7⟩;obtain⟨o,e,d⟩:=T.obj _ _ st5 b hb;exact(I7.pin (b,o) (a8 _ (a8 _ (iE hb e)))).2.1
  cases f with
  |next =>obtain⟨σ7,H7,I7,n7⟩:=q7;exact again I7 n7
  |cont=>obtain⟨σ7,H7,I7,n7⟩:=q7;exact again I7 n7
  |brk=>obtain⟨σ7,H7,I7,q7⟩:=q7;exact⟨σ7,H7,I7.gS,q7⟩
  |ret v=>obtain⟨x7,σ7,H7,I7,r7,q7⟩:=q7;exact⟨x7,σ7,H7,I7.gS,r7,q7⟩
end
noncomputable abbrev R2:=V->V->Hp->VK->Prop
noncomputable def OpR(X:Cx)(f:Value->Value->Sem Value)(r:R2):Prop:=
 ∀(pins:List (Addr×Obj))(s:Shared)(σ:St)(H:Hp)(x y:V)(v u:Value)(Q:VK),Inv X pins σ H s->RelV x v->RelV y u->r x y H Q->
  wpAny (model X.prog X.w) X.A (f v u) (EP X pins σ Q) X.xe s
noncomputable def fg(X:Cx)(f:Value)(r:List V->Hp->VK->Prop):Prop:=
 ∀(pins:List (Addr×Obj))(s:Shared)(σ:St)(H:Hp)(xs:List V)(us:List Value)(Q:VK),Inv X pins σ H s->bX xs us->r xs H Q->
  wpAny (model X.prog X.w) X.A (call f us) (EP X pins σ Q) X.xe s
noncomputable def TruR(X:Cx)(r:V->Hp->(Bool->Hp->Prop)->Prop):Prop:=
 ∀(pins:List (Addr×Obj))(s:Shared)(σ:St)(H:Hp)(x:V)(v:Value)(Q:Bool->Hp->Prop),Inv X pins σ H s->RelV x v->r x H Q->
  wpAny (model X.prog X.w) X.A (truthy v) (TP X pins σ Q) X.xe s
noncomputable def tOp(r:R2)(ta tb:TE):TE:=fun σ H Q=>ta σ H fun x H1=>tb σ H1 fun y H2=>r x y H2 Q
noncomputable def rI(C:Int->Int->Prop)(g:Int->Int->V):R2:=fun x y H Q=>∃i j,x=.int i/\y=.int j/\C i j/\Q (g i j) H
noncomputable def rI0(g:Int->Int->V):R2:=fun x y H Q=>∃i j,x=.int i/\y=.int j/\Q (g i j) H
section
variable {X:Cx}{a b c:Expr}{ta tb tc:TE}{pos:Pos}
theorem binT(ha:PE X a ta)(hb:PE X b tb){σ:St}{H:Hp}{R:V->V->Hp->Prop}(I:Inv X pins σ H s)
  (h:ta σ H fun x H1=>tb σ H1 fun y H2=>R x y H2){Q:Value->Shared->Prop}{f:Value->Value->Sem Value}
  (hf:∀v u s2 x y H2,Inv X pins σ H2 s2->RelV x v->RelV y u->R x y H2->wpAny (model X.prog X.w) X.A (f v u) Q X.xe s2):
  wpAny (model X.prog X.w) X.A (eval a X.env) (fun v s₁=>wpAny (model X.prog X.w) X.A (eval b X.env) (fun u s₂=>wpAny (model X.prog X.w) X.A (f v u) Q X.xe s₂) X.xe s₁) X.xe s:=by
 refine thn (ha pins s σ H _ I h) fun v s1 ⟨x,H1,I1,r1,q1⟩=>?_;refine thn (hb pins s1 σ H1 _ I1 q1) fun u s2 ⟨y,H2,I2,r2,q2⟩=>?_;exact hf v u s2 x y H2 I2 r1 r2 q2
theorem pe_op{op:Operator}{r:R2}(ho:OpR X (gp op) r)(ha:PE X a ta)(hb:PE X b tb):PE X (.BinOp a op b pos) (tOp r ta tb):=by
 intro pins s σ H Q I h;exact wpAny_BinOp (binT ha hb I h fun v u s2 x y H2 I2 rx ry q=>ho pins s2 σ H2 x y v u Q I2 rx ry q)
theorem opI{f:Value->Value->Sem Value}{C:Int->Int->Prop}{g:Int->Int->Int}
  (rule:∀(i j:Int)(t u:Tok)(s:Shared)(Q:Value->Shared->Prop)(E:Value->Shared->Prop),C i j->Q (.int (g i j) s.toks) {s with toks:=s.toks+1}->wpAny (model X.prog X.w) X.A (f (.int i t) (.int j u)) Q E s):
  OpR X f (rI C fun i j=>.int (g i j)):=by
 intro pins s σ H x y v u Q I rx ry h;obtain⟨i,j,rfl,rfl,hc,q⟩:=h;obtain⟨t,rfl⟩:=rx;obtain⟨t',rfl⟩:=ry;exact rule i j t t' s _ _ hc ⟨.int (g i j),H,I.tok _,⟨_,rfl⟩,q⟩
theorem opI0{f:Value->Value->Sem Value}{g:Int->Int->Int}
  (rule:∀(i j:Int)(t u:Tok)(s:Shared)(Q:Value->Shared->Prop)(E:Value->Shared->Prop),Q (.int (g i j) s.toks) {s with toks:=s.toks+1}->wpAny (model X.prog X.w) X.A (f (.int i t) (.int j u)) Q E s):
  OpR X f (rI0 fun i j=>.int (g i j)):=by
 intro pins s σ H x y v u Q I rx ry h;obtain⟨i,j,rfl,rfl,q⟩:=h;obtain⟨t,rfl⟩:=rx;obtain⟨t',rfl⟩:=ry;exact rule i j t t' s _ _ ⟨.int (g i j),H,I.tok _,⟨_,rfl⟩,q⟩
theorem opB0{f:Value->Value->Sem Value}{g:Int->Int->Bool}
  (rule:∀(i j:Int)(t u:Tok)(s:Shared)(Q:Value->Shared->Prop)(E:Value->Shared->Prop),Q (.bool (g i j)) s->wpAny (model X.prog X.w) X.A (f (.int i t) (.int j u)) Q E s):
  OpR X f (rI0 fun i j=>.bl (g i j)):=by
 intro pins s σ H x y v u Q I rx ry h;obtain⟨i,j,rfl,rfl,q⟩:=h;obtain⟨t,rfl⟩:=rx;obtain⟨t',rfl⟩:=ry;exact rule i j t t' s _ _ ⟨.bl (g i j),H,I,rfl,q⟩
noncomputable def IY(i j:Int):Prop:=0<j/\j<1073741824
noncomputable def E7(i j:Int):Prop:=0<=j/\j<=1000000/\i.natAbs<2^64
noncomputable def B6(i j:Int):Prop:=(-(2^64)<i/\i<2^64)\/(-(2^64)<j/\j<2^64)
theorem B6.ok{i j:Int}(h:B6 i j):IntMulOk i j:=by
 rcases h with⟨h1,h2⟩ |⟨h1,h2⟩
 ·exact .of_left (intBits_le_64 h1 h2)
 ·exact .of_right (intBits_le_64 h1 h2)
theorem A3(k:Nat):(0:Int)<=2^k:=by
 rw[two_pow_cast];exact Int.natCast_nonneg _
theorem op_add:OpR X (gp .Add) (rI0 fun i j=>.int (i+j)):=opI0 fun _ _ _ _ _ _ _ q=>add_int q
theorem op_sub:OpR X (gp .Sub) (rI0 fun i j=>.int (i-j)):=opI0 fun _ _ _ _ _ _ _ q=>sub_int q
theorem op_mul:OpR X (gp .Mult) (rI B6 fun i j=>.int (i*j)):=opI fun _ _ _ _ _ _ _ hc q=>mul_int q hc.ok
theorem op_fdiv:OpR X (gp .FloorDiv) (rI IY fun i j=>.int (i/j)):=opI fun i j _ _ _ _ _ hc q=>by
 have h1:(0:Int)<j:=hc.1;have h2:j<1073741824:=hc.2;exact floordiv_int (by omega) (by rw[AK i (by omega)];exact q) (.inl (PyProof.noPylong_small (by omega)))
theorem op_mod:OpR X (gp .Mod) (rI (fun _ j=>0<j) fun i j=>.int (i%j)):=opI fun i j _ _ _ _ _ hc q=>by
 have h1:(0:Int)<j:=hc;exact mod_int' (by omega) (by rw[Int.fmod_eq_emod_of_nonneg i (by omega)];exact q)
theorem op_pow:OpR X (gp .Pow) (rI E7 fun i j=>.int (i^j.toNat)):=opI fun _ _ _ _ _ _ _ hc q=>pow_int_small hc.1 hc.2.1 hc.2.2 q
theorem op_shl:OpR X (gp .LShift) (rI E7 fun i j=>.int (i*2^j.toNat)):=opI fun _ _ _ _ _ _ _ hc q=>lshift_int_small hc.1 hc.2.1 hc.2.2 q
theorem op_shr:OpR X (gp .RShift) (rI (fun _ j=>0<=j) fun i j=>.int (i/2^j.toNat)):=opI fun i j _ _ _ _ _ hc q=>
 rshift_int hc (by rw[AK i (A3 _)];exact q)
theorem op_and:OpR X (gp .BitAnd) (rI0 fun i j=>.int (iB i j)):=opI0 fun _ _ _ _ _ _ _ q=>and_int q
theorem op_xor:OpR X (gp .BitXor) (rI0 fun i j=>.int (jK i j)):=opI0 fun _ _ _ _ _ _ _ q=>xor_int q
end
section
variable {X:Cx}{a b c:Expr}{ta tb tc:TE}{pos:Pos}
theorem qy{σ:St}{H:Hp}{Q:VK}{k k':Bool}(I:Inv X pins σ H s)(q:Q (.bl k) H)(e:k=k'):EP X pins σ Q (.bool k') s:=by
 subst e;exact⟨.bl k,H,I,rfl,q⟩
theorem op_lt:OpR X (cP .Lt) (rI0 fun i j=>.bl (decide (i<j))):=opB0 fun _ _ _ _ _ _ _ q=>lt_int q
theorem op_le:OpR X (cP .LtE) (rI0 fun i j=>.bl (decide (i<=j))):=opB0 fun _ _ _ _ _ _ _ q=>le_int q
theorem op_gt:OpR X (cP .Gt) (rI0 fun i j=>.bl (decide (j<i))):=opB0 fun _ _ _ _ _ _ _ q=>gt_int q
theorem op_ge:OpR X (cP .GtE) (rI0 fun i j=>.bl (decide (j<=i))):=opB0 fun _ _ _ _ _ _ _ q=>ge_int q
theorem Ej:OpR X (cP .In) (fun x y H Q=>∃i j,x=.str i/\y=.str j/\Q (.bl (!(gH j i 0 j.length 1).isEmpty)) H):=by
 intro pins s σ H x y v u Q I rx ry h;obtain⟨i,j,rfl,rfl,q⟩:=h;obtain⟨t,rfl⟩:=rx;obtain⟨t',rfl⟩:=ry;exact in_str (qy I q rfl)
theorem op_isN:OpR X (cP .Is) (fun x y H Q=>y=.non/\Q (.bl (decide (x=.non))) H):=by
 intro pins s σ H x y v u Q I rx ry h;obtain⟨rfl,q⟩:=h;cases ry;refine is_none_gen (qy I q ?_);cases x<;>first
  | (cases rx;rfl)
  | (obtain⟨t,rfl⟩:=rx;rfl)
theorem op_notN:OpR X (cP .IsNot) (fun x y H Q=>y=.non/\Q (.bl (!decide (x=.non))) H):=by
 intro pins s σ H x y v u Q I rx ry h;obtain⟨rfl,q⟩:=h;cases ry;refine isnot_none_gen (qy I q ?_);cases x<;>first
  | (cases rx;rfl)
  | (obtain⟨t,rfl⟩:=rx;rfl)
theorem OpR.or{f:Value->Value->Sem Value}{r r':R2}(h:OpR X f r)(h':OpR X f r'):OpR X f (fun x y H Q=>r x y H Q\/r' x y H Q):=by
 intro pins s σ H x y v u Q I rx ry q;rcases q with q|q
 ·exact h pins s σ H x y v u Q I rx ry q
 ·exact h' pins s σ H x y v u Q I rx ry q
theorem pe_cmpR{op:CmpOp}{r:R2}(ho:OpR X (cP op) r)(ha:PE X a ta)(hb:PE X b tb)(hm:Ja op b=false):PE X (.Compare a [op] [b] pos) (tOp r ta tb):=by
 intro pins s σ H Q I h;exact wpAny_Compare1 (binT ha hb I h fun v u s2 x y H2 I2 rx ry q=>ho pins s2 σ H2 x y v u Q I2 rx ry q) hm
noncomputable def sI(t:TE):TT:=fun σ H Q=>t σ H fun x H'=>∃k,x=.bl k/\Q k H'
theorem pt_cmpR{op:CmpOp}{r:R2}(ho:OpR X (cP op) r)(ha:PE X a ta)(hb:PE X b tb)(hm:Ja op b=false):PT X (.Compare a [op] [b] pos) (sI (tOp r ta tb)):=by
 intro pins s σ H Q I h;refine wpAny_isTrue_Compare1 (thn (ha pins s σ H _ I h) fun v s1 ⟨x,H1,I1,r1,q1⟩=>thn (hb pins s1 σ H1 _ I1 q1) fun u s2 ⟨y,H2,I2,r2,q2⟩=>
  thn (ho pins s2 σ H2 x y v u _ I2 r1 r2 q2) fun c s3 ⟨z,H3,I3,r3,k,e,q3⟩=>?_) hm
 subst e;cases r3;exact cY ⟨H3,I3,q3⟩
noncomputable def sL(r r':R2)(ta tb tc:TE):TE:=fun σ H Q=>ta σ H fun x H1=>tb σ H1 fun y H2=>r x y H2 fun z H3=>∃k,z=.bl k/\
 (if k=true then tc σ H3 fun w' H4=>r' y w' H4 Q else Q (.bl false) H3)
theorem GY{op op':CmpOp}{r r':R2}(ho:OpR X (cP op) r)(ho':OpR X (cP op') r')(ha:PE X a ta)(hb:PE X b tb)(hc:PE X c tc)
  (hm:lastMarks [op,op'] [b,c]=false:=by with_unfolding_all rfl):PE X (.Compare a [op,op'] [b,c] pos) (sL r r' ta tb tc):=by
 intro pins s σ H Q I h;refine Compare_chain (thn (ha pins s σ H _ I h) fun v s1 ⟨x,H1,I1,r1,q1⟩=>chain_link (thn (hb pins s1 σ H1 _ I1 q1) fun u s2 ⟨y,H2,I2,r2,q2⟩=>
  thn (ho pins s2 σ H2 x y v u _ I2 r1 r2 q2) fun d s3 ⟨z,H3,I3,r3,k,e,q3⟩=>?_)) hm
 subst e;cases r3;refine cY ?_;cases k with
 |false=>exact ite_ff ⟨.bl false,H3,I3,rfl,q3⟩
 |true=>exact ite_tt (chain_last (thn (hc pins s3 σ H3 _ I3 q3) fun w' s4 ⟨z',H4,I4,r4,q4⟩=>ho' pins s4 σ H4 y z' u w' Q I4 r2 r4 q4))
theorem GI{op op':CmpOp}{r r':R2}(ho:OpR X (cP op) r)(ho':OpR X (cP op') r')(ha:PE X a ta)(hb:PE X b tb)(hc:PE X c tc)
  (hm:lastMarks [op,op'] [b,c]=false:=by with_unfolding_all rfl):PT X (.Compare a [op,op'] [b,c] pos) (sI (sL r r' ta tb tc)):=by
 intro pins s σ H Q I h;refine isTrue_chain (thn (ha pins s σ H _ I h) fun v s1 ⟨x,H1,I1,r1,q1⟩=>test_link (thn (hb pins s1 σ H1 _ I1 q1) fun u s2 ⟨y,H2,I2,r2,q2⟩=>
  thn (ho pins s2 σ H2 x y v u _ I2 r1 r2 q2) fun d s3 ⟨z,H3,I3,r3,k,e,q3⟩=>?_)) hm
 subst e;cases r3;refine cY ?_;cases k with
 |false=>
  obtain⟨k',e',q'⟩:=q3;cases e';exact ite_ff ⟨H3,I3,q'⟩
 |true=>
  refine ite_tt (test_last (thn (hc pins s3 σ H3 _ I3 q3) fun w' s4 ⟨z',H4,I4,r4,q4⟩=>thn (ho' pins s4 σ H4 y z' u w' _ I4 r2 r4 q4) fun d' s5 ⟨z2,H5,I5,r5,k2,e2,q5⟩=>?_));subst e2;cases r5;exact cY ⟨H5,I5,q5⟩
noncomputable def TruV(K:ah)(x:V)(H:Hp)(k:Bool):Prop:=
 match x with
 |.non=>k=false
 |.bl b=>k=b
 |.int i=>k=(i != 0)
 |.str y=>y.length<=sizeLine/\k=((y.length:Int) != 0)
 |.byt y=>y.size<=sizeLine/\k=((y.size:Int) != 0)
 |.ref p=>(∃xs,SqL K H p xs/\k= !xs.isEmpty)\/(∃xs,SqT K H p xs/\k= !xs.isEmpty)\/∃kvs,H p=some (.dK kvs)/\k= !kvs.isEmpty
 |_=>False
theorem BK{κ:Type}{kvs:List (κ×V)}{vs:List (κ×Value)}(r:KV kvs vs):(!vs.isEmpty)= !kvs.isEmpty:=by
 cases r<;>rfl
theorem tR{xs:List V}(r:bX xs its):(!its.toArray.isEmpty)= !xs.isEmpty:=by
 cases r<;>simp
theorem qv:(sizeLine:Nat)<2^63:=by rw[rM];decide
theorem tru_ok:TruR X (fun x H Q=>∃k,TruV X.K x H k/\Q k H):=by
 intro pins s σ H x v Q I rx h;obtain⟨k,e,q⟩:=h;have hl:=qv;have hs:sizeLine=16777216:=rM;cases x with
 |non=>
  cases rx;have e':k=false:=e;subst e';exact truthy_none ⟨H,I,q⟩
 |bl b=>
  cases rx;have e':k=b:=e;subst e';exact cY ⟨H,I,q⟩
 |int i=>
  obtain⟨t,rfl⟩:=rx;have e':k=(i != 0):=e;subst e';exact PySem.P.truthy_int ⟨H,I,q⟩
 |str y=>
  obtain⟨t,rfl⟩:=rx;obtain⟨hy,e'⟩:y.length<=sizeLine/\k=((y.length:Int) != 0):=e;subst e';exact PySem.P.truthy_str (by omega) ⟨H,I.tok _,q⟩
 |byt y=>
  obtain⟨t,rfl⟩:=rx;obtain⟨hy,e'⟩:y.size<=sizeLine/\k=((y.size:Int) != 0):=e;subst e';exact PySem.W.truthy_bytes (by omega) ⟨H,I.tok _,q⟩
 |ref p=>
  cases rx;have e':(∃xs,SqL X.K H p xs/\k= !xs.isEmpty)\/(∃xs,SqT X.K H p xs/\k= !xs.isEmpty)\/∃kvs,H p=some (.dK kvs)/\k= !kvs.isEmpty:=e;rcases e' with⟨xs,hx,e'⟩ |⟨xs,hx,e'⟩ |⟨kvs,hx,e'⟩
  ·subst e'
   obtain⟨its,r,pl,hz⟩:=I.list hx;have hlen:=r.length;exact wpAny_truthy_list pl.isList (by simp only[aG];omega) ⟨H,I.tok _,by rw[tR r];exact q⟩
  ·subst e'
   obtain⟨its,r,pl,hz⟩:=I.tuple hx;have hlen:=r.length;exact truthy_tuple pl (by simp only[aG];omega) ⟨H,I.tok _,by rw[tR r];exact q⟩
  ·subst e'
   obtain⟨hz,hS,vs,r,m⟩:kvs.length<=sizeLine/\(p==gc)=false/\∃vs,KV kvs vs/\s.heap.DictOf (cH X.prog X.w) p vs:=I.hok p _ hx;have hlen:kvs.length=vs.length:=lh r;exact wpAny_truthy_dict hS m (by omega) ⟨H,I.tok _,by rw[BK r];exact q⟩
 |_=>exact(show False from e).elim
theorem kE(ha:PE X a ta)(he:∀whole,isTrue a X.env whole=(do let v<-whole;standAt a.pos;holding [v] (truthy v))):
  PT X a (fun σ H Q=>ta σ H fun x H'=>∃k,TruV X.K x H' k/\Q k H'):=by
 intro pins s σ H Q I h;exact isTrue_plain (thn (ha pins s σ H _ I h) fun v s1 ⟨x,H1,I1,r1,q1⟩=>tru_ok pins s1 σ H1 x v Q I1 r1 q1) (he _)
theorem Bw:OpR X (gp .Add) (fun x y H Q=>∃i j,x=.str i/\y=.str j/\i.length+j.length<=sizeLine/\Q (.str (i++j)) H):=by
 intro pins s σ H x y v u Q I rx ry h;obtain⟨i,j,rfl,rfl,hz,q⟩:=h;obtain⟨t,rfl⟩:=rx;obtain⟨t',rfl⟩:=ry;exact add_str (fun t' tk=>⟨.str (i++j),H,I.tok _,⟨_,rfl⟩,q⟩) hz
theorem vals1{x:V}(r:bX [x] us):∃u,us=[u]/\RelV x u:=by
 cases r with
 |cons r1 r2=>cases r2;exact⟨_,rfl,r1⟩
theorem vals2{x y:V}(r:bX [x,y] us):∃u w',us=[u,w']/\RelV x u/\RelV y w':=by
 cases r with
 |cons r1 r2=>
  cases r2 with
  |cons r3 r4=>cases r4;exact⟨_,_,rfl,r1,r3⟩
theorem E3:fg X (.type "int") (fun xs H Q=>(∃i,xs=[.int i]/\Q (.int i) H)\/∃k,xs=[.bl k]/\Q (.int (if k then 1 else 0)) H):=by
 intro pins s σ H xs us Q I r h;rcases h with⟨i,rfl,q⟩ |⟨k,rfl,q⟩
 ·obtain⟨u,rfl,t,rfl⟩:=vals1 r
  exact call_int_int ⟨.int i,H,I,⟨_,rfl⟩,q⟩
 ·obtain⟨u,rfl,r1⟩:=vals1 r
  cases r1;exact call_int_bool ⟨.int (if k then 1 else 0),H,I.tok _,⟨_,rfl⟩,q⟩
end
structure ObjM(h:Heap)(x dx C:Addr)(mA:Str->Option Value):Prop where
 obj:h.get? x=some (uI C dx)
 ns:h.Ns1 dx mA
 ne:dx≠x
theorem EC(n:h.Ns1 dx mA):∃od,h.get? dx=some od/\∀name,vv name od=some (mA name):=by
 obtain⟨o,es,ep,ho,hd,hk,_,hm⟩:=n;refine⟨o,ho,fun name=>?_⟩;have e:=hm name;unfold nsFind findBy at e;rw[<-Array.find?_toList]at e;unfold vv;rw[hd];dsimp only;split
 ·rename_i y q
  rw[q]at e;exact congrArg some e
 ·rename_i q
  rw[q]at e;have a:es.toList.any (·.refKey)=false:=by
   rw[List.any_eq_false];intro y hy;obtain⟨z,t,hkey⟩:=hk y (ji.mp hy);simp[DictEntry.refKey,hkey]
  have a':¬es.toList.any (·.refKey)=true:=by rw[a];exact aE
  rw[if_neg a'];exact congrArg some e
theorem ObjM.look{x:Addr}(I:ObjM h x dx C mA):∃od,PySem.W.InstAt h x (uI C dx) C (some od)/\∀name,vv name od=some (mA name):=
 let⟨od,ho,hl⟩:=EC I.ns
 ⟨od,⟨I.obj,rfl,rfl,ho⟩,hl⟩
noncomputable def putF(f:Str)(v:V):List (Str×V)->List (Str×V)
 | []=>[(f,v)]
 | (g,x)::r=>if g=f then(g,v)::r else(g,x)::putF f v r
theorem uG.some_of{v:V}{o:Option Value}(r:uG (some v) o):∃u,o=some u/\RelV v u:=by
 cases o with
 |none=>exact(show False from r).elim
 |some u=>exact⟨u,rfl,r⟩
section
variable {P:Program}{w:World}{H H':Hp}{h h':Heap}{a C dx:Addr}{fs fs':List (Str×V)}
theorem ins_get(hok:HOk P w H h)(e:H a=some (.ins C dx fs)):∃mA,ObjM h a dx C mA/\(∀f,uG (fs.lookup f) (mA f))/\B9 mA (fs.map (·.1))/\fs.length<=1000/\H dx=some (.own a):=by
 obtain⟨d,z,ne,ob,mA,n,r,q⟩:=(show dN P w H h a (.ins C dx fs)from hok a _ e);exact⟨mA,⟨ob,n,ne⟩,r,q,z,d⟩
end
structure Cls(K:ah)(C:Addr):Prop where
 pg:Jf K C Str.empty=true
 hd:PySem.W.hasDictIn K C=true
 po:PySem.W.plainOver K C=true
 sa:jJ K (.ref C) "__setattr__"=some (some (.builtin "object.__setattr__"))
theorem Cls.get(c:Cls K C)(f:Str):Jf K C f=true:=c.pg
noncomputable def IU(K:ah)(C:Addr)(f:Str):Prop:=jJ K (.ref C) f=some none
structure Meth(K:ah)(C:Addr)(m:Str)(f:Addr):Prop where
 at_:jJ K (.ref C) m=some (some (.ref f))
 fn:PySem.W.isFn K (.ref f)=true
 kp:cU K (.ref f)=true
noncomputable def tFld(K:ah)(ta:TE)(f:Str):TE:=fun σ H Q=>ta σ H fun x H1=>∃a C dx fs v,x=.ref a/\H1 a=some (.ins C dx fs)/\Cls K C/\IU K C f/\fs.lookup f=some v/\Q v H1
noncomputable def sFld(K:ah)(ta tv:TE)(f:Str):TS:=fun D σ H=>tv σ H fun y H1=>ta σ H1 fun x H2=>∃a C dx fs,x=.ref a/\H2 a=some (.ins C dx fs)/\Cls K C/\IU K C f/\fs.length<1000/\
 D.nx σ (upd H2 a (.ins C dx (putF f y fs)))
section
variable {X:Cx}{pins:List (Addr×Obj)}{σ:St}{H:Hp}{s:Shared}{A:Around}{E:Value->Shared->Prop}{Q:Value->Shared->Prop}{c:Value}{b:Bool}
inductive lY (K:ah) (H:Hp):V->Value->Prop where
 |non:lY K H .non (.type "NoneType")
 |bl (x:Bool):lY K H (.bl x) (.type "bool")
 |int (i:Int):lY K H (.int i) (.type "int")
 |str (x:Str):lY K H (.str x) (.type "str")
 |flt (x:UInt64):lY K H (.flt x) (.type "float")
 |lst {a:Addr} {xs:List V} (e:H a=some (.lst xs)):lY K H (.ref a) (.type "list")
 |frz {a:Addr} {o:Obj} {xs:List V} (e:H a=some (.frz o (.lst xs))):lY K H (.ref a) (.type "list")
 |tup {a:Addr} {xs:List V} (e:H a=some (.tup xs)):lY K H (.ref a) (.type "tuple")
 |dK {a:Addr} {kvs:List (Key×V)} (e:H a=some (.dK kvs)):lY K H (.ref a) (.type "dict")
 |dT {a:Addr} {kvs:List (List Key×V)} (e:H a=some (.dT kvs)):lY K H (.ref a) (.type "dict")
 |ins {a C dx:Addr} {fs:List (Str×V)} (e:H a=some (.ins C dx fs)) (cl:Cls K C) (ha:jJ K (.ref C) "__class__"=some (some (.builtin "object.__class__")))
   (hn:PySem.W.specialIn K (.builtin "object.__class__") "__get__"=some (some (.builtin "getset_descriptor.__get__"))) (htk:PySem.W.takesIn K (.builtin "object.__class__")=some true)
   (hm:PySem.W.mroIn K C (.type "object")=some true):lY K H (.ref a) (.ref C)
theorem vU{x:V}{t:Value}(I:Inv X pins σ H s)(rx:RelV x u)(ty:lY X.K H x t)(e:iy X.K t c=some b)(h:∀tk,Q (.bool b) {s with toks:=tk}):
  wpAny (model X.prog X.w) A (call (.builtin "isinstance") [u,c]) Q E s:=by
 cases ty with
 |non=>cases(show u=bL from rx);exact dm PySem.W.kitx_none I.kIn True.intro e (fun z=>nomatch z) h
 |bl y=>cases(show u=yG y from rx);exact dm PySem.W.kitx_bool I.kIn True.intro e (fun z=>nomatch z) h
 |int i=>obtain⟨t,q⟩:=(show ∃t,u=fS i t from rx);cases q;exact dm PySem.W.kitx_int I.kIn True.intro e (fun z=>nomatch z) h
 |str y=>obtain⟨t,q⟩:=(show ∃t,u=fF y t from rx);cases q;exact dm PySem.W.kitx_str I.kIn True.intro e (fun z=>nomatch z) h
 |flt y=>obtain⟨t,q⟩:=(show ∃t,u=Value.float y t from rx);cases q;exact dm PySem.W.kitx_float I.kIn True.intro e (fun z=>nomatch z) h
 | @lst a xs ea=>
  cases(show u=cK a from rx);obtain⟨_,_,n,_,h1⟩:=(show dN X.prog X.w H s.heap a (.lst xs)from I.hok a _ ea);exact dm Fq I.kIn ⟨_,h1,rfl⟩ e (fun z=>nomatch z) h
 | @frz a ob xs ea=>
  cases(show u=cK a from rx);obtain⟨_,_,_,n,_,h1⟩:=(show dN X.prog X.w H s.heap a (.frz ob (.lst xs))from I.hok a _ ea);exact dm Fq I.kIn ⟨_,h1,rfl⟩ e (fun z=>nomatch z) h
 | @tup a xs ea=>
  cases(show u=cK a from rx);obtain⟨_,_,_,p⟩:=(show dN X.prog X.w H s.heap a (.tup xs)from I.hok a _ ea);obtain⟨o,h1,h2,_⟩:=p;exact dm PySem.W.kitx_tuple I.kIn ⟨o,h1,h2⟩ e (fun z=>nomatch z) h
 | @dK a kvs ea=>
  cases(show u=cK a from rx);obtain⟨_,_,vs,_,p⟩:=(show dN X.prog X.w H s.heap a (.dK kvs)from I.hok a _ ea);obtain⟨o,es,ep,h1,h2,_⟩:=p;exact dm Ft I.kIn ⟨o,h1,h2.1⟩ e (fun z=>nomatch z) h
 | @dT a kvs ea=>
  cases(show u=cK a from rx);obtain⟨_,_,xs,_,o,es,ep,h1,h2,_⟩:=(show dN X.prog X.w H s.heap a (.dT kvs)from I.hok a _ ea);exact dm Ft I.kIn ⟨o,h1,h2.1⟩ e (fun z=>nomatch z) h
 | @ins a C dx fs ea cl ha hn htk hm=>
  cases(show u=cK a from rx);obtain⟨mA,O,_⟩:=ins_get I.hok ea;obtain⟨od,J,_⟩:=O.look;exact dm (PySem.W.kitx_own (cl.get _) cl.hd ha hn htk hm) I.kIn J e (fun z=>nomatch z) h
end
structure ke(k:Nat)(A:Around):Prop where
 hd:A.handled=none
 dp:A.depth+3*k+5<ja
 un:A.units+16*k+200<cLine
theorem ke.mono(r:ke k A)(h:j<=k):ke j A:=⟨r.hd,by have :=r.dp;omega,by have :=r.un;omega⟩
theorem ke.deeper(r:ke (k+1) A)(env:Env):ke k (A.deeper env):=
 ⟨r.hd,by have :=r.dp;show A.depth+1+3*k+5<_;omega,by have :=r.un;show A.units+3+16*k+200<_;omega⟩
theorem ke.depth(r:ke k A):A.depth<ja:=by have :=r.dp;omega
theorem ke.units(r:ke k A):A.units+64<cLine:=by have :=r.un;omega
noncomputable def qh:TA:=fun _ H Q=>Q [] H
noncomputable def iZ(ta:TE)(tr:TA):TA:=fun σ H Q=>ta σ H fun x H1=>tr σ H1 fun xs H2=>Q (x::xs) H2
section
variable {X:Cx}{e:Expr}{es:List Expr}{te:TE}{t:TA}{pos:Pos}
theorem jY:PA X [] qh:=fun _ _ _ _ H Q I h=>Calls.spliced_nil ⟨[],H,I,.nil,h⟩
theorem fM(ha:PE X e te)(hr:PA X es t)(hs:bT (e::es) X.env=(false,eval e X.env)::bT es X.env:=by rfl):PA X (e::es) (iZ te t):=by
 intro pos pins s σ H Q I h;rw[hs];show wpAny _ _ (spliced ((false,eval e X.env)::backTo pos (bT es X.env))) _ _ s;refine qK (thn (ha pins s σ H _ I h) fun u s1 ⟨x,H1,I1,r1,q1⟩=>?_);exact thn (hr pos pins s1 σ H1 _ I1 q1) fun us s2 ⟨xs,H2,I2,r2,q2⟩=>⟨x::xs,H2,I2,.cons r1 r2,q2⟩
noncomputable def tTup(t:TA):TE:=fun σ H Q=>t σ H fun xs H1=>xs.length<=sizeLine/\∀p,H1 p=none->Q (.ref p) (upd H1 p (.tup xs))
noncomputable def tLst(t:TA):TE:=fun σ H Q=>t σ H fun xs H1=>xs.length<=sizeLine/\∀p,H1 p=none->Q (.ref p) (upd H1 p (.lst xs))
theorem pe_tup{x1}(h:PA X es t):PE X (.Tuple es x1 pos) (tTup t):=by
 intro pins s σ H Q I hq;refine wpAny_Tuple_spliced (thn (h pos pins s σ H _ I hq) fun us s1 ⟨xs,H1,I1,r,z,q⟩=>⟨by rw[<-r.length];exact z,?_⟩);have hf:H1 s1.heap.objs.size=none:=I1.hok.fresh (aA _);refine⟨.ref s1.heap.objs.size,upd H1 s1.heap.objs.size (.tup xs),I1.laid (t':=s1.toks) (fun b u e=>ag _ e) (aA _) ?_,rfl,q _ hf⟩;exact⟨z,us,r,⟨_,aq _ rfl,rfl,_,rfl⟩⟩
theorem pe_lst(h:PA X es t):PE X (.List es pos) (tLst t):=by
 intro pins s σ H Q I hq;refine wpAny_List_spliced (thn (h pos pins s σ H _ I hq) fun us s1 ⟨xs,H1,I1,r,z,q⟩=>⟨by rw[<-r.length];exact z,?_⟩);have hf:H1 s1.heap.objs.size=none:=I1.hok.fresh (aA _);refine⟨.ref s1.heap.objs.size,upd H1 s1.heap.objs.size (.lst xs),I1.laid (t':=s1.toks) (fun b u e=>ag _ e) (aA _) ?_,rfl,q _ hf⟩;exact⟨z,us,0,r,aq _ rfl⟩
end
noncomputable abbrev Sp:=List V->Hp->VK->XK->Prop
noncomputable abbrev CXT:=List Env->Hp->Shared->XK->Value->Shared->Prop
structure Env0(P:Program)(w:World)(K:ah)(mg:Str->Option Value)(base:Heap)(A:Around)(outer:List Env)(s:Shared)(H:Hp):Prop where
 frames:A.frames=some outer
 mod:Mod K mg base
 bs:∀b o,base.get? b=some o->s.heap.get? b=some o/\H b=none
 bsz:base.objs.size<=s.heap.objs.size
 yc:s.heap.FunFrames base outer
 frf:∀b∈frs outer,H b=none
 hok:HOk P w H s.heap
 bare:nr s.gens
noncomputable def CE(outer:List Env)(P:Program)(w:World)(H:Hp)(s:Shared)(Q:VK)(u:Value)(s':Shared):Prop:=
 ∃v H',s'.os=s.os/\nr s'.gens/\Un (frs outer) [] H H' s.heap s'.heap/\HOk P w H' s'.heap/\RelV v u/\Q v H'
noncomputable def CR(CX:CXT)(outer:List Env)(P:Program)(w:World)(H:Hp)(s:Shared)(Q:VK)(E:XK)(r:Result)(s':Shared):Prop:=
 match r with
 |.ok (.ret u)=>CE outer P w H s Q u s'
 |.ok _=>False
 |.error e=>CX outer H s E e s'
structure jA(P:Program)(w:World)(K:ah)(mg:Str->Option Value)(base:Heap)(CX:CXT)(k:Nat)(f:Addr)(fd:gu)(ps:List Str)(sp:Sp):Prop where
 len:∀vs H Q E,sp vs H Q E->vs.length=ps.length
 run:∀(A:Around)(outer:List Env)(s:Shared)(H:Hp)(args:Args)(us:List Value)(vs:List V)(Q:VK)(E:XK),ke k A->Env0 P w K mg base A outer s H->BindsTo s fd args (ps.zip us)->bX vs us->sp vs H Q E->
  hZ (model P w) A (.call (.ref f) args) (CR CX outer P w H s Q E) s
section
variable {X:Cx}{pins:List (Addr×Obj)}{σ:St}{H:Hp}{s s':Shared}
theorem Inv.env0(I:Inv X pins σ H s):Env0 X.prog X.w X.K X.mg X.base X.A X.stack s H:=
 ⟨I.ok.frames,I.ok.mod,I.bs,aT I.ok.bsz I.sz,I.stack,I.wY,I.hok,I.bare⟩
theorem Inv.after{Q:VK}(I:Inv X pins σ H s)(h:CE X.stack X.prog X.w H s Q u s'):EP X pins σ Q u s':=by
 obtain⟨v,H',os,bare,un,hok,r,q⟩:=h;obtain⟨hh,g,d,t,os'⟩:=s';obtain rfl:os'=s.os:=os;exact⟨v,H',I.call (h':=hh) (g':=g) (d':=d) (t':=t) (ch:=[]) un hok bare (fun b z=>absurd z (by simp)),r,q⟩
end
noncomputable def y8(sp:Sp)(dvs:List V)(E:XK)(t:TA):TE:=fun σ H Q=>t σ H fun vs H1=>sp (vs++dvs) H1 Q E
noncomputable def tMeth(C:Addr)(m:Str)(sp:Sp)(dvs:List V)(E:XK)(ta:TE)(t:TA):TE:=fun σ H Q=>ta σ H fun x H1=>∃a dx fs,x=.ref a/\H1 a=some (.ins C dx fs)/\fs.lookup m=none/\
 t σ H1 fun vs H2=>sp (x::(vs++dvs)) H2 Q E
noncomputable def tMake(C:Addr)(sp:Sp)(dvs:List V)(E:XK)(t:TA):TE:=fun σ H Q=>t σ H fun vs H1=>∀x dx,H1 x=none->H1 dx=none->dx≠x->
 sp (.ref x::(vs++dvs)) (upd (upd H1 dx (.own x)) x (.ins C dx [])) (fun v H2=>v=.non/\Q (.ref x) H2) E
noncomputable def Binds(K:ah)(fd:gu)(ps:List Str)(ds:List Value):Prop:=
 ∀(s:Shared)(us:List Value),K.In s.heap->(us++ds).length=ps.length->BindsTo s fd ⟨us,[]⟩ (ps.zip (us++ds))
theorem Binds.all{fd:gu}{ps:List Str}(h:∀us:List Value,us.length=ps.length->oB fd ⟨us,[]⟩=pure (ps.zip us)):Binds K fd ps []:=fun s us _ hl=>by
 rw[jD]at hl⊢;exact .of_eq (h us hl)
section
variable {X:Cx}{CX:CXT}{k:Nat}{f C:Addr}{fd:gu}{ps:List Str}{sp:Sp}{dvs:List V}{ds:List Value}{E:XK}{x m:Str}{p pos apos:Pos}{e o:Expr}{es:List Expr}{ta:TE}{t:TA}
structure Mk(K:ah)(C f:Addr):Prop where
 makes:PySem.W.makesIn K C=true
 init:jJ K (.ref C) "__init__"=some (some (.ref f))
 fn:PySem.W.isFn K (.ref f)=true
 kp:cU K (.ref C)=true
end
structure yC(N P:List Str)(sc:Scope):Prop where
 kind:sc.kind=.function
 co:sc.isCoroutine=false
 gen:sc.isGenerator=false
 nd:N.Nodup
 pre:N.take P.length=P
 par:∀x∈P,sc.names.lookup x=some .local\/sc.names.lookup x=some .cell
 nofree:∀y∈sc.names,y.2≠.free
theorem wz{kindOf:Str->Option eh}:∀{binds:List (Str×Value)}{m:Str->Option Value},(∀v,(x,v)∉binds)->bindL kindOf binds m x=m x
 | [],_,_=>rfl
 | (n,v)::r,m,h=>by
  unfold bindL;rw[wz fun w hw=>h w (aJ _ hw)];split
  ·have :x≠n:=by rintro rfl;exact h v aB
   simp[this]
  ·rfl
theorem wB{kindOf:Str->Option eh}:∀{binds:List (Str×Value)}{m:Str->Option Value},(∀v,(x,v)∉binds)->bindC kindOf binds m x=m x
 | [],_,_=>rfl
 | (n,v)::r,m,h=>by
  unfold bindC;rw[wB fun w hw=>h w (aJ _ hw)];split
  ·rfl
  ·have :x≠n:=by rintro rfl;exact h v aB
   simp[this]
theorem wA{kindOf:Str->Option eh}{v:Value}:∀{P:List Str}{vs:List Value}{i:Nat}{m:Str->Option Value},P.Nodup->P[i]? =some x->vs[i]? =some v->kindOf x=some .local->
  bindL kindOf (P.zip vs) m x=some v
 | [],_,_,_,_,h,_,_=>by simp at h
 |_::_,[],_,_,_,_,h,_=>by simp at h
 |p::P,w::vs,0,m,nd,h1,h2,hk=>by
  simp at h1 h2;subst h1;subst h2;show bindL kindOf ((p,w)::P.zip vs) m p=_;unfold bindL;rw[wz fun v hv=>(cy.mp nd).1 (wI hv).1,if_pos hk];simp
 |p::P,w::vs,i+1,m,nd,h1,h2,hk=>by
  show bindL kindOf ((p,w)::P.zip vs) m x=_;unfold bindL;exact wA (i:=i) (cy.mp nd).2 (by simpa using h1) (by simpa using h2) hk
theorem wC{kindOf:Str->Option eh}{v:Value}:∀{P:List Str}{vs:List Value}{i:Nat}{m:Str->Option Value},P.Nodup->P[i]? =some x->vs[i]? =some v->kindOf x≠some .local->
  bindC kindOf (P.zip vs) m x=some v
 | [],_,_,_,_,h,_,_=>by simp at h
 |_::_,[],_,_,_,_,h,_=>by simp at h
 |p::P,w::vs,0,m,nd,h1,h2,hk=>by
  simp at h1 h2;subst h1;subst h2;show bindC kindOf ((p,w)::P.zip vs) m p=_;unfold bindC;rw[wB fun v hv=>(cy.mp nd).1 (wI hv).1,if_neg hk];simp
 |p::P,w::vs,i+1,m,nd,h1,h2,hk=>by
  show bindC kindOf ((p,w)::P.zip vs) m x=_;unfold bindC;exact wC (i:=i) (cy.mp nd).2 (by simpa using h1) (by simpa using h2) hk
noncomputable def start(N:List Str)(vs:List V):St:=vs.map some++iJ (N.length-vs.length) none
noncomputable def vg(CX:CXT)(P:Program)(w:World)(K:ah)(mg:Str->Option Value)(base:Heap)(N:List Str)(qual:Str)(scope:Scope)(f:Addr)(cd:Value)(A:Around)(outer:List Env)(s:Shared)(H:Hp)(E:XK):Cx where
 prog:=P
 w:=w
 K:=K
 mg:=mg
 base:=base
 A:=A.deeper (envOfC qual scope s.heap.objs.size f cd)
 N:=N
 s₀:=s
 H₀:=H
 env:=envOfC qual scope s.heap.objs.size f cd
 outer:=outer
 stack:=envOfC qual scope s.heap.objs.size f cd::outer
 ex:=[]
 calm:=true
 fn:=fun _=>true
 pn:=[]
 xe:=fun e s'=>wpAny (model P w) (A.deeper (envOfC qual scope s.heap.objs.size f cd)) (leaving (envOfC qual scope s.heap.objs.size f cd) e) (fun _ s''=>CX outer H s E e s'') (fun e' s''=>CX outer H s E e' s'') s'
theorem Ah(h:sc.names.lookup x=some .cell):∃c,(cJ n sc.names []).lookup x=some c:=by
 have q:=AI sc.names n [] (.inl h);exact fb.mp q
theorem EJ{CX:CXT}{ps:List Str}{cd:Value}{outer:List Env}{s1:Shared}{H:Hp}{E:XK}{vs:List V}
  (S:yC N ps scope)(hd:A.handled=none)(e0:Env0 P w K mg base A outer s H)(hl:vs.length=ps.length)(r:bX vs us)
  (x:InCallC s s.heap.objs.size (bindL (envOfC qual scope s.heap.objs.size f cd).kindOf (ps.zip us) fun _=>none) (cJ (s.heap.objs.size+1) scope.names []) (bindC (envOfC qual scope s.heap.objs.size f cd).kindOf (ps.zip us) fun _=>none) s1):
  Inv (vg CX P w K mg base N qual scope f cd A outer s H E) [] (start N vs) H s1:=by
 have hpl:ps.length<=N.length:=by have :=congrArg jq S.pre;rw[cR]at this;omega
 obtain⟨h1,tk,rfl,hk⟩:=x.done;have noA:∀b:Addr,b∉(vg CX P w K mg base N qual scope f cd A outer s H E).ex:=fun b z=>absurd (show b∈([]:List Addr)from z) (by simp);refine⟨⟨e0.mod,S.kind,rfl,rfl,aA _,fun y z c h1 h2=>?_,fun y hy=>?_,fun y c _ h=>?_,fun _=>hd,Around.frames_deeper e0.frames,.inr ⟨rfl,rfl⟩,fun b z=>absurd z (noA b),e0.bs,e0.bsz,fun b _ _=>noA b,fun b z=>absurd z (noA b),e0.yc,e0.frf⟩,
  rfl,e0.bare,Un.kept hk,⟨_,x.toInCall.ns,fun i y v h1 h2 h3=>?_⟩,fun y c h=>⟨_,x.cell y c h⟩,e0.hok.fresh (aA _),fun y c h=>?_,fun p hp=>absurd (show p∈([]:List (Addr×Obj))from hp) (by simp),e0.hok.kept hk,?_⟩
 ·exact name_of_addr x.apart (bq h1) (bq h2)
 ·have hy:scope.names.lookup y=some .cell\/scope.names.lookup y=some .free:=hy
  rcases hy with hy|hy
  ·exact Ah hy
  ·exact absurd rfl (S.nofree _ (bq hy))
 ·exact kj (x.above y c (bq h))
 ·have hi:i<vs.length:=by
   unfold start at h2;by_cases hi:i<vs.length
   ·exact hi
   ·rw[cZ (by simpa using hi)]at h2
    rw[List.getElem?_replicate]at h2;split at h2<;>cases h2
  have ha:vs[i]? =some v:=by
   unfold start at h2;rw[dW (by simpa using hi),ao]at h2;cases e:vs[i]? with
   |none=>rw[e]at h2;cases h2
   |some a=>rw[e]at h2;cases h2;rfl
  obtain⟨u,hu,rv⟩:=r.get ha;have hp:ps[i]? =some y:=by
   rw[<-S.pre,lS (by omega)];exact h1
  have ndP:ps.Nodup:=by rw[<-S.pre];exact S.nd.sublist (sk _ _)
  refine⟨u,rv,?_⟩;rcases S.par y (aI hp)with k|k
  ·exact .inl ⟨k,wA ndP hp hu k⟩
  ·obtain⟨c,e⟩:=Ah (n:=s.heap.objs.size+1) k
   refine .inr ⟨.inl k,c,e,?_⟩;have q:=x.cell y c e;rw[wC ndP hp hu (by show scope.names.lookup y≠_;rw[k];decide)]at q;exact q
 ·exact e0.hok.fresh (kj (x.above y c (bq h)))
 ·unfold start
  show _=N.length;rw[a9,ai,List.length_replicate];omega
theorem fn_of{CX:CXT}{name:Str}{params:Arguments}{body:List Stmt}{kV:Value}{an:Option Addr}
  {ps:List Str}{sp:Sp}(lk:K.lookup f=some ⟨oc,od,.func (aK name qual params body scope dV kV doc pm an cdv ct),osl⟩)(hcd:fo K cdv qual=true)(S:yC N ps scope)
  (len:∀vs H Q E,sp vs H Q E->vs.length=ps.length)
  (hbody:∀(A:Around)(outer:List Env)(s:Shared)(H:Hp)(vs:List V)(Q:VK)(E:XK),ke k (A.deeper (envOfC qual scope s.heap.objs.size f cdv))->sp vs H Q E->
   ∃t,PSs (vg CX P w K mg base N qual scope f cdv A outer s H E) body t/\t {nx:=fun _ H'=>Q .non H',rt:=Q} (start N vs) H):
  jA P w K mg base CX (k+1) f (aK name qual params body scope dV kV doc pm an cdv ct) ps sp:=by
 refine⟨len,fun A outer s H args us vs Q E hr e0 hb r hsp=>?_⟩;have hl:=len _ _ _ _ hsp;have KX:K.In s.heap:=e0.mod.kin.keeps fun b o e=>(e0.bs b o e).1;have lim:s.heap.NoLimit:=e0.mod.nolimit.keeps fun b o e=>(e0.bs b o e).1;have hkind:∀y∈ps.zip us,scope.names.lookup y.1=some .local\/(scope.names.lookup y.1=some .cell/\((cJ (s.heap.objs.size+1) scope.names []).lookup y.1).isSome=true):=fun⟨n,v⟩ hy=>by
  rcases S.par n (wI hy).1 with q|q
  ·exact .inl q
  ·exact .inr ⟨q,AI _ _ _ (.inl q)⟩
 refine codeAny_call_function hr.depth (KX _ _ lk) rfl S.co S.gen rfl (PySem.W.codeRec_of KX hcd) (hb _ _ _ _ ?_);refine wpAny_newFunctionEnv_cells S.kind hkind fun env he s1 x=>?_;subst he;refine⟨lim.keeps x.toInCall.keep,codeAny_func ?_⟩;obtain⟨t,ht,hq⟩:=hbody A outer s H vs Q E (hr.deeper _) hsp;have I:Inv (vg CX P w K mg base N qual scope f cdv A outer s H E) [] (start N vs) H s1:=EJ S hr.hd e0 hl r x;refine gb (ht [] s1 (start N vs) H _ I hq) (fun fl s' hs=>?_) fun e s' hs=>hs;have fin:∀{σ':St}{H':Hp}{v:V}{u:Value},Inv (vg CX P w K mg base N qual scope f cdv A outer s H E) [] σ' H' s'->RelV v u->Q v H'->CE outer P w H s Q u s':=
  fun{σ' H' v u} J rv q=>⟨v,H',J.os,J.bare,J.base,J.hok,rv,q⟩
 cases fl with
 |ret u=>
  obtain⟨v,σ',H',J,rv,q⟩:=hs;exact fin J rv q
 |next =>
  obtain⟨σ',H',J,q⟩:=hs;exact fin (v:=V.non) (u:=bL) J rfl q
 |brk=>
  obtain⟨_,_,_,q⟩:=hs;exact km q
 |cont=>
  obtain⟨_,_,_,q⟩:=hs;exact km q
section
variable {X:Cx}{x:Str}{p pos:Pos}{e:Expr}{es:List Expr}{t:TA}{id T:String}{r:List V->Hp->VK->Prop}
noncomputable def tCB(r:List V->Hp->VK->Prop)(t:TA):TE:=fun σ H Q=>t σ H fun vs H1=>r vs H1 Q
theorem G0(hc:fg X (.builtin id) r)(hg:Gl X x)(hm:X.mg x=none)(hv:eU x=some (.builtin id))(ha:PA X (e::es) t)(hn:x≠"__name__":=by decide) (hdb:(x==("__debug__":Str))=false:=by decide)
  (he:bT (e::es) X.env=(false,eval e X.env)::bT es X.env:=by rfl) (hpl:(backTo pos (bT es X.env)).any (·.1)=false:=by rfl):PE X (.Call (.Name x p) (e::es) [] pos) (tCB r t):=by
 intro pins s σ H Q I h;refine iN (iS I hg hm hv ?_ hn hdb);exact oF (thn (ha pos pins s σ H _ I h) fun us s1 ⟨vs,H1,I1,r1,q1⟩=>hc pins s1 σ H1 vs us Q I1 r1 q1) he hpl
theorem Ed(hc:fg X (.type T) r)(hg:Gl X x)(hm:X.mg x=none)(hv:eU x=some (.type T))(ha:PA X (e::es) t)(hn:x≠"__name__":=by decide) (hdb:(x==("__debug__":Str))=false:=by decide)
  (he:bT (e::es) X.env=(false,eval e X.env)::bT es X.env:=by rfl) (hpl:(backTo pos (bT es X.env)).any (·.1)=false:=by rfl):PE X (.Call (.Name x p) (e::es) [] pos) (tCB r t):=by
 intro pins s σ H Q I h;refine iN (iS I hg hm hv ?_ hn hdb);exact cw (thn (ha pos pins s σ H _ I h) fun us s1 ⟨vs,H1,I1,r1,q1⟩=>hc pins s1 σ H1 vs us Q I1 r1 q1) he hpl
end
end L2
variable {X:L2.Cx}{H H' H1 H2:L2.Hp}{σ:L2.St}{y:L2.V}{xs ys ys2 zs:List L2.V}
namespace HT
open PySem PyProof.Rows
section
open PySem.SeqAt
open PySem.AutoSeq1 (wpAny_loadPart')
open PySem.MeetsSeq PySem.MeetsSeq2 PySem.MeetsSeq3
end
section
variable {prog:Program}{w:World}{A:Around}{E:Value->Shared->Prop}{s:Shared}
noncomputable def sIx(n d:Nat):Option Int->Nat
 |none=>d
 |some v=>if v<0 then(v+(n:Int)).toNat else min v.toNat n
theorem zm(n d:Nat):sIx n d none=d:=rfl
theorem oU(n d k:Nat):sIx n d (some (k:Int))=min k n:=by
 show(if(k:Int)<0 then((k:Int)+(n:Int)).toNat else min (k:Int).toNat n)=min k n;rw[if_neg (by omega),aU]
theorem Gf(n d:Nat)(hd:d<=n)(o:Option Int):sIx n d o<=n:=by
 cases o with
 |none=>exact hd
 |some v=>
  show(if v<0 then(v+(n:Int)).toNat else min v.toNat n)<=n;by_cases hv:v<0
  ·rw[if_pos hv];omega
  ·rw[if_neg hv];exact Nat.min_le_right _ _
theorem clip_eq(v:Int)(n d:Nat):(if v<0 then max (v+(n:Int)) 0 else min v (n:Int))=((sIx n d (some v):Nat):Int):=by
 show(if v<0 then max (v+(n:Int)) 0 else min v (n:Int))=(((if v<0 then(v+(n:Int)).toNat else min v.toNat n):Nat):Int);by_cases hv:v<0
 ·simp only[if_pos hv];omega
 ·simp only[if_neg hv];omega
end
end HT
namespace L2
open PySem PySem.Spec PyProof.Rows
noncomputable abbrev TO:=St->Hp->(Option Int->Hp->Prop)->Prop
noncomputable def PO(X:Cx)(e:Option Expr)(t:TO):Prop:=
 ∀(pins:List (Addr×Obj))(s:Shared)(σ:St)(H:Hp)(Q:Option Int->Hp->Prop),Inv X pins σ H s->t σ H Q->
  wpAny (model X.prog X.w) X.A (evalPart e X.env) (fun u s'=>∃o H',Inv X pins σ H' s'/\IsPart u o/\Q o H') X.xe s
noncomputable def wW:TO:=fun _ H Q=>Q none H
noncomputable def FU(t:TE):TO:=fun σ H Q=>t σ H fun x H1=>∃i,x=.int i/\Q (some i) H1
theorem intsAre_of:∀{us:List Value},bX (ns.map V.int) us->ck us ns:=by
 induction ns with
 |nil=>intro us r;rw[iK]at r;cases r;exact .nil
 |cons n ns ih=>
  intro us r;rw[bA]at r;cases r with
  |cons r1 r2=>
   obtain⟨t,e⟩:=r1;subst e;exact .cons n t (ih r2)
section
variable {X:Cx}{e:Expr}{te:TE}{lo hi:Option Expr}{tl th:TO}{pos p2:Pos}
theorem po_none:PO X none wW:=by
 intro pins s σ H Q I h;rw[evalPart_none];exact aj ⟨none,H,I,.none,h⟩
theorem po_some(h:PE X e te):PO X (some e) (FU te):=by
 intro pins s σ H Q I hw;rw[evalPart_some];refine thn (h pins s σ H _ I hw) fun u s1 ⟨x,H1,I1,r1,q1⟩=>?_;obtain⟨i,rfl,q⟩:=q1;obtain⟨t,rfl⟩:=r1;exact⟨some i,H1,I1,.int i t,q⟩
noncomputable def SlR(X:Cx)(r:V->Option Int->Option Int->Hp->VK->Prop):Prop:=
 ∀(pins:List (Addr×Obj))(s:Shared)(σ:St)(H:Hp)(x:V)(v vl vu:Value)(lo hi:Option Int)(sl:Addr)(Q:VK),Inv X pins σ H s->RelV x v->s.heap.IsSliceOf sl vl vu .none->IsPart vl lo->IsPart vu hi->r x lo hi H Q->
  ∃T id,typeLookup (.type T) "__getitem__"=pure (some (.builtin id))/\s.TypeIs v T/\wpAny (model X.prog X.w) X.A (getItem v (.ref sl)) (EP X pins σ Q) X.xe s
theorem SlR.or{r r':V->Option Int->Option Int->Hp->VK->Prop}(h:SlR X r)(h':SlR X r'):SlR X (fun x lo hi H Q=>r x lo hi H Q\/r' x lo hi H Q):=by
 intro pins s σ H x v vl vu lo hi sl Q I rx hs pl pu q;rcases q with q|q
 ·exact h pins s σ H x v vl vu lo hi sl Q I rx hs pl pu q
 ·exact h' pins s σ H x v vl vu lo hi sl Q I rx hs pl pu q
noncomputable def tSl(r:V->Option Int->Option Int->Hp->VK->Prop)(te:TE)(tl th:TO):TE:=fun σ H Q=>te σ H fun x H1=>tl σ H1 fun l H2=>th σ H2 fun u H3=>r x l u H3 Q
theorem GU{r:V->Option Int->Option Int->Hp->VK->Prop}(hr:SlR X r)(he:PE X e te)(hl:PO X lo tl)(hu:PO X hi th):PE X (.Subscript e (.Slice lo hi none p2) pos) (tSl r te tl th):=by
 intro pins s σ H Q I h;refine Subscript_ (thn (he pins s σ H _ I h) fun v s1 ⟨x,H1,I1,r1,q1⟩=>?_);refine wpAny_Slice (thn (hl pins s1 σ H1 _ I1 q1) fun vl s2 ⟨l,H2,I2,pl,q2⟩=>thn (hu pins s2 σ H2 _ I2 q2) fun vu s3 ⟨u,H3,I3,pu,q3⟩=>?_);rw[evalPart_none];refine aj ?_;have I4:Inv X pins σ H3 {s3 with heap:=s3.heap.push {cls:=.type "slice",data:=.fields #[vl,vu,.none]}}:=I3.kept (t':=s3.toks) fun b ob q=>ag _ q;obtain⟨T,id,hT,ht,hg⟩:=hr pins {s3 with heap:=s3.heap.push {cls:=.type "slice",data:=.fields #[vl,vu,.none]}} σ H3 x v vl vu l u s3.heap.objs.size Q I4 r1 (Heap.IsSliceOf.new ..) pl pu q3;show wpAny (model X.prog X.w) X.A (I0 e (.Slice lo hi none p2) v (.ref s3.heap.objs.size)) (EP X pins σ Q) X.xe {s3 with heap:=s3.heap.push {cls:=.type "slice",data:=.fields #[vl,vu,.none]}};exact tail_any (ops:=[.ref s3.heap.objs.size,v]) ht hT hg (by with_unfolding_all rfl)
noncomputable def uc(xs:List V)(lo hi:Option Int):List V:=(xs.drop (HT.sIx xs.length 0 lo)).take (HT.sIx xs.length xs.length hi-HT.sIx xs.length 0 lo)
theorem Af(xs:List V)(lo hi:Option Int):(uc xs lo hi).length<=xs.length:=by
 unfold uc;rw[cR,uR];omega
noncomputable def rSlT(K:ah):V->Option Int->Option Int->Hp->VK->Prop:=fun x lo hi H Q=>∃a xs,x=.ref a/\SqT K H a xs/\
 ¬(HT.sIx xs.length 0 lo=0/\HT.sIx xs.length xs.length hi=xs.length)/\∀p,H p=none->Q (.ref p) (upd H p (.tup (uc xs lo hi)))
end
noncomputable def ixN(n:Nat)(i:Int):Option Nat:=if 0<=i then(if i<n then some i.toNat else none)else if -(n:Int)<=i then some (i+n).toNat else none
noncomputable def atI{α:Type}(xs:List α)(i:Int):Option α:=(ixN xs.length i).bind fun j=>xs[j]?
theorem ixN_seq{i:Int}(h:ixN n i=some j):seqIndex? i n=some j/\j<n∧-(n:Int)<=i/\i<n:=by
 unfold ixN at h;by_cases h0:0<=i
 ·rw[if_pos h0]at h
  by_cases h1:i<n
  ·rw[if_pos h1]at h
   have e:i.toNat=j:=bg h;exact⟨by rw[AN h0 h1,e],by omega,by omega,h1⟩
  ·rw[if_neg h1]at h;cases h
 ·rw[if_neg h0]at h
  by_cases h1: -(n:Int)<=i
  ·rw[if_pos h1]at h
   have e:(i+n).toNat=j:=bg h;exact⟨by rw[seqIndex_neg (by omega) h1,e],by omega,h1,by omega⟩
  ·rw[if_neg h1]at h;cases h
theorem yv{α:Type}{xs:List α}{i:Int}{v:α}(h:atI xs i=some v):∃j,seqIndex? i xs.length=some j/\xs[j]? =some v/\j<xs.length∧-(xs.length:Int)<=i/\i<xs.length:=by
 unfold atI at h;cases e:ixN xs.length i with
 |none=>rw[e]at h;cases h
 |some j=>
  rw[e]at h;obtain⟨h1,h2,h3,h4⟩:=ixN_seq e;exact⟨j,h1,h,h2,h3,h4⟩
theorem cX{α:Type}{xs:List α}{v:α}(h:xs[j]? =some v):atI xs (j:Int)=some v:=by
 have hj:j<xs.length:=(aH.mp h).1;have e:ixN xs.length (j:Int)=some j:=by
  unfold ixN;rw[if_pos (by omega),if_pos (by omega)];simp
 unfold atI;rw[e];exact h
noncomputable def DF(b:Expr):Prop:=∀o i,subscripted b false o i=operate [o,i] (getItem o i)
noncomputable def IxR(X:Cx)(r:R2):Prop:=
 ∀(value slice:Expr)(pins:List (Addr×Obj))(s:Shared)(σ:St)(H:Hp)(x y:V)(v u:Value)(Q:VK),Inv X pins σ H s->RelV x v->RelV y u->r x y H Q->
  subscripted slice false v u=operate [v,u] (getItem v u)->wpAny (model X.prog X.w) X.A (I0 value slice v u) (EP X pins σ Q) X.xe s
noncomputable def MtR(X:Cx)(id:String)(r:V->List V->Hp->VK->Prop):Prop:=
 ∀(pins:List (Addr×Obj))(s:Shared)(σ:St)(H:Hp)(x:V)(xs:List V)(v:Value)(us:List Value)(Q:VK),Inv X pins σ H s->RelV x v->bX xs us->r x xs H Q->
  wpAny (model X.prog X.w) X.A (call (.builtin id) (v::us)) (EP X pins σ Q) X.xe s
section
variable {X:Cx}{a b:Expr}{ta tb:TE}{pos:Pos}
theorem IxR.or{r r':R2}(h:IxR X r)(h':IxR X r'):IxR X (fun x y H Q=>r x y H Q\/r' x y H Q):=by
 intro value slice pins s σ H x y v u Q I rx ry q hs;rcases q with q|q
 ·exact h value slice pins s σ H x y v u Q I rx ry q hs
 ·exact h' value slice pins s σ H x y v u Q I rx ry q hs
theorem MtR.or{id:String}{r r':V->List V->Hp->VK->Prop}(h:MtR X id r)(h':MtR X id r'):MtR X id (fun x xs H Q=>r x xs H Q\/r' x xs H Q):=by
 intro pins s σ H x xs v us Q I rx rs q;rcases q with q|q
 ·exact h pins s σ H x xs v us Q I rx rs q
 ·exact h' pins s σ H x xs v us Q I rx rs q
theorem pe_ix{r:R2}(hr:IxR X r)(ha:PE X a ta)(hb:PE X b tb)(hs:DF b):PE X (.Subscript a b pos) (tOp r ta tb):=by
 intro pins s σ H Q I h;exact Subscript_ (binT ha hb I h fun v u s2 x y H2 I2 rx ry q=>hr a b pins s2 σ H2 x y v u Q I2 rx ry q (hs _ _))
noncomputable def rIxL(K:ah):R2:=fun x y H Q=>∃p xs i v,x=.ref p/\y=.int i/\SqL K H p xs/\atI xs i=some v/\Q v H
noncomputable def rIxT(K:ah):R2:=fun x y H Q=>∃p xs i v,x=.ref p/\y=.int i/\SqT K H p xs/\atI xs i=some v/\Q v H
noncomputable def rIxS:R2:=fun x y H Q=>∃z i c,x=.str z/\y=.int i/\z.length<=sizeLine/\atI z.cps.toList i=some c/\Q (.str ⟨#[c]⟩) H
theorem ix_list:IxR X (rIxL X.K):=by
 intro value slice pins s σ H x y v u Q I rx ry h hs;obtain⟨p,xs,i,z,rfl,rfl,hq,he,q⟩:=h;cases rx;obtain⟨t,rfl⟩:=ry;obtain⟨its,r,pl,hz⟩:=I.list hq;obtain⟨j,h1,h2,h3,h4,h5⟩:=yv he;obtain⟨w,ew,rw'⟩:=r.get h2;have hl:=r.length;have hn:=qv;have fin:EP X pins σ Q w s:=⟨z,H,I,rw',q⟩;by_cases h0:0<=i
 ·have hj:i.toNat=j:=by
   rw[AN h0 h5]at h1;exact bg h1
  exact item_listR pl.isList h0 (by omega) (by rw[hj];simpa using ew) fin hs
 ·have hj:(i+(its.toArray.size:Int)).toNat=j:=by
   rw[seqIndex_neg (by omega) h4]at h1;rw[aG,<-hl];exact bg h1
  exact pV (x:=w) pl.isList.typeIs slot_list_getitem.lookup
   (wpAny_getItem_list_neg (Q:=fun r s'=>r=w/\EP X pins σ Q r s') pl.isList (by omega) (by rw[aG]<;>omega) (by omega) (by rw[hj];simpa using ew) ⟨rfl,fin⟩) hs
theorem ix_tup:IxR X (rIxT X.K):=by
 intro value slice pins s σ H x y v u Q I rx ry h hs;obtain⟨p,xs,i,z,rfl,rfl,hq,he,q⟩:=h;cases rx;obtain⟨t,rfl⟩:=ry;obtain⟨its,r,pl,hz⟩:=I.tuple hq;obtain⟨j,h1,h2,h3,h4,h5⟩:=yv he;obtain⟨w,ew,rw'⟩:=r.get h2;have hl:=r.length;have hn:=qv;have fin:EP X pins σ Q w s:=⟨z,H,I,rw',q⟩;exact pV (x:=w) pl.typeIs slot_tuple_getitem.lookup
  (getItem_tuple (j:=j) (Q:=fun r s'=>r=w/\EP X pins σ Q r s') pl (by omega) (by omega) (by rw[aG,<-hl];exact h1) (by simpa using ew) ⟨rfl,fin⟩) hs
theorem ix_str:IxR X rIxS:=by
 intro value slice pins s σ H x y v u Q I rx ry h hs;obtain⟨z,i,c,rfl,rfl,hz,he,q⟩:=h;obtain⟨t,rfl⟩:=rx;obtain⟨t',rfl⟩:=ry;obtain⟨j,h1,h2,h3,h4,h5⟩:=yv he;have hl:z.cps.toList.length=z.length:=by simp[Str.length]
 rw[hl]at h1 h4 h5;have hn:=qv;exact tail_any (typeIs_str s z t) slot_str_getitem.lookup (getItem_str (c:=c) (by
  have e1:decide (i< -(2^63:Int))=false:=decide_eq_false (by omega);have e2:decide (i≥ 2^63)=false:=decide_eq_false (by omega);rw[e1,e2,Bool.or_false]) (by rw[h1];simpa using h2) ⟨.str ⟨#[c]⟩,H,I.tok _,⟨_,rfl⟩,q⟩) hs
noncomputable def rIx(K:ah):R2:=fun x y H Q=>rIxL K x y H Q\/rIxT K x y H Q\/rIxS x y H Q
theorem ix_seq:IxR X (rIx X.K):=ix_list.or (ix_tup.or ix_str)
theorem xg(lo hi:Option Int)(n:Nat):(kh lo hi none n).1=((HT.sIx n 0 lo:Nat):Int)/\(kh lo hi none n).2.1=((HT.sIx n n hi:Nat):Int)/\(kh lo hi none n).2.2=1:=by
 refine⟨?_,?_,rfl⟩
 ·cases lo with
  |none=>simp[kh,HT.sIx]
  |some i=>
   simp only[kh,HT.sIx,r9,show(1:Int)>0 by decide,if_true];by_cases h:i<0
   ·simp only[h,if_true]<;>omega
   ·simp only[h,if_false]<;>omega
 ·cases hi with
  |none=>simp[kh,HT.sIx]
  |some i=>
   simp only[kh,HT.sIx,r9,show(1:Int)>0 by decide,if_true];by_cases h:i<0
   ·simp only[h,if_true]<;>omega
   ·simp only[h,if_false]<;>omega
theorem u5(its:List Value)(lo hi:Option Int):slicePick its.toArray lo hi none=((its.drop (HT.sIx its.length 0 lo)).take (HT.sIx its.length its.length hi-HT.sIx its.length 0 lo)).toArray:=by
 obtain⟨h1,h2,h3⟩:=xg lo hi its.toArray.size;unfold slicePick;rw[h1,h2,h3];simp only[sliceRange_one,pick_run,aG]<;>rfl
noncomputable def rSlL(K:ah):V->Option Int->Option Int->Hp->VK->Prop:=fun x lo hi H Q=>∃a xs,x=.ref a/\SqL K H a xs/\∀p,H p=none->Q (.ref p) (upd H p (.lst (uc xs lo hi)))
theorem sl_list:SlR X (rSlL X.K):=by
 intro pins s σ H x v vl vu lo hi sl Q I rx hs pl pu h;obtain⟨a,xs,rfl,hx,q⟩:=h;cases rx;obtain⟨its,r,ht,hz⟩:=I.list hx;have hlen:=r.length;refine⟨"list",_,slot_list_getitem.lookup,ht.isList.typeIs,?_⟩;refine wpAny_getItem_list_slice ht.isList hs pl pu .none (by simp) ?_ (by rw[aG]<;>omega);rw[u5,<-hlen];refine⟨.ref s.heap.objs.size,_,I.laid (t':=s.toks) (o:=.lst (uc xs lo hi)) (fun b ob q=>ag _ q) (aA _) ?_,rfl,q _ (I.hok.fresh (aA _))⟩;exact⟨aT (Af xs lo hi) hz,_,0,(r.drop (HT.sIx xs.length 0 lo)).take (HT.sIx xs.length xs.length hi-HT.sIx xs.length 0 lo),aq _ rfl⟩
noncomputable def pC:V->Bool
 |.non=>true
 |.bl _=>true
 |.int _=>true
 |.str _=>true
 |_=>false
noncomputable def eqV:V->V->Bool
 |.non,.non=>true
 |.bl a,.bl b=>a==b
 |.bl a,.int b=>(if a then 1 else 0)==b
 |.int a,.bl b=>a==(if b then 1 else 0)
 |.int a,.int b=>a==b
 |.str a,.str b=>a==b
 |_,_=>false
theorem fX{x:V}{v:Value}(ry:RelV y u)(rx:RelV x v)(fy:pC y=true)(fx:pC x=true):Je A s u v (eqV y x):=by
 cases y with
 |non=>
  cases ry;cases x with
  |non=>cases rx;exact Je.same _
  |bl b=>cases rx;exact Je.none_bool b
  |int b=>obtain⟨t,rfl⟩:=rx;exact Je.none_int b t
  |str b=>obtain⟨t,rfl⟩:=rx;exact Je.none_str b t
  |_=>exact absurd (show false=true from fx) aE
 |bl a=>
  cases ry;cases x with
  |non=>cases rx;exact Je.bool_none a
  |bl b=>cases rx;exact Je.bool_bool a b
  |int b=>obtain⟨t,rfl⟩:=rx;exact Je.bool_int a b t
  |str b=>obtain⟨t,rfl⟩:=rx;exact Je.bool_str a b t
  |_=>exact absurd (show false=true from fx) aE
 |int a=>
  obtain⟨t',rfl⟩:=ry;cases x with
  |non=>cases rx;exact Je.int_none a t'
  |bl b=>cases rx;exact Je.int_bool a t' b
  |int b=>obtain⟨t,rfl⟩:=rx;exact Je.int_int a t' b t
  |str b=>obtain⟨t,rfl⟩:=rx;exact AR a t' b t
  |_=>exact absurd (show false=true from fx) aE
 |str a=>
  obtain⟨t',rfl⟩:=ry;cases x with
  |non=>cases rx;exact Je.str_none a t'
  |bl b=>cases rx;exact Je.str_bool a t' b
  |int b=>obtain⟨t,rfl⟩:=rx;exact AQ a t' b t
  |str b=>obtain⟨t,rfl⟩:=rx;exact Je.str_str a t' b t
  |_=>exact absurd (show false=true from fx) aE
 |_=>exact absurd (show false=true from fy) aE
noncomputable def eqU(x:V)(u:Value):Bool:=match u with
 |.none=>eqV .non x
 |.bool b=>eqV (.bl b) x
 |.int i _=>eqV (.int i) x
 |.str z _=>eqV (.str z) x
 |_=>false
theorem HY{x:V}(r:RelV y u)(f:pC y=true):eqU x u=eqV y x:=by
 cases y with
 |non=>cases r;rfl
 |bl b=>cases r;rfl
 |int i=>obtain⟨t,rfl⟩:=r;rfl
 |str z=>obtain⟨t,rfl⟩:=r;rfl
 |_=>exact absurd (show false=true from f) aE
theorem pS{x:V}:∀{xs:List V}{us:List Value},bX xs us->xs.all pC=true->us.any (eqU x)=xs.any fun y=>eqV y x
 |_,_,.nil,_=>rfl
 |y::xs,u::us,.cons r t,f=>by
  rw[lU,aQ]at f;rw[lT,lT,HY r f.1,pS t f.2]
theorem mw{x:V}{v:Value}(rx:RelV x v)(fx:pC x=true):∀{xs:List V}{us:List Value},bX xs us->xs.all pC=true->∀u∈us,Je A s u v (eqU x u)
 |_,_,.nil,_=>fun u hu=>by cases hu
 |y::xs,u::us,.cons r t,f=>fun u' hu=>by
  rw[lU,aQ]at f;rcases av.mp hu with rfl|hu
  ·rw[HY r f.1];exact fX r rx f.1 fx
  ·exact mw rx fx t f.2 u' hu
noncomputable def inV(x:V)(xs:List V):Bool:=xs.any fun y=>eqV y x
noncomputable def rIn(K:ah)(neg:Bool):R2:=fun x y H Q=>∃p xs,y=.ref p/\(SqL K H p xs\/SqT K H p xs)/\pC x=true/\xs.all pC=true/\Q (.bl (if neg then !inV x xs else inV x xs)) H
theorem Ek:OpR X (cP .In) (rIn X.K false):=by
 intro pins s σ H x y v u Q I rx ry h;obtain⟨p,xs,rfl,hq,fx,fs,q⟩:=h;cases ry;rcases hq with hq|hq
 ·obtain⟨its,r,pl,hz⟩:=I.list hq
  refine SeqAt.in_listAt (eqU x) pl.isList (fun w hw=>mw rx fx r fs w (by simpa using hw)) ⟨.bl _,H,I,rfl,?_⟩;rw[show its.toArray.any (eqU x)=its.any (eqU x) by simp,pS r fs];exact q
 ·obtain⟨its,r,pl,hz⟩:=I.tuple hq
  refine SeqAt.in_tupleAt (eqU x) pl (fun w hw=>mw rx fx r fs w (by simpa using hw)) ⟨.bl _,H,I,rfl,?_⟩;rw[show its.toArray.any (eqU x)=its.any (eqU x) by simp,pS r fs];exact q
theorem xG:OpR X (cP .NotIn) (rIn X.K true):=by
 intro pins s σ H x y v u Q I rx ry h;obtain⟨p,xs,rfl,hq,fx,fs,q⟩:=h;cases ry;rcases hq with hq|hq
 ·obtain⟨its,r,pl,hz⟩:=I.list hq
  refine Jd (eqU x) pl.isList (fun w hw=>mw rx fx r fs w (by simpa using hw)) ⟨.bl _,H,I,rfl,?_⟩;rw[show its.toArray.any (eqU x)=its.any (eqU x) by simp,pS r fs];exact q
 ·obtain⟨its,r,pl,hz⟩:=I.tuple hq
  refine SeqAt.notIn_tupleAt (eqU x) pl (fun w hw=>mw rx fx r fs w (by simpa using hw)) ⟨.bl _,H,I,rfl,?_⟩;rw[show its.toArray.any (eqU x)=its.any (eqU x) by simp,pS r fs];exact q
theorem xF:OpR X (cP .NotIn) (fun x y H Q=>∃i j,x=.str i/\y=.str j/\Q (.bl (!(!(gH j i 0 j.length 1).isEmpty))) H):=by
 intro pins s σ H x y v u Q I rx ry h;obtain⟨i,j,rfl,rfl,q⟩:=h;obtain⟨t,rfl⟩:=rx;obtain⟨t',rfl⟩:=ry;exact notIn_str ⟨.bl _,H,I,rfl,q⟩
theorem yp:fg X (.builtin "len") (fun xs H Q=>∃p ys,xs=[.ref p]/\(SqL X.K H p ys\/SqT X.K H p ys)/\Q (.int ys.length) H):=by
 intro pins s σ H xs us Q I r h;obtain⟨p,ys,rfl,hq,q⟩:=h;obtain⟨u,rfl,rx⟩:=vals1 r;cases rx;have hn:=qv;rcases hq with hq|hq
 ·obtain⟨its,r',pl,hz⟩:=I.list hq
  have hlen:=r'.length;exact Calls.call_len_list pl.isList (by simp only[aG]<;>omega) ⟨.int ys.length,H,I.tok _,⟨s.toks+1,by rw[aG,hlen]⟩,q⟩
 ·obtain⟨its,r',pl,hz⟩:=I.tuple hq
  have hlen:=r'.length;exact len_tuple pl (by simp only[aG]<;>omega) ⟨.int ys.length,H,I.tok _,⟨s.toks+1,by rw[aG,hlen]⟩,q⟩
theorem yo:fg X (.builtin "len") (fun xs H Q=>∃z,xs=[.str z]/\z.length<=sizeLine/\Q (.int z.length) H):=by
 intro pins s σ H xs us Q I r h;obtain⟨z,rfl,hz,q⟩:=h;obtain⟨u,rfl,t,rfl⟩:=vals1 r;have hn:=qv;exact len_str (by omega) ⟨.int z.length,H,I.tok _,⟨_,rfl⟩,q⟩
theorem fg.or{f:Value}{r r':List V->Hp->VK->Prop}(h:fg X f r)(h':fg X f r'):fg X f (fun xs H Q=>r xs H Q\/r' xs H Q):=by
 intro pins s σ H xs us Q I rs q;rcases q with q|q
 ·exact h pins s σ H xs us Q I rs q
 ·exact h' pins s σ H xs us Q I rs q
theorem yn:fg X (.type "list") (fun xs H Q=>∃p ys,xs=[.ref p]/\(SqL X.K H p ys\/SqT X.K H p ys)/\∀l,H l=none->Q (.ref l) (upd H l (.lst ys))):=by
 intro pins s σ H xs us Q I r h;obtain⟨p,ys,rfl,hq,q⟩:=h;obtain⟨u,rfl,rx⟩:=vals1 r;cases rx;have fin:∀(its:List Value),bX ys its->ys.length<=sizeLine->∀(h':Heap)(c':Nat),(∀b o',s.heap.get? b=some o'->h'.get? b=some o')->
   h'.get? s.heap.objs.size=some {cls:=.type "list",dict:=none,data:=.seq its.toArray c',slots:= #[]}->EP X pins σ Q (.ref s.heap.objs.size) {s with heap:=h'}:=fun its r' hz h' c' kp e=>
  ⟨.ref s.heap.objs.size,_,I.laid (t':=s.toks) kp (aA _) (show dN X.prog X.w _ h' _ (.lst ys)from⟨hz,its,c',r',e⟩),rfl,q _ (I.hok.fresh (aA _))⟩
 rcases hq with hq|hq
 ·obtain⟨its,r',pl,hz⟩:=I.list hq
  have hlen:=r'.length;obtain⟨o,ho,hc,n,hd⟩:=pl.isList;exact call_list_seq p (.inl rfl) ho hc hd (fun h' c' kp e=>fin its r' hz h' c' kp e) (by simp only[aG]<;>omega)
 ·obtain⟨its,r',pl,hz⟩:=I.tuple hq
  have hlen:=r'.length;obtain⟨o,ho,hc,n,hd⟩:=pl;exact call_list_seq p (.inr rfl) ho hc hd (fun h' c' kp e=>fin its r' hz h' c' kp e) (by simp only[aG]<;>omega)
theorem vn:fg X (.type "tuple") (fun xs H Q=>∃p ys,xs=[.ref p]/\((SqL X.K H p ys/\∀l,H l=none->Q (.ref l) (upd H l (.tup ys)))\/(SqT X.K H p ys/\Q (.ref p) H))):=by
 intro pins s σ H xs us Q I r h;obtain⟨p,ys,rfl,h⟩:=h;obtain⟨u,rfl,rx⟩:=vals1 r;cases rx;rcases h with⟨hq,q⟩ |⟨hq,q⟩
 ·obtain⟨its,r',pl,hz⟩:=I.list hq
  have hlen:=r'.length;refine call_tuple_list pl.isList (fun h' kp=>?_) (by simp only[aG]<;>omega);have I1:Inv X pins σ H {s with heap:=h'}:=I.kept (t':=s.toks) kp;have I2:Inv X pins σ (upd H h'.objs.size (.tup ys)) {s with heap:=h'.push {cls:=.type "tuple",data:=.seq its.toArray}}:=
   I1.laid (t':=s.toks) (fun b o e=>ag _ e) (aA _) (show dN X.prog X.w _ _ _ (.tup ys)from⟨hz,its,r',IsTup.new _ _⟩)
  exact⟨.ref h'.objs.size,_,I2,rfl,q _ (I1.hok.fresh (aA _))⟩
 ·obtain⟨its,r',pl,hz⟩:=I.tuple hq
  exact call_tuple_same pl ⟨.ref p,H,I,rfl,q⟩
noncomputable def tyV(K:ah)(T:String)(x:V)(H:Hp):Prop:=match x with
 |.str _=>T="str"
 |.int _=>T="int"
 |.ref p=>(T="list"/\∃xs,SqL K H p xs)\/(T="tuple"/\∃o,K.lookup p=some o/\o.cls=.type "tuple"/\o.dict=none)\/
   (T="dict"/\((∃kvs,H p=some (.dK kvs))\/∃kvs,H p=some (.dT kvs)))\/(T="set"/\∃S n,H p=some (.set S n))
 |_=>False
theorem tyV_is{T:String}{x:V}{v:Value}(I:Inv X pins σ H s)(r:RelV x v)(ty:tyV X.K T x H):
  s.TypeIs v T/\∀a,v=.ref a->∃ob,s.heap.get? a=some ob/\ob.dict=none:=by
 cases x with
 |str z=>
  obtain⟨t,rfl⟩:=r;cases(show T="str" from ty);exact⟨typeIs_str s z t,fun _ e=>nomatch e⟩
 |int i=>
  obtain⟨t,rfl⟩:=r;cases(show T="int" from ty);exact⟨typeIs_int s i t,fun _ e=>nomatch e⟩
 |ref p=>
  cases r;rcases ty with⟨rfl,xs,hq⟩ |⟨rfl,o,hk,hc,hd⟩ |⟨rfl,hk⟩ |⟨rfl,S,n,hk⟩
  ·obtain⟨its,_,pl,_⟩:=I.list hq
   refine⟨pl.isList.typeIs,fun a e=>?_⟩;cases e;obtain⟨o,n,e,c,hd,_⟩:=pl;exact⟨o,e,hd⟩
  ·refine⟨⟨o,I.kIn p o hk,hc⟩,fun a e=>?_⟩
   cases e;exact⟨o,I.kIn _ o hk,hd⟩
  ·have z:∃o,s.heap.get? p=some o/\o.ExactDict:=by
    rcases hk with⟨kvs,hk⟩ |⟨kvs,hk⟩
    ·obtain⟨_,_,_,_,o,_,_,e,ex,_⟩:=I.hok p _ hk
     exact⟨o,e,ex⟩
    ·obtain⟨_,_,_,_,o,_,_,e,ex,_⟩:=I.hok p _ hk
     exact⟨o,e,ex⟩
   obtain⟨o,e,ex⟩:=z;refine⟨⟨o,e,ex.1⟩,fun a e2=>?_⟩;cases e2;exact⟨o,e,ex.2.1⟩
  ·obtain⟨o,_,_,_,e,ex,_⟩:=I.hok p _ hk
   refine⟨⟨o,e,ex.1⟩,fun a e2=>?_⟩;cases e2;exact⟨o,e,ex.2.1⟩
 |_=>exact km ty
noncomputable def tBM0(K:ah)(T:String)(r:V->List V->Hp->VK->Prop)(to:TE):TE:=fun σ H Q=>to σ H fun x H1=>tyV K T x H1/\r x [] H1 Q
noncomputable def tBM(K:ah)(T:String)(r:V->List V->Hp->VK->Prop)(to:TE)(t:TA):TE:=fun σ H Q=>to σ H fun x H1=>tyV K T x H1/\t σ H1 fun xs H2=>r x xs H2 Q
variable {o e:Expr}{es:List Expr}{to:TE}{t:TA}{name:Str}{apos cpos:Pos}{T id:String}{r:V->List V->Hp->VK->Prop}
theorem pe_bm(pa:PlainAttrs T)(slot:Slot T name id)(hty:typeOf (.builtin id)=pure (.type "method_descriptor"))(hm:MtR X id r)(ho:PE X o to)(ha:PA X (e::es) t)
  (hbase:attributeBase o name X.env (eval o X.env)=eval o X.env:=by rfl)
  (hfew:((backTo cpos (bT (e::es) X.env)).all (fun x=> !x.1)&&(backToKw cpos (keywordEach [] X.env)).all (fun x=>x.1.isSome)
   &&decide ((e::es).length+([]:List Keyword).length+(if([]:List Keyword).isEmpty then 0 else 1)<30))=true:=by rfl)
  (hline:(apos.endLine==cpos.line)=true:=by rfl) (hs:bT (e::es) X.env=(false,eval e X.env)::bT es X.env:=by rfl) (hplain:(backTo cpos (bT es X.env)).any (·.1)=false:=by rfl):
  PE X (.Call (.Attribute o name apos) (e::es) [] cpos) (tBM X.K T r to t):=by
 intro pins s σ H Q I h;refine wpAny_Call_method_late hbase hfew hline rfl (thn (ho pins s σ H _ I h) fun v s1 ⟨x,H1,I1,r1,ty,q1⟩=>?_);obtain⟨h1,h2⟩:=tyV_is I1 r1 ty;refine⟨T,id,pa,slot,hty,h1,h2,?_⟩;have hA:=ha cpos pins s1 σ H1 _ I1 q1;rw[hs]at hA⊢;refine Calls.callWith_builtin (by show(false||(backTo cpos (bT es X.env)).any (·.1))=false;rw[hplain]<;>rfl) (Calls.evalArgs_plain ?_);exact thn hA fun us s2 ⟨vs,H2,I2,r2,q2⟩=>hm pins s2 σ H2 x vs v us Q I2 r1 r2 q2
end
noncomputable def MtM(X:Cx)(id:String)(r:V->List V->Hp->VK->Prop):Prop:=
 ∀(pins:List (Addr×Obj))(s:Shared)(σ:St)(H:Hp)(x:V)(xs:List V)(v:Value)(us:List Value)(Q:VK),Inv X pins σ H s->RelV x v->bX xs us->r x xs H Q->
  wpAny (model X.prog X.w) X.A (call (.builtin id) (v::us)) (EP X pins σ Q) X.xe s
theorem bX.one{x:V}(h:bX [x] us):∃u,us=[u]/\RelV x u:=by
 cases h with
 |cons r k=>cases k with
  |nil=>exact⟨_,rfl,r⟩
theorem bX.two{x:V}(h:bX [x,y] us):∃u v,us=[u,v]/\RelV x u/\RelV y v:=by
 cases h with
 |cons r k=>
  obtain⟨v,e,q⟩:=bX.one k;exact⟨_,v,by rw[e],r,q⟩
theorem bX.eraseIdx:∀{xs:List V}{us:List Value}(i:Nat),bX xs us->bX (xs.eraseIdx i) (us.eraseIdx i)
 |_,_,_,.nil=>.nil
 |_,_,0,.cons _ t=>t
 |_,_,i+1,.cons r t=>.cons r (bX.eraseIdx i t)
theorem vR{α:Type}:∀(l:List α)(i:Nat),(l.eraseIdx i).length<=l.length
 | [],_=>aA _
 |_::_,0=>dP _
 |_::r,i+1=>Nat.succ_le_succ (vR r i)
section
variable {X:Cx}{pins:List (Addr×Obj)}{σ:St}{H:Hp}{s:Shared}{l b:Addr}{xs ys zs:List V}
theorem Inv.lset{f:Array Value->Array Value}(I:Inv X pins σ H s)(hH:H l=some (.lst xs))
  (e:s.heap.get? l=some {cls:=.type "list",data:=.seq its.toArray n}) (hf:f its.toArray=its'.toArray) (hv:bX ys its') (hz:ys.length<=sizeLine):
  Inv X pins σ (upd H l (.lst ys)) {s with heap:=s.heap.update l (aZ f),toks:=t'}:=by
 have q:=Fk e f;rw[hf]at q;refine I.write (x:=l) (e:=l) (by rw[hH];exact trivial) (.inl rfl) (fun b' u hb hu=>(aR s.heap (aZ f) (cn hb)).trans hu) ⟨_,q⟩ ?_;exact⟨hz,its',_,hv,q⟩
theorem Inv.lnew(I:Inv X pins σ H s)(hv:bX ys its)(hz:ys.length<=sizeLine):
  Inv X pins σ (upd H s.heap.objs.size (.lst ys)) {s with heap:=s.heap.push {cls:=.type "list",data:=.seq its.toArray},toks:=t'}:=
 I.laid (fun _ _ q=>ag _ q) (aA _) ⟨hz,its,0,hv,aq _ rfl⟩
theorem Inv.fresh(I:Inv X pins σ H s):H s.heap.objs.size=none:=I.hok.fresh (aA _)
theorem Inv.EB(I:Inv X pins σ H s)(hH:H l=some (.lst xs)):xs.length<=sizeLine/\∃(its:List Value)(n:Nat),bX xs its/\xs.length=its.length/\s.heap.get? l=some {cls:=.type "list",data:=.seq its.toArray n}:=by
 obtain⟨z,its,n,r,e⟩:=I.hok l _ hH;exact⟨z,its,n,r,r.length,e⟩
theorem G8(h:n<=sizeLine):jE n=false:=by
 unfold jE;exact decide_eq_false (by omega)
end
section
variable {X:Cx}
noncomputable def xw:V->List V->Hp->VK->Prop:=fun x vs H Q=>∃l xs y,x=.ref l/\vs=[y]/\H l=some (.lst xs)/\xs.length<sizeLine/\Q .non (upd H l (.lst (xs++[y])))
theorem Ex:MtM X "list.append" xw:=by
 intro pins s σ H x vs v us Q I rx rv h;obtain⟨l,xs,y,rfl,rfl,hH,hz,q⟩:=h;cases rx;obtain⟨u,rfl,ru⟩:=rv.one;obtain⟨z,its,n,r,hl,e⟩:=I.EB hH;refine Fj F.slot_list_append ⟨_,e,rfl⟩ F.entry_list_append (F.args_list_append_2 _ _) (PySem.list_append l its.toArray n u (by rw[aG];omega)) ⟨e,?_⟩;refine⟨.non,_,I.lset (its':=its++[u]) hH e (by simp) (r.append (.cons ru .nil)) ?_,rfl,q⟩;rw[a9,bS];omega
noncomputable def CH:V->List V->Hp->VK->Prop:=fun x vs H Q=>∃l b xs zs,x=.ref l/\vs=[.ref b]/\H l=some (.lst xs)/\H b=some (.lst zs)/\xs.length+zs.length<=sizeLine/\Q .non (upd H l (.lst (xs++zs)))
theorem Ew:MtM X "list.extend" CH:=by
 intro pins s σ H x vs v us Q I rx rv h;obtain⟨l,b,xs,zs,rfl,rfl,hH,hB,hz,q⟩:=h;cases rx;obtain⟨u,rfl,ru⟩:=rv.one;cases ru;obtain⟨z,its,n,r,hl,e⟩:=I.EB hH;obtain⟨z2,its2,n2,r2,hl2,e2⟩:=I.EB hB;have hsz:its.toArray.size+its2.toArray.size<=sizeLine:=by rw[aG,aG];omega
 have hlong:¬(!its.toArray.isEmpty&&jE (its.toArray.size+its2.toArray.size))=true:=by
  rw[G8 hsz,iL];exact aE
 refine Fj F.slot_list_extend ⟨_,e,rfl⟩ F.entry_list_extend (F.args_list_extend_2 _ _)
  (AutoSeq1.list_extend_list_list_0 l its.toArray n b its2.toArray n2 hlong (by rw[aG];omega) (by omega)) ⟨e,e2,?_⟩
 refine⟨.non,_,I.lset (its':=its++its2) hH e (by simp) (r.append r2) ?_,rfl,q⟩;rw[a9];omega
noncomputable def GD:V->List V->Hp->VK->Prop:=fun x vs H Q=>∃l xs i k y,x=.ref l/\vs=[.int i]/\H l=some (.lst xs)∧-(2^63)<=i/\i<2^63/\seqIndex? i xs.length=some k/\xs[k]? =some y/\Q y (upd H l (.lst (xs.eraseIdx k)))
theorem Hh:MtM X "list.pop" GD:=by
 intro pins s σ H x vs v us Q I rx rv h;obtain⟨l,xs,i,k,y,rfl,rfl,hH,h1,h2,hk,hy,q⟩:=h;cases rx;obtain⟨u,rfl,ru⟩:=rv.one;obtain⟨t,rfl⟩:=ru;obtain⟨z,its,n,r,hl,e⟩:=I.EB hH;obtain⟨w,hw,rw'⟩:=r.get hy;refine Fj F.slot_list_pop ⟨_,e,rfl⟩ F.entry_list_pop (F.args_list_pop_2 _ _)
  (MeetsSeq.list_pop_at l its.toArray n i t k w (fitsIndex_both h1 h2) (by rw[aG,<-hl];exact hk) (by rw[<-nG];exact hw) (by rw[aG];omega)) ⟨e,?_⟩
 refine⟨y,_,I.lset (its':=its.eraseIdx k) hH e ?_ (r.eraseIdx k) ?_,rw',q⟩
 ·show its.toArray.eraseIdxIfInBounds k=(its.eraseIdx k).toArray
  rw[List.eraseIdxIfInBounds_toArray]
 ·have :=vR xs k
  omega
noncomputable def rReverse:V->List V->Hp->VK->Prop:=fun x vs H Q=>∃l xs,x=.ref l/\vs=[]/\H l=some (.lst xs)/\Q .non (upd H l (.lst xs.reverse))
noncomputable def rClear:V->List V->Hp->VK->Prop:=fun x vs H Q=>∃l xs,x=.ref l/\vs=[]/\H l=some (.lst xs)/\Q .non (upd H l (.lst []))
noncomputable def rCat:R2:=fun x y H Q=>∃l b xs zs,x=.ref l/\y=.ref b/\H l=some (.lst xs)/\H b=some (.lst zs)/\xs.length+zs.length<=sizeLine/\∀p,H p=none->Q (.ref p) (upd H p (.lst (xs++zs)))
theorem op_cat:OpR X (gp .Add) rCat:=by
 intro pins s σ H x y v u Q I rx ry h;obtain⟨l,b,xs,zs,rfl,rfl,hH,hB,hz,q⟩:=h;cases rx;cases ry;obtain⟨z,its,n,r,hl,e⟩:=I.EB hH;obtain⟨z2,its2,n2,r2,hl2,e2⟩:=I.EB hB;refine PySem.P.add_list e e2 ?_ (by rw[aG,aG];omega);have ea:its.toArray++its2.toArray=(its++its2).toArray:=by simp
 rw[ea];exact⟨.ref _,_,I.lnew (t':=s.toks) (r.append r2) (by rw[a9];omega),rfl,q _ I.fresh⟩
noncomputable def rRep:R2:=fun x y H Q=>∃l k xs,x=.ref l/\y=.int k/\H l=some (.lst xs)∧-(2^63)<=k/\k<2^63/\xs.length*k.toNat<=sizeLine/\
 ∀p,H p=none->Q (.ref p) (upd H p (.lst (iJ k.toNat xs).flatten))
end
section
variable {κ:Type}[DecidableEq κ]
noncomputable def eG(kvs:List (κ×V))(k:κ):Option V:=(kvs.find? fun kv=>decide (kv.1=k)).map (·.2)
noncomputable def putK(kvs:List (κ×V))(k:κ)(v:V):List (κ×V):=
 if(kvs.any fun kv=>decide (kv.1=k))=true then kvs.map (fun kv=>if kv.1=k then(kv.1,v)else kv)else kvs++[(k,v)]
theorem gy{p:κ×V}{r:List (κ×V)}{k:κ}(e:p.1=k):eG (p::r) k=some p.2:=by simp[eG,iq,e]
theorem gz{p:κ×V}{r:List (κ×V)}{k:κ}(e:¬p.1=k):eG (p::r) k=eG r k:=by simp[eG,iq,e]
theorem jr(k:κ):∀kvs:List (κ×V),(kvs.any fun kv=>decide (kv.1=k))=(eG kvs k).isSome
 | []=>rfl
 |p::r=>by
  rw[lT];by_cases e:p.1=k
  ·simp only[gy e,decide_eq_true e,Bool.true_or,gR]
  ·rw[gz e,decide_eq_false e,Bool.false_or];exact jr k r
theorem yV(k j:κ)(y:V):∀kvs:List (κ×V),eG (kvs.map fun kv=>if kv.1=k then(kv.1,y)else kv) j=(eG kvs j).map fun x=>if j=k then y else x
 | []=>rfl
 |p::r=>by
  have ih:=yV k j y r;rw[bA];by_cases h:p.1=k
  ·rw[if_pos h]
   by_cases e:p.1=j
   ·rw[gy (p:=(p.1,y)) e,gy e,jl,if_pos (e.symm.trans h)]
   ·rw[gz (p:=(p.1,y)) e,gz e,ih]
  ·rw[if_neg h]
   by_cases e:p.1=j
   ·rw[gy (p:=p) e,gy e,jl,if_neg (fun z=>h (e.trans z))]
   ·rw[gz (p:=p) e,gz e,ih]
theorem vz(k j:κ)(y:V):∀kvs:List (κ×V),eG kvs k=none->eG (kvs++[(k,y)]) j=if j=k then some y else eG kvs j
 | [],_=>by
  by_cases e:k=j
  ·rw[if_pos e.symm];exact gy (p:=(k,y)) e
  ·rw[if_neg (fun z=>e z.symm)];exact gz (p:=(k,y)) e
 |p::r,hn=>by
  rw[uS];have hk:¬p.1=k:=fun z=>by rw[gy z]at hn;cases hn
  rw[gz hk]at hn;have ih:=vz k j y r hn;by_cases e:p.1=j
  ·rw[gy e,gy e,if_neg (fun z=>hk (e.trans z))]
  ·rw[gz e,gz e,ih]
theorem FJ(kvs:List (κ×V))(k j:κ)(y:V):eG (putK kvs k y) j=if j=k then some y else eG kvs j:=by
 unfold putK;by_cases a:(kvs.any fun kv=>decide (kv.1=k))=true
 ·rw[if_pos a,yV]
  rw[jr]at a;by_cases e:j=k
  ·obtain⟨x,hx⟩:=fb.mp a
   rw[if_pos e,e,hx,jl,if_pos rfl]
  ·rw[if_neg e]
   cases eG kvs j with
   |none=>rfl
   |some x=>rw[jl,if_neg e]
 ·rw[if_neg a]
  refine vz k j y kvs ?_;rw[jr]at a;cases q:eG kvs k with
  |none=>rfl
  |some x=>rw[q]at a;exact(a rfl).elim
theorem qU(kvs:List (κ×V))(k:κ)(v:V):(putK kvs k v).length<=kvs.length+1:=by
 unfold putK;split
 ·rw[ai];omega
 ·rw[a9,bG,jC];omega
theorem GH{kvs:List (κ×V)}{k:κ}(v:V)(h:eG kvs k=none):putK kvs k v=kvs++[(k,v)]:=by
 unfold putK;rw[jr,h];exact if_neg (by decide)
theorem uG.EI{o:Option V}{u:Option Value}(r:uG o u):o.isSome=u.isSome:=by
 cases o with
 |none=>cases u with
  |none=>rfl
  |some _=>exact(show False from r).elim
 |some _=>cases u with
  |none=>exact(show False from r).elim
  |some _=>rfl
end
theorem Hv{k:Key}(r:RelV (kV k) u):(cH P w).is k u=true:=by
 cases k with
 |inl i=>obtain⟨t,e⟩:=(show ∃t,u=fS i t from r);subst e;exact mq P w i t
 |inr x=>obtain⟨t,e⟩:=(show ∃t,u=fF x t from r);subst e;exact zM P w x t
theorem qw:∀{ks:List Key}{us:List Value},bX (ks.map kV) us->ItemsAre (cH P w) ks us
 | [],_,r=>by rw[iK]at r;cases r;exact .nil
 |k::ks,_,r=>by
  rw[bA]at r;cases r with
  |cons h t=>exact .cons (Hv h) (qw t)
noncomputable abbrev KT(H:Hp):List (List Key×V)->List (List Key×Addr×Value)->Prop:=Paired fun p q=>p.1=q.1/\H q.2.1=some (.tup (p.1.map kV))/\RelV p.2 q.2.2
theorem KT.val{kvs:List (List Key×V)}{xs:List (List Key×Addr×Value)}(r:KT H kvs xs)(k:List Key):uG (eG kvs k) ((atKey xs k).map (·.2)):=by
 induction r with
 |nil=>exact True.intro
 | @cons p q ps qs h t ih=>
  obtain⟨h1,_,h2⟩:=h;by_cases e:p.1=k
  ·have e':q.1=k:=h1.symm.trans e
   have b:atKey (q::qs) k=some q.2:=by simp[atKey,iq,e']
   rw[gy e,b];exact h2
  ·have e':¬q.1=k:=fun z=>e (h1.trans z)
   have b:atKey (q::qs) k=atKey qs k:=by simp[atKey,iq,e']
   rw[gz e,b];exact ih
theorem KT.repl{kvs:List (List Key×V)}{xs:List (List Key×Addr×Value)}(r:KT H kvs xs)(k:List Key)(ry:RelV y u):
  KT H (kvs.map fun kv=>if kv.1=k then(kv.1,y)else kv) (xs.map (putAt k u)):=by
 induction r with
 |nil=>exact .nil
 | @cons p q ps qs h t ih=>
  rw[bA,bA];refine .cons ?_ ih;obtain⟨h1,h2,h3⟩:=h;unfold putAt;by_cases e:p.1=k
  ·rw[if_pos e,if_pos (h1.symm.trans e)];exact⟨h1,h2,ry⟩
  ·rw[if_neg e,if_neg (fun z=>e (h1.trans z))];exact⟨h1,h2,h3⟩
theorem KT.put{kvs:List (List Key×V)}{xs:List (List Key×Addr×Value)}(r:KT H kvs xs)(k:List Key)(hb:H b=some (.tup (k.map kV)))(ry:RelV y u):
  KT H (putK kvs k y) (storedH xs k b u):=by
 have e:(kvs.any fun kv=>decide (kv.1=k))=(atKey xs k).isSome:=by
  rw[jr,(r.val k).EI,Option.isSome_map]
 unfold putK storedH;rw[e];by_cases q:(atKey xs k).isSome=true
 ·rw[if_pos q,if_pos q];exact r.repl k ry
 ·rw[if_neg q,if_neg q];exact Paired.snoc r ⟨rfl,hb,ry⟩
theorem KT.keeps{kvs:List (List Key×V)}{xs:List (List Key×Addr×Value)}(r:KT H kvs xs)(ht:∀b ys,H b=some (.tup ys)->H' b=some (.tup ys)):KT H' kvs xs:=
 Paired.qt r fun _ _ z=>⟨z.1,ht _ _ z.2.1,z.2.2⟩
section
variable {P:Program}{w:World}{H:Hp}{h:Heap}{a:Addr}
theorem rd_of{u:HO}(ok:HOk P w H h)(e:Rd H a u):dN P w H h a u:=e.ok ok
theorem Hu{ks:List Key}(ok:HOk P w H h)(e:H a=some (.tup (ks.map kV))):(oz (cH P w)).is h ks a:=by
 obtain⟨_,its,r,o,h1,h2,n,h3⟩:=(show dN P w H h a (.tup (ks.map kV))from ok a _ e);exact⟨o,its.toArray,n,h1,h2,h3,by simpa using qw r⟩
theorem dt_rd{kvs:List (List Key×V)}(ok:HOk P w H h)(e:Rd H a (.dT kvs)):kvs.length<=sizeLine/\(a==gc)=false/\
  ∃xs,KT H kvs xs/\h.DictOfH (oz (cH P w)) a xs:=by
 obtain⟨z,y,xs,r,o,es,ep,h1,h2,h3,h4,h5⟩:=(show dN P w H h a (.dT kvs)from rd_of ok e);refine⟨z,y,xs,r,o,es,ep,h1,h2,h3,h4,fun x hx=>?_,h5⟩;have all:∀{l:List (List Key×V)}{m:List (List Key×Addr×Value)},KT H l m->∀x∈m,(oz (cH P w)).is h x.1 x.2.1:=by
  intro l m q
  induction q with
  |nil=>intro x hx;exact nomatch hx
  | @cons p q ps qs hq t ih=>
   intro x hx;rcases av.mp hx with e|hx
   ·subst e
    exact Hu ok (by rw[<-hq.1];exact hq.2.1)
   ·exact ih x hx
 exact all r x hx
theorem Ia{kvs:List (List Key×V)}(ok:HOk P w H h)(e:H a=some (.dT kvs)):kvs.length<=sizeLine/\(a==gc)=false/\
  ∃xs,KT H kvs xs/\h.DictOfH (oz (cH P w)) a xs:=dt_rd ok (.inl e)
end
section
variable {X:Cx}{pins:List (Addr×Obj)}{σ:St}{H:Hp}{s:Shared}{a:Addr}{y v:V}{u r:Value}{o:Option V}{A:Around}{E:Value->Shared->Prop}
theorem Inv.big(I:Inv X pins σ H s):gc<s.heap.objs.size:=by
 have h:bP<s.heap.objs.size:=(I.mod.glob.keeps I.bk).lt;exact gK (by decide) h
theorem d_write{ob:HO}(I:Inv X pins σ H s)(mu:Mut (H a))(hs:dq a s.heap h')(he:∃q,h'.get? a=some q)(new:dN X.prog X.w (upd H a ob) h' a ob):
  Inv X pins σ (upd H a ob) {s with heap:=h',toks:=t'}:=
 I.write (x:=a) (e:=a) mu (.inl rfl) (fun b q hb z=>(hs.2 b hb).trans z) he new
end
theorem Ib(h:Heap)(hb:gc<h.objs.size):dN P w H (h.push {cls:=.type "dict",data:=.dict #[]}) h.objs.size (.dT []):=
 ⟨aX _,beq_eq_false_iff_ne.mpr (cn (aL hb)),[],.nil,_,#[],0,aq _ rfl,⟨rfl,rfl,rfl⟩,rfl,rfl,gw⟩
noncomputable def tDNewK:TE:=fun _ H Q=>∀p,H p=none->Q (.ref p) (upd H p (.dK []))
noncomputable def FX:TE:=fun _ H Q=>∀p,H p=none->Q (.ref p) (upd H p (.dT []))
section
variable {X:Cx}{pos:Pos}
theorem GX:PE X (.Dict [] [] pos) FX:=fun pins s σ H Q I h=>
 wpAny_Dict_empty ⟨.ref s.heap.objs.size,_,I.laid (a:=s.heap.objs.size) (o:=.dT []) (t':=s.toks) (fun _ _ q=>ag _ q) (aA _) (Ib s.heap I.big),rfl,h _ (I.hok.fresh (aA _))⟩
end
noncomputable def A8:List (TE×TE)->St->Hp->(List (V×V)->Hp->Prop)->Prop
 | [],_,H,Q=>Q [] H
 | (tk,tv)::r,σ,H,Q=>tk σ H fun x H1=>tv σ H1 fun y H2=>A8 r σ H2 fun ps H3=>Q ((x,y)::ps) H3
noncomputable abbrev VV:List (V×V)->List (Value×Value)->Prop:=Paired fun p q=>RelV p.1 q.1/\RelV p.2 q.2
noncomputable def PPs(X:Cx)(pos:Pos)(keys:List (Option Expr))(values:List Expr)(trs:List (TE×TE)):Prop:=
 ∀(pins:List (Addr×Obj))(s:Shared)(σ:St)(H:Hp)(Q:List (V×V)->Hp->Prop),Inv X pins σ H s->A8 trs σ H Q->
  wpAny (model X.prog X.w) X.A (evalPairs (pairTrees keys values X.env pos)) (fun vs s'=>∃ps H',Inv X pins σ H' s'/\VV ps vs/\Q ps H') X.xe s
theorem pps_nil:PPs X pos [] [] []:=fun pins s σ H Q I h=>pairTrees_nil_walk ⟨[],H,I,.nil,h⟩
theorem GO{k v:Expr}{ks:List (Option Expr)}{vs:List Expr}{tk tv:TE}{trs:List (TE×TE)}(hk:PE X k tk)(hv:PE X v tv)(hr:PPs X pos ks vs trs):
  PPs X pos (some k::ks) (v::vs) ((tk,tv)::trs):=fun pins s σ H Q I h=>
 pairTrees_cons_walk (thn (hk pins s σ H _ I h) fun u s1 ⟨x,H1,I1,rx,q1⟩=>thn (hv pins s1 σ H1 _ I1 q1) fun w2 s2 ⟨y,H2,I2,ry,q2⟩=>
  thn (hr pins s2 σ H2 _ I2 q2) fun ws s3 ⟨ps,H3,I3,rel,q3⟩=>⟨(x,y)::ps,H3,I3,.cons ⟨rx,ry⟩ rel,q3⟩)
noncomputable def mergeK(kvs more:List (Key×V)):List (Key×V):=more.foldl (fun acc kv=>putK acc kv.1 kv.2) kvs
noncomputable def tDisp(trs:List (TE×TE)):TE:=fun σ H Q=>∀p,H p=none->A8 trs σ (upd H p (.dK [])) fun ps H2=>H2 p=some (.dK [])/\∃kvs:List (Key×V),ps=kvs.map (fun kv=>(kV kv.1,kv.2))/\kvs.length<=15/\Q (.ref p) (upd H2 p (.dK (mergeK [] kvs)))
end L2
namespace Att
open PySem PySem.W PySem.Calls PyProof.Rows
theorem rH{P:Params}:∀(ns:List Int)(vs:List Value),WellAll P h vs (ns.map WData.int)->ck vs ns:=by
 intro ns
 induction ns with
 |nil=>
  intro vs w;rw[iK]at w;cases w;exact .nil
 |cons n ns ih=>
  intro vs w;rw[bA]at w;cases w with
  |cons a b=>
   cases a;exact .cons _ _ (ih _ b)
theorem D5{l:OpenLaw}(hn:l.most=some n){P:Params}{args:List WData}{vals:List Value}
  (hpre:l.row.toRowW.claim.pre args=true)(hwl:WellAll P h vals args):
  ∃a vs ns,vals=[cK a]/\args=[WData.list (ns.map WData.int)]/\h.get? a=some {cls:=.type "list",data:=.seq vs.toArray}/\ck vs ns/\ns.length<=n:=by
 have hsh:WShape.hasAll [] args [.list .int]=true:=(pre_splitW hpre).1;have hc:l.pre.holds [] {args:=args}=true:=(pre_splitW hpre).2;obtain⟨d,r,rfl,h1,h2⟩:=hasAllW_cons hsh;obtain rfl:=hasAllW_nil h2;obtain⟨xs,rfl,h3⟩:=hasW_list h1;obtain⟨ns,rfl⟩:=items_int h3;have hlen:ns.length<=n:=by
  unfold OpenLaw.pre at hc;have h4:(WTm.not (.lt (.lit (.int (n:Int))) (.len (.arg 0)))).holds [] {args:=[.list (ns.map .int)]}=true:=by
   have h4:=(holds_andW hc).1;rw[hn]at h4;exact h4
  have h5:=condW_of h4 (w_not (w_lt w_lit (w_len_list (w_arg rfl))));rw[ai]at h5;refine gL fun q=>?_;have q':(n:Int)<((ns.length:Nat):Int):=by omega
  first
   | (rw[decide_eq_true q']at h5;exact absurd h5 (by decide))
   | (simp at h5;omega)
 cases hwl with
 |cons w1 w2=>
  cases w2;cases w1 with
  |list ho hall=>exact⟨_,_,ns,rfl,rfl,ho,rH ns _ hall,hlen⟩
theorem Ea(l:OpenLaw)(args:List WData):l.row.toRowW.claim.post args (.bool true) args=true:=
 postW_of (r:=l.row.toRowW) (X:=(true==true))
  (show WShape.has [] (.bool true) .bool=true by first |rfl|decide|simp[WShape.has,WShape.arms,WShape.armsAll])
  (show(WTm.eq .res (.lit (.bool true))).value [] {args:=args,res:=some (.bool true),after:=args}=some (.bool (true==true))from w_eq_bool (w_res rfl) w_lit) rfl
theorem AA{l:OpenLaw}{q:Program}{XP:(Str->Option Value)->Heap->Prop}{YP:World->Heap->Prop}{d:DefRec}
  (hn:l.most=some n)(hdf:d.params.defaults=[])
  (call:∀(w:World)(s₀ s₁:Shared)(mg mb:Str->Option Value)(fa:Addr)(o:Obj)(pm cd doc:Value)(a:Addr)(vs:List Value)(ns:List Int),
   Ground q loose [] XP w s₀ mg mb s₁.heap->YP w s₁.heap->
   s₁.heap.get? fa=some o->o.data=.func (docDef d.name d.params d.body d.scope pm cd doc)->s₁.heap.CodeRec cd d.name->mg d.name=some (.ref fa)->
   s₁.heap.get? a=some {cls:=.type "list",data:=.seq vs.toArray}->ck vs ns->ns.length<=n->s₁.gens= #[]->
   hZ (model l.prog w) DH (.call (.ref fa) ⟨[.ref a],[]⟩) (fun r s'=>r=.ok (.ret (.bool true))/\OldK s₁.heap s'.heap/\s'.os=s₁.os/\nr s'.gens) s₁):
  WalkO q loose XP YP l.row.toRowW d [] (fun f vs=>PySem.call f vs):=by
 intro w s₀ s₁ mg mb G Y fa o pm cd doc dV kV ho hd hcd hD hmg hg args vals as hpre hlay hrd hwl hlo;obtain rfl:dV=.none:=Dflts.none hD hdf;obtain rfl:kV=.none:=Dflts.noKw hD;obtain⟨a,vs,ns,rfl,rfl,hobj,hints,hlen⟩:=D5 hn hpre hwl;refine enter_call (lG (call w s₀ s₁ mg mb fa o pm cd doc a vs ns G Y ho (fd_plain hd) hcd hmg hobj hints hlen hg) fun r s' hq=>?_);obtain⟨rfl,h2,h3,h4⟩:=hq;exact⟨.inl ⟨.bool true,.bool true,[],rfl,fun _=>rfl,.bool true,Ea l _,fun _=>⟨nF,fun _ hm=>(nomatch hm)⟩⟩,h2,h3,h4⟩
end Att
namespace L2
open PySem PySem.Spec PyProof.Rows
theorem qd:∀{vs:List Value}{ns:List Int},ck vs ns->bX (ns.map V.int) vs
 |_,_,.nil=>.nil
 |_,_,.cons n t h=>.cons ⟨t,rfl⟩ (qd h)
noncomputable abbrev KOf{K:ah}{h:Heap}(_:K.In h):ah:=K
noncomputable abbrev CX0:CXT:=fun _ _ _ _ _ _=>False
noncomputable abbrev E0:XK:=fun _ _ _=>False
structure Fun(K:ah)(x qual:Str)(st:Stmt)(f:Addr)(fd:gu):Prop where
 ex:∃(oc:Value)(od:Option Addr)(kV doc pm:Value)(an:Option Addr)(cdv ct:Value)(osl:Array (Option Value)),
  fd=aK x qual (bD st) (bf st) (aP st) .none kV doc pm an cdv ct/\K.lookup f=some ⟨oc,od,.func fd,osl⟩/\fo K cdv qual=true
 kp:cU K (.ref f)=true
section
variable {P:Program}{w:World}{K:ah}{mg:Str->Option Value}{base:Heap}
theorem Fun.binds{st:Stmt}{fd:gu}{ps:List Str}(F:Fun K x qual st f fd)
  (h:∀(kV doc pm:Value)(an:Option Addr)(cdv ct:Value)(us:List Value),us.length=ps.length->oB (aK x qual (bD st) (bf st) (aP st) .none kV doc pm an cdv ct) ⟨us,[]⟩=pure (ps.zip us)):Binds K fd ps []:=by
 obtain⟨oc,od,kV,doc,pm,an,cdv,ct,osl,rfl,lk,hcd⟩:=F.ex;exact .all (h kV doc pm an cdv ct)
theorem BO{st:Stmt}{an:Option Addr}{kV:Value}(l:K.lookup f=some ⟨oc,od,.func (aK x qual (bD st) (bf st) (aP st) .none kV doc pm an cdv ct),osl⟩)
  (c:fo K cdv qual=true)(k:cU K (.ref f)=true):Fun K x qual st f (aK x qual (bD st) (bf st) (aP st) .none kV doc pm an cdv ct):=⟨⟨oc,od,kV,doc,pm,an,cdv,ct,osl,rfl,l,c⟩,k⟩
end
noncomputable def aO(H H':Hp):Prop:=∀b o,H b=some o->H' b=some o
theorem aO.refl(H:Hp):aO H H:=fun _ _ h=>h
theorem aO.trans(a:aO H H1)(b:aO H1 H2):aO H H2:=fun c o h=>b c o (a c o h)
theorem aO.free(e:aO H H')(h:H' l=Option.none):H l=Option.none:=by
 cases q:H l with
 |none=>rfl
 |some o=>
  rw[e l o q]at h;cases h
theorem aO.seq(e:aO H H')(h:SqL K H a xs):SqL K H' a xs:=by
 rcases h with(h|⟨o,h⟩) |h
 ·exact .inl (.inl (e _ _ h))
 ·exact .inl (.inr ⟨o,e _ _ h⟩)
 ·exact .inr h
section
variable {κ:Type}[DecidableEq κ]
theorem yU{kvs:List (κ×V)}{k:κ}(h:eG kvs k=none):¬k∈kvs.map (·.1):=by
 intro m;obtain⟨p,hp,e⟩:=az.mp m;have q:(kvs.any fun kv=>decide (kv.1=k))=true:=bp.mpr ⟨p,hp,decide_eq_true e⟩;rw[jr,h]at q;exact absurd q (by simp)
theorem valV_in{kvs:List (κ×V)}{k:κ}{v:V}(h:eG kvs k=some v):k∈kvs.map (·.1):=by
 have q:(kvs.any fun kv=>decide (kv.1=k))=true:=by
  rw[jr,h];all_goals rfl
 obtain⟨p,hp,e⟩:=bp.mp q;exact az.mpr ⟨p,hp,of_decide_eq_true e⟩
theorem CV:∀{l:List κ}{k:κ},l.Nodup->¬k∈l->(l++[k]).Nodup
 | [],k,_,_=>by simp
 |a::r,k,h,hk=>by
  obtain⟨h1,h2⟩:=cy.mp h;show(a::(r++[k])).Nodup;refine cy.mpr ⟨fun m=>?_,CV h2 fun m=>hk (av.mpr (Or.inr m))⟩;rcases bc.mp m with q|q
  ·exact h1 q
  ·exact hk (av.mpr (Or.inl (aD.mp q).symm))
theorem nd_putK{kvs:List (κ×V)}{k:κ}(v:V)(hn:(kvs.map (·.1)).Nodup)(h:eG kvs k=none):((putK kvs k v).map (·.1)).Nodup:=by
 rw[GH v h,bZ];exact CV hn (yU h)
end
noncomputable def fE(cells:List (Str×Addr)):List (Str×eh)->List (Str×Addr)->List (Str×Addr)
 | [],acc=>acc
 | (n,k)::r,acc=>fE cells r (if k=.free then(n,(cells.lookup n).getD 0)::acc else acc)
theorem oj{env:Env}{f:Str×eh->List (Str×Addr)->Sem (ForInStep (List (Str×Addr)))}
  (hf:∀n k a c,k=.free->env.cells.lookup n=some c->f (n,k) a=pure (.yield ((n,c)::a)))(hg:∀n k a,k≠.free->f (n,k) a=pure (.yield a)):
  ∀(names:List (Str×eh))(acc:List (Str×Addr)),(∀y∈names,y.2=.free->∃c,env.cells.lookup y.1=some c)->forIn names acc f=(pure (fE env.cells names acc):Sem _)
 | [],acc,_=>rfl
 | (n,k)::r,acc,h=>by
  rw[nC];by_cases e:k=.free
  ·obtain⟨c,hc⟩:=h (n,k) aB e
   rw[hf n k acc c e hc];show forIn r ((n,c)::acc) f=_;rw[oj hf hg r _ fun y hy=>h y (aJ _ hy)];simp[fE,e,hc]
  ·rw[hg n k acc e]
   show forIn r acc f=_;rw[oj hf hg r _ fun y hy=>h y (aJ _ hy)];simp[fE,e]
theorem vh{env:Env}(h:∀y∈scope.names,y.2=.free->∃c,env.cells.lookup y.1=some c):Fi scope env=pure (fE env.cells scope.names []):=by
 have q:=oj (env:=env) (f:=fun x cs=>match x with | (name,kind)=>if(kind==cf)=true then(do let a<-cellOf env name;pure (gG ((name,a)::cs)))else pure (gG cs))
  (fun n k a c e hc=>by
   subst e;simp only[cellOf,hc];rfl) (fun n k a e=>by
   have e':(k==cf)=false:=by simpa using e
   simp only[e',aS,if_false]) scope.names [] h
 unfold Fi;show(forIn scope.names [] _>>=fun r=>pure r)=_;exact(congrArg (·>>=fun r=>pure r) q).trans rfl
theorem j0{cells:List (Str×Addr)}:∀(names:List (Str×eh))(acc:List (Str×Addr))(x:Str)(c:Addr),(fE cells names acc).lookup x=some c->
  ((x,cf)∈names/\c=(cells.lookup x).getD 0)\/acc.lookup x=some c
 | [],acc,x,c,h=>.inr h
 | (n,k)::r,acc,x,c,h=>by
  rcases j0 r _ x c h with⟨q,e⟩ |q
  ·exact .inl ⟨aJ _ q,e⟩
  ·by_cases e:k=.free
   ·rw[if_pos e,bw]at q
    cases hx:x==n with
    |true=>
     rw[hx]at q;have en:x=n:=by simpa using hx
     subst en;subst e;exact .inl ⟨aB,(bg q).symm⟩
    |false=>
     rw[hx]at q;exact .inr q
   ·rw[if_neg e]at q
    exact .inr q
theorem ug{cells:List (Str×Addr)}:∀(names:List (Str×eh))(acc:List (Str×Addr))(x:Str),(acc.lookup x).isSome=true->((fE cells names acc).lookup x).isSome=true
 | [],acc,x,h=>h
 | (n,k)::r,acc,x,h=>by
  refine ug r _ x ?_;split
  ·rw[bw]
   cases x==n<;>simp_all
  ·exact h
theorem oo{cells:List (Str×Addr)}:∀(names:List (Str×eh))(acc:List (Str×Addr))(x:Str),(x,cf)∈names->((fE cells names acc).lookup x).isSome=true
 | [],acc,x,h=>by simp at h
 | (n,k)::r,acc,x,h=>by
  rcases av.mp h with q|q
  ·cases q
   refine ug r _ n ?_;simp[bw]
  ·exact oo r _ x q
theorem fJ:∀(names:List (Str×eh))(n:Nat)(acc:List (Str×Addr)),cJ n names acc=cJ n names []++acc
 | [],_,_=>rfl
 | (x,k)::r,n,acc=>by
  unfold cJ;split
  ·rw[fJ r (n+1) ((x,n)::acc),fJ r (n+1) [(x,n)],sv]
   rfl
  ·exact fJ r n acc
theorem j5:∀(names:List (Str×eh))(n:Nat)(acc:List (Str×Addr))(x:Str),(acc.lookup x).isSome=true->((cJ n names acc).lookup x).isSome=true
 | [],_,_,_,h=>h
 | (y,k)::r,n,acc,x,h=>by
  unfold cJ;split
  ·refine j5 r _ _ x ?_
   rw[bw];cases x==y<;>simp_all
  ·exact j5 r _ _ x h
theorem iI:∀(names:List (Str×eh))(n:Nat)(acc:List (Str×Addr))(x:Str),(x,cV)∈names->((cJ n names acc).lookup x).isSome=true
 | [],_,_,_,h=>nomatch h
 | (y,k)::r,n,acc,x,h=>by
  unfold cJ;rcases av.mp h with q|q
  ·cases q
   rw[if_pos (by rfl)];refine j5 r _ _ _ ?_;simp[bw]
  ·split
   ·exact iI r _ _ x q
   ·exact iI r _ _ x q
theorem j4:∀(names:List (Str×eh))(n:Nat)(acc:List (Str×Addr))(x:Str)(c:Addr),(x,c)∈cJ n names acc->(x,cV)∈names\/(x,c)∈acc
 | [],_,_,_,_,h=>.inr h
 | (y,k)::r,n,acc,x,c,h=>by
  unfold cJ at h;split at h
  ·rename_i hk
   rcases j4 r _ _ x c h with q|q
   ·exact .inl (aJ _ q)
   ·rcases av.mp q with e|e
    ·cases e
     have :k=.cell:=by simpa using hk
     subst this;exact .inl aB
    ·exact .inr e
  ·rcases j4 r _ _ x c h with q|q
   ·exact .inl (aJ _ q)
   ·exact .inr q
theorem BQ{M:Model}{globals:Addr}{cl:List (Str×Addr)}{code:Value}{outer:Env}{builtins:Addr}{Q:Env->Shared->Prop}
  (h:Q (newEnv scope s.heap.objs.size globals (cJ (s.heap.objs.size+1) scope.names cl) qual func code (some outer) builtins) {s with heap:=pushCells (s.heap.push {cls:=.type "dict",data:=.dict #[]}) scope.names}):
  wpAny M A (newFunctionEnv scope globals cl [] qual func code (some outer) builtins) Q E s:=by
 simp only[newFunctionEnv,gR,if_true];refine ae (wpAny_alloc ?_);refine ae (wpAny_layCells _ (fun name kind cells=>by cases hkc:kind==cV<;>simp[hkc]) _ _ _ _ ?_);rw[show({s with heap:=s.heap.push {cls:=.type "dict",data:=.dict #[]}}:Shared).heap.objs.size=s.heap.objs.size+1 from bF ..];rw[kA];exact ae (aj (aj h))
structure ng(X:Cx)(N':List Str)(sc:Scope):Prop where
 kind:sc.kind=.function
 cellk:∀y∈sc.names,y.2=.cell->sc.names.lookup y.1=some .cell
 own:∀y∈sc.names,y.2=.local->sc.names.lookup y.1=some .local
 free:∀y∈sc.names,y.2=.free->X.env.kindOf y.1=some .cell\/X.env.kindOf y.1=some .free
noncomputable def dZ(X:Cx)(N':List Str)(sc:Scope)(C:Addr)(s₀:Shared)(H₀:Hp)(fp:List Addr):Cx:=
 {X with N:=N',s₀:=s₀,H₀:=H₀,env:=compEnvC sc (cJ (C+1) sc.names (fE X.env.cells sc.names [])) C X.env,outer:=X.stack,stack:=X.stack,ex:=fp,fn:=fun x=>sc.names.any fun y=>decide (y.1=x)&&decide (y.2=.cell),pn:=[],xe:=fun _ _=>False}
theorem mh{env:Env}:∀{names:List (Str×eh)}{x:Str}{k:eh},
  (names.map fun(n,k)=>if(k==cf&&env.scope.kind== .function&&env.kindOf n==some .cell)then(n,cV)else(n,k)).lookup x=some k->
  names.lookup x=some k\/(names.lookup x=some .free/\k=.cell)
 | [],_,_,h=>by simp at h
 | (n,k)::r,x,k',h=>by
  have ih:= @mh env r x k';rw[bA]at h;change jo x ((if(k==cf&&env.scope.kind== .function&&env.kindOf n==some .cell)=true then(n,cV)else(n,k))::_)=_ at h;cases hx:x==n with
  |true=>
   by_cases hc:(k==cf&&env.scope.kind== .function&&env.kindOf n==some .cell)=true
   ·rw[if_pos hc]at h
    simp only[bw,hx]at h⊢;have :k=.free:=by
     have :=hc
     simp only[aQ]at this;simpa using this.1.1
    subst this;exact .inr ⟨rfl,(bg h).symm⟩
   ·rw[if_neg hc]at h
    simp only[bw,hx]at h⊢;exact .inl h
  |false=>
   have e:jo x (r.map fun(n,k)=>if(k==cf&&env.scope.kind== .function&&env.kindOf n==some .cell)then(n,cV)else(n,k))=some k':=by
    split at h<;>simpa only[bw,hx]using h
   simp only[bw,hx];exact ih e
theorem gf{env:Env}:∀{names:List (Str×eh)}{x:Str},names.lookup x=some .free->
  (names.map fun(n,k)=>if(k==cf&&env.scope.kind== .function&&env.kindOf n==some .cell)then(n,cV)else(n,k)).lookup x=some .free\/
  (names.map fun(n,k)=>if(k==cf&&env.scope.kind== .function&&env.kindOf n==some .cell)then(n,cV)else(n,k)).lookup x=some .cell
 | [],_,h=>by simp at h
 | (n,k)::r,x,h=>by
  have ih:= @gf env r x;rw[bA];change jo x ((if(k==cf&&env.scope.kind== .function&&env.kindOf n==some .cell)=true then(n,cV)else(n,k))::_)=_\/jo x ((if(k==cf&&env.scope.kind== .function&&env.kindOf n==some .cell)=true then(n,cV)else(n,k))::_)=_;cases hx:x==n with
  |true=>
   simp only[bw,hx]at h;cases h;by_cases hc:(cf==cf&&env.scope.kind== .function&&env.kindOf n==some .cell)=true
   ·rw[if_pos hc];right;simp only[bw,hx]
   ·rw[if_neg hc];left;simp only[bw,hx]
  |false=>
   simp only[bw,hx]at h;split <;>simpa only[bw,hx]using ih h
theorem fV{env:Env}:∀{names:List (Str×eh)}{x:Str}{k:Option eh},names.lookup x=k->k≠some .free->
  (names.map fun(n,k)=>if(k==cf&&env.scope.kind== .function&&env.kindOf n==some .cell)then(n,cV)else(n,k)).lookup x=k
 | [],_,_,h,_=>by simpa using h
 | (n,k)::r,x,k',h,hf=>by
  have ih:= @fV env r x k';rw[bA];change jo x ((if(k==cf&&env.scope.kind== .function&&env.kindOf n==some .cell)=true then(n,cV)else(n,k))::_)=_;cases hx:x==n with
  |true=>
   simp only[bw,hx]at h;have hk:k≠.free:=fun e=>hf (by rw[<-h,e]);have hb:(k==cf)=false:=by simpa using hk
   rw[if_neg (by rw[hb];simp)];simp only[bw,hx];exact h
  |false=>
   simp only[bw,hx]at h;split <;>simpa only[bw,hx]using ih h hf
theorem vT{cl:List (Str×Addr)}{env:Env}{k:eh}(h:(compEnvC sc cl C env).kindOf x=some k):sc.names.lookup x=some k\/(sc.names.lookup x=some .free/\k=.cell):=mh (env:=env) h
theorem BV{R:Result->Shared->Prop}{elt target:Expr}{ifs:List Expr}{it acc:Value}{env:Env}(I:Nat->Shared->Prop)
  (turn:∀n s,I n s->wpAny (model prog w) A (pyNext it) (fun r s₁=>match r with
   |none=>R (.ok .next) s₁
   |some v=>wpAny (model prog w) A (pY target it v) (fun _ s₁'=>wpAny (model prog w) A (assign target env v) (fun _ s₂=>
     wpAny (model prog w) A (forIn ifs true fun c r=>if r=true then do let ok<-isTrue c env (eval c env);pure (gG ok)else pure (gG r)) (fun ok s₃=>
      if ok=true then wpAny (model prog w) A (eval elt env) (fun x s₄=>
       wpAny (model prog w) A (call (.builtin "list.append") [acc,x]) (fun _ s₅=>∃m,m<n/\I m s₅) (fun _ _=>False) s₄) (fun _ _=>False) s₃
      else ∃m,m<n/\I m s₃) (fun _ _=>False) s₂) (fun _ _=>False) s₁') (fun _ _=>False) s₁) (fun _ _=>False) s)
  (n:Nat) (h:I n s):
  hZ (model prog w) A (.compLoop (.ListComp elt [⟨target,iter,ifs,0⟩] scope pos) 0 it acc env) R s:=by
 refine codeAny_loop rfl I (fun n s hI=>?_) n h;show wpAny _ A ((compTurn (.ListComp elt [⟨target,iter,ifs,0⟩] scope pos) 0 it acc env).onRaise (fun x=>do lP x env;theTreesLotGoes x)) _ _ s;refine wpAny_noted ?_;rw[compTurn_list];refine ae (wpAny_standAt (ae (gb (turn n s hI) (fun r s₁ h₁=>?_) fun _ _ h'=>h'.elim)));cases r with
 |none=>exact aj h₁
 |some v=>
  refine ae (gb h₁ (fun _ s₁' h₁'=>?_) fun _ _ h'=>h'.elim);refine ae (gb h₁' (fun _ s₂ h₂=>ae (gb h₂ (fun ok s₃ h₃=>?_) fun _ _ h'=>h'.elim)) fun _ _ h'=>h'.elim);cases ok with
  |false=>exact aj ⟨rfl,h₃⟩
  |true=>
   exact ae (ae (gb h₃ (fun x s₄ h₄=>ae (gb h₄ (fun _ s₅ h₅=>aj (aj ⟨rfl,h₅⟩)) fun _ _ h'=>h'.elim)) fun _ _ h'=>h'.elim))
noncomputable def PTs(X:Cx)(ifs:List Expr)(t:TT):Prop:=
 ∀(pins:List (Addr×Obj))(s:Shared)(σ:St)(H:Hp)(Q:Bool->Hp->Prop),Inv X pins σ H s->t σ H Q->
  wpAny (model X.prog X.w) X.A (forIn ifs true fun c r=>if r=true then do let ok<-isTrue c X.env (eval c X.env);pure (gG ok)else pure (gG r)) (TP X pins σ Q) X.xe s
noncomputable def tYes:TT:=fun _ H Q=>Q true H
theorem pts_nil:PTs X [] tYes:=by
 intro pins s σ H Q I h;rw[kA];exact aj ⟨H,I,h⟩
theorem pts_one{c:Expr}{t:TT}(h:PT X c t):PTs X [c] t:=by
 intro pins s σ H Q I hw;rw[nC];simp only[if_true];refine ae (ae (thn (h pins s σ H Q I hw) fun b s1 q=>?_));refine aj ?_;show wpAny _ _ (forIn ([]:List Expr) b _) _ _ s1;rw[kA];exact aj q
noncomputable def qN(wi:TI)(g:TG)(tc:TT)(te:TE)(mk:St->St):TE:=fun σ H Q=>wi σ H fun J H1=>∃W:Nat->Nat->St->List V->Hp->Prop,(∃m,W 0 m (mk σ) [] H1)/\
 ∀i m τ acc H2,W i m τ acc H2->(J.stop i H2/\∀l,H2 l=none->Q (.ref l) (upd H2 l (.lst acc)))\/(J.go i H2/\∃N:St->List V->Hp->Prop,(∀τ' acc' H',N τ' acc' H'->∃m',m'<m/\W (i+1) m' τ' acc' H')/\
  ∀x H3,J.yld i H2 x H3->g x τ H3 fun τ4 H4=>tc τ4 H4 fun b H5=>if b=true then te τ4 H5 fun v H6=>acc.length<sizeLine/\N τ4 (acc++[v]) H6 else N τ4 acc H5)
theorem Inv.track{o:HO}(I:Inv X pins σ H s)(hf:oy X pins H a)(new:dN X.prog X.w (upd H a o) s.heap a o):Inv X pins σ (upd H a o) s:=by
 obtain⟨h0,h1,h2,h3,h4,h5⟩:=hf;have :=I.step (g':=s.gens) (d':=s.drawn) (t':=s.toks) (h':=s.heap) (H':=upd H a o) (ch:=[a]) (fun b hb=>by
   have e:b=a:=by simpa using hb
   subst e;exact⟨h3,h1,h4,h5⟩)
  (fun b ob _ _ _ q _=>q) (fun b ob _ _ _ q _=>⟨ob.slots,q⟩) (fun b ob hb q n=>by rw[a7 (fun z=>hb (by simp[z]))];exact n) (fun b ob _ q=>⟨ob,q⟩)
  (fun b xs q=>by rw[a7 (bH q h0)];exact q) (fun b ob u q=>by rw[a7 (bH q h0)];exact q) (fun b ps q=>⟨#[],by rw[a7 (bH q h0),q];simp⟩)
  (fun m hm=>hm) (fun b u q=>by
   by_cases hb:b=a
   ·subst hb;rw[ax]at q;cases q;exact new
   ·rw[a7 hb]at q
    exact(I.hok b u q).lW (fun c v _ e=>e) (fun c e=>by rw[a7 (bH e h0)];exact e) fun c xs e=>by rw[a7 (bH e h0)];exact e) I.bare
 exact this
theorem B5{Q:Value->Shared->Prop}(I:Inv X pins σ H s)(hf:oy X pins H a)
  (e:s.heap.get? a=some {cls:=.type "list",data:=.seq its.toArray n}) (hz:its.length<sizeLine)
  (h:∀h' n',Inv X pins σ H {s with heap:=h'}->h'.get? a=some {cls:=.type "list",data:=.seq (its++[u]).toArray n'}->(∀b o,b≠a->s.heap.get? b=some o->h'.get? b=some o)->Q .none {s with heap:=h'}):
  wpAny (model X.prog X.w) X.A (call (.builtin "list.append") [.ref a,u]) Q E s:=by
 refine Fj F.slot_list_append ⟨_,e,rfl⟩ F.entry_list_append (F.args_list_append_2 _ _) (PySem.list_append a its.toArray n u (by rw[aG];omega)) ⟨e,?_⟩;have q:=Fk e (·.push u);have eq:its.toArray.push u=(its++[u]).toArray:=by simp
 rw[eq]at q;have k:∀b o,b≠a->s.heap.get? b=some o->(s.heap.update a (aZ (·.push u))).get? b=some o:=fun b o hb z=>(aR s.heap _ (cn hb)).trans z;obtain⟨h0,h1,h2,h3,h4,h5⟩:=hf;exact h _ _ (I.turned (t':=s.toks) k h0 h1 h3 h4 h5) q k
section
variable {X:Cx}{N':List Str}{sc:Scope}{elt tg iter:Expr}{ifs:List Expr}{pos:Pos}{wi:TI}{g:TG}{tc:TT}{te:TE}{mk:St->St}
noncomputable def MkOk(X:Cx)(N':List Str)(sc:Scope)(mk:St->St):Prop:=
 ∀σ:St,σ.length=X.N.length->(mk σ).length=N'.length/\∀(i:Nat)(x:Str)(v:V),N'[i]? =some x->(mk σ)[i]? =some (some v)->sc.names.lookup x=some .free/\∃j:Nat,X.N[j]? =some x/\σ[j]? =some (some v)
theorem v7{Q:VK}{use:Option (Value->Sem Unit)}(S:ng X N' sc)(hm:MkOk X N' sc mk)(hc:X.calm=true)
  (hi:PI X tg iter wi)
  (hb:∀C s₀ H₀ fp,(dZ X N' sc C s₀ H₀ fp).Ok->PG (dZ X N' sc C s₀ H₀ fp) tg g/\PTs (dZ X N' sc C s₀ H₀ fp) ifs tc/\PE (dZ X N' sc C s₀ H₀ fp) elt te)
  (hs:∀x,jg iter X.env x=pure x)(I:Inv X pins σ H s)(h:qN wi g tc te mk σ H Q)
  (fin:∀(l C:Addr)(H':Hp)(s':Shared)(m:Str->Option Value),Inv X pins σ H' s'->s'.heap.Ns C m->oy X pins H' C->(∃o,s'.heap.get? C=some o/\∀v,o.data≠.cell v)->Q (.ref l) H'->compPost (model X.prog X.w) X.A X.xe use QQ (.ref l) C (.ok .next) s'):
  wpAny (model X.prog X.w) X.A (comprehension (.ListComp elt [⟨tg,iter,ifs,0⟩] sc pos) sc X.env (firstIterPos [⟨tg,iter,ifs,0⟩] pos) (newList []) false (eval iter X.env) use) QQ X.xe s:=by
 have hcells:∀y∈sc.names,y.2=.free->∃c,X.env.cells.lookup y.1=some c:=fun y hy hf=>I.ok.has _ (S.free y hy hf);refine wpAny_comprehension_free (use:=use) rfl hs (vh hcells) S.kind S.own ?_;refine thn (hi pins s σ H _ I h) fun v s1 h1=>thn h1 fun itv s2 h2=>?_;obtain⟨it,fp,tn,J,H2,e,I2,T,st2,f2,W,⟨m0,w0⟩,turn⟩:=h2;subst e
 --the list
 refine cg ?_;have hl0:H2 s2.heap.objs.size=none:=I2.fresh;have fD:oy X pins H2 s2.heap.objs.size:=I2.yd (aA _) hl0;have eD3:(s2.heap.push {cls:=.type "list",dict:=none,data:=.seq ([]:List Value).toArray}).get? s2.heap.objs.size=some {cls:=.type "list",data:=.seq ([]:List Value).toArray 0}:=aq _ rfl;have I3:Inv X pins σ H2 {s2 with heap:=s2.heap.push {cls:=.type "list",dict:=none,data:=.seq ([]:List Value).toArray}}:=I2.kept (t':=s2.toks) fun b o e=>ag _ e
 --the block's frame
 refine BQ ?_;dsimp only;have szL:(s2.heap.push {cls:=.type "list",dict:=none,data:=.seq ([]:List Value).toArray}).objs.size=s2.heap.objs.size+1:=bF ..;have hDC:s2.heap.objs.size≠(s2.heap.push {cls:=.type "list",dict:=none,data:=.seq ([]:List Value).toArray}).objs.size:=by rw[szL];exact aL (cA _)
 have k23:∀b o,s2.heap.get? b=some o->(s2.heap.push {cls:=.type "list",dict:=none,data:=.seq ([]:List Value).toArray}).get? b=some o:=fun b o e=>ag _ e;generalize hH3:s2.heap.push {cls:=.type "list",dict:=none,data:=.seq ([]:List Value).toArray}=P3 at I3 szL eD3 hDC k23⊢;generalize hD:s2.heap.objs.size=D0 at *;have hns4:(pushCells (P3.push {cls:=.type "dict",data:=.dict #[]}) sc.names).Ns P3.objs.size (fun _=>none):=(Heap.Ns.new P3 (.type "dict")).keeps (pushCells_keeps _ _);have keep4:∀b o,P3.get? b=some o->(pushCells (P3.push {cls:=.type "dict",data:=.dict #[]}) sc.names).get? b=some o:=fun b o e=>pushCells_keeps _ _ b o (ag _ e);have own4:=cellsFrom_ok sc.names (P3.push {cls:=.type "dict",data:=.dict #[]}) (P3.objs.size+1) [] ⟨fun _ _ hm=>(nomatch hm),nF⟩ (by rw[bF];exact aA _);rw[bF]at own4;generalize pushCells (P3.push {cls:=.type "dict",data:=.dict #[]}) sc.names=h4 at hns4 keep4 own4⊢
 --the context
 have fpl:∀b∈fp,b<D0:=fun b hb=>by
  obtain⟨o,e,_⟩:=T.obj _ _ st2 b hb;rw[<-hD];exact au e
 have hCb:D0<P3.objs.size:=by rw[szL];exact cA _
 have clo:∀x c,(fE X.env.cells sc.names []).lookup x=some c->X.env.cells.lookup x=some c/\(x,cf)∈sc.names:=fun x c e=>by
  rcases j0 _ _ x c e with⟨q,e'⟩ |q
  ·obtain⟨c',hc'⟩:=hcells _ q rfl
   have hc'':X.env.cells.lookup x=some c':=hc';rw[hc'']at e'⊢;exact⟨by rw[e'];rfl,q⟩
  ·simp at q
 have clt:∀x c,(fE X.env.cells sc.names []).lookup x=some c->c<P3.objs.size:=fun x c e=>by
  obtain⟨v,o,ho,_⟩:=I3.cell x c (clo x c e).1;exact au ho
 have cel:∀x c,(cJ (P3.objs.size+1) sc.names (fE X.env.cells sc.names [])).lookup x=some c->((x,c)∈cJ (P3.objs.size+1) sc.names []/\P3.objs.size+1<=c/\h4.IsCell c none)\/(fE X.env.cells sc.names []).lookup x=some c:=fun x c e=>by
  rw[fJ,rA]at e;cases ho:(cJ (P3.objs.size+1) sc.names []).lookup x with
  |none=>
   rw[ho]at e;exact .inr e
  |some c'=>
   rw[ho]at e;cases e;have m:=bq ho;exact .inl ⟨m,(own4.empty x c m).2,(own4.empty x c m).1⟩
 have celf:∀x,sc.names.lookup x=some .free->(cJ (P3.objs.size+1) sc.names (fE X.env.cells sc.names [])).lookup x=(fE X.env.cells sc.names []).lookup x:=fun x hf=>by
  rw[fJ,rA];cases ho:(cJ (P3.objs.size+1) sc.names []).lookup x with
  |none=>rfl
  |some c'=>
   rcases j4 _ _ _ _ _ (bq ho)with q|q
   ·have :=S.cellk _ q rfl
    rw[hf]at this;cases this
   ·cases q
 have f3:∀b∈D0::fp,oy X pins H2 b/\b<P3.objs.size:=fun b hb=>by
  rcases av.mp hb with z|z
  ·rw[z];exact⟨fD,hCb⟩
  ·exact⟨f2 b z,gK (fpl b z) hCb⟩
 have ok:(dZ X N' sc P3.objs.size {s2 with heap:=P3} H2 (D0::fp)).Ok:=by
  refine⟨I.ok.mod,S.kind,I.ok.glob,I.ok.blt,aA _,fun x y c h1 h2=>?_,fun x hx=>?_,fun x c z=>?_,fun z=>I.ok.hd z,I.ok.frames,.inl rfl,fun b hb=>⟨?_,fun x c e=>?_⟩,I3.bs,aT I.ok.bsz I3.sz,fun b o e hb=>?_,fun b hb z=>?_,I3.stack,I3.wY⟩
  ·rcases cel x c h1 with⟨m1,l1,_⟩ |q1<;>rcases cel y c h2 with⟨m2,l2,_⟩ |q2
   ·exact PySem.name_of_addr own4.apart m1 m2
   ·exact absurd l1 (Nat.not_le.mpr (bz (clt y c q2)))
   ·exact absurd l2 (Nat.not_le.mpr (bz (clt x c q1)))
   ·exact I.ok.inj x y c (clo x c q1).1 (clo y c q2).1
  ·have q:sc.names.lookup x=some .free\/sc.names.lookup x=some .cell:=by
    rcases hx with hx|hx
    ·rcases vT hx with q|q
     ·exact .inr q
     ·exact .inl q.1
    ·rcases vT hx with q|q
     ·exact .inl q
     ·exact .inl q.1
   rcases q with q|q
   ·have h1:=fb.mp (oo (cells:=X.env.cells) _ [] _ (bq q))
    show ∃c,(cJ (P3.objs.size+1) sc.names (fE X.env.cells sc.names [])).lookup x=some c;rw[celf x q];exact h1
   ·exact fb.mp (iI _ _ _ _ (bq q))
  ·have z:(sc.names.any fun y=>decide (y.1=x)&&decide (y.2=cV))=true:=z
   obtain⟨y,hy,e⟩:=bp.mp z;rw[aQ,decide_eq_true_eq,decide_eq_true_eq]at e;intro hc;rcases cel x c hc with⟨_,l1,_⟩ |q1
   ·show P3.objs.size<=c
    omega
   ·have hk:=S.cellk y hy e.2
    rw[e.1]at hk;rcases j0 _ _ x c q1 with⟨q,_⟩ |q
    ·have h2:(cJ (P3.objs.size+1) sc.names []).lookup x≠none:=fun h=>by
      have :=iI sc.names (P3.objs.size+1) [] x (bq hk)
      rw[h]at this;cases this
     have hc':(cJ (P3.objs.size+1) sc.names (fE X.env.cells sc.names [])).lookup x=some c:=hc;rw[fJ,rA]at hc';cases ho:(cJ (P3.objs.size+1) sc.names []).lookup x with
     |none=>exact absurd ho h2
     |some c'=>
      rw[ho]at hc';cases hc';have :=(own4.empty x c (bq ho)).2;show P3.objs.size<=c;omega
    ·cases q
  ·exact aL (f3 b hb).2
  ·rcases cel x c e with⟨_,l1,_⟩ |q1
   ·have :=(f3 b hb).2
    exact fun z=>by subst z;omega
   ·exact(f3 b hb).1.2.2.2.2.1 x c (clo x c q1).1
  ·rcases(f3 b hb).1.2.2.2.1 with z|z
   ·exact I.ok.noex b o e z
   ·exact absurd (bj (au e) (aT I.ok.bsz z)) (eN _)
  ·rcases av.mp (I2.Ba b z)with q|q
   ·exact(f3 b hb).1.2.1 q
   ·exact(f3 b hb).1.2.2.1 q
 obtain⟨pg,pt,pe⟩:=hb _ _ _ _ ok;have I4:Inv (dZ X N' sc P3.objs.size {s2 with heap:=P3} H2 (D0::fp)) [] (mk σ) H2 {s2 with heap:=h4}:=by
  obtain⟨ml,hmk⟩:=hm σ I.len;have locC:∀x c v,X.env.cells.lookup x=some c->P3.IsCell c v->h4.IsCell c v:=fun x c v e ⟨o,ho,hd⟩=>⟨o,keep4 c o ho,hd⟩;refine⟨ok,rfl,I2.bare,Un.kept keep4,⟨_,hns4,fun i x v e1 e2 e3=>?_⟩,fun x c e=>?_,I3.hok.fresh (aA _),fun x c e=>?_,fun p hp=>absurd (show p∈([]:List (Addr×Obj))from hp) (by simp),I3.hok.kept keep4,ml⟩
  ·obtain⟨hf,j,hj,hv⟩:=hmk i x v e1 e2
   obtain⟨m,hn,hl⟩:=I3.loc;have kx:=S.free (x,.free) (bq hf) rfl;obtain⟨u,r,l⟩:=hl j x v hj hv (by
    rcases kx with q|q
    ·exact .inr (.inl q)
    ·exact .inr (.inr q))
   refine⟨u,r,.inr ⟨?_,?_⟩⟩
   ·rcases gf (env:=X.env) hf with q|q
    ·exact .inr q
    ·exact .inl q
   ·rcases l with⟨q,_⟩ |⟨_,c,hc1,hc2⟩
    ·have kx':X.env.kindOf x=some .cell\/X.env.kindOf x=some .free:=kx
     rw[q]at kx';rcases kx' with z|z<;>cases z
    ·obtain⟨c',q⟩:=fb.mp (oo (cells:=X.env.cells) _ [] _ (bq hf))
     have :=(clo x c' q).1
     rw[hc1]at this;cases this;exact⟨c,by show(cJ (P3.objs.size+1) sc.names (fE X.env.cells sc.names [])).lookup x=some c;rw[celf x hf];exact q,locC x c _ hc1 hc2⟩
  ·rcases cel x c e with⟨_,_,hv⟩ |q1
   ·exact⟨none,hv⟩
   ·obtain⟨v,hv⟩:=I3.cell x c (clo x c q1).1
    exact⟨v,locC x c v (clo x c q1).1 hv⟩
  ·rcases cel x c e with⟨_,l1,_⟩ |q1
   ·exact I3.hok.fresh (by show P3.objs.size<=c;omega)
   ·exact I3.freeC x c (clo x c q1).1
 have st4:tn 0 h4:=T.keep _ _ _ st2 fun b hb o e=>keep4 b o (k23 b o e);have f4:∀{H':Hp}{b:Addr},b∈D0::fp->H' b=none->oy (dZ X N' sc P3.objs.size {s2 with heap:=P3} H2 (D0::fp)) [] H' b:=fun{H' b} hb hn=>
  ⟨hn,(ok.exf b hb).1,ok.exfs b hb,.inl hb,(ok.exf b hb).2,fun p hp=>absurd (show p∈([]:List (Addr×Obj))from hp) (by simp)⟩
 have ofp:∀{b:Addr},b∈fp->b∈D0::fp:=fun hb=>aJ _ hb;have nD:∀b∈fp,b≠D0:=fun b hb=>aL (fpl b hb)
 --the loop
 have loop:hZ (model X.prog X.w) X.A (.compLoop (.ListComp elt [⟨tg,iter,ifs,0⟩] sc pos) 0 (.ref it) (.ref D0) (compEnvC sc (cJ (P3.objs.size+1) sc.names (fE X.env.cells sc.names [])) P3.objs.size X.env))
   (compPost (model X.prog X.w) X.A X.xe use QQ (.ref D0) P3.objs.size) {s2 with heap:=h4}:=by
  refine BV (fun n s'=>∃i τ acc H' its k,Inv (dZ X N' sc P3.objs.size {s2 with heap:=P3} H2 (D0::fp)) [] τ H' s'/\tn i s'.heap/\(∀b∈D0::fp,H' b=none)/\bX acc its/\acc.length<=sizeLine/\
    s'.heap.get? D0=some {cls:=.type "list",data:=.seq its.toArray k}/\W i n τ acc H') ?_ m0
   ⟨0,mk σ,[],_,[],0,I4,st4,fun b hb=>(f3 b hb).1.1,.nil,aX _,keep4 _ _ eD3,w0⟩
  rintro n s5 ⟨i,τ,acc,H5,its,kk,I5,st5,fr5,va5,hz5,e5,w5⟩;have I5p:Inv (dZ X N' sc P3.objs.size {s2 with heap:=P3} H2 (D0::fp)) ([]++iP [D0] s5.heap) τ H5 s5:=by
   refine I5.pinned (fun b hb=>?_) (fun b hb=>?_)
   ·have z:b=D0:=by simpa using hb
    rw[z];exact f4 aB (fr5 D0 aB)
   ·have z:b=D0:=by simpa using hb
    rw[z];exact⟨_,e5,fun v z=>by cases z⟩
  obtain q|⟨go,NN,hN,step⟩:=turn i n τ acc H5 w5
  ·obtain⟨stop,q⟩:=q
   refine thn (T.done (dZ X N' sc P3.objs.size {s2 with heap:=P3} H2 (D0::fp)) rfl rfl rfl hc i _ s5 τ H5 (fun _ _=>False) I5p (fun b hb=>?_) st5 stop) fun r s6 ⟨hr,I6p⟩=>?_
   ·obtain⟨g0,g1,g2,g3,g4,_⟩:=f4 (ofp hb) (fr5 b (ofp hb))
    refine⟨g0,g1,g2,g3,g4,fun p hp=>?_⟩;have hp':p∈iP [D0] s5.heap:=by simpa[dZ]using hp
    obtain⟨z,_⟩:=qr hp';have z':p.1=D0:=by simpa using z
    rw[z'];exact(nD b hb).symm
   subst hr;have I6:=I6p.gS;have e6:s6.heap.get? D0=some {cls:=.type "list",data:=.seq its.toArray kk}:=(I6p.pin (D0,_) (a8 _ (a8 _ (iE (by simp) e5)))).1
   --back in the context around
   have un:Un (frs X.stack) fp H2 H5 s2.heap s6.heap:=by
    have u:=I6.base;have nb:∀b o,s2.heap.get? b=some o->b∉fp->b∉D0::fp:=fun b o e hb z=>by
     rcases av.mp z with z|z
     ·exact absurd (au e) (by rw[z,hD];exact eN _)
     ·exact hb z
    exact⟨fun b o e n hb hx=>u.keep b o (k23 b o e) n hb (nb b o e hx),fun b o e n hb hx=>u.slot b o (k23 b o e) n hb (nb b o e hx),fun b o e n hx=>u.free b o (k23 b o e) n (nb b o e hx),fun b o e hx=>u.there b o (k23 b o e) (nb b o e hx),u.tups,u.frzs,u.tbls⟩
   have I7:Inv X pins σ H5 s6:=by
    obtain⟨hh,g6,d6,t6,os6⟩:=s6;have eo:os6=s2.os:=I6.os;subst eo;exact I2.call (h':=hh) (g':=g6) (d':=d6) (t':=t6) (ch:=fp) un I6.hok I6.bare fun b hb=>⟨(f2 b hb).2.2.2.1,(f2 b hb).2.1,(f2 b hb).2.2.2.2.1,(f2 b hb).2.2.2.2.2⟩
   have fD5:oy X pins H5 D0:=⟨fr5 D0 aB,fD.2⟩;have I8:=I7.track (o:=.lst acc) fD5 (show dN X.prog X.w _ s6.heap D0 (.lst acc)from⟨hz5,its,kk,va5,e6⟩);obtain⟨m,hn,_⟩:=id I6.loc;refine fin _ P3.objs.size _ s6 m I8 hn (I2.yd (by rw[hD];exact kj hCb) (by rw[a7 (cn hDC)];exact I6.free)) ?_ (q D0 (fr5 D0 aB));obtain⟨o,es,ep,ho,hd,_⟩:=hn;exact⟨o,ho,fun v z=>by rw[hd]at z;cases z⟩
  ·skip
   have fpi:∀{H':Hp}{b:Addr},b∈fp->H' b=none->oy (dZ X N' sc P3.objs.size {s2 with heap:=P3} H2 (D0::fp)) ([]++iP [D0] s5.heap) H' b:=fun{H' b} hb hn=>by
    obtain⟨g0,g1,g2,g3,g4,_⟩:=f4 (H':=H') (ofp hb) hn;refine⟨g0,g1,g2,g3,g4,fun p hp=>?_⟩;have hp':p∈iP [D0] s5.heap:=by simpa[dZ]using hp
    obtain⟨z,_⟩:=qr hp';have z':p.1=D0:=by simpa using z
    rw[z'];exact(nD b hb).symm
   refine thn (T.item (dZ X N' sc P3.objs.size {s2 with heap:=P3} H2 (D0::fp)) rfl rfl rfl hc i _ s5 τ H5 (fun _ _=>False) I5p (fun b hb=>fpi hb (fr5 b (ofp hb))) st5 go) fun r s6 ⟨u,hr,h6⟩=>?_;subst hr;refine thn h6 fun _ s7 ⟨x,H7,I7,r7,y7,st7,fr7⟩=>?_;have I7':=I7.pinned (fun b hb=>fpi hb (fr7 b hb)) (T.obj _ _ st7);refine thn (pg _ s7 τ H7 x u _ I7' r7 (step x H7 y7)) fun _ s8 ⟨τ8,H8,I8,q8⟩=>?_;refine thn (pt _ s8 τ8 H8 _ I8 q8) fun b s9 ⟨H9,I9,q9⟩=>?_;have pinD:∀{τ':St}{H':Hp}{s':Shared},Inv (dZ X N' sc P3.objs.size {s2 with heap:=P3} H2 (D0::fp)) ([]++iP [D0] s5.heap++iP fp s7.heap) τ' H' s'->s'.heap.get? D0=some {cls:=.type "list",data:=.seq its.toArray kk}/\H' D0=none:=fun{τ' H' s'} J=>by
    have :=J.pin (D0,_) (a8 _ (jm _ (a8 _ (iE (by simp) e5))))
    exact⟨this.1,this.2.1⟩
   have pinF:∀{τ':St}{H':Hp}{s':Shared},Inv (dZ X N' sc P3.objs.size {s2 with heap:=P3} H2 (D0::fp)) ([]++iP [D0] s5.heap++iP fp s7.heap) τ' H' s'->(∀b∈fp,∀o,s7.heap.get? b=some o->s'.heap.get? b=some o)/\(∀b∈fp,H' b=none):=fun{τ' H' s'} J=>by
    refine⟨fun b hb o e=>(J.pin (b,o) (a8 _ (a8 _ (iE hb e)))).1,fun b hb=>?_⟩;obtain⟨o,e,d⟩:=T.obj _ _ st7 b hb;exact(J.pin (b,o) (a8 _ (a8 _ (iE hb e)))).2.1
   cases b with
   |false=>
    rw[if_neg (by decide)]at q9⊢;obtain⟨m',hm',w7⟩:=hN τ8 acc H9 q9;obtain⟨d1,d2⟩:=pinD I9;obtain⟨p1,p2⟩:=pinF I9;refine⟨m',hm',i+1,τ8,acc,H9,its,kk,I9.gS.gS,T.keep _ _ _ st7 p1,fun b hb=>?_,va5,hz5,d1,w7⟩;rcases av.mp hb with z|z
    ·rw[z];exact d2
    ·exact p2 b z
   |true=>
    rw[if_pos rfl]at q9⊢;refine thn (pe _ s9 τ8 H9 _ I9 q9) fun y s10 ⟨z,H10,I10,r10,q10⟩=>?_;obtain⟨hz10,n10⟩:=q10;obtain⟨m',hm',w7⟩:=hN τ8 _ H10 n10;obtain⟨d1,d2⟩:=pinD I10;obtain⟨p1,p2⟩:=pinF I10;have hlen:its.length=acc.length:=va5.length.symm;refine B5 (X:=dZ X N' sc P3.objs.size {s2 with heap:=P3} H2 (D0::fp)) I10.gS.gS (f4 aB d2) d1 (by omega) fun h' n' I11 e11 k11=>?_;refine⟨m',hm',i+1,τ8,acc++[z],H10,its++[y],n',I11,T.keep _ _ _ st7 fun b hb o e=>k11 b o (nD b hb) (p1 b hb o e),fun b hb=>?_,va5.append (.cons r10 .nil),?_,e11,w7⟩
    ·rcases av.mp hb with w|w
     ·rw[w];exact d2
     ·exact p2 b w
    ·rw[a9,bS];omega
 exact codeAny_compStart_list loop (T.self _ 0 _ _ _ st4 loop)
theorem pe_comp(S:ng X N' sc)(hm:MkOk X N' sc mk)(hc:X.calm=true)(hi:PI X tg iter wi)
  (hb:∀C s₀ H₀ fp,(dZ X N' sc C s₀ H₀ fp).Ok->PG (dZ X N' sc C s₀ H₀ fp) tg g/\PTs (dZ X N' sc C s₀ H₀ fp) ifs tc/\PE (dZ X N' sc C s₀ H₀ fp) elt te)
  (hs:∀x,jg iter X.env x=pure x:=by intro _;rfl):PE X (.ListComp elt [⟨tg,iter,ifs,0⟩] sc pos) (qN wi g tc te mk):=by
 intro pins s σ H Q I h;rw[eval_ListComp];refine v7 (use:=none) S hm hc hi hb hs I h fun l C H' s' m I' hn hC hCo q=>⟨m,hn,fun h'' hs''=>?_⟩;have I'':Inv X pins σ H' {s' with heap:=h'',toks:=s'.toks}:=I'.turned (fun b o hb e=>hs''.extBut b o hb e) hC.1 hC.2.1 hC.2.2.2.1 hC.2.2.2.2.1 hC.2.2.2.2.2;exact⟨.ref l,H',I'',rfl,q⟩
theorem Bn{spos:Pos}(S:ng X N' sc)(hm:MkOk X N' sc mk)(hc:X.calm=true)(hi:PI X tg iter wi)
  (hb:∀C s₀ H₀ fp,(dZ X N' sc C s₀ H₀ fp).Ok->PG (dZ X N' sc C s₀ H₀ fp) tg g/\PTs (dZ X N' sc C s₀ H₀ fp) ifs tc/\PE (dZ X N' sc C s₀ H₀ fp) elt te)
  (hN:X.N.Nodup)(hx:X.N[i]? =some x)(hl:X.env.scope.names.lookup x=some .local)
  (hsw:r6 (.ListComp elt [⟨tg,iter,ifs,0⟩] sc pos) (some (.Name x pos')) spos.line X.env=pure true)
  (hs:∀x,jg iter X.env x=pure x:=by intro _;rfl):PS X (.Assign [.Name x pos'] (.ListComp elt [⟨tg,iter,ifs,0⟩] sc pos) spos) (wX (qN wi g tc te mk) (kM i)):=by
 intro pins s σ H D I h;rw[exec_Assign_Name_used _ _ _ _ hsw];refine ae (wpAny_standAt (ae ?_));show wpAny _ X.A (do let _<-comprehension (.ListComp elt [⟨tg,iter,ifs,0⟩] sc pos) sc X.env (firstIterPos [⟨tg,iter,ifs,0⟩] pos) (newList []) false (eval iter X.env) (some (assign (.Name x pos') X.env))) _ _ s;refine ae (thn (v7 (use:=some (assign (.Name x pos') X.env)) (QQ:=fun _ s'=>SP X pins D .next s') S hm hc hi hb hs I h fun l C H' s' m I' hn hC hCo q=>?_) fun _ s' hq=>aj (aj hq));obtain⟨oC,eC,dC⟩:=id hCo;have I1:Inv X (pins++[(C,oC)]) σ H' s':=I'.xx fun p hp=>(bc.mp hp).elim (fun z=>I'.pin p (a8 _ z)) fun z=>by
  have e:p=(C,oC):=by simpa using z
  subst e;exact⟨eC,hC.1,hC.2.1,hC.2.2.1,dC⟩
 show wpAny _ X.A (assign (.Name x pos') X.env (.ref l)) _ _ s';refine thn (CM (i:=i) hN hx (.inl hl) (.inr hl) (pins++[(C,oC)]) s' σ H' (.ref l) (.ref l) D.nx I1 rfl q) fun _ s2 ⟨σ2,H2,I2,q2⟩=>?_;obtain⟨eC2,nC2,_,_,_⟩:=I2.pin (C,oC) (a8 _ (a8 _ (by simp)));have hn2:s2.heap.Ns C m:=by
  obtain⟨o,es,ep,ho,r⟩:=hn;have :o=oC:=by rw[eC]at ho;exact(bg ho).symm
  subst this;exact⟨o,es,ep,eC2,r⟩
 refine⟨m,hn2,fun h'' hs''=>?_⟩;have I3:Inv X pins σ2 H2 {s2 with heap:=h'',toks:=s2.toks}:=I2.gS.turned (fun b o hb e=>hs''.extBut b o hb e) nC2 hC.2.1 hC.2.2.2.1 hC.2.2.2.2.1 hC.2.2.2.2.2;exact⟨σ2,H2,I3,q2⟩
end
section
variable {X:Cx}
theorem Al:fg X (.builtin "isinstance") (fun xs H Q=>∃x T t b,xs=[x,.ty T]/\lY X.K H x t/\iy X.K t (.type T)=some b/\Q (.bl b) H):=by
 intro pins s σ H xs us Q I rv h;obtain⟨x,T,t,b,rfl,ty,e,q⟩:=h;obtain⟨u,c,rfl,ru,rc⟩:=rv.two;cases rc;exact vU I ru ty e fun tk=>⟨.bl b,H,I.tok tk,rfl,q⟩
theorem yr:fg X (.builtin "isinstance") (fun xs H Q=>∃x C t b,xs=[x,.ref C]/\lY X.K H x t/\iy X.K t (.ref C)=some b/\Q (.bl b) H):=by
 intro pins s σ H xs us Q I rv h;obtain⟨x,T,t,b,rfl,ty,e,q⟩:=h;obtain⟨u,c,rfl,ru,rc⟩:=rv.two;cases rc;exact vU I ru ty e fun tk=>⟨.bl b,H,I.tok tk,rfl,q⟩
theorem yX{bs:List Bool}(r:bX (bs.map V.bl) its):TruthOf prog w A (fun i v=>its.toArray[i]? =some v) (fun i=>bs.getD i false):=by
 intro i v s Q E hP h;have hi:its[i]? =some v:=by simpa using hP
 have e:v=.bool (bs.getD i false):=by
  have hl:=r.length;rw[ai]at hl;have hlt:i<bs.length:=by
   have :=(aH.mp hi).1
   omega
  obtain⟨u,hu,ru⟩:=bX.get (i:=i) (x:=.bl bs[i]) r (by simp[hlt]);rw[hi]at hu;cases hu;have ru':v=yG bs[i]:=ru;rw[ru',af,aa hlt];rfl
 rw[e];exact cY h
theorem range_all(bs:List Bool):(aw bs.length).all (fun i=>bs.getD i false)=bs.all id:=by
 have :bs=(aw bs.length).map fun i=>bs.getD i false:=by
  apply bR
  ·simp
  ·intro i h1 h2
   simp[h1]
 rw[cb];simp only[bC,aM];constructor
 ·intro h x hx
  obtain⟨i,hi,rfl⟩:=cD.mp hx;have :=h i hi;simpa[hi]using this
 ·intro h i hi
  have :=h bs[i] (bx hi)
  simpa[hi]using this
theorem range_any(bs:List Bool):(aw bs.length).any (fun i=>bs.getD i false)=bs.any id:=by
 rw[cb];simp only[bp,aM];constructor
 ·rintro⟨i,hi,h⟩
  exact⟨bs[i],bx hi,by simpa[hi]using h⟩
 ·rintro⟨x,hx,h⟩
  obtain⟨i,hi,rfl⟩:=cD.mp hx;exact⟨i,hi,by simpa[hi]using h⟩
theorem IF(hc:X.calm=true):fg X (.builtin "all") (fun xs H Q=>∃(p:Addr)(bs:List Bool),xs=[.ref p]/\SqL X.K H p (bs.map V.bl)/\Q (.bl (bs.all id)) H):=by
 intro pins s σ H xs us Q I rv h;obtain⟨p,bs,rfl,hq,q⟩:=h;obtain⟨u,rfl,ru⟩:=rv.one;cases ru;obtain⟨its,r,pl,hz⟩:=I.list hq;have hlen:its.toArray.size=bs.length:=by rw[aG,<-r.length,ai]
 have hne:p≠s.heap.objs.size:=by obtain⟨o,n,ho,_⟩:=id pl;exact aL (au ho)
 refine call_all_walk (i9 pl.isList ⟨s.heap.objs.size,_,_,_,_,_,fun i=>bs.getD i false,rfl,Jb (A:=X.A.in1) (I.ok.hd hc) _ p hne its.toArray,⟨⟨_,aq _ rfl,rfl,rfl⟩,pl.isList.at fun o e=>ag _ e⟩,yX r,fun h' tk k=>?_⟩);rw[hlen,range_all];exact⟨.bl (bs.all id),H,I.kept (t':=tk) fun b o e=>k b o (by simpa using aL (au e)) (ag _ e),rfl,q⟩
theorem IE(hc:X.calm=true):fg X (.builtin "any") (fun xs H Q=>∃(p:Addr)(bs:List Bool),xs=[.ref p]/\SqL X.K H p (bs.map V.bl)/\Q (.bl (bs.any id)) H):=by
 intro pins s σ H xs us Q I rv h;obtain⟨p,bs,rfl,hq,q⟩:=h;obtain⟨u,rfl,ru⟩:=rv.one;cases ru;obtain⟨its,r,pl,hz⟩:=I.list hq;have hlen:its.toArray.size=bs.length:=by rw[aG,<-r.length,ai]
 have hne:p≠s.heap.objs.size:=by obtain⟨o,n,ho,_⟩:=id pl;exact aL (au ho)
 refine call_any_walk (i9 pl.isList ⟨s.heap.objs.size,_,_,_,_,_,fun i=>bs.getD i false,rfl,Jb (A:=X.A.in1) (I.ok.hd hc) _ p hne its.toArray,⟨⟨_,aq _ rfl,rfl,rfl⟩,pl.isList.at fun o e=>ag _ e⟩,yX r,fun h' tk k=>?_⟩);rw[hlen,range_any];exact⟨.bl (bs.any id),H,I.kept (t':=tk) fun b o e=>k b o (by simpa using aL (au e)) (ag _ e),rfl,q⟩
noncomputable def BU(x:Str)(lo hi:Option Int):Str:=⟨((x.cps.toList.drop (HT.sIx x.length 0 lo)).take (HT.sIx x.length x.length hi-HT.sIx x.length 0 lo)).toArray⟩
theorem sIx_eq(n d:Nat)(i:Int):(max 0 (min (if i<0 then i+(n:Int)else i) (n:Int)))=((HT.sIx n d (some i):Nat):Int):=by
 have :=HT.clip_eq i n d
 rw[<-this];split <;>omega
theorem strIx(lo hi:Option Int)(n:Nat):rC lo hi 1 n=(aw (HT.sIx n n hi-HT.sIx n 0 lo)).map fun k=>HT.sIx n 0 lo+k:=by
 have key:∀a b:Nat,sliceRange (a:Int) (b:Int) 1=(aw (b-a)).map fun k=>a+k:=by
  intro a b;unfold sliceRange;have e:(if(1:Int)>0 then(if(a:Int)<b then((b:Int)-a+1-1)/1 else 0)else(if(a:Int)>b then((a:Int)-b-1-1)/(-1)else 0)).toNat=b-a:=by
   rw[if_pos (by decide)];split <;>omega
  simp only[e];apply bO;intro k hk;omega
 have e1:∀(o:Option Int)(d:Nat),(match o with |none=>(d:Int) |some i=>max 0 (min (if i<0 then i+(n:Int)else i) (n:Int)))=((HT.sIx n d o:Nat):Int):=by
  intro o d;cases o with
  |none=>rfl
  |some i=>exact sIx_eq n d i
 have a1:=e1 lo 0;have a2:=e1 hi n;unfold rC;simp only[show(1:Int)>0 by decide,if_true];have b1:((0:Nat):Int)=0:=rfl;rw[b1]at a1;rw[<-key,<-a1,<-a2];cases lo<;>cases hi<;>rfl
theorem pickN(xs:Array Nat)(i:Nat):∀k,((aw k).map fun m=>i+m).filterMap (xs[·]?)=(xs.toList.drop i).take k:=by
 intro k
 induction k with
 |zero=>simp
 |succ k ih=>
  rw[List.range_succ,bZ,List.filterMap_append,ih];by_cases h:i+k<xs.size
  ·rw[List.take_succ,kz]
   simp[h]
  ·rw[List.take_succ,kz]
   simp[h]
theorem DZ(x:Str)(lo hi:Option Int):Txt.slice x lo hi=BU x lo hi:=by
 have hl:HT.sIx x.length 0 lo<=x.length:=HT.Gf _ _ (aX _) lo;have hu:HT.sIx x.length x.length hi<=x.length:=HT.Gf _ _ (aA _) hi;unfold Txt.slice BU;rw[strIx];split
 ·rename_i h
  rw[aQ,beq_iff_eq,beq_iff_eq,ai,ba]at h;have a:HT.sIx x.length 0 lo=0:=by omega
  have b:HT.sIx x.length x.length hi=x.length:=by omega
  rw[a,b];have :x.cps.toList.length=x.length:=by simp[Str.length]
  rw[yR,Nat.sub_zero,<-this,d7]
 ·rw[pickN]
theorem qV{v:Value}{o:Option Int}(p:IsPart v o):∃l:Option (Int×Tok),v=partValue l/\o=l.map (·.1):=by
 cases p with
 |none=>exact⟨none,rfl,rfl⟩
 |int i t=>exact⟨some (i,t),rfl,rfl⟩
noncomputable def rSlS:V->Option Int->Option Int->Hp->VK->Prop:=fun x lo hi H Q=>∃z,x=.str z/\z.length<=sizeLine/\Q (.str (BU z lo hi)) H
theorem sl_str:SlR X rSlS:=by
 intro pins s σ H x v vl vu lo hi sl Q I rx hs pl pu h;obtain⟨z,rfl,hz,q⟩:=h;obtain⟨t,rfl⟩:=rx;obtain⟨l,rfl,rfl⟩:=qV pl;obtain⟨u,rfl,rfl⟩:=qV pu;refine⟨"str",_,F.slot_str_getitem.lookup,typeIs_str _ _ _,?_⟩;refine wpAny_getItem_str_slice (l:=l) (u:=u) (st:=none) hs rfl (post_val_or_str ⟨aT (Txt.slice_le z _ _) hz,fun t' k=>?_⟩);have e:=DZ z (l.map (·.1)) (u.map (·.1));unfold Txt.slice at e;refine⟨.str (BU z (l.map (·.1)) (u.map (·.1))),H,I.tok k,⟨t',?_⟩,q⟩;rw[<-e];rfl
noncomputable def Its(x:Str):It:=⟨fun i _=>i<x.length,fun i H v H'=>H'=H/\∃c,x.cps[i]? =some c/\v=.str ⟨#[c]⟩,fun i _=>x.length<=i⟩
end
theorem vD(it:Addr)(x:Str)(t:Tok)(A:Around)(hA:A.handled=none):
  Walks prog w A it [it] [it] x.cps.size (SignAt x) (fun i h=>h.IsStrIter it (gP x) x t i):=by
 unfold gP;cases ha:x.cps.all (·<128)
 ·simp only[aS,if_false];exact Walks.strWide hA it x t
 ·simp only[if_true];exact Walks.strAscii hA it x t
theorem FK(x:Str)(it:Addr)(t:Tok):Turn P w K tg (Its x) [it] it (fun i h=>h.IsStrIter it (gP x) x t i) where
 mem:=by simp
 obj:=fun i h st b hb=>by
  have e:b=it:=by simpa using hb
  subst e;obtain⟨o,e,c,d⟩:=st;exact⟨o,e,fun v z=>by rw[d]at z;cases z⟩
 keep:=fun i h h' st k=>let⟨o,ho,r⟩:=st;⟨o,k it (by simp) o ho,r⟩
 item:=by
  intro X hP hw hK hc i pins s σ H E I hf st hg;subst hP hw hK;obtain⟨f0,f1,f2,f3,f4,f5⟩:=hf it (by simp);have W:=vD (prog:=X.prog) (w:=X.w) it x t X.A (I.ok.hd hc);refine W.item i s _ _ hg st fun v h' tk hv st' kk=>?_;obtain⟨c,u,hc',rfl⟩:=hv;have I1:Inv X pins σ H {s with heap:=h',toks:=tk}:=I.turned (fun b o hb e=>kk b o (by simpa using hb) e) f0 f1 f3 f4 f5;obtain⟨o,e,cl,d⟩:=id st';refine⟨_,rfl,Dc (s:={s with heap:=h',toks:=tk}) (n:=gP x) e cl d ?_ ⟨.str ⟨#[c]⟩,H,I1,⟨u,rfl⟩,⟨rfl,c,hc',rfl⟩,st',fun b hb=>(hf b hb).1⟩⟩;unfold gP;split <;>decide
 done:=by
  intro X hP hw hK hc i pins s σ H E I hf st hg;subst hP hw hK;obtain⟨f0,f1,f2,f3,f4,f5⟩:=hf it (by simp);have hg':x.length<=i:=hg;by_cases hi:i=x.cps.size
  ·subst hi
   have W:=vD (prog:=X.prog) (w:=X.w) it x t X.A (I.ok.hd hc);exact W.done s _ _ st fun h' tk kk=>⟨rfl,I.turned (fun b o hb e=>kk b o (by simpa using hb) e) f0 f1 f3 f4 f5⟩
  ·have hn:x.cps[i]? =none:=by
    rw[Array.getElem?_eq_none_iff];exact hg'
   have st2:s.heap.IsStrIter it (gP x) x t i:=st;unfold gP at st2;cases ha:x.cps.all (·<128)
   ·rw[ha]at st2
    exact wpAny_pyNext_wide_end (I.ok.hd hc) st2 hn fun h' eb=>⟨rfl,I.turned (t':=s.toks) (fun b o hb e=>eb b o hb e) f0 f1 f3 f4 f5⟩
   ·rw[ha]at st2
    exact wpAny_pyNext_ascii_end (I.ok.hd hc) st2 hn fun h' eb=>⟨rfl,I.turned (t':=s.toks) (fun b o hb e=>eb b o hb e) f0 f1 f3 f4 f5⟩
 self:=fun A i s Q E st h=>by
  have st2:s.heap.IsStrIter it (gP x) x t i:=st;unfold gP at st2;cases ha:x.cps.all (·<128)
  ·rw[ha]at st2;exact wpAny_pyIter_striter_wide st2 h
  ·rw[ha]at st2;exact wpAny_pyIter_striter_ascii st2 h
noncomputable def Ite(K:ah)(a:Addr):It:=
 ⟨fun i H=>∃xs x,SqL K H a xs/\xs[i]? =some x,fun i H v H'=>∃p x,H p=none/\H'=upd H p (.tup [.int i,x])/\v=.ref p/\∀xs,SqL K H a xs->xs[i]? =some x,fun i H=>∃xs,SqL K H a xs/\xs.length<=i⟩
section
variable {X:Cx}{es:List Expr}{kk:Nat}{pp:Pos}
noncomputable def iEnum(K:ah)(tl:TE):TI:=fun σ H R=>tl σ H fun x H1=>∃a,x=.ref a/\(∃xs,SqL K H1 a xs)/\R (Ite K a) H1
end
inductive D where
 |non|bl (b:Bool) |int (i:Int) |str (x:Str) |tup (ds:List D) |lst (ds:List D)
 deriving Inhabited
mutual
noncomputable def Rep(K:ah)(H:Hp):D->V->Prop
 |.non,v=>v=.non
 |.bl b,v=>v=.bl b
 |.int i,v=>v=.int i
 |.str x,v=>v=.str x
 |.tup ds,v=>∃a xs,v=.ref a/\SqT K H a xs/\eO K H ds xs
 |.lst ds,v=>∃a xs,v=.ref a/\SqL K H a xs/\eO K H ds xs
noncomputable def eO(K:ah)(H:Hp):List D->List V->Prop
 | [],xs=>xs=[]
 |d::ds,xs=>∃x r,xs=x::r/\Rep K H d x/\eO K H ds r
end
theorem aO.tup{K:ah}{H H':Hp}{a:Addr}{xs:List V}(e:aO H H')(h:SqT K H a xs):SqT K H' a xs:=by
 rcases h with(h|⟨o,h⟩) |h
 ·exact .inl (.inl (e _ _ h))
 ·exact .inl (.inr ⟨o,e _ _ h⟩)
 ·exact .inr h
theorem eO.length:∀{ds:List D}{xs:List V},eO K H ds xs->xs.length=ds.length
 | [],_,h=>by rw[show _=[]from h];rfl
 |d::ds,_,h=>by
  obtain⟨x,r,rfl,_,h2⟩:=h;rw[bG,bG,eO.length h2]
theorem eO.at:∀{ds:List D}{xs:List V}{i:Nat}{d:D},eO K H ds xs->ds[i]? =some d->∃x,xs[i]? =some x/\Rep K H d x
 | [],_,i,d,h,e=>by simp at e
 |d::ds,_,0,d',h,e=>by
  obtain⟨y,r,rfl,h1,h2⟩:=h;simp at e;subst e;exact⟨y,rfl,h1⟩
 |d::ds,_,i+1,d',h,e=>by
  obtain⟨y,r,rfl,h1,h2⟩:=h;obtain⟨x,e',h'⟩:=eO.at (i:=i) h2 (by simpa using e);exact⟨x,by simpa using e',h'⟩
theorem eO.ints:∀(ns:List Int),eO K H (ns.map D.int) (ns.map V.int)
 | []=>rfl
 |n::ns=>⟨_,_,rfl,rfl,eO.ints ns⟩
mutual
noncomputable def eqD:D->D->Bool
 |.non,.non=>true
 |.bl a,.bl b=>a==b
 |.bl a,.int b=>(if a then 1 else 0)==b
 |.int a,.bl b=>a==(if b then 1 else 0)
 |.int a,.int b=>a==b
 |.str a,.str b=>a==b
 |.tup a,.tup b=>kO a b
 |.lst a,.lst b=>kO a b
 |_,_=>false
noncomputable def kO:List D->List D->Bool
 | [],[]=>true
 |a::as,b::bs=>eqD a b&&kO as bs
 |_,_=>false
end
mutual
noncomputable def hgt:D->Nat
 |.tup ds=>eW ds+1
 |.lst ds=>eW ds+1
 |_=>0
noncomputable def eW:List D->Nat
 | []=>0
 |d::ds=>max (hgt d) (eW ds)
end
theorem qx:∀{ds:List D}{i:Nat}{d:D},ds[i]? =some d->hgt d<=eW ds
 | [],i,d,e=>by simp at e
 |d::ds,0,d',e=>by simp at e;subst e;simp only[eW];omega
 |d::ds,i+1,d',e=>by
  have :=qx (i:=i) (ds:=ds) (d:=d') (by simpa using e)
  simp only[eW];omega
theorem mB:∀(as bs:List D)(e:Nat->Bool),as.length=bs.length->(∀(i:Nat) a b,as[i]? =some a->bs[i]? =some b->e i=eqD a b)->(aw as.length).all e=kO as bs
 | [],[],e,_,_=>rfl
 |a::as,b::bs,e,hl,h=>by
  rw[bG,List.range_succ_eq_map,lU,sx];have h0:=h 0 a b rfl rfl;have ih:=mB as bs (fun i=>e (i+1)) (by simpa using hl) fun i x y hx hy=>h (i+1) x y (by simpa using hx) (by simpa using hy);rw[h0];show(eqD a b&&(aw as.length).all (fun i=>e (i+1)))=_;rw[ih,kO]
 | [],b::bs,e,hl,_=>by simp at hl
 |a::as,[],e,hl,_=>by simp at hl
theorem mz:∀(as bs:List D),as.length≠bs.length->kO as bs=false
 | [],[],h=>absurd rfl h
 |a::as,b::bs,h=>by
  rw[kO,mz as bs (by simpa using h),iL]
 | [],b::bs,_=>rfl
 |a::as,[],_=>rfl
mutual
theorem tY:∀d:D,eqD d d=true
 |.non=>rfl
 |.bl b=>by simp[eqD]
 |.int i=>by simp[eqD]
 |.str x=>by simp[eqD]
 |.tup ds=>by rw[eqD];exact qA ds
 |.lst ds=>by rw[eqD];exact qA ds
theorem qA:∀ds:List D,kO ds ds=true
 | []=>rfl
 |d::ds=>by rw[kO,tY d,qA ds];rfl
end
section
variable {X:Cx}{pins:List (Addr×Obj)}{σ:St}{H:Hp}{s:Shared}
mutual
theorem Inv.rS(I:Inv X pins σ H s):∀{d d':D}{v:V},Rep X.K H d v->Rep X.K H d' v->d=d'
 |.non,d',v,h,h'=>by
  cases(show v=V.non from h);cases d'<;>first | (obtain⟨_,_,z,_⟩:=h';cases z;done) |rfl| (cases h';done)
 |.bl b,d',v,h,h'=>by
  cases(show v=V.bl b from h);cases d'<;>first | (obtain⟨_,_,z,_⟩:=h';cases z;done) | (cases h';rfl) | (cases h';done)
 |.int b,d',v,h,h'=>by
  cases(show v=V.int b from h);cases d'<;>first | (obtain⟨_,_,z,_⟩:=h';cases z;done) | (cases h';rfl) | (cases h';done)
 |.str b,d',v,h,h'=>by
  cases(show v=V.str b from h);cases d'<;>first | (obtain⟨_,_,z,_⟩:=h';cases z;done) | (cases h';rfl) | (cases h';done)
 |.tup ds,d',v,h,h'=>by
  obtain⟨a,xs,rfl,h1,h2⟩:=h;cases d' with
  |tup ds'=>
   obtain⟨b,ys,e,h1',h2'⟩:=h';cases e;have :=I.jj h1 h1';subst this;rw[Inv.sV I h2 h2']
  |lst ds'=>
   obtain⟨b,ys,e,h1',h2'⟩:=h';cases e;obtain⟨its,_,⟨o,e1,c1,_⟩,_⟩:=I.tuple h1;obtain⟨its',_,⟨o',n,e2,c2,_⟩,_⟩:=I.list h1';rw[e1]at e2;cases e2;rw[c1]at c2;exact absurd c2 (by decide+kernel)
  |_=>cases h'
 |.lst ds,d',v,h,h'=>by
  obtain⟨a,xs,rfl,h1,h2⟩:=h;cases d' with
  |lst ds'=>
   obtain⟨b,ys,e,h1',h2'⟩:=h';cases e;have :=I.zR h1 h1';subst this;rw[Inv.sV I h2 h2']
  |tup ds'=>
   obtain⟨b,ys,e,h1',h2'⟩:=h';cases e;obtain⟨its,_,⟨o,n,e1,c1,_⟩,_⟩:=I.list h1;obtain⟨its',_,⟨o',e2,c2,_⟩,_⟩:=I.tuple h1';rw[e1]at e2;cases e2;rw[c1]at c2;exact absurd c2 (by decide+kernel)
  |_=>cases h'
theorem Inv.sV(I:Inv X pins σ H s):∀{ds ds':List D}{xs:List V},eO X.K H ds xs->eO X.K H ds' xs->ds=ds'
 | [],[],_,_,_=>rfl
 | [],d::ds,xs,h,h'=>by
  obtain⟨x,r,e,_⟩:=h';rw[show xs=[]from h]at e;cases e
 |d::ds,[],xs,h,h'=>by
  obtain⟨x,r,e,_⟩:=h;rw[show xs=[]from h']at e;cases e
 |d::ds,d'::ds',xs,h,h'=>by
  obtain⟨x,r,rfl,h1,h2⟩:=h;obtain⟨y,r',e,h1',h2'⟩:=h';cases e;rw[Inv.rS I h1 h1',Inv.sV I h2 h2']
end
open PySem.SeqAt
theorem Inv.rcTup(I:Inv X pins σ H s)(A:Around){ds ds':List D}(hit:∀(i:Nat)(d d':D)(x y:V)(u u':Value),ds[i]? =some d->ds'[i]? =some d'->Rep X.K H d x->Rep X.K H d' y->RelV x u->RelV y u'->EqAt A.in1 s u u' (eqD d d'))(h1:SqT X.K H a xs)(h2:eO X.K H ds xs)(h1':SqT X.K H b ys)(h2':eO X.K H ds' ys)(hu:A.units<cLine):RcAt A s (.ref a) (.ref b) (kO ds ds'):=by
  obtain⟨its,r,p,_⟩:=I.tuple h1;obtain⟨its',r',p',_⟩:=I.tuple h1';have l1:=h2.length;have l2:=h2'.length;have l3:=r.length;have l4:=r'.length;have key:=RcAt.tuples (e:=fun j=>match ds[j]?,ds'[j]? with |some d,some d'=>eqD d d'|_,_=>false) p p' (A:=A) (by omega) (fun j g1 g2=>by
   have g1':j<its.length:=by simpa using g1
   have g2':j<its'.length:=by simpa using g2
   have e1:ds[j]? =some ds[j]:=aa (by omega);have e2:ds'[j]? =some ds'[j]:=aa (by omega);show EqAt A.in1 s _ _ (match ds[j]?,ds'[j]? with |some d,some d'=>eqD d d'|_,_=>false);rw[e1,e2];obtain⟨x,hx,rx⟩:=h2.at e1;obtain⟨y,hy,ry⟩:=h2'.at e2;obtain⟨u,hu1,ru⟩:=r.get hx;obtain⟨u',hu2,ru'⟩:=r'.get hy;have q1:its.toArray[j]=u:=by have :its[j]? =some its[j]:=aa g1';rw[this]at hu1;simpa using hu1
   have q2:its'.toArray[j]=u':=by have :its'[j]? =some its'[j]:=aa g2';rw[this]at hu2;simpa using hu2
   rw[q1,q2];exact hit j _ _ x y u u' e1 e2 rx ry ru ru')
  have hs:its.toArray.size=ds.length:=by simp;omega
  have hs':its'.toArray.size=ds'.length:=by simp;omega
  rw[hs,hs']at key;by_cases hl:ds.length=ds'.length
  ·have e:((aw (min ds.length ds'.length)).all (fun j=>match ds[j]?,ds'[j]? with |some d,some d'=>eqD d d'|_,_=>false)&&ds.length==ds'.length)=kO ds ds':=by
    rw[<-hl,Fn,beq_self_eq_true,Bool.and_true];refine mB ds ds' _ hl fun i x y hx hy=>?_;simp only[hx,hy]
   rw[e]at key;exact key
  ·have e:((aw (min ds.length ds'.length)).all (fun j=>match ds[j]?,ds'[j]? with |some d,some d'=>eqD d d'|_,_=>false)&&ds.length==ds'.length)=kO ds ds':=by
    rw[mz ds ds' hl,beq_eq_false_iff_ne.mpr hl,iL]
   rw[e]at key;exact key
theorem Inv.rcLst(I:Inv X pins σ H s)(A:Around){ds ds':List D}(hit:∀(i:Nat)(d d':D)(x y:V)(u u':Value),ds[i]? =some d->ds'[i]? =some d'->Rep X.K H d x->Rep X.K H d' y->RelV x u->RelV y u'->EqAt A.in1 s u u' (eqD d d'))(h1:SqL X.K H a xs)(h2:eO X.K H ds xs)(h1':SqL X.K H b ys)(h2':eO X.K H ds' ys)(hu:A.units<cLine):RcAt A s (.ref a) (.ref b) (kO ds ds'):=by
  obtain⟨its,r,p,_⟩:=I.list h1;obtain⟨its',r',p',_⟩:=I.list h1';have l1:=h2.length;have l2:=h2'.length;have l3:=r.length;have l4:=r'.length;by_cases hl:ds.length=ds'.length
  ·have key:=RcAt.lists (e:=fun j=>match ds[j]?,ds'[j]? with |some d,some d'=>eqD d d'|_,_=>false) p.isList p'.isList (A:=A) (by simp;omega) (by omega) (fun j g1 g2=>by
    have g1':j<its.length:=by simpa using g1
    have g2':j<its'.length:=by simpa using g2
    have e1:ds[j]? =some ds[j]:=aa (by omega);have e2:ds'[j]? =some ds'[j]:=aa (by omega);show EqAt A.in1 s _ _ (match ds[j]?,ds'[j]? with |some d,some d'=>eqD d d'|_,_=>false);rw[e1,e2];obtain⟨x,hx,rx⟩:=h2.at e1;obtain⟨y,hy,ry⟩:=h2'.at e2;obtain⟨u,hu1,ru⟩:=r.get hx;obtain⟨u',hu2,ru'⟩:=r'.get hy;have q1:its.toArray[j]=u:=by have :its[j]? =some its[j]:=aa g1';rw[this]at hu1;simpa using hu1
    have q2:its'.toArray[j]=u':=by have :its'[j]? =some its'[j]:=aa g2';rw[this]at hu2;simpa using hu2
    rw[q1,q2];exact hit j _ _ x y u u' e1 e2 rx ry ru ru')
   have hs:its.toArray.size=ds.length:=by simp;omega
   rw[hs,mB ds ds' _ hl fun i x y hx hy=>by simp only[hx,hy]]at key;exact key
  ·have key:=RcAt.lists_lengths p.isList p'.isList (A:=A) (by simp;omega) (by omega)
   rw[mz ds ds' hl];exact key
theorem Inv.shp(I:Inv X pins σ H s){d:D}{v:V}(h:Rep X.K H d v)(r:RelV v u):(d=.non/\v=.non/\u=.none)\/(∃x,d=.bl x/\v=.bl x/\u=.bool x)\/(∃x t,d=.int x/\v=.int x/\u=.int x t)\/(∃x t,d=.str x/\v=.str x/\u=.str x t)\/(∃ds a xs its,d=.tup ds/\v=.ref a/\u=.ref a/\SqT X.K H a xs/\eO X.K H ds xs/\IsTup s.heap a its)\/∃ds a xs its,d=.lst ds/\v=.ref a/\u=.ref a/\SqL X.K H a xs/\eO X.K H ds xs/\s.heap.IsList a its:=by
 cases d with
 |non=>cases(show v=_ from h);cases r;exact .inl ⟨rfl,rfl,rfl⟩
 |bl x=>cases(show v=_ from h);cases r;exact .inr (.inl ⟨x,rfl,rfl,rfl⟩)
 |int x=>cases(show v=_ from h);obtain⟨t,rfl⟩:=r;exact .inr (.inr (.inl ⟨x,t,rfl,rfl,rfl⟩))
 |str x=>cases(show v=_ from h);obtain⟨t,rfl⟩:=r;exact .inr (.inr (.inr (.inl ⟨x,t,rfl,rfl,rfl⟩)))
 |tup ds=>obtain⟨a,xs,rfl,h1,h2⟩:=id h;cases r;obtain⟨its,_,p,_⟩:=I.tuple h1;exact .inr (.inr (.inr (.inr (.inl ⟨ds,a,xs,_,rfl,rfl,rfl,h1,h2,p⟩))))
 |lst ds=>obtain⟨a,xs,rfl,h1,h2⟩:=id h;cases r;obtain⟨its,_,p,_⟩:=I.list h1;exact .inr (.inr (.inr (.inr (.inr ⟨ds,a,xs,_,rfl,rfl,rfl,h1,h2,p.isList⟩))))
theorem Inv.eqAt1(I:Inv X pins σ H s)(A:Around)(hit:∀(m:Nat)(ds ds':List D)(i:Nat)(d d':D)(x y:V)(u u':Value),n=m+1->eW ds<=m->ds[i]? =some d->ds'[i]? =some d'->Rep X.K H d x->Rep X.K H d' y->RelV x u->RelV y u'->EqAt A.in1 s u u' (eqD d d')):
  ∀(d d':D)(v v':V)(u u':Value),Rep X.K H d v->Rep X.K H d' v'->RelV v u->RelV v' u'->hgt d<=n->A.units+n+1<cLine->EqAt A s u u' (eqD d d'):=by
 intro d d' v v' u u' h h' r r' hn hu;obtain⟨rfl,rfl,rfl⟩ |⟨_,rfl,rfl,rfl⟩ |⟨_,t,rfl,rfl,rfl⟩ |⟨_,t,rfl,rfl,rfl⟩ |⟨ds,a,xs,its,rfl,rfl,rfl,h1,h2,p⟩ |⟨ds,a,xs,its,rfl,rfl,rfl,h1,h2,p⟩:=I.shp h r<;>obtain⟨rfl,rfl,rfl⟩ |⟨_,rfl,rfl,rfl⟩ |⟨_,t',rfl,rfl,rfl⟩ |⟨_,t',rfl,rfl,rfl⟩ |⟨ds',b,ys,its',rfl,rfl,rfl,h1',h2',p'⟩ |⟨ds',b,ys,its',rfl,rfl,rfl,h1',h2',p'⟩:=I.shp h' r'
 ·exact fX r r' rfl rfl
 ·exact fX r r' rfl rfl
 ·exact fX r r' rfl rfl
 ·exact fX r r' rfl rfl
 ·exact EqAt.none_tuple p' (by omega)
 ·exact EqAt.none_list p' (by omega)
 ·exact fX r r' rfl rfl
 ·exact fX r r' rfl rfl
 ·exact fX r r' rfl rfl
 ·exact fX r r' rfl rfl
 ·exact EqAt.bool_tuple _ p' (by omega)
 ·exact EqAt.bool_list _ p' (by omega)
 ·exact fX r r' rfl rfl
 ·exact fX r r' rfl rfl
 ·exact fX r r' rfl rfl
 ·exact fX r r' rfl rfl
 ·exact EqAt.int_tuple _ t p' (by omega)
 ·exact EqAt.int_list _ t p' (by omega)
 ·exact fX r r' rfl rfl
 ·exact fX r r' rfl rfl
 ·exact fX r r' rfl rfl
 ·exact fX r r' rfl rfl
 ·exact EqAt.str_tuple _ t p' (by omega)
 ·exact EqAt.str_list _ t p' (by omega)
 ·exact EqAt.tuple_none p (by omega)
 ·exact EqAt.tuple_bool _ p (by omega)
 ·exact EqAt.tuple_int _ t' p (by omega)
 ·exact EqAt.tuple_str _ t' p (by omega)
 ·rw[hgt]at hn
  by_cases z:a=b
  ·subst z
   have e:=I.rS h h';rw[<-e,tY];exact EqAt.same _
  ·rw[eqD]
   exact EqAt.of_refs z (Inv.rcTup I A (fun i d d' x y u u' e1 e2 rx ry ru ru'=>hit (n-1) ds ds' i d d' x y u u' (by omega) (by omega) e1 e2 rx ry ru ru') h1 h2 h1' h2' (by omega))
 ·exact EqAt.tuple_list p p' (by omega)
 ·exact EqAt.list_none p (by omega)
 ·exact EqAt.list_bool _ p (by omega)
 ·exact EqAt.list_int _ t' p (by omega)
 ·exact EqAt.list_str _ t' p (by omega)
 ·exact EqAt.list_tuple p p' (by omega)
 ·rw[hgt]at hn
  by_cases z:a=b
  ·subst z
   have e:=I.rS h h';rw[<-e,tY];exact EqAt.same _
  ·rw[eqD]
   exact EqAt.of_refs z (Inv.rcLst I A (fun i d d' x y u u' e1 e2 rx ry ru ru'=>hit (n-1) ds ds' i d d' x y u u' (by omega) (by omega) e1 e2 rx ry ru ru') h1 h2 h1' h2' (by omega))
theorem Inv.Ad(I:Inv X pins σ H s):∀(n:Nat)(A:Around)(d d':D)(v v':V)(u u':Value),Rep X.K H d v->Rep X.K H d' v'->RelV v u->RelV v' u'->hgt d<=n->A.units+n+1<cLine->EqAt A s u u' (eqD d d'):=by
 intro n
 induction n with
 |zero=>exact fun A d d' v v' u u' h h' r r' hn hu=>Inv.eqAt1 I A (fun m ds ds' i d d' x y u u' hm _ _ _ _ _ _ _=>absurd hm (by omega)) d d' v v' u u' h h' r r' hn hu
 |succ n ih=>
  exact fun A d d' v v' u u' h h' r r' hn hu=>Inv.eqAt1 I A (fun m ds ds' i d d' x y u u' hm hd e1 e2 rx ry ru ru'=>ih A.in1 d d' x y u u' rx ry ru ru' (by have :=qx e1;omega) (by show A.units+1+n+1<cLine;omega)) d d' v v' u u' h h' r r' hn hu
end
end L2
namespace L2
open PySem PySem.Spec PyProof.Rows PySem.SeqAt
section
variable {X:Cx}{pins:List (Addr×Obj)}{σ:St}{H:Hp}{s:Shared}
theorem Inv.neTup(I:Inv X pins σ H s)(A:Around){ds ds':List D}(hit:∀(i:Nat)(d d':D)(x y:V)(u u':Value),ds[i]? =some d->ds'[i]? =some d'->Rep X.K H d x->Rep X.K H d' y->RelV x u->RelV y u'->EqAt A.in1 s u u' (eqD d d'))
  (h1:SqT X.K H a xs)(h2:eO X.K H ds xs)(h1':SqT X.K H b ys)(h2':eO X.K H ds' ys)(hu:A.units<cLine):RcNeAt A s (.ref a) (.ref b) (!kO ds ds'):=by
 obtain⟨its,r,p,_⟩:=I.tuple h1;obtain⟨its',r',p',_⟩:=I.tuple h1';have l1:=h2.length;have l2:=h2'.length;have l3:=r.length;have l4:=r'.length;have key:=RcNeAt.tuples (e:=fun j=>match ds[j]?,ds'[j]? with |some d,some d'=>eqD d d'|_,_=>false) p p' (A:=A) hu (fun j g1 g2=>by
  have g1':j<its.length:=by simpa using g1
  have g2':j<its'.length:=by simpa using g2
  have e1:ds[j]? =some ds[j]:=aa (by omega);have e2:ds'[j]? =some ds'[j]:=aa (by omega);show EqAt A.in1 s _ _ (match ds[j]?,ds'[j]? with |some d,some d'=>eqD d d'|_,_=>false);rw[e1,e2];obtain⟨x,hx,rx⟩:=h2.at e1;obtain⟨y,hy,ry⟩:=h2'.at e2;obtain⟨u,hu1,ru⟩:=r.get hx;obtain⟨u',hu2,ru'⟩:=r'.get hy;have q1:its.toArray[j]=u:=by have :its[j]? =some its[j]:=aa g1';rw[this]at hu1;simpa using hu1
  have q2:its'.toArray[j]=u':=by have :its'[j]? =some its'[j]:=aa g2';rw[this]at hu2;simpa using hu2
  rw[q1,q2];exact hit j _ _ x y u u' e1 e2 rx ry ru ru')
 have hs:its.toArray.size=ds.length:=by simp;omega
 have hs':its'.toArray.size=ds'.length:=by simp;omega
 rw[hs,hs']at key;have e:((aw (min ds.length ds'.length)).all (fun j=>match ds[j]?,ds'[j]? with |some d,some d'=>eqD d d'|_,_=>false)&&ds.length==ds'.length)=kO ds ds':=by
  by_cases hl:ds.length=ds'.length
  ·rw[<-hl,Fn,beq_self_eq_true,Bool.and_true]
   refine mB ds ds' _ hl fun i x y hx hy=>?_;simp only[hx,hy]
  ·rw[mz ds ds' hl,beq_eq_false_iff_ne.mpr hl,iL]
 rw[e]at key;exact key
theorem Inv.neLst(I:Inv X pins σ H s)(A:Around){ds ds':List D}(hit:∀(i:Nat)(d d':D)(x y:V)(u u':Value),ds[i]? =some d->ds'[i]? =some d'->Rep X.K H d x->Rep X.K H d' y->RelV x u->RelV y u'->EqAt A.in1 s u u' (eqD d d'))
  (h1:SqL X.K H a xs)(h2:eO X.K H ds xs)(h1':SqL X.K H b ys)(h2':eO X.K H ds' ys)(hu:A.units<cLine):RcNeAt A s (.ref a) (.ref b) (!kO ds ds'):=by
 obtain⟨its,r,p,_⟩:=I.list h1;obtain⟨its',r',p',_⟩:=I.list h1';have l1:=h2.length;have l2:=h2'.length;have l3:=r.length;have l4:=r'.length;by_cases hl:ds.length=ds'.length
 ·have key:=RcNeAt.lists (e:=fun j=>match ds[j]?,ds'[j]? with |some d,some d'=>eqD d d'|_,_=>false) p.isList p'.isList (A:=A) (by simp;omega) hu (fun j g1 g2=>by
   have g1':j<its.length:=by simpa using g1
   have g2':j<its'.length:=by simpa using g2
   have e1:ds[j]? =some ds[j]:=aa (by omega);have e2:ds'[j]? =some ds'[j]:=aa (by omega);show EqAt A.in1 s _ _ (match ds[j]?,ds'[j]? with |some d,some d'=>eqD d d'|_,_=>false);rw[e1,e2];obtain⟨x,hx,rx⟩:=h2.at e1;obtain⟨y,hy,ry⟩:=h2'.at e2;obtain⟨u,hu1,ru⟩:=r.get hx;obtain⟨u',hu2,ru'⟩:=r'.get hy;have q1:its.toArray[j]=u:=by have :its[j]? =some its[j]:=aa g1';rw[this]at hu1;simpa using hu1
   have q2:its'.toArray[j]=u':=by have :its'[j]? =some its'[j]:=aa g2';rw[this]at hu2;simpa using hu2
   rw[q1,q2];exact hit j _ _ x y u u' e1 e2 rx ry ru ru')
  have hs:its.toArray.size=ds.length:=by simp;omega
  rw[hs,mB ds ds' _ hl fun i x y hx hy=>by simp only[hx,hy]]at key;exact key
 ·have key:=RcNeAt.lists_lengths p.isList p'.isList (A:=A) (by simp;omega) hu
  rw[mz ds ds' hl];exact key
theorem Inv.rcD(I:Inv X pins σ H s)(A:Around)(d d':D)(v v':V)(u u':Value)(h:Rep X.K H d v)(h':Rep X.K H d' v')(r:RelV v u)(r':RelV v' u')(hu:A.units+hgt d+1<cLine):RcAt A s u u' (eqD d d'):=by
 obtain⟨rfl,rfl,rfl⟩ |⟨_,rfl,rfl,rfl⟩ |⟨_,t,rfl,rfl,rfl⟩ |⟨_,t,rfl,rfl,rfl⟩ |⟨ds,a,xs,its,rfl,rfl,rfl,h1,h2,p⟩ |⟨ds,a,xs,its,rfl,rfl,rfl,h1,h2,p⟩:=I.shp h r<;>obtain⟨rfl,rfl,rfl⟩ |⟨_,rfl,rfl,rfl⟩ |⟨_,t',rfl,rfl,rfl⟩ |⟨_,t',rfl,rfl,rfl⟩ |⟨ds',b,ys,its',rfl,rfl,rfl,h1',h2',p'⟩ |⟨ds',b,ys,its',rfl,rfl,rfl,h1',h2',p'⟩:=I.shp h' r'
 ·exact RcAt.none_none
 ·exact RcAt.none_bool _
 ·exact RcAt.none_int _ t'
 ·exact RcAt.none_str _ t'
 ·exact RcAt.none_tuple p' (by omega)
 ·exact RcAt.none_list p' (by omega)
 ·exact RcAt.bool_none _
 ·exact RcAt.bool_bool _ _
 ·exact RcAt.bool_int _ _ t'
 ·exact RcAt.bool_str _ _ t'
 ·exact RcAt.bool_tuple _ p' (by omega)
 ·exact RcAt.bool_list _ p' (by omega)
 ·exact RcAt.int_none _ t
 ·exact RcAt.int_bool _ t _
 ·exact RcAt.int_int _ t _ t'
 ·exact RcAt.int_str _ t _ t'
 ·exact RcAt.int_tuple _ t p' (by omega)
 ·exact RcAt.int_list _ t p' (by omega)
 ·exact RcAt.str_none _ t
 ·exact RcAt.str_bool _ t _
 ·exact RcAt.str_int _ t _ t'
 ·exact RcAt.str_str _ t _ t'
 ·exact RcAt.str_tuple _ t p' (by omega)
 ·exact RcAt.str_list _ t p' (by omega)
 ·exact RcAt.tuple_none p (by omega)
 ·exact RcAt.tuple_bool _ p (by omega)
 ·exact RcAt.tuple_int _ t' p (by omega)
 ·exact RcAt.tuple_str _ t' p (by omega)
 ·rw[eqD];exact Inv.rcTup I A (fun i d d' x y u u' e1 e2 rx ry ru ru'=>Inv.Ad I (eW ds) A.in1 d d' x y u u' rx ry ru ru' (qx e1) (by rw[hgt]at hu;show A.units+1+eW ds+1<cLine;omega)) h1 h2 h1' h2' (by omega)
 ·exact RcAt.tuple_list p p' (by omega)
 ·exact RcAt.list_none p (by omega)
 ·exact RcAt.list_bool _ p (by omega)
 ·exact RcAt.list_int _ t' p (by omega)
 ·exact RcAt.list_str _ t' p (by omega)
 ·exact RcAt.list_tuple p p' (by omega)
 ·rw[eqD];exact Inv.rcLst I A (fun i d d' x y u u' e1 e2 rx ry ru ru'=>Inv.Ad I (eW ds) A.in1 d d' x y u u' rx ry ru ru' (qx e1) (by rw[hgt]at hu;show A.units+1+eW ds+1<cLine;omega)) h1 h2 h1' h2' (by omega)
theorem Inv.rcNeD(I:Inv X pins σ H s)(A:Around)(d d':D)(v v':V)(u u':Value)(h:Rep X.K H d v)(h':Rep X.K H d' v')(r:RelV v u)(r':RelV v' u')(hu:A.units+hgt d+1<cLine):RcNeAt A s u u' (!eqD d d'):=by
 obtain⟨rfl,rfl,rfl⟩ |⟨_,rfl,rfl,rfl⟩ |⟨_,t,rfl,rfl,rfl⟩ |⟨_,t,rfl,rfl,rfl⟩ |⟨ds,a,xs,its,rfl,rfl,rfl,h1,h2,p⟩ |⟨ds,a,xs,its,rfl,rfl,rfl,h1,h2,p⟩:=I.shp h r<;>obtain⟨rfl,rfl,rfl⟩ |⟨_,rfl,rfl,rfl⟩ |⟨_,t',rfl,rfl,rfl⟩ |⟨_,t',rfl,rfl,rfl⟩ |⟨ds',b,ys,its',rfl,rfl,rfl,h1',h2',p'⟩ |⟨ds',b,ys,its',rfl,rfl,rfl,h1',h2',p'⟩:=I.shp h' r'
 ·exact RcNeAt.none_none
 ·exact RcNeAt.none_bool _
 ·exact RcNeAt.none_int _ t'
 ·exact RcNeAt.none_str _ t'
 ·exact RcNeAt.none_tuple p' (by omega)
 ·exact RcNeAt.none_list p' (by omega)
 ·exact RcNeAt.bool_none _
 ·exact RcNeAt.bool_bool _ _
 ·exact RcNeAt.bool_int _ _ t'
 ·exact RcNeAt.bool_str _ _ t'
 ·exact RcNeAt.bool_tuple _ p' (by omega)
 ·exact RcNeAt.bool_list _ p' (by omega)
 ·exact RcNeAt.int_none _ t
 ·exact RcNeAt.int_bool _ t _
 ·exact RcNeAt.int_int _ t _ t'
 ·exact RcNeAt.int_str _ t _ t'
 ·exact RcNeAt.int_tuple _ t p' (by omega)
 ·exact RcNeAt.int_list _ t p' (by omega)
 ·exact RcNeAt.str_none _ t
 ·exact RcNeAt.str_bool _ t _
 ·exact RcNeAt.str_int _ t _ t'
 ·exact RcNeAt.str_str _ t _ t'
 ·exact RcNeAt.str_tuple _ t p' (by omega)
 ·exact RcNeAt.str_list _ t p' (by omega)
 ·exact RcNeAt.tuple_none p (by omega)
 ·exact RcNeAt.tuple_bool _ p (by omega)
 ·exact RcNeAt.tuple_int _ t' p (by omega)
 ·exact RcNeAt.tuple_str _ t' p (by omega)
 ·rw[eqD];exact Inv.neTup I A (fun i d d' x y u u' e1 e2 rx ry ru ru'=>Inv.Ad I (eW ds) A.in1 d d' x y u u' rx ry ru ru' (qx e1) (by rw[hgt]at hu;show A.units+1+eW ds+1<cLine;omega)) h1 h2 h1' h2' (by omega)
 ·exact RcNeAt.tuple_list p p' (by omega)
 ·exact RcNeAt.list_none p (by omega)
 ·exact RcNeAt.list_bool _ p (by omega)
 ·exact RcNeAt.list_int _ t' p (by omega)
 ·exact RcNeAt.list_str _ t' p (by omega)
 ·exact RcNeAt.list_tuple p p' (by omega)
 ·rw[eqD];exact Inv.neLst I A (fun i d d' x y u u' e1 e2 rx ry ru ru'=>Inv.Ad I (eW ds) A.in1 d d' x y u u' rx ry ru ru' (qx e1) (by rw[hgt]at hu;show A.units+1+eW ds+1<cLine;omega)) h1 h2 h1' h2' (by omega)
noncomputable def rEqD(K:ah):R2:=fun x y H Q=>∃d d',Rep K H d x/\Rep K H d' y/\hgt d<=30/\Q (.bl (eqD d d')) H
noncomputable def rNeD(K:ah):R2:=fun x y H Q=>∃d d',Rep K H d x/\Rep K H d' y/\hgt d<=30/\Q (.bl (!eqD d d')) H
theorem op_eqD(hu:X.A.units+40<cLine):OpR X (cP .Eq) (rEqD X.K):=by
 intro pins s σ H x y v u Q I rx ry h;obtain⟨d,d',h1,h2,hd,q⟩:=h;exact I.rcD X.A d d' x y v u h1 h2 rx ry (by omega) _ _ _ _ (qy I q rfl)
theorem op_neD(hu:X.A.units+40<cLine):OpR X (cP .NotEq) (rNeD X.K):=by
 intro pins s σ H x y v u Q I rx ry h;obtain⟨d,d',h1,h2,hd,q⟩:=h;exact I.rcNeD X.A d d' x y v u h1 h2 rx ry (by omega) _ _ _ _ (qy I q rfl)
end
end L2
namespace Q
open PySem PySem.W PyProof.Rows
noncomputable def run{α:Type}(lt:Nat->Nat->Bool):KasT α->α
 |.ret a=>a
 |.ask i j k=>run lt (k (lt i j))
theorem run_bind{α β:Type}(lt:Nat->Nat->Bool)(f:α->KasT β):∀t:KasT α,run lt (t.bind f)=run lt (f (run lt t))
 |.ret a=>rfl
 |.ask i j k=>run_bind lt f (k (lt i j))
noncomputable def okT{α:Type}(lt:Nat->Nat->Bool)(n:Nat):KasT α->Prop
 |.ret _=>True
 |.ask i j k=>(i<n/\j<n/\i≠j)/\okT lt n (k (lt i j))
theorem m5{α β:Type}{lt:Nat->Nat->Bool}{f:α->KasT β}:∀{t:KasT α},okT lt n t->okT lt n (f (run lt t))->okT lt n (t.bind f)
 |.ret a,_,h=>h
 |.ask i j k,h,h'=>⟨h.1,m5 h.2 h'⟩
structure Tot(lt:Nat->Nat->Bool)(n:Nat):Prop where
 tri:∀i j,i<n->j<n->i≠j->lt i j= !lt j i
 tr:∀i j k,i<n->j<n->k<n->lt i j=true->lt j k=true->lt i k=true
noncomputable abbrev at'(p:Array Nat)(i:Nat):Nat:=p.getD i 0
theorem DE(p:Array Nat)(i:Nat):at' p i=(p[i]?).getD 0:=by simp[at',Array.getD_eq_getD_getElem?]
structure Pm(p:Array Nat)(n:Nat):Prop where
 perm:p.Perm (aw n).toArray
theorem Pm.size{p:Array Nat}(h:Pm p n):p.size=n:=by rw[h.perm.size_eq];simp
theorem Pm.lt{p:Array Nat}(h:Pm p n)(hi:i<n):at' p i<n:=by
 have hs:i<p.size:=by rw[h.size];exact hi
 have e:at' p i=p[i]:=by simp[at',hs]
 have m:p[i]∈(aw n).toArray:=h.perm.mem_iff.mp (Array.getElem_mem hs);rw[e];simpa using m
theorem Pm.inj{p:Array Nat}(h:Pm p n)(hi:i<n)(hj:j<n)(e:at' p i=at' p j):i=j:=by
 have hsi:i<p.size:=by rw[h.size];exact hi
 have hsj:j<p.size:=by rw[h.size];exact hj
 have nd:p.toList.Nodup:=by
  have q:p.toList.Perm (aw n):=by simpa using gv.mp h.perm
  exact q.nodup_iff.mpr l7
 have e1:at' p i=p.toList[i]'(by simpa using hsi):=by simp[at',hsi]
 have e2:at' p j=p.toList[j]'(by simpa using hsj):=by simp[at',hsj]
 rw[e1,e2]at e;exact(dz nd).mp e
theorem II{p:Array Nat}(hj:j<=p.size)(k:Nat):at' (yF p i j) k=if i<=k/\k<j then at' p (i+j-1-k)else at' p k:=by
 rw[DE];unfold yF;rw[getElem?_mirror_all hj];split <;>rw[DE]
theorem IJ{p:Array Nat}{src d:Nat}(hs:src<p.size)(hd:d<=src)(k:Nat):at' (bubble p src d) k=if k=src-d then at' p src else if src-d<k/\k<=src then at' p (k-1)else at' p k:=by
 rw[DE,getElem?_bubble hs d hd];split
 ·simp[at',hs]
 ·split <;>rw[DE]
theorem Pm.rev{p:Array Nat}(h:Pm p n):Pm (yF p i j) n:=⟨(mirror_perm _ _ _ _).trans h.perm⟩
theorem Pm.bub{p:Array Nat}(h:Pm p n):Pm (bubble p i j) n:=⟨(bubble_perm _ _ _).trans h.perm⟩
noncomputable def Up(lt:Nat->Nat->Bool)(p:Array Nat)(m:Nat):Prop:=∀i j,i<j->j<m->lt (at' p i) (at' p j)=true
noncomputable def Dn(lt:Nat->Nat->Bool)(p:Array Nat)(m:Nat):Prop:=∀i j,i<j->j<m->lt (at' p j) (at' p i)=true
section
variable {lt:Nat->Nat->Bool}{N:Nat}{p:Array Nat}
theorem Tot.flip(T:Tot lt N)(P:Pm p N)(hi:i<N)(hj:j<N)(n:i≠j)(h:lt (at' p i) (at' p j)=false):lt (at' p j) (at' p i)=true:=by
 have q:=T.tri _ _ (P.lt hi) (P.lt hj) fun e=>n (P.inj hi hj e);rw[h]at q;simpa using q.symm
theorem Pm.ask{p:Array Nat}(P:Pm p N)(hi:i<N)(hj:j<N)(n:i≠j):at' p i<N/\at' p j<N/\at' p i≠at' p j:=⟨P.lt hi,P.lt hj,fun e=>n (P.inj hi hj e)⟩
theorem Up.succ(T:Tot lt N)(P:Pm p N)(h1:1<=n)(hn:n<N)(u:Up lt p n)(h:lt (at' p (n-1)) (at' p n)=true):Up lt p (n+1):=by
 intro i j hij hj;by_cases e:j=n
 ·subst e
  by_cases e2:i=j-1
  ·subst e2;exact h
  ·exact T.tr _ _ _ (P.lt (by omega)) (P.lt (by omega)) (P.lt hn) (u i (j-1) (by omega) (by omega)) h
 ·exact u i j hij (by omega)
theorem Dn.succ(T:Tot lt N)(P:Pm p N)(h1:1<=n)(hn:n<N)(u:Dn lt p n)(h:lt (at' p n) (at' p (n-1))=true):Dn lt p (n+1):=by
 intro i j hij hj;by_cases e:j=n
 ·subst e
  by_cases e2:i=j-1
  ·subst e2;exact h
  ·exact T.tr _ _ _ (P.lt hn) (P.lt (by omega)) (P.lt (by omega)) h (u i (j-1) (by omega) (by omega))
 ·exact u i j hij (by omega)
theorem xo(T:Tot lt N)(P:Pm p N):∀(f n:Nat),1<=n->n+f<=N->Up lt p n->∃m,run lt (kas_asc p f n)=m/\n<=m/\m<=n+f/\Up lt p m/\(m=n+f\/lt (at' p m) (at' p (m-1))=true)/\okT lt N (kas_asc p f n)
 | 0,n,h1,h2,u=>⟨n,rfl,aA _,aA _,u,.inl rfl,trivial⟩
 |f+1,n,h1,h2,u=>by
  unfold kas_asc;have hask:=P.ask (i:=n) (j:=n-1) (by omega) (by omega) (by omega);simp only[run,okT];by_cases c:lt (at' p n) (at' p (n-1))=true
  ·rw[if_pos c]
   exact⟨n,rfl,aA _,by omega,u,.inr c,hask,trivial⟩
  ·rw[if_neg c]
   have c':lt (at' p n) (at' p (n-1))=false:=by simpa using c
   obtain⟨m,e,a1,a2,a3,a4,a5⟩:=xo T P f (n+1) (by omega) (by omega) (u.succ T P h1 (by omega) (T.flip P (by omega) (by omega) (by omega) c'));refine⟨m,e,by omega,by omega,a3,?_,hask,a5⟩;rcases a4 with z|z
   ·exact .inl (by omega)
   ·exact .inr z
theorem zo(T:Tot lt N)(P:Pm p N):∀(f n:Nat),1<=n->n+f<=N->Dn lt p n->∃m,run lt (kas_desc f p n 0)=(p,m,0)/\n<=m/\m<=n+f/\Dn lt p m/\okT lt N (kas_desc f p n 0)
 | 0,n,h1,h2,u=>⟨n,rfl,aA _,aA _,u,trivial⟩
 |f+1,n,h1,h2,u=>by
  unfold kas_desc;have hask:=P.ask (i:=n) (j:=n-1) (by omega) (by omega) (by omega);have hask2:=P.ask (i:=n-1) (j:=n) (by omega) (by omega) (by omega);simp only[run,okT];by_cases c:lt (at' p n) (at' p (n-1))=true
  ·rw[if_pos c,if_neg (eN 0)]
   obtain⟨m,e,a1,a2,a3,a4⟩:=zo T P f (n+1) (by omega) (by omega) (u.succ T P h1 (by omega) c);exact⟨m,e,by omega,by omega,a3,hask,a4⟩
  ·rw[if_neg c]
   have c':lt (at' p n) (at' p (n-1))=false:=by simpa using c
   have d:=T.flip P (by omega) (by omega) (by omega) c';simp only[run,okT];rw[if_pos d];exact⟨n,rfl,aA _,by omega,u,hask,hask2,trivial⟩
theorem Gy(T:Tot lt N)(P:Pm p N)(h1:1<=n)(hn:n<=N)(u:Dn lt p n):∃m p',run lt (kas_tail3 n N p)=(m,p')/\1<=m/\m<=N/\Up lt p' m/\Pm p' N/\okT lt N (kas_tail3 n N p):=by
 have u':Up lt (yF p 0 n) n:=by
  intro i j hij hj;rw[II (by rw[P.size];exact hn),II (by rw[P.size];exact hn),if_pos ⟨aX _,by omega⟩,if_pos ⟨aX _,hj⟩];exact u _ _ (by omega) (by omega)
 obtain⟨m,e,a1,a2,a3,_,a5⟩:=xo T P.rev (N-n) n h1 (by omega) u';unfold kas_tail3;refine⟨m,yF p 0 n,?_,by omega,by omega,a3,P.rev,m5 a5 trivial⟩;rw[run_bind,e];rfl
theorem xn(T:Tot lt N)(P:Pm p N)(hn:n+1<=N)(u:Dn lt p (n+1)):∃m p',run lt (je n N p)=(m,p')/\1<=m/\m<=N/\Up lt p' m/\Pm p' N/\okT lt N (je n N p):=by
 obtain⟨m,e,a1,a2,a3,a4⟩:=zo T P (N-(n+1)) (n+1) (by omega) (by omega) u;obtain⟨m2,p2,b1,b2,b3,b4,b5,b6⟩:=Gy T P (by omega) (by omega) a3;unfold je;refine⟨m2,p2,?_,b2,b3,b4,b5,m5 a4 ?_⟩
 ·rw[run_bind,e]
  exact b1
 ·rw[e]
  exact b6
theorem D9(T:Tot lt N)(P:Pm p N)(hN:1<=N):∃m p',run lt (kas_count N p)=(m,p')/\1<=m/\m<=N/\Up lt p' m/\Pm p' N/\okT lt N (kas_count N p):=by
 obtain⟨m,e,a1,a2,a3,a4,a5⟩:=xo T P (N-1) 1 (aA _) (by omega) (fun i j hij hj=>by omega);have hmid:∃m' p',run lt (if(m==N)=true then sy (m,p)else if m>1 then KasT.ask (p.getD 0 0) (p.getD (m-1) 0) fun c=>if c=true then sy (m,p)else je m N (yF p 0 m)else je m N p)=(m',p')/\1<=m'/\m'<=N/\Up lt p' m'/\Pm p' N/\
   okT lt N (if(m==N)=true then sy (m,p)else if m>1 then KasT.ask (p.getD 0 0) (p.getD (m-1) 0) fun c=>if c=true then sy (m,p)else je m N (yF p 0 m)else je m N p):=by
  by_cases c:m=N
  ·rw[if_pos (by simpa using c)]
   exact⟨m,p,rfl,a1,by omega,a3,P,trivial⟩
  ·rw[if_neg (by simpa using c)]
   by_cases d:m>1
   ·rw[if_pos d]
    simp only[run,okT];rw[if_pos (a3 0 (m-1) (by omega) (by omega))];exact⟨m,p,rfl,a1,by omega,a3,P,P.ask (by omega) (by omega) (by omega),trivial⟩
   ·rw[if_neg d]
    obtain rfl:m=1:=by omega
    rcases a4 with z|z
    ·omega
    ·exact xn T P (by omega) fun i j hij hj=>by
      obtain rfl:j=1:=by omega
      obtain rfl:i=0:=by omega
      exact z
 obtain⟨m',p',b1,b2,b3,b4,b5,b6⟩:=hmid;unfold kas_count;refine⟨m',p',?_,b2,b3,b4,b5,m5 a5 ?_⟩
 ·rw[run_bind,e]
  exact b1
 ·rw[e]
  exact b6
theorem qm(T:Tot lt N)(P:Pm p N)(hk:k<N)(u:Up lt p k):∀(f l r:Nat),l<=r->r<=k->r-l<=f->(∀i,i<l->lt (at' p i) (at' p k)=true)->(∀i,r<=i->i<k->lt (at' p k) (at' p i)=true)->
  ∃q,run lt (kas_place p k f l r)=q/\q<=k/\(∀i,i<q->lt (at' p i) (at' p k)=true)/\(∀i,q<=i->i<k->lt (at' p k) (at' p i)=true)/\okT lt N (kas_place p k f l r)
 | 0,l,r,h1,h2,h3,a,b=>⟨l,rfl,by omega,a,fun i hi=>b i (by omega),trivial⟩
 |f+1,l,r,h1,h2,h3,a,b=>by
  unfold kas_place;by_cases c:l≥ r
  ·rw[if_pos c]
   exact⟨l,rfl,by omega,a,fun i hi=>b i (by omega),trivial⟩
  ·rw[if_neg c]
   have hask:=P.ask (i:=k) (j:=(l+r)/2) hk (by omega) (by omega);simp only[run,okT];by_cases d:lt (at' p k) (at' p ((l+r)/2))=true
   ·rw[if_pos d]
    have key:=qm T P hk u f l ((l+r)/2) (by omega) (by omega) (by omega) a fun i hi hik=>?_;obtain⟨q,y1,y2,y3,y4,y5⟩:=key;exact⟨q,y1,y2,y3,y4,hask,y5⟩;by_cases e:i=(l+r)/2
    ·rw[e];exact d
    ·exact T.tr _ _ _ (P.lt hk) (P.lt (by omega)) (P.lt (by omega)) d (u _ _ (by omega) hik)
   ·rw[if_neg d]
    have d':=T.flip P hk (by omega:(l+r)/2<N) (by omega) (by simpa using d);have key:=qm T P hk u f ((l+r)/2+1) r (by omega) h2 (by omega) (fun i hi=>?_) b;obtain⟨q,y1,y2,y3,y4,y5⟩:=key;exact⟨q,y1,y2,y3,y4,hask,y5⟩;by_cases e:i=(l+r)/2
    ·rw[e];exact d'
    ·exact T.tr _ _ _ (P.lt (by omega)) (P.lt (by omega)) (P.lt hk) (u _ _ (by omega) (by omega)) d'
end
theorem Cw{lt:Nat->Nat->Bool}{N:Nat}(T:Tot lt N):∀(f k:Nat)(p:Array Nat),Pm p N->k+f=N->Up lt p k->∃p',run lt (kas_bin f p k)=p'/\Up lt p' N/\Pm p' N/\okT lt N (kas_bin f p k)
 | 0,k,p,P,h,u=>⟨p,rfl,by rw[<-h];exact u,P,trivial⟩
 |f+1,k,p,P,h,u=>by
  have hk:k<N:=by omega
  obtain⟨q,e,hq,a,b,okp⟩:=qm T P hk u k 0 k (aX _) (aA _) (by omega) (fun i hi=>absurd hi (fc _)) fun i h1 h2=>by omega
  have key:=Cw T f (k+1) (bubble p k (k-q)) P.bub (by omega) fun i j hij hj=>?_;obtain⟨p',y1,y2,y3,y4⟩:=key;unfold kas_bin;refine⟨p',?_,y2,y3,m5 okp ?_⟩
  ·rw[run_bind,e]
   exact y1
  ·rw[e]
   exact y4
  have hs:k<p.size:=by rw[P.size];exact hk
  rw[IJ hs (by omega),IJ hs (by omega)];have eq:k-(k-q)=q:=by omega
  rw[eq];by_cases c1:i=q
  ·rw[if_pos c1,if_neg (by omega),if_pos (by omega)]
   exact b _ (by omega) (by omega)
  ·rw[if_neg c1]
   by_cases c2:j=q
   ·rw[if_pos c2,if_neg (by omega)]
    exact a i (by omega)
   ·rw[if_neg c2]
    by_cases c3:q<i
    ·rw[if_pos (by omega),if_pos (by omega)]
     exact u _ _ (by omega) (by omega)
    ·rw[if_neg (by omega)]
     by_cases c4:q<j
     ·rw[if_pos (by omega)]
      exact u _ _ (by omega) (by omega)
     ·rw[if_neg (by omega)]
      exact u _ _ (by omega) (by omega)
theorem fH{lt:Nat->Nat->Bool}{N:Nat}(T:Tot lt N)(hN:1<=N):Pm (run lt (dE N)) N/\Up lt (run lt (dE N)) N/\okT lt N (dE N):=by
 have P0:Pm (d8 (aw N)) N:=⟨Array.Perm.refl _⟩;obtain⟨m,p',e,a1,a2,a3,a4,a5⟩:=D9 T P0 hN;have hm:max m 1=m:=by omega
 have hmid:∃p2,run lt (if m<N then kas_bin (N-max m 1) p' (max m 1)else sy p')=p2/\Up lt p2 N/\Pm p2 N/\okT lt N (if m<N then kas_bin (N-max m 1) p' (max m 1)else sy p'):=by
  rw[hm];by_cases c:m<N
  ·rw[if_pos c]
   exact Cw T (N-m) m p' a4 (by omega) a3
  ·rw[if_neg c]
   have e2:m=N:=by omega
   exact⟨p',rfl,by rw[<-e2];exact a3,a4,trivial⟩
 obtain⟨p2,b1,b2,b3,b4⟩:=hmid;have er:run lt (dE N)=p2:=by
  unfold dE;rw[run_bind,e];exact b1
 rw[er];refine⟨b3,b2,?_⟩;unfold dE;refine m5 a5 ?_;rw[e];exact b4
theorem wp_run{lt:Nat->Nat->Bool}{N:Nat}{S:Shared->Prop}{cmp:Nat->Nat->(Bool->Shared->Prop)->Shared->Prop}{α:Type}{G:α->Shared->Prop}
  (h:∀i j C s,i<N->j<N->i≠j->S s->(∀s',S s'->C (lt i j) s')->cmp i j C s):
  ∀(t:KasT α)(s:Shared),okT lt N t->S s->(∀s',S s'->G (run lt t) s')->t.kasWp cmp G s
 |.ret a,s,_,hs,g=>g s hs
 |.ask i j k,s,ok,hs,g=>h i j _ s ok.1.1 ok.1.2.1 ok.1.2.2 hs fun s' hs'=>wp_run h (k (lt i j)) s' ok.2 hs' g
end Q
namespace L2
open PySem PySem.Spec PyProof.Rows
structure Fly(h₀ h:Heap)(H:Hp)(pn:List (Addr×Obj))(a:Addr)(c:Value)(d:Option Addr):Prop where
 ex:∃T oe vs oT ts,h.get? a=some oe/\oe.cls=c/\oe.dict=d/\oe.data=.fields vs/\vs[1]? =some (.ref T)/\T≠a/\h.get? T=some oT/\oT.data=.fields ts/\ts[3]? =some .none/\h₀.get? T=none/\H T=none/\∀p∈pn,p.1≠T
 new:h₀.get? a=none
 un:H a=none
 pins:∀p∈pn,p.1≠a
noncomputable def CXx(P:Program)(w:World):CXT:=fun outer H s E e s'=>
 ∃a c d H',e=.ref a/\s'.os=s.os/\nr s'.gens/\Un (frs outer) [] H H' s.heap s'.heap/\HOk P w H' s'.heap/\Fly s.heap s'.heap H' [] a c d/\E c d H'
section
variable {X:Cx}{pins:List (Addr×Obj)}{σ:St}{H:Hp}{s:Shared}
theorem Inv.wU(I:Inv X pins σ H s)(k:∀b o,b≠it->s.heap.get? b=some o->h'.get? b=some o)(hn:H it=none)(hL:it≠X.env.locals)
  (h1:X.s₀.heap.get? it=none)(h2:∀x c,X.env.cells.lookup x=some c->c≠it)(h3:∀p∈X.pn++pins,p.1≠it):Inv X pins σ H {s with heap:=h',toks:=t'}:=by
 have ne0:∀b o,X.s₀.heap.get? b=some o->b≠it:=fun b o e z=>by rw[z,h1]at e;cases e
 have nit:∀b u,H b=some u->b≠it:=fun b u e z=>by rw[z,hn]at e;cases e
 refine⟨I.ok,I.os,I.bare,⟨fun b o e n hb hx=>k b o (ne0 b o e) (I.base.keep b o e n hb hx),fun b o e n hb hx=>?_,I.base.free,fun b o e hx=>?_,I.base.tups,I.base.frzs,I.base.tbls⟩,?_,fun x c e=>?_,I.free,I.freeC,fun p hp=>?_,fun b u e=>?_,I.len⟩
 ·obtain⟨sl,q⟩:=I.base.slot b o e n hb hx
  exact⟨sl,k _ _ (ne0 b o e) q⟩
 ·obtain⟨o',q⟩:=I.base.there b o e hx
  exact⟨o',k _ _ (ne0 b o e) q⟩
 ·obtain⟨m,⟨o,es,ep,ho,r⟩,hl⟩:=I.loc
  refine⟨m,⟨o,es,ep,k _ _ (cn hL) ho,r⟩,fun i x v e1 e2 e3=>?_⟩;obtain⟨u,ru,l⟩:=hl i x v e1 e2 e3;refine⟨u,ru,?_⟩;rcases l with l|⟨kk,c,e,oc,q,dd⟩
  ·exact .inl l
  ·exact .inr ⟨kk,c,e,oc,k _ _ (h2 x c e) q,dd⟩
 ·obtain⟨v,oc,q,dd⟩:=I.cell x c e
  exact⟨v,oc,k _ _ (h2 x c e) q,dd⟩
 ·obtain⟨e,n,ne,nf,d⟩:=I.pin p hp
  exact⟨k _ _ (h3 p hp) e,n,ne,nf,d⟩
 ·refine(I.hok b u e).lW (fun c v hc q=>k c v ?_ q) (fun _ q=>q) fun _ _ q=>q
  rcases hc with z|z
  ·rw[z];exact nit b u e
  ·exact nit c _ z
theorem Inv.Bm(I:Inv X pins σ H s){o:Obj}{vs:Array Value}(e:s.heap.get? a=some o)(hd:o.data=.fields vs):a≠X.env.locals/\∀x c,X.env.cells.lookup x=some c->c≠a:=by
 refine⟨fun z=>?_,fun x c hc z=>?_⟩
 ·obtain⟨m,⟨o',es,ep,ho',hd',_⟩,_⟩:=I.loc
  rw[<-z,e]at ho';cases ho';rw[hd]at hd';cases hd'
 ·obtain⟨v,o',ho',hd'⟩:=I.cell x c hc
  rw[z,e]at ho';cases ho';rw[hd]at hd';cases hd'
theorem dN.has{o:HO}(x:dN P w H h a o):∃ob,h.get? a=some ob:=by
 cases o with
 |lst xs=>obtain⟨_,_,_,_,e⟩:=x;exact⟨_,e⟩
 |tup xs=>obtain⟨_,_,_,_,e,_⟩:=x;exact⟨_,e⟩
 |dK kvs=>obtain⟨_,_,_,_,o,_,_,e,_⟩:=x;exact⟨_,e⟩
 |dT kvs=>obtain⟨_,_,_,_,o,_,_,e,_⟩:=x;exact⟨_,e⟩
 |set S n=>obtain⟨o,_,_,_,e,_⟩:=x;exact⟨_,e⟩
 |ins C dx fs=>obtain⟨_,_,_,e,_⟩:=x;exact⟨_,e⟩
 |own y=>exact x
 |xd fs=>obtain⟨_,⟨_,_,_,e,_⟩,_⟩:=x;exact⟨_,e⟩
 |rng lo hi=>obtain⟨_,_,_,e⟩:=x;exact⟨_,e⟩
 |frz ob u=>obtain⟨e,_⟩:=x;exact⟨_,e⟩
 |tbl ps=>exact⟨_,x⟩
 |met f y=>exact⟨_,x⟩
 |ext φ=>exact x.2.1
section
variable {M:Model}{E:Value->Shared->Prop}{Q:Unit->Shared->Prop}
theorem enter{oe:Obj}{vs:Array Value}{head:Value}{more:Bool}(I:Inv X pins σ H s)(stk:X.stack=X.env::X.outer)(hf:X.env.frame=some X.env.locals)
  (he:s.heap.get? a=some oe)(hd:oe.data=.fields vs)(hsz:1<vs.size)(h0:X.s₀.heap.get? a=none)(hH:H a=none)(hp:∀p∈X.pn++pins,p.1≠a)
  (h:∀s2,Inv X pins σ H s2->Fly X.s₀.heap s2.heap H (X.pn++pins) a oe.cls oe.dict->Q () s2):
  wpAny M X.A (do let f<-frameOf X.env;let l<-entryPlaceOf X.env.locals more;let b<-AM head f .none (rawInt X.env.locals) .none l;rN (.ref a) 1 b)
   (fun _ s'=>wpAny M X.A (AH (.ref a) none) Q E s') E s:=by
 have hfr:X.A.frames=some (X.env::X.outer):=by rw[<-stk];exact I.ok.frames
 have hl:s.heap.FunFrames X.base (X.env::X.outer):=by rw[<-stk];exact I.stack
 have nofr:∀b∈frs X.stack,H b=none:=I.wY;refine ae (wpAny_frameOf_fun hfr hl hf fun h1 hs=>?_);have hs':Heap.SlotsOnly (frs X.stack) s.heap h1:=by rw[stk];exact hs
 have hane:a∉frs X.stack:=fun hm=>by
  rw[stk]at hm;obtain⟨_,o,ho,hnf⟩:=hl.mem hm;rw[he]at ho;cases ho;exact hnf vs hd
 have u1:Un (frs X.stack) [] H H s.heap h1:=
  ⟨fun b o e _ hb _=>(hs'.2.1 b hb).trans e,fun b o e _ _ _=>hs'.2.2 b o e,fun _ _ _ n _=>n,fun b o e _=>let⟨sl,q⟩:=hs'.2.2 b o e;⟨_,q⟩,fun _ _ q=>q,fun _ _ _ q=>q,fun _ ps q=>⟨#[],by rw[q];simp⟩⟩
 have k1:HOk X.prog X.w H h1:=fun b u e=>by
  refine(I.hok b u e).lW (fun c v hc q=>(hs'.2.1 c fun hm=>?_).trans q) (fun _ q=>q) fun _ _ q=>q;have n:=nofr c hm;rcases hc with z|z
  ·rw[z,e]at n;cases n
  ·rw[z]at n;cases n
 have I1:Inv X pins σ H {s with heap:=h1}:=I.call (g':=s.gens) (t':=s.toks) (d':=s.drawn) (ch:=[]) u1 k1 I.bare fun _ z=>nomatch z;have he1:h1.get? a=some oe:=(hs'.2.1 a hane).trans he;refine ae (wpAny_entryPlaceOf fun pl hpl=>?_);unfold AM newFields;refine ae (cg ?_ (hpl.sizeOk5 _ _ _ _ _));generalize hob:({cls:=.type "traceback",dict:=none,data:=.fields ([head,.ref X.env.locals,.none,rawInt X.env.locals,.none]++(if pl.isEmpty then iJ 6 bL else pl)).toArray}:Obj)=ob;have hodata:ob.data=.fields ([head,.ref X.env.locals,.none,rawInt X.env.locals,.none]++(if pl.isEmpty then iJ 6 bL else pl)).toArray:=by rw[<-hob]
 have hofree:ob.isFreed=false:=by rw[<-hob];rfl
 have I2:Inv X pins σ H {s with heap:=h1.push ob}:=I1.kept (t':=s.toks) fun b o e=>ag _ e;have he2:(h1.push ob).get? a=some oe:=ag _ he1;have hT2:(h1.push ob).get? h1.objs.size=some ob:=aq _ hofree;have hTa:h1.objs.size≠a:=dh (au he1);have hd3:=iz hd (·.setIfInBounds 1 (cK h1.objs.size));refine rK he2 hd hsz ?_;obtain⟨ra1,ra2⟩:=I.Bm he hd;have I3:Inv X pins σ H {s with heap:=(h1.push ob).update a (ip (·.setIfInBounds 1 (.ref h1.objs.size)))}:=
  I2.wU (t':=s.toks) (fun b o hb e=>by rw[aR _ _ (cn hb)];exact e) hH ra1 h0 ra2 hp
 have he3:=cm (ip (·.setIfInBounds 1 (cK h1.objs.size))) he2 (oD hd3);have hT3:((h1.push ob).update a (ip (·.setIfInBounds 1 (cK h1.objs.size)))).get? h1.objs.size=some ob:=by
  rw[aR _ _ (cn hTa)];exact hT2
 have hszT:3<([head,.ref X.env.locals,.none,rawInt X.env.locals,.none]++(if pl.isEmpty then iJ 6 bL else pl)).toArray.size:=by
  simp only[aG,a9,bG,jC];omega
 have hv1:(vs.setIfInBounds 1 (cK h1.objs.size))[1]? =some (.ref h1.objs.size):=by simp[hsz]
 refine wpAny_setFlight_none he3 hd3 hv1 hT3 hodata hszT ?_;have hTle:s.heap.objs.size<=h1.objs.size:=Fo hs.1.symm;have hT0:X.s₀.heap.get? h1.objs.size=none:=FA (aT I.sz hTle);have hTH:H h1.objs.size=none:=I.hok.fresh hTle;obtain⟨rt1,rt2⟩:=I3.Bm hT3 hodata;have hpT:∀p∈X.pn++pins,p.1≠h1.objs.size:=fun p hq z=>by
  have q:=au (I.pin p hq).1;exact absurd (bj (z▸q) hTle) (eN _)
 have I4:=I3.wU (t':=s.toks) (h':=((h1.push ob).update a (ip (·.setIfInBounds 1 (.ref h1.objs.size)))).update h1.objs.size (ip (·.setIfInBounds 3 .none)))
  (fun b o hb e=>by rw[aR _ _ (cn hb)];exact e) hTH rt1 hT0 rt2 hpT
 refine h _ I4 ⟨⟨h1.objs.size,_,_,_,_,?_,Obj.cls_mapFields _ _,?_,hd3,hv1,hTa,cm _ hT3 (oD (iz hodata _)),iz hodata _,?_,hT0,hTH,hpT⟩,h0,hH,hp⟩
 ·show(Heap.update _ _ _).get? a=_
  rw[aR _ _ hTa];exact he3
 ·obtain⟨c',d',dt',sl'⟩:=oe
  cases dt'<;>rfl
 ·rw[Array.getElem?_setIfInBounds_self_of_lt hszT]
theorem G6{c:Value}(I:Inv X pins σ H s)(stk:X.stack=X.env::X.outer)(hf:X.env.frame=some X.env.locals)(hx:X.ex=[])(hm:Heap.MadeExcOf s.heap h' a c args)
  (h:∀s2,Inv X pins σ H s2->Fly X.s₀.heap s2.heap H (X.pn++pins) a c none->Q () s2):
  wpAny M X.A (lP (.ref a) X.env) (fun _ s'=>wpAny M X.A (AH (.ref a) none) Q E s') E {s with heap:=h'}:=by
 obtain⟨t,ht,_,_⟩:=hm.there;have I1:Inv X pins σ H {s with heap:=h'}:=I.kept (t':=s.toks) hm.keeps;have hH:H a=none:=by
  cases q:H a with
  |none=>rfl
  |some o=>
   obtain⟨ob,e⟩:=(I.hok a o q).has;rw[hm.new]at e;cases e
 unfold lP;simp only[hf];refine ae (dg (x:=.none) ht rfl (by rfl) ?_);rw[if_neg (show ¬(bL != bL)=true by simp)];have h0:X.s₀.heap.get? a=none:=by
  cases q:X.s₀.heap.get? a with
  |none=>rfl
  |some o=>
   obtain⟨o',e⟩:=I.base.there a o q (by rw[hx];simp);rw[hm.new]at e;cases e
 exact enter I1 stk hf ht rfl (by simp) h0 hH (fun p hp z=>by have :=(I.pin p hp).1;rw[z,hm.new]at this;cases this) h
theorem G7{c:Value}(I:Inv X pins σ H s)(stk:X.stack=X.env::X.outer)(hf:X.env.frame=some X.env.locals)(hx:X.ex=[])(ho:s'.os=s.os)(hg:nr s'.gens)(u:Un (frs X.stack) [] H H' s.heap s'.heap)(ok:HOk X.prog X.w H' s'.heap)
  (F:Fly s.heap s'.heap H' [] a c d)(h:∀s2,Inv X pins σ H' s2->Fly X.s₀.heap s2.heap H' (X.pn++pins) a c d->Q () s2):
  wpAny M X.A (lP (.ref a) X.env) (fun _ s'=>wpAny M X.A (AH (.ref a) none) Q E s') E s':=by
 obtain⟨⟨T,oe,vs,oT,ts,he,rfl,rfl,hd,h1,hTa,hT,hdT,h3,hnT,hHT,_⟩,hna,hHa,_⟩:=F;have I1:Inv X pins σ H' s':=I.call' (ch:=[]) ho u ok hg fun _ z=>nomatch z;have back:∀b,s.heap.get? b=none->X.s₀.heap.get? b=none:=fun b n=>by
  cases q:X.s₀.heap.get? b with
  |none=>rfl
  |some o=>
   obtain⟨o',e⟩:=I.base.there b o q (by rw[hx];simp);rw[n]at e;cases e
 have np:∀b,s.heap.get? b=none->∀p∈X.pn++pins,p.1≠b:=fun b n p hp z=>by have :=(I.pin p hp).1;rw[z,n]at this;cases this
 unfold lP;simp only[hf];refine ae (dg he hd h1 ?_);rw[if_pos (show(cK T != bL)=true by simp)];refine ae (dg hT hdT h3 ?_);rw[if_neg (show ¬(bL==rawInt X.env.locals)=true by simp[rawInt])];refine ae (rK hT hdT (dF.mp h3).1 ?_);obtain⟨rt1,rt2⟩:=I1.Bm hT hdT;have I2:=I1.wU (t':=s'.toks) (h':=s'.heap.update T (ip (·.setIfInBounds 3 .none))) (fun b o hb e=>by rw[aR _ _ (cn hb)];exact e) hHT rt1 (back T hnT) rt2 (np T hnT);have he2:(s'.heap.update T (ip (·.setIfInBounds 3 .none))).get? a=some oe:=by rw[aR _ _ hTa];exact he
 exact enter I2 stk hf he2 hd (dF.mp h1).1 (back a hna) hHa (np a hna) h
end
end
end L2
namespace L2
open PySem PySem.Spec PySem.W PyProof.Rows
noncomputable def excOk(K:ah)(C:Addr):Bool:=
 findIn K (.ref C) "__getattribute__"==some (some (.builtin "BaseException.__getattribute__"))&&findIn K (.ref C) "__getattr__"==some none&&
 findIn K (.ref C) "__class__"==some (some (.builtin "object.__class__"))&&specialIn K (.builtin "object.__class__") "__get__"==some (some (.builtin "getset_descriptor.__get__"))&&
 takesIn K (.builtin "object.__class__")==some true&&mroIn K C (.type "object")==some true&&mroIn K C (.type "BaseException")==some true&&(clsIn K C).isSome
abbrev bmV:List Value:=[.type "ValueError",.type "Exception",.type "BaseException",.type "object"]
noncomputable def HU(a:Addr)(c:Value)(d:Option Addr):HO:=.ext fun h=>∃o,h.get? a=some o/\o.cls=c/\o.dict=d/\notCls o=true
noncomputable abbrev excO(a:Addr)(c:Value):HO:=HU a c none
noncomputable def Cx.re(X:Cx)(A:Around)(calm:Bool)(pn:List (Addr×Obj))(xe:Value->Shared->Prop):Cx:={X with A:=A,calm:=calm,pn:=pn,xe:=xe}
noncomputable def Ends.drop(D:Ends)(i:Nat):Ends:={nx:=fun σ H=>D.nx (σ.set i none) H,rt:=D.rt,bk:=fun σ H=>D.bk (σ.set i none) H,ct:=fun σ H=>D.ct (σ.set i none) H}
noncomputable def eCatch(K:ah)(C:Addr)(i:Nat)(ts:TS)(D:Ends):St->XK:=fun σ c d H=>
 c=c/\exmOne K c (.ref C)=some true/\∀a,H a=none->ts (D.drop i) (σ.set i (some (.ref a))) (upd H a (HU a c d))
noncomputable def wCatch(X:Cx)(pins:List (Addr×Obj))(D:Ends)(hs:List ExceptHandler):Value->Shared->Prop:=fun e s1=>
 wpAny (model X.prog X.w) X.A (lP e X.env) (fun _ s2=>wpAny (model X.prog X.w) X.A (AH e none) (fun _ s3=>wpAny (model X.prog X.w) X.A (handleBy e X.env hs) (SP X pins D) X.xe s3) X.xe s2) X.xe s1
section
variable {X:Cx}{pins:List (Addr×Obj)}{σ:St}{H:Hp}{s:Shared}{x n:Str}{C:Addr}{i:Nat}{b₀:Stmt}{suite:List Stmt}{np hpos pos:Pos}{ts:TS}{D:Ends}
structure TryOk(X:Cx)(x n:Str)(C:Addr)(i:Nat)(suite:List Stmt)(ts:TS):Prop where
 nd:X.N.Nodup
 at_:X.N[i]? =some n
 loc:X.env.scope.names.lookup n=some .local
 gl:Gl X x
 mg:X.mg x=some (.ref C)
 db:(x==("__debug__":Str))=false
 stk:X.stack=X.env::X.outer
 fr:X.env.frame=some X.env.locals
 ex:X.ex=[]
 su:∀(pins:List (Addr×Obj))(a:Addr),PSs (X.re (X.A.mark (some (.ref a))) false (X.pn++pins) (fun _ _=>False)) suite ts
end
noncomputable abbrev XS:=St->XK
noncomputable abbrev N0:XS:=fun _=>E0
noncomputable def AE(CX:CXT)(X:Cx)(E:XS):Prop:=∀(pins:List (Addr×Obj))(σ:St)(H:Hp)(s:Shared)(e:Value)(s':Shared),Inv X pins σ H s->CX X.stack H s (E σ) e s'->X.xe e s'
noncomputable def MadeS(X:Cx)(E:XS):Prop:=∀(pins:List (Addr×Obj))(σ:St)(H:Hp)(s:Shared)(a:Addr)(c:Value)(args:List Value)(h':Heap),Inv X pins σ H s->Heap.MadeExcOf s.heap h' a c args->E σ c none H->X.xe (.ref a) {s with heap:=h'}
section
variable {X:Cx}{CX:CXT}{k:Nat}{f:Addr}{fd:gu}{ps:List Str}{sp:Sp}{dvs:List V}{ds:List Value}{E:XS}{x:Str}{p pos:Pos}{e:Expr}{es:List Expr}{t:TA}
theorem Cv{Q:VK}{vs:List V}(F:jA X.prog X.w X.K X.mg X.base CX k f fd ps sp)(hr:ke k X.A)(hb:Binds X.K fd ps ds)(hd:bX dvs ds)(hx:AE CX X E)
  (I:Inv X pins σ H s)(r:bX vs us)(h:sp (vs++dvs) H Q (E σ)):wpAny (model X.prog X.w) X.A (call (.ref f) us) (EP X pins σ Q) X.xe s:=by
 have r2:bX (vs++dvs) (us++ds):=r.append hd;have hl:(us++ds).length=ps.length:=r2.length.symm.trans (F.len _ _ _ _ h);refine wpAny_call (lG (F.run X.A X.stack s H ⟨us,[]⟩ (us++ds) (vs++dvs) Q (E σ) hr I.env0 (hb s us I.kIn hl) r2 h) fun r s' hq=>?_);cases r with
 |error e=>exact hx pins σ H s e s' I hq
 |ok fl=>cases fl<;>first |exact I.after hq|exact km hq
theorem GZ(F:jA X.prog X.w X.K X.mg X.base CX k f fd ps sp)(hr:ke k X.A)(hg:Gl X x)(hm:X.mg x=some (.ref f))(hk:cU X.K (.ref f)=true)(hb:Binds X.K fd ps ds)(hd:bX dvs ds)(hx:AE CX X E)
  (ha:PA X (e::es) t)(hdb:(x==("__debug__":Str))=false)(he:bT (e::es) X.env=(false,eval e X.env)::bT es X.env)(hpl:(backTo pos (bT es X.env)).any (·.1)=false):
  PE X (.Call (.Name x p) (e::es) [] pos) (fun σ H Q=>y8 sp dvs (E σ) t σ H Q):=by
 intro pins s σ H Q I h;refine iN (xW I hg hm ?_ hdb);exact PySem.W.callWith_K (h₀:=X.base) I.ok.mod.kin hk (thn (ha pos pins s σ H _ I h) fun us s1 ⟨vs,H1,I1,r,q⟩=>⟨I1.kIn,Cv F hr hb hd hx I1 r q⟩) he hpl
theorem Ee(F:jA X.prog X.w X.K X.mg X.base CX k f fd ps sp)(hr:ke k X.A)(hg:Gl X x)(hm:X.mg x=some (.ref f))(hk:cU X.K (.ref f)=true)(hb:Binds X.K fd ps ds)(hd:bX dvs ds)(hx:AE CX X E)
  (hdb:(x==("__debug__":Str))=false):PE X (.Call (.Name x p) [] [] pos) (fun σ H Q=>y8 sp dvs (E σ) qh σ H Q):=by
 intro pins s σ H Q I h;refine iN (xW I hg hm ?_ hdb);exact PySem.W.callWith_K0 I.kIn hk (Cv (us:=[]) F hr hb hd hx I .nil h)
end
section
variable {P:Program}{w:World}{K:ah}{mg:Str->Option Value}{base:Heap}
theorem wx{cd:Value}{outer:List Env}{E:XK}:
  AE (CXx P w) (vg (CXx P w) P w K mg base N qual scope f cd A outer s H E) (fun _=>E):=by
 intro pins σ H1 s1 e s' I h;obtain⟨a,c,d,H',rfl,ho,hg,u,hok,F,q⟩:=h;show wpAny _ _ (leaving _ _) _ _ _;unfold leaving;refine ae (G7 I rfl rfl rfl ho hg u hok F fun s2 I2 F2=>?_);obtain⟨⟨T,oe,vs,oT,ts,h1,h2,h3,h4,h5,h6,h7,h8,h9,h10,h11,_⟩,b1,b2,_⟩:=F2;exact⟨a,c,d,H',rfl,I2.os,I2.bare,I2.base,I2.hok,⟨⟨T,oe,vs,oT,ts,h1,h2,h3,h4,h5,h6,h7,h8,h9,h10,h11,fun _ z=>nomatch z⟩,b1,b2,fun _ z=>nomatch z⟩,q⟩
theorem wy{cd:Value}{outer:List Env}{E:XK}:
  MadeS (vg (CXx P w) P w K mg base N qual scope f cd A outer s H E) (fun _=>E):=by
 intro pins σ H1 s1 a c args h' I hm q;show wpAny _ _ (leaving _ _) _ _ _;unfold leaving;refine ae (G6 I rfl rfl rfl hm fun s2 I2 F2=>?_);obtain⟨⟨T,oe,vs,oT,ts,h1,h2,h3,h4,h5,h6,h7,h8,h9,h10,h11,_⟩,b1,b2,_⟩:=F2;exact⟨a,c,none,H1,rfl,I2.os,I2.bare,I2.base,I2.hok,⟨⟨T,oe,vs,oT,ts,h1,h2,h3,h4,h5,h6,h7,h8,h9,h10,h11,fun _ z=>nomatch z⟩,b1,b2,fun _ z=>nomatch z⟩,q⟩
theorem EN{o:List Env}{e:Value}(h:CXx P w o H s E0 e s'):False:=by
 obtain⟨_,_,_,_,_,_,_,_,_,_,q⟩:=h;exact q
theorem jA.calm{fd:gu}{ps:List Str}{sp:Sp}(F:jA P w K mg base (CXx P w) k f fd ps sp):jA P w K mg base CX0 k f fd ps (fun vs H Q _=>sp vs H Q E0):=
 ⟨fun vs H Q E h=>F.len vs H Q E0 h,fun A outer s H args us vs Q E hr he hb hv hs=>lG (F.run A outer s H args us vs Q E0 hr he hb hv hs) fun r s' q=>by
  cases r with
  |error e=>exact EN q
  |ok fl=>cases fl<;>exact q⟩
end
end L2
namespace Q
open PySem PySem.Spec PySem.W PyProof.Rows L2
noncomputable def fN(lt:Nat->Nat->Bool)(vs:List Value):List Value:=if vs.length<2 then vs else(run lt (dE vs.length)).toList.map fun i=>vs.getD i .none
noncomputable def B7(prog:Program)(w:World)(A:Around)(lt:Nat->Nat->Bool)(vs:List Value)(h0:Heap):Prop:=
 ∀s1:Shared,(∀b o,h0.get? b=some o->s1.heap.get? b=some o)->
  ∃κ,(∀(Q':SortKind->Shared->Prop)(E':Value->Shared->Prop),Q' κ s1->wpAny (model prog w) A (keyKind' vs.toArray) Q' E' s1)/\
   ∀i j (C:Bool->Shared->Prop),i<vs.length->j<vs.length->i≠j->C (lt i j) s1->DG prog w A κ vs i j C s1
section
variable {prog:Program}{w:World}{A:Around}{E:Value->Shared->Prop}{s:Shared}{lt:Nat->Nat->Bool}{vs:List Value}
theorem fA(h:n<64):n<=sizeLine:=by rw[rM];omega
theorem Co(h:n<64):n<=sizeLine+1:=fj (fA h)
theorem Cn{P:eE->Shared->Prop}(T:Tot lt vs.length)(ho:s.heap.get? a=some (seqObj "list" vs.toArray n))(k0:∀b o,h0.get? b=some o->s.heap.get? b=some o/\b≠a)(h64:vs.length<64)
  (ask:2<=vs.length->B7 prog w A lt vs h0)(h:P (.done (.ret .none)) {s with heap:=sortedHeap s.heap a vs (fN lt vs).toArray}):wpAny (model prog w) A (Builtin.«list.sort» ⟨[.ref a],[]⟩) P E s:=by
 have hv:vs.toArray.size=vs.length:=by simp
 obtain⟨c,hc⟩:∃c,(s.heap.update a (aZ fun _=> #[])).get? a=some (seqObj "list" #[] c):=⟨_,pZ ho _⟩;have hc':(((s.heap.update a (aZ fun _=> #[])).push (seqObj "tuple" vs.toArray 0)).push (seqObj "list" #[] 0)).get? a=some (seqObj "list" #[] c):=ag _ (ag _ hc);have keep:∀b o,h0.get? b=some o->(((s.heap.update a (aZ fun _=> #[])).push (seqObj "tuple" vs.toArray 0)).push (seqObj "list" #[] 0)).get? b=some o:=fun b o e=>
  ag _ (ag _ ((aR _ _ (cn (k0 b o e).2)).trans (k0 b o e).1))
 rw[list_sort_plain];refine ae (listItems_at ho rfl (ae (fI ho rfl ?_ (by rw[hv];exact fA h64) (aX _))));refine ae (rO hc rfl (ae (E8 ?_ (show vs.length<=_ from fA h64))));refine ae (ny (cN ?_) (aX _));by_cases hn:vs.length<2
 ·have e:fN lt vs=vs:=if_pos hn
  rw[e]at h;dsimp only;rw[if_pos (by rw[hv];exact hn),if_pos (by rw[hv];exact hn)];refine ae (aj (ae ?_));rw[StateT.run_pure];refine aj (ae (rO hc' rfl (ae (fI hc' rfl ?_ (aX _) ?_))))
  ·have e2:(arrOf (SortSt.mk' general' (vs.toArray.zip vs.toArray) #[] 7 none)).map (·.2)=vs.toArray:=by
    show(vs.toArray.zip vs.toArray).map (·.2)=vs.toArray;apply Array.ext';simp[List.map_snd_zip]
   rw[e2];have e3:failedOf ((),SortSt.mk' general' (vs.toArray.zip vs.toArray) #[] 7 none).snd=none:=rfl;rw[e3];simp only[bne_self_eq_false,aS,if_false];exact aj h
  ·show((vs.toArray.zip vs.toArray).map (·.2)).size<=_
   rw[Array.size_map,Array.size_zip,hv,Fn];exact fj (fA h64)
 ·have h2:2<=vs.length:=by omega
  have e:fN lt vs=(run lt (dE vs.length)).toList.map fun i=>vs.getD i .none:=if_neg hn;rw[e]at h;dsimp only;rw[if_neg (by rw[hv];exact hn),if_neg (by rw[hv];exact hn)];obtain⟨κ,hk1,hk2⟩:=ask h2 {s with heap:=((s.heap.update a (aZ fun _=> #[])).push (seqObj "tuple" vs.toArray 0)).push (seqObj "list" #[] 0)} keep;obtain⟨P1,U1,O1⟩:=fH T (by omega:1<=vs.length);refine ae (hk1 _ _ (ae ?_));have key:=kat_run (prog:=prog) (w:=w) (A:=A) (E:=E) (κ:=κ) (ks:=vs) (vs:=vs) (s:={s with heap:=((s.heap.update a (aZ fun _=> #[])).push (seqObj "tuple" vs.toArray 0)).push (seqObj "list" #[] 0)})
   (Q:=fun st' s'=>s'={s with heap:=((s.heap.update a (aZ fun _=> #[])).push (seqObj "tuple" vs.toArray 0)).push (seqObj "list" #[] 0)}/\arrOf st'=(run lt (dE vs.length)).map (kas_item (vs.toArray.zip vs.toArray))/\failedOf st'=none)
   (G:=fun p s'=>s'={s with heap:=((s.heap.update a (aZ fun _=> #[])).push (seqObj "tuple" vs.toArray 0)).push (seqObj "list" #[] 0)}/\p=run lt (dE vs.length)) rfl h2 h64
   (fun p st' s' _ e1 e2 e3=>⟨e3.1,by rw[e1,e3.2],e2⟩)
   (wp_run (S:=fun s'=>s'={s with heap:=((s.heap.update a (aZ fun _=> #[])).push (seqObj "tuple" vs.toArray 0)).push (seqObj "list" #[] 0)}) (fun i j C s' hi hj hij hs hC=>by
    subst hs;exact hk2 i j C hi hj hij (hC _ rfl)) _ _ O1 rfl fun s' hs=>⟨hs,rfl⟩)
  refine gb key ?_ fun _ _ z=>z;rintro⟨⟨⟩,st'⟩ s' ⟨rfl,har,hf⟩;have hout:=kat_snds (ks:=vs) (vs:=vs) rfl har;dsimp only;rw[hout,hf];have hlen:(d8 ((run lt (dE vs.length)).toList.map fun i=>vs.getD i bL)).size<=sizeLine+1:=by
   rw[aG,ai,cq,P1.size];exact fj (fA h64)
  refine ae (rO hc' rfl (ae (fI hc' rfl ?_ (aX _) hlen)));simp only[bne_self_eq_false,aS,if_false];exact aj h
theorem mW{Q:Value->Shared->Prop}(T:Tot lt vs.length)(hl:s.heap.IsList l vs.toArray)(h64:vs.length<64)(ask:2<=vs.length->B7 prog w A.in1.in1 lt vs s.heap)
  (h:Q (.ref (s.heap.objs.size+1)) {s with heap:=sortedAll s.heap vs (fN lt vs).toArray}):wpAny (model prog w) A (call (.builtin "sorted") [.ref l]) Q E s:=by
 refine lg kind_sorted plain_sorted entry_sorted (args_sorted1 _) ?_;unfold Builtin.«sorted»;refine ae (m:=checkCount "sorted" 1 1 _) (aj (ae (collect_list hl (ae (ny ?_ (show vs.length<=_ from fA h64))) (fA h64))));generalize hH:(s.heap.push (seqObj "list" #[] 0)).update s.heap.objs.size (aZ (·++vs.toArray))=h1;have hz:h1.objs.size=s.heap.objs.size+1:=by rw[<-hH,uT,Fc]
 have kp:∀b o,s.heap.get? b=some o->h1.get? b=some o:=fun b o e=>by
  have hb:=au e;rw[<-hH,aR _ _ (dh hb)];exact ag _ e
 have hg:(h1.push (seqObj "list" vs.toArray 0)).get? (s.heap.objs.size+1)=some (seqObj "list" vs.toArray 0):=by
  rw[<-hz];exact aq _ rfl
 have hq:sortedAll s.heap vs (fN lt vs).toArray=sortedHeap (h1.push (seqObj "list" vs.toArray 0)) (s.heap.objs.size+1) vs (fN lt vs).toArray:=by rw[<-hH];rfl
 rw[hq]at h;show wpAny _ _ _ _ _ {s with heap:=h1.push (seqObj "list" vs.toArray 0)};rw[hz];refine ae (cN (cE Fb ⟨_,hg,rfl⟩ B8 (Cn T hg (fun b o e=>⟨ag _ (kp b o e),aL (bz (au e))⟩) h64 ask ⟨_,rfl,?_⟩) (args_list_sort _)));exact aj ⟨_,rfl,h⟩
end
noncomputable def tlt(x y:Str):Bool:=decide (x.cps.toList<y.cps.toList)
noncomputable def kH(ks:List Str)(i j:Nat):Bool:=tlt (ks.getD i "") (ks.getD j "")
noncomputable def ord(ks:List Str):List Nat:=if ks.length<2 then aw ks.length else(run (kH ks) (dE ks.length)).toList
noncomputable def sortBy{α:Type}(d:α)(ks:List Str)(ys:List α):List α:=(ord ks).map fun i=>ys.getD i d
theorem str_ext{y:Str}(h:x.cps.toList=y.cps.toList):x=y:=by
 obtain⟨a⟩:=x;obtain⟨b⟩:=y;have :a=b:=Array.toList_inj.mp h;rw[this]
theorem qf{y:Str}(a:tlt x y=true)(b:tlt y z=true):tlt x z=true:=by
 unfold tlt at *;rw[decide_eq_true_eq]at *;exact List.lt_trans a b
theorem tlt_tri{y:Str}(h:x≠y):tlt x y= !tlt y x:=by
 unfold tlt;by_cases c:x.cps.toList<y.cps.toList
 ·have d:¬y.cps.toList<x.cps.toList:=fun z=>List.lt_irrefl _ (List.lt_trans c z)
  rw[decide_eq_true c,decide_eq_false d];rfl
 ·by_cases d:y.cps.toList<x.cps.toList
  ·rw[decide_eq_false c,decide_eq_true d];rfl
  ·exact absurd (str_ext (List.le_antisymm (List.not_lt.mp d) (List.not_lt.mp c))) h
theorem qe(nd:ks.Nodup):Tot (kH ks) ks.length where
 tri:=fun i j hi hj h=>tlt_tri fun e=>h (by
  rw[af,af,aa hi,aa hj]at e;exact(dz nd).mp e)
 tr:=fun i j k _ _ _ a b=>qf a b
theorem CN(ks:List Str)(nd:ks.Nodup):(ord ks).length=ks.length:=by
 unfold ord;split
 ·simp
 ·rw[cq,(fH (qe nd) (by omega)).1.size]
theorem zD(nd:ks.Nodup)(hl:ks.length=ys.length)(r:bX ys vs):bX (sortBy .non ks ys) (fN (kH ks) vs):=by
 have hlen:=r.length;have e:vs.length=ks.length:=by omega
 unfold fN sortBy ord;rw[e];by_cases c:ks.length<2
 ·rw[if_pos c,if_pos c]
  have e2:(aw ks.length).map (fun i=>ys.getD i V.non)=ys:=by
   rw[hl];apply bR
   ·simp
   ·intro i h1 h2
    simp[h2]
  rw[e2];exact r
 ·rw[if_neg c,if_neg c]
  have P:=(fH (qe nd) (by omega)).1;have all:∀l:List Nat,(∀i∈l,i<ks.length)->bX (l.map fun i=>ys.getD i V.non) (l.map fun i=>vs.getD i bL):=by
   intro l
   induction l with
   |nil=>exact fun _=>.nil
   |cons i l ih=>
    intro h;have hi:i<ys.length:=by have :=h i (.head _);omega
    obtain⟨u,hu,ru⟩:=r.get (aa hi);refine .cons ?_ (ih fun j hj=>h j (.tail _ hj));show L2.RelV (ys.getD i V.non) (vs.getD i bL);rw[af,aa hi,af,hu];exact ru
  refine all _ fun i hi=>?_;have m:i∈(aw ks.length).toArray:=P.perm.mem_iff.mp (ji.mp hi);simpa using m
theorem Ck:∀{ks:List Str}{vs:List Value},bX (ks.map V.str) vs->r8 vs ks
 | [],_,.nil=>.nil
 |k::ks,_,.cons r t=>by
  obtain⟨tk,rfl⟩:=r;exact .cons k tk (Ck t)
theorem F1(r:r8 vs ks)(hi:i<ks.length):∃t,vs.getD i .none=.str (ks.getD i "") t:=by
 induction r generalizing i with
 |nil=>exact absurd hi (fc _)
 |cons y t h ih=>
  cases i with
  |zero=>exact⟨t,rfl⟩
  |succ i=>exact ih (by simpa using hi)
theorem sM(r:r8 vs ks):vs.length=ks.length:=by
 induction r with
 |nil=>rfl
 |cons y t h ih=>simp[ih]
section
variable {prog:Program}{w:World}{A:Around}
theorem wF(r:r8 vs ks)(h2:2<=vs.length):B7 prog w A (kH ks) vs h0:=by
 intro s1 _;refine⟨oneType',fun Q' E' q=>?_,fun i j C hi hj _ q=>?_⟩
 ·match vs,r,h2 with
  |v1::v2::rest,r,_=>
   rw[keyKind_strs r];exact aj q
 ·rw[sM r]at hi hj
  obtain⟨t,e1⟩:=F1 r hi;obtain⟨u,e2⟩:=F1 r hj;unfold DG;rw[e1,e2,keyLt'_oneType];exact oneLt_str q
noncomputable def qE(h:Heap)(vs:List Value)(ks:List Str):Prop:=Paired (fun v k=>∃a o xs n t,v=.ref a/\h.get? a=some o/\o.cls=.type "tuple"/\o.data=.seq xs n/\xs[0]? =some (fF k t)) vs ks
theorem Cf(r:qE h vs ks)(hi:i<vs.length):∃a o xs n t,vs.getD i .none=.ref a/\h.get? a=some o/\o.data=.seq xs n/\xs[0]? =some (fF (ks.getD i "") t):=by
 unfold qE at r
 induction r generalizing i with
 |nil=>exact absurd hi (fc _)
 |cons y t ih=>
  cases i with
  |zero=>
   obtain⟨a,o,xs,n,t,e1,e2,e3,e4,e5⟩:=y;exact⟨a,o,xs,n,t,e1,e2,e4,e5⟩
  |succ i=>exact ih (by simpa using hi)
theorem FL(kp:∀b o,h.get? b=some o->h1.get? b=some o)(r:qE h vs ks):∃fs,KatTups h1 vs fs/\fs.length=vs.length/\∀v∈fs,∃x t,v=fF x t:=by
 unfold qE at r
 induction r with
 |nil=>exact⟨[],.nil,rfl,fun v hv=>nomatch hv⟩
 |cons y t ih=>
  obtain⟨fs,a1,a2,a3⟩:=ih;obtain⟨a,o,xs,n,t,rfl,e2,e3,e4,e5⟩:=y;refine⟨_::fs,.cons (kp _ _ e2) e3 e4 e5 a1,by simp[a2],fun v hv=>?_⟩;rcases av.mp hv with rfl|hv
  ·exact⟨_,_,rfl⟩
  ·exact a3 v hv
theorem DO{xs ys:Array Value}{x y:Value}(hx:xs[0]? =some x)(hy:ys[0]? =some y):∃r,xs.toList.zip ys.toList=(x,y)::r:=by
 obtain⟨lx⟩:=xs;obtain⟨ly⟩:=ys;cases lx with
 |nil=>simp at hx
 |cons a lx=>
  cases ly with
  |nil=>simp at hy
  |cons b ly=>
   have e1:a=x:=by simpa using hx
   have e2:b=y:=by simpa using hy
   subst e1 e2;exact⟨_,rfl⟩
theorem E6(nd:ks.Nodup)(hl:vs.length=ks.length)(r:qE h0 vs ks)(h2:2<=vs.length):B7 prog w A (kH ks) vs h0:=by
 intro s1 kp;refine⟨tuples' true,fun Q' E' q=>?_,fun i j C hi hj hij q=>?_⟩
 ·obtain⟨fs,a1,a2,a3⟩:=FL kp r
  refine kat_kind (T:=.type "str") a1 (by omega) (fun v hv=>?_) rfl q;obtain⟨x,t,rfl⟩:=a3 v hv;exact Looks.of_pure rfl
 ·obtain⟨a,o,xs,n,t,e1,e2,e3,e4⟩:=Cf r hi
  obtain⟨b,o',ys,n',u,f1,f2,f3,f4⟩:=Cf r hj;unfold DG;rw[e1,f1];obtain⟨rest,ez⟩:=DO e4 f4;refine kat_lt (kp _ _ e2) e3 (kp _ _ f2) f3 ?_;rw[ez];refine Fe (eqBool_str ?_);have hne:ks.getD i ""≠ks.getD j "":=fun e=>hij (by
   rw[hl]at hi hj;rw[af,af,aa hi,aa hj]at e;exact(dz nd).mp e)
  rw[show(ks.getD i ""==ks.getD j "")=false by simpa using hne];exact kat_no (oneLt_str q)
end
noncomputable def lD(H:Hp)(ys:List V)(ks:List Str):Prop:=Paired (fun v k=>∃a rest,v=V.ref a/\H a=some (.tup (V.str k::rest))) ys ks
noncomputable def rSort(K:ah):List V->Hp->VK->Prop:=fun xs H Q=>∃p ys ks,xs=[V.ref p]/\SqL K H p ys/\ks.length<64/\ks.Nodup/\(ys=ks.map V.str\/lD H ys ks)/\∀l,H l=none->Q (.ref l) (upd H l (.lst (sortBy .non ks ys)))
theorem l9:∀{ys:List V}{ks:List Str},lD H ys ks->ks.length=ys.length
 |_,_,.nil=>rfl
 |_,_,.cons _ t=>by simp[l9 t]
theorem Ce(ok:HOk P w H h):∀{ys:List V}{ks:List Str}{vs:List Value},lD H ys ks->bX ys vs->qE h vs ks
 |_,_,_,.nil,.nil=>.nil
 |_,_,_,.cons y t,.cons r q=>by
  obtain⟨a,rest,rfl,e⟩:=y;cases r;obtain⟨_,its,rv,o,e1,e2,n,e3⟩:=ok a _ e;cases rv with
  |cons r0 _=>
   obtain⟨tk,rfl⟩:=r0;exact .cons ⟨a,o,_,n,tk,rfl,e1,e2,e3,by simp⟩ (Ce ok t q)
theorem Aj:fg X (.builtin "sorted") (rSort X.K):=by
 intro pins s σ H xs us Q I r h;obtain⟨p,ys,ks,rfl,hq,h64,nd,hk,q⟩:=h;obtain⟨u,rfl,rx⟩:=vals1 r;cases rx;obtain⟨its,r',pl,hz⟩:=I.list hq;have hl:ks.length=ys.length:=by
  rcases hk with rfl|hk
  ·simp
  ·exact l9 hk
 have hlen:=r'.length;have hv:its.length=ks.length:=by omega
 refine mW (lt:=kH ks) (vs:=its) (by rw[hv];exact qe nd) pl.isList (by omega) (fun h2=>?_) ?_
 ·rcases hk with rfl|hk
  ·exact wF (Ck r') h2
  ·exact E6 nd hv (Ce I.hok hk r') h2
 ·obtain⟨c,hc⟩:=yD s.heap its (fN (kH ks) its).toArray
  have hz2:(sortBy V.non ks ys).length<=sizeLine:=by
   unfold sortBy;rw[ai,CN ks nd];omega
  exact⟨.ref (s.heap.objs.size+1),_,I.laid (t':=s.toks) (fun b o e=>uQ e) (dP _) (show dN X.prog X.w _ _ _ (.lst (sortBy .non ks ys))from⟨hz2,_,c,zD nd hl r',hc⟩),rfl,q _ (I.hok.fresh (dP _))⟩
set_option maxHeartbeats 3200000
noncomputable def has(acc:List Key)(k:Key):Bool:=acc.any fun x=>decide (x=k)
theorem i7{acc:List Key}{k:Key}:has acc k=true↔k∈acc:=by
 unfold has;rw[bp];constructor
 ·rintro⟨x,h,e⟩
  rw[<-of_decide_eq_true e];exact h
 ·exact fun h=>⟨k,h,decide_eq_true rfl⟩
noncomputable def more(acc:List Key)(k:Key):List Key:=if has acc k=true then acc else acc++[k]
noncomputable def met(ks:List Key):List Key:=ks.foldl more []
theorem Hi(ks:List Key)(k:Key):met (ks++[k])=more (met ks) k:=by unfold met;rw[List.foldl_append];rfl
theorem zN{acc:List Key}{k j:Key}:j∈more acc k↔j∈acc\/j=k:=by
 unfold more;split
 ·rename_i h
  constructor
  ·exact .inl
  ·rintro(z|rfl)
   ·exact z
   ·exact i7.mp h
 ·simp
theorem pf(acc:List Key)(k:Key):(more acc k).length=if has acc k=true then acc.length else acc.length+1:=by
 unfold more;split <;>simp
theorem BA(ks:List Key):(met ks).length<=ks.length:=by
 unfold met;have g:∀(l acc:List Key),(l.foldl more acc).length<=acc.length+l.length:=by
  intro l
  induction l with
  |nil=>intro acc;simp
  |cons k l ih=>
   intro acc;have h1:=ih (more acc k);have h2:=pf acc k;rw[eZ,bG];split at h2<;>omega
 simpa using g ks []
theorem jP{ks:List Key}{k:Key}:k∈met ks↔k∈ks:=by
 unfold met;have g:∀(l acc:List Key),k∈l.foldl more acc↔k∈acc\/k∈l:=by
  intro l
  induction l with
  |nil=>intro acc;simp
  |cons j l ih=>
   intro acc;rw[eZ,ih,zN,av,or_assoc]
 simpa using g ks []
theorem Ez{ks:List Key}(h:ks.Nodup):met ks=ks:=by
 unfold met;have g:∀(l acc:List Key),(acc++l).Nodup->l.foldl more acc=acc++l:=by
  intro l
  induction l with
  |nil=>intro acc _;simp
  |cons k l ih=>
   intro acc hn;have hk:k∉acc:=fun z=>(cC.mp hn).2.2 k z k (.head _) rfl;have e:more acc k=acc++[k]:=if_neg fun z=>hk (i7.mp z);rw[eZ,e,ih (acc++[k]) (by simpa using hn)];simp
 simpa using g ks [] (by simpa using h)
theorem En(ks:List Key):(met ks).Nodup:=by
 unfold met;have g:∀(l acc:List Key),acc.Nodup->(l.foldl more acc).Nodup:=by
  intro l
  induction l with
  |nil=>intro acc h;exact h
  |cons k l ih=>
   intro acc h;rw[eZ];refine ih _ ?_;unfold more;split
   ·exact h
   ·rename_i c
    refine cC.mpr ⟨h,by simp,fun a ha b hb e=>c ?_⟩;have e2:b=k:=by simpa using hb
    rw[<-e2,<-e];exact i7.mpr ha
 exact g ks [] gw
theorem xM{ks:List Key}(h:(met ks).length=ks.length):ks.Nodup:=by
 have up:∀(l acc:List Key),(l.foldl more acc).length<=acc.length+l.length:=by
  intro l
  induction l with
  |nil=>intro acc;simp
  |cons k l ih=>
   intro acc;have h1:=ih (more acc k);have h2:=pf acc k;rw[eZ,bG];split at h2<;>omega
 have g:∀(l acc:List Key),acc.Nodup->(l.foldl more acc).length=acc.length+l.length->(acc++l).Nodup:=by
  intro l
  induction l with
  |nil=>intro acc h _;simpa using h
  |cons k l ih=>
   intro acc hn e;rw[eZ,bG]at e;have h1:=up l (more acc k);have h2:=pf acc k;by_cases c:has acc k=true
   ·rw[if_pos c]at h2
    omega
   ·rw[if_neg c]at h2
    have em:more acc k=acc++[k]:=if_neg c;rw[em]at e;have hk:k∉acc:=fun z=>c (i7.mpr z);have hn2:(acc++[k]).Nodup:=cC.mpr ⟨hn,by simp,fun a ha b hb e=>hk (by
     have e2:b=k:=by simpa using hb
     rw[<-e2,<-e];exact ha)⟩
    have :=ih (acc++[k]) hn2 (by rw[a9,bS];omega)
    simpa using this
 simpa using g ks [] gw (by simpa[met]using h)
theorem met_one{ks:List Key}:(met ks).length<=1↔∀a∈ks,∀b∈ks,a=b:=by
 constructor
 ·intro h a ha b hb
  have ha':=jP.mpr ha;have hb':=jP.mpr hb
  match e:met ks,h with
  | [],_=>rw[e]at ha';cases ha'
  | [x],_=>
   rw[e]at ha' hb';rw[aD.mp ha',aD.mp hb']
 ·intro h
  match e:met ks with
  | []=>simp
  | [x]=>simp
  |x::y::r=>
   have n:=En ks;rw[e]at n;have hx:x∈ks:=jP.mp (by rw[e];exact .head _);have hy:y∈ks:=jP.mp (by rw[e];exact .tail _ (.head _));have :=h x hx y hy;rw[this]at n;simp at n
noncomputable abbrev lX(led:Bool):Obj:={cls:=.type "set",dict:=none,data:=.set #[] 0 (.fresh 0 0 led)}
noncomputable def zk(a:Addr)(n:Nat):HO:=.ext fun h=>∃o es ep t,h.get? a=some o/\o.ExactSet/\o.data=.set es ep t/\es.size<fR/\t.fits es.size=true/\es.size=n
theorem xZ:∀{ks:List Key}{us:List Value},bX (ks.map kV) us->∀(i:Nat)(v:Value),us[i]? =some v->∃k,ks[i]? =some k/\RelV (kV k) v
 | [],_,.nil,i,v,e=>by simp at e
 |k::ks,_,.cons r t,0,v,e=>by
  simp at e;subst e;exact⟨k,rfl,r⟩
 |k::ks,_,.cons r t,i+1,v,e=>xZ t i v (by simpa using e)
noncomputable def rSet(K:ah):List V->Hp->VK->Prop:=fun xs H Q=>∃p ks,xs=[V.ref p]/\SqL K H p (ks.map kV)/\ks.length<4000/\∀a,H a=none->Q (.ref a) (upd H a (zk a (met ks).length))
theorem vp:fg X (.builtin "len") (fun xs H Q=>∃a n,xs=[V.ref a]/\H a=some (zk a n)/\Q (.int n) H):=by
 intro pins s σ H xs us Q I r h;obtain⟨a,n,rfl,e,q⟩:=h;obtain⟨u,rfl,rx⟩:=vals1 r;cases rx;obtain⟨⟨o,es,ep,t,ho,hex,hd,hbb,hf,rfl⟩,_⟩:=I.hok a _ e;refine call_len_set ho hex hd hf (by have :es.size<4096:=hbb;omega) ?_;exact⟨.int es.size,H,I.tok _,⟨_,rfl⟩,q⟩
end Q
namespace L2
open PySem PySem.Spec PyProof.Rows
section
variable {X:Cx}
noncomputable def rRepS:R2:=fun x y H Q=>∃(z:Str)(n:Int),x=.str z/\y=.int n/\2<=n/\n<=1000/\1<=z.length/\z.length<=1000/\Q (.str ⟨(iJ n.toNat z.cps).foldl (·++·) #[]⟩) H
noncomputable def rJoin(K:ah):V->List V->Hp->VK->Prop:=fun x vs H Q=>∃(sep:Str)(p:Addr)(ys:List Str),x=.str sep/\vs=[.ref p]/\SqL K H p (ys.map V.str)/\sep.length<=16/\(ys.map (·.length)).sum+ys.length<=1048576/\Q (.str (Txt.join sep ys)) H
end
end L2
set_option maxHeartbeats 1000000
namespace HT
open PySem PySem.Spec PyProof.Rows
section
variable {prog:Program}{w:World}{K:Type}[DecidableEq K]{knd:HeapKind prog w K}{A:Around}{s:Shared}{E:Value->Shared->Prop}
theorem setDef{d:Addr}{xs:List (K×Addr×Value)}{k:K}{v:Value}{Q:Value->Shared->Prop}(hu:knd.room A)(hkey:knd.is s.heap k a)(hm:s.heap.DictOfH knd d xs)
  (h1:∀u,(atKey xs k).map (·.2)=some u->Q u {s with toks:=s.toks+knd.draws k})
  (h2:atKey xs k=none->∀h',h'.DictOfH knd d (storedH xs k a v)->dq d s.heap h'->Q v {s with heap:=h',toks:=s.toks+knd.draws k})
  (hsz:xs.length<=sizeLine):wpAny (model prog w) A (Fh d (.ref a) v) Q E s:=by
 obtain⟨o,es,ep,ho,hc,hd,he,his,hn⟩:=hm;unfold Fh;refine cN ?_;refine ae (knd.pyHash hu hkey ?_);refine ae (wpAny_dictFind_heap (s:={s with toks:=s.toks+knd.draws k}) hu hkey ho hd he his hn ?_ ?_)
 ·intro hno
  have hnot:k∉xs.map (·.1):=not_mem_keys_of_get hno;refine ae (eX (ae (wpAny_updateDictKeys (hz:=by have e:=size_of_entries he;omega) (s:={s with toks:=s.toks+knd.draws k}) ho hd (aj (h2 (ni hno) _ ⟨_,_,ep+1,cm _ ho (Obj.isFreed_of_dict (Jj hd _)),
   hc.mapDictKeys _,Jj hd _,?_,?_,?_⟩ (bJ ..))))))
  ·rw[storedH_new (ni hno)]
   simp[he,entryOfKey]
  ·rw[storedH_new (ni hno)]
   intro x hx;rcases bc.mp hx with hx|hx
   ·exact knd.keeps (his x hx) ho hd (bJ ..)
   ·rw[aD.mp hx]
    exact knd.keeps hkey ho hd (bJ ..)
  ·rw[storedH_new (ni hno),bZ,cC]
   refine⟨hn,by simp,fun x hx y hy e=>?_⟩;have :y=k:=by simpa using hy
   exact hnot (by rw[<-this,<-e];exact hx)
 ·intro j p hj
  refine ae (wpAny_dictEntries (s:={s with toks:=s.toks+knd.draws k}) ho hd ?_);rw[entry_at he j,hj];exact ae (eX (aj (h1 _ (by rw[atKey_of_get hn hj];rfl))))
variable(knd) in
theorem xT(d a:Addr)(hd:(d==gc)=false)(dflt:Value):
  MeetsIn prog w (Builtin.«dict.setdefault» ⟨[.ref d,.ref a,dflt],[]⟩) (fun A R s=>knd.room A.in1/\∃k xs,knd.is s.heap k a/\s.heap.DictOfH knd d xs/\xs.length<=sizeLine/\
   (∀u,(atKey xs k).map (·.2)=some u->R (.ok (.ret u)) {s with toks:=s.toks+knd.draws k})/\
   (atKey xs k=none->∀h',h'.DictOfH knd d (storedH xs k a dflt)->dq d s.heap h'->R (.ok (.ret dflt)) {s with heap:=h',toks:=s.toks+knd.draws k})):=
 .of_wp fun A R s ⟨hu,k,xs,hkey,hm,hz,h1,h2⟩=>by
  unfold Builtin.«dict.setdefault»;refine ae ?_;unfold Builtin.Dict.keyAndDefault;refine ae (wpAny_notOrdered_dict hm.typeIs ?_);show wpAny _ _ (pure (d,cK a,some dflt)) _ _ s;refine aj ?_;show wpAny _ _ (if(d==gc)=true then _ else(Fh d (.ref a) dflt>>=_)) _ _ s;rw[if_neg (by rw[hd];exact aE)];exact ae (setDef hu hkey hm (fun v hv=>aj ⟨v,rfl,h1 v hv⟩) (fun hn h' hm' hs'=>aj ⟨dflt,rfl,h2 hn h' hm' hs'⟩) hz)
end
end HT
namespace L2
open PySem PySem.Spec PyProof.Rows
section
variable {X:Cx}{pins:List (Addr×Obj)}{σ:St}{H:Hp}{s:Shared}{a b:Addr}{v:V}{r:Value}{A:Around}{E:Value->Shared->Prop}{kvs:List (List Key×V)}{k:List Key}
theorem Ig{Q:Value->Shared->Prop}(hu:A.units+1<cLine)(I:Inv X pins σ H s)(e:H a=some (.dT kvs))(eb:H b=some (.tup (k.map kV)))(rv:RelV v r)(hl:kvs.length<sizeLine)
  (h1:∀x w' s',eG kvs k=some x->Inv X pins σ H s'->RelV x w'->Q w' s')(h2:eG kvs k=none->∀s',Inv X pins σ (upd H a (.dT (putK kvs k v))) s'->Q r s'):
  wpAny (model X.prog X.w) A (call (.builtin "dict.setdefault") [.ref a,.ref b,r]) Q E s:=by
 obtain⟨z,hd,xs,rel,dd⟩:=Ia I.hok e;have hz:xs.length<=sizeLine:=by rw[<-lh rel];exact z
 have hl':(putK kvs k v).length<=sizeLine:=by have :=qU kvs k v;omega
 have rk:=rel.val k;refine call_meetsIn uJ dd.typeIs PySem.F.entry_dict_setdefault (PySem.F.args_dict_setdefault_3 _ _ _) (HT.xT (oz (cH X.prog X.w)) a b hd r) ⟨tupleKind_room_in1 hu,k,xs,Hu I.hok eb,dd,hz,fun u hu'=>?_,fun hn h' dd' hs=>?_⟩
 ·rw[hu']at rk
  cases hv:eG kvs k with
  |none=>rw[hv]at rk;exact absurd rk (by intro z;cases z)
  |some x=>
   rw[hv]at rk;obtain⟨w',hw,rw'⟩:=uG.some_of rk;cases hw;exact h1 x _ _ hv (I.tok _) rw'
 ·rw[hn]at rk
  refine h2 (by
   cases hv:eG kvs k with
   |none=>rfl
   |some x=>rw[hv]at rk;exact absurd rk (by intro z;cases z)) _ ?_
  obtain⟨q,es,ep,hq,g2,g3,g4,_,g5⟩:=dd';refine d_write I (by rw[e];exact True.intro) hs ⟨q,hq⟩ ⟨hl',hd,_,(rel.put k eb rv).keeps fun c ys ec=>?_,q,es,ep,hq,g2,g3,g4,g5⟩;rw[a7 (ne_of ec e (fun z=>nomatch z))];exact ec
end
section
variable {X:Cx}
theorem zH:∀{ns:List Int}{its:List Value},bX (ns.map V.int) its->(∀v∈its,∃a t,v=fS a t)/\numsOf its=ns
 | [],_,.nil=>⟨fun _ h=>(nomatch h),rfl⟩
 |n::ns,_,.cons r t=>by
  obtain⟨tk,rfl⟩:=r;obtain⟨h1,h2⟩:=zH t;refine⟨fun v hv=>?_,by rw[numsOf,h2]⟩;rcases av.mp hv with rfl|hv
  ·exact⟨_,_,rfl⟩
  ·exact h1 v hv
theorem ints_rep(r:bX (ns.map V.int) its):∃xs:Array (Int×Tok),its.toArray=intItems xs/\preSum (numAt xs) xs.size=ns.sum:=by
 obtain⟨h1,h2⟩:=zH r;obtain⟨xs,e⟩:=AllInts.items (vs:=its.toArray) fun v hv=>h1 v (by simpa using hv);refine⟨xs,e,?_⟩;rw[preSum_eq,eL (by simp),<-nums_intItems,<-e,h2]
theorem IC(hc:X.calm=true):fg X (.builtin "sum") (fun xs H Q=>∃(p:Addr)(ns:List Int),xs=[.ref p]/\SqL X.K H p (ns.map V.int)/\Q (.int ns.sum) H):=by
 intro pins s σ H xs us Q I rv h;obtain⟨p,ns,rfl,hq,q⟩:=h;obtain⟨u,rfl,ru⟩:=rv.one;cases ru;obtain⟨its,r,pl,hz⟩:=I.list hq;obtain⟨ys,e1,e2⟩:=ints_rep r;have pl':=pl.isList;rw[e1]at pl';refine sum_intListG (I.ok.hd hc) pl' fun h' tk t' hk=>?_;rw[e2];exact⟨.int ns.sum,H,I.kept (t':=tk) hk,⟨_,rfl⟩,q⟩
theorem ED{K:Type}[DecidableEq K]{knd:HeapKind prog w K}{d:Addr}{xs:List (K×Addr×Value)}{Q:Value->Shared->Prop}(hd:(d==gc)=false)(hm:s.heap.DictOfH knd d xs)(hfit:(xs.length:Int)<2^63)
  (h:Q (.int xs.length (s.toks+1)) {s with toks:=s.toks+1+1}):wpAny (model prog w) A (call (.builtin "len") [.ref d]) Q E s:=by
 have ml:MeetsIn prog w (Builtin.«dict.__len__» ⟨[.ref d],[]⟩) (fun _ R s=>∃xs,s.heap.DictOfH knd d xs/\R (.ok (.ret (.int xs.length s.toks))) {s with toks:=s.toks+1}):=
  .of_wp fun A R s ⟨xs,hm,h⟩=>by
   obtain⟨o,es,ep,ho,hc,hdat,he,_⟩:=hm;show wpAny _ _ (dictSize d>>=_) _ _ s;unfold dictSize;refine ae (ae (wpAny_dictEntries ho hdat (aj ?_)));show wpAny _ _ (Builtin.Dict.pendingCount d>>=_) _ _ s;refine ae (wpAny_pendingCount_other hd ?_);refine wpAny_ret_mkInt ?_;have :es.size=xs.length:=size_of_entries he;rw[Nat.add_zero,this];exact h
 refine lg kind_len plain_len entry_len (args_len1 _) ?_;unfold Builtin.«len»;refine ae (m:=oneArg "len" _) (aj ?_);refine ae (m:=callSpecial? (.ref d) (cT "__len__")) (dc (name:=cT "__len__") hm.typeIs F.slot_dict_len
  (call_meetsIn F.slot_dict_len hm.typeIs F.entry_dict_len (F.args_dict_len_1 _) ml ⟨xs,hm,?_⟩))
 show wpAny _ _ _ _ _ {s with toks:=s.toks+1};refine ae (cN (aj ?_));refine ae (eH ?_);show wpAny _ _ (if((xs.length:Nat):Int)<0 then _ else _) _ _ _;rw[if_neg (by omega)];show wpAny _ _ (if((xs.length:Nat):Int)≥ 2^63 then _ else _) _ _ _;rw[if_neg (by omega)];exact ae (wpAny_mkInt (aj ⟨_,rfl,h⟩))
theorem Ak:fg X (.builtin "len") (fun xs H Q=>∃a kvs,xs=[V.ref a]/\H a=some (.dT kvs)/\Q (.int kvs.length) H):=by
 intro pins s σ H xs us Q I r h;obtain⟨a,kvs,rfl,e,q⟩:=h;obtain⟨u,rfl,rx⟩:=vals1 r;cases rx;obtain⟨z,hd,ys,rel,dd⟩:=Ia I.hok e;refine ED hd dd (by rw[<-lh rel];rw[rM]at z;omega) ?_;rw[<-lh rel];exact⟨.int kvs.length,H,I.tok _,⟨_,rfl⟩,q⟩
theorem key_seq{ks:List Key}(I:Inv X pins σ H s)(h:SqT X.K H b (ks.map kV)):(oz (cH X.prog X.w)).is s.heap ks b:=by
 obtain⟨its,r,⟨o,h1,h2,n,h3⟩,_⟩:=I.tuple h;exact⟨o,its.toArray,n,h1,h2,h3,by simpa using qw r⟩
noncomputable def rIxD(K:ah):R2:=fun x y H Q=>∃a b kvs k v,x=.ref a/\y=.ref b/\H a=some (.dT kvs)/\SqT K H b (k.map kV)/\eG kvs k=some v/\Q v H
theorem ix_dict(hu:X.A.units+1<cLine):IxR X (rIxD X.K):=by
 intro value slice pins s σ H x y v u Q I rx ry h hs;obtain⟨a,b,kvs,k,z,rfl,rfl,e,eb,hv,q⟩:=h;cases rx;cases ry;obtain⟨_,hd,xs,rel,dd⟩:=Ia I.hok e;have hT:s.TypeIs (.ref a) "dict":=dd.typeIs;unfold I0;refine ae ?_;rw[getitemInPython_of_ne hT.not_modules];refine ae (wpAny_specialOf hT PySem.F.slot_dict_getitem.lookup ?_);have fin:wpAny (model X.prog X.w) X.A (subscripted slice false (.ref a) (.ref b)) (fun r s₃=>wpAny (model X.prog X.w) X.A (letTemporaryGo value (.ref a) r>>=fun _=>pure r) (EP X pins σ Q) X.xe s₃) X.xe s:=by
  rw[hs];obtain⟨w',hw,rw'⟩:=uG.some_of (v:=z) (o:=(atKey xs k).map (·.2)) (by rw[<-hv];exact rel.val k);obtain⟨p,hp,hp2⟩:=AW.mp hw;refine wpAny_operating (gb (wpAny_getItem_heap (Q:=EP X pins σ Q) (tupleKind_room_in1 hu) (key_seq I eb) dd hp ?_) (fun r s₃ h₃=>ae (wpAny_letTemporaryGo (aj h₃))) fun _ _ x=>x);rw[hp2];exact⟨z,H,I.tok _,rw',q⟩
 first
  |exact aj (ae fin)
  |exact ae (aj (ae fin))
  |exact ae fin
noncomputable def CF:V->List V->Hp->VK->Prop:=fun x xs H Q=>∃a b kvs k v,x=.ref a/\xs=[.ref b,v]/\H a=some (.dT kvs)/\H b=some (.tup (k.map kV))/\kvs.length<sizeLine/\
 (∀z,eG kvs k=some z->Q z H)/\(eG kvs k=none->Q v (upd H a (.dT (putK kvs k v))))
theorem Eu(hu:X.A.units+1<cLine):MtR X "dict.setdefault" CF:=by
 intro pins s σ H x xs v us Q I rx rv h;obtain⟨a,b,kvs,k,y,rfl,rfl,e,eb,hl,q1,q2⟩:=h;cases rx;obtain⟨u,w',rfl,r1,r2⟩:=vals2 rv;cases r1;exact Ig hu I e eb r2 hl (fun z w1 s' hz I' rz=>⟨z,H,I',rz,q1 z hz⟩) fun hn s' I'=>⟨y,_,I',r2,q2 hn⟩
end
section
variable {X:Cx}
noncomputable def isRef:V->Bool
 |.ref _=>true
 |_=>false
noncomputable def rInD(K:ah)(neg:Bool):R2:=fun x y H Q=>∃p xs ds d,y=.ref p/\SqL K H p xs/\xs.all isRef=true/\Rep K H d x/\eO K H ds xs/\eW ds<=30/\
 Q (.bl (if neg then !(ds.any fun d'=>eqD d' d)else ds.any fun d'=>eqD d' d)) H
open Classical in
noncomputable def eqW(K:ah)(H:Hp)(d:D)(u:Value):Bool:=decide (∃a d',u=.ref a/\Rep K H d' (.ref a)/\eqD d' d=true)
open Classical in
theorem HW(I:Inv X pins σ H s){d d':D}(h:Rep X.K H d' (.ref a)):eqW X.K H d (.ref a)=eqD d' d:=by
 unfold eqW;cases e:eqD d' d with
 |true=>exact decide_eq_true (p:=∃b d2,cK a=.ref b/\Rep X.K H d2 (.ref b)/\eqD d2 d=true) ⟨a,d',rfl,h,e⟩
 |false=>
  refine decide_eq_false ?_;rintro⟨b,d2,e1,h2,e2⟩;cases e1;rw[I.rS h2 h,e]at e2;cases e2
theorem yz(I:Inv X pins σ H s){d:D}:∀{ds:List D}{xs:List V}{us:List Value},bX xs us->xs.all isRef=true->eO X.K H ds xs->us.any (eqW X.K H d)=ds.any fun d'=>eqD d' d
 | [],_,us,r,_,h=>by
  rw[show _=[]from h]at r;cases r;rfl
 |d'::ds,_,us,r,f,h=>by
  obtain⟨x,t,rfl,h1,h2⟩:=h;cases r with
  |cons r1 r2=>
   rw[lU,aQ]at f;cases x with
   |ref a=>
    cases r1;rw[lT,lT,HW I h1,yz I r2 f.2 h2]
   |_=>exact absurd (show false=true from f.1) aE
theorem xS(I:Inv X pins σ H s){d:D}{x:V}{v:Value}(hd:Rep X.K H d x)(rx:RelV x v)(hu:A.units+31<cLine):∀{ds:List D}{xs:List V}{us:List Value},bX xs us->xs.all isRef=true->eO X.K H ds xs->eW ds<=30->∀u∈us,Je A s u v (eqW X.K H d u)
 | [],_,us,r,_,h,_=>by
  rw[show _=[]from h]at r;cases r;exact fun u hu=>nomatch hu
 |d'::ds,_,us,r,f,h,hh=>by
  obtain⟨y,t,rfl,h1,h2⟩:=h;cases r with
  |cons r1 r2=>
   rw[lU,aQ]at f;have hh':max (hgt d') (eW ds)<=30:=hh;cases y with
   |ref a=>
    cases r1;intro w hw;rcases av.mp hw with rfl|hw
    ·rw[HW I h1]
     exact I.Ad 30 A d' d _ x _ v h1 hd rfl rx (by omega) (by omega)
    ·exact xS I hd rx hu r2 f.2 h2 (by omega) w hw
   |_=>exact absurd (show false=true from f.1) aE
theorem op_inD(hu:X.A.units+40<cLine):OpR X (cP .In) (rInD X.K false):=by
 intro pins s σ H x y v u Q I rx ry h;obtain⟨p,xs,ds,d,rfl,hq,f,hd,hs,hh,q⟩:=h;cases ry;obtain⟨its,r,pl,hz⟩:=I.list hq;refine SeqAt.in_listAt (eqW X.K H d) pl.isList (fun w hw=>xS I hd rx (by show X.A.units+1+31<cLine;omega) r f hs hh w (by simpa using hw)) ⟨.bl _,H,I,rfl,?_⟩;rw[show its.toArray.any (eqW X.K H d)=its.any (eqW X.K H d) by simp,yz I r f hs];exact q
theorem Ei(hu:X.A.units+40<cLine):OpR X (cP .NotIn) (rInD X.K true):=by
 intro pins s σ H x y v u Q I rx ry h;obtain⟨p,xs,ds,d,rfl,hq,f,hd,hs,hh,q⟩:=h;cases ry;obtain⟨its,r,pl,hz⟩:=I.list hq;refine Jd (eqW X.K H d) pl.isList (fun w hw=>xS I hd rx (by show X.A.units+1+31<cLine;omega) r f hs hh w (by simpa using hw)) ⟨.bl _,H,I,rfl,?_⟩;rw[show its.toArray.any (eqW X.K H d)=its.any (eqW X.K H d) by simp,yz I r f hs];exact q
end
section
variable {X:Cx}{e:Expr}{te:TE}{pos p2 p3 p4:Pos}{cd:Nat}
noncomputable def tRev(K:ah)(te:TE):TE:=fun σ H Q=>te σ H fun x H1=>∃a xs,x=.ref a/\SqL K H1 a xs/\∀p,H1 p=none->Q (.ref p) (upd H1 p (.lst xs.reverse))
end
end L2
namespace Q
open PySem PySem.Spec PySem.W PyProof.Rows L2
noncomputable def ltI(ns:List Int)(i j:Nat):Bool:=decide (ns.getD i 0<ns.getD j 0)
noncomputable def Bv(ns:List Int):List Nat:=if ns.length<2 then aw ns.length else(run (ltI ns) (dE ns.length)).toList
noncomputable def sortI(ns:List Int):List V:=(Bv ns).map fun i=>(ns.map V.int).getD i .non
theorem FQ(nd:ns.Nodup):Tot (ltI ns) ns.length where
 tri:=fun i j hi hj h=>by
  have hne:ns.getD i 0≠ns.getD j 0:=fun e=>by
   rw[af,af,aa hi,aa hj]at e;exact h ((dz nd).mp e)
  unfold ltI;by_cases a:ns.getD i 0<ns.getD j 0
  ·rw[decide_eq_true a,decide_eq_false (by omega)];rfl
  ·rw[decide_eq_false a,decide_eq_true (by omega)];rfl
 tr:=fun i j k hi hj hk a b=>by
  unfold ltI at a b⊢;have a:=of_decide_eq_true a;have b:=of_decide_eq_true b;exact decide_eq_true (by omega)
theorem zE(nd:ns.Nodup):(Bv ns).length=ns.length:=by
 unfold Bv;split
 ·simp
 ·rw[cq,(fH (FQ nd) (by omega)).1.size]
theorem outI(nd:ns.Nodup)(r:bX (ns.map V.int) vs):bX (sortI ns) (fN (ltI ns) vs):=by
 have hlen:=r.length;rw[ai]at hlen;have e:vs.length=ns.length:=by omega
 unfold fN sortI Bv;rw[e];by_cases c:ns.length<2
 ·rw[if_pos c,if_pos c]
  have e2:(aw ns.length).map (fun i=>(ns.map V.int).getD i V.non)=ns.map V.int:=by
   apply bR
   ·simp
   ·intro i h1 h2
    have h3:i<ns.length:=by simpa using h2
    simp[h3]
  rw[e2];exact r
 ·rw[if_neg c,if_neg c]
  have P:=(fH (FQ nd) (by omega)).1;have all:∀l:List Nat,(∀i∈l,i<ns.length)->bX (l.map fun i=>(ns.map V.int).getD i V.non) (l.map fun i=>vs.getD i bL):=by
   intro l
   induction l with
   |nil=>exact fun _=>.nil
   |cons i l ih=>
    intro h;have hi:i<(ns.map V.int).length:=by rw[ai];exact h i (.head _)
    obtain⟨u,hu,ru⟩:=r.get (aa hi);refine .cons ?_ (ih fun j hj=>h j (.tail _ hj));show L2.RelV ((ns.map V.int).getD i V.non) (vs.getD i bL);rw[af,aa hi,af,hu];exact ru
  refine all _ fun i hi=>?_;have m:i∈(aw ns.length).toArray:=P.perm.mem_iff.mp (ji.mp hi);simpa using m
theorem int_at(r:ck vs ns)(hi:i<ns.length):∃t,vs.getD i .none=.int (ns.getD i 0) t:=by
 induction r generalizing i with
 |nil=>exact absurd hi (fc _)
 |cons y t h ih=>
  cases i with
  |zero=>exact⟨t,rfl⟩
  |succ i=>exact ih (by simpa using hi)
theorem HB(r:ck vs ns):vs.length=ns.length:=by
 induction r with
 |nil=>rfl
 |cons y t h ih=>simp[ih]
theorem wG(r:ck vs ns)(h2:2<=vs.length):B7 prog w A (ltI ns) vs h0:=by
 intro s1 _;refine⟨oneType',fun Q' E' q=>?_,fun i j C hi hj _ q=>?_⟩
 ·match vs,r,h2 with
  |v1::v2::rest,r,_=>
   rw[keyKind_ints r];exact aj q
 ·rw[HB r]at hi hj
  obtain⟨t,e1⟩:=int_at r hi;obtain⟨u,e2⟩:=int_at r hj;unfold DG;rw[e1,e2,keyLt'_oneType];exact oneLt_int q
noncomputable def GC(K:ah):List V->Hp->VK->Prop:=fun xs H Q=>∃p ns,xs=[V.ref p]/\SqL K H p (ns.map V.int)/\ns.length<64/\ns.Nodup/\∀l,H l=none->Q (.ref l) (upd H l (.lst (sortI ns)))
theorem ym:fg X (.builtin "sorted") (GC X.K):=by
 intro pins s σ H xs us Q I r h;obtain⟨p,ns,rfl,hq,h64,nd,q⟩:=h;obtain⟨u,rfl,rx⟩:=vals1 r;cases rx;obtain⟨its,r',pl,hz⟩:=I.list hq;have hlen:=r'.length;rw[ai]at hlen;have hv:its.length=ns.length:=by omega
 refine mW (lt:=ltI ns) (vs:=its) (by rw[hv];exact FQ nd) pl.isList (by omega) (fun h2=>wG (intsAre_of r') h2) ?_;obtain⟨c,hc⟩:=yD s.heap its (fN (ltI ns) its).toArray;have hz2:(sortI ns).length<=sizeLine:=by
  unfold sortI;rw[ai,zE nd];exact fA h64
 exact⟨.ref (s.heap.objs.size+1),_,I.laid (t':=s.toks) (fun b o e=>uQ e) (dP _) (show dN X.prog X.w _ _ _ (.lst (sortI ns))from⟨hz2,_,c,outI nd r',hc⟩),rfl,q _ (I.hok.fresh (dP _))⟩
end Q
namespace L2
open PySem PySem.Spec PyProof.Rows
section
variable {X:Cx}
noncomputable def nats(n:Nat):List V:=(aw n).map fun i:Nat=>V.int (i:Int)
theorem A2:∀(n:Nat)(acc:Array Value),ItemsOf (fun i v=>∃t,v=fS (0+i*1) t) acc n->bX (nats n) acc.toList:=by
 intro n acc h;have key:∀(l:List Value)(k:Nat),(∀(j:Nat) v,l[j]? =some v->∃t,v=fS ((k+j:Nat):Int) t)->bX ((List.range' k l.length).map fun i:Nat=>V.int (i:Int)) l:=by
  intro l
  induction l with
  |nil=>exact fun _ _=>.nil
  |cons v l ih=>
   intro k hk;obtain⟨t,e⟩:=hk 0 v rfl;refine .cons ⟨t,by rw[e];simp⟩ ?_;refine ih (k+1) fun j w hw=>?_;obtain⟨t',e'⟩:=hk (j+1) w (by simpa using hw);exact⟨t',by rw[e'];congr 2;omega⟩
 have hl:acc.toList.length=n:=by rw[cq];exact h.1
 have :=key acc.toList 0 fun j v hv=>by
  obtain⟨t,e⟩:=h.2 j v (by rw[<-nG];exact hv);exact⟨t,by rw[e];congr 1;omega⟩
 rw[hl,<-List.range_eq_range']at this;exact this
noncomputable def tLRng(ta:TA):TE:=fun σ H Q=>ta σ H fun vs H1=>∃n:Nat,vs=[.int n]/\n<=1000/\∀p,H1 p=none->Q (.ref p) (upd H1 p (.lst (nats n)))
theorem pe_lrng{a:Expr}{ta:TA}{p:Pos}(hc:X.calm=true)(hg:Gl X "range")(hm:X.mg "range"=none)(hg':Gl X "list")(hm':X.mg "list"=none)(ha:PA X [a] ta)(hs:bT [a] X.env=[(false,eval a X.env)]:=by rfl):
  PE X (.Call (.Name "list" p) [.Call (.Name "range" p') [a] [] pos'] [] pos) (tLRng ta):=by
 intro pins s σ H Q I h;refine Call_ (iS I hg' hm' ku (cw (qK ?_) rfl rfl));refine Call_ (iS I hg hm boot_range (cw (thn (ha pos' pins s σ H _ I h) fun us s1 ⟨vs,H1,I1,r1,q1⟩=>?_) hs rfl));obtain⟨n,e,hn,q⟩:=q1;subst e;cases r1 with
 |cons r rr=>
  cases rr;obtain⟨t,rfl⟩:=r;refine call_range_1 ?_;refine aj ?_;have hsz:sC 0 (n:Int) 1=(n:Int):=by rw[rangeSize_one];split <;>omega
  refine call_list_range (n:=n) (I1.ok.hd hc) (IsRange.new ..) (small_one (by decide) (by decide) (by omega) (by omega)) hsz (by omega) fun h' tk acc' c' hk hS hit=>?_;have hv:=A2 n acc' hit;refine⟨.ref _,_,I1.laid (t':=tk) (o:=.lst (nats n)) (fun b o e=>hk b o (ag _ e)) ?_ ⟨?_,acc'.toList,c',hv,hS⟩,rfl,q _ (I1.hok.fresh ?_)⟩
  ·simp[Heap.push]
  ·unfold nats;rw[ai,ba,rM];omega
  ·simp[Heap.push]
end
section
variable {X:Cx}
noncomputable def leP(a b c d:Int):Bool:=decide (a<c\/a=c/\b<=d)
noncomputable def rLeP(K:ah):R2:=fun x y H Q=>∃p q a b c d,x=.ref p/\y=.ref q/\SqT K H p [.int a,.int b]/\SqT K H q [.int c,.int d]/\Q (.bl (leP a b c d)) H
noncomputable def rIndex:V->List V->Hp->VK->Prop:=fun x vs H Q=>∃(l:Addr)(ns:List Int)(k:Int),x=.ref l/\vs=[.int k]/\H l=some (.lst (ns.map V.int))/\k∈ns/\ns.length<=60/\Q (.int (ns.idxOf k:Nat)) H
end
end L2
namespace Q
open PySem PySem.Spec PySem.W PyProof.Rows L2
noncomputable def plt(x y:Int×Int):Bool:=decide (x.1<y.1\/x.1=y.1/\x.2<y.2)
noncomputable def ltP(ps:List (Int×Int))(i j:Nat):Bool:=plt (ps.getD i (0,0)) (ps.getD j (0,0))
noncomputable def ordP(ps:List (Int×Int)):List Nat:=if ps.length<2 then aw ps.length else(run (ltP ps) (dE ps.length)).toList
noncomputable def sortP{α:Type}(d:α)(ps:List (Int×Int))(ys:List α):List α:=(ordP ps).map fun i=>ys.getD i d
noncomputable def IT(H:Hp)(ys:List V)(ps:List (Int×Int)):Prop:=Paired (fun v k=>∃a,v=V.ref a/\H a=some (.tup [.int k.1,.int k.2])) ys ps
noncomputable def rSortP(K:ah):List V->Hp->VK->Prop:=fun xs H Q=>∃p ys ps,xs=[V.ref p]/\SqL K H p ys/\ps.length<64/\ps.Nodup/\IT H ys ps/\∀l,H l=none->Q (.ref l) (upd H l (.lst (sortP .non ps ys)))
end Q
namespace D8
open PySem PySem.Spec PySem.W PyProof.Rows L2
noncomputable abbrev four:List (Int×Int):=[(0,0),(0,1),(1,0),(1,1)]
noncomputable def Prs(H:Hp)(as:List Addr)(ps:List (Int×Int)):Prop:=as.length=ps.length/\∀(i:Nat) a q,as[i]? =some a->ps[i]? =some q->H a=some (.tup [.int q.1,.int q.2])
noncomputable def rSetP(K:ah):List V->Hp->VK->Prop:=fun xs H Q=>∃p as ps,xs=[V.ref p]/\SqL K H p (as.map V.ref)/\Prs H as ps/\(∀q∈ps,q∈four)/\∀a (ks:List (Int×Int)),H a=none->ks.Nodup->(∀r,r∈ks↔r∈ps)->Q (.ref a) (upd H a (_root_.Q.zk a ks.length))
end D8
namespace L2
open PySem PySem.Spec PyProof.Rows
section
variable {X:Cx}
noncomputable def CDivB(_ j:Int):Prop:=0<j/\j.natAbs.log2<9000
noncomputable def rDivB:R2:=rI CDivB fun i j=>.int (i/j)
noncomputable def rInsert:V->List V->Hp->VK->Prop:=fun x vs H Q=>∃l xs k y,x=.ref l/\vs=[.int k,y]/\H l=some (.lst xs)/\xs.length<sizeLine/\0<=k/\k<=xs.length/\Q .non (upd H l (.lst (xs.take k.toNat++y::xs.drop k.toNat)))
end
section
variable {X:Cx}
noncomputable def rSplit:V->List V->Hp->VK->Prop:=fun x vs H Q=>∃z y:Str,x=.str z/\vs=[.str y]/\(y.length==0)=false/\z.length+2<=sizeLine/\∀p,H p=none->Q (.ref p) (upd H p (.lst ((Txt.split z y).map V.str)))
end
noncomputable def Itz(K:ah)(a b:Addr):It:=
 ⟨fun i H=>∃xs ys x y,SqL K H a xs/\SqL K H b ys/\xs[i]? =some x/\ys[i]? =some y,
  fun i H v H'=>∃p x y,H p=none/\H'=upd H p (.tup [x,y])/\v=.ref p/\(∀xs,SqL K H a xs->xs[i]? =some x)/\∀ys,SqL K H b ys->ys[i]? =some y,
  fun i H=>∃xs ys,SqL K H a xs/\SqL K H b ys/\(xs.length<=i\/ys.length<=i)⟩
theorem Inv.turnedL(I:Inv X pins σ H s)(k:∀b o,b∉ch->s.heap.get? b=some o->h'.get? b=some o)(hf:∀b∈ch,oy X pins H b):Inv X pins σ H {s with heap:=h'}:=by
 have nit:∀b u,H b=some u->b∉ch:=fun b u e z=>by rw[(hf b z).1]at e;cases e
 refine I.step (g':=s.gens) (d':=s.drawn) (ch:=ch) (fun b hb=>?_) (fun b o _ _ hc e _=>k b o hc e) (fun b o _ _ hc e _=>⟨o.slots,k b o hc e⟩) (fun _ _ _ _ n=>n)
  (fun b o hc e=>⟨o,k b o hc e⟩) (fun _ _ e=>e) (fun _ _ _ e=>e) (fun b ps e=>⟨#[],by rw[e];simp⟩) (fun m hm=>?_) (fun b u e=>?_) I.bare
 ·obtain⟨f0,f1,f2,f3,f4,f5⟩:=hf b hb
  exact⟨f3,f1,f4,f5⟩
 ·obtain⟨o,es',ep,q,r⟩:=hm
  exact⟨o,es',ep,k _ o (fun hc=>(hf _ hc).2.1 rfl) q,r⟩
 ·refine(I.hok b u e).lW (fun d o hc' q'=>k d o (fun hd=>?_) q') (fun d q'=>q') fun d vs q'=>q'
  rcases hc' with zz|zz
  ·rw[zz]at hd
   exact nit b u e hd
  ·exact nit d _ zz hd
section
variable {X:Cx}{es:List Expr}{kk:Nat}{pp:Pos}
noncomputable def iZip(K:ah)(t:TA):TI:=fun σ H R=>t σ H fun vs H1=>∃a b,vs=[.ref a,.ref b]/\(∃xs,SqL K H1 a xs)/\(∃ys,SqL K H1 b ys)/\R (Itz K a b) H1
theorem boot_zip:eU "zip"=some (.type "zip"):=by decide+kernel
end
noncomputable def DkIn(P:Program)(w:World)(K:ah)(a:Addr)(kvs:List (Key×V)):Prop:=
 (a==gc)=false/\∃vs,KV kvs vs/\∀h,K.In h->h.DictOf (cH P w) a vs
section
variable {X:Cx}{dic:Addr->Option (List (Key×V))}
noncomputable def rInG(dic:Addr->Option (List (Key×V))):R2:=fun x y H Q=>∃a kvs k,y=.ref a/\dic a=some kvs/\x=kV k/\Q (.bl (eG kvs k).isSome) H
noncomputable def rIxG(dic:Addr->Option (List (Key×V))):R2:=fun x y H Q=>∃a kvs k v,x=.ref a/\dic a=some kvs/\y=kV k/\eG kvs k=some v/\Q v H
end
noncomputable def fText(pre post:Str)(i:Int):Str:=Str.empty++pre++(toString i:Str)++post
noncomputable def tFst(pre post:Str)(t:TE):TE:=fun σ H Q=>(Str.empty++pre).length<=sizeLine/\t σ H fun x H1=>∃i,x=.int i/\i.natAbs.log2<1920/\(fText pre post i).length<=sizeLine/\Q (.str (fText pre post i)) H1
end L2
namespace PySem
section
variable {prog:Program}{w:World}{A:Around}{E:Value->Shared->Prop}{s:Shared}
theorem oZ{j t:Addr}{xs:Array Value}{v:Value}{Q:Value->Shared->Prop}(hj:s.heap.IsTupleIter j t k)(ht:s.heap.IsTuple t xs)(hv:xs[k]? =some v)
  (q:∀h',h'.IsTupleIter j t (k+1)->dq j s.heap h'->Q v {s with heap:=h'}):wpAny (model prog w) A (cG (.ref j)) Q E s:=by
 obtain⟨o,e1,e2,e3⟩:=id hj;obtain⟨p,f1,_,n,f3⟩:=ht;unfold cG;refine ae (dc (name:=cT "__next__") hj.typeIs gM (cE gM hj.typeIs AY ?_ (AL _)));show wpAny _ _ (field (.ref j) 0>>=_) _ _ s;refine ae (dg e1 e3 (x:=.ref t) rfl ?_);show wpAny _ _ (if(cK t==bL)=true then _ else _) _ _ s;rw[if_neg (fun z:(cK t==bL)=true=>absurd z aE)];show wpAny _ _ (field (.ref j) 1>>=_) _ _ s;refine ae (dg e1 e3 (x:=.int k 0) rfl ?_);show wpAny _ _ (jH (.ref t)>>=_) _ _ s;refine ae (cF f1 f3 ?_);simp only[aU,hv];refine ae (rK e1 e3 (by simp) (aj ⟨v,rfl,aj (q _ ?_ (bJ ..))⟩));exact⟨_,cm _ e1 (oD (iz e3 _)),(Obj.cls_mapFields ..).trans e2,by rw[iz e3];simp[rawInt]⟩
theorem xI{j t:Addr}{xs:Array Value}{Q:Value->Shared->Prop}(hh:A.handled=none)(hj:s.heap.IsTupleIter j t k)(ht:s.heap.IsTuple t xs)(hv:xs[k]? =none)
  (q:∀h' e,Heap.ExtBut j s.heap h'->(∃o,h'.get? e=some o/\o.cls=.type "StopIteration")->E (.ref e) {s with heap:=h'}):wpAny (model prog w) A (cG (.ref j)) Q E s:=by
 obtain⟨o,e1,e2,e3⟩:=id hj;obtain⟨p,f1,_,n,f3⟩:=ht;unfold cG;refine ae (dc (name:=cT "__next__") hj.typeIs gM (cE gM hj.typeIs AY ?_ (AL _)));show wpAny _ _ (field (.ref j) 0>>=_) _ _ s;refine ae (dg e1 e3 (x:=.ref t) rfl ?_);show wpAny _ _ (if(cK t==bL)=true then _ else _) _ _ s;rw[if_neg (fun z:(cK t==bL)=true=>absurd z aE)];show wpAny _ _ (field (.ref j) 1>>=_) _ _ s;refine ae (dg e1 e3 (x:=.int k 0) rfl ?_);show wpAny _ _ (jH (.ref t)>>=_) _ _ s;refine ae (cF f1 f3 ?_);simp only[aU,hv];refine ae (eX (ae (rK e1 e3 (by simp) ?_)));show wpAny _ _ (newExc (.type "StopIteration") []>>=_) _ _ _;refine ae ?_;simp only[newExc,newTuple];refine ae (cg ?_ (by size_fits));refine ae (m:=rP _ _) (rL (a:=bL) (by first |rfl| (simp only[rP];rfl)) ?_);refine cg ?_ (by size_fits);simp only[Fd];refine ae (wpAny_handled ?_);first |rw[show A.in1.handled=none from hh] |rw[hh]
 refine ae (aj (wpAny_throw ?_));exact q _ _ (((bJ ..).extBut.push _).push _) ⟨_,aq _ rfl,rfl⟩
end
end PySem
namespace L2
open PySem PySem.Spec PyProof.Rows
noncomputable def Itzt(K:ah)(a b:Addr):It:=
 ⟨fun i H=>∃xs ys x y,SqT K H a xs/\SqL K H b ys/\xs[i]? =some x/\ys[i]? =some y,
  fun i H v H'=>∃p x y,H p=none/\H'=upd H p (.tup [x,y])/\v=.ref p/\(∀xs,SqT K H a xs->xs[i]? =some x)/\∀ys,SqL K H b ys->ys[i]? =some y,
  fun i H=>∃xs,SqT K H a xs/\xs.length<=i⟩
theorem tup_ne{its:Array Value}{o:Obj}(hl:h.IsTuple a its)(hc:h.get? c=some o)(hk:o.cls≠.type "tuple"):a≠c:=by
 obtain⟨o',e,k,_⟩:=hl;rintro rfl;rw[e]at hc;cases hc;exact hk k
section
variable {X:Cx}{es:List Expr}{kk:Nat}{pp:Pos}
noncomputable def iZipT(K:ah)(t:TA):TI:=fun σ H R=>t σ H fun vs H1=>∃a b,vs=[.ref a,.ref b]/\(∃xs,SqT K H1 a xs)/\(∃ys,SqL K H1 b ys)/\R (Itzt K a b) H1
end
end L2
namespace PySem
open Sem (wp)
local macro_rules | `(term| «the numeral») => return Lean.mkIdent (cB (cB (cB (Lean.Name.num (cB (cB (cB (cB (cB AX "_private") "PySem") "Builtin") "Int") "W0All") 0) "PySem") "Builtin") "readNumeral")
local macro_rules | `(term| «a value») => return Lean.mkIdent (cB (cB (cB (cB (Lean.Name.num (cB (cB (cB (cB (cB AX "_private") "PySem") "Builtin") "Int") "W0All") 0) "PySem") "Builtin") "Numeral") "value")
end PySem
namespace L2
open PySem PySem.Spec PyProof.Rows
inductive Fig:Str->Int->Prop
 |one {a:Nat} (h:a<10):Fig ⟨#[48+a]⟩ (a:Nat)
 |two {a b:Nat} (ha:a<10) (hb:b<10):Fig ⟨#[48+a,48+b]⟩ (10*a+b:Nat)
section
variable {X:Cx}{dic:Addr->Option (List (Key×V))}
noncomputable def upS(z:Str):Str:=⟨placed z fun _ c=>Unicode.upperOf c⟩
noncomputable def rUpper:V->List V->Hp->VK->Prop:=fun x vs H Q=>∃z:Str,x=.str z/\vs=[]/\(upS z).length<=100/\Q (.str (upS z)) H
noncomputable def rNiG(dic:Addr->Option (List (Key×V))):R2:=fun x y H Q=>∃a kvs k,y=.ref a/\dic a=some kvs/\x=kV k/\Q (.bl (!(eG kvs k).isSome)) H
end
end L2
namespace Q
open PySem PySem.Spec PySem.W PyProof.Rows L2
noncomputable def llt:List Int->List Int->Bool
 | [],[]=>false
 | [],_::_=>true
 |_::_,[]=>false
 |a::x,b::y=>decide (a<b)||(decide (a=b)&&llt x y)
theorem qu:∀{x y z:List Int},llt x y=true->llt y z=true->llt x z=true
 | [],[],_,h,_=>nomatch h
 | [],_::_,[],_,h=>nomatch h
 | [],_::_,_::_,_,_=>rfl
 |_::_,[],_,h,_=>nomatch h
 |_::_,_::_,[],_,h=>nomatch h
 |a::x,b::y,c::z,h,k=>by
  simp only[llt,cQ,aQ,decide_eq_true_eq]at h k⊢;rcases h with h|⟨rfl,h⟩
  ·rcases k with k|⟨rfl,k⟩
   ·exact .inl (by omega)
   ·exact .inl h
  ·rcases k with k|⟨rfl,k⟩
   ·exact .inl k
   ·exact .inr ⟨rfl,qu h k⟩
theorem gZ:∀{x y:List Int},x≠y->llt x y= !llt y x
 | [],[],h=>absurd rfl h
 | [],_::_,_=>rfl
 |_::_,[],_=>rfl
 |a::x,b::y,h=>by
  by_cases e:a=b
  ·subst e
   have :=gZ (x:=x) (y:=y) fun z=>h (by rw[z])
   simp[llt,this]
  ·by_cases c:a<b
   ·have :¬b<a:=by omega
    simp[llt,c,this,e,cn e]
   ·have :b<a:=by omega
    simp[llt,c,this,e,cn e]
noncomputable def ltL(ps:List (List Int))(i j:Nat):Bool:=llt (ps.getD i []) (ps.getD j [])
noncomputable def Eh(ps:List (List Int)):List Nat:=if ps.length<2 then aw ps.length else(run (ltL ps) (dE ps.length)).toList
noncomputable def dy{α:Type}(d:α)(ps:List (List Int))(ys:List α):List α:=(Eh ps).map fun i=>ys.getD i d
theorem neL(nd:ps.Nodup)(hi:i<ps.length)(hj:j<ps.length)(h:i≠j):ps.getD i []≠ps.getD j []:=fun e=>by
 rw[af,af,aa hi,aa hj]at e;exact h ((dz nd).mp e)
theorem FP(nd:ps.Nodup):Tot (ltL ps) ps.length where
 tri:=fun i j hi hj h=>gZ (neL nd hi hj h)
 tr:=fun i j k _ _ _ a b=>qu a b
theorem m4(nd:ps.Nodup):(Eh ps).Perm (aw ps.length):=by
 unfold Eh;split
 ·exact eJ _
 ·have P:=(fH (FP nd) (by omega)).1
  have :=gv.mp P.perm
  simpa using this
theorem vM(nd:ps.Nodup)(hl:ps.length=ys.length)(r:bX ys vs):bX (dy .non ps ys) (fN (ltL ps) vs):=by
 have hlen:=r.length;have e:vs.length=ps.length:=by omega
 unfold fN dy Eh;rw[e];by_cases c:ps.length<2
 ·rw[if_pos c,if_pos c]
  have e2:(aw ps.length).map (fun i=>ys.getD i V.non)=ys:=by
   rw[hl];apply bR
   ·simp
   ·intro i h1 h2
    simp[h2]
  rw[e2];exact r
 ·rw[if_neg c,if_neg c]
  have P:=(fH (FP nd) (by omega)).1;have all:∀l:List Nat,(∀i∈l,i<ps.length)->bX (l.map fun i=>ys.getD i V.non) (l.map fun i=>vs.getD i bL):=by
   intro l
   induction l with
   |nil=>exact fun _=>.nil
   |cons i l ih=>
    intro h;have hi:i<ys.length:=by have :=h i (.head _);omega
    obtain⟨u,hu,ru⟩:=r.get (aa hi);refine .cons ?_ (ih fun j hj=>h j (.tail _ hj));show L2.RelV (ys.getD i V.non) (vs.getD i bL);rw[af,aa hi,af,hu];exact ru
  refine all _ fun i hi=>?_;have m:i∈(aw ps.length).toArray:=P.perm.mem_iff.mp (ji.mp hi);simpa using m
noncomputable def qH(h:Heap)(vs:List Value)(ps:List (List Int)):Prop:=Paired (fun v k=>∃a o its n,v=.ref a/\h.get? a=some o/\o.cls=.type "tuple"/\o.data=.seq its n/\ck its.toList k) vs ps
theorem fC(r:qH h vs ps)(hi:i<vs.length):∃a o its n,vs.getD i .none=.ref a/\h.get? a=some o/\o.data=.seq its n/\ck its.toList (ps.getD i []):=by
 unfold qH at r
 induction r generalizing i with
 |nil=>exact absurd hi (fc _)
 |cons y t ih=>
  cases i with
  |zero=>
   obtain⟨a,o,its,n,e1,e2,e3,e4,e5⟩:=y;exact⟨a,o,its,n,e1,e2,e4,e5⟩
  |succ i=>exact ih (by simpa using hi)
theorem HC(kp:∀b o,h.get? b=some o->h1.get? b=some o)(r:qH h vs ps)(hp:∀k∈ps,k≠[]):∃fs,KatTups h1 vs fs/\fs.length=vs.length/\∀v∈fs,∃x t,v=fS x t:=by
 unfold qH at r
 induction r with
 |nil=>exact⟨[],.nil,rfl,fun v hv=>nomatch hv⟩
 | @cons v k vs ps y t ih=>
  obtain⟨fs,a1,a2,a3⟩:=ih fun k hk=>hp k (aJ _ hk);obtain⟨a,o,its,n,rfl,e2,e3,e4,e5⟩:=y;have hk:=hp k aB;obtain⟨l⟩:=its;cases l with
  |nil=>
   cases e5;exact absurd rfl hk
  |cons u l=>
   cases e5 with
   |cons x t h=>
    refine⟨_::fs,.cons (kp _ _ e2) e3 e4 rfl a1,by simp[a2],fun v hv=>?_⟩;rcases av.mp hv with rfl|hv
    ·exact⟨_,_,rfl⟩
    ·exact a3 v hv
theorem Hm{b fin:Bool}{C:Bool->Shared->Prop}{xs ys:List Value}{x y:List Int}(i:Nat)(hx:ck xs x)(hy:ck ys y)(hl:x.length=y.length)(h:x≠y)(q:C (llt x y) s):KatLex prog w A b fin C (xs.zip ys) (i+1) s:=by
 induction hx generalizing ys y i with
 |nil=>cases hy with
  |nil=>exact absurd rfl h
  |cons=>simp at hl
 |cons a t hx ih=>cases hy with
  |nil=>simp at hl
  |cons c u hy=>
   refine Fe (jG ?_);by_cases e:a=c
   ·subst e
    rw[show(a==a)=true by simp];refine kat_yes (ih (i+1) hy (by simpa using hl) (fun z=>h (by rw[z])) ?_);simp[llt]at q;exact q
   ·rw[show(a==c)=false by simpa using e]
    refine kat_no ?_;rw[show(b&&(i+1==0))=false by simp];refine kat_one _ _ (lt_int ?_);simp[llt,e]at q;exact q
theorem yw(nd:ps.Nodup)(hl:vs.length=ps.length)(r:qH h0 vs ps)(h2:2<=vs.length)(hm:∀k∈ps,k.length=m):B7 prog w A (ltL ps) vs h0:=by
 have hm0:m≠0:=fun z=>by
  have e:∀i,i<ps.length->ps.getD i []=[]:=fun i hi=>by
   rw[af,aa hi];exact aV.mp ((hm _ (bx hi)).trans z)
  exact neL nd (i:=0) (j:=1) (by omega) (by omega) (by decide) ((e 0 (by omega)).trans (e 1 (by omega)).symm)
 intro s1 kp;refine⟨tuples' true,fun Q' E' q=>?_,fun i j C hi hj hij q=>?_⟩
 ·obtain⟨fs,a1,a2,a3⟩:=HC kp r fun k hk z=>hm0 (by rw[<-hm k hk,z];rfl)
  refine kat_kind (T:=.type "int") a1 (by omega) (fun v hv=>?_) rfl q;obtain⟨x,t,rfl⟩:=a3 v hv;exact Looks.of_pure rfl
 ·obtain⟨a,o,its,n,e1,e2,e3,e4⟩:=fC r hi
  obtain⟨b,o',its',n',f1,f2,f3,f4⟩:=fC r hj;have hne:=neL nd (hl▸hi) (hl▸hj) hij;have l1:(ps.getD i []).length=m:=by rw[af,aa (hl▸hi)];exact hm _ (bx _)
  have l2:(ps.getD j []).length=m:=by rw[af,aa (hl▸hj)];exact hm _ (bx _)
  unfold DG;unfold ltL at q;rw[e1,f1];generalize ps.getD i []=x at *;generalize ps.getD j []=y at *;refine kat_lt (kp _ _ e2) e3 (kp _ _ f2) f3 ?_;generalize its.toList=xs at *;generalize its'.toList=ys at *;cases e4 with
  |nil=>exact absurd l1.symm hm0
  | @cons c t xs x hx=>
   cases f4 with
   |nil=>exact absurd l2.symm hm0
   | @cons d u ys y hy=>
    refine Fe (jG ?_);by_cases e:c=d
    ·subst e
     rw[show(c==c)=true by simp];refine kat_yes (Hm 0 hx hy (by simp at l1 l2;omega) (fun z=>hne (by rw[z])) ?_);simp[llt]at q;exact q
    ·rw[show(c==d)=false by simpa using e]
     refine kat_no (oneLt_int ?_);simp[llt,e]at q;exact q
noncomputable def IntKeys(H:Hp)(ys:List V)(ps:List (List Int)):Prop:=Paired (fun v k=>∃a,v=V.ref a/\H a=some (.tup (k.map V.int))) ys ps
theorem zW(h:IntKeys H ys ps):ps.length=ys.length:=by
 unfold IntKeys at h
 induction h with
 |nil=>rfl
 |cons _ _ ih=>simp[ih]
theorem rX(ok:HOk P w H h)(k:IntKeys H ys ps):bX ys vs->qH h vs ps:=by
 unfold IntKeys at k
 induction k generalizing vs with
 |nil=>intro z;cases z;exact .nil
 |cons y t ih=>
  intro z;cases z with
  |cons r q=>
   obtain⟨a,rfl,e⟩:=y;cases r;obtain⟨_,its,rv,o,e1,e2,n,e3⟩:=ok a _ e;exact .cons ⟨a,o,its.toArray,n,rfl,e1,e2,e3,by simpa using intsAre_of rv⟩ (ih q)
noncomputable def GB(K:ah):List V->Hp->VK->Prop:=fun xs H Q=>∃p ys ps m,xs=[V.ref p]/\SqL K H p ys/\ps.length<64/\ps.Nodup/\(∀k∈ps,k.length=m)/\IntKeys H ys ps/\∀l,H l=none->Q (.ref l) (upd H l (.lst (dy .non ps ys)))
theorem yk:fg X (.builtin "sorted") (GB X.K):=by
 intro pins s σ H xs us Q I r h;obtain⟨p,ys,ps,m,rfl,hq,h64,nd,hm,hk,q⟩:=h;obtain⟨u,rfl,rx⟩:=vals1 r;cases rx;obtain⟨its,r',pl,hz⟩:=I.list hq;have hl:ps.length=ys.length:=zW hk;have hlen:=r'.length;have hv:its.length=ps.length:=by omega
 refine mW (lt:=ltL ps) (vs:=its) (by rw[hv];exact FP nd) pl.isList (by omega) (fun h2=>yw nd hv (rX I.hok hk r') h2 hm) ?_;obtain⟨c,hc⟩:=yD s.heap its (fN (ltL ps) its).toArray;have hz2:(dy V.non ps ys).length<=sizeLine:=by
  unfold dy;rw[ai,(m4 nd).length_eq,ba];omega
 exact⟨.ref (s.heap.objs.size+1),_,I.laid (t':=s.toks) (fun b o e=>uQ e) (dP _) (show dN X.prog X.w _ _ _ (.lst (dy .non ps ys))from⟨hz2,_,c,vM nd hl r',hc⟩),rfl,q _ (I.hok.fresh (dP _))⟩
theorem tM:∀x:List Int,llt x x=false
 | []=>rfl
 |a::x=>by simp[llt,tM x]
theorem C3{p q:Addr}{a b:List Int}{P:eE->Shared->Prop}(hx:IsTup s.heap p us.toArray)(hy:IsTup s.heap q vs.toArray)
  (ha:ck us a)(hb:ck vs b)(hl:a.length=b.length)
  (h:P (.done (.ret (.bool (llt a b)))) s):wpAny (model prog w) A (Builtin.«tuple.__lt__» ⟨[.ref p,.ref q],[]⟩) P E s:=by
 have hTb:=hy.typeIs;show wpAny _ _ (isInstance (.ref q) (.type "tuple")>>=_) _ _ s;refine ae (hV hTb isSubtype_tuple_tuple ?_);simp only[eM,aS,if_false];refine ae (uP hx ?_);refine ae (uP hy ?_);refine ae ?_;show wpAny _ _ (forIn (us.zip vs) _ _) _ _ s;refine wpAny_forIn_list _ (fun rest r s'=>r.1=none/\s'=s/\∃us' vs' a' b',rest=List.zip us' vs'/\us'.length=vs'.length/\ck us' a'/\ck vs' b'/\llt a b=llt a' b') _ ?_ ?_ _ _ ⟨rfl,rfl,us,vs,a,b,rfl,by rw[ha.length,hb.length,hl],ha,hb,rfl⟩
 ·rintro x rest ⟨r,_⟩ s' ⟨hr,rfl,us',vs',a',b',e,hl',ia,ib,hll⟩
  obtain rfl:r=none:=hr;cases ia with
  |nil=>cases e
  |cons m t ia=>
   cases ib with
   |nil=>cases hl'
   |cons n u ib=>
    rw[eP]at e;cases e;dsimp only;refine ae (jG ?_);by_cases c:m=n
    ·rw[show(m==n)=true by simpa using c]
     simp only[eM,aS,if_false];refine aj ⟨rfl,rfl,_,_,_,_,rfl,by simpa using hl',ia,ib,?_⟩;rw[hll];simp[llt,c]
    ·rw[show(m==n)=false by simpa using c]
     simp only[Bool.not_false,if_true];have e2:llt a b=decide (m<n):=by rw[hll];simp[llt,c]
     rw[e2]at h;refine ae (eX (ae (show wpAny _ _ (cP .Lt (fS m t) (fS n u)) _ _ _ from lt_int (ae (aj (aj ?_))))));exact aj h
 ·rintro⟨r,_⟩ s' ⟨hr,rfl,us',vs',a',b',e,hl',ia,ib,hll⟩
  obtain rfl:r=none:=hr;dsimp only;have e2:llt a b=false:=by
   rw[hll];cases ia with
   |nil=>cases ib with
    |nil=>rfl
    |cons n u ib=>cases hl'
   |cons m t ia=>cases ib with
    |nil=>cases hl'
    |cons n u ib=>rw[eP]at e;cases e
  rw[e2]at h;have hz:us.toArray.size=vs.toArray.size:=by rw[aG,aG,ha.length,hb.length,hl]
  have e3:eR .Lt us.toArray.size vs.toArray.size=.bool false:=by rw[hz];simp[eR]
  rw[e3];exact aj h
theorem gt_tree{p q:Addr}{a b:List Int}{P:eE->Shared->Prop}(hx:IsTup s.heap p us.toArray)(hy:IsTup s.heap q vs.toArray)
  (ha:ck us a)(hb:ck vs b)(hl:a.length=b.length)
  (h:P (.done (.ret (.bool (llt b a)))) s):wpAny (model prog w) A (Builtin.«tuple.__gt__» ⟨[.ref p,.ref q],[]⟩) P E s:=by
 have hTb:=hy.typeIs;show wpAny _ _ (isInstance (.ref q) (.type "tuple")>>=_) _ _ s;refine ae (hV hTb isSubtype_tuple_tuple ?_);simp only[eM,aS,if_false];refine ae (uP hx ?_);refine ae (uP hy ?_);refine ae ?_;show wpAny _ _ (forIn (us.zip vs) _ _) _ _ s;refine wpAny_forIn_list _ (fun rest r s'=>r.1=none/\s'=s/\∃us' vs' a' b',rest=List.zip us' vs'/\us'.length=vs'.length/\ck us' a'/\ck vs' b'/\llt b a=llt b' a') _ ?_ ?_ _ _ ⟨rfl,rfl,us,vs,a,b,rfl,by rw[ha.length,hb.length,hl],ha,hb,rfl⟩
 ·rintro x rest ⟨r,_⟩ s' ⟨hr,rfl,us',vs',a',b',e,hl',ia,ib,hll⟩
  obtain rfl:r=none:=hr;cases ia with
  |nil=>cases e
  |cons m t ia=>
   cases ib with
   |nil=>cases hl'
   |cons n u ib=>
    rw[eP]at e;cases e;dsimp only;refine ae (jG ?_);by_cases c:m=n
    ·rw[show(m==n)=true by simpa using c]
     simp only[eM,aS,if_false];refine aj ⟨rfl,rfl,_,_,_,_,rfl,by simpa using hl',ia,ib,?_⟩;rw[hll];simp[llt,c]
    ·rw[show(m==n)=false by simpa using c]
     simp only[Bool.not_false,if_true];have e2:llt b a=decide (n<m):=by rw[hll];simp[llt,cn c]
     rw[e2]at h;refine ae (eX (ae (show wpAny _ _ (cP .Gt (fS m t) (fS n u)) _ _ _ from PyProof.Rows.gt_int (ae (aj (aj ?_))))));exact aj h
 ·rintro⟨r,_⟩ s' ⟨hr,rfl,us',vs',a',b',e,hl',ia,ib,hll⟩
  obtain rfl:r=none:=hr;dsimp only;have e2:llt b a=false:=by
   rw[hll];cases ia with
   |nil=>cases ib with
    |nil=>rfl
    |cons n u ib=>cases hl'
   |cons m t ia=>cases ib with
    |nil=>cases hl'
    |cons n u ib=>rw[eP]at e;cases e
  rw[e2]at h;have hz:us.toArray.size=vs.toArray.size:=by rw[aG,aG,ha.length,hb.length,hl]
  have e3:eR .Gt us.toArray.size vs.toArray.size=.bool false:=by rw[hz];simp[eR]
  rw[e3];exact aj h
section
variable {prog:Program}{w:World}{A:Around}{I:Addr}{fp wr:List Addr}{G:Array yK->Array yK->Prop}{P:Nat->Value->Prop}{St:Nat->Shared->Prop}{R:Result->Shared->Prop}
theorem Ey(W:WalksS prog w A.in1 I fp wr G 2 P St)(hSf:S∉fp)(h0:∀v,P 0 v->v=v0)(h1:∀v,P 1 v->v=v1){c:Nat}{bt:Bool}(hst:St 0 s)
  (hS:s.heap.get? S=some {cls:=.type "list",dict:=none,data:=.seq #[] c,slots:= #[]})
  (hcmp:∀(s':Shared)(Q:Value->Shared->Prop)(E:Value->Shared->Prop),Moved (S::wr) G s s'->Q (.bool bt) s'->wpAny (model prog w) A.in1 (AO .Lt v1 v0) Q E s')
  (hR:∀s',Moved (S::wr) G s s'->R (.ok (.ret (if bt=true then v1 else v0))) s'):hZ (model prog w) A (.builtin "min.loop" ⟨[.ref I,.none,.ref S],[]⟩) R s:=by
 have hSw:S∉wr:=fun h=>hSf (W.sub _ h);have up:∀b∈wr,b∈S::wr:=fun b hb=>aJ _ hb;have nm:(toString "min"++toString ".loop":String)="min.loop":=by decide
 have ns:∀{b:Addr},b∉S::wr->S≠b:=fun hb h=>hb (by rw[h];exact aB)
 --the last turn
 have last:∀(s1:Shared)(x:Value)(d:Nat),St 2 s1->s1.heap.get? S=some {cls:=.type "list",dict:=none,data:=.seq #[x,x] d,slots:= #[]}->Moved (S::wr) G s s1->x=(if bt=true then v1 else v0)->
   hZ (model prog w) A (.builtin "min.loop" ⟨[.ref I,.none,.ref S],[]⟩) R s1:=by
  intro s1 x d st g mv ex;refine di yL ?_;rw[cz fK _];show wpAny _ A.in1 (jH (.ref S)>>=_) _ _ s1;refine ae (cF g rfl ?_);show wpAny _ A.in1 (tryCatch (pyNext (.ref I)) _>>=_) _ _ s1;refine ae (fQ (W.done s1 _ _ st fun s' hm=>?_));have g':=hm.heap S _ hSw g;show wpAny _ A.in1 (AG S (fun _=> #[])>>=_) _ _ _;refine ae (gh g' rfl (ae (eH (aj ?_))));rw[ex];exact hR _ (oE W.gtrans mv ((hm.mono up).then_heap (tk:=s'.toks) (aA _) fun b o hb e=>(aR _ _ (ns hb)).trans e))
 --the second
 have second:∀(s1:Shared)(d:Nat),St 1 s1->s1.heap.get? S=some {cls:=.type "list",dict:=none,data:=.seq #[v0,v0] d,slots:= #[]}->Moved (S::wr) G s s1->
   hZ (model prog w) A (.builtin "min.loop" ⟨[.ref I,.none,.ref S],[]⟩) R s1:=by
  intro s1 d st g mv;refine di yL ?_;rw[cz fK _];show wpAny _ A.in1 (jH (.ref S)>>=_) _ _ s1;refine ae (cF g rfl ?_);show wpAny _ A.in1 (tryCatch (pyNext (.ref I)) _>>=_) _ _ s1;refine ae (fQ (W.item 1 s1 _ _ (by decide) st fun v s' hP st' hm=>?_));obtain rfl:=h1 v hP;have g':=hm.heap S _ hSw g;have mv':=oE W.gtrans mv (hm.mono up);show wpAny _ A.in1 (tryCatch (holding [v,v] (AO .Lt v v0>>=_)) _>>=_) _ _ _;refine ae (fQ (cN (ae (hcmp _ _ _ mv' ?_))));refine ae (cN (cY ?_));refine ae (eH (aj ?_));cases hb:bt with
  |true=>
   simp only[if_true];refine ae (gh g' rfl (ae (eH ?_)));rw[nm];refine aj ⟨dO fK _,last _ v _ (W.frame _ s' _ s'.toks st' (aA _) fun b hbf o e=>?_) (cm _ g' rfl) (mv'.then_heap (aA _) fun b o hb e=>(aR _ _ (ns hb)).trans e) (by rw[hb];rfl)⟩;exact(aR _ _ (fun h:S=b=>hSf (by rw[h];exact hbf))).trans e
  |false=>
   simp only[aS,if_false];refine ae (eH ?_);rw[nm];exact aj ⟨dO fK _,last _ v0 _ st' g' mv' (by rw[hb];rfl)⟩
 refine di yL ?_;rw[cz fK _];show wpAny _ A.in1 (jH (.ref S)>>=_) _ _ s;refine ae (cF hS rfl ?_);show wpAny _ A.in1 (tryCatch (pyNext (.ref I)) _>>=_) _ _ s;refine ae (fQ (W.item 0 s _ _ (by decide) hst fun v s' hP st' hm=>?_));obtain rfl:=h0 v hP;have g':=hm.heap S _ hSw hS;show wpAny _ A.in1 (AG S (fun _=> #[v,v])>>=_) _ _ _;refine ae (gh g' rfl ?_);rw[nm];refine aj ⟨dO fK _,second _ _ (W.frame _ s' _ s'.toks st' (aA _) fun b hbf o e=>?_) (cm _ g' rfl) ((hm.mono up).then_heap (aA _) fun b o hb e=>(aR _ _ (ns hb)).trans e)⟩;exact(aR _ _ (fun h:S=b=>hSf (by rw[h];exact hbf))).trans e
theorem EA(W:WalksS prog w A.in1 I fp wr G 2 P St)(hSf:S∉fp)(h0:∀v,P 0 v->v=v0)(h1:∀v,P 1 v->v=v1){c:Nat}{bt:Bool}(hst:St 0 s)
  (hS:s.heap.get? S=some {cls:=.type "list",dict:=none,data:=.seq #[] c,slots:= #[]})
  (hcmp:∀(s':Shared)(Q:Value->Shared->Prop)(E:Value->Shared->Prop),Moved (S::wr) G s s'->Q (.bool bt) s'->wpAny (model prog w) A.in1 (AO .Gt v1 v0) Q E s')
  (hR:∀s',Moved (S::wr) G s s'->R (.ok (.ret (if bt=true then v1 else v0))) s'):hZ (model prog w) A (.builtin "max.loop" ⟨[.ref I,.none,.ref S],[]⟩) R s:=by
 have hSw:S∉wr:=fun h=>hSf (W.sub _ h);have up:∀b∈wr,b∈S::wr:=fun b hb=>aJ _ hb;have nm:(toString "max"++toString ".loop":String)="max.loop":=by decide
 have ns:∀{b:Addr},b∉S::wr->S≠b:=fun hb h=>hb (by rw[h];exact aB)
 --the last turn
 have last:∀(s1:Shared)(x:Value)(d:Nat),St 2 s1->s1.heap.get? S=some {cls:=.type "list",dict:=none,data:=.seq #[x,x] d,slots:= #[]}->Moved (S::wr) G s s1->x=(if bt=true then v1 else v0)->
   hZ (model prog w) A (.builtin "max.loop" ⟨[.ref I,.none,.ref S],[]⟩) R s1:=by
  intro s1 x d st g mv ex;refine di yM ?_;rw[cz fL _];show wpAny _ A.in1 (jH (.ref S)>>=_) _ _ s1;refine ae (cF g rfl ?_);show wpAny _ A.in1 (tryCatch (pyNext (.ref I)) _>>=_) _ _ s1;refine ae (fQ (W.done s1 _ _ st fun s' hm=>?_));have g':=hm.heap S _ hSw g;show wpAny _ A.in1 (AG S (fun _=> #[])>>=_) _ _ _;refine ae (gh g' rfl (ae (eH (aj ?_))));rw[ex];exact hR _ (oE W.gtrans mv ((hm.mono up).then_heap (tk:=s'.toks) (aA _) fun b o hb e=>(aR _ _ (ns hb)).trans e))
 --the second
 have second:∀(s1:Shared)(d:Nat),St 1 s1->s1.heap.get? S=some {cls:=.type "list",dict:=none,data:=.seq #[v0,v0] d,slots:= #[]}->Moved (S::wr) G s s1->
   hZ (model prog w) A (.builtin "max.loop" ⟨[.ref I,.none,.ref S],[]⟩) R s1:=by
  intro s1 d st g mv;refine di yM ?_;rw[cz fL _];show wpAny _ A.in1 (jH (.ref S)>>=_) _ _ s1;refine ae (cF g rfl ?_);show wpAny _ A.in1 (tryCatch (pyNext (.ref I)) _>>=_) _ _ s1;refine ae (fQ (W.item 1 s1 _ _ (by decide) st fun v s' hP st' hm=>?_));obtain rfl:=h1 v hP;have g':=hm.heap S _ hSw g;have mv':=oE W.gtrans mv (hm.mono up);show wpAny _ A.in1 (tryCatch (holding [v,v] (AO .Gt v v0>>=_)) _>>=_) _ _ _;refine ae (fQ (cN (ae (hcmp _ _ _ mv' ?_))));refine ae (cN (cY ?_));refine ae (eH (aj ?_));cases hb:bt with
  |true=>
   simp only[if_true];refine ae (gh g' rfl (ae (eH ?_)));rw[nm];refine aj ⟨dO fL _,last _ v _ (W.frame _ s' _ s'.toks st' (aA _) fun b hbf o e=>?_) (cm _ g' rfl) (mv'.then_heap (aA _) fun b o hb e=>(aR _ _ (ns hb)).trans e) (by rw[hb];rfl)⟩;exact(aR _ _ (fun h:S=b=>hSf (by rw[h];exact hbf))).trans e
  |false=>
   simp only[aS,if_false];refine ae (eH ?_);rw[nm];exact aj ⟨dO fL _,last _ v0 _ st' g' mv' (by rw[hb];rfl)⟩
 refine di yM ?_;rw[cz fL _];show wpAny _ A.in1 (jH (.ref S)>>=_) _ _ s;refine ae (cF hS rfl ?_);show wpAny _ A.in1 (tryCatch (pyNext (.ref I)) _>>=_) _ _ s;refine ae (fQ (W.item 0 s _ _ (by decide) hst fun v s' hP st' hm=>?_));obtain rfl:=h0 v hP;have g':=hm.heap S _ hSw hS;show wpAny _ A.in1 (AG S (fun _=> #[v,v])>>=_) _ _ _;refine ae (gh g' rfl ?_);rw[nm];refine aj ⟨dO fL _,second _ _ (W.frame _ s' _ s'.toks st' (aA _) fun b hbf o e=>?_) (cm _ g' rfl) ((hm.mono up).then_heap (aA _) fun b o hb e=>(aR _ _ (ns hb)).trans e)⟩;exact(aR _ _ (fun h:S=b=>hSf (by rw[h];exact hbf))).trans e
theorem EZ{p q:Addr}{a b:List Int}{Q:Value->Shared->Prop}(hh:A.handled=none)(hu:A.units+1<cLine)(hx:IsTup s.heap p us.toArray)(hy:IsTup s.heap q vs.toArray)(ha:ck us a)(hb:ck vs b)(hl:a.length=b.length)
  (h:∀h' tk,(∀c o,s.heap.get? c=some o->h'.get? c=some o)->Q (if llt b a=true then .ref q else .ref p) {s with heap:=h',toks:=tk}):
  wpAny (model prog w) A (call (.builtin "min") [.ref p,.ref q]) Q E s:=by
 have hname:(toString "min"++toString ".loop":String)="min.loop":=by decide
 have hT:(s.heap.push {cls:=.type "tuple",data:=.seq #[.ref p,.ref q]}).IsTuple s.heap.objs.size #[.ref p,.ref q]:=⟨_,aq _ rfl,rfl,0,rfl⟩;have hsz:(s.heap.push {cls:=.type "tuple",data:=.seq #[.ref p,.ref q]}).objs.size=s.heap.objs.size+1:=bF ..;refine call_function_tree F.kind_min F.plain_min F.entry_min (F.args_min2 _ _) ?_;show wpAny _ A.in1 (fq "min" ["key","default"] 0 ⟨[],[]⟩>>=_) _ _ s;refine ae (rL (show fq "min" ["key","default"] 0 ⟨[],[]⟩=pure [none,none]from rfl) ?_);show wpAny _ A.in1 (newTuple [.ref p,.ref q]>>=_) _ _ s;refine ae (cg ?_);refine ae (eD hT ?_);refine ae (cg ?_);rw[hname];have hz2:∀o o':Obj,((s.heap.push o).push o').objs.size=s.heap.objs.size+2:=fun o o'=>by rw[bF,bF]
 refine aj ⟨dO fK _,Ey (v0:=.ref p) (v1:=.ref q) (bt:=llt b a) ((Walks.tuple (A:=A.in1) hh _ s.heap.objs.size (by rw[hsz];exact aL (cA _)) #[.ref p,.ref q]).toS) ?_ (fun v e=>by simpa using e.symm) (fun v e=>by simpa using e.symm) ⟨⟨_,ag _ (aq _ rfl),rfl,rfl⟩,(hT.push _).push _⟩ (aq _ rfl) ?_ ?_⟩
 ·intro hm
  simp only[hz2,hsz]at hm;rcases av.mp hm with e|hm
  ·exact absurd e (dh (cA _))
  ·exact absurd (aD.mp hm) (dh (bz (cA _)))
 ·intro s' Q' E' mv q'
  have old:∀c o,s.heap.get? c=some o->s'.heap.get? c=some o:=fun c o e=>by
   have hlt:=au e;refine mv.heap c o (fun hm=>?_) (ag _ (ag _ (ag _ e)));rcases av.mp hm with e|hm
   ·rw[e]at hlt;simp only[hz2]at hlt;exact absurd hlt (iA.mpr (bY _ _))
   ·rw[aD.mp hm,hsz]at hlt;exact absurd hlt (iA.mpr (bY _ _))
  have hx':IsTup s'.heap p us.toArray:=hx.keeps old;have hy':IsTup s'.heap q vs.toArray:=hy.keeps old;exact lF (op:=.Lt) hy'.typeIs hx'.typeIs oK (cE oK hy'.typeIs F.entry_tuple_lt (C3 hy' hx' hb ha hl.symm ⟨_,rfl,(fun e=>nomatch e),q'⟩) (F.args_tuple_lt_2 _ _)) hu
 ·intro s' mv
  have old:∀c o,s.heap.get? c=some o->s'.heap.get? c=some o:=fun c o e=>by
   have hlt:=au e;refine mv.heap c o (fun hm=>?_) (ag _ (ag _ (ag _ e)));rcases av.mp hm with e|hm
   ·rw[e]at hlt;simp only[hz2]at hlt;exact absurd hlt (iA.mpr (bY _ _))
   ·rw[aD.mp hm,hsz]at hlt;exact absurd hlt (iA.mpr (bY _ _))
  obtain⟨h',g',d',tk',os'⟩:=s';obtain rfl:g'=s.gens:=mv.gens;obtain rfl:d'=s.drawn:=mv.drawn;obtain rfl:os'=s.os:=mv.os;exact h h' tk' old
theorem E2{p q:Addr}{a b:List Int}{Q:Value->Shared->Prop}(hh:A.handled=none)(hu:A.units+1<cLine)(hx:IsTup s.heap p us.toArray)(hy:IsTup s.heap q vs.toArray)(ha:ck us a)(hb:ck vs b)(hl:a.length=b.length)
  (h:∀h' tk,(∀c o,s.heap.get? c=some o->h'.get? c=some o)->Q (if llt a b=true then .ref q else .ref p) {s with heap:=h',toks:=tk}):
  wpAny (model prog w) A (call (.builtin "max") [.ref p,.ref q]) Q E s:=by
 have hname:(toString "max"++toString ".loop":String)="max.loop":=by decide
 have hT:(s.heap.push {cls:=.type "tuple",data:=.seq #[.ref p,.ref q]}).IsTuple s.heap.objs.size #[.ref p,.ref q]:=⟨_,aq _ rfl,rfl,0,rfl⟩;have hsz:(s.heap.push {cls:=.type "tuple",data:=.seq #[.ref p,.ref q]}).objs.size=s.heap.objs.size+1:=bF ..;refine call_function_tree F.kind_max F.plain_max F.entry_max (F.args_max2 _ _) ?_;show wpAny _ A.in1 (fq "max" ["key","default"] 0 ⟨[],[]⟩>>=_) _ _ s;refine ae (rL (show fq "max" ["key","default"] 0 ⟨[],[]⟩=pure [none,none]from rfl) ?_);show wpAny _ A.in1 (newTuple [.ref p,.ref q]>>=_) _ _ s;refine ae (cg ?_);refine ae (eD hT ?_);refine ae (cg ?_);rw[hname];have hz2:∀o o':Obj,((s.heap.push o).push o').objs.size=s.heap.objs.size+2:=fun o o'=>by rw[bF,bF]
 refine aj ⟨dO fL _,EA (v0:=.ref p) (v1:=.ref q) (bt:=llt a b) ((Walks.tuple (A:=A.in1) hh _ s.heap.objs.size (by rw[hsz];exact aL (cA _)) #[.ref p,.ref q]).toS) ?_ (fun v e=>by simpa using e.symm) (fun v e=>by simpa using e.symm) ⟨⟨_,ag _ (aq _ rfl),rfl,rfl⟩,(hT.push _).push _⟩ (aq _ rfl) ?_ ?_⟩
 ·intro hm
  simp only[hz2,hsz]at hm;rcases av.mp hm with e|hm
  ·exact absurd e (dh (cA _))
  ·exact absurd (aD.mp hm) (dh (bz (cA _)))
 ·intro s' Q' E' mv q'
  have old:∀c o,s.heap.get? c=some o->s'.heap.get? c=some o:=fun c o e=>by
   have hlt:=au e;refine mv.heap c o (fun hm=>?_) (ag _ (ag _ (ag _ e)));rcases av.mp hm with e|hm
   ·rw[e]at hlt;simp only[hz2]at hlt;exact absurd hlt (iA.mpr (bY _ _))
   ·rw[aD.mp hm,hsz]at hlt;exact absurd hlt (iA.mpr (bY _ _))
  have hx':IsTup s'.heap p us.toArray:=hx.keeps old;have hy':IsTup s'.heap q vs.toArray:=hy.keeps old;exact lF (op:=.Gt) hy'.typeIs hx'.typeIs F.slot_tuple_gt (cE F.slot_tuple_gt hy'.typeIs F.entry_tuple_gt (gt_tree hy' hx' hb ha hl.symm ⟨_,rfl,(fun e=>nomatch e),q'⟩) (F.args_tuple_gt_2 _ _)) hu
 ·intro s' mv
  have old:∀c o,s.heap.get? c=some o->s'.heap.get? c=some o:=fun c o e=>by
   have hlt:=au e;refine mv.heap c o (fun hm=>?_) (ag _ (ag _ (ag _ e)));rcases av.mp hm with e|hm
   ·rw[e]at hlt;simp only[hz2]at hlt;exact absurd hlt (iA.mpr (bY _ _))
   ·rw[aD.mp hm,hsz]at hlt;exact absurd hlt (iA.mpr (bY _ _))
  obtain⟨h',g',d',tk',os'⟩:=s';obtain rfl:g'=s.gens:=mv.gens;obtain rfl:d'=s.drawn:=mv.drawn;obtain rfl:os'=s.os:=mv.os;exact h h' tk' old
end
noncomputable def rMinL(K:ah):List V->Hp->VK->Prop:=fun xs H Q=>∃(p q:Addr)(a b:List Int),xs=[V.ref p,V.ref q]/\SqT K H p (a.map V.int)/\SqT K H q (b.map V.int)/\a.length=b.length/\Q (if llt b a=true then .ref q else .ref p) H
noncomputable def rMaxL(K:ah):List V->Hp->VK->Prop:=fun xs H Q=>∃(p q:Addr)(a b:List Int),xs=[V.ref p,V.ref q]/\SqT K H p (a.map V.int)/\SqT K H q (b.map V.int)/\a.length=b.length/\Q (if llt a b=true then .ref q else .ref p) H
theorem EY(hc:X.calm=true)(hu:X.A.units+1<cLine):fg X (.builtin "min") (rMinL X.K):=by
 intro pins s σ H xs us Q I r h;obtain⟨p,q,a,b,rfl,h1,h2,hl,hq⟩:=h;obtain⟨u,w',rfl,r1,r2⟩:=vals2 r;cases r1;cases r2;obtain⟨its,ra,pl,_⟩:=I.tuple h1;obtain⟨its',rb,pl',_⟩:=I.tuple h2;refine _root_.Q.EZ (I.ok.hd hc) hu pl pl' (intsAre_of ra) (intsAre_of rb) hl fun h' tk k=>⟨_,H,I.kept k,?_,hq⟩;split <;>rfl
theorem E1(hc:X.calm=true)(hu:X.A.units+1<cLine):fg X (.builtin "max") (rMaxL X.K):=by
 intro pins s σ H xs us Q I r h;obtain⟨p,q,a,b,rfl,h1,h2,hl,hq⟩:=h;obtain⟨u,w',rfl,r1,r2⟩:=vals2 r;cases r1;cases r2;obtain⟨its,ra,pl,_⟩:=I.tuple h1;obtain⟨its',rb,pl',_⟩:=I.tuple h2;refine _root_.Q.E2 (I.ok.hd hc) hu pl pl' (intsAre_of ra) (intsAre_of rb) hl fun h' tk k=>⟨_,H,I.kept k,?_,hq⟩;split <;>rfl
noncomputable def lA(k:List Int×List Int):List Int:=k.1++k.2
theorem C5:∀{a c:List Int}(b d:List Int),a.length=c.length->llt (a++b) (c++d)=(llt a c||(decide (a=c)&&llt b d))
 | [],[],b,d,_=>by simp[llt]
 |x::a,y::c,b,d,h=>by
  have ih:=C5 (a:=a) (c:=c) b d (by simpa using h);simp only[uS,llt,ih];by_cases e1:x=y
  ·subst e1;simp
  ·simp[e1]
noncomputable def P2(h:Heap)(v:Value)(k:List Int×List Int):Prop:=∃a o its n x y rest us ws,v=.ref a/\h.get? a=some o/\o.cls=.type "tuple"/\o.data=.seq its n/\its.toList=.ref x::.ref y::rest/\IsTup h x (us:List Value).toArray/\IsTup h y (ws:List Value).toArray/\ck us k.1/\ck ws k.2
noncomputable def P2s(h:Heap)(vs:List Value)(ps:List (List Int×List Int)):Prop:=Paired (P2 h) vs ps
theorem p2_at{ps:List (List Int×List Int)}(r:P2s h vs ps)(hi:i<vs.length):P2 h (vs.getD i .none) (ps.getD i ([],[])):=by
 unfold P2s at r
 induction r generalizing i with
 |nil=>exact absurd hi (fc _)
 |cons y t ih=>
  cases i with
  |zero=>exact y
  |succ i=>exact ih (by simpa using hi)
theorem p2_kat(kp:∀b o,h.get? b=some o->h1.get? b=some o){ps:List (List Int×List Int)}(r:P2s h vs ps):∃fs,KatTups h1 vs fs/\fs.length=vs.length/\∀v∈fs,∃x o,v=cK x/\h1.get? x=some o/\o.cls=.type "tuple":=by
 unfold P2s at r
 induction r with
 |nil=>exact⟨[],.nil,rfl,fun v hv=>nomatch hv⟩
 | @cons v k vs ps y t ih=>
  obtain⟨fs,a1,a2,a3⟩:=ih;obtain⟨a,o,its,n,x,y,rest,us,ws,rfl,e2,e3,e4,e5,⟨ox,hx,cx,_⟩,_⟩:=y;refine⟨.ref x::fs,.cons (kp _ _ e2) e3 e4 (by rw[<-nG,e5];rfl) a1,by simp[a2],fun v hv=>?_⟩;rcases av.mp hv with rfl|hv
  ·exact⟨x,ox,rfl,kp _ _ hx,cx⟩
  ·exact a3 v hv
section
variable {prog:Program}{w:World}{A:Around}{E:Value->Shared->Prop}{s:Shared}
theorem BI{k:List Int}(r:ck us k):ItemsAre (cH prog w) (k.map .inl) us:=by
 induction r with
 |nil=>exact .nil
 |cons n t r ih=>exact .cons (mq _ _ _ _) ih
theorem Cg{x:Addr}{k:List Int}(t:IsTup h x us.toArray)(r:ck us k):IsTupleKey (cH prog w) h (k.map .inl) x:=by
 obtain⟨o,ho,hc,n,hd⟩:=t;exact⟨o,us.toArray,n,ho,hc,hd,BI r⟩
theorem inl_inj{a c:List Int}:decide (a.map (dX:Int->Key)=c.map dX)=decide (a=c):=by
 refine decide_eq_decide.mpr ⟨fun h=>?_,fun h=>by rw[h]⟩
 induction a generalizing c with
 |nil=>cases c with
  |nil=>rfl
  |cons=>cases h
 |cons x a ih=>cases c with
  |nil=>cases h
  |cons y c=>
   simp only[bA,Fz,dX.injEq]at h;rw[h.1,ih h.2]
theorem Dj{x y:Addr}{a c:List Int}{Q:Bool->Shared->Prop}(hu:A.units<cLine)(hx:IsTup s.heap x us.toArray)(hy:IsTup s.heap y ws.toArray)(ha:ck us a)(hc:ck ws c)(h:Q (decide (a=c)) s):wpAny (model prog w) A (eqBool (.ref x) (.ref y)) Q E s:=by
 rw[<-inl_inj]at h;exact wpAny_eqBool_tuple (knd:=cH prog w) hu (Cg hx ha) (Cg hy hc) h
theorem C1{x y:Addr}{a c:List Int}{Q:Bool->Shared->Prop}(hu:A.units<cLine)(hx:IsTup s.heap x us.toArray)(hy:IsTup s.heap y ws.toArray)(ha:ck us a)(hc:ck ws c)(hl:a.length=c.length)(h:Q (llt a c) s):wpAny (model prog w) A (oneLt' false (.ref x) (.ref y)) Q E s:=
 kat_one _ _ (lF (op:=.Lt) hx.typeIs hy.typeIs oK (cE oK hx.typeIs F.entry_tuple_lt (C3 hx hy ha hc hl ⟨_,rfl,(fun e=>nomatch e),h⟩) (F.args_tuple_lt_2 _ _)) hu)
end
theorem Ai{ps:List (List Int×List Int)}(i:Nat):(ps.map lA).getD i []=lA (ps.getD i ([],[])):=by
 rw[af,af,ao];cases ps[i]? <;>rfl
theorem asks_p2{ps:List (List Int×List Int)}(hu:A.units<cLine)(nd:(ps.map lA).Nodup)(hl:vs.length=ps.length)(r:P2s h0 vs ps)(h2:2<=vs.length)(hm:∀k∈ps,k.1.length=m/\k.2.length=m):B7 prog w A (ltL (ps.map lA)) vs h0:=by
 intro s1 kp;refine⟨tuples' false,fun Q' E' q=>?_,fun i j C hi hj hij q=>?_⟩
 ·obtain⟨fs,a1,a2,a3⟩:=p2_kat kp r
  refine kat_kind (T:=.type "tuple") a1 (by omega) (fun v hv=>?_) rfl q;obtain⟨x,o,rfl,e1,e2⟩:=a3 v hv;intro A Q E s k q;exact wpAny_typeOf ⟨o,k _ _ e1,e2⟩ q
 ·obtain⟨a,o,its,n,x,y,rest,us,ws,e1,e2,e3,e4,e5,e6,e7,e8,e9⟩:=p2_at r hi
  obtain⟨a',o',its',n',x',y',rest',us',ws',f1,f2,f3,f4,f5,f6,f7,f8,f9⟩:=p2_at r hj;have hne:=neL nd (i:=i) (j:=j) (by rw[ai];omega) (by rw[ai];omega) hij;have l1:(ps.getD i ([],[])).1.length=m/\(ps.getD i ([],[])).2.length=m:=by rw[af,aa (hl▸hi)];exact hm _ (bx _)
  have l2:(ps.getD j ([],[])).1.length=m/\(ps.getD j ([],[])).2.length=m:=by rw[af,aa (hl▸hj)];exact hm _ (bx _)
  unfold DG;unfold ltL at q;rw[Ai,Ai]at q hne;rw[e1,f1];generalize ps.getD i ([],[])=k at *;generalize ps.getD j ([],[])=k' at *;obtain⟨b,c⟩:=k;obtain⟨b',c'⟩:=k';unfold lA at q hne;rw[C5 _ _ (l1.1.trans l2.1.symm)]at q;refine kat_lt (kp _ _ e2) e4 (kp _ _ f2) f4 ?_;rw[e5,f5];refine Fe (Dj hu (e6.keeps kp) (f6.keeps kp) e8 f8 ?_);by_cases e:b=b'
  ·subst e
   rw[show decide (b=b)=true by simp];have hc:c≠c':=fun z=>hne (by rw[z]);refine kat_yes (Fe (Dj hu (e7.keeps kp) (f7.keeps kp) e9 f9 ?_));dsimp only;rw[show decide (c=c')=false by simpa using hc];refine kat_no (C1 hu (e7.keeps kp) (f7.keeps kp) e9 f9 (l1.2.trans l2.2.symm) ?_);simp[tM]at q;exact q
  ·rw[show decide (b=b')=false by simpa using e]
   refine kat_no (C1 hu (e6.keeps kp) (f6.keeps kp) e8 f8 (l1.1.trans l2.1.symm) ?_);simp[e]at q;exact q
noncomputable def k6(H:Hp)(ys:List V)(ps:List (List Int×List Int)):Prop:=Paired (fun v k=>∃a x y rest,v=V.ref a/\H a=some (.tup (.ref x::.ref y::rest))/\H x=some (.tup (k.1.map V.int))/\H y=some (.tup (k.2.map V.int))) ys ps
theorem wV{ps:List (List Int×List Int)}(h:k6 H ys ps):ps.length=ys.length:=by
 unfold k6 at h
 induction h with
 |nil=>rfl
 |cons _ _ ih=>simp[ih]
theorem p2_of(ok:HOk P w H h){ps:List (List Int×List Int)}(k:k6 H ys ps):bX ys vs->P2s h vs ps:=by
 unfold k6 at k
 induction k generalizing vs with
 |nil=>intro z;cases z;exact .nil
 |cons y t ih=>
  intro z;cases z with
  |cons r q=>
   obtain⟨a,x,z,rest,rfl,e,ex,ez⟩:=y;cases r;obtain⟨_,its,rv,o,e1,e2,n,e3⟩:=ok a _ e;obtain⟨_,ux,rx,tx⟩:=ok x _ ex;obtain⟨_,uz,rz,tz⟩:=ok z _ ez;cases rv with
   |cons r1 rv=>cases rv with
    |cons r2 rv=>
     cases r1;cases r2;exact .cons ⟨a,o,_,n,x,z,_,ux,uz,rfl,e1,e2,e3,rfl,tx,tz,intsAre_of rx,intsAre_of rz⟩ (ih q)
noncomputable def GA(K:ah):List V->Hp->VK->Prop:=fun xs H Q=>∃(p:Addr)(ys:List V)(ps:List (List Int×List Int))(m:Nat),xs=[V.ref p]/\SqL K H p ys/\ps.length<64/\(ps.map lA).Nodup/\(∀k∈ps,k.1.length=m/\k.2.length=m)/\k6 H ys ps/\∀l,H l=none->Q (.ref l) (upd H l (.lst (dy .non (ps.map lA) ys)))
theorem yj(hu:X.A.units+2<cLine):fg X (.builtin "sorted") (GA X.K):=by
 intro pins s σ H xs us Q I r h;obtain⟨p,ys,ps,m,rfl,hq,h64,nd,hm,hk,q⟩:=h;obtain⟨u,rfl,rx⟩:=vals1 r;cases rx;obtain⟨its,r',pl,hz⟩:=I.list hq;have hl0:ps.length=ys.length:=wV hk;have hl:(ps.map lA).length=ys.length:=by rw[ai];exact hl0
 have hlen:=r'.length;have hv:its.length=(ps.map lA).length:=by omega
 refine mW (lt:=ltL (ps.map lA)) (vs:=its) (by rw[hv];exact FP nd) pl.isList (by omega) (fun h2=>asks_p2 hu nd (by omega) (p2_of I.hok hk r') h2 hm) ?_;obtain⟨c,hc⟩:=yD s.heap its (fN (ltL (ps.map lA)) its).toArray;have hz2:(dy V.non (ps.map lA) ys).length<=sizeLine:=by
  unfold dy;rw[ai,(m4 nd).length_eq,ba];omega
 exact⟨.ref (s.heap.objs.size+1),_,I.laid (t':=s.toks) (fun b o e=>uQ e) (dP _) (show dN X.prog X.w _ _ _ (.lst (dy .non (ps.map lA) ys))from⟨hz2,_,c,vM nd hl r',hc⟩),rfl,q _ (I.hok.fresh (dP _))⟩
end Q
namespace PySem
noncomputable abbrev eT1(h:Heap)(t:Addr):Heap:=h.push {cls:=.type "tuple_iterator",data:=.fields #[.ref t,.int 0 0]}
noncomputable abbrev eT2(h:Heap)(t:Addr):Heap:=(eT1 h t).push {cls:=.type "enumerate",data:=.fields #[.none,.bool false,.ref h.objs.size,rawInt 0,.none,.none]}
theorem zP(t:Addr)(xs:Array Value)(n:Nat)(dct:Option Addr)(sl:Array (Option Value)):
  Meets (Builtin.«enumerate.__new__» ⟨[.type "enumerate",.ref t],[]⟩) (fun _ R s=>s.heap.get? t=some {cls:=.type "tuple",dict:=dct,data:=.seq xs n,slots:=sl}/\R (.ok (.ret (.ref (eT1 s.heap t).objs.size))) {s with heap:=eT2 s.heap t}):=
 .of_wp fun prog w A R s h=>by
  obtain⟨hp,g,d,tk,os⟩:=s;obtain⟨h0,h⟩:=h;have hsub:=sub_enumerate;have e1:sA (uH ⟨hp,g,d,tk,os⟩) t xs:=⟨_,h0,rfl,n,rfl⟩
  wp_walk using kD h0
  refine wpAny_stack_any fun st=>aj ?_;split
  ·rename_i cc _ _ _ _ _
   generalize(cc==ki "enumerate")=bb;cases bb<;>(wp_walk using kD h0,eD e1;exact⟨_,rfl,h⟩)
  ·wp_walk using kD h0,eD e1
   exact⟨_,rfl,h⟩
section
variable {prog:Program}{w:World}{A:Around}{E:Value->Shared->Prop}{s:Shared}
theorem BX{t:Addr}{xs:Array Value}{Q:Value->Shared->Prop}(ht:s.heap.IsTuple t xs)
  (q:∀h',IsEnum h' (s.heap.objs.size+1) s.heap.objs.size 0 .none->h'.IsTupleIter s.heap.objs.size t 0->(∀c o,s.heap.get? c=some o->h'.get? c=some o)->Q (.ref (s.heap.objs.size+1)) {s with heap:=h'}):
  wpAny (model prog w) A (call (.type "enumerate") [.ref t]) Q E s:=by
 obtain⟨⟨c,dct,dt,sl⟩,e1,e2,n,e3⟩:=ht;obtain rfl:c=ki "tuple":=e2;obtain rfl:dt=Data.seq xs n:=e3;have z1:(eT1 s.heap t).objs.size=s.heap.objs.size+1:=bF ..;have g2:(eT2 s.heap t).get? (eT1 s.heap t).objs.size=some _:=aq _ rfl;have g1:(eT2 s.heap t).get? s.heap.objs.size=some _:=ag _ (aq _ rfl);refine callType_new F.called_enumerate (by decide) (F.typeCall_enumerate_1 _) (F.newCall_enumerate_1 _) (fun obj=>F.args_object_init_2 obj _) F.entry_enumerate_new (zP t xs n dct sl) ⟨e1,?_⟩;show _/\_;rw[z1]at g2⊢;exact⟨⟨_,g2,rfl⟩,q _ g2 ⟨_,g1,rfl,rfl⟩ fun c o x=>ag _ (ag _ x)⟩
end
theorem drawsT(hh:A.handled=none)(j t:Addr)(hne:t≠j)(xs:Array Value):
  Draws prog w A j [j,t] xs.size (fun i v=>xs[i]? =some v) (fun i h=>h.IsTupleIter j t i/\h.IsTuple t xs) where
 live:=fun _ _ st=>by obtain⟨⟨o,ho,_⟩,_⟩:=st;exact⟨o,ho⟩
 frame:=fun _ _ _ st hk=>by
  obtain⟨⟨o,ho,r⟩,⟨o',ho',r'⟩⟩:=st;exact⟨⟨o,hk j (by simp) o ho,r⟩,⟨o',hk t (by simp) o' ho',r'⟩⟩
 item:=fun i s Q E hi st hQ=>oZ st.1 st.2 (v:=xs[i]) (by simp[hi]) fun h' hj hs=>hQ _ h' s.toks (by simp[hi]) ⟨hj,st.2.extBut hs.extBut hne⟩ hs
 done:=fun s Q E st hE=>xI hh st.1 st.2 (by simp) hE
end PySem
namespace L2
open PySem PySem.Spec PyProof.Rows
noncomputable def Itet(K:ah)(a:Addr):It:=
 ⟨fun i H=>∃xs x,SqT K H a xs/\xs[i]? =some x,fun i H v H'=>∃p x,H p=none/\H'=upd H p (.tup [.int i,x])/\v=.ref p/\∀xs,SqT K H a xs->xs[i]? =some x,fun i H=>∃xs,SqT K H a xs/\xs.length<=i⟩
theorem A6{es:List Expr}{kk:Nat}(a it e:Addr)(hne:e≠it):Turn P w K (.Tuple es kk pp) (Itet K a) [e,it] e (fun i h=>(∃old,IsEnum h e it i old)/\h.IsTupleIter it a i) where
 mem:=by simp
 obj:=fun i h st b hb=>by
  obtain⟨⟨old,he⟩,o,e1,c,d⟩:=st;have hb':b=e\/b=it:=by simpa using hb
  rcases hb' with rfl|rfl
  ·exact⟨_,he,fun v z=>by cases z⟩
  ·exact⟨o,e1,fun v z=>by rw[d]at z;cases z⟩
 keep:=fun i h h' st k=>by
  obtain⟨⟨old,he⟩,o,ho,r⟩:=st;exact⟨⟨old,k e (by simp) _ he⟩,o,k it (by simp) o ho,r⟩
 item:=by
  intro X hP hw hK hc i pins s σ H E I hf st hg;subst hP hw hK;obtain⟨xs,x,hq,hx⟩:=hg;obtain⟨its,rv,pl,hz⟩:=I.tuple hq;have pl:s.heap.IsTuple a its.toArray:=pl;obtain⟨u,hu,ru⟩:=rv.get hx;obtain⟨⟨old,he⟩,hl⟩:=st;obtain⟨f0,f1,f2,f3,f4,f5⟩:=hf e (by simp);obtain⟨g0,g1,g2,g3,g4,g5⟩:=hf it (by simp);have hilt:i<its.toArray.size:=by
   have :=(aH.mp hu).1
   simpa using this
  have hit:it<s.heap.objs.size:=by obtain⟨o,q,_⟩:=hl;exact au q
  have haI:a≠it:=by
   obtain⟨o',q',qc',_⟩:=id hl;exact tup_ne pl q' (by rw[qc'];decide+kernel)
  have haE:e≠a:=cn (tup_ne pl he (by show ki "enumerate"≠ki "tuple";decide+kernel));have D:=drawsT (prog:=X.prog) (w:=X.w) (A:=X.A.in1) (I.ok.hd hc) it a haI its.toArray;refine wpAny_pyNext_enum_itemD D he ⟨hl,pl⟩ hilt hne (by simp[hne,haE]) fun y h' tk hy ho hst ht hsz kp=>?_;have eyu:y=u:=by
   have :its[i]? =some y:=by simpa using hy
   rw[hu]at this;exact(bg this).symm
  subst eyu;have hp:H s.heap.objs.size=none:=I.hok.fresh (aA _);have nE:∀b v,H b=some v->b≠e:=fun b v q z=>by rw[z,f0]at q;cases q
  have nI:∀b v,H b=some v->b≠it:=fun b v q z=>by rw[z,g0]at q;cases q
  have kp':∀c o,c∉[e,it]->s.heap.get? c=some o->h'.get? c=some o:=fun c o hc q=>kp c o (fun z=>hc (by simp[z])) (fun z=>hc (by simp[z])) q;have I1:Inv X pins σ (upd H s.heap.objs.size (.tup [.int i,x])) {s with heap:=h',toks:=tk+1}:=by
   refine I.step (g':=s.gens) (d':=s.drawn) (ch:=[e,it]) (fun b hb=>?_) (fun b o _ _ hc' q _=>kp' b o hc' q)
    (fun b o _ _ hc' q _=>⟨o.slots,kp' b o hc' q⟩) (fun b o _ q n=>by rw[a7 (aL (au q))];exact n)
    (fun b o hc' q=>⟨o,kp' b o hc' q⟩) (fun b ys q=>by rw[a7 (bH q hp)];exact q) (fun b o v q=>by rw[a7 (bH q hp)];exact q)
    (fun b ps q=>⟨#[],by rw[a7 (bH q hp),q];simp⟩) (fun m hm=>?_) (fun b v q=>?_) I.bare
   ·have hb':b=e\/b=it:=by simpa using hb
    rcases hb' with rfl|rfl
    ·exact⟨f3,f1,f4,f5⟩
    ·exact⟨g3,g1,g4,g5⟩
   ·obtain⟨o,es',ep,q,r⟩:=hm
    exact⟨o,es',ep,kp _ o (cn f1) (cn g1) q,r⟩
   ·by_cases hb:b=s.heap.objs.size
    ·subst hb
     rw[ax]at q;cases q;exact⟨by show 2<=sizeLine;decide,[.int i tk,y],.cons ⟨tk,rfl⟩ (.cons ru .nil),⟨_,ht,rfl,_,rfl⟩⟩
    ·rw[a7 hb]at q
     refine(I.hok b v q).lW (fun c o hc' q'=>kp c o ?_ ?_ q') (fun c q'=>by rw[a7 (bH q' hp)];exact q') fun c ys q'=>by rw[a7 (bH q' hp)];exact q'
     ·rcases hc' with z|z
      ·rw[z];exact nE b v q
      ·exact nE c _ z
     ·rcases hc' with z|z
      ·rw[z];exact nI b v q
      ·exact nI c _ z
  have fe:(upd H s.heap.objs.size (.tup [.int i,x])) e=none:=by rw[a7 (aL (au he))];exact f0
  refine⟨_,rfl,wpAny_letOwnedTupleGo_enum (s:={s with heap:=h',toks:=tk+1}) ho fun h'' he'' hs''=>?_⟩;have I2:Inv X pins σ (upd H s.heap.objs.size (.tup [.int i,x])) {s with heap:=h'',toks:=tk+1}:=I1.turned (t':=tk+1) (fun b o hb q=>hs''.extBut b o hb q) fe f1 f3 f4 f5;refine⟨.ref s.heap.objs.size,_,I2,rfl,⟨_,x,hp,rfl,rfl,fun ys hy'=>by rw[I.jj hy' hq];exact hx⟩,⟨⟨y,?_⟩,hst.1.extBut hs''.extBut (cn hne)⟩,fun b hb=>?_⟩
  ·have :((i:Int)+1)=((i+1:Nat):Int):=by push_cast;rfl
   rw[<-this];exact he''
  ·have hb':b=e\/b=it:=by simpa using hb
   rcases hb' with rfl|rfl
   ·exact fe
   ·rw[a7 (aL hit)];exact g0
 done:=by
  intro X hP hw hK hc i pins s σ H E I hf st hg;subst hP hw hK;obtain⟨xs,hq,hx⟩:=hg;obtain⟨its,rv,pl,hz⟩:=I.tuple hq;have pl:s.heap.IsTuple a its.toArray:=pl;obtain⟨⟨old,he⟩,hl⟩:=st;obtain⟨g0,g1,g2,g3,g4,g5⟩:=hf it (by simp);have hT:s.TypeIs (.ref e) "enumerate":=⟨_,he,rfl⟩;have hlen:=rv.length;unfold pyNext;refine ae (jX (dc (name:=cT "__next__") hT F.slot_enumerate_next (cE F.slot_enumerate_next hT F.entry_enumerate_next ?_ (F.args_enumerate_next_1 _))));show wpAny _ _ (field (.ref e) 2>>=_) _ _ _;refine ae (dg he rfl (x:=.ref it) rfl ?_);refine ae (xI (A:=X.A.in1) (I.ok.hd hc) hl pl (by simp;omega) fun h' z he' hx'=>?_);obtain⟨o,ho,hcl⟩:=hx';refine ae (hV (T:="StopIteration") (b:=true) ⟨o,ho,hcl⟩ Fg ?_);exact aj ⟨rfl,I.turned (t':=s.toks) (fun b o hb q=>he' b o hb q) g0 g1 g3 g4 g5⟩
 self:=fun _ _ _ _ _ st h=>by
  obtain⟨⟨old,he⟩,_⟩:=st;exact wpAny_pyIter_enum he h
section
variable {X:Cx}{es:List Expr}{kk:Nat}{pp:Pos}
noncomputable def BN(K:ah)(t:TA):TI:=fun σ H R=>t σ H fun vs H1=>∃a,vs=[.ref a]/\(∃xs,SqT K H1 a xs)/\R (Itet K a) H1
theorem GQ{l:Expr}{t:TA}{p:Pos}(hg:Gl X "enumerate")(hm:X.mg "enumerate"=none)(ha:PA X [l] t)(hs:bT [l] X.env=[(false,eval l X.env)]:=by rfl):
  PI X (.Tuple es kk pp) (.Call (.Name "enumerate" p) [l] [] pos) (BN X.K t):=by
 intro pins s σ H R I h;refine Call_ (iS I hg hm boot_enumerate (cw (thn (ha pos pins s σ H _ I h) fun us s1 ⟨vs,H1,I1,r1,q1⟩=>?_) hs rfl));obtain⟨a,rfl,⟨xs,hq⟩,q⟩:=q1;obtain⟨u,rfl,ru⟩:=r1.one;cases ru;obtain⟨its,rv,pl,hz⟩:=I1.tuple hq;have pl:s1.heap.IsTuple a its.toArray:=pl;refine BX pl fun h' he hl' kp=>?_;refine wpAny_pyIter_enum (s:={s1 with heap:=h'}) he ?_;have I2:Inv X pins σ H1 {s1 with heap:=h',toks:=s1.toks}:=I1.kept kp;refine⟨_,[s1.heap.objs.size+1,s1.heap.objs.size],_,_,H1,rfl,I2,A6 a s1.heap.objs.size (s1.heap.objs.size+1) (Nat.succ_ne_self _),⟨⟨_,he⟩,hl'⟩,fun b hb=>?_,q⟩;have hbs:s1.heap.objs.size<=b:=by
  simp only[av,bB,or_false]at hb;rcases hb with rfl|rfl
  ·exact dP _
  ·exact aA _
 exact I1.yd hbs (I1.hok.fresh hbs)
end
end L2
namespace L2
open PySem PySem.Spec PySem.W PyProof.Rows
noncomputable def exO(e C:Addr)(d:Option Addr):HO:=.ext fun h=>∃x0,h.get? e=some {cls:=.ref C,dict:=d,data:=.fields #[.ref x0,.none,.none,.none,.bool false,.none]}
noncomputable def xdO(d:Addr)(fs:List (Str×V)):HO:=.ext fun h=>∃mA,h.Ns1 d mA/\(∀f,uG (fs.lookup f) (mA f))/\B9 mA (fs.map (·.1))
noncomputable def HV(K:ah)(C f:Addr)(bmB:List Value)(newId:String):Bool:=match K.lookup C with
 |some ⟨.type "type",_,.cls cd,sl⟩=>(match cd.mro,sl.toList with
  |.ref C'::bm,[_,_,_,_,some (.builtin n),_]=>C'==C&&n==newId&& !cd.hasDel&&tailIn K bmB bm&&nsOkIn K cd.ns&&nsIn K cd.ns "__init__"==some (some (.ref f))
  |_,_=>false)
 |_=>false
structure MkX(K:ah)(C f:Addr):Prop where
 ex:HV K C f bmV "ValueError.__new__"=true
 fn:∃o,K.lookup f=some o/\o.cls=.type "function"
 kp:keepIn K (.ref C)=true
end L2
namespace L2
open PySem PySem.Spec PySem.W PyProof.Rows PySem.Builtin PySem.Builtin.ObjectAttr
noncomputable def overX:List Value->Bool
 |.ref _::r=>overX r
 |l=>l==bmV
section
variable {prog:Program}{w:World}{K:ah}{A:Around}{E:Value->Shared->Prop}{s:Shared}{e C:Addr}{name:Str}{v:Value}{vs:Array Value}{Q:Unit->Shared->Prop}
structure StX(K:ah)(C:Addr)(name:Str):Prop where
 hs:findIn K (.ref C) "__setattr__"=some (some (.builtin "object.__setattr__"))
 hp:(clsIn K C).any (fun cd=>overX cd.mro)=true
 ht:takerIn K C name=some none
 hd:(clsIn K C).any (·.hasDict)=true
noncomputable abbrev exObj(C:Addr)(d:Option Addr)(vs:Array Value):Obj:={cls:=.ref C,dict:=d,data:=.fields vs}
end
end L2
namespace L2
open PySem PySem.Spec PySem.W PyProof.Rows
noncomputable def sFldX(K:ah)(ta tv:TE)(f:Str):TS:=fun D σ H=>tv σ H fun y H1=>ta σ H1 fun x H2=>∃a C,x=.ref a/\StX K C f/\
 ((H2 a=some (exO a C none)/\∀dd,H2 dd=none->D.nx σ (upd (upd H2 dd (xdO dd [(f,y)])) a (exO a C (some dd))))\/
  ∃dd fs,H2 a=some (exO a C (some dd))/\H2 dd=some (xdO dd fs)/\fs.length<1000/\D.nx σ (upd H2 dd (xdO dd (putF f y fs))))
structure BsX(K:ah)(B:Addr):Prop where
 ga:specialIn K (.ref B) "__getattribute__"=some (some (.builtin "type.__getattribute__"))
 rd:readsIn K B (.type "type")=true
 fd:findCls K (.ref B) (.type "type") "__init__"=some (.val (.builtin "ValueError.__init__"))
noncomputable def tBase(K:ah)(B:Addr)(t:TA):TE:=fun σ H Q=>BsX K B/\t σ H fun vs H1=>∃a C f us,vs=.ref a::us/\H1 a=some (exO a C none)/\us.length<=sizeLine/\HV K C f bmV "ValueError.__new__"=true/\Q .non H1
noncomputable def del(H:Hp)(a:Addr):Hp:=fun b=>if b=a then none else H b
section
variable {X:Cx}{pins:List (Addr×Obj)}{σ:St}{H:Hp}{s:Shared}
structure NewX(X:Cx)(pins:List (Addr×Obj))(H:Hp)(s:Shared)(a C:Addr)(d:Option Addr):Prop where
 at_:∃x0,s.heap.get? a=some (exObj C d #[.ref x0,.none,.none,.none,.bool false,.none])
 new:X.s₀.heap.get? a=none
 un:H a=none
 pins:∀p∈X.pn++pins,p.1≠a
theorem Em{M:Model}{Q:Unit->Shared->Prop}(I:Inv X pins σ H s)(stk:X.stack=X.env::X.outer)(hf:X.env.frame=some X.env.locals)(n:NewX X pins H s a C d)
  (h:∀s2,Inv X pins σ H s2->Fly X.s₀.heap s2.heap H (X.pn++pins) a (.ref C) d->Q () s2):
  wpAny M X.A (lP (.ref a) X.env) (fun _ s'=>wpAny M X.A (AH (.ref a) none) Q E s') E s:=by
 obtain⟨x0,ht⟩:=n.at_;unfold lP;simp only[hf];refine ae (dg (x:=.none) ht rfl (by rfl) ?_);rw[if_neg (show ¬(bL != bL)=true by simp)];exact enter I stk hf ht rfl (by simp) n.new n.un n.pins h
noncomputable def IV(X:Cx)(E:XS):Prop:=∀(pins:List (Addr×Obj))(σ:St)(H:Hp)(s:Shared)(a C:Addr)(d:Option Addr),Inv X pins σ H s->NewX X pins H s a C d->E σ (.ref C) d H->X.xe (.ref a) s
theorem uF{cd:Value}{outer:List Env}{E:XK}:
  IV (vg (CXx P w) P w K mg base N qual scope f cd A outer s H E) (fun _=>E):=by
 intro pins σ H1 s1 a C d I n q;show wpAny _ _ (leaving _ _) _ _ _;unfold leaving;refine ae (Em I rfl rfl n fun s2 I2 F2=>?_);obtain⟨⟨T,oe,vs,oT,ts,h1,h2,h3,h4,h5,h6,h7,h8,h9,h10,h11,_⟩,b1,b2,_⟩:=F2;exact⟨a,.ref C,d,H1,rfl,I2.os,I2.bare,I2.base,I2.hok,⟨⟨T,oe,vs,oT,ts,h1,h2,h3,h4,h5,h6,h7,h8,h9,h10,h11,fun _ z=>nomatch z⟩,b1,b2,fun _ z=>nomatch z⟩,q⟩
noncomputable def sRaisX(C:Addr)(sp:Sp)(dvs:List V)(E:XS)(t:TA):TS:=fun _ σ H=>t σ H fun vs H1=>vs.length<=sizeLine/\∀a,H1 a=none->
 sp (.ref a::(vs++dvs)) (upd H1 a (exO a C none)) (fun v H2=>v=.non/\∃d,H2 a=some (exO a C d)/\E σ (.ref C) d (del H2 a)) (E σ)
end
noncomputable def fldOk(K:ah)(C:Addr)(f:Str):Bool:=
 excOk K C&&findIn K (.ref C) f==some none&&(match clsIn K C with |some cd=>cd.hasDict|none=>false)
noncomputable def rFld(K:ah)(f:Str):V->Hp->VK->Prop:=fun x H Q=>∃a C dd fs v,x=.ref a/\H a=some (HU a (.ref C) (some dd))/\H dd=some (xdO dd fs)/\fldOk K C f=true/\fs.lookup f=some v/\Q v H
noncomputable def tRepl(ta tb:TE)(i:Nat)(c d:Str)(tr:TA):TA:=fun σ H Q=>ta σ H fun x H1=>tb σ H1 fun y H2=>∃u v z:Str,x=.str u/\y=.str v/\(1<=u.length/\1<=v.length/\u.length+v.length<=sizeLine/\z.length<=1000)/\σ[i]? =some (some (.str z))/\
 tr σ H2 fun xs H3=>Q (.str (u++v)::.str (Txt.replace z c d)::xs) H3
section
variable {X:Cx}{a b:Expr}{es:List Expr}{ta tb:TE}{tr:TA}{i:Nat}{x c d:Str}{p1 np apos cpos p2 p3:Pos}{j1 j2:Nat}
noncomputable def tMkf(K:ah)(C:Addr)(sp:Sp)(dvs:List V)(E:XS)(fl:Str)(t:TA):TE:=fun σ H Q=>t σ H fun vs H1=>vs.length<=sizeLine/\∀a,H1 a=none->
 sp (.ref a::(vs++dvs)) (upd H1 a (exO a C none)) (fun v H2=>v=.non/\∃b dd fs w,V.ref a=.ref b/\H2 b=some (exO b C (some dd))/\H2 dd=some (xdO dd fs)/\fldOk K C fl=true/\fs.lookup fl=some w/\Q w H2) (E σ)
end
noncomputable def rSlW(K:ah):V->Option Int->Option Int->Hp->VK->Prop:=fun x lo hi H Q=>∃a xs,x=.ref a/\SqT K H a xs/\HT.sIx xs.length 0 lo=0/\HT.sIx xs.length xs.length hi=xs.length/\Q (.ref a) H
noncomputable def tMakeS(C:Addr)(sp:Sp)(dvs:List V)(E:XS)(t:TA):TE:=fun σ H Q=>tMake C sp dvs (E σ) t σ H Q
noncomputable def tMethS(C:Addr)(m:Str)(sp:Sp)(dvs:List V)(E:XS)(ta:TE)(t:TA):TE:=fun σ H Q=>tMeth C m sp dvs (E σ) ta t σ H Q
end L2
namespace L2
open PySem PySem.Spec PyProof.Rows
section
variable {X:Cx}{pins:List (Addr×Obj)}{σ:St}{H N:Hp}{s:Shared}{h':Heap}
noncomputable def tLZip(K:ah)(t:TA):TE:=fun σ H Q=>t σ H fun vs H1=>∃a b xs ys,vs=[.ref a,.ref b]/\SqL K H1 a xs/\SqL K H1 b ys/\xs.length<=1000/\∀H' p ws,aO H1 H'->H1 p=none->H' p=some (.lst ws)->ws.length=min xs.length ys.length->
 (∀(j:Nat)(x y:V),xs[j]? =some x->ys[j]? =some y->∃q,ws[j]? =some (.ref q)/\H1 q=none/\H' q=some (.tup [x,y]))->Q (.ref p) H'
end
end L2
namespace Q
open PySem
noncomputable def qG(xs:Array Nat):Prop:=xs.toList.Pairwise (·<·)
structure Parts(xs:Array Nat)(j p:Nat):Prop where
 le:p<=xs.size
 lo:∀i x,i<p->xs[i]? =some x->x<j
 hi:∀i x,p<=i->xs[i]? =some x->j<=x
theorem rR{xs:Array Nat}(h:qG xs){x y:Nat}(hik:i<k)(hx:xs[i]? =some x)(hy:xs[k]? =some y):x<y:=by
 have hx':xs.toList[i]? =some x:=by simpa using hx
 have hy':xs.toList[k]? =some y:=by simpa using hy
 obtain⟨h1,e1⟩:=aH.mp hx';obtain⟨h2,e2⟩:=aH.mp hy';have :=dU.mp h i k h1 h2 hik;rw[e1,e2]at this;exact this
theorem tV{xs:Array Nat}(h:qG xs)(j:Nat):∀(fuel lo hi:Nat),hi-lo<=fuel->lo<=hi->hi<=xs.size->(∀i x,i<lo->xs[i]? =some x->x<j)->(∀i x,hi<=i->xs[i]? =some x->j<=x)->Parts xs j (yH xs j fuel lo hi)
 | 0,lo,hi,hf,hl,hs,a,b=>by
  have e:lo=hi:=by omega
  subst e;exact⟨hs,a,b⟩
 |fuel+1,lo,hi,hf,hl,hs,a,b=>by
  unfold yH;by_cases c:lo<hi
  ·rw[if_pos c]
   have hm:(lo+hi)/2<xs.size:=by omega
   have em:xs[(lo+hi)/2]? =some xs[(lo+hi)/2]:=by simp[hm]
   have eg:xs.getD ((lo+hi)/2) j=xs[(lo+hi)/2]:=by simp[hm]
   simp only[eg];by_cases d:xs[(lo+hi)/2]<j
   ·rw[if_pos d]
    refine tV h j fuel _ hi (by omega) (by omega) hs (fun i x hi' e=>?_) b;by_cases k:i=(lo+hi)/2
    ·subst k
     rw[em]at e;cases e;exact d
    ·exact gK (rR h (by omega) e em) d
   ·rw[if_neg d]
    refine tV h j fuel lo _ (by omega) (by omega) (by omega) a fun i x hi' e=>?_;by_cases k:i=(lo+hi)/2
    ·subst k
     rw[em]at e;cases e;omega
    ·have :=rR h (by omega:(lo+hi)/2<i) em e
     omega
  ·rw[if_neg c]
   have e:lo=hi:=by omega
   subst e;exact⟨hs,a,b⟩
theorem jU{xs:Array Nat}(h:qG xs)(j:Nat):Parts xs j (cO xs j):=
 tV h j xs.size 0 xs.size (by omega) (aX _) (aA _) (fun i x hi _=>absurd hi (fc _)) fun i x hi e=>by
  have :=(dF.mp e).1
  omega
theorem zX{α:Type}(xs:Array α)(p:Nat)(x:α):(p8 xs p x).toList=xs.toList.take p++x::xs.toList.drop p:=by
 unfold p8;simp;exact eL (by simp)
theorem zq{xs:Array Nat}(h:qG xs)(hj:∀i:Nat,xs[i]? ≠some j):qG (p8 xs (cO xs j) j):=by
 have P:=jU h j;unfold qG;rw[zX];have sub:=h;unfold qG at sub;rw[List.pairwise_append];refine⟨sub.sublist (sk _ _),iu.mpr ⟨fun y hy=>?_,sub.sublist (List.drop_sublist _ _)⟩,fun x hx y hy=>?_⟩
 ·obtain⟨i,hi⟩:=cj.mp hy
  rw[kz]at hi;have e:xs[cO xs j+i]? =some y:=by simpa using hi
  have :=P.hi _ _ (bY _ _) e
  have ne:y≠j:=fun z=>hj _ (z▸e);omega
 ·obtain⟨i,hi⟩:=cj.mp hx
  have hip:i<cO xs j:=by
   have :=(aH.mp hi).1
   rw[cR]at this;omega
  rw[lS hip]at hi;have e:xs[i]? =some x:=by simpa using hi
  have lx:=P.lo _ _ hip e;rcases av.mp hy with rfl|hy
  ·exact lx
  ·obtain⟨k,hk⟩:=cj.mp hy
   rw[kz]at hk;have e2:xs[cO xs j+k]? =some y:=by simpa using hk
   have :=P.hi _ _ (bY _ _) e2
   omega
theorem B0{xs:Array Nat}(h:qG xs){x:Nat}(e:xs[i]? =some x):cO xs (x+1)=i+1:=by
 have P:=jU h (x+1);have hi:=(dF.mp e).1;apply yJ
 ·apply gL
  intro c;have hs:i+1<xs.size:=bj c P.le;have e2:xs[i+1]? =some xs[i+1]:=by simp[hs]
  have a:=P.lo _ _ c e2;have b:=rR h (cA i) e e2;omega
 ·apply gL
  intro c;have :=P.hi i x (by omega) e;omega
theorem BZ{xs:Array Nat}(h:qG xs):cO xs 0=0:=by
 have P:=jU h 0;apply yJ _ (aX _);apply gL;intro c;have hs:0<xs.size:=bj c P.le;have :=P.lo 0 xs[0] c (by simp[hs]);omega
theorem E5{xs:Array Nat}(h:qG xs){x:Nat}(e:xs[i]? =some x):cO xs x=i:=by
 have P:=jU h x;apply yJ
 ·apply gL
  intro c;exact eN _ (P.lo i x c e)
 ·apply gL
  intro c;have hs:cO xs x<xs.size:=gK c (dF.mp e).1;have e2:xs[cO xs x]? =some xs[cO xs x]:=by simp[hs]
  have a:=P.hi _ _ (aA _) e2;have b:=rR h c e2 e;omega
theorem Bk(n:Nat):qG (Array.range n):=by
 unfold qG;rw[Array.toList_range];exact DL
structure jF(t:bI):Prop where
 up:qG t.place
 no:t.dummies= #[]
theorem slot_no{t:bI}(T:jF t)(j:Nat):t.slot j≠.dummy:=by
 unfold bI.slot;simp only[T.no];split
 ·simp
 ·split
  ·rename_i h
   exact absurd h (by simp[yP])
  ·simp
theorem DY{t:bI}(T:jF t)(h:t.slot j=.empty):∀i:Nat,t.place[i]? ≠some j:=fun i e=>by
 have :=E5 T.up e
 unfold bI.slot at h;simp only[this,e,beq_self_eq_true,if_true]at h;cases h
theorem vq(t:bI)(p:bI.Probe):(t.advance p).dummy=p.dummy:=by
 unfold bI.advance;split <;>rfl
theorem sX{t:bI}(T:jF t){f:Nat->Int}{h:Int}{d:Option Nat}:∀(fuel:Nat)(p:bI.Probe),p.dummy=none->nj t f h fuel p=some (.empty j d)->t.slot j=.empty/\d=none
 | 0,p,_,e=>by simp[nj]at e
 |fuel+1,p,hp,e=>by
  unfold nj at e;cases hs:t.slot p.j with
  |empty=>
   rw[hs]at e;simp only[jB,bI.Met.empty.injEq]at e;exact⟨by rw[<-e.1];exact hs,by rw[<-e.2];exact hp⟩
  |dummy=>exact absurd hs (slot_no T _)
  |live i=>
   rw[hs]at e;simp only at e;split at e
   ·cases e
   ·exact sX T fuel _ (by rw[vq];exact hp) e
theorem vd{t:bI}(T:jF t){h:Int}{b:Bool}(e:t.freeSlot h=some (j,b)):(∀i:Nat,t.place[i]? ≠some j)/\b=false:=by
 unfold bI.freeSlot at e;split at e
 ·rename_i j' d hm
  unfold bI.probe at hm;obtain⟨h1,h2⟩:=sX T _ _ (by rfl) hm;subst h2;simp only[r9,Fv,jB,Prod.mk.injEq]at e;obtain⟨rfl,rfl⟩:=e;exact⟨DY T h1,rfl⟩
 ·cases e
theorem i3(t:bI)(n:Nat):jF (t.standIn n):=⟨Bk n,rfl⟩
theorem GG{t:bI}(T:jF t)(hj:∀i:Nat,t.place[i]? ≠some j):jF (t.put j).1:=by
 refine⟨zq T.up hj,?_⟩;show(if yP t.dummies j=true then _ else t.dummies)= #[];rw[T.no];simp[yP]
theorem tm{t:bI}(T:jF t)(n:Nat):jF (t.orStandIn n):=by
 unfold DI;split
 ·exact T
 ·exact i3 t n
theorem zT{t:bI}(T:jF t)(es:Array (Int×Value))(h:Int)(x:Value):jF (layNew t es h x).2.1/\(layNew t es h x).2.2.1=false:=by
 unfold layNew;split
 ·rename_i j b e
  obtain⟨h1,h2⟩:=vd T e;subst h2;exact⟨tm (GG T h1) _,rfl⟩
 ·exact⟨i3 t _,rfl⟩
theorem vS{mask finger moves:Nat}{plain:Bool}{hashes:Array Int}{t:bI}{order:Array Nat}(h:bI.laid mask finger moves led plain hashes=some (t,order)):jF t/\t.led=led/\t.plain=plain:=by
 unfold bI.laid at h;cases e:bI.layClean mask hashes with
 |none=>rw[e]at h;cases h
 |some owner=>
  rw[e]at h;have h':some (({mask,place:=(((aw (mask+1)).filterMap fun j=>(owner.getD j none).map (j,·)).map (·.1)).toArray,dummies:= #[],finger,led,moves,plain}:bI),(((aw (mask+1)).filterMap fun j=>(owner.getD j none).map (j,·)).map (·.2)).toArray)=some (t,order):=h;have h2:=(iY (bg h')).1;subst h2;refine⟨⟨?_,rfl⟩,rfl,rfl⟩;show((((aw (mask+1)).filterMap fun j=>(owner.getD j none).map (j,·)).map (·.1)).toArray).toList.Pairwise (·<·);rw[p9,cS,List.pairwise_filterMap];refine DL.imp fun{a b} hab x hx y hy=>?_;cases ha:owner.getD a none with
  |none=>rw[ha]at hx;cases hx
  |some u=>
   cases hb:owner.getD b none with
   |none=>rw[hb]at hy;cases hy
   |some v=>
    rw[ha]at hx;rw[hb]at hy;cases hx;cases hy;exact hab
theorem u6(t:bI)(es:Array (Int×Value))(wanted:Nat):jF (oA t es wanted).2.1:=by
 unfold oA;split
 ·rename_i t' order e
  simp only;split
  ·unfold Jc at e
   exact(vS e).1
  ·exact i3 t _
 ·exact i3 t _
theorem put_led(t:bI)(j:Nat):(t.put j).1.led=t.led:=rfl
theorem vb(t:bI)(n:Nat):(t.orStandIn n).led=t.led:=by
 unfold DI;split <;>rfl
theorem BE(t:bI)(es:Array (Int×Value))(h:Int)(x:Value):(layNew t es h x).2.1.led=t.led:=by
 unfold layNew;split
 ·exact(vb _ _).trans (put_led _ _)
 ·rfl
theorem xu(t:bI)(es:Array (Int×Value))(wanted:Nat):(oA t es wanted).2.1.led=t.led:=by
 unfold oA;split
 ·rename_i t' order e
  simp only;split
  ·unfold Jc at e
   exact(vS e).2.1
  ·rfl
 ·rfl
section
variable {prog:Program}{w:World}{K:Type}[DecidableEq K]{knd:KeyKind prog w K}{A:Around}{E:Value->Shared->Prop}{s:Shared}
noncomputable def pU(knd:KeyKind prog w K)(h:Heap)(a:Addr)(S:K->Bool)(n:Nat)(led:Bool):Prop:=
 ∃o es ep t,h.get? a=some o/\o.ExactSet/\o.data=.set es ep t/\ElemsOf knd es.toList/\(∀k,S k=true↔∃e∈es.toList,knd.is k e.2=true)/\es.size<fR/\t.fits es.size=true/\es.size=n/\jF t/\t.led=led
theorem pU.of{S:K->Bool}(x:pU knd h a S n led):h.SetOf knd a S n:=by
 obtain⟨o,es,ep,t,e1,e2,e3,e4,e5,e6,e7,e8,_⟩:=x;exact⟨o,es,ep,t,e1,e2,e3,e4,e5,e6,e7,e8⟩
theorem sS{o:Obj}{t:bI}(ho:h.get? a=some o)(hx:o.ExactSet)(hd:o.data=.set es ep t){t':bI}{S':K->Bool}(hl:ElemsOf knd es'.toList)(hm:∀k,S' k=true↔∃e∈es'.toList,knd.is k e.2=true)(hb:es'.size<fR)(hf:t'.fits es'.size=true)(ht:jF t'):
  pU knd (h.update a (Obj.putSet es' t')) a S' es'.size t'.led:=by
 have g:=(SetOf_store (knd:=knd) ho hx hd hl hm hb hf).1;exact⟨_,es',ep+1,t',g,hx,rfl,hl,hm,hb,hf,rfl,ht,rfl⟩
theorem AD{g:Bool->Sem Unit}(hg:∀(b:Bool)(s₁:Shared)(Q':Unit->Shared->Prop),Q' () s₁->wpAny (model prog w) A (g b) Q' E s₁){o:Obj}{t:bI}(ho:s.heap.get? a=some o)(hx:o.ExactSet)(hd:o.data=.set es ep t)
  {t2:bI}{S':K->Bool}(hl:ElemsOf knd es1.toList)(hm:∀k',S' k'=true↔∃e∈es1.toList,knd.is k' e.2=true)(hb:es1.size<fR)(hf:t2.fits es1.size=true)(ht:jF t2){wasDummy:Bool}{R:Option Bool->Shared->Prop}
  (h:∀h',dq a s.heap h'->pU knd h' a S' es1.size t2.led->R (some true) {s with heap:=h'}):
  wpAny (model prog w) A (do
    storeSet a es1 t2
    if(!wasDummy&&t2.tooFull)=true then do
      g (oA t2 es1 (fk es1.size)).2.2
      storeSet a (oA t2 es1 (fk es1.size)).1 (oA t2 es1 (fk es1.size)).2.1
      pure (some true)
     else pure (some true)) R E s:=by
 refine ae (wpAny_storeSet_of ho hd ?_ (nh hb));have ho1:=(SetOf_store (knd:=knd) ho hx hd hl hm hb hf).1;have x1:=sS (knd:=knd) ho hx hd hl hm hb hf ht;have sb:=bJ s.heap a (Obj.putSet es1 t2);split
 ·have hp:=relayAll_perm t2 es1 (fk es1.size)
  have hr:=relayAll_fits t2 es1 (fk es1.size);have hT:=u6 t2 es1 (fk es1.size);have hL:=xu t2 es1 (fk es1.size);generalize oA t2 es1 (fk es1.size)=Rl at hp hr hT hL⊢;obtain⟨es2,t3,gave⟩:=Rl;dsimp only at hp hr hT hL⊢;have hz:es2.size=es1.size:=by rw[<-cq,hp.length_eq,cq]
  refine ae (hg _ _ _ (ae (wpAny_storeSet_of ho1 rfl ?_ (nh (by rw[hz];exact hb)))));have x2:=sS (knd:=knd) ho1 hx rfl (hl.perm hp) (fun k'=>(hm k').trans ⟨fun⟨e,he,q⟩=>⟨e,hp.mem_iff.mpr he,q⟩,fun⟨e,he,q⟩=>⟨e,hp.mem_iff.mp he,q⟩⟩) (by rw[hz];exact hb) hr hT;rw[hz,hL]at x2;exact aj (h _ (sb.trans (bJ _ a _)) x2)
 ·exact aj (h _ sb x1)
theorem Bo{t:bI}(T:jF t):jF {t with plain:=false}:=⟨T.up,T.no⟩
theorem addX{S:K->Bool}{k:K}{x:Value}{Q:Bool->Shared->Prop}(hk:knd.is k x=true)(hsc:x.scannable=true)(hS:pU knd s.heap a S n led)(hroom:n+1<fR)
  (h:∀h',dq a s.heap h'->pU knd h' a (fun k'=>S k'||decide (k'=k)) (if S k then n else n+1) led->Q (!S k) {s with heap:=h'}):
  wpAny (model prog w) A (setAddHashed a x (knd.hash k)) Q E s:=by
 obtain⟨o,es,ep,t,ho,hx,hd,hl,hm,hb,hf,hn,ht,he⟩:=hS;have hb1:es.size+1<fR:=by rw[hn];exact hroom
 unfold setAddHashed setAddHashedIn;refine cN (ae (dS ho hd hf ?_));dsimp only;rw[byScan_of hsc hb hl];simp only[↓reduceIte];unfold setAddByScan;refine ae ?_;refine ae (eX (ae (wpAny_setScan_of hk ho hd hf hl ?_)));cases hr:List.findIdx? (fun e=>knd.is k e.2) es.toList with
 |some j=>
  dsimp only;obtain⟨hj,hp,_⟩:=List.findIdx?_eq_some_iff_getElem.mp hr;have hSk:S k=true:=(hm k).mpr ⟨es.toList[j],bx hj,hp⟩;refine aj (aj ?_);have :=h s.heap (dq.refl a s.heap) ⟨o,es,ep,t,ho,hx,hd,hl,fun k'=>by
   rw[cQ,decide_eq_true_eq,<-hm k'];exact⟨fun q=>q.elim id (fun e=>e▸hSk),.inl⟩,hb,hf,by rw[hSk];exact hn,ht,he⟩
  rw[hSk]at this;exact this
 |none=>
  dsimp only;have hSk:S k=false:=by
   cases q:S k with
   |false=>rfl
   |true=>
    obtain⟨e,m1,m2⟩:=(hm k).mp q;have :=List.findIdx?_eq_none_iff.mp hr e m1;rw[m2]at this;cases this
  have hw:∀(b:Bool){s₁:Shared}{Q':Unit->Shared->Prop},Q' () s₁->wpAny (model prog w) A (match b with |true=>rule "set.scan.the-table-gave-way" |false=>pure ()) Q' E s₁:=fun b s₁ Q' q=>by cases b<;>first |exact aj q|exact eX q
  have hp:=layNew_perm t es (knd.hash k) x;have hfit:=layNew_fits t es (knd.hash k) x;have hT:=(zT ht es (knd.hash k) x).1;have hL:=BE t es (knd.hash k) x;generalize layNew t es (knd.hash k) x=L at hp hfit hT hL⊢;obtain⟨es1,t1,wd,gave⟩:=L;dsimp only at hp hfit hT hL⊢;rw[Array.toList_push]at hp;have l1:ElemsOf knd es1.toList:=(hl.push hk hsc).perm hp;have m1:∀k',(S k'||decide (k'=k))=true↔∃e∈es1.toList,knd.is k' e.2=true:=mem_push_iff hk hm hp;have z1:es1.size=n+1:=by rw[<-cq,hp.length_eq,a9,cq,hn];rfl
  have b1:es1.size<fR:=by rw[z1];exact hroom
  refine ae (hw _ ?_);have fin:∀h',dq a s.heap h'->pU knd h' a (fun k'=>S k'||decide (k'=k)) es1.size led->Q true {s with heap:=h'}:=fun h' sb x=>by
   have :=h h' sb
   rw[hSk]at this;rw[z1]at x;exact this x
  split
  ·refine ae ?_
   rw[hashByValue_scannable 8 hsc];refine aj (AD ?_ ho hx hd l1 m1 b1 ?_ ?_ ?_)
   ·intro b s₁ Q' q;cases b<;>first |exact aj q|exact eX q
   ·split
    ·exact hfit
    ·exact bI.fits_plain_off hfit
   ·split
    ·exact hT
    ·exact Bo hT
   ·intro h' sb x
    refine aj (fin h' sb ?_);split at x
    ·rw[hL,he]at x;exact x
    ·have e2:({t1 with plain:=false}:bI).led=led:=hL.trans he
     rw[e2]at x;exact x
  ·refine ae (aj ?_)
   simp only[↓reduceIte];refine AD ?_ ho hx hd l1 m1 b1 hfit hT ?_
   ·intro b s₁ Q' q;cases b<;>first |exact aj q|exact eX q
   ·intro h' sb x
    rw[hL,he]at x;exact aj (fin h' sb x)
end
end Q
set_option maxHeartbeats 3200000
namespace Q
open PySem PySem.Spec PySem.W PyProof.Rows L2
section
variable {prog:Program}{w:World}{A:Around}{R:Result->Shared->Prop}{I:Addr}{fp wr:List Addr}{G:Array yK->Array yK->Prop}{n:Nat}{P:Nat->Value->Prop}{St:Nat->Shared->Prop}
theorem vG(W:WalksS prog w A.in1 I fp wr G n P St)(S:Addr)(hSf:S∉fp)(ks:List Key)(hn:ks.length=n)(hv:∀i v,P i v->∃k,ks[i]? =some k/\RelV (kV k) v)(hb:n+1<fR):
  ∀(m i:Nat)(s:Shared),n-i=m->i<=n->St i s->pU (cH prog w) s.heap S (has (met (ks.take i))) (met (ks.take i)).length led->
   (∀s',Moved (S::wr) G s s'->pU (cH prog w) s'.heap S (has (met ks)) (met ks).length led->R (.ok (.ret .none)) s')->
   hZ (model prog w) A (.builtin "set.update.loop" ⟨[.ref S,.ref I],[]⟩) R s
 | 0,i,s,hm,hi,st,hS,hR=>by
  obtain rfl:i=n:=by omega
  rw[<-hn,d7]at hS;refine di lQ ?_;rw[cz fT _];show wpAny _ A.in1 (pyNext (.ref I)>>=_) _ _ s;refine ae (W.done s _ _ st fun s' mv=>?_);obtain⟨o,es,ep,t,ho,rest⟩:=hS;exact aj (hR s' (mv.mono fun b hb=>aJ _ hb) ⟨o,es,ep,t,mv.heap S _ (fun z=>hSf (W.sub _ z)) ho,rest⟩)
 |m+1,i,s,hm,hi,st,hS,hR=>by
  have hlt:i<n:=by omega
  refine di lQ ?_;rw[cz fT _];show wpAny _ A.in1 (pyNext (.ref I)>>=_) _ _ s;refine ae (W.item i s _ _ hlt st fun v s' hP st' mv=>?_);obtain⟨k,hk,rv⟩:=hv i v hP;have hS1:pU (cH prog w) s'.heap S (has (met (ks.take i))) (met (ks.take i)).length led:=by
   obtain⟨o,es,ep,t,ho,rest⟩:=hS;exact⟨o,es,ep,t,mv.heap S _ (fun z=>hSf (W.sub _ z)) ho,rest⟩
  have hsc:v.scannable=true:=by
   cases k with
   |inl j=>obtain⟨t,rfl⟩:=rv;rfl
   |inr x=>obtain⟨t,rfl⟩:=rv;rfl
  show wpAny _ A.in1 (holding [v] (setAdd S v)>>=_) _ _ s';refine ae (cN ?_);unfold setAdd;refine cN (ae ((cH prog w).pyHash (k:=k) (Hv rv) ?_));have hle:=BA (ks.take i);rw[cR]at hle;refine addX (knd:=cH prog w) (led:=led) (s:={s' with toks:=s'.toks+1}) (Hv rv) hsc hS1 (by omega) fun h' hsb hS2=>?_;have et:ks.take (i+1)=ks.take i++[k]:=by rw[dk,hk];rfl
  have hS3:pU (cH prog w) h' S (has (met (ks.take (i+1)))) (met (ks.take (i+1))).length led:=by
   rw[et,Hi];obtain⟨o,es,ep,t,ho,hex,hd,hel,hmem,hbb,hf,hnn,htt⟩:=hS2;refine⟨o,es,ep,t,ho,hex,hd,hel,fun j=>?_,hbb,hf,by rw[pf];exact hnn,htt⟩;rw[<-hmem j,i7,zN,cQ,i7,decide_eq_true_eq]
  refine aj ⟨dO fT _,vG W S hSf ks hn hv hb m (i+1) _ (by omega) hlt (W.frame _ s' _ _ st' (dP _) fun b hq o e=>?_) hS3 fun s'' mv2 hS4=>?_⟩
  ·rw[hsb.2 b (fun z:b=S=>hSf (by rw[<-z];exact hq))]
   exact e
  ·refine hR s'' (oE W.gtrans ((mv.mono fun b hb=>aJ _ hb).then_heap (dP _) fun b o hq e=>?_) mv2) hS4
   rw[hsb.2 b (fun z:b=S=>hq (by rw[z];exact aB))];exact e
end
section
variable {prog:Program}{w:World}{A:Around}{E:Value->Shared->Prop}{s:Shared}
theorem ET(a:Value)(h:Q₁ (.ref s.heap.objs.size) {s with heap:=s.heap.push (lX (!w.params.followText "set-order"))}):hZ (model prog w) A (.call (.builtin "set.__new__") ⟨[.type "set",a],[]⟩) (wants Q₁ E) s:=by
 refine codeAny_of_tree ?_;show wpAny _ A.in1 (do checkBuiltinCall "set.__new__" ⟨[.type "set",a],[]⟩;again (.builtin "set.__new__" ⟨[.type "set",a],[]⟩)) _ _ s;refine ae (rL (F.newCall_set_1 a) (aj ⟨dO F.plain_set_new _,di F.entry_set_new ?_⟩));rw[cz F.plain_set_new _];unfold Builtin.«set.__new__» Builtin.Frozenset.newClass;have hsub:=sub_set_self;obtain⟨hp,g,d,tk,os⟩:=s;dsimp only;wp_walk;refine dD (aj ?_);dsimp only;simp only[newObj];exact ae (wpAny_alloc (aj (aj h)))
theorem D1{P:Bool->Heap->Prop}{Q:Value->Shared->Prop}(hl:s.heap.IsList l items)
  (hloop:∀(led:Bool)(R:Result->Shared->Prop),(∀s',Moved (s.heap.objs.size::[(s.heap.push (lX led)).objs.size]) (fun a b=>b=a) {s with heap:=(s.heap.push (lX led)).push {cls:=.type "list_iterator",data:=.fields #[.ref l,.int 0 0]}} s'->P led s'.heap->R (.ok (.ret .none)) s')->hZ (model prog w) A.in1.in1 (.builtin "set.update.loop" ⟨[.ref s.heap.objs.size,.ref (s.heap.push (lX led)).objs.size],[]⟩) R {s with heap:=(s.heap.push (lX led)).push {cls:=.type "list_iterator",data:=.fields #[.ref l,.int 0 0]}})
  (h:∀(h':Heap)(tk:Nat),P (!w.params.followText "set-order") h'->(∀b o,b<s.heap.objs.size->s.heap.get? b=some o->h'.get? b=some o)->Q (.ref s.heap.objs.size) {s with heap:=h',toks:=tk}):
  wpAny (model prog w) A (call (.type "set") [.ref l]) Q E s:=by
 have c0:=F.called_set;obtain⟨c,tl,hmro⟩:=c0.mro;have f1:=c0.made;have f2:=c0.sub;have f3:=c0.notType;have f4:=c0.canCreate;have f5:=F.typeCall_set_1 (.ref l);refine wpAny_call (codeAny_of_tree ?_);show wpAny _ _ (callAny (.type "set") _) _ _ _;refine aj ⟨Code.quiet_builtin _ (by decide+kernel),di F.entry_type_call ?_⟩;rw[Around.under_plain (weight_type_call_type "set" [.ref l] []) rfl];repeat(any_goals (first |assumption|wp_step))
 refine lG (ET (.ref l) (E:=E) (Q₁:=fun obj s1=>∃led:Bool,led=(!w.params.followText "set-order")/\obj=.ref s.heap.objs.size/\s1={s with heap:=s.heap.push (lX led)}) ⟨_,rfl,rfl,rfl⟩) fun r s1 hr=>?_;rcases r with e|fl
 ·exact hr
 rcases fl with _|_|_|obj
 ·exact hr.elim
 ·exact hr.elim
 ·exact hr.elim
 obtain⟨led,hled,rfl,rfl⟩:=hr;rw[<-hled]at h;have hS:(s.heap.push (lX led)).get? s.heap.objs.size=some (lX led):=aq _ rfl;have hT:Shared.TypeIs {s with heap:=s.heap.push (lX led)} (.ref s.heap.objs.size) "set":=⟨_,hS,rfl⟩;have f6:=c0.init.lookup;have f7:=c0.init.bind (.ref s.heap.objs.size);repeat(any_goals (first |assumption|wp_step))
 refine lG (codeAny_call_builtin (R:=wants (fun r s2=>r=.none/\∃h' tk,s2={s with heap:=h',toks:=tk}/\P led h'/\
  (∀b o,b<s.heap.objs.size->s.heap.get? b=some o->h'.get? b=some o)) E) c0.init.plain F.entry_set_init (check_set_init_1 hT ?_)) fun r2 s2 hr2=>?_
 ·obtain⟨ol,hol,hcl,nl,hdl⟩:=hl
  obtain⟨oc,od,odt,osl⟩:=ol;obtain rfl:oc=.type "list":=hcl;obtain rfl:odt=.seq items nl:=hdl;have hol':(s.heap.push (lX led)).get? l=some {cls:=.type "list",dict:=od,data:=.seq items nl,slots:=osl}:=ag _ hol;have g1:=F.sub_list_set;have g2:=F.sub_list_frozenset;have g3:(ki "list"==ki "dict")=false:=by decide
  have hl1:(s.heap.push (lX led)).IsList l items:=⟨_,hol',rfl,nl,rfl⟩;unfold Builtin.«set.__init__» noKeywords Builtin.Frozenset.updateFrom;generalize hPI:pyIter=PI
  wp_walk
  subst hPI;refine i9 hl1 (ae (wpAny_runValue ?_));have hlt:l<s.heap.objs.size:=au hol;have hz:(s.heap.push (lX led)).objs.size=s.heap.objs.size+1:=bF _ _;refine hloop led _ fun s' mv hS'=>?_
  ·obtain⟨h',g',d',tk',os'⟩:=s'
   obtain rfl:g'=s.gens:=mv.gens;obtain rfl:d'=s.drawn:=mv.drawn;obtain rfl:os'=s.os:=mv.os;show wpAny _ _ _ _ _ _;refine aj ?_;show wpAny _ _ (ret bL) _ _ _;refine aj ⟨rfl,h',tk',rfl,hS',fun b o hq e=>mv.heap b o (fun z=>?_) (ag _ (ag _ e))⟩;rcases av.mp z with z|z
   ·exact aL hq z
   ·exact aL (bz hq) ((aD.mp z).trans hz)
 ·rcases r2 with e|fl2
  ·exact hr2
  rcases fl2 with _|_|_|v
  ·exact hr2.elim
  ·exact hr2.elim
  ·exact hr2.elim
  obtain⟨rfl,h',tk,rfl,hS',hk'⟩:=hr2;repeat(any_goals (first |assumption|wp_step))
  exact h _ _ hS' hk'
theorem vH{ks:List Key}{Q:Value->Shared->Prop}(hh:A.handled=none)(hl:s.heap.IsList l items)(hk:ks.length=items.size)
  (hv:∀(i:Nat)(v:Value),items[i]? =some v->∃k,ks[i]? =some k/\RelV (kV k) v)(hb:items.size+1<fR)
  (h:∀(h':Heap)(tk:Nat),pU (cH prog w) h' s.heap.objs.size (has (met ks)) (met ks).length (!w.params.followText "set-order")->(∀b o,b<s.heap.objs.size->s.heap.get? b=some o->h'.get? b=some o)->Q (.ref s.heap.objs.size) {s with heap:=h',toks:=tk}):
  wpAny (model prog w) A (call (.type "set") [.ref l]) Q E s:=by
 have hlt:l<s.heap.objs.size:=let⟨_,e,_⟩:=hl;au e;refine D1 (P:=fun led h=>pU (cH prog w) h s.heap.objs.size (has (met ks)) (met ks).length led) hl (fun led R hR=>?_) h;have h3:A.in1.in1.in1.handled=none:=by simp[hh]
 have hz:(s.heap.push (lX led)).objs.size=s.heap.objs.size+1:=bF _ _;have hne:l≠(s.heap.push (lX led)).objs.size:=by rw[hz];exact aL (bz hlt)
 have hnf:s.heap.objs.size∉[(s.heap.push (lX led)).objs.size,l]:=by
  rw[hz];intro z;rcases av.mp z with z|z
  ·exact aL (cA _) z
  ·exact dh hlt (aD.mp z)
 have hS:(s.heap.push (lX led)).get? s.heap.objs.size=some (lX led):=aq _ rfl;refine vG (led:=led) ((Jb h3 _ l hne items).toS) s.heap.objs.size hnf ks hk hv hb (items.size-0) 0 _ (by omega) (aX _) ⟨⟨_,aq _ rfl,rfl,rfl⟩,(hl.push _).push _⟩ ?_ hR;exact⟨lX led,#[],0,_,ag _ hS,⟨rfl,rfl,rfl⟩,rfl,fun e he=>by simp at he,fun k=>by simp[met,has],by decide,by rfl,rfl,⟨nF,rfl⟩,rfl⟩
end
theorem EX(hc:X.calm=true):fg X (.type "set") (rSet X.K):=by
 intro pins s σ H xs us Q I r h;obtain⟨p,ks,rfl,hq,hz,q⟩:=h;obtain⟨u,rfl,rx⟩:=vals1 r;cases rx;obtain⟨its,r',pl,_⟩:=I.list hq;have hlen:=r'.length;rw[ai]at hlen;refine vH (ks:=ks) (I.ok.hd hc) pl.isList (by rw[aG];exact hlen) (fun i v e=>xZ r' i v (by simpa using e)) (by rw[aG,<-hlen];unfold fR;omega) fun h' tk hS kp=>?_;refine⟨.ref s.heap.objs.size,_,I.laid (t':=tk) (fun b o e=>kp b o (au e) e) (aA _) (show dN X.prog X.w _ _ _ (zk _ (met ks).length)from ?_),rfl,q _ (I.hok.fresh (aA _))⟩;obtain⟨o,es,ep,t,ho,hex,hd,hel,hmem,hbb,hf,hn⟩:=hS.of;refine⟨⟨o,es,ep,t,ho,hex,hd,hbb,hf,hn⟩,⟨o,ho⟩,fun h1 h2 z k=>?_⟩;obtain⟨o,es,ep,t,ho,rest⟩:=z;exact⟨o,es,ep,t,k o ho,rest⟩
end Q
set_option maxHeartbeats 1000000
namespace Q
open PySem
theorem iF{α:Type}:∀{l:List α}{i:Nat}(h:i<l.length),(l[i]::l.eraseIdx i).Perm l
 |a::l,0,_=>eJ _
 |a::l,i+1,h=>by
  have hi:i<l.length:=by simpa using h
  have ih:=iF hi;show(l[i]::a::l.eraseIdx i).Perm (a::l);exact(uN _ _ _).trans (ih.cons a)
theorem CK{α:Type}(next :Nat->Nat):∀(fuel k:Nat)(left:List α)(out:Array α),left.length<=fuel->(yE next fuel k left out).toList.Perm (out.toList++left)
 | 0,k,left,out,h=>by
  have e:left=[]:=aV.mp (by omega);subst e;simp[yE]
 |fuel+1,k,left,out,h=>by
  unfold yE;cases left with
  |nil=>simp
  |cons a l=>
   have hi:next k%(a::l).length<(a::l).length:=Nat.mod_lt _ (by simp)
   rw[aa hi];dsimp only;refine(CK next fuel (k+1) _ _ (by rw[yQ hi];simp at h⊢;omega)).trans ?_;rw[Array.toList_push,sv];exact List.Perm.append_left _ (iF hi)
theorem mZ{α:Type}(next :Nat->Nat)(xs:Array α):(hW next xs).toList.Perm xs.toList:=by
 unfold hW;exact(CK next xs.size 0 xs.toList #[] (by simp)).trans (by simp)
section
variable {M:Model}{A:Around}{E:Value->Shared->Prop}
theorem uX{src:Source}{Q:Nat->Shared->Prop}(h:n≠0)(q:∀i d,i<n->Q i {s with drawn:=d}):wpAny M A (choose src n) Q E s:=fun Γ p hΓ=>by
 unfold choose;rw[Sem.wp_choose];exact⟨h,q _ _ (Nat.mod_lt _ (Nat.pos_of_ne_zero h))⟩
theorem vZ{α:Type}:∀(n:Nat)(xs:List α)(s:Shared)(Q:List α->Shared->Prop),xs.length<=n->(∀ys d,ys.Perm xs->Q ys {s with drawn:=d})->wpAny M A (drawOrder n xs) Q E s
 | 0,xs,s,Q,h,q=>by
  have e:xs=[]:=aV.mp (by omega);subst e;unfold drawOrder;exact aj (q [] s.drawn (eJ _))
 |n+1,[],s,Q,h,q=>by
  unfold drawOrder;exact aj (q [] s.drawn (eJ _))
 |n+1,a::l,s,Q,h,q=>by
  unfold drawOrder;refine ae (uX (by simp) fun i d hi=>?_);rw[aa hi];dsimp only;refine ae (vZ n _ _ _ (by rw[yQ hi];simp at h⊢;omega) fun ys d' hy=>aj ?_);exact q _ d' ((hy.cons _).trans (iF hi))
end
end Q
set_option maxHeartbeats 3200000
namespace Q
open PySem PySem.Spec PySem.W PyProof.Rows L2
theorem fB:Slot "set_iterator" "__next__" "set_iterator.__next__":=
 .of (owner:="set_iterator") (n:="__next__") (by rw[typeLookup_type,builtinLookup_eq_fast];kernel_rfl) (by decide+kernel) (by decide+kernel) (by decide+kernel) (by first |exact .inl (by decide+kernel) |exact .inr (by decide+kernel)) (by rw[Ff];kernel_rfl)
theorem nK:entryFor table "set_iterator.__next__"=some Builtin.«set_iterator.__next__»:=entryFor_of_tree (by kernel_rfl)
theorem pR(a:Value):argsOk "set_iterator.__next__" ⟨[a],[]⟩:=by unfold argsOk;kernel_rfl
theorem rJ:entryFor table "set.__iter__"=some Builtin.«frozenset.__iter__»:=entryFor_alias (id':="frozenset.__iter__") (by kernel_rfl) rfl (by decide+kernel) (by kernel_rfl)
noncomputable abbrev siO(S:Addr)(first :Value)(i n ep:Nat):Obj:={cls:=.type "set_iterator",dict:=none,data:=.fields #[first,.int i 0,.ref S,.int n 0,.int ep 0],slots:= #[]}
section
variable {prog:Program}{w:World}{A:Around}{E:Value->Shared->Prop}{s:Shared}
noncomputable def iH(es:Array (Int×Value))(t:bI):Bool:= !t.plain&&es.size>1
theorem oM{o:Obj}{t:bI}{Q:Bool->Shared->Prop}(ho:s.heap.get? a=some o)(hd:o.data=.set es ep t)(hf:t.fits es.size=true)(h:Q (!w.params.followText "set-order"&&iH es t) s):
  wpAny (model prog w) A (setDrawn a) Q E s:=by
 unfold setDrawn lZ;refine ae (dS ho hd hf ?_);dsimp only;refine ae (ae (dD (aj (aj ?_))));exact h
theorem Hx{o:Obj}{t:bI}{Q:Value->Shared->Prop}(ho:s.heap.get? S=some o)(hc:o.cls=.type "set")(hd:o.data=.set es ep t)(hf:t.fits es.size=true)(hsb:es.size<fR)
  (h1:(!w.params.followText "set-order"&&iH es t)=false->Q (.ref s.heap.objs.size) {s with heap:=s.heap.push (siO S (.int 0 0) 0 es.size ep)})
  (h2:(!w.params.followText "set-order"&&iH es t)=true->∀(ps:List Nat)(d:Drawn),ps.Perm (aw es.size)->Q (.ref (s.heap.objs.size+1)) {s with drawn:=d,heap:=(s.heap.push {cls:=.type "tuple",data:=.seq (ps.map fun(i:Nat)=>rawInt i).toArray}).push (siO S (.ref s.heap.objs.size) 0 es.size ep)}):
  wpAny (model prog w) A (pyIter (.ref S)) Q E s:=by
 have hT:s.TypeIs (.ref S) "set":=⟨o,ho,hc⟩;refine wpAny_pyIter_slot hT F.slot_set_iter (cE F.slot_set_iter hT rJ ?_ (F.args_set_iter_1 _));unfold Builtin.«frozenset.__iter__» Builtin.Frozenset.slot0 Builtin.Frozenset.sizeOf
 wp_walk
 have hfc:(t.place.size != es.size||decide (t.fill>t.mask))=false:=by
  simp only[bI.fits,aQ,beq_iff_eq,decide_eq_true_eq]at hf;simp[hf.1,iA.mpr hf.2]
 rw[hd];dsimp only;rw[if_neg (by rw[hfc];decide)];refine aj (aj (aj ?_));refine ae (oM ho hd hf ?_);dsimp only;cases hb:(!w.params.followText "set-order"&&iH es t)with
 |false=>
  rw[if_neg (by decide)];refine ae (aj (ae (wpAny_setEpoch_of ho hd hf ?_)));refine ae (cg (aj ⟨_,rfl,"set_iterator",_,⟨_,aq _ rfl,rfl⟩,fB.lookup,h1 hb⟩))
 |true=>
  rw[if_pos rfl];refine ae (vZ _ _ _ _ (by simp) fun ps d hp=>?_);refine ae (cg ?_ (by show(ps.map fun(i:Nat)=>rawInt i).toArray.size<=sizeLine;rw[aG,ai,hp.length_eq,ba];exact nh hsb));have ho1:(s.heap.push {cls:=.type "tuple",data:=.seq (ps.map fun(i:Nat)=>rawInt i).toArray}).get? S=some o:=ag _ ho;refine ae (wpAny_setEpoch_of (s:={s with drawn:=d,heap:=s.heap.push {cls:=.type "tuple",data:=.seq (ps.map fun(i:Nat)=>rawInt i).toArray}}) ho1 hd hf ?_);have hz:(s.heap.push {cls:=.type "tuple",data:=.seq (ps.map fun(i:Nat)=>rawInt i).toArray}).objs.size=s.heap.objs.size+1:=bF ..;refine ae (cg (aj ⟨_,rfl,"set_iterator",_,⟨_,aq _ rfl,rfl⟩,fB.lookup,?_⟩));have :=h2 hb ps d hp;rw[<-hz]at this;exact this
end
section
variable {prog:Program}{w:World}{A:Around}{E:Value->Shared->Prop}{s:Shared}
structure jW(h:Heap)(S:Addr)(es:Array (Int×Value))(ep:Nat)(t:bI):Prop where
 ob:∃o,h.get? S=some o/\o.cls=.type "set"/\o.data=.set es ep t
 fit:t.fits es.size=true
theorem jk{first :Value}{t:bI}{Q:eE->Shared->Prop}(hi:s.heap.get? I=some (siO S first i es.size ep))(hs:jW s.heap S es ep t)
  (h:wpAny (model prog w) A (match first with
   |.int slot _=>do
    match<-setNext S slot.toNat i ep with
    |some (x,next)=>do
     rN (.ref I) 0 (rawInt next)
     rN (.ref I) 1 (rawInt ((i:Int)+1))
     ret x
    |none=>do
     rN (.ref I) 2 .none
     Fd (<-newExc (.type "StopIteration") [])
   |_=>do
    let some places<-jH first |unsupported "internal:set_iterator"
    match places[i]? with
    |some (.int place _)=>do
     let x<-setNextDrawn S place.toNat ep
     rN (.ref I) 1 (rawInt ((i:Int)+1))
     ret x
    |some _=>unsupported "internal:set_iterator"
    |none=>do
     rN (.ref I) 0 (rawInt 0)
     rN (.ref I) 2 .none
     Fd (<-newExc (.type "StopIteration") [])) Q E s):
  wpAny (model prog w) A (Builtin.«set_iterator.__next__» ⟨[.ref I],[]⟩) Q E s:=by
 obtain⟨⟨o,ho,hc,hd⟩,hf⟩:=hs;unfold Builtin.«set_iterator.__next__»;show wpAny _ _ (fieldsOf (.ref I)>>=_) _ _ _;refine ae (wpAny_fieldsOf hi rfl ?_);dsimp only;refine ae (wpAny_setEntries_of ho hd hf ?_);rw[if_neg (by simp)];exact h
theorem nextA{t:bI}{x:Int×Value}{Q:eE->Shared->Prop}(hw:w.params.followText "set-order"=true)(hi:s.heap.get? I=some (siO S (.int k 0) i es.size ep))(hs:jW s.heap S es ep t)
  (hx:(hW (w.params.setOrder S ep) es)[i]? =some x)(h:∀h',h'.get? I=some (siO S (.int k 0) (i+1) es.size ep)->dq I s.heap h'->Q (.done (.ret x.2)) {s with heap:=h'}):
  wpAny (model prog w) A (Builtin.«set_iterator.__next__» ⟨[.ref I],[]⟩) Q E s:=by
 refine jk hi hs ?_;obtain⟨⟨o,ho,hc,hd⟩,hf⟩:=hs;dsimp only;refine ae ?_;unfold setNext lZ;refine ae (dS ho hd hf ?_);dsimp only;refine ae (ae (dD (aj ?_)));dsimp only;rw[show(model prog w).w.params.followText "set-order"=true from hw];simp only[if_true,bne_self_eq_false,aS,if_false];refine ae ?_;unfold setWalk lZ;refine ae (dS ho hd hf ?_);dsimp only;refine ae (ae (dD (aj ?_)));dsimp only;rw[show(model prog w).w.params.followText "set-order"=true from hw];simp only[if_true];refine ae (dD (aj (aj ?_)));rw[show(hW ({program:=(model prog w).prog,params:=(model prog w).w.params:Setting}.params.setOrder S ep) es)[i]? =some x from hx];simp only[jl,aU];refine ae (bW hi (by simp) fun h1 e1 s1=>?_);have e1:h1.get? I=some (siO S (.int k 0) i es.size ep):=e1;refine ae (bW e1 (by simp) fun h2 e2 s2=>?_);have e2:h2.get? I=some (siO S (.int k 0) (i+1) es.size ep):=e2;exact aj (h h2 e2 (s1.trans s2))
theorem nextB{t:bI}{x:Int×Value}{Q:eE->Shared->Prop}(hw:w.params.followText "set-order"=false)(hdr:iH es t=false)(hled:t.led=true)(hi:s.heap.get? I=some (siO S (.int k 0) i es.size ep))(hs:jW s.heap S es ep t)
  (hk:cO t.place k=i)(hx:es[i]? =some x)(h:∀h' j,t.place[i]? =some j->h'.get? I=some (siO S (.int (j+1:Nat) 0) (i+1) es.size ep)->dq I s.heap h'->Q (.done (.ret x.2)) {s with heap:=h'}):
  wpAny (model prog w) A (Builtin.«set_iterator.__next__» ⟨[.ref I],[]⟩) Q E s:=by
 refine jk hi hs ?_;obtain⟨⟨o,ho,hc,hd⟩,hf⟩:=hs;dsimp only;refine ae ?_;unfold setNext lZ;refine ae (dS ho hd hf ?_);dsimp only;refine ae (ae (dD (aj ?_)));dsimp only;rw[show(model prog w).w.params.followText "set-order"=false from hw];simp only[aS,if_false];have hsz:t.place.size=es.size:=by
  simp only[bI.fits,aQ,beq_iff_eq]at hf;exact hf.1
 have hil:i<es.size:=(dF.mp hx).1;have hj:t.place[i]? =some (t.place[i]'(by omega)):=by simp[show i<t.place.size by omega]
 rw[if_neg (fun z=>by have z':iH es t=true:=z;rw[hdr]at z';cases z')];refine ae (show wpAny _ _ (if(!t.led&& !es.isEmpty)=true then unsupported "set:maker-not-led" else pure ()) _ _ _ from ?_);rw[if_neg (by rw[hled];simp)];refine aj (aj ?_);simp only[aU,hk,hx,hj];refine ae (bW hi (by simp) fun h1 e1 s1=>?_);have e1:h1.get? I=some (siO S (.int (t.place[i]'(by omega)+1:Nat) 0) i es.size ep):=e1;refine ae (bW e1 (by simp) fun h2 e2 s2=>?_);have e2:h2.get? I=some (siO S (.int (t.place[i]'(by omega)+1:Nat) 0) (i+1) es.size ep):=e2;exact aj (h h2 _ hj e2 (s1.trans s2))
theorem nextC{tk:Tok}{t:bI}{ps:Array Value}{oT:Obj}{x:Int×Value}{Q:eE->Shared->Prop}(hi:s.heap.get? I=some (siO S (.ref T) i es.size ep))(hs:jW s.heap S es ep t)
  (hT:s.heap.get? T=some oT)(hTd:oT.data=.seq ps m)(hp:ps[i]? =some (.int p tk))(hx:es[p]? =some x)(h:∀h',h'.get? I=some (siO S (.ref T) (i+1) es.size ep)->dq I s.heap h'->Q (.done (.ret x.2)) {s with heap:=h'}):
  wpAny (model prog w) A (Builtin.«set_iterator.__next__» ⟨[.ref I],[]⟩) Q E s:=by
 refine jk hi hs ?_;obtain⟨⟨o,ho,hc,hd⟩,hf⟩:=hs;dsimp only;refine ae (cF hT hTd ?_);simp only[hp,aU];refine ae ?_;unfold setNextDrawn;refine ae (dS ho hd hf ?_);simp only[bne_self_eq_false,aS,if_false,hx];refine aj ?_;refine ae (bW hi (by simp) fun h2 e2 s2=>?_);have e2:h2.get? I=some (siO S (.ref T) (i+1) es.size ep):=e2;exact aj (h h2 e2 s2)
end
section
variable {prog:Program}{w:World}{A:Around}{E:Value->Shared->Prop}{s:Shared}
theorem nZ{α:Type}{Q:α->Shared->Prop}(hh:A.handled=none)(h:∀h' e,(∀c o,s.heap.get? c=some o->h'.get? c=some o)->(∃o,h'.get? e=some o/\o.cls=.type "StopIteration")->E (.ref e) {s with heap:=h'}):
  wpAny (model prog w) A (newExc (.type "StopIteration") []>>=fun x=>Fd x) Q E s:=by
 refine ae ?_;simp only[newExc,newTuple];refine ae (cg ?_ (by size_fits));refine ae (m:=rP _ _) (rL (a:=bL) (by first |rfl| (simp only[rP];rfl)) ?_);refine cg ?_ (by size_fits);simp only[Fd];refine ae (wpAny_handled ?_);rw[hh];refine ae (aj (wpAny_throw ?_));exact h _ _ (fun c o e=>ag _ (ag _ e)) ⟨_,aq _ rfl,rfl⟩
noncomputable def Ends(E:Value->Shared->Prop)(I:Addr)(s:Shared):Prop:=∀h' e,(∀c o,c≠I->s.heap.get? c=some o->h'.get? c=some o)->(∃o,h'.get? e=some o/\o.cls=.type "StopIteration")->E (.ref e) {s with heap:=h'}
theorem endA{t:bI}{Q:eE->Shared->Prop}(hh:A.handled=none)(hw:w.params.followText "set-order"=true)(hi:s.heap.get? I=some (siO S (.int k 0) es.size es.size ep))(hs:jW s.heap S es ep t)(h:Ends E I s):
  wpAny (model prog w) A (Builtin.«set_iterator.__next__» ⟨[.ref I],[]⟩) Q E s:=by
 have hx:(hW (w.params.setOrder S ep) es)[es.size]? =none:=by
  have :=(mZ (w.params.setOrder S ep) es).length_eq
  simp at this⊢;omega
 refine jk hi hs ?_;obtain⟨⟨o,ho,hc,hd⟩,hf⟩:=hs;dsimp only;refine ae ?_;unfold setNext lZ;refine ae (dS ho hd hf ?_);dsimp only;refine ae (ae (dD (aj ?_)));dsimp only;rw[show(model prog w).w.params.followText "set-order"=true from hw];simp only[if_true,bne_self_eq_false,aS,if_false];refine ae ?_;unfold setWalk lZ;refine ae (dS ho hd hf ?_);dsimp only;refine ae (ae (dD (aj ?_)));dsimp only;rw[show(model prog w).w.params.followText "set-order"=true from hw];simp only[if_true];refine ae (dD (aj (aj ?_)));rw[show(hW ({program:=(model prog w).prog,params:=(model prog w).w.params:Setting}.params.setOrder S ep) es)[es.size]? =none from hx];simp only[Option.map_none];refine ae (bW hi (by simp) fun h1 e1 s1=>?_);exact nZ (s:={s with heap:=h1}) hh fun h' e kp he=>h h' e (fun c o c1 q=>kp c o (s1.extBut c o c1 q)) he
theorem endB{t:bI}{Q:eE->Shared->Prop}(hh:A.handled=none)(hw:w.params.followText "set-order"=false)(hdr:iH es t=false)(hled:t.led=true)(hi:s.heap.get? I=some (siO S (.int k 0) es.size es.size ep))(hs:jW s.heap S es ep t)
  (hk:cO t.place k=es.size)(h:Ends E I s):wpAny (model prog w) A (Builtin.«set_iterator.__next__» ⟨[.ref I],[]⟩) Q E s:=by
 refine jk hi hs ?_;obtain⟨⟨o,ho,hc,hd⟩,hf⟩:=hs;dsimp only;refine ae ?_;unfold setNext lZ;refine ae (dS ho hd hf ?_);dsimp only;refine ae (ae (dD (aj ?_)));dsimp only;rw[show(model prog w).w.params.followText "set-order"=false from hw];simp only[aS,if_false];rw[if_neg (fun z=>by have z':iH es t=true:=z;rw[hdr]at z';cases z')];refine ae (show wpAny _ _ (if(!t.led&& !es.isEmpty)=true then unsupported "set:maker-not-led" else pure ()) _ _ _ from ?_);rw[if_neg (by rw[hled];simp)];refine aj (aj ?_);have hn:es[es.size]? =none:=by simp
 simp only[aU,hk,hn];refine ae (bW hi (by simp) fun h1 e1 s1=>?_);exact nZ (s:={s with heap:=h1}) hh fun h' e kp he=>h h' e (fun c o c1 q=>kp c o (s1.extBut c o c1 q)) he
theorem endC{t:bI}{ps:Array Value}{oT:Obj}{Q:eE->Shared->Prop}(hh:A.handled=none)(hi:s.heap.get? I=some (siO S (.ref T) es.size es.size ep))(hs:jW s.heap S es ep t)(hT:s.heap.get? T=some oT)(hTd:oT.data=.seq ps m)(hp:ps.size=es.size)(h:Ends E I s):
  wpAny (model prog w) A (Builtin.«set_iterator.__next__» ⟨[.ref I],[]⟩) Q E s:=by
 refine jk hi hs ?_;dsimp only;refine ae (cF hT hTd ?_);have hn:ps[es.size]? =none:=by simp;omega
 simp only[hn];refine ae (bW hi (by simp) fun h1 e1 s1=>?_);have e1:h1.get? I=some (siO S (.int 0 0) es.size es.size ep):=e1;refine ae (bW e1 (by simp) fun h2 e2 s2=>?_);exact nZ (s:={s with heap:=h2}) hh fun h' e kp he=>h h' e (fun c o c1 q=>kp c o (s2.extBut c o c1 (s1.extBut c o c1 q))) he
end
theorem oS:Slot "set_iterator" "__iter__" "set_iterator.__iter__":=
 .of (owner:="set_iterator") (n:="__iter__") (by rw[typeLookup_type,builtinLookup_eq_fast];kernel_rfl) (by decide+kernel) (by decide+kernel) (by decide+kernel) (by first |exact .inl (by decide+kernel) |exact .inr (by decide+kernel)) (by rw[Ff];kernel_rfl)
theorem ve:entryFor table "set_iterator.__iter__"=some Builtin.«dict_keyiterator.__iter__»:=
 entryFor_alias (id':="dict_keyiterator.__iter__") (by kernel_rfl) (by first |rfl|decide+kernel) (by decide+kernel) (by kernel_rfl)
theorem yy(a:Value):argsOk "set_iterator.__iter__" ⟨[a],[]⟩:=by unfold argsOk;kernel_rfl
section
variable {prog:Program}{w:World}{A:Around}{E:Value->Shared->Prop}{s:Shared}
theorem xj{Q:Option Value->Shared->Prop}(hT:s.TypeIs (.ref I) "set_iterator")(h:∀(Q':eE->Shared->Prop)(E':Value->Shared->Prop),(∀v h',Q (some v) {s with heap:=h'}->Q' (.done (.ret v)) {s with heap:=h'})->wpAny (model prog w) A.in1 (Builtin.«set_iterator.__next__» ⟨[.ref I],[]⟩) Q' E' s):
  wpAny (model prog w) A (pyNext (.ref I)) Q E s:=by
 unfold pyNext;exact ae (jX (dc (name:=cT "__next__") hT fB (cE fB hT nK (h _ _ fun v h' q=>⟨_,rfl,aj q⟩) (pR _))))
theorem xk{Q:Option Value->Shared->Prop}(hT:s.TypeIs (.ref I) "set_iterator")(h:∀(Q':eE->Shared->Prop)(E':Value->Shared->Prop),(∀h' e,(∀c o,c≠I->s.heap.get? c=some o->h'.get? c=some o)->(∃o,h'.get? e=some o/\o.cls=.type "StopIteration")->E' (.ref e) {s with heap:=h'})->wpAny (model prog w) A.in1 (Builtin.«set_iterator.__next__» ⟨[.ref I],[]⟩) Q' E' s)
  (q:∀h',(∀c o,c≠I->s.heap.get? c=some o->h'.get? c=some o)->Q none {s with heap:=h'}):wpAny (model prog w) A (pyNext (.ref I)) Q E s:=by
 unfold pyNext;refine ae (jX (dc (name:=cT "__next__") hT fB (cE fB hT nK (h _ _ fun h' e kp he=>?_) (pR _))));obtain⟨o,e1,e2⟩:=he;exact ae (hV (T:="StopIteration") (b:=true) ⟨o,e1,e2⟩ Fg (aj (q _ kp)))
theorem xh{Q:Value->Shared->Prop}(hT:s.TypeIs (.ref I) "set_iterator")(h:Q (.ref I) s):wpAny (model prog w) A (pyIter (.ref I)) Q E s:=by
 refine wpAny_pyIter_slot hT oS (cE oS hT ve ?_ (yy _));show wpAny _ _ (ret (.ref I)) _ _ s;exact aj ⟨_,rfl,"set_iterator",_,hT,fB.lookup,h⟩
end
theorem jW.at{t:bI}(x:jW h S es ep t)(k:∀o,h.get? S=some o->h'.get? S=some o):jW h' S es ep t:=let⟨⟨o,a,b,c⟩,f⟩:=x;⟨⟨o,k o a,b,c⟩,f⟩
variable {prog:Program}{w:World}{A:Around}
theorem walkA(hh:A.handled=none)(hw:w.params.followText "set-order"=true)(ne:S≠I)(es:Array (Int×Value))(ep:Nat)(t:bI):
  Walks prog w A I [I,S] [I] es.size (fun i v=>((hW (w.params.setOrder S ep) es).toList.map (·.2))[i]? =some v) (fun i h=>jW h S es ep t/\∃k:Nat,h.get? I=some (siO S (.int k 0) i es.size ep)) where
 sub:=fun b hb=>by simp at hb⊢;exact .inl hb
 frame:=fun i h h' ⟨x,k,e⟩ kp=>⟨x.at fun o q=>kp S (by simp) o q,k,kp I (by simp) _ e⟩
 item:=fun i s Q E hi ⟨x,k,e⟩ hQ=>by
  have hl:=(mZ (w.params.setOrder S ep) es).length_eq;simp only[cq]at hl;have hx:(hW (w.params.setOrder S ep) es)[i]? =some ((hW (w.params.setOrder S ep) es)[i]'(by omega)):=by simp[show i<(hW (w.params.setOrder S ep) es).size by omega]
  refine xj ⟨_,e,rfl⟩ fun Q' E' q=>nextA hw e x hx fun h' e' sb=>q _ h' ?_;exact hQ _ h' s.toks (by simp[hx]) ⟨x.at fun o z=>sb.extBut S o ne z,k,e'⟩ fun b o hb z=>sb.extBut b o (by simpa using hb) z
 done:=fun s Q E ⟨x,k,e⟩ hQ=>xk ⟨_,e,rfl⟩ (fun Q' E' q=>endA (by simp[hh]) hw e x q) fun h' kp=>hQ h' s.toks fun b o hb z=>kp b o (by simpa using hb) z
 self:=fun i s Q E ⟨x,k,e⟩ q=>xh ⟨_,e,rfl⟩ q
theorem walkB(hh:A.handled=none)(hw:w.params.followText "set-order"=false)(ne:S≠I)(es:Array (Int×Value))(ep:Nat)(t:bI)(hd:iH es t=false)(hl:t.led=true)(hT:jF t):
  Walks prog w A I [I,S] [I] es.size (fun i v=>(es.toList.map (·.2))[i]? =some v) (fun i h=>jW h S es ep t/\∃k:Nat,cO t.place k=i/\h.get? I=some (siO S (.int k 0) i es.size ep)) where
 sub:=fun b hb=>by simp at hb⊢;exact .inl hb
 frame:=fun i h h' ⟨x,k,hk,e⟩ kp=>⟨x.at fun o q=>kp S (by simp) o q,k,hk,kp I (by simp) _ e⟩
 item:=fun i s Q E hi ⟨x,k,hk,e⟩ hQ=>by
  have hx:es[i]? =some es[i]:=by simp[hi]
  refine xj ⟨_,e,rfl⟩ fun Q' E' q=>nextB hw hd hl e x hk hx fun h' j hj e' sb=>q _ h' ?_;exact hQ _ h' s.toks (by simp[hx]) ⟨x.at fun o z=>sb.extBut S o ne z,j+1,B0 hT.up hj,e'⟩ fun b o hb z=>sb.extBut b o (by simpa using hb) z
 done:=fun s Q E ⟨x,k,hk,e⟩ hQ=>xk ⟨_,e,rfl⟩ (fun Q' E' q=>endB (by simp[hh]) hw hd hl e x hk q) fun h' kp=>hQ h' s.toks fun b o hb z=>kp b o (by simpa using hb) z
 self:=fun i s Q E ⟨x,k,hk,e⟩ q=>xh ⟨_,e,rfl⟩ q
theorem walkC(hh:A.handled=none)(ne:S≠I)(neT:T≠I)(es:Array (Int×Value))(ep:Nat)(t:bI)(ps:List Nat)(hp:ps.Perm (aw es.size)):
  Walks prog w A I [I,S,T] [I] es.size (fun i v=>(ps.map fun p=>(es.getD p (0,.none)).2)[i]? =some v) (fun i h=>jW h S es ep t/\h.get? T=some {cls:=.type "tuple",data:=.seq (ps.map fun(i:Nat)=>rawInt i).toArray}/\h.get? I=some (siO S (.ref T) i es.size ep)) where
 sub:=fun b hb=>by simp at hb⊢;exact .inl hb
 frame:=fun i h h' ⟨x,z,e⟩ kp=>⟨x.at fun o q=>kp S (by simp) o q,kp T (by simp) _ z,kp I (by simp) _ e⟩
 item:=fun i s Q E hi ⟨x,z,e⟩ hQ=>by
  have hl:ps.length=es.size:=by rw[hp.length_eq,ba]
  have hil:i<ps.length:=by omega
  have hm:ps[i]<es.size:=aM.mp (hp.mem_iff.mp (bx hil));have hx:es[ps[i]]? =some es[ps[i]]:=by simp[hm]
  refine xj ⟨_,e,rfl⟩ fun Q' E' q=>nextC (p:=ps[i]) (tk:=0) e x z rfl (by simp[hil,rawInt]) hx fun h' e' sb=>q _ h' ?_;exact hQ _ h' s.toks (by simp[hil,hm]) ⟨x.at fun o y=>sb.extBut S o ne y,sb.extBut T _ neT z,e'⟩ fun b o hb y=>sb.extBut b o (by simpa using hb) y
 done:=fun s Q E ⟨x,z,e⟩ hQ=>xk ⟨_,e,rfl⟩ (fun Q' E' q=>endC (by simp[hh]) e x z rfl (by simp[hp.length_eq]) q) fun h' kp=>hQ h' s.toks fun b o hb y=>kp b o (by simpa using hb) y
 self:=fun i s Q E ⟨x,z,e⟩ q=>xh ⟨_,e,rfl⟩ q
end Q
namespace Q
open PySem PySem.Spec PySem.W PyProof.Rows L2
section
variable {prog:Program}{w:World}{A:Around}{E:Value->Shared->Prop}{s:Shared}
theorem ite_yes{α:Type}{M:Model}{b:Bool}{x y:Sem α}{Q:α->Shared->Prop}(hb:b=true)(h:wpAny M A x Q E s):wpAny M A (if b=true then x else y) Q E s:=by rw[if_pos hb];exact h
theorem zZ{Q:Bool->Shared->Prop}(hT:s.TypeIs (.ref S) "set")(h:Q false s):wpAny (model prog w) A (qL (.ref S)) Q E s:=by
 unfold qL;refine ae (wpAny_specialOf hT F.slot_set_len.lookup ?_);generalize hid:("set.__len__":String)=id0
 (fail_if_success (clear hid id0))
 wp_delta
 rw[show splitId id0=some ("set","__len__")from by subst hid;decide+kernel];subst hid;refine ae (hV (b:=true) hT (by rw[Ff];kernel_rfl) ?_);rw[if_neg (by decide)];refine ite_yes (by decide+kernel) (ae (wpAny_typeOf hT ?_));exact aj h
noncomputable abbrev iQ(acc:Array Value)(c:Nat):Obj:={cls:=.type "list",dict:=none,data:=.seq acc c,slots:= #[]}
theorem touch{c:Nat}{Q:Unit->Shared->Prop}(hL:s.heap.get? L=some (iQ acc c))(hz:acc.size<=5000)(h:∀h' c',h'.get? L=some (iQ acc c')->dq L s.heap h'->Q () {s with heap:=h'}):wpAny (model prog w) A (kC (.ref L)) Q E s:=by
 have hz1:acc.size<=sizeLine:=aT hz (by decide);unfold kC;refine ae (fI hL rfl ?_ hz1 (by simp;omega));have e1:∃c1,(s.heap.update L (aZ fun x=>x.push bL)).get? L=some (iQ (acc.push .none) c1):=⟨_,by rw[cm _ hL rfl];rfl⟩;obtain⟨c1,e1⟩:=e1;refine fI (s:={s with heap:=s.heap.update L (aZ fun x=>x.push bL)}) e1 rfl ?_ (by simp;exact aT (by omega:acc.size+1<=5001) (by decide)) (by simp;omega);have e2:∃c2,((s.heap.update L (aZ fun x=>x.push bL)).update L (aZ fun x=>x.pop)).get? L=some (iQ acc c2):=⟨_,by rw[cm _ e1 rfl];simp[aZ];rfl⟩;obtain⟨c2,e2⟩:=e2;exact h _ c2 e2 ((bJ ..).trans (bJ ..))
theorem tL{wr:List Addr}{P:Nat->Value->Prop}{St:Nat->Heap->Prop}{res:Value}{c:Nat}{R:Result->Shared->Prop}(hq:∀c' s',c'.quiet=true/\hZ (model prog w) A c' R s'->Qf (.again c') s')(W:Walks prog w A.in1 I fp wr n P St)(hn:n<=sizeLine)(hLf:L∉fp)(hL:s.heap.get? L=some (iQ #[] c))(st:St 0 s.heap)
  (h:∀s' acc c',(∀b o,b∉L::wr->s.heap.get? b=some o->s'.heap.get? b=some o)->s'.gens=s.gens->s'.drawn=s.drawn->s'.os=s.os->s'.heap.get? L=some (iQ acc c')->ItemsOf P acc n->R (.ok (.ret res)) s'):
  wpAny (model prog w) A.in1 (do
   rule "list.extend.makes-room"
   let __r<-kC (.ref L)
   (fun(__r:Unit)=>again (Code.builtin "list.extend.loop" {pos:=[cK L,cK I,res]})) __r) Qf E s:=by
 refine ae (eX (ae (touch hL (by simp) fun h1 c1 e1 sb=>?_)));have st1:=W.frame 0 s.heap h1 st fun b hb o e=>sb.extBut b o (fun z=>hLf (z▸hb)) e;refine aj (hq _ _ ⟨dO F.plain_extend_loop _,codeAny_extend_loopS W.toS hn _ hLf _ n 0 _ _ _ rfl (aX _) st1 e1 (ItemsOf.nil P) fun s' acc' c' hm hS' hacc=>?_⟩);exact h s' acc' c' (fun b o hb e=>hm.heap b o hb (sb.extBut b o (fun z=>hb (by rw[z];exact aB)) e)) hm.gens hm.drawn hm.os hS' hacc
end
theorem BH(h:ItemsOf (fun i v=>vs[i]? =some v) acc vs.length):acc.toList=vs:=by
 obtain⟨h1,h2⟩:=h;apply bR
 ·simpa using h1
 ·intro i a b
  have :vs[i]? =some acc[i]:=h2 i acc[i] (by simp);rw[aa b]at this;simpa using(bg this).symm
theorem es_map(es:Array (Int×Value)):((aw es.size).map fun p=>(es.getD p (0,.none)).2)=es.toList.map (·.2):=by
 apply bR
 ·simp
 ·intro i a b
  have hi:i<es.size:=by simpa using a
  simp[hi]
section
variable {prog:Program}{w:World}{A:Around}{E:Value->Shared->Prop}{s:Shared}
theorem Ag{o:Obj}{t:bI}{Q:List Value->Shared->Prop}(hh:A.handled=none)(ho:s.heap.get? S=some o)(hc:o.cls=.type "set")(hd:o.data=.set es ep t)(hf:t.fits es.size=true)(hsb:es.size<fR)(hT:jF t)(hled:w.params.followText "set-order"=false->t.led=true)
  (hQ:∀(vs:List Value) s',vs.Perm (es.toList.map (·.2))->(∀b o,s.heap.get? b=some o->s'.heap.get? b=some o)->s'.gens=s.gens->s'.os=s.os->s.heap.objs.size<s'.heap.objs.size->Q vs s'):wpAny (model prog w) A (collect (.ref S)) Q E s:=by
 have hSl:S<s.heap.objs.size:=au ho;have hn:es.size<=sizeLine:=nh hsb;unfold collect;refine ae (wpAny_runValue (di F.entry_proto_collect ?_));rw[cz F.plain_proto_collect _];show wpAny _ A.in1 (newList []>>=fun l=>again (.builtin "list.__iadd__" ⟨[l,.ref S],[]⟩)) _ _ s;refine ae (cg ?_);refine aj ⟨dO F.plain_list_iadd _,di F.entry_list_iadd ?_⟩;rw[cz F.plain_list_iadd _];have hL:(s.heap.push (iQ #[] 0)).get? s.heap.objs.size=some (iQ #[] 0):=aq _ rfl;have ho1:(s.heap.push (iQ #[] 0)).get? S=some o:=ag _ ho;have hz:(s.heap.push (iQ #[] 0)).objs.size=s.heap.objs.size+1:=bF ..;have hT1:Shared.TypeIs {s with heap:=s.heap.push (iQ #[] 0)} (.ref S) "set":=⟨o,ho1,hc⟩;show wpAny _ A.in1 (qM (.ref s.heap.objs.size) (.ref S) (.ref s.heap.objs.size)) _ _ {s with heap:=s.heap.push (iQ #[] 0)};unfold qM;refine ae (wpAny_typeOf hT1 ?_);rw[if_neg (by simp[Builtin.List.listSameRef];exact dh hSl)];have fin:∀(vs:List Value)(s':Shared)(acc:Array Value)(c':Nat),vs.length=es.size->vs.Perm (es.toList.map (·.2))->(∀b o,s.heap.get? b=some o->s'.heap.get? b=some o)->s'.gens=s.gens->s'.os=s.os->s'.heap.get? s.heap.objs.size=some (iQ acc c')->ItemsOf (fun i v=>vs[i]? =some v) acc es.size->
   wpAny (model prog w) A (load s.heap.objs.size>>=fun x=>match x.data with |.seq xs _=>pure xs.toList|_=>unsupported "internal:collect") Q E s':=fun vs s' acc c' hl hp k1 k2 k3 e it=>by
  refine ae (wpAny_load e ?_);rw[<-hl]at it;have :=BH it;exact aj (by rw[this];exact hQ vs s' hp k1 k2 k3 (au e))
 refine ae (Hx ho1 hc hd hf hsb (fun hm=>?_) fun hm ps d hp=>?_)
 ·rw[hz]
  refine ae (cN (zZ ⟨o,ag _ ho1,hc⟩ ?_));refine ite_yes (by decide+kernel) ?_;have hI:((s.heap.push (iQ #[] 0)).push (siO S (.int 0 0) 0 es.size ep)).get? (s.heap.objs.size+1)=some (siO S (.int 0 0) 0 es.size ep):=by rw[<-hz];exact aq _ rfl
  have hSA:jW ((s.heap.push (iQ #[] 0)).push (siO S (.int 0 0) 0 es.size ep)) S es ep t:=⟨⟨o,ag _ ho1,hc,hd⟩,hf⟩;have nfp:s.heap.objs.size∉[s.heap.objs.size+1,S]:=by
   simp only[av,bB,or_false,not_or];exact⟨aL (cA _),dh hSl⟩
  have kp:∀(s':Shared),(∀b o,b∉s.heap.objs.size::[s.heap.objs.size+1]->((s.heap.push (iQ #[] 0)).push (siO S (.int 0 0) 0 es.size ep)).get? b=some o->s'.heap.get? b=some o)->∀b o,s.heap.get? b=some o->s'.heap.get? b=some o:=fun s' k b o e=>by
   have hb:=au e;refine k b o ?_ (ag _ (ag _ e));simp only[av,bB,or_false,not_or];exact⟨aL hb,aL (bz hb)⟩
  cases hw:w.params.followText "set-order" with
  |true=>
   have hl:((hW (w.params.setOrder S ep) es).toList.map (·.2)).length=es.size:=by
    have :=(mZ (w.params.setOrder S ep) es).length_eq
    simpa using this
   refine tL (s:={s with heap:=(s.heap.push (iQ #[] 0)).push (siO S (.int 0 0) 0 es.size ep)}) (fun c' s' h=>h) (walkA (A:=A.in1) (by simp[hh]) hw (aL (bz hSl)) es ep t) hn nfp (ag _ hL) ⟨hSA,0,hI⟩ fun s' acc c' k1 k2 k3 k4 e it=>?_;exact fin _ s' acc c' hl ((mZ (w.params.setOrder S ep) es).map _) (kp s' k1) k2 k4 e it
  |false=>
   have hdr:iH es t=false:=by rw[hw]at hm;simpa using hm
   refine tL (s:={s with heap:=(s.heap.push (iQ #[] 0)).push (siO S (.int 0 0) 0 es.size ep)}) (fun c' s' h=>h) (walkB (A:=A.in1) (by simp[hh]) hw (aL (bz hSl)) es ep t hdr (hled hw) hT) hn nfp (ag _ hL) ⟨hSA,0,BZ hT.up,hI⟩ fun s' acc c' k1 k2 k3 k4 e it=>?_;exact fin _ s' acc c' (by simp) (eJ _) (kp s' k1) k2 k4 e it
 ·rw[hz]
  have hz2:((s.heap.push (iQ #[] 0)).push {cls:=.type "tuple",data:=.seq (ps.map fun(i:Nat)=>rawInt i).toArray}).objs.size=s.heap.objs.size+1+1:=by rw[bF,hz]
  have hT2:((s.heap.push (iQ #[] 0)).push {cls:=.type "tuple",data:=.seq (ps.map fun(i:Nat)=>rawInt i).toArray}).get? (s.heap.objs.size+1)=some {cls:=.type "tuple",data:=.seq (ps.map fun(i:Nat)=>rawInt i).toArray}:=by rw[<-hz];exact aq _ rfl
  have ho2:((s.heap.push (iQ #[] 0)).push {cls:=.type "tuple",data:=.seq (ps.map fun(i:Nat)=>rawInt i).toArray}).get? S=some o:=ag _ ho1;have hL2:((s.heap.push (iQ #[] 0)).push {cls:=.type "tuple",data:=.seq (ps.map fun(i:Nat)=>rawInt i).toArray}).get? s.heap.objs.size=some (iQ #[] 0):=ag _ hL;have kp2:∀b o,s.heap.get? b=some o->((s.heap.push (iQ #[] 0)).push {cls:=.type "tuple",data:=.seq (ps.map fun(i:Nat)=>rawInt i).toArray}).get? b=some o:=fun b o e=>ag _ (ag _ e);generalize(s.heap.push (iQ #[] 0)).push {cls:=.type "tuple",data:=.seq (ps.map fun(i:Nat)=>rawInt i).toArray}=h2 at *;refine ae (cN (zZ ⟨o,ag _ ho2,hc⟩ ?_));refine ite_yes (by decide+kernel) ?_;have hI:(h2.push (siO S (.ref (s.heap.objs.size+1)) 0 es.size ep)).get? (s.heap.objs.size+1+1)=some (siO S (.ref (s.heap.objs.size+1)) 0 es.size ep):=by rw[<-hz2];exact aq _ rfl
  have nfp:s.heap.objs.size∉[s.heap.objs.size+1+1,S,s.heap.objs.size+1]:=by
   simp only[av,bB,or_false,not_or];exact⟨aL (bz (cA _)),dh hSl,aL (cA _)⟩
  have hl:(ps.map fun p=>(es.getD p (0,.none)).2).length=es.size:=by rw[ai,hp.length_eq,ba]
  refine tL (s:={s with drawn:=d,heap:=h2.push (siO S (.ref (s.heap.objs.size+1)) 0 es.size ep)}) (fun c' s' h=>h) (walkC (A:=A.in1) (by simp[hh]) (aL (bz (bz hSl))) (aL (cA _)) es ep t ps hp) hn nfp (ag _ hL2)
   ⟨⟨⟨o,ag _ ho2,hc,hd⟩,hf⟩,ag _ hT2,hI⟩ fun s' acc c' k1 k2 k3 k4 e it=>?_
  refine fin _ s' acc c' hl ((hp.map _).trans (by rw[es_map])) (fun b o q=>?_) k2 k4 e it;have hb:=au q;refine k1 b o ?_ (ag _ (kp2 b o q));simp only[av,bB,or_false,not_or];exact⟨aL hb,aL (bz (bz hb))⟩
end
theorem EK{xs:List Value}(p:vs.Perm xs):∀{ks:List Int},ck xs ks->∃ms:List Int,ms.Perm ks/\ck vs ms:=by
 induction p with
 |nil=>intro ks h;exact⟨ks,eJ _,h⟩
 |cons x p ih=>
  intro ks h;cases h with
  |cons k t h=>
   obtain⟨ms,a,b⟩:=ih h;exact⟨k::ms,a.cons k,.cons k t b⟩
 |swap x y l=>
  intro ks h;cases h with
  |cons k t h=>cases h with
   |cons k' t' h=>exact⟨k'::k::_,uN _ _ _,.cons k' t' (.cons k t h)⟩
 |trans p q ih1 ih2=>
  intro ks h;obtain⟨ms,a,b⟩:=ih2 h;obtain⟨ms',a',b'⟩:=ih1 b;exact⟨ms',a'.trans a,b'⟩
section
variable {prog:Program}{w:World}{A:Around}{E:Value->Shared->Prop}{s:Shared}
theorem Be{o:Obj}{t:bI}{ks:List Int}{Q:Value->Shared->Prop}(hh:A.handled=none)(ho:s.heap.get? S=some o)(hc:o.cls=.type "set")(hd:o.data=.set es ep t)(hf:t.fits es.size=true)(h64:es.size<64)(hT:jF t)(hled:w.params.followText "set-order"=false->t.led=true)
  (hk:ck (es.toList.map (·.2)) ks)(nd:ks.Nodup)
  (h:∀(ms:List Int)(vs:List Value)(s':Shared)(l:Addr)(c:Nat),ms.Perm ks->ck vs ms->(∀b o,s.heap.get? b=some o->s'.heap.get? b=some o)->s'.gens=s.gens->s'.os=s.os->s.heap.objs.size<=l->s'.heap.get? l=some (seqObj "list" (fN (ltI ms) vs).toArray c)->Q (.ref l) s'):
  wpAny (model prog w) A (call (.builtin "sorted") [.ref S]) Q E s:=by
 refine lg kind_sorted plain_sorted entry_sorted (args_sorted1 _) ?_;unfold Builtin.«sorted»;refine ae (m:=checkCount "sorted" 1 1 _) (aj (ae (Ag (by simp[hh]) ho hc hd hf (gK h64 (by decide)) hT hled fun vs s' hp kp k2 k3 k4=>ae (ny ?_ ?_))))
 ·obtain⟨ms,m1,m2⟩:=EK hp hk
  have hl:vs.length=ms.length:=m2.length;have hv:vs.length<64:=by
   have :=hp.length_eq
   simp at this;omega
  have hg:(s'.heap.push (seqObj "list" vs.toArray 0)).get? s'.heap.objs.size=some (seqObj "list" vs.toArray 0):=aq _ rfl;have ndm:ms.Nodup:=m1.nodup_iff.mpr nd;show wpAny _ _ _ _ _ {s' with heap:=s'.heap.push (seqObj "list" vs.toArray 0)};refine ae (cN (cE Fb ⟨_,hg,rfl⟩ B8 (Cn (lt:=ltI ms) (h0:=s'.heap) (by rw[hl];exact FQ ndm) hg (fun b o e=>⟨ag _ e,aL (au e)⟩) hv (fun h2=>wG m2 h2) ⟨_,rfl,?_⟩) (args_list_sort _)));refine aj ⟨_,rfl,?_⟩;obtain⟨c,hc'⟩:=sortedHeap_at (out:=(fN (ltI ms) vs).toArray) hg;refine h ms vs _ _ c m1 m2 (fun b o e=>?_) k2 k3 (kj k4) hc';have e':=kp b o e;have hb:=au e';show(sortedHeap (s'.heap.push (seqObj "list" vs.toArray 0)) s'.heap.objs.size vs (fN (ltI ms) vs).toArray).get? b=some o;rw[sortedHeap_old (aL hb) (by rw[Fc];exact bz hb)];exact ag _ e'
 ·have :=hp.length_eq
  simp at this;exact aT (by omega:vs.length<=64) (by decide)
end
theorem xR(ks:List Key):(met ks).Nodup:=by
 unfold met;have g:∀(l acc:List Key),acc.Nodup->(l.foldl more acc).Nodup:=by
  intro l
  induction l with
  |nil=>exact fun _ h=>h
  |cons k l ih=>
   intro acc h;refine ih _ ?_;unfold more;split
   ·exact h
   ·rename_i c
    refine cC.mpr ⟨h,by simp,fun a ha b hb=>?_⟩;rw[aD]at hb;subst hb;intro z;subst z;exact c (i7.mpr ha)
 exact g ks [] gw
theorem vL{α:Type}[DecidableEq α]:∀{m l:List α},m.Nodup->(∀x∈m,x∈l)->l.length=m.length->l.Perm m
 | [],l,_,_,h=>by
  rw[jC]at h;rw[List.eq_nil_of_length_eq_zero h]
 |a::m,l,nd,hs,h=>by
  have ha:a∈l:=hs a aB;have p:=oG ha;rw[cy]at nd;have hl:=p.length_eq;rw[bG]at hl h;have q:=vL (m:=m) (l:=l.erase a) nd.2 (fun x hx=>(oI (fun z:x=a=>nd.1 (by rw[<-z];exact hx))).mpr (hs x (aJ _ hx))) (by omega);exact p.trans (q.cons a)
section
variable {prog:Program}{w:World}
theorem C6{k:Int}{v:Value}(h:(cH prog w).is (.inl k) v=true):∃t,v=.int k t:=by
 rw[Bz]at h;exact Value.isInt_shape (k:=k) (v:=v) h
theorem rV{l:List (Int×Value)}(h:ElemsOf (cH prog w) l)(hi:∀e∈l,∀k,(cH prog w).is k e.2=true->∃n:Int,k=.inl n):∃ms:List Int,ck (l.map (·.2)) ms:=by
 induction l with
 |nil=>exact⟨[],.nil⟩
 |cons e l ih=>
  obtain⟨ms,r⟩:=ih h.tail fun e' he'=>hi e' (aJ _ he');obtain⟨⟨k,hk,_⟩,_⟩:=h.head;obtain⟨n,rfl⟩:=hi e aB k hk;obtain⟨t,e2⟩:=C6 hk;refine⟨n::ms,?_⟩;rw[bA,e2];exact .cons n t r
theorem HA:∀{vs:List Value}{ms:List Int},ck vs ms->∀n,n∈ms↔∃v∈vs,(cH prog w).is (.inl n) v=true:=by
 intro vs ms r
 induction r with
 |nil=>simp
 |cons k t r ih=>
  intro n;rw[av,ih n];constructor
  ·rintro(rfl|⟨v,hv,e⟩)
   ·exact⟨_,aB,mq _ _ _ _⟩
   ·exact⟨v,aJ _ hv,e⟩
  ·rintro⟨v,hv,e⟩
   rcases av.mp hv with rfl|hv
   ·obtain⟨t',e'⟩:=C6 e
    cases e';exact .inl rfl
   ·exact .inr ⟨v,hv,e⟩
theorem D4(x:pU (cH prog w) h a (has (met (ns.map .inl))) (met (ns.map .inl)).length led):
  ∃o es ep t ms,h.get? a=some o/\o.cls=.type "set"/\o.data=.set es ep t/\t.fits es.size=true/\es.size<=ns.length/\jF t/\t.led=led/\ck (es.toList.map (·.2)) ms/\ms.Nodup/\∀n,n∈ms↔n∈ns:=by
 obtain⟨o,es,ep,t,ho,hx,hd,hl,hm,hb,hf,hn,hT,hL⟩:=x;have hle:=BA (ns.map (dX:Int->Key));rw[ai]at hle;have inl:∀e∈es.toList,∀k,(cH prog w).is k e.2=true->∃n:Int,n∈ns/\k=.inl n:=fun e he k hk=>by
  have :=jP.mp (i7.mp ((hm k).mpr ⟨e,he,hk⟩))
  obtain⟨n,hn,rfl⟩:=az.mp this;exact⟨n,hn,rfl⟩
 obtain⟨ms,r⟩:=rV hl fun e he k hk=>let⟨n,_,e⟩:=inl e he k hk;⟨n,e⟩;have mem:∀n,n∈ms↔n∈ns:=fun n=>by
  rw[HA (prog:=prog) (w:=w) r n];constructor
  ·rintro⟨v,hv,e⟩
   obtain⟨e',he',rfl⟩:=az.mp hv;obtain⟨n',hn',z⟩:=inl e' he' _ e;cases z;exact hn'
  ·intro h
   obtain⟨e,he,hk⟩:=(hm (.inl n)).mp (i7.mpr (jP.mpr (qa h)));exact⟨e.2,qa he,hk⟩
 have len:ms.length=es.size:=by
  have :=r.length
  simp at this;omega
 have p:(ms.map (dX:Int->Key)).Perm (met (ns.map .inl)):=vL (xR _) (fun x hx=>by
  obtain⟨n,hn,rfl⟩:=az.mp (jP.mp hx);exact qa ((mem n).mpr hn)) (by rw[ai];omega)
 have nd:(ms.map (dX:Int->Key)).Nodup:=p.nodup_iff.mpr (xR _);exact⟨o,es,ep,t,ms,ho,hx.1,hd,hf,by omega,hT,hL,r,(cS.mp nd).imp fun h z=>h (congrArg _ z),mem⟩
end
end Q
namespace L2
open PySem PySem.Spec PyProof.Rows Q
section
variable {X:Cx}
theorem Inv.same{σ:List (Option V)}(I:Inv X pins σ H s)(h1:s'.heap=s.heap)(h2:s'.gens=s.gens)(h3:s'.os=s.os):Inv X pins σ H s':=by
 obtain⟨h,g,d,t,o⟩:=s;obtain⟨h',g',d',t',o'⟩:=s';obtain rfl:h'=h:=h1;obtain rfl:g'=g:=h2;obtain rfl:o'=o:=h3;exact⟨I.ok,I.os,I.bare,I.base,I.loc,I.cell,I.free,I.freeC,I.pin,I.hok,I.len⟩
noncomputable def yZ(K:ah)(ta:TA):TE:=fun σ H Q=>ta σ H fun vs H1=>∃(p:Addr)(ns:List Int),vs=[V.ref p]/\SqL K H1 p (ns.map V.int)/\ns.length<64/\
 ∀(ms:List Int) l,ms.Nodup->(∀x,x∈ms↔x∈ns)->H1 l=none->Q (.ref l) (upd H1 l (.lst (sortI ms)))
theorem yu:eU "sorted"=some (.builtin "sorted"):=by decide+kernel
theorem E4:eU "set"=some (.type "set"):=by decide+kernel
theorem Bp{a:Expr}{ta:TA}{p:Pos}(hc:X.calm=true)(hg:Gl X "sorted")(hm:X.mg "sorted"=none)(hg':Gl X "set")(hm':X.mg "set"=none)(ha:PA X [a] ta)(hs:bT [a] X.env=[(false,eval a X.env)]:=by rfl):
  PE X (.Call (.Name "sorted" p) [.Call (.Name "set" p') [a] [] pos'] [] pos) (yZ X.K ta):=by
 intro pins s σ H Q I h;refine Call_ (iS I hg hm yu (oF (qK ?_) rfl rfl));refine Call_ (iS I hg' hm' E4 (cw (thn (ha pos' pins s σ H _ I h) fun us s1 ⟨vs,H1,I1,r1,q1⟩=>?_) hs rfl));obtain⟨pl,ns,e,hq,h64,q⟩:=q1;subst e;obtain⟨u,rfl,rx⟩:=vals1 r1;cases rx;obtain⟨its,r',plist,_⟩:=I1.list hq;have hlen:=r'.length;rw[ai]at hlen;have r2:bX ((ns.map (dX:Int->Key)).map kV) its:=by
  rw[aY];exact r'
 refine vH (ks:=ns.map .inl) (I1.ok.hd hc) plist.isList (by rw[aG,ai];exact hlen) (fun i v e=>xZ r2 i v (by simpa using e)) (by rw[aG,<-hlen];unfold fR;omega) fun h' tk hS kp=>?_;obtain⟨o,es,ep,t,ms,ho,hx,hd,hf,hsz,hT,hL,r,nd,mem⟩:=D4 hS;refine aj ?_;refine Be (s:={s1 with heap:=h',toks:=tk}) (I1.ok.hd hc) ho hx hd hf (by omega) hT (fun z=>by rw[hL,z];rfl) r nd fun ms' vs s' l c hp hv kp' k2 k3 k4 k5=>?_;have nd':ms'.Nodup:=hp.nodup_iff.mpr nd;have hlm:ms'.length=es.size:=by
  have a1:=hp.length_eq;have a2:=r.length;simp at a2;omega
 have kk:∀b o,s1.heap.get? b=some o->s'.heap.get? b=some o:=fun b o e=>kp' b o (kp b o (au e) e);have hlt:s1.heap.objs.size<h'.objs.size:=au ho;have hle:s1.heap.objs.size<=l:=aT (kj hlt) k4;have hz2:(sortI ms').length<=sizeLine:=by
  unfold sortI;rw[ai,zE nd'];exact fA (by omega)
 exact⟨.ref l,_,(I1.laid (h':=s'.heap) (t':=s1.toks) kk hle (show dN X.prog X.w _ _ _ (.lst (sortI ms'))from⟨hz2,_,c,outI nd' (qd hv),k5⟩)).same rfl k2 k3,rfl,q _ _ nd' (fun x=>(hp.mem_iff).trans (mem x)) (I1.hok.fresh hle)⟩
end
section
variable {X:Cx}
noncomputable def tSortSetL(K:ah)(ta:TA):TE:=fun σ H Q=>ta σ H fun vs H1=>∃(p:Addr)(ys:List V)(ps:List (List Int))(m:Nat),vs=[V.ref p]/\SqL K H1 p ys/\ps.length<=18/\(∀k∈ps,k.length=m)/\IntKeys H1 ys ps/\
 ∀(zs:List V)(qs:List (List Int)) l,qs.Nodup->(∀x,x∈qs↔x∈ps)->IntKeys H1 zs qs->H1 l=none->Q (.ref l) (upd H1 l (.lst (dy .non qs zs)))
end
set_option maxHeartbeats 1000000
set_option maxHeartbeats 3200000
section
variable {X:Cx}
noncomputable def sortT(ks:List Str):List V:=sortBy .non ks (ks.map V.str)
theorem o5{α:Type}[DecidableEq α]:∀{l m:List α},l.Nodup->(∀x∈l,x∈m)->l.length<=m.length
 | [],_,_,_=>aX _
 |a::l,m,nd,h=>by
  rw[cy]at nd;have ha:=h a aB;have p:=(oG ha).length_eq;have :=o5 (m:=m.erase a) nd.2 fun x hx=>(oI fun z:x=a=>nd.1 (z▸hx)).mpr (h x (aJ _ hx));rw[bG]at p⊢;omega
end
end L2
set_option maxHeartbeats 1000000
namespace PySem
noncomputable def iX(h:Heap)(T:Addr)(a b c:Value):Prop:=h.get? T=some {cls:=.type "tuple",data:=.seq #[a,b,c]}
section
variable {prog:Program}{w:World}{A:Around}{E:Value->Shared->Prop}{s:Shared}
theorem wR{a b c x:Value}{Q:Unit->Shared->Prop}(hT:iX s.heap T a b c)
  (h:∀h',h'.get? T=some {cls:=.type "tuple",data:=.seq ((#[a,b,c]:Array Value).setIfInBounds k x)}->dq T s.heap h'->Q () {s with heap:=h'}):
  wpAny (model prog w) A (AG T (·.setIfInBounds k x)) Q E s:=by
 refine gh hT rfl (h _ ?_ (bJ ..));rw[cm _ hT rfl];simp[aZ]
structure Z3(a b c n k:Nat)(h:Heap)(f:Value):Prop where
 hz:IsZip h (n+5) (n+3) (n+4) f
 hTI:iX h (n+3) (.ref n) (.ref (n+1)) (.ref (n+2))
 hTO:∃u1 u2 u3,iX h (n+4) u1 u2 u3
 h1:h.IsTupleIter n a k
 h2:h.IsTupleIter (n+1) b k
 h3:h.IsTupleIter (n+2) c k
theorem adr{a b:Nat}(h:a≠b): @Ne Addr a b:=h
theorem z3_item{a b c:Nat}{xs ys zs:Array Value}{x y v:Value}{Q:Value->Shared->Prop}(la:a<n)(lb:b<n)(lc:c<n)(st:Z3 a b c n k s.heap .none)(t1:s.heap.IsTuple a xs)(t2:s.heap.IsTuple b ys)(t3:s.heap.IsTuple c zs)(hx:xs[k]? =some x)(hy:ys[k]? =some y)(hv:zs[k]? =some v)
  (q:∀h',Z3 a b c n (k+1) h' (rawInt s.heap.objs.size)->iX h' s.heap.objs.size x y v->(∀d o,d∉[n+5,n+4,n,n+1,n+2]->s.heap.get? d=some o->h'.get? d=some o)->Q (.ref s.heap.objs.size) {s with heap:=h'}):
  wpAny (model prog w) A (Builtin.«zip.__next__» ⟨[.ref (n+5)],[]⟩) (fun fin s'=>∃v,fin=.done (.ret v)/\Q v s') E s:=by
 obtain⟨hz,hTI,⟨u1,u2,u3,hTO⟩,h1,h2,h3⟩:=st;show wpAny _ _ (field (.ref (n+5)) 2>>=_) _ _ _;refine ae (dg hz rfl (x:=.bool false) rfl ?_);show wpAny _ _ (field (.ref (n+5)) 3>>=_) _ _ _;refine ae (dg hz rfl (x:=.ref (n+3)) rfl ?_);refine ae (cF hTI rfl ?_);show wpAny _ _ (d5 (.ref (n+5))>>=_) _ _ _;refine ae ?_;unfold d5;refine ae (dg hz rfl (x:=.none) rfl (aj ?_));simp only[if_true];refine ae (eX (ae (dg hz rfl (x:=.ref (n+4)) rfl ?_)));refine ae (bW hz (by simp) fun ha za sa=>?_);have za:IsZip ha (n+5) (n+3) (n+4) .ellipsis:=za;refine ae ?_;simp only[List.zipIdx_cons,List.zipIdx_nil,nC,kA];refine ae (ae (uO ?_));show wpAny _ _ (cG (.ref n)>>=_) _ _ _;refine ae (oZ (h1.extBut sa.extBut (adr (by omega))) (t1.extBut sa.extBut (adr (by omega))) hx fun hb jb sb=>aj ?_);have ob:iX hb (n+4) u1 u2 u3:=sb.extBut _ _ (adr (by omega)) (sa.extBut _ _ (adr (by omega)) hTO);refine ae (cF ob rfl (ae (wR ob fun hc oc sc=>ae (eH (aj ?_)))));have oc:iX hc (n+4) x u2 u3:=oc;have kc:∀d o,d∉[n+5,n+4,n,n+1,n+2]->s.heap.get? d=some o->hc.get? d=some o:=fun d o hd e=>by
  simp only[av,bB,or_false,not_or]at hd;exact sc.extBut _ _ hd.2.1 (sb.extBut _ _ hd.2.2.1 (sa.extBut _ _ hd.1 e))
 have k2:hc.IsTupleIter (n+1) b k:=((h2.extBut sa.extBut (adr (by omega))).extBut sb.extBut (adr (by omega))).extBut sc.extBut (adr (by omega));have k3:hc.IsTupleIter (n+2) c k:=((h3.extBut sa.extBut (adr (by omega))).extBut sb.extBut (adr (by omega))).extBut sc.extBut (adr (by omega));have kt:∀{d:Nat}{its:Array Value},d<n->s.heap.IsTuple d its->hc.IsTuple d its:=fun{d its} hd t=>((t.extBut sa.extBut (adr (by omega))).extBut sb.extBut (adr (by omega))).extBut sc.extBut (adr (by omega));have zc:IsZip hc (n+5) (n+3) (n+4) .ellipsis:=sc.extBut _ _ (adr (by omega)) (sb.extBut _ _ (adr (by omega)) za);have jc:hc.IsTupleIter n a (k+1):=jb.extBut sc.extBut (adr (by omega));have zs1:hc.objs.size=s.heap.objs.size:=by rw[sc.1,sb.1,sa.1]
 refine ae (ae (uO ?_));show wpAny _ _ (cG (.ref (n+1))>>=_) _ _ _;refine ae (oZ k2 (kt lb t2) hy fun hd jd sd=>aj ?_);have od:iX hd (n+4) x u2 u3:=sd.extBut _ _ (adr (by omega)) oc;refine ae (cF od rfl (ae (wR od fun he oe se=>ae (eH (aj ?_)))));have oe:iX he (n+4) x y u3:=oe;refine ae (ae (uO ?_));show wpAny _ _ (cG (.ref (n+2))>>=_) _ _ _;refine ae (oZ ((k3.extBut sd.extBut (adr (by omega))).extBut se.extBut (adr (by omega))) (((kt lc t3).extBut sd.extBut (adr (by omega))).extBut se.extBut (adr (by omega))) hv fun hf jf sf=>aj ?_);have of:iX hf (n+4) x y u3:=sf.extBut _ _ (adr (by omega)) oe;refine ae (cF of rfl (ae (wR of fun hg og sg=>ae (eH (aj (aj ?_))))));have og:iX hg (n+4) x y v:=og;refine ae (cF og rfl (ae (E8 ?_)));have sz:hg.objs.size=s.heap.objs.size:=by rw[sg.1,sf.1,se.1,sd.1,zs1]
 have zg:IsZip hg (n+5) (n+3) (n+4) .ellipsis:=sg.extBut _ _ (adr (by omega)) (sf.extBut _ _ (adr (by omega)) (se.extBut _ _ (adr (by omega)) (sd.extBut _ _ (adr (by omega)) zc)));have kg:∀d o,d∉[n+5,n+4,n,n+1,n+2]->s.heap.get? d=some o->hg.get? d=some o:=fun d o hd' e=>by
  have e':=kc d o hd' e;simp only[av,bB,or_false,not_or]at hd';exact sg.extBut _ _ hd'.2.1 (sf.extBut _ _ hd'.2.2.2.2 (se.extBut _ _ hd'.2.1 (sd.extBut _ _ hd'.2.2.2.1 e')))
 have j1:hg.IsTupleIter n a (k+1):=(((jc.extBut sd.extBut (adr (by omega))).extBut se.extBut (adr (by omega))).extBut sf.extBut (adr (by omega))).extBut sg.extBut (adr (by omega));have j2:hg.IsTupleIter (n+1) b (k+1):=((jd.extBut se.extBut (adr (by omega))).extBut sf.extBut (adr (by omega))).extBut sg.extBut (adr (by omega));have j3:hg.IsTupleIter (n+2) c (k+1):=jf.extBut sg.extBut (adr (by omega));have zl:n+5<hg.objs.size:=au zg;show wpAny _ _ (kB (.ref (n+5)) (.ref hg.objs.size)>>=_) _ _ _;refine ae ?_;unfold kB;have zf:IsZip (hg.push {cls:=.type "tuple",data:=.seq #[x,y,v]}) (n+5) (n+3) (n+4) .ellipsis:=ag _ zg;refine ae (bW zf (by simp) fun hi zi si=>?_);have zi:IsZip hi (n+5) (n+3) (n+4) (rawInt hg.objs.size):=zi;refine bW zi (by simp) fun hj zj sj=>?_;have zj:IsZip hj (n+5) (n+3) (n+4) (rawInt hg.objs.size):=zj;have up:∀d o,d≠n+5->hg.get? d=some o->hj.get? d=some o:=fun d o c1 e=>sj.extBut _ _ c1 (si.extBut _ _ c1 (ag _ e));have ti:iX hj hg.objs.size x y v:=sj.extBut _ _ (dh zl) (si.extBut _ _ (dh zl) (aq _ rfl));rw[sz]at zj ti;refine aj ⟨_,rfl,?_⟩;show Q (.ref hg.objs.size) _;rw[sz];exact q hj ⟨zj,up _ _ (adr (by omega)) (kg _ _ (by simp only[av,bB,or_false,not_or];exact⟨adr (by omega),adr (by omega),adr (by omega),adr (by omega),adr (by omega)⟩) hTI),⟨_,_,_,up _ _ (adr (by omega)) og⟩,j1.at fun o e=>up _ o (adr (by omega)) e,j2.at fun o e=>up _ o (adr (by omega)) e,j3.at fun o e=>up _ o (adr (by omega)) e⟩ ti fun d o hd' e=>up d o (fun z=>hd' (by simp[z])) (kg d o hd' e)
theorem z3_end{a b c:Nat}{xs:Array Value}{Q:Fin->Shared->Prop}(hh:A.handled=none)(la:a<n)(st:Z3 a b c n k s.heap .none)(t1:s.heap.IsTuple a xs)(hx:xs[k]? =none)
  (q:∀h' e,(∀d o,d∉[n+5,n+4,n,n+1,n+2]->s.heap.get? d=some o->h'.get? d=some o)->(∃o,h'.get? e=some o/\o.cls=.type "StopIteration")->E (.ref e) {s with heap:=h'}):
  wpAny (model prog w) A (Builtin.«zip.__next__» ⟨[.ref (n+5)],[]⟩) Q E s:=by
 obtain⟨hz,hTI,⟨u1,u2,u3,hTO⟩,h1,h2,h3⟩:=st;show wpAny _ _ (field (.ref (n+5)) 2>>=_) _ _ _;refine ae (dg hz rfl (x:=.bool false) rfl ?_);show wpAny _ _ (field (.ref (n+5)) 3>>=_) _ _ _;refine ae (dg hz rfl (x:=.ref (n+3)) rfl ?_);refine ae (cF hTI rfl ?_);show wpAny _ _ (d5 (.ref (n+5))>>=_) _ _ _;refine ae ?_;unfold d5;refine ae (dg hz rfl (x:=.none) rfl (aj ?_));simp only[if_true];refine ae (eX (ae (dg hz rfl (x:=.ref (n+4)) rfl ?_)));refine ae (bW hz (by simp) fun ha za sa=>?_);have za:IsZip ha (n+5) (n+3) (n+4) .ellipsis:=za;refine ae ?_;simp only[List.zipIdx_cons,List.zipIdx_nil,nC,kA];refine ae (ae (uO ?_));show wpAny _ _ (cG (.ref n)>>=_) _ _ _;refine ae (xI hh (h1.extBut sa.extBut (adr (by omega))) (t1.extBut sa.extBut (adr (by omega))) hx fun hb e sb he=>?_);obtain⟨oe,e1,e2⟩:=he;have zb:IsZip hb (n+5) (n+3) (n+4) .ellipsis:=sb _ _ (adr (by omega)) za;have ne:e≠n+5:=fun x=>by subst x;rw[zb]at e1;cases e1;simp at e2
 refine bW zb (by simp) fun hc _ sc=>q hc e (fun d o hd x=>?_) ⟨oe,sc.extBut _ _ ne e1,e2⟩;simp only[av,bB,or_false,not_or]at hd;exact sc.extBut _ _ hd.1 (sb _ _ hd.2.2.1 (sa.extBut _ _ hd.1 x))
theorem GP{a b c:Nat}{xs ys zs:Array Value}{x y v:Value}{Q:Option Value->Shared->Prop}(la:a<n)(lb:b<n)(lc:c<n)(st:Z3 a b c n k s.heap .none)(t1:s.heap.IsTuple a xs)(t2:s.heap.IsTuple b ys)(t3:s.heap.IsTuple c zs)(hx:xs[k]? =some x)(hy:ys[k]? =some y)(hv:zs[k]? =some v)
  (q:∀h',Z3 a b c n (k+1) h' (rawInt s.heap.objs.size)->iX h' s.heap.objs.size x y v->(∀d o,d∉[n+5,n+4,n,n+1,n+2]->s.heap.get? d=some o->h'.get? d=some o)->Q (some (.ref s.heap.objs.size)) {s with heap:=h'}):
  wpAny (model prog w) A (pyNext (.ref (n+5))) Q E s:=by
 have hT:s.TypeIs (.ref (n+5)) "zip":=⟨_,st.hz,rfl⟩;unfold pyNext;exact ae (jX (dc (name:=cT "__next__") hT oJ (cE oJ hT F.entry_zip_next (z3_item la lb lc st t1 t2 t3 hx hy hv fun h' a1 a2 a3=>aj (q h' a1 a2 a3)) (F.args_zip_next_1 _))))
theorem pn3_end{a b c:Nat}{xs:Array Value}{Q:Option Value->Shared->Prop}(hh:A.handled=none)(la:a<n)(st:Z3 a b c n k s.heap .none)(t1:s.heap.IsTuple a xs)(hx:xs[k]? =none)
  (q:∀h',(∀d o,d∉[n+5,n+4,n,n+1,n+2]->s.heap.get? d=some o->h'.get? d=some o)->Q none {s with heap:=h'}):wpAny (model prog w) A (pyNext (.ref (n+5))) Q E s:=by
 have hT:s.TypeIs (.ref (n+5)) "zip":=⟨_,st.hz,rfl⟩;unfold pyNext;refine ae (jX (dc (name:=cT "__next__") hT oJ (cE oJ hT F.entry_zip_next (z3_end hh la st t1 hx fun h' e kp he=>?_) (F.args_zip_next_1 _))));obtain⟨o,e1,e2⟩:=he;exact ae (hV (T:="StopIteration") (b:=true) ⟨o,e1,e2⟩ Fg (aj (q _ kp)))
end
noncomputable abbrev w1(h:Heap)(a:Addr):Heap:=h.push {cls:=.type "tuple_iterator",data:=.fields #[.ref a,.int 0 0]}
noncomputable abbrev w4(h:Heap)(a b c:Addr):Heap:=(w1 (w1 (w1 h a) b) c).push {cls:=.type "tuple",data:=.seq #[.ref h.objs.size,.ref (w1 h a).objs.size,.ref (w1 (w1 h a) b).objs.size]}
noncomputable abbrev w5(h:Heap)(a b c:Addr):Heap:=(w4 h a b c).push {cls:=.type "tuple",data:=.seq #[.none,.none,.none]}
noncomputable abbrev w6(h:Heap)(a b c:Addr):Heap:=(w5 h a b c).push {cls:=.type "zip",data:=.fields #[.none,.bool false,.bool false,.ref (w1 (w1 (w1 h a) b) c).objs.size,.ref (w4 h a b c).objs.size]}
theorem BB(a b c:Addr)(xs ys zs:Array Value):Meets (Builtin.«zip.__new__» ⟨[.type "zip",.ref a,.ref b,.ref c],[]⟩) (fun _ R s=>s.heap.IsTuple a xs/\s.heap.IsTuple b ys/\s.heap.IsTuple c zs/\R (.ok (.ret (.ref (w5 s.heap a b c).objs.size))) {s with heap:=w6 s.heap a b c}):=
 .of_wp fun prog w A R s h=>by
  obtain⟨hp,g,d,tk,os⟩:=s;obtain⟨h1,h2,h3,h⟩:=h;have hsub:=sub_zip;have e1:sA (uH ⟨hp,g,d,tk,os⟩) a xs:=h1;have e2:sA (uH ⟨w1 hp a,g,d,tk,os⟩) b ys:=h2.at fun o e=>ag _ e;have e3:sA (uH ⟨w1 (w1 hp a) b,g,d,tk,os⟩) c zs:=h3.at fun o e=>ag _ (ag _ e)
  wp_walk using eD e1,eD e2,eD e3
  exact⟨_,rfl,h⟩
end PySem
namespace PySem.F
theorem sG(a b c:Value):checkTypeCall "zip" ⟨[a,b,c],[]⟩=pure ():=by kernel_rfl
theorem vc(a b c:Value):checkBuiltinCall "zip.__new__" ⟨[.type "zip",a,b,c],[]⟩=pure ():=by kernel_rfl
theorem ot(a b c d:Value):argsOk "object.__init__" ⟨[a,b,c,d],[]⟩:=by
 unfold argsOk;rw[signature?_of (id:="object.__init__") (n:=['_','_','t','i','n','i','_','_']) (o:=['t','c','e','j','b','o']) (by kernel_rfl) owner_object];kernel_rfl
end PySem.F
namespace PySem
theorem EW{xs ys zs:Array Value}{Q:Value->Shared->Prop}(h1:s.heap.IsTuple a xs)(h2:s.heap.IsTuple b ys)(h3:s.heap.IsTuple c zs)
  (h:∀h',Z3 a b c s.heap.objs.size 0 h' .none->(∀d o,s.heap.get? d=some o->h'.get? d=some o)->Q (.ref (s.heap.objs.size+5)) {s with heap:=h'}):
  wpAny (model prog w) A (call (.type "zip") [.ref a,.ref b,.ref c]) Q E s:=by
 refine callType_new F.called_zip (by decide) (F.sG _ _ _) (F.vc _ _ _) (fun obj=>F.ot obj _ _ _) F.entry_zip_new (BB a b c xs ys zs) ⟨h1,h2,h3,?_⟩;have z1:(w1 s.heap a).objs.size=s.heap.objs.size+1:=bF ..;have z2:(w1 (w1 s.heap a) b).objs.size=s.heap.objs.size+2:=by rw[bF,z1]
 have z3:(w1 (w1 (w1 s.heap a) b) c).objs.size=s.heap.objs.size+3:=by rw[bF,z2]
 have z4:(w4 s.heap a b c).objs.size=s.heap.objs.size+4:=by rw[bF,z3]
 have z5:(w5 s.heap a b c).objs.size=s.heap.objs.size+5:=by rw[bF,z4]
 have g6:(w6 s.heap a b c).get? (w5 s.heap a b c).objs.size=some _:=aq _ rfl;have g5:(w6 s.heap a b c).get? (w4 s.heap a b c).objs.size=some _:=ag _ (aq _ rfl);have g4:(w6 s.heap a b c).get? (w1 (w1 (w1 s.heap a) b) c).objs.size=some _:=ag _ (ag _ (aq _ rfl));have up:∀d o,(w1 (w1 (w1 s.heap a) b) c).get? d=some o->(w6 s.heap a b c).get? d=some o:=fun d o e=>ag _ (ag _ (ag _ e));have g3:(w6 s.heap a b c).get? (w1 (w1 s.heap a) b).objs.size=some _:=up _ _ (aq _ rfl);have g2:(w6 s.heap a b c).get? (w1 s.heap a).objs.size=some _:=up _ _ (ag _ (aq _ rfl));have g1:(w6 s.heap a b c).get? s.heap.objs.size=some _:=up _ _ (ag _ (ag _ (aq _ rfl)));show _/\_;rw[z3,z4,z5]at g6;rw[z4]at g5;rw[z1,z2,z3]at g4;rw[z2]at g3;rw[z1]at g2;rw[z5];exact⟨⟨_,g6,rfl⟩,h _ ⟨g6,g4,⟨_,_,_,g5⟩,⟨_,g1,rfl,rfl⟩,⟨_,g2,rfl,rfl⟩,⟨_,g3,rfl,rfl⟩⟩ fun d o x=>up _ _ (ag _ (ag _ (ag _ x)))⟩
end PySem
namespace L2
open PySem PySem.Spec PyProof.Rows
noncomputable def Itz3(K:ah)(a b c:Addr):It:=
 ⟨fun i H=>∃xs ys zs x y z,SqT K H a xs/\SqT K H b ys/\SqT K H c zs/\xs[i]? =some x/\ys[i]? =some y/\zs[i]? =some z,
  fun i H v H'=>∃p x y z,H p=none/\H'=upd H p (.tup [x,y,z])/\v=.ref p/\(∀xs,SqT K H a xs->xs[i]? =some x)/\(∀ys,SqT K H b ys->ys[i]? =some y)/\∀zs,SqT K H c zs->zs[i]? =some z,
  fun i H=>∃xs,SqT K H a xs/\xs.length<=i⟩
theorem DR{es:List Expr}{kk:Nat}(a b c n:Nat)(la:a<n)(lb:b<n)(lc:c<n):Turn P w K (.Tuple es kk pp) (Itz3 K a b c) [n+5,n+3,n+4,n,n+1,n+2] (n+5) (fun i h=>Z3 a b c n i h .none) where
 mem:=by simp
 obj:=fun i h st d hd=>by
  obtain⟨hz,hTI,⟨u1,u2,u3,hTO⟩,⟨o1,e1,c1,d1⟩,⟨o2,e2,c2,d2⟩,⟨o3,e3,c3,d3⟩⟩:=st;simp only[av,bB,or_false]at hd;rcases hd with rfl|rfl|rfl|rfl|rfl|rfl
  ·exact⟨_,hz,fun v z=>by cases z⟩
  ·exact⟨_,hTI,fun v z=>by cases z⟩
  ·exact⟨_,hTO,fun v z=>by cases z⟩
  ·exact⟨o1,e1,fun v z=>by rw[d1]at z;cases z⟩
  ·exact⟨o2,e2,fun v z=>by rw[d2]at z;cases z⟩
  ·exact⟨o3,e3,fun v z=>by rw[d3]at z;cases z⟩
 keep:=fun i h h' st k=>by
  obtain⟨hz,hTI,⟨u1,u2,u3,hTO⟩,h1,h2,h3⟩:=st;exact⟨k _ (by simp) _ hz,k _ (by simp) _ hTI,⟨u1,u2,u3,k _ (by simp) _ hTO⟩,h1.at fun o q=>k _ (by simp) o q,h2.at fun o q=>k _ (by simp) o q,h3.at fun o q=>k _ (by simp) o q⟩
 item:=by
  intro X hP hw hK hc i pins s σ H E I hf st hg;subst hP hw hK;obtain⟨xs,ys,zs,x,y,z,hq1,hq2,hq3,hx,hy,hz3⟩:=hg;obtain⟨its,rv,pl,_⟩:=I.tuple hq1;obtain⟨its2,rv2,pl2,_⟩:=I.tuple hq2;obtain⟨its3,rv3,pl3,_⟩:=I.tuple hq3;obtain⟨u,hu,ru⟩:=rv.get hx;obtain⟨u2,hu2,ru2⟩:=rv2.get hy;obtain⟨u3,hu3,ru3⟩:=rv3.get hz3;have pl:s.heap.IsTuple a its.toArray:=pl;have pl2:s.heap.IsTuple b its2.toArray:=pl2;have pl3:s.heap.IsTuple c its3.toArray:=pl3;have st0:=st;refine GP la lb lc st pl pl2 pl3 (by simpa using hu) (by simpa using hu2) (by simpa using hu3) fun h' b1 b5 kp=>?_;have hp:H s.heap.objs.size=none:=I.hok.fresh (aA _);have sub4:∀d∈[n+5,n+4,n,n+1,n+2],d∈[n+5,n+3,n+4,n,n+1,n+2]:=fun d hd=>by
   simp only[av,bB,or_false]at hd⊢;rcases hd with h|h|h|h|h<;>simp[h]
  have nn:∀d∈[n+5,n+3,n+4,n,n+1,n+2],∀e v,H e=some v->e≠d:=fun d hd e v q zz=>by rw[zz,(hf d hd).1]at q;cases q
  have I1:Inv X pins σ (upd H s.heap.objs.size (.tup [x,y,z])) {s with heap:=h'}:=by
   refine I.step (g':=s.gens) (d':=s.drawn) (ch:=[n+5,n+4,n,n+1,n+2]) (fun d hd=>?_) (fun d o _ _ hc' q _=>kp d o hc' q)
    (fun d o _ _ hc' q _=>⟨o.slots,kp d o hc' q⟩) (fun d o _ q n=>by rw[a7 (aL (au q))];exact n)
    (fun d o hc' q=>⟨o,kp d o hc' q⟩) (fun d vs q=>by rw[a7 (bH q hp)];exact q) (fun d o v q=>by rw[a7 (bH q hp)];exact q)
    (fun d ps q=>⟨#[],by rw[a7 (bH q hp),q];simp⟩) (fun m hm=>?_) (fun d v q=>?_) I.bare
   ·obtain⟨f0,f1,f2,f3,f4,f5⟩:=hf d (sub4 d hd)
    exact⟨f3,f1,f4,f5⟩
   ·obtain⟨o,es',ep,q,r⟩:=hm
    refine⟨o,es',ep,kp _ o (fun hc=>?_) q,r⟩;exact(hf _ (sub4 _ hc)).2.1 rfl
   ·by_cases hb:d=s.heap.objs.size
    ·subst hb
     rw[ax]at q;cases q;exact⟨by show 3<=sizeLine;decide,[u,u2,u3],.cons ru (.cons ru2 (.cons ru3 .nil)),⟨_,b5,rfl,_,rfl⟩⟩
    ·rw[a7 hb]at q
     refine(I.hok d v q).lW (fun e o hc' q'=>kp e o (fun hd=>?_) q') (fun e q'=>by rw[a7 (bH q' hp)];exact q') fun e vs q'=>by rw[a7 (bH q' hp)];exact q'
     rcases hc' with zz|zz
     ·exact nn e (sub4 e hd) d v q zz.symm
     ·exact nn e (sub4 e hd) e _ zz rfl
  obtain⟨f0,f1,f2,f3,f4,f5⟩:=hf (n+5) (by simp);have fz:(upd H s.heap.objs.size (.tup [x,y,z])) (n+5)=none:=by rw[a7 (aL (au st0.hz))];exact f0
  refine⟨_,rfl,wpAny_letOwnedTupleGo_zip (s:={s with heap:=h'}) b1.hz fun h'' hz'' hs''=>?_⟩;have I2:Inv X pins σ (upd H s.heap.objs.size (.tup [x,y,z])) {s with heap:=h''}:=I1.turned (t':=s.toks) (fun d o hb q=>hs''.extBut d o hb q) fz f1 f3 f4 f5;obtain⟨v1,v2,v3,hTO''⟩:=b1.hTO;refine⟨.ref s.heap.objs.size,_,I2,rfl,⟨_,x,y,z,hp,rfl,rfl,(fun vs hv=>by rw[I.jj hv hq1];exact hx),(fun vs hv=>by rw[I.jj hv hq2];exact hy),(fun vs hv=>by rw[I.jj hv hq3];exact hz3)⟩,
   ⟨hz'',hs''.extBut _ _ (adr (by omega)) b1.hTI,⟨v1,v2,v3,hs''.extBut _ _ (adr (by omega)) hTO''⟩,b1.h1.at fun o q=>hs''.extBut _ o (adr (by omega)) q,b1.h2.at fun o q=>hs''.extBut _ o (adr (by omega)) q,b1.h3.at fun o q=>hs''.extBut _ o (adr (by omega)) q⟩,fun d hd=>?_⟩
  have hlt:d<s.heap.objs.size:=by
   obtain⟨g1,g2,⟨_,_,_,g3⟩,⟨_,g4,_⟩,⟨_,g5,_⟩,⟨_,g6,_⟩⟩:=st0;simp only[av,bB,or_false]at hd;rcases hd with rfl|rfl|rfl|rfl|rfl|rfl
   ·exact au g1
   ·exact au g2
   ·exact au g3
   ·exact au g4
   ·exact au g5
   ·exact au g6
  rw[a7 (aL hlt)];exact(hf d hd).1
 done:=by
  intro X hP hw hK hc i pins s σ H E I hf st hg;subst hP hw hK;obtain⟨xs,hq1,hx⟩:=hg;obtain⟨its,rv,pl,_⟩:=I.tuple hq1;have pl:s.heap.IsTuple a its.toArray:=pl;have l1:=rv.length;refine pn3_end (I.ok.hd hc) la st pl (by simp;omega) fun h' kp=>?_;exact⟨rfl,I.turnedL (ch:=[n+5,n+4,n,n+1,n+2]) (fun d o hc' q=>kp d o hc' q) fun d hc'=>hf d (by
    simp only[av,bB,or_false]at hc'⊢;rcases hc' with h|h|h|h|h<;>simp[h])⟩
 self:=fun _ _ _ _ _ st h=>wpAny_pyIter_zip st.hz h
section
variable {X:Cx}{es:List Expr}{kk:Nat}{pp:Pos}
noncomputable def iZip3(K:ah)(t:TA):TI:=fun σ H R=>t σ H fun vs H1=>∃a b c,vs=[.ref a,.ref b,.ref c]/\(∃xs,SqT K H1 a xs)/\(∃ys,SqT K H1 b ys)/\(∃zs,SqT K H1 c zs)/\R (Itz3 K a b c) H1
theorem pi_zip3{l m r:Expr}{t:TA}{p:Pos}(hg:Gl X "zip")(hm:X.mg "zip"=none)(ha:PA X [l,m,r] t)(hs:bT [l,m,r] X.env=(false,eval l X.env)::bT [m,r] X.env)(hpl:(backTo pos (bT [m,r] X.env)).any (·.1)=false):
  PI X (.Tuple es kk pp) (.Call (.Name "zip" p) [l,m,r] [] pos) (iZip3 X.K t):=by
 intro pins s σ H R I h;refine Call_ (iS I hg hm boot_zip (cw (thn (ha pos pins s σ H _ I h) fun us s1 ⟨vs,H1,I1,r1,q1⟩=>?_) hs hpl));obtain⟨a,b,c,rfl,⟨xs,hq1⟩,⟨ys,hq2⟩,⟨zs,hq3⟩,q⟩:=q1;cases r1 with
 |cons ra r1=>cases r1 with
  |cons rb r1=>cases r1 with
   |cons rc r1=>cases r1 with
    |nil=>
     cases ra;cases rb;cases rc;obtain⟨its,r2,pl,_⟩:=I1.tuple hq1;obtain⟨its2,r3,pl2,_⟩:=I1.tuple hq2;obtain⟨its3,r4,pl3,_⟩:=I1.tuple hq3;have pl:s1.heap.IsTuple a its.toArray:=pl;have pl2:s1.heap.IsTuple b its2.toArray:=pl2;have pl3:s1.heap.IsTuple c its3.toArray:=pl3;have la:a<s1.heap.objs.size:=let⟨_,e,_⟩:=pl;au e;have lb:b<s1.heap.objs.size:=let⟨_,e,_⟩:=pl2;au e;have lc:c<s1.heap.objs.size:=let⟨_,e,_⟩:=pl3;au e;refine EW pl pl2 pl3 fun h' z kp=>?_;refine wpAny_pyIter_zip (s:={s1 with heap:=h'}) z.hz ?_;have I2:Inv X pins σ H1 {s1 with heap:=h',toks:=s1.toks}:=I1.kept kp;refine⟨_,_,_,_,H1,rfl,I2,DR a b c _ la lb lc,z,fun d hd=>?_,q⟩;have hbs:s1.heap.objs.size<=d:=by
      simp only[av,bB,or_false]at hd;rcases hd with rfl|rfl|rfl|rfl|rfl|rfl
      ·exact bY _ _
      ·exact bY _ _
      ·exact bY _ _
      ·exact aA _
      ·exact bY _ _
      ·exact bY _ _
     exact I1.yd hbs (I1.hok.fresh hbs)
end
noncomputable def rLtS:R2:=fun x y H Q=>∃i j,x=.str i/\y=.str j/\Q (.bl (_root_.Q.tlt i j)) H
theorem op_ltS:OpR X (cP .Lt) rLtS:=by
 intro pins s σ H x y v u Q I rx ry h;obtain⟨i,j,rfl,rfl,q⟩:=h;obtain⟨t,rfl⟩:=rx;obtain⟨t',rfl⟩:=ry;exact PyProof.Rows.lt_str (qy I q rfl)
end L2
set_option genInjectivity false
set_option genSizeOf false
namespace R
open PySem PySem.Spec PyProof.Rows L2
inductive Bf where
 |len|isinstance|all|any|list|tuple|sorted|set|sum|int|lend|sorti|sortl|minl|maxl|sortt
 deriving DecidableEq
noncomputable def Bf.name:Bf->Str
 |.len=>"len" |.isinstance=>"isinstance" |.all=>"all" |.any=>"any" |.list=>"list" |.tuple=>"tuple" |.sorted=>"sorted" |.set=>"set" |.sum=>"sum" |.int=>"int" |.lend=>"len" |.sorti=>"sorted" |.sortl=>"sorted" |.minl=>"min" |.maxl=>"max" |.sortt=>"sorted"
noncomputable def Bf.val:Bf->Value
 |.len=>.builtin "len" |.isinstance=>.builtin "isinstance" |.all=>.builtin "all" |.any=>.builtin "any" |.list=>.type "list" |.tuple=>.type "tuple" |.sorted=>.builtin "sorted" |.set=>.type "set" |.sum=>.builtin "sum" |.int=>.type "int" |.lend=>.builtin "len" |.sorti=>.builtin "sorted" |.sortl=>.builtin "sorted" |.minl=>.builtin "min" |.maxl=>.builtin "max" |.sortt=>.builtin "sorted"
theorem Bf.boot:∀b:Bf,eU b.name=some b.val
 |.len=>PySem.boot_len|.isinstance=>boot_isinstance|.all=>boot_all|.any=>boot_any|.list=>ku|.tuple=>uK
 |.sorted=>by decide+kernel|.set=>by decide+kernel|.sum=>by decide+kernel|.int=>vx|.lend=>PySem.boot_len|.sorti=>by decide+kernel|.sortl=>by decide+kernel|.minl=>by decide+kernel|.maxl=>by decide+kernel|.sortt=>by decide+kernel
theorem Bf.plain:∀b:Bf,b.name≠"__name__"/\(b.name==("__debug__":Str))=false:=by
 intro b;cases b<;>exact⟨by decide+kernel,by decide+kernel⟩
inductive Ty where
 |int|bool|str|list|tuple|dict|valueError
 deriving DecidableEq
noncomputable def Ty.name:Ty->Str
 |.int=>"int" |.bool=>"bool" |.str=>"str" |.list=>"list" |.tuple=>"tuple" |.dict=>"dict" |.valueError=>"ValueError"
noncomputable def Ty.t:Ty->String
 |.int=>"int" |.bool=>"bool" |.str=>"str" |.list=>"list" |.tuple=>"tuple" |.dict=>"dict" |.valueError=>"ValueError"
theorem Ty.boot:∀b:Ty,eU b.name=some (.type b.t)
 |.int=>vx|.bool=>PyProof.Rows.boot_bool|.str=>PyProof.Rows.boot_str|.list=>ku|.tuple=>uK|.dict=>PyProof.Rows.boot_dict|.valueError=>by decide+kernel
theorem Ty.plain:∀b:Ty,b.name≠"__name__"/\(b.name==("__debug__":Str))=false:=by
 intro b;cases b<;>exact⟨by decide+kernel,by decide+kernel⟩
noncomputable def i5(K:ah):Operator->R2
 |.Add=>fun x y H Q=>(rI0 fun i j=>.int (i+j)) x y H Q\/(∃i j,x=.str i/\y=.str j/\i.length+j.length<=sizeLine/\Q (.str (i++j)) H)\/rCat x y H Q\/False
 |.Sub=>rI0 fun i j=>.int (i-j)
 |.Mult=>fun x y H Q=>(rI B6 fun i j=>.int (i*j)) x y H Q
 |.Mod=>rI (fun _ j=>0<j) fun i j=>.int (i%j)
 |.FloorDiv=>rI IY fun i j=>.int (i/j)
 |.Pow=>rI E7 fun i j=>.int (i^j.toNat)
 |.RShift=>rI (fun _ j=>0<=j) fun i j=>.int (i/2^j.toNat)
 |.LShift=>rI E7 fun i j=>.int (i*2^j.toNat)
 |.BitAnd=>rI0 fun i j=>.int (iB i j)
 |.BitXor=>rI0 fun i j=>.int (jK i j)
 |_=>fun _ _ _ _=>False
noncomputable def fZ(K:ah):CmpOp->R2
 |.Eq=>rEqD K
 |.NotEq=>rNeD K
 |.Lt=>fun x y H Q=>(rI0 fun i j=>.bl (decide (i<j))) x y H Q\/rLtS x y H Q
 |.LtE=>rI0 fun i j=>.bl (decide (i<=j))
 |.Gt=>rI0 fun i j=>.bl (decide (j<i))
 |.GtE=>rI0 fun i j=>.bl (decide (j<=i))
 |.Is=>fun x y H Q=>y=.non/\Q (.bl (decide (x=.non))) H
 |.IsNot=>fun x y H Q=>y=.non/\Q (.bl (!decide (x=.non))) H
 |.In=>fun x y H Q=>((∃i j,x=.str i/\y=.str j/\Q (.bl (!(gH j i 0 j.length 1).isEmpty)) H)\/rInD K false x y H Q)\/rIn K false x y H Q
 |.NotIn=>fun x y H Q=>((∃i j,x=.str i/\y=.str j/\Q (.bl (!(!(gH j i 0 j.length 1).isEmpty))) H)\/rInD K true x y H Q)\/rIn K true x y H Q
noncomputable def rSlc(K:ah):V->Option Int->Option Int->Hp->VK->Prop:=fun x lo hi H Q=>rSlL K x lo hi H Q\/rSlS x lo hi H Q
noncomputable def rBf(K:ah):Bf->List V->Hp->VK->Prop
 |.len=>fun xs H Q=>(∃p ys,xs=[.ref p]/\(SqL K H p ys\/SqT K H p ys)/\Q (.int ys.length) H)\/(∃z:Str,xs=[.str z]/\z.length<=sizeLine/\Q (.int z.length) H)\/(∃a n,xs=[V.ref a]/\H a=some (_root_.Q.zk a n)/\Q (.int n) H)
 |.isinstance=>fun xs H Q=>(∃x T t b,xs=[x,.ty T]/\lY K H x t/\iy K t (.type T)=some b/\Q (.bl b) H)\/(∃x C t b,xs=[x,.ref C]/\lY K H x t/\iy K t (.ref C)=some b/\Q (.bl b) H)
 |.all=>fun xs H Q=>∃(p:Addr)(bs:List Bool),xs=[.ref p]/\SqL K H p (bs.map V.bl)/\Q (.bl (bs.all id)) H
 |.any=>fun xs H Q=>∃(p:Addr)(bs:List Bool),xs=[.ref p]/\SqL K H p (bs.map V.bl)/\Q (.bl (bs.any id)) H
 |.list=>fun xs H Q=>∃p ys,xs=[.ref p]/\(SqL K H p ys\/SqT K H p ys)/\∀l,H l=none->Q (.ref l) (upd H l (.lst ys))
 |.tuple=>fun xs H Q=>∃p ys,xs=[.ref p]/\((SqL K H p ys/\∀l,H l=none->Q (.ref l) (upd H l (.tup ys)))\/(SqT K H p ys/\Q (.ref p) H))
 |.sorted=>Q.rSort K
 |.set=>Q.rSet K
 |.sum=>fun xs H Q=>∃(p:Addr)(ns:List Int),xs=[.ref p]/\SqL K H p (ns.map V.int)/\Q (.int ns.sum) H
 |.int=>fun xs H Q=>(∃i,xs=[.int i]/\Q (.int i) H)\/∃k,xs=[.bl k]/\Q (.int (if k then 1 else 0)) H
 |.lend=>fun xs H Q=>∃a kvs,xs=[V.ref a]/\H a=some (.dT kvs)/\Q (.int kvs.length) H
 |.sorti=>Q.GC K
 |.sortl=>Q.GB K
 |.sortt=>Q.GA K
 |.minl=>Q.rMinL K
 |.maxl=>Q.rMaxL K
inductive Mm where
 |append|clear|reverse|pop|index|extend
 deriving DecidableEq
noncomputable def Mm.name:Mm->Str
 |.append=>"append" |.clear=>"clear" |.reverse=>"reverse" |.pop=>"pop" |.index=>"index" |.extend=>"extend"
noncomputable def Mm.id:Mm->String
 |.append=>"list.append" |.clear=>"list.clear" |.reverse=>"list.reverse" |.pop=>"list.pop" |.index=>"list.index" |.extend=>"list.extend"
noncomputable def rMm:Mm->V->List V->Hp->VK->Prop
 |.append=>xw
 |.clear=>fun _ _ _ _=>False
 |.reverse=>fun _ _ _ _=>False
 |.pop=>fun x xs H Q=>False\/GD x xs H Q
 |.index=>fun _ _ _ _=>False
 |.extend=>CH
noncomputable def baseOk:Expr->Bool
 |.Name .. =>true|.Subscript .. =>true
 |.Call f _ _ _=>match f with
  |.Attribute .. =>true
  |_=>false
 |_=>false
mutual
inductive CE where
 |var (i:Nat)
 |con (c:Const)
 |glo (x:Str)
 |ty (t:Ty)
 |bin (op:Operator) (a b:CE)
 |cmp (op:CmpOp) (a b:CE)
 |chain (op op':CmpOp) (a b c:CE)
 |not (a:CE)
 |and (a b:CE)
 |or (a b:CE)
 |ite (c a b:CE)
 |idx (a i:CE)
 |cut (a:CE) (lo hi:CO)
 |tup (es:CL)
 |lst (es:CL)
 |call (f:Str) (es:CL)
 |bfn (b:Bf) (es:CL)
 |meth1 (m:Mm) (o a:CE)
 |idxd (a i:CE)
 |dicT
 |setd (o a b:CE)
 |lrng (a:CE)
 |sortset (a:CE)
 |comp (own:List Str) (fr:List Nat) (tg:CG) (it:CI) (cond:CO) (elt:CE)
inductive CL where
 |nil
 |cons (e:CE) (es:CL)
inductive CP where
 |nil
 |cons (k v:CE) (r:CP)
inductive CO where
 |no
 |yes (e:CE)
inductive CG where
 |name (i:Nat)
 |tup (gs:CGs)
inductive CGs where
 |nil
 |cons (g:CG) (gs:CGs)
inductive CI where
 |seq (e:CE)
 |lseq (e:CE)
 |range1 (e:CE)
 |range2 (a b:CE)
 |zip3 (a b c:CE)
 |enumt (e:CE)
end
noncomputable def CL.len:CL->Nat
 |.nil=>0
 |.cons _ r=>r.len+1
noncomputable def CGs.len:CGs->Nat
 |.nil=>0
 |.cons _ r=>r.len+1
mutual
inductive CS where
 |asg (g:CG) (e:CE)
 |asgc (i:Nat) (e:CE)
 |expr (e:CE)
 |iff (c:CE) (a b:CB)
 |forr (g:CG) (it:CI) (b:CB)
 |ret (e:CE)
 |retN
 |pass|brk|cont
inductive CB where
 |nil
 |hole
 |cons (s:CS) (r:CB)
end
noncomputable def Hz(sc:Scope)(x:Str):Bool:=sc.names.lookup x==some .local||sc.names.lookup x==some .cell||sc.names.lookup x==some .free
noncomputable def nu(sc:Scope)(x:Str):Bool:=sc.names.lookup x==some .globalImplicit
noncomputable def zF(x:Str):Bool:=(x==("__debug__":Str))==false&&(x==("__classdict__":Str))==false
noncomputable def okCon:Const->Bool
 |.none=>true|.bool _=>true|.int _=>true|.str _=>true|_=>false
noncomputable def cv:Const->V
 |.none=>.non|.bool b=>.bl b|.int i=>.int i|.str x=>.str x|_=>.non
noncomputable def namesOf(N own:List Str)(fr:List Nat):List Str:=own++fr.map fun j=>N.getD j ""
noncomputable def i4(own:List Str)(fr:List Nat)(σ:L2.St):L2.St:=own.map (fun _=>none)++fr.map fun j=>(σ[j]?).getD none
noncomputable def rW:Expr->Bool
 |.Slice .. =>true
 |_=>false
noncomputable def isSet:Expr->Bool
 |.Set .. =>true
 |_=>false
noncomputable def tS:Expr->Bool
 |.ListComp .. =>true|.SetComp .. =>true|.DictComp .. =>true
 |_=>false
noncomputable def mx:Expr->Bool
 |.Tuple .. =>true
 |_=>false
noncomputable def xH(sc sc':Scope)(N own:List Str)(fr:List Nat):Bool:=
 decide (sc'.kind=.function)&&sc'.names.all (fun y=>decide (y.2=.cell->sc'.names.lookup y.1=some .cell))&&sc'.names.all (fun y=>decide (y.2=.local->sc'.names.lookup y.1=some .local))&&
 sc'.names.all (fun y=>decide (y.2=.free->sc.names.lookup y.1=some .cell\/sc.names.lookup y.1=some .free))&&decide ((namesOf N own fr).Nodup)&&
 fr.all (fun j=>decide (j<N.length)&&sc'.names.lookup (N.getD j "")==some .free)&&own.all (fun x=>sc'.names.lookup x==some .local||sc'.names.lookup x==some .cell)
theorem dQ{P:Prop}(h:false=true):P:=(aE h).elim
theorem an{a b:Bool}(h:(a&&b)=true):a=true/\b=true:=by rwa [aQ]at h
theorem rG{a:Bool}(h:(!a)=true):a=false:=by simpa using h
theorem i8{a b c:Bool}(h:(a&&b&&c)=true):a=true/\b=true/\c=true:=let⟨h,z⟩:=an h;let⟨x,y⟩:=an h;⟨x,y,z⟩
theorem ou{a b c d:Bool}(h:(a&&b&&c&&d)=true):a=true/\b=true/\c=true/\d=true:=let⟨h,z⟩:=an h;let⟨x,y,w⟩:=i8 h;⟨x,y,w,z⟩
theorem and5{a b c d e:Bool}(h:(a&&b&&c&&d&&e)=true):a=true/\b=true/\c=true/\d=true/\e=true:=let⟨h,z⟩:=an h;let⟨x,y,w,v⟩:=ou h;⟨x,y,w,v,z⟩
section
variable {e:Expr}{s:Stmt}
noncomputable def l1{α:Type}(l:List α)(f:α->Bool):Bool:=match l with
 |a::r=>r.isEmpty&&f a
 | []=>false
theorem kI{α:Type}{l:List α}{f:α->Bool}(h:l1 l f=true):∃a,l=[a]/\f a=true:=by
 cases l with
 |nil=>exact dQ h
 |cons a r=>
  obtain⟨h1,h⟩:=an h;cases r with
  |nil=>exact⟨a,rfl,h⟩
  |cons=>exact dQ h1
noncomputable def l2{α:Type}(l:List α)(f:α->α->Bool):Bool:=match l with
 |a::r=>l1 r (f a)
 | []=>false
theorem tN{α:Type}{l:List α}{f:α->α->Bool}(h:l2 l f=true):∃a b,l=[a,b]/\f a b=true:=by
 cases l with
 |nil=>exact dQ h
 |cons a r=>
  obtain⟨b,rfl,h⟩:=kI h;exact⟨a,b,rfl,h⟩
noncomputable def dNm(e:Expr)(f:Str->Pos->Bool):Bool:=match e with
 |.Name x p=>f x p
 |_=>false
theorem lz{f}(h:dNm e f=true):∃x p,e=.Name x p/\f x p=true:=by cases e<;>first |exact⟨_,_,rfl,h⟩ |exact dQ h
noncomputable def dCn(e:Expr)(f:Const->Bool):Bool:=match e with
 |.Constant c _ _=>f c
 |_=>false
theorem Im{f}(h:dCn e f=true):∃c j p,e=.Constant c j p/\f c=true:=by cases e<;>first |exact⟨_,_,_,rfl,h⟩ |exact dQ h
noncomputable def dBi(e:Expr)(f:Expr->Operator->Expr->Bool):Bool:=match e with
 |.BinOp a op b _=>f a op b
 |_=>false
theorem dBi_of{f}(h:dBi e f=true):∃a op b p,e=.BinOp a op b p/\f a op b=true:=by cases e<;>first |exact⟨_,_,_,_,rfl,h⟩ |exact dQ h
noncomputable def dUn(e:Expr)(f:UnaryOp->Expr->Bool):Bool:=match e with
 |.UnaryOp op a _=>f op a
 |_=>false
theorem Ih{f}(h:dUn e f=true):∃op a p,e=.UnaryOp op a p/\f op a=true:=by cases e<;>first |exact⟨_,_,_,rfl,h⟩ |exact dQ h
noncomputable def dCm(e:Expr)(f:Expr->List CmpOp->List Expr->Bool):Bool:=match e with
 |.Compare a os es _=>f a os es
 |_=>false
theorem BS{f}(h:dCm e f=true):∃a os es p,e=.Compare a os es p/\f a os es=true:=by cases e<;>first |exact⟨_,_,_,_,rfl,h⟩ |exact dQ h
noncomputable def dC1(e:Expr)(f:Expr->CmpOp->Expr->Bool):Bool:=dCm e fun a os es=>l1 os fun op=>l1 es fun b=> !isSet b&&f a op b
theorem Ip{f}(h:dC1 e f=true):∃a op b p,e=.Compare a [op] [b] p/\isSet b=false/\f a op b=true:=by
 obtain⟨a,os,es,p,rfl,k⟩:=BS h;obtain⟨op,rfl,l⟩:=kI k;obtain⟨b,rfl,m⟩:=kI l;obtain⟨h1,n⟩:=an m;exact⟨a,op,b,p,rfl,rG h1,n⟩
noncomputable def dBo(e:Expr)(f:BoolOp->Expr->Expr->Bool):Bool:=match e with
 |.BoolOp op es p=>match es with
  |a::r=>match r with
   |b::r=>match r with
    | []=>f op a b
    |c::r=>f op a (.BoolOp op (b::c::r) p)
   | []=>false
  | []=>false
 |_=>false
theorem qB{f}(h:dBo e f=true):∃op a x p,f op a x=true/\(e=.BoolOp op [a,x] p\/∃b c r,x=.BoolOp op (b::c::r) p/\e=.BoolOp op (a::b::c::r) p):=by
 cases e<;>first |exact dQ h|skip
 rename_i op es p;cases es with
 |nil=>exact dQ h
 |cons a r=>cases r with
  |nil=>exact dQ h
  |cons b r=>cases r with
   |nil=>exact⟨op,a,b,p,h,.inl rfl⟩
   |cons c r=>exact⟨op,a,_,p,h,.inr ⟨b,c,r,rfl,rfl⟩⟩
noncomputable def dIf(e:Expr)(f:Expr->Expr->Expr->Bool):Bool:=match e with
 |.IfExp c a b _=>f c a b
 |_=>false
theorem dIf_of{f}(h:dIf e f=true):∃c a b p,e=.IfExp c a b p/\f c a b=true:=by cases e<;>first |exact⟨_,_,_,_,rfl,h⟩ |exact dQ h
noncomputable def dSu(e:Expr)(f:Expr->Expr->Bool):Bool:=match e with
 |.Subscript a i _=>f a i
 |_=>false
theorem yh{f}(h:dSu e f=true):∃a i p,e=.Subscript a i p/\f a i=true:=by cases e<;>first |exact⟨_,_,_,rfl,h⟩ |exact dQ h
noncomputable def dSl(e:Expr)(f:Option Expr->Option Expr->Option Expr->Bool):Bool:=match e with
 |.Slice a b c _=>f a b c
 |_=>false
theorem dSl_of{f}(h:dSl e f=true):∃a b c p,e=.Slice a b c p/\f a b c=true:=by cases e<;>first |exact⟨_,_,_,_,rfl,h⟩ |exact dQ h
noncomputable def dTu(e:Expr)(f:List Expr->Bool):Bool:=match e with
 |.Tuple es _ _=>f es
 |_=>false
theorem Ii{f}(h:dTu e f=true):∃es k p,e=.Tuple es k p/\f es=true:=by cases e<;>first |exact⟨_,_,_,rfl,h⟩ |exact dQ h
noncomputable def dLi(e:Expr)(f:List Expr->Bool):Bool:=match e with
 |.List es _=>f es
 |_=>false
theorem dLi_of{f}(h:dLi e f=true):∃es p,e=.List es p/\f es=true:=by cases e<;>first |exact⟨_,_,rfl,h⟩ |exact dQ h
noncomputable def dDi(e:Expr)(f:List (Option Expr)->List Expr->Bool):Bool:=match e with
 |.Dict ks vs _=>f ks vs
 |_=>false
theorem dDi_of{f}(h:dDi e f=true):∃ks vs p,e=.Dict ks vs p/\f ks vs=true:=by cases e<;>first |exact⟨_,_,_,rfl,h⟩ |exact dQ h
noncomputable def dCa(e:Expr)(f:Expr->List Expr->Pos->Bool):Bool:=match e with
 |.Call g es ks p=>ks.isEmpty&&f g es p
 |_=>false
theorem Io{f}(h:dCa e f=true):∃g es p,e=.Call g es [] p/\f g es p=true:=by
 cases e<;>first |exact dQ h|skip
 rename_i g es ks p;obtain⟨h1,h⟩:=an h;cases ks with
 |nil=>exact⟨g,es,p,rfl,h⟩
 |cons=>exact dQ h1
noncomputable def dFn(e:Expr)(f:Str->List Expr->Bool):Bool:=dCa e fun g es _=>dNm g fun x _=>f x es
theorem jv{f}(h:dFn e f=true):∃x np es p,e=.Call (.Name x np) es [] p/\f x es=true:=by
 obtain⟨g,es,p,rfl,k⟩:=Io h;obtain⟨x,np,rfl,l⟩:=lz k;exact⟨x,np,es,p,rfl,l⟩
noncomputable def dAt(e:Expr)(f:Expr->Str->Pos->Bool):Bool:=match e with
 |.Attribute a x p=>f a x p
 |_=>false
theorem dAt_of{f}(h:dAt e f=true):∃a x p,e=.Attribute a x p/\f a x p=true:=by cases e<;>first |exact⟨_,_,_,rfl,h⟩ |exact dQ h
noncomputable def dMt(m:Str)(e:Expr)(f:Expr->List Expr->Bool):Bool:=dCa e fun g es cp=>dAt g fun o m' ap=>decide (m=m')&&(ap.endLine==cp.line)&&f o es
theorem Ik{m:Str}{f}(h:dMt m e f=true):∃o ap es cp,e=.Call (.Attribute o m ap) es [] cp/\(ap.endLine==cp.line)=true/\f o es=true:=by
 obtain⟨g,es,cp,rfl,k⟩:=Io h;obtain⟨o,m',ap,rfl,l⟩:=dAt_of k;obtain⟨h1,h2,n⟩:=i8 l;cases of_decide_eq_true h1;exact⟨o,ap,es,cp,rfl,h2,n⟩
noncomputable def dLc(e:Expr)(f:Expr->List Comprehension->Scope->Pos->Bool):Bool:=match e with
 |.ListComp a gs sc p=>f a gs sc p
 |_=>false
theorem BR{f}(h:dLc e f=true):∃a gs sc p,e=.ListComp a gs sc p/\f a gs sc p=true:=by cases e<;>first |exact⟨_,_,_,_,rfl,h⟩ |exact dQ h
noncomputable def dJs(e:Expr)(f:List Expr->Bool):Bool:=match e with
 |.JoinedStr es _=>f es
 |_=>false
noncomputable def dFv(e:Expr)(f:Expr->Int->Option Expr->Bool):Bool:=match e with
 |.FormattedValue a c s _=>f a c s
 |_=>false
noncomputable def dAs(s:Stmt)(f:Expr->Expr->Pos->Bool):Bool:=match s with
 |.Assign ts e p=>l1 ts fun g=>f g e p
 |_=>false
theorem Iq{f}(h:dAs s f=true):∃g e p,s=.Assign [g] e p/\f g e p=true:=by
 cases s<;>first |exact dQ h|skip
 obtain⟨g,rfl,h⟩:=kI h;exact⟨g,_,_,rfl,h⟩
noncomputable def dEx(s:Stmt)(f:Expr->Bool):Bool:=match s with
 |.Expr e _=>f e
 |_=>false
theorem dEx_of{f}(h:dEx s f=true):∃e p,s=.Expr e p/\f e=true:=by cases s<;>first |exact⟨_,_,rfl,h⟩ |exact dQ h
noncomputable def dIs(s:Stmt)(f:Expr->List Stmt->List Stmt->Bool):Bool:=match s with
 |.If c a b _=>f c a b
 |_=>false
theorem dIs_of{f}(h:dIs s f=true):∃c a b p,s=.If c a b p/\f c a b=true:=by cases s<;>first |exact⟨_,_,_,_,rfl,h⟩ |exact dQ h
noncomputable def dWh(s:Stmt)(f:Expr->List Stmt->Bool):Bool:=match s with
 |.While c a b _=>b.isEmpty&&f c a
 |_=>false
theorem dWh_of{f}(h:dWh s f=true):∃c a p,s=.While c a [] p/\f c a=true:=by
 cases s<;>first |exact dQ h|skip
 rename_i c a b p;obtain⟨h1,h⟩:=an h;cases b with
 |nil=>exact⟨c,a,p,rfl,h⟩
 |cons=>exact dQ h1
noncomputable def dFo(s:Stmt)(f:Expr->Expr->List Stmt->Bool):Bool:=match s with
 |.For g i a b _=>b.isEmpty&&f g i a
 |_=>false
theorem dFo_of{f}(h:dFo s f=true):∃g i a p,s=.For g i a [] p/\f g i a=true:=by
 cases s<;>first |exact dQ h|skip
 rename_i g i a b p;obtain⟨h1,h⟩:=an h;cases b with
 |nil=>exact⟨g,i,a,p,rfl,h⟩
 |cons=>exact dQ h1
noncomputable def dRt(s:Stmt)(f:Option Expr->Bool):Bool:=match s with
 |.Return e _=>f e
 |_=>false
theorem Ij{f}(h:dRt s f=true):∃e p,s=.Return e p/\f e=true:=by cases s<;>first |exact⟨_,_,rfl,h⟩ |exact dQ h
noncomputable def dRa(s:Stmt)(f:Str->List Expr->Bool):Bool:=match s with
 |.Raise e c _=>match e with
  |some e=>c.isNone&&dFn e f
  |none=>false
 |_=>false
theorem dRa_of{f}(h:dRa s f=true):∃x np es cp p,s=.Raise (some (.Call (.Name x np) es [] cp)) none p/\f x es=true:=by
 cases s<;>first |exact dQ h|skip
 rename_i e c p;cases e with
 |none=>exact dQ h
 |some e=>
  obtain⟨h1,k⟩:=an h;obtain⟨x,np,es,cp,rfl,l⟩:=jv k;cases c with
  |none=>exact⟨x,np,es,cp,p,rfl,l⟩
  |some=>exact dQ h1
noncomputable def dTr(s:Stmt)(f:List Stmt->Str->Str->List Stmt->Bool):Bool:=match s with
 |.Try b hs o r _=>o.isEmpty&&r.isEmpty&&l1 hs fun h=>match h with
  |.ExceptHandler t n ss _=>match t with
   |some t=>match n with
    |some n=>dNm t fun x _=>f b x n ss
    |none=>false
   |none=>false
 |_=>false
theorem dTr_of{f}(h:dTr s f=true):∃b x np n ss hp p,s=.Try b [.ExceptHandler (some (.Name x np)) (some n) ss hp] [] [] p/\f b x n ss=true:=by
 cases s<;>first |exact dQ h|skip
 rename_i b hs o r p;obtain⟨h1,h2,k⟩:=i8 h;obtain⟨⟨t,n,ss,hp⟩,rfl,l⟩:=kI k;cases o with
 |cons=>exact dQ h1
 |nil=>cases r with
  |cons=>exact dQ h2
  |nil=>cases t with
   |none=>exact dQ l
   |some t=>cases n with
    |none=>exact dQ l
    |some n=>
     obtain⟨x,np,rfl,m⟩:=lz l;exact⟨b,x,np,n,ss,hp,p,rfl,m⟩
end
noncomputable def u1{α:Type}(l:List α)(f:α->List α->Bool):Bool:=match l with
 |a::r=>f a r
 | []=>false
theorem vA{α:Type}{l:List α}{f:α->List α->Bool}(h:u1 l f=true):∃a r,l=a::r/\f a r=true:=by
 cases l with
 |nil=>exact dQ h
 |cons a r=>exact⟨a,r,rfl,h⟩
noncomputable def om{α:Type}(o:Option α)(f:α->Bool):Bool:=match o with
 |some x=>f x
 |none=>false
theorem G5{α:Type}{o:Option α}{f:α->Bool}(h:om o f=true):∃x,o=some x/\f x=true:=by
 cases o with
 |none=>exact dQ h
 |some x=>exact⟨x,rfl,h⟩
theorem nil_of{α:Type}{l:List α}(h:l.isEmpty=true):l=[]:=List.isEmpty_iff.mp h
noncomputable def dFF(f g:Str)(sc:Scope)(e:Expr)(k:Expr->Bool):Bool:=dFn e fun f' es=>l1 es fun x=>dFn x fun g' es=>l1 es fun a=>decide (f'=f)&&decide (g'=g)&&nu sc f&&nu sc g&&k a
theorem Il{f g:Str}{k}(h:dFF f g sc e k=true):∃p a q r t,e=.Call (.Name f p) [.Call (.Name g q) [a] [] r] [] t/\nu sc f=true/\nu sc g=true/\k a=true:=by
 obtain⟨_,p,_,t,rfl,i⟩:=jv h;obtain⟨x,rfl,j⟩:=kI i;obtain⟨_,q,_,r,rfl,l⟩:=jv j;obtain⟨a,rfl,m⟩:=kI l;obtain⟨h1,h2,h3,h4,n⟩:=and5 m;cases of_decide_eq_true h1;cases of_decide_eq_true h2;exact⟨p,a,q,r,t,rfl,h3,h4,n⟩
noncomputable def isM1(e:Expr):Bool:=dUn e fun op c=>decide (op=.USub)&&dCn c fun k=>decide (k=.int 1)
noncomputable def mBase(e:Expr):Bool:=(dNm e fun _ _=>true)||(dFn e fun _ es=> !es.isEmpty)
mutual
noncomputable def d4(sc:Scope)(N:List Str):CE->Expr->Bool
 |.var i,e=>dNm e fun x _=>N[i]? ==some x&&Hz sc x&&zF x
 |.con c,e=>dCn e fun c'=>okCon c&&decide (c=c')
 |.glo x,e=>dNm e fun y _=>decide (x=y)&&nu sc x&&zF x
 |.ty t,e=>dNm e fun y _=>decide (t.name=y)&&nu sc y
 |.bin op a b,e=>dBi e fun a' op' b'=>decide (op=op')&&d4 sc N a a'&&d4 sc N b b'
 |.cmp op a b,e=>dC1 e fun a' op' b'=>decide (op=op')&&d4 sc N a a'&&d4 sc N b b'
 |.chain o1 o2 a b c,e=>dCm e fun a' os es=>l2 os fun p q=>l2 es fun b' c'=>decide (o1=p)&&decide (o2=q)&& !isSet c'&&(d4 sc N a a'&&d4 sc N b b'&&d4 sc N c c')
 |.not a,e=>dUn e fun op a'=>decide (op=.Not)&&d4 sc N a a'
 |.and a b,e=>dBo e fun op a' x=>decide (op=.And)&&d4 sc N a a'&&d4 sc N b x
 |.or a b,e=>dBo e fun op a' x=>decide (op=.Or)&&d4 sc N a a'&&d4 sc N b x
 |.ite c a b,e=>dIf e fun c' a' b'=>d4 sc N c c'&&d4 sc N a a'&&d4 sc N b b'
 |.idx a i,e=>dSu e fun a' i'=> !rW i'&&d4 sc N a a'&&d4 sc N i i'
 |.cut a lo hi,e=>dSu e fun a' s=>dSl s fun l u t=>t.isNone&&d4 sc N a a'&&(chkO sc N lo l&&chkO sc N hi u)
 |.tup es,e=>dTu e fun es'=>qC sc N es es'
 |.lst es,e=>dLi e fun es'=>qC sc N es es'
 |.call f es,e=>dFn e fun f' es'=>decide (f=f')&&nu sc f&&zF f&&qC sc N es es'
 |.bfn b es,e=>dFn e fun f' es'=>decide (b.name=f')&&nu sc f'&& !es'.isEmpty&&qC sc N es es'
 |.meth1 m o a,e=>dMt m.name e fun o' es=>l1 es fun a'=>baseOk o'&&d4 sc N o o'&&d4 sc N a a'
 |.idxd a i,e=>dSu e fun a' i'=> !rW i'&&d4 sc N a a'&&d4 sc N i i'
 |.dicT,e=>dDi e fun ks vs=>ks.isEmpty&&vs.isEmpty
 |.setd o a b,e=>dMt (cT "setdefault") e fun o' es=>l2 es fun a' b'=>baseOk o'&&d4 sc N o o'&&(d4 sc N a a'&&d4 sc N b b')
 |.sortset a,e=>dFF "sorted" "set" sc e (d4 sc N a)
 |.lrng a,e=>dFF "list" "range" sc e (d4 sc N a)
 |.comp own fr tg it cond elt,e=>dLc e fun elt' gs sc' _=>l1 gs fun g=>decide (g.is_async=0)&&xH sc sc' N own fr&& !isSet g.iter&&(chkI sc N it g.iter g.target&&vk sc' (namesOf N own fr) false tg g.target&&chkC sc' (namesOf N own fr) cond g.ifs&&d4 sc' (namesOf N own fr) elt elt')
noncomputable def qC(sc:Scope)(N:List Str):CL->List Expr->Bool
 |.nil,es=>es.isEmpty
 |.cons e r,es=>u1 es fun e' r'=>d4 sc N e e'&&qC sc N r r'
noncomputable def chkP(sc:Scope)(N:List Str):CP->List (Option Expr)->List Expr->Bool
 |.nil,ks,vs=>ks.isEmpty&&vs.isEmpty
 |.cons k v r,ks,vs=>u1 ks fun k' ks'=>u1 vs fun v' vs'=>om k' fun k'=>d4 sc N k k'&&d4 sc N v v'&&chkP sc N r ks' vs'
noncomputable def chkO(sc:Scope)(N:List Str):CO->Option Expr->Bool
 |.no,o=>o.isNone
 |.yes e,o=>om o (d4 sc N e)
noncomputable def chkC(sc:Scope)(N:List Str):CO->List Expr->Bool
 |.no,o=>o.isEmpty
 |.yes e,o=>l1 o (d4 sc N e)
noncomputable def vk(sc:Scope)(N:List Str)(all:Bool):CG->Expr->Bool
 |.name i,e=>dNm e fun x _=>N[i]? ==some x&&(sc.names.lookup x==some .local||sc.names.lookup x==some .cell)
 |.tup gs,e=>dTu e fun es=>um sc N all gs es
noncomputable def um(sc:Scope)(N:List Str)(all:Bool):CGs->List Expr->Bool
 |.nil,es=>es.isEmpty
 |.cons g gs,es=>u1 es fun e' es'=>vk sc N all g e'&&um sc N all gs es'
noncomputable def chkI(sc:Scope)(N:List Str):CI->Expr->Expr->Bool
 |.seq e,e',_=>d4 sc N e e'
 |.lseq e,e',_=>d4 sc N e e'
 |.range1 e,x,_=>dFn x fun f es=>l1 es fun e'=>decide (f="range")&&nu sc f&&d4 sc N e e'
 |.range2 a b,x,_=>dFn x fun f es=>l2 es fun a' b'=>decide (f="range")&&nu sc f&&d4 sc N a a'&&d4 sc N b b'
 |.zip3 a b c,x,tg'=>dFn x fun f es=>u1 es fun a' r=>l2 r fun b' c'=>decide (f="zip")&&nu sc f&&d4 sc N a a'&&(d4 sc N b b'&&d4 sc N c c'&&mx tg')
 |.enumt e,x,tg'=>dFn x fun f es=>l1 es fun e'=>decide (f="enumerate")&&nu sc f&&d4 sc N e e'&&mx tg'
end
noncomputable def isCe:CE->Bool
 |.comp .. =>true
 |_=>false
mutual
noncomputable def chkS(sc:Scope)(N:List Str):CS->Stmt->Bool
 |.asg g e,s=>dAs s fun g' e' _=>vk sc N true g g'&&d4 sc N e e'&& !tS e'&& !(mx g'&&mx e')
 |.asgc i e,s=>isCe e&&dAs s fun g e' _=>dNm g fun x p=>dLc e' fun a b c d=>N[i]? ==some x&&(sc.names.lookup x==some .local||sc.names.lookup x==some .cell)&&d4 sc N e (.ListComp a b c d)&&
   (sc.names.lookup x==some .cell||(decide (p.line=d.line)&& !(c.names.any fun y=>decide (y.1=x)&&(decide (y.2=.local)||decide (y.2=.cell)))))
 |.expr e,s=>dEx s fun e'=>d4 sc N e e'&& !tS e'
 |.iff c a b,s=>dIs s fun c' a' b'=>d4 sc N c c'&&vm sc N a a'&&vm sc N b b'
 |.forr g it b,s=>dFo s fun g' it' b'=>vk sc N true g g'&&chkI sc N it it' g'&& !isSet it'&&vm sc N b b'
 |.ret e,s=>dRt s fun o=>om o (d4 sc N e)
 |.retN,s=>dRt s fun o=>o.isNone
 |.pass,s=>match s with
  |.Pass _=>true
  |_=>false
 |.brk,s=>match s with
  |.Break _=>true
  |_=>false
 |.cont,s=>match s with
  |.Continue _=>true
  |_=>false
noncomputable def vm(sc:Scope)(N:List Str):CB->List Stmt->Bool
 |.hole,_=>true
 |.nil,ss=>ss.isEmpty
 |.cons s r,ss=>u1 ss fun s' r'=>chkS sc N s s'&&vm sc N r r'
end
structure Gam where
 val:Str->Option V
 fn:Str->Nat->Option (Sp×List V)
 ini:Str->Nat->Option (Addr×Sp×List V)
 dic:Addr->Option (List (Key×V))
 mak:Str->Nat->Option (Addr×Sp×List V)
 mth:Str->Nat->Option (Addr×Sp×List V)
noncomputable def zY(K:ah)(tl:TE):TI:=fun σ H R=>tl σ H fun x H1=>(∃a,x=.ref a/\(∃xs,SqL K H1 a xs)/\R (Itl K a) H1)\/(∃a,x=.ref a/\(∃xs,SqT K H1 a xs)/\R (Itt K a) H1)\/(∃z,x=.str z/\R (Its z) H1)
noncomputable def A7(K:ah)(t:TE):TT:=fun σ H Q=>t σ H fun x H1=>∃k,TruV K x H1 k/\Q k H1
mutual
noncomputable def wpE(G:Gam)(K:ah)(E:XS):CE->TE
 |.var i=>lV i
 |.con c=>tC (cv c)
 |.glo x=>fun σ H Q=>∃v,G.val x=some v/\Q v H
 |.ty t=>tC (.ty t.t)
 |.bin op a b=>tOp (i5 K op) (wpE G K E a) (wpE G K E b)
 |.cmp op a b=>tOp (fZ K op) (wpE G K E a) (wpE G K E b)
 |.chain o1 o2 a b c=>sL (fZ K o1) (fZ K o2) (wpE G K E a) (wpE G K E b) (wpE G K E c)
 |.not a=>FV (wpE G K E a)
 |.and a b=>FZ (wpE G K E a) (wpE G K E b)
 |.or a b=>tOrV (wpE G K E a) (wpE G K E b)
 |.ite c a b=>tIf (wpT G K E c) (wpE G K E a) (wpE G K E b)
 |.idx a i=>tOp (rIx K) (wpE G K E a) (wpE G K E i)
 |.cut a lo hi=>tSl (rSlc K) (wpE G K E a) (wpO G K E lo) (wpO G K E hi)
 |.tup es=>tTup (wpL G K E es)
 |.lst es=>tLst (wpL G K E es)
 |.call f es=>fun σ H Q=>∃sp dvs,G.fn f es.len=some (sp,dvs)/\y8 sp dvs (E σ) (wpL G K E es) σ H Q
 |.bfn b es=>tCB (rBf K b) (wpL G K E es)
 |.meth1 m o a=>tBM K "list" (rMm m) (wpE G K E o) (iZ (wpE G K E a) qh)
 |.idxd a i=>tOp (rIxD K) (wpE G K E a) (wpE G K E i)
 |.dicT=>FX
 |.setd o a b=>tBM K "dict" CF (wpE G K E o) (iZ (wpE G K E a) (iZ (wpE G K E b) qh))
 |.lrng a=>tLRng (iZ (wpE G K E a) qh)
 |.sortset a=>yZ K (iZ (wpE G K E a) qh)
 |.comp own fr tg it cond elt=>qN (wpI G K E it) (wpG G K N0 tg) (wpC G K N0 cond) (wpE G K N0 elt) (i4 own fr)
noncomputable def wpT(G:Gam)(K:ah)(E:XS):CE->TT
 |.cmp op a b=>sI (tOp (fZ K op) (wpE G K E a) (wpE G K E b))
 |.chain o1 o2 a b c=>sI (sL (fZ K o1) (fZ K o2) (wpE G K E a) (wpE G K E b) (wpE G K E c))
 |.not a=>tNot (wpT G K E a)
 |.and a b=>tAnd (wpT G K E a) (wpT G K E b)
 |.or a b=>tOr (wpT G K E a) (wpT G K E b)
 |.ite _ _ _=>fun _ _ _=>False
 |.var i=>A7 K (lV i)
 |.con c=>A7 K (tC (cv c))
 |.glo x=>A7 K (fun σ H Q=>∃v,G.val x=some v/\Q v H)
 |.idx a i=>A7 K (tOp (rIx K) (wpE G K E a) (wpE G K E i))
 |.call f es=>A7 K (fun σ H Q=>∃sp dvs,G.fn f es.len=some (sp,dvs)/\y8 sp dvs (E σ) (wpL G K E es) σ H Q)
 |.bfn b es=>A7 K (tCB (rBf K b) (wpL G K E es))
 |_=>fun _ _ _=>False
noncomputable def wpL(G:Gam)(K:ah)(E:XS):CL->TA
 |.nil=>qh
 |.cons e es=>iZ (wpE G K E e) (wpL G K E es)
noncomputable def wpP(G:Gam)(K:ah)(E:XS):CP->List (TE×TE)
 |.nil=>[]
 |.cons k v r=>(wpE G K E k,wpE G K E v)::wpP G K E r
noncomputable def wpO(G:Gam)(K:ah)(E:XS):CO->TO
 |.no=>wW
 |.yes e=>FU (wpE G K E e)
noncomputable def wpC(G:Gam)(K:ah)(E:XS):CO->TT
 |.no=>tYes
 |.yes e=>wpT G K E e
noncomputable def wpG(G:Gam)(K:ah)(E:XS):CG->TG
 |.name i=>kM i
 |.tup gs=>gTup K gs.len (wpGs G K E gs)
noncomputable def wpGs(G:Gam)(K:ah)(E:XS):CGs->TGs
 |.nil=>gNil
 |.cons g gs=>HK (wpG G K E g) (wpGs G K E gs)
noncomputable def wpI(G:Gam)(K:ah)(E:XS):CI->TI
 |.seq e=>zY K (wpE G K E e)
 |.lseq e=>HG K (wpE G K E e)
 |.range1 e=>HF (iZ (wpE G K E e) qh)
 |.range2 a b=>HE (iZ (wpE G K E a) (iZ (wpE G K E b) qh))
 |.zip3 a b c=>iZip3 K (iZ (wpE G K E a) (iZ (wpE G K E b) (iZ (wpE G K E c) qh)))
 |.enumt e=>BN K (iZ (wpE G K E e) qh)
end
mutual
noncomputable def wpS(G:Gam)(K:ah)(E:XS):CS->TS
 |.asg g e=>wX (wpE G K E e) (wpG G K E g)
 |.asgc i e=>wX (wpE G K E e) (kM i)
 |.expr e=>FW (wpE G K E e)
 |.iff c a b=>tIfS (wpT G K E c) (wpB G K E a) (wpB G K E b)
 |.forr g it b=>tFor (wpI G K E it) (wpG G K E g) (wpB G K E b)
 |.ret e=>tRet (wpE G K E e)
 |.retN=>FT
 |.pass=>y6
 |.brk=>FY
 |.cont=>tCont
noncomputable def wpB(G:Gam)(K:ah)(E:XS):CB->TS
 |.nil=>y6
 |.hole=>fun _ _ _=>False
 |.cons s r=>uY (wpS G K E s) (wpB G K E r)
end
noncomputable abbrev Sat(G:Gam)(K:ah)(sp:Sp)(c:CB)(N:List Str):Prop:=∀vs H Q E,sp vs H Q E->wpB G K (fun _=>E) c {nx:=fun _ H'=>Q .non H',rt:=Q} (L2.start N vs) H
noncomputable def iM:List Str:=["len","isinstance","all","any","list","tuple","int","bool","str","dict","range","enumerate","sorted","set","min","max","ValueError","sum","zip","reversed"]
structure Ok(CX:CXT)(G:Gam)(E:XS)(sc:Scope)(N:List Str)(all:Bool)(X:Cx):Prop where
 names:X.N=N
 top:all=true->X.stack=X.env::X.outer/\X.env.frame=some X.env.locals/\X.ex=[]
 nd:N.Nodup
 loc:∀x,sc.names.lookup x=some .local->X.env.scope.names.lookup x=some .local
 cel:∀x,sc.names.lookup x=some .cell->X.env.scope.names.lookup x=some .cell
 fre:∀x,sc.names.lookup x=some .free->X.env.scope.names.lookup x=some .cell\/X.env.scope.names.lookup x=some .free
 glo:∀x,sc.names.lookup x=some .globalImplicit->X.env.scope.names.lookup x=some .globalImplicit
 all:all=true->∀x,X.fn x=true
 own:∀x,sc.names.lookup x=some .cell->X.fn x=true
 calm:X.calm=true
 hu:X.A.units+50<cLine
 val:∀x v,G.val x=some v->∃u,X.mg x=some u/\RelV v u
 fn:∀x n sp dvs,G.fn x n=some (sp,dvs)->∃f fd ps ds k,jA X.prog X.w X.K X.mg X.base CX k f fd ps sp/\ke k X.A/\X.mg x=some (.ref f)/\cU X.K (.ref f)=true/\Binds X.K fd ps ds/\bX dvs ds
 ini:∀x n C sp dvs,G.ini x n=some (C,sp,dvs)->∃f fd ps ds k,MkX X.K C f/\jA X.prog X.w X.K X.mg X.base CX k f fd ps sp/\ke (k+1) X.A/\X.mg x=some (.ref C)/\Binds X.K fd ps ds/\bX dvs ds
 dic:∀a kvs,G.dic a=some kvs->DkIn X.prog X.w X.K a kvs
 mak:∀x n C sp dvs,G.mak x n=some (C,sp,dvs)->∃f fd ps ds k,Mk X.K C f/\jA X.prog X.w X.K X.mg X.base CX k f fd ps sp/\ke (k+1) X.A/\X.mg x=some (.ref C)/\Binds X.K fd ps ds/\bX dvs ds
 mth:∀m n C sp dvs,G.mth m n=some (C,sp,dvs)->∃f fd ps ds k,Cls X.K C/\Meth X.K C m f/\jA X.prog X.w X.K X.mg X.base CX k f fd ps sp/\ke k X.A/\Binds X.K fd ps ds/\bX dvs ds
 blt:∀x∈iM,X.mg x=none
 px:PassesOwn (model X.prog X.w) X.A X.env X.xe
 pass:AE CX X E
 made:MadeS X E
 madeX:IV X E
 cx:CX=CXx X.prog X.w
theorem Bf.mem:∀b:Bf,b.name∈iM:=by intro b;cases b<;>decide+kernel
theorem Ty.mem:∀b:Ty,b.name∈iM:=by intro b;cases b<;>decide+kernel
section
variable {CX:CXT}{G:Gam}{E:XS}{sc:Scope}{N:List Str}{all:Bool}{X:Cx}
theorem Ok.vis(o:Ok CX G E sc N all X)(h:Hz sc x=true):Vis X.env.scope x:=by
 unfold Hz at h;rw[cQ,cQ,beq_iff_eq,beq_iff_eq,beq_iff_eq]at h;rcases h with(h|h) |h
 ·exact .inl (o.loc x h)
 ·exact .inr (.inl (o.cel x h))
 ·rcases o.fre x h with q|q
  ·exact .inr (.inl q)
  ·exact .inr (.inr q)
theorem Ok.gl(o:Ok CX G E sc N all X)(h:nu sc x=true):Gl X x:=by
 unfold nu at h;rw[beq_iff_eq]at h;exact o.glo x h
theorem oX(h:zF x=true):(x==("__debug__":Str))=false/\(x==("__classdict__":Str))=false:=by
 unfold zF at h;rw[aQ,beq_iff_eq,beq_iff_eq]at h;exact h
theorem rBin_ok:∀op,OpR X (gp op) (i5 X.K op)
 |.Add=>op_add.or (Bw.or (op_cat.or (r':=fun _ _ _ _=>False) fun _ _ _ _ _ _ _ _ _ _ _ _ h=>h.elim))
 |.Sub=>op_sub
 |.Mult=>op_mul
 |.Mod=>op_mod
 |.FloorDiv=>op_fdiv
 |.Pow=>op_pow
 |.RShift=>op_shr
 |.MatMult=>fun _ _ _ _ _ _ _ _ _ _ _ _ h=>h.elim
 |.Div=>fun _ _ _ _ _ _ _ _ _ _ _ _ h=>h.elim
 |.LShift=>op_shl
 |.BitOr=>fun _ _ _ _ _ _ _ _ _ _ _ _ h=>h.elim
 |.BitXor=>op_xor
 |.BitAnd=>op_and
theorem mY(hu:X.A.units+50<cLine):∀op,OpR X (cP op) (fZ X.K op)
 |.Eq=>op_eqD (by omega)
 |.NotEq=>op_neD (by omega)
 |.Lt=>op_lt.or op_ltS
 |.LtE=>op_le
 |.Gt=>op_gt
 |.GtE=>op_ge
 |.Is=>op_isN
 |.IsNot=>op_notN
 |.In=>(Ej.or (op_inD (by omega))).or Ek
 |.NotIn=>(xF.or (Ei (by omega))).or xG
theorem rSlc_ok:SlR X (rSlc X.K):=sl_list.or sl_str
theorem rBf_ok(hc:X.calm=true)(hu:X.A.units+50<cLine):∀b,fg X (Bf.val b) (rBf X.K b)
 |.len=>yp.or (yo.or Q.vp)
 |.isinstance=>Al.or yr
 |.all=>IF hc
 |.any=>IE hc
 |.list=>yn
 |.tuple=>vn
 |.sorted=>Q.Aj
 |.set=>Q.EX hc
 |.sum=>IC hc
 |.int=>E3
 |.lend=>Ak
 |.sorti=>Q.ym
 |.sortl=>Q.yk
 |.sortt=>Q.yj (by omega)
 |.minl=>Q.EY hc (by omega)
 |.maxl=>Q.E1 hc (by omega)
theorem Mm.slot:∀m:Mm,Slot "list" m.name m.id
 |.append=>PySem.F.slot_list_append|.clear=>PySem.F.slot_list_clear|.reverse=>PySem.F.slot_list_reverse|.pop=>PySem.F.slot_list_pop|.index=>PySem.F.slot_list_index|.extend=>PySem.F.slot_list_extend
theorem Mm.ty:∀m:Mm,typeOf (.builtin m.id)=pure (.type "method_descriptor")
 |.append=>PySem.F.type_list_append|.clear=>PySem.F.type_list_clear|.reverse=>PySem.F.type_list_reverse|.pop=>PySem.F.type_list_pop|.index=>PySem.F.type_list_index|.extend=>PySem.F.type_list_extend
theorem rMm_ok:∀m:Mm,MtR X m.id (rMm m)
 |.append=>Ex|.clear=>fun _ _ _ _ _ _ _ _ _ _ _ _ h=>h.elim|.reverse=>fun _ _ _ _ _ _ _ _ _ _ _ _ h=>h.elim|.pop=>MtR.or (r:=fun _ _ _ _=>False) (fun _ _ _ _ _ _ _ _ _ _ _ _ h=>h.elim) Hh|.index=>fun _ _ _ _ _ _ _ _ _ _ _ _ h=>h.elim|.extend=>Ew
theorem DD{o:Expr}(h:baseOk o=true)(nm:Str)(env:Env)(t:Sem Value):attributeBase o nm env t=t:=by
 cases o<;>first
  |rfl
  |exact dQ h
  | (rename_i f es ks p;cases f<;>first
   |rfl
   |exact dQ h)
theorem bV{c:CE}(h:d4 sc N c e=true)(es:List Expr)(env:Env):bT (e::es) env=(false,eval e env)::bT es env:=by
 cases e<;>first
  |rfl
  | (cases c<;>exact dQ h)
theorem m8{c:CE}{r:CL}{es:List Expr}(h:qC sc N (.cons c r) es=true):∃e' r',es=e'::r'/\d4 sc N c e'=true/\qC sc N r r'=true:=
 let⟨e',r',a,k⟩:=vA h
 ⟨e',r',a,an k⟩
theorem pF{es:List Expr}(h:qC sc N .nil es=true):es=[]:=nil_of h
theorem ui:∀{l:CL}{es:List Expr},qC sc N l es=true->∀(env:Env)(pos:Pos),(backTo pos (bT es env)).any (·.1)=false
 |.nil,es,h,env,pos=>by rw[pF h];rfl
 |.cons c r,es,h,env,pos=>by
  obtain⟨e',r',rfl,h1,h2⟩:=m8 h;rw[bV h1];show(false||(backTo pos (bT r' env)).any (·.1))=false;rw[ui h2];rfl
theorem stars{l:CL}{es:List Expr}(h:qC sc N l es=true)(hn:(!es.isEmpty)=true):∃e es',es=e::es'/\∀(env:Env)(pos:Pos),bT (e::es') env=(false,eval e env)::bT es' env/\(backTo pos (bT es' env)).any (·.1)=false:=by
 cases l with
 |nil=>
  obtain rfl:=pF h;exact dQ hn
 |cons c r=>
  obtain⟨e',r',rfl,h1,h2⟩:=m8 h;exact⟨e',r',rfl,fun env pos=>⟨bV h1 _ _,ui h2 _ _⟩⟩
theorem xK(h:isSet e=false)(env:Env):∀x,jg e env x=pure x:=by
 intro x;cases e<;>first
  |rfl
  | (exact absurd h (by simp[isSet]))
theorem m6(h:isSet e=false)(op:CmpOp):Ja op e=false:=by
 cases e<;>first
  |rfl
  | (exact absurd h (by simp[isSet]))
theorem zw(h:rW e=false):DF e:=by
 intro o i;cases e<;>first
  |rfl
  | (exact absurd h (by simp[rW]))
theorem xN(h:tS e=false)(t:Option Expr)(l:Nat)(env:Env):r6 e t l env=pure false:=by
 cases e<;>first
  |rfl
  | (exact absurd h (by simp[tS]))
theorem pi_any{l:Expr}{tl:TE}(hl:PE X l tl):PI X tg l (zY X.K tl):=by
 intro pins s σ H R I h;refine thn (hl pins s σ H _ I h) fun v s1 ⟨x,H1,I1,r1,q1⟩=>?_;have key:∀{tl':TE}{wi:TI},True:=fun{_ _}=>trivial;rcases q1 with q1|q1|q1
 ·obtain⟨a,e,⟨xs,hq⟩,q⟩:=q1
  subst e;cases r1;obtain⟨its,rv,p,hz⟩:=I1.list hq;refine i9 p.isList ?_;refine⟨s1.heap.objs.size,[s1.heap.objs.size],_,_,H1,rfl,I1.kept (t':=s1.toks) fun b o e=>ag _ e,vB a _,⟨_,aq _ rfl,rfl,rfl⟩,fun b hb=>?_,q⟩;have e:b=s1.heap.objs.size:=by simpa using hb
  subst e;exact I1.yd (aA _) (I1.hok.fresh (aA _))
 ·obtain⟨a,e,⟨xs,hq⟩,q⟩:=q1
  subst e;cases r1;obtain⟨its,rv,p,hz⟩:=I1.tuple hq;refine eD (show s1.heap.IsTuple a its.toArray from p) ?_;refine⟨s1.heap.objs.size,[s1.heap.objs.size],_,_,H1,rfl,I1.kept (t':=s1.toks) fun b o e=>ag _ e,A4 a _,⟨_,aq _ rfl,rfl,rfl⟩,fun b hb=>?_,q⟩;have e:b=s1.heap.objs.size:=by simpa using hb
  subst e;exact I1.yd (aA _) (I1.hok.fresh (aA _))
 ·obtain⟨z,e,q⟩:=q1
  subst e;obtain⟨t,rfl⟩:=r1;refine wpAny_pyIter_strU ?_;refine⟨s1.heap.objs.size,[s1.heap.objs.size],_,_,H1,rfl,I1.kept (t':=s1.toks) fun b o e=>ag _ e,FK z _ t,⟨_,aq _ rfl,rfl,rfl⟩,fun b hb=>?_,q⟩;have e:b=s1.heap.objs.size:=by simpa using hb
  subst e;exact I1.yd (aA _) (I1.hok.fresh (aA _))
end
set_option maxHeartbeats 4000000
section
variable {CX:CXT}{G:Gam}
structure m9(sc sc':Scope)(N own:List Str)(fr:List Nat):Prop where
 kind:sc'.kind=.function
 cellk:∀y∈sc'.names,y.2=.cell->sc'.names.lookup y.1=some .cell
 own1:∀y∈sc'.names,y.2=.local->sc'.names.lookup y.1=some .local
 free:∀y∈sc'.names,y.2=.free->sc.names.lookup y.1=some .cell\/sc.names.lookup y.1=some .free
 nd:(namesOf N own fr).Nodup
 fr:∀j∈fr,j<N.length/\sc'.names.lookup (N.getD j "")=some .free
 own2:∀x∈own,sc'.names.lookup x=some .local\/sc'.names.lookup x=some .cell
theorem sT{own:List Str}{fr:List Nat}(h:xH sc sc' N own fr=true):m9 sc sc' N own fr:=by
 unfold xH at h;simp only[aQ,bC,decide_eq_true_eq,beq_iff_eq,cQ]at h;obtain⟨⟨⟨⟨⟨⟨h1,h2⟩,h3⟩,h4⟩,h5⟩,h6⟩,h7⟩:=h;exact⟨h1,h2,h3,h4,h5,h6,h7⟩
theorem m9.comp{E:XS}{own:List Str}{fr:List Nat}{all:Bool}(S:m9 sc sc' N own fr)(o:Ok CX G E sc N all X):ng X (namesOf N own fr) sc':=
 ⟨S.kind,S.cellk,S.own1,fun y hy hf=>by
  rcases S.free y hy hf with q|q
  ·exact .inl (o.cel _ q)
  ·exact o.fre _ q⟩
theorem m9.mkOk{E:XS}{own:List Str}{fr:List Nat}{all:Bool}(S:m9 sc sc' N own fr)(o:Ok CX G E sc N all X):MkOk X (namesOf N own fr) sc' (i4 own fr):=by
 intro σ hl;refine⟨by simp[i4,namesOf],fun i x v h1 h2=>?_⟩;unfold i4 at h2;unfold namesOf at h1;by_cases hi:i<own.length
 ·rw[dW (by simpa using hi),ao]at h2
  cases q:own[i]? with
  |none=>rw[q]at h2;cases h2
  |some z=>rw[q]at h2;cases h2
 ·rw[cZ (by simpa using hi),ao,ai]at h2
  rw[cZ (by simpa using hi),ao]at h1;cases q:fr[i-own.length]? with
  |none=>rw[q]at h2;cases h2
  |some j=>
   rw[q]at h1 h2;have hx:N.getD j ""=x:=bg h1;have hv:(σ[j]?).getD none=some v:=bg h2;obtain⟨hj,hf⟩:=S.fr j (aI q);refine⟨by rw[<-hx];exact hf,j,?_,?_⟩
   ·rw[o.names,<-hx,af,aa hj];rfl
   ·cases w:σ[j]? with
    |none=>rw[w]at hv;cases hv
    |some z=>rw[w]at hv;exact congrArg some hv
noncomputable abbrev HX(CX:CXT):Prop:=∀o H s e s',CX o H s E0 e s'->False
theorem Ok.comp{E:XS}{own:List Str}{fr:List Nat}{all:Bool}(hCX:HX CX)(S:m9 sc sc' N own fr)(o:Ok CX G E sc N all X)(C:Addr)(s₀:Shared)(H₀:Hp)(fp:List Addr):
  Ok CX G N0 sc' (namesOf N own fr) false (dZ X (namesOf N own fr) sc' C s₀ H₀ fp) where
 names:=rfl
 nd:=S.nd
 loc:=fun x h=>lookup_relabel_local (env:=X.env) h
 cel:=fun x h=>fV (env:=X.env) h (by decide)
 own:=fun x h=>bp.mpr ⟨(x,.cell),bq h,by simp⟩
 fre:=fun x h=>(gf (env:=X.env) h).symm
 glo:=fun x h=>fV (env:=X.env) h (by decide)
 all:=fun h=>absurd h (by decide)
 calm:=o.calm
 hu:=o.hu
 val:=o.val
 fn:=o.fn
 ini:=o.ini
 dic:=o.dic
 mak:=o.mak
 mth:=o.mth
 blt:=o.blt
 px:=PassesOwn.never
 pass:=fun _ _ _ _ _ _ _ h=>(hCX _ _ _ _ _ h).elim
 made:=fun _ _ _ _ _ _ _ _ _ _ h=>h.elim
 madeX:=fun _ _ _ _ _ _ _ _ _ h=>h.elim
 cx:=o.cx
 top:=fun h=>absurd h (by decide)
theorem o4{all:Bool}{g:CG}(h:vk sc N all g e=true)(es:List Expr)(env:Env):gQ (e::es) env=(false,assign e env)::gQ es env:=by
 cases e<;>first
  |rfl
  | (cases g<;>exact dQ h)
theorem uj{all:Bool}{g:CG}{r:CGs}{es:List Expr}(h:um sc N all (.cons g r) es=true):∃e' r',es=e'::r'/\vk sc N all g e'=true/\um sc N all r r'=true:=
 let⟨e',r',a,k⟩:=vA h
 ⟨e',r',a,an k⟩
theorem v8{all:Bool}{es:List Expr}(h:um sc N all .nil es=true):es=[]:=nil_of h
theorem qY{all:Bool}:∀{gs:CGs}{es:List Expr},um sc N all gs es=true->∀env,(gQ es env).length=gs.len/\(gQ es env).findIdx? (·.1)=none
 |.nil,es,h,env=>by rw[v8 h];exact⟨rfl,rfl⟩
 |.cons g r,es,h,env=>by
  obtain⟨e',r',rfl,h1,h2⟩:=uj h;obtain⟨a,b⟩:=qY h2 env;rw[o4 h1];refine⟨by rw[bG,a,CGs.len],?_⟩;rw[List.findIdx?_cons];simp[b]
end
section
variable {CX:CXT}{G:Gam}
noncomputable abbrev IHE(CX:CXT)(G:Gam)(c:CE):Prop:=∀(e:Expr){E:XS}{sc:Scope}{N:List Str}{all:Bool}{X:Cx},Ok CX G E sc N all X->d4 sc N c e=true->PE X e (wpE G X.K E c)
noncomputable abbrev IHT(CX:CXT)(G:Gam)(c:CE):Prop:=∀(e:Expr){E:XS}{sc:Scope}{N:List Str}{all:Bool}{X:Cx},Ok CX G E sc N all X->d4 sc N c e=true->PT X e (wpT G X.K E c)
noncomputable def isBo:Expr->Bool
 |.BoolOp .. =>true
 |_=>false
theorem isBo_of(h:isBo e=true):∃op es p,e=.BoolOp op es p:=by
 cases e<;>first
  |exact⟨_,_,_,rfl⟩
  |exact dQ h
noncomputable abbrev IHW(CX:CXT)(G:Gam)(c:CE):Prop:=∀(e:Expr){E:XS}{sc:Scope}{N:List Str}{all:Bool}{X:Cx},Ok CX G E sc N all X->d4 sc N c e=true->isBo e=true->PW X e (wpT G X.K E c)
noncomputable abbrev IHL(CX:CXT)(G:Gam)(c:CL):Prop:=∀(es:List Expr){E:XS}{sc:Scope}{N:List Str}{all:Bool}{X:Cx},Ok CX G E sc N all X->qC sc N c es=true->PA X es (wpL G X.K E c)
noncomputable abbrev IHP(CX:CXT)(G:Gam)(c:CP):Prop:=∀(ks:List (Option Expr))(vs:List Expr){E:XS}{sc:Scope}{N:List Str}{all:Bool}{X:Cx},Ok CX G E sc N all X->chkP sc N c ks vs=true->∀pos,
  PPs X pos ks vs (wpP G X.K E c)/\ks.all (·.isSome)=true/\ks.length=vs.length/\(c≠.nil->ks≠[])
noncomputable abbrev IHO(CX:CXT)(G:Gam)(c:CO):Prop:=∀(e:Option Expr){E:XS}{sc:Scope}{N:List Str}{all:Bool}{X:Cx},Ok CX G E sc N all X->chkO sc N c e=true->PO X e (wpO G X.K E c)
noncomputable abbrev IHC(CX:CXT)(G:Gam)(c:CO):Prop:=∀(es:List Expr){E:XS}{sc:Scope}{N:List Str}{all:Bool}{X:Cx},Ok CX G E sc N all X->chkC sc N c es=true->PTs X es (wpC G X.K E c)
noncomputable abbrev IHG(CX:CXT)(G:Gam)(c:CG):Prop:=∀(e:Expr){E:XS}{sc:Scope}{N:List Str}{all:Bool}{X:Cx},Ok CX G E sc N all X->vk sc N all c e=true->PG X e (wpG G X.K E c)
noncomputable abbrev IX(CX:CXT)(G:Gam)(c:CGs):Prop:=∀(es:List Expr){E:XS}{sc:Scope}{N:List Str}{all:Bool}{X:Cx},Ok CX G E sc N all X->um sc N all c es=true->PGs X es (wpGs G X.K E c)
noncomputable abbrev IHI(CX:CXT)(G:Gam)(c:CI):Prop:=∀(e tg:Expr){E:XS}{sc:Scope}{N:List Str}{all:Bool}{X:Cx},Ok CX G E sc N all X->chkI sc N c e tg=true->PI X tg e (wpI G X.K E c)
theorem Gj:IHE CX G (.var i):=by
  intro e E sc N all X o h;obtain⟨x,p,rfl,k⟩:=lz h;obtain⟨h1,h2,h3⟩:=i8 k;obtain⟨d1,d2⟩:=oX h3;exact pe_var (by rw[o.names];exact beq_iff_eq.mp h1) (o.vis h2) d1 d2
theorem Gq{c:Const}:IHE CX G (.con c):=by
  intro e E sc N all X o h;obtain⟨c',j,p,rfl,k⟩:=Im h;obtain⟨h1,h2⟩:=an k;cases of_decide_eq_true h2;cases c with
  |none=>exact pe_non
  |bool b=>exact pe_bl
  |int i=>exact pe_int
  |str x=>exact pe_str
  |_=>exact dQ h1
theorem Gp:IHE CX G (.glo x):=by
  intro e E sc N all X o h;obtain⟨y,p,rfl,k⟩:=lz h;obtain⟨h1,h2,h3⟩:=i8 k;cases of_decide_eq_true h1;intro pins s σ H Q I hw;obtain⟨v,hv,q⟩:=hw;obtain⟨u,hu,r⟩:=o.val _ _ hv;exact pe_glob (o.gl h2) hu r (oX h3).1 pins s σ H Q I q
theorem sE_ty{t:Ty}:IHE CX G (.ty t):=by
  intro e E sc N all X o h;obtain⟨y,p,rfl,k⟩:=lz h;obtain⟨h1,h2⟩:=an k;cases of_decide_eq_true h1;exact pe_bltn (o.gl h2) (o.blt _ t.mem) t.boot rfl t.plain.1 t.plain.2
theorem sE_bin{op:Operator}{a b:CE}(ia:IHE CX G a)(ib:IHE CX G b):IHE CX G (.bin op a b):=by
  intro e E sc N all X o h;obtain⟨a',op',b',p,rfl,k⟩:=dBi_of h;obtain⟨h1,h2,h3⟩:=i8 k;cases of_decide_eq_true h1;exact pe_op (rBin_ok op) (ia _ o h2) (ib _ o h3)
theorem sE_cmp{op:CmpOp}{a b:CE}(ia:IHE CX G a)(ib:IHE CX G b):IHE CX G (.cmp op a b):=by
  intro e E sc N all X o h;obtain⟨a',op',b',p,rfl,h0,k⟩:=Ip h;obtain⟨h1,h2,h3⟩:=i8 k;cases of_decide_eq_true h1;exact pe_cmpR (mY o.hu op) (ia _ o h2) (ib _ o h3) (m6 h0 op)
theorem Gs{o1 o2:CmpOp}{a b c:CE}(ia:IHE CX G a)(ib:IHE CX G b)(ic:IHE CX G c):IHE CX G (.chain o1 o2 a b c):=by
  intro e E sc N all X o h;obtain⟨a',os,es,p,rfl,k⟩:=BS h;obtain⟨p',q',rfl,l⟩:=tN k;obtain⟨b',c',rfl,m⟩:=tN l;obtain⟨h1,h2,h3,n⟩:=ou m;obtain⟨h4,h5,h6⟩:=i8 n;cases of_decide_eq_true h1;cases of_decide_eq_true h2;exact GY (mY o.hu o1) (mY o.hu o2) (ia _ o h4) (ib _ o h5) (ic _ o h6) (m6 (rG h3) o2)
theorem sE_not{a:CE}(ia:IHE CX G a):IHE CX G (.not a):=by
  intro e E sc N all X o h;obtain⟨op',a',p,rfl,k⟩:=Ih h;obtain⟨h1,h2⟩:=an k;cases of_decide_eq_true h1;exact pe_not (ia _ o h2)
theorem sE_and{a b:CE}(ia:IHE CX G a)(ib:IHE CX G b):IHE CX G (.and a b):=by
  intro e E sc N all X o h;obtain⟨op,a',x,p,k,m⟩:=qB h;obtain⟨h1,h2,h3⟩:=i8 k;cases of_decide_eq_true h1;rcases m with rfl|⟨b',c',r,rfl,rfl⟩
  ·exact G1 (ia _ o h2) (GV (ib _ o h3))
  ·exact G1 (ia _ o h2) (ib _ o h3)
theorem sE_or{a b:CE}(ia:IHE CX G a)(ib:IHE CX G b):IHE CX G (.or a b):=by
  intro e E sc N all X o h;obtain⟨op,a',x,p,k,m⟩:=qB h;obtain⟨h1,h2,h3⟩:=i8 k;cases of_decide_eq_true h1;rcases m with rfl|⟨b',c',r,rfl,rfl⟩
  ·exact pe_or (ia _ o h2) (GV (ib _ o h3))
  ·exact pe_or (ia _ o h2) (ib _ o h3)
theorem sE_ite{c a b:CE}(ic:IHT CX G c)(ia:IHE CX G a)(ib:IHE CX G b):IHE CX G (.ite c a b):=by
  intro e E sc N all X o h;obtain⟨c',a',b',p,rfl,k⟩:=dIf_of h;obtain⟨h1,h2,h3⟩:=i8 k;exact GW (ic _ o h1) (ia _ o h2) (ib _ o h3)
theorem Gn{a i:CE}(ia:IHE CX G a)(ii:IHE CX G i):IHE CX G (.idx a i):=by
  intro e E sc N all X o h;obtain⟨a',i',p,rfl,k⟩:=yh h;obtain⟨h1,h2,h3⟩:=i8 k;exact pe_ix ix_seq (ia _ o h2) (ii _ o h3) (zw (rG h1))
theorem sE_cut{a:CE}{lo hi:CO}(ia:IHE CX G a)(il:IHO CX G lo)(ih:IHO CX G hi):IHE CX G (.cut a lo hi):=by
  intro e E sc N all X o h;obtain⟨a',s,p,rfl,k⟩:=yh h;obtain⟨l,u,t,p',rfl,m⟩:=dSl_of k;obtain⟨h1,h2,n⟩:=i8 m;obtain⟨h3,h4⟩:=an n;cases gC.mp h1;exact GU rSlc_ok (ia _ o h2) (il _ o h3) (ih _ o h4)
theorem sE_tup{es:CL}(ie:IHL CX G es):IHE CX G (.tup es):=by
  intro e E sc N all X o h;obtain⟨es',j,p,rfl,k⟩:=Ii h;exact pe_tup (ie _ o k)
theorem sE_lst{es:CL}(ie:IHL CX G es):IHE CX G (.lst es):=by
  intro e E sc N all X o h;obtain⟨es',p,rfl,k⟩:=dLi_of h;exact pe_lst (ie _ o k)
theorem Cu{f:Str}{es:CL}(ie:IHL CX G es):IHE CX G (.call f es):=by
  intro e E sc N all X o h;obtain⟨f',np,es',p,rfl,k⟩:=jv h;obtain⟨h1,h2,h3,h4⟩:=ou k;cases of_decide_eq_true h1;intro pins s σ H Q I hw;obtain⟨sp,dvs,hf,hw⟩:=hw;obtain⟨fa,fd,ps,ds,k,F,hr,hm,hk,hb,hd⟩:=o.fn _ _ _ _ hf;cases es' with
  |nil=>
   cases es with
   |nil=>exact Ee F hr (o.gl h2) hm hk hb hd o.pass (oX h3).1 pins s σ H Q I hw
   |cons=>exact dQ h4
  |cons e1 r1=>
   have hL:=ie _ o h4;obtain⟨_,_,e,hs⟩:=stars h4 rfl;cases e;exact GZ F hr (o.gl h2) hm hk hb hd o.pass hL (oX h3).1 (hs _ p).1 (hs _ _).2 pins s σ H Q I hw
theorem Bf.kind:∀b:Bf,(∃n,b.val=.builtin n)\/∃n,b.val=.type n:=by intro b;cases b<;>first |exact .inl ⟨_,rfl⟩ |exact .inr ⟨_,rfl⟩
theorem pe_bf{b:Bf}{np:Pos}{es:List Expr}{t:TA}{l:CL}(hB:fg X b.val (rBf X.K b))(hg:Gl X b.name)(hm:X.mg b.name=none)(hL:PA X es t)(hn:(!es.isEmpty)=true)(h:qC sc N l es=true):PE X (.Call (.Name b.name np) es [] pos) (tCB (rBf X.K b) t):=by
 obtain⟨e,es',rfl,hs⟩:=stars h hn;have hv:=b.boot;rcases b.kind with⟨n,q⟩ |⟨n,q⟩
 ·rw[q]at hB hv
  exact G0 hB hg hm hv hL b.plain.1 b.plain.2 (hs _ pos).1 (hs _ _).2
 ·rw[q]at hB hv
  exact Ed hB hg hm hv hL b.plain.1 b.plain.2 (hs _ pos).1 (hs _ _).2
theorem Gu{b:Bf}{es:CL}(ie:IHL CX G es):IHE CX G (.bfn b es):=by
  intro e E sc N all X o h;obtain⟨f',np,es',p,rfl,k⟩:=jv h;obtain⟨h1,h2,h3,h4⟩:=ou k;cases of_decide_eq_true h1;exact pe_bf (rBf_ok o.calm o.hu b) (o.gl h2) (o.blt _ b.mem) (ie _ o h4) h3 h4
theorem Gk{m:Mm}{b a:CE}(ib:IHE CX G b)(ia:IHE CX G a):IHE CX G (.meth1 m b a):=by
  intro e E sc N all X o h;obtain⟨o',ap,es,cp,rfl,h0,k⟩:=Ik h;obtain⟨a',rfl,l⟩:=kI k;obtain⟨h1,h2,h3⟩:=i8 l;exact pe_bm PySem.F.plainAttrs_list m.slot m.ty (rMm_ok m) (ib _ o h2) (fM (ia _ o h3) jY (bV h3 _ _)) (DD h1 _ _ _) (by rw[bV h3];rfl) h0 (bV h3 _ _) rfl
theorem sE_idxd{a i:CE}(ia:IHE CX G a)(ii:IHE CX G i):IHE CX G (.idxd a i):=by
  intro e E sc N all X o h;obtain⟨a',i',p,rfl,k⟩:=yh h;obtain⟨h1,h2,h3⟩:=i8 k;exact pe_ix (ix_dict (by have :=o.hu;omega)) (ia _ o h2) (ii _ o h3) (zw (rG h1))
theorem sE_dicT:IHE CX G .dicT:=by
  intro e E sc N all X o h;obtain⟨ks,vs,p,rfl,k⟩:=dDi_of h;obtain⟨h3,h4⟩:=an k;obtain rfl:=nil_of h3;obtain rfl:=nil_of h4;exact GX
theorem sE_setd{b a c:CE}(ib:IHE CX G b)(ia:IHE CX G a)(ic:IHE CX G c):IHE CX G (.setd b a c):=by
  intro e E sc N all X o h;obtain⟨o',ap,es,cp,rfl,h0,k⟩:=Ik h;obtain⟨a',b',rfl,l⟩:=tN k;obtain⟨h1,h2,m⟩:=i8 l;obtain⟨h3,h4⟩:=an m;exact pe_bm PySem.F.plainAttrs_dict uJ PySem.F.type_dict_setdefault (Eu (by have :=o.hu;omega)) (ib _ o h2) (fM (ia _ o h3) (fM (ic _ o h4) jY (bV h4 _ _)) (bV h3 _ _)) (DD h1 _ _ _) (by rw[bV h3,bV h4];rfl) h0 (bV h3 _ _) (by rw[bV h4];rfl)
theorem sE_lrng{a:CE}(ia:IHE CX G a):IHE CX G (.lrng a):=by
  intro e E sc N all X o h;obtain⟨p,a',q,r,t,rfl,h1,h2,h3⟩:=Il h;exact pe_lrng o.calm (o.gl h2) (o.blt _ (by decide+kernel)) (o.gl h1) (o.blt _ (by decide+kernel)) (fM (ia _ o h3) jY (bV h3 _ _)) (bV h3 _ _)
theorem Bj{a:CE}(ia:IHE CX G a):IHE CX G (.sortset a):=by
  intro e E sc N all X o h;obtain⟨p,a',q,r,t,rfl,h1,h2,h3⟩:=Il h;exact Bp o.calm (o.gl h1) (o.blt _ (by decide+kernel)) (o.gl h2) (o.blt _ (by decide+kernel)) (fM (ia _ o h3) jY (bV h3 _ _)) (bV h3 _ _)
theorem sE_comp(hCX:HX CX){own:List Str}{fr:List Nat}{tg:CG}{it:CI}{cond:CO}{elt:CE}(ii:IHI CX G it)(ig:IHG CX G tg)(ic:IHC CX G cond)(ie:IHE CX G elt):IHE CX G (.comp own fr tg it cond elt):=by
  intro e E sc N all X o h;obtain⟨elt',gs,sc',p,rfl,k⟩:=BR h;obtain⟨⟨tg',it',ifs',y⟩,rfl,l⟩:=kI k;obtain⟨h1,h2,h3,m⟩:=ou l;obtain⟨h4,h5,h6,h7⟩:=ou m;cases of_decide_eq_true h1;have S:=sT h2;exact pe_comp (S.comp o) (S.mkOk o) o.calm (ii _ _ o h4)
   (fun C s₀ H₀ fp _=>⟨ig _ (o.comp hCX S C s₀ H₀ fp) h5,ic _ (o.comp hCX S C s₀ H₀ fp) h6,ie _ (o.comp hCX S C s₀ H₀ fp) h7⟩) (xK (rG h3) _)
theorem sT_cmp{op:CmpOp}{a b:CE}(ia:IHE CX G a)(ib:IHE CX G b):IHT CX G (.cmp op a b):=by
  intro e E sc N all X o h;obtain⟨a',op',b',p,rfl,h0,k⟩:=Ip h;obtain⟨h1,h2,h3⟩:=i8 k;cases of_decide_eq_true h1;exact pt_cmpR (mY o.hu op) (ia _ o h2) (ib _ o h3) (m6 h0 op)
theorem Gd{o1 o2:CmpOp}{a b c:CE}(ia:IHE CX G a)(ib:IHE CX G b)(ic:IHE CX G c):IHT CX G (.chain o1 o2 a b c):=by
  intro e E sc N all X o h;obtain⟨a',os,es,p,rfl,k⟩:=BS h;obtain⟨p',q',rfl,l⟩:=tN k;obtain⟨b',c',rfl,m⟩:=tN l;obtain⟨h1,h2,h3,n⟩:=ou m;obtain⟨h4,h5,h6⟩:=i8 n;cases of_decide_eq_true h1;cases of_decide_eq_true h2;exact GI (mY o.hu o1) (mY o.hu o2) (ia _ o h4) (ib _ o h5) (ic _ o h6) (m6 (rG h3) o2)
theorem sT_not{a:CE}(ia:IHT CX G a):IHT CX G (.not a):=by
  intro e E sc N all X o h;obtain⟨op',a',p,rfl,k⟩:=Ih h;obtain⟨h1,h2⟩:=an k;cases of_decide_eq_true h1;exact pt_not (ia _ o h2)
theorem sT_var:IHT CX G (.var i):=by
  intro e E sc N all X o h;have q:=Gj e o h;obtain⟨x,p,rfl,k⟩:=lz h;exact kE q fun _=>rfl
theorem sT_con{c:Const}:IHT CX G (.con c):=by
  intro e E sc N all X o h;have q:=Gq e o h;obtain⟨x,j,p,rfl,k⟩:=Im h;exact kE q fun _=>rfl
theorem sT_glo:IHT CX G (.glo x):=by
  intro e E sc N all X o h;have q:=Gp e o h;obtain⟨x,p,rfl,k⟩:=lz h;exact kE q fun _=>rfl
theorem sT_idx{a i:CE}(ia:IHE CX G a)(ii:IHE CX G i):IHT CX G (.idx a i):=by
  intro e E sc N all X o h;have q:=Gn ia ii e o h;obtain⟨x,y,p,rfl,k⟩:=yh h;exact kE q fun _=>rfl
theorem sT_call{f:Str}{es:CL}(ie:IHL CX G es):IHT CX G (.call f es):=by
  intro e E sc N all X o h;have q:=Cu ie e o h;obtain⟨x,np,es,p,rfl,k⟩:=jv h;exact kE q fun _=>rfl
theorem sT_bfn{b:Bf}{es:CL}(ie:IHL CX G es):IHT CX G (.bfn b es):=by
  intro e E sc N all X o h;have q:=Gu ie e o h;obtain⟨x,np,es,p,rfl,k⟩:=jv h;exact kE q fun _=>rfl
theorem Gc{a b:CE}(ia:IHT CX G a)(ib:IHT CX G b)(iw:IHW CX G b):IHW CX G (.and a b):=by
  intro e E sc N all X o h;obtain⟨op,a',x,p,k,m⟩:=qB h;obtain⟨h1,h2,h3⟩:=i8 k;cases of_decide_eq_true h1;rcases m with rfl|⟨b',c',r,rfl,rfl⟩
  ·exact fun _=>GF (ia _ o h2) (pw_and1 (ib _ o h3))
  ·exact fun _=>GF (ia _ o h2) (iw _ o h3 rfl)
theorem sT_and{a b:CE}(iw:IHW CX G (.and a b)):IHT CX G (.and a b):=by
  intro e E sc N all X o h;obtain⟨op,a',x,p,k,m⟩:=qB h;exact(iw _ o h (by rcases m with rfl|⟨b',c',r,rfl,rfl⟩<;>rfl)).pt
theorem sW_or{a b:CE}(ia:IHT CX G a)(ib:IHT CX G b)(iw:IHW CX G b):IHW CX G (.or a b):=by
  intro e E sc N all X o h;obtain⟨op,a',x,p,k,m⟩:=qB h;obtain⟨h1,h2,h3⟩:=i8 k;cases of_decide_eq_true h1;rcases m with rfl|⟨b',c',r,rfl,rfl⟩
  ·exact fun _=>pw_or (ia _ o h2) (pw_or1 (ib _ o h3))
  ·exact fun _=>pw_or (ia _ o h2) (iw _ o h3 rfl)
theorem sT_or{a b:CE}(iw:IHW CX G (.or a b)):IHT CX G (.or a b):=by
  intro e E sc N all X o h;obtain⟨op,a',x,p,k,m⟩:=qB h;exact(iw _ o h (by rcases m with rfl|⟨b',c',r,rfl,rfl⟩<;>rfl)).pt
theorem sL_nil:IHL CX G .nil:=by
  intro es E sc N all X o h;obtain rfl:=pF h;exact jY
theorem sL_cons{c:CE}{r:CL}(ic:IHE CX G c)(ir:IHL CX G r):IHL CX G (.cons c r):=by
  intro es E sc N all X o h;obtain⟨e',r',rfl,h1,h2⟩:=m8 h;exact fM (ic _ o h1) (ir _ o h2) (bV h1 _ _)
theorem sP_nil:IHP CX G .nil:=by
  intro ks vs E sc N all X o h pos;obtain⟨h1,h2⟩:=an h;obtain rfl:=nil_of h1;obtain rfl:=nil_of h2;exact⟨pps_nil,rfl,rfl,fun z=>absurd rfl z⟩
theorem sP_cons{k v:CE}{r:CP}(ir:IHP CX G r)(ik:IHE CX G k)(iv:IHE CX G v):IHP CX G (.cons k v r):=by
  intro ks vs E sc N all X o h pos;obtain⟨k',ks',rfl,l⟩:=vA h;obtain⟨v',vs',rfl,m⟩:=vA l;obtain⟨k',rfl,n⟩:=G5 m;obtain⟨h1,h2,h3⟩:=i8 n;obtain⟨p1,p2,p3,_⟩:=ir _ _ o h3 pos;exact⟨GO (ik _ o h1) (iv _ o h2) p1,by simp[p2],by simp[p3],fun _=>by simp⟩
theorem sO_no:IHO CX G .no:=by
  intro e E sc N all X o h;obtain rfl:=gC.mp h;exact po_none
theorem sO_yes{c:CE}(ic:IHE CX G c):IHO CX G (.yes c):=by
  intro e E sc N all X o h;obtain⟨e',rfl,k⟩:=G5 h;exact po_some (ic _ o k)
theorem sC_no:IHC CX G .no:=by
  intro es E sc N all X o h;obtain rfl:=nil_of h;exact pts_nil
theorem sC_yes{c:CE}(ic:IHT CX G c):IHC CX G (.yes c):=by
  intro es E sc N all X o h;obtain⟨e',rfl,k⟩:=kI h;exact pts_one (ic _ o k)
theorem sG_name:IHG CX G (.name i):=by
  intro e E sc N all X o h;obtain⟨x,p,rfl,k⟩:=lz h;rw[aQ,cQ,beq_iff_eq,beq_iff_eq,beq_iff_eq]at k;obtain⟨h1,h2⟩:=k;refine CM (by rw[o.names];exact o.nd) (by rw[o.names];exact h1) ?_ ?_
  ·rcases h2 with q|q
   ·exact .inl (o.loc x q)
   ·exact .inr (o.cel x q)
  ·rcases h2 with q|q
   ·exact .inr (o.loc x q)
   ·exact .inl (o.own x q)
theorem sG_tup{gs:CGs}(ig:IX CX G gs):IHG CX G (.tup gs):=by
  intro e E sc N all X o h;obtain⟨es,j,p,rfl,k⟩:=Ii h;obtain⟨a,b⟩:=qY k X.env;exact pg_tup o.calm (ig _ o k) a b
theorem sGs_nil:IX CX G .nil:=by
  intro es E sc N all X o h;obtain rfl:=v8 h;exact pgs_nil
theorem Gh{c:CG}{r:CGs}(ic:IHG CX G c)(ir:IX CX G r):IX CX G (.cons c r):=by
  intro es E sc N all X o h;obtain⟨e',r',rfl,h1,h2⟩:=uj h;exact GR (ic _ o h1) (ir _ o h2) (by rw[o4 h1];rfl)
theorem sI_seq{c:CE}(ic:IHE CX G c):IHI CX G (.seq c):=by
  intro e tg E sc N all X o h;exact pi_any (ic _ o h)
theorem sI_lseq{c:CE}(ic:IHE CX G c):IHI CX G (.lseq c):=by
  intro e tg E sc N all X o h;exact pi_list (ic _ o h)
theorem D7{c:CE}(ic:IHE CX G c):IHI CX G (.range1 c):=by
  intro e tg E sc N all X o h;obtain⟨f,np,es,p,rfl,k⟩:=jv h;obtain⟨e',rfl,l⟩:=kI k;obtain⟨h1,h2,h3⟩:=i8 l;cases of_decide_eq_true h1;exact Ec (o.gl h2) (o.blt _ (by decide+kernel)) (fM (ic _ o h3) jY (bV h3 _ _)) (bV h3 _ _)
theorem D6{a b:CE}(ia:IHE CX G a)(ib:IHE CX G b):IHI CX G (.range2 a b):=by
  intro e tg E sc N all X o h;obtain⟨f,np,es,p,rfl,k⟩:=jv h;obtain⟨a',b',rfl,l⟩:=tN k;obtain⟨h1,h2,h3,h4⟩:=ou l;cases of_decide_eq_true h1;exact Eb (o.gl h2) (o.blt _ (by decide+kernel)) (fM (ia _ o h3) (fM (ib _ o h4) jY (bV h4 _ _)) (bV h3 _ _)) (by rw[bV h3,bV h4];rfl) (bV h4 _ _)
theorem vV(h:mx e=true):∃es k p,e=.Tuple es k p:=by cases e<;>first |exact⟨_,_,_,rfl⟩ |exact dQ h
theorem sI_zip3{a b c:CE}(ia:IHE CX G a)(ib:IHE CX G b)(ic:IHE CX G c):IHI CX G (.zip3 a b c):=by
  intro e tg E sc N all X o h;obtain⟨f,np,es,p,rfl,k⟩:=jv h;obtain⟨a',r,rfl,k⟩:=vA k;obtain⟨b',c',rfl,l⟩:=tN k;obtain⟨h1,h2,h3,l⟩:=ou l;obtain⟨h4,h5,h6⟩:=i8 l;cases of_decide_eq_true h1;obtain⟨es,j,p',rfl⟩:=vV h6;exact pi_zip3 (o.gl h2) (o.blt _ (by decide+kernel)) (fM (ia _ o h3) (fM (ib _ o h4) (fM (ic _ o h5) jY (bV h5 _ _)) (bV h4 _ _)) (bV h3 _ _)) (bV h3 _ _) (by rw[bV h4,bV h5];rfl)
theorem Gg{c:CE}(ic:IHE CX G c):IHI CX G (.enumt c):=by
  intro e tg E sc N all X o h;obtain⟨f,np,es,p,rfl,k⟩:=jv h;obtain⟨e',rfl,l⟩:=kI k;obtain⟨h1,h2,h3,h4⟩:=ou l;cases of_decide_eq_true h1;obtain⟨es,j,p',rfl⟩:=vV h4;exact GQ (o.gl h2) (o.blt _ (by decide+kernel)) (fM (ic _ o h3) jY (bV h3 _ _)) (bV h3 _ _)
mutual
theorem bN(hCX:HX CX):∀c:CE,IHE CX G c
 |.var i=>Gj
 |.con c=>Gq
 |.glo x=>Gp
 |.ty t=>sE_ty
 |.bin op a b=>sE_bin (bN hCX a) (bN hCX b)
 |.cmp op a b=>sE_cmp (bN hCX a) (bN hCX b)
 |.chain o1 o2 a b c=>Gs (bN hCX a) (bN hCX b) (bN hCX c)
 |.not a=>sE_not (bN hCX a)
 |.and a b=>sE_and (bN hCX a) (bN hCX b)
 |.or a b=>sE_or (bN hCX a) (bN hCX b)
 |.ite c a b=>sE_ite (iO hCX c) (bN hCX a) (bN hCX b)
 |.idx a i=>Gn (bN hCX a) (bN hCX i)
 |.cut a lo hi=>sE_cut (bN hCX a) (F7 hCX lo) (F7 hCX hi)
 |.tup es=>sE_tup (n6 hCX es)
 |.lst es=>sE_lst (n6 hCX es)
 |.call f es=>Cu (n6 hCX es)
 |.bfn b es=>Gu (n6 hCX es)
 |.meth1 m b a=>Gk (bN hCX b) (bN hCX a)
 |.idxd a i=>sE_idxd (bN hCX a) (bN hCX i)
 |.dicT=>sE_dicT
 |.setd b a c=>sE_setd (bN hCX b) (bN hCX a) (bN hCX c)
 |.lrng a=>sE_lrng (bN hCX a)
 |.sortset a=>Bj (bN hCX a)
 |.comp own fr tg it cond elt=>sE_comp hCX (Bd hCX it) (qk hCX tg) (F8 hCX cond) (bN hCX elt)
theorem iO(hCX:HX CX)(c:CE):IHT CX G c:=by
 cases c with
 |cmp op a b=>exact sT_cmp (bN hCX a) (bN hCX b)
 |chain p q a b c=>exact Gd (bN hCX a) (bN hCX b) (bN hCX c)
 |not a=>exact sT_not (iO hCX a)
 |and a b=>exact sT_and (Gc (iO hCX a) (iO hCX b) (xf hCX b))
 |or a b=>exact sT_or (sW_or (iO hCX a) (iO hCX b) (xf hCX b))
 |var i=>exact sT_var
 |con c=>exact sT_con
 |glo x=>exact sT_glo
 |idx a i=>exact sT_idx (bN hCX a) (bN hCX i)
 |call f es=>exact sT_call (n6 hCX es)
 |bfn b es=>exact sT_bfn (n6 hCX es)
 |_=>exact fun _ _ _ _ _ _ _ _ _ _ _ _ _ _ z=>z.elim
theorem xf(hCX:HX CX)(c:CE):IHW CX G c:=by
 cases c with
 |and a b=>exact Gc (iO hCX a) (iO hCX b) (xf hCX b)
 |or a b=>exact sW_or (iO hCX a) (iO hCX b) (xf hCX b)
 |_=>
  intro e E sc N all X o h hb;obtain⟨op,es,p,rfl⟩:=isBo_of hb;exact dQ h
theorem n6(hCX:HX CX):∀c:CL,IHL CX G c
 |.nil=>sL_nil
 |.cons c r=>sL_cons (bN hCX c) (n6 hCX r)
theorem soundP(hCX:HX CX):∀c:CP,IHP CX G c
 |.nil=>sP_nil
 |.cons k v r=>sP_cons (soundP hCX r) (bN hCX k) (bN hCX v)
theorem F7(hCX:HX CX):∀c:CO,IHO CX G c
 |.no=>sO_no
 |.yes c=>sO_yes (bN hCX c)
theorem F8(hCX:HX CX):∀c:CO,IHC CX G c
 |.no=>sC_no
 |.yes c=>sC_yes (iO hCX c)
theorem qk(hCX:HX CX):∀c:CG,IHG CX G c
 |.name i=>sG_name
 |.tup gs=>sG_tup (Cm hCX gs)
theorem Cm(hCX:HX CX):∀c:CGs,IX CX G c
 |.nil=>sGs_nil
 |.cons c r=>Gh (qk hCX c) (Cm hCX r)
theorem Bd(hCX:HX CX):∀c:CI,IHI CX G c
 |.seq c=>sI_seq (bN hCX c)
 |.lseq c=>sI_lseq (bN hCX c)
 |.range1 c=>D7 (bN hCX c)
 |.range2 a b=>D6 (bN hCX a) (bN hCX b)
 |.zip3 a b c=>sI_zip3 (bN hCX a) (bN hCX b) (bN hCX c)
 |.enumt c=>Gg (bN hCX c)
end
end
section
variable {CX:CXT}{G:Gam}
theorem tB{all:Bool}{g:CG}(h:vk sc N all g tg=true)(hn:(mx tg&&mx e)=false)(env:Env):swappedStores [tg] e env=pure none:=by
 cases tg with
 |Tuple es k p=>
  cases e<;>first
   |rfl
   | (exact absurd hn (by simp[mx]))
 |List es p=>cases g<;>exact dQ h
 |_=>rfl
theorem y9{a:Expr}{b:List Comprehension}{c:Scope}{d p:Pos}{l:Nat}{env:Env}(h:env.kindOf x≠some .local):r6 (.ListComp a b c d) (some (.Name x p)) l env=pure false:=by
 show(pure (env.blockKind== .function&&env.kindOf x==some .local&&p.line==d.line&& !(c.names.any fun(n,k)=>n==x&&(k== .local||k== .cell))):Sem Bool)=pure false;have e:(env.kindOf x==some eh.local)=false:=by simpa using h
 rw[e,iL,dG,dG]
theorem A9{a:Expr}{b:List Comprehension}{c:Scope}{d p:Pos}{l:Nat}{env:Env}(hk:env.scope.kind=.function)(h:env.kindOf x=some .local)(hl:p.line=d.line)
  (hn:(c.names.any fun y=>decide (y.1=x)&&(decide (y.2=.local)||decide (y.2=.cell)))=false):r6 (.ListComp a b c d) (some (.Name x p)) l env=pure true:=by
 show(pure (env.blockKind== .function&&env.kindOf x==some .local&&p.line==d.line&& !(c.names.any fun(n,k)=>n==x&&(k== .local||k== .cell))):Sem Bool)=pure true;have e1:env.blockKind=.function:=by unfold Env.blockKind;rw[hk];rfl
 have e2:(c.names.any fun(n,k)=>n==x&&(k==eh.local||k==cV))=false:=by
  rw[<-hn];congr 1
 rw[e1,h,hl,e2];simp
theorem BW{c:CE}(h:isCe c=true):∃own fr tg it cond elt,c=.comp own fr tg it cond elt:=by
 cases c with
 |comp own fr tg it cond elt=>exact⟨_,_,_,_,_,_,rfl⟩
 |_=>exact dQ h
theorem G9(h:tS e=false)(tg:Expr)(l:Nat)(env:Env):IZ [tg] e l env=pure false:=by
 unfold IZ;exact xN h _ _ _
structure OkL(G:Gam)(sc:Scope)(N:List Str)(X:Cx):Prop where
 names:X.N=N
 nd:N.Nodup
 loc:∀x,sc.names.lookup x=some .local->X.env.scope.names.lookup x=some .local
 cel:∀x,sc.names.lookup x=some .cell->X.env.scope.names.lookup x=some .cell
 fre:∀x,sc.names.lookup x=some .free->X.env.scope.names.lookup x=some .cell\/X.env.scope.names.lookup x=some .free
 glo:∀x,sc.names.lookup x=some .globalImplicit->X.env.scope.names.lookup x=some .globalImplicit
 all:∀x,X.fn x=true
 val:∀x v,G.val x=some v->∃u,X.mg x=some u/\RelV v u
 blt:∀x∈iM,X.mg x=none
mutual
theorem F6(hCX:HX CX):∀(c:CS)(st:Stmt){E:XS}{sc:Scope}{N:List Str}{X:Cx},Ok CX G E sc N true X->(∀pins σ H s,Inv X pins σ H s->X.env.scope.kind=.function)->chkS sc N c st=true->PS X st (wpS G X.K E c)
 |.asg g e,st,E,sc,N,X,o,hk,h=>by
  obtain⟨g',e',p,rfl,k⟩:=Iq h;obtain⟨h1,h2,h3,h4⟩:=ou k;exact GK (bN hCX e _ o h2) (qk hCX g _ o h1) (xN (rG h3) _ _ _) (tB h1 (rG h4) _) (by rw[o4 h1];rfl)
 |.asgc i e,st,E,sc,N,X,o,hk,h=>by
  obtain⟨h0,h⟩:=an h;obtain⟨g',e',sp,rfl,k⟩:=Iq h;obtain⟨x,p,rfl,l⟩:=lz k;obtain⟨a,b,c,d,rfl,m⟩:=BR l;obtain⟨h1,h2,h3,h4⟩:=ou m;rw[beq_iff_eq]at h1;rw[cQ,beq_iff_eq,beq_iff_eq]at h2;rw[cQ,beq_iff_eq]at h4;obtain⟨own,fr,tg,it,cond,elt,rfl⟩:=BW h0;by_cases hl:X.env.scope.names.lookup x=some .local
  ·rcases h4 with q|q
   ·rw[o.cel x q]at hl;cases hl
   obtain⟨q1,q2⟩:=an q;obtain⟨elt',gs,sc',p',e1,r1⟩:=BR h3;cases e1;obtain⟨⟨tg',it',ifs',y⟩,rfl,r2⟩:=kI r1;obtain⟨g0,g1,g2,r3⟩:=ou r2;obtain⟨g3,g4,g5,g6⟩:=ou r3;cases of_decide_eq_true g0;have S:=sT g1;intro pins s σ H D I hw;exact Bn (S.comp o) (S.mkOk o) o.calm (Bd hCX it _ _ o g3)
    (fun C s₀ H₀ fp _=>⟨qk hCX tg _ (o.comp hCX S C s₀ H₀ fp) g4,F8 hCX cond _ (o.comp hCX S C s₀ H₀ fp) g5,bN hCX elt _ (o.comp hCX S C s₀ H₀ fp) g6⟩)
    (by rw[o.names];exact o.nd) (by rw[o.names];exact h1) hl (A9 (hk pins σ H s I) hl (of_decide_eq_true q1) (rG q2)) (xK (rG g2) _) pins s σ H D I hw
  ·have hc:sc.names.lookup x=some .cell:=by
    rcases h2 with q|q
    ·exact absurd (o.loc x q) hl
    ·exact q
   exact ps_set (by rw[o.names];exact o.nd) (by rw[o.names];exact h1) (.inr (o.cel x hc)) (bN hCX _ _ o h3) (y9 (by rw[show X.env.kindOf x=_ from o.cel x hc];decide)) (.inl (o.all rfl x))
 |.expr e,st,E,sc,N,X,o,hk,h=>by
  obtain⟨e',p,rfl,k⟩:=dEx_of h;obtain⟨h1,h2⟩:=an k;exact ps_expr (bN hCX e _ o h1) (xN (rG h2) _ _ _)
 |.iff c a b,st,E,sc,N,X,o,hk,h=>by
  obtain⟨c',a',b',p,rfl,k⟩:=dIs_of h;obtain⟨h1,h2,h3⟩:=i8 k;exact ps_if (iO hCX c _ o h1) (ql hCX a _ o hk h2) (ql hCX b _ o hk h3)
 |.forr g it b,st,E,sc,N,X,o,hk,h=>by
  obtain⟨g',i',b',p,rfl,k⟩:=dFo_of h;obtain⟨h1,h2,h3,h4⟩:=ou k;exact ps_for o.px o.calm (Bd hCX it _ _ o h2) (qk hCX g _ o h1) (ql hCX b _ o hk h4) (xK (rG h3) _)
 |.ret e,st,E,sc,N,X,o,hk,h=>by
  obtain⟨r,p,rfl,k⟩:=Ij h;obtain⟨e',rfl,m⟩:=G5 k;exact ps_ret (bN hCX e _ o m)
 |.retN,st,E,sc,N,X,o,hk,h=>by
  obtain⟨r,p,rfl,k⟩:=Ij h;obtain rfl:=gC.mp k;exact ps_retN
 |.pass,st,E,sc,N,X,o,hk,h=>by
  cases st<;>first
   |exact ps_pass
   |exact dQ h
 |.brk,st,E,sc,N,X,o,hk,h=>by
  cases st<;>first
   |exact GJ
   |exact dQ h
 |.cont,st,E,sc,N,X,o,hk,h=>by
  cases st<;>first
   |exact zv
   |exact dQ h
theorem ql(hCX:HX CX):∀(c:CB)(st:List Stmt){E:XS}{sc:Scope}{N:List Str}{X:Cx},Ok CX G E sc N true X->(∀pins σ H s,Inv X pins σ H s->X.env.scope.kind=.function)->vm sc N c st=true->PSs X st (wpB G X.K E c)
 |.hole,_,_,_,_,_,_,_,_=>fun _ _ _ _ _ _ z=>z.elim
 |.nil,st,E,sc,N,X,o,hk,h=>by
  obtain rfl:=nil_of h;exact pss_nil
 |.cons s r,st,E,sc,N,X,o,hk,h=>by
  obtain⟨s',r',rfl,k⟩:=vA h;obtain⟨h1,h2⟩:=an k;exact sW (F6 hCX s _ o hk h1) (ql hCX r _ o hk h2)
end
end
structure GOk(P:Program)(w:World)(K:ah)(mg:Str->Option Value)(base:Heap)(CX:CXT)(k:Nat)(G:Gam):Prop where
 val:∀x v,G.val x=some v->∃u,mg x=some u/\RelV v u
 fn:∀x n sp dvs,G.fn x n=some (sp,dvs)->∃f fd ps ds j,j<=k/\jA P w K mg base CX j f fd ps sp/\mg x=some (.ref f)/\cU K (.ref f)=true/\Binds K fd ps ds/\bX dvs ds
 ini:∀x n C sp dvs,G.ini x n=some (C,sp,dvs)->∃f fd ps ds j,j+1<=k/\MkX K C f/\jA P w K mg base CX j f fd ps sp/\mg x=some (.ref C)/\Binds K fd ps ds/\bX dvs ds
 dic:∀a kvs,G.dic a=some kvs->DkIn P w K a kvs
 mak:∀x n C sp dvs,G.mak x n=some (C,sp,dvs)->∃f fd ps ds j,j+1<=k/\Mk K C f/\jA P w K mg base CX j f fd ps sp/\mg x=some (.ref C)/\Binds K fd ps ds/\bX dvs ds
 mth:∀m n C sp dvs,G.mth m n=some (C,sp,dvs)->∃f fd ps ds j,j<=k/\Cls K C/\Meth K C m f/\jA P w K mg base CX j f fd ps sp/\Binds K fd ps ds/\bX dvs ds
 blt:∀x∈iM,mg x=none
noncomputable def oY(N ps:List Str)(sc:Scope):Bool:=
 decide (sc.kind=.function)&&decide (sc.isCoroutine=false)&&decide (sc.isGenerator=false)&&decide N.Nodup&&decide (N.take ps.length=ps)&&
 ps.all (fun x=>sc.names.lookup x==some .local||sc.names.lookup x==some .cell)&&sc.names.all (fun y=>decide (y.2≠.free))
theorem zG{ps:List Str}(h:oY N ps sc=true):yC N ps sc:=by
 unfold oY at h;simp only[aQ,bC,decide_eq_true_eq,beq_iff_eq,cQ]at h;obtain⟨⟨⟨⟨⟨⟨h1,h2⟩,h3⟩,h4⟩,h5⟩,h6⟩,h7⟩:=h;exact⟨h1,h2,h3,h4,h5,h6,h7⟩
section
variable {P:Program}{w:World}{K:ah}{mg:Str->Option Value}{base:Heap}
theorem HQ{st:Stmt}{kV:Value}{an:Option Addr}{ps:List Str}{G:Gam}{sp:Sp}{code:CB}(lk:K.lookup f=some ⟨oc,od,.func (aK x qual (bD st) (bf st) (aP st) dV kV doc pm an cdv ct),osl⟩)(hcd:fo K cdv qual=true)(hd:oY N ps (aP st)=true)(hc:vm (aP st) N code (bf st)=true)
  (g:GOk P w K mg base (CXx P w) k G)(len:∀vs H Q E,sp vs H Q E->vs.length=ps.length)
  (h:∀vs H Q E,sp vs H Q E->wpB G K (fun _=>E) code {nx:=fun _ H'=>Q .non H',rt:=Q} (start N vs) H):jA P w K mg base (CXx P w) (k+1) f (aK x qual (bD st) (bf st) (aP st) dV kV doc pm an cdv ct) ps sp:=by
 have S:=zG hd;refine fn_of lk hcd S len fun A outer s H vs Q E hr hsp=>?_;have o:Ok (CXx P w) G (fun _=>E) (aP st) N true (vg (CXx P w) P w K mg base N qual (aP st) f cdv A outer s H E):=
  {names:=rfl,top:=fun _=>⟨rfl,rfl,rfl⟩,nd:=S.nd,loc:=fun _ z=>z,cel:=fun _ z=>z,fre:=fun y z=>absurd rfl (S.nofree _ (bq z)),glo:=fun _ z=>z,all:=fun _ _=>rfl,own:=fun _ _=>rfl,calm:=rfl,
   hu:=by have :=hr.units;show _+50<cLine;exact da (Nat.add_le_add_left (by decide) _) this
   val:=g.val
   fn:=fun y n sp' dvs e=>by
    obtain⟨f',fd',ps',ds',j,hj,F',hm,hk,hb,hv⟩:=g.fn y n sp' dvs e;exact⟨f',fd',ps',ds',j,F',hr.mono hj,hm,hk,hb,hv⟩
   ini:=fun y n C sp' dvs e=>by
    obtain⟨f',fd',ps',ds',j,hj,M,F',hm,hb,hv⟩:=g.ini y n C sp' dvs e;exact⟨f',fd',ps',ds',j,M,F',hr.mono hj,hm,hb,hv⟩
   dic:=g.dic
   mak:=fun y n C sp' dvs e=>by
    obtain⟨f',fd',ps',ds',j,hj,M,F',hm,hb,hv⟩:=g.mak y n C sp' dvs e;exact⟨f',fd',ps',ds',j,M,F',hr.mono hj,hm,hb,hv⟩
   mth:=fun y n C sp' dvs e=>by
    obtain⟨f',fd',ps',ds',j,hj,c,M,F',hb,hv⟩:=g.mth y n C sp' dvs e;exact⟨f',fd',ps',ds',j,c,M,F',hr.mono hj,hb,hv⟩
   blt:=g.blt,px:=DK,pass:=wx,made:=wy,madeX:=uF,cx:=rfl}
 exact⟨_,ql (fun _ _ _ _ _ z=>EN z) code _ o (fun _ _ _ _ _=>S.kind) hc,h vs H Q E hsp⟩
theorem Dg{st:Stmt}{fd:gu}{ps:List Str}{G:Gam}{sp:Sp}{code:CB}(F:Fun K x qual st f fd)(hd:oY N ps (aP st)=true)(hc:vm (aP st) N code (bf st)=true)
  (g:GOk P w K mg base (CXx P w) k G)(len:∀vs H Q E,sp vs H Q E->vs.length=ps.length)
  (h:∀vs H Q E,sp vs H Q E->wpB G K (fun _=>E) code {nx:=fun _ H'=>Q .non H',rt:=Q} (start N vs) H):jA P w K mg base (CXx P w) (k+1) f fd ps sp:=by
 obtain⟨oc,od,kV,doc,pm,an,cdv,ct,osl,rfl,lk,hcd⟩:=F.ex;exact HQ lk hcd hd hc g len h
end
end R
namespace R
open PySem PySem.Spec PyProof.Rows L2
noncomputable def gam(vals:List (Str×V))(fns:List ((Str×Nat)×(Sp×List V)))(inis:List ((Str×Nat)×(Addr×Sp×List V)):=[]) (dics:List (Addr×List (Key×V)):=[]) (maks mths:List ((Str×Nat)×(Addr×Sp×List V)):=[]):Gam:=⟨fun x=>vals.lookup x,fun x n=>fns.lookup (x,n),fun x n=>inis.lookup (x,n),fun a=>dics.lookup a,fun x n=>maks.lookup (x,n),fun m n=>mths.lookup (m,n)⟩
theorem zO{β:Type}{b:β}:∀{l:List (Addr×β)},l.lookup a=some b->(a,b)∈l
 | [],h=>nomatch h
 | (k,v)::l,h=>by
  rw[bw]at h;cases q:(a==k)with
  |true=>
   rw[q]at h;cases h;rw[beq_iff_eq.mp q];exact aB
  |false=>
   rw[q]at h;exact aJ _ (zO h)
section
variable {P:Program}{w:World}{K:ah}{mg:Str->Option Value}{base:Heap}{CX:CXT}
theorem GOk.start{vals:List (Str×V)}(hv:∀x v,(x,v)∈vals->∃u,mg x=some u/\RelV v u)(hb:∀x∈iM,mg x=none){dics:List (Addr×List (Key×V))}(hd:∀a kvs,(a,kvs)∈dics->DkIn P w K a kvs:=by intro a kvs h;exact nomatch h):GOk P w K mg base CX 0 (gam vals [] [] dics):=
 ⟨fun x v e=>hv x v (bq e),fun x n sp dvs e=>(nomatch e),fun x n C sp dvs e=>(nomatch e),fun a kvs e=>hd a kvs (zO (show jo a dics=some kvs from e)),fun x n C sp dvs e=>(nomatch e),fun x n C sp dvs e=>(nomatch e),hb⟩
theorem GOk.add{vals:List (Str×V)}{fns:List ((Str×Nat)×(Sp×List V))}{fd:gu}{ps:List Str}{sp:Sp}{dvs:List V}{inis maks mths:List ((Str×Nat)×(Addr×Sp×List V))}{dics:List (Addr×List (Key×V))}(g:GOk P w K mg base CX k (gam vals fns inis dics maks mths))
  (F:jA P w K mg base CX (k+1) f fd ps sp)(hm:mg x=some (.ref f))(hk:cU K (.ref f)=true)(hb:Binds K fd ps ds)(hd:bX dvs ds):GOk P w K mg base CX (k+1) (gam vals (((x,n),(sp,dvs))::fns) inis dics maks mths):=by
 refine⟨g.val,fun y m sp' dvs' e=>?_,fun y m C sp' dvs' e=>?_,g.dic,fun y m C sp' dvs' e=>?_,fun y m C sp' dvs' e=>?_,g.blt⟩
 rotate_left
 rotate_left
 ·obtain⟨f',fd',ps',ds',j,hj,r⟩:=g.mak y m C sp' dvs' e
  exact⟨f',fd',ps',ds',j,fj hj,r⟩
 ·obtain⟨f',fd',ps',ds',j,hj,r⟩:=g.mth y m C sp' dvs' e
  exact⟨f',fd',ps',ds',j,fj hj,r⟩
 rotate_left
 ·obtain⟨f',fd',ps',ds',j,hj,r⟩:=g.ini y m C sp' dvs' e
  exact⟨f',fd',ps',ds',j,fj hj,r⟩
 have e':jo (y,m) (((x,n),(sp,dvs))::fns)=some (sp',dvs'):=e;rw[bw]at e';cases q:((y,m)==(x,n))with
 |true=>
  rw[q]at e';have e2:(y,m)=(x,n):=eq_of_beq q;cases e2;cases e';exact⟨f,fd,ps,ds,k+1,aA _,F,hm,hk,hb,hd⟩
 |false=>
  rw[q]at e';obtain⟨f',fd',ps',ds',j,hj,r⟩:=g.fn y m sp' dvs' e';exact⟨f',fd',ps',ds',j,fj hj,r⟩
end
section
variable {K:ah}{H:Hp}{Q:VK}{i j:Int}
theorem IP:i5 K .Add (.int i) (.int j) H Q↔Q (.int (i+j)) H:=by
 simp[i5,rI0,rCat]
theorem sub_ii:i5 K .Sub (.int i) (.int j) H Q↔Q (.int (i-j)) H:=by simp[i5,rI0]
theorem mul_ii:i5 K .Mult (.int i) (.int j) H Q↔B6 i j/\Q (.int (i*j)) H:=by simp[i5,rI,rRep,rRepS]
theorem xQ:i5 K .Mod (.int i) (.int j) H Q↔0<j/\Q (.int (i%j)) H:=by simp[i5,rI]
theorem div_ii:i5 K .FloorDiv (.int i) (.int j) H Q↔IY i j/\Q (.int (i/j)) H:=by simp[i5,rI]
theorem pow_ii:i5 K .Pow (.int i) (.int j) H Q↔E7 i j/\Q (.int (i^j.toNat)) H:=by simp[i5,rI]
theorem shr_ii:i5 K .RShift (.int i) (.int j) H Q↔0<=j/\Q (.int (i/2^j.toNat)) H:=by simp[i5,rI]
theorem add_ss{y:Str}:i5 K .Add (.str x) (.str y) H Q↔x.length+y.length<=sizeLine/\Q (.str (x++y)) H:=by simp[i5,rI0,rCat]
theorem Hl:fZ K .Lt (.int i) (.int j) H Q↔Q (.bl (decide (i<j))) H:=by simp[fZ,rI0,rLtS]
theorem Ho:fZ K .LtE (.int i) (.int j) H Q↔Q (.bl (decide (i<=j))) H:=by simp[fZ,rI0]
theorem HI:fZ K .Gt (.int i) (.int j) H Q↔Q (.bl (decide (j<i))) H:=by simp[fZ,rI0]
theorem CC{d:D}:Rep K H d (.int i)↔d=.int i:=by
 cases d<;>simp[Rep,eq_comm]
theorem my:fZ K .Eq (.int i) (.int j) H Q↔Q (.bl (decide (i=j))) H:=by
 simp only[fZ,rEqD,CC];constructor
 ·rintro⟨_,_,rfl,rfl,_,q⟩;exact q
 ·intro q;exact⟨_,_,rfl,rfl,aX _,q⟩
theorem Hb:fZ K .NotEq (.int i) (.int j) H Q↔Q (.bl (!decide (i=j))) H:=by
 simp only[fZ,rNeD,CC];constructor
 ·rintro⟨_,_,rfl,rfl,_,q⟩;exact q
 ·intro q;exact⟨_,_,rfl,rfl,aX _,q⟩
theorem isnot_n{x:V}:fZ K .IsNot x .non H Q↔Q (.bl (!decide (x=.non))) H:=by simp[fZ]
theorem len_s:rBf K .len [.str z] H Q↔z.length<=sizeLine/\Q (.int z.length) H:=by simp[rBf]
theorem idx_s:rIx K (.str z) (.int i) H Q↔∃c,z.length<=sizeLine/\atI z.cps.toList i=some c/\Q (.str ⟨#[c]⟩) H:=by
 simp[rIx,rIxL,rIxT,rIxS]
theorem cut_s{lo hi:Option Int}:rSlc K (.str z) lo hi H Q↔z.length<=sizeLine/\Q (.str (BU z lo hi)) H:=by
 simp[rSlc,rSlL,rSlS]
end
structure qF(J:It)(n:Nat)(it:Nat->V->Hp->Prop)(Hc:Hp->Prop):Prop where
 go:∀i H,Hc H->i<n->J.go i H
 stop:∀i H,Hc H->n<=i->J.stop i H
 yld:∀i H x H',Hc H->i<n->J.yld i H x H'->it i x H'/\aO H H'
section
variable {K:ah}
theorem dj:qF (Itl K a) xs.length (fun i x _=>xs[i]? =some x) (fun H=>SqL K H a xs) where
 go:=fun i H h hi=>⟨xs,xs[i],h,by simp[hi]⟩
 stop:=fun i H h hi=>⟨xs,h,hi⟩
 yld:=fun i H x H' h hi y=>by
  obtain⟨e,y⟩:=y;subst e;exact⟨y xs h,aO.refl _⟩
theorem xm:qF (Itt K a) xs.length (fun i x _=>xs[i]? =some x) (fun H=>SqT K H a xs) where
 go:=fun i H h hi=>⟨xs,xs[i],h,by simp[hi]⟩
 stop:=fun i H h hi=>⟨xs,h,hi⟩
 yld:=fun i H x H' h hi y=>by
  obtain⟨e,y⟩:=y;subst e;exact⟨y xs h,aO.refl _⟩
theorem dJ{lo:Int}:qF (Itr lo n) n (fun i x _=>x=.int (lo+i)) (fun _=>True) where
 go:=fun i H _ hi=>hi
 stop:=fun i H _ hi=>hi
 yld:=fun i H x H' _ hi y=>by
  obtain⟨e,y⟩:=y;subst e;exact⟨y,aO.refl _⟩
theorem seq_str:qF (Its z) z.length (fun i x _=>∃c,z.cps[i]? =some c/\x=.str ⟨#[c]⟩) (fun _=>True) where
 go:=fun i H _ hi=>hi
 stop:=fun i H _ hi=>hi
 yld:=fun i H x H' _ hi y=>by
  obtain⟨e,y⟩:=y;subst e;exact⟨y,aO.refl _⟩
theorem aC{p:Addr}{o:HO}(h:H p=none):aO H (upd H p o):=fun b u e=>by rw[a7 (bH e h)];exact e
theorem By{p:Addr}{o:HO}(h:upd H p o=H1)(hp:H p=none):aO H H1/\H1 p=some o:=by subst h;exact⟨aC hp,ax⟩
noncomputable def ForB(J:It)(g:TG)(tb:TS)(D:Ends)(σ:L2.St)(H:Hp):Prop:=∃W:Nat->Nat->L2.St->Hp->Prop,(∃m,W 0 m σ H)/\∀i m σ H,W i m σ H->
 (J.stop i H/\D.nx σ H)\/(J.go i H/\∃N:L2.St->Hp->Prop,(∀σ' H',N σ' H'->∃m',m'<m/\W (i+1) m' σ' H')/\∀x H',J.yld i H x H'->g x σ H' fun σ2 H2=>tb {D with nx:=N,ct:=N,bk:=D.nx} σ2 H2)
noncomputable def AF(J:It)(g:TG)(tc:TT)(te:TE)(τ0:L2.St)(H1:Hp)(Q:VK):Prop:=∃W:Nat->Nat->L2.St->List V->Hp->Prop,(∃m,W 0 m τ0 [] H1)/\
 ∀i m τ acc H2,W i m τ acc H2->(J.stop i H2/\∀l,H2 l=none->Q (.ref l) (upd H2 l (.lst acc)))\/(J.go i H2/\∃N:L2.St->List V->Hp->Prop,(∀τ' acc' H',N τ' acc' H'->∃m',m'<m/\W (i+1) m' τ' acc' H')/\
  ∀x H3,J.yld i H2 x H3->g x τ H3 fun τ4 H4=>tc τ4 H4 fun b H5=>if b=true then te τ4 H5 fun v H6=>acc.length<sizeLine/\N τ4 (acc++[v]) H6 else N τ4 acc H5)
theorem De{J:It}{it:Nat->V->Hp->Prop}{Hc:Hp->Prop}{g:TG}{tb:TS}{D:Ends}(S:qF J n it Hc)(Pv:Nat->L2.St->Hp->Prop)(h0:Pv 0 σ H)(hl:∀i σ H,i<=n->Pv i σ H->Hc H)
  (hs:∀i x σ H H',i<n->Pv i σ H->it i x H'->aO H H'->g x σ H' fun σ2 H2=>tb {D with nx:=Pv (i+1),ct:=Pv (i+1),bk:=D.nx} σ2 H2) (hd:∀σ H,Pv n σ H->D.nx σ H):
  ForB J g tb D σ H:=by
 refine⟨fun i m σ H=>m=n-i/\i<=n/\Pv i σ H,⟨n,by simp,aX _,h0⟩,?_⟩;rintro i m σ H ⟨rfl,hi,p⟩;have q:=hl i σ H hi p;by_cases hlt:i<n
 ·refine .inr ⟨S.go i H q hlt,Pv (i+1),fun σ' H' p'=>⟨n-(i+1),by omega,rfl,hlt,p'⟩,fun x H' y=>?_⟩
  obtain⟨y1,y2⟩:=S.yld i H x H' q hlt y;exact hs i x σ H H' hlt p y1 y2
 ·have e:i=n:=by omega
  subst e;exact .inl ⟨S.stop i H q (aA _),hd σ H p⟩
theorem c9{J:It}{it:Nat->V->Hp->Prop}{Hc:Hp->Prop}{g:TG}{te:TE}{Q:VK}{τ0:L2.St}(S:qF J n it Hc)(hn:n<=sizeLine)(hc:∀H,aO H1 H->Hc H)
  (F:Nat->V->Hp->Prop)(Fm:∀i v H H',aO H H'->F i v H->F i v H')(T:L2.St->Prop)(hT:T τ0)
  (step:∀i x τ H3 (R:L2.St->V->Hp->Prop),i<n->T τ->aO H1 H3->it i x H3->(∀τ' v H6,T τ'->aO H3 H6->F i v H6->R τ' v H6)->g x τ H3 fun τ4 H4=>te τ4 H4 (R τ4))
  (fin:∀vs H2 l,vs.length=n->(∀(i:Nat) v,vs[i]? =some v->F i v H2)->aO H1 H2->H2 l=none->Q (.ref l) (upd H2 l (.lst vs))):
  AF J g tYes te τ0 H1 Q:=by
 refine⟨fun i m τ acc H2=>m=n-i/\i<=n/\T τ/\acc.length=i/\aO H1 H2/\∀(k:Nat) v,acc[k]? =some v->F k v H2,⟨n,by simp,aX _,hT,rfl,aO.refl _,fun k v e=>by simp at e⟩,?_⟩;rintro i m τ acc H2 ⟨rfl,hi,ht,hl,sm,hF⟩;have q:=hc H2 sm;by_cases hlt:i<n
 ·refine .inr ⟨S.go i H2 q hlt,fun τ' acc' H'=>T τ'/\acc'.length=i+1/\aO H1 H'/\∀(k:Nat) v,acc'[k]? =some v->F k v H',fun τ' acc' H' ⟨a,b,c,d⟩=>⟨n-(i+1),by omega,rfl,hlt,a,b,c,d⟩,fun x H3 y=>?_⟩
  obtain⟨y1,y2⟩:=S.yld i H2 x H3 q hlt y;refine step i x τ H3 (fun τ' v H6=>acc.length<sizeLine/\T τ'/\(acc++[v]).length=i+1/\aO H1 H6/\∀(k:Nat) v',(acc++[v])[k]? =some v'->F k v' H6) hlt ht (sm.trans y2) y1 fun τ' v H6 ht' s6 f6=>⟨by omega,ht',by simp[hl],(sm.trans y2).trans s6,fun k v' e=>?_⟩;by_cases hk:k<acc.length
  ·rw[dW hk]at e
   exact Fm k v' H2 H6 (y2.trans s6) (hF k v' e)
  ·rw[cZ (by omega)]at e
   have hk0:k-acc.length=0:=by
    have :=(aH.mp e).1
    simp at this;omega
   rw[hk0]at e;have hk':k=i:=by omega
   simp at e;subst e;rw[hk'];exact f6
 ·have e:i=n:=by omega
  subst e;exact .inl ⟨S.stop i H2 q (aA _),fun l hl'=>fin acc H2 l hl hF sm hl'⟩
theorem cM{wi:TI}{g:TG}{tc:TT}{te:TE}{mk:L2.St->L2.St}{Q:VK}(h:wi σ H fun J H1=>AF J g tc te (mk σ) H1 Q):qN wi g tc te mk σ H Q:=h
theorem iT{wi:TI}{g:TG}{tb:TS}{D:Ends}(h:wi σ H fun J H1=>ForB J g tb D σ H1):tFor wi g tb D σ H:=h
theorem AB{R:It->Hp->Prop}(hv:σ[i]? =some (some (.str z)))(h:R (Its z) H):zY K (lV i) σ H R:=⟨_,hv,.inr (.inr ⟨z,rfl,h⟩)⟩
theorem bQ{R:It->Hp->Prop}(hv:σ[i]? =some (some (.ref a)))(hq:SqL K H a xs)(h:R (Itl K a) H):zY K (lV i) σ H R:=⟨_,hv,.inl ⟨a,rfl,⟨xs,hq⟩,h⟩⟩
theorem rq{R:It->Hp->Prop}(hv:σ[i]? =some (some (.ref a)))(hq:SqT K H a xs)(h:R (Itt K a) H):zY K (lV i) σ H R:=⟨_,hv,.inr (.inl ⟨a,rfl,⟨xs,hq⟩,h⟩)⟩
theorem bool_list{vs:List V}{b:Nat->Bool}(hl:vs.length=n)(h:∀(i:Nat) v,vs[i]? =some v->v=.bl (b i)):vs=((aw n).map b).map V.bl:=by
 apply bR
 ·simp[hl]
 ·intro i h1 h2
  have :=h i vs[i] (by simp[h1])
  simp[this]
theorem pT{α:Type}(l:List α)(d:α)(f:α->Bool):((aw l.length).map fun i=>f (l.getD i d)).all id=l.all f:=by
 rw[sx,cb];simp only[bC,aM,Function.comp,id];constructor
 ·intro h c hc
  obtain⟨i,hi,rfl⟩:=cD.mp hc;have :=h i hi;rw[af,aa hi]at this;exact this
 ·intro h i hi
  have :=h _ (bx hi)
  rw[af,aa hi];exact this
theorem getD_some{α:Type}{l:List α}{d x:α}(h:l[i]? =some x):l.getD i d=x:=by
 rw[af,h];rfl
theorem kL:∀ns:List Int,eW (ns.map D.int)=0
 | []=>rfl
 |n::ns=>by rw[bA,eW,kL ns];rfl
end
noncomputable def HasFn(K:ah)(x:Str)(st:Stmt):Prop:=∃(f:Addr)(oc:Value)(od an:Option Addr)(osl:Array (Option Value))(kV doc pm cdv ct:Value),eI K bP x=some (some (.ref f))/\
 K.lookup f=some ⟨oc,od,.func (aK x x (bD st) (bf st) (aP st) .none kV doc pm an cdv ct),osl⟩/\fo K cdv x=true/\cU K (.ref f)=true
theorem HH{st:Stmt}{an:Option Addr}{kV:Value}(a:eI K bP x=some (some (.ref f)))
  (l:K.lookup f=some ⟨oc,od,.func (aK x x (bD st) (bf st) (aP st) .none kV doc pm an cdv ct),osl⟩)(c:fo K cdv x=true)(k:cU K (.ref f)=true):HasFn K x st:=
 ⟨f,oc,od,an,osl,kV,doc,pm,cdv,ct,a,l,c,k⟩
structure Def(K:ah)(mg:Str->Option Value)(x:Str)(st:Stmt):Prop where
 ex:∃f fd,Fun K x x st f fd/\mg x=some (.ref f)
theorem HasFn.def{st:Stmt}(X:K.In h)(Gm:h.Ns bP mg)(H:HasFn K x st):Def K mg x st:=by
 obtain⟨f,oc,od,an,osl,kV,doc,pm,cdv,ct,a,l,c,k⟩:=H;exact⟨f,_,BO l c k,eY X Gm a⟩
section
variable {P:Program}{w:World}{K:ah}{mg:Str->Option Value}{base:Heap}
theorem de{vals:List (Str×V)}{fns:List ((Str×Nat)×(Sp×List V))}{st:Stmt}{ps:List Str}{sp:Sp}{code:CB}{inis maks mths:List ((Str×Nat)×(Addr×Sp×List V))}{dics:List (Addr×List (Key×V))}(g:GOk P w K mg base (CXx P w) k (gam vals fns inis dics maks mths))(d:Def K mg x st)
  (hc:(oY N ps (aP st)&&vm (aP st) N code (bf st))=true)
  (hb:∀(kV doc pm:Value)(an:Option Addr)(cdv ct:Value)(us:List Value),us.length=ps.length->oB (aK x x (bD st) (bf st) (aP st) .none kV doc pm an cdv ct) ⟨us,[]⟩=pure (ps.zip us))
  (len:∀vs H Q E,sp vs H Q E->vs.length=ps.length)
  (h:∀vs H Q E,sp vs H Q E->wpB (gam vals fns inis dics maks mths) K (fun _=>E) code {nx:=fun _ H'=>Q .non H',rt:=Q} (L2.start N vs) H):GOk P w K mg base (CXx P w) (k+1) (gam vals (((x,ps.length),(sp,[]))::fns) inis dics maks mths):=by
 rw[aQ]at hc;obtain⟨f,fd,F,hm⟩:=d.ex;exact g.add (n:=ps.length) (Dg F hc.1 hc.2 g len h) hm F.kp (F.binds hb) .nil
end
end R
variable {G:R.Gam}
set_option hygiene false in
local macro_rules | `(tactic| walk_at "wp") => `(tactic| simp only [_root_.R.wpB, _root_.R.wpS, _root_.R.wpE, _root_.R.wpT, _root_.R.wpL, _root_.R.wpO, _root_.R.wpC, _root_.R.wpG, _root_.R.wpGs, _root_.R.wpI, _root_.L2.uY, _root_.L2.tRet, _root_.L2.FT, _root_.L2.y6, _root_.L2.wX, _root_.L2.FW, _root_.L2.tIfS, _root_.L2.FZ, _root_.L2.tOrV, _root_.L2.FV, _root_.L2.tNot, _root_.L2.tAnd, _root_.L2.tOr, _root_.L2.sI, _root_.R.A7, _root_.L2.tIf, _root_.L2.tCB, _root_.L2.iZ, _root_.L2.qh, _root_.L2.lV, _root_.L2.tC, _root_.L2.tOp, _root_.L2.sL, _root_.L2.tTup, _root_.L2.tLst, _root_.L2.y8, _root_.L2.tBM, _root_.L2.tBM0, _root_.L2.tSl, _root_.L2.FU, _root_.L2.wW, _root_.R.cv, _root_.L2.kM, _root_.L2.gTup, _root_.L2.HK, _root_.L2.gNil, _root_.R.CGs.len, _root_.L2.HF, _root_.L2.HE, _root_.L2.HG, _root_.L2.iEnum, _root_.List.getElem?_cons_zero, _root_.List.getElem?_cons_succ, _root_.Option.some.injEq, _root_.exists_eq_left', _root_.exists_eq_left, _root_.L2.V.bl.injEq, _root_.L2.V.int.injEq, _root_.L2.V.str.injEq, _root_.List.set_cons_zero, _root_.List.set_cons_succ, _root_.R.CL.len, _root_.R.Ty.t, _root_.R.IP, _root_.R.sub_ii, _root_.R.mul_ii, _root_.R.xQ, _root_.R.div_ii, _root_.R.pow_ii, _root_.R.shr_ii, _root_.R.add_ss, _root_.R.Hl, _root_.R.Ho, _root_.R.HI, _root_.R.my, _root_.R.Hb, _root_.R.isnot_n, _root_.R.len_s, _root_.R.idx_s, _root_.R.cut_s, _root_.List.append_nil, _root_.R.i4, _root_.List.map_cons, _root_.List.map_nil, _root_.List.nil_append, _root_.List.cons_append])
namespace Cp
open PySem R
noncomputable def Bs:List Str:=["thing"]
noncomputable def tG:List Str:=["thing"]
noncomputable def uC:CB:=
  (.cons (.ret (.and (.bfn .isinstance (.cons (.var 0) (.cons (.ty .int) .nil))) (.not (.bfn .isinstance (.cons (.var 0) (.cons (.ty .bool) .nil))))))
  .nil)
noncomputable def Ef:List Str:=["thing"]
noncomputable def vP:List Str:=["thing"]
noncomputable def v9:CB:=
  (.cons (.iff (.not (.bfn .isinstance (.cons (.var 0) (.cons (.ty .str) .nil))))
  (.cons (.ret (.con (.bool false)))
  .nil)
  .nil)
  (.cons (.iff (.not (.chain .LtE .LtE (.con (.int 1)) (.bfn .len (.cons (.var 0) .nil)) (.glo "LONGEST_NAME")))
  (.cons (.ret (.con (.bool false)))
  .nil)
  .nil)
  (.cons (.ret (.bfn .all (.cons (.comp ["sign"] [] (.name 0) (.seq (.var 0)) .no (.cmp .In (.var 0) (.glo "LETTERS"))) .nil)))
  .nil)))
noncomputable def xC:List Str:=["thing"]
noncomputable def o9:List Str:=["thing"]
noncomputable def pM:CB:=
  (.cons (.ret (.and (.call "is_whole" (.cons (.var 0) .nil)) (.cmp .In (.var 0) (.tup (.cons (.con (.int 0)) (.cons (.con (.int 1)) .nil))))))
  .nil)
noncomputable def tf:List Str:=["thing"]
noncomputable def mo:List Str:=["thing"]
noncomputable def mT:CB:=
  (.cons (.iff (.or (.not (.bfn .isinstance (.cons (.var 0) (.cons (.ty .tuple) .nil)))) (.cmp .Gt (.bfn .len (.cons (.var 0) .nil)) (.glo "MOST_PLACES")))
  (.cons (.ret (.con (.bool false)))
  .nil)
  .nil)
  (.cons (.ret (.bfn .all (.cons (.comp ["part"] [] (.name 0) (.seq (.var 0)) .no (.call "is_reading" (.cons (.var 0) .nil))) .nil)))
  .nil))
end Cp
set_option maxHeartbeats 1000000
namespace Cp
open PySem PySem.Spec PyProof.Rows L2 R
noncomputable def gB:Option HO->String
 |some (.lst _)=>"list"
 |some (.frz _ (.lst _))=>"list"
 |some (.tup _)=>"tuple"
 |some (.dK _)=>"dict"
 |some (.dT _)=>"dict"
 |_=>"?"
noncomputable def tyName(H:Hp):V->String
 |.non=>"NoneType"
 |.bl _=>"bool"
 |.int _=>"int"
 |.str _=>"str"
 |.ref a=>gB (H a)
 |_=>"?"
noncomputable def Known(H:Hp)(x:V):Prop:=tyName H x≠"?"
theorem Known.same{x:V}(h:Known H x)(s:aO H H'):Known H' x/\tyName H' x=tyName H x:=by
 cases x with
 |ref a=>
  have h':gB (H a)≠"?":=h;show gB (H' a)≠"?"/\gB (H' a)=gB (H a);cases e:H a with
  |none=>rw[e]at h';exact absurd rfl h'
  |some o=>rw[s a o e];rw[e]at h';exact⟨h',rfl⟩
 |_=>exact⟨h,rfl⟩
theorem Known.ty{x:V}(h:Known H x):lY K H x (.type (tyName H x)):=by
 cases x with
 |non=>exact .non
 |bl b=>exact .bl b
 |int i=>exact .int i
 |str s=>exact .str s
 |ref a=>
  have h':gB (H a)≠"?":=h;show lY K H (.ref a) (.type (gB (H a)));cases e:H a with
  |none=>rw[e]at h';exact absurd rfl h'
  |some o=>
   rw[e]at h';cases o with
   |lst xs=>exact .lst e
   |tup xs=>exact .tup e
   |dK kvs=>exact .dK e
   |dT kvs=>exact .dT e
   |frz ob u=>
    cases u with
    |lst xs=>exact .frz e
    |_=>exact absurd rfl h'
   |_=>exact absurd rfl h'
 |_=>exact absurd rfl h
theorem Known.mem{x:V}(h:Known H x):tyName H x∈["NoneType","bool","int","str","list","tuple","dict"]:=by
 cases x with
 |ref a=>
  have h':gB (H a)≠"?":=h;show gB (H a)∈_;cases e:H a with
  |none=>rw[e]at h';exact absurd rfl h'
  |some o=>
   rw[e]at h';cases o with
   |lst xs=>simp[gB]
   |tup xs=>simp[gB]
   |dK kvs=>simp[gB]
   |dT kvs=>simp[gB]
   |frz ob u=>
    cases u with
    |lst xs=>simp[gB]
    |_=>exact absurd rfl h'
   |_=>exact absurd rfl h'
 |_=>first
  |exact absurd rfl h
  |simp[tyName]
noncomputable def jM(a b:String):Bool:=a==b||(a=="bool"&&b=="int")
theorem kit_ty(K:ah):∀(a:String)(t:Ty),a∈["NoneType","bool","int","str","list","tuple","dict"]->iy K (.type a) (.type t.t)=some (jM a t.t):=by
 intro a t h;simp only[av,bB,or_false]at h;rcases h with rfl|rfl|rfl|rfl|rfl|rfl|rfl<;>cases t<;>rfl
theorem isi{x:V}{Q:VK}(h:Known H x)(t:Ty)(q:Q (.bl (jM (tyName H x) t.t)) H):rBf K .isinstance [x,.ty t.t] H Q:=
 .inl ⟨x,t.t,_,_,rfl,h.ty,kit_ty K _ t h.mem,q⟩
theorem xY{i:Int}:Known H (.int i):=by show "int"≠"?";decide
theorem kn_str:Known H (.str x):=by show "str"≠"?";decide
theorem BG(h:H a=some (.tup xs)):Known H (.ref a):=by show gB (H a)≠"?";rw[h];show "tuple"≠"?";decide
theorem Hr(h:H a=some (.lst xs)):Known H (.ref a):=by show gB (H a)≠"?";rw[h];show "list"≠"?";decide
theorem fG{o:HO}(s:aO H H1)(h:H l=none):aO H (upd H1 l o):=fun b u e=>by rw[a7 (bH e h)];exact s b u e
noncomputable def isWhole:V->Bool
 |.int _=>true
 |_=>false
noncomputable def cu:V->Bool
 |.int i=>i==0||i==1
 |_=>false
noncomputable def spB(f:V->Bool):Sp:=fun vs H Q _=>∃x,vs=[x]/\Known H x/\∀H',aO H H'->Q (.bl (f x)) H'
theorem sub_int{x:V}(h:Known H x):(jM (tyName H x) "int"&& !jM (tyName H x) "bool")=isWhole x:=by
 cases x with
 |ref a=>
  have h':gB (H a)≠"?":=h;show(jM (gB (H a)) "int"&& !jM (gB (H a)) "bool")=false;unfold gB;split <;>rfl
 |_=>rfl
theorem yS:Sat G K (spB isWhole) uC tG:=by
 rintro vs H Q E ⟨x,rfl,hk,q⟩;unfold uC;change wpB G K _ _ _ [some x] H;walk_at "wp";refine isi hk .int ⟨_,rfl,?_⟩;have e:=sub_int hk;cases h1:jM (tyName H x) "int" with
 |false=>
  rw[h1,dG]at e;have q1:=q H (aO.refl H);rw[<-e]at q1;simpa[Ty.t,h1]using q1
 |true=>
  rw[h1,fm]at e;have q1:=q H (aO.refl H);rw[<-e]at q1;simp only[Ty.t,h1,if_true];exact isi hk .bool ⟨_,rfl,q1⟩
theorem uW(g1:G.fn "is_whole" 1=some (spB isWhole,[])):
  Sat G K (spB cu) pM o9:=by
 rintro vs H Q E ⟨x,rfl,hk,q⟩;unfold pM;change wpB G K _ _ _ [some x] H;walk_at "wp";refine⟨_,_,g1,x,rfl,hk,fun H1 s1=>⟨_,rfl,?_⟩⟩;cases x with
 |int i=>
  refine⟨by decide,fun p hp=>.inr ⟨p,_,rfl,.inr (SqT.of ax),rfl,rfl,?_⟩⟩;have q1:=q _ (s1.trans (aC (o:=.tup [.int 0,.int 1]) hp));have e:(if false=true then !inV (.int i) [.int 0,.int 1]else inV (.int i) [.int 0,.int 1])=cu (.int i):=by
   show((0:Int)==i||((1:Int)==i||false))=(i==0||i==1);rw[Bool.or_false,Bool.beq_comm,Bool.beq_comm (a:=(1:Int))]
  rw[e];exact q1
 |_=>exact q H1 s1
noncomputable def iR(c:Nat):Bool:=decide (97<=c/\c<=122)
noncomputable def gY(z:Str):Bool:=decide (1<=z.length/\z.length<=8)&&z.cps.toList.all iR
noncomputable def isName:V->Bool
 |.str z=>gY z
 |_=>false
noncomputable def LETTERS:Str:="abcdefghijklmnopqrstuvwxyz"
theorem zS(c:Nat):decide (c∈LETTERS.cps.toList)=iR c:=by
 unfold iR;rw[show LETTERS.cps.toList=List.range' 97 26 by decide+kernel,decide_eq_decide,List.mem_range'_1];exact⟨fun h=>⟨h.1,Nat.le_of_lt_succ h.2⟩,fun h=>⟨h.1,Nat.lt_succ_of_le h.2⟩⟩
theorem BL{c:Nat}{Q:VK}(q:Q (.bl (iR c)) H):fZ K .In (.str ⟨#[c]⟩) (.str LETTERS) H Q:=by
 refine .inl (.inl ⟨_,_,rfl,rfl,?_⟩);rw[StrLaws.found_one,zS];exact q
theorem BC:(20000:Nat)<=sizeLine:=by decide
noncomputable def spN:Sp:=fun vs H Q _=>∃x,vs=[x]/\Known H x/\(∀z,x=.str z->z.length<=20000)/\∀H',aO H H'->Q (.bl (isName x)) H'
theorem sub_str{x:V}(h:Known H x):jM (tyName H x) "str"=(match x with |.str _=>true|_=>false):=by
 cases x with
 |ref a=>
  show jM (gB (H a)) "str"=false;unfold gB;split <;>rfl
 |_=>rfl
theorem AZ(v1:G.val "LETTERS"=some (.str LETTERS))(v2:G.val "LONGEST_NAME"=some (.int 8)):
  Sat G K spN v9 vP:=by
 rintro vs H Q E ⟨x,rfl,hk,hz,q⟩;unfold v9;change wpB G K _ _ _ [some x] H;walk_at "wp";refine isi hk .str ⟨_,rfl,?_⟩;rw[show Ty.t .str="str" from rfl,sub_str hk];cases x with
 |str z=>
  have hz:=hz z rfl;have hl:z.length<=sizeLine:=aT hz BC;have all:∀R:VK,(∀H',aO H H'->R (.bl (z.cps.toList.all iR)) H')->qN (zY K (lV 0)) (kM 0) tYes (tOp (fZ K .In) (lV 0) fun σ H Q=>∃v,G.val "LETTERS"=some v/\Q v H) (i4 ["sign"] []) [some (.str z)] H fun x H2=>rBf K .all [x] H2 R:=by
   intro R hR;refine cM (AB rfl (c9 seq_str hl (fun _ _=>trivial) (fun i v _=>v=.bl (iR (z.cps.toList.getD i 0))) (fun _ _ _ _ _ h=>h) (fun τ=>∃t,τ=[t]) ⟨none,rfl⟩ ?_ ?_))
   ·rintro i x τ H3 R hi ⟨t,rfl⟩ s3 ⟨c,hc,rfl⟩ k
    refine⟨_,rfl,_,v1,BL (k _ _ _ ⟨_,rfl⟩ (aO.refl _) ?_)⟩;have :z.cps.toList[i]? =some c:=by simpa using hc
    rw[af,this];rfl
   ·intro vs H2 l hvl hF s2 hl2
    have e:=bool_list hvl hF;subst e;refine⟨l,_,rfl,SqL.of ax,?_⟩;have e2:((aw z.length).map fun i=>iR (z.cps.toList.getD i 0)).all id=z.cps.toList.all iR:=by
     have :=pT z.cps.toList 0 iR
     rw[show z.cps.toList.length=z.length by simp[Str.length]]at this;exact this
    rw[e2];exact hR _ (s2.trans (aC hl2))
  simp only[eM,aS,if_false,v2,jB,exists_eq_left',exists_eq_left,V.bl.injEq,V.int.injEq,Ho,len_s,hl,true_and];have q':∀H',aO H H'->Q (.bl (gY z)) H':=q;unfold gY at q';by_cases h1:1<=z.length
  ·by_cases h2:z.length<=8
   ·have e1:decide ((1:Int)<=z.length)=true:=decide_eq_true (by omega)
    have e2:decide ((z.length:Int)<=8)=true:=decide_eq_true (by omega);rw[decide_eq_true (And.intro h1 h2),fm]at q';simp only[e1,e2,if_true,eM,aS,if_false];exact all Q q'
   ·have e1:decide ((1:Int)<=z.length)=true:=decide_eq_true (by omega)
    have e2:decide ((z.length:Int)<=8)=false:=decide_eq_false (by omega);rw[decide_eq_false (fun h=>h2 h.2),dG]at q';simp only[e1,e2,if_true,Bool.not_false];exact q' H (aO.refl H)
  ·have e1:decide ((1:Int)<=z.length)=false:=decide_eq_false (by omega)
   rw[decide_eq_false (fun h=>h1 h.1),dG]at q';simp only[e1,aS,if_false,Bool.not_false,if_true];exact q' H (aO.refl H)
 |_=>exact q H (aO.refl H)
noncomputable def dA:Option HO->Option (List V)
 |some (.tup xs)=>some xs
 |_=>none
theorem lu{o:Option HO}(h:dA o=some xs):o=some (.tup xs):=by
 unfold dA at h;split at h
 ·cases h;rfl
 ·cases h
theorem vC(o:Option HO):jM (gB o) "tuple"=(dA o).isSome:=by
 unfold gB;split <;>first
  |rfl
  |skip
 unfold dA;split <;>simp_all
 rfl
noncomputable def dB(H:Hp):V->Bool
 |.ref a=>match dA (H a)with
  |some xs=>decide (xs.length<=60)&&xs.all cu
  |none=>false
 |_=>false
noncomputable def spR:Sp:=fun vs H Q _=>∃x,vs=[x]/\Known H x/\(∀a xs,x=.ref a->H a=some (.tup xs)->xs.length<=20000/\∀y∈xs,Known H y)/\∀H',aO H H'->Q (.bl (dB H x)) H'
theorem rD(g1:G.fn "is_reading" 1=some (spB cu,[]))(v1:G.val "MOST_PLACES"=some (.int 60)):
  Sat G K spR mT mo:=by
 rintro vs H Q E ⟨x,rfl,hk,hx,q⟩;unfold mT;change wpB G K _ _ _ [some x] H;walk_at "wp";refine isi hk .tuple ⟨_,rfl,?_⟩;rw[show Ty.t .tuple="tuple" from rfl];cases x with
 |ref a=>
  show if(!jM (gB (H a)) "tuple")=true then _ else _
  rw[vC];have q0:∀H',aO H H'->Q (.bl (match dA (H a)with |some xs=>decide (xs.length<=60)&&xs.all cu|none=>false)) H':=q;cases e0:dA (H a)with
  |none=>
   rw[e0]at q0;exact q0 H (aO.refl H)
  |some xs=>
    rw[e0]at q0;have e:=lu e0;have q':∀H',aO H H'->Q (.bl (decide (xs.length<=60)&&xs.all cu)) H':=q0;obtain⟨hl,hy⟩:=hx a xs rfl e;have hl':xs.length<=sizeLine:=aT hl BC;simp only[gR,eM,aS,if_false];refine Or.inl ⟨a,xs,rfl,.inr (SqT.of e),_,v1,?_⟩;rw[HI];refine⟨_,rfl,?_⟩;by_cases hle:xs.length<=60
    ·rw[decide_eq_true hle,fm]at q'
     have e1:decide ((60:Int)<xs.length)=false:=decide_eq_false (by omega);rw[e1];simp only[aS,if_false];refine cM (rq rfl (SqT.of e) (c9 xm hl' (fun H1 s1=>s1.tup (SqT.of e)) (fun i v _=>v=.bl (cu (xs.getD i .non))) (fun _ _ _ _ _ h=>h) (fun τ=>∃t,τ=[t]) ⟨none,rfl⟩ ?_ ?_))
     ·rintro i y τ H3 R hi ⟨t,rfl⟩ s3 hy3 k
      have hym:y∈xs:=aI hy3;exact⟨_,_,g1,y,rfl,y,rfl,((hy y hym).same s3).1,fun H4 s4=>k _ _ _ ⟨_,rfl⟩ s4 (by rw[getD_some hy3])⟩
     ·intro vs H2 l hvl hF s2 hl2
      have e:=bool_list hvl hF;subst e;refine⟨l,_,rfl,SqL.of ax,?_⟩;rw[pT xs .non cu];exact q' _ (s2.trans (aC hl2))
    ·rw[decide_eq_false hle,dG]at q'
     have e1:decide ((60:Int)<xs.length)=true:=decide_eq_true (by omega);rw[e1];simpa using q' H (aO.refl H)
 |_=>exact q H (aO.refl H)
end Cp
namespace Cp
open PySem R
noncomputable def Eg:List Str:=["thing"]
noncomputable def vQ:List Str:=["thing"]
noncomputable def wa:CB:=
  (.cons (.iff (.or (.not (.bfn .isinstance (.cons (.var 0) (.cons (.ty .tuple) .nil)))) (.cmp .NotEq (.bfn .len (.cons (.var 0) .nil)) (.con (.int 2))))
  (.cons (.ret (.con (.bool false)))
  .nil)
  .nil)
  (.cons (.ret (.and (.call "is_name" (.cons (.idx (.var 0) (.con (.int 0))) .nil)) (.call "are_readings" (.cons (.idx (.var 0) (.con (.int 1))) .nil))))
  .nil))
noncomputable def Bt:List Str:=["thing"]
noncomputable def tH:List Str:=["thing","names","counts"]
noncomputable def uD:CB:=
  (.cons (.iff (.or (.not (.bfn .isinstance (.cons (.var 0) (.cons (.ty .list) .nil)))) (.cmp .Gt (.bfn .len (.cons (.var 0) .nil)) (.glo "MOST_COPIES")))
  (.cons (.ret (.con (.bool false)))
  .nil)
  .nil)
  (.cons (.iff (.not (.bfn .all (.cons (.comp ["part"] [] (.name 0) (.seq (.var 0)) .no (.call "is_copy" (.cons (.var 0) .nil))) .nil)))
  (.cons (.ret (.con (.bool false)))
  .nil)
  .nil)
  (.cons (.asgc 1 (.comp ["name","readings"] [] (.tup (.cons (.name 0) (.cons (.name 1) .nil))) (.seq (.var 0)) .no (.var 0)))
  (.cons (.asgc 2 (.comp ["name","readings"] [] (.tup (.cons (.name 0) (.cons (.name 1) .nil))) (.seq (.var 0)) .no (.bfn .len (.cons (.var 1) .nil))))
  (.cons (.ret (.and (.cmp .Eq (.bfn .len (.cons (.bfn .set (.cons (.var 1) .nil)) .nil)) (.bfn .len (.cons (.var 1) .nil))) (.cmp .LtE (.bfn .len (.cons (.bfn .set (.cons (.var 2) .nil)) .nil)) (.con (.int 1)))))
  .nil)))))
noncomputable def xA:List Str:=["table"]
noncomputable def o7:List Str:=["table"]
noncomputable def pH:CB:=
  (.cons (.iff (.not (.call "is_table" (.cons (.var 0) .nil)))
  .hole
  .nil)
  .nil)
noncomputable def u7:List Str:=["table"]
noncomputable def nH:List Str:=["table"]
noncomputable def nN:CB:=
  (.cons (.expr (.call "need_table" (.cons (.var 0) .nil)))
  (.cons (.iff (.cmp .Eq (.bfn .len (.cons (.var 0) .nil)) (.con (.int 0)))
  (.cons (.ret (.con (.int 0)))
  .nil)
  .nil)
  (.cons (.ret (.bfn .len (.cons (.idx (.idx (.var 0) (.con (.int 0))) (.con (.int 1))) .nil)))
  .nil)))
end Cp
namespace Cp
open PySem PySem.Spec PyProof.Rows L2 R
noncomputable def Kn1(H:Hp)(x:V):Prop:=Known H x/\∀z,x=.str z->z.length<=20000
noncomputable def Kn2(H:Hp)(x:V):Prop:=Kn1 H x/\∀a xs,x=.ref a->H a=some (.tup xs)->xs.length<=20000/\∀y∈xs,Kn1 H y
noncomputable def Kn3(H:Hp)(x:V):Prop:=Kn1 H x/\∀a xs,x=.ref a->H a=some (.tup xs)->xs.length<=20000/\∀y∈xs,Kn2 H y
noncomputable def eB:Option HO->Option (List V)
 |some (.lst xs)=>some xs
 |some (.frz _ (.lst xs))=>some xs
 |_=>none
noncomputable def Kn4(H:Hp)(x:V):Prop:=Kn1 H x/\∀a xs,x=.ref a->eB (H a)=some xs->xs.length<=20000/\∀y∈xs,Kn3 H y
theorem wD{o:HO}(s:aO H H')(k:H a≠none)(h:H' a=some o):H a=some o:=by
 cases e:H a with
 |none=>exact absurd e k
 |some u=>rw[s a u e]at h;exact h
theorem Known.some(k:Known H (.ref a)):H a≠none:=fun e=>by
 have k':gB (H a)≠"?":=k;rw[e]at k';exact k' rfl
theorem Kn1.same{x:V}(h:Kn1 H x)(s:aO H H'):Kn1 H' x:=⟨(h.1.same s).1,h.2⟩
theorem Kn2.same{x:V}(h:Kn2 H x)(s:aO H H'):Kn2 H' x:=⟨h.1.same s,fun a xs e hx=>by
 subst e;obtain⟨l,k⟩:=h.2 a xs rfl (wD s h.1.1.some hx);exact⟨l,fun y hy=>(k y hy).same s⟩⟩
theorem Kn3.same{x:V}(h:Kn3 H x)(s:aO H H'):Kn3 H' x:=⟨h.1.same s,fun a xs e hx=>by
 subst e;obtain⟨l,k⟩:=h.2 a xs rfl (wD s h.1.1.some hx);exact⟨l,fun y hy=>(k y hy).same s⟩⟩
theorem wH{x:V}(h:Known H x)(s:aO H H'):dB H' x=dB H x:=by
 cases x with
 |ref a=>
  show(match dA (H' a)with |some xs=>_|none=>_)=(match dA (H a)with |some xs=>_|none=>_);cases e:H a with
  |none=>exact absurd e h.some
  |some o=>rw[s a o e]
 |_=>rfl
noncomputable def dw(H:Hp):V->Bool
 |.ref a=>match dA (H a)with
  |some [n,r]=>isName n&&dB H r
  |_=>false
 |_=>false
theorem ER{x:V}(h:Kn3 H x)(s:aO H H'):dw H' x=dw H x:=by
 cases x with
 |ref a=>
  show(match dA (H' a)with |some [n,r]=>_|_=>_)=(match dA (H a)with |some [n,r]=>_|_=>_);cases e:H a with
  |none=>exact absurd e h.1.1.some
  |some o=>
   rw[s a o e];cases o with
   |tup xs=>
    match xs with
    | []=>rfl
    | [_]=>rfl
    | [n,r]=>
     have k:=(h.2 a _ rfl e).2 r (by simp);show(isName n&&dB H' r)=(isName n&&dB H r);rw[wH k.1.1 s]
    |_::_::_::_=>rfl
   |_=>rfl
 |_=>rfl
noncomputable def spC:Sp:=fun vs H Q _=>∃x,vs=[x]/\Kn3 H x/\∀H',aO H H'->Q (.bl (dw H x)) H'
theorem A0(g1:G.fn "is_name" 1=some (spN,[]))(g2:G.fn "are_readings" 1=some (spR,[])):
  Sat G K spC wa vQ:=by
 rintro vs H Q E ⟨x,rfl,hk,q⟩;unfold wa;change wpB G K _ _ _ [some x] H;walk_at "wp";refine isi hk.1.1 .tuple ⟨_,rfl,?_⟩;rw[show Ty.t .tuple="tuple" from rfl];cases x with
 |ref a=>
  show if(!jM (gB (H a)) "tuple")=true then _ else _
  rw[vC];have q0:∀H',aO H H'->Q (.bl (match dA (H a)with |some [n,r]=>isName n&&dB H r|_=>false)) H':=q;cases e0:dA (H a)with
  |none=>
   rw[e0]at q0;exact q0 H (aO.refl H)
  |some xs=>
   have e:=lu e0;rw[e0]at q0;obtain⟨hl,hy⟩:=hk.2 a xs rfl e;simp only[gR,eM,aS,if_false];refine Or.inl ⟨a,xs,rfl,.inr (SqT.of e),?_⟩;show fZ K .NotEq (.int (xs.length:Int)) (.int 2) H _;rw[Hb];refine⟨_,rfl,?_⟩
   match xs,hl,hy,e,q0 with
   | [],_,_,_,q0=>exact q0 H (aO.refl H)
   | [_],_,_,_,q0=>exact q0 H (aO.refl H)
   |_::_::_::r,_,_,_,q0=>
    rw[if_pos (by simp;omega)];exact q0 H (aO.refl H)
   | [n,r],_,hy,e,q0=>
    rw[if_neg (by simp)];have kn:=hy n (by simp);have kr:=hy r (by simp);refine⟨_,_,g1,.inr (.inl ⟨a,[n,r],0,n,rfl,rfl,SqT.of e,rfl,n,rfl,kn.1.1,kn.1.2,fun H1 s1=>⟨_,rfl,?_⟩⟩)⟩;have q1:∀H',aO H H'->Q (.bl (isName n&&dB H r)) H':=q0;cases en:isName n with
    |false=>
     rw[en,dG]at q1;rw[if_neg aE];exact q1 H1 s1
    |true=>
     rw[en,fm]at q1;rw[if_pos rfl];have kr1:=kr.same s1;refine⟨_,_,g2,.inr (.inl ⟨a,[n,r],1,r,rfl,rfl,s1.tup (SqT.of e),rfl,r,rfl,kr1.1.1,fun b ys eb hb=>?_,fun H2 s2=>?_⟩)⟩
     ·obtain⟨l,k⟩:=kr1.2 b ys eb hb
      exact⟨l,fun y hy=>(k y hy).1⟩
     ·rw[wH kr.1.1 s1]
      exact q1 H2 (s1.trans s2)
 |_=>exact q H (aO.refl H)
theorem zQ{vs:List V}{f:V->V}(hl:vs.length=xs.length)(h:∀(i:Nat) v,vs[i]? =some v->v=f (xs.getD i .non)):vs=xs.map f:=by
 apply bR
 ·simp[hl]
 ·intro i h1 h2
  have h3:i<xs.length:=by omega
  have :=h i vs[i] (by simp[h1])
  rw[this,bo,af,aa h3];rfl
theorem vO:∀(l:List Str),(l.map (fh:Str->Key)).Nodup↔l.Nodup
 | []=>by simp
 |x::l=>by
  rw[bA,cy,cy,vO l];have e:fh x∈l.map (fh:Str->Key)↔x∈l:=by
   constructor
   ·intro h
    obtain⟨y,hy,e⟩:=az.mp h;injection e with e
    rw[<-e];exact hy
   ·exact fun h=>az.mpr ⟨x,h,rfl⟩
  rw[e]
theorem kK(h:eB (H a)=some xs):SqL K H a xs:=by
 unfold eB at h;split at h
 ·rename_i e;cases h;exact .inl (.inl e)
 ·rename_i o _ e;cases h;exact .inl (.inr ⟨o,e⟩)
 ·cases h
theorem F0(o:Option HO):jM (gB o) "list"=(eB o).isSome:=by
 unfold gB;split <;>first
  |rfl
  |skip
 unfold eB;split <;>simp_all
 rfl
noncomputable def aW(H:Hp):V->Str
 |.ref a=>match dA (H a)with
  |some (.str z::_)=>z
  |_=>""
 |_=>""
noncomputable def cI(H:Hp):V->Nat
 |.ref a=>match dA (H a)with
  |some [_,.ref b]=>(dA (H b)).elim 0 jq
  |_=>0
 |_=>0
theorem gI{x:V}(h:dw H x=true):∃a z b ys,x=.ref a/\H a=some (.tup [.str z,.ref b])/\H b=some (.tup ys)/\gY z=true/\ys.length<=60/\(∀y∈ys,cu y=true)/\aW H x=z/\cI H x=ys.length:=by
 cases x with
 |ref a=>
  have h':(match dA (H a)with |some [n,r]=>isName n&&dB H r|_=>false)=true:=h;split at h'
  ·rename_i n r e
   rw[aQ]at h';obtain⟨h1,h2⟩:=h';cases n with
   |str z=>
    cases r with
    |ref b=>
     have h3:(match dA (H b)with |some xs=>decide (xs.length<=60)&&xs.all cu|none=>false)=true:=h2;split at h3
     ·rename_i ys eb
      rw[aQ,decide_eq_true_eq,bC]at h3;refine⟨a,z,b,ys,rfl,lu e,lu eb,h1,h3.1,h3.2,?_,?_⟩
      ·show(match dA (H a)with |some (.str z::_)=>z|_=>"")=z
       rw[e]
      ·show(match dA (H a)with |some [_,.ref b]=>(dA (H b)).elim 0 jq|_=>0)=ys.length
       rw[e];show(dA (H b)).elim 0 jq=ys.length;rw[eb];rfl
     ·cases h3
    |_=>cases h2
   |_=>cases h1
  ·cases h'
 |_=>cases h
noncomputable def dR(H:Hp):V->Bool
 |.ref a=>match eB (H a)with
  |some xs=>decide (xs.length<=40)&&(xs.all (dw H)&&(decide ((xs.map (aW H)).Nodup)&&decide (∀y∈xs,∀z∈xs,cI H y=cI H z)))
  |none=>false
 |_=>false
noncomputable def spT:Sp:=fun vs H Q _=>∃x,vs=[x]/\Kn4 H x/\∀H',aO H H'->Q (.bl (dR H x)) H'
theorem yT(g1:G.fn "is_copy" 1=some (spC,[]))(v1:G.val "MOST_COPIES"=some (.int 40)):
  Sat G K spT uD tH:=by
 rintro vs H Q E ⟨x,rfl,hk,q⟩;unfold uD;change wpB G K _ _ _ [some x,none,none] H;walk_at "wp";refine isi hk.1.1 .list ⟨_,rfl,?_⟩;rw[show Ty.t .list="list" from rfl];cases x with
 |ref a=>
  show if(!jM (gB (H a)) "list")=true then _ else _
  rw[F0];have q0:∀H',aO H H'->Q (.bl (match eB (H a)with |some xs=>decide (xs.length<=40)&&(xs.all (dw H)&&(decide ((xs.map (aW H)).Nodup)&&decide (∀y∈xs,∀z∈xs,cI H y=cI H z))) |none=>false)) H':=q;cases e0:eB (H a)with
  |none=>
   rw[e0]at q0;exact q0 H (aO.refl H)
  |some xs=>
   rw[e0]at q0;obtain⟨hl,hy⟩:=hk.2 a xs rfl e0;have hl':xs.length<=sizeLine:=aT hl BC;simp only[gR,eM,aS,if_false];refine Or.inl ⟨a,xs,rfl,.inl (kK e0),_,v1,?_⟩;rw[HI];refine⟨_,rfl,?_⟩;by_cases hle:xs.length<=40
   ·rw[decide_eq_false (by omega:¬(40:Int)<xs.length),if_neg aE]
    have qq:∀H',aO H H'->Q (.bl (xs.all (dw H)&&(decide ((xs.map (aW H)).Nodup)&&decide (∀y∈xs,∀z∈xs,cI H y=cI H z)))) H':=fun H' s'=>by
     have z:Q (.bl (decide (xs.length<=40)&&(xs.all (dw H)&&(decide ((xs.map (aW H)).Nodup)&&decide (∀y∈xs,∀z∈xs,cI H y=cI H z))))) H':=q0 H' s';rw[decide_eq_true hle,fm]at z;exact z
    have sq:∀{H1:Hp},aO H H1->SqL K H1 a xs:=fun s1=>s1.seq (kK e0);refine cM (bQ rfl (kK e0) (c9 dj hl' (fun H1 s1=>sq s1) (fun i v _=>v=.bl (dw H (xs.getD i .non))) (fun _ _ _ _ _ h=>h) (fun τ=>∃t,τ=[t]) ⟨none,rfl⟩ ?_ ?_))
    ·rintro i y τ H3 R hi ⟨t,rfl⟩ s3 hy3 k
     have ky:=hy y (aI hy3);exact⟨_,_,g1,y,rfl,y,rfl,ky.same s3,fun H4 s4=>k _ _ _ ⟨_,rfl⟩ s4 (by rw[getD_some hy3,ER ky s3])⟩
    intro vs H2 l hvl hF s2 hl2;have e:=bool_list hvl hF;subst e;refine⟨l,_,rfl,SqL.of ax,_,rfl,?_⟩;rw[pT xs .non (dw H)];have s3:aO H (upd H2 l (.lst (((aw xs.length).map fun i=>dw H (xs.getD i .non)).map V.bl))):=s2.trans (aC hl2);generalize upd H2 l (.lst (((aw xs.length).map fun i=>dw H (xs.getD i .non)).map V.bl))=H3 at s3;cases ea:xs.all (dw H)with
    |false=>
     rw[ea,dG]at qq;rw[if_pos (by rfl)];exact qq H3 s3
    |true=>
     rw[ea,fm]at qq;rw[if_neg (by simp)];rw[bC]at ea;have sh:∀{i:Nat}{y:V},xs[i]? =some y->∃a z b ys,y=.ref a/\H a=some (.tup [.str z,.ref b])/\H b=some (.tup ys)/\aW H y=z/\cI H y=ys.length:=fun hy3=>by
      obtain⟨a,z,b,ys,h1,h2,h3,_,_,_,h7,h8⟩:=gI (ea _ (aI hy3));exact⟨a,z,b,ys,h1,h2,h3,h7,h8⟩
     refine cM (bQ rfl (sq s3) (c9 dj hl' (fun H1 s1=>sq (s3.trans s1)) (fun i v _=>v=.str (aW H (xs.getD i .non))) (fun _ _ _ _ _ h=>h) (fun τ=>∃t u,τ=[t,u]) ⟨none,none,rfl⟩ ?_ ?_))
     ·rintro i y τ H4 R hi ⟨t,u,rfl⟩ s4 hy3 k
      obtain⟨b,z,c,ys,rfl,h1,h2,h3,h4⟩:=sh hy3;refine⟨b,_,rfl,(s3.trans s4).tup (SqT.of h1),rfl,_,_,rfl,_,_,rfl,rfl,_,rfl,k _ _ _ ⟨_,_,rfl⟩ (aO.refl _) ?_⟩;rw[getD_some hy3,h3]
     intro vs1 H4 l1 hvl1 hF1 s4 hl4;have e1:vs1=xs.map fun y=>V.str (aW H y):=zQ hvl1 hF1;subst e1;have s5:aO H (upd H4 l1 (.lst (xs.map fun y=>V.str (aW H y)))):=s3.trans (s4.trans (aC hl4));have n1:SqL K (upd H4 l1 (.lst (xs.map fun y=>V.str (aW H y)))) l1 (xs.map fun y=>V.str (aW H y)):=SqL.of ax;generalize upd H4 l1 (.lst (xs.map fun y=>V.str (aW H y)))=H5 at s5 n1;refine cM (bQ rfl (sq s5) (c9 dj hl' (fun H1 s1=>sq (s5.trans s1)) (fun i v _=>v=.int (cI H (xs.getD i .non))) (fun _ _ _ _ _ h=>h) (fun τ=>∃t u,τ=[t,u]) ⟨none,none,rfl⟩ ?_ ?_))
     ·rintro i y τ H6 R hi ⟨t,u,rfl⟩ s6 hy3 k
      obtain⟨b,z,c,ys,rfl,h1,h2,h3,h4⟩:=sh hy3;refine⟨b,_,rfl,(s5.trans s6).tup (SqT.of h1),rfl,_,_,rfl,_,_,rfl,rfl,_,rfl,Or.inl ⟨c,ys,rfl,.inr ((s5.trans s6).tup (SqT.of h2)),k _ _ _ ⟨_,_,rfl⟩ (aO.refl _) ?_⟩⟩;rw[getD_some hy3,h4]
     intro vs2 H6 l2 hvl2 hF2 s6 hl6;have e2:vs2=xs.map fun y=>V.int (cI H y):=zQ hvl2 hF2;subst e2;have s7:aO H5 (upd H6 l2 (.lst (xs.map fun y=>V.int (cI H y)))):=s6.trans (aC hl6);have n2:SqL K (upd H6 l2 (.lst (xs.map fun y=>V.int (cI H y)))) l2 (xs.map fun y=>V.int (cI H y)):=SqL.of ax;generalize upd H6 l2 (.lst (xs.map fun y=>V.int (cI H y)))=H7 at s7 n2;have ek1:(xs.map fun y=>(fh (aW H y):Key)).map kV=xs.map fun y=>V.str (aW H y):=by rw[aY];rfl
     have ek2:(xs.map fun y=>(dX (cI H y:Int):Key)).map kV=xs.map fun y=>V.int (cI H y):=by rw[aY];rfl
     refine⟨l1,xs.map fun y=>(fh (aW H y):Key),rfl,by rw[ek1];exact s7.seq n1,by rw[ai];omega,fun c1 hc1=>?_⟩;refine .inr (.inr ⟨c1,_,rfl,ax,?_⟩);have s8:aO H7 (upd H7 c1 (_root_.Q.zk c1 (_root_.Q.met (xs.map fun y=>(fh (aW H y):Key))).length)):=aC hc1;generalize upd H7 c1 (_root_.Q.zk c1 (_root_.Q.met (xs.map fun y=>(fh (aW H y):Key))).length)=H8 at s8;refine Or.inl ⟨l1,_,rfl,.inl (s8.seq (s7.seq n1)),?_⟩;show fZ K .Eq (.int ((_root_.Q.met (xs.map fun y=>(fh (aW H y):Key))).length:Int)) (.int ((xs.map fun y=>V.str (aW H y)).length:Int)) H8 _;rw[my];refine⟨_,rfl,?_⟩;have hnd:decide (((_root_.Q.met (xs.map fun y=>(fh (aW H y):Key))).length:Int)=((xs.map fun y=>V.str (aW H y)).length:Int))=decide ((xs.map (aW H)).Nodup):=by
      rw[decide_eq_decide,ai];have hm:(xs.map fun y=>(fh (aW H y):Key)).Nodup↔(xs.map (aW H)).Nodup:=by
       have :(xs.map fun y=>(fh (aW H y):Key))=(xs.map (aW H)).map fh:=by rw[aY];rfl
       rw[this];exact vO _
      constructor
      ·intro z
       refine hm.mp (_root_.Q.xM ?_);rw[ai];exact vy z
      ·intro z
       rw[_root_.Q.Ez (hm.mpr z),ai]
     rw[hnd];have s9:aO H H8:=s5.trans (s7.trans s8);cases en:decide ((xs.map (aW H)).Nodup)with
     |false=>
      rw[en,dG]at qq;rw[if_neg aE];exact qq H8 s9
     |true=>
      rw[en,fm]at qq;rw[if_pos rfl];refine⟨l2,xs.map fun y=>(dX (cI H y:Int):Key),rfl,by rw[ek2];exact s8.seq n2,by rw[ai];omega,fun c2 hc2=>?_⟩;refine .inr (.inr ⟨c2,_,rfl,ax,?_⟩);show fZ K .LtE (.int ((_root_.Q.met (xs.map fun y=>(dX (cI H y:Int):Key))).length:Int)) (.int 1) _ Q;rw[Ho];have hone:decide (((_root_.Q.met (xs.map fun y=>(dX (cI H y:Int):Key))).length:Int)<=1)=decide (∀y∈xs,∀z∈xs,cI H y=cI H z):=by
       rw[decide_eq_decide];have h1:((_root_.Q.met (xs.map fun y=>(dX (cI H y:Int):Key))).length:Int)<=1↔(_root_.Q.met (xs.map fun y=>(dX (cI H y:Int):Key))).length<=1:=by omega
       rw[h1,_root_.Q.met_one];constructor
       ·intro z y hy1 y' hy2
        have :=z _ (az.mpr ⟨y,hy1,rfl⟩) _ (az.mpr ⟨y',hy2,rfl⟩)
        injection this with this;omega
       ·intro z k1 hk1 k2 hk2
        obtain⟨y,hy1,rfl⟩:=az.mp hk1;obtain⟨y',hy2,rfl⟩:=az.mp hk2;rw[z y hy1 y' hy2]
      rw[hone];exact qq _ (s9.trans (aC hc2))
   ·rw[decide_eq_true (by omega:(40:Int)<xs.length),if_pos rfl]
    have q1:Q (.bl (decide (xs.length<=40)&&(xs.all (dw H)&&(decide ((xs.map (aW H)).Nodup)&&decide (∀y∈xs,∀z∈xs,cI H y=cI H z))))) H:=q0 H (aO.refl H);rw[decide_eq_false hle,dG]at q1;exact q1
 |_=>exact q H (aO.refl H)
noncomputable def wZ(C:Addr):Sp:=fun vs H Q E=>∃x,vs=[x]/\Kn4 H x/\(dR H x=true->∀H',aO H H'->Q .non H')/\(dR H x=false->False)
theorem uV(g1:G.fn "is_table" 1=some (spT,[])):
  Sat G K (wZ C) pH o7:=by
 rintro vs H Q E ⟨x,rfl,hk,q1,q2⟩;unfold pH;change wpB G K _ _ _ [some x] H;walk_at "wp";refine⟨_,_,g1,x,rfl,hk,fun H1 s1=>⟨_,rfl,?_⟩⟩;cases e:dR H x with
 |true=>
  rw[if_neg (by simp)];exact q1 e H1 s1
 |false=>
  rw[if_pos (by rfl)];exact q2 e
noncomputable def count(H:Hp):V->Nat
 |.ref a=>match eB (H a)with
  |some (y::_)=>cI H y
  |_=>0
 |_=>0
theorem eS{x:V}(h:dR H x=true):∃a xs,x=.ref a/\eB (H a)=some xs/\xs.length<=40/\(∀y∈xs,dw H y=true)/\(xs.map (aW H)).Nodup/\∀y∈xs,cI H y=count H x:=by
 cases x with
 |ref a=>
  have h':(match eB (H a)with |some xs=>decide (xs.length<=40)&&(xs.all (dw H)&&(decide ((xs.map (aW H)).Nodup)&&decide (∀y∈xs,∀z∈xs,cI H y=cI H z))) |none=>false)=true:=h;split at h'
  ·rename_i xs e
   rw[aQ,aQ,aQ,decide_eq_true_eq,decide_eq_true_eq,decide_eq_true_eq,bC]at h';obtain⟨h1,h2,h3,h4⟩:=h';refine⟨a,xs,rfl,e,h1,h2,h3,fun y hy=>?_⟩;show _=(match eB (H a)with |some (y::_)=>cI H y|_=>0);rw[e];cases xs with
   |nil=>cases hy
   |cons z r=>exact h4 y hy z (.head _)
  ·cases h'
 |_=>cases h
noncomputable def rQ(C:Addr):Sp:=fun vs H Q E=>∃x,vs=[x]/\Kn4 H x/\(dR H x=true->∀H',aO H H'->Q (.int (count H x)) H')/\(dR H x=false->False)
theorem sD(g1:G.fn "need_table" 1=some (wZ C,[])):
  Sat G K (rQ C) nN nH:=by
 rintro vs H Q E ⟨x,rfl,hk,q1,q2⟩;unfold nN;change wpB G K _ _ _ [some x] H;walk_at "wp";refine⟨_,_,g1,x,rfl,hk,fun e H1 s1=>?_,q2⟩;obtain⟨a,xs,rfl,h1,h2,h3,h4,h5⟩:=eS e;have sq:SqL K H1 a xs:=s1.seq (kK h1);refine Or.inl ⟨a,xs,rfl,.inl sq,?_⟩;show fZ K .Eq (.int (xs.length:Int)) (.int 0) H1 _;rw[my];refine⟨_,rfl,?_⟩;cases xs with
 |nil=>
  rw[if_pos (by rfl)];have z:=q1 e H1 s1;have ec:count H (.ref a)=0:=by
   show(match eB (H a)with |some (y::_)=>cI H y|_=>0)=0;rw[h1]
  rw[ec]at z;exact z
 |cons y r=>
  rw[if_neg (by simp;omega)];obtain⟨b,z,c,ys,rfl,k1,k2,_,_,_,_,k8⟩:=gI (h3 y (.head _));refine .inl ⟨a,_,0,.ref b,rfl,rfl,sq,cX (j:=0) rfl,?_⟩;refine .inr (.inl ⟨b,_,1,.ref c,rfl,rfl,s1.tup (SqT.of k1),rfl,?_⟩);refine Or.inl ⟨c,ys,rfl,.inr (s1.tup (SqT.of k2)),?_⟩;have w:=q1 e H1 s1;rw[<-h5 _ (.head _),k8]at w;exact w
noncomputable def isPlace(H:Hp)(x:V):V->Bool
 |.int i=>decide (0<=i/\i<count H x)
 |_=>false
noncomputable def oV(H:Hp):V->List V
 |.ref a=>match dA (H a)with
  |some [_,.ref b]=>(dA (H b)).getD []
  |_=>[]
 |_=>[]
noncomputable def at_(H:Hp)(i:Int)(y:V):V:=(oV H y).getD i.toNat .non
theorem jQ{x:V}(h:dw H x=true):∃a b,x=.ref a/\H a=some (.tup [.str (aW H x),.ref b])/\H b=some (.tup (oV H x))/\(oV H x).length=cI H x/\∀y∈oV H x,cu y=true:=by
 obtain⟨a,z,b,ys,rfl,h1,h2,_,_,h6,h7,h8⟩:=gI h;have e:oV H (.ref a)=ys:=by
  show(match dA (H a)with |some [_,.ref b]=>(dA (H b)).getD [] |_=>[])=ys;rw[h1];show(dA (H b)).getD []=ys;rw[h2];rfl
 refine⟨a,b,rfl,by rw[h7];exact h1,by rw[e];exact h2,by rw[e,h8],by rw[e];exact h6⟩
theorem B3{x:V}{i:Int}(h:dw H y=true)(hc:cI H y=count H x)(hi:isPlace H x (.int i)=true):atI (oV H y) i=some (at_ H i y)/\cu (at_ H i y)=true:=by
 have hi':0<=i/\i<count H x:=of_decide_eq_true hi;obtain⟨a,b,_,_,_,h4,h5⟩:=jQ h;have hlt:i.toNat<(oV H y).length:=by omega
 have e:(oV H y)[i.toNat]? =some (at_ H i y):=by
  unfold at_;rw[af,aa hlt];rfl
 refine⟨?_,h5 _ (aI e)⟩;have :=cX (j:=i.toNat) e
 rwa [show((i.toNat:Nat):Int)=i by omega]at this
theorem gA{v:V}(h:cu v=true):v=.int 0\/v=.int 1:=by
 cases v with
 |int i=>
  have h':(i==0||i==1)=true:=h;rw[cQ,beq_iff_eq,beq_iff_eq]at h';rcases h' with rfl|rfl
  ·exact .inl rfl
  ·exact .inr rfl
 |_=>cases h
theorem ES{J:It}{Hc:Hp->Prop}{g:TG}{tc:TT}{te:TE}{Q:VK}{τ0:L2.St}(S:qF J xs.length (fun i x _=>xs[i]? =some x) Hc)(hn:xs.length<=sizeLine)(hc:∀H,aO H1 H->Hc H)
  (t:V->Bool)(f:V->V)(T:L2.St->Prop)(hT:T τ0)
  (step:∀x τ H3 (Rt:L2.St->V->Hp->Prop)(Rf:L2.St->Hp->Prop),x∈xs->T τ->aO H1 H3->(∀τ' H6,T τ'->aO H3 H6->t x=true->Rt τ' (f x) H6)->(∀τ' H6,T τ'->aO H3 H6->t x=false->Rf τ' H6)->
   g x τ H3 fun τ4 H4=>tc τ4 H4 fun b H5=>if b=true then te τ4 H5 (Rt τ4)else Rf τ4 H5)
  (fin:∀H2 l,aO H1 H2->H2 l=none->Q (.ref l) (upd H2 l (.lst ((xs.filter t).map f)))):AF J g tc te τ0 H1 Q:=by
 refine⟨fun i m τ acc H2=>m=xs.length-i/\i<=xs.length/\T τ/\acc=((xs.take i).filter t).map f/\aO H1 H2,⟨xs.length,by simp,aX _,hT,by simp,aO.refl _⟩,?_⟩;rintro i m τ acc H2 ⟨rfl,hi,ht,rfl,sm⟩;have q:=hc H2 sm;by_cases hlt:i<xs.length
 ·refine .inr ⟨S.go i H2 q hlt,fun τ' acc' H'=>T τ'/\acc'=((xs.take (i+1)).filter t).map f/\aO H1 H',fun τ' acc' H' ⟨a,b,c⟩=>⟨xs.length-(i+1),by omega,rfl,hlt,a,b,c⟩,fun x H3 y=>?_⟩
  obtain⟨y1,y2⟩:=S.yld i H2 x H3 q hlt y;have e:xs.take (i+1)=xs.take i++[x]:=by rw[dk,y1];rfl
  have hlen:(((xs.take i).filter t).map f).length<=i:=by
   rw[ai];refine aT (dY _ _) ?_;rw[cR];omega
  refine step x τ H3 _ _ (aI y1) ht (sm.trans y2) (fun τ' H6 h1 h2 h3=>⟨by omega,h1,?_,(sm.trans y2).trans h2⟩) (fun τ' H6 h1 h2 h3=>⟨h1,?_,(sm.trans y2).trans h2⟩)
  ·rw[e,fP,bZ]
   simp[h3]
  ·rw[e,fP,bZ]
   simp[h3]
 ·have e:i=xs.length:=by omega
  subst e;rw[d7];exact .inl ⟨S.stop _ H2 q (aA _),fun l hl'=>fin H2 l sm hl'⟩
end Cp
namespace Lt
open PySem R
noncomputable def u9:List Str:=["_law_script","_law_k"]
noncomputable def nJ:List Str:=["_law_script","_law_k"]
noncomputable def nX:CB:=
  (.cons (.iff (.cmp .Lt (.var 1) (.bfn .len (.cons (.var 0) .nil)))
  (.cons (.ret (.idx (.var 0) (.var 1)))
  .nil)
  .nil)
  (.cons (.ret (.con (.int 0)))
  .nil))
end Lt
namespace Lt
open PySem PySem.Spec PyProof.Rows L2 R Cp
theorem Dm{i j:Int}(h0:0<=j)(h1:j<18446744073709551616):B6 i j:=.inr ⟨by omega,by omega⟩
theorem qX{i j:Int}(h0:0<=i)(h1:i<18446744073709551616):B6 i j:=.inl ⟨by omega,by omega⟩
noncomputable def Bc(K:ah):Sp:=fun vs H Q _=>∃(a:Addr)(ns:List Int)(k:Nat),vs=[.ref a,.int k]/\SqL K H a (ns.map V.int)/\Q (.int (ns.getD k 0)) H
theorem wp_cell:Sat G K (Bc K) nX nJ:=by
 rintro vs H Q E ⟨a,ns,k,rfl,hs,q⟩;unfold nX;change wpB G K _ _ _ [some (.ref a),some (.int k)] H;walk_at "wp";refine Or.inl ⟨a,_,rfl,.inl hs,?_⟩;show fZ K .Lt (.int (k:Int)) (.int ((ns.map V.int).length:Int)) H _;rw[Hl,ai];refine⟨_,rfl,?_⟩;by_cases hk:k<ns.length
 ·rw[decide_eq_true (by omega:(k:Int)<(ns.length:Int)),if_pos rfl]
  refine .inl ⟨a,_,k,_,rfl,rfl,hs,cX (j:=k) (v:=.int (ns.getD k 0)) ?_,q⟩;rw[ao,aa hk,af,aa hk];rfl
 ·rw[decide_eq_false (by omega:¬(k:Int)<(ns.length:Int)),if_neg aE]
  rw[af,bK (by omega)]at q;exact q
theorem mod2(x:Int):cu (.int (x%2))=true:=by
 have h0:0<=x%2:=bE _ (by decide);have h1:x%2<2:=bM _ (by decide);have h:x%2=0\/x%2=1:=by omega
 rcases h with h|h<;>rw[h]<;>rfl
noncomputable def xV(x:Int):Nat:=97+(x%26).toNat
theorem lett_ok(x:Int):iR (xV x)=true:=by
 have h0:0<=x%26:=bE _ (by decide);have h1:x%26<26:=bM _ (by decide);unfold iR xV;exact decide_eq_true (by omega)
theorem Hn{x y:Int}(h:xV x=xV y):x%26=y%26:=by
 have h0:0<=x%26:=bE _ (by decide);have h1:0<=y%26:=bE _ (by decide);unfold xV at h;have e:=Nat.add_left_cancel h;rw[<-Int.toNat_of_nonneg h0,<-Int.toNat_of_nonneg h1,e]
noncomputable abbrev mkS(l:List Nat):Str:=⟨l.toArray⟩
theorem mk_app(a b:List Nat):mkS a++mkS b=mkS (a++b):=by
 show(⟨a.toArray++b.toArray⟩:Str)=⟨(a++b).toArray⟩;rw[List.append_toArray]
theorem tJ(a:List Nat):(mkS a).length=a.length:=by show a.toArray.size=_;simp
theorem Ir(l:List Nat)(k:Nat):BU (mkS l) none (some (k:Int))=mkS (l.take k):=by
 unfold BU;rw[HT.oU,HT.zm,tJ];show mkS _=_;congr 1;show((l.toArray.toList.drop 0).take (min k l.length-0))=l.take k;rw[yR,Nat.sub_zero];show l.take (min k l.length)=l.take k;by_cases h:k<=l.length
 ·rw[Nat.min_eq_left h]
 ·rw[Nat.min_eq_right (by omega),d7,eL (by omega)]
theorem BD:∀j:Fin 26,LETTERS.cps.toList[j.val]? =some (97+j.val):=by decide+kernel
theorem B2(x:Int):atI LETTERS.cps.toList (x%26)=some (xV x):=by
 have h0:0<=x%26:=bE _ (by decide);have h1:x%26<26:=bM _ (by decide);obtain⟨j,hj⟩:=cW h0;rw[hj];refine cX ?_;have :=BD ⟨j,by omega⟩;rw[this];unfold xV;rw[hj];rfl
theorem xU:LETTERS.length<=sizeLine:=by decide+kernel
theorem short(h:n<=40):n<=sizeLine:=aT h (by decide)
theorem mk1(x:Nat):(⟨#[x]⟩:Str)=mkS [x]:=rfl
end Lt
namespace Q
open PySem PySem.Spec PySem.W PyProof.Rows L2
theorem tj(nd:ks.Nodup):(ord ks).Perm (aw ks.length):=by
 unfold ord;split
 ·exact eJ _
 ·have P:=(fH (qe nd) (by omega)).1
  have :=gv.mp P.perm
  simpa using this
theorem range_getD{α:Type}(d:α)(ys:List α):(aw ys.length).map (fun i=>ys.getD i d)=ys:=by
 apply bR
 ·simp
 ·intro i h1 h2
  simp[h2]
theorem eF{α:Type}(d:α){ys:List α}(nd:ks.Nodup)(hl:ks.length=ys.length):(sortBy d ks ys).Perm ys:=by
 unfold sortBy;have h:=(tj nd).map fun i=>ys.getD i d;rw[hl,range_getD]at h;exact h
theorem sQ{α β:Type}(d:α)(f:α->β)(ks:List Str)(ys:List α):(sortBy d ks ys).map f=sortBy (f d) ks (ys.map f):=by
 unfold sortBy;rw[aY];apply bO;intro i _;show f (ys.getD i d)=(ys.map f).getD i (f d);rw[af,af,ao];cases ys[i]? <;>rfl
theorem eV(nd:ks.Nodup):(sortBy ("":Str) ks ks).Pairwise fun a b=>tlt a b=true:=by
 unfold sortBy ord;split
 ·rename_i h
  rw[range_getD]
  match ks,h with
  | [],_=>exact .nil
  | [x],_=>simp
  |_::_::_,h=>simp at h;omega
 ·rename_i h
  obtain⟨P,U,_⟩:=fH (qe nd) (by omega:1<=ks.length);rw[dU];intro i j hi hj hij;have hi':i<ks.length:=by simpa[P.size]using hi
  have hj':j<ks.length:=by simpa[P.size]using hj
  have u:=U i j hij hj';rw[bo,bo];have e:∀(k:Nat)(hk:k<(run (kH ks) (dE ks.length)).toList.length),(run (kH ks) (dE ks.length)).toList[k]=at' (run (kH ks) (dE ks.length)) k:=fun k hk=>by
   have hk':k<(run (kH ks) (dE ks.length)).size:=by simpa using hk
   simp[at',hk']
  rw[e,e];exact u
theorem mV{y:Str}(a:tlt x y=true)(b:tlt y x=true):False:=by
 have c:=qf a b;unfold tlt at c;exact List.lt_irrefl _ (of_decide_eq_true c)
theorem iG:∀{l m:List Str},l.Perm m->l.Pairwise (fun a b=>tlt a b=true)->m.Pairwise (fun a b=>tlt a b=true)->l=m
 | [],m,p,_,_=>by rw[List.nil_perm.mp p]
 |x::l,[],p,_,_=>by simpa using p.length_eq
 |x::l,y::m,p,h1,h2=>by
  rw[iu]at h1 h2;have e:x=y:=by
   by_cases e:x=y
   ·exact e
   ·have hx:x∈m:=by
     have :=p.mem_iff.mp (aB (a:=x) (l:=l))
     rcases av.mp this with z|z
     ·exact absurd z e
     ·exact z
    have hy:y∈l:=by
     have :=p.mem_iff.mpr (aB (a:=y) (l:=m))
     rcases av.mp this with z|z
     ·exact absurd z.symm e
     ·exact z
    exact(mV (h1.1 y hy) (h2.1 x hx)).elim
  subst e;rw[iG (List.perm_cons x |>.mp p) h1.2 h2.2]
theorem mf{α:Type}(d:α)(f:α->Str)(p:α->Bool){ys:List α}(nd:(ys.map f).Nodup):((sortBy d (ys.map f) ys).filter p).map f=sortBy ("":Str) ((ys.filter p).map f) ((ys.filter p).map f):=by
 have nd2:((ys.filter p).map f).Nodup:=nd.sublist (gO.map _);refine iG ?_ ?_ (eV nd2)
 ·exact(((eF d nd (by simp)).filter p).map f).trans (eF ("":Str) nd2 rfl).symm
 ·have h:((sortBy d (ys.map f) ys).map f).Pairwise fun a b=>tlt a b=true:=by
   have r:=eV nd;unfold sortBy at r⊢;rw[aY];have e:(ord (ys.map f)).map (f∘fun i=>ys.getD i d)=(ord (ys.map f)).map fun i=>(ys.map f).getD i ("":Str):=by
    apply bO
    intro i hi;have hi':i<ys.length:=by
     have :=(tj nd).mem_iff.mp hi
     simpa using this
    show f (ys.getD i d)=(ys.map f).getD i ("":Str);rw[af,af,ao,aa hi'];rfl
   rw[e];exact r
  exact h.sublist (gO.map _)
end Q
namespace Lt
open PySem PySem.Spec PyProof.Rows L2 R Cp
mutual
theorem tX:∀d:D,eqD d d=true
 |.non=>rfl
 |.bl b=>by cases b<;>rfl
 |.int i=>by show(i==i)=true;simp
 |.str x=>by show(x==x)=true;simp
 |.tup ds=>qz ds
 |.lst ds=>qz ds
theorem qz:∀ds:List D,kO ds ds=true
 | []=>rfl
 |d::ds=>by show(eqD d d&&kO ds ds)=true;rw[tX d,qz ds];rfl
end
theorem Cy:∀zs:List V,(∀z∈zs,cu z=true)->∃ds,eO K H ds zs/\eW ds=0
 | [],_=>⟨[],rfl,rfl⟩
 |z::zs,h=>by
  obtain⟨ds,h1,h2⟩:=Cy zs fun y hy=>h y (.tail _ hy);rcases gA (h z (.head _))with rfl|rfl
  ·exact⟨.int 0::ds,⟨_,_,rfl,rfl,h1⟩,by show max 0 (eW ds)=0;rw[h2];rfl⟩
  ·exact⟨.int 1::ds,⟨_,_,rfl,rfl,h1⟩,by show max 0 (eW ds)=0;rw[h2];rfl⟩
theorem qO:∀ys:List V,(∀y∈ys,dw H y=true)->∃ds,eO K H ds ys/\eW ds<=2
 | [],_=>⟨[],rfl,by decide⟩
 |y::ys,h=>by
  obtain⟨ds,h1,h2⟩:=qO ys fun z hz=>h z (.tail _ hz);obtain⟨a,b,rfl,k1,k2,_,k4⟩:=jQ (h y (.head _));obtain⟨es,g1,g2⟩:=Cy (K:=K) (H:=H) _ k4;refine⟨.tup [.str (aW H (.ref a)),.tup es]::ds,⟨_,_,rfl,⟨a,_,rfl,SqT.of k1,_,_,rfl,rfl,_,_,rfl,⟨b,_,rfl,SqT.of k2,g1⟩,rfl⟩,h1⟩,?_⟩;show max (max 0 (max (eW es+1) 0)+1) (eW ds)<=2;rw[g2];omega
end Lt
namespace L2
open PySem PySem.Spec PyProof.Rows
section
variable {κ α:Type}[DecidableEq κ](kf:α->κ)(vf:α->V)
noncomputable def pB(acc:List (κ×V))(y:α):List (κ×V):=if(eG acc (kf y)).isSome then acc else putK acc (kf y) (vf y)
noncomputable def fnd(ys:List α):List (κ×V):=ys.foldl (pB kf vf) []
theorem HM(acc:List (κ×V))(y:α)(k:κ):eG (pB kf vf acc y) k=if(eG acc k).isSome then eG acc k else if k=kf y then some (vf y)else none:=by
 unfold pB;cases h:eG acc (kf y)with
 |some v=>
  show eG acc k=_;cases hk:eG acc k with
  |some u=>rfl
  |none=>
   rw[if_neg (by simp),if_neg];intro e;rw[e,h]at hk;cases hk
 |none=>
  rw[if_neg (by simp),FJ];by_cases e:k=kf y
  ·rw[if_pos e,e,h]
   simp
  ·rw[if_neg e]
   cases hk:eG acc k<;>simp[e]
theorem fndS_nd{acc:List (κ×V)}(y:α)(h:(acc.map (·.1)).Nodup):((pB kf vf acc y).map (·.1)).Nodup:=by
 unfold pB;cases e:eG acc (kf y)with
 |some v=>exact h
 |none=>rw[if_neg (by simp)];exact nd_putK _ h e
theorem HN(acc:List (κ×V))(y:α):(pB kf vf acc y).length<=acc.length+1:=by
 unfold pB;split
 ·omega
 ·exact qU _ _ _
theorem Ab:∀(ys:List α)(acc:List (κ×V)),(ys.foldl (pB kf vf) acc).length<=acc.length+ys.length
 | [],acc=>aA _
 |y::ys,acc=>by
  have :=Ab ys (pB kf vf acc y)
  have :=HN kf vf acc y
  simp only[eZ,bG];omega
theorem Df:∀(ys:List α){acc:List (κ×V)},(acc.map (·.1)).Nodup->((ys.foldl (pB kf vf) acc).map (·.1)).Nodup
 | [],_,h=>h
 |y::ys,_,h=>Df ys (fndS_nd kf vf y h)
theorem Aa:∀(ys:List α)(acc:List (κ×V))(k:κ),eG (ys.foldl (pB kf vf) acc) k=if(eG acc k).isSome then eG acc k else(ys.find? fun y=>decide (kf y=k)).map vf
 | [],acc,k=>by
  show eG acc k=_;cases eG acc k<;>rfl
 |y::ys,acc,k=>by
  rw[eZ,Aa ys,HM];cases hk:eG acc k with
  |some u=>simp
  |none=>
   simp only[Fv,aS,if_false];by_cases e:k=kf y
   ·rw[if_pos e,iq]
    simp[e]
   ·have e':¬kf y=k:=fun z=>e z.symm
    rw[if_neg e,iq];simp[e']
theorem ye(ys:List α)(k:κ):eG (fnd kf vf ys) k=(ys.find? fun y=>decide (kf y=k)).map vf:=by
 unfold fnd;rw[Aa];rfl
theorem fnd_nd(ys:List α):((fnd kf vf ys).map (·.1)).Nodup:=Df kf vf ys gw
theorem fnd_len(ys:List α):(fnd kf vf ys).length<=ys.length:=by
 have :=Ab kf vf ys []
 rw[jC,uL]at this;exact this
theorem yf{ys:List α}{k:κ}:k∈(fnd kf vf ys).map (·.1)↔∃y∈ys,kf y=k:=by
 constructor
 ·intro h
  cases e:eG (fnd kf vf ys) k with
  |none=>exact absurd h (yU e)
  |some v=>
   rw[ye]at e;obtain⟨y,hy,_⟩:=AW.mp e;exact⟨y,List.mem_of_find?_eq_some hy,by have :=List.find?_some hy;simpa using this⟩
 ·rintro⟨y,hy,e⟩
  cases h:eG (fnd kf vf ys) k with
  |some v=>exact valV_in h
  |none=>
   rw[ye,Option.map_eq_none_iff,rB]at h;exact absurd e (by have :=h y hy;simpa using this)
theorem Hd:∀{l m:List κ},l.Nodup->(∀x∈l,x∈m)->l.length<=m.length
 | [],_,_,_=>aX _
 |a::l,m,h,hs=>by
  obtain⟨h1,h2⟩:=cy.mp h;have ha:=hs a (.head _);have :=Hd (l:=l) (m:=m.erase a) h2 fun x hx=>(oI (fun e:x=a=>h1 (by rw[<-e];exact hx))).mpr (hs x (.tail _ hx));rw[List.length_erase_of_mem ha]at this;have :=List.length_pos_of_mem ha;simp only[bG];omega
theorem fnd_all{ys:List α}{ks:List κ}(hk:ks.Nodup)(hs:∀y∈ys,kf y∈ks):(fnd kf vf ys).length<ks.length↔∃k∈ks,∀y∈ys,kf y≠k:=by
 have hsub:∀k∈(fnd kf vf ys).map (·.1),k∈ks:=fun k h=>by
  obtain⟨y,hy,e⟩:=(yf kf vf).mp h;rw[<-e];exact hs y hy
 have hnd:=fnd_nd kf vf ys;constructor
 ·intro hl
  apply aF
  intro hno;have hall:∀k∈ks,k∈(fnd kf vf ys).map (·.1):=fun k hk=>by
   apply aF
   intro hn;exact hno ⟨k,hk,fun y hy e=>hn ((yf kf vf).mpr ⟨y,hy,e⟩)⟩
  have :=Hd hk hall
  rw[ai]at this;omega
 ·rintro⟨k,hkm,hk2⟩
  have hn:k∉(fnd kf vf ys).map (·.1):=fun h=>by
   obtain⟨y,hy,e⟩:=(yf kf vf).mp h;exact hk2 y hy e
  have :(k::(fnd kf vf ys).map (·.1)).Nodup:=cy.mpr ⟨hn,hnd⟩;have :=Hd this (fun x hx=>by
   rcases av.mp hx with rfl|hx
   ·exact hkm
   ·exact hsub x hx)
  rw[bG,ai]at this;omega
end
end L2
namespace Kc
open PySem R
noncomputable def qp:List Str:=["copies","one","other"]
noncomputable def kG:List Str:=["copies","one","other","found","name","readings"]
noncomputable def kX:CB:=
  (.cons (.asg (.name 3) (.dicT))
  (.cons (.forr (.tup (.cons (.name 4) (.cons (.name 5) .nil))) (.seq (.var 0))
  (.cons (.expr (.setd (.var 3) (.tup (.cons (.idx (.var 5) (.var 1)) (.cons (.idx (.var 5) (.var 2)) .nil))) (.var 4)))
  .nil))
  (.cons (.iff (.cmp .Lt (.bfn .lend (.cons (.var 3) .nil)) (.bfn .len (.cons (.glo "KINDS") .nil)))
  (.cons (.ret (.con .none))
  .nil)
  .nil)
  (.cons (.ret (.bfn .tuple (.cons (.comp ["kind"] [3] (.name 0) (.seq (.glo "KINDS")) .no (.idxd (.var 1) (.var 0))) .nil)))
  .nil))))
end Kc
namespace Kc
open PySem PySem.Spec PyProof.Rows L2 R Cp Lt
theorem hJ{J:It}{it:Nat->V->Hp->Prop}{Hc:Hp->Prop}{g:TG}{tb:TS}{D:Ends}(S:qF J n it Hc)(Pv:Nat->L2.St->Hp->Prop)(h0:Pv 0 σ H)(hl:∀i σ H,i<=n->Pv i σ H->Hc H)
  (hs:∀i x σ H H' (D2:Ends),i<n->Pv i σ H->it i x H'->aO H H'->(∀σ2 H2,Pv (i+1) σ2 H2->D2.nx σ2 H2)->D2.rt=D.rt->g x σ H' fun σ2 H2=>tb D2 σ2 H2)(hd:∀σ H,Pv n σ H->D.nx σ H):ForB J g tb D σ H:=
 De S Pv h0 hl (fun i x σ H H' a b c d=>hs i x σ H H' _ a b c d (fun _ _ h=>h) rfl) hd
theorem gW(h:us.length=1):∃a,us=[a]:=by
 cases us with
 |nil=>exact nomatch h
 |cons a r=>exact⟨a,by rw[aV.mp (lR h)]⟩
theorem fU(h:us.length=2):∃a b,us=[a,b]:=by
 cases us with
 |nil=>exact nomatch h
 |cons a r=>
  obtain⟨b,e⟩:=gW (lR h);exact⟨a,b,by rw[e]⟩
theorem ma(h:us.length=3):∃a b c,us=[a,b,c]:=by
 cases us with
 |nil=>exact nomatch h
 |cons a r=>
  obtain⟨b,c,e⟩:=fU (lR h);exact⟨a,b,c,by rw[e]⟩
theorem bu{α:Type}{F:α->Prop}{vs:List V}(h:∃a,F a)(k:∀a,F a->vs.length=n):vs.length=n:=let⟨a,f⟩:=h;k a f
theorem fW{P:Prop}{l vs:List V}(h:vs=l/\P)(e:l.length=n):vs.length=n:=by rw[h.1];exact e
noncomputable def num(H:Hp)(i:Int)(y:V):Int:=match at_ H i y with
 |.int n=>n
 |_=>0
noncomputable def KP:List (Int×Int):=[(0,0),(0,1),(1,0),(1,1)]
noncomputable def n9(k:Int×Int):List Key:=[.inl k.1,.inl k.2]
noncomputable def kf(H:Hp)(i j:Int)(y:V):List Key:=n9 (num H i y,num H j y)
noncomputable def jZ(H:Hp)(xs:List V)(i j:Int):Bool:=KP.all fun k=>xs.any fun y=>decide (num H i y=k.1/\num H j y=k.2)
noncomputable def firstOf(H:Hp)(xs:List V)(i j:Int)(k:Int×Int):V:=((xs.find? fun y=>decide (kf H i j y=n9 k)).map fun y=>V.str (aW H y)).getD .non
noncomputable def Kinds(K:ah)(kd:Addr):Prop:=∃a0 a1 a2 a3:Addr,∀H:Hp,SqT K H kd [.ref a0,.ref a1,.ref a2,.ref a3]/\SqT K H a0 [.int 0,.int 0]/\SqT K H a1 [.int 0,.int 1]/\SqT K H a2 [.int 1,.int 0]/\SqT K H a3 [.int 1,.int 1]
theorem Kinds.at(h:Kinds K kd):∃as:List V,as.length=4/\(∀H:Hp,SqT K H kd as)/\∀(H:Hp)(i:Nat) x,as[i]? =some x->∃(b:Addr)(k:Int×Int),x=.ref b/\KP[i]? =some k/\SqT K H b ((n9 k).map kV):=by
 obtain⟨a0,a1,a2,a3,h⟩:=h;refine⟨[.ref a0,.ref a1,.ref a2,.ref a3],rfl,fun H=>(h H).1,fun H i x e=>?_⟩;obtain⟨_,h0,h1,h2,h3⟩:=h H
 match i,e with
 | 0,e=>cases e;exact⟨a0,_,rfl,rfl,h0⟩
 | 1,e=>cases e;exact⟨a1,_,rfl,rfl,h1⟩
 | 2,e=>cases e;exact⟨a2,_,rfl,rfl,h2⟩
 | 3,e=>cases e;exact⟨a3,_,rfl,rfl,h3⟩
 |n+4,e=>simp at e
theorem xJ{x:V}{i:Int}(h:dw H y=true)(hc:cI H y=count H x)(hi:isPlace H x (.int i)=true):at_ H i y=.int (num H i y)/\(num H i y=0\/num H i y=1):=by
 have :=(B3 h hc hi).2
 unfold num;rcases gA this with e|e
 ·rw[e];exact⟨rfl,.inl rfl⟩
 ·rw[e];exact⟨rfl,.inr rfl⟩
theorem Hw{k l:Int×Int}(h:n9 k=n9 l):k=l:=by
 unfold n9 at h;injection h with h1 h2
 injection h2 with h2 _;injection h1 with h1;injection h2 with h2;exact Prod.ext h1 h2
theorem Hs:(KP.map n9).Nodup:=by decide+kernel
theorem kf_eq{i j:Int}{k:Int×Int}:kf H i j y=n9 k↔(num H i y=k.1/\num H j y=k.2):=by
 constructor
 ·intro h
  have :=Hw h
  rw[<-this];exact⟨rfl,rfl⟩
 ·rintro⟨h1,h2⟩
  unfold kf;rw[h1,h2]
theorem tW{i j:Int}(vf:V->V)(hs:∀y∈xs,kf H i j y∈KP.map n9):(fnd (kf H i j) vf xs).length<4↔jZ H xs i j=false:=by
 rw[show(4:Nat)=(KP.map n9).length from rfl,fnd_all (kf H i j) vf Hs hs];unfold jZ;rw[List.all_eq_false];constructor
 ·rintro⟨k,hk,h⟩
  obtain⟨p,hp,rfl⟩:=az.mp hk;refine⟨p,hp,?_⟩;intro z;obtain⟨y,hy,e⟩:=bp.mp z;exact h y hy (kf_eq.mpr (of_decide_eq_true e))
 ·rintro⟨p,hp,h⟩
  refine⟨n9 p,az.mpr ⟨p,hp,rfl⟩,fun y hy e=>h ?_⟩;exact bp.mpr ⟨y,hy,decide_eq_true (kf_eq.mp e)⟩
theorem kf_in{x:V}{i j:Int}(h3:∀y∈xs,dw H y=true)(h5:∀y∈xs,cI H y=count H x)(hi:isPlace H x (.int i)=true)(hj:isPlace H x (.int j)=true):∀y∈xs,kf H i j y∈KP.map n9:=by
 intro y hy;have ei:=(xJ (h3 y hy) (h5 y hy) hi).2;have ej:=(xJ (h3 y hy) (h5 y hy) hj).2;unfold kf;refine az.mpr ⟨_,?_,rfl⟩;rcases ei with e|e<;>rcases ej with f|f<;>rw[e,f]<;>simp[KP]
noncomputable def xb:Sp:=fun vs H Q _=>∃a xs i j H0,vs=[.ref a,.int i,.int j]/\aO H0 H/\dR H0 (.ref a)=true/\eB (H0 a)=some xs/\isPlace H0 (.ref a) (.int i)=true/\isPlace H0 (.ref a) (.int j)=true/\
 (jZ H0 xs i j=false->∀H',aO H H'->Q .non H')/\(jZ H0 xs i j=true->∀H' l,aO H H'->H l=none->H' l=some (.tup (KP.map (firstOf H0 xs i j)))->Q (.ref l) H')
theorem FG(v1:G.val "KINDS"=some (.ref kd))(hk:Kinds K kd):
  Sat G K xb kX kG:=by
 rintro vs H Q E ⟨a,xs,i,j,H0,rfl,s0,ht,hx,hi,hj,q1,q2⟩;unfold kX;change wpB G K _ _ _ [some (.ref a),some (.int i),some (.int j),none,none,none] H;walk_at "wp";intro d hd;obtain⟨a',xs',ea,h1,h2,h3,h4,h5⟩:=eS ht;cases ea;rw[hx]at h1;cases h1;obtain⟨as,hal,hka,hkb⟩:=hk.at;have sq:∀{H1:Hp},aO H0 H1->SqL K H1 a xs:=fun s1=>s1.seq (kK hx);have sd:aO H (upd H d (.dT [])):=aC hd;refine iT (bQ rfl (sq (s0.trans sd)) (hJ dj (fun k σ H'=>aO H H'/\H' d=some (.dT (fnd (kf H0 i j) (fun y=>V.str (aW H0 y)) (xs.take k)))/\∃u v,σ=[some (.ref a),some (.int i),some (.int j),some (.ref d),u,v])
  ⟨sd,ax,none,none,rfl⟩ (fun k σ H' _ p=>sq (s0.trans p.1)) ?_ ?_))
 ·rintro k y σ H1 H2 D2 hk1 ⟨s1,e1,u,v,rfl⟩ hy s2 hD _
  have hm:=aI hy;have ei:=xJ (h3 y hm) (h5 y hm) hi;have ej:=xJ (h3 y hm) (h5 y hm) hj;have gi:=(B3 (h3 y hm) (h5 y hm) hi).1;have gj:=(B3 (h3 y hm) (h5 y hm) hj).1;obtain⟨b,c,rfl,k1,k2,k3,k4⟩:=jQ (h3 y hm);have s3:=s0.trans (s1.trans s2);refine⟨b,_,rfl,s3.tup (SqT.of k1),rfl,_,_,rfl,_,_,rfl,rfl,?_⟩;walk_at "wp";refine⟨.inr (.inr (.inl ⟨rfl,.inr ⟨_,s2 _ _ e1⟩⟩)),?_⟩;refine .inr (.inl ⟨c,_,i,_,rfl,rfl,s3.tup (SqT.of k2),gi,?_⟩);refine .inr (.inl ⟨c,_,j,_,rfl,rfl,s3.tup (SqT.of k2),gj,short (by simp),fun p hp=>?_⟩);have s4:aO H2 (upd H2 p (.tup [at_ H0 i (.ref b),at_ H0 j (.ref b)])):=aC hp;have hf:(fnd (kf H0 i j) (fun y=>V.str (aW H0 y)) (xs.take k)).length<=40:=aT (fnd_len _ _ _) (by rw[cR];omega);have et:xs.take (k+1)=xs.take k++[V.ref b]:=by rw[dk,hy];rfl
  have ef:fnd (kf H0 i j) (fun y=>V.str (aW H0 y)) (xs.take (k+1))=pB (kf H0 i j) (fun y=>V.str (aW H0 y)) (fnd (kf H0 i j) (fun y=>V.str (aW H0 y)) (xs.take k)) (.ref b):=by
   unfold fnd;rw[et,List.foldl_append];rfl
  refine⟨d,p,_,kf H0 i j (.ref b),_,rfl,rfl,s4 _ _ (s2 _ _ e1),?_,da hf (by decide),fun z hz=>?_,fun hz=>?_⟩
  ·rw[ax,ei.1,ej.1]
   rfl
  ·refine hD _ _ ⟨s1.trans (s2.trans s4),?_,_,_,rfl⟩
   rw[ef];unfold pB;rw[hz];exact s4 _ _ (s2 _ _ e1)
  ·refine hD _ _ ⟨fG (s1.trans (s2.trans s4)) hd,?_,_,_,rfl⟩
   rw[ef];unfold pB;rw[hz];exact ax
 ·rintro σ H1 ⟨s1,e1,u,v,rfl⟩
  rw[d7]at e1;walk_at "wp";refine⟨d,_,rfl,e1,_,v1,Or.inl ⟨kd,as,rfl,.inr (hka _),?_⟩⟩;rw[hal];show fZ K .Lt (.int _) (.int ((4:Nat):Int)) H1 _;rw[Hl];refine⟨_,rfl,?_⟩;have hfi:=tW (fun y=>V.str (aW H0 y)) (kf_in h3 h5 hi hj);cases hf:jZ H0 xs i j with
  |false=>
   have :=hfi.mpr hf
   rw[decide_eq_true (by omega),if_pos rfl];exact q1 hf H1 s1
  |true=>
   have hge:¬(fnd (kf H0 i j) (fun y=>V.str (aW H0 y)) xs).length<4:=fun z=>by rw[hfi.mp z]at hf;cases hf
   rw[decide_eq_false (by omega),if_neg aE];refine cM ⟨_,v1,.inr (.inl ⟨kd,rfl,⟨_,hka _⟩,?_⟩)⟩;refine c9 xm (by rw[hal];exact short (by decide)) (fun H2 _=>hka H2) (fun n v _=>v=firstOf H0 xs i j (KP.getD n (0,0))) (fun _ _ _ _ _ h=>h) (fun τ=>∃t,τ=[t,some (.ref d)]) ⟨none,rfl⟩ ?_ ?_
   ·rintro n y τ H2 R hn ⟨t,rfl⟩ s2 hy k
    obtain⟨b,p,rfl,hp,hb⟩:=hkb H2 n y hy;walk_at "wp";have hall:xs.any (fun y=>decide (num H0 i y=p.1/\num H0 j y=p.2))=true:=by
     unfold jZ at hf;exact bC.mp hf p (aI hp)
    obtain⟨y0,hy0,e0⟩:=bp.mp hall;cases hfi:xs.find? (fun y=>decide (kf H0 i j y=n9 p))with
    |none=>
     rw[rB]at hfi;exact absurd (decide_eq_true (kf_eq.mpr (of_decide_eq_true e0))) (hfi y0 hy0)
    |some y1=>
     refine⟨d,b,_,n9 p,V.str (aW H0 y1),rfl,rfl,s2 _ _ e1,hb,?_,?_⟩
     ·rw[ye,hfi]
      rfl
     ·refine k _ _ _ ⟨_,rfl⟩ (aO.refl _) ?_
      rw[getD_some hp];unfold firstOf;rw[hfi];rfl
   ·intro vs H2 l hvl hF s2 hl2
    have ev:vs=KP.map (firstOf H0 xs i j):=by
     rw[hal]at hvl;apply bR
     ·rw[hvl];rfl
     ·intro n m1 m2
      have :=hF n vs[n] (by simp[m1])
      rw[this,bo,af,aa (by simpa using m2)];rfl
    subst ev;refine⟨l,_,rfl,.inl ⟨SqL.of ax,fun b hb=>?_⟩⟩;have s3:aO H (upd H2 l (.lst (KP.map (firstOf H0 xs i j)))):=s1.trans (s2.trans (aC hl2));exact q2 hf _ b (s3.trans (aC hb)) (s3.free hb) ax
end Kc
namespace K21
open PySem R
noncomputable def Br:List Str:=["_law_cell","_law_place"]
noncomputable def tF:List Str:=["_law_cell","_law_place","_law_own","_law_number"]
noncomputable def pK:CB:=
  (.cons (.ret (.bin .Mod (.bin .Mult (.var 3) (.var 3)) (.con (.int 2147483587))))
  .nil)
noncomputable def lB:CB:=
  (.cons (.asg (.name 3) (.bin .Mod (.bin .Mult (.bin .Add (.bin .Mod (.bin .FloorDiv (.var 0) (.con (.int 2))) (.bin .Pow (.con (.int 10)) (.con (.int 30)))) (.con (.int 1))) (.bin .Add (.con (.int 48271)) (.bin .Mult (.bin .Mult (.con (.int 7919)) (.var 1)) (.var 1)))) (.con (.int 2147483629))))
  pK)
noncomputable def lC:CB:=
  (.cons (.iff (.and (.cmp .Eq (.bin .Mod (.var 0) (.con (.int 2))) (.con (.int 1))) (.cmp .NotEq (.var 2) (.con (.int 0))))
  (.cons (.ret (.bin .Mod (.var 2) (.con (.int 2147483648))))
  .nil)
  .nil)
  lB)
noncomputable def uu:CB:=
  (.cons (.asg (.name 2) (.bin .RShift (.var 0) (.bin .Add (.con (.int 2)) (.bin .Mult (.con (.int 31)) (.bin .Mod (.var 1) (.con (.int 64)))))))
  lC)
noncomputable def zA:List Str:=["_law_cell","_law_many"]
noncomputable def qR:List Str:=["_law_cell","_law_many","_law_letters","_law_size","_law_at","_law_names_here","_law_k","_law_name","_law_j"]
noncomputable def nO:CB:=
  (.cons (.ret (.var 5))
  .nil)
noncomputable def lM:CB:=
  (.cons (.expr (.meth1 .append (.var 5) (.cut (.var 7) .no (.yes (.bin .Add (.bin .Add (.var 4) (.con (.int 1))) (.bin .Mod (.bin .Add (.bin .Mult (.var 6) (.var 6)) (.var 3)) (.bin .Sub (.var 3) (.var 4))))))))
  .nil)
noncomputable def lN:CB:=
  (.cons (.forr (.name 8) (.range1 (.var 3))
  (.cons (.asg (.name 7) (.bin .Add (.var 7) (.idx (.var 2) (.bin .Mod (.bin .Add (.call "_law_draw" (.cons (.var 0) (.cons (.bin .Add (.con (.int 10)) (.var 8)) .nil))) (.bin .Mult (.bin .Mult (.con (.int 7)) (.var 6)) (.bfn .int (.cons (.cmp .Eq (.var 8) (.var 4)) .nil)))) (.con (.int 26))))))
  .nil))
  lM)
noncomputable def nP:CB:=
  (.cons (.forr (.name 6) (.range1 (.var 1))
  (.cons (.asg (.name 7) (.con (.str "")))
  lN))
  nO)
noncomputable def nQ:CB:=
  (.cons (.asg (.name 5) (.lst .nil))
  nP)
noncomputable def nR:CB:=
  (.cons (.asg (.name 4) (.bin .Mod (.call "_law_draw" (.cons (.var 0) (.cons (.con (.int 2)) .nil))) (.var 3)))
  nQ)
noncomputable def nS:CB:=
  (.cons (.asg (.name 3) (.bin .Add (.con (.int 1)) (.bin .Mod (.call "_law_draw" (.cons (.var 0) (.cons (.con (.int 1)) .nil))) (.con (.int 8)))))
  nR)
noncomputable def rg:CB:=
  (.cons (.asg (.name 2) (.con (.str "abcdefghijklmnopqrstuvwxyz")))
  nS)
end K21
namespace K21
open PySem PySem.Spec PyProof.Rows L2 R Cp Lt Kc
theorem shl_ii{Q:VK}{i j:Int}:i5 K .LShift (.int i) (.int j) H Q↔E7 i j/\Q (.int (i*2^j.toNat)) H:=by simp[i5,rI]
theorem int_b{Q:VK}{b:Bool}:rBf K .int [.bl b] H Q↔Q (.int (if b then 1 else 0)) H:=by simp[rBf]
noncomputable def own(c k:Int):Int:=c/2^(2+31*(k%64)).toNat
noncomputable def nb(c k:Int):Int:=(c/2%10^Int.toNat 30+1)*(48271+7919*k*k)%2147483629
noncomputable def draw(c k:Int):Int:=if c%2=1/\own c k≠0 then own c k%2147483648 else nb c k*nb c k%2147483587
theorem Dk(c k:Int):0<=draw c k:=by
 unfold draw;split
 ·exact bE _ (by decide)
 ·exact bE _ (by decide)
noncomputable def js:Sp:=fun vs H Q _=>∃c k:Int,vs=[.int c,.int k]/\0<=k/\k<=200/\Q (.int (draw c k)) H
theorem wp_draw:Sat G K js uu tF:=by
 rintro vs H Q E ⟨c,k,rfl,hk0,hk1,q⟩;unfold uu;change wpB G K _ _ _ [some (.int c),some (.int k),none,none] H;walk_at "wp";have hm:0<=k%64:=bE _ (by decide);refine⟨by decide,qX (by decide) (by decide),by omega,?_⟩;have rest:¬(c%2=1/\own c k≠0)->wpB G K (fun _=>E) lB {nx:=fun _ H'=>Q .non H',rt:=Q} [some (.int c),some (.int k),some (.int (own c k)),none] H:=fun z=>by
  have hkk:0<=7919*k*k/\7919*k*k<=316760000:=by
   have h1:0<=k*k:=Int.mul_nonneg hk0 hk0;have h2:k*k<=200*200:=Int.mul_le_mul hk1 hk1 hk0 (by decide);rw[Int.mul_assoc];omega
  have hnb:0<=nb c k/\nb c k<2147483629:=⟨bE _ (by decide),bM _ (by decide)⟩;unfold draw at q;rw[if_neg z]at q;unfold lB pK;walk_at "wp";exact⟨⟨by decide,by decide⟩,⟨by decide,by decide,by decide⟩,by decide,qX (by decide) (by decide),Dm hk0 (by omega),Dm (by omega) (by omega),by decide,qX hnb.1 (by omega),by decide,q⟩
 change wpB G K _ lC _ [some (.int c),some (.int k),some (.int (own c k)),none] H;generalize ho:own c k=w at rest⊢;unfold lC;walk_at "wp";refine⟨by decide,?_⟩;by_cases h1:c%2=1
 ·rw[decide_eq_true h1,if_pos rfl]
  by_cases h2:w=0
  ·rw[decide_eq_true h2]
   exact rest fun z=>z.2 h2
  ·rw[decide_eq_false h2]
   unfold draw at q;rw[ho,if_pos ⟨h1,h2⟩]at q;exact⟨by decide,q⟩
 ·rw[decide_eq_false h1]
  exact rest fun z=>h1 z.1
noncomputable def size(c:Int):Nat:=(1+draw c 1%8).toNat
noncomputable def att(c:Int):Nat:=(draw c 2%(size c:Int)).toNat
theorem size_eq(c:Int):1+draw c 1%8=(size c:Int)/\1<=size c/\size c<=8:=by
 have h0:0<=draw c 1%8:=bE _ (by decide);have h1:draw c 1%8<8:=bM _ (by decide);unfold size;omega
theorem B1(c:Int):draw c 2%(size c:Int)=(att c:Int)/\att c<size c:=by
 have hs:=size_eq c;have h0:0<=draw c 2%(size c:Int):=bE _ (by omega);have h1:draw c 2%(size c:Int)<(size c:Int):=bM _ (by omega);unfold att;omega
noncomputable def sgn(c:Int)(k j:Nat):Nat:=xV (draw c (10+(j:Int))+7*(k:Int)*(if(j:Int)=(att c:Int)then 1 else 0))
noncomputable def full(c:Int)(k:Nat):List Nat:=(aw (size c)).map (sgn c k)
noncomputable def ud(c:Int)(k:Nat):Nat:=att c+1+(k*k+size c)%(size c-att c)
noncomputable def nm(c:Int)(k:Nat):Str:=mkS ((full c k).take (ud c k))
theorem pv(c:Int)(k:Nat):(full c k).length=size c:=by unfold full;simp
theorem yi(c:Int)(k:Nat):att c+1<=ud c k/\ud c k<=size c:=by
 have h:=(B1 c).2;have :=Nat.mod_lt (k*k+size c) (show 0<size c-att c by omega);unfold ud;omega
theorem nm_ok(c:Int)(k:Nat):gY (nm c k)=true:=by
 have h1:=yi c k;have h2:=size_eq c;have hl:(nm c k).length=ud c k:=by
  unfold nm;rw[tJ,cR,pv];omega
 unfold gY;rw[hl,aQ];refine⟨decide_eq_true (by omega),?_⟩;show((full c k).take (ud c k)).toArray.toList.all iR=true;rw[p9,bC];intro y hy;have hy':=oH hy;unfold full at hy';obtain⟨j,_,rfl⟩:=az.mp hy';exact lett_ok _
theorem Ha{c:Int}(hi:i<15)(hj:j<15)(h:nm c i=nm c j):i=j:=by
 have e:(full c i).take (ud c i)=(full c j).take (ud c j):=by
  have :=congrArg (fun z:Str=>z.cps.toList) h
  simpa[nm]using this
 have ha:=(B1 c).2;have at_i:∀k:Nat,((full c k).take (ud c k))[att c]? =some (xV (draw c (10+(att c:Int))+7*(k:Int))):=fun k=>by
  have hc:=yi c k;rw[lS (by omega)];unfold full;rw[ao,bU ha];show some (sgn c k (att c))=_;unfold sgn;rw[if_pos rfl,Int.mul_one]
 have e2:=congrArg (fun l:List Nat=>l[att c]?) e;simp only[at_i]at e2;have e3:=Hn (bg e2);omega
noncomputable def w8:Sp:=fun vs H Q _=>∃(c:Int)(m:Nat),vs=[.int c,.int m]/\m<=15/\∀H' l,aO H H'->H l=none->H' l=some (.lst ((aw m).map fun k=>V.str (nm c k)))->Q (.ref l) H'
theorem FD(g1:G.fn "_law_draw" 2=some (js,[])):
  Sat G K w8 rg qR:=by
 rintro vs H Q E ⟨c,m,rfl,hm,q⟩;unfold rg nS nR nQ;change wpB G K _ _ _ [some (.int c),some (.int m),none,none,none,none,none,none,none] H;walk_at "wp";refine⟨_,_,g1,c,1,rfl,by decide,by decide,?_⟩;have hs:=size_eq c;have ha:=B1 c;walk_at "wp";refine⟨by decide,?_⟩;rw[hs.1];refine⟨_,_,g1,c,2,rfl,by decide,by decide,?_⟩;walk_at "wp";refine⟨by omega,?_⟩;rw[ha.1];refine⟨short (by simp),fun l hl=>?_⟩;unfold nP;walk_at "wp";refine iT ?_;walk_at "wp";refine⟨(m:Int),rfl,by omega,by omega,?_⟩;refine hJ dJ (fun k σ H'=>aO H H'/\H' l=some (.lst ((aw k).map fun k=>V.str (nm c k)))/\∃u v w,σ=[some (.int c),some (.int m),some (.str LETTERS),some (.int (size c)),some (.int (att c)),some (.ref l),u,v,w])
  ⟨aC hl,ax,none,none,none,rfl⟩ (fun _ _ _ _ _=>trivial) ?_ ?_
 ·rintro k x σ H1 H2 D2 hk ⟨s1,e1,u,v,w,rfl⟩ rfl s2 hD _
  have e2:H2 l=some (.lst ((aw k).map fun k=>V.str (nm c k))):=s2 _ _ e1;have s12:aO H H2:=s1.trans s2;walk_at "wp";simp only[eA];unfold lN;walk_at "wp";refine iT ?_;walk_at "wp";refine⟨(size c:Int),rfl,by omega,by omega,?_⟩;refine hJ dJ (fun j σ H'=>aO H2 H'/\∃w,σ=[some (.int c),some (.int m),some (.str LETTERS),some (.int (size c)),some (.int (att c)),some (.ref l),some (.int k),some (.str (mkS ((full c k).take j))),w])
   ⟨aO.refl _,w,rfl⟩ (fun _ _ _ _ _=>trivial) ?_ ?_
  ·rintro j x σ H3 H4 D3 hj ⟨s3,w,rfl⟩ rfl s4 hD3 _
   have hj':j<size c:=by omega
   walk_at "wp"
   simp only[eA];refine⟨_,_,g1,c,10+(j:Int),rfl,by omega,by omega,?_⟩;walk_at "wp";refine⟨qX (by decide) (by decide),?_⟩;rw[int_b];walk_at "wp";have ei:(if decide ((j:Int)=(att c:Int))=true then(1:Int)else 0)=if(j:Int)=(att c:Int)then 1 else 0:=by
    by_cases z:(j:Int)=(att c:Int)
    ·rw[decide_eq_true z,if_pos rfl,if_pos z]
    ·rw[decide_eq_false z,if_neg aE,if_neg z]
   rw[ei];refine⟨Dm (by split <;>omega) (by split <;>omega),by decide,_,xU,B2 _,?_,hD3 _ _ ⟨s3.trans s4,some (.int j),?_⟩⟩
   ·rw[mk1,tJ,tJ,cR,pv]
    exact short (by simp;omega)
   ·have ef:(full c k)[j]? =some (sgn c k j):=by
     unfold full;rw[ao,bU hj'];rfl
    rw[mk1,mk_app,dk,ef];rfl
  ·rintro σ H3 ⟨s3,w,rfl⟩
   unfold lM;walk_at "wp";have hc:=yi c k;have ec:(att c:Int)+1+((k:Int)*(k:Int)+(size c:Int))%((size c:Int)-(att c:Int))=(ud c k:Int):=by
    unfold ud;have :(size c:Int)-(att c:Int)=((size c-att c:Nat):Int):=by omega
    rw[this];push_cast;rfl
   have ef:(full c k).take (size c)=full c k:=eL (by rw[pv];exact aA _);rw[show((size c:Int)).toNat=size c from aU _,ef];refine⟨.inl ⟨rfl,_,SqL.of (s3 _ _ e2)⟩,qX (by omega) (by omega),by omega,?_⟩;rw[ec,Ir];refine⟨by rw[tJ,pv];exact short (by omega),l,_,_,rfl,rfl,s3 _ _ e2,da (by simp;omega:((aw k).map fun k=>V.str (nm c k)).length<=40) (by decide),hD _ _ ⟨fG (s12.trans s3) hl,?_,_,_,_,rfl⟩⟩;rw[ax,List.range_succ,bZ];rfl
 ·rintro σ H1 ⟨s1,e1,u,v,w,rfl⟩
  unfold nO;walk_at "wp";rw[show((m:Int)).toNat=m from aU _]at e1;exact q H1 l s1 hl e1
noncomputable def Dr(H:Hp)(nf:Nat->Str)(n:Nat)(ys:List V):Prop:=∀(i:Nat) y,ys[i]? =some y->∃b r zs,y=.ref b/\H b=some (.tup [.str (nf i),.ref r])/\H r=some (.tup zs)/\zs.length=n/\∀z∈zs,cu z=true
theorem pE(hnf:∀i,gY (nf i)=true)(d:Dr H nf n ys)(hn:n<=60)(e:ys[i]? =some y):dw H y=true/\aW H y=nf i/\cI H y=n/\Kn3 H y:=by
 obtain⟨b,r,zs,rfl,h1,h2,h3,h4⟩:=d i y e;have ar:dB H (.ref r)=true:=by
  show(match dA (H r)with |some xs=>decide (xs.length<=60)&&xs.all cu|none=>false)=true;rw[h2];show(decide (zs.length<=60)&&zs.all cu)=true;rw[decide_eq_true (by omega),fm,bC];exact h4
 have hl:(nf i).length<=20000:=by
  have :=hnf i
  unfold gY at this;rw[aQ,decide_eq_true_eq]at this;omega
 refine⟨?_,?_,?_,⟨BG h1,fun z e=>nomatch e⟩,fun a xs e hx=>?_⟩
 ·show(match dA (H b)with |some [n,r]=>isName n&&dB H r|_=>false)=true
  rw[h1];show(gY (nf i)&&dB H (.ref r))=true;rw[hnf,ar];rfl
 ·show(match dA (H b)with |some (.str z::_)=>z|_=>("":Str))=_
  rw[h1];rfl
 ·show(match dA (H b)with |some [_,.ref b]=>(dA (H b)).elim 0 jq|_=>0)=n
  rw[h1];show(dA (H r)).elim 0 jq=n;rw[h2];exact h3
 ·injection e with e
  subst e;rw[h1]at hx;cases hx;refine⟨by show 2<=20000;decide,fun y hy=>?_⟩;simp only[av,bB,or_false]at hy;rcases hy with rfl|rfl
  ·exact⟨⟨kn_str,fun z e=>by injection e with e;rw[<-e];exact hl⟩,fun a xs e=>nomatch e⟩
  ·refine⟨⟨BG h2,fun z e=>nomatch e⟩,fun a xs e hx=>?_⟩
   injection e with e;subst e;rw[h2]at hx;cases hx;refine⟨by omega,fun z hz=>?_⟩;rcases gA (h4 z hz)with rfl|rfl
   ·exact⟨xY,fun z e=>nomatch e⟩
   ·exact⟨xY,fun z e=>nomatch e⟩
theorem ub{t:Addr}(hnf:∀i,gY (nf i)=true)(hinj:∀i j,i<ys.length->j<ys.length->nf i=nf j->i=j)(ht:H t=some (.lst ys))(d:Dr H nf n ys)(hl:ys.length<=40)(hn:n<=60):Kn4 H (.ref t)/\dR H (.ref t)=true/\(∀y∈ys,dw H y=true)/\∀y∈ys,cI H y=n:=by
 have at':∀y∈ys,∃i,ys[i]? =some y:=fun y hy=>cj.mp hy;have cp:∀y∈ys,dw H y=true:=fun y hy=>let⟨i,e⟩:=at' y hy;(pE hnf d hn e).1;have ct:∀y∈ys,cI H y=n:=fun y hy=>let⟨i,e⟩:=at' y hy;(pE hnf d hn e).2.2.1;refine⟨⟨⟨Hr ht,fun z e=>nomatch e⟩,fun a xs e hx=>?_⟩,?_,cp,ct⟩
 ·injection e with e
  subst e;rw[ht]at hx;cases hx;exact⟨by omega,fun y hy=>let⟨i,e⟩:=at' y hy;(pE hnf d hn e).2.2.2⟩
 ·show(match eB (H t)with |some xs=>decide (xs.length<=40)&&(xs.all (dw H)&&(decide ((xs.map (aW H)).Nodup)&&decide (∀y∈xs,∀z∈xs,cI H y=cI H z))) |none=>false)=true
  rw[ht];show(decide (ys.length<=40)&&(ys.all (dw H)&&(decide ((ys.map (aW H)).Nodup)&&decide (∀y∈ys,∀z∈ys,cI H y=cI H z))))=true;rw[decide_eq_true hl,fm,aQ,aQ,bC,decide_eq_true_eq,decide_eq_true_eq];refine⟨cp,?_,fun y hy z hz=>by rw[ct y hy,ct z hz]⟩;show List.Pairwise (fun a b=>a≠b) _;rw[dU];intro i j hi hj hij e;rw[ai]at hi hj;rw[bo,bo,(pE hnf d hn (aa hi)).2.1,(pE hnf d hn (aa hj)).2.1]at e;have :=hinj i j hi hj e;omega
theorem pow2(h:j<30):IY 0 ((2:Int)^j):=by
 have h1:(2:Nat)^j<2^30:=Nat.pow_lt_pow_right (by decide) h;have h2:0<(2:Nat)^j:=Nat.pow_pos (by decide);have e:((2:Int)^j)=((2^j:Nat):Int):=by push_cast;rfl
 rw[e];constructor
 ·omega
 ·exact Int.ofNat_lt.mpr h1
theorem rX{vs:List V}(h:∀(i:Nat) v,vs[i]? =some v->∃m:Int,v=.int m):∃ns:List Int,vs=ns.map V.int:=by
 induction vs with
 |nil=>exact⟨[],rfl⟩
 |cons v vs ih=>
  obtain⟨m,rfl⟩:=h 0 v rfl;obtain⟨ns,rfl⟩:=ih fun i w e=>h (i+1) w (by simpa using e);exact⟨m::ns,rfl⟩
theorem Ae(ns:List Int)(lo hi:Option Int):∃ms:List Int,uc (ns.map V.int) lo hi=ms.map V.int:=by
 refine rX fun i v e=>?_;have hm:=aI e;unfold uc at hm;obtain⟨m,_,rfl⟩:=az.mp (Fw (oH hm));exact⟨m,rfl⟩
end K21
namespace K22
open PySem R
noncomputable def rF:List Str:=["_law_readings","_law_some"]
noncomputable def lJ:List Str:=["_law_readings","_law_some"]
noncomputable def lL:CB:=
  (.cons (.ret (.bfn .tuple (.cons (.comp ["_law_j"] [1,0] (.name 0) (.range1 (.bfn .len (.cons (.var 0) .nil))) .no (.ite (.cmp .In (.var 0) (.var 1)) (.bin .Sub (.con (.int 1)) (.idx (.var 2) (.var 0))) (.idx (.var 2) (.var 0)))) .nil)))
  .nil)
noncomputable def zB:List Str:=["_law_cells","_law_many"]
noncomputable def qS:List Str:=["_law_cells","_law_many","_law_seed","_law_nodes","_law_links","_law_fresh","_law_k","_law_number","_law_some","_law_j","_law_at"]
noncomputable def nT:CB:=
  (.cons (.ret (.tup (.cons (.var 3) (.cons (.var 4) .nil))))
  .nil)
noncomputable def hO:CB:=
  (.cons (.expr (.meth1 .append (.var 3) (.call "_law_otherwise" (.cons (.idx (.var 3) (.var 10)) (.cons (.var 8) .nil)))))
  .nil)
noncomputable def jT:CB:=
  (.cons (.expr (.meth1 .append (.var 4) (.tup (.cons (.var 10) (.cons (.bfn .len (.cons (.var 3) .nil)) (.cons (.bfn .sorti (.cons (.var 8) .nil)) .nil))))))
  hO)
noncomputable def iU:CB:=
  (.cons (.iff (.cmp .NotEq (.var 8) (.lst .nil))
  (.cons (.asg (.name 10) (.bin .Mod (.call "_law_draw" (.cons (.idx (.var 0) (.var 6)) (.cons (.bin .Add (.con (.int 41)) (.bin .Mult (.con (.int 4)) (.var 6))) .nil))) (.bfn .len (.cons (.var 3) .nil))))
  jT)
  .nil)
  .nil)
noncomputable def iV:CB:=
  (.cons (.forr (.name 9) (.range1 (.bin .Add (.con (.int 1)) (.bin .FloorDiv (.bin .Mod (.var 7) (.con (.int 7))) (.con (.int 5)))))
  (.cons (.iff (.cmp .NotEq (.var 5) (.lst .nil))
  (.cons (.expr (.meth1 .append (.var 8) (.meth1 .pop (.var 5) (.bin .Mod (.bin .FloorDiv (.var 7) (.idx (.lst (.cons (.con (.int 7)) (.cons (.con (.int 112)) .nil))) (.var 9))) (.bfn .len (.cons (.var 5) .nil))))))
  .nil)
  .nil)
  .nil))
  iU)
noncomputable def lO:CB:=
  (.cons (.asg (.name 8) (.lst .nil))
  iV)
noncomputable def j6:CB:=
  (.cons (.forr (.name 6) (.range1 (.bfn .len (.cons (.var 0) .nil)))
  (.cons (.asg (.name 7) (.call "_law_draw" (.cons (.idx (.var 0) (.var 6)) (.cons (.bin .Add (.con (.int 40)) (.bin .Mult (.con (.int 4)) (.var 6))) .nil))))
  lO))
  nT)
noncomputable def nU:CB:=
  (.cons (.asg (.name 5) (.lrng (.var 1)))
  j6)
noncomputable def nV:CB:=
  (.cons (.asg (.name 4) (.lst .nil))
  nU)
noncomputable def j7:CB:=
  (.cons (.asg (.name 3) (.lst (.cons (.bfn .tuple (.cons (.comp ["_law_j"] [2] (.name 0) (.range1 (.var 1)) .no (.bin .Mod (.bin .FloorDiv (.var 1) (.bin .LShift (.con (.int 1)) (.var 0))) (.con (.int 2)))) .nil)) .nil)))
  nV)
noncomputable def nW:CB:=
  (.cons (.iff (.cmp .NotEq (.var 0) (.lst .nil))
  (.cons (.asg (.name 2) (.call "_law_draw" (.cons (.idx (.var 0) (.con (.int 0))) (.cons (.con (.int 20)) .nil))))
  .nil)
  .nil)
  j7)
noncomputable def rh:CB:=
  (.cons (.asg (.name 2) (.con (.int 1)))
  nW)
noncomputable def Bq:List Str:=["_law_cells","_law_nodes"]
noncomputable def tE:List Str:=["_law_cells","_law_nodes","_law_held_here","_law_k","_law_number"]
noncomputable def pI:CB:=
  (.cons (.ret (.var 2))
  .nil)
noncomputable def mH:CB:=
  (.cons (.iff (.or (.cmp .Gt (.bin .Mod (.var 4) (.con (.int 5))) (.con (.int 0))) (.cmp .Eq (.var 2) (.lst .nil)))
  (.cons (.expr (.meth1 .append (.var 2) (.bin .Mod (.var 3) (.bfn .len (.cons (.var 1) .nil)))))
  .nil)
  (.cons (.expr (.meth1 .append (.var 2) (.bin .Mod (.bin .FloorDiv (.var 4) (.con (.int 5))) (.bfn .len (.cons (.var 1) .nil)))))
  .nil))
  .nil)
noncomputable def pJ:CB:=
  (.cons (.forr (.name 3) (.range1 (.bfn .len (.cons (.var 0) .nil)))
  (.cons (.asg (.name 4) (.call "_law_draw" (.cons (.idx (.var 0) (.var 3)) (.cons (.bin .Add (.con (.int 60)) (.var 3)) .nil))))
  mH))
  pI)
noncomputable def ur:CB:=
  (.cons (.asg (.name 2) (.lst .nil))
  pJ)
end K22
namespace K22
open PySem PySem.Spec PyProof.Rows L2 R Cp Lt Kc K21
theorem jN{t p:Addr}{fs:List Int}(et:SqL K H t (fs.map V.int))(ep:H p=some (.lst [])):∃d d',Rep K H d (.ref t)/\Rep K H d' (.ref p)/\hgt d<=30/\eqD d d'=decide (fs=[]):=by
 refine⟨.lst (fs.map D.int),.lst [],⟨t,_,rfl,et,eO.ints fs⟩,⟨p,[],rfl,SqL.of ep,rfl⟩,by show eW (fs.map D.int)+1<=30;rw[kL];decide,?_⟩;cases fs with
 |nil=>rfl
 |cons x r=>
  rw[decide_eq_false (by simp)];rfl
theorem iF:∀(l:List Int)(z:Nat)(h:z<l.length),(l[z]::l.eraseIdx z).Perm l
 | [],_,h=>absurd h (fc _)
 |a::l,0,_=>eJ _
 |a::l,z+1,h=>by
  have h':z<l.length:=by simpa using h
  exact(uN a l[z] (l.eraseIdx z)).trans ((iF l z h').cons a)
section
variable {G:Gam}{K:ah}
section
variable {E:XS}{D2:Ends}{H:Hp}{a nd lk fr sm:Addr}{ns:List Int}{n k:Nat}{sd d0:Int}{ys ls:List V}
theorem pq(hk':k<ns.length):(ns.map V.int)[k]? =some (.int (ns.getD k 0)):=by
 rw[ao,aa hk',af,aa hk'];rfl
end
end
noncomputable def Bb(K:ah):Sp:=fun vs H Q _=>∃(a nd:Addr)(ns:List Int)(ys:List V),vs=[.ref a,.ref nd]/\SqL K H a (ns.map V.int)/\SqL K H nd ys/\ns.length<=14/\ys≠[]/\
 ∀(H':Hp)(l:Addr)(hs:List Int),aO H H'->H l=none->H' l=some (.lst (hs.map V.int))->hs.length=ns.length->(∀h∈hs,0<=h/\h<ys.length)->Q (.ref l) H'
section
variable {G:Gam}{K:ah}
theorem wp_held(g1:G.fn "_law_draw" 2=some (js,[])):
  Sat G K (Bb K) ur tE:=by
 rintro vs H Q E ⟨a,nd,ns,ys,rfl,ha,hnd,hns,hy0,q⟩;unfold ur pJ;change wpB G K _ _ _ [some (.ref a),some (.ref nd),none,none,none] H;walk_at "wp";have hyl:0<ys.length:=dI.mpr hy0;refine⟨short (by simp),fun l hl=>?_⟩;have s1:aO H (upd H l (.lst [])):=aC hl;refine iT ?_;walk_at "wp";refine Or.inl ⟨a,_,rfl,.inl (s1.seq ha),_,rfl,by rw[ai];omega,by rw[ai];omega,?_⟩;refine hJ dJ (fun k σ H'=>aO H H'/\∃hs:List Int,H' l=some (.lst (hs.map V.int))/\hs.length=k/\(∀h∈hs,0<=h/\h<ys.length)/\∃u v,σ=[some (.ref a),some (.ref nd),some (.ref l),u,v])
  ⟨s1,[],ax,rfl,by simp,none,none,rfl⟩ (fun _ _ _ _ _=>trivial) ?_ ?_
 ·rintro k x σ H1 H2 D2 hk ⟨s2,hs,e1,e2,e3,u,v,rfl⟩ rfl s3 hD _
  have hk':k<ns.length:=by simpa using hk
  have s4:=s2.trans s3;have e1:=s3 _ _ e1;walk_at "wp";simp only[eA];refine⟨_,_,g1,.inl ⟨a,_,k,_,rfl,rfl,s4.seq ha,cX (pq hk'),?_⟩⟩;walk_at "wp";refine⟨_,_,rfl,by omega,by omega,?_⟩;have hd0:=Dk (ns.getD k 0) (60+(k:Int));generalize draw (ns.getD k 0) (60+(k:Int))=d0 at hd0⊢;unfold mH;walk_at "wp";refine⟨by decide,?_⟩;have fin:∀(H5:Hp)(w:Int),aO H2 H5->xw (.ref l) [.int (w%(ys.length:Int))] H5 fun _ H'=>D2.nx [some (.ref a),some (.ref nd),some (.ref l),some (V.int k),some (V.int d0)] H':=by
   intro H5 w s5;refine⟨l,hs.map V.int,_,rfl,rfl,s5 _ _ e1,da (by rw[ai];omega:(hs.map V.int).length<=40) (by decide),hD _ _ ⟨fG (s4.trans s5) hl,hs++[w%(ys.length:Int)],by rw[ax,bZ];rfl,by simp[e2],fun h hh=>?_,_,_,rfl⟩⟩;rcases bc.mp hh with hh|hh
   ·exact e3 h hh
   ·rw[aD]at hh
    subst hh;exact⟨bE _ (by omega),bM _ (by omega)⟩
  by_cases h5:(0:Int)<d0%5
  ·rw[decide_eq_true h5,if_pos rfl,if_pos trivial]
   refine⟨.inl ⟨rfl,_,SqL.of e1⟩,Or.inl ⟨nd,ys,rfl,.inl (s4.seq hnd),?_⟩⟩;walk_at "wp";exact⟨by omega,fin H2 _ (aO.refl _)⟩
  ·rw[decide_eq_false h5,if_neg aE]
   refine⟨short (by simp),fun p0 hp0=>?_⟩;generalize hX:upd H2 p0 _=H3;obtain⟨s5,e0⟩:=By hX hp0;clear hX;obtain⟨d,d',r1,r2,r3,r4⟩:=jN (K:=K) (SqL.of (s5 _ _ e1)) e0;refine⟨d,d',r1,r2,r3,_,rfl,?_⟩;rw[r4];by_cases hf:hs=[]
   ·rw[decide_eq_true hf,if_pos rfl]
    refine⟨.inl ⟨rfl,_,SqL.of (s5 _ _ e1)⟩,Or.inl ⟨nd,ys,rfl,.inl ((s4.trans s5).seq hnd),?_⟩⟩;walk_at "wp";exact⟨by omega,fin H3 _ s5⟩
   ·rw[decide_eq_false hf,if_neg aE]
    refine⟨.inl ⟨rfl,_,SqL.of (s5 _ _ e1)⟩,⟨by decide,by decide⟩,Or.inl ⟨nd,ys,rfl,.inl ((s4.trans s5).seq hnd),?_⟩⟩;walk_at "wp";exact⟨by omega,fin H3 _ s5⟩
 ·rintro σ H1 ⟨s2,hs,e1,e2,e3,u,v,rfl⟩
  unfold pI;walk_at "wp";exact q H1 l hs s2 hl e1 (by simp at e2;omega) e3
end
end K22
namespace Lm
open PySem PySem.Spec PySem.W PyProof.Rows L2 Q
noncomputable abbrev Kp(h h':Heap):Prop:=∀b o,h.get? b=some o->h'.get? b=some o
section
variable {prog:Program}{w:World}{A:Around}{E:Value->Shared->Prop}{s:Shared}
theorem ID{Q:Value->Shared->Prop}{params:Arguments}{k:Value}{p1 p2 p3:Pos}{its:Array Value}
  (hf:s.heap.get? f=some (kla_obj "<lambda>" qual params (.Subscript (.Name x p1) (.Constant (.int 0) j p2) p3) scope [] pm c' ctv))(hc:s.heap.CodeRec (.ref c') qual)(hroom:A.depth<ja)(hnl:s.heap.NoLimit)
  (hb:∀v,oB (kla_fn "<lambda>" qual params (.Subscript (.Name x p1) (.Constant (.int 0) j p2) p3) scope [] pm (.ref c') ctv) ⟨[v],[]⟩=pure [(x,v)])
  (hx:scope.names.lookup x=some .local)(hd:(x==("__debug__":Str))=false)(hk:scope.kind=.function)(hcell:∀y∈scope.names,y.2≠.cell)(hco:scope.isCoroutine=false)(hgen:scope.isGenerator=false)
  (ht:IsTup s.heap b its)(h0:its[0]? =some k)(h:∀h' t',Kp s.heap h'->Q k {s with heap:=h',toks:=t'}):wpAny (model prog w) A (call (.ref f) [.ref b]) Q E s:=by
 refine wpAny_call (kla_callFunE hroom hf rfl hco hgen rfl hc ?_);rw[hb];refine aj (wpAny_newFunctionEnv hcell (fun y hy=>?_) (fun h₁ hns hsb=>⟨hnl.fresh _ hsb,?_⟩) hk)
 ·have e:y=(x,.ref b):=by simpa using hy
  rw[e];exact hx
 have hk₁:Kp s.heap h₁:=fun b o e=>hsb.extBut b o (aL (au e)) (ag _ e);refine kla_codeExpr (Subscript_ (E9 (wpAny_loadName_local hk hx hns (v:=.ref b) (by simp) ?_) hd));refine wpAny_Constant_int ?_;have ht':IsTup h₁ b its:=by
  obtain⟨o,e,c⟩:=ht;exact⟨o,hk₁ _ _ e,c⟩
 have hsz:0<its.size:=by
  rcases Nat.eq_zero_or_pos its.size with z|z
  ·rw[Array.getElem?_eq_none (by omega)]at h0;cases h0
  ·exact z
 exact pV (x:=k) ht'.typeIs slot_tuple_getitem.lookup
  (getItem_tuple (j:=0) (Q:=fun r s'=>r=k/\_) ht' (by decide) (by decide) (by rw[AN (by decide) (by omega)];rfl) h0 ⟨rfl,h _ _ hk₁⟩) rfl
noncomputable def Keys(prog:Program)(w:World)(A:Around)(f:Value)(vs:List Value)(ks:List Str)(h0:Heap):Prop:=
 ∀(i:Nat)(v:Value)(k:Str),vs[i]? =some v->ks[i]? =some k->∀(s1:Shared)(E:Value->Shared->Prop)(Q':Value->Shared->Prop),Kp h0 s1.heap->
  (∀t h' t',Kp s1.heap h'->Q' (.str k t) {s1 with heap:=h',toks:=t'})->wpAny (model prog w) A (call f [v]) Q' E s1
theorem strs_snoc{k:Str}{t:Tok}:∀{vs:List Value}{ks:List Str},r8 vs ks->r8 (vs++[.str k t]) (ks++[k])
 |_,_,.nil=>.cons k t .nil
 |_,_,.cons y u h=>.cons y u (strs_snoc h)
theorem Cj{e e1:Nat}{st:SortSt}{P:eE->Shared->Prop}(hout:(arrOf st).map (·.2)=d8 out)(hz:out.length<64)(hkz:kv.length<64)(hf:failedOf st=none)
  (hk:s.heap.get? kS=some (seqObj "list" kv.toArray e))(ha:s.heap.get? a=some (seqObj "list" #[] e1))(hne:kS≠a)
  (h:∀h' c,(∀b o,b≠a->b≠kS->s.heap.get? b=some o->h'.get? b=some o)->h'.get? a=some (seqObj "list" out.toArray c)->P (.done (.ret .none)) {s with heap:=h'}):
  wpAny (model prog w) A (ksk_tail a false e1 (.ref kS) st) P E s:=by
 have s1:=bJ s.heap kS (aZ fun _=>(#[]:Array Value));have ha1:(s.heap.update kS (aZ fun _=>(#[]:Array Value))).get? a=some (seqObj "list" #[] e1):=(s1.2 a (cn hne)).trans ha;have s2:=bJ (s.heap.update kS (aZ fun _=>(#[]:Array Value))) a (aZ fun _=>d8 out);obtain⟨c2,hc2⟩:∃c2,((s.heap.update kS (aZ fun _=>(#[]:Array Value))).update a (aZ fun _=>d8 out)).get? a=some (seqObj "list" (d8 out) c2):=⟨_,pZ ha1 fun _=>d8 out⟩;unfold ksk_tail;try dsimp only
 rw[hout];refine ae (fI hk rfl ?_ (by rw[aG];exact fA hkz) (aX _));refine ae (eH ?_);refine ae (rO ha1 rfl ?_);refine ae (fI ha1 rfl ?_ (aX _) (by simpa using Co hz));rw[hf];simp only[bne_self_eq_false,aS,if_false];exact aj (h _ c2 (fun b o h1 h2 q=>(s2.2 b h1).trans ((s1.2 b h2).trans q)) hc2)
theorem end_ok{e e1:Nat}{P:eE->Shared->Prop}(nd:ks.Nodup)(r:r8 kv ks)(hl:ks.length=vs.length)(h64:vs.length<64)
  (hk:s.heap.get? kS=some (seqObj "list" kv.toArray e))(ha:s.heap.get? a=some (seqObj "list" #[] e1))(hne:kS≠a)
  (h:∀h' c,(∀b o,b≠a->b≠kS->s.heap.get? b=some o->h'.get? b=some o)->h'.get? a=some (seqObj "list" (fN (kH ks) vs).toArray c)->P (.done (.ret .none)) {s with heap:=h'}):
  wpAny (model prog w) A (ksk_end a false vs.toArray e1 (.ref kS) (d8 kv)) P E s:=by
 have hv:vs.toArray.size=vs.length:=by simp
 have hkl:=sM r;have hlen:kv.length=vs.length:=hkl.trans hl;unfold ksk_end;simp only[aS,if_false];by_cases hn:vs.length<2
 ·have eo:fN (kH ks) vs=vs:=if_pos hn
  rw[eo]at h;rw[if_pos (by rw[hv];exact hn),if_pos (by rw[hv];exact hn)];refine ae (aj (ae ?_));rw[StateT.run_pure];refine aj (Cj (out:=vs) ?_ h64 (by omega) rfl hk ha hne h);show(kv.toArray.zip vs.toArray).map (·.2)=vs.toArray;apply Array.ext';simp[List.map_snd_zip,hlen]
 ·have h2:2<=vs.length:=by omega
  have eo:fN (kH ks) vs=(run (kH ks) (dE vs.length)).toList.map fun i=>vs.getD i .none:=if_neg hn;rw[eo]at h;rw[if_neg (by rw[hv];exact hn),if_neg (by rw[hv];exact hn)];obtain⟨κ,hk1,hk2⟩:=wF (prog:=prog) (w:=w) (A:=A) (h0:=s.heap) r (by omega) s (fun _ _ q=>q);have T:Tot (kH ks) vs.length:=by rw[<-hl];exact qe nd
  obtain⟨P1,U1,O1⟩:=fH T (by omega:1<=vs.length);refine ae (hk1 _ _ (ae ?_));have key:=kat_run (prog:=prog) (w:=w) (A:=A) (E:=E) (κ:=κ) (ks:=kv) (vs:=vs) (s:=s)
   (Q:=fun st' s'=>s'=s/\arrOf st'=(run (kH ks) (dE vs.length)).map (kas_item (kv.toArray.zip vs.toArray))/\failedOf st'=none)
   (G:=fun p s'=>s'=s/\p=run (kH ks) (dE vs.length)) hlen h2 h64
   (fun p st' s' _ e1 e2 e3=>⟨e3.1,by rw[e1,e3.2],e2⟩)
   (wp_run (S:=fun s'=>s'=s) (fun i j C s' hi hj hij hs hC=>by
    subst hs;exact hk2 i j C (by omega) (by omega) hij (hC _ rfl)) _ _ O1 rfl fun s' hs=>⟨hs,rfl⟩)
  refine gb key ?_ fun _ _ z=>z;rintro⟨⟨⟩,st'⟩ s' ⟨rfl,har,hf⟩;exact Cj (kat_snds hlen har) (by rw[ai,cq,P1.size];exact h64) (by omega) hf hk ha hne h
theorem F9{f:Value}{P:eE->Shared->Prop}(nd:ks.Nodup)(hl:ks.length=vs.length)(ho:s.heap.get? a=some (seqObj "list" vs.toArray n))
  (k0:∀b o,h0.get? b=some o->s.heap.get? b=some o/\b≠a)(h64:vs.length<64)(ky:Keys prog w A f vs ks h0)
  (h:∀h' t' c,(∀b o,b≠a->s.heap.get? b=some o->h'.get? b=some o)->h'.get? a=some (seqObj "list" (fN (kH ks) vs).toArray c)->P (.done (.ret .none)) {s with heap:=h',toks:=t'}):
  wpAny (model prog w) A (ksk_tree a f false) P E s:=by
 have hv:vs.toArray.size=vs.length:=by simp
 have ha0:a<s.heap.objs.size:=au ho;have s1:=bJ s.heap a (aZ fun _=>(#[]:Array Value));obtain⟨e1,ho1⟩:∃e1,(s.heap.update a (aZ fun _=>(#[]:Array Value))).get? a=some (seqObj "list" #[] e1):=⟨_,pZ ho fun _=> #[]⟩;unfold ksk_tree;refine ae (listItems_at ho rfl ?_);refine ae (fI ho rfl ?_ (by rw[hv];exact fA h64) (aX _));refine ae (rO ho1 rfl ?_);refine ae (E8 ?_ (show vs.length<=_ from fA h64));refine ae (ny ?_ (aX _));refine cN ?_;have ha1:((s.heap.update a (aZ fun _=>(#[]:Array Value))).push (seqObj "tuple" vs.toArray 0)).get? a=some (seqObj "list" #[] e1):=ag _ ho1;have kp1:∀b o,b≠a->s.heap.get? b=some o->((s.heap.update a (aZ fun _=>(#[]:Array Value))).push (seqObj "tuple" vs.toArray 0)).get? b=some o:=fun b o hb q=>ag _ ((s1.2 b hb).trans q);have hsz:s.heap.objs.size<((s.heap.update a (aZ fun _=>(#[]:Array Value))).push (seqObj "tuple" vs.toArray 0)).objs.size:=by rw[Fc,uT];omega
 show wpAny _ _ (ksk_rest a f false vs.toArray e1 (.ref ((s.heap.update a (aZ fun _=>(#[]:Array Value))).push (seqObj "tuple" vs.toArray 0)).objs.size)) _ _
  {s with heap:=((s.heap.update a (aZ fun _=>(#[]:Array Value))).push (seqObj "tuple" vs.toArray 0)).push (seqObj "list" #[] 0)}
 generalize(s.heap.update a (aZ fun _=>(#[]:Array Value))).push (seqObj "tuple" vs.toArray 0)=h1 at ha1 kp1 hsz⊢;have hne:h1.objs.size≠a:=dh (gK ha0 hsz);unfold ksk_rest;refine ae (eX ?_)
 first
  |rw[List.forIn_toArray]
  | (rw[<-Jn];simp only[p9])
  |rw[<-Jn]
 refine ae (ksk_fold (fun i s'=>∃h2 t2 kv e,s'={s with heap:=h2,toks:=t2}/\r8 kv (ks.take i)/\h2.get? h1.objs.size=some (seqObj "list" (d8 kv) e)/\h2.get? a=some (seqObj "list" #[] e1)/\∀b o,b≠a->s.heap.get? b=some o->h2.get? b=some o)
  vs 0 _ ⟨_,s.toks,[],0,rfl,by rw[List.take_zero];exact .nil,aq _ rfl,ag _ ha1,fun b o hb q=>ag _ (kp1 b o hb q)⟩ ?_ ?_)
 ·rintro j x s' hx ⟨h2,t2,kv,e,rfl,r,hk,ha,kp⟩
  rw[uL]at r;have hj:j<vs.length:=(aH.mp hx).1;have hkj:ks[j]? =some (ks[j]'(by omega)):=aa (by omega);have hkv:kv.length=j:=by rw[sM r,cR];omega
  refine ae (jX (ky j x _ hx hkj _ _ _ (fun b o q=>kp b o (k0 b o q).2 (k0 b o q).1) fun t h3 t3 k3=>?_));have s3:=bJ h3 h1.objs.size (aZ (·.push (fF (ks[j]'(by omega)) t)));have ea:(d8 kv).push (fF (ks[j]'(by omega)) t)=d8 (kv++[fF (ks[j]'(by omega)) t]):=by simp
  obtain⟨c2,hc2⟩:∃c2,(h3.update h1.objs.size (aZ (·.push (fF (ks[j]'(by omega)) t)))).get? h1.objs.size=some (seqObj "list" (d8 (kv++[fF (ks[j]'(by omega)) t])) c2):=⟨_,by rw[<-ea];exact pZ (k3 _ _ hk) (·.push _)⟩;try dsimp only
  refine ae (fI (k3 _ _ hk) rfl ?_ (by rw[aG];exact fA (by omega)) (aT (Fo (Array.size_push ..)) (by rw[aG];exact Co (by omega))));refine aj ⟨rfl,_,t3,kv++[fF (ks[j]'(by omega)) t],c2,rfl,?_,hc2,(s3.2 a (cn hne)).trans (k3 _ _ ha),fun b o hb q=>(s3.2 b (aL (gK (au q) hsz))).trans (k3 _ _ (kp b o hb q))⟩;rw[uL,dk,hkj];exact strs_snoc r
 ·rintro s' ⟨h2,t2,kv,e,rfl,r,hk,ha,kp⟩
  rw[uL,eL (by omega)]at r;try dsimp only
  refine ae (listItems_at hk rfl ?_);exact end_ok nd r hl h64 hk ha hne fun h' c k q=>h h' t2 c (fun b o hb z=>k b o hb (aL (gK (au z) hsz)) (kp b o hb z)) q
theorem Bg{q:Addr}{Q:Value->Shared->Prop}(nd:ks.Nodup)(hlk:ks.length=vs.length)(hl:s.heap.IsList l vs.toArray)(h64:vs.length<64)(ky:Keys prog w A.in1.in1 (.ref q) vs ks s.heap)
  (h:∀h' t' c,Kp s.heap h'->h'.get? (s.heap.objs.size+1)=some (seqObj "list" (fN (kH ks) vs).toArray c)->Q (.ref (s.heap.objs.size+1)) {s with heap:=h',toks:=t'}):
  wpAny (model prog w) A (call (.builtin "sorted") [.ref l] [(cT "key",.ref q)]) Q E s:=by
 refine call_function_entry_kw kind_sorted plain_sorted entry_sorted (ksk_s1 _ _) ?_;unfold Builtin.«sorted»;refine ae (m:=checkCount "sorted" 1 1 _) (aj ?_);refine ae (collect_list hl ?_ (by simpa using fA h64));refine ae (ny ?_ (show vs.length<=_ from fA h64));have hz:((s.heap.push (seqObj "list" #[] 0)).update s.heap.objs.size (aZ (·++vs.toArray))).objs.size=s.heap.objs.size+1:=by rw[uT,Fc]
 have kp:Kp s.heap ((s.heap.push (seqObj "list" #[] 0)).update s.heap.objs.size (aZ (·++vs.toArray))):=fun b o e=>by
  have hb:=au e;rw[aR _ _ (dh hb)];exact ag _ e
 have hg:(((s.heap.push (seqObj "list" #[] 0)).update s.heap.objs.size (aZ (·++vs.toArray))).push (seqObj "list" vs.toArray 0)).get? (s.heap.objs.size+1)=some (seqObj "list" vs.toArray 0):=by
  rw[<-hz];exact aq _ rfl
 show wpAny _ _ _ _ _ {s with heap:=((s.heap.push (seqObj "list" #[] 0)).update s.heap.objs.size (aZ (·++vs.toArray))).push (seqObj "list" vs.toArray 0)};rw[hz];have kp2:Kp s.heap (((s.heap.push (seqObj "list" #[] 0)).update s.heap.objs.size (aZ (·++vs.toArray))).push (seqObj "list" vs.toArray 0)):=fun b o e=>ag _ (kp b o e);generalize((s.heap.push (seqObj "list" #[] 0)).update s.heap.objs.size (aZ (·++vs.toArray))).push (seqObj "list" vs.toArray 0)=h1 at hg kp2⊢;refine ae (cN (wpAny_call_entry_kw Fb ⟨_,hg,rfl⟩ B8 ?_ (ksk_l1 _ _)));show wpAny (model prog w) A.in1.in1 (Builtin.«list.sort» ⟨[.ref (s.heap.objs.size+1)],[(cT "key",.ref q)]⟩) _ _ _;rw[ksk_t1];exact F9 (s:={s with heap:=h1}) nd hlk hg (fun b o e=>⟨kp2 b o e,aL (bz (au e))⟩) h64 ky fun h' t' c k z=>⟨_,rfl,aj ⟨_,rfl,h h' t' c (fun b o e=>k b o (aL (bz (au e))) (kp2 b o e)) z⟩⟩
end
structure Tb where
 P:Addr
 pos:Pos
 q:Str
noncomputable def Tab(T:Tb)(H:Hp):Prop:=H T.P=some (.tbl #[])\/∃c' oc u vs t,H T.P=some (.tbl #[rawInt T.pos.line,rawInt T.pos.col,.ref c'])/\H c'=some (.frz oc u)/\oc.data=.fields vs/\vs[1]? =some (.str T.q t)
structure Gr(T:Tb)(H H':Hp):Prop where
 keep:∀b o,b≠T.P->H b=some o->H' b=some o
 tab:Tab T H->Tab T H'
theorem Gr.refl(T:Tb)(H:Hp):Gr T H H:=⟨fun _ _ _ e=>e,fun t=>t⟩
theorem Gr.trans{T:Tb}(a:Gr T H H1)(b:Gr T H1 H2):Gr T H H2:=⟨fun c o n e=>b.keep c o n (a.keep c o n e),fun t=>b.tab (a.tab t)⟩
theorem Gr.of{T:Tb}(e:aO H H'):Gr T H H':=
 ⟨fun b o _ q=>e b o q,fun t=>by
  rcases t with t|⟨c',oc,u,vs,tk,h1,h2,h3,h4⟩
  ·exact .inl (e _ _ t)
  ·exact .inr ⟨c',oc,u,vs,tk,e _ _ h1,e _ _ h2,h3,h4⟩⟩
theorem Tab.ne{T:Tb}(t:Tab T H){o:HO}(e:H b=some o)(n:∀ps,o≠.tbl ps):b≠T.P:=by
 intro z;subst z;rcases t with t|⟨c',oc,u,vs,tk,h1,h2,h3,h4⟩
 ·rw[t]at e;exact n _ (bg e).symm
 ·rw[h1]at e;exact n _ (bg e).symm
section
variable {K:ah}{T:Tb}{H H':Hp}{a:Addr}{xs:List V}
theorem Gr.at(g:Gr T H H')(t:Tab T H){o:HO}(e:H a=some o)(n:∀ps,o≠.tbl ps):H' a=some o:=g.keep a o (t.ne e n) e
theorem Gr.lst(g:Gr T H H')(t:Tab T H)(e:H a=some (.lst xs)):H' a=some (.lst xs):=g.at t e fun _ z=>by cases z
theorem Gr.sH(g:Gr T H H')(t:Tab T H)(e:H a=some (.tup xs)):H' a=some (.tup xs):=g.at t e fun _ z=>by cases z
theorem Gr.frz(g:Gr T H H')(t:Tab T H){o:Obj}{u:HO}(e:H a=some (.frz o u)):H' a=some (.frz o u):=g.at t e fun _ z=>by cases z
theorem Gr.seq(g:Gr T H H')(t:Tab T H)(h:SqL K H a xs):SqL K H' a xs:=by
 rcases h with(h|⟨o,h⟩) |h
 ·exact .inl (.inl (g.lst t h))
 ·exact .inl (.inr ⟨o,g.frz t h⟩)
 ·exact .inr h
theorem Gr.tup(g:Gr T H H')(t:Tab T H)(h:SqT K H a xs):SqT K H' a xs:=by
 rcases h with(h|⟨o,h⟩) |h
 ·exact .inl (.inl (g.sH t h))
 ·exact .inl (.inr ⟨o,g.frz t h⟩)
 ·exact .inr h
end
theorem un_tab{fs:List Addr}{p:Addr}{oc:Obj}{ps more:Array Value}(hok:HOk P w H h)(hx:∀b o,b≠p->h.get? b=some o->h'.get? b=some o)(hP:H p=some (.tbl ps))(hge:h.objs.size<=c')
  (hp':h'.get? p=some (tabObj (ps++more)))(hc:h'.get? c'=some oc):
  Un fs [] H (upd (upd H c' (.frz oc (.ext fun _=>True))) p (.tbl (ps++more))) h h'/\HOk P w (upd (upd H c' (.frz oc (.ext fun _=>True))) p (.tbl (ps++more))) h':=by
 have hn:H c'=none:=hok.fresh hge;have ne:c'≠p:=cn (bH hP hn);have out:∀{b:Addr}{o:HO},H b=some o->b≠p->upd (upd H c' (.frz oc (.ext fun _=>True))) p (.tbl (ps++more)) b=some o:=fun{b o} e n=>by
  rw[a7 n,a7 (bH e hn)];exact e
 have nt:∀{b:Addr}{o:HO},H b=some o->(∀vs,o≠.tbl vs)->b≠p:=fun{b o} e n z=>by
  subst z;rw[hP]at e;exact n _ (bg e).symm
 refine⟨⟨fun b o e n _ _=>hx b o (fun z=>by rw[z,hP]at n;cases n) e,fun b o e n _ _=>⟨o.slots,hx b o (fun z=>by rw[z,hP]at n;cases n) e⟩,fun b o e n _=>?_,fun b o e _=>?_,fun b xs e=>out e (nt e fun _ z=>by cases z),
  fun b o u e=>out e (nt e fun _ z=>by cases z),fun b vs e=>?_⟩,fun b o e=>?_⟩
 ·have hb:b≠p:=fun z=>by rw[z,hP]at n;cases n
  rw[a7 hb,a7 (aL (bj (au e) hge))];exact n
 ·by_cases hb:b=p
  ·exact⟨_,by rw[hb];exact hp'⟩
  ·exact⟨o,hx b o hb e⟩
 ·by_cases hb:b=p
  ·subst hb
   rw[hP]at e;cases e;exact⟨more,ax⟩
  ·exact⟨#[],by rw[out e hb];simp⟩
 ·by_cases hb:b=p
  ·subst hb
   rw[ax]at e;cases e;exact hp'
  ·rw[a7 hb]at e
   by_cases hc2:b=c'
   ·subst hc2
    rw[ax]at e;cases e;exact⟨hc,trivial,⟨_,hc⟩,fun _ _ _ _=>trivial⟩
   ·rw[a7 hc2]at e
    refine(hok b o e).lW (fun d v hd q=>hx d v ?_ q) (fun d q=>out q (nt q fun _ z=>by cases z)) fun d xs q=>out q (nt q fun _ z=>by cases z);rcases hd with z|z
    ·rw[z];exact hb
    ·exact nt z fun _ y=>by cases y
noncomputable def BM(mg:Str->Option Value)(h:Heap):Prop:=∃bm ob,mg "__builtins__"=some (.ref bm)/\bm≠l6/\bm≠bP/\h.get? bm=some ob/\ob.cls=.type "module"/\ob.dict=some l6/\ob.data=.plain
noncomputable def rSortK(K:ah)(T:Tb):List V->Hp->VK->Prop:=fun xs H Q=>∃a ys ks,xs=[V.ref a]/\SqL K H a ys/\ks.length<64/\ks.Nodup/\lD H ys ks/\Tab T H/\
 ∀H2 l,Gr T H H2->H2 l=none->Q (.ref l) (upd H2 l (.lst (sortBy .non ks ys)))
noncomputable def sJ(K:ah)(T:Tb)(te:TE):TE:=fun σ H Q=>iZ te qh σ H fun xs H1=>rSortK K T xs H1 Q
structure IW(env:Env)(params:Arguments)(x:Str)(body:Expr)(scope:Scope):Prop where
 cl:Fi scope env=pure []
 df:defaultsOf params env=([],[])
 bd:∀(qual:Str)(pm ctv v:Value)(c':Addr),oB (kla_fn "<lambda>" qual params body scope [] pm (.ref c') ctv) ⟨[v],[]⟩=pure [(x,v)]
 lk:scope.names.lookup x=some .local
 dbg:(x==("__debug__":Str))=false
 kd:scope.kind=.function
 nc:∀y∈scope.names,y.2≠.cell
 co:scope.isCoroutine=false
 gn:scope.isGenerator=false
section
variable {X:Cx}{e:Expr}{te:TE}{T:Tb}{c:Addr}{p kp pos p1 p2 p3:Pos}{x:Str}{j:Nat}{params:Arguments}{scope:Scope}
theorem rV(O:IW X.env params x (.Subscript (.Name x p1) (.Constant (.int 0) j p2) p3) scope)(ok:HOk X.prog X.w H s.heap)
  (hf:s.heap.get? f=some (kla_obj "<lambda>" qual params (.Subscript (.Name x p1) (.Constant (.int 0) j p2) p3) scope [] pm c' ctv))(hc:s.heap.CodeRec (.ref c') qual)(hroom:A.depth<ja)(hnl:s.heap.NoLimit):
  ∀{ys:List V}{ks:List Str}{vs:List Value},lD H ys ks->bX ys vs->Keys prog w A (.ref f) vs ks s.heap
 |_,_,_,.nil,.nil=>fun i v k h1=>by simp at h1
 |_,_,_,.cons y t,.cons r q=>by
  intro i v k h1 h2 s1 E Q' kp hq;cases i with
  |zero=>
   obtain⟨a,rest,rfl,ea⟩:=y;cases r;have e1:v=cK a:=by simpa using h1.symm
   subst e1;obtain⟨_,its,rv,o,g1,g2,n,g3⟩:=ok a _ ea;cases rv with
   |cons r0 _=>
    obtain⟨tk,rfl⟩:=r0;obtain rfl:=bg h2;exact ID (kp _ _ hf) (hc.keeps kp) hroom (hnl.keeps kp) (fun v=>O.bd _ _ _ v _) O.lk O.dbg O.kd O.nc O.co O.gn ⟨o,kp _ _ g1,g2,n,g3⟩ (by simp) fun h' t' k'=>hq tk h' t' k'
  |succ i=>exact rV O ok hf hc hroom hnl t q i v k (by simpa using h1) (by simpa using h2) s1 E Q' kp hq
theorem vE{Q:VK}(O:IW X.env params x (.Subscript (.Name x p1) (.Constant (.int 0) j p2) p3) scope)(I:Inv X pins σ H s)
  (hf:s.heap.get? f=some (kla_obj "<lambda>" T.q params (.Subscript (.Name x p1) (.Constant (.int 0) j p2) p3) scope [] pm c' ctv))(hc:s.heap.CodeRec (.ref c') T.q)(hroom:X.A.depth<ja)
  (hq:SqL X.K H a ys)(h64:ks.length<64)(nd:ks.Nodup)(hk:lD H ys ks)(q:∀l,H l=none->Q (.ref l) (upd H l (.lst (sortBy .non ks ys)))):
  wpAny (model X.prog X.w) X.A (call (.builtin "sorted") [.ref a] [(cT "key",.ref f)]) (EP X pins σ Q) X.xe s:=by
 obtain⟨its,r',pl,hz⟩:=I.list hq;have hl:ks.length=ys.length:=l9 hk;have hlen:=r'.length;have hv:ks.length=its.length:=by omega
 refine Bg nd hv pl.isList (by omega) (rV (A:=X.A.in1.in1) O I.hok hf hc hroom I.nolimit hk r') fun h' t' cc k hc'=>?_;have hz2:(sortBy V.non ks ys).length<=sizeLine:=by
  unfold sortBy;rw[ai,CN ks nd];omega
 exact⟨.ref (s.heap.objs.size+1),_,I.laid (t':=t') k (dP _) (show dN X.prog X.w _ _ _ (.lst (sortBy .non ks ys))from⟨hz2,_,cc,zD nd hl r',hc'⟩),rfl,q _ (I.hok.fresh (dP _))⟩
theorem GS(he:PE X e te)(hs:bT [e] X.env=(false,eval e X.env)::bT [] X.env)(hg:Gl X "sorted")(hm:X.mg "sorted"=none)(hcode:X.env.code=.ref c)(hC:CodeHd X.base c T.P)(hq:X.env.qual++"<lambda>"=T.q)(hb:BM X.mg X.base)
  (O:IW X.env params x (.Subscript (.Name x p1) (.Constant (.int 0) j p2) p3) scope)(hroom:X.A.depth<ja):
  PE X (.Call (.Name "sorted" p) [e] [⟨some (cT "key"),.Lambda params (.Subscript (.Name x p1) (.Constant (.int 0) j p2) p3) scope T.pos,kp⟩] pos) (sJ X.K T te):=by
 intro pins s σ H Q I h;refine iN (iS (u:=.builtin "sorted") I hg hm (by decide+kernel) ?_);refine callWith_kw (thn (fM he jY hs pos pins s σ H _ I h) fun us s1 ⟨vs,H1,I1,r,a,ys,ks,ev,sq,h64,nd,hk,tb,q⟩=>?_) (by rw[hs];rfl) (by rw[hs];rfl);subst ev;obtain⟨u,rfl,rx⟩:=vals1 r;cases rx;obtain⟨bm,ob,b1,b2,b0,b3,b4,b5,b6⟩:=hb;have hgs:s1.heap.Ns bP X.mg:=I1.mod.glob.keeps I1.bk;have hbP:bm≠T.P:=fun z=>by
  have n:=(I1.bs _ _ b3).2;rw[z]at n;rcases tb with t|⟨_,_,_,_,_,t,_⟩<;>(rw[t]at n;cases n)
 have hgP:bP≠T.P:=fun z=>by
  obtain⟨o,es,ep,g1,g2,_⟩:=I1.mod.glob;have n:=(I1.bs _ _ g1).2;rw[z]at n;rcases tb with t|⟨_,_,_,_,_,t,_⟩<;>(rw[t]at n;cases n)
 have hB:s1.heap.BuiltinsAt X.mg T.P:=⟨bm,ob,b1,b2,b0,hbP,I1.bk _ _ b3,b4,b5,b6⟩;refine kws_cons (kla_eval O.df ?_);rw[hq];rcases tb with t|⟨c',oc,u,vs,tk,t,hcT,hoc,hvs⟩
 ·refine kla_makeFunction (mg:=X.mg) O.cl I1.ok.glob hgs hcode (hC.keeps I1.bk) (ps:= #[]) (I1.hok _ _ t) True.intro rfl hgP hB fun c' ctv h' tk hx hge hlt hrec htb=>kws_nil ?_
  obtain⟨c2,oc,vs,t2,ec,hoc,hd,hv⟩:=hrec;cases ec;have hx':∀b o,b≠T.P->s1.heap.get? b=some o->(h'.push (kla_obj "<lambda>" T.q params (.Subscript (.Name x p1) (.Constant (.int 0) j p2) p3) scope [] ((X.mg "__name__").getD .none) c' ctv)).get? b=some o:=fun b o n e=>ag _ (hx b o n e);obtain⟨un,ok⟩:=un_tab (fs:=frs X.stack) I1.hok hx' t hge (ag _ htb) (ag _ hoc);have I2:=I1.call (g':=s1.gens) (t':=tk) (d':=s1.drawn) un ok I1.bare (fun b z=>absurd z (by simp));have tb1:Tab T H1:=.inl t;have gr:Gr T H1 (upd (upd H1 c' (.frz oc (.ext fun _=>True))) T.P (.tbl (#[]++ #[rawInt T.pos.line,rawInt T.pos.col,cK c']))):=by
   have hn:H1 c'=none:=I1.hok.fresh hge;refine⟨fun b o n e=>by rw[a7 n,a7 (bH e hn)];exact e,fun _=>.inr ⟨c',oc,.ext fun _=>True,vs,t2,?_,?_,hd,hv⟩⟩
   ·rw[ax];simp
   ·rw[a7 (cn (bH t hn)),ax]
  exact vE O I2 (aq _ rfl) ⟨c',oc,vs,t2,rfl,ag _ hoc,hd,hv⟩ hroom (gr.seq tb1 sq) h64 nd (Paired.qt hk fun v k ⟨b,rest,e1,e2⟩=>⟨b,rest,e1,gr.sH tb1 e2⟩) (q _ · gr)
 ·refine kla_makeFunctionHit (mg:=X.mg) O.cl I1.ok.glob hgs hcode (hC.keeps I1.bk) (I1.hok _ _ t) (by simp[TriplesOk,rawInt]) (cv:=.ref c') (by simp[codeAmong,rawInt]) hB fun ctv h' tk hk' hsz=>kws_nil ?_
  have I2:=I1.call (H':=H1) (h':=h'.push (kla_obj "<lambda>" T.q params (.Subscript (.Name x p1) (.Constant (.int 0) j p2) p3) scope [] ((X.mg "__name__").getD .none) c' ctv)) (g':=s1.gens) (t':=tk) (d':=s1.drawn) (ch:=[])
   (Un.kept fun b o e=>ag _ (hk' b o e)) (I1.hok.kept fun b o e=>ag _ (hk' b o e)) I1.bare (fun b z=>absurd z (by simp))
  exact vE O I2 (aq _ rfl) ⟨c',oc,vs,_,rfl,ag _ (hk' _ _ (I1.hok _ _ hcT).1),hoc,hvs⟩ hroom sq h64 nd hk fun l hl=>q H1 l (Gr.refl _ _) hl
end
end Lm
namespace Lm
open PySem PySem.Spec PySem.W PyProof.Rows L2 Q R
noncomputable def pj(lx:Str)(p:Pos):Arguments:={posonlyargs:=[],args:=[⟨lx,none,p⟩],vararg:=none,kwonlyargs:=[],kw_defaults:=[],kwarg:=none,defaults:=[]}
noncomputable def isArg(lx:Str):List Arg->Bool
 |x::r=>r.isEmpty&&(x.annotation.isNone&&x.arg==lx)
 | []=>false
noncomputable def vW(lx:Str)(a:Arguments):Bool:=a.posonlyargs.isEmpty&&(a.vararg.isNone&&(a.kwonlyargs.isEmpty&&(a.kw_defaults.isEmpty&&(a.kwarg.isNone&&(a.defaults.isEmpty&&isArg lx a.args)))))
theorem iW{a b:Bool}(h:(a&&b)=true):a=true/\b=true:=by rwa [aQ]at h
theorem emp{α:Type}{l:List α}(h:l.isEmpty=true):l=[]:=List.isEmpty_iff.mp h
theorem non{α:Type}{l:Option α}(h:l.isNone=true):l=none:=gC.mp h
theorem BF{a:Arguments}(h:vW lx a=true):∃p,a=pj lx p:=by
 obtain⟨po,ar,va,ko,kd,kw,df⟩:=a;obtain⟨h1,h⟩:=iW h;obtain⟨h2,h⟩:=iW h;obtain⟨h3,h⟩:=iW h;obtain⟨h4,h⟩:=iW h;obtain⟨h5,h⟩:=iW h;obtain⟨h6,h⟩:=iW h;cases ar with
 |nil=>exact(aE h).elim
 |cons x r=>
  obtain⟨h7,h⟩:=iW h;obtain⟨h8,h9⟩:=iW h;obtain⟨y,an,p⟩:=x;cases emp h1;cases non h2;cases emp h3;cases emp h4;cases non h5;cases emp h6;cases emp h7;cases non h8;cases eq_of_beq h9;exact⟨p,rfl⟩
noncomputable def oa(lx:Str)(sc:Scope):Bool:=decide (sc.names=[(lx,.local)])&&(decide (sc.kind=.function)&&(decide (sc.isCoroutine=false)&&(decide (sc.isGenerator=false)&&(lx==("__debug__":Str))==false)))
noncomputable def isNm(lx:Str):Expr->Bool
 |.Name x _=>x==lx
 |_=>false
theorem C7(h:isNm lx e=true):∃p,e=.Name lx p:=by
 cases e with
 |Name x p=>cases eq_of_beq h;exact⟨p,rfl⟩
 |_=>exact(aE h).elim
noncomputable def isZero:Expr->Bool
 |.Constant c _ _=>decide (c=.int 0)
 |_=>false
theorem EH(h:isZero e=true):∃j p,e=.Constant (.int 0) j p:=by
 cases e with
 |Constant c j p=>cases of_decide_eq_true h;exact⟨j,p,rfl⟩
 |_=>exact(aE h).elim
noncomputable def C8(lx:Str):Expr->Bool
 |.Subscript a b _=>isNm lx a&&isZero b
 |_=>false
theorem BJ(h:C8 lx e=true):∃p1 j p2 p3,e=.Subscript (.Name lx p1) (.Constant (.int 0) j p2) p3:=by
 cases e with
 |Subscript a b p=>
  obtain⟨h1,h2⟩:=iW h;obtain⟨p1,rfl⟩:=C7 h1;obtain⟨j,p2,rfl⟩:=EH h2;exact⟨_,_,_,_,rfl⟩
 |_=>exact(aE h).elim
noncomputable def Iy(lx:Str)(pos:Pos):Expr->Bool
 |.Lambda params body scope lp=>decide (lp=pos)&&(vW lx params&&(oa lx scope&&C8 lx body))
 |_=>false
theorem EU(h:Iy lx pos e=true):∃pa scope p1 j p2 p3,e=.Lambda (pj lx pa) (.Subscript (.Name lx p1) (.Constant (.int 0) j p2) p3) scope pos/\oa lx scope=true:=by
 cases e with
 |Lambda params body scope lp=>
  obtain⟨h1,h⟩:=iW h;obtain⟨h2,h⟩:=iW h;obtain⟨h3,h4⟩:=iW h;cases of_decide_eq_true h1;obtain⟨pa,rfl⟩:=BF h2;obtain⟨p1,j,p2,p3,rfl⟩:=BJ h4;exact⟨_,_,_,_,_,_,rfl,h3⟩
 |_=>exact(aE h).elim
noncomputable def chkKw(lx:Str)(pos:Pos):List Keyword->Bool
 |k::r=>r.isEmpty&&(decide (k.arg=some (cT "key"))&&Iy lx pos k.value)
 | []=>false
noncomputable def Iz(sc:Scope)(N:List Str)(ce:CE)(lx:Str)(pos:Pos):Expr->Bool
 |.Call f es ks _=>isNm "sorted" f&&(nu sc "sorted"&&(qC sc N (.cons ce .nil) es&&chkKw lx pos ks))
 |_=>false
noncomputable def chkTg(sc:Scope)(N:List Str)(i:Nat):List Expr->Bool
 |g::r=>r.isEmpty&&vk sc N true (.name i) g
 | []=>false
noncomputable def IA(sc:Scope)(N:List Str)(i:Nat)(ce:CE)(lx:Str)(pos:Pos):Stmt->Bool
 |.Assign ts v _=>chkTg sc N i ts&&Iz sc N ce lx pos v
 |_=>false
theorem EV{ce:CE}{s:Stmt}(h:IA sc N i ce lx pos s=true):∃g e pa scope p1 j p2 p3 p kp cp sp,s=.Assign [g] (.Call (.Name "sorted" p) [e] [⟨some (cT "key"),.Lambda (pj lx pa) (.Subscript (.Name lx p1) (.Constant (.int 0) j p2) p3) scope pos,kp⟩] cp) sp/\
  vk sc N true (.name i) g=true/\nu sc "sorted"=true/\d4 sc N ce e=true/\oa lx scope=true:=by
 cases s with
 |Assign ts v sp=>
  obtain⟨h1,h2⟩:=iW h;cases ts with
  |nil=>exact(aE h1).elim
  |cons g r=>
   obtain⟨h3,h4⟩:=iW h1;cases emp h3;cases v with
   |Call f es ks cp=>
    obtain⟨h5,h2⟩:=iW h2;obtain⟨h6,h2⟩:=iW h2;obtain⟨h7,h8⟩:=iW h2;obtain⟨p,rfl⟩:=C7 h5;obtain⟨e,r',rfl,h9,h10⟩:=m8 h7;cases pF h10;cases ks with
    |nil=>exact(aE h8).elim
    |cons k ks=>
     obtain⟨h11,h12⟩:=iW h8;obtain⟨h13,h14⟩:=iW h12;cases emp h11;obtain⟨ka,kv,kp⟩:=k;cases of_decide_eq_true h13;obtain⟨pa,scope,p1,j,p2,p3,e1,h15⟩:=EU h14;cases e1;exact⟨_,_,_,_,_,_,_,_,_,_,_,_,rfl,h4,h6,h9,h15⟩
   |_=>exact(aE h2).elim
 |_=>exact(aE h).elim
noncomputable def chkK(sc:Scope)(N:List Str)(c1:CS)(i:Nat)(ce:CE)(lx:Str)(pos:Pos)(c2:CB):List Stmt->Bool
 |s1::r=>chkS sc N c1 s1&&rst r
 | []=>false
where rst:List Stmt->Bool
 |s2::rest=>IA sc N i ce lx pos s2&&vm sc N c2 rest
 | []=>false
section
variable {P:Program}{w:World}{K:ah}{mg:Str->Option Value}{base:Heap}
theorem HP{st:Stmt}{fd:gu}{ps:List Str}{sp:Sp}{c1:CS}{ce:CE}{c2:CB}{T:Tb}(F:Fun K x qual st f fd)(hd:oY N ps (aP st)=true)
  (hc:chkK (aP st) N c1 i ce lx T.pos c2 (bf st)=true)(hcd:fd.code=.ref c)(hC:CodeHd base c T.P)(hq:qual++".<locals>."++"<lambda>"=T.q)(hb:BM mg base)
  (hbd:∀(p:Pos)(body:Expr)(scope:Scope)(qual:Str)(pm ctv v:Value)(c':Addr),oB (kla_fn "<lambda>" qual (pj lx p) body scope [] pm (.ref c') ctv) ⟨[v],[]⟩=pure [(lx,v)])
  (g:GOk P w K mg base (CXx P w) k G)(len:∀vs H Q E,sp vs H Q E->vs.length=ps.length)
  (h:∀vs H Q E,sp vs H Q E->uY (wpS G K (fun _=>E) c1) (uY (wX (sJ K T (wpE G K (fun _=>E) ce)) (kM i)) (wpB G K (fun _=>E) c2)) {nx:=fun _ H'=>Q .non H',rt:=Q} (start N vs) H):jA P w K mg base (CXx P w) (k+1) f fd ps sp:=by
 have S:=zG hd;obtain⟨oc,od,kV,doc,pm,an,cdv,ct,osl,rfl,lk,hcd'⟩:=F.ex;have ecd:cdv=.ref c:=hcd;subst ecd;refine fn_of lk hcd' S len fun A outer s H vs Q E hr hsp=>?_;have o:Ok (CXx P w) G (fun _=>E) (aP st) N true (vg (CXx P w) P w K mg base N qual (aP st) f (.ref c) A outer s H E):=
  {names:=rfl,top:=fun _=>⟨rfl,rfl,rfl⟩,nd:=S.nd,loc:=fun _ z=>z,cel:=fun _ z=>z,fre:=fun y z=>absurd rfl (S.nofree _ (bq z)),glo:=fun _ z=>z,all:=fun _ _=>rfl,own:=fun _ _=>rfl,calm:=rfl,
   hu:=by have :=hr.units;show _+50<cLine;exact da (Nat.add_le_add_left (by decide) _) this
   val:=g.val
   fn:=fun y n sp' dvs e=>by
    obtain⟨f',fd',ps',ds',j,hj,F',hm,hk,hb,hv⟩:=g.fn y n sp' dvs e;exact⟨f',fd',ps',ds',j,F',hr.mono hj,hm,hk,hb,hv⟩
   ini:=fun y n C sp' dvs e=>by
    obtain⟨f',fd',ps',ds',j,hj,M,F',hm,hb,hv⟩:=g.ini y n C sp' dvs e;exact⟨f',fd',ps',ds',j,M,F',hr.mono hj,hm,hb,hv⟩
   dic:=g.dic
   mak:=fun y n C sp' dvs e=>by
    obtain⟨f',fd',ps',ds',j,hj,M,F',hm,hb,hv⟩:=g.mak y n C sp' dvs e;exact⟨f',fd',ps',ds',j,M,F',hr.mono hj,hm,hb,hv⟩
   mth:=fun y n C sp' dvs e=>by
    obtain⟨f',fd',ps',ds',j,hj,c,M,F',hb,hv⟩:=g.mth y n C sp' dvs e;exact⟨f',fd',ps',ds',j,c,M,F',hr.mono hj,hb,hv⟩
   blt:=g.blt,px:=DK,pass:=wx,made:=wy,madeX:=uF,cx:=rfl}
 refine⟨_,?_,h vs H Q E hsp⟩;generalize hB:bf st=body at hc;cases body with
 |nil=>exact(aE hc).elim
 |cons s1 r=>
  obtain⟨h1,hc⟩:=iW hc;cases r with
  |nil=>exact(aE hc).elim
  |cons s2 rest=>
  obtain⟨h2,h3⟩:=iW hc;obtain⟨g',e,pa,scope,p1,j,p2,p3,p,kp,cp,sp',rfl,h4,h6,h7,h12⟩:=EV h2;obtain⟨n1,h12⟩:=iW h12;obtain⟨n2,h12⟩:=iW h12;obtain⟨n3,h12⟩:=iW h12;obtain⟨n4,n5⟩:=iW h12;rw[decide_eq_true_eq]at n1 n2 n3 n4;have hG:=qk (CX:=CXx P w) (fun _ _ _ _ _ z=>EN z) (.name i) _ o h4;refine sW (F6 (fun _ _ _ _ _ z=>EN z) c1 s1 o (fun _ _ _ _ _=>S.kind) h1) (sW ?_ (ql (fun _ _ _ _ _ z=>EN z) c2 rest o (fun _ _ _ _ _=>S.kind) h3));refine GK (GS (c:=c) (T:=T) (bN (fun _ _ _ _ _ z=>EN z) ce e o h7) (bV h7 [] _) (o.gl h6) (g.blt _ (by decide+kernel)) rfl hC hq hb ?_ ?_) hG (G9 rfl _ _ _) (tB h4 (iL _) _) (by rw[o4 h4];rfl)
  ·refine⟨?_,rfl,fun qual pm ctv v c'=>hbd pa _ _ qual pm ctv v c',by rw[n1];simp,by simpa using n5,n2,?_,n3,n4⟩
   ·unfold Fi
    rw[n1];rfl
   ·rw[n1]
    intro z hz;have :z=(lx,eh.local):=by simpa using hz
    rw[this];exact fun z=>by cases z
  ·exact hr.depth
end
noncomputable def ju(K:ah)(tabs:List Addr)(a:Addr)(vs:List Value)(ns:List Int):Hp:=fun b=>
 if b∈tabs then some (.tbl #[])else if b=a/\K.lookup a=none then some (.frz {cls:=.type "list",data:=.seq vs.toArray} (.lst (ns.map V.int)))else none
theorem EE{CX:CXT}{fd:gu}{sp:Sp}{s₁:Shared}(KX:K.In s₁.heap)
  (hns:s₁.heap.Ns bP mg)(hb:s₁.heap.Ns l6 mb)(hbb:∀x:Str,x≠"__name__"->mb x=eU x)(hlim:s₁.heap.NoLimit)(hg:s₁.gens= #[])(ha:s₁.heap.get? a=some {cls:=.type "list",data:=.seq vs.toArray})
  (hi:ck vs ns) (hl:ns.length<=sizeLine) (hr:ke k DH) (hT:∀p∈tabs,s₁.heap.get? p=some (tabObj #[])/\isCodeTable s₁.heap p/\K.lookup p=none)
  (F:∀base:Heap,K.In base->base.Ns bP mg->(∀b o,s₁.heap.get? b=some o->o.cls≠.none->o.cls≠.type "list"->base.get? b=some o)->jA P w K mg base CX k fa fd [x] sp)
  (hbind:∀(s:Shared)(u:Value),BindsTo s fd ⟨[u],[]⟩ [(x,u)])
  (hsp:∀H:Hp,(∀p∈tabs,H p=some (.tbl #[]))->SqL K H a (ns.map V.int)->sp [.ref a] H (fun v _=>v=.bl true) fun _ _ _=>False) (hCX:∀H e s',CX [] H s₁ (fun _ _ _=>False) e s'->False):
  hZ (model P w) DH (.call (.ref fa) ⟨[.ref a],[]⟩) (fun r s'=>r=.ok (.ret (.bool true))/\OldK s₁.heap s'.heap/\s'.os=s₁.os/\nr s'.gens) s₁:=by
 have rv:=qd hi;have lenV:=hi.length;have cases3:∀b,(b∈tabs/\ju K tabs a vs ns b=some (.tbl #[]))\/(b=a/\K.lookup a=none/\ju K tabs a vs ns b=some (.frz {cls:=.type "list",data:=.seq vs.toArray} (.lst (ns.map V.int))))\/ju K tabs a vs ns b=none:=fun b=>by
  unfold ju;by_cases h1:b∈tabs
  ·exact .inl ⟨h1,if_pos h1⟩
  ·rw[if_neg h1]
   by_cases h2:b=a/\K.lookup a=none
   ·exact .inr (.inl ⟨h2.1,h2.2,if_pos h2⟩)
   ·exact .inr (.inr (if_neg h2))
 have tabH:∀p∈tabs,ju K tabs a vs ns p=some (.tbl #[]):=fun p hp=>if_pos hp;have haT:a∉tabs:=fun z=>by
  have :=(hT a z).1
  rw[ha]at this;cases this
 --what is neither a table nor a list is not tracked
 have untr:∀{b:Addr}{o:Obj},s₁.heap.get? b=some o->o.cls≠.none\/(∃es ep,o.data=.dict es ep)->o.cls≠.type "list"\/(∃es ep,o.data=.dict es ep)->ju K tabs a vs ns b=none:=fun{b o} e h1 h2=>by
  rcases cases3 b with⟨q,_⟩ |⟨rfl,_⟩ |q
  ·have :=(hT b q).1
   rw[e]at this;cases this;rcases h1 with z|⟨_,_,z⟩
   ·exact absurd rfl z
   ·cases z
  ·rw[ha]at e;cases e
   rcases h2 with z|⟨_,_,z⟩
   ·exact absurd rfl z
   ·cases z
  ·exact q
 have nsK:∀{b:Addr}{m:Str->Option Value},s₁.heap.Ns b m->(z6 s₁.heap (ju K tabs a vs ns)).Ns b m:=fun{b m} ⟨o,es,ep,e,d,r⟩=>⟨o,es,ep,tT e (untr e (.inr ⟨_,_,d⟩) (.inr ⟨_,_,d⟩)),d,r⟩;have hKb:K.In (z6 s₁.heap (ju K tabs a vs ns)):=fun b o e=>tT (KX b o e) (by
  rcases cases3 b with⟨q,_⟩ |⟨rfl,z,_⟩ |q
  ·rw[(hT b q).2.2]at e;cases e
  ·rw[z]at e;cases e
  ·exact q)
 have hok:HOk P w (ju K tabs a vs ns) s₁.heap:=fun b o e=>by
  rcases cases3 b with⟨q,z⟩ |⟨rfl,_,z⟩ |z
  ·rw[z]at e;cases e
   exact(hT b q).1
  ·rw[z]at e;cases e
   exact⟨ha,by rw[ai];exact hl,vs,_,rv,ha⟩
  ·rw[z]at e;cases e
 have hS:SqL K (ju K tabs a vs ns) a (ns.map V.int):=by
  cases hk:K.lookup a with
  |none=>
   refine .inl (.inr ⟨{cls:=.type "list",data:=.seq vs.toArray},?_⟩);unfold ju;rw[if_neg haT,if_pos ⟨rfl,hk⟩]
  |some o=>
   have e:=KX a o hk;rw[ha]at e;cases e;exact .inr ⟨_,vs.toArray,_,hk,rfl,rfl,rfl,by rw[aG,lenV];exact hl,by simpa using rv⟩
 have hM:Mod K mg (z6 s₁.heap (ju K tabs a vs ns)):=⟨hKb,nsK hns,⟨mb,nsK hb,hbb⟩,let⟨mc,h1,h2⟩:=hlim;⟨mc,nsK h1,h2⟩⟩;have e0:Env0 P w K mg (z6 s₁.heap (ju K tabs a vs ns)) DH [] s₁ (ju K tabs a vs ns):=⟨rfl,hM,fun b o e=>of_hidT e,Fo (EL _ _),trivial,fun b hb=>absurd (show b∈([]:List Addr)from hb) (by simp),hok,.of_eq hg⟩;have f0:=F _ hKb (nsK hns) fun b o e h1 h2=>tT e (untr e (.inl h1) (.inl h2));refine lG (f0.run DH [] s₁ (ju K tabs a vs ns) ⟨[.ref a],[]⟩ [.ref a] [.ref a] _ _ hr e0 (hbind s₁ (.ref a)) (.cons rfl .nil) (hsp _ tabH hS)) fun r s' h=>?_;cases r with
 |error e=>exact(hCX _ e s' h).elim
 |ok fl=>
  cases fl with
  |next =>exact km h
  |brk=>exact km h
  |cont=>exact km h
  |ret u=>
   obtain⟨v,H',os,bare,un,hok',r',q⟩:=h;have q':v=.bl true:=q;subst q';obtain rfl:u=yG true:=r';have kept:∀b o,s₁.heap.get? b=some o->b∉tabs->s'.heap.get? b=some o:=fun b o e nt=>by
    rcases cases3 b with⟨z,_⟩ |⟨rfl,_,z⟩ |z
    ·exact absurd z nt
    ·have z2:=un.frzs b _ _ z
     obtain⟨e2,_⟩:=hok' b _ z2;rw[ha]at e;cases e;exact e2
    ·exact un.keep b o e z (by intro z;exact absurd (show b∈([]:List Addr)from z) (by simp)) (by simp)
   have grown:∀b∈tabs,∃more,s'.heap.get? b=some (tabObj (#[]++more)):=fun b hb=>by
    obtain⟨more,z⟩:=un.tbls b _ (tabH b hb);exact⟨more,hok' b _ z⟩
   refine⟨rfl,⟨fun b o e=>?_,fun b o e=>?_⟩,os,bare⟩
   ·by_cases hb:b∈tabs
    ·obtain⟨e1,ct,_⟩:=hT b hb
     rw[e]at e1;cases e1;obtain⟨more,z⟩:=grown b hb;exact .inr (.inl ⟨ct,rfl,#[],more,rfl,z⟩)
    ·exact .inl (kept b o e hb)
   ·by_cases hb:b∈tabs
    ·obtain⟨more,z⟩:=grown b hb
     exact⟨_,z⟩
    ·exact⟨o,kept b o e hb⟩
theorem bm_of(hg:h.Ns bP mg)(hb:∃bm ob,mg "__builtins__"=some (.ref bm)/\bm≠l6/\h.get? bm=some ob/\ob.cls=.type "module"/\ob.dict=some l6/\ob.data=.plain):BM mg h:=by
 obtain⟨bm,ob,b1,b2,b3,b4,b5,b6⟩:=hb;refine⟨bm,ob,b1,b2,fun q=>?_,b3,b4,b5,b6⟩;obtain⟨o,es,ep,e,hd,_⟩:=hg;rw[q,e]at b3;cases b3;rw[hd]at b6;cases b6
theorem FI{l:PySem.W.OpenLaw}{q:Program}{XP:(Str->Option Value)->Heap->Prop}{YP:World->Heap->Prop}{d:DefRec}{K:Params->ah}{CX:CXT}{sp:ah->Sp}
  (hn:l.most=some n)(hn2:n<=sizeLine)(hdf:d.params.defaults=[])(hr:ke k DH)(hY:∀(w:World)(h:Heap),YP w h->(K w.params).In h)
  (hT:∀(w:World)(s₀:Shared)(mg mb:Str->Option Value)(h:Heap),Ground q loose [] XP w s₀ mg mb h->YP w h->∀p∈tabs,h.get? p=some (tabObj #[])/\isCodeTable h p/\(K w.params).lookup p=none)
  (F:∀(w:World)(mg:Str->Option Value)(fa:Addr)(h:Heap),(K w.params).In h->h.Ns bP mg->mg d.name=some (.ref fa)->
   ∃fd:gu,(∀(s:Shared)(u:Value),BindsTo s fd ⟨[u],[]⟩ [(x,u)])/\
    ∀base:Heap,(K w.params).In base->base.Ns bP mg->BM mg base->jA l.prog w (K w.params) mg base CX k fa fd [x] (sp (K w.params)))
  (hsp:∀(K:ah)(H:Hp)(a:Addr)(ns:List Int),ns.length<=n->(∀p∈tabs,H p=some (.tbl #[]))->SqL K H a (ns.map V.int)->sp K [.ref a] H (fun v _=>v=.bl true) fun _ _ _=>False)
  (hCX:∀(H:Hp)(s:Shared)(e:Value)(s':Shared),CX [] H s (fun _ _ _=>False) e s'->False):
  PySem.W.WalkO q loose XP YP l.row.toRowW d [] (fun f vs=>PySem.call f vs):=by
 refine Att.AA hn hdf fun w s₀ s₁ mg mb fa o pm cd doc a vs ns G Y ho hd hcd hmg hobj hints hlen hg=>?_;have KX:=hY w _ Y;obtain⟨fd,hb,hF⟩:=F w mg fa _ KX G.T.g hmg;have hbm:=bm_of G.T.g G.T.bmain;refine EE KX G.T.g G.T.b G.T.builtins G.T.nolimit hg hobj hints (aT hlen hn2) hr (hT w s₀ mg mb _ G Y) (fun base k1 k2 k3=>hF base k1 k2 ?_) hb (fun H t S=>hsp _ H a ns hlen t S) fun H e s'=>hCX H s₁ e s';obtain⟨bm,ob,b1,b2,b0,b3,b4,b5,b6⟩:=hbm;exact⟨bm,ob,b1,b2,b0,k3 bm ob b3 (by rw[b4];nofun) (by rw[b4];decide),b4,b5,b6⟩
end Lm
namespace Cp
open PySem PySem.Spec PyProof.Rows L2 R Lm
noncomputable def oW:List Str:=["table"]
noncomputable def i6:List Str:=["table","ordered"]
noncomputable def j9:CS:=.expr (.call "need_table" (.cons (.var 0) .nil))
noncomputable def j8:CB:=.cons (.ret (.comp ["name","readings"] [] (.tup (.cons (.name 0) (.cons (.name 1) .nil))) (.seq (.var 1)) .no (.tup (.cons (.var 0) (.cons (.bfn .tuple (.cons (.bfn .list (.cons (.var 1) .nil)) .nil)) .nil))))) .nil
theorem _root_.Lm.Gr.free{T:Tb}(g:Gr T H H')(t:Tab T H)(h:H' l=none):H l=none:=by
 cases e:H l with
 |none=>rfl
 |some o=>
  by_cases n:l=T.P
  ·rcases g.tab t with z|⟨_,_,_,_,_,z,_⟩
   ·rw[n,z]at h;cases h
   ·rw[n,z]at h;cases h
  ·rw[g.keep l o n e]at h;cases h
noncomputable def srt(H:Hp):V->List V
 |.ref a=>match eB (H a)with
  |some ys=>_root_.Q.sortBy .non (ys.map (aW H)) ys
  |none=>[]
 |_=>[]
noncomputable def Copied(H H':Hp)(us zs:List V):Prop:=zs.length=us.length/\∀(i:Nat) z,zs[i]? =some z->∃b r,z=.ref b/\H' b=some (.tup [.str (aW H (us.getD i .non)),.ref r])/\H' r=some (.tup (oV H (us.getD i .non)))
noncomputable def qj(C:Addr)(T:Tb):Sp:=fun vs H Q E=>∃x,vs=[x]/\Kn4 H x/\Tab T H/\(dR H x=true->∀H' l zs,Gr T H H'->H l=none->H' l=some (.lst zs)->Copied H H' (srt H x) zs->Q (.ref l) H')/\(dR H x=false->False)
theorem tk_of(s:aO H H'):∀{xs:List V},(∀y∈xs,dw H y=true)->_root_.Q.lD H' xs (xs.map (aW H))
 | [],_=>.nil
 |y::xs,h=>by
  obtain⟨a,b,e,h1,_⟩:=jQ (h y (.head _));exact .cons ⟨a,_,e,s _ _ h1⟩ (tk_of s fun z hz=>h z (.tail _ hz))
theorem uU{T:Tb}(g1:G.fn "need_table" 1=some (wZ C,[])):
  ∀vs H Q E,qj C T vs H Q E->uY (R.wpS G K (fun _=>E) j9) (uY (wX (sJ K T (wpE G K (fun _=>E) (.var 0))) (kM 1)) (wpB G K (fun _=>E) j8)) {nx:=fun _ H'=>Q .non H',rt:=Q} (L2.start i6 vs) H:=by
 rintro vs H Q E ⟨x,rfl,hk,tb,q1,q2⟩;unfold j9 j8;change uY _ _ _ [some x,none] H;unfold sJ;walk_at "wp";refine⟨_,_,g1,x,rfl,hk,fun e H1 s1=>?_,q2⟩;obtain⟨a,ys,rfl,h1,h2,h3,h4,h5⟩:=eS e;have tb1:Tab T H1:=(Gr.of s1).tab tb;refine⟨a,ys,ys.map (aW H),rfl,s1.seq (kK h1),by rw[ai];omega,h4,tk_of s1 h3,tb1,fun H2 l gr hl=>?_⟩;have eu:srt H (.ref a)=_root_.Q.sortBy V.non (ys.map (aW H)) ys:=by
  show(match eB (H a)with |some ys=>_root_.Q.sortBy V.non (ys.map (aW H)) ys|none=>[])=_;rw[h1]
 have zp:(_root_.Q.sortBy V.non (ys.map (aW H)) ys).Perm ys:=_root_.Q.eF V.non h4 (by simp);have q0:=q1 e;rw[eu]at q0;generalize _root_.Q.sortBy V.non (ys.map (aW H)) ys=us at zp q0⊢;have gr0:Gr T H (upd H2 l (.lst us)):=(Gr.of s1).trans (gr.trans (Gr.of (aC hl)));have el:upd H2 l (.lst us) l=some (.lst us):=ax;generalize upd H2 l (.lst us)=H3 at gr0 el⊢;have hul:us.length<=40:=by rw[zp.length_eq];exact h2
 refine cM (bQ rfl (SqL.of el) (c9 dj (aT hul (by decide)) (fun H4 s4=>SqL.of (s4 _ _ el)) (fun i v H'=>∃b r,v=V.ref b/\H' b=some (.tup [.str (aW H (us.getD i .non)),.ref r])/\H' r=some (.tup (oV H (us.getD i .non))))
  (fun i v H4 H5 s5 ⟨b,r,z1,z2,z3⟩=>⟨b,r,z1,s5 _ _ z2,s5 _ _ z3⟩) (fun τ=>∃t u,τ=[t,u]) ⟨none,none,rfl⟩ ?_ ?_))
 ·rintro j y τ H4 R hi ⟨t,u,rfl⟩ s4 hy k
  have hm:y∈ys:=zp.mem_iff.mp (aI hy);obtain⟨b,c,rfl,k1,k2,k3,k4⟩:=jQ (h3 y hm);have f1:=s4 _ _ (gr0.sH tb k1);have f2:=s4 _ _ (gr0.sH tb k2);refine⟨b,_,rfl,SqT.of f1,rfl,_,_,rfl,_,_,rfl,rfl,?_⟩;walk_at "wp";refine⟨c,_,rfl,.inr (SqT.of f2),fun l1 hl1=>⟨l1,_,rfl,.inl ⟨SqL.of ax,fun r hr=>⟨aT (by simp :_<=2) (by decide),fun p hp=>k _ _ _ ⟨_,_,rfl⟩ ((aC hl1).trans ((aC hr).trans (aC hp))) ?_⟩⟩⟩⟩;rw[getD_some hy];exact⟨p,r,rfl,ax,by rw[a7 (bH ax hp)];exact ax⟩
 ·intro vs H4 l2 hvl hF s4 hl2
  have gr4:Gr T H H4:=gr0.trans (Gr.of s4);have s5:aO H4 (upd H4 l2 (.lst vs)):=aC hl2;refine q0 _ l2 vs (gr4.trans (Gr.of s5)) (gr4.free tb hl2) ax ⟨hvl,fun i z hz=>?_⟩;obtain⟨b,r,z1,z2,z3⟩:=hF i z hz;exact⟨b,r,z1,s5 _ _ z2,s5 _ _ z3⟩
end Cp
namespace K22
open PySem R
noncomputable def p_clash:List Str:=["table"]
noncomputable def C0:List Str:=["table","copies","count","one","other","names"]
noncomputable def wm:CB:=
  (.cons (.ret (.con .none))
  .nil)
noncomputable def wo:CB:=
  (.cons (.forr (.name 3) (.range1 (.var 2))
  (.cons (.forr (.name 4) (.range2 (.bin .Add (.var 3) (.con (.int 1))) (.var 2))
  (.cons (.asg (.name 5) (.call "first_of_kinds" (.cons (.var 1) (.cons (.var 3) (.cons (.var 4) .nil)))))
  (.cons (.iff (.cmp .IsNot (.var 5) (.con .none))
  (.cons (.ret (.tup (.cons (.var 3) (.cons (.var 4) (.cons (.var 5) .nil)))))
  .nil)
  .nil)
  .nil)))
  .nil))
  wm)
noncomputable def wt:CB:=
  (.cons (.asg (.name 2) (.call "place_count" (.cons (.var 1) .nil)))
  wo)
noncomputable def Dz:CB:=
  (.cons (.asg (.name 1) (.call "table_list" (.cons (.var 0) .nil)))
  wt)
end K22
namespace K22
open PySem PySem.Spec PyProof.Rows L2 R Cp Lt Kc K21 Lm
noncomputable def cd(H:Hp)(y:V):Str×List V:=(aW H y,oV H y)
noncomputable def El(i:Int)(p:Str×List V):Int:=match p.2.getD i.toNat .non with
 |.int n=>n
 |_=>0
noncomputable def isK(i j:Int)(k:Int×Int)(p:Str×List V):Bool:=decide (El i p=k.1/\El j p=k.2)
noncomputable def pA(rows:List (Str×List V))(i j:Int):Bool:=KP.all fun k=>rows.any (isK i j k)
noncomputable def CW(rows:List (Str×List V))(i j:Int)(k:Int×Int):Str:=((rows.find? (isK i j k)).map (·.1)).getD ""
theorem Dd{i j:Int}:jZ H xs i j=pA (xs.map (cd H)) i j:=by
 unfold jZ pA;congr 1;funext k;rw[nq];rfl
theorem He{i j:Int}(h:jZ H xs i j=true):KP.map (firstOf H xs i j)=(KP.map (CW (xs.map (cd H)) i j)).map V.str:=by
 rw[aY];refine bO fun k hk=>?_;have hall:xs.any (fun y=>decide (num H i y=k.1/\num H j y=k.2))=true:=by
  unfold jZ at h;exact bC.mp h k hk
 have ep:(fun y=>decide (kf H i j y=n9 k))=(isK i j k)∘(cd H):=by
  funext y
  exact decide_eq_decide.mpr kf_eq
 show firstOf H xs i j k=V.str (CW (xs.map (cd H)) i j k);unfold firstOf CW;rw[ep,List.find?_map];obtain⟨y0,hy0,e0⟩:=bp.mp hall;cases hf:xs.find? ((isK i j k)∘(cd H))with
 |none=>
  rw[rB]at hf;exact absurd e0 (hf y0 hy0)
 |some y=>rfl
structure First(rows:List (Str×List V))(n i j:Nat):Prop where
 ij:i<j
 jn:j<n
 four:pA rows i j=true
 no:∀a b:Nat,a<b->b<n->(a<i\/a=i/\b<j)->pA rows a b=false
noncomputable def NoC(rows:List (Str×List V))(n:Nat):Prop:=∀a b:Nat,a<b->b<n->pA rows a b=false
noncomputable def Res(H:Hp)(rows:List (Str×List V))(n:Nat)(v:V):Prop:=(v=.non/\NoC rows n)\/∃(i j:Nat)(a l:Addr),v=.ref a/\First rows n i j/\H a=some (.tup [.int i,.int j,.ref l])/\H l=some (.tup ((KP.map (CW rows i j)).map V.str))
noncomputable def rowsOf(H:Hp)(x:V):List (Str×List V):=(srt H x).map (cd H)
theorem xv{r:Addr}(h1:H b=some (.tup [.str z,.ref r]))(h2:H r=some (.tup zs)):cd H (.ref b)=(z,zs):=by
 have e1:aW H (.ref b)=z:=by
  show(match dA (H b)with |some (.str z::_)=>z|_=>("":Str))=_;rw[h1];rfl
 have e2:oV H (.ref b)=zs:=by
  show(match dA (H b)with |some [_,.ref b]=>(dA (H b)).getD [] |_=>[])=zs;rw[h1];show(dA (H r)).getD []=zs;rw[h2];rfl
 unfold cd;rw[e1,e2]
theorem oO{t:Addr}(h:eB (H t)=some ys):srt H (.ref t)=_root_.Q.sortBy .non (ys.map (aW H)) ys:=by
 show(match eB (H t)with |some ys=>_root_.Q.sortBy V.non (ys.map (aW H)) ys|none=>[])=_;rw[h]
theorem Et{x:V}(h:dw H x=true):gY (aW H x)=true:=by
 obtain⟨_,_,_,_,_,_,_,h4,_,_,h7,_⟩:=gI h;rw[h7];exact h4
theorem uf{x:V}(e:dR H x=true)(el:H' l=some (.lst zs))(c:Copied H H' (srt H x) zs):
  Kn4 H' (.ref l)/\dR H' (.ref l)=true/\count H' (.ref l)=count H x/\zs.map (cd H')=rowsOf H x:=by
 obtain⟨a,ys,rfl,h1,h2,h3,h4,h5⟩:=eS e;have eu:=oO h1;have zp:(srt H (.ref a)).Perm ys:=by rw[eu];exact _root_.Q.eF V.non h4 (by simp)
 unfold rowsOf;generalize srt H (.ref a)=us at c zp⊢;have hul:us.length<=40:=by rw[zp.length_eq];exact h2
 have hu:∀u∈us,dw H u=true/\cI H u=count H (.ref a):=fun u hm=>⟨h3 u (zp.mem_iff.mp hm),h5 u (zp.mem_iff.mp hm)⟩;have nd:(us.map (aW H)).Nodup:=(zp.map (aW H)).nodup_iff.mpr h4;have get:∀{i:Nat}{z:V},zs[i]? =some z->us[i]? =some (us.getD i .non)/\us.getD i .non∈us:=fun{i z} hz=>by
  have hi:i<us.length:=by
   have :=(aH.mp hz).1
   rw[<-c.1];exact this
  have e:us[i]? =some (us.getD i .non):=by rw[af,aa hi];rfl
  exact⟨e,aI e⟩
 let nf:Nat->Str:=fun i=>if i<us.length then aW H (us.getD i .non)else "a"
 have hnf:∀i,gY (nf i)=true:=fun i=>by
  show gY (if i<us.length then aW H (us.getD i .non)else "a")=true;split
  ·rename_i hi
   have e:us[i]? =some (us.getD i .non):=by rw[af,aa hi];rfl
   exact Et (hu _ (aI e)).1
  ·decide+kernel
 have dr:Dr H' nf (count H (.ref a)) zs:=fun i z hz=>by
  obtain⟨b,r,hb,h6,h7⟩:=c.2 i z hz;obtain⟨g1,g2⟩:=get hz;have hi:i<us.length:=(aH.mp g1).1;obtain⟨c1,c2⟩:=hu _ g2;obtain⟨_,_,_,_,_,k3,k4⟩:=jQ c1;refine⟨b,r,_,hb,?_,h7,by rw[k3,c2],k4⟩;show H' b=some (.tup [.str (if i<us.length then aW H (us.getD i .non)else "a"),.ref r]);rw[if_pos hi];exact h6
 have hn60:ys=[]\/count H (.ref a)<=60:=by
  cases ys with
  |nil=>exact .inl rfl
  |cons y r=>
   right
   rw[<-h5 y (.head _)];obtain⟨_,_,_,_,_,_,_,_,h60,_,_,h8⟩:=gI (h3 y (.head _));rw[h8];exact h60
 have hinj:∀i j,i<zs.length->j<zs.length->nf i=nf j->i=j:=fun i j hi hj e=>by
  rw[c.1]at hi hj;have e':(if i<us.length then aW H (us.getD i .non)else "a")=(if j<us.length then aW H (us.getD j .non)else "a"):=e;rw[if_pos hi,if_pos hj]at e';have g:∀k (hk:k<us.length),(us.map (aW H))[k]'(by simpa using hk)=aW H (us.getD k .non):=fun k hk=>by
   rw[bo,af,aa hk];rfl
  rw[<-g i hi,<-g j hj]at e';exact(dz nd).mp e'
 have hz0:zs=[]↔us=[]:=by
  rw[<-aV,c.1,aV]
 have map_eq:zs.map (cd H')=us.map (cd H):=by
  apply gd
  intro i;rw[ao,ao];cases hz:zs[i]? with
  |none=>
   have :us.length<=i:=by
    have :=AJ.mp hz
    rw[c.1]at this;exact this
   rw[bK this];rfl
  |some z=>
   obtain⟨b,r,rfl,h6,h7⟩:=c.2 i z hz;rw[(get hz).1];show some (cd H' (.ref b))=some (cd H (us.getD i .non));rw[xv h6 h7];rfl
 rcases hn60 with hy|hn60
 ·have hus:us=[]:=by rw[hy]at zp;exact List.perm_nil.mp zp
  have hzs:=hz0.mpr hus;subst hzs;have dr0:Dr H' nf 0 []:=fun i y e=>by simp at e
  obtain⟨t1,t2,_,_⟩:=ub hnf (fun i j hi=>absurd hi (by simp)) el dr0 (by simp) (by decide);refine⟨t1,t2,?_,map_eq⟩;have e1:count H' (.ref l)=0:=by
   show(match eB (H' l)with |some (y::_)=>cI H' y|_=>0)=0;rw[el];rfl
  have e2:count H (.ref a)=0:=by
   show(match eB (H a)with |some (y::_)=>cI H y|_=>0)=0;rw[h1,hy]
  rw[e1,e2]
 ·obtain⟨t1,t2,_,t4⟩:=ub hnf hinj el dr (by rw[c.1];exact hul) hn60
  refine⟨t1,t2,?_,map_eq⟩;cases zs with
  |nil=>
   have hus:=hz0.mp rfl;have hy:ys=[]:=by rw[hus]at zp;exact List.nil_perm.mp zp
   have e1:count H' (.ref l)=0:=by
    show(match eB (H' l)with |some (y::_)=>cI H' y|_=>0)=0;rw[el];rfl
   have e2:count H (.ref a)=0:=by
    show(match eB (H a)with |some (y::_)=>cI H y|_=>0)=0;rw[h1,hy]
   rw[e1,e2]
  |cons z r=>
   show(match eB (H' l)with |some (y::_)=>cI H' y|_=>0)=_;rw[el];exact t4 z (.head _)
noncomputable def xc(C:Addr)(T:Tb):Sp:=fun vs H Q E=>∃x,vs=[x]/\Kn4 H x/\Tab T H/\(dR H x=true->∀H' v,Gr T H H'->Res H' (rowsOf H x) (count H x) v->Q v H')/\(dR H x=false->False)
theorem FH{T:Tb}(g1:G.fn "table_list" 1=some (qj C T,[]))(g2:G.fn "place_count" 1=some (rQ C,[]))(g3:G.fn "first_of_kinds" 3=some (xb,[])):
  Sat G K (xc C T) Dz C0:=by
 rintro vs H Q E ⟨x,rfl,hk,tb,q1,q2⟩;unfold Dz wt;change wpB G K _ _ _ [some x,none,none,none,none,none] H;walk_at "wp";refine⟨_,_,g1,x,rfl,hk,tb,fun e H1 l zs gr hl el cpd=>?_,q2⟩;obtain⟨kn,tt,ct,rows⟩:=uf e el cpd;have qq:=q1 e;generalize rowsOf H x=rw0 at rows qq;generalize hn:count H x=n at ct qq;refine⟨_,_,g2,.ref l,rfl,kn,fun _ H2 s2=>?_,fun z=>by rw[tt]at z;cases z⟩;rw[ct];have hx:eB (H1 l)=some zs:=by rw[el];rfl
 have pl:∀z:Nat,z<n->isPlace H1 (.ref l) (.int z)=true:=fun z hz=>decide_eq_true ⟨by omega,by omega⟩;have hn60:n<=60:=by
  obtain⟨a',xs',ea,f1,f2,f3,f4,f5⟩:=eS tt;cases ea;rw[hx]at f1;cases f1;rw[<-ct];cases zs with
  |nil=>
   show(match eB (H1 l)with |some (y::_)=>cI H1 y|_=>0)<=60;rw[el];exact aX _
  |cons y r=>
   rw[<-f5 y (.head _)];obtain⟨_,_,_,_,_,_,_,_,h60,_,_,h8⟩:=gI (f3 y (.head _));rw[h8];exact h60
 unfold wo;walk_at "wp";refine iT ?_;walk_at "wp";refine⟨(n:Int),rfl,by omega,by omega,?_⟩;refine hJ dJ (fun i σ H'=>aO H1 H'/\(∀a b:Nat,a<i->a<b->b<n->pA rw0 a b=false)/\∃u v w,σ=[some x,some (.ref l),some (.int n),u,v,w])
  ⟨s2,fun a b h=>absurd h (by omega),none,none,none,rfl⟩ (fun _ _ _ _ _=>trivial) ?_ ?_
 ·rintro i y σ H3 H4 D2 hi ⟨s3,no,u,v,w,rfl⟩ rfl s4 hD2 hr2
  have hi':i<n:=by omega
  walk_at "wp"
  simp only[eA];refine iT ?_;walk_at "wp";refine⟨_,_,rfl,⟨by omega,by omega,by omega,by omega⟩,?_⟩;refine hJ dJ (fun m σ H'=>aO H1 H'/\(∀b:Nat,i<b->b<i+1+m->pA rw0 i b=false)/\∃v w,σ=[some x,some (.ref l),some (.int n),some (.int i),v,w])
   ⟨s3.trans s4,fun b h1 h2=>absurd h2 (by omega),_,_,rfl⟩ (fun _ _ _ _ _=>trivial) ?_ ?_
  ·rintro m y σ H5 H6 D3 hm ⟨s5,no2,v,w,rfl⟩ rfl s6 hD3 hr3
   have hj:i+1+m<n:=by omega
   have ej:(i:Int)+1+(m:Int)=((i+1+m:Nat):Int):=by omega
   walk_at "wp"
   rw[ej];generalize hjj:i+1+m=j at hj no2⊢;have s7:aO H1 H6:=s5.trans s6;refine⟨_,_,g3,l,zs,i,j,H1,rfl,s7,tt,hx,pl i hi',pl j hj,fun f H7 s8=>?_,fun f H7 p s8 hp ep=>?_⟩
   ·show if(!decide (V.non=V.non))=true then _ else _
    rw[if_neg (by simp)];refine hD3 _ _ ⟨s7.trans s8,fun b h1 h2=>?_,_,_,rfl⟩;by_cases hb:b=j
    ·rw[hb,<-rows,<-Dd]
     exact f
    ·exact no2 b h1 (by omega)
   ·show if(!decide (V.ref p=V.non))=true then _ else _
    rw[if_pos (by simp)];refine⟨short (by simp),fun a ha=>?_⟩;rw[hr3,hr2];refine qq _ _ (gr.trans (Gr.of (s7.trans (s8.trans (aC ha))))) (.inr ⟨i,j,a,p,rfl,⟨by omega,hj,by rw[<-rows,<-Dd];exact f,fun a' b' h1 h2 h3=>?_⟩,ax,?_⟩)
    ·rcases h3 with h3|⟨rfl,h3⟩
     ·exact no a' b' h3 h1 h2
     ·exact no2 b' h1 (by omega)
    ·rw[aC ha _ _ ep,He f,rows]
  ·rintro σ H5 ⟨s5,no2,v,w,rfl⟩
   refine hD2 _ _ ⟨s5,fun a b h1 h2 h3=>?_,_,_,_,rfl⟩;by_cases ha:a=i
   ·subst ha
    exact no2 b h2 (by omega)
   ·exact no a b (by omega) h2 h3
 ·rintro σ H3 ⟨s3,no,u,v,w,rfl⟩
  unfold wm;walk_at "wp";exact qq H3 .non (gr.trans (Gr.of s3)) (.inl ⟨rfl,fun a b h1 h2=>no a b (by simp;omega) h1 h2⟩)
theorem tK{α β:Type}{f:α->β}{ys:List α}(hf:∀a∈ys,∀b∈ys,f a=f b->a=b):∀{l m:List α},(∀a∈l,a∈ys)->(∀a∈m,a∈ys)->l.map f=m.map f->l=m
 | [],[],_,_,_=>rfl
 | [],_::_,_,_,e=>by simp at e
 |_::_,[],_,_,e=>by simp at e
 |a::l,b::m,h1,h2,e=>by
  rw[bA,bA]at e;injection e with e1 e2
  rw[hf a (h1 a (.head _)) b (h2 b (.head _)) e1,tK hf (fun x hx=>h1 x (.tail _ hx)) (fun x hx=>h2 x (.tail _ hx)) e2]
theorem Eo{α β:Type}{f:α->β}{ys:List α}(nd:(ys.map f).Nodup):∀a∈ys,∀b∈ys,f a=f b->a=b:=fun a ha b hb e=>by
 obtain⟨i,hi,rfl⟩:=cD.mp ha;obtain⟨j,hj,rfl⟩:=cD.mp hb;have e':(ys.map f)[i]'(by simpa using hi)=(ys.map f)[j]'(by simpa using hj):=by rw[bo,bo];exact e
 have :=(dz nd).mp e'
 subst this;rfl
end K22
namespace Q
open PySem PySem.Spec PySem.W PyProof.Rows L2
theorem vN(nd:ns.Nodup):(Bv ns).Perm (aw ns.length):=by
 unfold Bv;split
 ·exact eJ _
 ·have P:=(fH (FQ nd) (by omega)).1
  have :=gv.mp P.perm
  simpa using this
end Q
namespace M3
open PySem
theorem and_nat(m n:Nat):iB (m:Int) (n:Int)=((m&&& n:Nat):Int):=by
 unfold iB;simp
theorem xor_bit{a b:Int}(ha:a=0\/a=1)(hb:b=0\/b=1):jK a b=if a=b then 0 else 1:=by
 rcases ha with rfl|rfl<;>rcases hb with rfl|rfl<;>decide
noncomputable def num:List Bool->Nat->Nat
 | [],n=>n
 |b::bs,n=>num bs (n*2+b.toNat)
theorem tu:∀(bs:List Bool)(b:Bool)(n:Nat),num (bs++[b]) n=num bs n*2+b.toNat
 | [],_,_=>rfl
 |c::bs,b,n=>tu bs b _
theorem CT:∀(bs:List Bool)(i:Nat),(num bs.reverse 0).testBit i=(bs[i]?).getD false
 | [],i=>by simp[num]
 |b::bs,i=>by
  rw[List.reverse_cons,tu];cases i with
  |zero=>
   rw[Nat.testBit_zero];cases b<;>simp <;>omega
  |succ i=>
   rw[Nat.testBit_succ];have e:(num bs.reverse 0*2+b.toNat)/2=num bs.reverse 0:=by
    have hb:b.toNat<=1:=by cases b<;>decide
    omega
   rw[e,CT bs i];simp
theorem and_sub:m&&& n=n↔∀i,n.testBit i=true->m.testBit i=true:=by
 constructor
 ·intro h i hi
  rw[<-h,Nat.testBit_and]at hi;exact(aQ _ _▸hi).1
 ·intro h
  apply pW
  intro i;rw[Nat.testBit_and];cases hn:n.testBit i with
  |true=>rw[h i hn];rfl
  |false=>simp
end M3
namespace M4
open Q
noncomputable def bl(f:Nat->Int)(n:Nat)(P:Nat->Bool):List Int:=(aw n).map fun p=>if P p=true then 1-f p else f p
theorem hU(f:Nat->Int)(n:Nat)(P:Nat->Bool):(bl f n P).length=n:=by simp[bl]
theorem gN{f:Nat->Int}{P Q:Nat->Bool}(h:bl f n P=bl f n Q)(hf:∀p,p<n->f p=0\/f p=1)(hp:p<n):P p=Q p:=by
 have e:(bl f n P)[p]? =(bl f n Q)[p]? :=by rw[h]
 simp[bl,hp]at e;rcases hf p hp with z|z<;>cases hP:P p<;>cases hQ:Q p<;>simp[hP,hQ,z]at e⊢
noncomputable def sub(grp:Nat->Nat)(g p:Nat):Bool:=decide (grp p&&& g=g)
noncomputable def above(grp:Nat->Nat)(g p:Nat):Bool:=decide (grp p&&& g=g/\grp p≠g)
variable {f:Nat->Int}{n:Nat}{grp:Nat->Nat}(hf:∀p,p<n->f p=0\/f p=1)
include hf
theorem Az(hp:p<n):bl f n (sub grp (grp p))≠bl f n fun _=>false:=fun h=>by
 have :=gN h hf hp
 simp[sub]at this
theorem Ay(hp:p<n)(hq:q<n)(hne:grp p≠grp q):bl f n (sub grp (grp p))≠bl f n (sub grp (grp q)):=fun h=>by
 have a:=gN h hf hp;have b:=gN h hf hq;simp[sub]at a b;exact hne (by rw[<-b,Nat.and_comm,a])
theorem Iv(hp:p<n)(hq:q<n)(h1:bl f n (sub grp (grp p))=bl f n (above grp (grp q)))(h2:bl f n (sub grp (grp q))=bl f n (above grp (grp p))):False:=by
 have a:=gN h1 hf hp;have b:=gN h2 hf hq;simp[sub,above]at a b;exact a.2 (by rw[<-b.1,Nat.and_comm,a.1])
theorem Cq(hp:p<n):bl f n (above grp (grp p))≠bl f n (sub grp (grp p)):=fun h=>by
 have :=gN h hf hp
 simp[sub,above]at this
noncomputable def lo(a b:List Int):List Int:=if llt b a=true then b else a
noncomputable def hi(a b:List Int):List Int:=if llt a b=true then b else a
omit hf in
theorem lohi{a b c d:List Int}(h1:lo a b=lo c d)(h2:hi a b=hi c d)(nab:a≠b)(ncd:c≠d):(a=c/\b=d)\/(a=d/\b=c):=by
 have t1:=gZ (cn nab);have t2:=gZ (cn ncd);unfold lo at h1;unfold hi at h2;rw[t1,t2]at h1;cases x:llt a b<;>cases y:llt c d<;>rw[x,y]at h1 h2<;>simp only[Bool.not_false,eM,if_true,aS,if_false]at h1 h2
 ·exact .inl ⟨h2,h1⟩
 ·exact .inr ⟨h2,h1⟩
 ·exact .inr ⟨h1,h2⟩
 ·exact .inl ⟨h1,h2⟩
theorem wu(hp:p<n)(hq:q<n)(hne:grp p≠grp q):
  lo (bl f n (above grp (grp p))) (bl f n (sub grp (grp p)))++hi (bl f n (above grp (grp p))) (bl f n (sub grp (grp p)))≠
  lo (bl f n (above grp (grp q))) (bl f n (sub grp (grp q)))++hi (bl f n (above grp (grp q))) (bl f n (sub grp (grp q))):=fun h=>by
 have len:∀P Q:Nat->Bool,(lo (bl f n P) (bl f n Q)).length=n:=fun P Q=>by unfold lo;split <;>exact hU _ _ _
 obtain⟨h1,h2⟩:=List.append_inj h ((len _ _).trans (len _ _).symm);rcases lohi h1 h2 (Cq hf hp) (Cq hf hq)with⟨_,z⟩ |⟨z1,z2⟩
 ·exact Ay hf hp hq hne z
 ·exact Iv hf hp hq z2 z1.symm
end M4
namespace Q
open L2
theorem DX(nd:ns.Nodup):∃qs:List Int,sortI ns=qs.map V.int/\qs.Perm ns:=by
 refine⟨(Bv ns).map fun i=>ns.getD i 0,?_,?_⟩
 ·unfold sortI
  rw[aY];refine bO fun i hi=>?_;have hi':i<ns.length:=aM.mp ((vN nd).mem_iff.mp hi);show(ns.map V.int).getD i .non=V.int (ns.getD i 0);rw[af,af,ao,aa hi'];rfl
 ·have h:=(vN nd).map fun i=>ns.getD i 0
  rw[range_getD]at h;exact h
end Q
namespace M5
open M3 M4 Q L2
noncomputable def plc(n:Nat)(P:Nat->Bool):List Int:=((aw n).filter P).map fun p:Nat=>(p:Int)
theorem jO{P:Nat->Bool}(h:i<n):(i:Int)∈plc n P↔P i=true:=by
 unfold plc;rw[az];constructor
 ·rintro⟨p,hp,e⟩
  have :p=i:=by omega
  rw[<-this];exact(aN.mp hp).2
 ·intro e
  exact⟨i,aN.mpr ⟨aM.mpr h,e⟩,rfl⟩
noncomputable def trn(zs:List Int)(ms:List Int):List Int:=(aw zs.length).map fun i:Nat=>if(i:Int)∈ms then 1-zs.getD i 0 else zs.getD i 0
theorem DS{zs:List Int}{P:Nat->Bool}:trn zs (plc zs.length P)=bl (fun p=>zs.getD p 0) zs.length P:=by
 unfold trn bl;refine bO fun i hi=>?_;have hi:=aM.mp hi;by_cases h:P i=true
 ·rw[if_pos ((jO hi).mpr h),if_pos h]
 ·rw[if_neg (fun z=>h ((jO hi).mp z)),if_neg h]
theorem DB{f:Nat->Int}{P:Nat->Bool}(h:i<n):(bl f n P).getD i 0=if P i=true then 1-f i else f i:=by
 unfold bl;rw[af,ao,bU h];rfl
theorem trn_bl{f:Nat->Int}{S E:Nat->Bool}(h:∀p,E p=true->S p=true):trn (bl f n S) (plc n E)=bl f n fun p=>S p&& !E p:=by
 unfold trn;rw[hU];refine bO fun i hi=>?_;have hi:=aM.mp hi;rw[DB hi];show _=if(S i&& !E i)=true then 1-f i else f i
 cases hE:E i with
 |true=>
  rw[if_pos ((jO hi).mpr hE),h i hE,if_pos rfl];show 1-(1-f i)=if(true&& !true)=true then _ else f i
  rw[if_neg (by simp)];omega
 |false=>
  rw[if_neg (fun z=>by rw[(jO hi).mp z]at hE;cases hE)];cases S i<;>rfl
theorem HS(zs:List Int):bl (fun p=>zs.getD p 0) zs.length (fun _=>false)=zs:=by
 unfold bl;apply bR
 ·simp
 ·intro i h1 h2
  simp[h2]
noncomputable def own(grp:Nat->Nat)(g p:Nat):Bool:=decide (grp p=g)
theorem own_sub{grp:Nat->Nat}{g:Nat}(h:own grp g p=true):sub grp g p=true:=by
 have :grp p=g:=of_decide_eq_true h;refine decide_eq_true ?_;rw[this];exact Fp g
theorem IQ(grp:Nat->Nat)(g:Nat):(fun p=>sub grp g p&& !own grp g p)=above grp g:=by
 funext p
 unfold sub own above;by_cases h1:grp p&&& g=g<;>by_cases h2:grp p=g<;>simp[h1,h2]
noncomputable def nB(f:Nat->Int)(n:Nat)(grp:Nat->Nat)(q:Int):List Int:=bl f n (sub grp q.toNat)
noncomputable def nA(f:Nat->Int)(n:Nat)(grp:Nat->Nat)(q:Int):List Int:=bl f n (above grp q.toNat)
noncomputable def fw(f:Nat->Int)(n:Nat)(grp:Nat->Nat)(qs:List Int):List (List Int):=bl f n (fun _=>false)::qs.map (nB f n grp)
noncomputable def brK(f:Nat->Int)(n:Nat)(grp:Nat->Nat)(qs:List Int):List (List Int×List Int):=qs.map fun q=>(lo (nA f n grp q) (nB f n grp q),hi (nA f n grp q) (nB f n grp q))
noncomputable def Grs(n:Nat)(grp:Nat->Nat)(qs:List Int):Prop:=qs.Nodup/\∀q∈qs,∃p,p<n/\q=(grp p:Int)
section
variable {f:Nat->Int}{n:Nat}{grp:Nat->Nat}{qs:List Int}(hf:∀p,p<n->f p=0\/f p=1)(hq:Grs n grp qs)
include hf hq
theorem Hk{β:Type}{F:Int->β}(h:∀p q,p<n->q<n->grp p≠grp q->F (grp p:Int)≠F (grp q:Int)):(qs.map F).Nodup:=by
 refine cS.mpr ?_;have p:List.Pairwise (fun a b=>a≠b) qs:=hq.1;refine(k9.mp p).imp ?_;rintro a b ⟨ha,hb,hne⟩;obtain⟨x,hx,rfl⟩:=hq.2 a ha;obtain⟨y,hy,rfl⟩:=hq.2 b hb;exact h x y hx hy (fun e=>hne (by rw[e]))
theorem tw:(fw f n grp qs).Nodup:=by
 unfold fw;refine cy.mpr ⟨fun z=>?_,Hk hf hq fun p q hp hq' hne=>?_⟩
 ·obtain⟨q,hq',e⟩:=az.mp z
  obtain⟨p,hp,rfl⟩:=hq.2 q hq';exact Az hf hp (by unfold nB at e;rw[aU]at e;exact e)
 ·unfold nB
  rw[aU,aU];exact Ay hf hp hq' hne
theorem BY:((brK f n grp qs).map lA).Nodup:=by
 unfold brK;rw[aY];refine Hk hf hq fun p q hp hq' hne=>?_;show lo (nA f n grp (grp p:Int)) (nB f n grp (grp p:Int))++hi (nA f n grp (grp p:Int)) (nB f n grp (grp p:Int))≠lo (nA f n grp (grp q:Int)) (nB f n grp (grp q:Int))++hi (nA f n grp (grp q:Int)) (nB f n grp (grp q:Int));unfold nA nB;rw[aU,aU];exact wu hf hp hq' hne
end
theorem Ep{f:Nat->Int}{grp:Nat->Nat}:∀k∈fw f n grp qs,k.length=n:=fun k hk=>by
 rcases av.mp hk with rfl|hk
 ·exact hU _ _ _
 ·obtain⟨q,_,rfl⟩:=az.mp hk
  exact hU _ _ _
theorem lo_len{a b:List Int}(ha:a.length=n)(hb:b.length=n):(lo a b).length=n:=by unfold lo;split <;>assumption
theorem hi_len{a b:List Int}(ha:a.length=n)(hb:b.length=n):(hi a b).length=n:=by unfold hi;split <;>assumption
theorem brK_len{f:Nat->Int}{grp:Nat->Nat}:∀k∈brK f n grp qs,k.1.length=n/\k.2.length=n:=fun k hk=>by
 obtain⟨q,_,rfl⟩:=az.mp hk;exact⟨lo_len (hU _ _ _) (hU _ _ _),hi_len (hU _ _ _) (hU _ _ _)⟩
theorem rY{grp:Nat->Nat}(h:Grs n grp qs):qs.length<=n:=by
 have e:qs.length<=((aw n).map fun p:Nat=>(grp p:Int)).length:=by
  refine List.Nodup.length_le_of_subset h.1 fun q hq=>?_;obtain⟨p,hp,rfl⟩:=h.2 q hq;exact az.mpr ⟨p,aM.mpr hp,rfl⟩
 simpa using e
end M5
namespace K32
open PySem R
noncomputable def Bu:List Str:=["copies","place"]
noncomputable def tI:List Str:=["copies","place","first","group","name","readings"]
noncomputable def pN:CB:=
  (.cons (.ret (.var 3))
  .nil)
noncomputable def pO:CB:=
  (.cons (.forr (.tup (.cons (.name 4) (.cons (.name 5) .nil))) (.seq (.var 0))
  (.cons (.asg (.name 3) (.bin .Add (.bin .Mult (.var 3) (.con (.int 2))) (.bin .BitXor (.idx (.var 5) (.var 1)) (.var 2))))
  .nil))
  pN)
noncomputable def pP:CB:=
  (.cons (.asg (.name 3) (.con (.int 0)))
  pO)
noncomputable def uE:CB:=
  (.cons (.asg (.name 2) (.idx (.idx (.idx (.var 0) (.con (.int 0))) (.con (.int 1))) (.var 1)))
  pP)
noncomputable def G2:List Str:=["readings","places"]
noncomputable def zK:List Str:=["readings","places"]
noncomputable def Am:CB:=
  (.cons (.ret (.bfn .tuple (.cons (.comp ["place","reading"] [1] (.tup (.cons (.name 0) (.cons (.name 1) .nil))) (.enumt (.var 0)) .no (.ite (.cmp .In (.var 0) (.var 2)) (.bin .Sub (.con (.int 1)) (.var 1)) (.var 1))) .nil)))
  .nil)
noncomputable def p_grown:List Str:=["copies"]
noncomputable def CY:List Str:=["copies","first","groups","nodes","branches","group","places","around","below","above"]
noncomputable def wb:CB:=
  (.cons (.ret (.tup (.cons (.bfn .sortl (.cons (.var 3) .nil)) (.cons (.bfn .sortt (.cons (.var 4) .nil)) .nil))))
  .nil)
noncomputable def mK:CB:=
  (.cons (.expr (.meth1 .append (.var 4) (.tup (.cons (.bfn .minl (.cons (.var 9) (.cons (.var 8) .nil))) (.cons (.bfn .maxl (.cons (.var 9) (.cons (.var 8) .nil))) (.cons (.bfn .tuple (.cons (.var 6) .nil)) .nil))))))
  .nil)
noncomputable def mL:CB:=
  (.cons (.expr (.meth1 .append (.var 3) (.var 8)))
  mK)
noncomputable def rj:CB:=
  (.cons (.asg (.name 9) (.call "turned" (.cons (.var 8) (.cons (.var 6) .nil))))
  mL)
noncomputable def mM:CB:=
  (.cons (.asg (.name 8) (.call "turned" (.cons (.var 1) (.cons (.var 7) .nil))))
  rj)
noncomputable def rm:CB:=
  (.cons (.asgc 7 (.comp ["place"] [5,2] (.name 0) (.range1 (.bfn .len (.cons (.var 1) .nil))) (.yes (.cmp .Eq (.bin .BitAnd (.idx (.var 2) (.var 0)) (.var 1)) (.var 1))) (.var 0)))
  mM)
noncomputable def mN:CB:=
  (.cons (.asgc 6 (.comp ["place"] [5,2] (.name 0) (.range1 (.bfn .len (.cons (.var 1) .nil))) (.yes (.cmp .Eq (.idx (.var 2) (.var 0)) (.var 1))) (.var 0)))
  rm)
noncomputable def wc:CB:=
  (.cons (.forr (.name 5) (.lseq (.sortset (.var 2)))
  (.cons (.iff (.cmp .Eq (.var 5) (.con (.int 0)))
  (.cons (.cont)
  .nil)
  .nil)
  mN))
  wb)
noncomputable def we:CB:=
  (.cons (.asg (.name 4) (.lst .nil))
  wc)
noncomputable def wg:CB:=
  (.cons (.asg (.name 3) (.lst (.cons (.var 1) .nil)))
  we)
noncomputable def wj:CB:=
  (.cons (.asgc 2 (.comp ["place"] [0] (.name 0) (.range1 (.bfn .len (.cons (.var 1) .nil))) .no (.call "group_at" (.cons (.var 1) (.cons (.var 0) .nil)))))
  wg)
noncomputable def Dx:CB:=
  (.cons (.asg (.name 1) (.idx (.idx (.var 0) (.con (.int 0))) (.con (.int 1))))
  wj)
end K32
namespace K32
open PySem PySem.Spec PyProof.Rows L2 R Cp Lt Kc K21 K22 Lm M3 M4 M5
theorem eK(h:n<=63):n<=sizeLine:=aT h (by decide)
theorem lt60(h:n<=63):n<sizeLine:=da h (by decide)
theorem xor_ii{i j:Int}{Q:VK}:i5 K .BitXor (.int i) (.int j) H Q↔Q (.int (jK i j)) H:=by simp[i5,rI0]
theorem and_ii{i j:Int}{Q:VK}:i5 K .BitAnd (.int i) (.int j) H Q↔Q (.int (iB i j)) H:=by simp[i5,rI0]
theorem pk(a:Int)(l:List Int):inV (V.int a) (l.map V.int)=decide (a∈l):=by
 unfold inV;rw[nq,cb,bp,decide_eq_true_eq];constructor
 ·rintro⟨x,hx,e⟩
  have :x=a:=by simpa[eqV]using e
  rw[<-this];exact hx
 ·intro h
  exact⟨a,h,by simp[eqV]⟩
theorem kN(ms:List Int):(ms.map V.int).all pC=true:=by
 rw[bC];intro v hv;obtain⟨m,_,rfl⟩:=az.mp hv;rfl
theorem vI:qF (Itet K a) xs.length (fun i x H=>∃p v,x=.ref p/\H p=some (.tup [.int i,v])/\xs[i]? =some v) (fun H=>SqT K H a xs) where
 go:=fun i H h hi=>⟨xs,xs[i],h,by simp[hi]⟩
 stop:=fun i H h hi=>⟨xs,h,hi⟩
 yld:=fun i H x H' h hi y=>by
  obtain⟨p,v,hp,e,ex,y⟩:=y;subst e ex;exact⟨⟨p,v,rfl,ax,y xs h⟩,aC hp⟩
theorem fC{zs:List Int}(h:i<zs.length):(zs.map V.int)[i]? =some (.int (zs.getD i 0)):=by
 rw[ao,aa h,af,aa h];rfl
structure Cps(H:Hp)(c:Addr)(ys:List V)(n:Nat)(rows:List (List Int)):Prop where
 ec:H c=some (.lst ys)
 len:ys.length<=40
 rl:rows.length=ys.length
 n60:n<=60
 at_:∀(i:Nat) y,ys[i]? =some y->∃b z r,y=.ref b/\H b=some (.tup [.str z,.ref r])/\H r=some (.tup ((rows.getD i []).map V.int))
 rd:∀zs∈rows,zs.length=n/\∀x∈zs,x=0\/x=1
theorem Cps.same(d:Cps H c ys n rows)(s:aO H H'):Cps H' c ys n rows:=
 {d with ec:=s _ _ d.ec,at_:=fun i y e=>let⟨b,z,r,h1,h2,h3⟩:=d.at_ i y e;⟨b,z,r,h1,s _ _ h2,s _ _ h3⟩}
theorem Cps.row(d:Cps H c ys n rows)(hi:i<ys.length):(rows.getD i []).length=n/\∀p,p<n->(rows.getD i []).getD p 0=0\/(rows.getD i []).getD p 0=1:=by
 have hi':i<rows.length:=by rw[d.rl];exact hi
 have e:rows.getD i []=rows[i]:=by rw[af,aa hi'];rfl
 obtain⟨h1,h2⟩:=d.rd rows[i] (bx hi');rw[e];refine⟨h1,fun p hp=>h2 _ ?_⟩;rw[af,aa (by omega)];exact bx _
noncomputable def fr(rows:List (List Int))(p:Nat):Int:=(rows.getD 0 []).getD p 0
noncomputable def bt(rows:List (List Int))(p:Nat)(r:List Int):Bool:= !decide (r.getD p 0=fr rows p)
noncomputable def grp(rows:List (List Int))(p:Nat):Nat:=M3.num (rows.map (bt rows p)) 0
noncomputable def xa:Sp:=fun vs H Q _=>∃(c:Addr)(p:Nat)(ys:List V)(n:Nat)(rows:List (List Int)),vs=[.ref c,.int p]/\Cps H c ys n rows/\ys≠[]/\p<n/\∀H',aO H H'->Q (.int (grp rows p)) H'
theorem FF:Sat G K xa uE tI:=by
 rintro vs H Q E ⟨c,p,ys,n,rows,rfl,d,hy,hp,q⟩;unfold uE;change wpB G K _ _ _ [some (.ref c),some (.int p),none,none,none,none] H;walk_at "wp";have h0:0<ys.length:=dI.mpr hy;obtain⟨b,z,r,e1,e2,e3⟩:=d.at_ 0 ys[0] (aa h0);obtain⟨r1,r2⟩:=d.row h0;have g0:ys[0]? =some (.ref b):=by rw[aa h0,e1]
 refine .inl ⟨c,ys,0,_,rfl,rfl,SqL.of d.ec,cX (j:=0) g0,?_⟩;refine .inr (.inl ⟨b,_,1,_,rfl,rfl,SqT.of e2,rfl,?_⟩);refine .inr (.inl ⟨r,_,p,_,rfl,rfl,SqT.of e3,cX (fC (by omega)),?_⟩);unfold pP;walk_at "wp";unfold pO;walk_at "wp";refine iT (bQ rfl (SqL.of d.ec) (hJ dj (fun k σ H'=>aO H H'/\∃u v,σ=[some (.ref c),some (.int p),some (.int (fr rows p)),some (.int (M3.num ((rows.take k).map (bt rows p)) 0:Nat)),u,v])
  ⟨aO.refl _,none,none,rfl⟩ (fun k σ H' _ s=>s.1.seq (SqL.of d.ec)) ?_ ?_))
 ·rintro k y σ H1 H2 D2 hk ⟨s1,u,v,rfl⟩ hy' s2 hD _
  obtain⟨b',z',r',rfl,f2,f3⟩:=d.at_ k y hy';have s3:=s1.trans s2;obtain⟨t1,t2⟩:=d.row hk;have hk':k<rows.length:=by rw[d.rl];exact hk
  refine⟨b',_,rfl,SqT.of (s3 _ _ f2),rfl,_,_,rfl,_,_,rfl,rfl,?_⟩;walk_at "wp";refine⟨Dm (by decide) (by decide),.inr (.inl ⟨r',_,p,_,rfl,rfl,SqT.of (s3 _ _ f3),cX (fC (by omega)),?_⟩)⟩;refine xor_ii.mpr (IP.mpr ?_);rw[show jK ((rows.getD k []).getD p 0) (fr rows p)=if(rows.getD k []).getD p 0=(rows.getD 0 []).getD p 0 then 0 else 1 from xor_bit (t2 p hp) (r2 p hp)];have et:rows.take (k+1)=rows.take k++[rows.getD k []]:=by
   rw[dk,af,aa hk'];rfl
  have eb:(if(rows.getD k []).getD p 0=(rows.getD 0 []).getD p 0 then(0:Int)else 1)=((bt rows p (rows.getD k [])).toNat:Int):=by
   unfold bt fr;by_cases h:(rows.getD k []).getD p 0=(rows.getD 0 []).getD p 0
   ·rw[if_pos h,decide_eq_true h];rfl
   ·rw[if_neg h,decide_eq_false h];rfl
  have e4:((M3.num ((rows.take k).map (bt rows p)) 0:Nat):Int)*2+((bt rows p (rows.getD k [])).toNat:Int)=((M3.num ((rows.take (k+1)).map (bt rows p)) 0:Nat):Int):=by
   rw[et,bZ,bA,iK,tu];push_cast;rfl
  rw[eb,e4];exact hD _ _ ⟨s3,_,_,rfl⟩
 ·rintro σ H1 ⟨s1,u,v,rfl⟩
  unfold pN;walk_at "wp";rw[<-d.rl,d7];exact q H1 s1
noncomputable def md(K:ah):Sp:=fun vs H Q _=>∃(r b:Addr)(zs ms:List Int),vs=[.ref r,.ref b]/\SqT K H r (zs.map V.int)/\SqL K H b (ms.map V.int)/\zs.length<=60/\
 ∀(H':Hp)(p:Addr),aO H H'->H p=none->H' p=some (.tup ((trn zs ms).map V.int))->Q (.ref p) H'
theorem DP:Sat G K (md K) Am zK:=by
 rintro vs H Q E ⟨r,b,zs,ms,rfl,hr,hb,hl,q⟩;unfold Am;change wpB G K _ _ _ [some (.ref r),some (.ref b)] H;walk_at "wp";refine cM ⟨_,rfl,r,rfl,⟨_,hr⟩,?_⟩;refine c9 vI (eK (by rw[ai];omega)) (fun H3 s3=>s3.tup hr) (fun i v _=>v=.int (if(i:Int)∈ms then 1-zs.getD i 0 else zs.getD i 0)) (fun _ _ _ _ _ h=>h) (fun τ=>∃u v,τ=[u,v,some (.ref b)]) ⟨none,none,rfl⟩ ?_ ?_
 ·rintro i x τ H3 R hi ⟨u,v,rfl⟩ s3 ⟨p,v,rfl,hp,hv⟩ k
  rw[ai]at hi;rw[fC hi]at hv;cases hv;refine⟨p,_,rfl,SqT.of hp,rfl,_,_,rfl,_,_,rfl,rfl,?_⟩;walk_at "wp";refine .inr ⟨b,_,rfl,.inl (s3.seq hb),rfl,kN ms,_,rfl,?_⟩;show if inV (V.int (i:Int)) (ms.map V.int)=true then _ else _
  rw[pk];by_cases h:(i:Int)∈ms
  ·rw[decide_eq_true h,if_pos rfl]
   exact k _ _ _ ⟨_,_,rfl⟩ (aO.refl _) (by rw[if_pos h])
  ·rw[decide_eq_false h,if_neg aE]
   exact k _ _ _ ⟨_,_,rfl⟩ (aO.refl _) (by rw[if_neg h])
 ·intro vs H2 l hvl hF s2 hl2
  rw[ai]at hvl;have e:vs=(trn zs ms).map V.int:=by
   unfold trn;apply gd;intro i;rw[ao,ao];by_cases hi:i<vs.length
   ·rw[aa hi,bU (by omega),hF i _ (aa hi)]
    rfl
   ·rw[bK (by omega),bK (by rw[ba];omega)]
    rfl
  rw[e];exact⟨l,_,rfl,.inl ⟨SqL.of ax,fun p hp=>q _ p (s2.trans ((aC hl2).trans (aC hp))) ((s2.trans (aC hl2)).free hp) ax⟩⟩
end K32
namespace M6
noncomputable def Ok(n:Nat)(v:List Int):Prop:=v.length=n/\∀x∈v,x=0\/x=1
theorem Ok.at(h:Ok n v)(i:Nat):v.getD i 0=0\/v.getD i 0=1:=by
 rw[af];cases e:v[i]? with
 |none=>exact .inl rfl
 |some x=>exact h.2 x (aI e)
noncomputable def Mis(vs:List (List Int))(i j:Nat):Prop:=∃a b:Int,(a=0\/a=1)/\(b=0\/b=1)/\∀v∈vs,¬(v.getD i 0=a/\v.getD j 0=b)
theorem Mis.sub{vs ws:List (List Int)}(h:Mis vs i j)(s:∀w∈ws,w∈vs):Mis ws i j:=let⟨a,b,ha,hb,k⟩:=h;⟨a,b,ha,hb,fun w hw=>k w (s w hw)⟩
theorem Mis.flip{vs:List (List Int)}(h:Mis vs i j):Mis vs j i:=let⟨a,b,ha,hb,k⟩:=h;⟨b,a,hb,ha,fun w hw ⟨x,y⟩=>k w hw ⟨y,x⟩⟩
end M6
namespace M7
open K32
noncomputable def Fits(rows:List (List Int))(n:Nat)(v:List Int):Prop:=M6.Ok n v/\∀i j,i<n->j<n->∃r∈rows,r.getD i 0=v.getD i 0/\r.getD j 0=v.getD j 0
theorem Fits.sub{rows':List (List Int)}(h:Fits rows n v)(s:∀r∈rows,r∈rows'):Fits rows' n v:=⟨h.1,fun i j hi hj=>let⟨r,hr,e⟩:=h.2 i j hi hj;⟨r,s r hr,e⟩⟩
section
variable {rows:List (List Int)}{n:Nat}
theorem kb:bt rows p r=true↔r.getD p 0≠fr rows p:=by
 unfold bt;simp
theorem mU(p i:Nat):(grp rows p).testBit i=((rows.reverse[i]?).map (bt rows p)).getD false:=by
 unfold grp;have :=M3.CT (rows.map (bt rows p)).reverse i;rw[List.reverse_reverse]at this;rw[this,<-List.map_reverse,ao]
theorem gsub:grp rows p&&& grp rows q=grp rows q↔∀r∈rows,bt rows q r=true->bt rows p r=true:=by
 rw[M3.and_sub];constructor
 ·intro h r hr hq
  obtain⟨i,hi⟩:=cj.mp (i2.mpr hr);have :=h i;rw[mU,mU,hi]at this;exact this hq
 ·intro h i
  rw[mU,mU];cases e:rows.reverse[i]? with
  |none=>exact id
  |some r=>exact h r (i2.mp (aI e))
theorem geq:grp rows p=grp rows q↔∀r∈rows,bt rows p r=bt rows q r:=by
 constructor
 ·intro h r hr
  have a:=gsub.mp (show grp rows p&&& grp rows q=grp rows q by rw[h,Fp]) r hr;have b:=gsub.mp (show grp rows q&&& grp rows p=grp rows p by rw[h,Fp]) r hr;exact cb.mpr ⟨b,a⟩
 ·intro h
  apply pW
  intro i;rw[mU,mU];cases e:rows.reverse[i]? with
  |none=>rfl
  |some r=>exact h r (i2.mp (aI e))
theorem gnz:grp rows p≠0↔∃r∈rows,bt rows p r=true:=by
 constructor
 ·intro h
  apply aF
  intro hn;apply h;apply pW;intro i;rw[mU,Nat.zero_testBit];cases e:rows.reverse[i]? with
  |none=>rfl
  |some r=>
   cases b:bt rows p r with
   |false=>exact b
   |true=>exact absurd ⟨r,i2.mp (aI e),b⟩ hn
 ·rintro⟨r,hr,h⟩ z
  obtain⟨i,hi⟩:=cj.mp (i2.mpr hr);have :=mU (rows:=rows) p i;rw[hi,z,Nat.zero_testBit]at this;rw[show((some r).map (bt rows p)).getD false=bt rows p r from rfl,h]at this;cases this
end
theorem ue{α:Type}{p q:α->Bool}:∀{l:List α},(∀r∈l,q r=true->p r=true)->∀{x:α},x∈l->p x=true->q x=false->l.countP q<l.countP p
 |a::l,h,x,hx,hp,hq=>by
  rw[List.countP_cons,List.countP_cons];have ha:=h a aB;have ht:∀r∈l,q r=true->p r=true:=fun r hr=>h r (aJ _ hr);rcases av.mp hx with rfl|hx
  ·have :=List.countP_mono_left ht
   rw[hp,hq,if_pos rfl,if_neg (by decide)];omega
  ·have :=ue ht hx hp hq
   cases e:q a with
   |true=>rw[ha e];omega
   |false=>rw[if_neg (by decide)];omega
structure Tbl(rows:List (List Int))(n:Nat):Prop where
 ok:∀r∈rows,M6.Ok n r
 ne:rows≠[]
 mis:∀i j,i<j->j<n->M6.Mis rows i j
section
variable {rows:List (List Int)}{n:Nat}
theorem Tbl.first(t:Tbl rows n):rows.getD 0 []∈rows:=by
 cases rows with
 |nil=>exact absurd rfl t.ne
 |cons a r=>exact aB
theorem Tbl.f01(t:Tbl rows n)(p:Nat):fr rows p=0\/fr rows p=1:=(t.ok _ t.first).at p
theorem Tbl.mis'(t:Tbl rows n)(h:i≠j)(hi:i<n)(hj:j<n):M6.Mis rows i j:=by
 rcases Nat.lt_or_gt_of_ne h with h|h
 ·exact t.mis i j h hj
 ·exact(t.mis j i h hi).flip
theorem neq{x f:Int}(hx:x=0\/x=1)(hf:f=0\/f=1):x≠f↔x=1-f:=by
 rcases hx with rfl|rfl<;>rcases hf with rfl|rfl<;>decide
theorem Tbl.turn(t:Tbl rows n)(hr:r∈rows):bt rows p r=true↔r.getD p 0=1-fr rows p:=by
 rw[kb];exact neq ((t.ok r hr).at p) (t.f01 p)
theorem Tbl.lW(t:Tbl rows n):bt rows p r=false↔r.getD p 0=fr rows p:=by
 unfold bt;simp
theorem two{x y z:Int}(hx:x=0\/x=1)(hy:y=0\/y=1)(hz:z=0\/z=1)(h:x≠y):x=z\/y=z:=by
 rcases hx with rfl|rfl<;>rcases hy with rfl|rfl<;>rcases hz with rfl|rfl<;>first |exact absurd rfl h|decide
theorem two1{x z:Int}(hx:x=0\/x=1)(hz:z=0\/z=1):x=z\/1-x=z:=by
 rcases hx with rfl|rfl<;>rcases hz with rfl|rfl<;>decide
theorem eqb{x y f:Int}(hx:x=0\/x=1)(hy:y=0\/y=1)(hf:f=0\/f=1):x=y↔(x≠f↔y≠f):=by
 rcases hx with rfl|rfl<;>rcases hy with rfl|rfl<;>rcases hf with rfl|rfl<;>decide
theorem Tbl.nest(t:Tbl rows n)(hp:p<n)(hq:q<n)(hr:r∈rows)(b1:bt rows p r=true)(b2:bt rows q r=true):(∀r∈rows,bt rows p r=true->bt rows q r=true)\/∀r∈rows,bt rows q r=true->bt rows p r=true:=by
 by_cases hpq:p=q
 ·exact .inl fun r _ h=>hpq▸h
 apply aF
 intro h;rw[not_or]at h;obtain⟨r1,h1⟩:=fY.mp h.1;obtain⟨r2,h2⟩:=fY.mp h.2;have h1:r1∈rows/\bt rows p r1=true/\¬bt rows q r1=true:=by
  apply aF;intro z;apply h1;intro a b
  apply aF;intro c;exact z ⟨a,b,c⟩
 have h2:r2∈rows/\bt rows q r2=true/\¬bt rows p r2=true:=by
  apply aF;intro z;apply h2;intro a b
  apply aF;intro c;exact z ⟨a,b,c⟩
 obtain⟨a,b,ha,hb,k⟩:=t.mis' hpq hp hq;have f1:=t.f01 p;have f2:=t.f01 q;have e0:=k _ t.first;have e3:=k _ hr;have e1:=k _ h1.1;have e2:=k _ h2.1;rw[(t.turn hr).mp b1,(t.turn hr).mp b2]at e3;rw[(t.turn h1.1).mp h1.2.1,t.lW.mp (dH.mpr h1.2.2)]at e1;rw[(t.turn h2.1).mp h2.2.1,t.lW.mp (dH.mpr h2.2.2)]at e2;rcases two1 f1 ha with x|x<;>rcases two1 f2 hb with y|y
 ·exact e0 ⟨x,y⟩
 ·exact e2 ⟨x,y⟩
 ·exact e1 ⟨x,y⟩
 ·exact e3 ⟨x,y⟩
theorem gN{f:Nat->Int}{P:Nat->Bool}(h:i<n):(M4.bl f n P).getD i 0=if P i=true then 1-f i else f i:=M5.DB h
theorem Di{u:List Int}(hu:u.length=n)(hv:v.length=n)(h:∀i,i<n->u.getD i 0=v.getD i 0):u=v:=by
 apply bR (hu.trans hv.symm)
 intro i h1 h2;have :=h i (by omega)
 rwa [af,af,aa h1,aa h2]at this
theorem DA(t:Tbl rows n)(P:Nat->Bool):M6.Ok n (M4.bl (fr rows) n P):=⟨M4.hU _ _ _,fun x hx=>by
 obtain⟨i,_,rfl⟩:=az.mp hx;have :=t.f01 i;split <;>omega⟩
noncomputable def below(rows:List (List Int))(n p:Nat):List Int:=M4.bl (fr rows) n (M4.sub (grp rows) (grp rows p))
theorem gU:M4.sub (grp rows) (grp rows p) q=true↔∀r∈rows,bt rows p r=true->bt rows q r=true:=by
 unfold M4.sub;rw[decide_eq_true_eq];exact gsub
theorem oh(t:Tbl rows n)(hz:grp rows p≠0):Fits rows n (below rows n p):=by
 refine⟨DA t _,fun i j hi hj=>?_⟩;unfold below;rw[gN hi,gN hj];have pick:∀{i j:Nat},M4.sub (grp rows) (grp rows p) i=true->M4.sub (grp rows) (grp rows p) j=false->∃r∈rows,r.getD i 0=1-fr rows i/\r.getD j 0=fr rows j:=fun{i j} a b=>by
  have b:¬∀r∈rows,bt rows p r=true->bt rows j r=true:=fun z=>by rw[gU.mpr z]at b;cases b
  obtain⟨r,h⟩:=fY.mp b;have h:r∈rows/\bt rows p r=true/\¬bt rows j r=true:=by
   apply aF;intro z;apply h;intro a b
   apply aF;intro c;exact z ⟨a,b,c⟩
  exact⟨r,h.1,(t.turn h.1).mp (gU.mp a r h.1 h.2.1),t.lW.mp (dH.mpr h.2.2)⟩
 cases a:M4.sub (grp rows) (grp rows p) i with
 |true=>
  cases b:M4.sub (grp rows) (grp rows p) j with
  |true=>
   obtain⟨r,hr,h⟩:=gnz.mp hz;exact⟨r,hr,(t.turn hr).mp (gU.mp a r hr h),(t.turn hr).mp (gU.mp b r hr h)⟩
  |false=>exact pick a b
 |false=>
  cases b:M4.sub (grp rows) (grp rows p) j with
  |true=>
   obtain⟨r,hr,h1,h2⟩:=pick b a;exact⟨r,hr,h2,h1⟩
  |false=>exact⟨_,t.first,rfl,rfl⟩
theorem BP(t:Tbl rows n):Fits rows n (M4.bl (fr rows) n fun _=>false):=by
 refine⟨DA t _,fun i j hi hj=>⟨_,t.first,?_⟩⟩;rw[gN hi,gN hj];exact⟨rfl,rfl⟩
theorem of_fits(t:Tbl rows n)(h:Fits rows n v):v=M4.bl (fr rows) n (fun _=>false)\/∃p,p<n/\grp rows p≠0/\v=below rows n p:=by
 by_cases hS:∀p,p<n->v.getD p 0=fr rows p
 ·left
  exact Di h.1.1 (M4.hU _ _ _) fun i hi=>by rw[gN hi];exact hS i hi
 ·right
  have ex:∃m p,p<n/\v.getD p 0≠fr rows p/\rows.countP (bt rows p)=m:=by
   obtain⟨p,hp⟩:=fY.mp hS;obtain⟨hp,hv⟩:=pX.mp hp;exact⟨_,p,hp,hv,rfl⟩
  obtain⟨m,⟨p,hp,hv,hm⟩,hmin⟩:∃m,(∃p,p<n/\v.getD p 0≠fr rows p/\rows.countP (bt rows p)=m)/\∀k,k<m->¬∃p,p<n/\v.getD p 0≠fr rows p/\rows.countP (bt rows p)=k:=by
   obtain⟨m,hm⟩:=ex
   induction m using Nat.strongRecOn with
   |_ m ih=>
    by_cases hk:∃k,k<m/\∃p,p<n/\v.getD p 0≠fr rows p/\rows.countP (bt rows p)=k
    ·obtain⟨k,hk,h⟩:=hk
     exact ih k hk h
    ·exact⟨m,hm,fun k hkm hkk=>hk ⟨k,hkm,hkk⟩⟩
  have v01:=fun i=>h.1.at i;have tv:∀{r:List Int}{i:Nat},r∈rows->r.getD i 0=v.getD i 0->v.getD i 0≠fr rows i->bt rows i r=true:=fun hr e hne=>kb.mpr (by rw[e];exact hne);refine⟨p,hp,gnz.mpr ?_,?_⟩
  ·obtain⟨r,hr,e,_⟩:=h.2 p p hp hp
   exact⟨r,hr,tv hr e hv⟩
  ·refine Di h.1.1 (M4.hU _ _ _) fun q hq=>?_
   unfold below;rw[gN hq];by_cases hqv:v.getD q 0=fr rows q
   ·rw[if_neg,hqv]
    rw[gU];intro hs;obtain⟨r,hr,e1,e2⟩:=h.2 p q hp hq;exact kb.mp (hs r hr (tv hr e1 hv)) (e2.trans hqv)
   ·rw[if_pos,(neq (v01 q) (t.f01 q)).mp hqv]
    rw[gU];obtain⟨r,hr,e1,e2⟩:=h.2 p q hp hq;rcases t.nest hp hq hr (tv hr e1 hv) (tv hr e2 hqv)with hs|hs
    ·exact hs
    ·intro r1 hr1 b1
     cases b:bt rows q r1 with
     |true=>rfl
     |false=>
      exfalso
      refine hmin _ ?_ ⟨q,hq,hqv,rfl⟩;rw[<-hm];exact ue hs hr1 b1 b
noncomputable def Cls(rows:List (List Int))(p q:Nat):Prop:=∀r∈rows,∀s∈rows,r.getD p 0=s.getD p 0↔r.getD q 0=s.getD q 0
theorem Tbl.cls(t:Tbl rows n):grp rows p=grp rows q↔Cls rows p q:=by
 rw[geq];constructor
 ·intro h r hr s hs
  have a:=h r hr;have b:=h s hs;rw[cb,kb,kb]at a b;rw[eqb ((t.ok r hr).at p) ((t.ok s hs).at p) (t.f01 p),eqb ((t.ok r hr).at q) ((t.ok s hs).at q) (t.f01 q),a,b]
 ·intro h r hr
  rw[cb,kb,kb];exact not_congr (h r hr _ t.first)
structure End(rows:List (List Int))(n p:Nat)(v:List Int):Prop where
 ok:M6.Ok n v
 own:∀q,q<n->Cls rows p q->∃r∈rows,r.getD p 0=v.getD p 0/\r.getD q 0=v.getD q 0
 off:∀q,q<n->¬Cls rows p q->∃r∈rows,∃s∈rows,r.getD p 0≠s.getD p 0/\r.getD q 0=v.getD q 0/\s.getD q 0=v.getD q 0
theorem End.one(t:Tbl rows n)(hp:p<n){w:List Int}(a:End rows n p v)(b:End rows n p w)(e:v.getD p 0=w.getD p 0):v=w:=by
 refine Di a.ok.1 b.ok.1 fun q hq=>?_;by_cases c:Cls rows p q
 ·obtain⟨r,hr,e1,e2⟩:=a.own q hq c
  obtain⟨s,hs,e3,e4⟩:=b.own q hq c;rw[<-e2,<-e4];exact(c r hr s hs).mp (by rw[e1,e3,e])
 ·apply aF
  intro hne;have hpq:p≠q:=fun z=>c (by rw[z];exact fun _ _ _ _=>Iff.rfl);obtain⟨r,hr,s,hs,e1,e2,e3⟩:=a.off q hq c;obtain⟨r',hr',s',hs',e1',e2',e3'⟩:=b.off q hq c;obtain⟨x,y,hx,hy,k⟩:=t.mis' hpq hp hq;have k1:=k r hr;have k2:=k s hs;have k3:=k r' hr';have k4:=k s' hs';have a1:=(t.ok r hr).at p;have a2:=(t.ok s hs).at p;have a3:=(t.ok r' hr').at p;have a4:=(t.ok s' hs').at p;have b1:=a.ok.at q;have b2:=b.ok.at q;rw[e2]at k1;rw[e3]at k2;rw[e2']at k3;rw[e3']at k4;have h1:=two a1 a2 hx e1;have h2:=two a3 a4 hx e1';have h3:=two b1 b2 hy hne;rcases h3 with h3|h3
  ·rcases h1 with h|h
   ·exact k1 ⟨h,h3⟩
   ·exact k2 ⟨h,h3⟩
  ·rcases h2 with h|h
   ·exact k3 ⟨h,h3⟩
   ·exact k4 ⟨h,h3⟩
noncomputable def gg(rows:List (List Int))(n p:Nat):List Int:=M4.bl (fr rows) n (M4.above (grp rows) (grp rows p))
theorem qD:M4.above (grp rows) (grp rows p) q=true↔M4.sub (grp rows) (grp rows p) q=true/\grp rows q≠grp rows p:=by
 unfold M4.above M4.sub;rw[decide_eq_true_eq,decide_eq_true_eq]
theorem sub_self:M4.sub (grp rows) (grp rows p) p=true:=gU.mpr fun _ _ h=>h
theorem rZ(hp:p<n):(below rows n p).getD p 0=1-fr rows p:=by
 unfold below;rw[gN hp,if_pos sub_self]
theorem yA(hp:p<n):(gg rows n p).getD p 0=fr rows p:=by
 unfold gg;rw[gN hp,if_neg fun h=>(qD.mp h).2 rfl]
theorem tZ(t:Tbl rows n)(hz:grp rows p≠0)(c:¬Cls rows p q):∃r∈rows,∃s∈rows,r.getD p 0≠s.getD p 0/\(r.getD q 0=if M4.sub (grp rows) (grp rows p) q=true then 1-fr rows q else fr rows q)/\s.getD q 0=if M4.sub (grp rows) (grp rows p) q=true then 1-fr rows q else fr rows q:=by
 have miss:∀{a b:Nat},(¬∀r∈rows,bt rows a r=true->bt rows b r=true)->∃r∈rows,bt rows a r=true/\bt rows b r=false:=fun{a b} h=>by
  obtain⟨r,h⟩:=fY.mp h;obtain⟨h1,h⟩:=pX.mp h;obtain⟨h2,h⟩:=pX.mp h;exact⟨r,h1,h2,dH.mpr h⟩
 have f01:=t.f01 p;cases a:M4.sub (grp rows) (grp rows p) q with
 |true=>
  obtain⟨r,hr,h⟩:=gnz.mp hz;have hs:¬∀r∈rows,bt rows q r=true->bt rows p r=true:=fun z=>c (t.cls.mp (geq.mpr fun r hr=>cb.mpr ⟨gU.mp a r hr,z r hr⟩));obtain⟨s,hs,h1,h2⟩:=miss hs;rw[if_pos rfl];exact⟨r,hr,s,hs,by rw[(t.turn hr).mp h,t.lW.mp h2];omega,(t.turn hr).mp (gU.mp a r hr h),(t.turn hs).mp h1⟩
 |false=>
  obtain⟨r,hr,h1,h2⟩:=miss fun z=>by rw[gU.mpr z]at a;cases a
  rw[if_neg (by decide)];exact⟨r,hr,_,t.first,by rw[(t.turn hr).mp h1];show _≠fr rows p;omega,t.lW.mp h2,rfl⟩
theorem kP(t:Tbl rows n)(hp:p<n)(hz:grp rows p≠0):End rows n p (below rows n p):=by
 refine⟨DA t _,fun q hq c=>?_,fun q hq c=>?_⟩
 ·obtain⟨r,hr,h⟩:=gnz.mp hz
  have e:=geq.mp (t.cls.mpr c);refine⟨r,hr,?_,?_⟩
  ·rw[rZ hp];exact(t.turn hr).mp h
  ·unfold below
   rw[gN hq,if_pos (gU.mpr fun s hs b=>by rw[<-e s hs];exact b)];exact(t.turn hr).mp (by rw[<-e r hr];exact h)
 ·have :=tZ t hz c
  unfold below;rw[gN hq];exact this
theorem mC(t:Tbl rows n)(hp:p<n)(hz:grp rows p≠0):End rows n p (gg rows n p):=by
 refine⟨DA t _,fun q hq c=>⟨_,t.first,?_,?_⟩,fun q hq c=>?_⟩
 ·rw[yA hp];rfl
 ·unfold gg
  rw[gN hq,if_neg fun h=>(qD.mp h).2 (t.cls.mpr c).symm];rfl
 ·have :=tZ t hz c
  unfold gg;rw[gN hq];have e:(M4.above (grp rows) (grp rows p) q=true)↔(M4.sub (grp rows) (grp rows p) q=true):=by
   rw[qD];exact⟨fun h=>h.1,fun h=>⟨h,fun z=>c (t.cls.mp z.symm)⟩⟩
  simp only[e];exact this
theorem pD(t:Tbl rows n)(hp:p<n):gg rows n p≠below rows n p:=fun h=>by
 have a:=yA (rows:=rows) hp;have b:=rZ (rows:=rows) hp;have :=t.f01 p;rw[h,b]at a;omega
theorem C4{a b:List Int}(h:a≠b):M4.lo a b=M4.lo b a:=by
 unfold M4.lo;rw[Q.gZ h];cases Q.llt b a<;>rfl
theorem C9{a b:List Int}(h:a≠b):M4.hi a b=M4.hi b a:=by
 unfold M4.hi;rw[Q.gZ h];cases Q.llt b a<;>rfl
theorem HZ(t:Tbl rows n)(hp:p<n)(hz:grp rows p≠0){u:List Int}(hu:End rows n p u)(hv:End rows n p v)(hne:u≠v):M4.lo (gg rows n p) (below rows n p)=M4.lo u v/\M4.hi (gg rows n p) (below rows n p)=M4.hi u v:=by
 have a:=mC t hp hz;have b:=kP t hp hz;have a1:=yA (rows:=rows) hp;have b1:=rZ (rows:=rows) hp;have f:=t.f01 p;have u1:=hu.ok.at p;have v1:=hv.ok.at p;have n1:u.getD p 0≠v.getD p 0:=fun z=>hne (hu.one t hp hv z);by_cases e:u.getD p 0=fr rows p
 ·have x:=hu.one t hp a (by rw[a1];exact e)
  have y:=hv.one t hp b (by rw[b1];exact(neq v1 f).mp fun z=>n1 (e.trans z.symm));rw[x,y];exact⟨rfl,rfl⟩
 ·have x:=hu.one t hp b (by rw[b1];exact(neq u1 f).mp e)
  have y:=hv.one t hp a (by rw[a1];exact(two u1 v1 f n1).resolve_left e);rw[x,y];exact⟨C4 (pD t hp),C9 (pD t hp)⟩
end
end M7
namespace K32
open PySem PySem.Spec PyProof.Rows L2 R Cp Lt Kc K21 K22 Lm M3 M4 M5
theorem HL{J:It}{it:Nat->V->Hp->Prop}{Hc:Hp->Prop}{g:TG}{tb:TS}{D:Ends}(S:qF J n it Hc)(Pv:Nat->L2.St->Hp->Prop)(h0:Pv 0 σ H)(hl:∀i σ H,i<=n->Pv i σ H->Hc H)
  (hs:∀i x σ H H' (D2:Ends),i<n->Pv i σ H->it i x H'->aO H H'->(∀σ2 H2,Pv (i+1) σ2 H2->D2.nx σ2 H2)->(∀σ2 H2,Pv (i+1) σ2 H2->D2.ct σ2 H2)->g x σ H' fun σ2 H2=>tb D2 σ2 H2)(hd:∀σ H,Pv n σ H->D.nx σ H):ForB J g tb D σ H:=
 De S Pv h0 hl (fun i x σ H H' a b c d=>hs i x σ H H' _ a b c d (fun _ _ h=>h) (fun _ _ h=>h)) hd
theorem Gb:qF (Itr 0 n) (nats n).length (fun i x _=>(nats n)[i]? =some x) (fun _=>True) where
 go:=fun i H h hi=>dJ.go i H h (by simpa[nats]using hi)
 stop:=fun i H h hi=>dJ.stop i H h (by simpa[nats]using hi)
 yld:=fun i H x H' h hi y=>by
  have hi':i<n:=by simpa[nats]using hi
  obtain⟨e,s⟩:=dJ.yld i H x H' h hi' y;refine⟨?_,s⟩;subst e;unfold nats;rw[ao,bU hi',eA];rfl
theorem Er{t:V->Bool}{P:Nat->Bool}(h:∀p,p<n->t (.int p)=P p):((nats n).filter t).map id=(plc n P).map V.int:=by
 unfold nats plc;rw[ff,List.filter_map,aY];rw[show(aw n).filter (t∘fun i:Nat=>V.int (i:Int))=(aw n).filter P from List.filter_congr fun p hp=>h p (aM.mp hp)];rfl
theorem Paired.snoc{α β:Type}{F:α->β->Prop}{a:α}{b:β}(h:F a b){l:List α}{m:List β}(p:Paired F l m):Paired F (l++[a]) (m++[b]):=by
 induction p with
 |nil=>exact .cons h .nil
 |cons x r ih=>exact .cons x ih
noncomputable def Tk(H H':Hp):Prop:=∀a xs,H a=some (.tup xs)->H' a=some (.tup xs)
theorem Tk.of(s:aO H H'):Tk H H':=fun a _ e=>s a _ e
theorem qg(h:H a=some (.lst xs)):Tk H (upd H a (.lst ys)):=fun b _ e=>by
 rw[a7 (fun z=>by rw[z,h]at e;cases e)];exact e
theorem dM(t:Tk H H')(h:_root_.Q.IntKeys H ys ps):_root_.Q.IntKeys H' ys ps:=Paired.qt h fun v k z=>by
 obtain⟨a,e,f⟩:=z;exact⟨a,e,t _ _ f⟩
noncomputable def BrOf(f:Nat->Int)(n:Nat)(g:Nat->Nat)(H:Hp)(v:V)(q:Int):Prop:=∃a x y z,v=V.ref a/\H a=some (.tup [.ref x,.ref y,.ref z])/\H x=some (.tup ((lo (nA f n g q) (nB f n g q)).map V.int))/\H y=some (.tup ((hi (nA f n g q) (nB f n g q)).map V.int))/\H z=some (.tup ((plc n (own g q.toNat)).map V.int))
noncomputable def lE(f:Nat->Int)(n:Nat)(g:Nat->Nat)(H:Hp)(bs:List V)(qs:List Int):Prop:=Paired (BrOf f n g H) bs qs
theorem lE.tk{f:Nat->Int}{g:Nat->Nat}(t:Tk H H'){bs:List V}(h:lE f n g H bs qs):lE f n g H' bs qs:=Paired.qt h fun v k w=>by
 obtain⟨a,x,y,z,e,e1,e2,e3,e4⟩:=w;exact⟨a,x,y,z,e,t _ _ e1,t _ _ e2,t _ _ e3,t _ _ e4⟩
theorem lE.two{f:Nat->Int}{g:Nat->Nat}{bs:List V}(h:lE f n g H bs qs):_root_.Q.k6 H bs (brK f n g qs):=by
 unfold lE at h
 induction h with
 |nil=>exact .nil
 |cons x r ih=>
  obtain⟨a,x,y,z,e,e1,e2,e3,_⟩:=x;exact .cons ⟨a,x,y,_,e,e1,e2,e3⟩ ih
theorem iD{α β:Type}{F:α->β->Prop}{l:List α}{m:List β}(h:Paired F l m):m.length=l.length:=by
 induction h with
 |nil=>rfl
 |cons _ _ ih=>simp[ih]
noncomputable def gsI(rows:List (List Int))(n:Nat):List Int:=(aw n).map fun p:Nat=>(grp rows p:Int)
theorem ya:(gsI rows n).length=n:=by simp[gsI]
theorem HJ(h:p<n):(gsI rows n).getD p 0=(grp rows p:Int):=by
 unfold gsI;rw[af,ao,bU h];rfl
noncomputable def dn(qs:List Int)(k:Nat):List Int:=(qs.take k).filter fun q=> !decide (q=0)
theorem dn_zero(h:qs[k]? =some 0):dn qs (k+1)=dn qs k:=by
 unfold dn;rw[dk,h,fP];simp
theorem Dl{q:Int}(h:qs[k]? =some q)(qne:q≠0):dn qs (k+1)=dn qs k++[q]:=by
 unfold dn;rw[dk,h,fP];simp[qne]
theorem Ie{g:Nat->Nat}(h:Grs n g qs):Grs n g (dn qs k):=by
 have s:(dn qs k).Sublist qs:=gO.trans (sk k qs);exact⟨h.1.sublist s,fun q hq=>h.2 q (s.subset hq)⟩
theorem Ic{g:Nat->Nat}(h:Grs n g qs):(dn qs k).length<=n:=rY (Ie h)
structure Fx(H:Hp)(gl nd br so:Addr):Prop where
 fnd:H nd=none
 fbr:H br=none
 n1:nd≠br
 n2:nd≠gl
 n3:nd≠so
 n4:br≠gl
 n5:br≠so
structure Gx(rows:List (List Int))(n:Nat)(qs:List Int)(H:Hp)(gl nd br so:Addr)(ds:List Int)(ks bs:List V)(H':Hp):Prop where
 s:aO H H'
 eg:H' gl=some (.lst ((gsI rows n).map V.int))
 eo:H' so=some (.lst (qs.map V.int))
 en:H' nd=some (.lst ks)
 eb:H' br=some (.lst bs)
 nk:_root_.Q.IntKeys H' ks (fw (fr rows) n (grp rows) ds)
 bk:lE (fr rows) n (grp rows) H' bs ds
section
variable {rows:List (List Int)}{n:Nat}{qs:List Int}{H:Hp}{gl nd br so c r0:Addr}{ds:List Int}{ks bs:List V}{H':Hp}{G:Gam}{K:ah}{E:XS}{D:Ends}
theorem Gx.same(g:Gx rows n qs H gl nd br so ds ks bs H')(s:aO H' H2):Gx rows n qs H gl nd br so ds ks bs H2:=
 ⟨g.s.trans s,s _ _ g.eg,s _ _ g.eo,s _ _ g.en,s _ _ g.eb,dM (Tk.of s) g.nk,g.bk.tk (Tk.of s)⟩
theorem Gx.ksl(g:Gx rows n qs H gl nd br so ds ks bs H'):ks.length=ds.length+1:=by
 have :=iD g.nk
 simpa[fw]using this.symm
theorem Gx.bsl(g:Gx rows n qs H gl nd br so ds ks bs H'):bs.length=ds.length:=(iD g.bk).symm
noncomputable def Gv(rows:List (List Int))(n:Nat)(qs:List Int)(H:Hp)(c r0 gl nd br so:Addr)(k:Nat)(σ:L2.St)(H':Hp):Prop:=
 (∃ks bs,Gx rows n qs H gl nd br so (dn qs k) ks bs H')/\∃u v w x y,σ=[some (.ref c),some (.ref r0),some (.ref gl),some (.ref nd),some (.ref br),u,v,w,x,y]
theorem Bx{f:Nat->Int}{g:Nat->Nat}{q:Int}:fw f n g (ds++[q])=fw f n g ds++[nB f n g q]:=by simp[fw]
theorem pick{p:Prop}[Decidable p]{x y:Addr}{A B:List Int}(hx:H x=some (.tup (A.map V.int)))(hy:H y=some (.tup (B.map V.int))):∃z,(if p then V.ref y else V.ref x)=V.ref z/\H z=some (.tup ((if p then B else A).map V.int)):=by
 split
 ·exact⟨y,rfl,hy⟩
 ·exact⟨x,rfl,hx⟩
theorem wM(F:Fx H gl nd br so)(hn:n<=60)(hq:Grs n (grp rows) qs){q:Int}(hk:qs[k]? =some q)(h0:q≠0)(hD:∀σ2 H2,Gv rows n qs H c r0 gl nd br so (k+1) σ2 H2->D.nx σ2 H2)
  (s:aO H H')(eg:H' gl=some (.lst ((gsI rows n).map V.int)))(eo:H' so=some (.lst (qs.map V.int)))(en:H' nd=some (.lst ks))(er:H' br=some (.lst bs))(nk:_root_.Q.IntKeys H' ks (fw (fr rows) n (grp rows) (dn qs (k+1))))(bk:lE (fr rows) n (grp rows) H' bs (dn qs k))
  (ep:H' pl=some (.lst ((plc n (own (grp rows) q.toNat)).map V.int)))(eb:H' be=some (.tup ((nB (fr rows) n (grp rows) q).map V.int)))(ea:H' ab=some (.tup ((nA (fr rows) n (grp rows) q).map V.int))):
  wpB G K E mK D [some (.ref c),some (.ref r0),some (.ref gl),some (.ref nd),some (.ref br),some (.int q),some (.ref pl),some (.ref ar),some (.ref be),some (.ref ab)] H':=by
 have hdn:(dn qs k).length<=n:=Ic hq;have hbl:=iD bk;unfold mK;walk_at "wp";have hlen:(nA (fr rows) n (grp rows) q).length=(nB (fr rows) n (grp rows) q).length:=(hU _ _ _).trans (hU _ _ _).symm;obtain⟨x,ex,hx⟩:=pick (p:=_root_.Q.llt (nB (fr rows) n (grp rows) q) (nA (fr rows) n (grp rows) q)=true) ea eb;obtain⟨y,ey,hy⟩:=pick (p:=_root_.Q.llt (nA (fr rows) n (grp rows) q) (nB (fr rows) n (grp rows) q)=true) ea eb;refine⟨.inl ⟨rfl,_,SqL.of er⟩,ab,be,_,_,rfl,SqT.of ea,SqT.of eb,hlen,ab,be,_,_,rfl,SqT.of ea,SqT.of eb,hlen,?_⟩;rw[ex,ey];refine⟨pl,_,rfl,.inl ⟨SqL.of ep,fun z hz=>⟨short (by simp),fun a ha=>?_⟩⟩⟩;have s1:aO H' (upd (upd H' z (.tup ((plc n (own (grp rows) q.toNat)).map V.int))) a (.tup [.ref x,.ref y,.ref z])):=(aC hz).trans (aC ha);have e1:upd (upd H' z (.tup ((plc n (own (grp rows) q.toNat)).map V.int))) a (.tup [.ref x,.ref y,.ref z]) a=some (.tup [.ref x,.ref y,.ref z]):=ax;have e2:upd (upd H' z (.tup ((plc n (own (grp rows) q.toNat)).map V.int))) a (.tup [.ref x,.ref y,.ref z]) z=some (.tup ((plc n (own (grp rows) q.toNat)).map V.int)):=aC ha _ _ ax;generalize upd (upd H' z (.tup ((plc n (own (grp rows) q.toNat)).map V.int))) a (.tup [.ref x,.ref y,.ref z])=H1 at s1 e1 e2⊢;have er1:=s1 _ _ er;refine⟨br,bs,_,rfl,rfl,er1,lt60 (by omega),hD _ _ ⟨⟨ks,bs++[.ref a],?_⟩,_,_,_,_,_,rfl⟩⟩;have t1:Tk H1 (upd H1 br (.lst (bs++[V.ref a]))):=qg er1;have t2:Tk H' (upd H1 br (.lst (bs++[V.ref a]))):=fun b xs e=>t1 b xs (s1 _ _ e);refine⟨fG (s.trans s1) F.fbr,?_,?_,?_,ax,dM t2 nk,?_⟩
 ·rw[a7 (cn F.n4)];exact s1 _ _ eg
 ·rw[a7 (cn F.n5)];exact s1 _ _ eo
 ·rw[a7 F.n1];exact s1 _ _ en
 ·rw[Dl hk h0]
  exact Paired.snoc ⟨a,x,y,z,rfl,t1 _ _ e1,t2 _ _ hx,t2 _ _ hy,t1 _ _ e2⟩ (bk.tk t2)
theorem wN(F:Fx H gl nd br so)(hn:n<=60)(hq:Grs n (grp rows) qs){q:Int}(hk:qs[k]? =some q)(h0:q≠0)(hD:∀σ2 H2,Gv rows n qs H c r0 gl nd br so (k+1) σ2 H2->D.nx σ2 H2)
  (g:Gx rows n qs H gl nd br so (dn qs k) ks bs H')(np:pl≠nd)(ep:H' pl=some (.lst ((plc n (own (grp rows) q.toNat)).map V.int)))(eb:H' be=some (.tup ((nB (fr rows) n (grp rows) q).map V.int)))(ea:H' ab=some (.tup ((nA (fr rows) n (grp rows) q).map V.int))):
  wpB G K E mL D [some (.ref c),some (.ref r0),some (.ref gl),some (.ref nd),some (.ref br),some (.int q),some (.ref pl),some (.ref ar),some (.ref be),some (.ref ab)] H':=by
 have hdn:(dn qs k).length<=n:=Ic hq;have hkl:=g.ksl;unfold mL;walk_at "wp";refine⟨.inl ⟨rfl,_,SqL.of g.en⟩,nd,ks,_,rfl,rfl,g.en,lt60 (by omega),?_⟩;have t1:Tk H' (upd H' nd (.lst (ks++[V.ref be]))):=qg g.en;refine wM F hn hq hk h0 hD (fG g.s F.fnd) ?_ ?_ ax ?_ ?_ (g.bk.tk t1) ?_ (t1 _ _ eb) (t1 _ _ ea)
 ·rw[a7 (cn F.n2)];exact g.eg
 ·rw[a7 (cn F.n3)];exact g.eo
 ·rw[a7 (cn F.n1)];exact g.eb
 ·rw[Dl hk h0,Bx]
  exact Paired.snoc ⟨be,rfl,t1 _ _ eb⟩ (dM t1 g.nk)
 ·rw[a7 np];exact ep
theorem qW{P:Nat->Bool}{q:Int}{Q:VK}{tc:TT}(eg:H1 gl=some (.lst ((gsI rows n).map V.int)))(hn:n<=60)
  (step:∀(p:Nat)(u:Option V)(H3:Hp)(R:Bool->Hp->Prop),p<n->aO H1 H3->R (P p) H3->tc [some (.int p),some (.int q),some (.ref gl)] H3 R)
  (fin:∀H2 l,aO H1 H2->H2 l=none->Q (.ref l) (upd H2 l (.lst ((plc n P).map V.int)))):
  AF (Itr 0 n) (kM 0) tc (lV 0) [none,some (.int q),some (.ref gl)] H1 Q:=by
 refine ES (xs:=nats n) Gb (eK (by unfold nats;simp;omega)) (fun _ _=>trivial) (fun v=>match v with |.int i=>P i.toNat|_=>false) id (fun τ=>∃u,τ=[u,some (.int q),some (.ref gl)]) ⟨none,rfl⟩ ?_ ?_
 ·rintro x τ H3 Rt Rf hx ⟨u,rfl⟩ s3 kt kf
  unfold nats at hx;obtain⟨p,hp,rfl⟩:=az.mp hx;have hp:=aM.mp hp;refine step p u H3 _ hp s3 ?_;have e:P ((p:Int)).toNat=P p:=by rw[aU]
  cases h:P p with
  |true=>
   rw[if_pos rfl];exact⟨_,rfl,kt _ _ ⟨_,rfl⟩ (aO.refl _) (e.trans h)⟩
  |false=>
   rw[if_neg aE];exact kf _ _ ⟨_,rfl⟩ (aO.refl _) (e.trans h)
 ·intro H2 l s2 hl
  rw[Er (P:=P) fun p hp=>by show P ((p:Int)).toNat=P p;rw[aU]];exact fin H2 l s2 hl
theorem wO(g2:G.fn "turned" 2=some (md K,[]))(F:Fx H gl nd br so)(hn:n<=60)(hl:(rows.getD 0 []).length=n)(hr:H r0=some (.tup ((rows.getD 0 []).map V.int)))(hq:Grs n (grp rows) qs){q:Int}(hk:qs[k]? =some q)(h0:q≠0)(hD:∀σ2 H2,Gv rows n qs H c r0 gl nd br so (k+1) σ2 H2->D.nx σ2 H2){x y:Option V}
  (g:Gx rows n qs H gl nd br so (dn qs k) ks bs H')(np:pl≠nd)(ep:H' pl=some (.lst ((plc n (own (grp rows) q.toNat)).map V.int)))(er:H' ar=some (.lst ((plc n (M4.sub (grp rows) q.toNat)).map V.int))):
  wpB G K E mM D [some (.ref c),some (.ref r0),some (.ref gl),some (.ref nd),some (.ref br),some (.int q),some (.ref pl),some (.ref ar),x,y] H':=by
 unfold mM;walk_at "wp";refine⟨_,_,g2,r0,ar,_,_,rfl,SqT.of (g.s _ _ hr),SqL.of er,by omega,fun H1 be s1 _ eb=>?_⟩;have e1:trn (rows.getD 0 []) (plc n (M4.sub (grp rows) q.toNat))=nB (fr rows) n (grp rows) q:=by
  rw[<-hl];exact DS
 rw[e1]at eb;unfold rj;walk_at "wp";refine⟨_,_,g2,be,pl,_,_,rfl,SqT.of eb,SqL.of (s1 _ _ ep),by unfold nB;rw[hU];exact hn,fun H2 ab s2 _ ea=>?_⟩;have e2:trn (nB (fr rows) n (grp rows) q) (plc n (own (grp rows) q.toNat))=nA (fr rows) n (grp rows) q:=by
  unfold nB nA;rw[trn_bl fun p=>own_sub,IQ]
 rw[e2]at ea;exact wN F hn hq hk h0 hD (g.same (s1.trans s2)) np (s2 _ _ (s1 _ _ ep)) (s2 _ _ eb) ea
theorem wQ(g2:G.fn "turned" 2=some (md K,[]))(F:Fx H gl nd br so)(hn:n<=60)(hl:(rows.getD 0 []).length=n)(hr:H r0=some (.tup ((rows.getD 0 []).map V.int)))(hq:Grs n (grp rows) qs){q:Int}(hk:qs[k]? =some q)(h0:q≠0)(hD:∀σ2 H2,Gv rows n qs H c r0 gl nd br so (k+1) σ2 H2->D.nx σ2 H2){v w x y:Option V}
  (g:Gx rows n qs H gl nd br so (dn qs k) ks bs H'):
  wpB G K E mN D [some (.ref c),some (.ref r0),some (.ref gl),some (.ref nd),some (.ref br),some (.int q),v,w,x,y] H':=by
 obtain⟨p0,hp0,eq0⟩:=hq.2 q (aI hk);have hqt:q=(q.toNat:Int):=by rw[eq0,aU]
 have lenr:((rows.getD 0 []).map V.int).length=n:=by rw[ai];exact hl
 unfold mN;walk_at "wp";refine cM ?_;walk_at "wp";refine Or.inl ⟨r0,_,rfl,.inr (SqT.of (g.s _ _ hr)),_,rfl,by omega,by omega,?_⟩;rw[lenr,aU];refine qW (rows:=rows) (P:=own (grp rows) q.toNat) g.eg hn ?_ ?_
 ·intro p u H3 R hp s3 hR
  walk_at "wp"
  refine .inl ⟨gl,_,p,_,rfl,rfl,SqL.of (s3 _ _ g.eg),cX (fC (by rw[ya];exact hp)),?_⟩;rw[HJ hp];refine my.mpr ?_;refine⟨_,rfl,?_⟩;have e:decide ((grp rows p:Int)=q)=own (grp rows) q.toNat p:=by
   unfold M5.own;rw[hqt,aU];exact decide_eq_decide.mpr (by omega)
  rw[e];exact hR
 intro H1 pl s1 hpl;have s2:aO H' (upd H1 pl (.lst ((plc n (own (grp rows) q.toNat)).map V.int))):=s1.trans (aC hpl);have ep:upd H1 pl (.lst ((plc n (own (grp rows) q.toNat)).map V.int)) pl=some (.lst ((plc n (own (grp rows) q.toNat)).map V.int)):=ax;have np:pl≠nd:=fun z=>by rw[z,s1 _ _ g.en]at hpl;cases hpl
 have g:=g.same s2;generalize upd H1 pl (.lst ((plc n (own (grp rows) q.toNat)).map V.int))=H2 at ep g⊢;unfold rm;walk_at "wp";refine cM ?_;walk_at "wp";refine Or.inl ⟨r0,_,rfl,.inr (SqT.of (g.s _ _ hr)),_,rfl,by omega,by omega,?_⟩;rw[lenr,aU];refine qW (rows:=rows) (P:=M4.sub (grp rows) q.toNat) g.eg hn ?_ ?_
 ·intro p u H3 R hp s3 hR
  walk_at "wp"
  refine .inl ⟨gl,_,p,_,rfl,rfl,SqL.of (s3 _ _ g.eg),cX (fC (by rw[ya];exact hp)),?_⟩;rw[HJ hp];refine and_ii.mpr (my.mpr ⟨_,rfl,?_⟩);have e:decide (iB (grp rows p:Int) q=q)=M4.sub (grp rows) q.toNat p:=by
   unfold M4.sub;rw[hqt,and_nat,aU];exact decide_eq_decide.mpr (by omega)
  rw[e];exact hR
 intro H3 ar s3 har;exact wO g2 F hn hl hr hq hk h0 hD (g.same (s3.trans (aC har))) np ((s3.trans (aC har)) _ _ ep) ax
end
noncomputable def qI(rows:List (List Int))(n:Nat)(H:Hp)(H':Hp)(p:Addr):Prop:=∃(nl bl:Addr)(ks bs:List V)(qs:List Int),H' p=some (.tup [.ref nl,.ref bl])/\H nl=none/\H bl=none/\nl≠bl/\Grs n (grp rows) qs/\0∉qs/\(∀p,p<n->grp rows p≠0->(grp rows p:Int)∈qs)/\
 _root_.Q.IntKeys H' ks (fw (fr rows) n (grp rows) qs)/\lE (fr rows) n (grp rows) H' bs qs/\H' nl=some (.lst (_root_.Q.dy .non (fw (fr rows) n (grp rows) qs) ks))/\H' bl=some (.lst (_root_.Q.dy .non ((brK (fr rows) n (grp rows) qs).map _root_.Q.lA) bs))
noncomputable def sP:Sp:=fun vs H Q _=>∃(c:Addr)(ys:List V)(n:Nat)(rows:List (List Int)),vs=[.ref c]/\Cps H c ys n rows/\ys≠[]/\∀H' p,aO H H'->H p=none->qI rows n H H' p->Q (.ref p) H'
theorem DQ(g1:G.fn "group_at" 2=some (xa,[]))(g2:G.fn "turned" 2=some (md K,[])):Sat G K sP Dx CY:=by
 rintro vs H Q E ⟨c,ys,n,rows,rfl,d,hy,q⟩;unfold Dx;change wpB G K _ _ _ [some (.ref c),none,none,none,none,none,none,none,none,none] H;walk_at "wp";have h0:0<ys.length:=dI.mpr hy;obtain⟨b,z,r0,e1,e2,e3⟩:=d.at_ 0 ys[0] (aa h0);obtain⟨hl,hf⟩:=d.row h0;have hf:∀p,p<n->fr rows p=0\/fr rows p=1:=hf;have hn:=d.n60;have lenr:((rows.getD 0 []).map V.int).length=n:=by rw[ai];exact hl
 have g0:ys[0]? =some (.ref b):=by rw[aa h0,e1]
 refine .inl ⟨c,ys,0,_,rfl,rfl,SqL.of d.ec,cX (j:=0) g0,?_⟩;refine .inr (.inl ⟨b,_,1,_,rfl,rfl,SqT.of e2,rfl,?_⟩);unfold wj;walk_at "wp";refine cM ?_;walk_at "wp";refine Or.inl ⟨r0,_,rfl,.inr (SqT.of e3),_,rfl,by omega,by omega,?_⟩;rw[lenr,aU];refine c9 dJ (eK (by omega)) (fun _ _=>trivial) (fun i v _=>v=.int (grp rows i)) (fun _ _ _ _ _ h=>h) (fun τ=>∃u,τ=[u,some (.ref c)]) ⟨none,rfl⟩ ?_ ?_
 ·rintro i x τ H3 R hi ⟨u,rfl⟩ s3 rfl k
  walk_at "wp"
  simp only[eA];exact⟨_,_,g1,c,i,ys,n,rows,rfl,d.same s3,hy,by omega,fun H4 s4=>k _ _ _ ⟨_,rfl⟩ s4 rfl⟩
 intro vs H1 gl hvl hF s1 hgl;have ev:vs=(gsI rows n).map V.int:=by
  unfold gsI;apply gd;intro i;rw[ao,ao];by_cases hi:i<vs.length
  ·rw[aa hi,bU (by omega),hF i _ (aa hi)]
   rfl
  ·rw[bK (by omega),bK (by rw[ba];omega)]
   rfl
 rw[ev];have s2:aO H (upd H1 gl (.lst ((gsI rows n).map V.int))):=s1.trans (aC hgl);have eg:upd H1 gl (.lst ((gsI rows n).map V.int)) gl=some (.lst ((gsI rows n).map V.int)):=ax;generalize upd H1 gl (.lst ((gsI rows n).map V.int))=H2 at s2 eg⊢;unfold wg;walk_at "wp";refine⟨short (by simp),fun nd hnd=>?_⟩;have s3:aO H2 (upd H2 nd (.lst [.ref r0])):=aC hnd;have en:upd H2 nd (.lst [.ref r0]) nd=some (.lst [.ref r0]):=ax;have n2:nd≠gl:=fun z=>by rw[z,eg]at hnd;cases hnd
 have fnd:H nd=none:=s2.free hnd;generalize upd H2 nd (.lst [.ref r0])=H3 at s3 en⊢;unfold we;walk_at "wp";refine⟨short (by simp),fun br hbr=>?_⟩;have s4:aO H3 (upd H3 br (.lst [])):=aC hbr;have eb:upd H3 br (.lst []) br=some (.lst []):=ax;have n1:nd≠br:=fun z=>by rw[<-z,en]at hbr;cases hbr
 have n4:br≠gl:=fun z=>by rw[z,s3 _ _ eg]at hbr;cases hbr
 have fbr:H br=none:=(s2.trans s3).free hbr;have en:=s4 _ _ en;have eg:=s4 _ _ (s3 _ _ eg);have s5:=s2.trans (s3.trans s4);generalize upd H3 br (.lst [])=H4 at s5 eb en eg⊢;unfold wc;walk_at "wp";refine iT ?_;walk_at "wp";refine⟨_,rfl,gl,gsI rows n,rfl,SqL.of eg,by rw[ya];omega,fun ms so nd' mem hso=>?_⟩;obtain⟨qs,eq,pm⟩:=_root_.Q.DX nd';have hq:Grs n (grp rows) qs:=⟨pm.nodup_iff.mpr nd',fun q hq=>by
  have h:=(mem q).mp (pm.mem_iff.mp hq);unfold gsI at h;obtain⟨p,hp,e⟩:=az.mp h;exact⟨p,aM.mp hp,e.symm⟩⟩
 rw[eq];have s6:aO H4 (upd H4 so (.lst (qs.map V.int))):=aC hso;have eo:upd H4 so (.lst (qs.map V.int)) so=some (.lst (qs.map V.int)):=ax;have n3:nd≠so:=fun z=>by rw[<-z,en]at hso;cases hso
 have n5:br≠so:=fun z=>by rw[<-z,eb]at hso;cases hso
 have F:Fx H gl nd br so:=⟨fnd,fbr,n1,n2,n3,n4,n5⟩;generalize upd H4 so (.lst (qs.map V.int))=H5 at s6 eo⊢;have gx:Gx rows n qs H gl nd br so (dn qs 0) [.ref r0] [] H5:=by
  refine⟨s5.trans s6,s6 _ _ eg,eo,s6 _ _ en,s6 _ _ eb,?_,.nil⟩;refine .cons ⟨r0,rfl,?_⟩ .nil;have ef:bl (fr rows) n (fun _=>false)=rows.getD 0 []:=by rw[<-hl];exact HS _
  rw[ef];exact(s5.trans s6) _ _ e3
 refine⟨so,rfl,⟨_,SqL.of eo⟩,HL (dj (xs:=qs.map V.int)) (Gv rows n qs H c r0 gl nd br so) ⟨⟨_,_,gx⟩,_,_,_,_,_,rfl⟩ (fun k σ H' _ g=>?_) ?_ ?_⟩
 ·obtain⟨⟨ks,bs,g⟩,_⟩:=g
  exact SqL.of g.eo
 ·rintro k x σ H6 H7 D2 hk ⟨⟨ks,bs,g⟩,u,v,w,x',y,rfl⟩ hx s7 hD hC
  have g:=g.same s7;rw[ai]at hk;have hk':qs[k]? =some qs[k]:=aa hk;rw[ao,hk']at hx;cases hx;generalize qs[k]=q at hk';walk_at "wp";by_cases h0:q=0
  ·rw[decide_eq_true h0,if_pos rfl]
   refine hC _ _ ⟨⟨ks,bs,?_⟩,_,_,_,_,_,rfl⟩;rw[dn_zero (by rw[hk',h0])];exact g
  ·rw[decide_eq_false h0,if_neg aE]
   exact wQ g2 F hn hl e3 hq hk' h0 hD g
 ·rintro σ H6 ⟨⟨ks,bs,g⟩,u,v,w,x',y,rfl⟩
  rw[ai]at g;have gq:Grs n (grp rows) (dn qs qs.length):=Ie hq;have edn:dn qs qs.length=qs.filter fun q=> !decide (q=0):=by unfold dn;rw[d7]
  have z0:(0:Int)∉dn qs qs.length:=fun z=>by
   rw[edn]at z;simpa using(aN.mp z).2
  have all:∀p,p<n->grp rows p≠0->(grp rows p:Int)∈dn qs qs.length:=fun p hp h=>by
   rw[edn];refine aN.mpr ⟨pm.mem_iff.mpr ((mem _).mpr ?_),?_⟩
   ·unfold gsI
    exact az.mpr ⟨p,aM.mpr hp,rfl⟩
   ·have :¬((grp rows p:Int)=0):=by omega
    rw[decide_eq_false this];rfl
  generalize dn qs qs.length=ds at g gq z0 all;have hds:ds.length<=n:=rY gq;have hkl:=g.ksl;have hbl:=g.bsl;have nkl:=iD g.nk;have bkl:=iD g.bk.two;unfold wb;walk_at "wp";refine⟨nd,ks,_,n,rfl,SqL.of g.en,by omega,tw hf gq,Ep,g.nk,fun nl hnl=>?_⟩;have t1:aO H6 (upd H6 nl (.lst (_root_.Q.dy .non (fw (fr rows) n (grp rows) ds) ks))):=aC hnl;have enl:upd H6 nl (.lst (_root_.Q.dy .non (fw (fr rows) n (grp rows) ds) ks)) nl=some (.lst (_root_.Q.dy .non (fw (fr rows) n (grp rows) ds) ks)):=ax;have g':=g.same t1;generalize upd H6 nl (.lst (_root_.Q.dy .non (fw (fr rows) n (grp rows) ds) ks))=H7 at t1 enl g'⊢;refine⟨br,bs,_,n,rfl,SqL.of g'.eb,by omega,BY hf gq,brK_len,g'.bk.two,fun bl hbl2=>⟨short (by simp),fun p hp=>?_⟩⟩;have t2:=aC (o:=.lst (_root_.Q.dy .non ((brK (fr rows) n (grp rows) ds).map _root_.Q.lA) bs)) hbl2;have t3:=aC (o:=.tup [.ref nl,.ref bl]) hp;have g2:=g'.same (t2.trans t3);refine q _ p g2.s (((g'.s).trans t2).free hp) ⟨nl,bl,ks,bs,ds,ax,g.s.free hnl,g'.s.free hbl2,fun z=>by(rw[<-z,enl]at hbl2;cases hbl2),gq,z0,all,g2.nk,g2.bk,(t2.trans t3) _ _ enl,t3 _ _ ax⟩
end K32
namespace K32
open PySem R
noncomputable def p_tree:List Str:=["table"]
noncomputable def Hf:List Str:=["table","copies"]
noncomputable def An:CB:=
  (.cons (.ret (.call "grown" (.cons (.var 1) .nil)))
  .nil)
noncomputable def Ao:CB:=
  (.cons (.iff (.cmp .Eq (.bfn .len (.cons (.var 1) .nil)) (.con (.int 0)))
  (.cons (.ret (.tup (.cons (.lst .nil) (.cons (.lst .nil) .nil))))
  .nil)
  .nil)
  An)
noncomputable def Ap:CB:=
  (.cons (.expr (.call "refuse_clash" (.cons (.var 1) .nil)))
  Ao)
noncomputable def IG:CB:=
  (.cons (.asg (.name 1) (.call "table_list" (.cons (.var 0) .nil)))
  Ap)
end K32
namespace K32
open PySem PySem.Spec PyProof.Rows L2 R Cp Lt Kc K21 K22 Lm M5
theorem zh{x:V}(e:dR H x=true)(el:H' l=some (.lst zs))(hr:zs.map (cd H')=rowsOf H x)(tt:dR H' (.ref l)=true):rowsOf H' (.ref l)=rowsOf H x/\srt H' (.ref l)=zs:=by
 have hz:eB (H' l)=some zs:=by rw[el];rfl
 obtain⟨l',zs',ez,z1,z2,z3,z4,z5⟩:=eS tt;cases ez;rw[hz]at z1;cases z1;obtain⟨a,ys,rfl,h1,h2,h3,h4,h5⟩:=eS e;have ft:∀l:List V,l.filter (fun _=>true)=l:=fun l=>Jm.mpr fun _ _=>rfl;have r1:(_root_.Q.sortBy V.non (ys.map (aW H)) ys).map (aW H)=_root_.Q.sortBy ("":Str) (ys.map (aW H)) (ys.map (aW H)):=by
  have :=_root_.Q.mf V.non (aW H) (fun _=>true) h4
  rwa [ft,ft]at this
 have r2:(_root_.Q.sortBy V.non (zs.map (aW H')) zs).map (aW H')=_root_.Q.sortBy ("":Str) (zs.map (aW H')) (zs.map (aW H')):=by
  have :=_root_.Q.mf V.non (aW H') (fun _=>true) z4
  rwa [ft,ft]at this
 have en:zs.map (aW H')=_root_.Q.sortBy ("":Str) (ys.map (aW H)) (ys.map (aW H)):=by
  rw[<-r1,<-oO h1];have :=congrArg (List.map Fu) hr;unfold rowsOf at this;rw[aY,aY]at this;exact this
 have p2:=_root_.Q.eF V.non z4 (ys:=zs) (by simp);have e2:_root_.Q.sortBy V.non (zs.map (aW H')) zs=zs:=by
  refine tK (Eo z4) (fun a ha=>p2.mem_iff.mp ha) (fun a ha=>ha) ?_;rw[r2];refine _root_.Q.iG (_root_.Q.eF ("":Str) z4 rfl) (_root_.Q.eV z4) ?_;rw[en];exact _root_.Q.eV h4
 have e3:srt H' (.ref l)=zs:=by rw[oO hz,e2]
 refine⟨?_,e3⟩;show(srt H' (.ref l)).map (cd H')=_;rw[e3];exact hr
noncomputable def intOf:V->Int
 |.int i=>i
 |_=>0
theorem kJ(h:∀z∈zs,cu z=true):(zs.map intOf).map V.int=zs/\∀x∈zs.map intOf,x=0\/x=1:=by
 constructor
 ·rw[aY]
  conv =>rhs;rw[<-ff zs]
  refine bO fun z hz=>?_;rcases gA (h z hz)with e|e<;>rw[e]<;>rfl
 ·intro x hx
  obtain⟨z,hz,rfl⟩:=az.mp hx;rcases gA (h z hz)with e|e<;>rw[e]
  ·exact .inl rfl
  ·exact .inr rfl
noncomputable def rI(R:List (Str×List V)):List (List Int):=R.map fun p=>p.2.map intOf
theorem cps_of(el:H l=some (.lst zs))(tt:dR H (.ref l)=true):Cps H l zs (count H (.ref l)) (rI (zs.map (cd H))):=by
 have hz:eB (H l)=some zs:=by rw[el];rfl
 obtain⟨l',zs',ez,z1,z2,z3,z4,z5⟩:=eS tt;cases ez;rw[hz]at z1;cases z1;refine⟨el,z2,by simp[rI],?_,fun i y e=>?_,fun r hr=>?_⟩
 ·cases zs with
  |nil=>
   show(match eB (H l)with |some (y::_)=>cI H y|_=>0)<=60;rw[hz];exact aX _
  |cons y r=>
   rw[<-z5 y (.head _)];obtain⟨_,_,_,_,_,_,_,_,h60,_,_,h8⟩:=gI (z3 y (.head _));rw[h8];exact h60
 ·obtain⟨b,r,rfl,k1,k2,k3,k4⟩:=jQ (z3 y (aI e))
  refine⟨b,_,r,rfl,k1,?_⟩;have er:(rI (zs.map (cd H))).getD i []=(oV H (.ref b)).map intOf:=by
   unfold rI;rw[af,ao,ao,e];rfl
  rw[er,(kJ k4).1];exact k2
 ·obtain⟨p,hp,rfl⟩:=az.mp hr
  obtain⟨y,hy,rfl⟩:=az.mp hp;obtain⟨b,r,rfl,k1,k2,k3,k4⟩:=jQ (z3 y hy);refine⟨?_,(kJ k4).2⟩;rw[ai,<-z5 _ hy];exact k3
theorem gr_free{T:Tb}{p:Addr}(g:Gr T H H')(t:Tab T H')(h:H' p=none):H p=none:=by
 cases e:H p with
 |none=>rfl
 |some o=>
  have hp:p≠T.P:=fun z=>by
   rw[z]at h;rcases t with t|⟨_,_,_,_,_,t,_⟩<;>(rw[h]at t;cases t)
  rw[g.keep p o hp e]at h;cases h
theorem Cps.gr{T:Tb}(d:Cps H c ys n rows)(g:Gr T H H')(tt:Tab T H):Cps H' c ys n rows:=
 {d with ec:=g.lst tt d.ec,at_:=fun i y e=>let⟨b,z,r,h1,h2,h3⟩:=d.at_ i y e;⟨b,z,r,h1,g.sH tt h2,g.sH tt h3⟩}
theorem qI.old{H0:Hp}{p:Addr}(g:qI rows n H H' p)(f:∀p,H p=none->H0 p=none):qI rows n H0 H' p:=by
 obtain⟨nl,bl,ks,bs,qs,h1,h2,h3,h4⟩:=g;exact⟨nl,bl,ks,bs,qs,h1,f _ h2,f _ h3,h4⟩
noncomputable def TreeK(R:List (Str×List V))(n:Nat)(H H':Hp)(p:Addr):Prop:=
 (R=[]/\∃a b,H' p=some (.tup [.ref a,.ref b])/\H a=none/\H b=none/\a≠b/\H' a=some (.lst [])/\H' b=some (.lst []))\/(R≠[]/\qI (rI R) n H H' p)
end K32
namespace K82
open PySem PySem.Spec PyProof.Rows L2 R Cp Lt Lm
noncomputable abbrev Row:=Str×List V
end K82
namespace K24
open PySem PySem.Spec PyProof.Rows L2 R Cp Lt Kc K21 K22 Lm
theorem tW{rows:List (Str×List V)}{i j:Int}:pA rows i j=true↔∀u v:Int,(u=0\/u=1)->(v=0\/v=1)->∃r∈rows,El i r=u/\El j r=v:=by
 unfold pA;rw[bC];constructor
 ·intro h u v hu hv
  have hm:(u,v)∈KP:=by
   unfold KP;rcases hu with rfl|rfl<;>rcases hv with rfl|rfl<;>simp
  obtain⟨r,hr,e⟩:=bp.mp (h (u,v) hm);exact⟨r,hr,of_decide_eq_true e⟩
 ·intro h k hk
  have hu:(k.1=0\/k.1=1)/\(k.2=0\/k.2=1):=by
   unfold KP at hk;simp only[av,bB,or_false]at hk;rcases hk with rfl|rfl|rfl|rfl<;>simp
  obtain⟨r,hr,e⟩:=h k.1 k.2 hu.1 hu.2;exact bp.mpr ⟨r,hr,decide_eq_true e⟩
theorem in_strs(a:Str)(l:List Str):inV (V.str a) (l.map V.str)=decide (a∈l):=by
 unfold inV;rw[nq,cb,bp,decide_eq_true_eq];constructor
 ·rintro⟨x,hx,e⟩
  have e:(x==a)=true:=e;rw[<-eq_of_beq e];exact hx
 ·intro h
  exact⟨a,h,show(a==a)=true from beq_self_eq_true a⟩
end K24
namespace K84
open PySem PySem.Spec PyProof.Rows L2 R Cp Lt Kc K21 K22 K24 Lm
theorem rT{α:Type}[DecidableEq α]:∀{l m:List α},l.Nodup->m.Nodup->(∀x,x∈l↔x∈m)->l.Perm m
 | [],m,_,_,h=>by
  cases m with
  |nil=>exact .nil
  |cons x m=>exact nomatch(h x).mpr (.head _)
 |x::l,m,h1,h2,h=>by
  have hx:=(h x).mp (.head _);refine .trans (.cons x (rT (cy.mp h1).2 (h2.erase x) fun y=>?_)) (oG hx).symm;rw[h2.mem_erase_iff];constructor
  ·intro hy
   exact⟨fun e=>(cy.mp h1).1 (e▸hy),(h y).mp (.tail _ hy)⟩
  ·rintro⟨hne,hy⟩
   rcases av.mp ((h y).mpr hy)with e|e
   ·exact absurd e hne
   ·exact e
end K84
namespace K83
open PySem PySem.Spec PyProof.Rows L2 R Cp Lt Kc K84 Lm
theorem iC{α β:Type}{F:α->β->Prop}{l:List α}{m:List β}(p:Paired F l m):l.length=m.length:=by
 induction p with
 |nil=>rfl
 |cons _ _ ih=>rw[bG,bG,ih]
theorem GN{α β:Type}{F:α->β->Prop}{l:List α}{m:List β}(p:Paired F l m):∀{i:Nat}{a:α},l[i]? =some a->∃b,m[i]? =some b/\F a b:=by
 induction p with
 |nil=>intro i a h;cases h
 |cons h _ ih=>
  intro i a e;cases i with
  |zero=>cases e;exact⟨_,rfl,h⟩
  |succ i=>exact ih e
theorem vals_eq{ws:List V}{g:Nat->V}(hl:ws.length=n)(h:∀(i:Nat) v,ws[i]? =some v->v=g i):ws=(aw n).map g:=by
 apply gd
 intro i;cases e:ws[i]? with
 |none=>rw[ao,bK (by rw[ba];have :=AJ.mp e;omega)];rfl
 |some v=>
  have :=(aH.mp e).1
  rw[ao,bU (by omega),h i v e];rfl
end K83
namespace K83
open PySem R
noncomputable def sY:List Str:=["table"]
noncomputable def mj:List Str:=["table","found"]
noncomputable def mF:CB:=
  (.cons (.asg (.name 1) (.call "clash" (.cons (.var 0) .nil)))
  (.cons (.iff (.cmp .IsNot (.var 1) (.con .none)) .hole .nil)
  .nil))
end K83
namespace K83
open PySem PySem.Spec PyProof.Rows L2 R Cp Lt Lm K82
theorem oR(nd:ps.Nodup):(_root_.Q.dy [] ps ps).Pairwise fun a b=>_root_.Q.llt a b=true:=by
 unfold _root_.Q.dy _root_.Q.Eh;split
 ·rename_i h
  rw[_root_.Q.range_getD]
  match ps,h with
  | [],_=>exact .nil
  | [x],_=>simp
  |_::_::_,h=>simp at h;omega
 ·rename_i h
  obtain⟨P,U,_⟩:=_root_.Q.fH (_root_.Q.FP nd) (by omega:1<=ps.length);rw[dU];intro i j hi hj hij;have hj':j<ps.length:=by simpa[P.size]using hj
  have u:=U i j hij hj';rw[bo,bo];have e:∀(k:Nat)(hk:k<(_root_.Q.run (_root_.Q.ltL ps) (lH ps.length)).toList.length),(_root_.Q.run (_root_.Q.ltL ps) (lH ps.length)).toList[k]=_root_.Q.at' (_root_.Q.run (_root_.Q.ltL ps) (lH ps.length)) k:=fun k hk=>by
   have hk':k<(_root_.Q.run (_root_.Q.ltL ps) (lH ps.length)).size:=by simpa using hk
   simp[_root_.Q.at',hk']
  rw[e,e];exact u
theorem xE(nd:ps.Nodup)(h:i∈_root_.Q.Eh ps):i<ps.length:=aM.mp ((_root_.Q.m4 nd).mem_iff.mp h)
theorem lr{α:Type}(d:α){ys:List α}(nd:ps.Nodup)(hl:ps.length=ys.length):(_root_.Q.dy d ps ys).Perm ys:=by
 unfold _root_.Q.dy;have h:=(_root_.Q.m4 nd).map fun i=>ys.getD i d;rw[hl,_root_.Q.range_getD]at h;exact h
theorem llt_no{a b:List Int}(h:_root_.Q.llt a b=true)(k:_root_.Q.llt b a=true):a=b:=by
 have c:=_root_.Q.qu h k;have :∀x:List Int,_root_.Q.llt x x=false:=fun x=>by
  induction x with
  |nil=>rfl
  |cons a x ih=>simp[_root_.Q.llt,ih]
 rw[this]at c;cases c
theorem DW{α:Type}(d:α)(F:α->List Int){ys:List α}(nd:(ys.map F).Nodup):(_root_.Q.dy d (ys.map F) ys).map F=_root_.Q.dy [] (ys.map F) (ys.map F):=by
 unfold _root_.Q.dy;rw[aY];refine bO fun i hi=>?_;have :=xE nd hi;rw[ai]at this;show F (ys.getD i d)=_;rw[af,af,ao,aa this];rfl
theorem mX{α:Type}(d:α)(F:α->List Int){ys zs:List α}(nd:(ys.map F).Nodup)(p:ys.Perm zs):_root_.Q.dy d (ys.map F) ys=_root_.Q.dy d (zs.map F) zs:=by
 have nd2:=(p.map F).nodup_iff.mp nd;have pw:∀{ys:List α},(ys.map F).Nodup->(_root_.Q.dy d (ys.map F) ys).Pairwise fun a b=>_root_.Q.llt (F a) (F b)=true:=fun{ys} nd=>by
  have h:=oR nd;rw[<-DW d F nd]at h;exact cS.mp h
 have p1:=lr d (ys:=ys) nd (by simp);have p2:=lr d (ys:=zs) nd2 (by simp);refine List.Perm.eq_of_pairwise (fun a b ha hb h k=>?_) (pw nd) (pw nd2) (p1.trans (p.trans p2.symm));have e:=llt_no h k;have ha':=p1.mem_iff.mp ha;have hb':=p.mem_iff.mpr (p2.mem_iff.mp hb);obtain⟨i,hi,rfl⟩:=cD.mp ha';obtain⟨j,hj,rfl⟩:=cD.mp hb';have :(ys.map F)[i]'(by simpa using hi)=(ys.map F)[j]'(by simpa using hj):=by rw[bo,bo];exact e
 have :=(dz nd).mp this
 subst this;rfl
theorem CJ{α:Type}{F:V->α->Prop}{ks:List α}{d:α}(nd:ps.Nodup)(hl:ps.length=ys.length)(p:Paired F ys ks):Paired F (_root_.Q.dy .non ps ys) (_root_.Q.dy d ps ks):=by
 unfold _root_.Q.dy;have key:∀{is:List Nat},(∀i∈is,i<ys.length)->Paired F (is.map fun i=>ys.getD i .non) (is.map fun i=>ks.getD i d):=fun{is} h=>by
  induction is with
  |nil=>exact .nil
  |cons i is ih=>
   have hi:=h i aB;obtain⟨b,e,f⟩:=GN p (aa hi);refine .cons ?_ (ih fun j hj=>h j (aJ _ hj));show F (ys.getD i .non) (ks.getD i d);rw[af,af,aa hi,e];exact f
 exact key fun i hi=>by rw[<-hl];exact xE nd hi
noncomputable def GrQ(rows:List (List Int))(n:Nat)(qs:List Int):Prop:=M5.Grs n (K32.grp rows) qs/\0∉qs/\∀p,p<n->K32.grp rows p≠0->(K32.grp rows p:Int)∈qs
theorem GrQ.perm{ps:List Int}(a:GrQ rows n qs)(b:GrQ rows n ps):qs.Perm ps:=by
 have s:∀{qs ps:List Int},GrQ rows n qs->GrQ rows n ps->∀x∈qs,x∈ps:=fun{qs ps} a b x hx=>by
  obtain⟨p,hp,rfl⟩:=a.1.2 x hx;exact b.2.2 p hp fun z=>a.2.1 (by rw[z]at hx;exact hx)
 exact K84.rT a.1.1 b.1.1 fun x=>⟨s a b x,s b a x⟩
noncomputable def nd1(k:List Int):L2.D:=.tup (k.map .int)
noncomputable def brF(rows:List (List Int))(n:Nat)(q:Int):List Int:=_root_.Q.lA (M4.lo (M5.nA (K32.fr rows) n (K32.grp rows) q) (M5.nB (K32.fr rows) n (K32.grp rows) q),M4.hi (M5.nA (K32.fr rows) n (K32.grp rows) q) (M5.nB (K32.fr rows) n (K32.grp rows) q))
noncomputable def br1(rows:List (List Int))(n:Nat)(q:Int):L2.D:=.tup [nd1 (M4.lo (M5.nA (K32.fr rows) n (K32.grp rows) q) (M5.nB (K32.fr rows) n (K32.grp rows) q)),nd1 (M4.hi (M5.nA (K32.fr rows) n (K32.grp rows) q) (M5.nB (K32.fr rows) n (K32.grp rows) q)),nd1 (M5.plc n (M5.own (K32.grp rows) q.toNat))]
noncomputable def gD(rows:List (List Int))(n:Nat)(qs:List Int):L2.D:=
 .tup [.lst ((_root_.Q.dy [] (M5.fw (K32.fr rows) n (K32.grp rows) qs) (M5.fw (K32.fr rows) n (K32.grp rows) qs)).map nd1),.lst ((_root_.Q.dy 0 (qs.map (brF rows n)) qs).map (br1 rows n))]
noncomputable def qs0(rows:List (List Int))(n:Nat):List Int:=Classical.epsilon (GrQ rows n)
theorem Cz{α:Type}{F:V->α->Prop}{g:α->L2.D}(f:∀v a,F v a->Rep K H (g a) v){ks:List α}(p:Paired F ys ks):eO K H (ks.map g) ys:=by
 induction p with
 |nil=>rfl
 |cons h _ ih=>exact⟨_,_,rfl,f _ _ h,ih⟩
theorem xq{k:List Int}(h:H a=some (.tup (k.map V.int))):Rep K H (nd1 k) (.ref a):=⟨a,_,rfl,SqT.of h,eO.ints k⟩
theorem EM{p:Addr}(hf:∀p,p<n->K32.fr rows p=0\/K32.fr rows p=1)(g:K32.qI rows n H H' p):Rep K H' (gD rows n (qs0 rows n)) (.ref p):=by
 obtain⟨nl,bl,ks,bs,qs,ep,_,_,_,h1,h2,h3,ik,bk,en,eb⟩:=g;have q:GrQ rows n qs:=⟨h1,h2,h3⟩;have q0:GrQ rows n (qs0 rows n):=yN (p:=GrQ rows n) ⟨qs,q⟩;have pm:=q.perm q0;have ndn:=M5.tw hf h1;have ndb:=M5.BY hf h1;have e1:(M5.brK (K32.fr rows) n (K32.grp rows) qs).map _root_.Q.lA=qs.map (brF rows n):=by unfold M5.brK;rw[aY];rfl
 rw[e1]at ndb eb;have s1:_root_.Q.dy [] (M5.fw (K32.fr rows) n (K32.grp rows) qs) (M5.fw (K32.fr rows) n (K32.grp rows) qs)=_root_.Q.dy [] (M5.fw (K32.fr rows) n (K32.grp rows) (qs0 rows n)) (M5.fw (K32.fr rows) n (K32.grp rows) (qs0 rows n)):=by
  have :=mX [] id (ys:=M5.fw (K32.fr rows) n (K32.grp rows) qs) (zs:=M5.fw (K32.fr rows) n (K32.grp rows) (qs0 rows n)) (by rw[ff];exact ndn) (.cons _ (pm.map _))
  rwa [ff,ff]at this
 have s2:=mX (0:Int) (brF rows n) ndb pm;refine⟨p,_,rfl,SqT.of ep,_,_,rfl,⟨nl,_,rfl,SqL.of en,?_⟩,_,_,rfl,⟨bl,_,rfl,SqL.of eb,?_⟩,rfl⟩
 ·rw[<-s1]
  exact Cz (fun v a ⟨x,e,h⟩=>by subst e;exact xq h) (CJ ndn (iC ik).symm ik)
 ·rw[<-s2]
  refine Cz (fun v q' ⟨a,x,y,z,e,e0,e1,e2,e3⟩=>?_) (CJ (d:=(0:Int)) ndb (by rw[ai];exact(iC bk).symm) bk);subst e;exact⟨a,_,rfl,SqT.of e0,_,_,rfl,xq e1,_,_,rfl,xq e2,_,_,rfl,xq e3,rfl⟩
noncomputable def tD(n:Nat)(R:List K82.Row):L2.D:=if R=[]then .tup [.lst [],.lst []]else gD (K32.rI R) n (qs0 (K32.rI R) n)
theorem yY{R:List K82.Row}{p:Addr}(hr:∀l∈R,l.2.length=n/\∀y∈l.2,cu y=true)(hm:R≠[]->m=n)(t:K32.TreeK R m H H' p):Rep K H' (tD n R) (.ref p):=by
 unfold tD;rcases t with⟨h,a,b,ep,_,_,_,ea,eb⟩ |⟨h,g⟩
 ·rw[if_pos h]
  exact⟨p,_,rfl,SqT.of ep,_,_,rfl,⟨a,_,rfl,SqL.of ea,rfl⟩,_,_,rfl,⟨b,_,rfl,SqL.of eb,rfl⟩,rfl⟩
 ·rw[if_neg h]
  rw[hm h]at g;refine EM (fun q hq=>?_) g;cases R with
  |nil=>exact absurd rfl h
  |cons l R=>
   obtain⟨h1,h2⟩:=hr l aB;have :=M6.Ok.at (n:=(l.2.map K32.intOf).length) ⟨rfl,(K32.kJ h2).2⟩ q;exact this
section
variable {G:Gam}{K:ah}{C CS:Addr}{T:Tb}
noncomputable def F4(T:Tb):Sp:=fun vs H Q _=>∃x,vs=[x]/\Kn4 H x/\Tab T H/\dR H x=true/\K22.NoC (K22.rowsOf H x) (count H x)/\∀H',Gr T H H'->Q .non H'
theorem wp_ref(g1:G.fn "clash" 1=some (K22.xc C T,[])):Sat G K (F4 T) mF mj:=by
 rintro vs H Q E ⟨x,rfl,hk,tb,e,nc,q⟩;unfold mF;change wpB G K _ _ _ [some x,none] H;walk_at "wp";refine⟨_,_,g1,x,rfl,hk,tb,fun _ H1 v gr rs=>?_,fun z=>by rw[e]at z;cases z⟩;rcases rs with⟨rfl,hc⟩ |⟨i,j,a,l,rfl,fi,ea,el⟩
 ·rw[if_neg (by simp)]
  exact q H1 gr
 ·have :=nc i j fi.ij fi.jn
  rw[fi.four]at this;cases this
noncomputable def sO(T:Tb):Sp:=fun vs H Q _=>∃x,vs=[x]/\Kn4 H x/\Tab T H/\dR H x=true/\K22.NoC (K22.rowsOf H x) (count H x)/\∀H' p,Gr T H H'->H p=none->K32.TreeK (K22.rowsOf H x) (count H x) H H' p->Q (.ref p) H'
theorem wp_tree(g1:G.fn "table_list" 1=some (qj C T,[]))(g2:G.fn "refuse_clash" 1=some (F4 T,[]))(g3:G.fn "grown" 1=some (K32.sP,[])):
  Sat G K (sO T) K32.IG K32.Hf:=by
 rintro vs H Q E ⟨x,rfl,hk,tb,e,qc,qn⟩;unfold K32.IG;change wpB G K _ _ _ [some x,none] H;walk_at "wp";refine⟨_,_,g1,x,rfl,hk,tb,fun _ H1 l zs gr hl el cpd=>?_,fun z=>by rw[e]at z;cases z⟩;obtain⟨kn,tt,ct,rows⟩:=K22.uf e el cpd;obtain⟨ro,_⟩:=K32.zh e el rows tt;have cps:=K32.cps_of el tt;rw[ct,rows]at cps;have hlen:zs.length=(K22.rowsOf H x).length:=by rw[<-rows,ai]
 have tb1:=gr.tab tb;generalize K22.rowsOf H x=R at qn qc ro cps hlen;generalize count H x=n at qn qc ct cps;unfold K32.Ap;walk_at "wp";refine⟨_,_,g2,.ref l,rfl,kn,tb1,tt,by rw[ro,ct];exact qc,fun H2 gr2=>?_⟩;have cps:=cps.gr gr2 tb1;have tb2:=gr2.tab tb1;have fre:∀p,H2 p=none->H p=none:=fun p=>K32.gr_free (gr.trans gr2) tb2;unfold K32.Ao;walk_at "wp";refine Or.inl ⟨l,zs,rfl,.inl (SqL.of cps.ec),?_⟩;refine my.mpr ⟨_,rfl,?_⟩;by_cases hz:zs=[]
 ·have hR:R=[]:=aV.mp (by rw[<-hlen,hz];rfl)
  rw[hz,if_pos (by simp)];refine⟨short (by simp),fun a ha=>⟨short (by simp),fun b hb=>⟨short (by simp),fun p hp=>?_⟩⟩⟩;have s1:=aC (o:=.lst []) ha;have s2:=aC (o:=.lst []) hb;have s3:=aC (o:=.tup [.ref a,.ref b]) hp;refine qn _ p ((gr.trans gr2).trans (Gr.of (s1.trans (s2.trans s3)))) (fre _ ((s1.trans s2).free hp)) (.inl ⟨hR,a,b,ax,fre _ ha,fre _ (s1.free hb),fun z=>?_,(s2.trans s3) _ _ ax,s3 _ _ ax⟩);rw[<-z,ax]at hb;cases hb
 ·rw[if_neg (fun z=>hz (aV.mp (by have :=of_decide_eq_true z;omega)))]
  unfold K32.An;walk_at "wp";refine⟨_,_,g3,l,zs,n,K32.rI R,rfl,cps,hz,fun H3 p s3 hp gk=>?_⟩;exact qn H3 p ((gr.trans gr2).trans (Gr.of s3)) (fre _ hp) (.inr ⟨fun z=>hz (aV.mp (by rw[hlen,z];rfl)),gk.old fre⟩)
end
end K83
namespace M8
open K32 M7 K83
theorem ex_grq(rows:List (List Int))(n:Nat):∃qs,GrQ rows n qs:=by
 induction n with
 |zero=>exact⟨[],⟨gw,fun _ h=>by cases h⟩,by simp,fun p hp=>by omega⟩
 |succ n ih=>
  obtain⟨qs,⟨nd,h1⟩,h2,h3⟩:=ih;by_cases c:grp rows n=0\/(grp rows n:Int)∈qs
  ·refine⟨qs,⟨nd,fun q hq=>let⟨p,hp,e⟩:=h1 q hq;⟨p,by omega,e⟩⟩,h2,fun p hp hz=>?_⟩
   by_cases e:p=n
   ·rw[e]at hz⊢
    rcases c with c|c
    ·exact absurd c hz
    ·exact c
   ·exact h3 p (by omega) hz
  ·rw[not_or]at c
   refine⟨qs++[(grp rows n:Int)],⟨cC.mpr ⟨nd,by simp,fun a ha b hb e=>c.2 (by rw[aD.mp hb]at e;rw[<-e];exact ha)⟩,fun q hq=>?_⟩,fun z=>?_,fun p hp hz=>?_⟩
   ·rcases bc.mp hq with hq|hq
    ·obtain⟨p,hp,e⟩:=h1 q hq
     exact⟨p,by omega,e⟩
    ·exact⟨n,by omega,aD.mp hq⟩
   ·rcases bc.mp z with z|z
    ·exact h2 z
    ·have :=aD.mp z
     omega
   ·by_cases e:p=n
    ·rw[e];simp
    ·exact jm _ (h3 p (by omega) hz)
theorem n8(rows:List (List Int))(n:Nat):GrQ rows n (qs0 rows n):=yN (ex_grq rows n)
noncomputable def nds(rows:List (List Int))(n:Nat):List (List Int):=M5.fw (fr rows) n (grp rows) (qs0 rows n)
noncomputable abbrev Tri:=List Int×List Int×List Int
noncomputable def tri(rows:List (List Int))(n p:Nat):Tri:=(M4.lo (gg rows n p) (below rows n p),M4.hi (gg rows n p) (below rows n p),M5.plc n (M5.own (grp rows) (grp rows p)))
noncomputable def triQ(rows:List (List Int))(n:Nat)(q:Int):Tri:=(M4.lo (M5.nA (fr rows) n (grp rows) q) (M5.nB (fr rows) n (grp rows) q),M4.hi (M5.nA (fr rows) n (grp rows) q) (M5.nB (fr rows) n (grp rows) q),M5.plc n (M5.own (grp rows) q.toNat))
theorem Ci(rows:List (List Int))(n p:Nat):triQ rows n (grp rows p:Int)=tri rows n p:=rfl
noncomputable def trs(rows:List (List Int))(n:Nat):List Tri:=(qs0 rows n).map (triQ rows n)
noncomputable def key(x:Tri):List Int:=_root_.Q.lA (x.1,x.2.1)
noncomputable def triD(x:Tri):L2.D:=.tup [nd1 x.1,nd1 x.2.1,nd1 x.2.2]
noncomputable def ze(xs:List (List Int)):List (List Int):=_root_.Q.dy [] xs xs
noncomputable def uZ(xs:List Tri):List Tri:=_root_.Q.dy ([],[],[]) (xs.map key) xs
theorem u4{α β:Type}(d:α)(e:β)(g:α->β){ys:List α}(nd:ps.Nodup)(hl:ps.length=ys.length):(_root_.Q.dy d ps ys).map g=_root_.Q.dy e ps (ys.map g):=by
 unfold _root_.Q.dy;rw[aY];refine bO fun i hi=>?_;have :=xE nd hi;show g (ys.getD i d)=_;rw[af,af,ao,aa (by omega)];rfl
section
variable {rows rows2:List (List Int)}{n:Nat}
theorem gX(t:Tbl rows n):v∈nds rows n↔Fits rows n v:=by
 have q:=n8 rows n;unfold nds M5.fw;rw[av];constructor
 ·rintro(rfl|h)
  ·exact BP t
  ·obtain⟨x,hx,rfl⟩:=az.mp h
   obtain⟨p,hp,rfl⟩:=q.1.2 x hx;exact oh t (p:=p) fun z=>q.2.1 (by rw[z]at hx;exact hx)
 ·intro h
  rcases of_fits t h with h|⟨p,hp,hz,h⟩
  ·exact .inl h
  ·exact .inr (az.mpr ⟨_,q.2.2 p hp hz,h.symm⟩)
theorem jL(t:Tbl rows n){x:Tri}:x∈trs rows n↔∃p,p<n/\grp rows p≠0/\x=tri rows n p:=by
 have q:=n8 rows n;unfold trs;rw[az];constructor
 ·rintro⟨y,hy,rfl⟩
  obtain⟨p,hp,rfl⟩:=q.1.2 y hy;exact⟨p,hp,fun z=>q.2.1 (by rw[z]at hy;exact hy),rfl⟩
 ·rintro⟨p,hp,hz,rfl⟩
  exact⟨_,q.2.2 p hp hz,rfl⟩
theorem mi(t:Tbl rows n):(nds rows n).Nodup:=M5.tw (fun p _=>t.f01 p) (n8 rows n).1
theorem nY(t:Tbl rows n):((trs rows n).map key).Nodup:=by
 have :=M5.BY (fun p _=>t.f01 p) (n8 rows n).1
 unfold M5.brK at this;rw[aY]at this;unfold trs;rw[aY];exact this
theorem gD_is(t:Tbl rows n):gD rows n (qs0 rows n)=.tup [.lst ((ze (nds rows n)).map nd1),.lst ((uZ (trs rows n)).map triD)]:=by
 unfold gD uZ;have nd:=nY t;have e:(trs rows n).map key=(qs0 rows n).map (brF rows n):=by unfold trs;rw[aY];rfl
 rw[e]at nd⊢;have :=u4 (0:Int) (([],[],[]):Tri) (triQ rows n) (ys:=qs0 rows n) nd (by simp);unfold trs;rw[<-this,aY];rfl
structure Iso(rows rows2:List (List Int))(n:Nat)(φ:List Int->List Int)(o oi:Nat->Nat):Prop where
 t:Tbl rows n
 t2:Tbl rows2 n
 lt:∀j,j<n->o j<n
 lti:∀p,p<n->oi p<n
 l1:∀j,j<n->oi (o j)=j
 l2:∀p,p<n->o (oi p)=p
 fit:∀v,Fits rows n v->Fits rows2 n (φ v)
 tif:∀w,Fits rows2 n w->∃v,Fits rows n v/\w=φ v
 inj:∀u v,M6.Ok n u->M6.Ok n v->φ u=φ v->u=v
 ed:∀j v,j<n->End rows n (o j) v->End rows2 n j (φ v)
 cls:∀i j,i<n->j<n->(Cls rows2 i j↔Cls rows (o i) (o j))
 nz:∀j,j<n->(grp rows2 j≠0↔grp rows (o j)≠0)
noncomputable def psi(n:Nat)(φ:List Int->List Int)(o:Nat->Nat)(x:Tri):Tri:=(M4.lo (φ x.1) (φ x.2.1),M4.hi (φ x.1) (φ x.2.1),M5.plc n fun i=>decide ((o i:Int)∈x.2.2))
variable {φ:List Int->List Int}{o oi:Nat->Nat}
theorem Iso.nodes(I:Iso rows rows2 n φ o oi):((nds rows n).map φ).Perm (nds rows2 n):=by
 refine K84.rT ?_ (mi I.t2) fun w=>?_
 ·refine cS.mpr ?_
  have nd:(nds rows n).Pairwise (fun a b=>a≠b):=mi I.t;refine(k9.mp nd).imp ?_;rintro a b ⟨ha,hb,hab⟩ e;exact hab (I.inj a b ((gX I.t).mp ha).1 ((gX I.t).mp hb).1 e)
 ·rw[gX I.t2,az]
  constructor
  ·rintro⟨v,hv,rfl⟩
   exact I.fit v ((gX I.t).mp hv)
  ·intro h
   obtain⟨v,hv,rfl⟩:=I.tif w h;exact⟨v,(gX I.t).mpr hv,rfl⟩
theorem Hj{P:Nat->Bool}{x:Int}(h:x∈M5.plc n P):∃i,i<n/\P i=true/\x=(i:Int):=by
 obtain⟨i,hi,rfl⟩:=az.mp h;have :=aN.mp hi;exact⟨i,aM.mp this.1,this.2,rfl⟩
theorem vK{P P':Nat->Bool}(h:∀i,i<n->P i=P' i):M5.plc n P=M5.plc n P':=by
 unfold M5.plc;rw[List.filter_congr fun i hi=>h i (aM.mp hi)]
theorem Iso.tri(I:Iso rows rows2 n φ o oi)(hj:j<n)(hz:grp rows (o j)≠0):M8.tri rows2 n j=psi n φ o (M8.tri rows n (o j)):=by
 have hp:=I.lt j hj;have hz2:=(I.nz j hj).mpr hz;have a:=mC I.t hp hz;have b:=kP I.t hp hz;have ne:=pD I.t (rows:=rows) hp;have ne2:φ (gg rows n (o j))≠φ (below rows n (o j)):=fun e=>ne (I.inj _ _ a.ok b.ok e);have c:=HZ I.t2 hj hz2 (I.ed j _ hj a) (I.ed j _ hj b) ne2;have d:M4.lo (φ (M4.lo (gg rows n (o j)) (below rows n (o j)))) (φ (M4.hi (gg rows n (o j)) (below rows n (o j))))=M4.lo (φ (gg rows n (o j))) (φ (below rows n (o j)))/\M4.hi (φ (M4.lo (gg rows n (o j)) (below rows n (o j)))) (φ (M4.hi (gg rows n (o j)) (below rows n (o j))))=M4.hi (φ (gg rows n (o j))) (φ (below rows n (o j))):=by
  unfold M4.lo M4.hi;rw[_root_.Q.gZ ne];cases _root_.Q.llt (below rows n (o j)) (gg rows n (o j))with
  |false=>exact⟨rfl,rfl⟩
  |true=>exact⟨C4 (cn ne2),C9 (cn ne2)⟩
 unfold psi M8.tri;refine Prod.ext (c.1.trans d.1.symm) (Prod.ext (c.2.trans d.2.symm) (vK fun i hi=>?_));rw[cb,decide_eq_true_eq,M5.jO (I.lt i hi)];unfold M5.own;rw[decide_eq_true_eq,decide_eq_true_eq,I.t2.cls,I.t.cls];exact I.cls i j hi hj
theorem Iso.tris(I:Iso rows rows2 n φ o oi):((trs rows n).map (psi n φ o)).Perm (trs rows2 n):=by
 have nd2:(trs rows2 n).Nodup:=by
  have :=nY I.t2
  exact(cS.mp this).imp fun h e=>h (by rw[e])
 refine K84.rT ?_ nd2 fun x=>?_
 ·unfold trs
  rw[aY];refine cS.mpr ?_;have q:=n8 rows n;have nd:(qs0 rows n).Pairwise (fun a b=>a≠b):=q.1.1;refine(k9.mp nd).imp ?_;rintro a b ⟨ha,hb,hab⟩ e;obtain⟨p,hp,rfl⟩:=q.1.2 a ha;obtain⟨p',hp',rfl⟩:=q.1.2 b hb;have z1:grp rows p≠0:=fun z=>q.2.1 (by rw[z]at ha;exact ha);have z2:grp rows p'≠0:=fun z=>q.2.1 (by rw[z]at hb;exact hb);have e:psi n φ o (M8.tri rows n p)=psi n φ o (M8.tri rows n p'):=e;have j1:=I.lti p hp;have j2:=I.lti p' hp';have t1:=I.tri j1 (by rw[I.l2 p hp];exact z1);have t2:=I.tri j2 (by rw[I.l2 p' hp'];exact z2);rw[I.l2 p hp]at t1;rw[I.l2 p' hp']at t2;have e2:M8.tri rows2 n (oi p)=M8.tri rows2 n (oi p'):=by rw[t1,t2,e]
  have g2:grp rows2 (oi p)=grp rows2 (oi p'):=by
   apply aF
   intro hne;have :=M4.wu (f:=fr rows2) (n:=n) (grp:=grp rows2) (fun p _=>I.t2.f01 p) j1 j2 hne;apply this;show M4.lo (gg rows2 n (oi p)) (below rows2 n (oi p))++M4.hi (gg rows2 n (oi p)) (below rows2 n (oi p))=M4.lo (gg rows2 n (oi p')) (below rows2 n (oi p'))++M4.hi (gg rows2 n (oi p')) (below rows2 n (oi p'));rw[show M4.lo (gg rows2 n (oi p)) (below rows2 n (oi p))=M4.lo (gg rows2 n (oi p')) (below rows2 n (oi p'))from congrArg Fu e2,show M4.hi (gg rows2 n (oi p)) (below rows2 n (oi p))=M4.hi (gg rows2 n (oi p')) (below rows2 n (oi p'))from congrArg (fun x:Tri=>x.2.1) e2]
  have c:=(I.cls _ _ j1 j2).mp (I.t2.cls.mp g2);rw[I.l2 p hp,I.l2 p' hp']at c;exact hab (by rw[I.t.cls.mpr c])
 ·rw[jL I.t2,az]
  constructor
  ·rintro⟨y,hy,rfl⟩
   obtain⟨p,hp,hz,rfl⟩:=(jL I.t).mp hy;have j1:=I.lti p hp;refine⟨oi p,j1,(I.nz _ j1).mpr (by rw[I.l2 p hp];exact hz),?_⟩;rw[I.tri j1 (by rw[I.l2 p hp];exact hz),I.l2 p hp]
  ·rintro⟨j,hj,hz,rfl⟩
   have hz':=(I.nz j hj).mp hz;exact⟨_,(jL I.t).mpr ⟨o j,I.lt j hj,hz',rfl⟩,(I.tri hj hz').symm⟩
end
end M8
namespace M9
open K32 M7 M8
section
variable {rows rows2:List (List Int)}{n:Nat}
theorem gT(t:Tbl rows n):grp rows p≠0↔∃r∈rows,∃s∈rows,r.getD p 0≠s.getD p 0:=by
 rw[gnz];constructor
 ·rintro⟨r,hr,h⟩
  exact⟨r,hr,_,t.first,kb.mp h⟩
 ·rintro⟨r,hr,s,hs,h⟩
  by_cases e:r.getD p 0=fr rows p
  ·exact⟨s,hs,kb.mpr fun z=>h (e.trans z.symm)⟩
  ·exact⟨r,hr,kb.mpr e⟩
theorem Hy(t:Tbl rows n)(t2:Tbl rows2 n)(h:∀r,r∈rows↔r∈rows2):Iso rows rows2 n id id id where
 t:=t
 t2:=t2
 lt:=fun _ h=>h
 lti:=fun _ h=>h
 l1:=fun _ _=>rfl
 l2:=fun _ _=>rfl
 fit:=fun v f=>f.sub fun r hr=>(h r).mp hr
 tif:=fun w f=>⟨w,f.sub fun r hr=>(h r).mpr hr,rfl⟩
 inj:=fun _ _ _ _ e=>e
 ed:=fun j v hj e=>⟨e.ok,fun q hq c=>by
  obtain⟨r,hr,x⟩:=e.own q hq fun r hr s hs=>c r ((h r).mp hr) s ((h s).mp hs);exact⟨r,(h r).mp hr,x⟩,fun q hq c=>by
  obtain⟨r,hr,s,hs,x⟩:=e.off q hq fun z=>c fun r hr s hs=>z r ((h r).mpr hr) s ((h s).mpr hs);exact⟨r,(h r).mp hr,s,(h s).mp hs,x⟩⟩
 cls:=fun i j _ _=>⟨fun c r hr s hs=>c r ((h r).mp hr) s ((h s).mp hs),fun c r hr s hs=>c r ((h r).mpr hr) s ((h s).mpr hs)⟩
 nz:=fun j _=>by
  rw[gT t,gT t2];exact⟨fun⟨r,hr,s,hs,x⟩=>⟨r,(h r).mpr hr,s,(h s).mpr hs,x⟩,fun⟨r,hr,s,hs,x⟩=>⟨r,(h r).mp hr,s,(h s).mp hs,x⟩⟩
end
end M9
namespace M10
open M6
noncomputable def oth(v ms:List Int):List Int:=(aw v.length).map fun j:Nat=>if(j:Int)∈ms then 1-v.getD j 0 else v.getD j 0
theorem oth_len(v ms:List Int):(oth v ms).length=v.length:=by simp[oth]
theorem oth_at(h:j<v.length):(oth v ms).getD j 0=if(j:Int)∈ms then 1-v.getD j 0 else v.getD j 0:=by
 unfold oth;rw[af,ao,bU h];rfl
theorem oth_ok(h:Ok n v):Ok n (oth v ms):=⟨by rw[oth_len];exact h.1,fun x hx=>by
 obtain⟨j,_,rfl⟩:=az.mp hx;have :=h.at j;split <;>omega⟩
structure Gt(n:Nat)(fs:List Int)(vs:List (List Int)):Prop where
 ok:∀v∈vs,Ok n v
 mis:∀i j,i<j->j<n->Mis vs i j
 one:∀p:Nat,(p:Int)∈fs->∀v∈vs,∀w∈vs,v.getD p 0=w.getD p 0
theorem Gt.sub{fs gs:List Int}{vs:List (List Int)}(t:Gt n fs vs)(h:∀x∈gs,x∈fs):Gt n gs vs:=⟨t.ok,t.mis,fun p hp=>t.one p (h _ hp)⟩
theorem Gt.start{fs:List Int}(h:Ok n v):Gt n fs [v]:=by
 refine⟨fun w hw=>by rw[aD.mp hw];exact h,fun i j _ _=>⟨1-v.getD i 0,0,?_,.inl rfl,fun w hw ⟨e,_⟩=>?_⟩,fun p _ x hx y hy=>by rw[aD.mp hx,aD.mp hy]⟩
 ·have :=h.at i;omega
 ·rw[aD.mp hw]at e;omega
theorem Gt.turn{fs:List Int}{vs:List (List Int)}(t:Gt n (ms++fs) vs)(nd:(ms++fs).Nodup)(hv:v∈vs):Gt n fs (vs++[oth v ms]):=by
 have ov:=t.ok v hv;have ow:=oth_ok (ms:=ms) ov;have at_:∀j,j<n->(oth v ms).getD j 0=if(j:Int)∈ms then 1-v.getD j 0 else v.getD j 0:=fun j hj=>oth_at (by rw[ov.1];exact hj)
 refine⟨fun x hx=>?_,fun i j hij hj=>?_,fun p hp=>?_⟩
 ·rcases bc.mp hx with h|h
  ·exact t.ok x h
  ·rw[aD.mp h];exact ow
 ·have hi:i<n:=by omega
  have vi:=ov.at i;have vj:=ov.at j;by_cases c1:(i:Int)∈ms
  ·have si:∀x∈vs,x.getD i 0=v.getD i 0:=fun x hx=>t.one i (bc.mpr (.inl c1)) x hx v hv
   refine⟨1-v.getD i 0,1-(oth v ms).getD j 0,by omega,by have :=ow.at j;omega,fun x hx ⟨h1,h2⟩=>?_⟩;rcases bc.mp hx with h|h
   ·rw[si x h]at h1;omega
   ·rw[aD.mp h]at h2;omega
  ·by_cases c2:(j:Int)∈ms
   ·have sj:∀x∈vs,x.getD j 0=v.getD j 0:=fun x hx=>t.one j (bc.mpr (.inl c2)) x hx v hv
    refine⟨1-(oth v ms).getD i 0,1-v.getD j 0,by have :=ow.at i;omega,by omega,fun x hx ⟨h1,h2⟩=>?_⟩;rcases bc.mp hx with h|h
    ·rw[sj x h]at h2;omega
    ·rw[aD.mp h]at h1;omega
   ·obtain⟨a,b,ha,hb,k⟩:=t.mis i j hij hj
    refine⟨a,b,ha,hb,fun x hx=>?_⟩;rcases bc.mp hx with h|h
    ·exact k x h
    ·rw[aD.mp h,at_ i hi,at_ j hj,if_neg c1,if_neg c2];exact k v hv
 ·have np:(p:Int)∉ms:=fun h=>(cC.mp nd).2.2 _ h _ hp rfl
  have key:∀x∈vs++[oth v ms],x.getD p 0=v.getD p 0:=fun x hx=>by
   rcases bc.mp hx with h|h
   ·exact t.one p (bc.mpr (.inr hp)) x h v hv
   ·rw[aD.mp h]
    by_cases c:p<n
    ·rw[at_ p c,if_neg np]
    ·rw[af,af,bK (by rw[ow.1];omega),bK (by rw[ov.1];omega)]
  intro x hx y hy;rw[key x hx,key y hy]
end M10
namespace K34
open PySem PySem.Spec PyProof.Rows L2 R Cp Lt Kc K21 K22 Lm M5 K32
theorem ik_at{ws:List (List Int)}(h:_root_.Q.IntKeys H ys ws){z:Nat}(e:ys[z]? =some y):∃r zs,y=.ref r/\H r=some (.tup (zs.map V.int))/\zs∈ws:=by
 unfold _root_.Q.IntKeys at h
 induction h generalizing z with
 |nil=>simp at e
 |cons y0 t ih=>
  cases z with
  |zero=>
   obtain⟨a,rfl,k⟩:=y0;simp at e;exact⟨a,_,e.symm,k,aB⟩
  |succ z=>
   simp at e;obtain⟨r,zs,k1,k2,k3⟩:=ih e;exact⟨r,zs,k1,k2,aJ _ k3⟩
noncomputable def me(K:ah):Sp:=fun vs H Q _=>∃(r b:Addr)(zs ms:List Int),vs=[.ref r,.ref b]/\SqT K H r (zs.map V.int)/\SqL K H b (ms.map V.int)/\zs.length<=40/\
 ∀(H':Hp)(p:Addr),aO H H'->H p=none->H' p=some (.tup ((M10.oth zs ms).map V.int))->Q (.ref p) H'
theorem wp_othN:Sat G K (me K) lL lJ:=by
 rintro vs H Q E ⟨r,b,zs,ms,rfl,hr,hb,hl,q⟩;unfold lL;change wpB G K _ _ _ [some (.ref r),some (.ref b)] H;walk_at "wp";refine cM ?_;walk_at "wp";refine Or.inl ⟨r,_,rfl,.inr hr,_,rfl,by rw[ai];omega,by rw[ai];omega,?_⟩;rw[ai];refine c9 dJ (short (by omega)) (fun _ _=>trivial) (fun i v _=>v=.int (if(i:Int)∈ms then 1-zs.getD i 0 else zs.getD i 0)) (fun _ _ _ _ _ h=>h) (fun τ=>∃t,τ=[t,some (.ref b),some (.ref r)]) ⟨none,rfl⟩ ?_ ?_
 ·rintro i x τ H3 R hi ⟨t,rfl⟩ s3 rfl k
  walk_at "wp"
  simp only[eA];have hi':i<zs.length:=by omega
  have hg:=fC hi';refine .inr ⟨b,_,rfl,.inl (s3.seq hb),rfl,kN ms,_,rfl,?_⟩;show if inV (V.int (i:Int)) (ms.map V.int)=true then _ else _
  rw[pk];by_cases h:(i:Int)∈ms
  ·rw[decide_eq_true h,if_pos rfl]
   refine .inr (.inl ⟨r,_,i,_,rfl,rfl,s3.tup hr,cX hg,?_⟩);walk_at "wp";exact k _ _ _ ⟨_,rfl⟩ (aO.refl _) (by rw[if_pos h])
  ·rw[decide_eq_false h,if_neg aE]
   refine .inr (.inl ⟨r,_,i,_,rfl,rfl,s3.tup hr,cX hg,?_⟩);exact k _ _ _ ⟨_,rfl⟩ (aO.refl _) (by rw[if_neg h])
 ·intro vs H2 l hvl hF s2 hl2
  have e:vs=(M10.oth zs ms).map V.int:=by
   unfold M10.oth;apply gd;intro i;rw[ao,ao];by_cases hi:i<vs.length
   ·rw[aa hi,bU (by omega),hF i _ (aa hi)]
    rfl
   ·rw[bK (by omega),bK (by rw[ba];omega)]
    rfl
  subst e;exact⟨l,_,rfl,.inl ⟨SqL.of ax,fun p hp=>q _ p (s2.trans ((aC hl2).trans (aC hp))) ((s2.trans (aC hl2)).free hp) ax⟩⟩
noncomputable def w9(K:ah):Sp:=fun vs H Q _=>∃(a:Addr)(ns:List Int)(n:Nat),vs=[.ref a,.int n]/\SqL K H a (ns.map V.int)/\ns.length<=14/\n<=10/\
 ∀(H':Hp)(p nd lk:Addr)(ys:List V),aO H H'->H' p=some (.tup [.ref nd,.ref lk])->H nd=none->H' nd=some (.lst ys)->ys≠[]->ys.length<=15->∀vs,_root_.Q.IntKeys H' ys vs->M10.Gt n [] vs->Q (.ref p) H'
section
variable {G:Gam}{K:ah}
structure Fs(H:Hp)(nd lk fr:Addr):Prop where
 fnd:H nd=none
 flk:H lk=none
 ffr:H fr=none
 n1:nd≠lk
 n2:nd≠fr
 n3:lk≠fr
noncomputable def Gw(H:Hp)(a nd lk fr:Addr)(n:Nat)(sd:Int)(k:Nat)(σ:L2.St)(H':Hp):Prop:=aO H H'/\∃(ys ls:List V)(fs:List Int),H' nd=some (.lst ys)/\H' lk=some (.lst ls)/\H' fr=some (.lst (fs.map V.int))/\ys≠[]/\ys.length<=k+1/\ls.length<=k/\fs.Nodup/\fs.length<=n/\(∃vs,_root_.Q.IntKeys H' ys vs/\M10.Gt n fs vs)/\∃u v w x y,σ=[some (.ref a),some (.int n),some (.int sd),some (.ref nd),some (.ref lk),some (.ref fr),u,v,w,x,y]
section
variable {E:XS}{D2:Ends}{H:Hp}{a nd lk fr sm:Addr}{ns:List Int}{n k:Nat}{sd d0:Int}{ys ls:List V}{ws:List (List Int)}
noncomputable def Gi(H:Hp)(a nd lk fr sm:Addr)(n k:Nat)(sd d0:Int)(ys ls:List V)(ws:List (List Int))(j:Nat)(σ:L2.St)(H':Hp):Prop:=aO H H'/\H' nd=some (.lst ys)/\H' lk=some (.lst ls)/\_root_.Q.IntKeys H' ys ws/\∃(fs ms:List Int),M10.Gt n (ms++fs) ws/\H' fr=some (.lst (fs.map V.int))/\H' sm=some (.lst (ms.map V.int))/\(ms++fs).Nodup/\ms.length<=j/\fs.length<=n/\∃x y,σ=[some (.ref a),some (.int n),some (.int sd),some (.ref nd),some (.ref lk),some (.ref fr),some (.int k),some (.int d0),some (.ref sm),x,y]
theorem Gi.same(g:Gi H a nd lk fr sm n k sd d0 ys ls ws j σ H1)(s:aO H1 H2):Gi H a nd lk fr sm n k sd d0 ys ls ws j σ H2:=by
 obtain⟨t1,t2,t3,t4,fs,ms,t0,t5,t6,t7⟩:=g;exact⟨t1.trans s,s _ _ t2,s _ _ t3,dM (Tk.of s) t4,fs,ms,t0,s _ _ t5,s _ _ t6,t7⟩
theorem pq(hk':k<ns.length):(ns.map V.int)[k]? =some (.int (ns.getD k 0)):=by
 rw[ao,aa hk',af,aa hk'];rfl
theorem sE(g2:G.fn "_law_otherwise" 2=some (me K,[]))(F:Fs H nd lk fr)(hk:k<14)(hn:n<=10)(b4:ys≠[])(b5:ys.length<=k+1)(hls:ls.length<=k+1)(hD:∀σ2 H2,Gw H a nd lk fr n sd (k+1) σ2 H2->D2.nx σ2 H2){H16:Hp}{z:Nat}(hzl:z<ys.length){x y:Option V}
  (g:Gi H a nd lk fr sm n k sd d0 ys ls ws j [some (.ref a),some (.int n),some (.int sd),some (.ref nd),some (.ref lk),some (.ref fr),some (.int k),some (.int d0),some (.ref sm),x,y] H16):
  wpB G K E hO D2 [some (.ref a),some (.int n),some (.int sd),some (.ref nd),some (.ref lk),some (.ref fr),some (.int k),some (.int d0),some (.ref sm),x,some (.int z)] H16:=by
 obtain⟨t1',t2',t3',t4',fs,ms,t0,t5',t6',t7,t8,t9,_⟩:=g;unfold hO;walk_at "wp";have fsn:fs.Nodup:=(cC.mp t7).2.1;have hgz:ys[z]? =some ys[z]:=aa hzl;obtain⟨r,zs,ez,k1,k2⟩:=ik_at t4' hgz;have okz:=t0.ok zs k2;rw[ez]at hgz;refine⟨.inl ⟨rfl,_,SqL.of t2'⟩,_,_,g2,.inl ⟨nd,ys,z,_,rfl,rfl,SqL.of t2',cX hgz,?_⟩⟩;refine⟨r,sm,zs,ms,rfl,SqT.of k1,SqL.of t6',by rw[okz.1];omega,fun H17 p s18 hp ep=>?_⟩;have v2:=s18 _ _ t2';refine⟨nd,ys,_,rfl,rfl,v2,da (by omega:ys.length<=40) (by decide),?_⟩;refine hD _ _ ⟨fG (t1'.trans s18) F.fnd,ys++[.ref p],ls,fs,ax,?_,?_,by simp,by simp;omega,hls,fsn,t9,⟨ws++[M10.oth zs ms],Paired.snoc ⟨p,rfl,?_⟩ (dM (qg v2) (dM (Tk.of s18) t4')),t0.turn t7 k2⟩,_,_,_,_,_,rfl⟩
 ·rw[a7 (cn F.n1)];exact s18 _ _ t3'
 ·rw[a7 (cn F.n2)];exact s18 _ _ t5'
 ·rw[a7 (fun z=>by rw[z,v2]at ep;cases ep)]
  exact ep
theorem wK(g1:G.fn "_law_draw" 2=some (js,[]))(g2:G.fn "_law_otherwise" 2=some (me K,[]))(F:Fs H nd lk fr)(m2:lk≠sm)(ha:SqL K H a (ns.map V.int))(hk':k<ns.length)(hk:k<14)(hn:n<=10)(b4:ys≠[])(b5:ys.length<=k+1)(b6:ls.length<=k)(hD:∀σ2 H2,Gw H a nd lk fr n sd (k+1) σ2 H2->D2.nx σ2 H2)(hj2:j<=2){H11:Hp}{x y:Option V}
  (g:Gi H a nd lk fr sm n k sd d0 ys ls ws j [some (.ref a),some (.int n),some (.int sd),some (.ref nd),some (.ref lk),some (.ref fr),some (.int k),some (.int d0),some (.ref sm),x,y] H11):
  wpB G K E iU D2 [some (.ref a),some (.int n),some (.int sd),some (.ref nd),some (.ref lk),some (.ref fr),some (.int k),some (.int d0),some (.ref sm),x,y] H11:=by
 unfold iU;walk_at "wp";refine⟨short (by simp),fun p0 hp0=>?_⟩;have g:=g.same (aC (o:=.lst []) hp0);have e0:upd H11 p0 (.lst []) p0=some (.lst []):=ax;generalize upd H11 p0 (.lst [])=H13 at g e0⊢;obtain⟨t1,t2,t3,t4,fs,ms,t0,t5,t6,t7,t8,t9,_⟩:=id g;have fsn:fs.Nodup:=(cC.mp t7).2.1;have msn:ms.Nodup:=(cC.mp t7).1;obtain⟨d,d',r1,r2,r3,r4⟩:=jN (K:=K) (SqL.of t6) e0;refine⟨d,d',r1,r2,r3,_,rfl,?_⟩;rw[r4];by_cases hf:ms=[]
 ·rw[decide_eq_true hf]
  exact hD _ _ ⟨t1,ys,ls,fs,t2,t3,t5,b4,by omega,by omega,fsn,t9,⟨ws,t4,t0.sub fun x hx=>bc.mpr (.inr hx)⟩,_,_,_,_,_,rfl⟩
 ·rw[decide_eq_false hf]
  show if true=true then _ else _
  rw[if_pos rfl];refine⟨_,_,g1,.inl ⟨a,_,k,_,rfl,rfl,t1.seq ha,cX (pq hk'),?_⟩⟩;walk_at "wp";refine⟨qX (by decide) (by decide),_,_,rfl,by omega,by omega,?_⟩;have hyl:0<ys.length:=dI.mpr b4;generalize draw (ns.getD k 0) (41+4*(k:Int))=d1;refine Or.inl ⟨nd,ys,rfl,.inl (SqL.of t2),?_⟩;walk_at "wp";refine⟨by omega,?_⟩;have i0:0<=d1%(ys.length:Int):=bE _ (by omega);have i1:d1%(ys.length:Int)<ys.length:=bM _ (by omega);obtain⟨z,hz⟩:=cW i0;rw[hz];have hzl:z<ys.length:=by omega
  unfold jT;walk_at "wp";refine⟨.inl ⟨rfl,_,SqL.of t3⟩,Or.inl ⟨nd,ys,rfl,.inl (SqL.of t2),?_⟩⟩;have hm64:ms.length<64:=by omega
  refine⟨sm,ms,rfl,SqL.of t6,hm64,msn,fun so hso=>⟨short (by simp),fun tp htp=>?_⟩⟩;have g:=g.same ((aC (o:=.lst (_root_.Q.sortI ms)) hso).trans (aC (o:=.tup [.int z,.int ys.length,.ref so]) htp));generalize upd (upd H13 so (.lst (_root_.Q.sortI ms))) tp (.tup [.int z,.int ys.length,.ref so])=H15 at g⊢;obtain⟨t1,t2,t3,t4,fs,ms,t0,t5,t6,t7,t8,t9,_⟩:=g;refine⟨lk,ls,_,rfl,rfl,t3,da (by omega:ls.length<=40) (by decide),?_⟩;refine sE (j:=j) (ls:=ls++[.ref tp]) g2 F hk hn b4 b5 (by simp;omega) hD hzl (x:=x) (y:=y) ⟨fG t1 F.flk,?_,ax,dM (qg t3) t4,fs,ms,t0,?_,?_,t7,t8,t9,_,_,rfl⟩
  ·rw[a7 F.n1];exact t2
  ·rw[a7 (cn F.n3)];exact t5
  ·rw[a7 (cn m2)];exact t6
theorem wL(g1:G.fn "_law_draw" 2=some (js,[]))(g2:G.fn "_law_otherwise" 2=some (me K,[]))(F:Fs H nd lk fr)(fsm:H sm=none)(m1:nd≠sm)(m2:lk≠sm)(m3:fr≠sm)(ha:SqL K H a (ns.map V.int))(hk':k<ns.length)(hk:k<14)(hn:n<=10)(hd0:0<=d0)(b4:ys≠[])(b5:ys.length<=k+1)(b6:ls.length<=k)(hD:∀σ2 H2,Gw H a nd lk fr n sd (k+1) σ2 H2->D2.nx σ2 H2){H10:Hp}{x y:Option V}
  (g:Gi H a nd lk fr sm n k sd d0 ys ls ws 0 [some (.ref a),some (.int n),some (.int sd),some (.ref nd),some (.ref lk),some (.ref fr),some (.int k),some (.int d0),some (.ref sm),x,y] H10):
  wpB G K E iV D2 [some (.ref a),some (.int n),some (.int sd),some (.ref nd),some (.ref lk),some (.ref fr),some (.int k),some (.int d0),some (.ref sm),x,y] H10:=by
 unfold iV;walk_at "wp";refine iT ?_;walk_at "wp";have hq0:0<=d0%7:=bE _ (by decide);have hq1:d0%7<7:=bM _ (by decide);refine⟨by decide,⟨by decide,by decide⟩,_,rfl,by omega,by omega,?_⟩;refine hJ dJ (Gi H a nd lk fr sm n k sd d0 ys ls ws) g (fun _ _ _ _ _=>trivial) ?_ ?_
 ·rintro j x σ H11 H12 D3 hj g rfl s14 hD3 _
  have hj2:j<2:=by omega
  have g:=g.same s14;obtain⟨_,_,_,_,_,_,_,_,_,_,_,_,x,y,rfl⟩:=id g;walk_at "wp";simp only[eA];refine⟨short (by simp),fun p0 hp0=>?_⟩;have g:=g.same (aC (o:=.lst []) hp0);have e0:upd H12 p0 (.lst []) p0=some (.lst []):=ax;generalize upd H12 p0 (.lst [])=H13 at g e0⊢;obtain⟨t1,t2,t3,t4,fs,ms,t0,t5,t6,t7,t8,t9,_⟩:=g;obtain⟨d,d',r1,r2,r3,r4⟩:=jN (K:=K) (SqL.of t5) e0;refine⟨d,d',r1,r2,r3,_,rfl,?_⟩;rw[r4];by_cases hf:fs=[]
  ·rw[decide_eq_true hf]
   exact hD3 _ _ ⟨t1,t2,t3,t4,fs,ms,t0,t5,t6,t7,by omega,t9,_,_,rfl⟩
  ·rw[decide_eq_false hf]
   show if true=true then _ else _
   rw[if_pos rfl];have hfl:0<fs.length:=dI.mpr hf;refine⟨.inl ⟨rfl,_,SqL.of t6⟩,.inl ⟨rfl,_,SqL.of t5⟩,short (by simp),fun p1 hp1=>?_⟩;generalize hX:upd H13 p1 _=H14;obtain⟨s16,e1⟩:=By hX hp1;clear hX;have t2:=s16 _ _ t2;have t3:=s16 _ _ t3;have t4:=dM (Tk.of s16) t4;have t5:=s16 _ _ t5;have t6:=s16 _ _ t6;have t1:=t1.trans s16;obtain⟨dv,hdv,hdv2⟩:∃dv:Int,[V.int 7,V.int 112][j]? =some (.int dv)/\IY d0 dv:=by
    have :j=0\/j=1:=by omega
    rcases this with rfl|rfl
    ·exact⟨7,rfl,by decide,by decide⟩
    ·exact⟨112,rfl,by decide,by decide⟩
   refine .inl ⟨p1,_,j,_,rfl,rfl,SqL.of e1,cX hdv,?_⟩;walk_at "wp";refine⟨hdv2,Or.inl ⟨fr,_,rfl,.inl (SqL.of t5),?_⟩⟩;rw[ai];walk_at "wp";have i0:0<=d0/dv%(fs.length:Int):=bE _ (by omega);have i1:d0/dv%(fs.length:Int)<fs.length:=bM _ (by omega);obtain⟨z,hz⟩:=cW i0;rw[hz];have hzl:z<fs.length:=by omega
   have hgz:(fs.map V.int)[z]? =some (.int fs[z]):=by rw[ao,aa hzl];rfl
   refine⟨by omega,.inr ⟨fr,_,z,z,_,rfl,rfl,t5,by omega,by omega,?_,hgz,?_⟩⟩
   ·rw[ai,AN (by omega) (by omega)]
    simp
   have ee:(fs.map V.int).eraseIdx z=(fs.eraseIdx z).map V.int:=by
    rw[uM,uM,bZ,List.map_take,List.map_drop]
   rw[ee];have t6':upd H14 fr (.lst ((fs.eraseIdx z).map V.int)) sm=some (.lst (ms.map V.int)):=by rw[a7 (cn m3)];exact t6
   refine⟨sm,ms.map V.int,_,rfl,rfl,t6',da (by rw[ai];omega:(ms.map V.int).length<=40) (by decide),?_⟩;have pm:((ms++[fs[z]])++fs.eraseIdx z).Perm (ms++fs):=by
    rw[sv];exact(iF fs z hzl).append_left ms
   refine hD3 _ _ ⟨fG (fG t1 F.ffr) fsm,?_,?_,dM (qg t6') (dM (qg t5) t4),fs.eraseIdx z,ms++[fs[z]],t0.sub (fun x hx=>pm.mem_iff.mp hx),?_,?_,pm.nodup_iff.mpr t7,by simp;omega,by rw[List.length_eraseIdx];split <;>omega,_,_,rfl⟩
   ·rw[a7 m1,a7 F.n2];exact t2
   ·rw[a7 m2,a7 F.n3];exact t3
   ·rw[a7 m3];exact ax
   ·rw[ax,bZ];rfl
 ·intro σ H11 g
  obtain⟨_,_,_,_,_,_,_,_,_,_,_,_,x,y,rfl⟩:=id g;exact wK g1 g2 F m2 ha hk' hk hn b4 b5 b6 hD (by omega) g
end
theorem A1(g1:G.fn "_law_draw" 2=some (js,[]))(g2:G.fn "_law_otherwise" 2=some (me K,[])){E:XS}{Q:VK}{H0 H7:Hp}{D:Ends}{nd lk fr:Addr}{sd:Int}(F:Fs H nd lk fr)(s0:aO H0 H)(ha:SqL K H a (ns.map V.int))(hns:ns.length<=14)(hn:n<=10)(hr:D.rt=Q)
  (q:∀(H':Hp)(p nd lk:Addr)(ys:List V),aO H0 H'->H' p=some (.tup [.ref nd,.ref lk])->H0 nd=none->H' nd=some (.lst ys)->ys≠[]->ys.length<=15->∀vs,_root_.Q.IntKeys H' ys vs->M10.Gt n [] vs->Q (.ref p) H')
  (g:Gw H a nd lk fr n sd 0 [some (.ref a),some (.int n),some (.int sd),some (.ref nd),some (.ref lk),some (.ref fr),none,none,none,none,none] H7):
  wpB G K E j6 D [some (.ref a),some (.int n),some (.int sd),some (.ref nd),some (.ref lk),some (.ref fr),none,none,none,none,none] H7:=by
 unfold j6;walk_at "wp";refine iT ?_;walk_at "wp";refine Or.inl ⟨a,_,rfl,.inl (g.1.seq ha),_,rfl,by rw[ai];omega,by rw[ai];omega,?_⟩;refine hJ dJ (Gw H a nd lk fr n sd) g (fun _ _ _ _ _=>trivial) ?_ ?_
 ·rintro k x σ H8 H9 D2 hk ⟨s9,ys,ls,fs,b1,b2,b3,b4,b5,b6,b7,b8,⟨ws,b9,b0⟩,u,v,w,x',y',rfl⟩ rfl s10 hD _
  have hk':k<ns.length:=by simpa using hk
  have s11:aO H H9:=s9.trans s10;walk_at "wp";simp only[eA];refine⟨_,_,g1,.inl ⟨a,_,k,_,rfl,rfl,s11.seq ha,cX (pq hk'),?_⟩⟩;walk_at "wp";refine⟨qX (by decide) (by decide),_,_,rfl,by omega,by omega,?_⟩;have hd0:=Dk (ns.getD k 0) (40+4*(k:Int));generalize draw (ns.getD k 0) (40+4*(k:Int))=d0 at hd0⊢;unfold lO;walk_at "wp";refine⟨short (by simp),fun sm hsm=>?_⟩;have c1:=s10 _ _ b1;have c2:=s10 _ _ b2;have c3:=s10 _ _ b3;have s12:aO H9 (upd H9 sm (.lst [])):=aC hsm;exact wL g1 g2 F (s11.free hsm) (fun z=>by rw[<-z,c1]at hsm;cases hsm) (fun z=>by rw[<-z,c2]at hsm;cases hsm) (fun z=>by rw[<-z,c3]at hsm;cases hsm) ha hk' (by omega) hn hd0 b4 b5 b6 hD
   ⟨s11.trans s12,s12 _ _ c1,s12 _ _ c2,dM (Tk.of (s10.trans s12)) b9,fs,[],b0,s12 _ _ c3,ax,by simpa using b7,by simp,b8,_,_,rfl⟩
 ·rintro σ H8 ⟨s9,ys,ls,fs,b1,b2,b3,b4,b5,b6,b7,b8,⟨ws,b9,b0⟩,u,v,w,x',y',rfl⟩
  unfold nT;walk_at "wp";refine⟨short (by simp),fun p hp=>?_⟩;rw[hr];exact q _ p nd lk ys (s0.trans (s9.trans (aC hp))) ax (s0.free F.fnd) (aC hp _ _ b1) b4 (by simp at b5;omega) ws (dM (Tk.of (aC hp)) b9) (b0.sub fun x hx=>by cases hx)
theorem sF(g1:G.fn "_law_draw" 2=some (js,[]))(g2:G.fn "_law_otherwise" 2=some (me K,[])){E:XS}{Q:VK}{H0:Hp}{D:Ends}{sd:Int}(s0:aO H0 H)(ha:SqL K H a (ns.map V.int))(hns:ns.length<=14)(hn:n<=10)(hr:D.rt=Q)
  (q:∀(H':Hp)(p nd lk:Addr)(ys:List V),aO H0 H'->H' p=some (.tup [.ref nd,.ref lk])->H0 nd=none->H' nd=some (.lst ys)->ys≠[]->ys.length<=15->∀vs,_root_.Q.IntKeys H' ys vs->M10.Gt n [] vs->Q (.ref p) H'):
  wpB G K E j7 D [some (.ref a),some (.int n),some (.int sd),none,none,none,none,none,none,none,none] H:=by
 unfold j7;walk_at "wp";refine cM ?_;walk_at "wp";refine⟨(n:Int),rfl,by omega,by omega,?_⟩;refine c9 dJ (short (by omega)) (fun _ _=>trivial) (fun i v _=>cu v=true) (fun _ _ _ _ _ h=>h) (fun τ=>∃t,τ=[t,some (.int sd)]) ⟨none,rfl⟩ ?_ ?_
 ·rintro j y τ H3 R hj ⟨t',rfl⟩ s5 rfl k
  walk_at "wp"
  rw[shl_ii];walk_at "wp";simp only[eA,Int.one_mul,aU];exact⟨⟨by omega,by omega,by decide⟩,pow2 (by omega),by decide,k _ _ _ ⟨_,rfl⟩ (aO.refl _) (mod2 _)⟩
 intro vs H3 l hvl hF s3 hl3;have hvr:∀z∈vs,cu z=true:=fun z hz=>by
  obtain⟨k,hk⟩:=cj.mp hz;exact hF k z hk
 have hvl':vs.length=n:=by rw[hvl];omega
 refine⟨l,vs,rfl,.inl ⟨SqL.of ax,fun r0 hr0=>⟨short (by simp),fun nd hnd=>?_⟩⟩⟩;have s4:aO H (upd (upd H3 l (.lst vs)) r0 (.tup vs)):=s3.trans ((aC hl3).trans (aC hr0));have er0:upd (upd H3 l (.lst vs)) r0 (.tup vs) r0=some (.tup vs):=ax;generalize upd (upd H3 l (.lst vs)) r0 (.tup vs)=H4 at s4 er0 hnd⊢;have s5:aO H4 (upd H4 nd (.lst [.ref r0])):=aC hnd;have end5:upd H4 nd (.lst [.ref r0]) nd=some (.lst [.ref r0]):=ax;have fnd:H nd=none:=s4.free hnd;generalize upd H4 nd (.lst [.ref r0])=H5 at s5 end5⊢;unfold nV;walk_at "wp";refine⟨short (by simp),fun lk hlk=>?_⟩;have s6:aO H5 (upd H5 lk (.lst [])):=aC hlk;have elk:upd H5 lk (.lst []) lk=some (.lst []):=ax;have n1:nd≠lk:=fun z=>by rw[<-z,end5]at hlk;cases hlk
 have flk:H lk=none:=(s4.trans s5).free hlk;generalize upd H5 lk (.lst [])=H6 at s6 elk⊢;unfold nU;walk_at "wp";refine⟨_,rfl,n,rfl,by omega,fun fr hfr=>?_⟩;have s7:aO H6 (upd H6 fr (.lst (nats n))):=aC hfr;have end6:=s6 _ _ end5;have enats:nats n=((aw n).map fun i:Nat=>(i:Int)).map V.int:=by unfold nats;rw[aY];rfl
 have nd0:((aw n).map fun i:Nat=>(i:Int)).Nodup:=by
  rw[eQ,cS];exact(l7 (n:=n)).imp fun h e=>h (vy e)
 refine A1 g1 g2 ⟨fnd,flk,(s4.trans (s5.trans s6)).free hfr,n1,(fun z=>by rw[<-z,end6]at hfr;cases hfr),(fun z=>by rw[<-z,elk]at hfr;cases hfr)⟩ s0 ha hns hn hr q
  ⟨s4.trans (s5.trans (s6.trans s7)),[.ref r0],[],_,s7 _ _ end6,s7 _ _ elk,by rw[ax,enats],by simp,by simp,by simp,nd0,by simp,⟨[vs.map K32.intOf],.cons ⟨r0,rfl,?_⟩ .nil,.start ⟨by rw[ai];exact hvl',(K32.kJ hvr).2⟩⟩,_,_,_,_,_,rfl⟩
 rw[(K32.kJ hvr).1];exact s7 _ _ (s6 _ _ (s5 _ _ er0))
theorem FE(g1:G.fn "_law_draw" 2=some (js,[]))(g2:G.fn "_law_otherwise" 2=some (me K,[])):
  Sat G K (w9 K) rh qS:=by
 rintro vs H Q E ⟨a,ns,n,rfl,ha,hns,hn,q⟩;unfold rh nW;change wpB G K _ _ _ [some (.ref a),some (.int n),none,none,none,none,none,none,none,none,none] H;walk_at "wp";refine⟨short (by simp),fun p0 hp0=>?_⟩;generalize hX:upd H p0 _=H1;obtain⟨s0,e0⟩:=By hX hp0;clear hX;obtain⟨d,d',r1,r2,r3,r4⟩:=jN (K:=K) (s0.seq ha) e0;refine⟨d,d',r1,r2,r3,_,rfl,?_⟩;rw[r4];by_cases hf:ns=[]
 ·rw[decide_eq_true hf]
  exact sF g1 g2 s0 (s0.seq ha) hns hn rfl q
 ·rw[decide_eq_false hf]
  show if true=true then _ else _
  rw[if_pos rfl];have hnl:0<ns.length:=dI.mpr hf;have hc:(ns.map V.int)[0]? =some (.int (ns.getD 0 0)):=by
   rw[ao,aa hnl,af,aa hnl];rfl
  refine⟨_,_,g1,.inl ⟨a,_,0,_,rfl,rfl,s0.seq ha,cX (j:=0) hc,_,20,rfl,by decide,by decide,?_⟩⟩;exact sF g1 g2 s0 (s0.seq ha) hns hn rfl q
end
end K34
namespace M9
open K32 K83 M7 M8 L2
noncomputable def trD(rows:List (List Int))(n:Nat):L2.D:=.tup [.lst ((ze (nds rows n)).map nd1),.lst ((uZ (trs rows n)).map triD)]
theorem DV{xs ys:List (List Int)}(nd:xs.Nodup)(p:xs.Perm ys):ze xs=ze ys:=by
 have :=mX [] id (ys:=xs) (zs:=ys) (by rw[ff];exact nd) p
 rwa [ff,ff]at this
theorem DU{xs ys:List Tri}(nd:(xs.map key).Nodup)(p:xs.Perm ys):uZ xs=uZ ys:=mX _ key nd p
theorem oQ{xs:List (List Int)}(nd:xs.Nodup):(ze xs).Perm xs:=lr [] nd rfl
theorem oP{xs:List Tri}(nd:(xs.map key).Nodup):(uZ xs).Perm xs:=lr _ nd (by simp)
theorem lo_lo{a b:List Int}:M4.lo (M4.lo a b) (M4.hi a b)=M4.lo a b/\M4.hi (M4.lo a b) (M4.hi a b)=M4.hi a b:=by
 by_cases h:a=b
 ·subst h
  unfold M4.lo M4.hi;split <;>simp_all
 ·have t:=_root_.Q.gZ h
  cases c:_root_.Q.llt b a with
  |true=>
   rw[c]at t;have c1:M4.lo a b=b:=if_pos c;have c2:M4.hi a b=a:=if_neg (by rw[t];decide);rw[c1,c2];exact⟨if_neg (by rw[t];decide),if_pos c⟩
  |false=>
   rw[c]at t;have c1:M4.lo a b=a:=if_neg (by rw[c];decide);have c2:M4.hi a b=b:=if_pos t;rw[c1,c2];exact⟨c1,c2⟩
theorem psi_id{a b:List Int}{P:Nat->Bool}:psi n id id (M4.lo a b,M4.hi a b,M5.plc n P)=(M4.lo a b,M4.hi a b,M5.plc n P):=by
 unfold psi;dsimp only[id];rw[lo_lo.1,lo_lo.2];refine Prod.ext rfl (Prod.ext rfl ?_);refine vK fun i hi=>?_;rw[cb,decide_eq_true_eq];constructor
 ·intro h
  obtain⟨j,_,hP,e⟩:=Hj h;rw[show i=j by omega];exact hP
 ·intro h
  unfold M5.plc;exact az.mpr ⟨i,aN.mpr ⟨aM.mpr hi,h⟩,rfl⟩
theorem FO(t:Tbl rows n)(t2:Tbl rows2 n)(h:∀r,r∈rows↔r∈rows2):trD rows n=trD rows2 n:=by
 have I:=Hy t t2 h;have pn:=I.nodes;rw[ff]at pn;have pt:=I.tris;have e:(trs rows n).map (psi n id id)=trs rows n:=by
  conv =>rhs;rw[<-ff (trs rows n)]
  refine bO fun x hx=>?_;obtain⟨p,_,_,rfl⟩:=(jL t).mp hx;exact psi_id
 rw[e]at pt;unfold trD;rw[DV (mi t) pn,DU (nY t) pt]
theorem CU(rows:List (List Int))(n:Nat):(nds rows n).length<=n+1:=by
 have :=M5.rY (n8 rows n).1
 unfold nds M5.fw;simp;omega
theorem trs_len(rows:List (List Int))(n:Nat):(trs rows n).length<=n:=by
 have :=M5.rY (n8 rows n).1
 unfold trs;simp;omega
end M9
namespace K34
open PySem PySem.Spec PyProof.Rows L2 R Cp Lt Kc K21 K22 Lm M5 K32 K24
structure Tn(H:Hp)(t:Addr)(nf:Nat->Str)(n:Nat)(ys:List V)(rows:List (List Int)):Prop where
 et:H t=some (.lst ys)
 ln:rows.length=ys.length
 row:∀(i:Nat) y,ys[i]? =some y->∃b r,y=.ref b/\H b=some (.tup [.str (nf i),.ref r])/\H r=some (.tup ((rows.getD i []).map V.int))
 ok:∀i,gY (nf i)=true
 inj:∀i j,i<ys.length->j<ys.length->nf i=nf j->i=j
 len:ys.length<=15
 n10:n<=10
 rd:∀r∈rows,M6.Ok n r
 mis:∀i j,i<j->j<n->M6.Mis rows i j
section
variable {H H':Hp}{t:Addr}{nf:Nat->Str}{n:Nat}{ys:List V}{rows:List (List Int)}{T:Tb}
theorem Tn.get(d:Tn H t nf n ys rows)(h:i<ys.length):rows.getD i []∈rows:=by
 rw[af,aa (by rw[d.ln];exact h)];exact bx _
theorem Tn.gr(d:Tn H t nf n ys rows)(g:Gr T H H')(tt:Tab T H):Tn H' t nf n ys rows:=
 {d with et:=g.lst tt d.et,row:=fun i y e=>let⟨b,r,h1,h2,h3⟩:=d.row i y e;⟨b,r,h1,g.sH tt h2,g.sH tt h3⟩}
theorem Tn.same(d:Tn H t nf n ys rows)(s:aO H H'):Tn H' t nf n ys rows:=
 {d with et:=s _ _ d.et,row:=fun i y e=>let⟨b,r,h1,h2,h3⟩:=d.row i y e;⟨b,r,h1,s _ _ h2,s _ _ h3⟩}
theorem Tn.dr(d:Tn H t nf n ys rows):Dr H nf n ys:=fun i y e=>by
 obtain⟨b,r,h1,h2,h3⟩:=d.row i y e;have o:=d.rd _ (d.get (aH.mp e).1);refine⟨b,r,_,h1,h2,h3,by rw[ai];exact o.1,fun z hz=>?_⟩;obtain⟨x,hx,rfl⟩:=az.mp hz;rcases o.2 x hx with rfl|rfl<;>rfl
theorem Tn.tab(d:Tn H t nf n ys rows):Kn4 H (.ref t)/\dR H (.ref t)=true/\(∀y∈ys,dw H y=true)/\∀y∈ys,cI H y=n:=
 ub d.ok d.inj d.et d.dr (by have :=d.len;omega) (by have :=d.n10;omega)
theorem Tn.count(d:Tn H t nf n ys rows)(h:ys≠[]):Cp.count H (.ref t)=n:=by
 show(match eB (H t)with |some (y::_)=>cI H y|_=>0)=n;rw[d.et];cases ys with
 |nil=>exact absurd rfl h
 |cons y r=>exact d.tab.2.2.2 y (.head _)
theorem Tn.perm(d:Tn H t nf n ys rows):(rowsOf H (.ref t)).Perm (ys.map (cd H)):=by
 have nd:(ys.map (aW H)).Nodup:=by
  obtain⟨a,xs,e,h1,h2,h3,h4,h5⟩:=eS d.tab.2.1;cases e;rw[show eB (H t)=some ys by rw[d.et];rfl]at h1;cases h1;exact h4
 unfold rowsOf;rw[oO (show eB (H t)=some ys by rw[d.et];rfl)];exact(_root_.Q.eF V.non nd (by simp)).map (cd H)
theorem Tn.cds(d:Tn H t nf n ys rows)(x:Str×List V):x∈ys.map (cd H)↔∃i,i<ys.length/\x=(nf i,(rows.getD i []).map V.int):=by
 constructor
 ·intro h
  obtain⟨y,hy,rfl⟩:=az.mp h;obtain⟨i,e⟩:=cj.mp hy;obtain⟨b,r,rfl,h2,h3⟩:=d.row i y e;exact⟨i,(aH.mp e).1,xv h2 h3⟩
 ·rintro⟨i,hi,rfl⟩
  have e:=aa hi;obtain⟨b,r,e1,h2,h3⟩:=d.row i _ e;refine az.mpr ⟨ys[i],bx hi,?_⟩;rw[e1];exact xv h2 h3
theorem zV(z:List Int):(z.map V.int).map intOf=z:=by
 rw[aY]
 conv =>rhs;rw[<-ff z]
 rfl
theorem Tn.mem(d:Tn H t nf n ys rows)(r:List Int):r∈K32.rI (rowsOf H (.ref t))↔r∈rows:=by
 unfold K32.rI;rw[(d.perm.map _).mem_iff];constructor
 ·intro h
  obtain⟨x,hx,rfl⟩:=az.mp h;obtain⟨i,hi,rfl⟩:=(d.cds x).mp hx;rw[zV];exact d.get hi
 ·intro h
  obtain⟨i,hi,rfl⟩:=cD.mp h;refine az.mpr ⟨(nf i,(rows.getD i []).map V.int),(d.cds _).mpr ⟨i,by rw[<-d.ln];exact hi,rfl⟩,?_⟩;rw[zV,af,aa hi];rfl
theorem Tn.tbl(d:Tn H t nf n ys rows)(h:ys≠[]):M7.Tbl rows n:=⟨d.rd,fun z=>h (aV.mp (by rw[<-d.ln,z];rfl)),d.mis⟩
theorem CQ{r:Str×List V}{z:List Int}(e:r.2=z.map V.int)(i:Nat)(h:i<z.length):El i r=z.getD i 0:=by
 unfold El;rw[e,aU,af,ao,af,aa h];rfl
theorem Tn.noc(d:Tn H t nf n ys rows):NoC (rowsOf H (.ref t)) (Cp.count H (.ref t)):=fun a b hab hb=>by
 rw[dH];intro z;rw[K24.tW]at z;have mem:∀r∈rowsOf H (.ref t),∃q∈rows,r.2=q.map V.int:=fun r hr=>by
  obtain⟨i,hi,rfl⟩:=(d.cds r).mp (d.perm.mem_iff.mp hr);exact⟨_,d.get hi,rfl⟩
 have hy:ys≠[]:=fun e=>by
  obtain⟨r,hr,_⟩:=z 0 0 (.inl rfl) (.inl rfl);obtain⟨q,hq,_⟩:=mem r hr;have :=d.ln;rw[e]at this;rw[aV.mp this]at hq;cases hq
 rw[d.count hy]at hb;obtain⟨u,v,hu,hv,k⟩:=d.mis a b hab hb;obtain⟨r,hr,e1,e2⟩:=z u v hu hv;obtain⟨q,hq,e⟩:=mem r hr;have o:=d.rd q hq;rw[CQ e a (by rw[o.1];omega)]at e1;rw[CQ e b (by rw[o.1];omega)]at e2;exact k q hq ⟨e1,e2⟩
theorem FN{Q:VK}{E:XS}(d:Tn H t nf n ys rows)(tb:Tab T H)(q:∀H' p,Gr T H H'->(∃xs,H' p=some (.tup xs))->Rep K H' (if ys=[]then .tup [.lst [],.lst []]else M9.trD rows n) (.ref p)->Q (.ref p) H')(s:L2.St):K83.sO T [.ref t] H Q (E s):=by
 refine⟨_,rfl,d.tab.1,tb,d.tab.2.1,d.noc,fun H' p gr fp tk=>q H' p gr (by
  rcases tk with⟨_,a,b,ep,_⟩ |⟨_,nl,bl,ks,bs,qs,ep,_⟩
  ·exact⟨_,ep⟩
  ·exact⟨_,ep⟩) ?_⟩
 have h0:rowsOf H (.ref t)=[]↔ys=[]:=by
  have :=d.perm.length_eq
  rw[ai]at this;rw[<-aV,this,aV]
 by_cases hy:ys=[]
 ·rw[if_pos hy]
  have :=K83.yY (K:=K) (n:=0) (fun l hl=>by rw[h0.mpr hy]at hl;cases hl) (fun h=>absurd (h0.mpr hy) h) tk
  unfold K83.tD at this
  rwa [if_pos (h0.mpr hy)]at this
 ·rw[if_neg hy]
  have tl:=d.tbl hy;have tl2:M7.Tbl (K32.rI (rowsOf H (.ref t))) n:=⟨fun r hr=>tl.ok r ((d.mem r).mp hr),fun z=>?_,fun i j a b=>(tl.mis i j a b).sub fun r hr=>(d.mem r).mp hr⟩
  ·have :=K83.yY (K:=K) (n:=n) (fun l hl=>?_) (fun _=>d.count hy) tk
   ·unfold K83.tD at this
    rw[if_neg (fun z=>hy (h0.mp z)),M8.gD_is tl2]at this;rw[<-M9.FO tl2 tl d.mem];exact this
   ·obtain⟨i,hi,rfl⟩:=(d.cds l).mp (d.perm.mem_iff.mp hl)
    have o:=d.rd _ (d.get hi);refine⟨by rw[ai];exact o.1,fun y hy=>?_⟩;obtain⟨x,hx,rfl⟩:=az.mp hy;rcases o.2 x hx with rfl|rfl<;>rfl
  ·unfold K32.rI at z
   exact hy (h0.mp (Jk.mp z))
end
end K34
namespace K34
open PySem PySem.Spec PyProof.Rows L2 R Cp Lt Kc K21 K22 Lm M5 K32
theorem GL{α β:Type}{F:α->β->Prop}:∀{l:List α}{m:List β},l.length=m.length->(∀(j:Nat) a b,l[j]? =some a->m[j]? =some b->F a b)->Paired F l m
 | [],[],_,_=>.nil
 |a::l,b::m,h,f=>.cons (f 0 a b rfl rfl) (GL (lR h) fun j x y e1 e2=>f (j+1) x y (by simpa using e1) (by simpa using e2))
theorem vJ:∀{ks:List Int}{ys:List V},eO K H (ks.map L2.D.int) ys->ys=ks.map V.int
 | [],ys,h=>h
 |k::ks,ys,h=>by
  obtain⟨x,r,rfl,h1,h2⟩:=h;obtain rfl:x=.int k:=h1;rw[vJ h2];rfl
theorem xP{k:List Int}{v:V}(h:Rep K H (K83.nd1 k) v):∃a,v=.ref a/\SqT K H a (k.map V.int):=by
 obtain⟨a,xs,rfl,hq,rs⟩:=h;rw[vJ rs]at hq;exact⟨a,rfl,hq⟩
end K34
namespace K75
open PySem R
noncomputable def xB:List Str:=["thing","count"]
noncomputable def o8:List Str:=["thing","count"]
noncomputable def mI:CB:=
  (.cons (.ret (.call "is_reading" (.cons (.idx (.var 0) (.con (.int 1))) .nil)))
  .nil)
noncomputable def mJ:CB:=
  (.cons (.iff (.or (.not (.call "is_whole" (.cons (.idx (.var 0) (.con (.int 0))) .nil))) (.not (.chain .LtE .Lt (.con (.int 0)) (.idx (.var 0) (.con (.int 0))) (.var 1))))
  (.cons (.ret (.con (.bool false)))
  .nil)
  .nil)
  mI)
noncomputable def pL:CB:=
  (.cons (.iff (.or (.not (.bfn .isinstance (.cons (.var 0) (.cons (.ty .tuple) .nil)))) (.cmp .NotEq (.bfn .len (.cons (.var 0) .nil)) (.con (.int 2))))
  (.cons (.ret (.con (.bool false)))
  .nil)
  .nil)
  mJ)
noncomputable def td:List Str:=["thing","count"]
noncomputable def mn:List Str:=["thing","count"]
noncomputable def kY:CB:=
  (.cons (.ret (.cmp .Eq (.bfn .len (.cons (.bfn .set (.cons (.comp ["place","elder"] [] (.tup (.cons (.name 0) (.cons (.name 1) .nil))) (.seq (.var 0)) .no (.var 0)) .nil)) .nil)) (.bfn .len (.cons (.var 0) .nil))))
  .nil)
noncomputable def kZ:CB:=
  (.cons (.iff (.not (.bfn .all (.cons (.comp ["part"] [1] (.name 0) (.seq (.var 0)) .no (.call "is_telling" (.cons (.var 0) (.cons (.var 1) .nil)))) .nil)))
  (.cons (.ret (.con (.bool false)))
  .nil)
  .nil)
  kY)
noncomputable def mS:CB:=
  (.cons (.iff (.not (.bfn .isinstance (.cons (.var 0) (.cons (.ty .list) .nil))))
  (.cons (.ret (.con (.bool false)))
  .nil)
  .nil)
  kZ)
noncomputable def rE:List Str:=["table","tellings"]
noncomputable def lI:List Str:=["table","tellings","count"]
noncomputable def jR:CB:=
  (.cons (.iff (.not (.call "are_tellings" (.cons (.var 1) (.cons (.var 2) .nil))))
  .hole
  .nil)
  .nil)
noncomputable def jS:CB:=
  (.cons (.iff (.cmp .Eq (.bfn .len (.cons (.var 0) .nil)) (.con (.int 0)))
  .hole
  .nil)
  jR)
noncomputable def lK:CB:=
  (.cons (.asg (.name 2) (.call "place_count" (.cons (.var 0) .nil)))
  jS)
noncomputable def zx:List Str:=["nodes","tellings"]
noncomputable def qP:List Str:=["nodes","tellings"]
noncomputable def qZ:CB:=
  (.cons (.ret (.comp ["node"] [1] (.name 0) (.seq (.var 0)) (.yes (.bfn .all (.cons (.comp ["place","elder"] [0] (.tup (.cons (.name 0) (.cons (.name 1) .nil))) (.seq (.var 1)) .no (.cmp .Eq (.idx (.var 2) (.var 0)) (.var 1))) .nil))) (.var 0)))
  .nil)
noncomputable def xy:List Str:=["nodes","tellings"]
noncomputable def o6:List Str:=["nodes","tellings","found"]
noncomputable def mD:CB:=
  (.cons (.ret (.var 2))
  .nil)
noncomputable def mE:CB:=
  (.cons (.iff (.cmp .Eq (.bfn .len (.cons (.var 2) .nil)) (.con (.int 0)))
  .hole
  .nil)
  mD)
noncomputable def pG:CB:=
  (.cons (.asg (.name 2) (.call "that_read" (.cons (.var 0) (.cons (.var 1) .nil))))
  mE)
noncomputable def qo:List Str:=["branches","nodes","tellings"]
noncomputable def kF:List Str:=["branches","nodes","tellings","told","found","one","other","places"]
noncomputable def jw:CB:=
  (.cons (.ret (.var 4))
  .nil)
noncomputable def jx:CB:=
  (.cons (.forr (.tup (.cons (.name 5) (.cons (.name 6) (.cons (.name 7) .nil)))) (.seq (.var 0))
  (.cons (.iff (.or (.cmp .In (.var 5) (.var 1)) (.cmp .In (.var 6) (.var 1)))
  (.cons (.expr (.meth1 .extend (.var 4) (.comp ["place"] [3] (.name 0) (.seq (.var 7)) (.yes (.cmp .NotIn (.var 0) (.var 1))) (.var 0))))
  .nil)
  .nil)
  .nil))
  jw)
noncomputable def jy:CB:=
  (.cons (.asg (.name 4) (.lst .nil))
  jx)
noncomputable def kQ:CB:=
  (.cons (.asgc 3 (.comp ["place","elder"] [] (.tup (.cons (.name 0) (.cons (.name 1) .nil))) (.seq (.var 2)) .no (.var 0)))
  jy)
noncomputable def xD:List Str:=["table","tellings"]
noncomputable def pd:List Str:=["table","tellings","whole","nodes","unknown"]
noncomputable def mO:CB:=
  (.cons (.ret (.bfn .tuple (.cons (.comp ["place","reading"] [4] (.tup (.cons (.name 0) (.cons (.name 1) .nil))) (.enumt (.idx (.var 3) (.con (.int 0)))) .no (.ite (.cmp .In (.var 0) (.var 2)) (.con .none) (.var 1))) .nil)))
  .nil)
noncomputable def mP:CB:=
  (.cons (.asg (.name 4) (.call "unknown_places" (.cons (.idx (.var 2) (.con (.int 1))) (.cons (.var 3) (.cons (.var 1) .nil)))))
  mO)
noncomputable def mQ:CB:=
  (.cons (.asg (.name 3) (.call "told_nodes" (.cons (.idx (.var 2) (.con (.int 0))) (.cons (.var 1) .nil))))
  mP)
noncomputable def mR:CB:=
  (.cons (.asg (.name 2) (.call "tree" (.cons (.var 0) .nil)))
  mQ)
noncomputable def pQ:CB:=
  (.cons (.expr (.call "need_tellings" (.cons (.var 0) (.cons (.var 1) .nil))))
  mR)
end K75
namespace K75
open PySem PySem.Spec PyProof.Rows L2 R Cp Lt Kc K21 K22 Lm M5 K32 K34
theorem m7{J:It}{Hc:Hp->Prop}{g:TG}{tc:TT}{te:TE}{Q:VK}{τ0:L2.St}{α:Type}{ds:List α}(hl:xs.length=ds.length)(S:qF J xs.length (fun i x _=>xs[i]? =some x) Hc)(hn:xs.length<=sizeLine)(hc:∀H,aO H1 H->Hc H)
  (t:α->Bool)(f:V->α->V)(T:L2.St->Prop)(hT:T τ0)
  (step:∀(i:Nat) x a τ H3 (Rt:L2.St->V->Hp->Prop)(Rf:L2.St->Hp->Prop),xs[i]? =some x->ds[i]? =some a->T τ->aO H1 H3->(∀τ' H6,T τ'->aO H3 H6->t a=true->Rt τ' (f x a) H6)->(∀τ' H6,T τ'->aO H3 H6->t a=false->Rf τ' H6)->
   g x τ H3 fun τ4 H4=>tc τ4 H4 fun b H5=>if b=true then te τ4 H5 (Rt τ4)else Rf τ4 H5)
  (fin:∀H2 l,aO H1 H2->H2 l=none->Q (.ref l) (upd H2 l (.lst (((xs.zip ds).filter fun p=>t p.2).map fun p=>f p.1 p.2)))):AF J g tc te τ0 H1 Q:=by
 have zl:(xs.zip ds).length=xs.length:=by rw[List.length_zip];omega
 refine⟨fun i m τ acc H2=>m=xs.length-i/\i<=xs.length/\T τ/\acc=(((xs.zip ds).take i).filter fun p=>t p.2).map (fun p=>f p.1 p.2)/\aO H1 H2,⟨xs.length,by simp,aX _,hT,by simp,aO.refl _⟩,?_⟩;rintro i m τ acc H2 ⟨rfl,hi,ht,rfl,sm⟩;have q:=hc H2 sm;by_cases hlt:i<xs.length
 ·refine .inr ⟨S.go i H2 q hlt,fun τ' acc' H'=>T τ'/\acc'=(((xs.zip ds).take (i+1)).filter fun p=>t p.2).map (fun p=>f p.1 p.2)/\aO H1 H',fun τ' acc' H' ⟨a,b,c⟩=>⟨xs.length-(i+1),by omega,rfl,hlt,a,b,c⟩,fun x H3 y=>?_⟩
  obtain⟨y1,y2⟩:=S.yld i H2 x H3 q hlt y;have ha:ds[i]? =some ds[i]:=aa (by omega);have e:(xs.zip ds).take (i+1)=(xs.zip ds).take i++[(x,ds[i])]:=by
   rw[dk,(List.getElem?_zip_eq_some (z:=(x,ds[i]))).mpr ⟨y1,ha⟩];rfl
  have hlen:((((xs.zip ds).take i).filter fun p=>t p.2).map (fun p=>f p.1 p.2)).length<=i:=by
   rw[ai];refine aT (dY _ _) ?_;rw[cR];omega
  refine step i x _ τ H3 _ _ y1 ha ht (sm.trans y2) (fun τ' H6 h1 h2 h3=>⟨by omega,h1,?_,(sm.trans y2).trans h2⟩) (fun τ' H6 h1 h2 h3=>⟨h1,?_,(sm.trans y2).trans h2⟩)
  ·rw[e,fP,bZ]
   simp[h3]
  ·rw[e,fP,bZ]
   simp[h3]
 ·have e:i=xs.length:=by omega
  subst e;rw[<-zl,d7];exact .inl ⟨S.stop _ H2 q (by rw[zl];exact aA _),fun l hl'=>fin H2 l sm hl'⟩
noncomputable def TgV(H:Hp)(z:V)(q:Nat×Int):Prop:=∃a,z=V.ref a/\H a=some (.tup [.int q.1,.int q.2])
structure Tls(H:Hp)(l:Addr)(zs:List V)(ts:List (Nat×Int)):Prop where
 hl:H l=some (.lst zs)
 pr:Paired (TgV H) zs ts
theorem Tls.same(d:Tls H l zs ts)(s:aO H H'):Tls H' l zs ts:=⟨s _ _ d.hl,Paired.qt d.pr fun _ _ ⟨a,e,h⟩=>⟨a,e,s _ _ h⟩⟩
theorem Tls.gr{T:Tb}(d:Tls H l zs ts)(g:Gr T H H')(tt:Tab T H):Tls H' l zs ts:=⟨g.lst tt d.hl,Paired.qt d.pr fun _ _ ⟨a,e,h⟩=>⟨a,e,g.sH tt h⟩⟩
structure Vt(n:Nat)(ts:List (Nat×Int)):Prop where
 ok:∀q∈ts,q.1<n/\(q.2=0\/q.2=1)
 nd:(ts.map (·.1)).Nodup
theorem Vt.len(v:Vt n ts):ts.length<=n:=by
 have :=L2.o5 v.nd (m:=aw n) fun x hx=>by
  obtain⟨q,hq,rfl⟩:=az.mp hx;exact aM.mpr (v.ok q hq).1
 rw[ai,ba]at this;exact this
theorem jt{α β:Type}{P:α->β->Prop}{xs:List α}{ys:List β}(h:Paired P xs ys){x:α}(e:xs[i]? =some x):∃y,ys[i]? =some y/\P x y:=K83.GN h e
noncomputable def spTg:Sp:=fun vs H Q _=>∃(a:Addr)(n p:Nat)(e:Int),vs=[.ref a,.int n]/\H a=some (.tup [.int p,.int e])/\p<n/\(e=0\/e=1)/\∀H',aO H H'->Q (.bl true) H'
theorem wp_tg(g1:G.fn "is_whole" 1=some (spB isWhole,[]))(g2:G.fn "is_reading" 1=some (spB cu,[])):Sat G K spTg pL o8:=by
 rintro vs H Q E ⟨a,n,p,e,rfl,ha,hp,he,q⟩;unfold pL;change wpB G K _ _ _ [some (.ref a),some (.int n)] H;walk_at "wp";refine isi (BG ha) .tuple ⟨_,rfl,?_⟩;rw[show tyName H (.ref a)="tuple" by show gB (H a)=_;rw[ha];rfl,if_neg (by decide)];refine .inl ⟨a,_,rfl,.inr (SqT.of ha),Hb.mpr ⟨_,rfl,?_⟩⟩;rw[if_neg (by simp)];unfold mJ;walk_at "wp";refine⟨_,_,g1,.inr (.inl ⟨a,_,0,_,rfl,rfl,SqT.of ha,rfl,.int p,rfl,xY,fun H1 s1=>⟨_,rfl,?_⟩⟩)⟩;rw[show(!isWhole (.int p))=false from rfl,if_neg (by decide)];refine .inr (.inl ⟨a,_,0,_,rfl,rfl,SqT.of (s1 _ _ ha),rfl,?_⟩);walk_at "wp";rw[if_pos (decide_eq_true (by omega:(0:Int)<=p)),if_neg (by rw[decide_eq_true (by omega:(p:Int)<n)];decide)];unfold mI;walk_at "wp";refine⟨_,_,g2,.inr (.inl ⟨a,_,1,_,rfl,rfl,SqT.of (s1 _ _ ha),rfl,.int e,rfl,xY,fun H2 s2=>?_⟩)⟩;rw[show cu (.int e)=true by rcases he with rfl|rfl<;>rfl];exact q _ (s1.trans s2)
theorem xR{ks:List Key}(nd:ks.Nodup):(_root_.Q.met ks).length=ks.length:=by
 have a:=_root_.Q.BA ks;have b:=L2.o5 nd (m:=_root_.Q.met ks) fun x hx=>_root_.Q.jP.mpr hx;omega
noncomputable def spAt:Sp:=fun vs H Q _=>∃(l:Addr)(n:Nat)(zs:List V)(ts:List (Nat×Int)),vs=[.ref l,.int n]/\Tls H l zs ts/\Vt n ts/\n<=60/\∀H',aO H H'->Q (.bl true) H'
theorem wp_at(g1:G.fn "is_telling" 2=some (spTg,[])):Sat G K spAt mS mn:=by
 rintro vs H Q E ⟨l,n,zs,ts,rfl,d,v,n60,q⟩;have zl:zs.length=ts.length:=K83.iC d.pr;have tl:=v.len;unfold mS;change wpB G K _ _ _ [some (.ref l),some (.int n)] H;walk_at "wp";refine isi (Hr d.hl) .list ⟨_,rfl,?_⟩;rw[show tyName H (.ref l)="list" by show gB (H l)=_;rw[d.hl];rfl,if_neg (by decide)];unfold kZ;walk_at "wp";refine cM (bQ rfl (SqL.of d.hl) (c9 dj (eK (by omega)) (fun H1 s1=>SqL.of (s1 _ _ d.hl)) (fun i v _=>v=.bl true) (fun _ _ _ _ _ h=>h) (fun τ=>∃u,τ=[u,some (.int n)]) ⟨none,rfl⟩ ?_ ?_))
 ·rintro i x τ H3 R hi ⟨u,rfl⟩ s3 hx k
  obtain⟨q',hq,a,rfl,ha⟩:=jt d.pr hx;obtain⟨o1,o2⟩:=v.ok q' (aI hq);walk_at "wp";exact⟨_,_,g1,a,n,q'.1,q'.2,rfl,s3 _ _ ha,o1,o2,fun H4 s4=>k _ _ _ ⟨_,rfl⟩ s4 rfl⟩
 intro vs H2 l2 hvl hF s2 hl2;have e:vs=((aw zs.length).map fun _=>true).map V.bl:=by rw[<-hvl];exact bool_list rfl hF
 subst e;refine⟨l2,_,rfl,SqL.of ax,_,rfl,?_⟩;rw[show(((aw zs.length).map fun _=>true).all id)=true by rw[sx];simp,if_neg (by decide)];have s3:=s2.trans (aC (o:=.lst (((aw zs.length).map fun _=>true).map V.bl)) hl2);generalize upd H2 l2 (.lst (((aw zs.length).map fun _=>true).map V.bl))=H3 at s3;unfold kY;walk_at "wp";refine cM (bQ rfl (SqL.of (s3 _ _ d.hl)) (c9 dj (eK (by omega)) (fun H1 s1=>SqL.of (s1 _ _ (s3 _ _ d.hl))) (fun i v _=>v=.int (((ts.map (·.1)).getD i 0:Nat):Int)) (fun _ _ _ _ _ h=>h) (fun τ=>∃u w,τ=[u,w]) ⟨none,none,rfl⟩ ?_ ?_))
 ·rintro i x τ H4 R hi ⟨u,w,rfl⟩ s4 hx k
  obtain⟨q',hq,a,rfl,ha⟩:=jt d.pr hx;refine⟨a,_,rfl,SqT.of ((s3.trans s4) _ _ ha),rfl,_,_,rfl,_,_,rfl,rfl,_,rfl,k _ _ _ ⟨_,_,rfl⟩ (aO.refl _) ?_⟩;rw[af,ao,hq];rfl
 intro vs H4 l4 hvl4 hF4 s4 hl4;have e4:vs=(ts.map fun q=>(dX (q.1:Int):Key)).map kV:=by
  rw[aY];apply bR
  ·rw[hvl4,ai,zl]
  ·intro i h1 h2
   rw[hF4 i _ (aa h1),bo,af,ao,aa (by rw[ai]at h2;exact h2)];rfl
 subst e4;refine⟨l4,_,rfl,SqL.of ax,by rw[ai];omega,fun c hc=>?_⟩;have s5:=s3.trans (s4.trans (aC (o:=.lst ((ts.map fun q=>(dX (q.1:Int):Key)).map kV)) hl4));generalize upd H4 l4 (.lst ((ts.map fun q=>(dX (q.1:Int):Key)).map kV))=H5 at s5 hc;refine .inr (.inr ⟨c,_,rfl,ax,?_⟩);have s6:=s5.trans (aC (o:=_root_.Q.zk c (_root_.Q.met (ts.map fun q=>(dX (q.1:Int):Key))).length) hc);have hl6:=s6 _ _ d.hl;refine .inl ⟨l,_,rfl,.inl (SqL.of hl6),my.mpr ?_⟩;have em:=xR (ks:=ts.map fun q=>(dX (q.1:Int):Key)) (by
  have :=v.nd
  rw[eQ,cS]at this⊢;exact this.imp fun h z=>h (vy (dX.inj z)))
 rw[ai]at em;rw[em]at s6⊢;rw[zl,decide_eq_true rfl];exact q _ s6
noncomputable def spNt(K:ah):Sp:=fun vs H Q _=>∃(t l:Addr)(nf:Nat->Str)(n:Nat)(ys zs:List V)(rows:List (List Int))(ts:List (Nat×Int)),vs=[.ref t,.ref l]/\Tn H t nf n ys rows/\ys≠[]/\Tls H l zs ts/\Vt n ts/\∀H',aO H H'->Q .non H'
theorem wp_nt(g1:G.fn "place_count" 1=some (rQ C,[]))(g2:G.fn "are_tellings" 2=some (spAt,[])):Sat G K (spNt K) lK lI:=by
 rintro vs H Q E ⟨t,l,nf,n,ys,zs,rows,ts,rfl,d,ne,tl,v,q⟩;have n10:=d.n10;unfold lK;change wpB G K _ _ _ [some (.ref t),some (.ref l),none] H;walk_at "wp";refine⟨_,_,g1,.ref t,rfl,d.tab.1,fun _ H1 s1=>?_,fun z=>by(rw[d.tab.2.1]at z;cases z)⟩;rw[d.count ne];unfold jS;walk_at "wp";refine .inl ⟨t,_,rfl,.inl (SqL.of (s1 _ _ d.et)),my.mpr ⟨_,rfl,?_⟩⟩;rw[if_neg (by simpa using fun z=>ne (aV.mp z))];unfold jR;walk_at "wp";refine⟨_,_,g2,l,n,zs,ts,rfl,tl.same s1,v,by omega,fun H2 s2=>⟨_,rfl,?_⟩⟩;rw[if_neg (by decide)];exact q _ (s1.trans s2)
noncomputable def NdV(K:ah)(H:Hp)(v:V)(k:List Int):Prop:=∃b,v=V.ref b/\SqT K H b (k.map V.int)
theorem NdV.same{v:V}{k:List Int}(h:NdV K H v k)(s:aO H H'):NdV K H' v k:=let⟨b,e,q⟩:=h;⟨b,e,s.tup q⟩
noncomputable def rdT(ts:List (Nat×Int))(v:List Int):Bool:=ts.all fun q=>decide (v.getD q.1 0=q.2)
theorem Cb{α:Type}{P:V->α->Prop}(t:α->Bool):∀{xs:List V}{ds:List α},Paired P xs ds->Paired P (((xs.zip ds).filter fun p=>t p.2).map fun p=>p.1) (ds.filter t)
 |_,_,.nil=>.nil
 |x::xs,d::ds,.cons h r=>by
  have ih:=Cb t r;rw[eP,gF,gF];cases c:t d with
  |true=>exact .cons h ih
  |false=>exact ih
noncomputable def F3(K:ah):Sp:=fun vs H Q _=>∃(a l:Addr)(n:Nat)(us zs:List V)(ns:List (List Int))(ts:List (Nat×Int)),vs=[.ref a,.ref l]/\SqL K H a us/\Paired (NdV K H) us ns/\(∀v∈ns,v.length=n)/\ns.length<=40/\n<=60/\Tls H l zs ts/\Vt n ts/\
 ∀H' l' ws,aO H H'->H l'=none->H' l'=some (.lst ws)->Paired (NdV K H') ws (ns.filter (rdT ts))->Q (.ref l') H'
theorem wp_thr:Sat G K (F3 K) qZ qP:=by
 rintro vs H Q E ⟨a,l,n,us,zs,ns,ts,rfl,ha,pn,hv,n40,n60,d,v,q⟩;have ul:us.length=ns.length:=K83.iC pn;have zl:zs.length=ts.length:=K83.iC d.pr;have tl:=v.len;unfold qZ;change wpB G K _ _ _ [some (.ref a),some (.ref l)] H;walk_at "wp";refine cM (bQ rfl ha (m7 ul dj (eK (by omega)) (fun H1 s1=>s1.seq ha) (rdT ts) (fun x _=>x) (fun τ=>∃u,τ=[u,some (.ref l)]) ⟨none,rfl⟩ ?_ ?_))
 ·rintro i x k τ H3 Rt Rf hx hk ⟨u,rfl⟩ s3 kt kf
  obtain⟨k',hk',b,rfl,hb⟩:=jt pn hx;rw[hk]at hk';cases hk';have kl:=hv k (aI hk);walk_at "wp";refine cM (bQ rfl (SqL.of (s3 _ _ d.hl)) (c9 dj (eK (by omega)) (fun H1 s1=>SqL.of (s1 _ _ (s3 _ _ d.hl))) (fun i v _=>v=.bl (decide (k.getD (ts.getD i (0,0)).1 0=(ts.getD i (0,0)).2))) (fun _ _ _ _ _ h=>h) (fun τ=>∃u w,τ=[u,w,some (.ref b)]) ⟨none,none,rfl⟩ ?_ ?_))
  ·rintro j z τ H4 R hj ⟨u',w,rfl⟩ s4 hz kk
   obtain⟨q',hq,c,rfl,hc⟩:=jt d.pr hz;obtain⟨o1,o2⟩:=v.ok q' (aI hq);have s34:=s3.trans s4;refine⟨c,_,rfl,SqT.of (s34 _ _ hc),rfl,_,_,rfl,_,_,rfl,rfl,?_⟩;walk_at "wp";refine .inr (.inl ⟨b,_,_,_,rfl,rfl,s34.tup hb,cX (fC (by rw[kl];exact o1)),my.mpr (kk _ _ _ ⟨_,_,rfl⟩ (aO.refl _) ?_)⟩);rw[getD_some hq]
  ·intro bs H4 l4 hbl hF s4 hl4
   have e:=bool_list hbl hF;subst e;refine⟨l4,_,rfl,SqL.of ax,_,rfl,?_⟩;have er:(((aw zs.length).map fun i=>decide (k.getD (ts.getD i (0,0)).1 0=(ts.getD i (0,0)).2)).all id)=rdT ts k:=by
    unfold rdT;rw[zl,<-pT ts (0,0) fun q:Nat×Int=>decide (k.getD q.1 0=q.2)]
   rw[er];have s5:=s4.trans (aC (o:=.lst (((aw zs.length).map fun i=>decide (k.getD (ts.getD i (0,0)).1 0=(ts.getD i (0,0)).2)).map V.bl)) hl4);cases c:rdT ts k with
   |true=>rw[if_pos rfl];exact kt _ _ ⟨_,rfl⟩ s5 c
   |false=>rw[if_neg (by decide)];exact kf _ _ ⟨_,rfl⟩ s5 c
 ·intro H2 l2 s2 hl2
  have s3:=s2.trans (aC (o:=.lst (((us.zip ns).filter fun p=>rdT ts p.2).map fun p=>p.1)) hl2);exact q _ l2 _ s3 (s2.free hl2) ax (Cb (rdT ts) (Paired.qt pn fun _ _ h=>h.same s3))
noncomputable def spTn(K:ah):Sp:=fun vs H Q _=>∃(a l:Addr)(n:Nat)(us zs:List V)(ns:List (List Int))(ts:List (Nat×Int)),vs=[.ref a,.ref l]/\SqL K H a us/\Paired (NdV K H) us ns/\(∀v∈ns,v.length=n)/\ns.length<=40/\n<=60/\Tls H l zs ts/\Vt n ts/\ns.filter (rdT ts)≠[]/\
 ∀H' l' ws,aO H H'->H l'=none->H' l'=some (.lst ws)->Paired (NdV K H') ws (ns.filter (rdT ts))->Q (.ref l') H'
theorem wp_tn(g1:G.fn "that_read" 2=some (F3 K,[])):Sat G K (spTn K) pG o6:=by
 rintro vs H Q E ⟨a,l,n,us,zs,ns,ts,rfl,ha,pn,hv,n40,n60,d,v,ne,q⟩;unfold pG;change wpB G K _ _ _ [some (.ref a),some (.ref l),none] H;walk_at "wp";refine⟨_,_,g1,a,l,n,us,zs,ns,ts,rfl,ha,pn,hv,n40,n60,d,v,fun H1 l1 ws s1 n1 h1 p1=>?_⟩;unfold mE;walk_at "wp";have wl:=K83.iC p1;refine .inl ⟨l1,_,rfl,.inl (SqL.of h1),my.mpr ⟨_,rfl,?_⟩⟩;rw[if_neg (by rw[wl];exact fun z=>ne (aV.mp (by have :=of_decide_eq_true z;omega)))];unfold mD;walk_at "wp";exact q _ _ _ s1 n1 h1 p1
theorem vY:∀u v:List Int,kO (u.map L2.D.int) (v.map .int)=decide (u=v)
 | [],[]=>rfl
 | [],_::_=>rfl
 |_::_,[]=>rfl
 |a::u,b::v=>by
  show(eqD (.int a) (.int b)&&kO (u.map L2.D.int) (v.map .int))=_;rw[vY u v];have e:eqD (.int a) (.int b)=decide (a=b):=by
   show(a==b)=_;rw[cb,beq_iff_eq,decide_eq_true_eq]
  rw[e,cb,aQ,decide_eq_true_eq,decide_eq_true_eq,decide_eq_true_eq,Fz]
theorem yg(u v:List Int):eqD (K83.nd1 u) (K83.nd1 v)=decide (u=v):=vY u v
theorem xO:∀{us:List V}{ns:List (List Int)},Paired (NdV K H) us ns->eO K H (ns.map K83.nd1) us/\us.all isRef=true
 |_,_,.nil=>⟨rfl,rfl⟩
 |_,_,.cons ⟨b,e,h⟩ r=>by
  obtain⟨h1,h2⟩:=xO r;subst e;exact⟨⟨_,_,rfl,⟨b,_,rfl,h,eO.ints _⟩,h1⟩,h2⟩
theorem tU:∀ns:List (List Int),eW (ns.map K83.nd1)<=1
 | []=>aX _
 |v::ns=>by
  have :=tU ns
  have h1:hgt (K83.nd1 v)=1:=by show eW (v.map L2.D.int)+1=1;rw[kL]
  show max (hgt (K83.nd1 v)) (eW (ns.map K83.nd1))<=1;omega
theorem any_nd(ns:List (List Int))(v:List Int):((ns.map K83.nd1).any fun d=>eqD d (K83.nd1 v))=decide (v∈ns):=by
 rw[nq,cb,bp,decide_eq_true_eq];constructor
 ·rintro⟨x,hx,e⟩
  have :x=v:=by
   have e:eqD (K83.nd1 x) (K83.nd1 v)=true:=e;rw[yg]at e;exact of_decide_eq_true e
  exact this▸hx
 ·intro h
  refine⟨v,h,?_⟩;show eqD (K83.nd1 v) (K83.nd1 v)=true;rw[yg,decide_eq_true rfl]
theorem HD{p:Addr}{us:List V}{ns:List (List Int)}{x:V}{Q:VK}(h1:SqL K H p us)(h2:Paired (NdV K H) us ns)(h3:NdV K H x v)(q:Q (.bl (decide (v∈ns))) H):fZ K .In x (.ref p) H Q:=by
 obtain⟨r1,r2⟩:=xO h2;obtain⟨b,rfl,hb⟩:=h3;refine .inl (.inr ⟨p,us,_,K83.nd1 v,rfl,h1,r2,⟨b,_,rfl,hb,eO.ints _⟩,r1,aT (tU ns) (by decide),?_⟩);rw[if_neg aE,any_nd];exact q
noncomputable def TrV(K:ah)(H:Hp)(v:V)(x:M8.Tri):Prop:=∃c p q r,v=V.ref c/\SqT K H c [.ref p,.ref q,.ref r]/\SqT K H p (x.1.map V.int)/\SqT K H q (x.2.1.map V.int)/\SqT K H r (x.2.2.map V.int)
noncomputable def unB(ns:List (List Int))(ts:List (Nat×Int))(x:M8.Tri):List Int:=if x.1∈ns\/x.2.1∈ns then x.2.2.filter fun p=>decide (p∉ts.map fun q=>(q.1:Int))else[]
noncomputable def spUp(K:ah):Sp:=fun vs H Q _=>∃(b a l:Addr)(bs us zs:List V)(xs:List M8.Tri)(ns:List (List Int))(ts:List (Nat×Int)),vs=[.ref b,.ref a,.ref l]/\SqL K H b bs/\Paired (TrV K H) bs xs/\xs.length<=40/\(∀x∈xs,x.2.2.length<=40)/\SqL K H a us/\Paired (NdV K H) us ns/\Tls H l zs ts/\ts.length<=40/\
 ∀H' f,aO H H'->H f=none->H' f=some (.lst ((xs.flatMap (unB ns ts)).map V.int))->Q (.ref f) H'
theorem Ac{α:Type}{g:α->List Int}:∀{xs:List α},(∀x∈xs,(g x).length<=m)->(xs.flatMap g).length<=xs.length*m
 | [],_=>aX _
 |x::xs,h=>by
  have h1:=h x aB;have h2:=Ac (xs:=xs) fun y hy=>h y (aJ _ hy);rw[sr,a9,bG,Nat.succ_mul];omega
theorem Cd(ns:List (List Int))(ts:List (Nat×Int))(x:M8.Tri):(unB ns ts x).length<=x.2.2.length:=by
 unfold unB;split
 ·exact dY _ _
 ·exact aX _
theorem wp_up:Sat G K (spUp K) kQ kF:=by
 rintro vs H Q E ⟨b,a,l,bs,us,zs,xs,ns,ts,rfl,hb,pb,x40,p40,ha,pn,d,t40,q⟩;have zl:zs.length=ts.length:=K83.iC d.pr;have bl:bs.length=xs.length:=K83.iC pb;unfold kQ;change wpB G K _ _ _ [some (.ref b),some (.ref a),some (.ref l),none,none,none,none,none] H;walk_at "wp";refine cM (bQ rfl (SqL.of d.hl) (c9 dj (eK (by omega)) (fun H1 s1=>SqL.of (s1 _ _ d.hl)) (fun i v _=>v=.int (((ts.map (·.1)).getD i 0:Nat):Int)) (fun _ _ _ _ _ h=>h) (fun τ=>∃u w,τ=[u,w]) ⟨none,none,rfl⟩ ?_ ?_))
 ·rintro i x τ H4 R hi ⟨u,w,rfl⟩ s4 hx k
  obtain⟨q',hq,c,rfl,hc⟩:=jt d.pr hx;refine⟨c,_,rfl,SqT.of (s4 _ _ hc),rfl,_,_,rfl,_,_,rfl,rfl,_,rfl,k _ _ _ ⟨_,_,rfl⟩ (aO.refl _) ?_⟩;rw[af,ao,hq];rfl
 intro vs H1 tl hvl hF s1 htl;have e4:vs=(ts.map fun q=>(q.1:Int)).map V.int:=by
  rw[aY];apply bR
  ·rw[hvl,ai,zl]
  ·intro i h1 h2
   rw[hF i _ (aa h1),bo,af,ao,aa (by rw[ai]at h2;exact h2)];rfl
 subst e4;have s2:=s1.trans (aC (o:=.lst ((ts.map fun q=>(q.1:Int)).map V.int)) htl);have et:upd H1 tl (.lst ((ts.map fun q=>(q.1:Int)).map V.int)) tl=some (.lst ((ts.map fun q=>(q.1:Int)).map V.int)):=ax;generalize upd H1 tl (.lst ((ts.map fun q=>(q.1:Int)).map V.int))=H2 at s2 et;unfold jy;walk_at "wp";refine⟨aX _,fun f hf=>?_⟩;have s3:=aC (o:=.lst []) hf;have n0:H f=none:=s2.free hf;unfold jx;walk_at "wp";refine iT (bQ rfl ((s2.trans s3).seq hb) (hJ dj (fun i σ H'=>aO H2 H'/\H' f=some (.lst (((xs.take i).flatMap (unB ns ts)).map V.int))/\∃u v w,σ=[some (.ref b),some (.ref a),some (.ref l),some (.ref tl),some (.ref f),u,v,w])
  ⟨s3,ax,_,_,_,rfl⟩ (fun i σ H' _ s=>(s2.trans s.1).seq hb) ?_ ?_))
 ·rintro i y σ H3 H4 D2 hi ⟨s4,hf4,u,v,w,rfl⟩ hy s5 hD _
  obtain⟨x,hx,c,p,q',r,rfl,hc,hp,hq,hr⟩:=jt pb hy;have hx40:=p40 x (aI hx);have s6:=s2.trans (s4.trans s5);have hf5:=s5 _ _ hf4;have ex:xs.take (i+1)=xs.take i++[x]:=by rw[dk,hx];rfl
  refine⟨c,_,rfl,s6.tup hc,rfl,_,_,rfl,_,_,rfl,_,_,rfl,rfl,?_⟩;have pn6:=Paired.qt pn fun _ _ h=>h.same s6;have no:¬(x.1∈ns\/x.2.1∈ns)->D2.nx [some (.ref b),some (.ref a),some (.ref l),some (.ref tl),some (.ref f),some (.ref p),some (.ref q'),some (.ref r)] H4:=fun z=>by
   refine hD _ _ ⟨s4.trans s5,?_,_,_,_,rfl⟩;rw[ex,Jl,sr,List.flatMap_nil,jD,show unB ns ts x=[]from if_neg z,jD];exact hf5
  have yes:x.1∈ns\/x.2.1∈ns->tyV K "list" (V.ref f) H4/\qN (zY K (lV 7)) (kM 0) (sI (tOp (fZ K .NotIn) (lV 0) (lV 1))) (lV 0) (i4 ["place"] [3]) [some (.ref b),some (.ref a),some (.ref l),some (.ref tl),some (.ref f),some (.ref p),some (.ref q'),some (.ref r)] H4 fun x H1=>rMm .extend (.ref f) [x] H1 fun x H1=>D2.nx [some (.ref b),some (.ref a),some (.ref l),some (.ref tl),some (.ref f),some (.ref p),some (.ref q'),some (.ref r)] H1:=fun z=>by
   refine⟨.inl ⟨rfl,_,SqL.of hf5⟩,?_⟩;refine cM (rq rfl (s6.tup hr) (m7 (ds:=x.2.2) (by rw[ai]) xm (eK (by rw[ai];omega)) (fun H1 s1=>s1.tup (s6.tup hr)) (fun m=>decide (m∉ts.map fun q=>(q.1:Int))) (fun _ m=>.int m) (fun τ=>∃u,τ=[u,some (.ref tl)]) ⟨none,rfl⟩ ?_ ?_))
   ·rintro j y m τ H5 Rt Rf hy hm ⟨u',rfl⟩ s7 kt kf
    rw[ao,hm]at hy;cases hy;walk_at "wp";refine .inr ⟨tl,_,rfl,.inl (SqL.of (s7 _ _ ((s4.trans s5) _ _ et))),rfl,kN _,_,rfl,?_⟩;rw[if_pos rfl,pk];by_cases c:m∈ts.map fun q=>(q.1:Int)
    ·rw[if_neg (by rw[decide_eq_true c];decide)]
     exact kf _ _ ⟨_,rfl⟩ (aO.refl _) (by simpa using c)
    ·rw[if_pos (by rw[decide_eq_false c];rfl)]
     exact kt _ _ ⟨_,rfl⟩ (aO.refl _) (by simpa using c)
   ·intro H5 l5 s7 hl5
    have e5:(((x.2.2.map V.int).zip x.2.2).filter fun p=>decide (p.2∉ts.map fun q=>(q.1:Int))).map (fun p=>V.int p.2)=(unB ns ts x).map V.int:=by
     unfold unB;rw[if_pos z];generalize x.2.2=L
     induction L with
     |nil=>rfl
     |cons m L ih=>
      rw[bA,eP,gF,gF];by_cases c:m∈ts.map fun q=>(q.1:Int)
      ·rw[if_neg (by simpa using c),if_neg (by simpa using c)]
       exact ih
      ·rw[if_pos (by simpa using c),if_pos (by simpa using c),bA,bA,ih]
    have hnf:f≠l5:=bH (s7 _ _ hf5) hl5;have hfl:((xs.take i).flatMap (unB ns ts)).length<=1600:=by
     have :=Ac (m:=40) (g:=unB ns ts) (xs:=xs.take i) fun y hy=>aT (Cd ns ts y) (p40 y (oH hy))
     rw[cR]at this;have :min i xs.length*40<=40*40:=Nat.mul_le_mul (by omega) (aA _);omega
    have hul:=Cd ns ts x;rw[e5];refine⟨f,l5,_,_,rfl,rfl,by rw[a7 hnf];exact s7 _ _ hf5,ax,?_,?_⟩
    ·rw[ai,ai]
     exact aT (by omega:_<=2000) (by decide)
    ·refine hD _ _ ⟨fG (fG ((s4.trans s5).trans s7) (((s4.trans s5).trans s7).free hl5)) hf,?_,_,_,_,rfl⟩
     rw[ax,ex,Jl,sr,List.flatMap_nil,jD,bZ]
  walk_at "wp"
  refine HD (s6.seq ha) pn6 ⟨p,rfl,s6.tup hp⟩ ⟨_,rfl,?_⟩;by_cases c1:x.1∈ns
  ·rw[if_pos (decide_eq_true c1),if_pos trivial]
   exact yes (.inl c1)
  ·rw[if_neg (by simpa using c1)]
   refine HD (s6.seq ha) pn6 ⟨q',rfl,s6.tup hq⟩ ⟨_,rfl,?_⟩;by_cases c2:x.2.1∈ns
   ·rw[if_pos (decide_eq_true c2)]
    exact yes (.inr c2)
   ·rw[if_neg (by simpa using c2)]
    exact no fun z=>z.elim c1 c2
 ·rintro σ H3 ⟨s4,hf4,u,v,w,rfl⟩
  unfold jw;walk_at "wp";rw[bl,d7]at hf4;exact q _ _ (s2.trans s4) n0 hf4
noncomputable def stn(rows:List (List Int))(n:Nat)(ts:List (Nat×Int)):List (List Int):=(M8.ze (M8.nds rows n)).filter (rdT ts)
noncomputable def unk(rows:List (List Int))(n:Nat)(ts:List (Nat×Int)):List Int:=(M8.uZ (M8.trs rows n)).flatMap (unB (stn rows n ts) ts)
noncomputable def knw(rows:List (List Int))(n:Nat)(ts:List (Nat×Int)):List V:=(aw n).map fun p:Nat=>if(p:Int)∈unk rows n ts then .non else .int (((stn rows n ts).headD []).getD p 0)
theorem sU:∀{ns:List (List Int)}{us:List V},eO K H (ns.map K83.nd1) us->Paired (NdV K H) us ns
 | [],us,h=>by
  obtain rfl:us=[]:=h;exact .nil
 |v::ns,us,h=>by
  obtain⟨x,r,rfl,h1,h2⟩:=h;exact .cons (xP h1) (sU h2)
theorem zr:∀{xs:List M8.Tri}{us:List V},eO K H (xs.map M8.triD) us->Paired (TrV K H) us xs
 | [],us,h=>by
  obtain rfl:us=[]:=h;exact .nil
 |v::xs,us,h=>by
  obtain⟨x,r,rfl,⟨c,cs,rfl,hc,_,_,rfl,h1,_,_,rfl,h2,_,_,rfl,h3,rfl⟩,h4⟩:=h;obtain⟨p,rfl,hp⟩:=xP h1;obtain⟨q,rfl,hq⟩:=xP h2;obtain⟨r',rfl,hr⟩:=xP h3;exact .cons ⟨c,p,q,r',rfl,hc,hp,hq,hr⟩ (zr h4)
theorem plc_len(n:Nat)(P:Nat->Bool):(M5.plc n P).length<=n:=by
 unfold M5.plc;rw[ai];exact aT (dY _ _) (by rw[ba];exact aA _)
theorem stn_len(t:M7.Tbl rows n)(h:v∈stn rows n ts):M7.Fits rows n v/\rdT ts v=true:=by
 obtain⟨h1,h2⟩:=aN.mp h;exact⟨(M8.gX t).mp ((M9.oQ (M8.mi t)).mem_iff.mp h1),h2⟩
noncomputable def spFr(K:ah)(T:Tb):Sp:=fun vs H Q _=>∃(t l:Addr)(nf:Nat->Str)(n:Nat)(ys zs:List V)(rows:List (List Int))(ts:List (Nat×Int)),vs=[.ref t,.ref l]/\Tn H t nf n ys rows/\ys≠[]/\Tab T H/\Tls H l zs ts/\Vt n ts/\stn rows n ts≠[]/\
 ∀H' p,Gr T H H'->H' p=some (.tup (knw rows n ts))->Q (.ref p) H'
theorem wp_fr{T:Tb}(g1:G.fn "need_tellings" 2=some (spNt K,[]))(g2:G.fn "tree" 1=some (K83.sO T,[]))(g3:G.fn "told_nodes" 2=some (spTn K,[]))(g4:G.fn "unknown_places" 3=some (spUp K,[])):
  Sat G K (spFr K T) pQ pd:=by
 rintro vs H Q E ⟨t,l,nf,n,ys,zs,rows,ts,rfl,d,ne,tb,tl,v,ns,q⟩;have n10:=d.n10;have tbl:=d.tbl ne;unfold pQ;change wpB G K _ _ _ [some (.ref t),some (.ref l),none,none,none] H;walk_at "wp";refine⟨_,_,g1,t,l,nf,n,ys,zs,rows,ts,rfl,d,ne,tl,v,fun H1 s1=>?_⟩;have d1:=d.same s1;have tb1:=(Gr.of (T:=T) s1).tab tb;have tl1:=tl.same s1;unfold mR;walk_at "wp";refine⟨_,_,g2,FN (K:=K) (E:=fun _=>E) d1 tb1 (fun H2 p gr _ rp=>?_) []⟩;rw[if_neg ne]at rp;unfold M9.trD at rp;obtain⟨_,_,e,hp,_,_,rfl,⟨nl,nys,rfl,hnl,rn⟩,_,_,rfl,⟨bl,bys,rfl,hbl,rb⟩,rfl⟩:=rp;cases e;have pn:=sU rn;have pb:=zr rb;have pmn:=M9.oQ (M8.mi tbl);have pmt:=M9.oP (M8.nY tbl);have nlen:(M8.ze (M8.nds rows n)).length<=11:=by
  have :=M9.CU rows n
  rw[pmn.length_eq];omega
 have tlen:(M8.uZ (M8.trs rows n)).length<=10:=by
  have :=M9.trs_len rows n
  rw[pmt.length_eq];omega
 have tl2:=tl1.gr gr tb1;unfold mQ;walk_at "wp";refine⟨_,_,g3,.inr (.inl ⟨p,_,0,_,rfl,rfl,hp,rfl,nl,l,n,nys,zs,_,ts,rfl,hnl,pn,(fun u hu=>((M8.gX tbl).mp (pmn.mem_iff.mp hu)).1.1),by omega,by omega,tl2,v,ns,fun H3 l1 ws s3 n1 h1 pw=>?_⟩)⟩;have vl:=v.len;unfold mP;walk_at "wp";refine⟨_,_,g4,.inr (.inl ⟨p,_,1,_,rfl,rfl,s3.tup hp,rfl,bl,l1,l,bys,ws,zs,_,_,ts,rfl,s3.seq hbl,(Paired.qt pb fun _ _ ⟨c,p,q,r,e,h1,h2,h3,h4⟩=>⟨c,p,q,r,e,s3.tup h1,s3.tup h2,s3.tup h3,s3.tup h4⟩),by omega,(fun x hx=>?_),SqL.of h1,pw,tl2.same s3,by omega,fun H4 f s4 n4 h4=>?_⟩)⟩
 ·obtain⟨j,_,_,rfl⟩:=(M8.jL tbl).mp (pmt.mem_iff.mp hx)
  exact aT (plc_len _ _) (by omega)
 have h4:H4 f=some (.lst ((unk rows n ts).map V.int)):=h4;have gr4:Gr T H H4:=(Gr.of (T:=T) s1).trans (gr.trans (Gr.of (s3.trans s4)));have h14:=s4 _ _ h1;obtain⟨v0,hv0⟩:∃v0,(stn rows n ts)[0]? =some v0:=by
  cases c:stn rows n ts with
  |nil=>exact absurd c ns
  |cons a r=>exact⟨a,rfl⟩
 have wl:0<ws.length:=by
  rw[K83.iC pw];exact(aH.mp hv0).1
 obtain⟨v1,hv1,b0,eb,hb⟩:=jt pw (aa wl);have ev:v1=v0:=bg (hv1.symm.trans hv0);subst ev;have lv:v1.length=n:=(stn_len tbl (aI hv0)).1.1.1;have hd0:(stn rows n ts).headD []=v1:=by
  cases c:stn rows n ts with
  |nil=>exact absurd c ns
  |cons a r=>rw[c]at hv0;cases hv0;rfl
 unfold mO;walk_at "wp";refine cM ?_;simp only[BN];walk_at "wp";refine .inl ⟨l1,_,0,_,rfl,rfl,SqL.of h14,(cX (j:=0) (by rw[aa wl,eb]):atI ws ((0:Nat):Int)=_),?_⟩;refine⟨b0,rfl,⟨_,s4.tup hb⟩,?_⟩;refine c9 vI (eK (by rw[ai];omega)) (fun H5 s5=>s5.tup (s4.tup hb)) (fun i w _=>w=if(i:Int)∈unk rows n ts then .non else .int (v1.getD i 0)) (fun _ _ _ _ _ h=>h) (fun τ=>∃u w,τ=[u,w,some (.ref f)]) ⟨none,none,rfl⟩ ?_ ?_
 ·rintro i x τ H5 R hi ⟨u,w,rfl⟩ s5 ⟨c,y,rfl,hc,hy⟩ k
  rw[ai]at hi;rw[fC hi]at hy;cases hy;refine⟨c,_,rfl,SqT.of hc,rfl,_,_,rfl,_,_,rfl,rfl,?_⟩;walk_at "wp";refine .inr ⟨f,_,rfl,.inl (SqL.of (s5 _ _ h4)),rfl,kN _,_,rfl,?_⟩;rw[if_neg aE,pk];by_cases z:(i:Int)∈unk rows n ts
  ·rw[if_pos (decide_eq_true z)]
   exact k _ _ _ ⟨_,_,rfl⟩ (aO.refl _) (if_pos z).symm
  ·rw[if_neg (by exact fun y=>z (of_decide_eq_true y))]
   exact k _ _ _ ⟨_,_,rfl⟩ (aO.refl _) (if_neg z).symm
 ·intro us H5 l5 hul hF s5 hl5
  have e:us=knw rows n ts:=by
   unfold knw;rw[hd0];exact K83.vals_eq (by rw[hul,ai,lv]) hF
  subst e;refine⟨l5,_,rfl,.inl ⟨SqL.of ax,fun p5 hp5=>?_⟩⟩;exact q _ p5 (gr4.trans (Gr.of ((s5.trans (aC hl5)).trans (aC hp5)))) ax
end K75
namespace K75
open PySem R
noncomputable def zC:List Str:=["node","other","known"]
noncomputable def qT:List Str:=["node","other","known"]
noncomputable def ri:CB:=
  (.cons (.ret (.bfn .all (.cons (.comp ["here","there","first"] [] (.tup (.cons (.name 0) (.cons (.name 1) (.cons (.name 2) .nil)))) (.zip3 (.var 0) (.var 1) (.var 2)) .no (.or (.cmp .Eq (.var 1) (.var 0)) (.cmp .Eq (.var 1) (.var 2)))) .nil)))
  .nil)
noncomputable def p_comes:List Str:=["copy","other","known"]
noncomputable def CZ:List Str:=["copy","other","known"]
noncomputable def wk:CB:=
  (.cons (.ret (.call "is_behind" (.cons (.idx (.var 0) (.con (.int 1))) (.cons (.idx (.var 1) (.con (.int 1))) (.cons (.var 2) .nil)))))
  .nil)
noncomputable def Dy:CB:=
  (.cons (.iff (.cmp .Eq (.idx (.var 0) (.con (.int 1))) (.idx (.var 1) (.con (.int 1))))
  (.cons (.ret (.cmp .Lt (.idx (.var 1) (.con (.int 0))) (.idx (.var 0) (.con (.int 0)))))
  .nil)
  .nil)
  wk)
noncomputable def zy:List Str:=["table","tellings"]
noncomputable def qQ:List Str:=["table","tellings","known","copies"]
noncomputable def nL:CB:=
  (.cons (.ret (.comp ["copy"] [2,3] (.name 0) (.seq (.var 3)) (.yes (.bfn .any (.cons (.comp ["other"] [0,1] (.name 0) (.seq (.var 2)) .no (.call "comes" (.cons (.var 1) (.cons (.var 0) (.cons (.var 2) .nil))))) .nil))) (.idx (.var 0) (.con (.int 0)))))
  .nil)
noncomputable def nM:CB:=
  (.cons (.asg (.name 3) (.call "table_list" (.cons (.var 0) .nil)))
  nL)
noncomputable def rf:CB:=
  (.cons (.asg (.name 2) (.call "first_read" (.cons (.var 0) (.cons (.var 1) .nil))))
  nM)
end K75
namespace K75
open PySem PySem.Spec PyProof.Rows L2 R Cp Lt Kc K21 K22 Lm M5 K32 K34
noncomputable def cps(nf:Nat->Str)(rows:List (List Int))(m:Nat):List (Str×List Int):=(aw m).map fun i=>(nf i,rows.getD i [])
noncomputable def sR(nf:Nat->Str)(rows:List (List Int))(m:Nat):List (Str×List Int):=_root_.Q.sortBy ("",[]) ((cps nf rows m).map (·.1)) (cps nf rows m)
noncomputable def CpV(H:Hp)(z:V)(r:Str×List Int):Prop:=∃b a,z=V.ref b/\H b=some (.tup [.str r.1,.ref a])/\H a=some (.tup (r.2.map V.int))
section
variable {H:Hp}{t:Addr}{nf:Nat->Str}{n:Nat}{ys:List V}{rows:List (List Int)}
theorem IS(d:Tn H t nf n ys rows):((cps nf rows ys.length).map (·.1)).Nodup:=by
 unfold cps;rw[aY,eQ,cS];refine dU.mpr fun i j hi hj hij z=>?_;rw[ba]at hi hj;rw[fO,fO]at z;exact absurd (d.inj i j hi hj z) (by omega)
theorem Ct(d:Tn H t nf n ys rows):(sR nf rows ys.length).Perm (cps nf rows ys.length):=_root_.Q.eF _ (IS d) (by simp)
theorem gV(d:Tn H t nf n ys rows){r:Str×List Int}:r∈sR nf rows ys.length↔∃i,i<ys.length/\r=(nf i,rows.getD i []):=by
 rw[(Ct d).mem_iff];unfold cps;rw[az];constructor
 ·rintro⟨i,hi,rfl⟩
  exact⟨i,aM.mp hi,rfl⟩
 ·rintro⟨i,hi,rfl⟩
  exact⟨i,aM.mpr hi,rfl⟩
theorem Bi(d:Tn H t nf n ys rows):(sR nf rows ys.length).length=ys.length:=by
 rw[(Ct d).length_eq];unfold cps;rw[ai,ba]
theorem Ge(d:Tn H t nf n ys rows):((sR nf rows ys.length).map (·.1)).Pairwise fun a b=>_root_.Q.tlt a b=true:=by
 have h:=_root_.Q.mf (("",[]):Str×List Int) (·.1) (fun _=>true) (IS d);have ft:∀l:List (Str×List Int),l.filter (fun _=>true)=l:=fun l=>Jm.mpr fun _ _=>rfl;rw[ft,ft]at h;unfold sR;rw[h];exact _root_.Q.eV (IS d)
theorem IB(d:Tn H t nf n ys rows):ys.map (cd H)=(cps nf rows ys.length).map fun r=>(r.1,r.2.map V.int):=by
 apply bR
 ·unfold cps;simp
 ·intro i h1 h2
  rw[ai]at h1;obtain⟨b,r,e,hb,hr⟩:=d.row i ys[i] (aa h1);rw[bo,bo,e,xv hb hr];unfold cps;rw[bo,fO]
theorem rows_is(d:Tn H t nf n ys rows):rowsOf H (.ref t)=(sR nf rows ys.length).map fun r=>(r.1,r.2.map V.int):=by
 unfold rowsOf;rw[oO (show eB (H t)=some ys by rw[d.et];rfl)];rw[_root_.Q.sQ,IB d];unfold sR;rw[_root_.Q.sQ];have e:ys.map (aW H)=(cps nf rows ys.length).map (·.1):=by
  have :=congrArg (List.map Fu) (IB d)
  rw[aY,aY]at this;exact this
 rw[e];rfl
theorem tl_c{T:Tb}{Q:VK}{E:XK}(d:Tn H t nf n ys rows)(tb:Tab T H)(q:∀H' l zs,Gr T H H'->H l=none->H' l=some (.lst zs)->Paired (CpV H') zs (sR nf rows ys.length)->Q (.ref l) H'):qj C T [.ref t] H Q E:=by
 refine⟨.ref t,rfl,d.tab.1,tb,fun _ H' l zs gr nl hl cp=>q H' l zs gr nl hl ?_,fun z=>by(rw[d.tab.2.1]at z;cases z)⟩;have er:=rows_is d;unfold rowsOf at er;have el:(srt H (.ref t)).length=(sR nf rows ys.length).length:=by
  have :=congrArg jq er
  rwa [ai,ai]at this
 refine K34.GL (by rw[cp.1,el]) fun j z r e1 e2=>?_;obtain⟨b,a,rfl,h1,h2⟩:=cp.2 j z e1;have hj:j<(srt H (.ref t)).length:=by rw[el];exact(aH.mp e2).1
 have e3:((srt H (.ref t)).map (cd H))[j]? =some (r.1,r.2.map V.int):=by rw[er,ao,e2];rfl
 rw[ao,aa hj]at e3;have e4:cd H (srt H (.ref t))[j]=(r.1,r.2.map V.int):=bg e3;have e5:(srt H (.ref t)).getD j .non=(srt H (.ref t))[j]:=by rw[af,aa hj];rfl
 rw[e5]at h1 h2;have e6:=congrArg Fu e4;have e7:=congrArg Prod.snd e4;have e6:aW H (srt H (.ref t))[j]=r.1:=e6;have e7:oV H (srt H (.ref t))[j]=r.2.map V.int:=e7;rw[e6]at h1;rw[e7]at h2;exact⟨b,a,rfl,h1,h2⟩
end
noncomputable def bhd(x y:List Int)(ks:List V):Bool:=(aw x.length).all fun i=>decide (y.getD i 0=x.getD i 0)||decide (ks.getD i .non=.int (y.getD i 0))
noncomputable def Kd(k:V):Prop:=k=.non\/∃i:Int,k=.int i
noncomputable def spIb(K:ah):Sp:=fun vs H Q _=>∃(a b c:Addr)(x y:List Int)(ks:List V),vs=[.ref a,.ref b,.ref c]/\SqT K H a (x.map V.int)/\SqT K H b (y.map V.int)/\SqT K H c ks/\y.length=x.length/\ks.length=x.length/\x.length<=60/\(∀k∈ks,Kd k)/\∀H',aO H H'->Q (.bl (bhd x y ks)) H'
theorem Ga(h1:ys.length=xs.length)(h2:zs.length=xs.length):qF (Itz3 K a b c) xs.length (fun i v H=>∃p x y z,v=.ref p/\H p=some (.tup [x,y,z])/\xs[i]? =some x/\ys[i]? =some y/\zs[i]? =some z) (fun H=>SqT K H a xs/\SqT K H b ys/\SqT K H c zs) where
 go:=fun i H h hi=>⟨xs,ys,zs,xs[i],ys[i]'(by omega),zs[i]'(by omega),h.1,h.2.1,h.2.2,aa _,aa _,aa _⟩
 stop:=fun i H h hi=>⟨xs,h.1,hi⟩
 yld:=fun i H v H' h hi y=>by
  obtain⟨p,x,y,z,hp,e,ev,y1,y2,y3⟩:=y;subst e ev;exact⟨⟨p,x,y,z,rfl,ax,y1 _ h.1,y2 _ h.2.1,y3 _ h.2.2⟩,aC hp⟩
theorem eq_kd{i:Int}{k:V}{Q:VK}(h:Kd k)(q:Q (.bl (decide (k=.int i))) H):fZ K .Eq (.int i) k H Q:=by
 rcases h with rfl|⟨j,rfl⟩
 ·refine⟨.int i,.non,rfl,rfl,aX _,?_⟩
  rw[decide_eq_false (by intro z;cases z)]at q;exact q
 ·refine my.mpr ?_
  rw[show decide (i=j)=decide (V.int j=V.int i) by rw[cb,decide_eq_true_eq,decide_eq_true_eq];exact⟨fun z=>by rw[z],fun z=>(V.int.inj z).symm⟩];exact q
theorem wp_ib:Sat G K (spIb K) ri qT:=by
 rintro vs H Q E ⟨a,b,c,x,y,ks,rfl,ha,hb,hc,l1,l2,l60,kd,q⟩;unfold ri;change wpB G K _ _ _ [some (.ref a),some (.ref b),some (.ref c)] H;walk_at "wp";refine cM ⟨_,rfl,_,rfl,_,rfl,a,b,c,rfl,⟨_,ha⟩,⟨_,hb⟩,⟨_,hc⟩,?_⟩;refine c9 (Ga (xs:=x.map V.int) (ys:=y.map V.int) (zs:=ks) (by simp[l1]) (by simp[l2])) (eK (by rw[ai];omega)) (fun H1 s1=>⟨s1.tup ha,s1.tup hb,s1.tup hc⟩) (fun i v _=>v=.bl (decide (y.getD i 0=x.getD i 0)||decide (ks.getD i .non=.int (y.getD i 0)))) (fun _ _ _ _ _ h=>h) (fun τ=>∃u v w,τ=[u,v,w]) ⟨none,none,none,rfl⟩ ?_ ?_
 ·rintro i z τ H3 R hi ⟨u,v,w,rfl⟩ s3 ⟨p,x1,y1,k1,rfl,hp,hx,hy,hk⟩ kk
  rw[ai]at hi;rw[fC hi]at hx;rw[fC (by omega)]at hy;cases hx;cases hy;have ek:ks.getD i .non=k1:=getD_some hk;refine⟨p,_,rfl,SqT.of hp,rfl,_,_,rfl,_,_,rfl,_,_,rfl,rfl,?_⟩;walk_at "wp";by_cases z1:y.getD i 0=x.getD i 0
  ·rw[if_pos (decide_eq_true z1)]
   exact kk _ _ _ ⟨_,_,_,rfl⟩ (aO.refl _) (by rw[decide_eq_true z1];rfl)
  ·rw[if_neg (by simpa using z1)]
   refine eq_kd (kd k1 (aI hk)) (kk _ _ _ ⟨_,_,_,rfl⟩ (aO.refl _) ?_);rw[decide_eq_false z1,ek];rfl
 ·intro vs H2 l hvl hF s2 hl2
  have e:=bool_list hvl hF;subst e;refine⟨l,_,rfl,SqL.of ax,?_⟩;have er:(((aw (x.map V.int).length).map fun i=>decide (y.getD i 0=x.getD i 0)||decide (ks.getD i .non=.int (y.getD i 0))).all id)=bhd x y ks:=by
   unfold bhd;rw[sx,ai];rfl
  rw[er];exact q _ (s2.trans (aC hl2))
noncomputable def cmD(r o:Str×List Int)(ks:List V):Bool:=if r.2=o.2 then _root_.Q.tlt o.1 r.1 else bhd r.2 o.2 ks
noncomputable def CpT(K:ah)(H:Hp)(z:V)(r:Str×List Int):Prop:=∃b a,z=V.ref b/\SqT K H b [.str r.1,.ref a]/\SqT K H a (r.2.map V.int)
noncomputable def spCm(K:ah):Sp:=fun vs H Q _=>∃(v w:V)(c:Addr)(r o:Str×List Int)(ks:List V),vs=[v,w,.ref c]/\CpT K H v r/\CpT K H w o/\SqT K H c ks/\o.2.length=r.2.length/\ks.length=r.2.length/\r.2.length<=60/\(∀k∈ks,Kd k)/\∀H',aO H H'->Q (.bl (cmD r o ks)) H'
theorem wp_cm(g1:G.fn "is_behind" 3=some (spIb K,[])):Sat G K (spCm K) Dy CZ:=by
 rintro vs H Q E ⟨v,w,c,r,o,ks,rfl,⟨p,a,rfl,hp,ha⟩,⟨p',b,rfl,hp',hb⟩,hc,l1,l2,l60,kd,q⟩;unfold Dy;change wpB G K _ _ _ [some (.ref p),some (.ref p'),some (.ref c)] H;walk_at "wp";refine .inr (.inl ⟨p,_,1,_,rfl,rfl,hp,rfl,.inr (.inl ⟨p',_,1,_,rfl,rfl,hp',rfl,?_⟩)⟩);refine⟨K83.nd1 r.2,K83.nd1 o.2,⟨a,_,rfl,ha,eO.ints _⟩,⟨b,_,rfl,hb,eO.ints _⟩,?_,_,rfl,?_⟩
 ·show eW (r.2.map L2.D.int)+1<=30
  rw[kL];decide
 rw[yg];by_cases z:r.2=o.2
 ·rw[if_pos (decide_eq_true z)]
  refine .inr (.inl ⟨p',_,0,_,rfl,rfl,hp',rfl,.inr (.inl ⟨p,_,0,_,rfl,rfl,hp,rfl,.inr ⟨_,_,rfl,rfl,?_⟩⟩)⟩);have :=q H (aO.refl H);unfold cmD at this;rw[if_pos z]at this;exact this
 ·rw[if_neg (by simpa using z)]
  unfold wk;walk_at "wp";refine⟨_,_,g1,.inr (.inl ⟨p,_,1,_,rfl,rfl,hp,rfl,.inr (.inl ⟨p',_,1,_,rfl,rfl,hp',rfl,a,b,c,r.2,o.2,ks,rfl,ha,hb,hc,l1,l2,l60,kd,fun H1 s1=>?_⟩)⟩)⟩;have :=q H1 s1;unfold cmD at this;rw[if_neg z]at this;exact this
theorem wJ{α:Type}(t:α->Bool)(g:α->V):∀{ws:List V}{R:List α},ws.length=R.length->((ws.zip R).filter fun x=>t x.2).map (fun x=>g x.2)=(R.filter t).map g
 | [],[],_=>rfl
 |w::ws,r::R,h=>by
  have ih:=wJ t g (lR h);rw[eP,gF,gF];cases c:t r with
  |true=>
   rw[if_pos rfl,if_pos rfl,bA,bA,ih]
  |false=>
   rw[if_neg (by decide),if_neg (by decide)];exact ih
theorem knw_len(rows:List (List Int))(n:Nat)(ts:List (Nat×Int)):(knw rows n ts).length=n:=by unfold knw;rw[ai,ba]
theorem tO:∀k∈knw rows n ts,Kd k:=fun k hk=>by
 unfold knw at hk;obtain⟨p,_,rfl⟩:=az.mp hk;split
 ·exact .inl rfl
 ·exact .inr ⟨_,rfl⟩
noncomputable def asd(nf:Nat->Str)(rows:List (List Int))(m n:Nat)(ts:List (Nat×Int)):List (Str×List Int):=(sR nf rows m).filter fun r=>(sR nf rows m).any fun o=>cmD r o (knw rows n ts)
noncomputable def spSa(K:ah)(T:Tb):Sp:=fun vs H Q _=>∃(t l:Addr)(nf:Nat->Str)(n:Nat)(ys zs:List V)(rows:List (List Int))(ts:List (Nat×Int)),vs=[.ref t,.ref l]/\Tn H t nf n ys rows/\ys≠[]/\Tab T H/\Tls H l zs ts/\Vt n ts/\stn rows n ts≠[]/\
 ∀H' f,Gr T H H'->H' f=some (.lst ((asd nf rows ys.length n ts).map fun r=>V.str r.1))->Q (.ref f) H'
theorem wp_sa{T:Tb}(g1:G.fn "first_read" 2=some (spFr K T,[]))(g2:G.fn "table_list" 1=some (qj C T,[]))(g3:G.fn "comes" 3=some (spCm K,[])):
  Sat G K (spSa K T) rf qQ:=by
 rintro vs H Q E ⟨t,l,nf,n,ys,zs,rows,ts,rfl,d,ne,tb,tl,v,ns,q⟩;have n10:=d.n10;have yl:=d.len;unfold rf;change wpB G K _ _ _ [some (.ref t),some (.ref l),none,none] H;walk_at "wp";refine⟨_,_,g1,t,l,nf,n,ys,zs,rows,ts,rfl,d,ne,tb,tl,v,ns,fun H1 c gr1 hc=>?_⟩;have d1:=d.gr gr1 tb;have tb1:=gr1.tab tb;unfold nM;walk_at "wp";refine⟨_,_,g2,tl_c d1 tb1 fun H2 f ws gr2 nf2 hf pz=>?_⟩;have hc2:=gr2.sH tb1 hc;have wl:ws.length=ys.length:=by rw[K83.iC pz,Bi d]
 have rl:∀r∈sR nf rows ys.length,r.2.length=n:=fun r hr=>by
  obtain⟨i,hi,rfl⟩:=(gV d).mp hr;exact(d.rd _ (d.get hi)).1
 unfold nL;walk_at "wp";refine cM (bQ rfl (SqL.of hf) (m7 (K83.iC pz) dj (eK (by omega)) (fun H3 s3=>SqL.of (s3 _ _ hf)) (fun r=>(sR nf rows ys.length).any fun o=>cmD r o (knw rows n ts)) (fun _ r=>.str r.1) (fun τ=>∃u,τ=[u,some (.ref c),some (.ref f)]) ⟨none,rfl⟩ ?_ ?_))
 ·rintro i x r τ H3 Rt Rf hx hr ⟨u,rfl⟩ s3 kt kf
  obtain⟨r',hr',b,a,rfl,hb,ha⟩:=jt pz hx;rw[hr]at hr';cases hr';have l1:=rl r (aI hr);walk_at "wp";refine cM (bQ rfl (SqL.of (s3 _ _ hf)) (c9 dj (eK (by omega)) (fun H4 s4=>SqL.of (s4 _ _ (s3 _ _ hf))) (fun j w _=>w=.bl (cmD r ((sR nf rows ys.length).getD j ("",[])) (knw rows n ts))) (fun _ _ _ _ _ h=>h) (fun τ=>∃u,τ=[u,some (.ref b),some (.ref c)]) ⟨none,rfl⟩ ?_ ?_))
  ·rintro j y τ H4 R hj ⟨u',rfl⟩ s4 hy k
   obtain⟨o,ho,b',a',rfl,hb',ha'⟩:=jt pz hy;have l2:=rl o (aI ho);have s34:=s3.trans s4;walk_at "wp";refine⟨_,_,g3,.ref b,.ref b',c,r,o,_,rfl,⟨b,a,rfl,SqT.of (s34 _ _ hb),SqT.of (s34 _ _ ha)⟩,⟨b',a',rfl,SqT.of (s34 _ _ hb'),SqT.of (s34 _ _ ha')⟩,SqT.of (s34 _ _ hc2),by rw[l1,l2],by rw[knw_len,l1],by omega,tO,fun H5 s5=>k _ _ _ ⟨_,rfl⟩ s5 ?_⟩;rw[getD_some ho]
  ·intro bs H4 l4 hbl hF s4 hl4
   have e:=bool_list hbl hF;subst e;refine⟨l4,_,rfl,SqL.of ax,_,rfl,?_⟩;have er:(((aw ws.length).map fun j=>cmD r ((sR nf rows ys.length).getD j ("",[])) (knw rows n ts)).any id)=(sR nf rows ys.length).any fun o=>cmD r o (knw rows n ts):=by
    rw[wl];have e1:=Bi d;generalize sR nf rows ys.length=R at e1;rw[<-e1,nq,cb,bp,bp];constructor
    ·rintro⟨j,hj,h⟩
     have hj:=aM.mp hj;refine⟨_,bx hj,?_⟩;have h:cmD r (R.getD j ("",[])) (knw rows n ts)=true:=h
     rwa [getD_some (aa hj)]at h
    ·rintro⟨o,ho,h⟩
     obtain⟨j,hj,rfl⟩:=cD.mp ho;refine⟨j,aM.mpr hj,?_⟩;show cmD r (R.getD j ("",[])) (knw rows n ts)=true;rw[getD_some (aa hj)];exact h
   rw[er];have s5:=s4.trans (aC (o:=.lst (((aw ws.length).map fun j=>cmD r ((sR nf rows ys.length).getD j ("",[])) (knw rows n ts)).map V.bl)) hl4);cases z:(sR nf rows ys.length).any fun o=>cmD r o (knw rows n ts)with
   |true=>
    rw[if_pos rfl];exact .inr (.inl ⟨b,_,0,_,rfl,rfl,SqT.of ((s3.trans s5) _ _ hb),rfl,kt _ _ ⟨_,rfl⟩ s5 z⟩)
   |false=>
    rw[if_neg (by decide)];exact kf _ _ ⟨_,rfl⟩ s5 z
 ·intro H3 p s3 hp
  have e:=wJ (fun r=>(sR nf rows ys.length).any fun o=>cmD r o (knw rows n ts)) (fun r=>V.str r.1) (K83.iC pz);refine q _ p (gr1.trans (gr2.trans (Gr.of (s3.trans (aC hp))))) ?_;rw[ax,e];rfl
end K75
namespace K76
open PySem R
noncomputable def G3:List Str:=["table","tellings"]
noncomputable def zL:List Str:=["table","tellings"]
noncomputable def uo:CB:=
  (.cons (.ret (.call "told_nodes" (.cons (.idx (.call "tree" (.cons (.var 0) .nil)) (.con (.int 0))) (.cons (.var 1) .nil))))
  .nil)
noncomputable def Aq:CB:=
  (.cons (.expr (.call "need_tellings" (.cons (.var 0) (.cons (.var 1) .nil))))
  uo)
end K76
namespace K76
open PySem PySem.Spec PyProof.Rows L2 R Cp Lt Kc K21 K22 Lm M5 K32 K34 K75
noncomputable def spSt(K:ah)(T:Tb):Sp:=fun vs H Q _=>∃(t l:Addr)(nf:Nat->Str)(n:Nat)(ys zs:List V)(rows:List (List Int))(ts:List (Nat×Int)),vs=[.ref t,.ref l]/\Tn H t nf n ys rows/\ys≠[]/\Tab T H/\Tls H l zs ts/\Vt n ts/\stn rows n ts≠[]/\
 ∀H' f ws,Gr T H H'->H' f=some (.lst ws)->Paired (NdV K H') ws (stn rows n ts)->Q (.ref f) H'
theorem wp_st{T:Tb}(g1:G.fn "need_tellings" 2=some (spNt K,[]))(g2:G.fn "tree" 1=some (K83.sO T,[]))(g3:G.fn "told_nodes" 2=some (spTn K,[])):
  Sat G K (spSt K T) Aq zL:=by
 rintro vs H Q E ⟨t,l,nf,n,ys,zs,rows,ts,rfl,d,ne,tb,tl,v,ns,q⟩;have n10:=d.n10;have tbl:=d.tbl ne;unfold Aq;change wpB G K _ _ _ [some (.ref t),some (.ref l)] H;walk_at "wp";refine⟨_,_,g1,t,l,nf,n,ys,zs,rows,ts,rfl,d,ne,tl,v,fun H1 s1=>?_⟩;have tb1:=(Gr.of (T:=T) s1).tab tb;unfold uo;walk_at "wp";refine⟨_,_,g3,_,_,g2,FN (K:=K) (E:=fun _=>E) (d.same s1) tb1 (fun H2 p gr _ rp=>?_) []⟩;rw[if_neg ne]at rp;unfold M9.trD at rp;obtain⟨_,_,e,hp,_,_,rfl,⟨nl,nys,rfl,hnl,rn⟩,_,_,rfl,_,rfl⟩:=rp;cases e;have pmn:=M9.oQ (M8.mi tbl);have nlen:(M8.ze (M8.nds rows n)).length<=11:=by
  have :=M9.CU rows n
  rw[pmn.length_eq];omega
 exact .inr (.inl ⟨p,_,0,_,rfl,rfl,hp,rfl,nl,l,n,nys,zs,_,ts,rfl,hnl,sU rn,(fun u hu=>((M8.gX tbl).mp (pmn.mem_iff.mp hu)).1.1),by omega,by omega,(tl.same s1).gr gr tb1,v,ns,fun H3 l1 ws s3 _ h1 pw=>q H3 l1 ws ((Gr.of (T:=T) s1).trans (gr.trans (Gr.of s3))) h1 pw⟩)
end K76
namespace K75
open PySem PySem.Spec PyProof.Rows L2 R Cp Lt Kc K21 K22 Lm M5 K32 K34
section
variable {rows:List (List Int)}{n:Nat}{ts:List (Nat×Int)}
theorem HR(t:M7.Tbl rows n)(h:v∈rows):M7.Fits rows n v:=⟨t.ok v h,fun i j _ _=>⟨v,h,rfl,rfl⟩⟩
theorem gE(t:M7.Tbl rows n):v∈stn rows n ts↔M7.Fits rows n v/\rdT ts v=true:=by
 unfold stn;rw[aN,(M9.oQ (M8.mi t)).mem_iff,M8.gX t]
theorem unk_mem(t:M7.Tbl rows n)(hp:p<n):(p:Int)∈unk rows n ts->p∉ts.map (·.1):=by
 intro h z;unfold unk at h;obtain⟨x,_,hx⟩:=l8.mp h;unfold unB at hx;split at hx
 ·obtain⟨_,h2⟩:=aN.mp hx
  obtain⟨q,hq,e⟩:=az.mp z;exact of_decide_eq_true h2 (az.mpr ⟨q,hq,by rw[e]⟩)
 ·cases hx
theorem unk_of(t:M7.Tbl rows n)(hp:p<n)(hz:grp rows p≠0)(hb:M7.below rows n p∈stn rows n ts)(ht:p∉ts.map (·.1)):(p:Int)∈unk rows n ts:=by
 unfold unk;have hx:M8.tri rows n p∈M8.uZ (M8.trs rows n):=(M9.oP (M8.nY t)).mem_iff.mpr ((M8.jL t).mpr ⟨p,hp,hz,rfl⟩);refine l8.mpr ⟨_,hx,?_⟩;have hc:(M8.tri rows n p).1∈stn rows n ts\/(M8.tri rows n p).2.1∈stn rows n ts:=by
  have ne:=M7.pD t hp;have tr:=_root_.Q.gZ ne;unfold M8.tri M4.lo M4.hi;dsimp only;cases c:_root_.Q.llt (M7.below rows n p) (M7.gg rows n p)with
  |true=>rw[if_pos rfl];exact .inl hb
  |false=>
   rw[c]at tr;have tr:_root_.Q.llt (M7.gg rows n p) (M7.below rows n p)=true:=tr;rw[tr,if_neg (by decide),if_pos rfl];exact .inr hb
 unfold unB;rw[if_pos hc];refine aN.mpr ⟨?_,decide_eq_true fun z=>?_⟩
 ·exact(M5.jO hp).mpr (by unfold M5.own;simp)
 ·obtain⟨q,hq,e⟩:=az.mp z
  exact ht (az.mpr ⟨q,hq,by omega⟩)
theorem xX(h:p<n):(knw rows n ts).getD p .non=if(p:Int)∈unk rows n ts then .non else .int (((stn rows n ts).headD []).getD p 0):=by
 unfold knw;rw[af,ao,bU h];rfl
end
theorem lq(a:Str):_root_.Q.tlt a a=false:=by
 rw[dH];exact fun h=>_root_.Q.mV h h
section
variable {R:List (Str×List Int)}(up:(R.map (·.1)).Pairwise fun a b=>_root_.Q.tlt a b=true)
include up
theorem up_at(hi:i<R.length)(hj:j<R.length):_root_.Q.tlt R[i].1 R[j].1=true↔i<j:=by
 have h:∀{i j:Nat}(hi:i<R.length)(hj:j<R.length),i<j->_root_.Q.tlt R[i].1 R[j].1=true:=fun{i j} hi hj hij=>by
  have :=dU.mp up i j (by simpa using hi) (by simpa using hj) hij
  rwa [bo,bo]at this
 constructor
 ·intro z
  rcases Nat.lt_trichotomy i j with c|c|c
  ·exact c
  ·subst c
   rw[lq]at z;cases z
  ·exact(_root_.Q.mV z (h hj hi c)).elim
 ·exact h hi hj
theorem Es{r o:Str×List Int}(hr:r∈R)(ho:o∈R)(e:r.1=o.1):r=o:=by
 obtain⟨i,hi,rfl⟩:=cD.mp hr;obtain⟨j,hj,rfl⟩:=cD.mp ho;rcases Nat.lt_trichotomy i j with c|c|c
 ·have :=(up_at up hi hj).mpr c
  rw[e,lq]at this;cases this
 ·subst c;rfl
 ·have :=(up_at up hj hi).mpr c
  rw[e,lq]at this;cases this
end
end K75
namespace K76
open PySem PySem.Spec PyProof.Rows L2 R Cp Lt Kc K21 K22 Lm M5 K32 K34 K75
section
variable {rows:List (List Int)}{n:Nat}{ts ts':List (Nat×Int)}
theorem CD{w:List Int}(h:rdT ts w=true){q:Nat×Int}(hq:q∈ts):w.getD q.1 0=q.2:=of_decide_eq_true (bC.mp h q hq)
theorem agree(t:M7.Tbl rows n)(vt:Vt n ts)(hp:p<n){u:List Int}(hu:u∈stn rows n ts)(hv:v∈stn rows n ts)(h:(p:Int)∉unk rows n ts):u.getD p 0=v.getD p 0:=by
 obtain⟨fu,ru⟩:=(gE t).mp hu;obtain⟨fv,rv⟩:=(gE t).mp hv;apply aF;intro hne;obtain⟨r1,hr1,e1,_⟩:=fu.2 p p hp hp;obtain⟨r2,hr2,e2,_⟩:=fv.2 p p hp hp;have hz:grp rows p≠0:=(M9.gT t).mpr ⟨r1,hr1,r2,hr2,by rw[e1,e2];exact hne⟩;refine h (unk_of t hp hz ((gE t).mpr ⟨M7.oh t hz,bC.mpr fun q hq=>decide_eq_true ?_⟩) fun z=>?_)
 ·have hqn:=(vt.ok q hq).1
  have u1:=CD ru hq;have v1:=CD rv hq;obtain⟨r3,hr3,a1,a2⟩:=fu.2 p q.1 hp hqn;obtain⟨r4,hr4,b1,b2⟩:=fv.2 p q.1 hp hqn;have c:¬M7.Cls rows p q.1:=fun c=>hne (by rw[<-a1,<-b1];exact(c r3 hr3 r4 hr4).mpr (by rw[a2,b2,u1,v1]));obtain⟨r,hr,s,hs,d,h1,h2⟩:=M7.tZ t hz c;have hb:(M7.below rows n p).getD q.1 0=if M4.sub (grp rows) (grp rows p) q.1=true then 1-fr rows q.1 else fr rows q.1:=M7.gN hqn
  rw[<-hb]at h1 h2;obtain⟨a,b,ha,hb',k⟩:=t.mis' (i:=p) (j:=q.1) (fun e=>c (by rw[<-e];exact fun _ _ _ _=>Iff.rfl)) hp hqn;apply aF;intro hw;by_cases e:b=q.2
  ·rcases M7.two (fu.1.at p) (fv.1.at p) ha hne with e'|e'
   ·exact k r3 hr3 ⟨by rw[a1,e'],by rw[a2,u1,e]⟩
   ·exact k r4 hr4 ⟨by rw[b1,e'],by rw[b2,v1,e]⟩
  ·have e3:(M7.below rows n p).getD q.1 0=b:=by
    have w01:=(M7.oh t hz).1.at q.1;have q01:=(vt.ok q hq).2;rcases w01 with w|w<;>rcases q01 with x|x<;>rcases hb' with y|y<;>omega
   rcases M7.two ((t.ok r hr).at p) ((t.ok s hs).at p) ha d with e'|e'
   ·exact k r hr ⟨e',by rw[h1,e3]⟩
   ·exact k s hs ⟨e',by rw[h2,e3]⟩
 ·obtain⟨q,hq,e⟩:=az.mp z
  have e:q.1=p:=e;exact hne (by rw[<-e,CD ru hq,CD rv hq])
theorem head_mem{α:Type}{d:α}{l:List α}(h:l≠[]):l.headD d∈l:=by
 cases l with
 |nil=>exact absurd rfl h
 |cons a r=>exact aB
theorem FR(t:M7.Tbl rows n)(hv:v∈rows)(h:∀q∈ts,q.2=v.getD q.1 0):v∈stn rows n ts:=(gE t).mpr ⟨HR t hv,bC.mpr fun q hq=>decide_eq_true (h q hq).symm⟩
theorem Vt.snoc(vt:Vt n ts){q:Nat×Int}(h:q.1<n)(h01:q.2=0\/q.2=1)(nw:q.1∉ts.map (·.1)):Vt n (ts++[q]):=by
 refine⟨fun x hx=>?_,?_⟩
 ·rcases bc.mp hx with a|a
  ·exact vt.ok x a
  ·rw[aD.mp a];exact⟨h,h01⟩
 ·rw[bZ,cC]
  refine⟨vt.nd,by simp,fun a ha b hb e=>?_⟩;rw[List.map_singleton,aD]at hb;exact nw (by rw[<-hb,<-e];exact ha)
end
end K76
namespace K74
open PySem R
noncomputable def sZ:List Str:=["_law_cell","_law_nodes","_law_many"]
noncomputable def mm:List Str:=["_law_cell","_law_nodes","_law_many","_law_draw_here","_law_node","_law_tellings_here","_law_k","_law_place"]
noncomputable def kR:CB:=
  (.cons (.ret (.var 5))
  .nil)
noncomputable def gJ:CB:=
  (.cons (.iff (.and (.cmp .Gt (.var 2) (.con (.int 0))) (.cmp .NotIn (.var 7) (.comp ["_law_one","_law_elder"] [] (.tup (.cons (.name 0) (.cons (.name 1) .nil))) (.seq (.var 5)) .no (.var 0))))
  (.cons (.expr (.meth1 .append (.var 5) (.tup (.cons (.var 7) (.cons (.idx (.var 4) (.var 7)) .nil)))))
  .nil)
  .nil)
  .nil)
noncomputable def jz:CB:=
  (.cons (.iff (.cmp .Gt (.var 2) (.con (.int 0)))
  (.cons (.asg (.name 7) (.bin .Mod (.call "_law_draw" (.cons (.var 0) (.cons (.bin .Add (.con (.int 71)) (.var 6)) .nil))) (.var 2)))
  .nil)
  .nil)
  gJ)
noncomputable def kT:CB:=
  (.cons (.forr (.name 6) (.range1 (.bin .Mod (.bin .FloorDiv (.var 3) (.con (.int 20))) (.con (.int 5))))
  (.cons (.asg (.name 7) (.con (.int 0)))
  jz))
  kR)
noncomputable def kU:CB:=
  (.cons (.asg (.name 5) (.lst .nil))
  kT)
noncomputable def kW:CB:=
  (.cons (.asg (.name 4) (.idx (.var 1) (.bin .Mod (.var 3) (.bfn .len (.cons (.var 1) .nil)))))
  kU)
noncomputable def mG:CB:=
  (.cons (.asg (.name 3) (.call "_law_draw" (.cons (.var 0) (.cons (.con (.int 70)) .nil))))
  kW)
end K74
namespace K74
open PySem PySem.Spec PyProof.Rows L2 R Cp Lt Kc K21 K22 Lm M5 K32 K34 K75 K76
noncomputable def spTl(K:ah):Sp:=fun vs H Q _=>∃(c:Int)(nl:Addr)(n:Nat)(us:List V)(ns:List (List Int)),vs=[.int c,.ref nl,.int n]/\SqL K H nl us/\Paired (NdV K H) us ns/\us≠[]/\(∀v∈ns,M6.Ok n v)/\n<=10/\
 ∀H' l zs ts v,aO H H'->H' l=some (.lst zs)->Tls H' l zs ts->Vt n ts->v∈ns->(∀q∈ts,q.2=v.getD q.1 0)->Q (.ref l) H'
theorem wp_tl(g1:G.fn "_law_draw" 2=some (js,[])):Sat G K (spTl K) mG mm:=by
 rintro vs H Q E ⟨c,nl,n,us,ns,rfl,hnl,pn,une,ok,n10,q⟩;have ul:0<us.length:=dI.mpr une;unfold mG;change wpB G K _ _ _ [some (.int c),some (.ref nl),some (.int n),none,none,none,none,none] H;walk_at "wp";refine⟨_,_,g1,_,70,rfl,by decide,by decide,?_⟩;generalize K21.draw c 70=d;have h0:0<=d%(us.length:Int):=bE _ (by omega);have h1:d%(us.length:Int)<us.length:=bM _ (by omega);obtain⟨z,hz⟩:=cW h0;have hzl:z<us.length:=by omega
 obtain⟨v,hv,nv,enu,hnv⟩:=jt pn (aa hzl);have mv:v∈ns:=aI hv;have vo:=ok v mv;unfold kW;walk_at "wp";refine .inl ⟨nl,_,rfl,.inl hnl,xQ.mpr ⟨by omega,?_⟩⟩;rw[hz];refine .inl ⟨nl,_,z,_,rfl,rfl,hnl,cX (by rw[aa hzl,enu]),?_⟩;unfold kU;walk_at "wp";refine⟨aX _,fun l hl=>?_⟩;have s1:=aC (o:=.lst []) hl;have e1:upd H l (.lst []) l=some (.lst []):=ax;generalize upd H l (.lst [])=H1 at s1 e1;unfold kT;walk_at "wp";refine iT ?_;walk_at "wp";have b0:0<=d/20%5:=bE _ (by decide);have b1:d/20%5<5:=bM _ (by decide);refine⟨⟨by decide,by decide⟩,by decide,_,rfl,by omega,by omega,?_⟩;refine hJ dJ (fun i σ H'=>aO H H'/\∃zs ts x6 x7,Tls H' l zs ts/\Vt n ts/\ts.length<=i/\(∀q∈ts,q.2=v.getD q.1 0)/\σ=[some (.int c),some (.ref nl),some (.int n),some (.int d),some (.ref nv),some (.ref l),x6,x7])
  ⟨s1,[],[],_,_,⟨e1,.nil⟩,⟨(fun q hq=>nomatch hq),gw⟩,aA _,(fun q hq=>nomatch hq),rfl⟩ (fun _ _ _ _ _=>trivial) ?_ ?_
 ·rintro i x σ H2 H3 D2 hi ⟨s2,zs,ts,x6,x7,tl,vt,tln,rv,rfl⟩ rfl s3 hD2 _
  have s23:=s2.trans s3;have tl3:=tl.same s3;have zl:zs.length=ts.length:=K83.iC tl.pr;have tll:=vt.len;rw[eA];walk_at "wp";unfold jz;walk_at "wp";by_cases hn:0<n
  ·rw[if_pos (by simpa using hn)]
   refine⟨_,_,g1,_,_,rfl,by omega,by omega,xQ.mpr ⟨by omega,?_⟩⟩;generalize K21.draw c (71+(i:Int))=dr;have p0:0<=dr%(n:Int):=bE _ (by omega);have p1:dr%(n:Int)<n:=bM _ (by omega);obtain⟨p,hp⟩:=cW p0;rw[hp];have hpn:p<n:=by omega
   unfold gJ;walk_at "wp";rw[if_pos (by simpa using hn)];refine cM (bQ rfl (SqL.of tl3.hl) (c9 dj (eK (by omega)) (fun H4 s4=>SqL.of (s4 _ _ tl3.hl)) (fun j u _=>u=.int (((ts.map (·.1)).getD j 0:Nat):Int)) (fun _ _ _ _ _ h=>h) (fun τ=>∃u w,τ=[u,w]) ⟨none,none,rfl⟩ ?_ ?_))
   ·rintro j y τ H4 R hj ⟨u,w,rfl⟩ s4 hy kk
    obtain⟨q',hq,b,rfl,hb⟩:=jt tl3.pr hy;refine⟨b,_,rfl,SqT.of (s4 _ _ hb),rfl,_,_,rfl,_,_,rfl,rfl,_,rfl,kk _ _ _ ⟨_,_,rfl⟩ (aO.refl _) ?_⟩;rw[af,ao,hq];rfl
   intro fs H4 l4 hfl hF s4 hl4;have e4:fs=(ts.map fun q=>(q.1:Int)).map V.int:=by
    rw[aY];apply gd;intro j;by_cases hj:j<fs.length
    ·have :=hF j _ (aa hj)
     have hjt:j<ts.length:=by omega
     rw[aa hj,this,ao,aa hjt,af,ao,aa hjt];rfl
    ·rw[bK (by omega),bK (by rw[ai];omega)]
   have s5:=s4.trans (aC (o:=.lst fs) hl4);have e5:upd H4 l4 (.lst fs) l4=some (.lst fs):=ax;generalize upd H4 l4 (.lst fs)=H5 at s5 e5;have tl5:=tl3.same s5;have s25:=s23.trans s5;rw[e4]at e5;refine .inr ⟨l4,_,rfl,.inl (SqL.of e5),rfl,K32.kN _,?_⟩;rw[if_pos rfl,K32.pk];refine⟨_,rfl,?_⟩;by_cases hm:(p:Int)∈ts.map fun q=>(q.1:Int)
   ·rw[if_neg (by simpa using hm)]
    exact hD2 _ _ ⟨s25,zs,ts,_,_,tl5,vt,by omega,rv,rfl⟩
   ·rw[if_pos (by simpa using hm)]
    refine⟨.inl ⟨rfl,_,SqL.of tl5.hl⟩,.inr (.inl ⟨nv,_,p,_,rfl,rfl,s25.tup hnv,cX (fC (by have :=vo.1;omega)),by show 2<=sizeLine;decide,fun tp htp=>?_⟩)⟩;have s6:=aC (o:=.tup [.int p,.int (v.getD p 0)]) htp;have e6:upd H5 tp (.tup [.int p,.int (v.getD p 0)]) tp=some (.tup [.int p,.int (v.getD p 0)]):=ax;generalize upd H5 tp (.tup [.int p,.int (v.getD p 0)])=H6 at s6 e6;have tl6:=tl5.same s6;refine⟨l,zs,_,rfl,rfl,tl6.hl,da (by omega:zs.length<=60) (by decide),?_⟩;have np:p∉ts.map (·.1):=fun z=>by
     obtain⟨q',hq,e⟩:=az.mp z;exact hm (az.mpr ⟨q',hq,by rw[e]⟩)
    have kt:∀{b:Addr}{xs:List V},H6 b=some (.tup xs)->upd H6 l (.lst (zs++[.ref tp])) b=some (.tup xs):=fun{b xs} e=>by rw[a7 fun y=>by rw[y,tl6.hl]at e;cases e];exact e
    refine hD2 _ _ ⟨fG (s25.trans s6) hl,zs++[.ref tp],ts++[(p,v.getD p 0)],_,_,⟨ax,?_⟩,Vt.snoc vt hpn (vo.at p) np,by rw[a9,bS];omega,fun q hq=>?_,rfl⟩
    ·have pa:∀{l l':List V}{m m':List (Nat×Int)}{F:V->Nat×Int->Prop},Paired F l m->Paired F l' m'->Paired F (l++l') (m++m'):=fun{l l' m m' F} h g=>by
      induction h with
      |nil=>exact g
      |cons a r ih=>exact .cons a ih
     exact pa (Paired.qt tl6.pr fun _ _ ⟨b,e,h⟩=>⟨b,e,kt h⟩) (.cons ⟨tp,rfl,kt e6⟩ .nil)
    ·rcases bc.mp hq with h|h
     ·exact rv q h
     ·rw[aD.mp h]
  ·rw[if_neg (by simpa using hn)]
   unfold gJ;walk_at "wp";rw[if_neg (by simpa using hn),if_neg (by decide)];exact hD2 _ _ ⟨s23,zs,ts,_,_,tl3,vt,by omega,rv,rfl⟩
 ·rintro σ H2 ⟨s2,zs,ts,x6,x7,tl,vt,_,rv,rfl⟩
  unfold kR;walk_at "wp";exact q H2 l zs ts v s2 tl.hl tl vt mv rv
theorem IM{α:Type}(f:α->Nat):∀{l:List α},l≠[]->∃a∈l,∀b∈l,f b<=f a
 | [],h=>absurd rfl h
 | [a],_=>⟨a,aB,fun b hb=>by rw[aD.mp hb];exact aA _⟩
 |a::c::l,_=>by
  obtain⟨m,hm,h⟩:=IM f (l:=c::l) (fun z=>nomatch z);by_cases g:f m<=f a
  ·refine⟨a,aB,fun b hb=>?_⟩
   rcases av.mp hb with rfl|hb
   ·exact aA _
   ·exact aT (h b hb) g
  ·refine⟨m,aJ _ hm,fun b hb=>?_⟩
   rcases av.mp hb with rfl|hb
   ·omega
   ·exact h b hb
theorem B4{α:Type}(f:α->Str):∀{l:List α},l≠[]->∃a∈l,∀b∈l,_root_.Q.tlt (f b) (f a)=false
 | [],h=>absurd rfl h
 | [a],_=>⟨a,aB,fun b hb=>by rw[aD.mp hb];exact lq _⟩
 |a::c::l,_=>by
  obtain⟨m,hm,h⟩:=B4 f (l:=c::l) (fun z=>nomatch z);cases g:_root_.Q.tlt (f a) (f m)with
  |false=>
   refine⟨m,aJ _ hm,fun b hb=>?_⟩;rcases av.mp hb with rfl|hb
   ·exact g
   ·exact h b hb
  |true=>
   refine⟨a,aB,fun b hb=>?_⟩;rcases av.mp hb with rfl|hb
   ·exact lq _
   ·rw[dH]
    intro z;have :=_root_.Q.qf z g;rw[h b hb]at this;cases this
section
variable {n:Nat}{ks:List V}{C:List (Str×List Int)}
noncomputable def Bh(n:Nat)(ks:List V)(r o:List Int):Prop:=∀p,p<n->o.getD p 0=r.getD p 0\/ks.getD p .non=.int (o.getD p 0)
theorem Bh.trans{x:List Int}(a:Bh n ks r o)(b:Bh n ks o x):Bh n ks r x:=fun p hp=>by
 rcases b p hp with e|e
 ·rcases a p hp with e'|e'
  ·exact .inl (e.trans e')
  ·exact .inr (by rw[e',e])
 ·exact .inr e
theorem DC{x y:List Int}(h:x.length=n):bhd x y ks=true↔Bh n ks x y:=by
 unfold bhd;rw[bC];refine⟨fun g p hp=>?_,fun g p hp=>?_⟩
 ·have :=g p (aM.mpr (by omega))
  rw[cQ,decide_eq_true_eq,decide_eq_true_eq]at this;exact this
 ·rw[cQ,decide_eq_true_eq,decide_eq_true_eq]
  exact g p (by have :=aM.mp hp;omega)
noncomputable def agr(n:Nat)(ks:List V)(v:List Int):Nat:=(aw n).countP fun p=>decide (ks.getD p .non=.int (v.getD p 0))
theorem agr_lt(h:Bh n ks r o)(hr:r.length=n)(ho:o.length=n)(ne:r≠o):agr n ks r<agr n ks o:=by
 have ex:∃p,p<n/\o.getD p 0≠r.getD p 0:=by
  apply aF
  intro z;refine ne (M7.Di hr ho fun i hi=>?_);apply aF;intro y;exact z ⟨i,hi,fun e=>y e.symm⟩
 obtain⟨p,hp,hpn⟩:=ex;refine M7.ue (x:=p) (fun q hq e=>?_) (aM.mpr hp) (decide_eq_true ((h p hp).resolve_left hpn)) (decide_eq_false fun e=>?_)
 ·rcases h q (aM.mp hq)with z|z
  ·exact decide_eq_true (by rw[z];exact of_decide_eq_true e)
  ·exact decide_eq_true z
 ·rw[(h p hp).resolve_left hpn]at e
  exact hpn (V.int.inj e)
theorem kept_of(hl:∀r∈C,r.2.length=n){r:Str×List Int}(hr:r∈C):∃o∈C,(∀x∈C,cmD o x ks=false)/\Bh n ks r.2 o.2:=by
 classical
 obtain⟨a,ha,hmax⟩:=IM (fun o:Str×List Int=>agr n ks o.2) (l:=C.filter fun o=>decide (Bh n ks r.2 o.2)) fun z=>by
  have :r∈C.filter fun o=>decide (Bh n ks r.2 o.2):=aN.mpr ⟨hr,decide_eq_true fun p hp=>.inl rfl⟩;rw[z]at this;cases this
 obtain⟨ha1,ha2⟩:=aN.mp ha;have ha2:Bh n ks r.2 a.2:=of_decide_eq_true ha2;obtain⟨o,ho,hmin⟩:=B4 (fun o:Str×List Int=>o.1) (l:=C.filter fun o=>decide (o.2=a.2)) fun z=>by
  have :a∈C.filter fun o=>decide (o.2=a.2):=aN.mpr ⟨ha1,decide_eq_true rfl⟩;rw[z]at this;cases this
 obtain⟨ho1,ho2⟩:=aN.mp ho;have ho2:o.2=a.2:=of_decide_eq_true ho2;refine⟨o,ho1,fun x hx=>?_,by rw[ho2];exact ha2⟩;rw[dH];intro c;unfold cmD at c;split at c
 ·rename_i e
  rw[hmin x (aN.mpr ⟨hx,decide_eq_true (e.symm.trans ho2)⟩)]at c;cases c
 ·rename_i e
  have b:=(DC (hl o ho1)).mp c;have lt:=agr_lt b (hl o ho1) (hl x hx) e;rw[ho2]at b lt;have :=hmax x (aN.mpr ⟨hx,decide_eq_true (ha2.trans b)⟩);omega
end
section
variable {rows left:List (List Int)}{n:Nat}{ts:List (Nat×Int)}
structure Lf(rows left:List (List Int))(n:Nat)(ts:List (Nat×Int)):Prop where
 tb:M7.Tbl rows n
 vt:Vt n ts
 ne:stn rows n ts≠[]
 sub:∀r∈left,r∈rows
 bk:∀r∈rows,∃o∈left,Bh n (knw rows n ts) r o
 un:∀w∈left,∀o∈rows,w≠o->¬Bh n (knw rows n ts) w o
theorem Lf.lt(f:Lf rows left n ts):M7.Tbl left n:=by
 refine⟨fun r hr=>f.tb.ok r (f.sub r hr),fun z=>?_,fun i j h1 h2=>(f.tb.mis i j h1 h2).sub f.sub⟩;obtain⟨o,ho,_⟩:=f.bk _ f.tb.first;rw[z]at ho;cases ho
theorem tP(t:M7.Tbl rows n)(vt:Vt n ts)(hv:v∈stn rows n ts)(hp:p<n){e:Int}(h:(knw rows n ts).getD p .non=.int e):v.getD p 0=e:=by
 rw[xX hp]at h;split at h
 ·cases h
 ·rename_i hu
  have ne:stn rows n ts≠[]:=fun z=>by rw[z]at hv;cases hv
  rw[agree t vt hp hv (head_mem (d:=[]) ne) hu];exact V.int.inj h
theorem Lf.stn(f:Lf rows left n ts)(v:List Int):v∈stn left n ts↔v∈stn rows n ts:=by
 rw[gE f.lt,gE f.tb];refine⟨fun⟨a,b⟩=>⟨a.sub f.sub,b⟩,fun⟨a,b⟩=>⟨⟨a.1,fun i j hi hj=>?_⟩,b⟩⟩;have hv:v∈K75.stn rows n ts:=(gE f.tb).mpr ⟨a,b⟩;obtain⟨r,hr,e1,e2⟩:=a.2 i j hi hj;obtain⟨o,ho,bh⟩:=f.bk r hr;have at_:∀{k:Nat},k<n->r.getD k 0=v.getD k 0->o.getD k 0=v.getD k 0:=fun{k} hk e=>by
  rcases bh k hk with z|z
  ·exact z.trans e
  ·exact(tP f.tb f.vt hv hk z).symm
 exact⟨o,ho,at_ hi e1,at_ hj e2⟩
theorem lo_hi{a b:List Int}:(M4.lo a b=a\/M4.lo a b=b)/\(M4.hi a b=a\/M4.hi a b=b):=by
 unfold M4.lo M4.hi;constructor<;>split <;>first |exact .inl rfl|exact .inr rfl
theorem lj(t:M7.Tbl rows n)(hp:p<n):(p:Int)∈unk rows n ts↔p∉ts.map (·.1)/\grp rows p≠0/\∃x∈K75.stn rows n ts,M7.End rows n p x:=by
 constructor
 ·intro h
  refine⟨unk_mem t hp h,?_⟩;unfold unk at h;obtain⟨x,hx,hm⟩:=l8.mp h;obtain⟨j,hj,hz,rfl⟩:=(M8.jL t).mp ((M9.oP (M8.nY t)).mem_iff.mp hx);unfold unB at hm;split at hm
  ·rename_i c
   obtain⟨h1,_⟩:=aN.mp hm;have e:grp rows p=grp rows j:=of_decide_eq_true ((M5.jO hp).mp h1);have e2:M8.tri rows n j=M8.tri rows n p:=by rw[<-M8.Ci,<-M8.Ci,e]
   rw[e2]at c;have hz:grp rows p≠0:=by rw[e];exact hz
   have ends:∀v,v=M7.gg rows n p\/v=M7.below rows n p->M7.End rows n p v:=fun v h=>by
    rcases h with rfl|rfl
    ·exact M7.mC t hp hz
    ·exact M7.kP t hp hz
   refine⟨hz,?_⟩;rcases c with c|c
   ·exact⟨_,c,ends _ lo_hi.1⟩
   ·exact⟨_,c,ends _ lo_hi.2⟩
  ·cases hm
 ·rintro⟨ht,hz,x,hx,he⟩
  unfold unk;have hm:M8.tri rows n p∈M8.uZ (M8.trs rows n):=(M9.oP (M8.nY t)).mem_iff.mpr ((M8.jL t).mpr ⟨p,hp,hz,rfl⟩);refine l8.mpr ⟨_,hm,?_⟩;have hxe:x=M7.gg rows n p\/x=M7.below rows n p:=by
   have a:=M7.yA (rows:=rows) hp;have b:=M7.rZ (rows:=rows) hp;have f:=t.f01 p;rcases he.ok.at p with z|z<;>rcases f with g|g
   ·exact .inl (M7.End.one t hp he (M7.mC t hp hz) (by rw[z,a,g]))
   ·exact .inr (M7.End.one t hp he (M7.kP t hp hz) (by rw[z,b,g];rfl))
   ·exact .inr (M7.End.one t hp he (M7.kP t hp hz) (by rw[z,b,g];rfl))
   ·exact .inl (M7.End.one t hp he (M7.mC t hp hz) (by rw[z,a,g]))
  have hc:(M8.tri rows n p).1∈K75.stn rows n ts\/(M8.tri rows n p).2.1∈K75.stn rows n ts:=by
   have tr:=_root_.Q.gZ (M7.pD t hp);unfold M8.tri M4.lo M4.hi;dsimp only;cases c:_root_.Q.llt (M7.below rows n p) (M7.gg rows n p)with
   |true=>
    rw[c]at tr;have tr:_root_.Q.llt (M7.gg rows n p) (M7.below rows n p)=false:=tr;rw[tr,if_pos rfl,if_neg (by decide)];rcases hxe with e|e
    ·exact .inr (e▸hx)
    ·exact .inl (e▸hx)
   |false=>
    rw[c]at tr;have tr:_root_.Q.llt (M7.gg rows n p) (M7.below rows n p)=true:=tr;rw[tr,if_neg (by decide),if_pos rfl];rcases hxe with e|e
    ·exact .inl (e▸hx)
    ·exact .inr (e▸hx)
  unfold unB;rw[if_pos hc];refine aN.mpr ⟨(M5.jO hp).mpr (by unfold M5.own;simp),decide_eq_true fun z=>?_⟩;obtain⟨q,hq,e⟩:=az.mp z;exact ht (az.mpr ⟨q,hq,by omega⟩)
theorem Lf.unk1(f:Lf rows left n ts)(hp:p<n)(h:(p:Int)∈unk rows n ts):(p:Int)∈unk left n ts:=by
 have kn:(knw rows n ts).getD p .non=.non:=by rw[xX hp,if_pos h]
 obtain⟨ht,hz,x,hx,he⟩:=(lj f.tb hp).mp h;have at_:∀{r o:List Int},Bh n (knw rows n ts) r o->o.getD p 0=r.getD p 0:=fun b=>(b p hp).resolve_right fun z=>by rw[kn]at z;cases z
 have xl:=(f.stn x).mpr hx;refine(lj f.lt hp).mpr ⟨ht,?_,x,xl,he.ok,fun q hq c=>((gE f.lt).mp xl).1.2 p q hp hq,fun q hq c=>?_⟩
 ·obtain⟨r,hr,s,hs,ne⟩:=(M9.gT f.tb).mp hz
  obtain⟨o,ho,b⟩:=f.bk r hr;obtain⟨o',ho',b'⟩:=f.bk s hs;exact(M9.gT f.lt).mpr ⟨o,ho,o',ho',by rw[at_ b,at_ b'];exact ne⟩
 ·obtain⟨r,hr,s,hs,e1,e2,e3⟩:=he.off q hq fun z=>c fun a ha b hb=>z a (f.sub a ha) b (f.sub b hb)
  obtain⟨o,ho,b⟩:=f.bk r hr;obtain⟨o',ho',b'⟩:=f.bk s hs;have q_:∀{r o:List Int},Bh n (knw rows n ts) r o->r.getD q 0=x.getD q 0->o.getD q 0=x.getD q 0:=fun b e=>by
   rcases b q hq with z|z
   ·exact z.trans e
   ·exact(tP f.tb f.vt hx hq z).symm
  exact⟨o,ho,o',ho',by rw[at_ b,at_ b'];exact e1,q_ b e2,q_ b' e3⟩
theorem Lf.unk2(f:Lf rows left n ts)(hp:p<n)(h:(p:Int)∈unk left n ts):(p:Int)∈unk rows n ts:=by
 apply aF
 intro hu;obtain⟨ht,hzL,x,hxL,heL⟩:=(lj f.lt hp).mp h;have hx:=(f.stn x).mp hxL;have fx:=((gE f.tb).mp hx).1;obtain⟨t1,ht1,t2,ht2,tne⟩:=(M9.gT f.lt).mp hzL;have hz:grp rows p≠0:=(M9.gT f.tb).mpr ⟨t1,f.sub _ ht1,t2,f.sub _ ht2,tne⟩;have kp:(knw rows n ts).getD p .non=.int (x.getD p 0):=by rw[xX hp,if_neg hu,agree f.tb f.vt hp (head_mem (d:=[]) f.ne) hx hu]
 obtain⟨q,hq,c,hB⟩:∃q,q<n/\¬M7.Cls rows p q/\∀s∈rows,s.getD p 0≠x.getD p 0->s.getD q 0≠x.getD q 0:=by
  apply aF
  intro no;refine hu ((lj f.tb hp).mpr ⟨ht,hz,x,hx,heL.ok,fun q hq c=>fx.2 p q hp hq,fun q hq c=>?_⟩);apply aF;intro no2;refine no ⟨q,hq,c,fun s hs e1 e2=>?_⟩;obtain⟨r,hr,a1,a2⟩:=fx.2 p q hp hq;exact no2 ⟨r,hr,s,hs,by rw[a1];exact fun z=>e1 z.symm,a2,e2⟩
 have cl:∀o∈left,o.getD p 0=x.getD p 0->o.getD q 0=x.getD q 0:=fun o ho e=>by
  have cL:M7.Cls left p q:=by
   apply aF
   intro nc;obtain⟨r,hr,s,hs,e1,e2,e3⟩:=heL.off q hq nc;by_cases z:r.getD p 0=x.getD p 0
   ·exact hB s (f.sub s hs) (fun y=>e1 (z.trans y.symm)) e3
   ·exact hB r (f.sub r hr) z e2
  obtain⟨r,hr,a1,a2⟩:=((gE f.lt).mp hxL).1.2 p q hp hq;rw[<-a2];exact(cL o ho r hr).mp (by rw[e,a1])
 obtain⟨r,hr,r1,r2⟩:∃r∈rows,r.getD p 0=x.getD p 0/\r.getD q 0≠x.getD q 0:=by
  apply aF
  intro no;refine c fun a ha b hb=>?_;have g:∀a∈rows,(a.getD p 0=x.getD p 0↔a.getD q 0=x.getD q 0):=fun a ha=>⟨fun e=>aF fun z=>no ⟨a,ha,e,z⟩,fun e=>aF fun z=>hB a ha z e⟩;rw[M7.eqb ((f.tb.ok a ha).at p) ((f.tb.ok b hb).at p) (heL.ok.at p),M7.eqb ((f.tb.ok a ha).at q) ((f.tb.ok b hb).at q) (heL.ok.at q)];exact iff_congr (not_congr (g a ha)) (not_congr (g b hb))
 obtain⟨o,ho,b⟩:=f.bk r hr;have op:o.getD p 0=x.getD p 0:=by
  rcases b p hp with z|z
  ·exact z.trans r1
  ·rw[kp]at z
   exact(V.int.inj z).symm
 have oq:=cl o ho op;have kq:(knw rows n ts).getD q .non=.int (x.getD q 0):=by
  rcases b q hq with z|z
  ·exact absurd (z.symm.trans oq) r2
  ·rw[z,oq]
 obtain⟨w,hw,wp⟩:∃w∈left,w.getD p 0≠x.getD p 0:=by
  by_cases z:t1.getD p 0=x.getD p 0
  ·exact⟨t2,ht2,fun y=>tne (z.trans y.symm)⟩
  ·exact⟨t1,ht1,z⟩
 have wq:=hB w (f.sub w hw) wp;refine f.un w hw o (f.sub o ho) (fun z=>wp (by rw[z];exact op)) fun i hi=>?_;apply aF;intro no;have n1:o.getD i 0≠w.getD i 0:=fun z=>no (.inl z);have n2:(knw rows n ts).getD i .non≠.int (o.getD i 0):=fun z=>no (.inr z);have oi:o.getD i 0=r.getD i 0:=(b i hi).resolve_right n2;have qi:q≠i:=fun z=>r2 (by rw[<-z]at oi;rw[<-oi];exact oq);obtain⟨a,b',ha,hb',k⟩:=f.tb.mis' qi hq hi;have o01:=f.tb.ok o (f.sub o ho);have w01:=f.tb.ok w (f.sub w hw);have r01:=f.tb.ok r hr;have miss:∀s∈rows,s.getD q 0=x.getD q 0->s.getD i 0=o.getD i 0:=fun s hs e=>by
  have k1:=k o (f.sub o ho);have k2:=k r hr;have k3:=k w (f.sub w hw);have k4:=k s hs;have a1:=o01.at q;have a2:=o01.at i;have a3:=r01.at q;have a4:=w01.at q;have a5:=w01.at i;have a6:=(f.tb.ok s hs).at i;rw[e]at k4;rw[oq]at k1 a1;rw[<-oi]at k2;omega
 have xi:x.getD i 0=o.getD i 0:=by
  obtain⟨s,hs,a1,a2⟩:=fx.2 q i hq hi;rw[<-a2];exact miss s hs a1
 have hui:(i:Int)∈unk rows n ts:=aF fun z=>n2 (by rw[xX hi,if_neg z,agree f.tb f.vt hi (head_mem (d:=[]) f.ne) hx z,xi]);obtain⟨_,_,y,hy,ey⟩:=(lj f.tb hi).mp hui;have yq:=tP f.tb f.vt hy hq kq;obtain⟨s,hs,s',hs',d,e2,e3⟩:=ey.off q hq fun z=>r2 (((z r hr o (f.sub o ho)).mp oi.symm).trans oq);exact d ((miss s hs (e2.trans yq)).trans (miss s' hs' (e3.trans yq)).symm)
theorem Lf.unk(f:Lf rows left n ts)(hp:p<n):(p:Int)∈unk left n ts↔(p:Int)∈unk rows n ts:=⟨f.unk2 hp,f.unk1 hp⟩
theorem Lf.knw(f:Lf rows left n ts):knw left n ts=knw rows n ts:=by
 unfold K75.knw;refine bO fun p hp=>?_;have hp:=aM.mp hp;by_cases h:(p:Int)∈K75.unk rows n ts
 ·rw[if_pos h,if_pos ((f.unk hp).mpr h)]
 ·have hl:K75.stn left n ts≠[]:=fun z=>by
   have :=(f.stn _).mpr (head_mem (d:=[]) f.ne)
   rw[z]at this;cases this
  rw[if_neg h,if_neg fun z=>h ((f.unk hp).mp z),agree f.tb f.vt hp ((f.stn _).mp (head_mem (d:=[]) hl)) (head_mem (d:=[]) f.ne) h]
theorem xp:∀{l m:List (List Int)},l.Pairwise (fun a b=>_root_.Q.llt a b=true)->m.Pairwise (fun a b=>_root_.Q.llt a b=true)->(∀v,v∈l↔v∈m)->l=m
 | [],[],_,_,_=>rfl
 | [],b::m,_,_,h=>nomatch(h b).mpr aB
 |a::l,[],_,_,h=>nomatch(h a).mp aB
 |a::l,b::m,hl,hm,h=>by
  obtain⟨l1,l2⟩:=iu.mp hl;obtain⟨m1,m2⟩:=iu.mp hm;have e:a=b:=by
   apply aF
   intro ne;have h1:=m1 a ((av.mp ((h a).mp aB)).resolve_left ne);have h2:=l1 b ((av.mp ((h b).mpr aB)).resolve_left fun z=>ne z.symm);rw[_root_.Q.gZ ne,h1]at h2;cases h2
  subst e;have out:∀{k:List (List Int)},(∀v∈k,_root_.Q.llt a v=true)->∀v∈k,v≠a:=fun{k} g v hv z=>by
   have :=g v hv
   rw[z,_root_.Q.tM]at this;cases this
  rw[xp l2 m2 fun v=>⟨fun hv=>(av.mp ((h v).mp (aJ _ hv))).resolve_left (out l1 v hv),fun hv=>(av.mp ((h v).mpr (aJ _ hv))).resolve_left (out m1 v hv)⟩]
theorem oN(t:M7.Tbl rows n):(K75.stn rows n ts).Pairwise fun a b=>_root_.Q.llt a b=true:=(K83.oR (M8.mi t)).filter _
theorem Lf.stnL(f:Lf rows left n ts):K75.stn left n ts=K75.stn rows n ts:=xp (oN f.lt) (oN f.tb) f.stn
end
section
variable {H H2:Hp}{t l:Addr}{nf:Nat->Str}{n:Nat}{ys:List V}{rows:List (List Int)}{ts:List (Nat×Int)}
theorem getD_map{α β:Type}{f:α->β}{l:List α}{d:α}{e:β}(h:k<l.length):(l.map f).getD k e=f (l.getD k d):=by
 rw[af,ao,aa h,af,aa h];rfl
theorem Tn_pick(d:Tn H t nf n ys rows)(s:aO H H2){ix:List Nat}(hi:∀i∈ix,i<ys.length)(nd:ix.Nodup)(el:H2 l=some (.lst (ix.map fun i=>ys.getD i .non))):Tn H2 l (fun k=>nf (ix.getD k 0)) n (ix.map fun i=>ys.getD i .non) (ix.map fun i=>rows.getD i []) where
 et:=el
 ln:=by rw[ai,ai]
 row:=fun k y e=>by
  rw[ao]at e;cases c:ix[k]? with
  |none=>rw[c]at e;cases e
  |some i=>
   rw[c]at e;cases e;have hk:k<ix.length:=(aH.mp c).1;have hiy:=hi i (aI c);obtain⟨b,r,e1,e2,e3⟩:=d.row i _ (aa hiy);refine⟨b,r,?_,?_,?_⟩
   ·show ys.getD i .non=_
    rw[af,aa hiy,e1];rfl
   ·rw[s _ _ e2,getD_some c]
   ·rw[s _ _ e3,getD_map (d:=0) hk,getD_some c]
 ok:=fun i=>d.ok _
 inj:=fun i j h1 h2 e=>by
  rw[ai]at h1 h2;have m:∀k,k<ix.length->ix.getD k 0∈ix:=fun k hk=>by rw[af,aa hk];exact bx hk
  have :=d.inj _ _ (hi _ (m i h1)) (hi _ (m j h2)) e
  rw[af,aa h1,af,aa h2]at this;exact(dz nd).mp this
 len:=by
  rw[ai];have :=L2.o5 nd (m:=aw ys.length) fun i h=>aM.mpr (hi i h);rw[ba]at this;exact aT this d.len
 n10:=d.n10
 rd:=fun r hr=>by
  obtain⟨i,h,rfl⟩:=az.mp hr;exact d.rd _ (d.get (hi i h))
 mis:=fun i j h1 h2=>(d.mis i j h1 h2).sub fun r hr=>by
  obtain⟨k,h,rfl⟩:=az.mp hr;exact d.get (hi k h)
noncomputable def lix(nf:Nat->Str)(rows:List (List Int))(m n:Nat)(ts:List (Nat×Int)):List Nat:=(aw m).filter fun i=> !decide (nf i∈(asd nf rows m n ts).map (·.1))
theorem ph(d:Tn H t nf n ys rows):i∈lix nf rows ys.length n ts↔i<ys.length/\∀o∈sR nf rows ys.length,cmD (nf i,rows.getD i []) o (knw rows n ts)=false:=by
 unfold lix;rw[aN,aM];refine and_congr_right fun hi=>?_;rw[Bool.not_eq_true',decide_eq_false_iff_not];have hm:(nf i,rows.getD i [])∈sR nf rows ys.length:=(gV d).mpr ⟨i,hi,rfl⟩;constructor
 ·intro h o ho
  rw[dH];intro c;exact h (az.mpr ⟨_,aN.mpr ⟨hm,bp.mpr ⟨o,ho,c⟩⟩,rfl⟩)
 ·intro h z
  obtain⟨r,hr,e⟩:=az.mp z;obtain⟨h1,h2⟩:=aN.mp hr;obtain⟨j,hj,rfl⟩:=(gV d).mp h1;have :j=i:=d.inj j i hj hi e;subst this;obtain⟨o,ho,c⟩:=bp.mp h2;rw[h o ho]at c;cases c
theorem lf_of(d:Tn H t nf n ys rows)(ne:ys≠[])(vt:Vt n ts)(sn:stn rows n ts≠[]):Lf rows ((lix nf rows ys.length n ts).map fun i=>rows.getD i []) n ts where
 tb:=d.tbl ne
 vt:=vt
 ne:=sn
 sub:=fun r hr=>by
  obtain⟨i,h,rfl⟩:=az.mp hr;exact d.get ((ph d).mp h).1
 bk:=fun r hr=>by
  obtain⟨i,hi⟩:=cj.mp hr;have hil:i<ys.length:=by rw[<-d.ln];exact(aH.mp hi).1
  have hl:∀r∈sR nf rows ys.length,r.2.length=n:=fun r hr=>by
   obtain⟨i,hi,rfl⟩:=(gV d).mp hr;exact(d.rd _ (d.get hi)).1
  obtain⟨o,ho,h1,h2⟩:=kept_of (ks:=knw rows n ts) hl ((gV d).mpr ⟨i,hil,rfl⟩);obtain⟨j,hj,rfl⟩:=(gV d).mp ho;refine⟨_,az.mpr ⟨j,(ph d).mpr ⟨hj,h1⟩,rfl⟩,?_⟩;have h2:Bh n (knw rows n ts) (rows.getD i []) (rows.getD j []):=h2
  rwa [getD_some hi]at h2
 un:=fun w hw o ho nw b=>by
  obtain⟨i,h,rfl⟩:=az.mp hw;obtain⟨hi,h⟩:=(ph d).mp h;obtain⟨j,hj⟩:=cj.mp ho;have hjl:j<ys.length:=by rw[<-d.ln];exact(aH.mp hj).1
  have :=h (nf j,rows.getD j []) ((gV d).mpr ⟨j,hjl,rfl⟩)
  unfold cmD at this;rw[getD_some hj,if_neg nw,(DC (d.rd _ (d.get hi)).1).mpr b]at this;cases this
theorem sN(t:M7.Tbl rows n)(t2:M7.Tbl rows2 n)(h:∀r,r∈rows↔r∈rows2):stn rows n ts=stn rows2 n ts:=
 xp (oN t) (oN t2) fun v=>by
  rw[gE t,gE t2];exact⟨fun⟨a,b⟩=>⟨a.sub fun r hr=>(h r).mp hr,b⟩,fun⟨a,b⟩=>⟨a.sub fun r hr=>(h r).mpr hr,b⟩⟩
theorem End_sub(h:∀r,r∈rows↔r∈rows2)(e:M7.End rows n p v):M7.End rows2 n p v:=by
 have cl:∀{q:Nat},M7.Cls rows2 p q->M7.Cls rows p q:=fun c a ha b hb=>c a ((h a).mp ha) b ((h b).mp hb);refine⟨e.ok,fun q hq c=>?_,fun q hq c=>?_⟩
 ·obtain⟨r,hr,x⟩:=e.own q hq (cl c)
  exact⟨r,(h r).mp hr,x⟩
 ·obtain⟨r,hr,s,hs,x⟩:=e.off q hq fun z=>c fun a ha b hb=>z a ((h a).mpr ha) b ((h b).mpr hb)
  exact⟨r,(h r).mp hr,s,(h s).mp hs,x⟩
theorem yW(t:M7.Tbl rows n)(t2:M7.Tbl rows2 n)(h:∀r,r∈rows↔r∈rows2)(hp:p<n)(u:(p:Int)∈unk rows n ts):(p:Int)∈unk rows2 n ts:=by
 obtain⟨a,b,x,hx,e⟩:=(lj t hp).mp u;obtain⟨r,hr,s,hs,ne⟩:=(M9.gT t).mp b;exact(lj t2 hp).mpr ⟨a,(M9.gT t2).mpr ⟨r,(h r).mp hr,s,(h s).mp hs,ne⟩,x,by rw[<-sN t t2 h];exact hx,End_sub h e⟩
theorem zU(t:M7.Tbl rows n)(t2:M7.Tbl rows2 n)(h:∀r,r∈rows↔r∈rows2):knw rows n ts=knw rows2 n ts:=by
 unfold knw;refine bO fun p hp=>?_;have hp:=aM.mp hp;have i:((p:Int)∈unk rows n ts)↔(p:Int)∈unk rows2 n ts:=⟨yW t t2 h hp,yW t2 t (fun r=>(h r).symm) hp⟩;simp only[i,sN t t2 h]
end
section
variable {l m:List Str}
theorem Cc(h:l.Pairwise fun a b=>_root_.Q.tlt a b=true):l.Nodup:=by
 rw[eQ];refine h.imp fun h e=>?_;rw[e,lq]at h;cases h
theorem up_eq(hl:l.Pairwise fun a b=>_root_.Q.tlt a b=true)(hm:m.Pairwise fun a b=>_root_.Q.tlt a b=true)(h:∀x,x∈l↔x∈m):l=m:=
 _root_.Q.iG ((List.perm_ext_iff_of_nodup (Cc hl) (Cc hm)).mpr h) hl hm
theorem up_drop(h:l.Pairwise fun a b=>_root_.Q.tlt a b=true)(x:Str):x∈l.drop 1↔x∈l/\∃y∈l,_root_.Q.tlt y x=true:=by
 cases l with
 |nil=>exact⟨(fun z=>nomatch z),(fun z=>nomatch z.1)⟩
 |cons a l=>
  obtain⟨h1,h2⟩:=iu.mp h;show x∈l↔_;constructor
  ·exact fun hx=>⟨aJ _ hx,a,aB,h1 x hx⟩
  ·rintro⟨hx,y,hy,c⟩
   rcases av.mp hx with rfl|hx
   ·rcases av.mp hy with rfl|hy
    ·rw[lq]at c;cases c
    ·exact(_root_.Q.mV c (h1 y hy)).elim
   ·exact hx
end
section
variable {C C2:List (Str×List Int)}{v:List Int}{s:Str}{ks:List V}{like alike:List Str}{b:Bool}
noncomputable def asn(C:List (Str×List Int))(ks:List V):List Str:=(C.filter fun r=>C.any fun o=>cmD r o ks).map (·.1)
theorem jV:x∈asn C ks↔∃u,(x,u)∈C/\∃o∈C,cmD (x,u) o ks=true:=by
 unfold asn;rw[az];constructor
 ·rintro⟨r,hr,rfl⟩
  obtain⟨h1,h2⟩:=aN.mp hr;exact⟨r.2,h1,bp.mp h2⟩
 ·rintro⟨u,h1,h2⟩
  exact⟨_,aN.mpr ⟨h1,bp.mpr h2⟩,rfl⟩
theorem Iw:(∃o∈C,cmD (x,v) o ks=true)↔(∃o∈C,o.2≠v/\bhd v o.2 ks=true)\/∃y,(y,v)∈C/\_root_.Q.tlt y x=true:=by
 unfold cmD;constructor
 ·rintro⟨o,ho,c⟩
  by_cases e:v=o.2
  ·rw[if_pos e]at c
   exact .inr ⟨o.1,by rw[e];exact ho,c⟩
  ·rw[if_neg e]at c
   exact .inl ⟨o,ho,fun z=>e z.symm,c⟩
 ·rintro(⟨o,ho,e,c⟩ |⟨y,hy,c⟩)
  ·exact⟨o,ho,by rw[if_neg fun z=>e z.symm];exact c⟩
  ·exact⟨_,hy,by rw[if_pos rfl];exact c⟩
structure Mr(C C2:List (Str×List Int))(s:Str)(v:List Int):Prop where
 one:∀r∈C2,∀o∈C2,r.1=o.1->r=o
 mem:∀o,o∈C2↔o∈C\/o=(s,v)
 ex:∃y,(y,v)∈C
theorem Mr.same(h:Mr C C2 s v){u:List Int}(h1:(x,u)∈C2)(h2:(x,v)∈C2):u=v:=(iY (h.one _ h1 _ h2 rfl)).2
theorem Mr.far(h:Mr C C2 s v):(∃o∈C2,o.2≠v/\bhd v o.2 ks=true)↔∃o∈C,o.2≠v/\bhd v o.2 ks=true:=by
 constructor
 ·rintro⟨o,ho,e,c⟩
  rcases(h.mem o).mp ho with z|z
  ·exact⟨o,z,e,c⟩
  ·exact absurd (by rw[z]) e
 ·rintro⟨o,ho,e,c⟩
  exact⟨o,(h.mem o).mpr (.inl ho),e,c⟩
theorem Mr.other(h:Mr C C2 s v){u:List Int}(hx:(x,u)∈C)(hu:u≠v):x∈asn C2 ks↔x∈asn C ks:=by
 have hx2:=(h.mem _).mpr (.inl hx);rw[jV,jV];constructor
 ·rintro⟨u',h1,o,ho,c⟩
  obtain rfl:u'=u:=(iY (h.one _ h1 _ hx2 rfl)).2;refine⟨u',hx,?_⟩;rcases(h.mem o).mp ho with z|rfl
  ·exact⟨o,z,c⟩
  ·obtain⟨y,hy⟩:=h.ex
   refine⟨_,hy,?_⟩;unfold cmD at c⊢;rw[if_neg hu]at c⊢;exact c
 ·rintro⟨u',h1,o,ho,c⟩
  exact⟨u',(h.mem _).mpr (.inl h1),o,(h.mem _).mpr (.inl ho),c⟩
theorem Mr.IK(h:Mr C C2 s v)(hx:(x,v)∈C2):x∈asn C2 ks↔(∃o∈C,o.2≠v/\bhd v o.2 ks=true)\/∃y,(y,v)∈C2/\_root_.Q.tlt y x=true:=by
 rw[jV,<-h.far,<-Iw];constructor
 ·rintro⟨u,h1,c⟩
  rwa [h.same h1 hx]at c
 ·exact fun c=>⟨v,hx,c⟩
theorem Mr.IL(h:Mr C C2 s v)(hx:(x,v)∈C):x∈asn C ks↔(∃o∈C,o.2≠v/\bhd v o.2 ks=true)\/∃y,(y,v)∈C/\_root_.Q.tlt y x=true:=by
 rw[jV,<-Iw];constructor
 ·rintro⟨u,h1,c⟩
  rwa [h.same ((h.mem _).mpr (.inl h1)) ((h.mem _).mpr (.inl hx))]at c
 ·exact fun c=>⟨v,hx,c⟩
theorem Mr.start(h:Mr C C2 s v)(hl:∀x,x∈like↔(x,v)∈C):(∃x∈like,x∉asn C ks)↔¬∃o∈C,o.2≠v/\bhd v o.2 ks=true:=by
 constructor
 ·rintro⟨x,hx,c⟩ z
  exact c ((h.IL ((hl x).mp hx)).mpr (.inl z))
 ·intro z
  obtain⟨y,hy⟩:=h.ex;obtain⟨a,ha,hmin⟩:=B4 (fun x:Str=>x) (l:=like) fun e=>by
   have :=(hl y).mpr hy
   rw[e]at this;cases this
  refine⟨a,ha,fun c=>?_⟩;rcases(h.IL ((hl a).mp ha)).mp c with c|⟨y,hy,c⟩
  ·exact z c
  ·rw[hmin y ((hl y).mpr hy)]at c
   cases c
theorem Mr.due(h:Mr C C2 s v)(hl:∀x,x∈like↔(x,v)∈C)(ha:alike.Pairwise fun a b=>_root_.Q.tlt a b=true)(hm:∀x,x∈alike↔(x,v)∈C2)(hb:b=true↔∃x∈like,x∉asn C ks)(x:Str):
  x∈asn C2 ks↔(x∈asn C ks/\x∉like)\/x∈alike.drop (if b then 1 else 0):=by
 rw[h.start hl]at hb;have hd:x∈alike.drop (if b then 1 else 0)↔(x,v)∈C2/\((∃o∈C,o.2≠v/\bhd v o.2 ks=true)\/∃y,(y,v)∈C2/\_root_.Q.tlt y x=true):=by
  cases b with
  |true=>
   have nb:=hb.mp rfl;rw[if_pos rfl,up_drop ha,hm];refine and_congr_right fun _=>⟨fun⟨y,hy,c⟩=>.inr ⟨y,(hm y).mp hy,c⟩,fun z=>?_⟩;obtain⟨y,hy,c⟩:=z.resolve_left nb;exact⟨y,(hm y).mpr hy,c⟩
  |false=>
   have yb:∃o∈C,o.2≠v/\bhd v o.2 ks=true:=aF fun z=>nomatch hb.mpr z;rw[if_neg (by decide),yR,hm];exact⟨fun z=>⟨z,.inl yb⟩,fun z=>z.1⟩
 rw[hd];constructor
 ·intro hx
  obtain⟨u,h1,_⟩:=jV.mp hx;by_cases e:u=v
  ·subst e
   exact .inr ⟨h1,(h.IK h1).mp hx⟩
  ·have h1':(x,u)∈C:=((h.mem _).mp h1).resolve_right fun z=>e (iY z).2
   exact .inl ⟨(h.other h1' e).mp hx,fun z=>e (h.same h1 ((h.mem _).mpr (.inl ((hl x).mp z))))⟩
 ·rintro(⟨hx,nl⟩ |⟨h1,c⟩)
  ·obtain⟨u,h1,_⟩:=jV.mp hx
   exact(h.other h1 fun e=>nl ((hl x).mpr (by rw[<-e];exact h1))).mpr hx
  ·exact(h.IK h1).mpr c
theorem Mr.due_nd(h:Mr C C2 s v)(hu:(asn C ks).Nodup)(hl:∀x,x∈like↔(x,v)∈C)(ha:alike.Pairwise fun a b=>_root_.Q.tlt a b=true)(hm:∀x,x∈alike↔(x,v)∈C2){P:Str->Bool}(hP:∀x,P x=true↔x∉like)(k:Nat):((asn C ks).filter P++alike.drop k).Nodup:=by
 rw[cC];refine⟨hu.filter _,(Cc ha).sublist (List.drop_sublist _ _),fun x hx y hy e=>?_⟩;subst e;obtain⟨h1,h2⟩:=aN.mp hx;obtain⟨u,hu1,_⟩:=jV.mp h1;have e:=h.same ((h.mem _).mpr (.inl hu1)) ((hm x).mp (Fw hy));subst e;exact(hP x).mp h2 ((hl x).mpr hu1)
end
end K74
namespace K74
open PySem R
noncomputable def p_law:List Str:=["_law_script"]
noncomputable def Hg:List Str:=["_law_script","_law_many","_law_cells","_law_nodes","_law_links","_law_held_here","_law_names_here","_law_table","_law_tellings_here","_law_aside","_law_known","_law_left","_law_more","_law_greater","_law_like","_law_alike","_law_start","_law_due"]
noncomputable def uv:CB:=
  (.cons (.ret (.and (.cmp .Eq (.call "first_read" (.cons (.var 13) (.cons (.var 8) .nil))) (.var 10)) (.cmp .Eq (.call "set_aside" (.cons (.var 13) (.cons (.var 8) .nil))) (.bfn .sorted (.cons (.var 17) .nil)))))
  .nil)
noncomputable def Ar:CB:=
  (.cons (.asg (.name 17) (.bin .Add (.comp ["_law_name"] [14] (.name 0) (.seq (.var 9)) (.yes (.cmp .NotIn (.var 0) (.var 1))) (.var 0)) (.cut (.var 15) (.yes (.var 16)) .no)))
  uv)
noncomputable def uw:CB:=
  (.cons (.asg (.name 16) (.bfn .int (.cons (.cmp .NotEq (.comp ["_law_name"] [9] (.name 0) (.seq (.var 14)) (.yes (.cmp .NotIn (.var 0) (.var 1))) (.var 0)) (.lst .nil)) .nil)))
  Ar)
noncomputable def As:CB:=
  (.cons (.asg (.name 15) (.bfn .sorted (.cons (.bin .Add (.var 14) (.lst (.cons (.idx (.var 12) (.con (.int 0))) .nil))) .nil)))
  uw)
noncomputable def Au:CB:=
  (.cons (.asgc 14 (.comp ["_law_name","_law_readings"] [12] (.tup (.cons (.name 0) (.cons (.name 1) .nil))) (.seq (.var 7)) (.yes (.cmp .Eq (.var 1) (.idx (.var 2) (.con (.int 1))))) (.var 0)))
  As)
noncomputable def Av:CB:=
  (.cons (.asg (.name 13) (.bin .Add (.var 7) (.lst (.cons (.var 12) .nil))))
  Au)
noncomputable def uy:CB:=
  (.cons (.asg (.name 12) (.tup (.cons (.idx (.var 6) (.con (.int 14))) (.cons (.idx (.idx (.var 7) (.bin .Mod (.call "_law_draw" (.cons (.call "_law_cell_at" (.cons (.var 0) (.cons (.con (.int 0)) .nil))) (.cons (.con (.int 7)) .nil))) (.bfn .len (.cons (.var 7) .nil)))) (.con (.int 1))) .nil))))
  Av)
noncomputable def uA:CB:=
  (.cons (.iff (.cmp .NotEq (.call "stands" (.cons (.var 11) (.cons (.var 8) .nil))) (.call "stands" (.cons (.var 7) (.cons (.var 8) .nil))))
  (.cons (.ret (.con (.bool false)))
  .nil)
  .nil)
  uy)
noncomputable def uB:CB:=
  (.cons (.iff (.or (.cmp .Eq (.var 11) (.lst .nil)) (.or (.cmp .NotEq (.call "first_read" (.cons (.var 11) (.cons (.var 8) .nil))) (.var 10)) (.cmp .NotEq (.call "set_aside" (.cons (.var 11) (.cons (.var 8) .nil))) (.lst .nil))))
  (.cons (.ret (.con (.bool false)))
  .nil)
  .nil)
  uA)
noncomputable def Aw:CB:=
  (.cons (.asgc 11 (.comp ["_law_copy"] [9] (.name 0) (.seq (.var 7)) (.yes (.cmp .NotIn (.idx (.var 0) (.con (.int 0))) (.var 1))) (.var 0)))
  uB)
noncomputable def Ax:CB:=
  (.cons (.asg (.name 10) (.call "first_read" (.cons (.var 7) (.cons (.var 8) .nil))))
  Aw)
noncomputable def Dp:CB:=
  (.cons (.asg (.name 9) (.call "set_aside" (.cons (.var 7) (.cons (.var 8) .nil))))
  Ax)
noncomputable def yt:CB:=
  (.cons (.asg (.name 8) (.call "_law_tellings" (.cons (.call "_law_cell_at" (.cons (.var 0) (.cons (.con (.int 1)) .nil))) (.cons (.comp ["_law_name","_law_readings"] [] (.tup (.cons (.name 0) (.cons (.name 1) .nil))) (.seq (.var 7)) .no (.var 1)) (.cons (.var 1) .nil)))))
  Dp)
noncomputable def Dq:CB:=
  (.cons (.asgc 7 (.comp ["_law_k"] [6,3,5] (.name 0) (.range1 (.bfn .len (.cons (.var 5) .nil))) .no (.tup (.cons (.idx (.var 1) (.var 0)) (.cons (.idx (.var 2) (.idx (.var 3) (.var 0))) .nil)))))
  yt)
noncomputable def Ds:CB:=
  (.cons (.asg (.name 6) (.call "_law_names" (.cons (.call "_law_cell_at" (.cons (.var 0) (.cons (.con (.int 0)) .nil))) (.cons (.con (.int 15)) .nil))))
  Dq)
noncomputable def Dt:CB:=
  (.cons (.asg (.name 5) (.call "_law_held" (.cons (.var 2) (.cons (.var 3) .nil))))
  Ds)
noncomputable def Du:CB:=
  (.cons (.asg (.tup (.cons (.name 3) (.cons (.name 4) .nil))) (.call "_law_grown" (.cons (.var 2) (.cons (.var 1) .nil))))
  Dt)
noncomputable def Dv:CB:=
  (.cons (.asg (.name 2) (.bin .Add (.lst (.cons (.call "_law_cell_at" (.cons (.var 0) (.cons (.con (.int 2)) .nil))) .nil)) (.cut (.var 0) (.yes (.con (.int 3))) (.yes (.con (.int 16))))))
  Du)
noncomputable def Dw:CB:=
  (.cons (.asg (.name 1) (.bin .Mod (.call "_law_draw" (.cons (.call "_law_cell_at" (.cons (.var 0) (.cons (.con (.int 1)) .nil))) (.cons (.con (.int 3)) .nil))) (.con (.int 9))))
  Dv)
noncomputable def IH:CB:=
  (.cons (.asgc 0 (.comp ["_law_cell"] [0] (.name 0) (.seq (.var 0)) .no (.bin .Add (.bin .Mult (.con (.int 2)) (.var 0)) (.bin .Mod (.bfn .sum (.cons (.cut (.var 1) .no (.yes (.con (.int 1)))) .nil)) (.con (.int 2))))))
  Dw)
end K74
namespace K74
open PySem PySem.Spec PyProof.Rows L2 R Cp Lt Kc K21 K22 Lm M5 K32 K34 K75 K76
structure G4(G:Gam)(K:ah)(T:Tb):Prop where
 c0:G.fn "_law_cell_at" 2=some (Bc K,[])
 c1:G.fn "_law_draw" 2=some (js,[])
 c2:G.fn "_law_names" 2=some (w8,[])
 c3:G.fn "_law_grown" 2=some (K34.w9 K,[])
 c4:G.fn "_law_held" 2=some (Bb K,[])
 c5:G.fn "set_aside" 2=some (spSa K T,[])
 c6:G.fn "_law_tellings" 3=some (spTl K,[])
 c7:G.fn "stands" 2=some (spSt K T,[])
 c8:G.fn "first_read" 2=some (spFr K T,[])
theorem Cs{x:V}{d:L2.D}{Q:VK}(h1:Rep K H d x)(h2:Rep K H d y)(hd:hgt d<=30)(k:Q (.bl true) H):fZ K .Eq x y H Q:=⟨d,d,h1,h2,hd,by rw[tX];exact k⟩
theorem Cr{x:V}{d:L2.D}{Q:VK}(h1:Rep K H d x)(h2:Rep K H d y)(hd:hgt d<=30)(k:Q (.bl false) H):fZ K .NotEq x y H Q:=⟨d,d,h1,h2,hd,by rw[tX];exact k⟩
noncomputable def kdD:V->L2.D
 |.int i=>.int i
 |_=>.non
theorem CA:∀{ks:List V},(∀k∈ks,Kd k)->eO K H (ks.map kdD) ks/\eW (ks.map kdD)=0
 | [],_=>⟨rfl,rfl⟩
 |k::ks,h=>by
  obtain⟨a,b⟩:eO K H (ks.map kdD) ks/\eW (ks.map kdD)=0:=CA fun x hx=>h x (aJ _ hx);rcases h k aB with rfl|⟨i,rfl⟩
  ·exact⟨⟨_,_,rfl,rfl,a⟩,by show max 0 (eW (ks.map kdD))=0;rw[b];rfl⟩
  ·exact⟨⟨_,_,rfl,rfl,a⟩,by show max 0 (eW (ks.map kdD))=0;rw[b];rfl⟩
theorem xr{p:Addr}{ks:List V}(h:H p=some (.tup ks))(kd:∀k∈ks,Kd k):Rep K H (.tup (ks.map kdD)) (.ref p)/\hgt (.tup (ks.map kdD))<=30:=by
 obtain⟨a,b⟩:=CA (K:=K) (H:=H) kd;refine⟨⟨p,_,rfl,SqT.of h,a⟩,?_⟩;show eW (ks.map kdD)+1<=30;rw[b];decide
theorem zt:∀ks:List Str,eO K H (ks.map L2.D.str) (ks.map V.str)
 | []=>rfl
 |_::ks=>⟨_,_,rfl,rfl,zt ks⟩
theorem z7:∀ns:List Str,eW (ns.map L2.D.str)=0
 | []=>rfl
 |a::l=>by show max (hgt (.str a)) (eW (l.map L2.D.str))=0;rw[z7 l];rfl
theorem Bl{p:Addr}(h:H p=some (.lst (ks.map V.str))):Rep K H (.lst (ks.map .str)) (.ref p)/\hgt (.lst (ks.map L2.D.str))<=30:=by
 refine⟨⟨p,_,rfl,SqL.of h,zt ks⟩,?_⟩;show eW (ks.map L2.D.str)+1<=30;rw[z7];decide
theorem Gz{p:Addr}{us:List V}{ns:List (List Int)}(h:H p=some (.lst us))(pn:Paired (NdV K H) us ns):Rep K H (.lst (ns.map K83.nd1)) (.ref p)/\hgt (.lst (ns.map K83.nd1))<=30:=by
 refine⟨⟨p,_,rfl,SqL.of h,(xO pn).1⟩,?_⟩;have :=tU ns;show eW (ns.map K83.nd1)+1<=30;omega
theorem zJ{p:Addr}{Q:VK}(h:H p=some (.lst (ks.map V.str)))(q:Q (.bl (!decide (x∈ks))) H):fZ K .NotIn (.str x) (.ref p) H Q:=by
 refine .inr ⟨p,_,rfl,.inl (SqL.of h),rfl,bC.mpr fun y hy=>?_,?_⟩
 ·obtain⟨z,_,rfl⟩:=az.mp hy
  rfl
 ·rw[if_pos rfl,K24.in_strs]
  exact q
theorem DN(ys:List V)(t:Nat->Bool):((ys.zip (aw ys.length)).filter fun p=>t p.2).map (fun p=>p.1)=((aw ys.length).filter t).map fun i=>ys.getD i .non:=by
 have e:ys.zip (aw ys.length)=(aw ys.length).map fun i=>(ys.getD i .non,i):=by
  apply bR
  ·simp
  ·intro i h1 h2
   have hi:i<ys.length:=by simpa using h2
   rw[List.getElem_zip,bo,fO,af,aa hi];rfl
 rw[e,List.filter_map,aY];rfl
theorem vF(nd:ks.Nodup):_root_.Q.sortBy V.non ks (ks.map V.str)=(_root_.Q.sortBy ("":Str) ks ks).map V.str:=by
 unfold _root_.Q.sortBy;rw[aY];exact bO fun i hi=>getD_map (aM.mp ((_root_.Q.tj nd).mem_iff.mp hi))
structure Lz(T:Tb)(K:ah)(H:Hp)(a t nl:Addr)(ns:List Int)(nf:Nat->Str)(n:Nat)(ys:List V)(rows:List (List Int)):Prop where
 sq:SqL K H a (ns.map V.int)
 d:Tn H t nf n ys rows
 ne:ys≠[]
 tb:Tab T H
 hn:H nl=some (.lst ((aw 15).map fun k=>V.str (nf k)))
 m14:ys.length<=14
 inj:∀i j,i<15->j<15->nf i=nf j->i=j
structure Lq(T:Tb)(K:ah)(H:Hp)(a t nl l al kl:Addr)(ns:List Int)(nf:Nat->Str)(n:Nat)(ys zs:List V)(rows:List (List Int))(ts:List (Nat×Int)):Prop where
 w:Lz T K H a t nl ns nf n ys rows
 tl:Tls H l zs ts
 vt:Vt n ts
 sn:stn rows n ts≠[]
 ha:H al=some (.lst ((asn (sR nf rows ys.length) (knw rows n ts)).map V.str))
 hk:H kl=some (.tup (knw rows n ts))
theorem yx:((asd nf rows m n ts).map fun r=>V.str r.1)=(asn (sR nf rows m) (knw rows n ts)).map V.str:=by
 unfold asn;rw[aY];rfl
section
variable {G:Gam}{K:ah}{T:Tb}{E:XS}{D:Ends}{Q:VK}{H:Hp}{a t nl l al kl gt lk ak du mr:Addr}{ns:List Int}{nf:Nat->Str}{n:Nat}{ys zs:List V}{rows:List (List Int)}{ts:List (Nat×Int)}{x2 x3 x4 x5 x8 x9 x10 x11 x12 x13 x14 x15 x16 x17:Option V}
theorem Lz.gr(w:Lz T K H a t nl ns nf n ys rows)(g:Gr T H H'):Lz T K H' a t nl ns nf n ys rows:=⟨g.seq w.tb w.sq,w.d.gr g w.tb,w.ne,g.tab w.tb,g.lst w.tb w.hn,w.m14,w.inj⟩
theorem Lq.gr(w:Lq T K H a t nl l al kl ns nf n ys zs rows ts)(g:Gr T H H'):Lq T K H' a t nl l al kl ns nf n ys zs rows ts:=⟨w.w.gr g,w.tl.gr g w.w.tb,w.vt,w.sn,g.lst w.w.tb w.ha,g.sH w.w.tb w.hk⟩
theorem Lq.same(w:Lq T K H a t nl l al kl ns nf n ys zs rows ts)(s:aO H H'):Lq T K H' a t nl l al kl ns nf n ys zs rows ts:=w.gr (Gr.of s)
theorem Lq.tbl(w:Lq T K H a t nl l al kl ns nf n ys zs rows ts):M7.Tbl rows n:=w.w.d.tbl w.w.ne
theorem Lq.nd(w:Lq T K H a t nl l al kl ns nf n ys zs rows ts):(asn (sR nf rows ys.length) (knw rows n ts)).Nodup:=Cc ((Ge w.w.d).sublist (gO.map _))
theorem lz_20(g:G4 G K T){dd:List Str}(w:Lq T K H a t nl l al kl ns nf n ys zs rows ts)(d2:Tn H gt nf2 n ys2 rows2)(ne2:ys2≠[])(es:∀r,r∈rows↔r∈rows2)(hdu:H du=some (.lst (dd.map V.str)))(dn:dd.Nodup)(d64:dd.length<64)(em:∀x,x∈asn (sR nf2 rows2 ys2.length) (knw rows2 n ts)↔x∈dd)(hD:D.rt=Q)(q:∀H',Q (.bl true) H'):
  wpB G K E uv D [some (.ref a),some (.int n),x2,x3,x4,x5,some (.ref nl),some (.ref t),some (.ref l),some (.ref al),some (.ref kl),x11,x12,some (.ref gt),x14,x15,x16,some (.ref du)] H:=by
 have t2:=d2.tbl ne2;have sn2:stn rows2 n ts≠[]:=by rw[<-sN w.tbl t2 es];exact w.sn
 unfold uv;walk_at "wp";refine⟨_,_,g.c8,gt,l,nf2,n,ys2,zs,rows2,ts,rfl,d2,ne2,w.w.tb,w.tl,w.vt,sn2,fun H1 p g1 hp=>?_⟩;have w1:=w.gr g1;rw[<-zU w.tbl t2 es]at hp;obtain⟨r1,r2⟩:=xr (K:=K) hp tO;refine Cs r1 (xr w1.hk tO).1 r2 ⟨_,rfl,?_⟩;rw[if_pos rfl];have d21:=d2.gr g1 w.w.tb;refine⟨_,_,g.c5,gt,l,nf2,n,ys2,zs,rows2,ts,rfl,d21,ne2,w1.w.tb,w1.tl,w.vt,sn2,fun H2 f g2 hf=>?_⟩;rw[yx]at hf;have hdu2:=(g1.trans g2).lst w.w.tb hdu;refine⟨du,_,dd,rfl,SqL.of hdu2,d64,dn,.inl rfl,fun p3 hp3=>?_⟩;have s3:=aC (o:=.lst (_root_.Q.sortBy V.non dd (dd.map V.str))) hp3;have e3:upd H2 p3 (.lst (_root_.Q.sortBy V.non dd (dd.map V.str))) p3=some (.lst (_root_.Q.sortBy V.non dd (dd.map V.str))):=ax;generalize upd H2 p3 (.lst (_root_.Q.sortBy V.non dd (dd.map V.str)))=H3 at s3 e3;rw[vF dn,<-up_eq (l:=asn (sR nf2 rows2 ys2.length) (knw rows2 n ts)) ((Ge d2).sublist (gO.map _)) (_root_.Q.eV dn) (fun x=>by rw[em,(_root_.Q.eF ("":Str) dn rfl).mem_iff])]at e3;obtain⟨r3,r4⟩:=Bl (K:=K) (s3 _ _ hf);refine Cs r3 (Bl e3).1 r4 ?_;rw[hD];exact q _
theorem Dh{p o:Addr}{os:List Str}(hi:σ[i]? =some (some (.ref p)))(hj:(σ[j]?).getD none=some (.ref o))(hp:H p=some (.lst (ks.map V.str)))(ho:H o=some (.lst (os.map V.str)))(k60:ks.length<=60)(q:∀H1 b,aO H H1->H1 b=none->Q (.ref b) (upd H1 b (.lst ((ks.filter fun x=> !decide (x∈os)).map V.str)))):
  qN (zY K (lV i)) (kM 0) (sI (tOp (fZ K CmpOp.NotIn) (lV 0) (lV 1))) (lV 0) (i4 [z] [j]) σ H Q:=by
 refine cM (bQ hi (SqL.of hp) (m7 (ds:=ks) (by rw[ai]) dj (eK (by rw[ai];omega)) (fun H1 s1=>SqL.of (s1 _ _ hp)) (fun x=> !decide (x∈os)) (fun _ x=>.str x) (fun τ=>∃u,τ=[u,some (.ref o)]) ⟨none,by unfold i4;rw[bA,iK,bA,iK,hj];rfl⟩ ?_ ?_))
 ·rintro i x r τ H3 Rt Rf hx hr ⟨u,rfl⟩ s3 kt kf
  rw[ao,hr]at hx;cases hx;walk_at "wp";refine zJ (s3 _ _ ho) ⟨_,rfl,?_⟩;cases c: !decide (r∈os)with
  |true=>rw[if_pos rfl];exact kt _ _ ⟨_,rfl⟩ (aO.refl _) c
  |false=>rw[if_neg (by decide)];exact kf _ _ ⟨_,rfl⟩ (aO.refl _) c
 ·intro H1 b s1 hb
  rw[wJ (fun x=> !decide (x∈os)) (fun x=>V.str x) (by rw[ai])];exact q H1 b s1 hb
theorem Iu(xs:List V)(b:Bool):uc xs (some (if b then 1 else 0)) none=xs.drop (if b then 1 else 0):=by
 unfold uc;rw[HT.zm];cases b with
 |true=>
  rw[if_pos rfl,if_pos rfl,show HT.sIx xs.length 0 (some 1)=min 1 xs.length from HT.oU _ _ 1];rw[eL (by rw[uR];omega)];cases xs<;>simp
 |false=>
  rw[if_neg (by decide),if_neg (by decide),show HT.sIx xs.length 0 (some 0)=min 0 xs.length from HT.oU _ _ 0];simp
theorem lz_18(g:G4 G K T){s:Str}{like alike:List Str}(w:Lq T K H a t nl l al kl ns nf n ys zs rows ts)(d2:Tn H gt nf2 n ys2 rows2)(ne2:ys2≠[])(es:∀r,r∈rows↔r∈rows2)(mr:Mr (sR nf rows ys.length) (sR nf2 rows2 ys2.length) s v)(hlk:H lk=some (.lst (like.map V.str)))(hak:H ak=some (.lst (alike.map V.str)))(hl:∀x,x∈like↔(x,v)∈sR nf rows ys.length)(ha:alike.Pairwise fun a b=>_root_.Q.tlt a b=true)(hm:∀x,x∈alike↔(x,v)∈sR nf2 rows2 ys2.length)(ll:like.length<=15)(al16:alike.length<=16)(hD:D.rt=Q)(q:∀H',Q (.bl true) H'):
  wpB G K E uw D [some (.ref a),some (.int n),x2,x3,x4,x5,some (.ref nl),some (.ref t),some (.ref l),some (.ref al),some (.ref kl),x11,x12,some (.ref gt),some (.ref lk),some (.ref ak),x16,x17] H:=by
 have al15:(asn (sR nf rows ys.length) (knw rows n ts)).length<=15:=by
  have :=w.w.d.len
  have e:=Bi w.w.d;unfold asn;rw[ai];exact aT (dY _ _) (by omega)
 unfold uw;walk_at "wp";refine Dh rfl rfl hlk w.ha (by omega) fun H1 p s1 hp=>⟨aX _,fun p2 hp2=>?_⟩;generalize ef:like.filter (fun x=> !decide (x∈asn (sR nf rows ys.length) (knw rows n ts)))=fl at hp2⊢;have s2:=aC (o:=.lst (fl.map V.str)) hp;have e2:upd H1 p (.lst (fl.map V.str)) p=some (.lst (fl.map V.str)):=ax;generalize upd H1 p (.lst (fl.map V.str))=H2 at s2 e2 hp2;have s3:=aC (o:=.lst []) hp2;have e3:upd H2 p2 (.lst []) p2=some (.lst []):=ax;generalize upd H2 p2 (.lst [])=H3 at s3 e3;obtain⟨r1,r2⟩:=Bl (K:=K) (s3 _ _ e2);refine⟨_,_,r1,(show Rep K H3 (.lst []) (.ref p2)from⟨p2,[],rfl,SqL.of e3,rfl⟩),r2,.inr ⟨_,rfl,?_⟩⟩;have eb:(!eqD (.lst (fl.map .str)) (.lst []))=decide (fl≠[]):=by cases fl<;>rfl
 rw[eb];have hb:decide (fl≠[])=true↔∃x∈like,x∉asn (sR nf rows ys.length) (knw rows n ts):=by
  rw[decide_eq_true_eq,<-ef];constructor
  ·intro z
   obtain⟨x,hx⟩:=List.exists_mem_of_ne_nil _ z;obtain⟨h1,h2⟩:=aN.mp hx;exact⟨x,h1,by simpa using h2⟩
  ·rintro⟨x,h1,h2⟩ z
   have :x∈like.filter (fun x=> !decide (x∈asn (sR nf rows ys.length) (knw rows n ts))):=aN.mpr ⟨h1,by simpa using h2⟩;rw[z]at this;cases this
 generalize decide (fl≠[])=b at hb;have s13:=s1.trans (s2.trans s3);have w3:=w.same s13;unfold Ar;walk_at "wp";refine Dh rfl rfl w3.ha (s13 _ _ hlk) (by omega) fun H4 p4 s4 hp4=>?_;generalize ef4:(asn (sR nf rows ys.length) (knw rows n ts)).filter (fun x=> !decide (x∈like))=fa;have fal:fa.length<=15:=by rw[<-ef4];exact aT (dY _ _) al15
 have s5:=aC (o:=.lst (fa.map V.str)) hp4;have e5:upd H4 p4 (.lst (fa.map V.str)) p4=some (.lst (fa.map V.str)):=ax;generalize upd H4 p4 (.lst (fa.map V.str))=H5 at s5 e5;have s15:=s13.trans (s4.trans s5);refine .inl ⟨ak,_,rfl,SqL.of (s15 _ _ hak),fun p6 hp6=>?_⟩;rw[Iu,<-List.map_drop];generalize hdr:alike.drop (if b then 1 else 0)=dr;have drl:dr.length<=16:=by rw[<-hdr,uR];omega
 have s6:=aC (o:=.lst (dr.map V.str)) hp6;have e6:upd H5 p6 (.lst (dr.map V.str)) p6=some (.lst (dr.map V.str)):=ax;generalize upd H5 p6 (.lst (dr.map V.str))=H6 at s6 e6;refine .inr (.inr (.inl ⟨p4,p6,_,_,rfl,rfl,s6 _ _ e5,e6,?_,fun p7 hp7=>?_⟩))
 ·rw[ai,ai]
  exact aT (by omega:_<=60) (by decide)
 rw[<-bZ];have s7:=aC (o:=.lst ((fa++dr).map V.str)) hp7;have e7:upd H6 p7 (.lst ((fa++dr).map V.str)) p7=some (.lst ((fa++dr).map V.str)):=ax;generalize upd H6 p7 (.lst ((fa++dr).map V.str))=H7 at s7 e7;have s17:=s15.trans (s6.trans s7);have ek:=zU (ts:=ts) w.tbl (d2.tbl ne2) es;refine lz_20 g (w.same s17) (d2.same s17) ne2 es e7 ?_ (by rw[a9];omega) (fun x=>?_) hD q
 ·rw[<-ef4,<-hdr]
  exact mr.due_nd w.nd hl ha hm (fun x=>by simp) _
 ·rw[<-ek,mr.due hl ha hm hb x,<-ef4,<-hdr,bc,aN]
  simp
noncomputable def nfm(nf:Nat->Str)(m k:Nat):Str:=if k=m then nf 14 else nf k
theorem Tn_more{r:Addr}(w:Lz T K H a t nl ns nf n ys rows)(s:aO H H2)(e:H2 gt=some (.lst (ys++[.ref mr])))(hm:H2 mr=some (.tup [.str (nf 14),.ref r]))(hr:H2 r=some (.tup (v.map V.int)))(hv:v∈rows):Tn H2 gt (nfm nf ys.length) n (ys++[.ref mr]) (rows++[v]) where
 et:=e
 ln:=by rw[a9,a9,w.d.ln];rfl
 row:=fun i y h=>by
  unfold nfm;by_cases c:i<ys.length
  ·rw[dW c]at h
   obtain⟨b,r',e1,e2,e3⟩:=w.d.row i y h;refine⟨b,r',e1,?_,?_⟩
   ·rw[if_neg (by omega)];exact s _ _ e2
   ·rw[s _ _ e3,af,af,dW (by rw[w.d.ln];exact c)]
  ·have hi:=(aH.mp h).1
   rw[a9,bS]at hi;have ei:i=ys.length:=by omega
   subst ei;rw[cZ (aA _),Fl]at h;cases h;refine⟨mr,r,rfl,?_,?_⟩
   ·rw[if_pos rfl];exact hm
   ·rw[hr,af,cZ (by rw[w.d.ln];exact aA _),w.d.ln,Fl]
    rfl
 ok:=fun i=>by unfold nfm;split <;>exact w.d.ok _
 inj:=fun i j h1 h2 h=>by
  have m14:=w.m14;rw[a9,bS]at h1 h2;unfold nfm at h;split at h<;>split at h
  ·omega
  ·have :=w.inj _ _ (by omega) (by omega) h;omega
  ·have :=w.inj _ _ (by omega) (by omega) h;omega
  ·exact w.d.inj i j (by omega) (by omega) h
 len:=by rw[a9,bS];have :=w.m14;omega
 n10:=w.d.n10
 rd:=fun x hx=>by
  rcases bc.mp hx with z|z
  ·exact w.d.rd x z
  ·rw[aD.mp z];exact w.d.rd v hv
 mis:=fun i j h1 h2=>(w.d.mis i j h1 h2).sub fun x hx=>by
  rcases bc.mp hx with z|z
  ·exact z
  ·rw[aD.mp z];exact hv
theorem mr_more(w:Lz T K H a t nl ns nf n ys rows)(d2:Tn H2 gt (nfm nf ys.length) n ys2 (rows++[v]))(y2:ys2.length=ys.length+1)(hv:v∈rows):Mr (sR nf rows ys.length) (sR (nfm nf ys.length) (rows++[v]) ys2.length) (nf 14) v where
 one:=fun r hr o ho e=>Es (Ge d2) hr ho e
 mem:=fun o=>by
  have left:∀i,i<ys.length->(nfm nf ys.length i,(rows++[v]).getD i [])=(nf i,rows.getD i []):=fun i hi=>by
   unfold nfm;rw[if_neg (by omega),af,af,dW (by rw[w.d.ln];exact hi)]
  have last:(nfm nf ys.length ys.length,(rows++[v]).getD ys.length [])=(nf 14,v):=by
   unfold nfm;rw[if_pos rfl,af,cZ (by rw[w.d.ln];exact aA _),w.d.ln,Fl];rfl
  rw[gV d2,gV w.d,y2];constructor
  ·rintro⟨i,hi,rfl⟩
   by_cases c:i<ys.length
   ·exact .inl ⟨i,c,left i c⟩
   ·have :i=ys.length:=by omega
    subst this;exact .inr last
  ·rintro(⟨i,hi,rfl⟩ |rfl)
   ·exact⟨i,by omega,(left i hi).symm⟩
   ·exact⟨ys.length,by omega,last.symm⟩
 ex:=by
  obtain⟨i,hi⟩:=cj.mp hv;exact⟨nf i,(gV w.d).mpr ⟨i,by rw[<-w.d.ln];exact(aH.mp hi).1,by rw[getD_some hi]⟩⟩
theorem lz_14(g:G4 G K T)(w:Lq T K H a t nl l al kl ns nf n ys zs rows ts)(hD:D.rt=Q)(q:∀H',Q (.bl true) H'):
  wpB G K E uy D [some (.ref a),some (.int n),x2,x3,x4,x5,some (.ref nl),some (.ref t),some (.ref l),some (.ref al),some (.ref kl),x11,x12,x13,x14,x15,x16,x17] H:=by
 have yl:0<ys.length:=dI.mpr w.w.ne;have m14:=w.w.m14;have rl:=w.w.d.ln;unfold uy;walk_at "wp";refine .inl ⟨nl,_,14,_,rfl,rfl,SqL.of w.w.hn,cX (j:=14) rfl,_,_,g.c1,_,_,g.c0,a,ns,0,rfl,w.w.sq,_,7,rfl,by decide,by decide,.inl ⟨t,_,rfl,.inl (SqL.of w.w.d.et),xQ.mpr ⟨by omega,?_⟩⟩⟩;have h0:0<=K21.draw (ns.getD 0 0) 7%(ys.length:Int):=bE _ (by omega);have h1:K21.draw (ns.getD 0 0) 7%(ys.length:Int)<ys.length:=bM _ (by omega);obtain⟨z,hz⟩:=cW h0;rw[hz];have hzl:z<ys.length:=by omega
 obtain⟨b,r,e1,e2,e3⟩:=w.w.d.row z _ (aa hzl);refine .inl ⟨t,_,z,_,rfl,rfl,SqL.of w.w.d.et,cX (by rw[aa hzl,e1]),.inr (.inl ⟨b,_,1,_,rfl,rfl,SqT.of e2,rfl,by show 2<=sizeLine;decide,fun mr hmr=>?_⟩)⟩;have hv:rows.getD z []∈rows:=w.w.d.get hzl;generalize rows.getD z []=v at e3 hv;have s1:=aC (o:=.tup [.str (nf 14),.ref r]) hmr;have em:upd H mr (.tup [.str (nf 14),.ref r]) mr=some (.tup [.str (nf 14),.ref r]):=ax;generalize upd H mr (.tup [.str (nf 14),.ref r])=H1 at s1 em;have er:=s1 _ _ e3;have w1:=w.same s1;unfold Av;walk_at "wp";refine⟨by show 1<=sizeLine;decide,fun p hp=>?_⟩;have s2:=aC (o:=.lst [.ref mr]) hp;have ep:upd H1 p (.lst [.ref mr]) p=some (.lst [.ref mr]):=ax;generalize upd H1 p (.lst [.ref mr])=H2 at s2 ep;have w2:=w1.same s2;refine .inr (.inr (.inl ⟨t,p,_,_,rfl,rfl,w2.w.d.et,ep,?_,fun gt hgt=>?_⟩))
 ·rw[bS]
  exact aT (by omega:_<=60) (by decide)
 have s3:=aC (o:=.lst (ys++[.ref mr])) hgt;have eg:upd H2 gt (.lst (ys++[.ref mr])) gt=some (.lst (ys++[.ref mr])):=ax;generalize upd H2 gt (.lst (ys++[.ref mr]))=H3 at s3 eg;have em3:=s3 _ _ (s2 _ _ em);have er3:=s3 _ _ (s2 _ _ er);have w3:=w2.same s3;have d3:=Tn_more w2.w s3 eg em3 er3 hv;have y2:(ys++[V.ref mr]).length=ys.length+1:=by rw[a9];rfl
 have hne:ys++[V.ref mr]≠[]:=fun z=>by rw[z]at y2;cases y2
 have M:=mr_more w3.w d3 y2 hv;generalize ys++[V.ref mr]=ys2 at d3 y2 hne M;have es:∀x,x∈rows↔x∈rows++[v]:=fun x=>by
  rw[bc,aD];exact⟨.inl,fun z=>z.elim id fun e=>e▸hv⟩
 unfold Au;walk_at "wp";refine cM (bQ rfl (SqL.of w3.w.d.et) (m7 (ds:=aw ys.length) (by rw[ba]) dj (eK (by omega)) (fun H1 s1=>SqL.of (s1 _ _ w3.w.d.et)) (fun i=>decide (rows.getD i []=v)) (fun _ i=>.str (nf i)) (fun τ=>∃u u',τ=[u,u',some (.ref mr)]) ⟨none,none,rfl⟩ ?_ ?_))
 ·rintro i x k τ H4 Rt Rf hx hk ⟨u,u',rfl⟩ s4 kt kf
  obtain⟨hi,ek⟩:=aH.mp hk;rw[fO]at ek;subst ek;obtain⟨b',c,rfl,hb,hc⟩:=w3.w.d.row i x hx;refine⟨b',_,rfl,SqT.of (s4 _ _ hb),rfl,_,_,rfl,_,_,rfl,rfl,?_⟩;walk_at "wp";refine .inr (.inl ⟨mr,_,1,_,rfl,rfl,SqT.of (s4 _ _ em3),rfl,K83.nd1 (rows.getD i []),K83.nd1 v,⟨c,_,rfl,SqT.of (s4 _ _ hc),eO.ints _⟩,⟨r,_,rfl,SqT.of (s4 _ _ er3),eO.ints _⟩,?_,_,rfl,?_⟩)
  ·show eW ((rows.getD i []).map L2.D.int)+1<=30
   rw[kL];decide
  rw[yg];cases c:decide (rows.getD i []=v)with
  |true=>rw[if_pos rfl];exact kt _ _ ⟨_,_,rfl⟩ (aO.refl _) c
  |false=>rw[if_neg (by decide)];exact kf _ _ ⟨_,_,rfl⟩ (aO.refl _) c
 intro H4 lk s4 hlk;rw[wJ (fun i=>decide (rows.getD i []=v)) (fun i=>V.str (nf i)) (by rw[ba]),show(fun i=>V.str (nf i))=V.str∘nf from rfl,<-aY];have hl:∀x,x∈((aw ys.length).filter fun i=>decide (rows.getD i []=v)).map nf↔(x,v)∈sR nf rows ys.length:=fun x=>by
  rw[az,gV w3.w.d];constructor
  ·rintro⟨i,hi,rfl⟩
   obtain⟨h1,h2⟩:=aN.mp hi;exact⟨i,aM.mp h1,by rw[of_decide_eq_true h2]⟩
  ·rintro⟨i,hi,e⟩
   obtain⟨e1,e2⟩:=iY e;exact⟨i,aN.mpr ⟨aM.mpr hi,decide_eq_true e2.symm⟩,e1.symm⟩
 have ll:(((aw ys.length).filter fun i=>decide (rows.getD i []=v)).map nf).length<=14:=by
  rw[ai];exact aT (dY _ _) (by rw[ba];exact m14)
 have lnd:(((aw ys.length).filter fun i=>decide (rows.getD i []=v)).map nf).Nodup:=by
  rw[eQ,cS];refine(l7.filter _).imp_of_mem fun{i j} hi hj h e=>h ?_;exact w.w.d.inj i j (aM.mp (aN.mp hi).1) (aM.mp (aN.mp hj).1) e
 generalize((aw ys.length).filter fun i=>decide (rows.getD i []=v)).map nf=like at hl ll lnd;have s5:=aC (o:=.lst (like.map V.str)) hlk;have e5:upd H4 lk (.lst (like.map V.str)) lk=some (.lst (like.map V.str)):=ax;generalize upd H4 lk (.lst (like.map V.str))=H5 at s5 e5;have s35:=s4.trans s5;unfold As;walk_at "wp";refine .inr (.inl ⟨mr,_,0,_,rfl,rfl,SqT.of (s35 _ _ em3),rfl,by show 1<=sizeLine;decide,fun p6 hp6=>?_⟩);have s6:=aC (o:=.lst [.str (nf 14)]) hp6;have e6:upd H5 p6 (.lst [.str (nf 14)]) p6=some (.lst [.str (nf 14)]):=ax;generalize upd H5 p6 (.lst [.str (nf 14)])=H6 at s6 e6;refine .inr (.inr (.inl ⟨lk,p6,_,_,rfl,rfl,s6 _ _ e5,e6,?_,fun p7 hp7=>?_⟩))
 ·rw[ai,bS]
  exact aT (by omega:_<=60) (by decide)
 rw[show like.map V.str++[V.str (nf 14)]=(like++[nf 14]).map V.str by rw[bZ];rfl];have s7:=aC (o:=.lst ((like++[nf 14]).map V.str)) hp7;have e7:upd H6 p7 (.lst ((like++[nf 14]).map V.str)) p7=some (.lst ((like++[nf 14]).map V.str)):=ax;generalize upd H6 p7 (.lst ((like++[nf 14]).map V.str))=H7 at s7 e7;have nd7:(like++[nf 14]).Nodup:=by
  rw[cC];refine⟨lnd,by simp,fun x hx y hy e=>?_⟩;rw[aD]at hy;subst hy e;obtain⟨i,hi,e⟩:=(gV w3.w.d).mp ((hl _).mp hx);have :=w.w.inj 14 i (by omega) (by omega) (iY e).1;omega
 refine⟨p7,_,like++[nf 14],rfl,SqL.of e7,by rw[a9,bS];omega,nd7,.inl rfl,fun ak hak=>?_⟩;rw[vF nd7];have hal:=(_root_.Q.eF ("":Str) nd7 rfl);have hup:=_root_.Q.eV nd7;generalize _root_.Q.sortBy ("":Str) (like++[nf 14]) (like++[nf 14])=alike at hal hup;have s8:=aC (o:=.lst (alike.map V.str)) hak;have e8:upd H7 ak (.lst (alike.map V.str)) ak=some (.lst (alike.map V.str)):=ax;generalize upd H7 ak (.lst (alike.map V.str))=H8 at s8 e8;have s58:=s6.trans (s7.trans s8);have s38:=s35.trans s58;refine lz_18 g (w3.same s38) (d3.same s38) hne es M (s58 _ _ e5) e8 hl hup (fun x=>?_) (by omega) (by rw[hal.length_eq,a9,bS];omega) hD q;rw[hal.mem_iff,bc,aD,hl,M.mem];exact or_congr Iff.rfl ⟨fun e=>by rw[e],fun e=>(iY e).1⟩
theorem lz_12(g:G4 G K T){lf:Addr}(w:Lq T K H a t nl l al kl ns nf n ys zs rows ts)(hf:H lf=some (.lst ((lix nf rows ys.length n ts).map fun i=>ys.getD i .non)))(hD:D.rt=Q)(q:∀H',Q (.bl true) H'):
  wpB G K E uB D [some (.ref a),some (.int n),x2,x3,x4,x5,some (.ref nl),some (.ref t),some (.ref l),some (.ref al),some (.ref kl),some (.ref lf),x12,x13,x14,x15,x16,x17] H:=by
 have d:=w.w.d;have L:=lf_of d w.w.ne w.vt w.sn;have li:∀i∈lix nf rows ys.length n ts,i<ys.length:=fun i hi=>((ph d).mp hi).1;have lnd:(lix nf rows ys.length n ts).Nodup:=l7.filter _;have dl:=Tn_pick d (aO.refl H) li lnd hf;have ine:lix nf rows ys.length n ts≠[]:=fun z=>L.lt.ne (by rw[z];rfl);have lne:(lix nf rows ys.length n ts).map (fun i=>ys.getD i .non)≠[]:=fun z=>ine (Jk.mp z);have kn:=L.knw;have st:=L.stnL;have nil:asn (sR (fun k=>nf ((lix nf rows ys.length n ts).getD k 0)) ((lix nf rows ys.length n ts).map fun i=>rows.getD i []) ((lix nf rows ys.length n ts).map fun i=>ys.getD i .non).length) (knw rows n ts)=[]:=by
  rw[List.eq_nil_iff_forall_not_mem];intro x hx;obtain⟨u,h1,o,ho,c⟩:=jV.mp hx;have key:∀r,r∈sR (fun k=>nf ((lix nf rows ys.length n ts).getD k 0)) ((lix nf rows ys.length n ts).map fun i=>rows.getD i []) ((lix nf rows ys.length n ts).map fun i=>ys.getD i .non).length->∃i∈lix nf rows ys.length n ts,r=(nf i,rows.getD i []):=fun r hr=>by
   obtain⟨k,hk,rfl⟩:=(gV dl).mp hr;rw[ai]at hk;refine⟨(lix nf rows ys.length n ts).getD k 0,by rw[af,aa hk];exact bx hk,?_⟩;rw[getD_map (d:=0) hk]
  obtain⟨i,hi,e⟩:=key _ h1;obtain⟨j,hj,rfl⟩:=key _ ho;rw[e,((ph d).mp hi).2 _ ((gV d).mpr ⟨j,li j hj,rfl⟩)]at c;cases c
 generalize(lix nf rows ys.length n ts).map (fun i=>rows.getD i [])=left at L dl kn st nil;generalize(fun k=>nf ((lix nf rows ys.length n ts).getD k 0))=nfl at dl nil;generalize(lix nf rows ys.length n ts).map (fun i=>ys.getD i V.non)=yl at hf dl lne nil;have snl:stn left n ts≠[]:=by rw[st];exact w.sn
 have fin:∀H',Gr T H H'->wpB G K E uA D [some (.ref a),some (.int n),x2,x3,x4,x5,some (.ref nl),some (.ref t),some (.ref l),some (.ref al),some (.ref kl),some (.ref lf),x12,x13,x14,x15,x16,x17] H':=fun H1 g1=>by
  have w1:=w.gr g1;have dl1:=dl.gr g1 w.w.tb;unfold uA;walk_at "wp";refine⟨_,_,g.c7,lf,l,nfl,n,yl,zs,left,ts,rfl,dl1,lne,w1.w.tb,w1.tl,w.vt,snl,fun H2 f ws g2 hf2 p2=>?_⟩;have w2:=w1.gr g2;refine⟨_,_,g.c7,t,l,nf,n,ys,zs,rows,ts,rfl,w2.w.d,w.w.ne,w2.w.tb,w2.tl,w.vt,w.sn,fun H3 f3 ws3 g3 hf3 p3=>?_⟩;rw[st]at p2;obtain⟨r1,r2⟩:=Gz (K:=K) hf3 p3;refine Cr (Gz (g3.lst w2.w.tb hf2) (Paired.qt p2 fun _ _ ⟨b,e,h⟩=>⟨b,e,g3.tup w2.w.tb h⟩)).1 r1 r2 ⟨_,rfl,?_⟩;rw[if_neg (by decide)];exact lz_14 g (w2.gr g3) hD q
 unfold uB;walk_at "wp";refine⟨aX _,fun p hp=>?_⟩;have s1:=aC (o:=.lst []) hp;have e1:upd H p (.lst []) p=some (.lst []):=ax;generalize upd H p (.lst [])=H1 at s1 e1;have w1:=w.same s1;have dl1:=dl.same s1;obtain⟨ds,r1,r2⟩:=qO (K:=K) yl dl1.tab.2.2.1;refine⟨.lst ds,.lst [],⟨lf,_,rfl,SqL.of dl1.et,r1⟩,⟨p,[],rfl,SqL.of e1,rfl⟩,by show eW ds+1<=30;omega,_,rfl,?_⟩;have dne:eqD (.lst ds) (.lst [])=false:=by
  cases ds with
  |nil=>exact absurd (aV.mp r1.length) lne
  |cons a r=>rfl
 rw[dne,if_neg (by decide)];refine⟨_,_,g.c8,lf,l,nfl,n,yl,zs,left,ts,rfl,dl1,lne,w1.w.tb,w1.tl,w.vt,snl,fun H2 p2 g2 hp2=>?_⟩;rw[kn]at hp2;have w2:=w1.gr g2;obtain⟨k1,k2⟩:=xr (K:=K) hp2 tO;refine Cr k1 (xr w2.hk tO).1 k2 ⟨_,rfl,?_⟩;rw[if_neg (by decide)];refine⟨_,_,g.c5,lf,l,nfl,n,yl,zs,left,ts,rfl,dl1.gr g2 w1.w.tb,lne,w2.w.tb,w2.tl,w.vt,snl,fun H3 f g3 hf3=>⟨aX _,fun p4 hp4=>?_⟩⟩;rw[yx,kn,nil]at hf3;have s4:=aC (o:=.lst []) hp4;have e4:upd H3 p4 (.lst []) p4=some (.lst []):=ax;generalize upd H3 p4 (.lst [])=H4 at s4 e4;refine⟨.lst [],.lst [],⟨f,[],rfl,SqL.of (s4 _ _ hf3),rfl⟩,⟨p4,[],rfl,SqL.of e4,rfl⟩,by decide,_,rfl,?_⟩;rw[if_neg (by decide)];exact fin H4 ((Gr.of (T:=T) s1).trans (g2.trans (g3.trans (Gr.of s4))))
theorem lz_8(g:G4 G K T)(w:Lz T K H a t nl ns nf n ys rows)(hD:D.rt=Q)(q:∀H',Q (.bl true) H'):
  wpB G K E yt D [some (.ref a),some (.int n),x2,x3,x4,x5,some (.ref nl),some (.ref t),x8,x9,x10,x11,x12,x13,x14,x15,x16,x17] H:=by
 have m14:=w.m14;have n10:=w.d.n10;unfold yt;walk_at "wp";refine⟨_,_,g.c6,_,_,g.c0,a,ns,1,rfl,w.sq,?_⟩;refine cM (bQ rfl (SqL.of w.d.et) (c9 dj (eK (by omega)) (fun H1 s1=>SqL.of (s1 _ _ w.d.et)) (fun i v H'=>NdV K H' v (rows.getD i [])) (fun i v H5 H6 s h=>h.same s) (fun τ=>∃u w,τ=[u,w]) ⟨none,none,rfl⟩ ?_ ?_))
 ·rintro i x τ H3 R hi ⟨u1,u2,rfl⟩ s3 hx kk
  obtain⟨b,r,rfl,hb,hr⟩:=w.d.row i x hx;exact⟨b,_,rfl,SqT.of (s3 _ _ hb),rfl,_,_,rfl,_,_,rfl,rfl,_,rfl,kk _ _ _ ⟨_,_,rfl⟩ (aO.refl _) ⟨r,rfl,SqT.of (s3 _ _ hr)⟩⟩
 intro us H2 l2 hul hF s2 hl2;have s3:=s2.trans (aC (o:=.lst us) hl2);have e3:upd H2 l2 (.lst us) l2=some (.lst us):=ax;have pu:Paired (NdV K (upd H2 l2 (.lst us))) us rows:=K34.GL (by rw[hul,w.d.ln]) fun i u m q1 q2=>by
  have :=(hF i u q1).same (aC (o:=.lst us) hl2)
  rwa [getD_some q2]at this
 generalize upd H2 l2 (.lst us)=H3 at s3 e3 pu;have w3:=w.gr (Gr.of s3);refine⟨_,l2,n,us,rows,rfl,SqL.of e3,pu,(fun z=>w.ne (aV.mp (by rw[<-hul,z];rfl))),w.d.rd,n10,fun H4 l zs ts v s4 hl4 tl vt mv rv=>?_⟩;have w4:=w3.gr (Gr.of s4);have tbl:=w4.d.tbl w4.ne;have sn:stn rows n ts≠[]:=fun z=>by
  have :=FR tbl mv rv
  rw[z]at this;cases this
 unfold Dp;walk_at "wp";refine⟨_,_,g.c5,t,l,nf,n,ys,zs,rows,ts,rfl,w4.d,w.ne,w4.tb,tl,vt,sn,fun H5 al g5 ha=>?_⟩;rw[yx]at ha;have w5:=w4.gr g5;unfold Ax;walk_at "wp";refine⟨_,_,g.c8,t,l,nf,n,ys,zs,rows,ts,rfl,w5.d,w.ne,w5.tb,tl.gr g5 w4.tb,vt,sn,fun H6 kl g6 hk=>?_⟩;have w6:Lq T K H6 a t nl l al kl ns nf n ys zs rows ts:=⟨w5.gr g6,tl.gr (g5.trans g6) w4.tb,vt,sn,g6.lst w5.tb ha,hk⟩;unfold Aw;walk_at "wp";refine cM (bQ rfl (SqL.of w6.w.d.et) (m7 (ds:=aw ys.length) (by rw[ba]) dj (eK (by omega)) (fun H1 s1=>SqL.of (s1 _ _ w6.w.d.et)) (fun i=> !decide (nf i∈asn (sR nf rows ys.length) (knw rows n ts))) (fun x _=>x) (fun τ=>∃u,τ=[u,some (.ref al)]) ⟨none,rfl⟩ ?_ ?_))
 ·rintro i x k τ H7 Rt Rf hx hk ⟨u,rfl⟩ s7 kt kf
  obtain⟨hi,ek⟩:=aH.mp hk;rw[fO]at ek;subst ek;obtain⟨b,c,rfl,hb,hc⟩:=w6.w.d.row i x hx;walk_at "wp";refine .inr (.inl ⟨b,_,0,_,rfl,rfl,SqT.of (s7 _ _ hb),rfl,zJ (s7 _ _ w6.ha) ⟨_,rfl,?_⟩⟩);cases c: !decide (nf i∈asn (sR nf rows ys.length) (knw rows n ts))with
  |true=>rw[if_pos rfl];exact kt _ _ ⟨_,rfl⟩ (aO.refl _) c
  |false=>rw[if_neg (by decide)];exact kf _ _ ⟨_,rfl⟩ (aO.refl _) c
 intro H7 lf s7 hlf;rw[DN ys fun i=> !decide (nf i∈asn (sR nf rows ys.length) (knw rows n ts))];exact lz_12 g (w6.same (s7.trans (aC hlf))) (by rw[ax];rfl) hD q
theorem EO(xs:List V):(uc xs (some 3) (some 16)).length<=13:=by
 unfold uc;rw[cR,show HT.sIx xs.length xs.length (some 16)=min 16 xs.length from HT.oU _ _ 16,show HT.sIx xs.length 0 (some 3)=min 3 xs.length from HT.oU _ _ 3];omega
noncomputable def F5(K:ah)(T:Tb):Sp:=fun vs H Q _=>∃(a:Addr)(ns:List Int),vs=[.ref a]/\SqL K H a (ns.map V.int)/\ns.length<=63/\Tab T H/\∀H',Q (.bl true) H'
theorem wp_law(g:G4 G K T):Sat G K (F5 K T) IH Hg:=by
 rintro vs H Q E ⟨a,ns,rfl,hs,hn63,tb0,q⟩;unfold IH;change wpB G K _ _ _ [some (.ref a),none,none,none,none,none,none,none,none,none,none,none,none,none,none,none,none,none] H;walk_at "wp";refine cM (bQ rfl hs (c9 dj (by rw[ai];exact aT hn63 (by decide)) (fun H1 s1=>s1.seq hs) (fun i v _=>∃m:Int,v=.int m) (fun _ _ _ _ _ h=>h) (fun τ=>∃t,τ=[t,some (.ref a)]) ⟨none,rfl⟩ ?_ ?_))
 ·rintro i y τ H3 R hi ⟨t,rfl⟩ s3 hy k
  obtain⟨m,hm⟩:∃m:Int,y=.int m:=by
   obtain⟨m,_,rfl⟩:=az.mp (aI hy);exact⟨m,rfl⟩
  subst hm;walk_at "wp";refine⟨qX (by decide) (by decide),.inl ⟨a,_,rfl,s3.seq hs,fun l hl=>?_⟩⟩;obtain⟨ms,em⟩:=Ae ns none (some 1);refine⟨l,ms,rfl,by rw[<-em];exact SqL.of ax,?_⟩;walk_at "wp";exact⟨by decide,k _ _ _ ⟨_,rfl⟩ (aC hl) ⟨_,rfl⟩⟩
 intro vs H1 b hvl hF s1 hb;obtain⟨ns',rfl⟩:=K21.rX hF;have s2:aO H (upd H1 b (.lst (ns'.map V.int))):=s1.trans (aC hb);have eb:upd H1 b (.lst (ns'.map V.int)) b=some (.lst (ns'.map V.int)):=ax;generalize upd H1 b (.lst (ns'.map V.int))=H2 at s2 eb⊢;have tb2:=(Gr.of (T:=T) s2).tab tb0;unfold Dw;walk_at "wp";refine⟨_,_,g.c1,_,_,g.c0,b,ns',1,rfl,SqL.of eb,_,3,rfl,by decide,by decide,?_⟩;walk_at "wp";have h0:0<=K21.draw (ns'.getD 1 0) 3%9:=bE _ (by decide);have h1:K21.draw (ns'.getD 1 0) 3%9<9:=bM _ (by decide);obtain⟨n,hn⟩:=cW h0;rw[hn];have n10:n<=10:=by omega
 refine⟨by decide,?_⟩;obtain⟨ms,em⟩:=Ae ns' (some 3) (some 16);have hml:ms.length<=13:=by
  have :=EO (ns'.map V.int)
  rw[em,ai]at this;exact this
 unfold Dv;walk_at "wp";refine⟨_,_,g.c0,b,ns',2,rfl,SqL.of eb,(by show 1<=sizeLine;decide),fun p1 hp1=>?_⟩;have s3:=aC (o:=.lst [.int (ns'.getD 2 0)]) hp1;have e3:upd H2 p1 (.lst [.int (ns'.getD 2 0)]) p1=some (.lst [.int (ns'.getD 2 0)]):=ax;generalize upd H2 p1 (.lst [.int (ns'.getD 2 0)])=H3 at s3 e3;refine .inl ⟨b,_,rfl,SqL.of (s3 _ _ eb),fun p2 hp2=>?_⟩;rw[em];have s4:=aC (o:=.lst (ms.map V.int)) hp2;have e4:upd H3 p2 (.lst (ms.map V.int)) p2=_:=ax;generalize upd H3 p2 (.lst (ms.map V.int))=H4 at s4 e4;refine .inr (.inr (.inl ⟨p1,p2,_,_,rfl,rfl,s4 _ _ e3,e4,?_,fun p3 hp3=>?_⟩))
 ·rw[ai,bS]
  exact aT (by omega:_<=60) (by decide)
 have ecs:[V.int (ns'.getD 2 0)]++ms.map V.int=(ns'.getD 2 0::ms).map V.int:=rfl;rw[ecs];have hcl:(ns'.getD 2 0::ms).length<=14:=by rw[bG];omega
 have hc0:(ns'.getD 2 0::ms)≠[]:=fun z=>nomatch z;generalize ns'.getD 2 0::ms=ms at hcl hc0;have s5:=aC (o:=.lst (ms.map V.int)) hp3;have ep:upd H4 p3 (.lst (ms.map V.int)) p3=_:=ax;generalize upd H4 p3 (.lst (ms.map V.int))=H5 at s5 ep;have s25:=s3.trans (s4.trans s5);unfold Du;walk_at "wp";refine⟨_,_,g.c3,p3,ms,n,rfl,SqL.of ep,hcl,n10,fun H6 pr nd lk ys s6 epr fnd end6 hy0 hyl vs5 ik gt=>?_⟩;refine⟨pr,_,rfl,SqT.of epr,rfl,_,_,rfl,_,_,rfl,rfl,?_⟩;have s26:=s25.trans s6;unfold Dt;walk_at "wp";refine⟨_,_,g.c4,p3,nd,ms,ys,rfl,SqL.of (s6 _ _ ep),SqL.of end6,hcl,hy0,fun H7 l2 hs2 s7 hl2 el2 hhl hh=>?_⟩;have s27:=s26.trans s7;unfold Ds;walk_at "wp";refine⟨_,_,g.c2,_,_,g.c0,b,ns',0,rfl,SqL.of (s27 _ _ eb),_,15,rfl,by decide,fun H8 l s8 hl el=>?_⟩;generalize ns'.getD 0 0=c at el;have s28:=s27.trans s8;have s68:=s7.trans s8;have end8:=s68 _ _ end6;have el28:=s8 _ _ el2;have ik8:=dM (Tk.of s68) ik;have yl:vs5.length=ys.length:=iD ik;have iat:∀z,z<ys.length->∃r,ys[z]? =some (.ref r)/\H8 r=some (.tup ((vs5.getD z []).map V.int)):=fun z hz=>by
  obtain⟨k,e,r,h1,h2⟩:=K83.GN ik8 (aa hz);refine⟨r,by rw[aa hz,h1],?_⟩;rw[getD_some e];exact h2
 have hs14:hs2.length<=14:=by omega
 unfold Dq;walk_at "wp";refine cM ?_;walk_at "wp";refine Or.inl ⟨l2,_,rfl,.inl (SqL.of el28),_,rfl,by rw[ai];omega,by rw[ai];omega,?_⟩;refine c9 dJ (short (by simp;omega)) (fun _ _=>trivial) (fun k v H'=>∃b r,v=.ref b/\H' b=some (.tup [.str (K21.nm c k),.ref r])/\H' r=some (.tup ((vs5.getD (hs2.getD k 0).toNat []).map V.int)))
  (fun k v H8 H9 s ⟨b,r,h1,h2,h3⟩=>⟨b,r,h1,s _ _ h2,s _ _ h3⟩) (fun τ=>∃t,τ=[t,some (.ref l),some (.ref nd),some (.ref l2)]) ⟨none,rfl⟩ ?_ ?_
 ·rintro k x τ H9 R hk ⟨t,rfl⟩ s9 rfl kk
  walk_at "wp"
  simp only[eA];have hk':k<hs2.length:=by simpa using hk
  have hb':((aw 15).map fun k=>V.str (K21.nm c k))[k]? =some (.str (K21.nm c k)):=by
   rw[ao,bU (by omega)];rfl
  have hgd:hs2.getD k 0∈hs2:=by rw[af,aa hk'];exact bx hk'
  obtain⟨i0,i1⟩:=hh _ hgd;obtain⟨z,hz⟩:=cW i0;have hzl:z<ys.length:=by omega
  obtain⟨r,e1,e2⟩:=iat z hzl;refine .inl ⟨l,_,k,_,rfl,rfl,SqL.of (s9 _ _ el),cX hb',?_⟩;refine .inl ⟨l2,_,k,_,rfl,rfl,SqL.of (s9 _ _ el28),cX (fC hk'),?_⟩;rw[hz];refine .inl ⟨nd,_,z,_,rfl,rfl,SqL.of (s9 _ _ end8),cX e1,short (by simp),fun tp htp=>?_⟩;refine kk _ _ _ ⟨_,rfl⟩ (aC htp) ⟨tp,r,rfl,ax,?_⟩;rw[hz,aU];exact aC htp _ _ (s9 _ _ e2)
 ·intro vs H9 t hvl hF s9 ht
  have hvl':vs.length=hs2.length:=by simpa using hvl
  have s10:=aC (o:=.lst vs) ht;have et:upd H9 t (.lst vs) t=_:=ax;generalize upd H9 t (.lst vs)=H10 at s10 et;have sall:=s28.trans (s9.trans s10);have gm:∀k,k<hs2.length->vs5.getD (hs2.getD k 0).toNat []∈vs5:=fun k hk=>by
   have hgd:hs2.getD k 0∈hs2:=by rw[af,aa hk];exact bx hk
   obtain⟨i0,i1⟩:=hh _ hgd;have :(hs2.getD k 0).toNat<vs5.length:=by omega
   rw[af,aa this];exact bx this
  have sub:∀x∈(aw hs2.length).map (fun k=>vs5.getD (hs2.getD k 0).toNat []),x∈vs5:=fun x hx=>by
   obtain⟨k,hk,rfl⟩:=az.mp hx;exact gm k (aM.mp hk)
  have d9:Tn H10 t (K21.nm c) n vs ((aw hs2.length).map fun k=>vs5.getD (hs2.getD k 0).toNat []):=by
   refine⟨et,by simp[hvl'],fun i y e=>?_,K21.nm_ok c,fun i j hi hj e=>K21.Ha (by omega) (by omega) e,by omega,n10,fun x hx=>gt.ok x (sub x hx),fun i j h1 h2=>(gt.mis i j h1 h2).sub sub⟩;obtain⟨b',r,h1,h2,h3⟩:=hF i y e;refine⟨b',r,h1,s10 _ _ h2,?_⟩;have hi:i<hs2.length:=by rw[<-hvl'];exact(aH.mp e).1
   rw[s10 _ _ h3,af (l:=(aw hs2.length).map _),ao,bU hi];rfl
  have hne:vs≠[]:=fun z=>by
   rw[z,jC]at hvl';exact hc0 (aV.mp (by omega))
  exact lz_8 g ⟨SqL.of (sall _ _ eb),d9,hne,(Gr.of (T:=T) sall).tab tb2,(s9.trans s10) _ _ el,by omega,fun i j hi hj e=>K21.Ha (by omega) (by omega) e⟩ rfl q
end
end K74
set_option maxHeartbeats 0
namespace K74
open PySem PySem.Spec PySem.Calls PyProof.Rows L2 R Cp Lt Lm
noncomputable def Hq(st:Stmt):Pos:=match bf st with
 |_::.Assign _ (.Call _ _ [⟨_,.Lambda _ _ _ p,_⟩] _) _::_=>p
 |_=>⟨0,0,0,0⟩
noncomputable def tb(p:Addr):Tb:=⟨p,Hq (top 18),"table_list.<locals>.<lambda>"⟩
theorem tl_ok:(oY i6 oW (aP (top 18))&&chkK (aP (top 18)) i6 j9 1 (.var 0) "copy" (Hq (top 18)) j8 (bf (top 18)))=true:=by decide+kernel
theorem tl_q:("table_list":Str)++".<locals>."++"<lambda>"="table_list.<locals>.<lambda>":=by decide+kernel
noncomputable def vals(C kd:Addr):List (Str×V):=[("LETTERS",.str LETTERS),("LONGEST_NAME",.int 8),("MOST_PLACES",.int 60),("MOST_COPIES",.int 40),("NoTable",.ref C),("KINDS",.ref kd)]
theorem rU{i j:Int}{t u:Tok}(l:K.lookup a=some ⟨.type "tuple",od,.seq #[.int i t,.int j u] n,sl⟩)(H:Hp):SqT K H a [.int i,.int j]:=
 .inr ⟨_,_,_,l,rfl,rfl,by show 2<=sizeLine;decide,.cons ⟨t,rfl⟩ (.cons ⟨u,rfl⟩ .nil)⟩
theorem Ht{a0 a1 a2 a3:Addr}{n0 n1 n2 n3:Nat}{s1:Array (Option Value)}{t0 t1 t2 t3 u0 u1 u2 u3:Tok}(l:K.lookup kd=some ⟨.type "tuple",od,.seq #[.ref a0,.ref a1,.ref a2,.ref a3] n,sl⟩)
  (l0:K.lookup a0=some ⟨.type "tuple",o0,.seq #[.int 0 t0,.int 0 u0] n0,s0⟩)(l1:K.lookup a1=some ⟨.type "tuple",o1,.seq #[.int 0 t1,.int 1 u1] n1,s1⟩)(l2:K.lookup a2=some ⟨.type "tuple",o2,.seq #[.int 1 t2,.int 0 u2] n2,s2⟩)(l3:K.lookup a3=some ⟨.type "tuple",o3,.seq #[.int 1 t3,.int 1 u3] n3,s3⟩):Kc.Kinds K kd:=
 ⟨a0,a1,a2,a3,fun H=>⟨.inr ⟨_,_,_,l,rfl,rfl,by show 4<=sizeLine;decide,.cons rfl (.cons rfl (.cons rfl (.cons rfl .nil)))⟩,rU l0 H,rU l1 H,rU l2 H,rU l3 H⟩⟩
noncomputable def yB(K:ah)(x:Str)(st:Stmt)(c p:Addr):Prop:=∃(f:Addr)(oc:Value)(od an:Option Addr)(osl:Array (Option Value))(kV doc pm ct:Value),eI K bP x=some (some (.ref f))/\
 K.lookup f=some ⟨oc,od,.func (aK x x (bD st) (bf st) (aP st) .none kV doc pm an (.ref c) ct),osl⟩/\fo K (.ref c) x=true/\cU K (.ref f)=true/\Ji K c p=true
theorem vX{st:Stmt}{p:Addr}{an:Option Addr}{kV:Value}(a:eI K bP x=some (some (.ref f)))
  (l:K.lookup f=some ⟨oc,od,.func (aK x x (bD st) (bf st) (aP st) .none kV doc pm an (.ref c) ct),osl⟩)(k:fo K (.ref c) x=true)(q:cU K (.ref f)=true)(h:Ji K c p=true):∃c,yB K x st c p:=
 ⟨c,f,oc,od,an,osl,kV,doc,pm,ct,a,l,k,q,h⟩
theorem add_fnK{vals:List (Str×V)}{fns:List ((Str×Nat)×(Sp×List V))}{st:Stmt}{ps:List Str}{sp:Sp}{c1:CS}{ce:R.CE}{c2:CB}{T:Tb}{inis:List ((Str×Nat)×(Addr×Sp×List V))}{dics:List (Addr×List (Key×V))}
  (g:GOk P w K mg base (CXx P w) k (gam vals fns inis dics))(X:K.In h)(Xb:K.In base)(Gm:h.Ns bP mg)(d:yB K x st c T.P)(hc:(oY N ps (aP st)&&chkK (aP st) N c1 i ce lx T.pos c2 (bf st))=true)(hq:x++".<locals>."++"<lambda>"=T.q)(hb:BM mg base)
  (hbd:∀(p:Pos)(body:Expr)(scope:Scope)(qual:Str)(pm ctv v:Value)(c':Addr),oB (PySem.W.kla_fn "<lambda>" qual (pj lx p) body scope [] pm (.ref c') ctv) ⟨[v],[]⟩=pure [(lx,v)])
  (hba:∀(kV doc pm:Value)(an:Option Addr)(cdv ct:Value)(us:List Value),us.length=ps.length->oB (aK x x (bD st) (bf st) (aP st) .none kV doc pm an cdv ct) ⟨us,[]⟩=pure (ps.zip us))(len:∀vs H Q E,sp vs H Q E->vs.length=ps.length)
  (hw:∀vs H Q E,sp vs H Q E->uY (R.wpS (gam vals fns inis dics) K (fun _=>E) c1) (uY (wX (sJ K T (wpE (gam vals fns inis dics) K (fun _=>E) ce)) (kM i)) (wpB (gam vals fns inis dics) K (fun _=>E) c2)) {nx:=fun _ H'=>Q .non H',rt:=Q} (L2.start N vs) H):
  GOk P w K mg base (CXx P w) (k+1) (gam vals (((x,ps.length),(sp,[]))::fns) inis dics):=by
 rw[aQ]at hc;obtain⟨f,oc,od,an,osl,kV,doc,pm,ct,a,l,q1,q2,q3⟩:=d;have F:=BO l q1 q2;exact g.add (n:=ps.length) (HP F hc.1 hc.2 rfl (DJ Xb q3) hq hb hbd g len hw) (eY X Gm a) q2 (F.binds hba) .nil
theorem all_mk{p:Addr}(X:K.In h)(Gm:h.Ns bP mg)(hfa:mg "law"=some (.ref fa)){t1 t2 t3 t4:Tok}
  (v1:eI K bP "LETTERS"=some (some (.str LETTERS t1)))(v2:eI K bP "LONGEST_NAME"=some (some (.int 8 t2)))(v3:eI K bP "MOST_PLACES"=some (some (.int 60 t3)))(v4:eI K bP "MOST_COPIES"=some (some (.int 40 t4)))(v5:eI K bP "NoTable"=some (some (.ref C)))(v6:eI K bP "KINDS"=some (some (.ref kd)))
  (kd0:Kc.Kinds K kd)(bl:∀x∈iM,eI K bP x=some none)
  (h11:HasFn K "is_whole" (top 11))(h12:HasFn K "is_name" (top 12))(h13:HasFn K "is_reading" (top 13))(h14:HasFn K "are_readings" (top 14))(h15:HasFn K "is_copy" (top 15))(h16:HasFn K "is_table" (top 16))(h17:HasFn K "need_table" (top 17))(h19:HasFn K "place_count" (top 19))(h22:HasFn K "first_of_kinds" (top 22))(h23:HasFn K "clash" (top 23))(h24:HasFn K "refuse_clash" (top 24))(h26:HasFn K "group_at" (top 26))(h27:HasFn K "turned" (top 27))(h28:HasFn K "grown" (top 28))(h29:HasFn K "tree" (top 29))(h31:HasFn K "is_telling" (top 31))(h32:HasFn K "are_tellings" (top 32))(h33:HasFn K "need_tellings" (top 33))(h34:HasFn K "that_read" (top 34))(h36:HasFn K "told_nodes" (top 36))(h37:HasFn K "stands" (top 37))(h38:HasFn K "unknown_places" (top 38))(h39:HasFn K "first_read" (top 39))(h41:HasFn K "is_behind" (top 41))(h42:HasFn K "comes" (top 42))(h43:HasFn K "set_aside" (top 43))(h45:HasFn K "_law_cell_at" (top 45))(h47:HasFn K "_law_draw" (top 47))(h48:HasFn K "_law_names" (top 48))(h49:HasFn K "_law_otherwise" (top 49))(h50:HasFn K "_law_grown" (top 50))(h51:HasFn K "_law_held" (top 51))(h52:HasFn K "_law_tellings" (top 52))(h18:∃c,yB K "table_list" (top 18) c p)(h53:HasFn K "law" (top 53)):
  ∃fd:gu,(∀(s:Shared)(v:Value),BindsTo s fd ⟨[v],[]⟩ [("_law_script",v)])/\∀base:Heap,K.In base->base.Ns bP mg->BM mg base->jA P w K mg base CX0 35 fa fd ["_law_script"] (fun vs H Q _=>F5 K (tb p) vs H Q E0):=by
 obtain⟨f,oc',od,an,osl,kV,doc,pm,cdv,ct,a,l,c,k⟩:=id h53;have e:=hfa.symm.trans (eY X Gm a);cases e;obtain⟨cc,h18⟩:=h18;refine⟨aK "law" "law" (bD (top 53)) (bf (top 53)) (aP (top 53)) .none kV doc pm an cdv ct,fun s v=>.of_eq rfl,fun base Xb _ bm=>?_⟩;have hv:∀x v,(x,v)∈vals C kd->∃u,mg x=some u/\RelV v u:=by
  intro x v hm;simp only[vals,av,bB,or_false,Prod.mk.injEq]at hm;rcases hm with⟨rfl,rfl⟩ |⟨rfl,rfl⟩ |⟨rfl,rfl⟩ |⟨rfl,rfl⟩ |⟨rfl,rfl⟩ |⟨rfl,rfl⟩
  ·exact⟨_,eY X Gm v1,t1,rfl⟩
  ·exact⟨_,eY X Gm v2,t2,rfl⟩
  ·exact⟨_,eY X Gm v3,t3,rfl⟩
  ·exact⟨_,eY X Gm v4,t4,rfl⟩
  ·exact⟨_,eY X Gm v5,rfl⟩
  ·exact⟨_,eY X Gm v6,rfl⟩
 have g0:GOk P w K mg base (CXx P w) 0 (gam (vals C kd) []):=GOk.start hv fun x hx=>PySem.W.mg_none_of X Gm (bl x hx);have g1:=de (N:=Cp.tG) (ps:=Cp.Bs) g0 (h11.def X Gm) (by decide+kernel) (fun _ _ _ _ _ _ us hl=>by obtain⟨_,rfl⟩:=Kc.gW hl;rfl) (sp:=spB isWhole) (fun vs H Q E h=>Kc.bu h fun _ h=>Kc.fW h rfl) yS;have g2:=de (N:=Cp.vP) (ps:=Cp.Ef) g1 (h12.def X Gm) (by decide+kernel) (fun _ _ _ _ _ _ us hl=>by obtain⟨_,rfl⟩:=Kc.gW hl;rfl) (sp:=spN) (fun vs H Q E h=>Kc.bu h fun _ h=>Kc.fW h rfl) (AZ (by kernel_rfl) (by kernel_rfl));have g3:=de (N:=Cp.o9) (ps:=Cp.xC) g2 (h13.def X Gm) (by decide+kernel) (fun _ _ _ _ _ _ us hl=>by obtain⟨_,rfl⟩:=Kc.gW hl;rfl) (sp:=spB cu) (fun vs H Q E h=>Kc.bu h fun _ h=>Kc.fW h rfl) (uW (by kernel_rfl));have g4:=de (N:=Cp.mo) (ps:=Cp.tf) g3 (h14.def X Gm) (by decide+kernel) (fun _ _ _ _ _ _ us hl=>by obtain⟨_,rfl⟩:=Kc.gW hl;rfl) (sp:=spR) (fun vs H Q E h=>Kc.bu h fun _ h=>Kc.fW h rfl) (rD (by kernel_rfl) (by kernel_rfl));have g5:=de (N:=Cp.vQ) (ps:=Cp.Eg) g4 (h15.def X Gm) (by decide+kernel) (fun _ _ _ _ _ _ us hl=>by obtain⟨_,rfl⟩:=Kc.gW hl;rfl) (sp:=spC) (fun vs H Q E h=>Kc.bu h fun _ h=>Kc.fW h rfl) (A0 (by kernel_rfl) (by kernel_rfl));have g6:=de (N:=Cp.tH) (ps:=Cp.Bt) g5 (h16.def X Gm) (by decide+kernel) (fun _ _ _ _ _ _ us hl=>by obtain⟨_,rfl⟩:=Kc.gW hl;rfl) (sp:=Cp.spT) (fun vs H Q E h=>Kc.bu h fun _ h=>Kc.fW h rfl) (yT (by kernel_rfl) (by kernel_rfl));have g7:=de (N:=Cp.o7) (ps:=Cp.xA) g6 (h17.def X Gm) (by decide+kernel) (fun _ _ _ _ _ _ us hl=>by obtain⟨_,rfl⟩:=Kc.gW hl;rfl) (sp:=wZ C) (fun vs H Q E h=>Kc.bu h fun _ h=>Kc.fW h rfl) (uV (by kernel_rfl));have g8:=add_fnK (T:=tb p) (N:=i6) (ps:=oW) (lx:="copy") g7 X Xb Gm h18 tl_ok tl_q bm (fun _ _ _ _ _ _ _ _=>rfl) (fun _ _ _ _ _ _ us hl=>by obtain⟨_,rfl⟩:=Kc.gW hl;rfl) (sp:=qj C (tb p)) (fun vs H Q E h=>Kc.bu h fun _ h=>Kc.fW h rfl) (uU (C:=C) (by kernel_rfl));have g9:=de (N:=Cp.nH) (ps:=Cp.u7) g8 (h19.def X Gm) (by decide+kernel) (fun _ _ _ _ _ _ us hl=>by obtain⟨_,rfl⟩:=Kc.gW hl;rfl) (sp:=rQ C) (fun vs H Q E h=>Kc.bu h fun _ h=>Kc.fW h rfl) (sD (C:=C) (by kernel_rfl));have g10:=de (N:=Kc.kG) (ps:=Kc.qp) g9 (h22.def X Gm) (by decide+kernel) (fun _ _ _ _ _ _ us hl=>by obtain⟨_,_,_,rfl⟩:=Kc.ma hl;rfl) (sp:=Kc.xb) (fun vs H Q E h=>Kc.bu h fun _ h=>Kc.bu h fun _ h=>Kc.bu h fun _ h=>Kc.bu h fun _ h=>Kc.bu h fun _ h=>Kc.fW h rfl) (Kc.FG (by kernel_rfl) kd0);have g11:=de (N:=K22.C0) (ps:=K22.p_clash) g10 (h23.def X Gm) (by decide+kernel) (fun _ _ _ _ _ _ us hl=>by obtain⟨_,rfl⟩:=Kc.gW hl;rfl) (sp:=K22.xc C (tb p)) (fun vs H Q E h=>Kc.bu h fun _ h=>Kc.fW h rfl) (K22.FH (C:=C) (T:=tb p) (by kernel_rfl) (by kernel_rfl) (by kernel_rfl));have g12:=de (N:=K83.mj) (ps:=K83.sY) g11 (h24.def X Gm) (by decide+kernel) (fun _ _ _ _ _ _ us hl=>by obtain⟨_,rfl⟩:=Kc.gW hl;rfl) (sp:=K83.F4 (tb p)) (fun vs H Q E h=>Kc.bu h fun _ h=>Kc.fW h rfl) (K83.wp_ref (C:=C) (T:=tb p) (by kernel_rfl));have g13:=de (N:=K32.tI) (ps:=K32.Bu) g12 (h26.def X Gm) (by decide+kernel) (fun _ _ _ _ _ _ us hl=>by obtain⟨_,_,rfl⟩:=Kc.fU hl;rfl) (sp:=K32.xa) (fun vs H Q E h=>Kc.bu h fun _ h=>Kc.bu h fun _ h=>Kc.bu h fun _ h=>Kc.bu h fun _ h=>Kc.bu h fun _ h=>Kc.fW h rfl) K32.FF;have g14:=de (N:=K32.zK) (ps:=K32.G2) g13 (h27.def X Gm) (by decide+kernel) (fun _ _ _ _ _ _ us hl=>by obtain⟨_,_,rfl⟩:=Kc.fU hl;rfl) (sp:=K32.md K) (fun vs H Q E h=>Kc.bu h fun _ h=>Kc.bu h fun _ h=>Kc.bu h fun _ h=>Kc.bu h fun _ h=>Kc.fW h rfl) K32.DP;have g15:=de (N:=K32.CY) (ps:=K32.p_grown) g14 (h28.def X Gm) (by decide+kernel) (fun _ _ _ _ _ _ us hl=>by obtain⟨_,rfl⟩:=Kc.gW hl;rfl) (sp:=K32.sP) (fun vs H Q E h=>Kc.bu h fun _ h=>Kc.bu h fun _ h=>Kc.bu h fun _ h=>Kc.bu h fun _ h=>Kc.fW h rfl) (K32.DQ (by kernel_rfl) (by kernel_rfl));have g16:=de (N:=K32.Hf) (ps:=K32.p_tree) g15 (h29.def X Gm) (by decide+kernel) (fun _ _ _ _ _ _ us hl=>by obtain⟨_,rfl⟩:=Kc.gW hl;rfl) (sp:=K83.sO (tb p)) (fun vs H Q E h=>Kc.bu h fun _ h=>Kc.fW h rfl) (K83.wp_tree (C:=C) (T:=tb p) (by kernel_rfl) (by kernel_rfl) (by kernel_rfl));have g17:=de (N:=K75.o8) (ps:=K75.xB) g16 (h31.def X Gm) (by decide+kernel) (fun _ _ _ _ _ _ us hl=>by obtain⟨_,_,rfl⟩:=Kc.fU hl;rfl) (sp:=K75.spTg) (fun vs H Q E h=>Kc.bu h fun _ h=>Kc.bu h fun _ h=>Kc.bu h fun _ h=>Kc.bu h fun _ h=>Kc.fW h rfl) (K75.wp_tg (by kernel_rfl) (by kernel_rfl));have g18:=de (N:=K75.mn) (ps:=K75.td) g17 (h32.def X Gm) (by decide+kernel) (fun _ _ _ _ _ _ us hl=>by obtain⟨_,_,rfl⟩:=Kc.fU hl;rfl) (sp:=K75.spAt) (fun vs H Q E h=>Kc.bu h fun _ h=>Kc.bu h fun _ h=>Kc.bu h fun _ h=>Kc.bu h fun _ h=>Kc.fW h rfl) (K75.wp_at (by kernel_rfl));have g19:=de (N:=K75.lI) (ps:=K75.rE) g18 (h33.def X Gm) (by decide+kernel) (fun _ _ _ _ _ _ us hl=>by obtain⟨_,_,rfl⟩:=Kc.fU hl;rfl) (sp:=K75.spNt K) (fun vs H Q E h=>Kc.bu h fun _ h=>Kc.bu h fun _ h=>Kc.bu h fun _ h=>Kc.bu h fun _ h=>Kc.bu h fun _ h=>Kc.bu h fun _ h=>Kc.bu h fun _ h=>Kc.bu h fun _ h=>Kc.fW h rfl) (K75.wp_nt (C:=C) (by kernel_rfl) (by kernel_rfl));have g20:=de (N:=K75.qP) (ps:=K75.zx) g19 (h34.def X Gm) (by decide+kernel) (fun _ _ _ _ _ _ us hl=>by obtain⟨_,_,rfl⟩:=Kc.fU hl;rfl) (sp:=K75.F3 K) (fun vs H Q E h=>Kc.bu h fun _ h=>Kc.bu h fun _ h=>Kc.bu h fun _ h=>Kc.bu h fun _ h=>Kc.bu h fun _ h=>Kc.bu h fun _ h=>Kc.bu h fun _ h=>Kc.fW h rfl) K75.wp_thr;have g21:=de (N:=K75.o6) (ps:=K75.xy) g20 (h36.def X Gm) (by decide+kernel) (fun _ _ _ _ _ _ us hl=>by obtain⟨_,_,rfl⟩:=Kc.fU hl;rfl) (sp:=K75.spTn K) (fun vs H Q E h=>Kc.bu h fun _ h=>Kc.bu h fun _ h=>Kc.bu h fun _ h=>Kc.bu h fun _ h=>Kc.bu h fun _ h=>Kc.bu h fun _ h=>Kc.bu h fun _ h=>Kc.fW h rfl) (K75.wp_tn (by kernel_rfl));have g22:=de (N:=K76.zL) (ps:=K76.G3) g21 (h37.def X Gm) (by decide+kernel) (fun _ _ _ _ _ _ us hl=>by obtain⟨_,_,rfl⟩:=Kc.fU hl;rfl) (sp:=K76.spSt K (tb p)) (fun vs H Q E h=>Kc.bu h fun _ h=>Kc.bu h fun _ h=>Kc.bu h fun _ h=>Kc.bu h fun _ h=>Kc.bu h fun _ h=>Kc.bu h fun _ h=>Kc.bu h fun _ h=>Kc.bu h fun _ h=>Kc.fW h rfl) (K76.wp_st (T:=tb p) (by kernel_rfl) (by kernel_rfl) (by kernel_rfl));have g23:=de (N:=K75.kF) (ps:=K75.qo) g22 (h38.def X Gm) (by decide+kernel) (fun _ _ _ _ _ _ us hl=>by obtain⟨_,_,_,rfl⟩:=Kc.ma hl;rfl) (sp:=K75.spUp K) (fun vs H Q E h=>Kc.bu h fun _ h=>Kc.bu h fun _ h=>Kc.bu h fun _ h=>Kc.bu h fun _ h=>Kc.bu h fun _ h=>Kc.bu h fun _ h=>Kc.bu h fun _ h=>Kc.bu h fun _ h=>Kc.bu h fun _ h=>Kc.fW h rfl) K75.wp_up;have g24:=de (N:=K75.pd) (ps:=K75.xD) g23 (h39.def X Gm) (by decide+kernel) (fun _ _ _ _ _ _ us hl=>by obtain⟨_,_,rfl⟩:=Kc.fU hl;rfl) (sp:=K75.spFr K (tb p)) (fun vs H Q E h=>Kc.bu h fun _ h=>Kc.bu h fun _ h=>Kc.bu h fun _ h=>Kc.bu h fun _ h=>Kc.bu h fun _ h=>Kc.bu h fun _ h=>Kc.bu h fun _ h=>Kc.bu h fun _ h=>Kc.fW h rfl) (K75.wp_fr (T:=tb p) (by kernel_rfl) (by kernel_rfl) (by kernel_rfl) (by kernel_rfl));have g25:=de (N:=K75.qT) (ps:=K75.zC) g24 (h41.def X Gm) (by decide+kernel) (fun _ _ _ _ _ _ us hl=>by obtain⟨_,_,_,rfl⟩:=Kc.ma hl;rfl) (sp:=K75.spIb K) (fun vs H Q E h=>Kc.bu h fun _ h=>Kc.bu h fun _ h=>Kc.bu h fun _ h=>Kc.bu h fun _ h=>Kc.bu h fun _ h=>Kc.bu h fun _ h=>Kc.fW h rfl) K75.wp_ib;have g26:=de (N:=K75.CZ) (ps:=K75.p_comes) g25 (h42.def X Gm) (by decide+kernel) (fun _ _ _ _ _ _ us hl=>by obtain⟨_,_,_,rfl⟩:=Kc.ma hl;rfl) (sp:=K75.spCm K) (fun vs H Q E h=>Kc.bu h fun _ h=>Kc.bu h fun _ h=>Kc.bu h fun _ h=>Kc.bu h fun _ h=>Kc.bu h fun _ h=>Kc.bu h fun _ h=>Kc.fW h rfl) (K75.wp_cm (by kernel_rfl));have g27:=de (N:=K75.qQ) (ps:=K75.zy) g26 (h43.def X Gm) (by decide+kernel) (fun _ _ _ _ _ _ us hl=>by obtain⟨_,_,rfl⟩:=Kc.fU hl;rfl) (sp:=K75.spSa K (tb p)) (fun vs H Q E h=>Kc.bu h fun _ h=>Kc.bu h fun _ h=>Kc.bu h fun _ h=>Kc.bu h fun _ h=>Kc.bu h fun _ h=>Kc.bu h fun _ h=>Kc.bu h fun _ h=>Kc.bu h fun _ h=>Kc.fW h rfl) (K75.wp_sa (C:=C) (T:=tb p) (by kernel_rfl) (by kernel_rfl) (by kernel_rfl));have g28:=de (N:=Lt.nJ) (ps:=Lt.u9) g27 (h45.def X Gm) (by decide+kernel) (fun _ _ _ _ _ _ us hl=>by obtain⟨_,_,rfl⟩:=Kc.fU hl;rfl) (sp:=Lt.Bc K) (fun vs H Q E h=>Kc.bu h fun _ h=>Kc.bu h fun _ h=>Kc.bu h fun _ h=>Kc.fW h rfl) Lt.wp_cell;have g29:=de (N:=K21.tF) (ps:=K21.Br) g28 (h47.def X Gm) (by decide+kernel) (fun _ _ _ _ _ _ us hl=>by obtain⟨_,_,rfl⟩:=Kc.fU hl;rfl) (sp:=K21.js) (fun vs H Q E h=>Kc.bu h fun _ h=>Kc.bu h fun _ h=>Kc.fW h rfl) K21.wp_draw;have g30:=de (N:=K21.qR) (ps:=K21.zA) g29 (h48.def X Gm) (by decide+kernel) (fun _ _ _ _ _ _ us hl=>by obtain⟨_,_,rfl⟩:=Kc.fU hl;rfl) (sp:=K21.w8) (fun vs H Q E h=>Kc.bu h fun _ h=>Kc.bu h fun _ h=>Kc.fW h rfl) (K21.FD (by kernel_rfl));have g31:=de (N:=K22.lJ) (ps:=K22.rF) g30 (h49.def X Gm) (by decide+kernel) (fun _ _ _ _ _ _ us hl=>by obtain⟨_,_,rfl⟩:=Kc.fU hl;rfl) (sp:=K34.me K) (fun vs H Q E h=>Kc.bu h fun _ h=>Kc.bu h fun _ h=>Kc.bu h fun _ h=>Kc.bu h fun _ h=>Kc.fW h rfl) K34.wp_othN;have g32:=de (N:=K22.qS) (ps:=K22.zB) g31 (h50.def X Gm) (by decide+kernel) (fun _ _ _ _ _ _ us hl=>by obtain⟨_,_,rfl⟩:=Kc.fU hl;rfl) (sp:=K34.w9 K) (fun vs H Q E h=>Kc.bu h fun _ h=>Kc.bu h fun _ h=>Kc.bu h fun _ h=>Kc.fW h rfl) (K34.FE (by kernel_rfl) (by kernel_rfl));have g33:=de (N:=K22.tE) (ps:=K22.Bq) g32 (h51.def X Gm) (by decide+kernel) (fun _ _ _ _ _ _ us hl=>by obtain⟨_,_,rfl⟩:=Kc.fU hl;rfl) (sp:=K22.Bb K) (fun vs H Q E h=>Kc.bu h fun _ h=>Kc.bu h fun _ h=>Kc.bu h fun _ h=>Kc.bu h fun _ h=>Kc.fW h rfl) (K22.wp_held (by kernel_rfl));have g34:=de (N:=K74.mm) (ps:=K74.sZ) g33 (h52.def X Gm) (by decide+kernel) (fun _ _ _ _ _ _ us hl=>by obtain⟨_,_,_,rfl⟩:=Kc.ma hl;rfl) (sp:=K74.spTl K) (fun vs H Q E h=>Kc.bu h fun _ h=>Kc.bu h fun _ h=>Kc.bu h fun _ h=>Kc.bu h fun _ h=>Kc.bu h fun _ h=>Kc.fW h rfl) (K74.wp_tl (by kernel_rfl));have hk:(oY K74.Hg K74.p_law (aP (top 53))&&vm (aP (top 53)) K74.Hg K74.IH (bf (top 53)))=true:=by decide+kernel
 rw[aQ]at hk;exact jA.calm (Dg (BO l c k) hk.1 hk.2 g34 (fun vs H Q E h=>Kc.bu h fun _ h=>Kc.bu h fun _ h=>Kc.fW h rfl) (wp_law (T:=tb p) ⟨(by kernel_rfl),(by kernel_rfl),(by kernel_rfl),(by kernel_rfl),(by kernel_rfl),(by kernel_rfl),(by kernel_rfl),(by kernel_rfl),(by kernel_rfl)⟩))
end K74
open PySem PySem.W PyProof.Rows
set_option maxRecDepth 100000 in
set_option maxHeartbeats 0 in
theorem PySem.Challenge.cw_copykin_k74_whole_known_stays_holds : PySem.Challenge.rw_copykin_k74_whole_known_stays.Holds := by
 w_on;o_law
 refine PySem.W.holds_open (q:=K74.vw) (loose:=K74.loo) (Xt:=K74.xt)
  (XP:=PySem.W.XL K74.vw []) (Yf:=AU (jI K74.z8 K74.z9 (fun _=>by kernel_rfl) [134])) (Ya:=AS (jI K74.z8 K74.z9 (fun _=>by kernel_rfl) [134]))
  (YP:=PySem.W.Hook.says (jI K74.z8 K74.z9 (fun _=>by kernel_rfl) [134])) (N:=4716) (fun w=>K74.both (K74.leftA w) (K74.leftB w)) (PySem.W.Hook.of _) (PySem.W.Hook.keeps _)
  (fun s e=>PySem.W.xl_of s (FC.mp e).1) PySem.W.XL.keeps
  (by rfl) (by rfl) (by rfl)
  (fun s e=>PySem.W.recFacts_of (FC.mp e).2) rfl (by assumption) (by decide+kernel)
  ⟨rfl,rfl,rfl,rfl,rfl,by decide+kernel⟩ ?hw ?hc
 (case hw=>w_witness2)
 k_fill
 refine Lm.FI (l:=PySem.Challenge.rw_copykin_k74_whole_known_stays) (n:=63) (k:=35) (x:="_law_script") (CX:=L2.CX0) (sp:=fun K=>fun vs H Q _=>K74.F5 K (K74.tb 134) vs H Q L2.E0) (tabs:=[134]) rfl (by decide) rfl ⟨rfl,by decide,by decide⟩ (fun w h Y=>Jh Y) ?T ?F (fun K H a ns hl ht hS=>⟨a,ns,rfl,hS,hl,.inl (ht 134 (aD.mpr rfl)),fun _=>rfl⟩) (fun _ _ _ _ z=>z)
 case T=>
  intro w s₀ mg mb h G Y p hp;obtain rfl:=aD.mp hp;have KX:=Jh Y;have T:=PySem.W.km_tabs_of Y 134 (aD.mpr rfl);have F:∃c,K74.yB (L2.KOf KX) "table_list" (K74.top 18) c 134:=by
   dsimp only[L2.KOf];refine' K74.vX ?ta ?tl ?tk ?tq ?th;(case ta=>k_is);(case tl=>k_is);(case tk=>k_is);(case tq=>k_is);(case th=>first |k_is|kernel_rfl)
  obtain⟨c,_,_,_,_,_,_,_,_,_,_,_,_,_,q⟩:=F;exact⟨T,((DJ KX q).tab T).isCodeTable,by kernel_rfl⟩
 case F=>
  intro w mg fa h KX G hmg;refine' K74.all_mk (p:=134) KX G hmg ?v1 ?v2 ?v3 ?v4 ?v5 ?v6 ?kd0 ?bl ?h11 ?h12 ?h13 ?h14 ?h15 ?h16 ?h17 ?h19 ?h22 ?h23 ?h24 ?h26 ?h27 ?h28 ?h29 ?h31 ?h32 ?h33 ?h34 ?h36 ?h37 ?h38 ?h39 ?h41 ?h42 ?h43 ?h45 ?h47 ?h48 ?h49 ?h50 ?h51 ?h52 ?h18 ?h53
  (case v1=>k_is);(case v2=>k_is);(case v3=>k_is);(case v4=>k_is);(case v5=>k_is);(case v6=>k_is)
  (case kd0=>refine' K74.Ht ?l ?l0 ?l1 ?l2 ?l3;(case l=>k_is);(case l0=>k_is);(case l1=>k_is);(case l2=>k_is);(case l3=>k_is))
  (case bl=>
   intro x hx;simp only[R.iM,av,bB,or_false]at hx;rcases hx with rfl|rfl|rfl|rfl|rfl|rfl|rfl|rfl|rfl|rfl|rfl|rfl|rfl|rfl|rfl|rfl|rfl|rfl|rfl|rfl<;>k_is)
  (case h18=>refine' K74.vX ?ua ?ul ?uk ?uq ?uh;(case ua=>k_is);(case ul=>k_is);(case uk=>k_is);(case uq=>k_is);(case uh=>first |k_is|kernel_rfl))
  all_goals(refine' R.HH ?a ?l ?c ?k;(case a=>k_is);(case l=>k_is);(case c=>k_is);(case k=>k_is))
