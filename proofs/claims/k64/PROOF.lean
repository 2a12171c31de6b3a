import PyProof.Rows.All
import Wide.All
import OpenK.AllK
import Wide.FinOn
import Lean
import PyProof.EqAt
import PyProof.EqKinds
import PyProof.TupleCall
import PyProof.NeKinds
import PySem.Challenge.RW_copykin_k64_whole_wherever_it_stands
open Array renaming length_toList → bZ, getElem?_eq_some_iff → dq, perm_iff_toList_perm → eI, mem_toList_iff → jF, getElem?_toList → EV, getD → Ke, forIn_toList → Kf
open Bool renaming false_ne_true → ak, and_eq_true → aH, false_eq_true → aU, false_or → bL, eq_iff_iff → cA, or_eq_true → cW, false_and → dw, true_and → eF, not_true → gg, eq_false_iff → i9, and_false → kU, or_false → BY, or_true → EU, and_eq_true_iff → GJ
open Classical renaming byContradiction → aI, not_forall → gd, not_imp → rL, em → rM, epsilon_spec → zY
open False renaming elim → kN
open ForInStep renaming yield → gX
open Int renaming toNat_natCast → aJ, eq_ofNat_of_zero_le → bP, emod_lt_of_pos → bX, emod_nonneg → cB, zero_add → eE, fdiv_eq_ediv_of_nonneg → BK
open Lean.Name renaming str → b9, anonymous → BW
open List renaming getElem?_eq_getElem → aa, getD_eq_getElem?_getD → ae, length_map → ai, size_toArray → au, getElem?_map → av, mem_map → ax, range → aA, mem_of_getElem? → aC, getElem?_eq_some_iff → aD, mem_cons → aE, mem_cons_self → aL, length_append → aN, mem_cons_of_mem → aO, mem_range → aQ, mem_append_right → aS, mem_singleton → aT, length_range → aW, length_eq_zero_iff → a7, mem_filter → a9, getElem_mem → ba, map_map → bf, length_cons → bg, lookup_cons → bh, getElem_map → bj, replicate → bp, ext_getElem → bA, all_eq_true → bB, nodup_cons → bI, getElem?_range → bJ, length_take → bN, getElem?_eq_none → bO, mem_append → bQ, getElem?_append_right → bV, any_eq_true → b8, take_add_one → cg, mem_append_left → cj, map_cons → cn, mem_iff_getElem? → cu, mem_iff_getElem → cG, getElem?_append_left → cH, not_mem_nil → cM, length_drop → cN, map_congr_left → cO, length_filter_le → cP, pairwise_map → cQ, append_nil → cV, mem_flatMap → cY, pairwise_iff_getElem → cZ, map_append → c7, take_length → da, replicate_succ → dz, map_id → dB, foldl_cons → dD, length_singleton → dH, toArray → dQ, flatMap_cons → dZ, length_pos_iff → d9, flatMap_append → eh, getElem_inj → eG, nodup_append → eS, take_of_length_le → fN, getElem_range → fO, filter_map → fS, ext_getElem? → gA, append_assoc → gB, flatMap_nil → gW, find?_cons → iL, getElem?_drop → iO, pairwise_lt_range → i5, nodup_nil → i6, map_nil → i7, flatten_cons → i8, length_replicate → jr, mem_reverse → jt, map_snd_zip → ju, lookup → jI, range_succ → jX, filter_sublist → ke, nodup_iff_pairwise_ne → kP, length_eraseIdx_of_lt → kQ, filter_append → kR, length → mr, filter_congr → mw, any_cons → mK, all_cons → mL, filter_cons → mS, getElem?_set_self → oP, filter_eq_nil_iff → oQ, all_map → oR, length_nil → oX, perm_cons_erase → qi, mem_of_mem_take → qj, mem_erase_of_ne → qk, getElem?_set_ne → qo, mem_map_of_mem → rU, length_reverse → rV, filter_eq_self → rW, filterMap_cons → rX, zip_cons_cons → tI, set_cons_zero → tJ, pairwise_cons → tK, lookup_append → tL, find?_eq_none → tM, take_sublist → uG, reverse_cons → uH, any_map → uI, eraseIdx_eq_take_drop_succ → wG, nodup_range → wK, cons_append → wL, of_mem_zip → yo, perm_ext_iff_of_nodup → z7, forIn_nil → z8, drop_zero → z9, getElem?_eq_none_iff → BJ, getElem?_take_of_lt → BV, getElem?_cons_zero → Dl, getElem?_cons_succ → Dm, range_succ_eq_map → ES, toList_toArray → Kd
open List.Pairwise renaming and_mem → lS, nil → oY
open List.Perm renaming refl → dN, swap → wH
open List.cons renaming injEq → GH
open Nat renaming le_refl → ay, le_trans → aG, ne_of_lt → aK, zero_le → aR, lt_of_lt_of_le → aY, lt_succ_of_lt → bG, not_lt_zero → c8, lt_irrefl → du, lt_succ_self → dO, ne_of_gt → eD, mod_eq_of_lt → eH, le_succ_of_le → eX, le_succ → eY, le_of_not_lt → fE, lt_trans → hW, strongRecOn → kc, le_of_lt → kM, lt_of_le_of_lt → lR, min_eq_left → pL, le_antisymm → pM, eq_of_testBit_eq → rK, zero_add → wC, sub_zero → wD, le_of_eq → wF, le_add_right → xj, mod_lt → BI, lt_succ_iff_lt_or_eq → Dk, succ_mul → Gz, mul_comm → GA, and_self → GB, pow_le_pow_right → Kb
open Nat.succ renaming inj → jH
open Ne renaming symm → bS
open Option renaming isSome_iff_exists → eR, isNone_iff_eq_none → gR, map_some → ix, isSome_some → iz, map_eq_some_iff → mR, getD_none → uF, isSome_none → GG
open Option.some renaming inj → a6, injEq → fI
open PyProof.Rows renaming IntsAre → bY, callWith_type1 → cJ, listUpdate_at → fC, slot_tuple_getitem → iy, boot_list → kO, AllBare → oS, callWith_builtin1 → qh, subscriptTail_builtinR → rJ, get?_update_seq → rS, seqEpoch_at → tZ, boot_tuple → wB, boot_int → xi, StrsAre → zV, entry_list_sort → Dh, slot_list_sort → Gj, size_push' → Gk, tupleItemsOf_ → JY, subscriptTail → J0
open PyProof.Rows.F renaming plain_set_update_loop → fR, entry_set_update_loop → mJ
open PySem renaming wpAny_bind → af, wpAny_pure → aj, mem_of_lookup → bu, wpAny_newObj_type → bw, SetTable → bz, mainGlobals → bK, wpAny_holding → bU, starEach → b7, wpAny_call_entry → cD, cellsFrom → cE, compareOp → cX, wpAny_truthy_bool → c6, wpAny_setField_rec → dh, wpAny_callSpecial?_slot → dk, Fin → dM, NameKind → dS, binaryOp → d7, codeAny_builtin → eB, bootBuiltins → eM, wpAny_field → eN, plainId_quiet → eO, wpAny_seqItems → fP, scanBound → fQ, wpAny_pyIter_tuple → gu, wpAny_mono → gy, sysModules → gz, wpAny_passesOwn → gJ, FuncData → gK, wpAny_setState_of → gV, wpAny_rule → ip, strIterType → iq, assignEach → iu, wpAny_askSetting → iJ, codeAny → i4, wpAny_Call_Name_kw → jh, pickOrder → jj, recursionLimit → jA, foldedSetIterable → jC, Value → jD, builtinLookup_eq_fast → jW, wpAny_isInstance → j7, call_meets → j8, wpAny_letGo → kK, sliceBounds → kL, wpAny_richCompare_same_room → mj, codeAny_mono → mn, noteFrame → mI, builtinsNs → mP, wpAny_pyIter_list → oK, fits_of_scanBound → oM, atKey_none_of_get → oN, wpAny_newList → oW, wpAny_eqBool_int → qa, tupleKind → qb, relayAll → qd, bindArgs → qe, GenState → qg, wpAny_typeOf → rH, wpAny_updateSeq → rN, wpAny_specialOf → rO, wpAny_ite_split → rP, typeLookup_type → rQ, letOwnedTupleGo → rR, wpAny_tryCatch → tU, wpAny_setField → tV, wpAny_of_eq → tW, setField → tX, seqIndex_of → tY, isSubtype_type → t7, firstArgMember → t9, swapsWith → uD, seqItems? → uE, wpAny_attempt → wJ, Addr → zX, setFlight → BE, noFill_tuple_add → BF, sizeLine_eq → BO, Str → BU, wpAny_execs_nil → Dg, Within → Di, Shared → Dj, callerA → EN, ItemsOf → ET, wpAny_Name → Gi, setsByText → Gn, raiseNew → Gq, entryFor → Gs, dictSetDefault → Gu, closureFor → Gw, wpAny_standAt → JX, swapsWithSole → JZ, seq_tuple_add → J1, behindInMarks → J2
open PySem.Around renaming under_plainId → c9
open PySem.AutoSeq1 renaming wpAny_loadPart' → kW
open PySem.Builtin renaming bitAnd → iR, bitXor → kg
open PySem.Builtin.Builtins renaming bindParams → fh
open PySem.Builtin.List renaming listExtendWith → dU, listLengthHint → fG, listTooLong → gF, listSameRef → jY, listTouch → kT, listItems → wN
open PySem.Builtin.Slice renaming slicePlaces → fT, sliceAdjust → jE, sliceApplied → sQ
open PySem.Builtin.SmallTypes renaming nextOf → fF
open PySem.Builtin.Str renaming occurrences → gY, strSliceIndices → tN
open PySem.Builtin.Tuple renaming tupleExact → gC
open PySem.Calls renaming call_function_entry → lT, spliced_cons → sP, Name_function_global → zZ
open PySem.EntryCells renaming newEntry → BN
open PySem.F renaming slot_tuple_iterator_next → hZ, args_tuple_add_2 → lQ, entry_tuple_add → mq, slot_tuple_add → mQ, slot_tuple_lt → qp, slot_dict_setdefault → wA, args_tuple_iterator_next_1 → BL, entry_tuple_iterator_next → BX
open PySem.Heap renaming get?_push_of_some → ag, get?_push_size → az, lt_size → aB, get?_update_other → aX, size_push → bC, get?_update_self → cw, SameBut → dv, size_update → wM, get?_none_of_le → GI
open PySem.Heap.IsRevIter renaming typeIs → wI
open PySem.Heap.SameBut renaming update → bM
open PySem.IsL renaming update → Gy
open PySem.Moved renaming trans → GC
open PySem.NameKind renaming free → bW, cell → cT
open PySem.Obj renaming mapSeq → aV, mapFields → iK, data_mapFields → iQ, isFreed_of_fields → qf, data_mapDictKeys → Ka
open PySem.Paired renaming length → lU
open PySem.PyData renaming keyHash → aw
open PySem.SeqAt renaming notIn_listAt → J4, EqAt → J5
open PySem.SeqAt.EqAt renaming str_int → BP, int_str → BQ
open PySem.SetTable renaming below → cq, grown → eZ, insertAt → rT, has → z6, orStandIn → EO, relaid → J3
open PySem.SetTable.below renaming go → zW
open PySem.SetTable.probe renaming go → oO
open PySem.Str renaming ofString → bT, length → BG
open PySem.Value renaming none → bF, ref → cF, type → fK, str → iM, int → wy, bool → zU
open PySem.W renaming Frag → ah, fnOf → aF, keepIn → cS, kia_one → c5, kas_sort → dm, nsIn → d8, mg_of → eQ, codeIn → fg, kitOne → iP, kas_sort → ji, kas_descPart → jB, kmHook → j9, findIn → kb, methodObj → sO, instObj → wz, lookIn → xh, kas_rev → zT, cellsFrom_some → BH, codeHd_of_K → ER, kitx_list → GD, kitx_dict → GF, plainGet → J6, openEnds → J7, km_in_of → J8, codeHdIn → J9
open PySem.W.Hook renaming val → BR, obs → BS
open PySem.W.KasT renaming ret → uJ
open PySem.pickOrder renaming go → zS
open Sum renaming inl → dG, inr → eW
set_option Elab.async false
set_option linter.all false
set_option maxRecDepth 100000
set_option maxHeartbeats 0
variable {es es' es1:Array (Int×jD)}{osl s0 s2 s3:Array (Option jD)}{acc items:Array jD}{led:Bool}{ps rows:List (List Int)}{ts:List (Nat×Int)}{pins pins':List (zX×PySem.Obj)}{ns qs r v:List Int}{ch fp tabs:List zX}{N ks loose:List BU}{args ds its its' kv out us vs ws:List jD}{ep i j k m n p q t':Nat}{nf:Nat->BU}{func o0 o1 o2 o3 od:Option zX}{C I L S T a ab ar b be c c' dx f fa it kS kd l pl sl:zX}{A:PySem.Around}{e iter o tg:PySem.Expr}{Qf:dM->Dj->Prop}{base h h' h0 h1:PySem.Heap}{p' pos pos':PySem.Pos}{P prog:PySem.Program}{sc sc' scope:PySem.Scope}{s s':Dj}{lx qual x z:BU}{mA mb mg:BU->Option jD}{cdv ct ctv dV doc oc pm u vl vu:jD}{E QQ Q₁:jD->Dj->Prop}{K:ah}{w:PySem.World}
namespace L2
open PySem
noncomputable def bq(s:Stmt):Arguments:=match s with
 |.FunctionDef _ a _ _ _ _ _ _ _ _=>a
 |_=>{posonlyargs:=[],args:=[],vararg:=none,kwonlyargs:=[],kw_defaults:=[],kwarg:=none,defaults:=[]}
noncomputable def a8(s:Stmt):List Stmt:=match s with
 |.FunctionDef _ _ b _ _ _ _ _ _ _=>b
 |_=>[]
noncomputable def aP(s:Stmt):Scope:=match s with
 |.FunctionDef _ _ _ _ _ _ sc _ _ _=>sc
 |_=>{kind:=.function,names:=[],isGenerator:=false,isCoroutine:=false}
end L2
namespace K64
open PySem PySem.Spec PySem.Calls PyProof.Rows
noncomputable def top(i:Nat):Stmt:=PySem.Challenge.pw_copykin_k64_whole_wherever_it_stands.main.body.getD i (.Pass ⟨0,0,0,0⟩)
noncomputable def vw:Program:=
 {PySem.Challenge.pw_copykin_k64_whole_wherever_it_stands with main:={PySem.Challenge.pw_copykin_k64_whole_wherever_it_stands.main with body:=[top 1,top 2,top 3,top 4,top 5,top 7,top 8,top 9,top 10,top 11,top 12,top 13,top 14,top 15,top 16,top 17,top 18,top 19,top 21,top 22,top 23,top 24,top 26,top 27,top 28,top 29,top 31,top 32,top 33,top 34,top 35,top 36,top 37,top 38,top 39,top 41,top 42,top 43,top 44,top 45,top 46,top 47,top 48,top 49,top 50,top 51,top 52,top 53,top 54]}}
noncomputable def loo:List Str:=[]
noncomputable def xt(s:Shared):Bool:=PySem.W.xlAt vw [] s&&PySem.W.recOk [] s
noncomputable def lhsA(w:World):=(J7 treeTable PySem.Challenge.pw_copykin_k64_whole_wherever_it_stands w 4802).map
 (PySem.W.openSeen vw loo (importedModules PySem.Challenge.pw_copykin_k64_whole_wherever_it_stands.main.body) xt true)
noncomputable def rhsA(_:World):=some (PySem.W.openGood vw loo)
noncomputable def seen{α:Type}(_:α):Bool:=true
theorem laidA:(seen lhsA&&seen rhsA)=true:=by k_qdec
theorem leftA(w:World):lhsA w=rhsA w:=by
 have _:=laidA;rw[PySem.W.Fast.te17695677827762768909,PySem.W.Fast.te6436210211204341609]
 kernel_rfl
theorem both{α c d:Type}{o:Option α}{f:α->c}{g:α->d}{a:c}{b:d}(h:o.map f=some a)(k:o.map g=some b):(o.map fun s=>(f s,g s))=some (a,b):=by
 cases o with
 |none=>cases h
 |some x=>
  injection h with h;injection k with k;rw[<-h,<-k];rfl
end K64
namespace K64
open PySem PySem.Spec PySem.Calls PyProof.Rows L2
noncomputable def A2(P:PySem.Params):ah:=
 (nat_lit 2,⟨.none,none,(.dict #[] 0),#[]⟩)::
 (nat_lit 3,⟨.type "dict",none,(.dict #[⟨aw P "__name__",.str "__name__" 165,.str "law_copykin_k64_whole_wherever_it_stands" 506⟩,⟨aw P "__doc__",.str "__doc__" 166,.none⟩,⟨aw P "__package__",.str "__package__" 167,.none⟩,⟨aw P "__loader__",.str "__loader__" 168,.builtin "__main__.__loader__#opaque"⟩,⟨aw P "__spec__",.str "__spec__" 169,.none⟩,⟨aw P "__annotations__",.str "__annotations__" 170,.ref 6⟩,⟨aw P "__builtins__",.str "__builtins__" 171,.ref 4⟩,⟨aw P "__file__",.str "__file__" 173,.str "/claim/cut.py" 172⟩,⟨aw P "__cached__",.str "__cached__" 174,.none⟩,⟨aw P "KinError",.str "KinError" 206,.ref 24⟩,⟨aw P "Clash",.str "Clash" 235,.ref 44⟩,⟨aw P "Torn",.str "Torn" 262,.ref 63⟩,⟨aw P "NoTable",.str "NoTable" 278,.ref 75⟩,⟨aw P "NoTelling",.str "NoTelling" 294,.ref 87⟩,⟨aw P "LETTERS",.str "LETTERS" 298,.str "abcdefghijklmnopqrstuvwxyz" 297⟩,⟨aw P "LONGEST_NAME",.str "LONGEST_NAME" 300,.int 8 299⟩,⟨aw P "MOST_PLACES",.str "MOST_PLACES" 302,.int 60 301⟩,⟨aw P "MOST_COPIES",.str "MOST_COPIES" 304,.int 40 303⟩,⟨aw P "is_whole",.str "is_whole" 311,.ref 96⟩,⟨aw P "is_name",.str "is_name" 317,.ref 101⟩,⟨aw P "is_reading",.str "is_reading" 324,.ref 108⟩,⟨aw P "are_readings",.str "are_readings" 330,.ref 113⟩,⟨aw P "is_copy",.str "is_copy" 337,.ref 120⟩,⟨aw P "is_table",.str "is_table" 343,.ref 125⟩,⟨aw P "need_table",.str "need_table" 350,.ref 132⟩,⟨aw P "table_list",.str "table_list" 356,.ref 137⟩,⟨aw P "place_count",.str "place_count" 363,.ref 144⟩,⟨aw P "KINDS",.str "KINDS" 374,.ref 149⟩,⟨aw P "first_of_kinds",.str "first_of_kinds" 380,.ref 154⟩,⟨aw P "clash",.str "clash" 392,.ref 161⟩,⟨aw P "refuse_clash",.str "refuse_clash" 400,.ref 168⟩,⟨aw P "group_at",.str "group_at" 414,.ref 175⟩,⟨aw P "turned",.str "turned" 420,.ref 180⟩,⟨aw P "grown",.str "grown" 426,.ref 185⟩,⟨aw P "tree",.str "tree" 434,.ref 192⟩,⟨aw P "is_telling",.str "is_telling" 444,.ref 199⟩,⟨aw P "are_tellings",.str "are_tellings" 450,.ref 204⟩,⟨aw P "need_tellings",.str "need_tellings" 459,.ref 211⟩,⟨aw P "that_read",.str "that_read" 465,.ref 216⟩,⟨aw P "refuse_torn",.str "refuse_torn" 476,.ref 223⟩,⟨aw P "told_nodes",.str "told_nodes" 485,.ref 230⟩,⟨aw P "stands",.str "stands" 493,.ref 237⟩,⟨aw P "unknown_places",.str "unknown_places" 499,.ref 242⟩,⟨aw P "first_read",.str "first_read" 505,.ref 247⟩,⟨aw P "_law_cell_at",.str "_law_cell_at" 515,.ref 254⟩,⟨aw P "_law_whole",.str "_law_whole" 522,.ref 261⟩,⟨aw P "_law_mixed",.str "_law_mixed" 530,.ref 268⟩,⟨aw P "_law_owners",.str "_law_owners" 536,.ref 273⟩,⟨aw P "_law_grown",.str "_law_grown" 551,.ref 280⟩,⟨aw P "_law_nodes",.str "_law_nodes" 557,.ref 285⟩,⟨aw P "_law_name",.str "_law_name" 567,.ref 292⟩,⟨aw P "_law_copies",.str "_law_copies" 573,.ref 297⟩,⟨aw P "_law_built",.str "_law_built" 579,.ref 302⟩,⟨aw P "_law_tellings",.str "_law_tellings" 585,.ref 307⟩,⟨aw P "_law_amid",.str "_law_amid" 597,.ref 314⟩,⟨aw P "_law_wherever",.str "_law_wherever" 603,.ref 319⟩,⟨aw P "_law_one_part",.str "_law_one_part" 609,.ref 324⟩,⟨aw P "law",.str "law" 615,.ref 329⟩] 58),#[]⟩)::
 (nat_lit 95,⟨.type "code",none,(.fields #[.str "is_whole" 305,.str "is_whole" 306,.str "/claim/cut.py" 307,.int 26 0,.int 1 0,.int 0 0,.int 0 0,.int 3 0,.ref 90,.bool true,.int 181 0,.ref 91,.none,.ref 92,.ref 93,.ref 94,.int 309 0,.int 26 0,.str "/claim/cut.py" 310]),#[]⟩)::
 (nat_lit 96,⟨.type "function",none,(.func (aF "is_whole" "is_whole" (bq (top 11)) (a8 (top 11)) (aP (top 11)) .none .none .none (.str "copykin.tables" 295) none (.ref 95) .none)),#[]⟩)::
 (nat_lit 100,⟨.type "code",none,(.fields #[.str "is_name" 312,.str "is_name" 313,.str "/claim/cut.py" 314,.int 28 0,.int 1 0,.int 0 0,.int 0 0,.int 3 0,.ref 97,.bool true,.int 181 0,.ref 98,.none,.none,.none,.ref 99,.int 315 0,.int 28 0,.str "/claim/cut.py" 316]),#[]⟩)::
 (nat_lit 101,⟨.type "function",none,(.func (aF "is_name" "is_name" (bq (top 12)) (a8 (top 12)) (aP (top 12)) .none .none .none (.str "copykin.tables" 295) none (.ref 100) .none)),#[]⟩)::
 (nat_lit 107,⟨.type "code",none,(.fields #[.str "is_reading" 318,.str "is_reading" 319,.str "/claim/cut.py" 320,.int 34 0,.int 1 0,.int 0 0,.int 0 0,.int 3 0,.ref 102,.bool true,.int 181 0,.ref 103,.none,.ref 104,.ref 105,.ref 106,.int 322 0,.int 34 0,.str "/claim/cut.py" 323]),#[]⟩)::
 (nat_lit 108,⟨.type "function",none,(.func (aF "is_reading" "is_reading" (bq (top 13)) (a8 (top 13)) (aP (top 13)) .none .none .none (.str "copykin.tables" 295) none (.ref 107) .none)),#[]⟩)::
 (nat_lit 112,⟨.type "code",none,(.fields #[.str "are_readings" 325,.str "are_readings" 326,.str "/claim/cut.py" 327,.int 36 0,.int 1 0,.int 0 0,.int 0 0,.int 3 0,.ref 109,.bool true,.int 181 0,.ref 110,.none,.none,.none,.ref 111,.int 328 0,.int 36 0,.str "/claim/cut.py" 329]),#[]⟩)::
 (nat_lit 113,⟨.type "function",none,(.func (aF "are_readings" "are_readings" (bq (top 14)) (a8 (top 14)) (aP (top 14)) .none .none .none (.str "copykin.tables" 295) none (.ref 112) .none)),#[]⟩)::
 (nat_lit 119,⟨.type "code",none,(.fields #[.str "is_copy" 331,.str "is_copy" 332,.str "/claim/cut.py" 333,.int 40 0,.int 1 0,.int 0 0,.int 0 0,.int 3 0,.ref 114,.bool true,.int 181 0,.ref 115,.none,.ref 116,.ref 117,.ref 118,.int 335 0,.int 40 0,.str "/claim/cut.py" 336]),#[]⟩)::
 (nat_lit 120,⟨.type "function",none,(.func (aF "is_copy" "is_copy" (bq (top 15)) (a8 (top 15)) (aP (top 15)) .none .none .none (.str "copykin.tables" 295) none (.ref 119) .none)),#[]⟩)::
 (nat_lit 124,⟨.type "code",none,(.fields #[.str "is_table" 338,.str "is_table" 339,.str "/claim/cut.py" 340,.int 44 0,.int 1 0,.int 0 0,.int 0 0,.int 3 0,.ref 121,.bool true,.int 181 0,.ref 122,.none,.none,.none,.ref 123,.int 341 0,.int 44 0,.str "/claim/cut.py" 342]),#[]⟩)::
 (nat_lit 125,⟨.type "function",none,(.func (aF "is_table" "is_table" (bq (top 16)) (a8 (top 16)) (aP (top 16)) .none .none .none (.str "copykin.tables" 295) none (.ref 124) .none)),#[]⟩)::
 (nat_lit 131,⟨.type "code",none,(.fields #[.str "need_table" 344,.str "need_table" 345,.str "/claim/cut.py" 346,.int 52 0,.int 1 0,.int 0 0,.int 0 0,.int 3 0,.ref 126,.bool true,.int 181 0,.ref 127,.none,.ref 128,.ref 129,.ref 130,.int 348 0,.int 52 0,.str "/claim/cut.py" 349]),#[]⟩)::
 (nat_lit 132,⟨.type "function",none,(.func (aF "need_table" "need_table" (bq (top 17)) (a8 (top 17)) (aP (top 17)) .none .none .none (.str "copykin.tables" 295) none (.ref 131) .none)),#[]⟩)::
 (nat_lit 136,⟨.type "code",none,(.fields #[.str "table_list" 351,.str "table_list" 352,.str "/claim/cut.py" 353,.int 55 0,.int 1 0,.int 0 0,.int 0 0,.int 3 0,.ref 133,.bool true,.int 181 0,.ref 134,.none,.none,.none,.ref 135,.int 354 0,.int 55 0,.str "/claim/cut.py" 355]),#[]⟩)::
 (nat_lit 137,⟨.type "function",none,(.func (aF "table_list" "table_list" (bq (top 18)) (a8 (top 18)) (aP (top 18)) .none .none .none (.str "copykin.tables" 295) none (.ref 136) .none)),#[]⟩)::
 (nat_lit 143,⟨.type "code",none,(.fields #[.str "place_count" 357,.str "place_count" 358,.str "/claim/cut.py" 359,.int 59 0,.int 1 0,.int 0 0,.int 0 0,.int 3 0,.ref 138,.bool true,.int 181 0,.ref 139,.none,.ref 140,.ref 141,.ref 142,.int 361 0,.int 59 0,.str "/claim/cut.py" 362]),#[]⟩)::
 (nat_lit 144,⟨.type "function",none,(.func (aF "place_count" "place_count" (bq (top 19)) (a8 (top 19)) (aP (top 19)) .none .none .none (.str "copykin.tables" 295) none (.ref 143) .none)),#[]⟩)::
 (nat_lit 145,⟨.type "tuple",none,(.seq #[.int 0 366,.int 0 367] 0),#[]⟩)::
 (nat_lit 146,⟨.type "tuple",none,(.seq #[.int 0 368,.int 1 369] 0),#[]⟩)::
 (nat_lit 147,⟨.type "tuple",none,(.seq #[.int 1 370,.int 0 371] 0),#[]⟩)::
 (nat_lit 148,⟨.type "tuple",none,(.seq #[.int 1 372,.int 1 373] 0),#[]⟩)::
 (nat_lit 149,⟨.type "tuple",none,(.seq #[.ref 145,.ref 146,.ref 147,.ref 148] 0),#[]⟩)::
 (nat_lit 153,⟨.type "code",none,(.fields #[.str "first_of_kinds" 375,.str "first_of_kinds" 376,.str "/claim/cut.py" 377,.int 66 0,.int 3 0,.int 0 0,.int 0 0,.int 3 0,.ref 150,.bool true,.int 181 0,.ref 151,.none,.none,.none,.ref 152,.int 378 0,.int 66 0,.str "/claim/cut.py" 379]),#[]⟩)::
 (nat_lit 154,⟨.type "function",none,(.func (aF "first_of_kinds" "first_of_kinds" (bq (top 22)) (a8 (top 22)) (aP (top 22)) .none .none .none (.str "copykin.clashes" 364) none (.ref 153) .none)),#[]⟩)::
 (nat_lit 160,⟨.type "code",none,(.fields #[.str "clash" 381,.str "clash" 382,.str "/claim/cut.py" 383,.int 73 0,.int 1 0,.int 0 0,.int 0 0,.int 3 0,.ref 155,.bool true,.int 181 0,.ref 156,.none,.ref 157,.ref 158,.ref 159,.int 390 0,.int 73 0,.str "/claim/cut.py" 391]),#[]⟩)::
 (nat_lit 161,⟨.type "function",none,(.func (aF "clash" "clash" (bq (top 23)) (a8 (top 23)) (aP (top 23)) .none .none .none (.str "copykin.clashes" 364) none (.ref 160) .none)),#[]⟩)::
 (nat_lit 167,⟨.type "code",none,(.fields #[.str "refuse_clash" 393,.str "refuse_clash" 394,.str "/claim/cut.py" 395,.int 82 0,.int 1 0,.int 0 0,.int 0 0,.int 3 0,.ref 162,.bool true,.int 181 0,.ref 163,.none,.ref 164,.ref 165,.ref 166,.int 398 0,.int 82 0,.str "/claim/cut.py" 399]),#[]⟩)::
 (nat_lit 168,⟨.type "function",none,(.func (aF "refuse_clash" "refuse_clash" (bq (top 24)) (a8 (top 24)) (aP (top 24)) .none .none .none (.str "copykin.clashes" 364) none (.ref 167) .none)),#[]⟩)::
 (nat_lit 174,⟨.type "code",none,(.fields #[.str "group_at" 403,.str "group_at" 404,.str "/claim/cut.py" 405,.int 87 0,.int 2 0,.int 0 0,.int 0 0,.int 3 0,.ref 169,.bool true,.int 181 0,.ref 170,.none,.ref 171,.ref 172,.ref 173,.int 412 0,.int 87 0,.str "/claim/cut.py" 413]),#[]⟩)::
 (nat_lit 175,⟨.type "function",none,(.func (aF "group_at" "group_at" (bq (top 26)) (a8 (top 26)) (aP (top 26)) .none .none .none (.str "copykin.trees" 401) none (.ref 174) .none)),#[]⟩)::
 (nat_lit 179,⟨.type "code",none,(.fields #[.str "turned" 415,.str "turned" 416,.str "/claim/cut.py" 417,.int 93 0,.int 2 0,.int 0 0,.int 0 0,.int 3 0,.ref 176,.bool true,.int 181 0,.ref 177,.none,.none,.none,.ref 178,.int 418 0,.int 93 0,.str "/claim/cut.py" 419]),#[]⟩)::
 (nat_lit 180,⟨.type "function",none,(.func (aF "turned" "turned" (bq (top 27)) (a8 (top 27)) (aP (top 27)) .none .none .none (.str "copykin.trees" 401) none (.ref 179) .none)),#[]⟩)::
 (nat_lit 184,⟨.type "code",none,(.fields #[.str "grown" 421,.str "grown" 422,.str "/claim/cut.py" 423,.int 95 0,.int 1 0,.int 0 0,.int 0 0,.int 3 0,.ref 181,.bool true,.int 181 0,.ref 182,.none,.none,.none,.ref 183,.int 424 0,.int 95 0,.str "/claim/cut.py" 425]),#[]⟩)::
 (nat_lit 185,⟨.type "function",none,(.func (aF "grown" "grown" (bq (top 28)) (a8 (top 28)) (aP (top 28)) .none .none .none (.str "copykin.trees" 401) none (.ref 184) .none)),#[]⟩)::
 (nat_lit 191,⟨.type "code",none,(.fields #[.str "tree" 427,.str "tree" 428,.str "/claim/cut.py" 429,.int 110 0,.int 1 0,.int 0 0,.int 0 0,.int 3 0,.ref 186,.bool true,.int 181 0,.ref 187,.none,.ref 188,.ref 189,.ref 190,.int 432 0,.int 110 0,.str "/claim/cut.py" 433]),#[]⟩)::
 (nat_lit 192,⟨.type "function",none,(.func (aF "tree" "tree" (bq (top 29)) (a8 (top 29)) (aP (top 29)) .none .none .none (.str "copykin.trees" 401) none (.ref 191) .none)),#[]⟩)::
 (nat_lit 198,⟨.type "code",none,(.fields #[.str "is_telling" 437,.str "is_telling" 438,.str "/claim/cut.py" 439,.int 117 0,.int 2 0,.int 0 0,.int 0 0,.int 3 0,.ref 193,.bool true,.int 181 0,.ref 194,.none,.ref 195,.ref 196,.ref 197,.int 442 0,.int 117 0,.str "/claim/cut.py" 443]),#[]⟩)::
 (nat_lit 199,⟨.type "function",none,(.func (aF "is_telling" "is_telling" (bq (top 31)) (a8 (top 31)) (aP (top 31)) .none .none .none (.str "copykin.standing" 435) none (.ref 198) .none)),#[]⟩)::
 (nat_lit 203,⟨.type "code",none,(.fields #[.str "are_tellings" 445,.str "are_tellings" 446,.str "/claim/cut.py" 447,.int 123 0,.int 2 0,.int 0 0,.int 0 0,.int 3 0,.ref 200,.bool true,.int 181 0,.ref 201,.none,.none,.none,.ref 202,.int 448 0,.int 123 0,.str "/claim/cut.py" 449]),#[]⟩)::
 (nat_lit 204,⟨.type "function",none,(.func (aF "are_tellings" "are_tellings" (bq (top 32)) (a8 (top 32)) (aP (top 32)) .none .none .none (.str "copykin.standing" 435) none (.ref 203) .none)),#[]⟩)::
 (nat_lit 210,⟨.type "code",none,(.fields #[.str "need_tellings" 451,.str "need_tellings" 452,.str "/claim/cut.py" 453,.int 129 0,.int 2 0,.int 0 0,.int 0 0,.int 3 0,.ref 205,.bool true,.int 181 0,.ref 206,.none,.ref 207,.ref 208,.ref 209,.int 457 0,.int 129 0,.str "/claim/cut.py" 458]),#[]⟩)::
 (nat_lit 211,⟨.type "function",none,(.func (aF "need_tellings" "need_tellings" (bq (top 33)) (a8 (top 33)) (aP (top 33)) .none .none .none (.str "copykin.standing" 435) none (.ref 210) .none)),#[]⟩)::
 (nat_lit 215,⟨.type "code",none,(.fields #[.str "that_read" 460,.str "that_read" 461,.str "/claim/cut.py" 462,.int 135 0,.int 2 0,.int 0 0,.int 0 0,.int 3 0,.ref 212,.bool true,.int 181 0,.ref 213,.none,.none,.none,.ref 214,.int 463 0,.int 135 0,.str "/claim/cut.py" 464]),#[]⟩)::
 (nat_lit 216,⟨.type "function",none,(.func (aF "that_read" "that_read" (bq (top 34)) (a8 (top 34)) (aP (top 34)) .none .none .none (.str "copykin.standing" 435) none (.ref 215) .none)),#[]⟩)::
 (nat_lit 229,⟨.type "code",none,(.fields #[.str "told_nodes" 477,.str "told_nodes" 478,.str "/claim/cut.py" 479,.int 142 0,.int 2 0,.int 0 0,.int 0 0,.int 3 0,.ref 224,.bool true,.int 181 0,.ref 225,.none,.ref 226,.ref 227,.ref 228,.int 483 0,.int 142 0,.str "/claim/cut.py" 484]),#[]⟩)::
 (nat_lit 230,⟨.type "function",none,(.func (aF "told_nodes" "told_nodes" (bq (top 36)) (a8 (top 36)) (aP (top 36)) .none .none .none (.str "copykin.standing" 435) none (.ref 229) .none)),#[]⟩)::
 (nat_lit 236,⟨.type "code",none,(.fields #[.str "stands" 486,.str "stands" 487,.str "/claim/cut.py" 488,.int 147 0,.int 2 0,.int 0 0,.int 0 0,.int 3 0,.ref 231,.bool true,.int 181 0,.ref 232,.none,.ref 233,.ref 234,.ref 235,.int 491 0,.int 147 0,.str "/claim/cut.py" 492]),#[]⟩)::
 (nat_lit 237,⟨.type "function",none,(.func (aF "stands" "stands" (bq (top 37)) (a8 (top 37)) (aP (top 37)) .none .none .none (.str "copykin.standing" 435) none (.ref 236) .none)),#[]⟩)::
 (nat_lit 241,⟨.type "code",none,(.fields #[.str "unknown_places" 494,.str "unknown_places" 495,.str "/claim/cut.py" 496,.int 150 0,.int 3 0,.int 0 0,.int 0 0,.int 3 0,.ref 238,.bool true,.int 181 0,.ref 239,.none,.none,.none,.ref 240,.int 497 0,.int 150 0,.str "/claim/cut.py" 498]),#[]⟩)::
 (nat_lit 242,⟨.type "function",none,(.func (aF "unknown_places" "unknown_places" (bq (top 38)) (a8 (top 38)) (aP (top 38)) .none .none .none (.str "copykin.standing" 435) none (.ref 241) .none)),#[]⟩)::
 (nat_lit 246,⟨.type "code",none,(.fields #[.str "first_read" 500,.str "first_read" 501,.str "/claim/cut.py" 502,.int 157 0,.int 2 0,.int 0 0,.int 0 0,.int 3 0,.ref 243,.bool true,.int 181 0,.ref 244,.none,.none,.none,.ref 245,.int 503 0,.int 157 0,.str "/claim/cut.py" 504]),#[]⟩)::
 (nat_lit 247,⟨.type "function",none,(.func (aF "first_read" "first_read" (bq (top 39)) (a8 (top 39)) (aP (top 39)) .none .none .none (.str "copykin.standing" 435) none (.ref 246) .none)),#[]⟩)::
 (nat_lit 253,⟨.type "code",none,(.fields #[.str "_law_cell_at" 508,.str "_law_cell_at" 509,.str "/claim/cut.py" 510,.int 164 0,.int 2 0,.int 0 0,.int 0 0,.int 3 0,.ref 248,.bool true,.int 181 0,.ref 249,.none,.ref 250,.ref 251,.ref 252,.int 513 0,.int 164 0,.str "/claim/cut.py" 514]),#[]⟩)::
 (nat_lit 254,⟨.type "function",none,(.func (aF "_law_cell_at" "_law_cell_at" (bq (top 41)) (a8 (top 41)) (aP (top 41)) .none .none .none (.str "law_copykin_k64_whole_wherever_it_stands" 506) none (.ref 253) .none)),#[]⟩)::
 (nat_lit 267,⟨.type "code",none,(.fields #[.str "_law_mixed" 523,.str "_law_mixed" 524,.str "/claim/cut.py" 525,.int 170 0,.int 2 0,.int 0 0,.int 0 0,.int 3 0,.ref 262,.bool true,.int 181 0,.ref 263,.none,.ref 264,.ref 265,.ref 266,.int 528 0,.int 170 0,.str "/claim/cut.py" 529]),#[]⟩)::
 (nat_lit 268,⟨.type "function",none,(.func (aF "_law_mixed" "_law_mixed" (bq (top 43)) (a8 (top 43)) (aP (top 43)) .none .none .none (.str "law_copykin_k64_whole_wherever_it_stands" 506) none (.ref 267) .none)),#[]⟩)::
 (nat_lit 272,⟨.type "code",none,(.fields #[.str "_law_owners" 531,.str "_law_owners" 532,.str "/claim/cut.py" 533,.int 172 0,.int 4 0,.int 0 0,.int 0 0,.int 3 0,.ref 269,.bool true,.int 181 0,.ref 270,.none,.none,.none,.ref 271,.int 534 0,.int 172 0,.str "/claim/cut.py" 535]),#[]⟩)::
 (nat_lit 273,⟨.type "function",none,(.func (aF "_law_owners" "_law_owners" (bq (top 44)) (a8 (top 44)) (aP (top 44)) .none .none .none (.str "law_copykin_k64_whole_wherever_it_stands" 506) none (.ref 272) .none)),#[]⟩)::
 (nat_lit 279,⟨.type "code",none,(.fields #[.str "_law_grown" 537,.str "_law_grown" 538,.str "/claim/cut.py" 539,.int 191 0,.int 2 0,.int 0 0,.int 0 0,.int 3 0,.ref 274,.bool true,.int 181 0,.ref 275,.none,.ref 276,.ref 277,.ref 278,.int 549 0,.int 191 0,.str "/claim/cut.py" 550]),#[]⟩)::
 (nat_lit 280,⟨.type "function",none,(.func (aF "_law_grown" "_law_grown" (bq (top 45)) (a8 (top 45)) (aP (top 45)) .none .none .none (.str "law_copykin_k64_whole_wherever_it_stands" 506) none (.ref 279) .none)),#[]⟩)::
 (nat_lit 284,⟨.type "code",none,(.fields #[.str "_law_nodes" 552,.str "_law_nodes" 553,.str "/claim/cut.py" 554,.int 203 0,.int 5 0,.int 0 0,.int 0 0,.int 3 0,.ref 281,.bool true,.int 181 0,.ref 282,.none,.none,.none,.ref 283,.int 555 0,.int 203 0,.str "/claim/cut.py" 556]),#[]⟩)::
 (nat_lit 285,⟨.type "function",none,(.func (aF "_law_nodes" "_law_nodes" (bq (top 46)) (a8 (top 46)) (aP (top 46)) .none .none .none (.str "law_copykin_k64_whole_wherever_it_stands" 506) none (.ref 284) .none)),#[]⟩)::
 (nat_lit 291,⟨.type "code",none,(.fields #[.str "_law_name" 558,.str "_law_name" 559,.str "/claim/cut.py" 560,.int 213 0,.int 2 0,.int 0 0,.int 0 0,.int 3 0,.ref 286,.bool true,.int 181 0,.ref 287,.none,.ref 288,.ref 289,.ref 290,.int 565 0,.int 213 0,.str "/claim/cut.py" 566]),#[]⟩)::
 (nat_lit 292,⟨.type "function",none,(.func (aF "_law_name" "_law_name" (bq (top 47)) (a8 (top 47)) (aP (top 47)) .none .none .none (.str "law_copykin_k64_whole_wherever_it_stands" 506) none (.ref 291) .none)),#[]⟩)::
 (nat_lit 296,⟨.type "code",none,(.fields #[.str "_law_copies" 568,.str "_law_copies" 569,.str "/claim/cut.py" 570,.int 217 0,.int 5 0,.int 0 0,.int 0 0,.int 3 0,.ref 293,.bool true,.int 181 0,.ref 294,.none,.none,.none,.ref 295,.int 571 0,.int 217 0,.str "/claim/cut.py" 572]),#[]⟩)::
 (nat_lit 297,⟨.type "function",none,(.func (aF "_law_copies" "_law_copies" (bq (top 48)) (a8 (top 48)) (aP (top 48)) .none .none .none (.str "law_copykin_k64_whole_wherever_it_stands" 506) none (.ref 296) .none)),#[]⟩)::
 (nat_lit 301,⟨.type "code",none,(.fields #[.str "_law_built" 574,.str "_law_built" 575,.str "/claim/cut.py" 576,.int 233 0,.int 2 0,.int 0 0,.int 0 0,.int 3 0,.ref 298,.bool true,.int 181 0,.ref 299,.none,.none,.none,.ref 300,.int 577 0,.int 233 0,.str "/claim/cut.py" 578]),#[]⟩)::
 (nat_lit 302,⟨.type "function",none,(.func (aF "_law_built" "_law_built" (bq (top 49)) (a8 (top 49)) (aP (top 49)) .none .none .none (.str "law_copykin_k64_whole_wherever_it_stands" 506) none (.ref 301) .none)),#[]⟩)::
 (nat_lit 306,⟨.type "code",none,(.fields #[.str "_law_tellings" 580,.str "_law_tellings" 581,.str "/claim/cut.py" 582,.int 248 0,.int 3 0,.int 0 0,.int 0 0,.int 3 0,.ref 303,.bool true,.int 181 0,.ref 304,.none,.none,.none,.ref 305,.int 583 0,.int 248 0,.str "/claim/cut.py" 584]),#[]⟩)::
 (nat_lit 307,⟨.type "function",none,(.func (aF "_law_tellings" "_law_tellings" (bq (top 50)) (a8 (top 50)) (aP (top 50)) .none .none .none (.str "law_copykin_k64_whole_wherever_it_stands" 506) none (.ref 306) .none)),#[]⟩)::
 (nat_lit 313,⟨.type "code",none,(.fields #[.str "_law_amid" 586,.str "_law_amid" 587,.str "/claim/cut.py" 588,.int 262 0,.int 2 0,.int 0 0,.int 0 0,.int 3 0,.ref 308,.bool true,.int 181 0,.ref 309,.none,.ref 310,.ref 311,.ref 312,.int 595 0,.int 262 0,.str "/claim/cut.py" 596]),#[]⟩)::
 (nat_lit 314,⟨.type "function",none,(.func (aF "_law_amid" "_law_amid" (bq (top 51)) (a8 (top 51)) (aP (top 51)) .none .none .none (.str "law_copykin_k64_whole_wherever_it_stands" 506) none (.ref 313) .none)),#[]⟩)::
 (nat_lit 318,⟨.type "code",none,(.fields #[.str "_law_wherever" 598,.str "_law_wherever" 599,.str "/claim/cut.py" 600,.int 270 0,.int 3 0,.int 0 0,.int 0 0,.int 3 0,.ref 315,.bool true,.int 181 0,.ref 316,.none,.none,.none,.ref 317,.int 601 0,.int 270 0,.str "/claim/cut.py" 602]),#[]⟩)::
 (nat_lit 319,⟨.type "function",none,(.func (aF "_law_wherever" "_law_wherever" (bq (top 52)) (a8 (top 52)) (aP (top 52)) .none .none .none (.str "law_copykin_k64_whole_wherever_it_stands" 506) none (.ref 318) .none)),#[]⟩)::
 (nat_lit 323,⟨.type "code",none,(.fields #[.str "_law_one_part" 604,.str "_law_one_part" 605,.str "/claim/cut.py" 606,.int 279 0,.int 2 0,.int 0 0,.int 0 0,.int 3 0,.ref 320,.bool true,.int 181 0,.ref 321,.none,.none,.none,.ref 322,.int 607 0,.int 279 0,.str "/claim/cut.py" 608]),#[]⟩)::
 (nat_lit 324,⟨.type "function",none,(.func (aF "_law_one_part" "_law_one_part" (bq (top 53)) (a8 (top 53)) (aP (top 53)) .none .none .none (.str "law_copykin_k64_whole_wherever_it_stands" 506) none (.ref 323) .none)),#[]⟩)::
 (nat_lit 328,⟨.type "code",none,(.fields #[.str "law" 610,.str "law" 611,.str "/claim/cut.py" 612,.int 282 0,.int 1 0,.int 0 0,.int 0 0,.int 3 0,.ref 325,.bool true,.int 181 0,.ref 326,.none,.none,.none,.ref 327,.int 613 0,.int 282 0,.str "/claim/cut.py" 614]),#[]⟩)::
 (nat_lit 329,⟨.type "function",none,(.func (aF "law" "law" (bq (top 54)) (a8 (top 54)) (aP (top 54)) .none .none .none (.str "law_copykin_k64_whole_wherever_it_stands" 506) none (.ref 328) .none)),#[]⟩)::[]
noncomputable def A3:List Addr:=[2,3,95,96,100,101,107,108,112,113,119,120,124,125,131,132,136,137,143,144,145,146,147,148,149,153,154,160,161,167,168,174,175,179,180,184,185,191,192,198,199,203,204,210,211,215,216,229,230,236,237,241,242,246,247,253,254,267,268,272,273,279,280,284,285,291,292,296,297,301,302,306,307,313,314,318,319,323,324,328,329]
noncomputable def lhsB(w:World):=(J7 treeTable PySem.Challenge.pw_copykin_k64_whole_wherever_it_stands w 4802).map (BS (j9 K64.A2 K64.A3 (fun _=>by kernel_rfl) [134]))
noncomputable def rhsB(w:World):=some (BR (j9 K64.A2 K64.A3 (fun _=>by kernel_rfl) [134]) w)
theorem laidB:(seen lhsB&&seen rhsB)=true:=by k_qdec
theorem leftB(w:World):lhsB w=rhsB w:=by
 have _:=laidB;rw[PySem.W.Fast.te15786107682362886841,PySem.W.Fast.te5758461500590476179]
 kernel_rfl
end K64
namespace L2
open PySem PySem.Spec PyProof.Rows
noncomputable abbrev Key:=Sum Int Str
noncomputable def vL:Key->Value->Bool
 |.inl k,v=>Value.isInt k v
 |.inr x,v=>Value.isStrOf x v
noncomputable def keyH(w:World):Key->Int
 |.inl k=>hashInt k
 |.inr x=>hashStr w x
theorem eK:∀{k:Key}{v:Value},vL k v=true->(∃i t,k=dG i/\v=wy i t)\/(∃x t,k=eW x/\v=iM x t)
 |.inl i,v,h=>by
  obtain⟨t,e⟩:=Value.isInt_shape (k:=i) (v:=v) h;exact .inl ⟨i,t,rfl,e⟩
 |.inr x,v,h=>by
  obtain⟨t,e⟩:=Value.isStrOf_shape (x:=x) (v:=v) h;exact .inr ⟨x,t,rfl,e⟩
theorem FR(i:Int)(t:Tok):vL (.inl i) (.int i t)=true:=by simp[vL,Value.isInt]
theorem FQ(x:Str)(t:Tok):vL (.inr x) (.str x t)=true:=by simp[vL,Value.isStrOf]
theorem key_ll(a b:Int):decide ((dG a:Key)=dG b)=(a==b):=by
 by_cases e:a=b
 ·subst e;simp
 ·have h:¬(dG a:Key)=dG b:=fun q=>e (dG.inj q)
  rw[decide_eq_false h];exact(beq_eq_false_iff_ne.mpr e).symm
theorem key_rr(a b:Str):decide ((eW a:Key)=eW b)=decide (a=b):=by
 by_cases e:a=b
 ·subst e;simp
 ·have h:¬(eW a:Key)=eW b:=fun q=>e (eW.inj q)
  rw[decide_eq_false h,decide_eq_false e]
theorem key_lr(a:Int)(b:Str):decide ((dG a:Key)=eW b)=false:=decide_eq_false (fun q=>nomatch q)
theorem key_rl(a:Str)(b:Int):decide ((eW a:Key)=dG b)=false:=decide_eq_false (fun q=>nomatch q)
noncomputable def cy(prog:Program)(w:World):PySem.KeyKind prog w Key where
 is:=vL
 hash:=keyH w
 inj:=fun v a b f d=>by
  rcases eK f with⟨i,t,rfl,rfl⟩ |⟨x,t,rfl,rfl⟩
  ·rcases eK d with⟨j,u,rfl,e⟩ |⟨y,u,rfl,e⟩
   ·injection e with e1 _;rw[e1]
   ·exact nomatch e
  ·rcases eK d with⟨j,u,rfl,e⟩ |⟨y,u,rfl,e⟩
   ·exact nomatch e
   ·injection e with e1 _;rw[e1]
 byValue:=fun k v h=>by
  rcases eK h with⟨i,t,rfl,rfl⟩ |⟨x,t,rfl,rfl⟩<;>rfl
 pyHash:=fun c h=>by
  rcases eK c with⟨i,t,rfl,rfl⟩ |⟨x,t,rfl,rfl⟩
  ·exact wpAny_pyHash_int h
  ·exact wpAny_pyHash_str h
 eqBool:=fun g c h=>by
  rcases eK g with⟨i,t,rfl,rfl⟩ |⟨x,t,rfl,rfl⟩
  ·rcases eK c with⟨j,u,rfl,rfl⟩ |⟨y,u,rfl,rfl⟩
   ·rw[key_ll]at h;exact qa h
   ·rw[key_lr]at h;exact BQ i t y u _ _ _ _ h
  ·rcases eK c with⟨j,u,rfl,rfl⟩ |⟨y,u,rfl,rfl⟩
   ·rw[key_rl]at h;exact BP x t j u _ _ _ _ h
   ·rw[key_rr]at h;exact wpAny_eqBool_str h
 «strs»:=fun k x t v h=>by
  rcases eK h with⟨i,u,rfl,e⟩ |⟨y,u,rfl,e⟩
  ·exact nomatch e
  ·injection e with e1 _
   subst e1;cases v<;>rfl
theorem Cz(prog:Program)(w:World)(k:Key)(v:Value):(cy prog w).is k v=vL k v:=rfl
theorem nh(prog:Program)(w:World)(i:Int)(t:Tok):(cy prog w).is (.inl i) (.int i t)=true:=FR i t
theorem AM(prog:Program)(w:World)(x:Str)(t:Tok):(cy prog w).is (.inr x) (.str x t)=true:=FQ x t
inductive V where
 |non|bl (b:Bool) |int (i:Int) |str (x:Str) |byt (b:Array UInt8) |flt (b:UInt64) |ref (a:Addr) |ty (n:String)
 deriving DecidableEq
noncomputable def RelV:V->Value->Prop
 |.non,u=>u=bF
 |.bl b,u=>u=zU b
 |.int i,u=>∃t,u=wy i t
 |.str x,u=>∃t,u=iM x t
 |.byt b,u=>∃t,u=Value.bytes b t
 |.flt b,u=>∃t,u=Value.float b t
 |.ref a,u=>u=cF a
 |.ty n,u=>u=fK n
noncomputable abbrev bE:List V->List Value->Prop:=Paired RelV
theorem bE.length{xs:List V}(r:bE xs us):xs.length=us.length:=lU r
theorem bE.get:∀{xs:List V}{us:List Value}{i:Nat}{x:V},bE xs us->xs[i]? =some x->∃u,us[i]? =some u/\RelV x u
 |_,_,_,_,.nil,e=>by simp at e
 |_,_,0,_,.cons r _,e=>by simp at e;subst e;exact⟨_,rfl,r⟩
 |_,_,i+1,x,.cons _ t,e=>by
  obtain⟨u,h1,h2⟩:=bE.get (i:=i) (x:=x) t (by simpa using e);exact⟨u,by simpa using h1,h2⟩
theorem bE.set{x:V}(r:RelV x u):∀{xs:List V}{us:List Value}(i:Nat),bE xs us->bE (xs.set i x) (us.set i u)
 |_,_,_,.nil=>.nil
 |_,_,0,.cons _ t=>.cons r t
 |_,_,i+1,.cons q t=>.cons q (bE.set r i t)
theorem bE.append:∀{xs ys:List V}{us ws:List Value},bE xs us->bE ys ws->bE (xs++ys) (us++ws)
 |_,_,_,_,.nil,s=>s
 |_,_,_,_,.cons r t,s=>.cons r (bE.append t s)
theorem bE.take:∀{xs:List V}{us:List Value}(n:Nat),bE xs us->bE (xs.take n) (us.take n)
 |_,_,0,_=>.nil
 |_,_,_+1,.nil=>.nil
 |_,_,n+1,.cons r t=>.cons r (bE.take n t)
theorem bE.drop:∀{xs:List V}{us:List Value}(n:Nat),bE xs us->bE (xs.drop n) (us.drop n)
 |_,_,0,r=>r
 |_,_,_+1,.nil=>.nil
 |_,_,n+1,.cons _ t=>bE.drop n t
noncomputable def wx:Option V->Option Value->Prop
 |some v,some u=>RelV v u
 |none,none=>True
 |_,_=>False
noncomputable def KV{κ:Type}:List (κ×V)->List (κ×Value)->Prop:=Paired fun(p:κ×V)(q:κ×Value)=>p.1=q.1/\RelV p.2 q.2
noncomputable def kV:Key->V
 |.inl i=>.int i
 |.inr x=>.str x
inductive HO where
 |lst (xs:List V)
 |tup (xs:List V)
 |dK (kvs:List (Key×V)) |dT (kvs:List (List Key×V))
 |set (S:Int->Bool) (n:Nat)
 |ins (C dx:Addr) (fs:List (Str×V))
 |own (x:Addr)
 |xd (fs:List (Str×V))
 |met (f x:Addr)
 |rng (lo hi:Int)
 |frz (o:Obj) (u:HO)
 |tbl (ps:Array Value)
 |ext (φ:Heap->Prop)
noncomputable abbrev Hp:=Addr->Option HO
noncomputable def upd(H:Hp)(a:Addr)(o:HO):Hp:=fun b=>if b=a then some o else H b
theorem ao{H:Hp}{o:HO}:upd H a o a=some o:=by unfold upd;rw[if_pos rfl]
theorem bo{H:Hp}{o:HO}(h:b≠a):upd H a o b=H b:=by unfold upd;rw[if_neg h]
theorem ne_of{H:Hp}{o u:HO}(h:H a=some o)(h':H b=some u)(d:o≠u):a≠b:=by
 intro e;subst e;rw[h]at h';exact d (a6 h')
theorem bR{H:Hp}{o:HO}(h:H a=some o)(h':H b=none):a≠b:=by
 intro e;subst e;rw[h]at h';cases h'
section
variable(P:Program)(w:World)
noncomputable def dP(H:Hp)(h:Heap)(a:Addr):HO->Prop
 |.lst xs=>xs.length<=sizeLine/\∃(its:List Value)(n:Nat),bE xs its/\h.get? a=some {cls:=.type "list",data:=.seq its.toArray n}
 |.tup xs=>xs.length<=sizeLine/\∃its:List Value,bE xs its/\IsTup h a its.toArray
 |.dK kvs=>kvs.length<=sizeLine/\(a==gz)=false/\∃vs,KV kvs vs/\h.DictOf (cy P w) a vs
 |.dT kvs=>kvs.length<=sizeLine/\(a==gz)=false/\∃xs:List (List Key×Addr×Value),
   Paired (fun(p:List Key×V)(q:List Key×Addr×Value)=>p.1=q.1/\H q.2.1=some (.tup (p.1.map kV))/\RelV p.2 q.2.2) kvs xs/\
   ∃o es ep,h.get? a=some o/\o.ExactDict/\o.data=.dict es ep/\es.toList=xs.map (entryOfKey (qb (cy P w)))/\(xs.map (·.1)).Nodup
 |.set S n=>h.SetOf (intKind P w) a S n
 |.ins C dx fs=>H dx=some (.own a)/\fs.length<=1000/\dx≠a/\h.get? a=some (wz C dx)/\
   ∃mA,h.Ns1 dx mA/\(∀f,wx (fs.lookup f) (mA f))/\Di mA (fs.map (·.1))
 |.own _=>∃o,h.get? a=some o
 |.xd fs=>∃mA,h.Ns1 a mA/\∀f,wx (fs.lookup f) (mA f)
 |.rng lo hi=>∃t u v,h.get? a=some {cls:=.type "range",data:=.fields #[.int lo t,.int hi u,.int 1 v]}
 |.frz o u=>h.get? a=some o/\dP H h a u
 |.tbl ps=>h.get? a=some {cls:=.none,data:=.fields ps}
 |.met f x=>h.get? a=some (sO (.ref f) (.ref x))
 |.ext φ=>φ h/\(∃o,h.get? a=some o)/\∀h1 h2:Heap,φ h1->(∀o,h1.get? a=some o->h2.get? a=some o)->φ h2
def HOk(H:Hp)(h:Heap):Prop:=∀a o,H a=some o->dP P w H h a o
end
section
variable {P:Program}{w:World}{H H':Hp}{h h':Heap}{a:Addr}{o:HO}
theorem dP.lt(x:dP P w H h a o):a<h.objs.size:=by
 cases o with
 |lst xs=>obtain⟨_,_,_,_,e⟩:=x;exact aB e
 |tup xs=>obtain⟨_,_,_,p⟩:=x;exact p.lt
 |dK kvs=>obtain⟨_,_,_,_,o,_,_,e,_⟩:=x;exact aB e
 |dT kvs=>obtain⟨_,_,_,_,o,_,_,e,_⟩:=x;exact aB e
 |set S n=>obtain⟨o,_,_,_,e,_⟩:=x;exact aB e
 |ins C dx fs=>obtain⟨_,_,_,e,_⟩:=x;exact aB e
 |own y=>obtain⟨_,e⟩:=x;exact aB e
 |xd fs=>obtain⟨_,⟨_,_,_,e,_⟩,_⟩:=x;exact aB e
 |rng lo hi=>obtain⟨_,_,_,e⟩:=x;exact aB e
 |frz ob u=>obtain⟨e,_⟩:=x;exact aB e
 |tbl ps=>exact aB (show h.get? a=some _ from x)
 |met f y=>exact aB (show h.get? a=some _ from x)
 |ext φ=>obtain⟨_,⟨_,e⟩,_⟩:=x;exact aB e
theorem Paired.gh{α e:Type}{F G:α->e->Prop}:∀{c:List α}{d:List e},Paired F c d->(∀a b,F a b->G a b)->Paired G c d
 |_,_,.nil,_=>.nil
 |_,_,.cons r t,f=>.cons (f _ _ r) (Paired.gh t f)
theorem dP.oV(x:dP P w H h a o)(k:∀b u,(b=a\/H b=some (.own a))->h.get? b=some u->h'.get? b=some u)
  (j:∀b,H b=some (.own a)->H' b=some (.own a))(l:∀b xs,H b=some (.tup xs)->H' b=some (.tup xs)):dP P w H' h' a o:=by
 induction o with
 |lst xs=>obtain⟨z,its,n,r,e⟩:=x;exact⟨z,its,n,r,k _ _ (.inl rfl) e⟩
 |tup xs=>obtain⟨z,its,r,g,e,c⟩:=x;exact⟨z,its,r,g,k _ _ (.inl rfl) e,c⟩
 |dK kvs=>obtain⟨z,y,vs,r,g,es,ep,e,c⟩:=x;exact⟨z,y,vs,r,g,es,ep,k _ _ (.inl rfl) e,c⟩
 |dT kvs=>
  obtain⟨z,y,xs,r,g,es,ep,e,c⟩:=x;exact⟨z,y,xs,Paired.gh r fun p q z=>⟨z.1,l _ _ z.2.1,z.2.2⟩,g,es,ep,k _ _ (.inl rfl) e,c⟩
 |set S n=>obtain⟨g,es,ep,t,e,c⟩:=x;exact⟨g,es,ep,t,k _ _ (.inl rfl) e,c⟩
 |ins C dx fs=>
  obtain⟨d,z,ne,e,mA,⟨od,es,ep,i,c⟩,r⟩:=x;exact⟨j _ d,z,ne,k _ _ (.inl rfl) e,mA,⟨od,es,ep,k _ _ (.inr d) i,c⟩,r⟩
 |own y=>obtain⟨g,e⟩:=x;exact⟨g,k _ _ (.inl rfl) e⟩
 |xd fs=>obtain⟨mA,⟨od,es,ep,e,c⟩,r⟩:=x;exact⟨mA,⟨od,es,ep,k _ _ (.inl rfl) e,c⟩,r⟩
 |rng lo hi=>obtain⟨t,u,v,e⟩:=x;exact⟨t,u,v,k _ _ (.inl rfl) e⟩
 |frz g u ih=>obtain⟨e,q⟩:=x;exact⟨k _ _ (.inl rfl) e,ih q⟩
 |tbl ps=>
  have e:h.get? a=some {cls:=.none,data:=.fields ps}:=x;show h'.get? a=some {cls:=.none,data:=.fields ps};exact k a _ (.inl rfl) e
 |met f y=>
  have e:h.get? a=some (sO (.ref f) (.ref y)):=x;show h'.get? a=some (sO (.ref f) (.ref y));exact k a _ (.inl rfl) e
 |ext φ=>obtain⟨p,⟨o,e⟩,st⟩:=x;exact⟨st _ _ p fun o q=>k _ _ (.inl rfl) q,⟨o,k _ _ (.inl rfl) e⟩,st⟩
theorem HOk.lt(x:HOk P w H h)(e:H a=some o):a<h.objs.size:=(x a o e).lt
theorem HOk.fresh(x:HOk P w H h)(e:h.objs.size<=a):H a=none:=by
 cases q:H a with
 |none=>rfl
 |some u=>exact absurd (aY (x.lt q) e) (du _)
theorem HOk.kept(x:HOk P w H h)(k:∀b u,h.get? b=some u->h'.get? b=some u):HOk P w H h':=fun a o e=>
 (x a o e).oV (fun b u _ q=>k b u q) (fun _ q=>q) fun _ _ q=>q
theorem HOk.laid(x:HOk P w H h)(k:∀b u,h.get? b=some u->h'.get? b=some u)(hp:h.objs.size<=a)(f:dP P w (upd H a o) h' a o):HOk P w (upd H a o) h':=fun b u e=>by
 have d:=x.fresh hp;by_cases hb:b=a
 ·subst hb;rw[ao]at e;cases e;exact f
 ·rw[bo hb]at e
  exact(x b u e).oV (fun c v _ q=>k c v q) (fun c q=>by rw[bo (bR q d)];exact q) fun c xs q=>by rw[bo (bR q d)];exact q
end
def Rd(H:Hp)(a:Addr)(u:HO):Prop:=H a=some u\/∃o,H a=some (.frz o u)
theorem Rd.ok{H:Hp}{u:HO}(r:Rd H a u)(x:HOk P w H h):dP P w H h a u:=by
 rcases r with r|⟨o,r⟩
 ·exact x a u r
 ·obtain⟨_,q⟩:=x a _ r
  exact q
noncomputable def Mut:Option HO->Prop
 |some (.lst _)=>True
 |some (.dK _)=>True
 |some (.dT _)=>True
 |some (.set _ _)=>True
 |some (.ins _ _ _)=>True
 |some (.ext _)=>True
 |_=>False
section
variable {P:Program}{w:World}{H:Hp}{h h':Heap}{x e:Addr}{o':HO}
theorem HOk.write(ok:HOk P w H h)(a:Mut (H x))(d:e=x\/H e=some (.own x))(k:∀b u,b≠e->h.get? b=some u->h'.get? b=some u)(i:∃u,h'.get? e=some u)
  (l:dP P w (upd H x o') h' x o'):HOk P w (upd H x o') h':=fun b u q=>by
 have f:∀c y,H c=some (.own y)->c≠x:=fun c y r z=>by subst z;rw[r]at a;exact a
 have m:∀c xs,H c=some (.tup xs)->c≠x:=fun c xs r z=>by subst z;rw[r]at a;exact a
 by_cases hb:b=x
 ·subst hb;rw[ao]at q;cases q;exact l
 ·rw[bo hb]at q
  by_cases hbe:b=e
  ·have g:H b=some (.own x):=by
    rcases d with z|z
    ·exact absurd (hbe.trans z) hb
    ·rw[hbe];exact z
   rw[q]at g;cases g;obtain⟨v,j⟩:=i;exact⟨v,by rw[hbe];exact j⟩
  ·refine(ok b u q).oV (fun c v hc r=>k c v ?_ r) (fun c r=>by rw[bo (f c b r)];exact r) fun c xs r=>by rw[bo (m c xs r)];exact r
   rcases hc with rfl|hc
   ·exact hbe
   ·rintro rfl
    rcases d with z|z
    ·exact f c b hc z
    ·rw[hc]at z;cases z;exact hb rfl
end
structure Un(fs ex:List Addr)(H H':Hp)(h h':Heap):Prop where
 keep:∀b o,h.get? b=some o->H b=none->b∉fs->b∉ex->h'.get? b=some o
 slot:∀b o,h.get? b=some o->H b=none->b∈fs->b∉ex->∃sl,h'.get? b=some {o with slots:=sl}
 free:∀b o,h.get? b=some o->H b=none->b∉ex->H' b=none
 there:∀b o,h.get? b=some o->b∉ex->∃o',h'.get? b=some o'
 tups:∀b xs,H b=some (.tup xs)->H' b=some (.tup xs)
 frzs:∀b o u,H b=some (.frz o u)->H' b=some (.frz o u)
 tbls:∀b ps,H b=some (.tbl ps)->∃more,H' b=some (.tbl (ps++more))
section
variable {fs fs' ex ex':List Addr}{H H1 H2:Hp}{h h1 h2 h':Heap}{a x e:Addr}{o:HO}
theorem Un.any(u:Un fs ex H H1 h h1){ob:Obj}(q:h.get? b=some ob)(n:H b=none)(a:b∉ex):∃sl,h1.get? b=some {ob with slots:=sl}:=by
 by_cases hb:b∈fs
 ·exact u.slot b ob q n hb a
 ·exact⟨ob.slots,u.keep b ob q n hb a⟩
theorem Un.kept(k:∀b u,h.get? b=some u->h'.get? b=some u):Un fs ex H H h h':=
 ⟨fun b a q _ _ _=>k b a q,fun b a q _ _ _=>⟨a.slots,k b a q⟩,fun _ _ _ n _=>n,fun b a q _=>⟨a,k b a q⟩,fun _ _ q=>q,fun _ _ _ q=>q,fun _ ps q=>⟨#[],by rw[q];simp⟩⟩
theorem Un.refl:Un fs ex H H h h:=Un.kept fun _ _ q=>q
theorem Un.laid(k:∀b u,h.get? b=some u->h'.get? b=some u)(hp:h.objs.size<=a)(c:H a=none):Un fs ex H (upd H a o) h h' where
 keep:=fun b u q _ _ _=>k b u q
 slot:=fun b u q _ _ _=>⟨u.slots,k b u q⟩
 free:=fun b u q n _=>by rw[bo (aK (aY (aB q) hp))];exact n
 there:=fun b u q _=>⟨u,k b u q⟩
 tups:=fun b xs q=>by rw[bo (bR q c)];exact q
 frzs:=fun b u xs q=>by rw[bo (bR q c)];exact q
 tbls:=fun b ps q=>⟨#[],by rw[bo (bR q c),q];simp⟩
theorem Un.write(a:Mut (H x))(g:e=x\/H e=some (.own x))(k:∀b u,b≠e->h.get? b=some u->h'.get? b=some u)(i:∃u,h'.get? e=some u):Un fs ex H (upd H x o) h h':=by
 have f:∀b,H b=none->b≠x:=fun b n z=>by subst z;rw[n]at a;exact a
 have d:∀b,H b=none->b≠e:=fun b n z=>by
  subst z;rcases g with r|r
  ·exact f b n r
  ·rw[n]at r;cases r
 have c:∀b u,H b=some u->¬Mut (some u)->b≠x:=fun b u q j z=>by subst z;rw[q]at a;exact j a
 refine⟨fun b u q n _ _=>k b u (d b n) q,fun b u q n _ _=>⟨u.slots,k b u (d b n) q⟩,fun b u q n _=>by rw[bo (f b n)];exact n,fun b u q _=>?_,
  fun b xs q=>by rw[bo (c b _ q fun z=>z)];exact q,fun b u xs q=>by rw[bo (c b _ q fun z=>z)];exact q,fun b ps q=>⟨#[],by rw[bo (c b _ q fun z=>z),q];simp⟩⟩
 by_cases hbe:b=e
 ·subst hbe;exact i
 ·exact⟨u,k b u hbe q⟩
end
noncomputable def trk(h:Heap)(H:Hp):List Addr:=(aA h.objs.size).filter fun a=>(H a).isSome
noncomputable def A1(h:Heap)(H:Hp):Heap:=PySem.W.hideAll h (trk h H)
theorem FY(h:Heap)(H:Hp):(A1 h H).objs.size=h.objs.size:=PySem.W.hideAll_size _ _
theorem vP{H:Hp}{o:Obj}(e:h.get? b=some o)(n:H b=none):(A1 h H).get? b=some o:=
 PySem.W.hideAll_get _ e fun a=>by
  have q:(H b).isSome=true:=(a9.mp a).2;rw[n]at q;simp at q
theorem of_hidT{H:Hp}{o:Obj}(e:(A1 h H).get? b=some o):h.get? b=some o/\H b=none:=by
 have a:h.get? b=some o:=PySem.W.of_hideAll (trk h H) e;refine⟨a,?_⟩;cases q:H b with
 |none=>rfl
 |some x=>
  have c:b∈trk h H:=a9.mpr ⟨aQ.mpr (aB a),by simp[q]⟩;have z:(A1 h H).get? b=none:=PySem.W.hideAll_none (trk h H) c;rw[z]at e;cases e
structure Mod(K:ah)(mg:Str->Option Value)(base:Heap):Prop where
 kin:K.In base
 glob:base.Ns bK mg
 blt:∃mb,base.Ns mP mb/\∀x:Str,x≠"__name__"->mb x=eM x
 nolimit:base.NoLimit
structure Cx where
 prog:Program
 w:World
 K:ah
 mg:Str->Option Value
 base:Heap
 A:Around
 N:List Str
 s₀:Shared
 H₀:Hp
 env:Env
 outer:List Env
 stack:List Env
 ex:List Addr
 fn:Str->Bool
 calm:Bool
 pn:List (Addr×Obj)
 xe:Value->Shared->Prop
noncomputable def frs(l:List Env):List Addr:=l.filterMap (·.frame)
noncomputable abbrev Cx.fs(X:Cx):List Addr:=frs X.outer
def Vis(sc:Scope)(x:Str):Prop:=sc.names.lookup x=some .local\/sc.names.lookup x=some .cell\/sc.names.lookup x=some .free
def Loc(sc:Scope)(x:Str):Prop:=sc.names.lookup x=some .local\/sc.names.lookup x=some .cell
def Look(env:Env)(h:Heap)(m:Str->Option Value)(x:Str)(u:Value):Prop:=
 (env.kindOf x=some .local/\m x=some u)\/((env.kindOf x=some .cell\/env.kindOf x=some .free)/\∃c,env.cells.lookup x=some c/\h.IsCell c (some u))
structure Cx.Ok(X:Cx):Prop where
 mod:Mod X.K X.mg X.base
 kind:X.env.scope.kind=.function
 glob:X.env.globals=bK
 blt:X.env.builtins=mP
 above:X.s₀.heap.objs.size<=X.env.locals
 inj:∀x y c,X.env.cells.lookup x=some c->X.env.cells.lookup y=some c->x=y
 has:∀x,(X.env.kindOf x=some .cell\/X.env.kindOf x=some .free)->∃c,X.env.cells.lookup x=some c
 cab:∀x c,X.fn x=true->X.env.cells.lookup x=some c->X.s₀.heap.objs.size<=c
 hd:X.calm=true->X.A.handled=none
 frames:X.A.frames=some X.stack
 stk:X.stack=X.outer\/(X.stack=X.env::X.outer/\X.env.frame=some X.env.locals)
 exf:∀b∈X.ex,b≠X.env.locals/\∀x c,X.env.cells.lookup x=some c->c≠b
 bs:∀b o,X.base.get? b=some o->X.s₀.heap.get? b=some o/\X.H₀ b=none
 bsz:X.base.objs.size<=X.s₀.heap.objs.size
 noex:∀b o,X.base.get? b=some o->b∉X.ex
 exfs:∀b∈X.ex,b∉X.fs
 zw:X.s₀.heap.FunFrames X.base X.outer
 frf:∀b∈X.fs,X.H₀ b=none
structure Inv(X:Cx)(pins:List (Addr×Obj))(σ:List (Option V))(H:Hp)(s:Shared):Prop where
 ok:X.Ok
 os:s.os=X.s₀.os
 bare:oS s.gens
 base:Un X.fs X.ex X.H₀ H X.s₀.heap s.heap
 loc:∃m,s.heap.Ns X.env.locals m/\∀(i:Nat)(x:Str)(v:V),X.N[i]? =some x->σ[i]? =some (some v)->Vis X.env.scope x->∃u,RelV v u/\Look X.env s.heap m x u
 cell:∀x c,X.env.cells.lookup x=some c->∃v,s.heap.IsCell c v
 free:H X.env.locals=none
 freeC:∀x c,X.env.cells.lookup x=some c->H c=none
 pin:∀p∈X.pn++pins,s.heap.get? p.1=some p.2/\H p.1=none/\p.1≠X.env.locals/\p.1∉X.fs/\∀v,p.2.data≠.cell v
 hok:HOk X.prog X.w H s.heap
 len:σ.length=X.N.length
section
variable {X:Cx}{pins:List (Addr×Obj)}{σ:List (Option V)}{H H':Hp}{s:Shared}{h':Heap}
theorem Cx.Ok.nofr(ok:X.Ok){o:Obj}(e:X.base.get? b=some o):b∉X.fs:=fun a=>by
 have :=(ok.zw.mem a).1
 rw[e]at this;cases this
theorem Inv.bs(I:Inv X pins σ H s):∀b o,X.base.get? b=some o->s.heap.get? b=some o/\H b=none:=fun b o e=>
 ⟨I.base.keep b o (I.ok.bs b o e).1 (I.ok.bs b o e).2 (I.ok.nofr e) (I.ok.noex b o e),I.base.free b o (I.ok.bs b o e).1 (I.ok.bs b o e).2 (I.ok.noex b o e)⟩
theorem Inv.bk(I:Inv X pins σ H s):∀b o,X.base.get? b=some o->s.heap.get? b=some o:=fun b o e=>(I.bs b o e).1
theorem Inv.mod(I:Inv X pins σ H s):Mod X.K X.mg X.base:=I.ok.mod
theorem Inv.kIn(I:Inv X pins σ H s):X.K.In s.heap:=I.ok.mod.kin.keeps I.bk
theorem Inv.nolimit(I:Inv X pins σ H s):s.heap.NoLimit:=I.ok.mod.nolimit.keeps I.bk
theorem Inv.lt(I:Inv X pins σ H s):X.env.locals<s.heap.objs.size:=let⟨_,hn,_⟩:=I.loc;hn.lt
theorem Inv.sz(I:Inv X pins σ H s):X.s₀.heap.objs.size<=s.heap.objs.size:=aG I.ok.above (kM I.lt)
theorem Inv.nofs(I:Inv X pins σ H s)(h:s.heap.objs.size<=a):a∉X.fs:=fun b=>by
 obtain⟨_,o,c,_⟩:=I.ok.zw.mem b;exact absurd (aY (aB c) (aG I.sz h)) (du _)
theorem Inv.cne(I:Inv X pins σ H s):∀x c,X.env.cells.lookup x=some c->c≠X.env.locals:=fun x c e z=>by
 obtain⟨v,o,b,a⟩:=I.cell x c e;obtain⟨m,⟨o',es,ep,f,d,_⟩,_⟩:=I.loc;rw[z,f]at b;cases b;rw[d]at a;cases a
theorem Inv.zw(I:Inv X pins σ H s):s.heap.FunFrames X.base X.outer:=by
 have all:∀(l:List Env),(∀b∈frs l,b∈X.fs)->X.s₀.heap.FunFrames X.base l->s.heap.FunFrames X.base l:=by
  intro l
  induction l with
  |nil=>intro _ _;trivial
  |cons env r ih=>
   intro d h;obtain⟨g,⟨L,o,hf,i,j,f⟩,k⟩:=h;have a:L∈X.fs:=d L (by unfold frs;rw[rX,hf];exact aL);obtain⟨sl,e⟩:=I.base.slot L o j (I.ok.frf L a) a fun z=>I.ok.exfs L z a;exact⟨g,⟨L,_,hf,i,e,f⟩,ih (fun b c=>d b (by unfold frs;rw[rX,hf];exact aO _ c)) k⟩
 exact all X.outer (fun _ c=>c) I.ok.zw
theorem Inv.stack(I:Inv X pins σ H s):s.heap.FunFrames X.base X.stack:=by
 rcases I.ok.stk with e|⟨e,hf⟩
 ·rw[e];exact I.zw
 ·rw[e]
  obtain⟨m,a,_⟩:=I.loc;refine .cons (by rw[I.ok.kind];decide) hf a ?_ I.zw;exact GI (aG I.ok.bsz I.ok.above)
theorem Inv.B7(I:Inv X pins σ H s):∀b∈frs X.stack,b∈X.env.locals::X.fs:=fun b a=>by
 rcases I.ok.stk with e|⟨e,hf⟩
 ·rw[e]at a;exact aO _ a
 ·rw[e]at a
  unfold frs at a;rw[rX,hf]at a;exact a
theorem Inv.yA(I:Inv X pins σ H s):∀b∈frs X.stack,H b=none:=fun b hb=>by
 rcases aE.mp (I.B7 b hb)with e|hb
 ·rw[e];exact I.free
 ·obtain⟨_,o,a,_⟩:=I.ok.zw.mem hb
  exact I.base.free b o a (I.ok.frf b hb) fun z=>I.ok.exfs b z hb
theorem Inv.step{g':Array qg}{d':Drawn}(I:Inv X pins σ H s)
  (t:∀b∈ch,(b∈X.ex\/X.s₀.heap.objs.size<=b)/\b≠X.env.locals/\(∀x c,X.env.cells.lookup x=some c->c≠b)/\∀p∈X.pn++pins,p.1≠b)
  (B:∀b o,b≠X.env.locals->b∉X.fs->b∉ch->s.heap.get? b=some o->H b=none->h'.get? b=some o)
  (slot:∀b o,b≠X.env.locals->b∈X.fs->b∉ch->s.heap.get? b=some o->H b=none->∃sl,h'.get? b=some {o with slots:=sl}) (free:∀b o,b∉ch->s.heap.get? b=some o->H b=none->H' b=none)
  (there:∀b o,b∉ch->s.heap.get? b=some o->∃o',h'.get? b=some o')
  (P:∀b xs,H b=some (.tup xs)->H' b=some (.tup xs)) (E:∀b o u,H b=some (.frz o u)->H' b=some (.frz o u)) (O:∀b ps,H b=some (.tbl ps)->∃more,H' b=some (.tbl (ps++more)))
  (ns:∀m,s.heap.Ns X.env.locals m->h'.Ns X.env.locals m) (K:HOk X.prog X.w H' h') (F:oS g'):
  Inv X pins σ H' {s with heap:=h',gens:=g',drawn:=d',toks:=t'}:=by
 have neL:∀b o,X.s₀.heap.get? b=some o->b≠X.env.locals:=fun b o e=>aK (aY (aB e) I.ok.above);have y:∀b o,X.s₀.heap.get? b=some o->b∉X.ex->b∉ch:=fun b o e a g=>by
  rcases(t b g).1 with z|z
  ·exact a z
  ·exact absurd (aY (aB e) z) (du _)
 have C:∀x c,X.env.cells.lookup x=some c->∀v,s.heap.IsCell c v->h'.IsCell c v:=fun x c e v ⟨o,h,A⟩=>by
  have w:c∉ch:=fun z=>(t c z).2.2.1 x c e rfl;by_cases hc:c∈X.fs
  ·obtain⟨sl,q⟩:=slot c o (I.cne x c e) hc w h (I.freeC x c e)
   exact⟨_,q,A⟩
  ·exact⟨o,B c o (I.cne x c e) hc w h (I.freeC x c e),A⟩
 refine⟨I.ok,I.os,F,⟨fun b o e n g a=>?_,fun b o e n g a=>?_,fun b o e n a=>?_,fun b o e a=>?_,fun b xs e=>P b xs (I.base.tups b xs e),fun b o xs e=>E b o xs (I.base.frzs b o xs e),fun b ps e=>?_⟩,?_,fun x c e=>?_,?_,fun x c e=>?_,fun p hp=>?_,K,I.len⟩
 ·exact B b o (neL b o e) g (y b o e a) (I.base.keep b o e n g a) (I.base.free b o e n a)
 ·obtain⟨sl,f⟩:=I.base.slot b o e n g a
  obtain⟨N,j⟩:=slot b _ (neL b o e) g (y b o e a) f (I.base.free b o e n a);exact⟨N,j⟩
 ·obtain⟨o',f⟩:=I.base.there b o e a
  exact free b o' (y b o e a) f (I.base.free b o e n a)
 ·obtain⟨o',f⟩:=I.base.there b o e a
  exact there b o' (y b o e a) f
 ·obtain⟨L,f⟩:=I.base.tbls b ps e
  obtain⟨M,j⟩:=O b _ f;exact⟨L++M,by rw[j,Array.append_assoc]⟩
 ·obtain⟨m,J,G⟩:=I.loc
  refine⟨m,ns m J,fun i x v f j D=>?_⟩;obtain⟨u,r,l⟩:=G i x v f j D;refine⟨u,r,?_⟩;rcases l with l|⟨k,c,e,z⟩
  ·exact .inl l
  ·exact .inr ⟨k,c,e,C x c e _ z⟩
 ·obtain⟨v,z⟩:=I.cell x c e
  exact⟨v,C x c e v z⟩
 ·obtain⟨m,⟨o,_,_,h,_⟩,_⟩:=I.loc
  exact free _ o (fun z=>(t _ z).2.1 rfl) h I.free
 ·obtain⟨v,o,h,A⟩:=I.cell x c e
  exact free c o (fun z=>(t c z).2.2.1 x c e rfl) h (I.freeC x c e)
 ·obtain⟨e,n,ne,nf,d⟩:=I.pin p hp
  have w:p.1∉ch:=fun z=>(t p.1 z).2.2.2 p hp rfl;exact⟨B p.1 p.2 ne nf w e n,free p.1 p.2 w e n,ne,nf,d⟩
theorem Inv.un(I:Inv X pins σ H s)(u:Un X.fs [] H H' s.heap h')(i:HOk X.prog X.w H' h'):Inv X pins σ H' {s with heap:=h',toks:=t'}:=by
 obtain⟨m,⟨o,es,ep,c,r⟩,_⟩:=id I.loc;obtain⟨sl,g⟩:=u.any c I.free (by simp);exact I.step (g':=s.gens) (d':=s.drawn) (ch:=[]) (fun _ z=>nomatch z) (fun b o _ a _ e n=>u.keep b o e n a (by simp)) (fun b o _ a _ e n=>u.slot b o e n a (by simp)) (fun b o _ e n=>u.free b o e n (by simp)) (fun b o _ e=>u.there b o e (by simp)) u.tups u.frzs u.tbls (fun k h=>by
  obtain⟨o',es',f,d,j⟩:=h;rw[c]at d;cases d;exact⟨_,es',f,g,j⟩) i I.bare
theorem Inv.call{g':Array qg}{d':Drawn}(I:Inv X pins σ H s)(u:Un (frs X.stack) ch H H' s.heap h')(q:HOk X.prog X.w H' h')(k:oS g')
  (f:∀b∈ch,(b∈X.ex\/X.s₀.heap.objs.size<=b)/\b≠X.env.locals/\(∀x c,X.env.cells.lookup x=some c->c≠b)/\∀p∈X.pn++pins,p.1≠b):
  Inv X pins σ H' {s with heap:=h',gens:=g',drawn:=d',toks:=t'}:=by
 obtain⟨m,⟨o,es,ep,g,r⟩,_⟩:=id I.loc;obtain⟨sl,d⟩:=u.any g I.free fun z=>(f _ z).2.1 rfl;exact I.step (ch:=ch) f (fun b o d j a e n=>u.keep b o e n (fun z=>(aE.mp (I.B7 b z)).elim d j) a) (fun b o _ _ a e n=>u.any e n a) (fun b o a e n=>u.free b o e n a) (fun b o a e=>u.there b o e a) u.tups u.frzs u.tbls (fun v l=>by
  obtain⟨o',es',i,h,t⟩:=l;rw[g]at h;cases h;exact⟨_,es',i,d,t⟩) q k
theorem Inv.turned(I:Inv X pins σ H s)(k:∀b o,b≠it->s.heap.get? b=some o->h'.get? b=some o)(j:H it=none)(d:it≠X.env.locals)
  (h1:it∈X.ex\/X.s₀.heap.objs.size<=it)(h2:∀x c,X.env.cells.lookup x=some c->c≠it)(g:∀p∈X.pn++pins,p.1≠it):Inv X pins σ H {s with heap:=h',toks:=t'}:=by
 have f:∀b u,H b=some u->b≠it:=fun b u e z=>by rw[z,j]at e;cases e
 refine I.step (g':=s.gens) (d':=s.drawn) (ch:=[it]) (fun b h=>?_) (fun b o _ _ a e _=>k b o (fun z=>a (by simp[z])) e) (fun b o _ _ a e _=>⟨o.slots,k b o (fun z=>a (by simp[z])) e⟩) (fun _ _ _ _ n=>n)
  (fun b o a e=>⟨o,k b o (fun z=>a (by simp[z])) e⟩) (fun _ _ e=>e) (fun _ _ _ e=>e) (fun b ps e=>⟨#[],by rw[e];simp⟩) (fun m i=>?_) (fun b u e=>?_) I.bare
 ·have e:b=it:=by simpa using h
  subst e;exact⟨h1,d,h2,g⟩
 ·obtain⟨o,es,ep,l,r⟩:=i
  exact⟨o,es,ep,k _ o (bS d) l,r⟩
 ·refine(I.hok b u e).oV (fun c v a q=>k c v ?_ q) (fun _ q=>q) fun _ _ q=>q
  rcases a with z|z
  ·rw[z];exact f b u e
  ·exact f c _ z
theorem Inv.tok(I:Inv X pins σ H s)(t:Nat):Inv X pins σ H {s with toks:=t}:=I.un (h':=s.heap) (t':=t) Un.refl I.hok
theorem Inv.kept(I:Inv X pins σ H s)(k:∀b u,s.heap.get? b=some u->h'.get? b=some u):Inv X pins σ H {s with heap:=h',toks:=t'}:=I.un (Un.kept k) (I.hok.kept k)
theorem Inv.laid{o:HO}(I:Inv X pins σ H s)(k:∀b u,s.heap.get? b=some u->h'.get? b=some u)(hp:s.heap.objs.size<=a)(c:dP X.prog X.w (upd H a o) h' a o):
  Inv X pins σ (upd H a o) {s with heap:=h',toks:=t'}:=I.un (Un.laid k hp (I.hok.fresh hp)) (I.hok.laid k hp c)
theorem Inv.write{x e:Addr}{o:HO}(I:Inv X pins σ H s)(d:Mut (H x))(a:e=x\/H e=some (.own x))(k:∀b u,b≠e->s.heap.get? b=some u->h'.get? b=some u)(c:∃u,h'.get? e=some u)
  (f:dP X.prog X.w (upd H x o) h' x o):Inv X pins σ (upd H x o) {s with heap:=h',toks:=t'}:=I.un (Un.write d a k c) (I.hok.write d a k c f)
theorem Inv.yT(I:Inv X pins σ H s)(h:∀p∈pins',s.heap.get? p.1=some p.2/\H p.1=none/\p.1≠X.env.locals/\p.1∉X.fs/\∀v,p.2.data≠.cell v):Inv X pins' σ H s:=
 ⟨I.ok,I.os,I.bare,I.base,I.loc,I.cell,I.free,I.freeC,fun p hp=>(bQ.mp hp).elim (fun z=>I.pin p (cj _ z)) (h p),I.hok,I.len⟩
theorem AH(e:N.Nodup)(a:N[i]? =some x)(b:N[j]? =some x):i=j:=by
 obtain⟨h1,c⟩:=aD.mp a;obtain⟨h2,d⟩:=aD.mp b;exact(eG e).mp (c.trans d.symm)
theorem E6{M:Model}{v:V}{Q:Unit->Shared->Prop}(I:Inv X pins σ H s)(L:X.N.Nodup)(hi:X.N[i]? =some x)(l:Loc X.env.scope x)(r:RelV v u)
  (h:∀s',Inv X pins (σ.set i (some v)) H s'->(∃a,dv a s.heap s'.heap/\(a=X.env.locals\/X.env.cells.lookup x=some a))->Q () s')(hf:X.fn x=true\/X.env.scope.names.lookup x=some .local:=by first |exact .inl rfl|exact .inr rfl|assumption):wpAny M A (storeName X.env x u) Q E s:=by
 obtain⟨m,F,R⟩:=id I.loc;have W:(X.env.scope.kind== .class||(X.env.scope.kind== .module&&X.env.locals != X.env.globals))=false:=by rw[I.ok.kind];rfl
 have P:i<σ.length:=by rw[I.len];exact(aD.mp hi).1
 have cne:=I.cne;have T:∀{a:Addr}{h':Heap},(∃o,s.heap.get? a=some o/\H a=none)->dv a s.heap h'->HOk X.prog X.w H h':=fun{a h'} U f b ob e=>by
  obtain⟨_,_,O⟩:=U;refine(I.hok b ob e).oV (fun c B hc q=>(f.2 c ?_).trans q) (fun _ q=>q) fun _ _ q=>q;rintro rfl;rcases hc with rfl|hc
  ·rw[O]at e;cases e
  ·rw[O]at hc;cases hc
 rcases l with hk|hk
 ·refine wpAny_storeName_local hk F (fun h' Y f=>?_) W
  obtain⟨oL,_,_,Z,_⟩:=id F;refine h _ ⟨I.ok,I.os,I.bare,⟨fun b o e n w l=>?_,fun b o e n w l=>?_,I.base.free,fun b o e l=>?_,I.base.tups,I.base.frzs,I.base.tbls⟩,⟨_,Y,fun j y K g t C=>?_⟩,fun y c e=>?_,I.free,I.freeC,fun p hp=>?_,T ⟨oL,Z,I.free⟩ f,by simpa using I.len⟩ ⟨_,f,.inl rfl⟩
  ·exact(f.2 b (aK (aY (aB e) I.ok.above))).trans (I.base.keep b o e n w l)
  ·obtain⟨sl,g⟩:=I.base.slot b o e n w l
   exact⟨sl,(f.2 b (aK (aY (aB e) I.ok.above))).trans g⟩
  ·obtain⟨o',g⟩:=I.base.there b o e l
   exact⟨o',(f.2 b (aK (aY (aB e) I.ok.above))).trans g⟩
  ·by_cases hj:j=i
   ·subst hj
    rw[hi]at g;cases g;rw[oP P]at t;cases t;exact⟨u,r,.inl ⟨hk,by simp⟩⟩
   ·rw[qo (bS hj)]at t
    obtain⟨J,G,q⟩:=R j y K g t C;refine⟨J,G,?_⟩;rcases q with⟨k,e⟩ |⟨k,c,e,z⟩
    ·refine .inl ⟨k,?_⟩
     have :y≠x:=fun e=>hj (AH L g (e▸hi));simp[this,e]
    ·exact .inr ⟨k,c,e,z.sameBut f (cne y c e)⟩
  ·obtain⟨B,z⟩:=I.cell y c e
   exact⟨B,z.sameBut f (cne y c e)⟩
  ·obtain⟨e,n,ne,nf,d⟩:=I.pin p hp
   exact⟨(f.2 p.1 ne).trans e,n,ne,nf,d⟩
 ·have D:X.fn x=true:=by
   rcases hf with z|z
   ·exact z
   ·rw[z]at hk;cases hk
  obtain⟨c,hc⟩:=I.ok.has x (.inl hk);obtain⟨B,z⟩:=I.cell x c hc;refine wpAny_storeName_cell I.ok.kind hk hc z (fun h' N f=>?_);obtain⟨oc,S,a0⟩:=id z;refine h {s with heap:=h'} ⟨I.ok,I.os,I.bare,⟨fun b o e n w l=>?_,fun b o e n w l=>?_,I.base.free,fun b o e l=>?_,I.base.tups,I.base.frzs,I.base.tbls⟩,⟨m,F.sameBut f (bS (cne x c hc)),fun j y K g t C=>?_⟩,fun y c' e=>?_,I.free,I.freeC,fun p hp=>?_,T ⟨oc,S,I.freeC x c hc⟩ f,by simpa using I.len⟩ ⟨c,f,.inr hc⟩
  ·exact(f.2 b (aK (aY (aB e) (I.ok.cab x c D hc)))).trans (I.base.keep b o e n w l)
  ·obtain⟨sl,g⟩:=I.base.slot b o e n w l
   exact⟨sl,(f.2 b (aK (aY (aB e) (I.ok.cab x c D hc)))).trans g⟩
  ·obtain⟨o',g⟩:=I.base.there b o e l
   exact⟨o',(f.2 b (aK (aY (aB e) (I.ok.cab x c D hc)))).trans g⟩
  ·by_cases hj:j=i
   ·subst hj
    rw[hi]at g;cases g;rw[oP P]at t;cases t;exact⟨u,r,.inr ⟨.inl hk,c,hc,N⟩⟩
   ·rw[qo (bS hj)]at t
    obtain⟨J,G,q⟩:=R j y K g t C;refine⟨J,G,?_⟩;rcases q with q|⟨k,c',e,z'⟩
    ·exact .inl q
    ·refine .inr ⟨k,c',e,z'.sameBut f ?_⟩
     rintro rfl;exact hj (AH L g (I.ok.inj _ _ _ e hc▸hi))
  ·by_cases hcc:c'=c
   ·subst hcc;exact⟨_,N⟩
   ·obtain⟨w2,z2⟩:=I.cell y c' e
    exact⟨w2,z2.sameBut f hcc⟩
  ·obtain⟨e,n,ne,nf,d⟩:=I.pin p hp
   refine⟨(f.2 p.1 ?_).trans e,n,ne,nf,d⟩;intro q;rw[q,S]at e;have q':oc=p.2:=a6 e;exact d B (by rw[<-q'];exact a0)
theorem Aj{M:Model}{v:V}{Q:Unit->Shared->Prop}(I:Inv X pins σ H s)(b:X.N.Nodup)(hi:X.N[i]? =some x)(c:Loc X.env.scope x)(r:RelV v u)
  (h:∀s',Inv X pins (σ.set i (some v)) H s'->Q () s')(hf:X.fn x=true\/X.env.scope.names.lookup x=some .local:=by first |exact .inl rfl|exact .inr rfl|assumption):wpAny M A (storeName X.env x u) Q E s:=
 E6 I b hi c r (fun s' a _=>h s' a) hf
theorem Inv.call'(I:Inv X pins σ H s)(f:s'.os=s.os)(u:Un (frs X.stack) ch H H' s.heap s'.heap)(g:HOk X.prog X.w H' s'.heap)(d:oS s'.gens)
  (a:∀b∈ch,(b∈X.ex\/X.s₀.heap.objs.size<=b)/\b≠X.env.locals/\(∀x c,X.env.cells.lookup x=some c->c≠b)/\∀p∈X.pn++pins,p.1≠b):Inv X pins σ H' s':=by
 obtain⟨h',g',d',t',o'⟩:=s';have e:o'=s.os:=f;subst e;exact I.call (g':=g') (t':=t') (d':=d') u g d a
end
noncomputable abbrev XK:=Value->Option Addr->Hp->Prop
noncomputable abbrev St:=List (Option V)
noncomputable abbrev VK:=V->Hp->Prop
noncomputable abbrev TE:=St->Hp->VK->Prop
noncomputable abbrev TT:=St->Hp->(Bool->Hp->Prop)->Prop
noncomputable abbrev TA:=St->Hp->(List V->Hp->Prop)->Prop
structure Ends where
 nx:St->Hp->Prop
 rt:VK
 bk:St->Hp->Prop:=fun _ _=>False
 ct:St->Hp->Prop:=fun _ _=>False
noncomputable abbrev TS:=Ends->St->Hp->Prop
def EP(X:Cx)(pins:List (Addr×Obj))(σ:St)(Q:VK)(u:Value)(s':Shared):Prop:=∃v H',Inv X pins σ H' s'/\RelV v u/\Q v H'
def TP(X:Cx)(pins:List (Addr×Obj))(σ:St)(Q:Bool->Hp->Prop)(b:Bool)(s':Shared):Prop:=∃H',Inv X pins σ H' s'/\Q b H'
def AP(X:Cx)(pins:List (Addr×Obj))(σ:St)(Q:List V->Hp->Prop)(us:List Value)(s':Shared):Prop:=∃vs H',Inv X pins σ H' s'/\bE vs us/\Q vs H'
def SP(X:Cx)(pins:List (Addr×Obj))(D:Ends)(f:Flow)(s':Shared):Prop:=
 match f with
 |.next=>∃a H',Inv X pins a H' s'/\D.nx a H'
 |.brk=>∃a H',Inv X pins a H' s'/\D.bk a H'
 |.cont=>∃a H',Inv X pins a H' s'/\D.ct a H'
 |.ret u=>∃v a H',Inv X pins a H' s'/\RelV v u/\D.rt v H'
def PE(X:Cx)(e:Expr)(t:TE):Prop:=
 ∀(pins:List (Addr×Obj))(s:Shared)(σ:St)(H:Hp)(Q:VK),Inv X pins σ H s->t σ H Q->wpAny (model X.prog X.w) X.A (eval e X.env) (EP X pins σ Q) X.xe s
def PT(X:Cx)(e:Expr)(t:TT):Prop:=
 ∀(pins:List (Addr×Obj))(s:Shared)(σ:St)(H:Hp)(Q:Bool->Hp->Prop),Inv X pins σ H s->t σ H Q->wpAny (model X.prog X.w) X.A (isTrue e X.env (eval e X.env)) (TP X pins σ Q) X.xe s
def PW(X:Cx)(e:Expr)(t:TT):Prop:=
 ∀(a:Sem Value)(pins:List (Addr×Obj))(s:Shared)(σ:St)(H:Hp)(Q:Bool->Hp->Prop),Inv X pins σ H s->t σ H Q->wpAny (model X.prog X.w) X.A (isTrue e X.env a) (TP X pins σ Q) X.xe s
theorem PW.pt{X:Cx}{t:TT}(h:PW X e t):PT X e t:=h _
def PA(X:Cx)(es:List Expr)(t:TA):Prop:=
 ∀(pos:Pos)(pins:List (Addr×Obj))(s:Shared)(σ:St)(H:Hp)(Q:List V->Hp->Prop),Inv X pins σ H s->t σ H Q->wpAny (model X.prog X.w) X.A (spliced (backTo pos (b7 es X.env))) (AP X pins σ Q) X.xe s
def PS(X:Cx)(st:Stmt)(t:TS):Prop:=
 ∀(pins:List (Addr×Obj))(s:Shared)(σ:St)(H:Hp)(D:Ends),Inv X pins σ H s->t D σ H->wpAny (model X.prog X.w) X.A (exec st X.env) (SP X pins D) X.xe s
def PSs(X:Cx)(st:List Stmt)(t:TS):Prop:=
 ∀(pins:List (Addr×Obj))(s:Shared)(σ:St)(H:Hp)(D:Ends),Inv X pins σ H s->t D σ H->wpAny (model X.prog X.w) X.A (execs st X.env) (SP X pins D) X.xe s
theorem thn{α:Type}{t:Sem α}{Q b:α->Shared->Prop}{M:Model}(h:wpAny M A t Q E s)(c:∀a s,Q a s->b a s):wpAny M A t b E s:=gy h c fun _ _ x=>x
section
variable {X:Cx}
noncomputable def j3(i:Nat):TE:=fun σ H Q=>∃v,σ[i]? =some (some v)/\Q v H
noncomputable def tC(v:V):TE:=fun _ H Q=>Q v H
theorem pe_var(g:X.N[i]? =some x)(p:Vis X.env.scope x)(b:(x==("__debug__":Str))=false:=by decide) (j:(x==("__classdict__":Str))=false:=by decide):PE X (.Name x pos) (j3 i):=by
 intro pins s σ H Q I h;obtain⟨v,e,h⟩:=h;obtain⟨m,o,k⟩:=I.loc;obtain⟨u,r,l⟩:=k i x v g e p;have a:EP X pins σ Q u s:=⟨v,H,I,r,h⟩;rcases l with⟨hk,n⟩ |⟨hk,c,d,f⟩
 ·exact Gi (wpAny_loadName_local I.ok.kind hk o n a) b
 ·rcases hk with hk|hk
  ·exact Gi (wpAny_loadName_cell I.ok.kind hk d f a) b
  ·exact Gi (wpAny_loadName_free I.ok.kind hk d f a j) b
theorem pe_int{i j pos}:PE X (.Constant (.int i) j pos) (tC (.int i)):=fun _ _ _ H _ I h=>wpAny_Constant_int ⟨.int i,H,I.tok _,⟨_,rfl⟩,h⟩
theorem pe_bl{b j pos}:PE X (.Constant (.bool b) j pos) (tC (.bl b)):=fun _ _ _ H _ I h=>Constant_bool ⟨.bl b,H,I,rfl,h⟩
theorem pe_non{j pos}:PE X (.Constant .none j pos) (tC .non):=fun _ _ _ H _ I h=>Constant_none ⟨.non,H,I,rfl,h⟩
theorem pe_str{x j pos}:PE X (.Constant (.str x) j pos) (tC (.str x)):=fun _ _ _ H _ I h=>Calls.Constant_str ⟨.str x,H,I.tok _,⟨_,rfl⟩,h⟩
def Gl(X:Cx)(x:Str):Prop:=X.env.kindOf x=some .globalImplicit
theorem zo{σ:St}{H:Hp}{Q:Value->Shared->Prop}(I:Inv X pins σ H s)(b:Gl X x)(c:X.mg x=some u)(h:Q u s)
  (a:(x==("__debug__":Str))=false:=by decide):wpAny (model X.prog X.w) X.A (eval (.Name x pos) X.env) Q E s:=
 zZ I.ok.kind b (Calls.loadGlobal_global (by rw[I.ok.glob];exact I.mod.glob.keeps I.bk) c h) a
theorem jM{σ:St}{H:Hp}{Q:Value->Shared->Prop}(I:Inv X pins σ H s)(b:Gl X x)(c:X.mg x=none)(e:eM x=some u)(h:Q u s)
  (d:x≠"__name__":=by decide) (a:(x==("__debug__":Str))=false:=by decide):wpAny (model X.prog X.w) X.A (eval (.Name x pos) X.env) Q E s:=by
 obtain⟨mb,h1,h2⟩:=I.mod.blt;exact zZ I.ok.kind b (Calls.loadGlobal_builtin (by rw[I.ok.glob];exact I.mod.glob.keeps I.bk) c (by rw[I.ok.blt];exact h1.keeps I.bk) ((h2 x d).trans e) h) a
theorem pe_glob{v:V}(b:Gl X x)(c:X.mg x=some u)(r:RelV v u)(a:(x==("__debug__":Str))=false:=by decide):PE X (.Name x pos) (tC v):=
 fun _ _ _ H _ I h=>zo I b c ⟨v,H,I,r,h⟩ a
theorem pe_bltn{v:V}(b:Gl X x)(c:X.mg x=none)(e:eM x=some u)(r:RelV v u)(d:x≠"__name__":=by decide) (a:(x==("__debug__":Str))=false:=by decide):PE X (.Name x pos) (tC v):=
 fun _ _ _ H _ I h=>jM I b c e ⟨v,H,I,r,h⟩ d a
variable {a b:Expr}{ta tb:TE}{pos:Pos}
variable {tA tB':TT}{rest:List Expr}
noncomputable def tAnd(t u:TT):TT:=fun σ H Q=>t σ H fun c H1=>if c=true then u σ H1 Q else Q false H1
noncomputable def tOr(t u:TT):TT:=fun σ H Q=>t σ H fun c H1=>if c=true then Q true H1 else u σ H1 Q
noncomputable def tNot(t:TT):TT:=fun σ H Q=>t σ H fun c H1=>Q (!c) H1
theorem pw_and1(b:PT X a tA):PW X (.BoolOp .And [a] pos) tA:=by
 intro f pins s σ H Q I h;refine isTrue_and (thn (b pins s σ H Q I h) fun c d e=>?_);cases c with
 |true=>exact isTrue_and_nil e
 |false=>exact e
theorem pw_or1(b:PT X a tA):PW X (.BoolOp .Or [a] pos) tA:=by
 intro f pins s σ H Q I h;refine isTrue_or (thn (b pins s σ H Q I h) fun c d e=>?_);cases c with
 |false=>exact isTrue_or_nil e
 |true=>exact e
theorem HC(f:PT X a tA)(g:PW X (.BoolOp .And (b::rest) pos) tB'):PW X (.BoolOp .And (a::b::rest) pos) (tAnd tA tB'):=by
 intro j pins s σ H Q I h;refine isTrue_and (thn (f pins s σ H _ I h) fun c i ⟨H1,d,e⟩=>?_);cases c with
 |true=>exact g j pins i σ H1 Q d e
 |false=>exact⟨H1,d,e⟩
theorem pw_or(f:PT X a tA)(g:PW X (.BoolOp .Or (b::rest) pos) tB'):PW X (.BoolOp .Or (a::b::rest) pos) (tOr tA tB'):=by
 intro j pins s σ H Q I h;refine isTrue_or (thn (f pins s σ H _ I h) fun c i ⟨H1,d,e⟩=>?_);cases c with
 |true=>exact⟨H1,d,e⟩
 |false=>exact g j pins i σ H1 Q d e
theorem pt_not(b:PT X a tA):PT X (.UnaryOp .Not a pos) (tNot tA):=by
 intro pins s σ H Q I h;exact isTrue_not (b pins s σ H (fun c H1=>Q (!c) H1) I h)
noncomputable def G6(ta tb:TE):TE:=fun σ H Q=>ta σ H fun x H1=>∃c,x=.bl c/\if c=true then tb σ H1 Q else Q (.bl false) H1
noncomputable def tOrV(ta tb:TE):TE:=fun σ H Q=>ta σ H fun x H1=>∃c,x=.bl c/\if c=true then Q (.bl true) H1 else tb σ H1 Q
noncomputable def G3(ta:TE):TE:=fun σ H Q=>ta σ H fun x H1=>∃c,x=.bl c/\Q (.bl (!c)) H1
theorem HR{op}{t:TE}(h:PE X a t):PE X (.BoolOp op [a] pos) t:=fun pins s σ H Q I b=>BoolOp_one (h pins s σ H Q I b)
theorem HZ(f:PE X a ta)(g:PE X (.BoolOp .And (b::rest) pos) tb):PE X (.BoolOp .And (a::b::rest) pos) (G6 ta tb):=by
 intro pins s σ H Q I h;refine BoolOp_and (thn (f pins s σ H _ I h) fun v j ⟨x,H1,e,i,d⟩=>?_);obtain⟨c,rfl,d⟩:=d;cases i;refine c6 ?_;cases c with
 |true=>exact g pins j σ H1 Q e d
 |false=>exact⟨.bl false,H1,e,rfl,d⟩
theorem pe_or(f:PE X a ta)(g:PE X (.BoolOp .Or (b::rest) pos) tb):PE X (.BoolOp .Or (a::b::rest) pos) (tOrV ta tb):=by
 intro pins s σ H Q I h;refine BoolOp_or (thn (f pins s σ H _ I h) fun v j ⟨x,H1,e,i,d⟩=>?_);obtain⟨c,rfl,d⟩:=d;cases i;refine c6 ?_;cases c with
 |false=>exact g pins j σ H1 Q e d
 |true=>exact⟨.bl true,H1,e,rfl,d⟩
theorem pe_not(e:PE X a ta):PE X (.UnaryOp .Not a pos) (G3 ta):=by
 intro pins s σ H Q I h;refine UnaryOp_ (thn (e pins s σ H _ I h) fun v g ⟨x,H1,d,f,b⟩=>?_);obtain⟨c,rfl,b⟩:=b;cases f;exact not_of (c6 ⟨.bl (!c),H1,d,rfl,b⟩)
noncomputable def tIf(t:TT)(ta tb:TE):TE:=fun σ H Q=>t σ H fun c H1=>if c=true then ta σ H1 Q else tb σ H1 Q
theorem HS{c:Expr}(k:PT X c tA)(i:PE X a ta)(j:PE X b tb):PE X (.IfExp c a b pos) (tIf tA ta tb):=by
 intro pins s σ H Q I h;refine wpAny_IfExp (thn (k pins s σ H _ I h) fun d g ⟨H1,e,f⟩=>?_);cases d with
 |true=>exact i pins g σ H1 Q e f
 |false=>exact j pins g σ H1 Q e f
end
def SqL(K:ah)(H:Hp)(a:Addr)(xs:List V):Prop:=
 Rd H a (.lst xs)\/
  ∃(o:Obj)(its:Array Value)(n:Nat),K.lookup a=some o/\o.cls=.type "list"/\o.dict=none/\o.data=.seq its n/\its.size<=sizeLine/\bE xs its.toList
def SqT(K:ah)(H:Hp)(a:Addr)(xs:List V):Prop:=
 Rd H a (.tup xs)\/
  ∃(o:Obj)(its:Array Value)(n:Nat),K.lookup a=some o/\o.cls=.type "tuple"/\o.data=.seq its n/\its.size<=sizeLine/\bE xs its.toList
noncomputable def absV:Value->Option V
 |.none=>some .non
 |.bool b=>some (.bl b)
 |.int i _=>some (.int i)
 |.str x _=>some (.str x)
 |.bytes b _=>some (.byt b)
 |.float b _=>some (.flt b)
 |.ref a=>some (.ref a)
 |.type n=>some (.ty n)
 |_=>none
theorem RelV.abs{x:V}(r:RelV x u):absV u=some x:=by
 cases x with
 |non=>cases r;rfl
 |bl _=>cases r;rfl
 |int _=>obtain⟨t,rfl⟩:=r;rfl
 |str _=>obtain⟨t,rfl⟩:=r;rfl
 |byt _=>obtain⟨t,rfl⟩:=r;rfl
 |flt _=>obtain⟨t,rfl⟩:=r;rfl
 |ref _=>cases r;rfl
 |ty _=>cases r;rfl
theorem RelV.inj{x y:V}(r:RelV x u)(q:RelV y u):x=y:=a6 (r.abs.symm.trans q.abs)
theorem bE.inj{xs ys:List V}(h:bE xs us):bE ys us->xs=ys:=by
 induction h generalizing ys with
 |nil=>intro k;cases k;rfl
 |cons r k ih=>
  intro w;cases w with
  |cons r' w'=>rw[r.inj r',ih w']
section
variable {X:Cx}{pins:List (Addr×Obj)}{σ:St}{H:Hp}{s:Shared}{a:Addr}{xs ys:List V}
theorem SqL.of(h:H a=some (.lst xs)):SqL K H a xs:=.inl (.inl h)
theorem SqT.of(h:H a=some (.tup xs)):SqT K H a xs:=.inl (.inl h)
theorem Inv.list(I:Inv X pins σ H s)(h:SqL X.K H a xs):∃its:List Value,bE xs its/\PlainL s.heap a its.toArray/\xs.length<=sizeLine:=by
 rcases h with h|⟨o,its,n,d,b,c,f,g,r⟩
 ·obtain⟨z,its,n,r,e⟩:=h.ok I.hok
  exact⟨its,r,⟨_,n,e,rfl,rfl,rfl⟩,z⟩
 ·refine⟨its.toList,r,⟨o,n,I.kIn a o d,b,c,by simpa using f⟩,?_⟩
  have e:=r.length;simp only[bZ]at e;lia
theorem Inv.tuple(I:Inv X pins σ H s)(h:SqT X.K H a xs):∃its:List Value,bE xs its/\IsTup s.heap a its.toArray/\xs.length<=sizeLine:=by
 rcases h with h|⟨o,its,n,c,b,d,f,r⟩
 ·obtain⟨z,its,r,p⟩:=h.ok I.hok
  exact⟨its,r,p,z⟩
 ·refine⟨its.toList,r,⟨o,I.kIn a o c,b,n,by simpa using d⟩,?_⟩
  have e:=r.length;simp only[bZ]at e;lia
theorem Inv.AU(I:Inv X pins σ H s)(h:SqL X.K H a xs)(h':SqL X.K H a ys):xs=ys:=by
 obtain⟨its,r,⟨o,n,e,_,_,d⟩,_⟩:=I.list h;obtain⟨its',f,⟨o',g,c,_,_,b⟩,_⟩:=I.list h';rw[e]at c;cases c;rw[d]at b;injection b with d1 _
 have :its=its':=by simpa using congrArg Array.toList d1
 subst this;exact r.inj f
theorem Inv.rZ(I:Inv X pins σ H s)(h:SqT X.K H a xs)(h':SqT X.K H a ys):xs=ys:=by
 obtain⟨its,r,⟨o,e,_,n,d⟩,_⟩:=I.tuple h;obtain⟨its',f,⟨o',c,_,g,b⟩,_⟩:=I.tuple h';rw[e]at c;cases c;rw[d]at b;injection b with d1 _
 have :its=its':=by simpa using congrArg Array.toList d1
 subst this;exact r.inj f
end
section
variable {X:Cx}{st:Stmt}{rest:List Stmt}{t u:TS}{e:Expr}{te:TE}{pos:Pos}
noncomputable def Ag:TS:=fun D σ H=>D.nx σ H
noncomputable def uP(t u:TS):TS:=fun D σ H=>t {D with nx:=u D} σ H
theorem pss_nil:PSs X [] Ag:=fun _ _ σ H _ I h=>Dg ⟨σ,H,I,h⟩
theorem vd(h1:PS X st t)(h2:PSs X rest u):PSs X (st::rest) (uP t u):=by
 intro pins s σ H D I h;refine wpAny_execs_cons (thn (h1 pins s σ H {D with nx:=u D} I h) fun f b q=>?_);cases f with
 |next =>
  obtain⟨c,H',a,q⟩:=q;exact h2 pins b c H' D a q
 |ret v=>exact q
 |brk=>exact q
 |cont=>exact q
noncomputable def G5:TS:=fun D σ H=>D.bk σ H
noncomputable def tCont:TS:=fun D σ H=>D.ct σ H
theorem ps_pass:PS X (.Pass pos) Ag:=fun _ _ σ H _ I h=>wpAny_Pass ⟨σ,H,I,h⟩
theorem HI:PS X (.Break pos) G5:=fun _ _ σ H _ I h=>wpAny_Break ⟨σ,H,I,h⟩
theorem Au:PS X (.Continue pos) tCont:=fun _ _ σ H _ I h=>wpAny_Continue ⟨σ,H,I,h⟩
theorem Inv.quiet{σ:St}{H:Hp}(I:Inv X pins σ H s):interactive X.env=false:=by simp[interactive,I.ok.kind]
noncomputable def Dx(te:TE):TS:=fun D σ H=>te σ H fun _ H1=>D.nx σ H1
theorem ps_expr(b:PE X e te)(c:uD e none pos.line X.env=pure false:=by rfl):PS X (.Expr e pos) (Dx te):=by
 intro pins s σ H D I h;exact wpAny_Expr_any (thn (b pins s σ H _ I h) fun v g ⟨x,H1,a,f,d⟩=>⟨σ,H1,a,d⟩) I.quiet c
noncomputable def tRet(te:TE):TS:=fun D σ H=>te σ H D.rt
theorem ps_ret(b:PE X e te):PS X (.Return (some e) pos) (tRet te):=by
 intro pins s σ H D I h;exact wpAny_Return_some (thn (b pins s σ H _ I h) fun v f ⟨x,H1,a,d,c⟩=>⟨x,σ,H1,a,d,c⟩)
noncomputable def G2:TS:=fun D _ H=>D.rt .non H
theorem ps_retN:PS X (.Return none pos) G2:=fun _ _ σ H _ I h=>wpAny_Return_none ⟨.non,σ,H,I,rfl,h⟩
noncomputable def tIfS(c:TT)(t u:TS):TS:=fun D σ H=>c σ H fun b H1=>if b=true then t D σ H1 else u D σ H1
theorem ps_if{c:Expr}{a b:List Stmt}{tc:TT}(k:PT X c tc)(i:PSs X a t)(j:PSs X b u):PS X (.If c a b pos) (tIfS tc t u):=by
 intro pins s σ H D I h;refine wpAny_If (thn (k pins s σ H _ I h) fun d g ⟨H1,e,f⟩=>?_);cases d with
 |true=>exact i pins g σ H1 D e f
 |false=>exact j pins g σ H1 D e f
end
noncomputable abbrev TG:=V->St->Hp->(St->Hp->Prop)->Prop
noncomputable abbrev TGs:=List V->St->Hp->(St->Hp->Prop)->Prop
def PG(X:Cx)(b:Expr)(t:TG):Prop:=
 ∀(pins:List (Addr×Obj))(s:Shared)(σ:St)(H:Hp)(v:V)(u:Value)(Q:St->Hp->Prop),Inv X pins σ H s->RelV v u->t v σ H Q->
  wpAny (model X.prog X.w) X.A (assign b X.env u) (fun _ s'=>∃a H',Inv X pins a H' s'/\Q a H') X.xe s
def PGs(X:Cx)(ts:List Expr)(t:TGs):Prop:=
 ∀(pins:List (Addr×Obj))(s:Shared)(σ:St)(H:Hp)(vs:List V)(us:List Value)(Q:St->Hp->Prop),Inv X pins σ H s->bE vs us->t vs σ H Q->
  wpAny (model X.prog X.w) X.A (assignInOrder ((iu ts X.env).map (·.2)) us) (fun _ s'=>∃a H',Inv X pins a H' s'/\Q a H') X.xe s
noncomputable abbrev TSet:=V->V->V->Hp->(Hp->Prop)->Prop
def PSet(X:Cx)(t:TSet):Prop:=
 ∀(pins:List (Addr×Obj))(s:Shared)(σ:St)(H:Hp)(o i v:V)(b a u:Value)(Q:Hp->Prop),Inv X pins σ H s->RelV o b->RelV i a->RelV v u->t o i v H Q->
  wpAny (model X.prog X.w) X.A (setItem b a u) (fun _ s'=>∃H',Inv X pins σ H' s'/\Q H') X.xe s
section
variable {X:Cx}{pos:Pos}
noncomputable def km(i:Nat):TG:=fun v σ H Q=>Q (σ.set i (some v)) H
theorem DP(b:X.N.Nodup)(hi:X.N[i]? =some x)(c:Loc X.env.scope x)(hf:X.fn x=true\/X.env.scope.names.lookup x=some .local:=by first |exact .inl rfl|exact .inr rfl|assumption):PG X (.Name x pos) (km i):=by
 intro pins s σ H v u Q I r h;exact wpAny_assign_Name (Aj I b hi c r (fun s' a=>⟨_,H,a,h⟩) hf)
noncomputable def gNil:TGs:=fun vs σ H Q=>vs=[]/\Q σ H
noncomputable def Jf(t:TG)(u:TGs):TGs:=fun vs σ H Q=>∃v r,vs=v::r/\t v σ H fun a H'=>u r a H' Q
theorem pgs_nil:PGs X [] gNil:=by
 intro pins s σ H vs us Q I r h;obtain⟨e,h⟩:=h;subst e;cases r;exact assignInOrder_nil ⟨σ,H,I,h⟩
theorem HN{es:List Expr}{t:TG}{u:TGs}(h1:PG X e t)(h2:PGs X es u)
  (c:(iu (e::es) X.env).map (·.2)=assign e X.env::(iu es X.env).map (·.2):=by rfl):PGs X (e::es) (Jf t u):=by
 intro pins s σ H vs us Q I r h;obtain⟨v,i,b,h⟩:=h;subst b;cases r with
 |cons r rr=>
  rw[c];refine assignInOrder_cons (thn (h1 pins s σ H _ _ _ I r h) fun _ f ⟨g,H1,a,d⟩=>?_);exact h2 pins f g H1 _ _ Q a rr d
noncomputable def gTup(K:ah)(n:Nat)(t:TGs):TG:=fun v σ H Q=>∃a xs,v=.ref a/\SqT K H a xs/\xs.length=n/\t xs σ H Q
theorem pg_tup{es:List Expr}{t:TGs}(i:X.calm=true)(h:PGs X es t)
  (l:(iu es X.env).length=n:=by rfl) (m:(iu es X.env).findIdx? (·.1)=none:=by rfl):PG X (.Tuple es k pos) (gTup X.K n t):=by
 intro pins s σ H v u Q I r c;obtain⟨a,xs,g,hq,j,c⟩:=c;subst g;cases r;obtain⟨its,d,p,w⟩:=I.tuple hq;refine assign_Tuple_tuple (I.ok.hd i) p (by simp[l,<-j,d.length]) m fun h' q=>?_;have f:Inv X pins σ H {s with heap:=h'}:=I.kept (t':=s.toks) fun b o e=>q b o (aK (aB e)) e;exact h pins _ σ H xs _ Q f (by simpa using d) c
noncomputable def gSub(to b:TE)(t:TSet):TG:=fun v σ H Q=>to σ H fun o H1=>b σ H1 fun i H2=>t o i v H2 fun a=>Q σ a
theorem pg_sub{i:Expr}{to c:TE}{t:TSet}(k:PE X o to)(hi:PE X i c)(l:PSet X t)
  (j:∀v,assign (.Subscript o i pos) X.env v=(do
   let a<-holding [v] (eval o X.env)
   let b<-holding [v,a] (eval i X.env)
   standAt pos
   holding [v,a,b] (setItem a b v)
   release [v,a,b] []):=by intro _;rfl):PG X (.Subscript o i pos) (gSub to c t):=by
 intro pins s σ H v u Q I r h;rw[j];refine af (bU (thn (k pins s σ H _ I h) fun a z ⟨x,H1,e,q,m⟩=>?_));refine af (bU (thn (hi pins z σ H1 _ e m) fun b s2 ⟨y,H2,f,w,n⟩=>?_));refine af (JX (af (bU (thn (l pins s2 σ H2 x y v a b u _ f q w r n) fun _ s3 ⟨d,g,p⟩=>?_))));exact wpAny_release ⟨σ,d,g,p⟩
noncomputable def yy(te:TE)(g:TG):TS:=fun D σ H=>te σ H fun x H1=>g x σ H1 D.nx
theorem HJ{te:TE}{g:TG}(b:PE X e te)(c:PG X tg g)(d:JZ [tg] e pos.line X.env=pure false:=by rfl) (f:swappedStores [tg] e X.env=pure none:=by rfl)
  (h1:(iu [tg] X.env).map (·.2)=[assign tg X.env]:=by rfl):PS X (.Assign [tg] e pos) (yy te g):=by
 intro pins s σ H D I h;refine wpAny_Assign_stores (thn (b pins s σ H _ I h) fun v k ⟨x,H1,a,j,i⟩=>?_) d f;rw[h1];exact thn (c pins k σ H1 x v _ a j i) fun _ s2 q=>q
theorem ps_set{te:TE}(c:X.N.Nodup)(hi:X.N[i]? =some x)(g:Loc X.env.scope x)(d:PE X e te)(f:uD e (some (.Name x pos')) pos.line X.env=pure false:=by rfl) (hf:X.fn x=true\/X.env.scope.names.lookup x=some .local:=by first |exact .inl rfl|exact .inr rfl|assumption):
  PS X (.Assign [.Name x pos'] e pos) (yy te (km i)):=by
 intro pins s σ H D I h;refine wpAny_Assign_Name (thn (d pins s σ H _ I h) fun v l ⟨y,H1,a,k,j⟩=>?_) f;exact Aj a c hi g k (fun s2 b=>⟨_,H1,b,j⟩) hf
end
section
variable {X:Cx}{pos:Pos}
noncomputable def G0(c:TT)(tb:TS):TS:=fun D σ H=>∃W:Nat->St->Hp->Prop,(∃m,W m σ H)/\∀m σ H,W m σ H->
 c σ H fun b H1=>if b=true then ∃N:St->Hp->Prop,(∀d H',N d H'->∃a,a<m/\W a d H')/\tb {D with nx:=N,ct:=N,bk:=D.nx} σ H1 else D.nx σ H1
theorem HH{c:Expr}{q:List Stmt}{tc:TT}{tb:TS}(hp:PassesOwn (model X.prog X.w) X.A X.env X.xe)(x:PT X c tc)(w:PSs X q tb):PS X (.While c q [] pos) (G0 tc tb):=by
 intro pins s σ H D I h;obtain⟨W,⟨y,A⟩,turn⟩:=h;refine wpAny_While (codeAny_whileLoop (fun n s'=>∃t H',Inv X pins t H' s'/\W n t H') ?_ y ⟨σ,H,I,A⟩);rintro n z ⟨i,H1,u,B⟩;refine gJ hp (thn (x pins z i H1 _ u (turn n i H1 B)) fun b s2 ⟨H2,p,e⟩=>?_);cases b with
 |true=>
  obtain⟨N,r,e⟩:=e;rw[if_pos rfl];refine gJ hp (thn (w pins s2 i H2 _ p e) fun f s3 g=>?_);cases f with
  |next =>
   obtain⟨d,a,j,m⟩:=g;obtain⟨l,k,o⟩:=r d a m;exact⟨l,k,d,a,j,o⟩
  |cont=>
   obtain⟨d,a,j,m⟩:=g;obtain⟨l,k,o⟩:=r d a m;exact⟨l,k,d,a,j,o⟩
  |brk=>exact g
  |ret v=>exact g
 |false=>
  rw[if_neg ak];exact Dg ⟨i,H2,p,e⟩
end
structure It where
 go:Nat->Hp->Prop
 yld:Nat->Hp->V->Hp->Prop
 stop:Nat->Hp->Prop
def rG(X:Cx)(pins:List (Addr×Obj))(H:Hp)(b:Addr):Prop:=
 H b=none/\b≠X.env.locals/\b∉X.fs/\(b∈X.ex\/X.s₀.heap.objs.size<=b)/\(∀x c,X.env.cells.lookup x=some c->c≠b)/\∀p∈X.pn++pins,p.1≠b
theorem Inv.zx{X:Cx}{σ:St}{H H':Hp}(I:Inv X pins σ H s)(a:s.heap.objs.size<=b)(d:H' b=none):rG X pins H' b:=by
 refine⟨d,eD (aY I.lt a),I.nofs a,.inr (aG I.sz a),fun x c e z=>?_,fun p hp z=>?_⟩
 ·obtain⟨v,q⟩:=I.cell x c e
  exact absurd (aY q.lt (by rw[z];exact a)) (du _)
 ·exact absurd (aY (aB (I.pin p hp).1) (by rw[z];exact a)) (du _)
structure Turn(P:Program)(w:World)(K:ah)(tg:Expr)(J:It)(fp:List Addr)(it:Addr)(tn:Nat->Heap->Prop):Prop where
 mem:it∈fp
 obj:∀i h,tn i h->∀b∈fp,∃o,h.get? b=some o/\∀v,o.data≠.cell v
 keep:∀i h h',tn i h->(∀b∈fp,∀o,h.get? b=some o->h'.get? b=some o)->tn i h'
 item:∀(X:Cx),X.prog=P->X.w=w->X.K=K->X.calm=true->∀(i:Nat)(pins:List (Addr×Obj))(s:Shared)(σ:St)(H:Hp)(E:Value->Shared->Prop),Inv X pins σ H s->(∀b∈fp,rG X pins H b)->tn i s.heap->J.go i H->
  wpAny (model P w) X.A (pyNext (.ref it)) (fun r s1=>∃u,r=some u/\
   wpAny (model P w) X.A (rR tg (.ref it) u) (fun _ s2=>∃x H',Inv X pins σ H' s2/\RelV x u/\J.yld i H x H'/\tn (i+1) s2.heap/\∀b∈fp,H' b=none) E s1) E s
 done:∀(X:Cx),X.prog=P->X.w=w->X.K=K->X.calm=true->∀(i:Nat)(pins:List (Addr×Obj))(s:Shared)(σ:St)(H:Hp)(E:Value->Shared->Prop),Inv X pins σ H s->(∀b∈fp,rG X pins H b)->tn i s.heap->J.stop i H->
  wpAny (model P w) X.A (pyNext (.ref it)) (fun r s1=>r=none/\Inv X pins σ H s1) E s
 self:∀(A:Around)(i:Nat)(s:Shared)(Q:Value->Shared->Prop)(E:Value->Shared->Prop),tn i s.heap->Q (.ref it) s->wpAny (model P w) A (pyIter (.ref it)) Q E s
noncomputable abbrev TI:=St->Hp->(It->Hp->Prop)->Prop
def PIE(X:Cx)(pins:List (Addr×Obj))(σ:St)(tg:Expr)(R:It->Hp->Prop)(a:Value)(s2:Shared):Prop:=
 ∃(it:Addr)(fp:List Addr)(tn:Nat->Heap->Prop)(J:It)(H':Hp),a=.ref it/\Inv X pins σ H' s2/\Turn X.prog X.w X.K tg J fp it tn/\tn 0 s2.heap/\(∀b∈fp,rG X pins H' b)/\R J H'
def PI(X:Cx)(tg iter:Expr)(wi:TI):Prop:=
 ∀(pins:List (Addr×Obj))(s:Shared)(σ:St)(H:Hp)(R:It->Hp->Prop),Inv X pins σ H s->wi σ H R->
  wpAny (model X.prog X.w) X.A (eval iter X.env) (fun v a=>wpAny (model X.prog X.w) X.A (pyIter v) (PIE X pins σ tg R) X.xe a) X.xe s
theorem Eg{M:Model}{o:Obj}{n:String}{vs:Array Value}{Q:Unit->Shared->Prop}(e:s.heap.get? it=some o)(b:o.cls=.type n)(c:o.data=.fields vs)
  (d:["enumerate","zip","dict_itemiterator","dict_reverseitemiterator","odict_iterator","itertools.zip_longest","itertools.pairwise"].contains n=false)(a:Q () s):wpAny M A (rR tg (.ref it) u) Q E s:=by
 unfold rR;cases tg<;>first
  |exact aj a
  | (cases u<;>first
    |exact aj a
    | (refine af (wpAny_load e ?_)
       rw[b,c];show wpAny M A (if(["enumerate","zip","dict_itemiterator","dict_reverseitemiterator","odict_iterator","itertools.zip_longest","itertools.pairwise"].contains n&&vs[0]? ==some (rawInt _))=true then _ else _) Q E s;rw[if_neg (by intro h;rw[d,dw]at h;cases h)];exact aj a))
noncomputable def Itl(K:ah)(a:Addr):It:=
 ⟨fun i H=>∃xs x,SqL K H a xs/\xs[i]? =some x,fun i H x H'=>H'=H/\∀xs,SqL K H a xs->xs[i]? =some x,fun i H=>∃xs,SqL K H a xs/\xs.length<=i⟩
noncomputable def Itt(K:ah)(a:Addr):It:=
 ⟨fun i H=>∃xs x,SqT K H a xs/\xs[i]? =some x,fun i H x H'=>H'=H/\∀xs,SqT K H a xs->xs[i]? =some x,fun i H=>∃xs,SqT K H a xs/\xs.length<=i⟩
noncomputable def Itr(lo:Int)(n:Nat):It:=⟨fun i _=>i<n,fun i H x H'=>H'=H/\x=.int (lo+i),fun i _=>n<=i⟩
theorem xl(a it:Addr):Turn P w K tg (Itl K a) [it] it (fun i h=>h.IsListIter it a i) where
 mem:=by simp
 obj:=fun i h st b f=>by
  have e:b=it:=by simpa using f
  subst e;obtain⟨o,e,c,d⟩:=st;exact⟨o,e,fun v z=>by rw[d]at z;cases z⟩
 keep:=fun i h h' st k=>st.at fun o e=>k it (by simp) o e
 item:=by
  intro X r y q C i pins s σ H E I hf st t;subst r y q;obtain⟨xs,x,hq,A⟩:=t;obtain⟨its,B,p,N⟩:=I.list hq;obtain⟨u,L,O⟩:=B.get A;obtain⟨g,j,J,l,m,n⟩:=hf it (by simp);refine wpAny_pyNext_list_item st p.isList (x:=u) (by simpa using L) fun h' D Q=>?_;have F:Inv X pins σ H {s with heap:=h'}:=I.turned (t':=s.toks) (fun b o f e=>(Q.2 b f).trans e) g j l m n;obtain⟨o,e,c,d⟩:=id D;exact⟨u,rfl,Eg (s:={s with heap:=h'}) e c d (by decide) ⟨x,H,F,O,⟨rfl,fun ys M=>by rw[I.AU M hq];exact A⟩,D,fun b f=>(hf b f).1⟩⟩
 done:=by
  intro X r y q C i pins s σ H E I hf st t;subst r y q;obtain⟨xs,hq,A⟩:=t;obtain⟨its,B,p,N⟩:=I.list hq;obtain⟨g,j,J,l,m,n⟩:=hf it (by simp);have R:=B.length;exact wpAny_pyNext_list_end (I.ok.hd C) st p.isList (by simp;lia) fun h' G=>⟨rfl,I.turned (t':=s.toks) (fun b o f e=>G b o f e) g j l m n⟩
 self:=fun _ _ _ _ _ st h=>wpAny_pyIter_listiter st h
theorem uL(a it:Addr):Turn P w K tg (Itt K a) [it] it (fun i h=>h.IsTupleIter it a i) where
 mem:=by simp
 obj:=fun i h st b f=>by
  have e:b=it:=by simpa using f
  subst e;obtain⟨o,e,c,d⟩:=st;exact⟨o,e,fun v z=>by rw[d]at z;cases z⟩
 keep:=fun i h h' st k=>st.at fun o e=>k it (by simp) o e
 item:=by
  intro X r y q C i pins s σ H E I hf st t;subst r y q;obtain⟨xs,x,hq,A⟩:=t;obtain⟨its,B,p,N⟩:=I.tuple hq;obtain⟨u,L,O⟩:=B.get A;obtain⟨g,j,J,l,m,n⟩:=hf it (by simp);refine wpAny_pyNext_tuple_item st (show s.heap.IsTuple a its.toArray from p) (x:=u) (by simpa using L) fun h' D Q=>?_;have F:Inv X pins σ H {s with heap:=h'}:=I.turned (t':=s.toks) (fun b o f e=>(Q.2 b f).trans e) g j l m n;obtain⟨o,e,c,d⟩:=id D;exact⟨u,rfl,Eg (s:={s with heap:=h'}) e c d (by decide) ⟨x,H,F,O,⟨rfl,fun ys M=>by rw[I.rZ M hq];exact A⟩,D,fun b f=>(hf b f).1⟩⟩
 done:=by
  intro X r y q C i pins s σ H E I hf st t;subst r y q;obtain⟨xs,hq,A⟩:=t;obtain⟨its,B,p,N⟩:=I.tuple hq;obtain⟨g,j,J,l,m,n⟩:=hf it (by simp);have R:=B.length;exact wpAny_pyNext_tuple_end (I.ok.hd C) st (show s.heap.IsTuple a its.toArray from p) (by simp;lia) fun h' G=>⟨rfl,I.turned (t':=s.toks) (fun b o f e=>G b o f e) g j l m n⟩
 self:=fun _ _ _ _ _ st h=>wpAny_pyIter_tupleiter st h
theorem B2(it:Addr)(lo:Int)(n:Nat):Turn P w K tg (Itr lo n) [it] it (fun i h=>IsRangeIter h it (lo+(i:Nat)*1) ((n:Int)-(i:Nat)) 1) where
 mem:=by simp
 obj:=fun i h st b a=>by
  have e:b=it:=by simpa using a
  subst e;exact⟨_,st,fun v z=>by
   have C:Data.fields _=Data.cell v:=z;cases C⟩
 keep:=fun i h h' st k=>k it (by simp) _ st
 item:=by
  intro X m r l p i pins s σ H E I hf st q;subst m r l;obtain⟨c,d,A,f,g,j⟩:=hf it (by simp);have W:=Walks.range (prog:=X.prog) (w:=X.w) (I.ok.hd p) it lo 1 n;refine W.item i s _ _ q st fun v h' tk B u kk=>?_;obtain⟨t,rfl⟩:=B;have x:Inv X pins σ H {s with heap:=h',toks:=tk}:=I.turned (fun b o a e=>kk b o (by simpa using a) e) c d f g j;refine⟨_,rfl,Eg (s:={s with heap:=h',toks:=tk}) (n:="range_iterator") u rfl rfl (by decide) ⟨.int (lo+i),H,x,⟨t,?_⟩,⟨rfl,rfl⟩,u,fun b a=>(hf b a).1⟩⟩;rw[Int.mul_one]
 done:=by
  intro X m r l p i pins s σ H E I hf st q;subst m r l;obtain⟨c,d,A,f,g,j⟩:=hf it (by simp);exact wpAny_pyNext_range_end (I.ok.hd p) st (by have :n<=i:=q;lia) fun h' y=>⟨rfl,I.turned (t':=s.toks) (fun b o a e=>y b o a e) c d f g j⟩
 self:=fun _ _ _ _ _ st h=>wpAny_pyIter_rangeiter st h
section
variable {X:Cx}{tg:Expr}
noncomputable def IZ(K:ah)(tl:TE):TI:=fun σ H R=>tl σ H fun x H1=>∃a,x=.ref a/\(∃xs,SqL K H1 a xs)/\R (Itl K a) H1
noncomputable def iTup(K:ah)(tl:TE):TI:=fun σ H R=>tl σ H fun x H1=>∃a,x=.ref a/\(∃xs,SqT K H1 a xs)/\R (Itt K a) H1
theorem pi_list{l:Expr}{tl:TE}(g:PE X l tl):PI X tg l (IZ X.K tl):=by
 intro pins s σ H R I h;refine thn (g pins s σ H _ I h) fun v d ⟨x,H1,c,j,i⟩=>?_;obtain⟨a,e,⟨xs,hq⟩,q⟩:=i;subst e;cases j;obtain⟨its,m,p,k⟩:=c.list hq;refine oK p.isList ?_;refine⟨d.heap.objs.size,[d.heap.objs.size],_,_,H1,rfl,c.kept (t':=d.toks) fun b o e=>ag _ e,xl a _,⟨_,az _ rfl,rfl,rfl⟩,fun b f=>?_,q⟩;have e:b=d.heap.objs.size:=by simpa using f
 subst e;exact c.zx (ay _) (c.hok.fresh (ay _))
theorem pi_tup{l:Expr}{tl:TE}(g:PE X l tl):PI X tg l (iTup X.K tl):=by
 intro pins s σ H R I h;refine thn (g pins s σ H _ I h) fun v c ⟨x,H1,d,j,i⟩=>?_;obtain⟨a,e,⟨xs,hq⟩,q⟩:=i;subst e;cases j;obtain⟨its,m,p,k⟩:=d.tuple hq;refine gu (show c.heap.IsTuple a its.toArray from p) ?_;refine⟨c.heap.objs.size,[c.heap.objs.size],_,_,H1,rfl,d.kept (t':=c.toks) fun b o e=>ag _ e,uL a _,⟨_,az _ rfl,rfl,rfl⟩,fun b f=>?_,q⟩;have e:b=c.heap.objs.size:=by simpa using f
 subst e;exact d.zx (ay _) (d.hok.fresh (ay _))
theorem Ar{σ:St}{H:Hp}{R:It->Hp->Prop}{lo hi:Int}{t u v:Tok}{tk:Nat}(I:Inv X pins σ H s)(h1: -(2^62)<=lo)(h2:lo<2^62)(f: -(2^62)<=hi)(g:hi<2^62)
  (q:R (Itr lo (hi-lo).toNat) H):wpAny (model X.prog X.w) X.A (pyIter (.ref s.heap.objs.size)) (PIE X pins σ tg R) E {s with heap:=s.heap.push {cls:=.type "range",data:=.fields #[.int lo t,.int hi u,.int 1 v]},toks:=tk}:=by
 refine wpAny_pyIter_range (IsRange.new ..) (small_one h1 h2 f g) ?_;have a:Inv X pins σ H {s with heap:=s.heap.push {cls:=.type "range",data:=.fields #[.int lo t,.int hi u,.int 1 v]},toks:=tk}:=I.kept fun b o e=>ag _ e;refine⟨(s.heap.push {cls:=.type "range",data:=.fields #[.int lo t,.int hi u,.int 1 v]}).objs.size,[(s.heap.push {cls:=.type "range",data:=.fields #[.int lo t,.int hi u,.int 1 v]}).objs.size],_,_,H,rfl,
  a.kept (t':=tk) fun b o e=>ag _ e,B2 _ lo (hi-lo).toNat,?_,fun b h=>?_,q⟩
 ·have c:lo+((0:Nat):Int)*1=lo:=by simp
  have d:(((hi-lo).toNat:Nat):Int)-((0:Nat):Int)=Builtin.Range.rangeSize lo hi 1:=by rw[rangeSize_one];split <;>lia
  show IsRangeIter _ _ (lo+((0:Nat):Int)*1) ((((hi-lo).toNat:Nat):Int)-((0:Nat):Int)) 1;rw[c,d];exact az _ rfl
 ·have e:b=(s.heap.push {cls:=.type "range",data:=.fields #[.int lo t,.int hi u,.int 1 v]}).objs.size:=by simpa using h
  subst e;exact a.zx (ay _) (a.hok.fresh (ay _))
noncomputable def IY(ta:TA):TI:=fun σ H R=>ta σ H fun vs H1=>∃j:Int,vs=[.int j]∧-(2^62)<=j/\j<2^62/\R (Itr 0 j.toNat) H1
noncomputable def IX(ta:TA):TI:=fun σ H R=>ta σ H fun vs H1=>∃i j:Int,vs=[.int i,.int j]/\(-(2^62)<=i/\i<2^62∧-(2^62)<=j/\j<2^62)/\R (Itr i (j-i).toNat) H1
theorem Fq{a:Expr}{ta:TA}{p:Pos}(f:Gl X "range")(g:X.mg "range"=none)(d:PA X [a] ta)(i:b7 [a] X.env=[(false,eval a X.env)]:=by rfl):PI X tg (.Call (.Name "range" p) [a] [] pos) (IY ta):=by
 intro pins s σ H R I h;refine Call_ (jM I f g boot_range (cJ (thn (d pos pins s σ H _ I h) fun us m ⟨vs,H1,c,l,b⟩=>?_) i rfl));obtain⟨j,e,b,k,q⟩:=b;subst e;cases l with
 |cons r rr=>
  cases rr;obtain⟨t,rfl⟩:=r;exact call_range_1 (Ar c (by lia) (by lia) b k (by simpa using q))
theorem Fp{a b:Expr}{ta:TA}{p:Pos}(k:Gl X "range")(l:X.mg "range"=none)(g:PA X [a,b] ta)(m:b7 [a,b] X.env=[(false,eval a X.env),(false,eval b X.env)]:=by rfl) (d:b7 [b] X.env=[(false,eval b X.env)]:=by rfl):
  PI X tg (.Call (.Name "range" p) [a,b] [] pos) (IX ta):=by
 intro pins s σ H R I h;refine Call_ (jM I k l boot_range (cJ (thn (g pos pins s σ H _ I h) fun us w ⟨vs,H1,f,v,c⟩=>?_) (by rw[m,d]) (by rw[d];rfl)));obtain⟨i,j,e,⟨c,n,o,u⟩,q⟩:=c;subst e;cases v with
 |cons r rr=>
  cases rr with
  |cons r' rr=>
   cases rr;obtain⟨t,rfl⟩:=r;obtain⟨t',rfl⟩:=r';exact call_range_2 (Ar f c n o u q)
noncomputable def tFor(wi:TI)(g:TG)(tb:TS):TS:=fun D σ H=>wi σ H fun J H1=>∃W:Nat->Nat->St->Hp->Prop,(∃m,W 0 m σ H1)/\∀i m σ H,W i m σ H->
 (J.stop i H/\D.nx σ H)\/(J.go i H/\∃N:St->Hp->Prop,(∀b H',N b H'->∃a,a<m/\W (i+1) a b H')/\∀x H',J.yld i H x H'->g x σ H' fun c H2=>tb {D with nx:=N,ct:=N,bk:=D.nx} c H2)
noncomputable def jl(fp:List Addr)(h:Heap):List (Addr×Obj):=fp.filterMap fun b=>(h.get? b).map fun o=>(b,o)
theorem iU{o:Obj}(a:b∈fp)(e:h.get? b=some o):(b,o)∈jl fp h:=List.mem_filterMap.mpr ⟨b,a,by rw[e];rfl⟩
theorem sk{p:Addr×Obj}(hp:p∈jl fp h):p.1∈fp/\h.get? p.1=some p.2:=by
 obtain⟨b,c,e⟩:=List.mem_filterMap.mp hp;cases q:h.get? b with
 |none=>rw[q]at e;cases e
 |some o=>
  rw[q]at e;have a:(b,o)=p:=a6 e;subst a;exact⟨c,q⟩
theorem Inv.pinned{σ:St}{H:Hp}(I:Inv X pins σ H s)(hf:∀b∈fp,rG X pins H b)(i:∀b∈fp,∃o,s.heap.get? b=some o/\∀v,o.data≠.cell v):Inv X (pins++jl fp s.heap) σ H s:=
 I.yT fun p hp=>(bQ.mp hp).elim (fun z=>I.pin p (aS _ z)) fun z=>by
  obtain⟨c,e⟩:=sk z;obtain⟨f,g,h,_⟩:=hf p.1 c;obtain⟨o,a,d⟩:=i p.1 c;rw[e]at a;cases a;exact⟨e,f,g,h,d⟩
theorem Inv.iA{pl:List (Addr×Obj)}{σ:St}{H:Hp}(I:Inv X (pins++pl) σ H s):Inv X pins σ H s:=I.yT fun p hp=>I.pin p (aS _ (cj _ hp))
theorem ps_for{G:List Stmt}{wi:TI}{g:TG}{tb:TS}(hp:PassesOwn (model X.prog X.w) X.A X.env X.xe)(L:X.calm=true)(hi:PI X tg iter wi)(hg:PG X tg g)(j:PSs X G tb)
  (hs:∀x,jC iter X.env x=pure x:=by intro _;rfl):PS X (.For tg iter G [] pos) (tFor wi g tb):=by
 intro pins s σ H D I h;refine wpAny_For (thn (hi pins s σ H _ I h) fun v s1 h1=>thn h1 fun a4 s2 h2=>?_) hs;obtain⟨it,fp,tn,a3,H2,e,Q,T,a0,J,W,⟨m0,w0⟩,turn⟩:=h2;subst e
 --what stays true of the iterator's objects through the loop
 have B:∀{H':Hp},(∀b∈fp,H' b=none)->∀b∈fp,rG X pins H' b:=fun hn b j=>⟨hn b j,(J b j).2⟩;refine codeAny_forLoop_any (fun n s'=>∃i q H',Inv X pins q H' s'/\tn i s'.heap/\(∀b∈fp,H' b=none)/\W i n q H') ?_ m0 ⟨0,σ,H2,Q,a0,fun b j=>(J b j).1,w0⟩;rintro n s3 ⟨i,t,w,E,O,K,w3⟩;rcases turn i n t w w3 with⟨a1,qn⟩ |⟨Z,N,hN,step⟩
 ·refine gJ hp (thn (T.done X rfl rfl rfl L i pins s3 t w X.xe E (B K) O a1) fun r s4 ⟨y,R⟩=>?_)
  subst y;exact Dg ⟨t,w,R,qn⟩
 ·refine gJ hp (thn (T.item X rfl rfl rfl L i pins s3 t w X.xe E (B K) O Z) fun r s4 ⟨u,y,h4⟩=>?_)
  subst y;refine gJ hp (thn h4 fun _ M ⟨x,C,S,r5,y5,A,Y⟩=>?_);have U:=S.pinned (B Y) (T.obj _ _ A);refine gJ hp (thn (hg _ M t C x u _ U r5 (step x C y5)) fun _ s6 ⟨a2,P,V,q6⟩=>?_);refine gJ hp (thn (j _ s6 a2 P _ V q6) fun f z l=>?_);have F:∀{k:St}{a:Hp},Inv X (pins++jl fp M.heap) k a z->N k a->∃m,m<n/\∃i q H',Inv X pins q H' z/\tn i z.heap/\(∀b∈fp,H' b=none)/\W i m q H':=fun{k a} c p=>by
   obtain⟨m',hm,w7⟩:=hN k a p;refine⟨m',hm,i+1,k,a,c.iA,T.keep _ _ _ A fun b j o e=>(c.pin (b,o) (aS _ (aS _ (iU j e)))).1,fun b j=>?_,w7⟩;obtain⟨o,e,d⟩:=T.obj _ _ A b j;exact(c.pin (b,o) (aS _ (aS _ (iU j e)))).2.1
  cases f with
  |next =>obtain⟨k,a,c,p⟩:=l;exact F c p
  |cont=>obtain⟨k,a,c,p⟩:=l;exact F c p
  |brk=>obtain⟨k,a,c,l⟩:=l;exact⟨k,a,c.iA,l⟩
  |ret v=>obtain⟨x7,k,a,c,r7,l⟩:=l;exact⟨x7,k,a,c.iA,r7,l⟩
end
noncomputable abbrev R2:=V->V->Hp->VK->Prop
def OpR(X:Cx)(f:Value->Value->Sem Value)(r:R2):Prop:=
 ∀(pins:List (Addr×Obj))(s:Shared)(σ:St)(H:Hp)(x y:V)(v u:Value)(Q:VK),Inv X pins σ H s->RelV x v->RelV y u->r x y H Q->
  wpAny (model X.prog X.w) X.A (f v u) (EP X pins σ Q) X.xe s
def fB(X:Cx)(f:Value)(r:List V->Hp->VK->Prop):Prop:=
 ∀(pins:List (Addr×Obj))(s:Shared)(σ:St)(H:Hp)(xs:List V)(us:List Value)(Q:VK),Inv X pins σ H s->bE xs us->r xs H Q->
  wpAny (model X.prog X.w) X.A (call f us) (EP X pins σ Q) X.xe s
def TruR(X:Cx)(r:V->Hp->(Bool->Hp->Prop)->Prop):Prop:=
 ∀(pins:List (Addr×Obj))(s:Shared)(σ:St)(H:Hp)(x:V)(v:Value)(Q:Bool->Hp->Prop),Inv X pins σ H s->RelV x v->r x H Q->
  wpAny (model X.prog X.w) X.A (truthy v) (TP X pins σ Q) X.xe s
noncomputable def tOp(r:R2)(ta tb:TE):TE:=fun σ H Q=>ta σ H fun x H1=>tb σ H1 fun y H2=>r x y H2 Q
noncomputable def rI(C:Int->Int->Prop)(g:Int->Int->V):R2:=fun x y H Q=>∃i j,x=.int i/\y=.int j/\C i j/\Q (g i j) H
noncomputable def rI0(g:Int->Int->V):R2:=fun x y H Q=>∃i j,x=.int i/\y=.int j/\Q (g i j) H
section
variable {X:Cx}{a b c:Expr}{ta tb tc:TE}{pos:Pos}
theorem binT(e:PE X a ta)(g:PE X b tb){σ:St}{H:Hp}{R:V->V->Hp->Prop}(I:Inv X pins σ H s)
  (h:ta σ H fun x H1=>tb σ H1 fun y H2=>R x y H2){Q:Value->Shared->Prop}{f:Value->Value->Sem Value}
  (hf:∀v u s2 x y H2,Inv X pins σ H2 s2->RelV x v->RelV y u->R x y H2->wpAny (model X.prog X.w) X.A (f v u) Q X.xe s2):
  wpAny (model X.prog X.w) X.A (eval a X.env) (fun v n=>wpAny (model X.prog X.w) X.A (eval b X.env) (fun u o=>wpAny (model X.prog X.w) X.A (f v u) Q X.xe o) X.xe n) X.xe s:=by
 refine thn (e pins s σ H _ I h) fun v m ⟨x,H1,c,k,i⟩=>?_;refine thn (g pins m σ H1 _ c i) fun u s2 ⟨y,H2,d,l,j⟩=>?_;exact hf v u s2 x y H2 d k l j
theorem pe_op{op:Operator}{r:R2}(f:OpR X (d7 op) r)(d:PE X a ta)(e:PE X b tb):PE X (.BinOp a op b pos) (tOp r ta tb):=by
 intro pins s σ H Q I h;exact wpAny_BinOp (binT d e I h fun v u s2 x y H2 c g i q=>f pins s2 σ H2 x y v u Q c g i q)
theorem opI{f:Value->Value->Sem Value}{C:Int->Int->Prop}{g:Int->Int->Int}
  (b:∀(i j:Int)(t u:Tok)(s:Shared)(Q:Value->Shared->Prop)(E:Value->Shared->Prop),C i j->Q (.int (g i j) s.toks) {s with toks:=s.toks+1}->wpAny (model X.prog X.w) X.A (f (.int i t) (.int j u)) Q E s):
  OpR X f (rI C fun i j=>.int (g i j)):=by
 intro pins s σ H x y v u Q I c d h;obtain⟨i,j,rfl,rfl,a,q⟩:=h;obtain⟨t,rfl⟩:=c;obtain⟨t',rfl⟩:=d;exact b i j t t' s _ _ a ⟨.int (g i j),H,I.tok _,⟨_,rfl⟩,q⟩
theorem opI0{f:Value->Value->Sem Value}{g:Int->Int->Int}
  (a:∀(i j:Int)(t u:Tok)(s:Shared)(Q:Value->Shared->Prop)(E:Value->Shared->Prop),Q (.int (g i j) s.toks) {s with toks:=s.toks+1}->wpAny (model X.prog X.w) X.A (f (.int i t) (.int j u)) Q E s):
  OpR X f (rI0 fun i j=>.int (g i j)):=by
 intro pins s σ H x y v u Q I b c h;obtain⟨i,j,rfl,rfl,q⟩:=h;obtain⟨t,rfl⟩:=b;obtain⟨t',rfl⟩:=c;exact a i j t t' s _ _ ⟨.int (g i j),H,I.tok _,⟨_,rfl⟩,q⟩
theorem opB0{f:Value->Value->Sem Value}{g:Int->Int->Bool}
  (a:∀(i j:Int)(t u:Tok)(s:Shared)(Q:Value->Shared->Prop)(E:Value->Shared->Prop),Q (.bool (g i j)) s->wpAny (model X.prog X.w) X.A (f (.int i t) (.int j u)) Q E s):
  OpR X f (rI0 fun i j=>.bl (g i j)):=by
 intro pins s σ H x y v u Q I b c h;obtain⟨i,j,rfl,rfl,q⟩:=h;obtain⟨t,rfl⟩:=b;obtain⟨t',rfl⟩:=c;exact a i j t t' s _ _ ⟨.bl (g i j),H,I,rfl,q⟩
def CDiv(i j:Int):Prop:=0<j/\j<1073741824
def JW(i j:Int):Prop:=0<=j/\j<=1000000/\i.natAbs<2^64
def Df(i j:Int):Prop:=(-(2^64)<i/\i<2^64)\/(-(2^64)<j/\j<2^64)
theorem Df.ok{i j:Int}(h:Df i j):IntMulOk i j:=by
 rcases h with⟨h1,h2⟩ |⟨h1,h2⟩
 ·exact .of_left (intBits_le_64 h1 h2)
 ·exact .of_right (intBits_le_64 h1 h2)
theorem B1(k:Nat):(0:Int)<=2^k:=by
 rw[two_pow_cast];exact Int.natCast_nonneg _
theorem op_add:OpR X (d7 .Add) (rI0 fun i j=>.int (i+j)):=opI0 fun _ _ _ _ _ _ _ q=>add_int q
theorem op_sub:OpR X (d7 .Sub) (rI0 fun i j=>.int (i-j)):=opI0 fun _ _ _ _ _ _ _ q=>sub_int q
theorem op_mul:OpR X (d7 .Mult) (rI Df fun i j=>.int (i*j)):=opI fun _ _ _ _ _ _ _ a q=>mul_int q a.ok
theorem op_fdiv:OpR X (d7 .FloorDiv) (rI CDiv fun i j=>.int (i/j)):=opI fun i j _ _ _ _ _ a q=>by
 have h1:(0:Int)<j:=a.1;have h2:j<1073741824:=a.2;exact floordiv_int (by lia) (by rw[BK i (by lia)];exact q) (.inl (PyProof.noPylong_small (by lia)))
theorem op_mod:OpR X (d7 .Mod) (rI (fun _ j=>0<j) fun i j=>.int (i%j)):=opI fun i j _ _ _ _ _ a q=>by
 have h1:(0:Int)<j:=a;exact mod_int' (by lia) (by rw[Int.fmod_eq_emod_of_nonneg i (by lia)];exact q)
theorem op_pow:OpR X (d7 .Pow) (rI JW fun i j=>.int (i^j.toNat)):=opI fun _ _ _ _ _ _ _ a q=>pow_int_small a.1 a.2.1 a.2.2 q
theorem op_shl:OpR X (d7 .LShift) (rI JW fun i j=>.int (i*2^j.toNat)):=opI fun _ _ _ _ _ _ _ a q=>lshift_int_small a.1 a.2.1 a.2.2 q
theorem op_shr:OpR X (d7 .RShift) (rI (fun _ j=>0<=j) fun i j=>.int (i/2^j.toNat)):=opI fun i j _ _ _ _ _ a q=>
 rshift_int a (by rw[BK i (B1 _)];exact q)
theorem op_and:OpR X (d7 .BitAnd) (rI0 fun i j=>.int (iR i j)):=opI0 fun _ _ _ _ _ _ _ q=>and_int q
theorem op_xor:OpR X (d7 .BitXor) (rI0 fun i j=>.int (kg i j)):=opI0 fun _ _ _ _ _ _ _ q=>xor_int q
end
section
variable {X:Cx}{a b c:Expr}{ta tb tc:TE}{pos:Pos}
theorem vT{σ:St}{H:Hp}{Q:VK}{k a:Bool}(I:Inv X pins σ H s)(q:Q (.bl k) H)(e:k=a):EP X pins σ Q (.bool a) s:=by
 subst e;exact⟨.bl k,H,I,rfl,q⟩
theorem op_lt:OpR X (cX .Lt) (rI0 fun i j=>.bl (decide (i<j))):=opB0 fun _ _ _ _ _ _ _ q=>lt_int q
theorem op_le:OpR X (cX .LtE) (rI0 fun i j=>.bl (decide (i<=j))):=opB0 fun _ _ _ _ _ _ _ q=>le_int q
theorem op_gt:OpR X (cX .Gt) (rI0 fun i j=>.bl (decide (j<i))):=opB0 fun _ _ _ _ _ _ _ q=>gt_int q
theorem op_ge:OpR X (cX .GtE) (rI0 fun i j=>.bl (decide (j<=i))):=opB0 fun _ _ _ _ _ _ _ q=>ge_int q
theorem Fy:OpR X (cX .In) (fun x y H Q=>∃i j,x=.str i/\y=.str j/\Q (.bl (!(gY j i 0 j.length 1).isEmpty)) H):=by
 intro pins s σ H x y v u Q I a b h;obtain⟨i,j,rfl,rfl,q⟩:=h;obtain⟨t,rfl⟩:=a;obtain⟨t',rfl⟩:=b;exact in_str (vT I q rfl)
theorem op_isN:OpR X (cX .Is) (fun x y H Q=>y=.non/\Q (.bl (decide (x=.non))) H):=by
 intro pins s σ H x y v u Q I a b h;obtain⟨rfl,q⟩:=h;cases b;refine is_none_gen (vT I q ?_);cases x<;>first
  | (cases a;rfl)
  | (obtain⟨t,rfl⟩:=a;rfl)
theorem op_notN:OpR X (cX .IsNot) (fun x y H Q=>y=.non/\Q (.bl (!decide (x=.non))) H):=by
 intro pins s σ H x y v u Q I a b h;obtain⟨rfl,q⟩:=h;cases b;refine isnot_none_gen (vT I q ?_);cases x<;>first
  | (cases a;rfl)
  | (obtain⟨t,rfl⟩:=a;rfl)
theorem OpR.or{f:Value->Value->Sem Value}{r a:R2}(h:OpR X f r)(h':OpR X f a):OpR X f (fun x y H Q=>r x y H Q\/a x y H Q):=by
 intro pins s σ H x y v u Q I b c q;rcases q with q|q
 ·exact h pins s σ H x y v u Q I b c q
 ·exact h' pins s σ H x y v u Q I b c q
theorem pe_cmpR{op:CmpOp}{r:R2}(g:OpR X (cX op) r)(d:PE X a ta)(e:PE X b tb)(f:J2 op b=false):PE X (.Compare a [op] [b] pos) (tOp r ta tb):=by
 intro pins s σ H Q I h;exact wpAny_Compare1 (binT d e I h fun v u s2 x y H2 c i j q=>g pins s2 σ H2 x y v u Q c i j q) f
noncomputable def xn(t:TE):TT:=fun σ H Q=>t σ H fun x H'=>∃k,x=.bl k/\Q k H'
theorem pt_cmpR{op:CmpOp}{r:R2}(n:OpR X (cX op) r)(j:PE X a ta)(l:PE X b tb)(m:J2 op b=false):PT X (.Compare a [op] [b] pos) (xn (tOp r ta tb)):=by
 intro pins s σ H Q I h;refine wpAny_isTrue_Compare1 (thn (j pins s σ H _ I h) fun v B ⟨x,H1,f,t,o⟩=>thn (l pins B σ H1 _ f o) fun u s2 ⟨y,H2,g,w,p⟩=>
  thn (n pins s2 σ H2 x y v u _ g t w p) fun c s3 ⟨z,d,i,A,k,e,q⟩=>?_) m
 subst e;cases A;exact c6 ⟨d,i,q⟩
noncomputable def uR(r c:R2)(ta tb tc:TE):TE:=fun σ H Q=>ta σ H fun x H1=>tb σ H1 fun y H2=>r x y H2 fun z a=>∃k,z=.bl k/\
 (if k=true then tc σ a fun d b=>c y d b Q else Q (.bl false) a)
theorem HV{op f:CmpOp}{r l:R2}(C:OpR X (cX op) r)(D:OpR X (cX f) l)(t:PE X a ta)(w:PE X b tb)(A:PE X c tc)
  (B:lastMarks [op,f] [b,c]=false:=by with_unfolding_all rfl):PE X (.Compare a [op,f] [b,c] pos) (uR r l ta tb tc):=by
 intro pins s σ H Q I h;refine Compare_chain (thn (t pins s σ H _ I h) fun v M ⟨x,H1,o,J,E⟩=>chain_link (thn (w pins M σ H1 _ o E) fun u s2 ⟨y,H2,p,m,F⟩=>
  thn (C pins s2 σ H2 x y v u _ p J m F) fun d s3 ⟨z,g,i,K,k,e,j⟩=>?_)) B
 subst e;cases K;refine c6 ?_;cases k with
 |false=>exact ite_ff ⟨.bl false,g,i,rfl,j⟩
 |true=>exact ite_tt (chain_last (thn (A pins s3 σ g _ i j) fun O N ⟨P,n,q,L,G⟩=>D pins N σ n y P u O Q q m L G))
theorem HG{op f:CmpOp}{r l:R2}(G:OpR X (cX op) r)(J:OpR X (cX f) l)(C:PE X a ta)(D:PE X b tb)(E:PE X c tc)
  (F:lastMarks [op,f] [b,c]=false:=by with_unfolding_all rfl):PT X (.Compare a [op,f] [b,c] pos) (xn (uR r l ta tb tc)):=by
 intro pins s σ H Q I h;refine isTrue_chain (thn (C pins s σ H _ I h) fun v U ⟨x,H1,p,P,L⟩=>test_link (thn (D pins U σ H1 _ p L) fun u s2 ⟨y,H2,q,m,M⟩=>
  thn (G pins s2 σ H2 x y v u _ q P m M) fun d s3 ⟨z,g,i,R,k,e,j⟩=>?_)) F
 subst e;cases R;refine c6 ?_;cases k with
 |false=>
  obtain⟨k',A,K⟩:=j;cases A;exact ite_ff ⟨g,i,K⟩
 |true=>
  refine ite_tt (test_last (thn (E pins s3 σ g _ i j) fun W V ⟨Y,n,t,S,N⟩=>thn (J pins V σ n y Y u W _ t m S N) fun Z s5 ⟨z2,o,w,T,k2,B,O⟩=>?_));subst B;cases T;exact c6 ⟨o,w,O⟩
def TruV(K:ah)(x:V)(H:Hp)(k:Bool):Prop:=
 match x with
 |.non=>k=false
 |.bl b=>k=b
 |.int i=>k=(i != 0)
 |.str y=>y.length<=sizeLine/\k=((y.length:Int) != 0)
 |.byt y=>y.size<=sizeLine/\k=((y.size:Int) != 0)
 |.ref p=>(∃xs,SqL K H p xs/\k= !xs.isEmpty)\/(∃xs,SqT K H p xs/\k= !xs.isEmpty)\/∃kvs,H p=some (.dK kvs)/\k= !kvs.isEmpty
 |_=>False
theorem CN{κ:Type}{kvs:List (κ×V)}{vs:List (κ×Value)}(r:KV kvs vs):(!vs.isEmpty)= !kvs.isEmpty:=by
 cases r<;>rfl
theorem vM{xs:List V}(r:bE xs its):(!its.toArray.isEmpty)= !xs.isEmpty:=by
 cases r<;>simp
theorem pS:(sizeLine:Nat)<2^63:=by rw[BO];decide
theorem tru_ok:TruR X (fun x H Q=>∃k,TruV X.K x H k/\Q k H):=by
 intro pins s σ H x v Q I c h;obtain⟨k,e,q⟩:=h;have n:=pS;have o:sizeLine=16777216:=BO;cases x with
 |non=>
  cases c;have a:k=false:=e;subst a;exact truthy_none ⟨H,I,q⟩
 |bl b=>
  cases c;have a:k=b:=e;subst a;exact c6 ⟨H,I,q⟩
 |int i=>
  obtain⟨t,rfl⟩:=c;have a:k=(i != 0):=e;subst a;exact PySem.P.truthy_int ⟨H,I,q⟩
 |str y=>
  obtain⟨t,rfl⟩:=c;obtain⟨l,a⟩:y.length<=sizeLine/\k=((y.length:Int) != 0):=e;subst a;exact PySem.P.truthy_str (by lia) ⟨H,I.tok _,q⟩
 |byt y=>
  obtain⟨t,rfl⟩:=c;obtain⟨l,a⟩:y.size<=sizeLine/\k=((y.size:Int) != 0):=e;subst a;exact PySem.W.truthy_bytes (by lia) ⟨H,I.tok _,q⟩
 |ref p=>
  cases c;have a:(∃xs,SqL X.K H p xs/\k= !xs.isEmpty)\/(∃xs,SqT X.K H p xs/\k= !xs.isEmpty)\/∃kvs,H p=some (.dK kvs)/\k= !kvs.isEmpty:=e;rcases a with⟨xs,d,a⟩ |⟨xs,d,a⟩ |⟨kvs,d,a⟩
  ·subst a
   obtain⟨its,r,pl,g⟩:=I.list d;have f:=r.length;exact wpAny_truthy_list pl.isList (by simp only[au];lia) ⟨H,I.tok _,by rw[vM r];exact q⟩
  ·subst a
   obtain⟨its,r,pl,g⟩:=I.tuple d;have f:=r.length;exact truthy_tuple pl (by simp only[au];lia) ⟨H,I.tok _,by rw[vM r];exact q⟩
  ·subst a
   obtain⟨g,j,vs,r,m⟩:kvs.length<=sizeLine/\(p==gz)=false/\∃vs,KV kvs vs/\s.heap.DictOf (cy X.prog X.w) p vs:=I.hok p _ d;have f:kvs.length=vs.length:=lU r;exact wpAny_truthy_dict j m (by lia) ⟨H,I.tok _,by rw[CN r];exact q⟩
 |_=>exact(show False from e).elim
theorem kX(d:PE X a ta)(e:∀b,isTrue a X.env b=(do let v<-b;standAt a.pos;holding [v] (truthy v))):
  PT X a (fun σ H Q=>ta σ H fun x H'=>∃k,TruV X.K x H' k/\Q k H'):=by
 intro pins s σ H Q I h;exact isTrue_plain (thn (d pins s σ H _ I h) fun v i ⟨x,H1,c,g,f⟩=>tru_ok pins i σ H1 x v Q c g f) (e _)
theorem Cu:OpR X (d7 .Add) (fun x y H Q=>∃i j,x=.str i/\y=.str j/\i.length+j.length<=sizeLine/\Q (.str (i++j)) H):=by
 intro pins s σ H x y v u Q I b c h;obtain⟨i,j,rfl,rfl,a,q⟩:=h;obtain⟨t,rfl⟩:=b;obtain⟨t',rfl⟩:=c;exact add_str (fun t' tk=>⟨.str (i++j),H,I.tok _,⟨_,rfl⟩,q⟩) a
theorem vals1{x:V}(r:bE [x] us):∃u,us=[u]/\RelV x u:=by
 cases r with
 |cons r1 r2=>cases r2;exact⟨_,rfl,r1⟩
theorem vals2{x y:V}(r:bE [x,y] us):∃u a,us=[u,a]/\RelV x u/\RelV y a:=by
 cases r with
 |cons r1 r2=>
  cases r2 with
  |cons r3 r4=>cases r4;exact⟨_,_,rfl,r1,r3⟩
theorem sG(a:X.calm=true):fB X (.builtin "max") (fun xs H Q=>∃i j,xs=[.int i,.int j]/\Q (.int (if j>i then j else i)) H):=by
 intro pins s σ H xs us Q I r h;obtain⟨i,j,rfl,q⟩:=h;obtain⟨u,b,rfl,⟨t,rfl⟩,⟨t',rfl⟩⟩:=vals2 r;refine max_two_ints (I.ok.hd a) fun h' tk k=>⟨_,H,I.kept k,?_,q⟩;by_cases hj:j>i
 ·rw[if_pos hj,if_pos hj];exact⟨_,rfl⟩
 ·rw[if_neg hj,if_neg hj];exact⟨_,rfl⟩
theorem sF(a:X.calm=true):fB X (.builtin "min") (fun xs H Q=>∃i j,xs=[.int i,.int j]/\Q (.int (if j<i then j else i)) H):=by
 intro pins s σ H xs us Q I r h;obtain⟨i,j,rfl,q⟩:=h;obtain⟨u,b,rfl,⟨t,rfl⟩,⟨t',rfl⟩⟩:=vals2 r;refine min_two_ints (I.ok.hd a) fun h' tk k=>⟨_,H,I.kept k,?_,q⟩;by_cases hj:j<i
 ·rw[if_pos hj,if_pos hj];exact⟨_,rfl⟩
 ·rw[if_neg hj,if_neg hj];exact⟨_,rfl⟩
theorem F9:fB X (.type "int") (fun xs H Q=>(∃i,xs=[.int i]/\Q (.int i) H)\/∃k,xs=[.bl k]/\Q (.int (if k then 1 else 0)) H):=by
 intro pins s σ H xs us Q I r h;rcases h with⟨i,rfl,q⟩ |⟨k,rfl,q⟩
 ·obtain⟨u,rfl,t,rfl⟩:=vals1 r
  exact call_int_int ⟨.int i,H,I,⟨_,rfl⟩,q⟩
 ·obtain⟨u,rfl,a⟩:=vals1 r
  cases a;exact call_int_bool ⟨.int (if k then 1 else 0),H,I.tok _,⟨_,rfl⟩,q⟩
end
structure ObjM(h:Heap)(x dx C:Addr)(mA:Str->Option Value):Prop where
 obj:h.get? x=some (wz C dx)
 ns:h.Ns1 dx mA
 ne:dx≠x
theorem FN(n:h.Ns1 dx mA):∃od,h.get? dx=some od/\∀name,xh name od=some (mA name):=by
 obtain⟨o,es,ep,i,c,d,_,g⟩:=n;refine⟨o,i,fun name=>?_⟩;have e:=g name;unfold nsFind findBy at e;rw[<-Array.find?_toList]at e;unfold xh;rw[c];dsimp only;split
 ·rename_i y q
  rw[q]at e;exact congrArg some e
 ·rename_i q
  rw[q]at e;have a:es.toList.any (·.refKey)=false:=by
   rw[List.any_eq_false];intro y j;obtain⟨z,t,f⟩:=d y (jF.mp j);simp[DictEntry.refKey,f]
  have b:¬es.toList.any (·.refKey)=true:=by rw[a];exact ak
  rw[if_neg b];exact congrArg some e
theorem ObjM.look{x:Addr}(I:ObjM h x dx C mA):∃od,PySem.W.InstAt h x (wz C dx) C (some od)/\∀name,xh name od=some (mA name):=
 let⟨od,ho,hl⟩:=FN I.ns
 ⟨od,⟨I.obj,rfl,rfl,ho⟩,hl⟩
noncomputable def putF(f:Str)(v:V):List (Str×V)->List (Str×V)
 | []=>[(f,v)]
 | (g,x)::r=>if g=f then(g,v)::r else(g,x)::putF f v r
theorem wx.some_of{v:V}{o:Option Value}(r:wx (some v) o):∃u,o=some u/\RelV v u:=by
 cases o with
 |none=>exact(show False from r).elim
 |some u=>exact⟨u,rfl,r⟩
section
variable {P:Program}{w:World}{H H':Hp}{h h':Heap}{a C dx:Addr}{fs fs':List (Str×V)}
theorem ins_get(b:HOk P w H h)(e:H a=some (.ins C dx fs)):∃mA,ObjM h a dx C mA/\(∀f,wx (fs.lookup f) (mA f))/\Di mA (fs.map (·.1))/\fs.length<=1000/\H dx=some (.own a):=by
 obtain⟨d,z,ne,c,mA,n,r,q⟩:=(show dP P w H h a (.ins C dx fs)from b a _ e);exact⟨mA,⟨c,n,ne⟩,r,q,z,d⟩
end
structure Cls(K:ah)(C:Addr):Prop where
 pg:J6 K C Str.empty=true
 hd:PySem.W.hasDictIn K C=true
 po:PySem.W.plainOver K C=true
 sa:kb K (.ref C) "__setattr__"=some (some (.builtin "object.__setattr__"))
theorem Cls.get(c:Cls K C)(f:Str):J6 K C f=true:=c.pg
def JS(K:ah)(C:Addr)(f:Str):Prop:=kb K (.ref C) f=some none
structure Meth(K:ah)(C:Addr)(m:Str)(f:Addr):Prop where
 at_:kb K (.ref C) m=some (some (.ref f))
 fn:PySem.W.isFn K (.ref f)=true
 kp:cS K (.ref f)=true
noncomputable def tFld(K:ah)(ta:TE)(f:Str):TE:=fun σ H Q=>ta σ H fun x H1=>∃a C dx fs v,x=.ref a/\H1 a=some (.ins C dx fs)/\Cls K C/\JS K C f/\fs.lookup f=some v/\Q v H1
noncomputable def sFld(K:ah)(ta b:TE)(f:Str):TS:=fun D σ H=>b σ H fun y H1=>ta σ H1 fun x H2=>∃a C dx fs,x=.ref a/\H2 a=some (.ins C dx fs)/\Cls K C/\JS K C f/\fs.length<1000/\
 D.nx σ (upd H2 a (.ins C dx (putF f y fs)))
section
variable {X:Cx}{pins:List (Addr×Obj)}{σ:St}{H:Hp}{s:Shared}{A:Around}{E:Value->Shared->Prop}{Q:Value->Shared->Prop}{c:Value}{b:Bool}
inductive mO (K:ah) (H:Hp):V->Value->Prop where
 |non:mO K H .non (.type "NoneType")
 |bl (x:Bool):mO K H (.bl x) (.type "bool")
 |int (i:Int):mO K H (.int i) (.type "int")
 |str (x:Str):mO K H (.str x) (.type "str")
 |flt (x:UInt64):mO K H (.flt x) (.type "float")
 |lst {a:Addr} {xs:List V} (e:H a=some (.lst xs)):mO K H (.ref a) (.type "list")
 |frz {a:Addr} {o:Obj} {xs:List V} (e:H a=some (.frz o (.lst xs))):mO K H (.ref a) (.type "list")
 |tup {a:Addr} {xs:List V} (e:H a=some (.tup xs)):mO K H (.ref a) (.type "tuple")
 |dK {a:Addr} {kvs:List (Key×V)} (e:H a=some (.dK kvs)):mO K H (.ref a) (.type "dict")
 |dT {a:Addr} {kvs:List (List Key×V)} (e:H a=some (.dT kvs)):mO K H (.ref a) (.type "dict")
 |ins {a C dx:Addr} {fs:List (Str×V)} (e:H a=some (.ins C dx fs)) (cl:Cls K C) (ha:kb K (.ref C) "__class__"=some (some (.builtin "object.__class__")))
   (hn:PySem.W.specialIn K (.builtin "object.__class__") "__get__"=some (some (.builtin "getset_descriptor.__get__"))) (htk:PySem.W.takesIn K (.builtin "object.__class__")=some true)
   (hm:PySem.W.mroIn K C (.type "object")=some true):mO K H (.ref a) (.ref C)
theorem xP{x:V}{t:Value}(I:Inv X pins σ H s)(d:RelV x u)(ty:mO X.K H x t)(e:iP X.K t c=some b)(h:∀tk,Q (.bool b) {s with toks:=tk}):
  wpAny (model X.prog X.w) A (call (.builtin "isinstance") [u,c]) Q E s:=by
 cases ty with
 |non=>cases(show u=bF from d);exact c5 PySem.W.kitx_none I.kIn True.intro e (fun z=>nomatch z) h
 |bl y=>cases(show u=zU y from d);exact c5 PySem.W.kitx_bool I.kIn True.intro e (fun z=>nomatch z) h
 |int i=>obtain⟨t,q⟩:=(show ∃t,u=wy i t from d);cases q;exact c5 PySem.W.kitx_int I.kIn True.intro e (fun z=>nomatch z) h
 |str y=>obtain⟨t,q⟩:=(show ∃t,u=iM y t from d);cases q;exact c5 PySem.W.kitx_str I.kIn True.intro e (fun z=>nomatch z) h
 |flt y=>obtain⟨t,q⟩:=(show ∃t,u=Value.float y t from d);cases q;exact c5 PySem.W.kitx_float I.kIn True.intro e (fun z=>nomatch z) h
 | @lst a xs ea=>
  cases(show u=cF a from d);obtain⟨_,_,n,_,h1⟩:=(show dP X.prog X.w H s.heap a (.lst xs)from I.hok a _ ea);exact c5 GD I.kIn ⟨_,h1,rfl⟩ e (fun z=>nomatch z) h
 | @frz a ob xs ea=>
  cases(show u=cF a from d);obtain⟨_,_,_,n,_,h1⟩:=(show dP X.prog X.w H s.heap a (.frz ob (.lst xs))from I.hok a _ ea);exact c5 GD I.kIn ⟨_,h1,rfl⟩ e (fun z=>nomatch z) h
 | @tup a xs ea=>
  cases(show u=cF a from d);obtain⟨_,_,_,p⟩:=(show dP X.prog X.w H s.heap a (.tup xs)from I.hok a _ ea);obtain⟨o,h1,h2,_⟩:=p;exact c5 PySem.W.kitx_tuple I.kIn ⟨o,h1,h2⟩ e (fun z=>nomatch z) h
 | @dK a kvs ea=>
  cases(show u=cF a from d);obtain⟨_,_,vs,_,p⟩:=(show dP X.prog X.w H s.heap a (.dK kvs)from I.hok a _ ea);obtain⟨o,es,ep,h1,h2,_⟩:=p;exact c5 GF I.kIn ⟨o,h1,h2.1⟩ e (fun z=>nomatch z) h
 | @dT a kvs ea=>
  cases(show u=cF a from d);obtain⟨_,_,xs,_,o,es,ep,h1,h2,_⟩:=(show dP X.prog X.w H s.heap a (.dT kvs)from I.hok a _ ea);exact c5 GF I.kIn ⟨o,h1,h2.1⟩ e (fun z=>nomatch z) h
 | @ins a C dx fs ea cl ha hn htk hm=>
  cases(show u=cF a from d);obtain⟨mA,O,_⟩:=ins_get I.hok ea;obtain⟨od,J,_⟩:=O.look;exact c5 (PySem.W.kitx_own (cl.get _) cl.hd ha hn htk hm) I.kIn J e (fun z=>nomatch z) h
end
structure j6(k:Nat)(A:Around):Prop where
 hd:A.handled=none
 dp:A.depth+3*k+5<jA
 un:A.units+16*k+200<cLine
theorem j6.mono(r:j6 k A)(h:j<=k):j6 j A:=⟨r.hd,by have :=r.dp;lia,by have :=r.un;lia⟩
theorem j6.deeper(r:j6 (k+1) A)(env:Env):j6 k (A.deeper env):=
 ⟨r.hd,by have :=r.dp;show A.depth+1+3*k+5<_;lia,by have :=r.un;show A.units+3+16*k+200<_;lia⟩
theorem j6.depth(r:j6 k A):A.depth<jA:=by have :=r.dp;lia
theorem j6.units(r:j6 k A):A.units+64<cLine:=by have :=r.un;lia
noncomputable def oU:TA:=fun _ H Q=>Q [] H
noncomputable def ja(ta:TE)(tr:TA):TA:=fun σ H Q=>ta σ H fun x H1=>tr σ H1 fun xs H2=>Q (x::xs) H2
section
variable {X:Cx}{e:Expr}{es:List Expr}{te:TE}{t:TA}{pos:Pos}
theorem lY:PA X [] oU:=fun _ _ _ _ H Q I h=>Calls.spliced_nil ⟨[],H,I,.nil,h⟩
theorem iD(c:PE X e te)(d:PA X es t)(f:b7 (e::es) X.env=(false,eval e X.env)::b7 es X.env:=by rfl):PA X (e::es) (ja te t):=by
 intro pos pins s σ H Q I h;rw[f];show wpAny _ _ (spliced ((false,eval e X.env)::backTo pos (b7 es X.env))) _ _ s;refine sP (thn (c pins s σ H _ I h) fun u l ⟨x,H1,a,j,g⟩=>?_);exact thn (d pos pins l σ H1 _ a g) fun us s2 ⟨xs,H2,b,k,i⟩=>⟨x::xs,H2,b,.cons j k,i⟩
noncomputable def G1(t:TA):TE:=fun σ H Q=>t σ H fun xs H1=>xs.length<=sizeLine/\∀p,H1 p=none->Q (.ref p) (upd H1 p (.tup xs))
noncomputable def tLst(t:TA):TE:=fun σ H Q=>t σ H fun xs H1=>xs.length<=sizeLine/\∀p,H1 p=none->Q (.ref p) (upd H1 p (.lst xs))
theorem pe_tup{x1}(h:PA X es t):PE X (.Tuple es x1 pos) (G1 t):=by
 intro pins s σ H Q I hq;refine wpAny_Tuple_spliced (thn (h pos pins s σ H _ I hq) fun us a ⟨xs,H1,c,r,z,q⟩=>⟨by rw[<-r.length];exact z,?_⟩);have hf:H1 a.heap.objs.size=none:=c.hok.fresh (ay _);refine⟨.ref a.heap.objs.size,upd H1 a.heap.objs.size (.tup xs),c.laid (t':=a.toks) (fun b u e=>ag _ e) (ay _) ?_,rfl,q _ hf⟩;exact⟨z,us,r,⟨_,az _ rfl,rfl,_,rfl⟩⟩
theorem pe_lst(h:PA X es t):PE X (.List es pos) (tLst t):=by
 intro pins s σ H Q I hq;refine wpAny_List_spliced (thn (h pos pins s σ H _ I hq) fun us a ⟨xs,H1,c,r,z,q⟩=>⟨by rw[<-r.length];exact z,?_⟩);have hf:H1 a.heap.objs.size=none:=c.hok.fresh (ay _);refine⟨.ref a.heap.objs.size,upd H1 a.heap.objs.size (.lst xs),c.laid (t':=a.toks) (fun b u e=>ag _ e) (ay _) ?_,rfl,q _ hf⟩;exact⟨z,us,0,r,az _ rfl⟩
end
noncomputable abbrev Sp:=List V->Hp->VK->XK->Prop
noncomputable abbrev CXT:=List Env->Hp->Shared->XK->Value->Shared->Prop
structure Env0(P:Program)(w:World)(K:ah)(mg:Str->Option Value)(base:Heap)(A:Around)(outer:List Env)(s:Shared)(H:Hp):Prop where
 frames:A.frames=some outer
 mod:Mod K mg base
 bs:∀b o,base.get? b=some o->s.heap.get? b=some o/\H b=none
 bsz:base.objs.size<=s.heap.objs.size
 zw:s.heap.FunFrames base outer
 frf:∀b∈frs outer,H b=none
 hok:HOk P w H s.heap
 bare:oS s.gens
def CE(outer:List Env)(P:Program)(w:World)(H:Hp)(s:Shared)(Q:VK)(u:Value)(s':Shared):Prop:=
 ∃v H',s'.os=s.os/\oS s'.gens/\Un (frs outer) [] H H' s.heap s'.heap/\HOk P w H' s'.heap/\RelV v u/\Q v H'
def CR(CX:CXT)(outer:List Env)(P:Program)(w:World)(H:Hp)(s:Shared)(Q:VK)(E:XK)(r:Result)(s':Shared):Prop:=
 match r with
 |.ok (.ret u)=>CE outer P w H s Q u s'
 |.ok _=>False
 |.error e=>CX outer H s E e s'
structure jV(P:Program)(w:World)(K:ah)(mg:Str->Option Value)(base:Heap)(CX:CXT)(k:Nat)(f:Addr)(fd:gK)(ps:List Str)(sp:Sp):Prop where
 len:∀vs H Q E,sp vs H Q E->vs.length=ps.length
 run:∀(A:Around)(outer:List Env)(s:Shared)(H:Hp)(args:Args)(us:List Value)(vs:List V)(Q:VK)(E:XK),j6 k A->Env0 P w K mg base A outer s H->BindsTo s fd args (ps.zip us)->bE vs us->sp vs H Q E->
  i4 (model P w) A (.call (.ref f) args) (CR CX outer P w H s Q E) s
section
variable {X:Cx}{pins:List (Addr×Obj)}{σ:St}{H:Hp}{s s':Shared}
theorem Inv.env0(I:Inv X pins σ H s):Env0 X.prog X.w X.K X.mg X.base X.A X.stack s H:=
 ⟨I.ok.frames,I.ok.mod,I.bs,aG I.ok.bsz I.sz,I.stack,I.yA,I.hok,I.bare⟩
theorem Inv.after{Q:VK}(I:Inv X pins σ H s)(h:CE X.stack X.prog X.w H s Q u s'):EP X pins σ Q u s':=by
 obtain⟨v,H',os,a,un,e,r,q⟩:=h;obtain⟨c,g,d,t,f⟩:=s';obtain rfl:f=s.os:=os;exact⟨v,H',I.call (h':=c) (g':=g) (d':=d) (t':=t) (ch:=[]) un e a (fun b z=>absurd z (by simp)),r,q⟩
end
noncomputable def Ah(sp:Sp)(dvs:List V)(E:XK)(t:TA):TE:=fun σ H Q=>t σ H fun vs H1=>sp (vs++dvs) H1 Q E
noncomputable def tMeth(C:Addr)(m:Str)(sp:Sp)(dvs:List V)(E:XK)(ta:TE)(t:TA):TE:=fun σ H Q=>ta σ H fun x H1=>∃a dx fs,x=.ref a/\H1 a=some (.ins C dx fs)/\fs.lookup m=none/\
 t σ H1 fun vs H2=>sp (x::(vs++dvs)) H2 Q E
noncomputable def tMake(C:Addr)(sp:Sp)(dvs:List V)(E:XK)(t:TA):TE:=fun σ H Q=>t σ H fun vs H1=>∀x dx,H1 x=none->H1 dx=none->dx≠x->
 sp (.ref x::(vs++dvs)) (upd (upd H1 dx (.own x)) x (.ins C dx [])) (fun v H2=>v=.non/\Q (.ref x) H2) E
def Binds(K:ah)(fd:gK)(ps:List Str)(ds:List Value):Prop:=
 ∀(s:Shared)(us:List Value),K.In s.heap->(us++ds).length=ps.length->BindsTo s fd ⟨us,[]⟩ (ps.zip (us++ds))
theorem Binds.all{fd:gK}{ps:List Str}(h:∀us:List Value,us.length=ps.length->qe fd ⟨us,[]⟩=pure (ps.zip us)):Binds K fd ps []:=fun s us _ a=>by
 rw[cV]at a⊢;exact .of_eq (h us a)
section
variable {X:Cx}{CX:CXT}{k:Nat}{f C:Addr}{fd:gK}{ps:List Str}{sp:Sp}{dvs:List V}{ds:List Value}{E:XK}{x m:Str}{p pos apos:Pos}{e o:Expr}{es:List Expr}{ta:TE}{t:TA}
structure Mk(K:ah)(C f:Addr):Prop where
 makes:PySem.W.makesIn K C=true
 init:kb K (.ref C) "__init__"=some (some (.ref f))
 fn:PySem.W.isFn K (.ref f)=true
 kp:cS K (.ref C)=true
end
structure uC(N P:List Str)(sc:Scope):Prop where
 kind:sc.kind=.function
 co:sc.isCoroutine=false
 gen:sc.isGenerator=false
 nd:N.Nodup
 pre:N.take P.length=P
 par:∀x∈P,sc.names.lookup x=some .local\/sc.names.lookup x=some .cell
 nofree:∀y∈sc.names,y.2≠.free
theorem yg{b:Str->Option dS}:∀{binds:List (Str×Value)}{m:Str->Option Value},(∀v,(x,v)∉binds)->bindL b binds m x=m x
 | [],_,_=>rfl
 | (n,v)::r,m,h=>by
  unfold bindL;rw[yg fun w a=>h w (aO _ a)];split
  ·have :x≠n:=by rintro rfl;exact h v aL
   simp[this]
  ·rfl
theorem yi{b:Str->Option dS}:∀{binds:List (Str×Value)}{m:Str->Option Value},(∀v,(x,v)∉binds)->bindC b binds m x=m x
 | [],_,_=>rfl
 | (n,v)::r,m,h=>by
  unfold bindC;rw[yi fun w a=>h w (aO _ a)];split
  ·rfl
  ·have :x≠n:=by rintro rfl;exact h v aL
   simp[this]
theorem yh{a:Str->Option dS}{v:Value}:∀{P:List Str}{vs:List Value}{i:Nat}{m:Str->Option Value},P.Nodup->P[i]? =some x->vs[i]? =some v->a x=some .local->
  bindL a (P.zip vs) m x=some v
 | [],_,_,_,_,h,_,_=>by simp at h
 |_::_,[],_,_,_,_,h,_=>by simp at h
 |p::P,w::vs,0,m,nd,h1,h2,hk=>by
  simp at h1 h2;subst h1;subst h2;show bindL a ((p,w)::P.zip vs) m p=_;unfold bindL;rw[yg fun v b=>(bI.mp nd).1 (yo b).1,if_pos hk];simp
 |p::P,w::vs,i+1,m,nd,h1,h2,hk=>by
  show bindL a ((p,w)::P.zip vs) m x=_;unfold bindL;exact yh (i:=i) (bI.mp nd).2 (by simpa using h1) (by simpa using h2) hk
theorem yj{a:Str->Option dS}{v:Value}:∀{P:List Str}{vs:List Value}{i:Nat}{m:Str->Option Value},P.Nodup->P[i]? =some x->vs[i]? =some v->a x≠some .local->
  bindC a (P.zip vs) m x=some v
 | [],_,_,_,_,h,_,_=>by simp at h
 |_::_,[],_,_,_,_,h,_=>by simp at h
 |p::P,w::vs,0,m,nd,h1,h2,hk=>by
  simp at h1 h2;subst h1;subst h2;show bindC a ((p,w)::P.zip vs) m p=_;unfold bindC;rw[yi fun v b=>(bI.mp nd).1 (yo b).1,if_neg hk];simp
 |p::P,w::vs,i+1,m,nd,h1,h2,hk=>by
  show bindC a ((p,w)::P.zip vs) m x=_;unfold bindC;exact yj (i:=i) (bI.mp nd).2 (by simpa using h1) (by simpa using h2) hk
noncomputable def start(N:List Str)(vs:List V):St:=vs.map some++bp (N.length-vs.length) none
noncomputable def zC(CX:CXT)(P:Program)(w:World)(K:ah)(mg:Str->Option Value)(base:Heap)(N:List Str)(qual:Str)(scope:Scope)(f:Addr)(cd:Value)(A:Around)(outer:List Env)(s:Shared)(H:Hp)(E:XK):Cx where
 prog:=P
 w:=w
 K:=K
 mg:=mg
 base:=base
 A:=A.deeper (envOfC qual scope s.heap.objs.size f cd)
 N:=N
 s₀:=s
 H₀:=H
 env:=envOfC qual scope s.heap.objs.size f cd
 outer:=outer
 stack:=envOfC qual scope s.heap.objs.size f cd::outer
 ex:=[]
 calm:=true
 fn:=fun _=>true
 pn:=[]
 xe:=fun e s'=>wpAny (model P w) (A.deeper (envOfC qual scope s.heap.objs.size f cd)) (leaving (envOfC qual scope s.heap.objs.size f cd) e) (fun _ a=>CX outer H s E e a) (fun b a=>CX outer H s E b a) s'
theorem Be(h:sc.names.lookup x=some .cell):∃c,(cE n sc.names []).lookup x=some c:=by
 have q:=BH sc.names n [] (.inl h);exact eR.mp q
theorem FW{CX:CXT}{ps:List Str}{cd:Value}{outer:List Env}{o:Shared}{H:Hp}{E:XK}{vs:List V}
  (S:uC N ps scope)(B:A.handled=none)(d:Env0 P w K mg base A outer s H)(F:vs.length=ps.length)(r:bE vs us)
  (x:InCallC s s.heap.objs.size (bindL (envOfC qual scope s.heap.objs.size f cd).kindOf (ps.zip us) fun _=>none) (cE (s.heap.objs.size+1) scope.names []) (bindC (envOfC qual scope s.heap.objs.size f cd).kindOf (ps.zip us) fun _=>none) o):
  Inv (zC CX P w K mg base N qual scope f cd A outer s H E) [] (start N vs) H o:=by
 have G:ps.length<=N.length:=by have :=congrArg mr S.pre;rw[bN]at this;lia
 obtain⟨h1,tk,rfl,j⟩:=x.done;have g:∀b:Addr,b∉(zC CX P w K mg base N qual scope f cd A outer s H E).ex:=fun b z=>absurd (show b∈([]:List Addr)from z) (by simp);refine⟨⟨d.mod,S.kind,rfl,rfl,ay _,fun y z c h1 h2=>?_,fun y hy=>?_,fun y c _ h=>?_,fun _=>B,Around.frames_deeper d.frames,.inr ⟨rfl,rfl⟩,fun b z=>absurd z (g b),d.bs,d.bsz,fun b _ _=>g b,fun b z=>absurd z (g b),d.zw,d.frf⟩,
  rfl,d.bare,Un.kept j,⟨_,x.toInCall.ns,fun i y v h1 h2 D=>?_⟩,fun y c h=>⟨_,x.cell y c h⟩,d.hok.fresh (ay _),fun y c h=>?_,fun p hp=>absurd (show p∈([]:List (Addr×Obj))from hp) (by simp),d.hok.kept j,?_⟩
 ·exact name_of_addr x.apart (bu h1) (bu h2)
 ·have hy:scope.names.lookup y=some .cell\/scope.names.lookup y=some .free:=hy
  rcases hy with hy|hy
  ·exact Be hy
  ·exact absurd rfl (S.nofree _ (bu hy))
 ·exact kM (x.above y c (bu h))
 ·have hi:i<vs.length:=by
   unfold start at h2;by_cases hi:i<vs.length
   ·exact hi
   ·rw[bV (by simpa using hi)]at h2
    rw[List.getElem?_replicate]at h2;split at h2<;>cases h2
  have t:vs[i]? =some v:=by
   unfold start at h2;rw[cH (by simpa using hi),av]at h2;cases e:vs[i]? with
   |none=>rw[e]at h2;cases h2
   |some a=>rw[e]at h2;cases h2;rfl
  obtain⟨u,l,C⟩:=r.get t;have hp:ps[i]? =some y:=by
   rw[<-S.pre,BV (by lia)];exact h1
  have m:ps.Nodup:=by rw[<-S.pre];exact S.nd.sublist (uG _ _)
  refine⟨u,C,?_⟩;rcases S.par y (aC hp)with k|k
  ·exact .inl ⟨k,yh m hp l k⟩
  ·obtain⟨c,e⟩:=Be (n:=s.heap.objs.size+1) k
   refine .inr ⟨.inl k,c,e,?_⟩;have q:=x.cell y c e;rw[yj m hp l (by show scope.names.lookup y≠_;rw[k];decide)]at q;exact q
 ·exact d.hok.fresh (kM (x.above y c (bu h)))
 ·unfold start
  show _=N.length;rw[aN,ai,jr];lia
theorem fn_of{CX:CXT}{name:Str}{params:Arguments}{h:List Stmt}{kV:Value}{an:Option Addr}
  {ps:List Str}{sp:Sp}(U:K.lookup f=some ⟨oc,od,.func (aF name qual params h scope dV kV doc pm an cdv ct),osl⟩)(F:fg K cdv qual=true)(S:uC N ps scope)
  (len:∀vs H Q E,sp vs H Q E->vs.length=ps.length)
  (D:∀(A:Around)(c:List Env)(s:Shared)(H:Hp)(vs:List V)(Q:VK)(E:XK),j6 k (A.deeper (envOfC qual scope s.heap.objs.size f cdv))->sp vs H Q E->
   ∃t,PSs (zC CX P w K mg base N qual scope f cdv A c s H E) h t/\t {nx:=fun _ H'=>Q .non H',rt:=Q} (start N vs) H):
  jV P w K mg base CX (k+1) f (aF name qual params h scope dV kV doc pm an cdv ct) ps sp:=by
 refine⟨len,fun A c s H args us vs Q E i d C r p=>?_⟩;have M:=len _ _ _ _ p;have l:K.In s.heap:=d.mod.kin.keeps fun b o e=>(d.bs b o e).1;have T:s.heap.NoLimit:=d.mod.nolimit.keeps fun b o e=>(d.bs b o e).1;have L:∀y∈ps.zip us,scope.names.lookup y.1=some .local\/(scope.names.lookup y.1=some .cell/\((cE (s.heap.objs.size+1) scope.names []).lookup y.1).isSome=true):=fun⟨n,v⟩ R=>by
  rcases S.par n (yo R).1 with q|q
  ·exact .inl q
  ·exact .inr ⟨q,BH _ _ _ (.inl q)⟩
 refine codeAny_call_function i.depth (l _ _ U) rfl S.co S.gen rfl (PySem.W.codeRec_of l F) (C _ _ _ _ ?_);refine wpAny_newFunctionEnv_cells S.kind L fun W G z x=>?_;subst G;refine⟨T.keeps x.toInCall.keep,codeAny_func ?_⟩;obtain⟨t,O,hq⟩:=D A c s H vs Q E (i.deeper _) p;have I:Inv (zC CX P w K mg base N qual scope f cdv A c s H E) [] (start N vs) H z:=FW S i.hd d M r x;refine gy (O [] z (start N vs) H _ I hq) (fun B s' a=>?_) fun e s' a=>a;have m:∀{g:St}{H':Hp}{v:V}{u:Value},Inv (zC CX P w K mg base N qual scope f cdv A c s H E) [] g H' s'->RelV v u->Q v H'->CE c P w H s Q u s':=
  fun{g H' v u} J j q=>⟨v,H',J.os,J.bare,J.base,J.hok,j,q⟩
 cases B with
 |ret u=>
  obtain⟨v,g,H',J,j,q⟩:=a;exact m J j q
 |next =>
  obtain⟨g,H',J,q⟩:=a;exact m (v:=V.non) (u:=bF) J rfl q
 |brk=>
  obtain⟨_,_,_,q⟩:=a;exact kN q
 |cont=>
  obtain⟨_,_,_,q⟩:=a;exact kN q
section
variable {X:Cx}{x:Str}{p pos:Pos}{e:Expr}{es:List Expr}{t:TA}{id T:String}{r:List V->Hp->VK->Prop}
noncomputable def tCB(r:List V->Hp->VK->Prop)(t:TA):TE:=fun σ H Q=>t σ H fun vs H1=>r vs H1 Q
theorem HY(c:fB X (.builtin id) r)(g:Gl X x)(i:X.mg x=none)(l:eM x=some (.builtin id))(b:PA X (e::es) t)(j:x≠"__name__":=by decide) (d:(x==("__debug__":Str))=false:=by decide)
  (f:b7 (e::es) X.env=(false,eval e X.env)::b7 es X.env:=by rfl) (k:(backTo pos (b7 es X.env)).any (·.1)=false:=by rfl):PE X (.Call (.Name x p) (e::es) [] pos) (tCB r t):=by
 intro pins s σ H Q I h;refine jh (jM I g i l ?_ j d);exact qh (thn (b pos pins s σ H _ I h) fun us o ⟨vs,H1,a,n,m⟩=>c pins o σ H1 vs us Q a n m) f k
theorem Fs(c:fB X (.type T) r)(g:Gl X x)(i:X.mg x=none)(l:eM x=some (.type T))(b:PA X (e::es) t)(j:x≠"__name__":=by decide) (d:(x==("__debug__":Str))=false:=by decide)
  (f:b7 (e::es) X.env=(false,eval e X.env)::b7 es X.env:=by rfl) (k:(backTo pos (b7 es X.env)).any (·.1)=false:=by rfl):PE X (.Call (.Name x p) (e::es) [] pos) (tCB r t):=by
 intro pins s σ H Q I h;refine jh (jM I g i l ?_ j d);exact cJ (thn (b pos pins s σ H _ I h) fun us o ⟨vs,H1,a,n,m⟩=>c pins o σ H1 vs us Q a n m) f k
end
end L2
variable {X:L2.Cx}{H H' H1:L2.Hp}{σ:L2.St}{y:L2.V}{cs xs ys zs:List L2.V}
namespace HT
open PySem PyProof.Rows
section
open PySem.SeqAt
open PySem.AutoSeq1 (wpAny_loadPart')
open PySem.MeetsSeq PySem.MeetsSeq2 PySem.MeetsSeq3
end
section
variable {prog:Program}{w:World}{A:Around}{E:Value->Shared->Prop}{s:Shared}
theorem uA{t:Addr}{Q:Value->Shared->Prop}(q:IsTup s.heap t vs.toArray)(o:IsTup s.heap b ws.toArray)(k:vs≠[])
  (h1:ws=[]->Q (.ref t) s)(h2:ws≠[]->Q (.ref s.heap.objs.size) {s with heap:=s.heap.push {cls:=.type "tuple",data:=.seq (vs++ws).toArray}})
  (p:vs.length+ws.length<=sizeLine):wpAny (model prog w) A (d7 .Add (.ref t) (.ref b)) Q E s:=by
 obtain⟨⟨cls,d,data,sl⟩,a,g,n,i⟩:=id q;obtain⟨⟨r,f,u,m⟩,c,h,l,j⟩:=id o;simp only at g i h j;subst g i h j;have e:vs.toArray++ws.toArray=(vs++ws).toArray:=by simp
 by_cases hw:ws=[]
 ·exact concat_meets ⟨_,a,rfl⟩ ⟨_,c,rfl⟩ BF J1 mQ mq (lQ _ _)
   (tuple_addW1 t b vs.toArray ws.toArray n l d f sl m (by simpa using k) (by simp[hw])) ⟨a,c,h1 hw⟩
 ·refine concat_meets ⟨_,a,rfl⟩ ⟨_,c,rfl⟩ BF J1 mQ mq (lQ _ _)
   (tuple_addW2 t b vs.toArray ws.toArray n l d f sl m (by simpa using k) (by simpa using hw) (by rw[au,au];exact p)) ⟨a,c,?_⟩
  rw[e];exact h2 hw
noncomputable def sIx(n d:Nat):Option Int->Nat
 |none=>d
 |some v=>if v<0 then(v+(n:Int)).toNat else min v.toNat n
theorem mX(n d:Nat):sIx n d none=d:=rfl
theorem jw(n d k:Nat):sIx n d (some (k:Int))=min k n:=by
 show(if(k:Int)<0 then((k:Int)+(n:Int)).toNat else min (k:Int).toNat n)=min k n;rw[if_neg (by lia),aJ]
theorem Cc(n d:Nat)(a:d<=n)(o:Option Int):sIx n d o<=n:=by
 cases o with
 |none=>exact a
 |some v=>
  show(if v<0 then(v+(n:Int)).toNat else min v.toNat n)<=n;by_cases hv:v<0
  ·rw[if_pos hv];lia
  ·rw[if_neg hv];exact Nat.min_le_right _ _
theorem zD(v:Int)(n d:Nat):(if v<0 then max (v+(n:Int)) 0 else min v (n:Int))=((sIx n d (some v):Nat):Int):=by
 show(if v<0 then max (v+(n:Int)) 0 else min v (n:Int))=(((if v<0 then(v+(n:Int)).toNat else min v.toNat n):Nat):Int);by_cases hv:v<0
 ·simp only[if_pos hv];lia
 ·simp only[if_neg hv];lia
theorem De(lo hi:Option Int)(n:Nat):jE lo hi 1 (n:Int)=(((sIx n 0 lo:Nat):Int),((sIx n n hi:Nat):Int)):=by
 have h1:¬((1:Int)<0):=by lia
 unfold jE;simp only[h1,if_false];refine Prod.ext ?_ ?_
 ·cases lo with
  |none=>rfl
  |some v=>exact zD v n 0
 ·cases hi with
  |none=>rfl
  |some v=>exact zD v n n
theorem Ck(i j:Nat):fT (i:Int) (j:Int) 1=j-i:=by
 unfold fT;have h1:(1:Int)>0:=by lia
 simp only[h1,if_true,Int.ediv_one];split <;>lia
theorem uY{v:Value}{o:Option Int}{Q:Option Int->Shared->Prop}(p:IsPart v o)(h:Q o s):wpAny (model prog w) A (Builtin.Slice.slicePartIndex v) Q E s:=by
 cases p with
 |none=>exact slicePart_none h
 |int i t=>exact slicePart_int h
theorem r9{lo hi:Option Int}{Q:Int×Int×Nat->Shared->Prop}(c:s.heap.IsSliceOf sl vl vu .none)(pl:IsPart vl lo)(d:IsPart vu hi)
  (h:Q (((sIx n 0 lo:Nat):Int),1,sIx n n hi-sIx n 0 lo) s):wpAny (model prog w) A (sQ (.ref sl) (pure (n:Int))) Q E s:=by
 obtain⟨os,b,e,a⟩:=id c;unfold sQ Builtin.Slice.sliceFields;refine af (af (eN b a (x:=vl) rfl (af (eN b a (x:=vu) rfl (af (eN b a (x:=.none) rfl (aj ?_)))))));refine af (slicePart_none ?_);show wpAny _ _ (if((1:Int)==0)=true then _ else _) _ _ s;rw[if_neg (by decide)];refine af (uY pl (af (uY d (af (aj ?_)))));show wpAny _ _ (match jE lo hi 1 (n:Int)with | (lo,hi)=>pure (lo,(1:Int),fT lo hi 1)) _ _ s;rw[De lo hi n];show wpAny _ _ (pure (((sIx n 0 lo:Nat):Int),(1:Int),fT ((sIx n 0 lo:Nat):Int) ((sIx n n hi:Nat):Int) 1)) _ _ s;rw[Ck];exact aj h
theorem HL(xs:Array Value)(i k:Nat):((aA k).filterMap fun(m:Nat)=>xs[((i:Int)+(m:Int)*1).toNat]?).toArray=((xs.toList.drop i).take k).toArray:=by
 have e:(fun(m:Nat)=>xs[((i:Int)+(m:Int)*1).toNat]?)=fun m=>xs[i+m]? :=by
  funext m
  have :((i:Int)+(m:Int)*1).toNat=i+m:=by lia
  rw[this]
 rw[e];have :=pick_run xs i k;rw[List.filterMap_map]at this;have a:((fun x=>xs[x]?)∘fun x=>i+x)=fun m=>xs[i+m]? :=rfl;rw[a]at this;rw[this]
theorem qM{t:Addr}{lo hi:Option Int}{Q:Value->Shared->Prop}(a:IsTup s.heap t items)(c:s.heap.IsSliceOf sl vl vu .none)(pl:IsPart vl lo)(j:IsPart vu hi)
  (i:¬(sIx items.size 0 lo=0/\sIx items.size items.size hi=items.size))
  (h:Q (.ref s.heap.objs.size) {s with heap:=s.heap.push {cls:=.type "tuple",data:=.seq ((items.toList.drop (sIx items.size 0 lo)).take (sIx items.size items.size hi-sIx items.size 0 lo)).toArray}})
  (n:items.size<=sizeLine):wpAny (model prog w) A (getItem (.ref t) (.ref sl)) Q E s:=by
 have b:sizeOk (.seq ((items.toList.drop (sIx items.size 0 lo)).take (sIx items.size items.size hi-sIx items.size 0 lo)).toArray):=by
  show((items.toList.drop (sIx items.size 0 lo)).take (sIx items.size items.size hi-sIx items.size 0 lo)).toArray.size<=sizeLine;rw[au,bN,cN,bZ];lia
 have l:sIx items.size items.size hi<=items.size:=Cc _ _ (ay _) hi;obtain⟨os,g,e,k⟩:=id c;have d:s.TypeIs (.ref sl) "slice":=⟨os,g,e⟩;unfold getItem;try with_reducible refine bU ?_
 first |refine af (aj ?_) |skip
 refine af (wpAny_sequenceKey a.typeIs (by decide) ?_);refine af (dk (name:=bT "__getitem__") a.typeIs iy
  (cD iy a.typeIs entry_tuple_getitem ?_ (args_tuple_getitem _ _)))
 show wpAny _ _ (Builtin.Tuple.tupleItemsOf (.ref t)>>=_) _ _ s;refine af (JY a ?_);refine af (rH d ?_);rw[if_pos (by decide)];refine af (r9 c pl j ?_);have f:¬((((sIx items.size 0 lo:Nat):Int)==0&&(1:Int)==1&&(sIx items.size items.size hi-sIx items.size 0 lo)==items.size)=true):=by
  intro q;rw[aH,aH]at q;have o:((sIx items.size 0 lo:Nat):Int)=0:=eq_of_beq q.1.1;have p:sIx items.size items.size hi-sIx items.size 0 lo=items.size:=eq_of_beq q.2;exact i ⟨by lia,by lia⟩
 show wpAny _ _ (if(((sIx items.size 0 lo:Nat):Int)==0&&(1:Int)==1&&(sIx items.size items.size hi-sIx items.size 0 lo)==items.size)=true then _ else _) _ _ s;rw[if_neg f,HL]
 first
  |exact af (m:=gC _) (bw (aj ⟨_,rfl,aj h⟩) b)
  |exact af (m:=gC _) (bw (af (aj (aj ⟨_,rfl,aj h⟩))) b)
  |exact af (af (m:=gC _) (bw (aj (aj ⟨_,rfl,aj h⟩)) b))
  |exact af (af (m:=gC _) (bw (aj ⟨_,rfl,aj h⟩) b))
end
end HT
namespace L2
open PySem PySem.Spec PyProof.Rows
noncomputable abbrev TO:=St->Hp->(Option Int->Hp->Prop)->Prop
def PO(X:Cx)(e:Option Expr)(t:TO):Prop:=
 ∀(pins:List (Addr×Obj))(s:Shared)(σ:St)(H:Hp)(Q:Option Int->Hp->Prop),Inv X pins σ H s->t σ H Q->
  wpAny (model X.prog X.w) X.A (evalPart e X.env) (fun u s'=>∃o H',Inv X pins σ H' s'/\IsPart u o/\Q o H') X.xe s
noncomputable def oq:TO:=fun _ H Q=>Q none H
noncomputable def xo(t:TE):TO:=fun σ H Q=>t σ H fun x H1=>∃i,x=.int i/\Q (some i) H1
theorem intsAre_of:∀{us:List Value},bE (ns.map V.int) us->bY us ns:=by
 induction ns with
 |nil=>intro us r;rw[i7]at r;cases r;exact .nil
 |cons n ns ih=>
  intro us r;rw[cn]at r;cases r with
  |cons r1 r2=>
   obtain⟨t,e⟩:=r1;subst e;exact .cons n t (ih r2)
section
variable {X:Cx}{e:Expr}{te:TE}{lo hi:Option Expr}{tl th:TO}{pos p2:Pos}
theorem po_none:PO X none oq:=by
 intro pins s σ H Q I h;rw[evalPart_none];exact aj ⟨none,H,I,.none,h⟩
theorem po_some(h:PE X e te):PO X (some e) (xo te):=by
 intro pins s σ H Q I b;rw[evalPart_some];refine thn (h pins s σ H _ I b) fun u f ⟨x,H1,a,d,c⟩=>?_;obtain⟨i,rfl,q⟩:=c;obtain⟨t,rfl⟩:=d;exact⟨some i,H1,a,.int i t,q⟩
def SlR(X:Cx)(r:V->Option Int->Option Int->Hp->VK->Prop):Prop:=
 ∀(pins:List (Addr×Obj))(s:Shared)(σ:St)(H:Hp)(x:V)(v vl vu:Value)(lo hi:Option Int)(sl:Addr)(Q:VK),Inv X pins σ H s->RelV x v->s.heap.IsSliceOf sl vl vu .none->IsPart vl lo->IsPart vu hi->r x lo hi H Q->
  ∃T id,typeLookup (.type T) "__getitem__"=pure (some (.builtin id))/\s.TypeIs v T/\wpAny (model X.prog X.w) X.A (getItem v (.ref sl)) (EP X pins σ Q) X.xe s
theorem SlR.or{r c:V->Option Int->Option Int->Hp->VK->Prop}(h:SlR X r)(h':SlR X c):SlR X (fun x lo hi H Q=>r x lo hi H Q\/c x lo hi H Q):=by
 intro pins s σ H x v vl vu lo hi sl Q I d a pl b q;rcases q with q|q
 ·exact h pins s σ H x v vl vu lo hi sl Q I d a pl b q
 ·exact h' pins s σ H x v vl vu lo hi sl Q I d a pl b q
noncomputable def tSl(r:V->Option Int->Option Int->Hp->VK->Prop)(te:TE)(tl th:TO):TE:=fun σ H Q=>te σ H fun x H1=>tl σ H1 fun l H2=>th σ H2 fun u a=>r x l u a Q
theorem HQ{r:V->Option Int->Option Int->Hp->VK->Prop}(n:SlR X r)(j:PE X e te)(m:PO X lo tl)(p:PO X hi th):PE X (.Subscript e (.Slice lo hi none p2) pos) (tSl r te tl th):=by
 intro pins s σ H Q I h;refine Subscript_ (thn (j pins s σ H _ I h) fun v B ⟨x,H1,c,A,w⟩=>?_);refine wpAny_Slice (thn (m pins B σ H1 _ c w) fun vl s2 ⟨l,H2,d,pl,y⟩=>thn (p pins s2 σ H2 _ d y) fun vu s3 ⟨u,a,f,t,z⟩=>?_);rw[evalPart_none];refine aj ?_;have g:Inv X pins σ a {s3 with heap:=s3.heap.push {cls:=.type "slice",data:=.fields #[vl,vu,.none]}}:=f.kept (t':=s3.toks) fun b C q=>ag _ q;obtain⟨T,id,i,o,k⟩:=n pins {s3 with heap:=s3.heap.push {cls:=.type "slice",data:=.fields #[vl,vu,.none]}} σ a x v vl vu l u s3.heap.objs.size Q g A (Heap.IsSliceOf.new ..) pl t z;show wpAny (model X.prog X.w) X.A (J0 e (.Slice lo hi none p2) v (.ref s3.heap.objs.size)) (EP X pins σ Q) X.xe {s3 with heap:=s3.heap.push {cls:=.type "slice",data:=.fields #[vl,vu,.none]}};exact tail_any (ops:=[.ref s3.heap.objs.size,v]) o i k (by with_unfolding_all rfl)
noncomputable def lq(xs:List V)(lo hi:Option Int):List V:=(xs.drop (HT.sIx xs.length 0 lo)).take (HT.sIx xs.length xs.length hi-HT.sIx xs.length 0 lo)
theorem tj(xs:List V)(lo hi:Option Int):(lq xs lo hi).length<=xs.length:=by
 unfold lq;rw[bN,cN];lia
noncomputable def rSlT(K:ah):V->Option Int->Option Int->Hp->VK->Prop:=fun x lo hi H Q=>∃a xs,x=.ref a/\SqT K H a xs/\
 ¬(HT.sIx xs.length 0 lo=0/\HT.sIx xs.length xs.length hi=xs.length)/\∀p,H p=none->Q (.ref p) (upd H p (.tup (lq xs lo hi)))
theorem sl_tup:SlR X (rSlT X.K):=by
 intro pins s σ H x v vl vu lo hi sl Q I k f pl j h;obtain⟨a,xs,rfl,i,g,q⟩:=h;cases k;obtain⟨its,r,d,e⟩:=I.tuple i;have c:its.toArray.size=xs.length:=by rw[au];exact r.length.symm
 refine⟨"tuple",_,iy.lookup,d.typeIs,?_⟩;refine HT.qM d f pl j (by rw[c];exact g) ?_ (by rw[c];exact e);rw[c];refine⟨.ref s.heap.objs.size,_,I.laid (t':=s.toks) (o:=.tup (lq xs lo hi)) (fun b l q=>ag _ q) (ay _) ?_,rfl,q _ (I.hok.fresh (ay _))⟩;exact⟨aG (tj xs lo hi) e,_,(r.drop (HT.sIx xs.length 0 lo)).take (HT.sIx xs.length xs.length hi-HT.sIx xs.length 0 lo),IsTup.new _ _⟩
noncomputable def DK(K:ah):R2:=fun x y H Q=>∃a b xs ys,x=.ref a/\y=.ref b/\SqT K H a xs/\SqT K H b ys/\xs≠[]/\xs.length+ys.length<=sizeLine/\
 (ys=[]->Q (.ref a) H)/\(ys≠[]->∀p,H p=none->Q (.ref p) (upd H p (.tup (xs++ys))))
theorem bE.zf(r:bE xs us):us=[]↔xs=[]:=by
 cases r with
 |nil=>simp
 |cons _ _=>simp
theorem op_catT:OpR X (d7 .Add) (DK X.K):=by
 intro pins s σ H x y v u Q I l m h;obtain⟨a,b,xs,ys,rfl,rfl,f,g,i,e,j,k⟩:=h;cases l;cases m;obtain⟨its,d,p1,_⟩:=I.tuple f;obtain⟨n,c,p2,_⟩:=I.tuple g;refine HT.uA p1 p2 (fun z=>i (d.zf.mp z)) (fun z=>⟨.ref a,H,I,rfl,j (c.zf.mp z)⟩) (fun z=>?_) (by rw[<-d.length,<-c.length];exact e);refine⟨.ref s.heap.objs.size,_,I.laid (t':=s.toks) (o:=.tup (xs++ys)) (fun b p q=>ag _ q) (ay _) ?_,rfl,k (fun w=>z (c.zf.mpr w)) _ (I.hok.fresh (ay _))⟩;exact⟨by rw[aN];exact e,_,d.append c,IsTup.new _ _⟩
end
noncomputable def ixN(n:Nat)(i:Int):Option Nat:=if 0<=i then(if i<n then some i.toNat else none)else if -(n:Int)<=i then some (i+n).toNat else none
noncomputable def atI{α:Type}(xs:List α)(i:Int):Option α:=(ixN xs.length i).bind fun j=>xs[j]?
theorem Ea{i:Int}(h:ixN n i=some j):seqIndex? i n=some j/\j<n∧-(n:Int)<=i/\i<n:=by
 unfold ixN at h;by_cases h0:0<=i
 ·rw[if_pos h0]at h
  by_cases h1:i<n
  ·rw[if_pos h1]at h
   have e:i.toNat=j:=a6 h;exact⟨by rw[tY h0 h1,e],by lia,by lia,h1⟩
  ·rw[if_neg h1]at h;cases h
 ·rw[if_neg h0]at h
  by_cases h1: -(n:Int)<=i
  ·rw[if_pos h1]at h
   have e:(i+n).toNat=j:=a6 h;exact⟨by rw[seqIndex_neg (by lia) h1,e],by lia,h1,by lia⟩
  ·rw[if_neg h1]at h;cases h
theorem zL{α:Type}{xs:List α}{i:Int}{v:α}(h:atI xs i=some v):∃j,seqIndex? i xs.length=some j/\xs[j]? =some v/\j<xs.length∧-(xs.length:Int)<=i/\i<xs.length:=by
 unfold atI at h;cases e:ixN xs.length i with
 |none=>rw[e]at h;cases h
 |some j=>
  rw[e]at h;obtain⟨h1,h2,a,b⟩:=Ea e;exact⟨j,h1,h,h2,a,b⟩
theorem cf{α:Type}{xs:List α}{v:α}(h:xs[j]? =some v):atI xs (j:Int)=some v:=by
 have a:j<xs.length:=(aD.mp h).1;have e:ixN xs.length (j:Int)=some j:=by
  unfold ixN;rw[if_pos (by lia),if_pos (by lia)];simp
 unfold atI;rw[e];exact h
def EM(b:Expr):Prop:=∀o i,subscripted b false o i=operate [o,i] (getItem o i)
def IxR(X:Cx)(r:R2):Prop:=
 ∀(b a:Expr)(pins:List (Addr×Obj))(s:Shared)(σ:St)(H:Hp)(x y:V)(v u:Value)(Q:VK),Inv X pins σ H s->RelV x v->RelV y u->r x y H Q->
  subscripted a false v u=operate [v,u] (getItem v u)->wpAny (model X.prog X.w) X.A (J0 b a v u) (EP X pins σ Q) X.xe s
def MtR(X:Cx)(id:String)(r:V->List V->Hp->VK->Prop):Prop:=
 ∀(pins:List (Addr×Obj))(s:Shared)(σ:St)(H:Hp)(x:V)(xs:List V)(v:Value)(us:List Value)(Q:VK),Inv X pins σ H s->RelV x v->bE xs us->r x xs H Q->
  wpAny (model X.prog X.w) X.A (call (.builtin id) (v::us)) (EP X pins σ Q) X.xe s
section
variable {X:Cx}{a b:Expr}{ta tb:TE}{pos:Pos}
theorem IxR.or{r b:R2}(h:IxR X r)(h':IxR X b):IxR X (fun x y H Q=>r x y H Q\/b x y H Q):=by
 intro f e pins s σ H x y v u Q I c d q a;rcases q with q|q
 ·exact h f e pins s σ H x y v u Q I c d q a
 ·exact h' f e pins s σ H x y v u Q I c d q a
theorem MtR.or{id:String}{r a:V->List V->Hp->VK->Prop}(h:MtR X id r)(h':MtR X id a):MtR X id (fun x xs H Q=>r x xs H Q\/a x xs H Q):=by
 intro pins s σ H x xs v us Q I c b q;rcases q with q|q
 ·exact h pins s σ H x xs v us Q I c b q
 ·exact h' pins s σ H x xs v us Q I c b q
theorem pe_ix{r:R2}(f:IxR X r)(d:PE X a ta)(e:PE X b tb)(g:EM b):PE X (.Subscript a b pos) (tOp r ta tb):=by
 intro pins s σ H Q I h;exact Subscript_ (binT d e I h fun v u s2 x y H2 c i j q=>f a b pins s2 σ H2 x y v u Q c i j q (g _ _))
noncomputable def rIxL(K:ah):R2:=fun x y H Q=>∃p xs i v,x=.ref p/\y=.int i/\SqL K H p xs/\atI xs i=some v/\Q v H
noncomputable def rIxT(K:ah):R2:=fun x y H Q=>∃p xs i v,x=.ref p/\y=.int i/\SqT K H p xs/\atI xs i=some v/\Q v H
noncomputable def rIxS:R2:=fun x y H Q=>∃z i c,x=.str z/\y=.int i/\z.length<=sizeLine/\atI z.cps.toList i=some c/\Q (.str ⟨#[c]⟩) H
theorem ix_list:IxR X (rIxL X.K):=by
 intro D C pins s σ H x y v u Q I m n h d;obtain⟨p,xs,i,z,rfl,rfl,hq,g,q⟩:=h;cases m;obtain⟨t,rfl⟩:=n;obtain⟨its,r,pl,B⟩:=I.list hq;obtain⟨j,h1,h2,o,e,f⟩:=zL g;obtain⟨w,b,l⟩:=r.get h2;have k:=r.length;have A:=pS;have c:EP X pins σ Q w s:=⟨z,H,I,l,q⟩;by_cases h0:0<=i
 ·have a:i.toNat=j:=by
   rw[tY h0 f]at h1;exact a6 h1
  exact item_listR pl.isList h0 (by lia) (by rw[a];simpa using b) c d
 ·have a:(i+(its.toArray.size:Int)).toNat=j:=by
   rw[seqIndex_neg (by lia) e]at h1;rw[au,<-k];exact a6 h1
  exact rJ (x:=w) pl.isList.typeIs slot_list_getitem.lookup
   (wpAny_getItem_list_neg (Q:=fun r s'=>r=w/\EP X pins σ Q r s') pl.isList (by lia) (by rw[au]<;>lia) (by lia) (by rw[a];simpa using b) ⟨rfl,c⟩) d
theorem ix_tup:IxR X (rIxT X.K):=by
 intro C B pins s σ H x y v u Q I g k h e;obtain⟨p,xs,i,z,rfl,rfl,hq,c,q⟩:=h;cases g;obtain⟨t,rfl⟩:=k;obtain⟨its,r,pl,A⟩:=I.tuple hq;obtain⟨j,h1,h2,l,m,n⟩:=zL c;obtain⟨w,a,f⟩:=r.get h2;have d:=r.length;have o:=pS;have b:EP X pins σ Q w s:=⟨z,H,I,f,q⟩;exact rJ (x:=w) pl.typeIs slot_tuple_getitem.lookup
  (getItem_tuple (j:=j) (Q:=fun r s'=>r=w/\EP X pins σ Q r s') pl (by lia) (by lia) (by rw[au,<-d];exact h1) (by simpa using a) ⟨rfl,b⟩) e
theorem ix_str:IxR X rIxS:=by
 intro w r pins s σ H x y v u Q I l m h k;obtain⟨z,i,c,rfl,rfl,p,f,q⟩:=h;obtain⟨t,rfl⟩:=l;obtain⟨t',rfl⟩:=m;obtain⟨j,h1,h2,n,d,e⟩:=zL f;have g:z.cps.toList.length=z.length:=by simp[BG]
 rw[g]at h1 d e;have o:=pS;exact tail_any (typeIs_str s z t) slot_str_getitem.lookup (getItem_str (c:=c) (by
  have a:decide (i< -(2^63:Int))=false:=decide_eq_false (by lia);have b:decide (i≥ 2^63)=false:=decide_eq_false (by lia);rw[a,b,BY]) (by rw[h1];simpa using h2) ⟨.str ⟨#[c]⟩,H,I.tok _,⟨_,rfl⟩,q⟩) k
noncomputable def rIx(K:ah):R2:=fun x y H Q=>rIxL K x y H Q\/rIxT K x y H Q\/rIxS x y H Q
theorem ix_seq:IxR X (rIx X.K):=ix_list.or (ix_tup.or ix_str)
theorem CC(its:List Value)(n j:Nat)(u:Value):aV (·.setIfInBounds j u) {cls:=.type "list",data:=.seq its.toArray n}={cls:=.type "list",data:=.seq (its.set j u).toArray n}:=by
 simp[aV]
theorem Inv.lst{pins:List (Addr×Obj)}{σ:St}{H:Hp}{s:Shared}{p:Addr}{xs:List V}(I:Inv X pins σ H s)(h:H p=some (.lst xs)):
  ∃(its:List Value)(n:Nat),bE xs its/\s.heap.get? p=some {cls:=.type "list",data:=.seq its.toArray n}/\xs.length<=sizeLine:=by
 obtain⟨z,its,n,r,e⟩:=I.hok p _ h;exact⟨its,n,r,e,z⟩
theorem Inv.lstUpd{p:Addr}{a:Nat}{f:Obj->Obj}(I:Inv X pins σ H s)(h:H p=some (.lst xs))
  (d:s.heap.get? p=some {cls:=.type "list",data:=.seq its.toArray n}) (hf:f {cls:=.type "list",data:=.seq its.toArray n}={cls:=.type "list",data:=.seq its'.toArray a}) (r:bE ys its') (hz:ys.length<=sizeLine) (t:Nat):
  Inv X pins σ (upd H p (.lst ys)) {s with heap:=s.heap.update p f,toks:=t}:=by
 have e:(s.heap.update p f).get? p=some {cls:=.type "list",data:=.seq its'.toArray a}:=by
  rw[cw f d (by rw[hf]<;>rfl),hf]
 refine I.write (x:=p) (e:=p) (by rw[h];trivial) (.inl rfl) (fun b u c q=>(aX _ _ (bS c)).trans q) ⟨_,e⟩ ?_;exact⟨hz,its',a,r,e⟩
noncomputable def rSetL:V->V->V->Hp->(Hp->Prop)->Prop:=fun o i v H Q=>∃p xs k j,o=.ref p/\i=.int k/\H p=some (.lst xs)/\ixN xs.length k=some j/\Q (upd H p (.lst (xs.set j v)))
theorem set_list:PSet X rSetL:=by
 intro pins s σ H o i v A z u Q I w m x h;obtain⟨p,xs,k,j,rfl,rfl,hp,g,q⟩:=h;cases w;obtain⟨t,rfl⟩:=m;obtain⟨its,n,r,c,l⟩:=I.lst hp;obtain⟨h1,h2,e,f⟩:=Ea g;have b:=r.length;have y:=pS;have d:Inv X pins σ (upd H p (.lst (xs.set j v))) {s with heap:=s.heap.update p (aV (·.setIfInBounds j u))}:=
  I.lstUpd hp c (CC its n j u) (r.set x j) (by rw[List.length_set];exact l) s.toks
 by_cases h0:0<=k
 ·have a:k.toNat=j:=by
   rw[tY h0 f]at h1;exact a6 h1
  exact PySem.W.ki_setAt c h0 (by lia) (by rw[au,<-b];exact f) (by rw[a];exact⟨_,d,q⟩)
 ·have a:(k+(its.toArray.size:Int)).toNat=j:=by
   rw[seqIndex_neg (by lia) e]at h1;rw[au,<-b];exact a6 h1
  exact PySem.W.ki_setBack c (by lia) (by rw[au,<-b];exact e) (by lia) (by rw[a];exact⟨_,d,q⟩)
theorem yK(lo hi:Option Int)(n:Nat):(kL lo hi none n).1=((HT.sIx n 0 lo:Nat):Int)/\(kL lo hi none n).2.1=((HT.sIx n n hi:Nat):Int)/\(kL lo hi none n).2.2=1:=by
 refine⟨?_,?_,rfl⟩
 ·cases lo with
  |none=>simp[kL,HT.sIx]
  |some i=>
   simp only[kL,HT.sIx,uF,show(1:Int)>0 by decide,if_true];by_cases h:i<0
   ·simp only[h,if_true]<;>lia
   ·simp only[h,if_false]<;>lia
 ·cases hi with
  |none=>simp[kL,HT.sIx]
  |some i=>
   simp only[kL,HT.sIx,uF,show(1:Int)>0 by decide,if_true];by_cases h:i<0
   ·simp only[h,if_true]<;>lia
   ·simp only[h,if_false]<;>lia
theorem wW(its:List Value)(lo hi:Option Int):slicePick its.toArray lo hi none=((its.drop (HT.sIx its.length 0 lo)).take (HT.sIx its.length its.length hi-HT.sIx its.length 0 lo)).toArray:=by
 obtain⟨h1,h2,a⟩:=yK lo hi its.toArray.size;unfold slicePick;rw[h1,h2,a];simp only[sliceRange_one,pick_run,au]<;>rfl
noncomputable def rSlL(K:ah):V->Option Int->Option Int->Hp->VK->Prop:=fun x lo hi H Q=>∃a xs,x=.ref a/\SqL K H a xs/\∀p,H p=none->Q (.ref p) (upd H p (.lst (lq xs lo hi)))
theorem sl_list:SlR X (rSlL X.K):=by
 intro pins s σ H x v vl vu lo hi sl Q I j e pl i h;obtain⟨a,xs,rfl,f,q⟩:=h;cases j;obtain⟨its,r,c,g⟩:=I.list f;have d:=r.length;refine⟨"list",_,slot_list_getitem.lookup,c.isList.typeIs,?_⟩;refine wpAny_getItem_list_slice c.isList e pl i .none (by simp) ?_ (by rw[au]<;>lia);rw[wW,<-d];refine⟨.ref s.heap.objs.size,_,I.laid (t':=s.toks) (o:=.lst (lq xs lo hi)) (fun b k q=>ag _ q) (ay _) ?_,rfl,q _ (I.hok.fresh (ay _))⟩;exact⟨aG (tj xs lo hi) g,_,0,(r.drop (HT.sIx xs.length 0 lo)).take (HT.sIx xs.length xs.length hi-HT.sIx xs.length 0 lo),az _ rfl⟩
noncomputable def o5:V->Bool
 |.non=>true
 |.bl _=>true
 |.int _=>true
 |.str _=>true
 |_=>false
noncomputable def eqV:V->V->Bool
 |.non,.non=>true
 |.bl a,.bl b=>a==b
 |.bl a,.int b=>(if a then 1 else 0)==b
 |.int a,.bl b=>a==(if b then 1 else 0)
 |.int a,.int b=>a==b
 |.str a,.str b=>a==b
 |_,_=>false
theorem fY{x:V}{v:Value}(e:RelV y u)(c:RelV x v)(f:o5 y=true)(d:o5 x=true):J5 A s u v (eqV y x):=by
 cases y with
 |non=>
  cases e;cases x with
  |non=>cases c;exact J5.same _
  |bl b=>cases c;exact J5.none_bool b
  |int b=>obtain⟨t,rfl⟩:=c;exact J5.none_int b t
  |str b=>obtain⟨t,rfl⟩:=c;exact J5.none_str b t
  |_=>exact absurd (show false=true from d) ak
 |bl a=>
  cases e;cases x with
  |non=>cases c;exact J5.bool_none a
  |bl b=>cases c;exact J5.bool_bool a b
  |int b=>obtain⟨t,rfl⟩:=c;exact J5.bool_int a b t
  |str b=>obtain⟨t,rfl⟩:=c;exact J5.bool_str a b t
  |_=>exact absurd (show false=true from d) ak
 |int a=>
  obtain⟨t',rfl⟩:=e;cases x with
  |non=>cases c;exact J5.int_none a t'
  |bl b=>cases c;exact J5.int_bool a t' b
  |int b=>obtain⟨t,rfl⟩:=c;exact J5.int_int a t' b t
  |str b=>obtain⟨t,rfl⟩:=c;exact BQ a t' b t
  |_=>exact absurd (show false=true from d) ak
 |str a=>
  obtain⟨t',rfl⟩:=e;cases x with
  |non=>cases c;exact J5.str_none a t'
  |bl b=>cases c;exact J5.str_bool a t' b
  |int b=>obtain⟨t,rfl⟩:=c;exact BP a t' b t
  |str b=>obtain⟨t,rfl⟩:=c;exact J5.str_str a t' b t
  |_=>exact absurd (show false=true from d) ak
 |_=>exact absurd (show false=true from f) ak
noncomputable def eqU(x:V)(u:Value):Bool:=match u with
 |.none=>eqV .non x
 |.bool b=>eqV (.bl b) x
 |.int i _=>eqV (.int i) x
 |.str z _=>eqV (.str z) x
 |_=>false
theorem Jp{x:V}(r:RelV y u)(f:o5 y=true):eqU x u=eqV y x:=by
 cases y with
 |non=>cases r;rfl
 |bl b=>cases r;rfl
 |int i=>obtain⟨t,rfl⟩:=r;rfl
 |str z=>obtain⟨t,rfl⟩:=r;rfl
 |_=>exact absurd (show false=true from f) ak
theorem rC{x:V}:∀{xs:List V}{us:List Value},bE xs us->xs.all o5=true->us.any (eqU x)=xs.any fun y=>eqV y x
 |_,_,.nil,_=>rfl
 |y::xs,u::us,.cons r t,f=>by
  rw[mL,aH]at f;rw[mK,mK,Jp r f.1,rC t f.2]
theorem ni{x:V}{v:Value}(b:RelV x v)(a:o5 x=true):∀{xs:List V}{us:List Value},bE xs us->xs.all o5=true->∀u∈us,J5 A s u v (eqU x u)
 |_,_,.nil,_=>fun u hu=>by cases hu
 |y::xs,u::us,.cons r t,f=>fun c hu=>by
  rw[mL,aH]at f;rcases aE.mp hu with rfl|hu
  ·rw[Jp r f.1];exact fY r b f.1 a
  ·exact ni b a t f.2 c hu
noncomputable def inV(x:V)(xs:List V):Bool:=xs.any fun y=>eqV y x
noncomputable def rIn(K:ah)(a:Bool):R2:=fun x y H Q=>∃p xs,y=.ref p/\(SqL K H p xs\/SqT K H p xs)/\o5 x=true/\xs.all o5=true/\Q (.bl (if a then !inV x xs else inV x xs)) H
theorem Fz:OpR X (cX .In) (rIn X.K false):=by
 intro pins s σ H x y v u Q I c e h;obtain⟨p,xs,rfl,hq,b,fs,q⟩:=h;cases e;rcases hq with hq|hq
 ·obtain⟨its,r,pl,d⟩:=I.list hq
  refine SeqAt.in_listAt (eqU x) pl.isList (fun w a=>ni c b r fs w (by simpa using a)) ⟨.bl _,H,I,rfl,?_⟩;rw[show its.toArray.any (eqU x)=its.any (eqU x) by simp,rC r fs];exact q
 ·obtain⟨its,r,pl,d⟩:=I.tuple hq
  refine SeqAt.in_tupleAt (eqU x) pl (fun w a=>ni c b r fs w (by simpa using a)) ⟨.bl _,H,I,rfl,?_⟩;rw[show its.toArray.any (eqU x)=its.any (eqU x) by simp,rC r fs];exact q
theorem y9:OpR X (cX .NotIn) (rIn X.K true):=by
 intro pins s σ H x y v u Q I c e h;obtain⟨p,xs,rfl,hq,b,fs,q⟩:=h;cases e;rcases hq with hq|hq
 ·obtain⟨its,r,pl,d⟩:=I.list hq
  refine J4 (eqU x) pl.isList (fun w a=>ni c b r fs w (by simpa using a)) ⟨.bl _,H,I,rfl,?_⟩;rw[show its.toArray.any (eqU x)=its.any (eqU x) by simp,rC r fs];exact q
 ·obtain⟨its,r,pl,d⟩:=I.tuple hq
  refine SeqAt.notIn_tupleAt (eqU x) pl (fun w a=>ni c b r fs w (by simpa using a)) ⟨.bl _,H,I,rfl,?_⟩;rw[show its.toArray.any (eqU x)=its.any (eqU x) by simp,rC r fs];exact q
theorem y8:OpR X (cX .NotIn) (fun x y H Q=>∃i j,x=.str i/\y=.str j/\Q (.bl (!(!(gY j i 0 j.length 1).isEmpty))) H):=by
 intro pins s σ H x y v u Q I a b h;obtain⟨i,j,rfl,rfl,q⟩:=h;obtain⟨t,rfl⟩:=a;obtain⟨t',rfl⟩:=b;exact notIn_str ⟨.bl _,H,I,rfl,q⟩
theorem zI:fB X (.builtin "len") (fun xs H Q=>∃p ys,xs=[.ref p]/\(SqL X.K H p ys\/SqT X.K H p ys)/\Q (.int ys.length) H):=by
 intro pins s σ H xs us Q I r h;obtain⟨p,ys,rfl,hq,q⟩:=h;obtain⟨u,rfl,d⟩:=vals1 r;cases d;have e:=pS;rcases hq with hq|hq
 ·obtain⟨its,b,pl,c⟩:=I.list hq
  have a:=b.length;exact Calls.call_len_list pl.isList (by simp only[au]<;>lia) ⟨.int ys.length,H,I.tok _,⟨s.toks+1,by rw[au,a]⟩,q⟩
 ·obtain⟨its,b,pl,c⟩:=I.tuple hq
  have a:=b.length;exact len_tuple pl (by simp only[au]<;>lia) ⟨.int ys.length,H,I.tok _,⟨s.toks+1,by rw[au,a]⟩,q⟩
theorem zH:fB X (.builtin "len") (fun xs H Q=>∃z,xs=[.str z]/\z.length<=sizeLine/\Q (.int z.length) H):=by
 intro pins s σ H xs us Q I r h;obtain⟨z,rfl,b,q⟩:=h;obtain⟨u,rfl,t,rfl⟩:=vals1 r;have a:=pS;exact len_str (by lia) ⟨.int z.length,H,I.tok _,⟨_,rfl⟩,q⟩
theorem fB.or{f:Value}{r a:List V->Hp->VK->Prop}(h:fB X f r)(h':fB X f a):fB X f (fun xs H Q=>r xs H Q\/a xs H Q):=by
 intro pins s σ H xs us Q I b q;rcases q with q|q
 ·exact h pins s σ H xs us Q I b q
 ·exact h' pins s σ H xs us Q I b q
theorem zG:fB X (.type "list") (fun xs H Q=>∃p ys,xs=[.ref p]/\(SqL X.K H p ys\/SqT X.K H p ys)/\∀l,H l=none->Q (.ref l) (upd H l (.lst ys))):=by
 intro pins s σ H xs us Q I r h;obtain⟨p,ys,rfl,hq,q⟩:=h;obtain⟨u,rfl,k⟩:=vals1 r;cases k;have i:∀(its:List Value),bE ys its->ys.length<=sizeLine->∀(h':Heap)(c':Nat),(∀b o',s.heap.get? b=some o'->h'.get? b=some o')->
   h'.get? s.heap.objs.size=some {cls:=.type "list",dict:=none,data:=.seq its.toArray c',slots:= #[]}->EP X pins σ Q (.ref s.heap.objs.size) {s with heap:=h'}:=fun its a c h' c' kp e=>
  ⟨.ref s.heap.objs.size,_,I.laid (t':=s.toks) kp (ay _) (show dP X.prog X.w _ h' _ (.lst ys)from⟨c,its,c',a,e⟩),rfl,q _ (I.hok.fresh (ay _))⟩
 rcases hq with hq|hq
 ·obtain⟨its,a,pl,c⟩:=I.list hq
  have j:=a.length;obtain⟨o,g,d,n,f⟩:=pl.isList;exact call_list_seq p (.inl rfl) g d f (fun h' c' kp e=>i its a c h' c' kp e) (by simp only[au]<;>lia)
 ·obtain⟨its,a,pl,c⟩:=I.tuple hq
  have j:=a.length;obtain⟨o,g,d,n,f⟩:=pl;exact call_list_seq p (.inr rfl) g d f (fun h' c' kp e=>i its a c h' c' kp e) (by simp only[au]<;>lia)
theorem xb:fB X (.type "tuple") (fun xs H Q=>∃p ys,xs=[.ref p]/\((SqL X.K H p ys/\∀l,H l=none->Q (.ref l) (upd H l (.tup ys)))\/(SqT X.K H p ys/\Q (.ref p) H))):=by
 intro pins s σ H xs us Q I r h;obtain⟨p,ys,rfl,h⟩:=h;obtain⟨u,rfl,g⟩:=vals1 r;cases g;rcases h with⟨hq,q⟩ |⟨hq,q⟩
 ·obtain⟨its,a,pl,d⟩:=I.list hq
  have i:=a.length;refine call_tuple_list pl.isList (fun h' kp=>?_) (by simp only[au]<;>lia);have c:Inv X pins σ H {s with heap:=h'}:=I.kept (t':=s.toks) kp;have f:Inv X pins σ (upd H h'.objs.size (.tup ys)) {s with heap:=h'.push {cls:=.type "tuple",data:=.seq its.toArray}}:=
   c.laid (t':=s.toks) (fun b o e=>ag _ e) (ay _) (show dP X.prog X.w _ _ _ (.tup ys)from⟨d,its,a,IsTup.new _ _⟩)
  exact⟨.ref h'.objs.size,_,f,rfl,q _ (c.hok.fresh (ay _))⟩
 ·obtain⟨its,a,pl,d⟩:=I.tuple hq
  exact call_tuple_same pl ⟨.ref p,H,I,rfl,q⟩
def tyV(K:ah)(T:String)(x:V)(H:Hp):Prop:=match x with
 |.str _=>T="str"
 |.int _=>T="int"
 |.ref p=>(T="list"/\∃xs,SqL K H p xs)\/(T="tuple"/\∃o,K.lookup p=some o/\o.cls=.type "tuple"/\o.dict=none)\/
   (T="dict"/\((∃kvs,H p=some (.dK kvs))\/∃kvs,H p=some (.dT kvs)))\/(T="set"/\∃S n,H p=some (.set S n))
 |_=>False
theorem tyV_is{T:String}{x:V}{v:Value}(I:Inv X pins σ H s)(r:RelV x v)(ty:tyV X.K T x H):
  s.TypeIs v T/\∀a,v=.ref a->∃g,s.heap.get? a=some g/\g.dict=none:=by
 cases x with
 |str z=>
  obtain⟨t,rfl⟩:=r;cases(show T="str" from ty);exact⟨typeIs_str s z t,fun _ e=>nomatch e⟩
 |int i=>
  obtain⟨t,rfl⟩:=r;cases(show T="int" from ty);exact⟨typeIs_int s i t,fun _ e=>nomatch e⟩
 |ref p=>
  cases r;rcases ty with⟨rfl,xs,hq⟩ |⟨rfl,o,b,h,f⟩ |⟨rfl,b⟩ |⟨rfl,S,n,b⟩
  ·obtain⟨its,_,pl,_⟩:=I.list hq
   refine⟨pl.isList.typeIs,fun a e=>?_⟩;cases e;obtain⟨o,n,e,c,f,_⟩:=pl;exact⟨o,e,f⟩
  ·refine⟨⟨o,I.kIn p o b,h⟩,fun a e=>?_⟩
   cases e;exact⟨o,I.kIn _ o b,f⟩
  ·have z:∃o,s.heap.get? p=some o/\o.ExactDict:=by
    rcases b with⟨kvs,b⟩ |⟨kvs,b⟩
    ·obtain⟨_,_,_,_,o,_,_,e,ex,_⟩:=I.hok p _ b
     exact⟨o,e,ex⟩
    ·obtain⟨_,_,_,_,o,_,_,e,ex,_⟩:=I.hok p _ b
     exact⟨o,e,ex⟩
   obtain⟨o,e,ex⟩:=z;refine⟨⟨o,e,ex.1⟩,fun a d=>?_⟩;cases d;exact⟨o,e,ex.2.1⟩
  ·obtain⟨o,_,_,_,e,ex,_⟩:=I.hok p _ b
   refine⟨⟨o,e,ex.1⟩,fun a d=>?_⟩;cases d;exact⟨o,e,ex.2.1⟩
 |_=>exact kN ty
noncomputable def tBM0(K:ah)(T:String)(r:V->List V->Hp->VK->Prop)(to:TE):TE:=fun σ H Q=>to σ H fun x H1=>tyV K T x H1/\r x [] H1 Q
noncomputable def tBM(K:ah)(T:String)(r:V->List V->Hp->VK->Prop)(to:TE)(t:TA):TE:=fun σ H Q=>to σ H fun x H1=>tyV K T x H1/\t σ H1 fun xs H2=>r x xs H2 Q
variable {o e:Expr}{es:List Expr}{to:TE}{t:TA}{name:Str}{apos cpos:Pos}{T id:String}{r:V->List V->Hp->VK->Prop}
theorem pe_bm(q:PlainAttrs T)(slot:Slot T name id)(p:typeOf (.builtin id)=pure (.type "method_descriptor"))(k:MtR X id r)(l:PE X o to)(f:PA X (e::es) t)
  (g:attributeBase o name X.env (eval o X.env)=eval o X.env:=by rfl)
  (i:((backTo cpos (b7 (e::es) X.env)).all (fun x=> !x.1)&&(backToKw cpos (keywordEach [] X.env)).all (fun x=>x.1.isSome)
   &&decide ((e::es).length+([]:List Keyword).length+(if([]:List Keyword).isEmpty then 0 else 1)<30))=true:=by rfl)
  (j:(apos.endLine==cpos.line)=true:=by rfl) (n:b7 (e::es) X.env=(false,eval e X.env)::b7 es X.env:=by rfl) (m:(backTo cpos (b7 es X.env)).any (·.1)=false:=by rfl):
  PE X (.Call (.Attribute o name apos) (e::es) [] cpos) (tBM X.K T r to t):=by
 intro pins s σ H Q I h;refine wpAny_Call_method_late g i j rfl (thn (l pins s σ H _ I h) fun v z ⟨x,H1,a,c,ty,u⟩=>?_);obtain⟨h1,h2⟩:=tyV_is a c ty;refine⟨T,id,q,slot,p,h1,h2,?_⟩;have b:=f cpos pins z σ H1 _ a u;rw[n]at b⊢;refine Calls.callWith_builtin (by show(false||(backTo cpos (b7 es X.env)).any (·.1))=false;rw[m]<;>rfl) (Calls.evalArgs_plain ?_);exact thn b fun us s2 ⟨vs,H2,d,y,w⟩=>k pins s2 σ H2 x vs v us Q d c y w
end
def MtM(X:Cx)(id:String)(r:V->List V->Hp->VK->Prop):Prop:=
 ∀(pins:List (Addr×Obj))(s:Shared)(σ:St)(H:Hp)(x:V)(xs:List V)(v:Value)(us:List Value)(Q:VK),Inv X pins σ H s->RelV x v->bE xs us->r x xs H Q->
  wpAny (model X.prog X.w) X.A (call (.builtin id) (v::us)) (EP X pins σ Q) X.xe s
theorem bE.one{x:V}(h:bE [x] us):∃u,us=[u]/\RelV x u:=by
 cases h with
 |cons r k=>cases k with
  |nil=>exact⟨_,rfl,r⟩
theorem bE.two{x:V}(h:bE [x,y] us):∃u v,us=[u,v]/\RelV x u/\RelV y v:=by
 cases h with
 |cons r k=>
  obtain⟨v,e,q⟩:=bE.one k;exact⟨_,v,by rw[e],r,q⟩
theorem bE.zero:∀{us:List Value},bE [] us->us=[]
 |_,.nil=>rfl
theorem bE.eraseIdx:∀{xs:List V}{us:List Value}(i:Nat),bE xs us->bE (xs.eraseIdx i) (us.eraseIdx i)
 |_,_,_,.nil=>.nil
 |_,_,0,.cons _ t=>t
 |_,_,i+1,.cons r t=>.cons r (bE.eraseIdx i t)
theorem bE.reverse(h:bE xs us):bE xs.reverse us.reverse:=by
 induction h with
 |nil=>exact .nil
 |cons r t ih=>rw[uH,uH];exact bE.append ih (.cons r .nil)
theorem bE.rep(h:bE xs us):∀k:Nat,bE (bp k xs).flatten (bp k us).flatten
 | 0=>.nil
 |k+1=>by
  rw[dz,dz,i8,i8];exact bE.append h (bE.rep h k)
theorem xK{α:Type}:∀(l:List α)(i:Nat),(l.eraseIdx i).length<=l.length
 | [],_=>ay _
 |_::_,0=>eY _
 |_::r,i+1=>Nat.succ_le_succ (xK r i)
theorem foldl_rep(its:List Value):∀(k:Nat)(acc:List Value),
  List.foldl (fun b c=>b++c) acc.toArray (bp k its.toArray)=(acc++(bp k its).flatten).toArray
 | 0,acc=>by simp
 |k+1,acc=>by
  have e:acc.toArray++its.toArray=(acc++its).toArray:=by simp
  have a:(acc++its)++(bp k its).flatten=acc++(bp (k+1) its).flatten:=by
   rw[dz,i8,gB]
  rw[<-a,<-foldl_rep its k (acc++its),<-e,dz,dD]
section
variable {X:Cx}{pins:List (Addr×Obj)}{σ:St}{H:Hp}{s:Shared}{l b:Addr}{xs ys zs:List V}
theorem Inv.IC{f:Array Value->Array Value}(I:Inv X pins σ H s)(a:H l=some (.lst xs))
  (e:s.heap.get? l=some {cls:=.type "list",data:=.seq its.toArray n}) (hf:f its.toArray=its'.toArray) (d:bE ys its') (hz:ys.length<=sizeLine):
  Inv X pins σ (upd H l (.lst ys)) {s with heap:=s.heap.update l (aV f),toks:=t'}:=by
 have q:=Gy e f;rw[hf]at q;refine I.write (x:=l) (e:=l) (by rw[a];exact trivial) (.inl rfl) (fun g u b c=>(aX s.heap (aV f) (bS b)).trans c) ⟨_,q⟩ ?_;exact⟨hz,its',_,d,q⟩
theorem Inv.lnew(I:Inv X pins σ H s)(a:bE ys its)(hz:ys.length<=sizeLine):
  Inv X pins σ (upd H s.heap.objs.size (.lst ys)) {s with heap:=s.heap.push {cls:=.type "list",data:=.seq its.toArray},toks:=t'}:=
 I.laid (fun _ _ q=>ag _ q) (ay _) ⟨hz,its,0,a,az _ rfl⟩
theorem Inv.fresh(I:Inv X pins σ H s):H s.heap.objs.size=none:=I.hok.fresh (ay _)
theorem Inv.zm(I:Inv X pins σ H s)(a:H l=some (.lst xs)):xs.length<=sizeLine/\∃(its:List Value)(n:Nat),bE xs its/\xs.length=its.length/\s.heap.get? l=some {cls:=.type "list",data:=.seq its.toArray n}:=by
 obtain⟨z,its,n,r,e⟩:=I.hok l _ a;exact⟨z,its,n,r,r.length,e⟩
theorem AG(h:n<=sizeLine):gF n=false:=by
 unfold gF;exact decide_eq_false (by lia)
end
section
variable {X:Cx}
noncomputable def DM:V->List V->Hp->VK->Prop:=fun x vs H Q=>∃l xs y,x=.ref l/\vs=[y]/\H l=some (.lst xs)/\xs.length<sizeLine/\Q .non (upd H l (.lst (xs++[y])))
theorem FK:MtM X "list.append" DM:=by
 intro pins s σ H x vs v us Q I d c h;obtain⟨l,xs,y,rfl,rfl,a,g,q⟩:=h;cases d;obtain⟨u,rfl,b⟩:=c.one;obtain⟨z,its,n,r,f,e⟩:=I.zm a;refine j8 F.slot_list_append ⟨_,e,rfl⟩ F.entry_list_append (F.args_list_append_2 _ _) (PySem.list_append l its.toArray n u (by rw[au];lia)) ⟨e,?_⟩;refine⟨.non,_,I.IC (its':=its++[u]) a e (by simp) (r.append (.cons b .nil)) ?_,rfl,q⟩;rw[aN,dH];lia
noncomputable def DJ:V->List V->Hp->VK->Prop:=fun x vs H Q=>∃l b xs zs,x=.ref l/\vs=[.ref b]/\H l=some (.lst xs)/\H b=some (.lst zs)/\xs.length+zs.length<=sizeLine/\Q .non (upd H l (.lst (xs++zs)))
theorem FJ:MtM X "list.extend" DJ:=by
 intro pins s σ H x vs v us Q I p o h;obtain⟨l,b,xs,zs,rfl,rfl,c,f,y,q⟩:=h;cases p;obtain⟨u,rfl,m⟩:=o.one;cases m;obtain⟨z,its,n,r,t,e⟩:=I.zm c;obtain⟨A,a,j,k,w,d⟩:=I.zm f;have i:its.toArray.size+a.toArray.size<=sizeLine:=by rw[au,au];lia
 have g:¬(!its.toArray.isEmpty&&gF (its.toArray.size+a.toArray.size))=true:=by
  rw[AG i,kU];exact ak
 refine j8 F.slot_list_extend ⟨_,e,rfl⟩ F.entry_list_extend (F.args_list_extend_2 _ _)
  (AutoSeq1.list_extend_list_list_0 l its.toArray n b a.toArray j g (by rw[au];lia) (by lia)) ⟨e,d,?_⟩
 refine⟨.non,_,I.IC (its':=its++a) c e (by simp) (r.append k) ?_,rfl,q⟩;rw[aN];lia
noncomputable def HA:V->List V->Hp->VK->Prop:=fun x vs H Q=>∃l xs i k y,x=.ref l/\vs=[.int i]/\H l=some (.lst xs)∧-(2^63)<=i/\i<2^63/\seqIndex? i xs.length=some k/\xs[k]? =some y/\Q y (upd H l (.lst (xs.eraseIdx k)))
theorem Iv:MtM X "list.pop" HA:=by
 intro pins s σ H x vs v us Q I o j h;obtain⟨l,xs,i,k,y,rfl,rfl,a,h1,h2,b,f,q⟩:=h;cases o;obtain⟨u,rfl,g⟩:=j.one;obtain⟨t,rfl⟩:=g;obtain⟨z,its,n,r,c,e⟩:=I.zm a;obtain⟨w,d,m⟩:=r.get f;refine j8 F.slot_list_pop ⟨_,e,rfl⟩ F.entry_list_pop (F.args_list_pop_2 _ _)
  (MeetsSeq.list_pop_at l its.toArray n i t k w (fitsIndex_both h1 h2) (by rw[au,<-c];exact b) (by rw[<-EV];exact d) (by rw[au];lia)) ⟨e,?_⟩
 refine⟨y,_,I.IC (its':=its.eraseIdx k) a e ?_ (r.eraseIdx k) ?_,m,q⟩
 ·show its.toArray.eraseIdxIfInBounds k=(its.eraseIdx k).toArray
  rw[List.eraseIdxIfInBounds_toArray]
 ·have :=xK xs k
  lia
noncomputable def As:V->List V->Hp->VK->Prop:=fun x vs H Q=>∃l xs,x=.ref l/\vs=[]/\H l=some (.lst xs)/\Q .non (upd H l (.lst xs.reverse))
theorem Cy:MtM X "list.reverse" As:=by
 intro pins s σ H x vs v us Q I d c h;obtain⟨l,xs,rfl,rfl,a,q⟩:=h;cases d;have b:=c.zero;subst b;obtain⟨z,its,n,r,f,e⟩:=I.zm a;refine j8 F.slot_list_reverse ⟨_,e,rfl⟩ F.entry_list_reverse (F.args_list_reverse_1 _) (AutoSeq1.list_reverse_list_0 l its.toArray n (by rw[au];lia)) ⟨e,?_⟩;refine⟨.non,_,I.IC (its':=its.reverse) a e (by simp) r.reverse ?_,rfl,q⟩;rw[rV];lia
noncomputable def HB:V->List V->Hp->VK->Prop:=fun x vs H Q=>∃l xs,x=.ref l/\vs=[]/\H l=some (.lst xs)/\Q .non (upd H l (.lst []))
theorem Iw:MtM X "list.clear" HB:=by
 intro pins s σ H x vs v us Q I d c h;obtain⟨l,xs,rfl,rfl,a,q⟩:=h;cases d;have b:=c.zero;subst b;obtain⟨z,its,n,r,f,e⟩:=I.zm a;refine j8 F.slot_list_clear ⟨_,e,rfl⟩ F.entry_list_clear (F.args_list_clear_1 _) (AutoSeq1.list_clear_list_0 l its.toArray n (by rw[au];lia)) ⟨e,?_⟩;exact⟨.non,_,I.IC (its':=[]) (ys:=[]) a e rfl .nil (aR _),rfl,q⟩
noncomputable def rCat:R2:=fun x y H Q=>∃l b xs zs,x=.ref l/\y=.ref b/\H l=some (.lst xs)/\H b=some (.lst zs)/\xs.length+zs.length<=sizeLine/\∀p,H p=none->Q (.ref p) (upd H p (.lst (xs++zs)))
theorem op_cat:OpR X (d7 .Add) rCat:=by
 intro pins s σ H x y v u Q I j k h;obtain⟨l,b,xs,zs,rfl,rfl,g,f,p,q⟩:=h;cases j;cases k;obtain⟨z,its,n,r,m,e⟩:=I.zm g;obtain⟨w,a,t,i,o,c⟩:=I.zm f;refine PySem.P.add_list e c ?_ (by rw[au,au];lia);have d:its.toArray++a.toArray=(its++a).toArray:=by simp
 rw[d];exact⟨.ref _,_,I.lnew (t':=s.toks) (r.append i) (by rw[aN];lia),rfl,q _ I.fresh⟩
noncomputable def rRep:R2:=fun x y H Q=>∃l k xs,x=.ref l/\y=.int k/\H l=some (.lst xs)∧-(2^63)<=k/\k<2^63/\xs.length*k.toNat<=sizeLine/\
 ∀p,H p=none->Q (.ref p) (upd H p (.lst (bp k.toNat xs).flatten))
theorem len_rep{α:Type}(xs:List α)(k:Nat):(bp k xs).flatten.length=k*xs.length:=by
 induction k with
 |zero=>simp
 |succ k ih=>rw[dz,i8,aN,ih,Gz,Nat.add_comm]
theorem op_rep:OpR X (d7 .Mult) rRep:=by
 intro pins s σ H x y v u Q I B C h;obtain⟨l,k,xs,rfl,rfl,g,h1,h2,d,q⟩:=h;cases B;obtain⟨t,rfl⟩:=C;obtain⟨z,its,n,r,o,e⟩:=I.zm g;have p:its.toArray.size*k.toNat<=sizeLine:=by rw[au,<-o];exact d
 have i:¬its.toArray.size*k.toNat>(2^63-1)/8:=by
  have :(sizeLine:Nat)<=(2^63-1)/8:=by decide
  lia
 have j:¬(!Builtin.List.listFitsIndex k)=true:=by
  rw[fitsIndex_both h1 h2];exact ak
 have w:¬gF (its.toArray.size*k.toNat)=true:=by
  rw[AG p];exact ak
 have A:List.foldl (fun b c=>b++c) #[] (bp (if its.toArray.isEmpty=true then 0 else k.toNat) its.toArray)=(bp k.toNat its).flatten.toArray:=by
  have f:∀m:Nat,List.foldl (fun b c=>b++c) #[] (bp m its.toArray)=(bp m its).flatten.toArray:=fun m=>by
   have :=foldl_rep its m []
   rw[List.nil_append]at this;exact this
  rw[f];cases its with
  |nil=>simp
  |cons a r'=>rw[if_neg (by simp)]
 refine wpAny_binaryOp_repeat_ref (T:="list") (U:="int") (by decide) ⟨_,e,rfl⟩ (fun s'=>typeIs_int s' k t) noFill_list_mul F.fills_int_mul F.slot_int_rmul repeat_list F.slot_int_index.lookup
  (j8 F.slot_int_rmul (typeIs_int s k t) F.entry_int_rmul (F.args_int_rmul_2 _ _) (int___rmul___int_list k t l its.toArray n)
   ⟨e,rfl,⟨_,e,rfl⟩,j8 F.slot_list_mul ⟨_,e,rfl⟩ F.entry_list_mul (F.args_list_mul_2 _ _) (AutoListH.list___mul___list_int_3 l its.toArray n k t j i w) ⟨e,?_⟩⟩)
 rw[A];exact⟨.ref _,_,I.lnew (t':=s.toks) (r.rep k.toNat) (by rw[len_rep,GA];exact d),rfl,q _ I.fresh⟩
end
section
variable {κ:Type}[DecidableEq κ]
noncomputable def d5(kvs:List (κ×V))(k:κ):Option V:=(kvs.find? fun kv=>decide (kv.1=k)).map (·.2)
noncomputable def putK(kvs:List (κ×V))(k:κ)(v:V):List (κ×V):=
 if(kvs.any fun kv=>decide (kv.1=k))=true then kvs.map (fun kv=>if kv.1=k then(kv.1,v)else kv)else kvs++[(k,v)]
theorem gL{p:κ×V}{r:List (κ×V)}{k:κ}(e:p.1=k):d5 (p::r) k=some p.2:=by simp[d5,iL,e]
theorem gM{p:κ×V}{r:List (κ×V)}{k:κ}(e:¬p.1=k):d5 (p::r) k=d5 r k:=by simp[d5,iL,e]
theorem jJ(k:κ):∀kvs:List (κ×V),(kvs.any fun kv=>decide (kv.1=k))=(d5 kvs k).isSome
 | []=>rfl
 |p::r=>by
  rw[mK];by_cases e:p.1=k
  ·simp only[gL e,decide_eq_true e,Bool.true_or,iz]
  ·rw[gM e,decide_eq_false e,bL];exact jJ k r
theorem Ad(k j:κ)(y:V):∀kvs:List (κ×V),d5 (kvs.map fun kv=>if kv.1=k then(kv.1,y)else kv) j=(d5 kvs j).map fun x=>if j=k then y else x
 | []=>rfl
 |p::r=>by
  have a:=Ad k j y r;rw[cn];by_cases h:p.1=k
  ·rw[if_pos h]
   by_cases e:p.1=j
   ·rw[gL (p:=(p.1,y)) e,gL e,ix,if_pos (e.symm.trans h)]
   ·rw[gM (p:=(p.1,y)) e,gM e,a]
  ·rw[if_neg h]
   by_cases e:p.1=j
   ·rw[gL (p:=p) e,gL e,ix,if_neg (fun z=>h (e.trans z))]
   ·rw[gM (p:=p) e,gM e,a]
theorem xk(k j:κ)(y:V):∀kvs:List (κ×V),d5 kvs k=none->d5 (kvs++[(k,y)]) j=if j=k then some y else d5 kvs j
 | [],_=>by
  by_cases e:k=j
  ·rw[if_pos e.symm];exact gL (p:=(k,y)) e
  ·rw[if_neg (fun z=>e z.symm)];exact gM (p:=(k,y)) e
 |p::r,hn=>by
  rw[wL];have a:¬p.1=k:=fun z=>by rw[gL z]at hn;cases hn
  rw[gM a]at hn;have b:=xk k j y r hn;by_cases e:p.1=j
  ·rw[gL e,gL e,if_neg (fun z=>a (e.trans z))]
  ·rw[gM e,gM e,b]
theorem GU(kvs:List (κ×V))(k j:κ)(y:V):d5 (putK kvs k y) j=if j=k then some y else d5 kvs j:=by
 unfold putK;by_cases a:(kvs.any fun kv=>decide (kv.1=k))=true
 ·rw[if_pos a,Ad]
  rw[jJ]at a;by_cases e:j=k
  ·obtain⟨x,b⟩:=eR.mp a
   rw[if_pos e,e,b,ix,if_pos rfl]
  ·rw[if_neg e]
   cases d5 kvs j with
   |none=>rfl
   |some x=>rw[ix,if_neg e]
 ·rw[if_neg a]
  refine xk k j y kvs ?_;rw[jJ]at a;cases q:d5 kvs k with
  |none=>rfl
  |some x=>rw[q]at a;exact(a rfl).elim
theorem sY(kvs:List (κ×V))(k:κ)(v:V):(putK kvs k v).length<=kvs.length+1:=by
 unfold putK;split
 ·rw[ai];lia
 ·rw[aN,bg,oX];lia
theorem HF{kvs:List (κ×V)}{k:κ}(v:V)(h:d5 kvs k=none):putK kvs k v=kvs++[(k,v)]:=by
 unfold putK;rw[jJ,h];exact if_neg (by decide)
theorem wx.FV{o:Option V}{u:Option Value}(r:wx o u):o.isSome=u.isSome:=by
 cases o with
 |none=>cases u with
  |none=>rfl
  |some _=>exact(show False from r).elim
 |some _=>cases u with
  |none=>exact(show False from r).elim
  |some _=>rfl
end
theorem IM{k:Key}(r:RelV (kV k) u):(cy P w).is k u=true:=by
 cases k with
 |inl i=>obtain⟨t,e⟩:=(show ∃t,u=wy i t from r);subst e;exact nh P w i t
 |inr x=>obtain⟨t,e⟩:=(show ∃t,u=iM x t from r);subst e;exact AM P w x t
theorem sv:∀{ks:List Key}{us:List Value},bE (ks.map kV) us->ItemsAre (cy P w) ks us
 | [],_,r=>by rw[i7]at r;cases r;exact .nil
 |k::ks,_,r=>by
  rw[cn]at r;cases r with
  |cons h t=>exact .cons (IM h) (sv t)
noncomputable abbrev KT(H:Hp):List (List Key×V)->List (List Key×Addr×Value)->Prop:=Paired fun p q=>p.1=q.1/\H q.2.1=some (.tup (p.1.map kV))/\RelV p.2 q.2.2
theorem KT.val{kvs:List (List Key×V)}{xs:List (List Key×Addr×Value)}(r:KT H kvs xs)(k:List Key):wx (d5 kvs k) ((atKey xs k).map (·.2)):=by
 induction r with
 |nil=>exact True.intro
 | @cons p q ps qs h t ih=>
  obtain⟨h1,_,h2⟩:=h;by_cases e:p.1=k
  ·have a:q.1=k:=h1.symm.trans e
   have b:atKey (q::qs) k=some q.2:=by simp[atKey,iL,a]
   rw[gL e,b];exact h2
  ·have a:¬q.1=k:=fun z=>e (h1.trans z)
   have b:atKey (q::qs) k=atKey qs k:=by simp[atKey,iL,a]
   rw[gM e,b];exact ih
theorem KT.repl{kvs:List (List Key×V)}{xs:List (List Key×Addr×Value)}(r:KT H kvs xs)(k:List Key)(b:RelV y u):
  KT H (kvs.map fun kv=>if kv.1=k then(kv.1,y)else kv) (xs.map (putAt k u)):=by
 induction r with
 |nil=>exact .nil
 | @cons p q ps qs h t ih=>
  rw[cn,cn];refine .cons ?_ ih;obtain⟨h1,h2,a⟩:=h;unfold putAt;by_cases e:p.1=k
  ·rw[if_pos e,if_pos (h1.symm.trans e)];exact⟨h1,h2,b⟩
  ·rw[if_neg e,if_neg (fun z=>e (h1.trans z))];exact⟨h1,h2,a⟩
theorem KT.put{kvs:List (List Key×V)}{xs:List (List Key×Addr×Value)}(r:KT H kvs xs)(k:List Key)(c:H b=some (.tup (k.map kV)))(a:RelV y u):
  KT H (putK kvs k y) (storedH xs k b u):=by
 have e:(kvs.any fun kv=>decide (kv.1=k))=(atKey xs k).isSome:=by
  rw[jJ,(r.val k).FV,Option.isSome_map]
 unfold putK storedH;rw[e];by_cases q:(atKey xs k).isSome=true
 ·rw[if_pos q,if_pos q];exact r.repl k a
 ·rw[if_neg q,if_neg q];exact Paired.snoc r ⟨rfl,c,a⟩
theorem KT.keeps{kvs:List (List Key×V)}{xs:List (List Key×Addr×Value)}(r:KT H kvs xs)(a:∀b ys,H b=some (.tup ys)->H' b=some (.tup ys)):KT H' kvs xs:=
 Paired.gh r fun _ _ z=>⟨z.1,a _ _ z.2.1,z.2.2⟩
section
variable {P:Program}{w:World}{H:Hp}{h:Heap}{a:Addr}
theorem rd_of{u:HO}(ok:HOk P w H h)(e:Rd H a u):dP P w H h a u:=e.ok ok
theorem IL{ks:List Key}(ok:HOk P w H h)(e:H a=some (.tup (ks.map kV))):(qb (cy P w)).is h ks a:=by
 obtain⟨_,its,r,o,h1,h2,n,b⟩:=(show dP P w H h a (.tup (ks.map kV))from ok a _ e);exact⟨o,its.toArray,n,h1,h2,b,by simpa using sv r⟩
theorem dt_rd{kvs:List (List Key×V)}(ok:HOk P w H h)(e:Rd H a (.dT kvs)):kvs.length<=sizeLine/\(a==gz)=false/\
  ∃xs,KT H kvs xs/\h.DictOfH (qb (cy P w)) a xs:=by
 obtain⟨z,y,xs,r,o,es,ep,h1,h2,b,c,d⟩:=(show dP P w H h a (.dT kvs)from rd_of ok e);refine⟨z,y,xs,r,o,es,ep,h1,h2,b,c,fun x hx=>?_,d⟩;have all:∀{l:List (List Key×V)}{m:List (List Key×Addr×Value)},KT H l m->∀x∈m,(qb (cy P w)).is h x.1 x.2.1:=by
  intro l m q
  induction q with
  |nil=>intro x hx;exact nomatch hx
  | @cons p q ps qs hq t ih=>
   intro x hx;rcases aE.mp hx with e|hx
   ·subst e
    exact IL ok (by rw[<-hq.1];exact hq.2.1)
   ·exact ih x hx
 exact all r x hx
theorem Jq{kvs:List (List Key×V)}(ok:HOk P w H h)(e:H a=some (.dT kvs)):kvs.length<=sizeLine/\(a==gz)=false/\
  ∃xs,KT H kvs xs/\h.DictOfH (qb (cy P w)) a xs:=dt_rd ok (.inl e)
end
section
variable {X:Cx}{pins:List (Addr×Obj)}{σ:St}{H:Hp}{s:Shared}{a:Addr}{y v:V}{u r:Value}{o:Option V}{A:Around}{E:Value->Shared->Prop}
theorem Inv.big(I:Inv X pins σ H s):gz<s.heap.objs.size:=by
 have h:bK<s.heap.objs.size:=(I.mod.glob.keeps I.bk).lt;exact hW (by decide) h
theorem d_write{c:HO}(I:Inv X pins σ H s)(h:Mut (H a))(g:dv a s.heap h')(f:∃q,h'.get? a=some q)(i:dP X.prog X.w (upd H a c) h' a c):
  Inv X pins σ (upd H a c) {s with heap:=h',toks:=t'}:=
 I.write (x:=a) (e:=a) h (.inl rfl) (fun b q d z=>(g.2 b d).trans z) f i
end
theorem Jr(h:Heap)(a:gz<h.objs.size):dP P w H (h.push {cls:=.type "dict",data:=.dict #[]}) h.objs.size (.dT []):=
 ⟨aR _,beq_eq_false_iff_ne.mpr (bS (aK a)),[],.nil,_,#[],0,az _ rfl,⟨rfl,rfl,rfl⟩,rfl,rfl,i6⟩
noncomputable def tDNewK:TE:=fun _ H Q=>∀p,H p=none->Q (.ref p) (upd H p (.dK []))
noncomputable def G4:TE:=fun _ H Q=>∀p,H p=none->Q (.ref p) (upd H p (.dT []))
section
variable {X:Cx}{pos:Pos}
theorem HU:PE X (.Dict [] [] pos) G4:=fun pins s σ H Q I h=>
 wpAny_Dict_empty ⟨.ref s.heap.objs.size,_,I.laid (a:=s.heap.objs.size) (o:=.dT []) (t':=s.toks) (fun _ _ q=>ag _ q) (ay _) (Jr s.heap I.big),rfl,h _ (I.hok.fresh (ay _))⟩
end
noncomputable def B5:List (TE×TE)->St->Hp->(List (V×V)->Hp->Prop)->Prop
 | [],_,H,Q=>Q [] H
 | (tk,tv)::r,σ,H,Q=>tk σ H fun x H1=>tv σ H1 fun y H2=>B5 r σ H2 fun ps a=>Q ((x,y)::ps) a
noncomputable abbrev VV:List (V×V)->List (Value×Value)->Prop:=Paired fun p q=>RelV p.1 q.1/\RelV p.2 q.2
def PPs(X:Cx)(pos:Pos)(a:List (Option Expr))(b:List Expr)(trs:List (TE×TE)):Prop:=
 ∀(pins:List (Addr×Obj))(s:Shared)(σ:St)(H:Hp)(Q:List (V×V)->Hp->Prop),Inv X pins σ H s->B5 trs σ H Q->
  wpAny (model X.prog X.w) X.A (evalPairs (pairTrees a b X.env pos)) (fun vs s'=>∃ps H',Inv X pins σ H' s'/\VV ps vs/\Q ps H') X.xe s
theorem pps_nil:PPs X pos [] [] []:=fun pins s σ H Q I h=>pairTrees_nil_walk ⟨[],H,I,.nil,h⟩
theorem HK{k v:Expr}{ks:List (Option Expr)}{vs:List Expr}{tk a:TE}{trs:List (TE×TE)}(f:PE X k tk)(i:PE X v a)(g:PPs X pos ks vs trs):
  PPs X pos (some k::ks) (v::vs) ((tk,a)::trs):=fun pins s σ H Q I h=>
 pairTrees_cons_walk (thn (f pins s σ H _ I h) fun u q ⟨x,H1,c,o,j⟩=>thn (i pins q σ H1 _ c j) fun r s2 ⟨y,H2,d,p,l⟩=>
  thn (g pins s2 σ H2 _ d l) fun ws s3 ⟨ps,b,e,n,m⟩=>⟨(x,y)::ps,b,e,.cons ⟨o,p⟩ n,m⟩)
noncomputable def mergeK(kvs more:List (Key×V)):List (Key×V):=more.foldl (fun acc kv=>putK acc kv.1 kv.2) kvs
noncomputable def tDisp(trs:List (TE×TE)):TE:=fun σ H Q=>∀p,H p=none->B5 trs σ (upd H p (.dK [])) fun ps H2=>H2 p=some (.dK [])/\∃kvs:List (Key×V),ps=kvs.map (fun kv=>(kV kv.1,kv.2))/\kvs.length<=15/\Q (.ref p) (upd H2 p (.dK (mergeK [] kvs)))
end L2
namespace Att
open PySem PySem.W PySem.Calls PyProof.Rows
theorem tR{P:Params}:∀(ns:List Int)(vs:List Value),WellAll P h vs (ns.map WData.int)->bY vs ns:=by
 intro ns
 induction ns with
 |nil=>
  intro vs w;rw[i7]at w;cases w;exact .nil
 |cons n ns ih=>
  intro vs w;rw[cn]at w;cases w with
  |cons a b=>
   cases a;exact .cons _ _ (ih _ b)
theorem Fg{l:OpenLaw}(j:l.most=some n){P:Params}{args:List WData}{vals:List Value}
  (f:l.row.toRowW.claim.pre args=true)(m:WellAll P h vals args):
  ∃a vs ns,vals=[cF a]/\args=[WData.list (ns.map WData.int)]/\h.get? a=some {cls:=.type "list",data:=.seq vs.toArray}/\bY vs ns/\ns.length<=n:=by
 have k:WShape.hasAll [] args [.list .int]=true:=(pre_splitW f).1;have e:l.pre.holds [] {args:=args}=true:=(pre_splitW f).2;obtain⟨d,r,rfl,h1,h2⟩:=hasAllW_cons k;obtain rfl:=hasAllW_nil h2;obtain⟨xs,rfl,g⟩:=hasW_list h1;obtain⟨ns,rfl⟩:=items_int g;have i:ns.length<=n:=by
  unfold OpenLaw.pre at e;have b:(WTm.not (.lt (.lit (.int (n:Int))) (.len (.arg 0)))).holds [] {args:=[.list (ns.map .int)]}=true:=by
   have b:=(holds_andW e).1;rw[j]at b;exact b
  have c:=condW_of b (w_not (w_lt w_lit (w_len_list (w_arg rfl))));rw[ai]at c;refine fE fun q=>?_;have o:(n:Int)<((ns.length:Nat):Int):=by lia
  first
   | (rw[decide_eq_true o]at c;exact absurd c (by decide))
   | (simp at c;lia)
 cases m with
 |cons w1 w2=>
  cases w2;cases w1 with
  |list ho hall=>exact⟨_,_,ns,rfl,rfl,ho,tR ns _ hall,i⟩
theorem Fo(l:OpenLaw)(args:List WData):l.row.toRowW.claim.post args (.bool true) args=true:=
 postW_of (r:=l.row.toRowW) (X:=(true==true))
  (show WShape.has [] (.bool true) .bool=true by first |rfl|decide|simp[WShape.has,WShape.arms,WShape.armsAll])
  (show(WTm.eq .res (.lit (.bool true))).value [] {args:=args,res:=some (.bool true),after:=args}=some (.bool (true==true))from w_eq_bool (w_res rfl) w_lit) rfl
theorem Bv{l:OpenLaw}{q:Program}{XP:(Str->Option Value)->Heap->Prop}{YP:World->Heap->Prop}{d:DefRec}
  (v:l.most=some n)(k:d.params.defaults=[])
  (call:∀(w:World)(c b:Shared)(mg mb:Str->Option Value)(fa:Addr)(o:Obj)(pm cd doc:Value)(a:Addr)(vs:List Value)(ns:List Int),
   Ground q loose [] XP w c mg mb b.heap->YP w b.heap->
   b.heap.get? fa=some o->o.data=.func (docDef d.name d.params d.body d.scope pm cd doc)->b.heap.CodeRec cd d.name->mg d.name=some (.ref fa)->
   b.heap.get? a=some {cls:=.type "list",data:=.seq vs.toArray}->bY vs ns->ns.length<=n->b.gens= #[]->
   i4 (model l.prog w) EN (.call (.ref fa) ⟨[.ref a],[]⟩) (fun r s'=>r=.ok (.ret (.bool true))/\OldK b.heap s'.heap/\s'.os=b.os/\oS s'.gens) b):
  WalkO q loose XP YP l.row.toRowW d [] (fun f vs=>PySem.call f vs):=by
 intro w c b mg mb G Y fa o pm cd doc dV kV x j i e u m args vals B z C E A D;obtain rfl:dV=.none:=Dflts.none e k;obtain rfl:kV=.none:=Dflts.noKw e;obtain⟨a,vs,ns,rfl,rfl,y,p,s⟩:=Fg v z A;refine enter_call (mn (call w c b mg mb fa o pm cd doc a vs ns G Y x (fd_plain j) i u y p s m) fun r s' hq=>?_);obtain⟨rfl,h2,g,h⟩:=hq;exact⟨.inl ⟨.bool true,.bool true,[],rfl,fun _=>rfl,.bool true,Fo l _,fun _=>⟨oY,fun _ t=>(nomatch t)⟩⟩,h2,g,h⟩
end Att
namespace L2
open PySem PySem.Spec PyProof.Rows
theorem rY:∀{vs:List Value}{ns:List Int},bY vs ns->bE (ns.map V.int) vs
 |_,_,.nil=>.nil
 |_,_,.cons n t h=>.cons ⟨t,rfl⟩ (rY h)
noncomputable abbrev KOf{K:ah}{h:Heap}(_:K.In h):ah:=K
noncomputable abbrev CX0:CXT:=fun _ _ _ _ _ _=>False
noncomputable abbrev E0:XK:=fun _ _ _=>False
structure Fun(K:ah)(x qual:Str)(st:Stmt)(f:Addr)(fd:gK):Prop where
 ex:∃(oc:Value)(od:Option Addr)(kV doc pm:Value)(an:Option Addr)(cdv ct:Value)(osl:Array (Option Value)),
  fd=aF x qual (bq st) (a8 st) (aP st) .none kV doc pm an cdv ct/\K.lookup f=some ⟨oc,od,.func fd,osl⟩/\fg K cdv qual=true
 kp:cS K (.ref f)=true
section
variable {P:Program}{w:World}{K:ah}{mg:Str->Option Value}{base:Heap}
theorem Fun.binds{st:Stmt}{fd:gK}{ps:List Str}(F:Fun K x qual st f fd)
  (h:∀(kV doc pm:Value)(an:Option Addr)(cdv ct:Value)(us:List Value),us.length=ps.length->qe (aF x qual (bq st) (a8 st) (aP st) .none kV doc pm an cdv ct) ⟨us,[]⟩=pure (ps.zip us)):Binds K fd ps []:=by
 obtain⟨oc,od,kV,doc,pm,an,cdv,ct,osl,rfl,b,a⟩:=F.ex;exact .all (h kV doc pm an cdv ct)
theorem CV{st:Stmt}{an:Option Addr}{kV:Value}(l:K.lookup f=some ⟨oc,od,.func (aF x qual (bq st) (a8 st) (aP st) .none kV doc pm an cdv ct),osl⟩)
  (c:fg K cdv qual=true)(k:cS K (.ref f)=true):Fun K x qual st f (aF x qual (bq st) (a8 st) (aP st) .none kV doc pm an cdv ct):=⟨⟨oc,od,kV,doc,pm,an,cdv,ct,osl,rfl,l,c⟩,k⟩
end
def aM(H H':Hp):Prop:=∀b o,H b=some o->H' b=some o
theorem aM.refl(H:Hp):aM H H:=fun _ _ h=>h
theorem aM.trans{H2:Hp}(a:aM H H1)(b:aM H1 H2):aM H H2:=fun c o h=>b c o (a c o h)
theorem aM.free(e:aM H H')(h:H' l=Option.none):H l=Option.none:=by
 cases q:H l with
 |none=>rfl
 |some o=>
  rw[e l o q]at h;cases h
theorem aM.seq(e:aM H H')(h:SqL K H a xs):SqL K H' a xs:=by
 rcases h with(h|⟨o,h⟩) |h
 ·exact .inl (.inl (e _ _ h))
 ·exact .inl (.inr ⟨o,e _ _ h⟩)
 ·exact .inr h
section
variable {κ:Type}[DecidableEq κ]
theorem Ac{kvs:List (κ×V)}{k:κ}(h:d5 kvs k=none):¬k∈kvs.map (·.1):=by
 intro m;obtain⟨p,hp,e⟩:=ax.mp m;have q:(kvs.any fun kv=>decide (kv.1=k))=true:=b8.mpr ⟨p,hp,decide_eq_true e⟩;rw[jJ,h]at q;exact absurd q (by simp)
theorem valV_in{kvs:List (κ×V)}{k:κ}{v:V}(h:d5 kvs k=some v):k∈kvs.map (·.1):=by
 have q:(kvs.any fun kv=>decide (kv.1=k))=true:=by
  rw[jJ,h];all_goals rfl
 obtain⟨p,hp,e⟩:=b8.mp q;exact ax.mpr ⟨p,hp,of_decide_eq_true e⟩
theorem DV:∀{l:List κ}{k:κ},l.Nodup->¬k∈l->(l++[k]).Nodup
 | [],k,_,_=>by simp
 |a::r,k,h,hk=>by
  obtain⟨h1,h2⟩:=bI.mp h;show(a::(r++[k])).Nodup;refine bI.mpr ⟨fun m=>?_,DV h2 fun m=>hk (aE.mpr (Or.inr m))⟩;rcases bQ.mp m with q|q
  ·exact h1 q
  ·exact hk (aE.mpr (Or.inl (aT.mp q).symm))
theorem nd_putK{kvs:List (κ×V)}{k:κ}(v:V)(a:(kvs.map (·.1)).Nodup)(h:d5 kvs k=none):((putK kvs k v).map (·.1)).Nodup:=by
 rw[HF v h,c7];exact DV a (Ac h)
end
noncomputable def fz(cells:List (Str×Addr)):List (Str×dS)->List (Str×Addr)->List (Str×Addr)
 | [],acc=>acc
 | (n,k)::r,acc=>fz cells r (if k=.free then(n,(cells.lookup n).getD 0)::acc else acc)
theorem p7{env:Env}{f:Str×dS->List (Str×Addr)->Sem (ForInStep (List (Str×Addr)))}
  (hf:∀n k a c,k=.free->env.cells.lookup n=some c->f (n,k) a=pure (.yield ((n,c)::a)))(b:∀n k a,k≠.free->f (n,k) a=pure (.yield a)):
  ∀(g:List (Str×dS))(acc:List (Str×Addr)),(∀y∈g,y.2=.free->∃c,env.cells.lookup y.1=some c)->forIn g acc f=(pure (fz env.cells g acc):Sem _)
 | [],acc,_=>rfl
 | (n,k)::r,acc,h=>by
  rw[List.forIn_cons];by_cases e:k=.free
  ·obtain⟨c,i⟩:=h (n,k) aL e
   rw[hf n k acc c e i];show forIn r ((n,c)::acc) f=_;rw[p7 hf b r _ fun y d=>h y (aO _ d)];simp[fz,e,i]
  ·rw[b n k acc e]
   show forIn r acc f=_;rw[p7 hf b r _ fun y d=>h y (aO _ d)];simp[fz,e]
theorem w9{env:Env}(h:∀y∈scope.names,y.2=.free->∃c,env.cells.lookup y.1=some c):Gw scope env=pure (fz env.cells scope.names []):=by
 have q:=p7 (env:=env) (f:=fun x cs=>match x with | (name,kind)=>if(kind==bW)=true then(do let a<-cellOf env name;pure (gX ((name,a)::cs)))else pure (gX cs))
  (fun n k a c e d=>by
   subst e;simp only[cellOf,d];rfl) (fun n k a e=>by
   have b:(k==bW)=false:=by simpa using e
   simp only[b,aU,if_false]) scope.names [] h
 unfold Gw;show(forIn scope.names [] _>>=fun r=>pure r)=_;exact(congrArg (·>>=fun r=>pure r) q).trans rfl
theorem kE{cells:List (Str×Addr)}:∀(a:List (Str×dS))(acc:List (Str×Addr))(x:Str)(c:Addr),(fz cells a acc).lookup x=some c->
  ((x,bW)∈a/\c=(cells.lookup x).getD 0)\/acc.lookup x=some c
 | [],acc,x,c,h=>.inr h
 | (n,k)::r,acc,x,c,h=>by
  rcases kE r _ x c h with⟨q,e⟩ |q
  ·exact .inl ⟨aO _ q,e⟩
  ·by_cases e:k=.free
   ·rw[if_pos e,bh]at q
    cases hx:x==n with
    |true=>
     rw[hx]at q;have b:x=n:=by simpa using hx
     subst b;subst e;exact .inl ⟨aL,(a6 q).symm⟩
    |false=>
     rw[hx]at q;exact .inr q
   ·rw[if_neg e]at q
    exact .inr q
theorem v8{cells:List (Str×Addr)}:∀(a:List (Str×dS))(acc:List (Str×Addr))(x:Str),(acc.lookup x).isSome=true->((fz cells a acc).lookup x).isSome=true
 | [],acc,x,h=>h
 | (n,k)::r,acc,x,h=>by
  refine v8 r _ x ?_;split
  ·rw[bh]
   cases x==n<;>simp_all
  ·exact h
theorem p8{cells:List (Str×Addr)}:∀(a:List (Str×dS))(acc:List (Str×Addr))(x:Str),(x,bW)∈a->((fz cells a acc).lookup x).isSome=true
 | [],acc,x,h=>by simp at h
 | (n,k)::r,acc,x,h=>by
  rcases aE.mp h with q|q
  ·cases q
   refine v8 r _ n ?_;simp[bh]
  ·exact p8 r _ x q
theorem fH:∀(a:List (Str×dS))(n:Nat)(acc:List (Str×Addr)),cE n a acc=cE n a []++acc
 | [],_,_=>rfl
 | (x,k)::r,n,acc=>by
  unfold cE;split
  ·rw[fH r (n+1) ((x,n)::acc),fH r (n+1) [(x,n)],gB]
   rfl
  ·exact fH r n acc
theorem kG:∀(a:List (Str×dS))(n:Nat)(acc:List (Str×Addr))(x:Str),(acc.lookup x).isSome=true->((cE n a acc).lookup x).isSome=true
 | [],_,_,_,h=>h
 | (y,k)::r,n,acc,x,h=>by
  unfold cE;split
  ·refine kG r _ _ x ?_
   rw[bh];cases x==y<;>simp_all
  ·exact kG r _ _ x h
theorem i3:∀(a:List (Str×dS))(n:Nat)(acc:List (Str×Addr))(x:Str),(x,cT)∈a->((cE n a acc).lookup x).isSome=true
 | [],_,_,_,h=>nomatch h
 | (y,k)::r,n,acc,x,h=>by
  unfold cE;rcases aE.mp h with q|q
  ·cases q
   rw[if_pos (by rfl)];refine kG r _ _ _ ?_;simp[bh]
  ·split
   ·exact i3 r _ _ x q
   ·exact i3 r _ _ x q
theorem kF:∀(a:List (Str×dS))(n:Nat)(acc:List (Str×Addr))(x:Str)(c:Addr),(x,c)∈cE n a acc->(x,cT)∈a\/(x,c)∈acc
 | [],_,_,_,_,h=>.inr h
 | (y,k)::r,n,acc,x,c,h=>by
  unfold cE at h;split at h
  ·rename_i hk
   rcases kF r _ _ x c h with q|q
   ·exact .inl (aO _ q)
   ·rcases aE.mp q with e|e
    ·cases e
     have :k=.cell:=by simpa using hk
     subst this;exact .inl aL
    ·exact .inr e
  ·rcases kF r _ _ x c h with q|q
   ·exact .inl (aO _ q)
   ·exact .inr q
theorem CZ{M:Model}{d:Addr}{b:List (Str×Addr)}{c:Value}{outer:Env}{a:Addr}{Q:Env->Shared->Prop}
  (h:Q (newEnv scope s.heap.objs.size d (cE (s.heap.objs.size+1) scope.names b) qual func c (some outer) a) {s with heap:=pushCells (s.heap.push {cls:=.type "dict",data:=.dict #[]}) scope.names}):
  wpAny M A (newFunctionEnv scope d b [] qual func c (some outer) a) Q E s:=by
 simp only[newFunctionEnv,iz,if_true];refine af (wpAny_alloc ?_);refine af (wpAny_layCells _ (fun name kind e=>by cases hkc:kind==cT<;>simp[hkc]) _ _ _ _ ?_);rw[show({s with heap:=s.heap.push {cls:=.type "dict",data:=.dict #[]}}:Shared).heap.objs.size=s.heap.objs.size+1 from bC ..];rw[z8];exact af (aj (aj h))
structure oJ(X:Cx)(N':List Str)(sc:Scope):Prop where
 kind:sc.kind=.function
 cellk:∀y∈sc.names,y.2=.cell->sc.names.lookup y.1=some .cell
 own:∀y∈sc.names,y.2=.local->sc.names.lookup y.1=some .local
 free:∀y∈sc.names,y.2=.free->X.env.kindOf y.1=some .cell\/X.env.kindOf y.1=some .free
noncomputable def dJ(X:Cx)(N':List Str)(sc:Scope)(C:Addr)(s₀:Shared)(H₀:Hp)(fp:List Addr):Cx:=
 {X with N:=N',s₀:=s₀,H₀:=H₀,env:=compEnvC sc (cE (C+1) sc.names (fz X.env.cells sc.names [])) C X.env,outer:=X.stack,stack:=X.stack,ex:=fp,fn:=fun x=>sc.names.any fun y=>decide (y.1=x)&&decide (y.2=.cell),pn:=[],xe:=fun _ _=>False}
theorem mY{env:Env}:∀{a:List (Str×dS)}{x:Str}{k:dS},
  (a.map fun(n,k)=>if(k==bW&&env.scope.kind== .function&&env.kindOf n==some .cell)then(n,cT)else(n,k)).lookup x=some k->
  a.lookup x=some k\/(a.lookup x=some .free/\k=.cell)
 | [],_,_,h=>by simp at h
 | (n,k)::r,x,k',h=>by
  have b:= @mY env r x k';rw[cn]at h;change jI x ((if(k==bW&&env.scope.kind== .function&&env.kindOf n==some .cell)=true then(n,cT)else(n,k))::_)=_ at h;cases hx:x==n with
  |true=>
   by_cases hc:(k==bW&&env.scope.kind== .function&&env.kindOf n==some .cell)=true
   ·rw[if_pos hc]at h
    simp only[bh,hx]at h⊢;have :k=.free:=by
     have :=hc
     simp only[aH]at this;simpa using this.1.1
    subst this;exact .inr ⟨rfl,(a6 h).symm⟩
   ·rw[if_neg hc]at h
    simp only[bh,hx]at h⊢;exact .inl h
  |false=>
   have e:jI x (r.map fun(n,k)=>if(k==bW&&env.scope.kind== .function&&env.kindOf n==some .cell)then(n,cT)else(n,k))=some k':=by
    split at h<;>simpa only[bh,hx]using h
   simp only[bh,hx];exact b e
theorem gG{env:Env}:∀{a:List (Str×dS)}{x:Str},a.lookup x=some .free->
  (a.map fun(n,k)=>if(k==bW&&env.scope.kind== .function&&env.kindOf n==some .cell)then(n,cT)else(n,k)).lookup x=some .free\/
  (a.map fun(n,k)=>if(k==bW&&env.scope.kind== .function&&env.kindOf n==some .cell)then(n,cT)else(n,k)).lookup x=some .cell
 | [],_,h=>by simp at h
 | (n,k)::r,x,h=>by
  have b:= @gG env r x;rw[cn];change jI x ((if(k==bW&&env.scope.kind== .function&&env.kindOf n==some .cell)=true then(n,cT)else(n,k))::_)=_\/jI x ((if(k==bW&&env.scope.kind== .function&&env.kindOf n==some .cell)=true then(n,cT)else(n,k))::_)=_;cases hx:x==n with
  |true=>
   simp only[bh,hx]at h;cases h;by_cases hc:(bW==bW&&env.scope.kind== .function&&env.kindOf n==some .cell)=true
   ·rw[if_pos hc];right;simp only[bh,hx]
   ·rw[if_neg hc];left;simp only[bh,hx]
  |false=>
   simp only[bh,hx]at h;split <;>simpa only[bh,hx]using b h
theorem fX{env:Env}:∀{a:List (Str×dS)}{x:Str}{k:Option dS},a.lookup x=k->k≠some .free->
  (a.map fun(n,k)=>if(k==bW&&env.scope.kind== .function&&env.kindOf n==some .cell)then(n,cT)else(n,k)).lookup x=k
 | [],_,_,h,_=>by simpa using h
 | (n,k)::r,x,k',h,hf=>by
  have d:= @fX env r x k';rw[cn];change jI x ((if(k==bW&&env.scope.kind== .function&&env.kindOf n==some .cell)=true then(n,cT)else(n,k))::_)=_;cases hx:x==n with
  |true=>
   simp only[bh,hx]at h;have c:k≠.free:=fun e=>hf (by rw[<-h,e]);have b:(k==bW)=false:=by simpa using c
   rw[if_neg (by rw[b];simp)];simp only[bh,hx];exact h
  |false=>
   simp only[bh,hx]at h;split <;>simpa only[bh,hx]using d h hf
theorem xO{a:List (Str×Addr)}{env:Env}{k:dS}(h:(compEnvC sc a C env).kindOf x=some k):sc.names.lookup x=some k\/(sc.names.lookup x=some .free/\k=.cell):=mY (env:=env) h
theorem C3{R:Result->Shared->Prop}{elt a:Expr}{ifs:List Expr}{it acc:Value}{env:Env}(I:Nat->Shared->Prop)
  (turn:∀n s,I n s->wpAny (model prog w) A (pyNext it) (fun r b=>match r with
   |none=>R (.ok .next) b
   |some v=>wpAny (model prog w) A (rR a it v) (fun _ g=>wpAny (model prog w) A (assign a env v) (fun _ i=>
     wpAny (model prog w) A (forIn ifs true fun c r=>if r=true then do let ok<-isTrue c env (eval c env);pure (gX ok)else pure (gX r)) (fun ok d=>
      if ok=true then wpAny (model prog w) A (eval elt env) (fun x j=>
       wpAny (model prog w) A (call (.builtin "list.append") [acc,x]) (fun _ k=>∃m,m<n/\I m k) (fun _ _=>False) j) (fun _ _=>False) d
      else ∃m,m<n/\I m d) (fun _ _=>False) i) (fun _ _=>False) g) (fun _ _=>False) b) (fun _ _=>False) s)
  (n:Nat) (h:I n s):
  i4 (model prog w) A (.compLoop (.ListComp elt [⟨a,iter,ifs,0⟩] scope pos) 0 it acc env) R s:=by
 refine codeAny_loop rfl I (fun n s l=>?_) n h;show wpAny _ A ((compTurn (.ListComp elt [⟨a,iter,ifs,0⟩] scope pos) 0 it acc env).onRaise (fun x=>do mI x env;theTreesLotGoes x)) _ _ s;refine wpAny_noted ?_;rw[compTurn_list];refine af (JX (af (gy (turn n s l) (fun r b e=>?_) fun _ _ h'=>h'.elim)));cases r with
 |none=>exact aj e
 |some v=>
  refine af (gy e (fun _ g o=>?_) fun _ _ h'=>h'.elim);refine af (gy o (fun _ i p=>af (gy p (fun ok d f=>?_) fun _ _ h'=>h'.elim)) fun _ _ h'=>h'.elim);cases ok with
  |false=>exact aj ⟨rfl,f⟩
  |true=>
   exact af (af (gy f (fun x j q=>af (gy q (fun _ k t=>aj (aj ⟨rfl,t⟩)) fun _ _ h'=>h'.elim)) fun _ _ h'=>h'.elim))
def PTs(X:Cx)(ifs:List Expr)(t:TT):Prop:=
 ∀(pins:List (Addr×Obj))(s:Shared)(σ:St)(H:Hp)(Q:Bool->Hp->Prop),Inv X pins σ H s->t σ H Q->
  wpAny (model X.prog X.w) X.A (forIn ifs true fun c r=>if r=true then do let ok<-isTrue c X.env (eval c X.env);pure (gX ok)else pure (gX r)) (TP X pins σ Q) X.xe s
noncomputable def GZ:TT:=fun _ H Q=>Q true H
theorem pts_nil:PTs X [] GZ:=by
 intro pins s σ H Q I h;rw[z8];exact aj ⟨H,I,h⟩
theorem pts_one{c:Expr}{t:TT}(h:PT X c t):PTs X [c] t:=by
 intro pins s σ H Q I a;rw[List.forIn_cons];simp only[if_true];refine af (af (thn (h pins s σ H Q I a) fun b d q=>?_));refine aj ?_;show wpAny _ _ (forIn ([]:List Expr) b _) _ _ d;rw[z8];exact aj q
noncomputable def uQ(wi:TI)(g:TG)(tc:TT)(te:TE)(mk:St->St):TE:=fun σ H Q=>wi σ H fun J H1=>∃W:Nat->Nat->St->List V->Hp->Prop,(∃m,W 0 m (mk σ) [] H1)/\
 ∀i m h acc H2,W i m h acc H2->(J.stop i H2/\∀l,H2 l=none->Q (.ref l) (upd H2 l (.lst acc)))\/(J.go i H2/\∃N:St->List V->Hp->Prop,(∀j e H',N j e H'->∃f,f<m/\W (i+1) f j e H')/\
  ∀x c,J.yld i H2 x c->g x h c fun a k=>tc a k fun b d=>if b=true then te a d fun v n=>acc.length<sizeLine/\N a (acc++[v]) n else N a acc d)
theorem Inv.track{o:HO}(I:Inv X pins σ H s)(hf:rG X pins H a)(k:dP X.prog X.w (upd H a o) s.heap a o):Inv X pins σ (upd H a o) s:=by
 obtain⟨h0,h1,h2,g,h,i⟩:=hf;have :=I.step (g':=s.gens) (d':=s.drawn) (t':=s.toks) (h':=s.heap) (H':=upd H a o) (ch:=[a]) (fun b d=>by
   have e:b=a:=by simpa using d
   subst e;exact⟨g,h1,h,i⟩)
  (fun b f _ _ _ q _=>q) (fun b f _ _ _ q _=>⟨f.slots,q⟩) (fun b f d q n=>by rw[bo (fun z=>d (by simp[z]))];exact n) (fun b f _ q=>⟨f,q⟩)
  (fun b xs q=>by rw[bo (bR q h0)];exact q) (fun b f u q=>by rw[bo (bR q h0)];exact q) (fun b ps q=>⟨#[],by rw[bo (bR q h0),q];simp⟩)
  (fun m j=>j) (fun b u q=>by
   by_cases d:b=a
   ·subst d;rw[ao]at q;cases q;exact k
   ·rw[bo d]at q
    exact(I.hok b u q).oV (fun c v _ e=>e) (fun c e=>by rw[bo (bR e h0)];exact e) fun c xs e=>by rw[bo (bR e h0)];exact e) I.bare
 exact this
theorem Dd{Q:Value->Shared->Prop}(I:Inv X pins σ H s)(hf:rG X pins H a)
  (e:s.heap.get? a=some {cls:=.type "list",data:=.seq its.toArray n}) (hz:its.length<sizeLine)
  (h:∀h' j,Inv X pins σ H {s with heap:=h'}->h'.get? a=some {cls:=.type "list",data:=.seq (its++[u]).toArray j}->(∀b o,b≠a->s.heap.get? b=some o->h'.get? b=some o)->Q .none {s with heap:=h'}):
  wpAny (model X.prog X.w) X.A (call (.builtin "list.append") [.ref a,u]) Q E s:=by
 refine j8 F.slot_list_append ⟨_,e,rfl⟩ F.entry_list_append (F.args_list_append_2 _ _) (PySem.list_append a its.toArray n u (by rw[au];lia)) ⟨e,?_⟩;have q:=Gy e (·.push u);have c:its.toArray.push u=(its++[u]).toArray:=by simp
 rw[c]at q;have k:∀b o,b≠a->s.heap.get? b=some o->(s.heap.update a (aV (·.push u))).get? b=some o:=fun b o i z=>(aX s.heap _ (bS i)).trans z;obtain⟨h0,h1,h2,d,f,g⟩:=hf;exact h _ _ (I.turned (t':=s.toks) k h0 h1 d f g) q k
section
variable {X:Cx}{N':List Str}{sc:Scope}{elt tg iter:Expr}{ifs:List Expr}{pos:Pos}{wi:TI}{g:TG}{tc:TT}{te:TE}{mk:St->St}
def MkOk(X:Cx)(N':List Str)(sc:Scope)(mk:St->St):Prop:=
 ∀σ:St,σ.length=X.N.length->(mk σ).length=N'.length/\∀(i:Nat)(x:Str)(v:V),N'[i]? =some x->(mk σ)[i]? =some (some v)->sc.names.lookup x=some .free/\∃j:Nat,X.N[j]? =some x/\σ[j]? =some (some v)
theorem xW{Q:VK}{use:Option (Value->Sem Unit)}(S:oJ X N' sc)(hm:MkOk X N' sc mk)(Y:X.calm=true)
  (hi:PI X tg iter wi)
  (a:∀C a4 a1 fp,(dJ X N' sc C a4 a1 fp).Ok->PG (dJ X N' sc C a4 a1 fp) tg g/\PTs (dJ X N' sc C a4 a1 fp) ifs tc/\PE (dJ X N' sc C a4 a1 fp) elt te)
  (hs:∀x,jC iter X.env x=pure x)(I:Inv X pins σ H s)(h:uQ wi g tc te mk σ H Q)
  (e4:∀(l C:Addr)(H':Hp)(s':Shared)(m:Str->Option Value),Inv X pins σ H' s'->s'.heap.Ns C m->rG X pins H' C->(∃o,s'.heap.get? C=some o/\∀v,o.data≠.cell v)->Q (.ref l) H'->compPost (model X.prog X.w) X.A X.xe use QQ (.ref l) C (.ok .next) s'):
  wpAny (model X.prog X.w) X.A (comprehension (.ListComp elt [⟨tg,iter,ifs,0⟩] sc pos) sc X.env (firstIterPos [⟨tg,iter,ifs,0⟩] pos) (newList []) false (eval iter X.env) use) QQ X.xe s:=by
 have c3:∀y∈sc.names,y.2=.free->∃c,X.env.cells.lookup y.1=some c:=fun y hy hf=>I.ok.has _ (S.free y hy hf);refine wpAny_comprehension_free (use:=use) rfl hs (w9 c3) S.kind S.own ?_;refine thn (hi pins s σ H _ I h) fun v s1 h1=>thn h1 fun g9 s2 h2=>?_;obtain⟨it,fp,tn,J,H2,e,F,T,d0,V,d8,⟨m0,w0⟩,turn⟩:=h2;subst e
 --the list
 refine bw ?_;have f0:H2 s2.heap.objs.size=none:=F.fresh;have fD:rG X pins H2 s2.heap.objs.size:=F.zx (ay _) f0;have b7:(s2.heap.push {cls:=.type "list",dict:=none,data:=.seq ([]:List Value).toArray}).get? s2.heap.objs.size=some {cls:=.type "list",data:=.seq ([]:List Value).toArray 0}:=az _ rfl;have t:Inv X pins σ H2 {s2 with heap:=s2.heap.push {cls:=.type "list",dict:=none,data:=.seq ([]:List Value).toArray}}:=F.kept (t':=s2.toks) fun b o e=>ag _ e
 --the block's frame
 refine CZ ?_;dsimp only;have b1:(s2.heap.push {cls:=.type "list",dict:=none,data:=.seq ([]:List Value).toArray}).objs.size=s2.heap.objs.size+1:=bC ..;have c1:s2.heap.objs.size≠(s2.heap.push {cls:=.type "list",dict:=none,data:=.seq ([]:List Value).toArray}).objs.size:=by rw[b1];exact aK (dO _)
 have O:∀b o,s2.heap.get? b=some o->(s2.heap.push {cls:=.type "list",dict:=none,data:=.seq ([]:List Value).toArray}).get? b=some o:=fun b o e=>ag _ e;generalize hH3:s2.heap.push {cls:=.type "list",dict:=none,data:=.seq ([]:List Value).toArray}=P3 at t b1 b7 c1 O⊢;generalize hD:s2.heap.objs.size=D0 at *;have c4:(pushCells (P3.push {cls:=.type "dict",data:=.dict #[]}) sc.names).Ns P3.objs.size (fun _=>none):=(Heap.Ns.new P3 (.type "dict")).keeps (pushCells_keeps _ _);have P:∀b o,P3.get? b=some o->(pushCells (P3.push {cls:=.type "dict",data:=.dict #[]}) sc.names).get? b=some o:=fun b o e=>pushCells_keeps _ _ b o (ag _ e);have R:=cellsFrom_ok sc.names (P3.push {cls:=.type "dict",data:=.dict #[]}) (P3.objs.size+1) [] ⟨fun _ _ hm=>(nomatch hm),oY⟩ (by rw[bC];exact ay _);rw[bC]at R;generalize pushCells (P3.push {cls:=.type "dict",data:=.dict #[]}) sc.names=h4 at c4 P R⊢
 --the context
 have c0:∀b∈fp,b<D0:=fun b a=>by
  obtain⟨o,e,_⟩:=T.obj _ _ d0 b a;rw[<-hD];exact aB e
 have a7:D0<P3.objs.size:=by rw[b1];exact dO _
 have B:∀x c,(fz X.env.cells sc.names []).lookup x=some c->X.env.cells.lookup x=some c/\(x,bW)∈sc.names:=fun x c e=>by
  rcases kE _ _ x c e with⟨q,e'⟩ |q
  ·obtain⟨c',Z⟩:=c3 _ q rfl
   have e8:X.env.cells.lookup x=some c':=Z;rw[e8]at e'⊢;exact⟨by rw[e'];rfl,q⟩
  ·simp at q
 have b6:∀x c,(fz X.env.cells sc.names []).lookup x=some c->c<P3.objs.size:=fun x c e=>by
  obtain⟨v,o,f,_⟩:=t.cell x c (B x c e).1;exact aB f
 have N:∀x c,(cE (P3.objs.size+1) sc.names (fz X.env.cells sc.names [])).lookup x=some c->((x,c)∈cE (P3.objs.size+1) sc.names []/\P3.objs.size+1<=c/\h4.IsCell c none)\/(fz X.env.cells sc.names []).lookup x=some c:=fun x c e=>by
  rw[fH,tL]at e;cases f:(cE (P3.objs.size+1) sc.names []).lookup x with
  |none=>
   rw[f]at e;exact .inr e
  |some c'=>
   rw[f]at e;cases e;have m:=bu f;exact .inl ⟨m,(R.empty x c m).2,(R.empty x c m).1⟩
 have b5:∀x,sc.names.lookup x=some .free->(cE (P3.objs.size+1) sc.names (fz X.env.cells sc.names [])).lookup x=(fz X.env.cells sc.names []).lookup x:=fun x hf=>by
  rw[fH,tL];cases f:(cE (P3.objs.size+1) sc.names []).lookup x with
  |none=>rfl
  |some c'=>
   rcases kF _ _ _ _ _ (bu f)with q|q
   ·have :=S.cellk _ q rfl
    rw[hf]at this;cases this
   ·cases q
 have G:∀b∈D0::fp,rG X pins H2 b/\b<P3.objs.size:=fun b a=>by
  rcases aE.mp a with z|z
  ·rw[z];exact⟨fD,a7⟩
  ·exact⟨V b z,hW (c0 b z) a7⟩
 have ok:(dJ X N' sc P3.objs.size {s2 with heap:=P3} H2 (D0::fp)).Ok:=by
  refine⟨I.ok.mod,S.kind,I.ok.glob,I.ok.blt,ay _,fun x y c h1 h2=>?_,fun x hx=>?_,fun x c z=>?_,fun z=>I.ok.hd z,I.ok.frames,.inl rfl,fun b a=>⟨?_,fun x c e=>?_⟩,t.bs,aG I.ok.bsz t.sz,fun b o e a=>?_,fun b a z=>?_,t.stack,t.yA⟩
  ·rcases N x c h1 with⟨m1,l1,_⟩ |q1<;>rcases N y c h2 with⟨m2,l2,_⟩ |q2
   ·exact PySem.name_of_addr R.apart m1 m2
   ·exact absurd l1 (Nat.not_le.mpr (bG (b6 y c q2)))
   ·exact absurd l2 (Nat.not_le.mpr (bG (b6 x c q1)))
   ·exact I.ok.inj x y c (B x c q1).1 (B y c q2).1
  ·have q:sc.names.lookup x=some .free\/sc.names.lookup x=some .cell:=by
    rcases hx with hx|hx
    ·rcases xO hx with q|q
     ·exact .inr q
     ·exact .inl q.1
    ·rcases xO hx with q|q
     ·exact .inl q
     ·exact .inl q.1
   rcases q with q|q
   ·have h1:=eR.mp (p8 (cells:=X.env.cells) _ [] _ (bu q))
    show ∃c,(cE (P3.objs.size+1) sc.names (fz X.env.cells sc.names [])).lookup x=some c;rw[b5 x q];exact h1
   ·exact eR.mp (i3 _ _ _ _ (bu q))
  ·have z:(sc.names.any fun y=>decide (y.1=x)&&decide (y.2=cT))=true:=z
   obtain⟨y,hy,e⟩:=b8.mp z;rw[aH,decide_eq_true_eq,decide_eq_true_eq]at e;intro Y;rcases N x c Y with⟨_,l1,_⟩ |q1
   ·show P3.objs.size<=c
    lia
   ·have hk:=S.cellk y hy e.2
    rw[e.1]at hk;rcases kE _ _ x c q1 with⟨q,_⟩ |q
    ·have h2:(cE (P3.objs.size+1) sc.names []).lookup x≠none:=fun h=>by
      have :=i3 sc.names (P3.objs.size+1) [] x (bu hk)
      rw[h]at this;cases this
     have Z:(cE (P3.objs.size+1) sc.names (fz X.env.cells sc.names [])).lookup x=some c:=Y;rw[fH,tL]at Z;cases f:(cE (P3.objs.size+1) sc.names []).lookup x with
     |none=>exact absurd f h2
     |some c'=>
      rw[f]at Z;cases Z;have :=(R.empty x c (bu f)).2;show P3.objs.size<=c;lia
    ·cases q
  ·exact aK (G b a).2
  ·rcases N x c e with⟨_,l1,_⟩ |q1
   ·have :=(G b a).2
    exact fun z=>by subst z;lia
   ·exact(G b a).1.2.2.2.2.1 x c (B x c q1).1
  ·rcases(G b a).1.2.2.2.1 with z|z
   ·exact I.ok.noex b o e z
   ·exact absurd (aY (aB e) (aG I.ok.bsz z)) (du _)
  ·rcases aE.mp (F.B7 b z)with q|q
   ·exact(G b a).1.2.1 q
   ·exact(G b a).1.2.2.1 q
 obtain⟨pg,pt,pe⟩:=a _ _ _ _ ok;have I4:Inv (dJ X N' sc P3.objs.size {s2 with heap:=P3} H2 (D0::fp)) [] (mk σ) H2 {s2 with heap:=h4}:=by
  obtain⟨ml,f1⟩:=hm σ I.len;have c7:∀x c v,X.env.cells.lookup x=some c->P3.IsCell c v->h4.IsCell c v:=fun x c v e ⟨o,f,hd⟩=>⟨o,P c o f,hd⟩;refine⟨ok,rfl,F.bare,Un.kept P,⟨_,c4,fun i x v e1 e2 e3=>?_⟩,fun x c e=>?_,t.hok.fresh (ay _),fun x c e=>?_,fun p hp=>absurd (show p∈([]:List (Addr×Obj))from hp) (by simp),t.hok.kept P,ml⟩
  ·obtain⟨hf,j,hj,hv⟩:=f1 i x v e1 e2
   obtain⟨m,K,hl⟩:=t.loc;have kx:=S.free (x,.free) (bu hf) rfl;obtain⟨u,r,l⟩:=hl j x v hj hv (by
    rcases kx with q|q
    ·exact .inr (.inl q)
    ·exact .inr (.inr q))
   refine⟨u,r,.inr ⟨?_,?_⟩⟩
   ·rcases gG (env:=X.env) hf with q|q
    ·exact .inr q
    ·exact .inl q
   ·rcases l with⟨q,_⟩ |⟨_,c,c2,e9⟩
    ·have c6:X.env.kindOf x=some .cell\/X.env.kindOf x=some .free:=kx
     rw[q]at c6;rcases c6 with z|z<;>cases z
    ·obtain⟨c',q⟩:=eR.mp (p8 (cells:=X.env.cells) _ [] _ (bu hf))
     have :=(B x c' q).1
     rw[c2]at this;cases this;exact⟨c,by show(cE (P3.objs.size+1) sc.names (fz X.env.cells sc.names [])).lookup x=some c;rw[b5 x hf];exact q,c7 x c _ c2 e9⟩
  ·rcases N x c e with⟨_,_,hv⟩ |q1
   ·exact⟨none,hv⟩
   ·obtain⟨v,hv⟩:=t.cell x c (B x c q1).1
    exact⟨v,c7 x c v (B x c q1).1 hv⟩
  ·rcases N x c e with⟨_,l1,_⟩ |q1
   ·exact t.hok.fresh (by show P3.objs.size<=c;lia)
   ·exact t.freeC x c (B x c q1).1
 have d3:tn 0 h4:=T.keep _ _ _ d0 fun b a o e=>P b o (O b o e);have f4:∀{H':Hp}{b:Addr},b∈D0::fp->H' b=none->rG (dJ X N' sc P3.objs.size {s2 with heap:=P3} H2 (D0::fp)) [] H' b:=fun{H' b} a K=>
  ⟨K,(ok.exf b a).1,ok.exfs b a,.inl a,(ok.exf b a).2,fun p hp=>absurd (show p∈([]:List (Addr×Obj))from hp) (by simp)⟩
 have a2:∀{b:Addr},b∈fp->b∈D0::fp:=fun a=>aO _ a;have nD:∀b∈fp,b≠D0:=fun b a=>aK (c0 b a)
 --the b0
 have b0:i4 (model X.prog X.w) X.A (.compLoop (.ListComp elt [⟨tg,iter,ifs,0⟩] sc pos) 0 (.ref it) (.ref D0) (compEnvC sc (cE (P3.objs.size+1) sc.names (fz X.env.cells sc.names [])) P3.objs.size X.env))
   (compPost (model X.prog X.w) X.A X.xe use QQ (.ref D0) P3.objs.size) {s2 with heap:=h4}:=by
  refine C3 (fun n s'=>∃i D acc H' its k,Inv (dJ X N' sc P3.objs.size {s2 with heap:=P3} H2 (D0::fp)) [] D H' s'/\tn i s'.heap/\(∀b∈D0::fp,H' b=none)/\bE acc its/\acc.length<=sizeLine/\
    s'.heap.get? D0=some {cls:=.type "list",data:=.seq its.toArray k}/\d8 i n D acc H') ?_ m0
   ⟨0,mk σ,[],_,[],0,I4,d3,fun b a=>(G b a).1.1,.nil,aR _,P _ _ b7,w0⟩
  rintro n A ⟨i,D,acc,E,its,kk,I5,d4,W,a5,c5,e5,w5⟩;have b3:Inv (dJ X N' sc P3.objs.size {s2 with heap:=P3} H2 (D0::fp)) ([]++jl [D0] A.heap) D E A:=by
   refine I5.pinned (fun b a=>?_) (fun b a=>?_)
   ·have z:b=D0:=by simpa using a
    rw[z];exact f4 aL (W D0 aL)
   ·have z:b=D0:=by simpa using a
    rw[z];exact⟨_,e5,fun v z=>by cases z⟩
  obtain q|⟨go,NN,hN,step⟩:=turn i n D acc E w5
  ·obtain⟨g5,q⟩:=q
   refine thn (T.done (dJ X N' sc P3.objs.size {s2 with heap:=P3} H2 (D0::fp)) rfl rfl rfl Y i _ A D E (fun _ _=>False) b3 (fun b a=>?_) d4 g5) fun r L ⟨hr,b4⟩=>?_
   ·obtain⟨g0,g1,g2,g3,g4,_⟩:=f4 (a2 a) (W b (a2 a))
    refine⟨g0,g1,g2,g3,g4,fun p hp=>?_⟩;have a9:p∈jl [D0] A.heap:=by simpa[dJ]using hp
    obtain⟨z,_⟩:=sk a9;have z':p.1=D0:=by simpa using z
    rw[z'];exact(nD b a).symm
   subst hr;have M:=b4.iA;have e6:L.heap.get? D0=some {cls:=.type "list",data:=.seq its.toArray kk}:=(b4.pin (D0,_) (aS _ (aS _ (iU (by simp) e5)))).1
   --back in the context around
   have un:Un (frs X.stack) fp H2 E s2.heap L.heap:=by
    have u:=M.base;have nb:∀b o,s2.heap.get? b=some o->b∉fp->b∉D0::fp:=fun b o e a z=>by
     rcases aE.mp z with z|z
     ·exact absurd (aB e) (by rw[z,hD];exact du _)
     ·exact a z
    exact⟨fun b o e n a hx=>u.keep b o (O b o e) n a (nb b o e hx),fun b o e n a hx=>u.slot b o (O b o e) n a (nb b o e hx),fun b o e n hx=>u.free b o (O b o e) n (nb b o e hx),fun b o e hx=>u.there b o (O b o e) (nb b o e hx),u.tups,u.frzs,u.tbls⟩
   have I7:Inv X pins σ E L:=by
    obtain⟨hh,g6,d6,t6,f7⟩:=L;have eo:f7=s2.os:=M.os;subst eo;exact F.call (h':=hh) (g':=g6) (d':=d6) (t':=t6) (ch:=fp) un M.hok M.bare fun b a=>⟨(V b a).2.2.2.1,(V b a).2.1,(V b a).2.2.2.2.1,(V b a).2.2.2.2.2⟩
   have e0:rG X pins E D0:=⟨W D0 aL,fD.2⟩;have I8:=I7.track (o:=.lst acc) e0 (show dP X.prog X.w _ L.heap D0 (.lst acc)from⟨c5,its,kk,a5,e6⟩);obtain⟨m,K,_⟩:=id M.loc;refine e4 _ P3.objs.size _ L m I8 K (F.zx (by rw[hD];exact kM a7) (by rw[bo (bS c1)];exact M.free)) ?_ (q D0 (W D0 aL));obtain⟨o,es,ep,f,hd,_⟩:=K;exact⟨o,f,fun v z=>by rw[hd]at z;cases z⟩
  ·skip
   have b9:∀{H':Hp}{b:Addr},b∈fp->H' b=none->rG (dJ X N' sc P3.objs.size {s2 with heap:=P3} H2 (D0::fp)) ([]++jl [D0] A.heap) H' b:=fun{H' b} a K=>by
    obtain⟨g0,g1,g2,g3,g4,_⟩:=f4 (H':=H') (a2 a) K;refine⟨g0,g1,g2,g3,g4,fun p hp=>?_⟩;have a9:p∈jl [D0] A.heap:=by simpa[dJ]using hp
    obtain⟨z,_⟩:=sk a9;have z':p.1=D0:=by simpa using z
    rw[z'];exact(nD b a).symm
   refine thn (T.item (dJ X N' sc P3.objs.size {s2 with heap:=P3} H2 (D0::fp)) rfl rfl rfl Y i _ A D E (fun _ _=>False) b3 (fun b a=>b9 a (W b (a2 a))) d4 go) fun r L ⟨u,hr,h6⟩=>?_;subst hr;refine thn h6 fun _ s7 ⟨x,H7,I7,r7,y7,a3,e7⟩=>?_;have d7:=I7.pinned (fun b a=>b9 a (e7 b a)) (T.obj _ _ a3);refine thn (pg _ s7 D H7 x u _ d7 r7 (step x H7 y7)) fun _ s8 ⟨U,H8,I8,q8⟩=>?_;refine thn (pt _ s8 U H8 _ I8 q8) fun b s9 ⟨H9,I9,q9⟩=>?_;have c8:∀{a0:St}{H':Hp}{s':Shared},Inv (dJ X N' sc P3.objs.size {s2 with heap:=P3} H2 (D0::fp)) ([]++jl [D0] A.heap++jl fp s7.heap) a0 H' s'->s'.heap.get? D0=some {cls:=.type "list",data:=.seq its.toArray kk}/\H' D0=none:=fun{a0 H' s'} J=>by
    have :=J.pin (D0,_) (aS _ (cj _ (aS _ (iU (by simp) e5))))
    exact⟨this.1,this.2.1⟩
   have c9:∀{a0:St}{H':Hp}{s':Shared},Inv (dJ X N' sc P3.objs.size {s2 with heap:=P3} H2 (D0::fp)) ([]++jl [D0] A.heap++jl fp s7.heap) a0 H' s'->(∀b∈fp,∀o,s7.heap.get? b=some o->s'.heap.get? b=some o)/\(∀b∈fp,H' b=none):=fun{a0 H' s'} J=>by
    refine⟨fun b a o e=>(J.pin (b,o) (aS _ (aS _ (iU a e)))).1,fun b a=>?_⟩;obtain⟨o,e,d⟩:=T.obj _ _ a3 b a;exact(J.pin (b,o) (aS _ (aS _ (iU a e)))).2.1
   cases b with
   |false=>
    rw[if_neg (by decide)]at q9⊢;obtain⟨m',a8,w7⟩:=hN U acc H9 q9;obtain⟨d1,d2⟩:=c8 I9;obtain⟨p1,p2⟩:=c9 I9;refine⟨m',a8,i+1,U,acc,H9,its,kk,I9.iA.iA,T.keep _ _ _ a3 p1,fun b a=>?_,a5,c5,d1,w7⟩;rcases aE.mp a with z|z
    ·rw[z];exact d2
    ·exact p2 b z
   |true=>
    rw[if_pos rfl]at q9⊢;refine thn (pe _ s9 U H9 _ I9 q9) fun y h0 ⟨z,b2,a6,f9,f8⟩=>?_;obtain⟨g8,f6⟩:=f8;obtain⟨m',a8,w7⟩:=hN U _ b2 f6;obtain⟨d1,d2⟩:=c8 a6;obtain⟨p1,p2⟩:=c9 a6;have g7:its.length=acc.length:=a5.length.symm;refine Dd (X:=dJ X N' sc P3.objs.size {s2 with heap:=P3} H2 (D0::fp)) a6.iA.iA (f4 aL d2) d1 (by lia) fun h' n' d5 d9 f5=>?_;refine⟨m',a8,i+1,U,acc++[z],b2,its++[y],n',d5,T.keep _ _ _ a3 fun b a o e=>f5 b o (nD b a) (p1 b a o e),fun b a=>?_,a5.append (.cons f9 .nil),?_,d9,w7⟩
    ·rcases aE.mp a with w|w
     ·rw[w];exact d2
     ·exact p2 b w
    ·rw[aN,dH];lia
 exact codeAny_compStart_list b0 (T.self _ 0 _ _ _ d3 b0)
theorem pe_comp(S:oJ X N' sc)(p:MkOk X N' sc mk)(n:X.calm=true)(hi:PI X tg iter wi)
  (f:∀C d c fp,(dJ X N' sc C d c fp).Ok->PG (dJ X N' sc C d c fp) tg g/\PTs (dJ X N' sc C d c fp) ifs tc/\PE (dJ X N' sc C d c fp) elt te)
  (t:∀x,jC iter X.env x=pure x:=by intro _;rfl):PE X (.ListComp elt [⟨tg,iter,ifs,0⟩] sc pos) (uQ wi g tc te mk):=by
 intro pins s σ H Q I h;rw[eval_ListComp];refine xW (use:=none) S p n hi f t I h fun l C H' s' m i r a v q=>⟨m,r,fun k u=>?_⟩;have j:Inv X pins σ H' {s' with heap:=k,toks:=s'.toks}:=i.turned (fun b o f e=>u.extBut b o f e) a.1 a.2.1 a.2.2.2.1 a.2.2.2.2.1 a.2.2.2.2.2;exact⟨.ref l,H',j,rfl,q⟩
theorem Ci{w:Pos}(S:oJ X N' sc)(M:MkOk X N' sc mk)(L:X.calm=true)(hi:PI X tg iter wi)
  (j:∀C f d fp,(dJ X N' sc C f d fp).Ok->PG (dJ X N' sc C f d fp) tg g/\PTs (dJ X N' sc C f d fp) ifs tc/\PE (dJ X N' sc C f d fp) elt te)
  (K:X.N.Nodup)(T:X.N[i]? =some x)(u:X.env.scope.names.lookup x=some .local)
  (R:uD (.ListComp elt [⟨tg,iter,ifs,0⟩] sc pos) (some (.Name x pos')) w.line X.env=pure true)
  (P:∀x,jC iter X.env x=pure x:=by intro _;rfl):PS X (.Assign [.Name x pos'] (.ListComp elt [⟨tg,iter,ifs,0⟩] sc pos) w) (yy (uQ wi g tc te mk) (km i)):=by
 intro pins s σ H D I h;rw[exec_Assign_Name_used _ _ _ _ R];refine af (JX (af ?_));show wpAny _ X.A (do let _<-comprehension (.ListComp elt [⟨tg,iter,ifs,0⟩] sc pos) sc X.env (firstIterPos [⟨tg,iter,ifs,0⟩] pos) (newList []) false (eval iter X.env) (some (assign (.Name x pos') X.env))) _ _ s;refine af (thn (xW (use:=some (assign (.Name x pos') X.env)) (QQ:=fun _ s'=>SP X pins D .next s') S M L hi j P I h fun l C H' s' m k N a J q=>?_) fun _ s' hq=>aj (aj hq));obtain⟨c,t,E⟩:=id J;have A:Inv X (pins++[(C,c)]) σ H' s':=k.yT fun p hp=>(bQ.mp hp).elim (fun z=>k.pin p (aS _ z)) fun z=>by
  have e:p=(C,c):=by simpa using z
  subst e;exact⟨t,a.1,a.2.1,a.2.2.1,E⟩
 show wpAny _ X.A (assign (.Name x pos') X.env (.ref l)) _ _ s';refine thn (DP (i:=i) K T (.inl u) (.inr u) (pins++[(C,c)]) s' σ H' (.ref l) (.ref l) D.nx A rfl q) fun _ s2 ⟨y,H2,n,V⟩=>?_;obtain⟨F,U,_,_,_⟩:=n.pin (C,c) (aS _ (aS _ (by simp)));have O:s2.heap.Ns C m:=by
  obtain⟨o,es,ep,v,r⟩:=N;have :o=c:=by rw[t]at v;exact(a6 v).symm
  subst this;exact⟨o,es,ep,F,r⟩
 refine⟨m,O,fun G Q=>?_⟩;have B:Inv X pins y H2 {s2 with heap:=G,toks:=s2.toks}:=n.iA.turned (fun b o j e=>Q.extBut b o j e) U a.2.1 a.2.2.2.1 a.2.2.2.2.1 a.2.2.2.2.2;exact⟨y,H2,B,V⟩
end
section
variable {X:Cx}
theorem Bi:fB X (.builtin "isinstance") (fun xs H Q=>∃x T t b,xs=[x,.ty T]/\mO X.K H x t/\iP X.K t (.type T)=some b/\Q (.bl b) H):=by
 intro pins s σ H xs us Q I f h;obtain⟨x,T,t,b,rfl,ty,e,q⟩:=h;obtain⟨u,c,rfl,d,a⟩:=f.two;cases a;exact xP I d ty e fun tk=>⟨.bl b,H,I.tok tk,rfl,q⟩
theorem zJ:fB X (.builtin "isinstance") (fun xs H Q=>∃x C t b,xs=[x,.ref C]/\mO X.K H x t/\iP X.K t (.ref C)=some b/\Q (.bl b) H):=by
 intro pins s σ H xs us Q I f h;obtain⟨x,T,t,b,rfl,ty,e,q⟩:=h;obtain⟨u,c,rfl,d,a⟩:=f.two;cases a;exact xP I d ty e fun tk=>⟨.bl b,H,I.tok tk,rfl,q⟩
theorem GW{bs:List Bool}(r:bE (bs.map V.bl) its):TruthOf prog w A (fun i v=>its.toArray[i]? =some v) (fun i=>bs.getD i false):=by
 intro i v s Q E c h;have hi:its[i]? =some v:=by simpa using c
 have e:v=.bool (bs.getD i false):=by
  have d:=r.length;rw[ai]at d;have a:i<bs.length:=by
   have :=(aD.mp hi).1
   lia
  obtain⟨u,b,f⟩:=bE.get (i:=i) (x:=.bl bs[i]) r (by simp[a]);rw[hi]at b;cases b;have g:v=zU bs[i]:=f;rw[g,ae,aa a];rfl
 rw[e];exact c6 h
theorem range_all(bs:List Bool):(aA bs.length).all (fun i=>bs.getD i false)=bs.all id:=by
 have :bs=(aA bs.length).map fun i=>bs.getD i false:=by
  apply bA
  ·simp
  ·intro i h1 h2
   simp[h1]
 rw[cA];simp only[bB,aQ];constructor
 ·intro h x a
  obtain⟨i,hi,rfl⟩:=cG.mp a;have :=h i hi;simpa[hi]using this
 ·intro h i hi
  have :=h bs[i] (ba hi)
  simpa[hi]using this
theorem JK(a:X.calm=true):fB X (.builtin "all") (fun xs H Q=>∃(p:Addr)(bs:List Bool),xs=[.ref p]/\SqL X.K H p (bs.map V.bl)/\Q (.bl (bs.all id)) H):=by
 intro pins s σ H xs us Q I j h;obtain⟨p,bs,rfl,hq,q⟩:=h;obtain⟨u,rfl,g⟩:=j.one;cases g;obtain⟨its,r,pl,l⟩:=I.list hq;have c:its.toArray.size=bs.length:=by rw[au,<-r.length,ai]
 have d:p≠s.heap.objs.size:=by obtain⟨o,n,f,_⟩:=id pl;exact aK (aB f)
 refine call_all_walk (oK pl.isList ⟨s.heap.objs.size,_,_,_,_,_,fun i=>bs.getD i false,rfl,Walks.list (A:=X.A.in1) (I.ok.hd a) _ p d its.toArray,⟨⟨_,az _ rfl,rfl,rfl⟩,pl.isList.at fun o e=>ag _ e⟩,GW r,fun h' tk k=>?_⟩);rw[c,range_all];exact⟨.bl (bs.all id),H,I.kept (t':=tk) fun b o e=>k b o (by simpa using aK (aB e)) (ag _ e),rfl,q⟩
noncomputable def vY(x:Str)(lo hi:Option Int):Str:=⟨((x.cps.toList.drop (HT.sIx x.length 0 lo)).take (HT.sIx x.length x.length hi-HT.sIx x.length 0 lo)).toArray⟩
theorem sIx_eq(n d:Nat)(i:Int):(max 0 (min (if i<0 then i+(n:Int)else i) (n:Int)))=((HT.sIx n d (some i):Nat):Int):=by
 have :=HT.zD i n d
 rw[<-this];split <;>lia
theorem strIx(lo hi:Option Int)(n:Nat):tN lo hi 1 n=(aA (HT.sIx n n hi-HT.sIx n 0 lo)).map fun k=>HT.sIx n 0 lo+k:=by
 have key:∀a b:Nat,sliceRange (a:Int) (b:Int) 1=(aA (b-a)).map fun k=>a+k:=by
  intro a b;unfold sliceRange;have e:(if(1:Int)>0 then(if(a:Int)<b then((b:Int)-a+1-1)/1 else 0)else(if(a:Int)>b then((a:Int)-b-1-1)/(-1)else 0)).toNat=b-a:=by
   rw[if_pos (by decide)];split <;>lia
  simp only[e];apply cO;intro k j;lia
 have f:∀(o:Option Int)(d:Nat),(match o with |none=>(d:Int) |some i=>max 0 (min (if i<0 then i+(n:Int)else i) (n:Int)))=((HT.sIx n d o:Nat):Int):=by
  intro o d;cases o with
  |none=>rfl
  |some i=>exact sIx_eq n d i
 have c:=f lo 0;have g:=f hi n;unfold tN;simp only[show(1:Int)>0 by decide,if_true];have h:((0:Nat):Int)=0:=rfl;rw[h]at c;rw[<-key,<-c,<-g];cases lo<;>cases hi<;>rfl
theorem pickN(xs:Array Nat)(i:Nat):∀k,((aA k).map fun m=>i+m).filterMap (xs[·]?)=(xs.toList.drop i).take k:=by
 intro k
 induction k with
 |zero=>simp
 |succ k ih=>
  rw[jX,c7,List.filterMap_append,ih];by_cases h:i+k<xs.size
  ·rw[List.take_succ,iO]
   simp[h]
  ·rw[List.take_succ,iO]
   simp[h]
theorem Fd(x:Str)(lo hi:Option Int):Txt.slice x lo hi=vY x lo hi:=by
 have c:HT.sIx x.length 0 lo<=x.length:=HT.Cc _ _ (aR _) lo;have d:HT.sIx x.length x.length hi<=x.length:=HT.Cc _ _ (ay _) hi;unfold Txt.slice vY;rw[strIx];split
 ·rename_i h
  rw[aH,beq_iff_eq,beq_iff_eq,ai,aW]at h;have a:HT.sIx x.length 0 lo=0:=by lia
  have b:HT.sIx x.length x.length hi=x.length:=by lia
  rw[a,b];have :x.cps.toList.length=x.length:=by simp[BG]
  rw[z9,wD,<-this,da]
 ·rw[pickN]
theorem sZ{v:Value}{o:Option Int}(p:IsPart v o):∃l:Option (Int×Tok),v=partValue l/\o=l.map (·.1):=by
 cases p with
 |none=>exact⟨none,rfl,rfl⟩
 |int i t=>exact⟨some (i,t),rfl,rfl⟩
noncomputable def rSlS:V->Option Int->Option Int->Hp->VK->Prop:=fun x lo hi H Q=>∃z,x=.str z/\z.length<=sizeLine/\Q (.str (vY z lo hi)) H
theorem sl_str:SlR X rSlS:=by
 intro pins s σ H x v vl vu lo hi sl Q I d a pl c h;obtain⟨z,rfl,b,q⟩:=h;obtain⟨t,rfl⟩:=d;obtain⟨l,rfl,rfl⟩:=sZ pl;obtain⟨u,rfl,rfl⟩:=sZ c;refine⟨"str",_,F.slot_str_getitem.lookup,typeIs_str _ _ _,?_⟩;refine wpAny_getItem_str_slice (l:=l) (u:=u) (st:=none) a rfl (post_val_or_str ⟨aG (Txt.slice_le z _ _) b,fun t' k=>?_⟩);have e:=Fd z (l.map (·.1)) (u.map (·.1));unfold Txt.slice at e;refine⟨.str (vY z (l.map (·.1)) (u.map (·.1))),H,I.tok k,⟨t',?_⟩,q⟩;rw[<-e];rfl
noncomputable def Its(x:Str):It:=⟨fun i _=>i<x.length,fun i H v H'=>H'=H/\∃c,x.cps[i]? =some c/\v=.str ⟨#[c]⟩,fun i _=>x.length<=i⟩
end
theorem xq(it:Addr)(x:Str)(t:Tok)(A:Around)(a:A.handled=none):
  Walks prog w A it [it] [it] x.cps.size (SignAt x) (fun i h=>h.IsStrIter it (iq x) x t i):=by
 unfold iq;cases ha:x.cps.all (·<128)
 ·simp only[aU,if_false];exact Walks.strWide a it x t
 ·simp only[if_true];exact Walks.strAscii a it x t
theorem GV(x:Str)(it:Addr)(t:Tok):Turn P w K tg (Its x) [it] it (fun i h=>h.IsStrIter it (iq x) x t i) where
 mem:=by simp
 obj:=fun i h st b a=>by
  have e:b=it:=by simpa using a
  subst e;obtain⟨o,e,c,d⟩:=st;exact⟨o,e,fun v z=>by rw[d]at z;cases z⟩
 keep:=fun i h h' st k=>let⟨o,ho,r⟩:=st;⟨o,k it (by simp) o ho,r⟩
 item:=by
  intro X C F B q i pins s σ H E I hf st D;subst C F B;obtain⟨g,j,N,l,m,p⟩:=hf it (by simp);have W:=xq (prog:=X.prog) (w:=X.w) it x t X.A (I.ok.hd q);refine W.item i s _ _ D st fun v h' tk S J kk=>?_;obtain⟨c,u,O,rfl⟩:=S;have L:Inv X pins σ H {s with heap:=h',toks:=tk}:=I.turned (fun b o a e=>kk b o (by simpa using a) e) g j l m p;obtain⟨o,e,M,d⟩:=id J;refine⟨_,rfl,Eg (s:={s with heap:=h',toks:=tk}) (n:=iq x) e M d ?_ ⟨.str ⟨#[c]⟩,H,L,⟨u,rfl⟩,⟨rfl,c,O,rfl⟩,J,fun b a=>(hf b a).1⟩⟩;unfold iq;split <;>decide
 done:=by
  intro X C F B q i pins s σ H E I hf st D;subst C F B;obtain⟨g,j,N,l,m,p⟩:=hf it (by simp);have R:x.length<=i:=D;by_cases hi:i=x.cps.size
  ·subst hi
   have W:=xq (prog:=X.prog) (w:=X.w) it x t X.A (I.ok.hd q);exact W.done s _ _ st fun h' tk kk=>⟨rfl,I.turned (fun b o a e=>kk b o (by simpa using a) e) g j l m p⟩
  ·have G:x.cps[i]? =none:=by
    rw[Array.getElem?_eq_none_iff];exact R
   have f:s.heap.IsStrIter it (iq x) x t i:=st;unfold iq at f;cases ha:x.cps.all (·<128)
   ·rw[ha]at f
    exact wpAny_pyNext_wide_end (I.ok.hd q) f G fun h' y=>⟨rfl,I.turned (t':=s.toks) (fun b o a e=>y b o a e) g j l m p⟩
   ·rw[ha]at f
    exact wpAny_pyNext_ascii_end (I.ok.hd q) f G fun h' y=>⟨rfl,I.turned (t':=s.toks) (fun b o a e=>y b o a e) g j l m p⟩
 self:=fun A i s Q E st h=>by
  have f:s.heap.IsStrIter it (iq x) x t i:=st;unfold iq at f;cases ha:x.cps.all (·<128)
  ·rw[ha]at f;exact wpAny_pyIter_striter_wide f h
  ·rw[ha]at f;exact wpAny_pyIter_striter_ascii f h
noncomputable def Ite(K:ah)(a:Addr):It:=
 ⟨fun i H=>∃xs x,SqL K H a xs/\xs[i]? =some x,fun i H v H'=>∃p x,H p=none/\H'=upd H p (.tup [.int i,x])/\v=.ref p/\∀xs,SqL K H a xs->xs[i]? =some x,fun i H=>∃xs,SqL K H a xs/\xs.length<=i⟩
section
variable {X:Cx}{es:List Expr}{kk:Nat}{pp:Pos}
noncomputable def iEnum(K:ah)(tl:TE):TI:=fun σ H R=>tl σ H fun x H1=>∃a,x=.ref a/\(∃xs,SqL K H1 a xs)/\R (Ite K a) H1
end
inductive D where
 |non|bl (b:Bool) |int (i:Int) |str (x:Str) |tup (ds:List D) |lst (ds:List D)
 deriving Inhabited
mutual
noncomputable def Rep(K:ah)(H:Hp):D->V->Prop
 |.non,v=>v=.non
 |.bl b,v=>v=.bl b
 |.int i,v=>v=.int i
 |.str x,v=>v=.str x
 |.tup ds,v=>∃a xs,v=.ref a/\SqT K H a xs/\ff K H ds xs
 |.lst ds,v=>∃a xs,v=.ref a/\SqL K H a xs/\ff K H ds xs
noncomputable def ff(K:ah)(H:Hp):List D->List V->Prop
 | [],xs=>xs=[]
 |d::ds,xs=>∃x r,xs=x::r/\Rep K H d x/\ff K H ds r
end
theorem aM.tup{K:ah}{H H':Hp}{a:Addr}{xs:List V}(e:aM H H')(h:SqT K H a xs):SqT K H' a xs:=by
 rcases h with(h|⟨o,h⟩) |h
 ·exact .inl (.inl (e _ _ h))
 ·exact .inl (.inr ⟨o,e _ _ h⟩)
 ·exact .inr h
theorem ff.length:∀{ds:List D}{xs:List V},ff K H ds xs->xs.length=ds.length
 | [],_,h=>by rw[show _=[]from h];rfl
 |d::ds,_,h=>by
  obtain⟨x,r,rfl,_,h2⟩:=h;rw[bg,bg,ff.length h2]
theorem ff.at:∀{ds:List D}{xs:List V}{i:Nat}{d:D},ff K H ds xs->ds[i]? =some d->∃x,xs[i]? =some x/\Rep K H d x
 | [],_,i,d,h,e=>by simp at e
 |d::ds,_,0,d',h,e=>by
  obtain⟨y,r,rfl,h1,h2⟩:=h;simp at e;subst e;exact⟨y,rfl,h1⟩
 |d::ds,_,i+1,d',h,e=>by
  obtain⟨y,r,rfl,h1,h2⟩:=h;obtain⟨x,a,h'⟩:=ff.at (i:=i) h2 (by simpa using e);exact⟨x,by simpa using a,h'⟩
theorem ff.ints:∀(ns:List Int),ff K H (ns.map D.int) (ns.map V.int)
 | []=>rfl
 |n::ns=>⟨_,_,rfl,rfl,ff.ints ns⟩
mutual
noncomputable def eqD:D->D->Bool
 |.non,.non=>true
 |.bl a,.bl b=>a==b
 |.bl a,.int b=>(if a then 1 else 0)==b
 |.int a,.bl b=>a==(if b then 1 else 0)
 |.int a,.int b=>a==b
 |.str a,.str b=>a==b
 |.tup a,.tup b=>lh a b
 |.lst a,.lst b=>lh a b
 |_,_=>false
noncomputable def lh:List D->List D->Bool
 | [],[]=>true
 |a::as,b::bs=>eqD a b&&lh as bs
 |_,_=>false
end
mutual
noncomputable def hgt:D->Nat
 |.tup ds=>jo ds+1
 |.lst ds=>jo ds+1
 |_=>0
noncomputable def jo:List D->Nat
 | []=>0
 |d::ds=>max (hgt d) (jo ds)
end
theorem sy:∀{ds:List D}{i:Nat}{d:D},ds[i]? =some d->hgt d<=jo ds
 | [],i,d,e=>by simp at e
 |d::ds,0,d',e=>by simp at e;subst e;simp only[jo];lia
 |d::ds,i+1,d',e=>by
  have :=sy (i:=i) (ds:=ds) (d:=d') (by simpa using e)
  simp only[jo];lia
theorem A8:∀(c bs:List D)(e:Nat->Bool),c.length=bs.length->(∀(i:Nat) a b,c[i]? =some a->bs[i]? =some b->e i=eqD a b)->(aA c.length).all e=lh c bs
 | [],[],e,_,_=>rfl
 |a::c,b::bs,e,hl,h=>by
  rw[bg,ES,mL,oR];have h0:=h 0 a b rfl rfl;have g:=A8 c bs (fun i=>e (i+1)) (by simpa using hl) fun i x y d f=>h (i+1) x y (by simpa using d) (by simpa using f);rw[h0];show(eqD a b&&(aA c.length).all (fun i=>e (i+1)))=_;rw[g,lh]
 | [],b::bs,e,hl,_=>by simp at hl
 |a::c,[],e,hl,_=>by simp at hl
theorem qP:∀(c bs:List D),c.length≠bs.length->lh c bs=false
 | [],[],h=>absurd rfl h
 |a::c,b::bs,h=>by
  rw[lh,qP c bs (by simpa using h),kU]
 | [],b::bs,_=>rfl
 |a::c,[],_=>rfl
mutual
theorem vU:∀d:D,eqD d d=true
 |.non=>rfl
 |.bl b=>by simp[eqD]
 |.int i=>by simp[eqD]
 |.str x=>by simp[eqD]
 |.tup ds=>by rw[eqD];exact sC ds
 |.lst ds=>by rw[eqD];exact sC ds
theorem sC:∀ds:List D,lh ds ds=true
 | []=>rfl
 |d::ds=>by rw[lh,vU d,sC ds];rfl
end
section
variable {X:Cx}{pins:List (Addr×Obj)}{σ:St}{H:Hp}{s:Shared}
mutual
theorem Inv.uf(I:Inv X pins σ H s):∀{d c:D}{v:V},Rep X.K H d v->Rep X.K H c v->d=c
 |.non,c,v,h,h'=>by
  cases(show v=V.non from h);cases c<;>first | (obtain⟨_,_,z,_⟩:=h';cases z;done) |rfl| (cases h';done)
 |.bl b,c,v,h,h'=>by
  cases(show v=V.bl b from h);cases c<;>first | (obtain⟨_,_,z,_⟩:=h';cases z;done) | (cases h';rfl) | (cases h';done)
 |.int b,c,v,h,h'=>by
  cases(show v=V.int b from h);cases c<;>first | (obtain⟨_,_,z,_⟩:=h';cases z;done) | (cases h';rfl) | (cases h';done)
 |.str b,c,v,h,h'=>by
  cases(show v=V.str b from h);cases c<;>first | (obtain⟨_,_,z,_⟩:=h';cases z;done) | (cases h';rfl) | (cases h';done)
 |.tup ds,c,v,h,h'=>by
  obtain⟨a,xs,rfl,h1,h2⟩:=h;cases c with
  |tup ds'=>
   obtain⟨b,ys,e,f,j⟩:=h';cases e;have :=I.rZ h1 f;subst this;rw[Inv.vc I h2 j]
  |lst ds'=>
   obtain⟨b,ys,e,f,j⟩:=h';cases e;obtain⟨its,_,⟨o,l,k,_⟩,_⟩:=I.tuple h1;obtain⟨its',_,⟨o',n,i,g,_⟩,_⟩:=I.list f;rw[l]at i;cases i;rw[k]at g;exact absurd g (by decide+kernel)
  |_=>cases h'
 |.lst ds,c,v,h,h'=>by
  obtain⟨a,xs,rfl,h1,h2⟩:=h;cases c with
  |lst ds'=>
   obtain⟨b,ys,e,f,j⟩:=h';cases e;have :=I.AU h1 f;subst this;rw[Inv.vc I h2 j]
  |tup ds'=>
   obtain⟨b,ys,e,f,j⟩:=h';cases e;obtain⟨its,_,⟨o,n,l,k,_⟩,_⟩:=I.list h1;obtain⟨its',_,⟨o',i,g,_⟩,_⟩:=I.tuple f;rw[l]at i;cases i;rw[k]at g;exact absurd g (by decide+kernel)
  |_=>cases h'
theorem Inv.vc(I:Inv X pins σ H s):∀{ds a:List D}{xs:List V},ff X.K H ds xs->ff X.K H a xs->ds=a
 | [],[],_,_,_=>rfl
 | [],d::ds,xs,h,h'=>by
  obtain⟨x,r,e,_⟩:=h';rw[show xs=[]from h]at e;cases e
 |d::ds,[],xs,h,h'=>by
  obtain⟨x,r,e,_⟩:=h;rw[show xs=[]from h']at e;cases e
 |d::ds,d'::a,xs,h,h'=>by
  obtain⟨x,r,rfl,h1,h2⟩:=h;obtain⟨y,f,e,b,c⟩:=h';cases e;rw[Inv.uf I h1 b,Inv.vc I h2 c]
end
open PySem.SeqAt
noncomputable def eqJ(ds a:List D)(j:Nat):Bool:=match ds[j]?,a[j]? with |some d,some d'=>eqD d d'|_,_=>false
theorem zB{ds a:List D}(b:ds.length=a.length):(aA ds.length).all (eqJ ds a)=lh ds a:=A8 ds a _ b fun i x y c d=>by simp only[eqJ,c,d]
theorem Er{ds a:List D}:((aA (min ds.length a.length)).all (eqJ ds a)&&ds.length==a.length)=lh ds a:=by
 by_cases hl:ds.length=a.length
 ·rw[<-hl,Nat.min_self,beq_self_eq_true,Bool.and_true,zB hl]
 ·rw[qP ds a hl,beq_eq_false_iff_ne.mpr hl,kU]
theorem zA{ds a:List D}(q:∀(i:Nat)(d b:D)(x y:V)(u f:Value),ds[i]? =some d->a[i]? =some b->Rep X.K H d x->Rep X.K H b y->RelV x u->RelV y f->EqAt A.in1 s u f (eqD d b))(h2:ff X.K H ds xs)(k:ff X.K H a ys)(r:bE xs its)(n:bE ys its'):its.toArray.size=ds.length/\its'.toArray.size=a.length/\∀j (g:j<its.toArray.size)(h:j<its'.toArray.size),EqAt A.in1 s its.toArray[j] its'.toArray[j] (eqJ ds a j):=by
 have l1:=h2.length;have l2:=k.length;have E:=r.length;have F:=n.length;refine⟨by simp;lia,by simp;lia,fun j g h=>?_⟩;have o:j<its.length:=by simpa using g
 have p:j<its'.length:=by simpa using h
 have c:ds[j]? =some ds[j]:=aa (by lia);have e:a[j]? =some a[j]:=aa (by lia);unfold eqJ;rw[c,e];obtain⟨x,t,B⟩:=h2.at c;obtain⟨y,v,C⟩:=k.at e;obtain⟨u,l,w⟩:=r.get t;obtain⟨f,m,z⟩:=n.get v;rw[aa o]at l;rw[aa p]at m;cases l;cases m;exact q j _ _ x y _ _ c e B C w z
theorem Inv.rcTup(I:Inv X pins σ H s)(A:Around){ds g:List D}(m:∀(i:Nat)(d c:D)(x y:V)(u h:Value),ds[i]? =some d->g[i]? =some c->Rep X.K H d x->Rep X.K H c y->RelV x u->RelV y h->EqAt A.in1 s u h (eqD d c))(h1:SqT X.K H a xs)(h2:ff X.K H ds xs)(k:SqT X.K H b ys)(l:ff X.K H g ys)(n:A.units<cLine):RcAt A s (.ref a) (.ref b) (lh ds g):=by
 obtain⟨its,r,p,_⟩:=I.tuple h1;obtain⟨its',o,p',_⟩:=I.tuple k;obtain⟨e,j,f⟩:=zA m h2 l r o;have key:=RcAt.tuples p p' (A:=A) n f
 rwa [e,j,Er]at key
theorem Inv.rcLst(I:Inv X pins σ H s)(A:Around){ds c:List D}(n:∀(i:Nat)(d g:D)(x y:V)(u k:Value),ds[i]? =some d->c[i]? =some g->Rep X.K H d x->Rep X.K H g y->RelV x u->RelV y k->EqAt A.in1 s u k (eqD d g))(h1:SqL X.K H a xs)(h2:ff X.K H ds xs)(l:SqL X.K H b ys)(m:ff X.K H c ys)(j:A.units<cLine):RcAt A s (.ref a) (.ref b) (lh ds c):=by
 obtain⟨its,r,p,_⟩:=I.list h1;obtain⟨its',o,p',_⟩:=I.list l;obtain⟨e,h,f⟩:=zA n h2 m r o;by_cases hl:ds.length=c.length
 ·have key:=RcAt.lists p.isList p'.isList (A:=A) (by rw[e,h,hl]) j f
  rwa [e,zB hl]at key
 ·have key:=RcAt.lists_lengths p.isList p'.isList (A:=A) (by rw[e,h];exact bne_iff_ne.mpr hl) j
  rwa [qP ds c hl]
theorem Inv.shp(I:Inv X pins σ H s){d:D}{v:V}(h:Rep X.K H d v)(r:RelV v u):(d=.non/\v=.non/\u=.none)\/(∃x,d=.bl x/\v=.bl x/\u=.bool x)\/(∃x t,d=.int x/\v=.int x/\u=.int x t)\/(∃x t,d=.str x/\v=.str x/\u=.str x t)\/(∃ds a xs its,d=.tup ds/\v=.ref a/\u=.ref a/\SqT X.K H a xs/\ff X.K H ds xs/\IsTup s.heap a its)\/∃ds a xs its,d=.lst ds/\v=.ref a/\u=.ref a/\SqL X.K H a xs/\ff X.K H ds xs/\s.heap.IsList a its:=by
 cases d with
 |non=>cases(show v=_ from h);cases r;exact .inl ⟨rfl,rfl,rfl⟩
 |bl x=>cases(show v=_ from h);cases r;exact .inr (.inl ⟨x,rfl,rfl,rfl⟩)
 |int x=>cases(show v=_ from h);obtain⟨t,rfl⟩:=r;exact .inr (.inr (.inl ⟨x,t,rfl,rfl,rfl⟩))
 |str x=>cases(show v=_ from h);obtain⟨t,rfl⟩:=r;exact .inr (.inr (.inr (.inl ⟨x,t,rfl,rfl,rfl⟩)))
 |tup ds=>obtain⟨a,xs,rfl,h1,h2⟩:=id h;cases r;obtain⟨its,_,p,_⟩:=I.tuple h1;exact .inr (.inr (.inr (.inr (.inl ⟨ds,a,xs,_,rfl,rfl,rfl,h1,h2,p⟩))))
 |lst ds=>obtain⟨a,xs,rfl,h1,h2⟩:=id h;cases r;obtain⟨its,_,p,_⟩:=I.list h1;exact .inr (.inr (.inr (.inr (.inr ⟨ds,a,xs,_,rfl,rfl,rfl,h1,h2,p.isList⟩))))
theorem Inv.eqAt1(I:Inv X pins σ H s)(A:Around)(G:∀(m:Nat)(ds j:List D)(i:Nat)(d f:D)(x y:V)(u g:Value),n=m+1->jo ds<=m->ds[i]? =some d->j[i]? =some f->Rep X.K H d x->Rep X.K H f y->RelV x u->RelV y g->EqAt A.in1 s u g (eqD d f)):
  ∀(d f:D)(v F:V)(u g:Value),Rep X.K H d v->Rep X.K H f F->RelV v u->RelV F g->hgt d<=n->A.units+n+1<cLine->EqAt A s u g (eqD d f):=by
 intro d f v F u g h h' r c J K;obtain⟨rfl,rfl,rfl⟩ |⟨_,rfl,rfl,rfl⟩ |⟨_,t,rfl,rfl,rfl⟩ |⟨_,t,rfl,rfl,rfl⟩ |⟨ds,a,xs,its,rfl,rfl,rfl,h1,h2,p⟩ |⟨ds,a,xs,its,rfl,rfl,rfl,h1,h2,p⟩:=I.shp h r<;>obtain⟨rfl,rfl,rfl⟩ |⟨_,rfl,rfl,rfl⟩ |⟨_,t',rfl,rfl,rfl⟩ |⟨_,t',rfl,rfl,rfl⟩ |⟨j,b,ys,its',rfl,rfl,rfl,o,q,p'⟩ |⟨j,b,ys,its',rfl,rfl,rfl,o,q,p'⟩:=I.shp h' c
 ·exact fY r c rfl rfl
 ·exact fY r c rfl rfl
 ·exact fY r c rfl rfl
 ·exact fY r c rfl rfl
 ·exact EqAt.none_tuple p' (by lia)
 ·exact EqAt.none_list p' (by lia)
 ·exact fY r c rfl rfl
 ·exact fY r c rfl rfl
 ·exact fY r c rfl rfl
 ·exact fY r c rfl rfl
 ·exact EqAt.bool_tuple _ p' (by lia)
 ·exact EqAt.bool_list _ p' (by lia)
 ·exact fY r c rfl rfl
 ·exact fY r c rfl rfl
 ·exact fY r c rfl rfl
 ·exact fY r c rfl rfl
 ·exact EqAt.int_tuple _ t p' (by lia)
 ·exact EqAt.int_list _ t p' (by lia)
 ·exact fY r c rfl rfl
 ·exact fY r c rfl rfl
 ·exact fY r c rfl rfl
 ·exact fY r c rfl rfl
 ·exact EqAt.str_tuple _ t p' (by lia)
 ·exact EqAt.str_list _ t p' (by lia)
 ·exact EqAt.tuple_none p (by lia)
 ·exact EqAt.tuple_bool _ p (by lia)
 ·exact EqAt.tuple_int _ t' p (by lia)
 ·exact EqAt.tuple_str _ t' p (by lia)
 ·rw[hgt]at J
  by_cases z:a=b
  ·subst z
   have e:=I.uf h h';rw[<-e,vU];exact EqAt.same _
  ·rw[eqD]
   exact EqAt.of_refs z (Inv.rcTup I A (fun i d f x y u g k l C E w B=>G (n-1) ds j i d f x y u g (by lia) (by lia) k l C E w B) h1 h2 o q (by lia))
 ·exact EqAt.tuple_list p p' (by lia)
 ·exact EqAt.list_none p (by lia)
 ·exact EqAt.list_bool _ p (by lia)
 ·exact EqAt.list_int _ t' p (by lia)
 ·exact EqAt.list_str _ t' p (by lia)
 ·exact EqAt.list_tuple p p' (by lia)
 ·rw[hgt]at J
  by_cases z:a=b
  ·subst z
   have e:=I.uf h h';rw[<-e,vU];exact EqAt.same _
  ·rw[eqD]
   exact EqAt.of_refs z (Inv.rcLst I A (fun i d f x y u g k l C E w B=>G (n-1) ds j i d f x y u g (by lia) (by lia) k l C E w B) h1 h2 o q (by lia))
theorem Inv.Ba(I:Inv X pins σ H s):∀(n:Nat)(A:Around)(d a:D)(v c:V)(u b:Value),Rep X.K H d v->Rep X.K H a c->RelV v u->RelV c b->hgt d<=n->A.units+n+1<cLine->EqAt A s u b (eqD d a):=by
 intro n
 induction n with
 |zero=>exact fun A d a v c u b h h' r g e f=>Inv.eqAt1 I A (fun m ds k i d a x y u b j _ _ _ _ _ _ _=>absurd j (by lia)) d a v c u b h h' r g e f
 |succ n ih=>
  exact fun A d a v c u b h h' r g e f=>Inv.eqAt1 I A (fun m ds k i d a x y u b j z l w q t o p=>ih A.in1 d a x y u b q t o p (by have :=sy l;lia) (by show A.units+1+n+1<cLine;lia)) d a v c u b h h' r g e f
end
end L2
namespace L2
open PySem PySem.Spec PyProof.Rows PySem.SeqAt
section
variable {X:Cx}{pins:List (Addr×Obj)}{σ:St}{H:Hp}{s:Shared}
theorem Inv.neTup(I:Inv X pins σ H s)(A:Around){ds g:List D}(m:∀(i:Nat)(d c:D)(x y:V)(u h:Value),ds[i]? =some d->g[i]? =some c->Rep X.K H d x->Rep X.K H c y->RelV x u->RelV y h->EqAt A.in1 s u h (eqD d c))(h1:SqT X.K H a xs)(h2:ff X.K H ds xs)(k:SqT X.K H b ys)(l:ff X.K H g ys)(n:A.units<cLine):RcNeAt A s (.ref a) (.ref b) (!lh ds g):=by
 obtain⟨its,r,p,_⟩:=I.tuple h1;obtain⟨its',o,p',_⟩:=I.tuple k;obtain⟨e,j,f⟩:=zA m h2 l r o;have key:=RcNeAt.tuples p p' (A:=A) n f
 rwa [e,j,Er]at key
theorem Inv.neLst(I:Inv X pins σ H s)(A:Around){ds c:List D}(n:∀(i:Nat)(d g:D)(x y:V)(u k:Value),ds[i]? =some d->c[i]? =some g->Rep X.K H d x->Rep X.K H g y->RelV x u->RelV y k->EqAt A.in1 s u k (eqD d g))(h1:SqL X.K H a xs)(h2:ff X.K H ds xs)(l:SqL X.K H b ys)(m:ff X.K H c ys)(j:A.units<cLine):RcNeAt A s (.ref a) (.ref b) (!lh ds c):=by
 obtain⟨its,r,p,_⟩:=I.list h1;obtain⟨its',o,p',_⟩:=I.list l;obtain⟨e,h,f⟩:=zA n h2 m r o;by_cases hl:ds.length=c.length
 ·have key:=RcNeAt.lists p.isList p'.isList (A:=A) (by rw[e,h,hl]) j f
  rwa [e,zB hl]at key
 ·have key:=RcNeAt.lists_lengths p.isList p'.isList (A:=A) (by rw[e,h];exact bne_iff_ne.mpr hl) j
  rwa [qP ds c hl]
theorem Inv.rcD(I:Inv X pins σ H s)(A:Around)(d d':D)(v o:V)(u c:Value)(h:Rep X.K H d v)(h':Rep X.K H d' o)(r:RelV v u)(z:RelV o c)(n:A.units+hgt d+1<cLine):RcAt A s u c (eqD d d'):=by
 obtain⟨rfl,rfl,rfl⟩ |⟨_,rfl,rfl,rfl⟩ |⟨_,t,rfl,rfl,rfl⟩ |⟨_,t,rfl,rfl,rfl⟩ |⟨ds,a,xs,its,rfl,rfl,rfl,h1,h2,p⟩ |⟨ds,a,xs,its,rfl,rfl,rfl,h1,h2,p⟩:=I.shp h r<;>obtain⟨rfl,rfl,rfl⟩ |⟨_,rfl,rfl,rfl⟩ |⟨_,t',rfl,rfl,rfl⟩ |⟨_,t',rfl,rfl,rfl⟩ |⟨q,b,ys,its',rfl,rfl,rfl,f,g,p'⟩ |⟨q,b,ys,its',rfl,rfl,rfl,f,g,p'⟩:=I.shp h' z
 ·exact RcAt.none_none
 ·exact RcAt.none_bool _
 ·exact RcAt.none_int _ t'
 ·exact RcAt.none_str _ t'
 ·exact RcAt.none_tuple p' (by lia)
 ·exact RcAt.none_list p' (by lia)
 ·exact RcAt.bool_none _
 ·exact RcAt.bool_bool _ _
 ·exact RcAt.bool_int _ _ t'
 ·exact RcAt.bool_str _ _ t'
 ·exact RcAt.bool_tuple _ p' (by lia)
 ·exact RcAt.bool_list _ p' (by lia)
 ·exact RcAt.int_none _ t
 ·exact RcAt.int_bool _ t _
 ·exact RcAt.int_int _ t _ t'
 ·exact RcAt.int_str _ t _ t'
 ·exact RcAt.int_tuple _ t p' (by lia)
 ·exact RcAt.int_list _ t p' (by lia)
 ·exact RcAt.str_none _ t
 ·exact RcAt.str_bool _ t _
 ·exact RcAt.str_int _ t _ t'
 ·exact RcAt.str_str _ t _ t'
 ·exact RcAt.str_tuple _ t p' (by lia)
 ·exact RcAt.str_list _ t p' (by lia)
 ·exact RcAt.tuple_none p (by lia)
 ·exact RcAt.tuple_bool _ p (by lia)
 ·exact RcAt.tuple_int _ t' p (by lia)
 ·exact RcAt.tuple_str _ t' p (by lia)
 ·rw[eqD];exact Inv.rcTup I A (fun i d d' x y u c e w l m j k=>Inv.Ba I (jo ds) A.in1 d d' x y u c l m j k (sy e) (by rw[hgt]at n;show A.units+1+jo ds+1<cLine;lia)) h1 h2 f g (by lia)
 ·exact RcAt.tuple_list p p' (by lia)
 ·exact RcAt.list_none p (by lia)
 ·exact RcAt.list_bool _ p (by lia)
 ·exact RcAt.list_int _ t' p (by lia)
 ·exact RcAt.list_str _ t' p (by lia)
 ·exact RcAt.list_tuple p p' (by lia)
 ·rw[eqD];exact Inv.rcLst I A (fun i d d' x y u c e w l m j k=>Inv.Ba I (jo ds) A.in1 d d' x y u c l m j k (sy e) (by rw[hgt]at n;show A.units+1+jo ds+1<cLine;lia)) h1 h2 f g (by lia)
theorem Inv.rcNeD(I:Inv X pins σ H s)(A:Around)(d d':D)(v o:V)(u c:Value)(h:Rep X.K H d v)(h':Rep X.K H d' o)(r:RelV v u)(z:RelV o c)(n:A.units+hgt d+1<cLine):RcNeAt A s u c (!eqD d d'):=by
 obtain⟨rfl,rfl,rfl⟩ |⟨_,rfl,rfl,rfl⟩ |⟨_,t,rfl,rfl,rfl⟩ |⟨_,t,rfl,rfl,rfl⟩ |⟨ds,a,xs,its,rfl,rfl,rfl,h1,h2,p⟩ |⟨ds,a,xs,its,rfl,rfl,rfl,h1,h2,p⟩:=I.shp h r<;>obtain⟨rfl,rfl,rfl⟩ |⟨_,rfl,rfl,rfl⟩ |⟨_,t',rfl,rfl,rfl⟩ |⟨_,t',rfl,rfl,rfl⟩ |⟨q,b,ys,its',rfl,rfl,rfl,f,g,p'⟩ |⟨q,b,ys,its',rfl,rfl,rfl,f,g,p'⟩:=I.shp h' z
 ·exact RcNeAt.none_none
 ·exact RcNeAt.none_bool _
 ·exact RcNeAt.none_int _ t'
 ·exact RcNeAt.none_str _ t'
 ·exact RcNeAt.none_tuple p' (by lia)
 ·exact RcNeAt.none_list p' (by lia)
 ·exact RcNeAt.bool_none _
 ·exact RcNeAt.bool_bool _ _
 ·exact RcNeAt.bool_int _ _ t'
 ·exact RcNeAt.bool_str _ _ t'
 ·exact RcNeAt.bool_tuple _ p' (by lia)
 ·exact RcNeAt.bool_list _ p' (by lia)
 ·exact RcNeAt.int_none _ t
 ·exact RcNeAt.int_bool _ t _
 ·exact RcNeAt.int_int _ t _ t'
 ·exact RcNeAt.int_str _ t _ t'
 ·exact RcNeAt.int_tuple _ t p' (by lia)
 ·exact RcNeAt.int_list _ t p' (by lia)
 ·exact RcNeAt.str_none _ t
 ·exact RcNeAt.str_bool _ t _
 ·exact RcNeAt.str_int _ t _ t'
 ·exact RcNeAt.str_str _ t _ t'
 ·exact RcNeAt.str_tuple _ t p' (by lia)
 ·exact RcNeAt.str_list _ t p' (by lia)
 ·exact RcNeAt.tuple_none p (by lia)
 ·exact RcNeAt.tuple_bool _ p (by lia)
 ·exact RcNeAt.tuple_int _ t' p (by lia)
 ·exact RcNeAt.tuple_str _ t' p (by lia)
 ·rw[eqD];exact Inv.neTup I A (fun i d d' x y u c e w l m j k=>Inv.Ba I (jo ds) A.in1 d d' x y u c l m j k (sy e) (by rw[hgt]at n;show A.units+1+jo ds+1<cLine;lia)) h1 h2 f g (by lia)
 ·exact RcNeAt.tuple_list p p' (by lia)
 ·exact RcNeAt.list_none p (by lia)
 ·exact RcNeAt.list_bool _ p (by lia)
 ·exact RcNeAt.list_int _ t' p (by lia)
 ·exact RcNeAt.list_str _ t' p (by lia)
 ·exact RcNeAt.list_tuple p p' (by lia)
 ·rw[eqD];exact Inv.neLst I A (fun i d d' x y u c e w l m j k=>Inv.Ba I (jo ds) A.in1 d d' x y u c l m j k (sy e) (by rw[hgt]at n;show A.units+1+jo ds+1<cLine;lia)) h1 h2 f g (by lia)
noncomputable def rEqD(K:ah):R2:=fun x y H Q=>∃d a,Rep K H d x/\Rep K H a y/\hgt d<=30/\Q (.bl (eqD d a)) H
noncomputable def rNeD(K:ah):R2:=fun x y H Q=>∃d a,Rep K H d x/\Rep K H a y/\hgt d<=30/\Q (.bl (!eqD d a)) H
theorem op_eqD(f:X.A.units+40<cLine):OpR X (cX .Eq) (rEqD X.K):=by
 intro pins s σ H x y v u Q I b c h;obtain⟨d,a,h1,h2,e,q⟩:=h;exact I.rcD X.A d a x y v u h1 h2 b c (by lia) _ _ _ _ (vT I q rfl)
theorem op_neD(f:X.A.units+40<cLine):OpR X (cX .NotEq) (rNeD X.K):=by
 intro pins s σ H x y v u Q I b c h;obtain⟨d,a,h1,h2,e,q⟩:=h;exact I.rcNeD X.A d a x y v u h1 h2 b c (by lia) _ _ _ _ (vT I q rfl)
end
end L2
namespace Q
open PySem PySem.W PyProof.Rows
noncomputable def run{α:Type}(lt:Nat->Nat->Bool):KasT α->α
 |.ret a=>a
 |.ask i j k=>run lt (k (lt i j))
theorem run_bind{α b:Type}(lt:Nat->Nat->Bool)(f:α->KasT b):∀t:KasT α,run lt (t.bind f)=run lt (f (run lt t))
 |.ret a=>rfl
 |.ask i j k=>run_bind lt f (k (lt i j))
noncomputable def okT{α:Type}(lt:Nat->Nat->Bool)(n:Nat):KasT α->Prop
 |.ret _=>True
 |.ask i j k=>(i<n/\j<n/\i≠j)/\okT lt n (k (lt i j))
theorem oz{α b:Type}{lt:Nat->Nat->Bool}{f:α->KasT b}:∀{t:KasT α},okT lt n t->okT lt n (f (run lt t))->okT lt n (t.bind f)
 |.ret a,_,h=>h
 |.ask i j k,h,h'=>⟨h.1,oz h.2 h'⟩
structure Tot(lt:Nat->Nat->Bool)(n:Nat):Prop where
 tri:∀i j,i<n->j<n->i≠j->lt i j= !lt j i
 tr:∀i j k,i<n->j<n->k<n->lt i j=true->lt j k=true->lt i k=true
noncomputable abbrev at'(p:Array Nat)(i:Nat):Nat:=p.getD i 0
theorem EI(p:Array Nat)(i:Nat):at' p i=(p[i]?).getD 0:=by simp[at',Array.getD_eq_getD_getElem?]
structure Pm(p:Array Nat)(n:Nat):Prop where
 perm:p.Perm (aA n).toArray
theorem Pm.size{p:Array Nat}(h:Pm p n):p.size=n:=by rw[h.perm.size_eq];simp
theorem Pm.lt{p:Array Nat}(h:Pm p n)(hi:i<n):at' p i<n:=by
 have a:i<p.size:=by rw[h.size];exact hi
 have e:at' p i=p[i]:=by simp[at',a]
 have m:p[i]∈(aA n).toArray:=h.perm.mem_iff.mp (Array.getElem_mem a);rw[e];simpa using m
theorem Pm.inj{p:Array Nat}(h:Pm p n)(hi:i<n)(f:j<n)(e:at' p i=at' p j):i=j:=by
 have a:i<p.size:=by rw[h.size];exact hi
 have b:j<p.size:=by rw[h.size];exact f
 have nd:p.toList.Nodup:=by
  have q:p.toList.Perm (aA n):=by simpa using eI.mp h.perm
  exact q.nodup_iff.mpr wK
 have c:at' p i=p.toList[i]'(by simpa using a):=by simp[at',a]
 have d:at' p j=p.toList[j]'(by simpa using b):=by simp[at',b]
 rw[c,d]at e;exact(eG nd).mp e
theorem JN{p:Array Nat}(a:j<=p.size)(k:Nat):at' (zT p i j) k=if i<=k/\k<j then at' p (i+j-1-k)else at' p k:=by
 rw[EI];unfold zT;rw[getElem?_mirror_all a];split <;>rw[EI]
theorem JO{p:Array Nat}{a d:Nat}(b:a<p.size)(c:d<=a)(k:Nat):at' (bubble p a d) k=if k=a-d then at' p a else if a-d<k/\k<=a then at' p (k-1)else at' p k:=by
 rw[EI,getElem?_bubble b d c];split
 ·simp[at',b]
 ·split <;>rw[EI]
theorem Pm.rev{p:Array Nat}(h:Pm p n):Pm (zT p i j) n:=⟨(mirror_perm _ _ _ _).trans h.perm⟩
theorem Pm.bub{p:Array Nat}(h:Pm p n):Pm (bubble p i j) n:=⟨(bubble_perm _ _ _).trans h.perm⟩
def Up(lt:Nat->Nat->Bool)(p:Array Nat)(m:Nat):Prop:=∀i j,i<j->j<m->lt (at' p i) (at' p j)=true
def Dn(lt:Nat->Nat->Bool)(p:Array Nat)(m:Nat):Prop:=∀i j,i<j->j<m->lt (at' p j) (at' p i)=true
section
variable {lt:Nat->Nat->Bool}{N:Nat}{p:Array Nat}
theorem Tot.flip(T:Tot lt N)(P:Pm p N)(hi:i<N)(a:j<N)(n:i≠j)(h:lt (at' p i) (at' p j)=false):lt (at' p j) (at' p i)=true:=by
 have q:=T.tri _ _ (P.lt hi) (P.lt a) fun e=>n (P.inj hi a e);rw[h]at q;simpa using q.symm
theorem Pm.ask{p:Array Nat}(P:Pm p N)(hi:i<N)(a:j<N)(n:i≠j):at' p i<N/\at' p j<N/\at' p i≠at' p j:=⟨P.lt hi,P.lt a,fun e=>n (P.inj hi a e)⟩
theorem Up.succ(T:Tot lt N)(P:Pm p N)(h1:1<=n)(b:n<N)(u:Up lt p n)(h:lt (at' p (n-1)) (at' p n)=true):Up lt p (n+1):=by
 intro i j a c;by_cases e:j=n
 ·subst e
  by_cases e2:i=j-1
  ·subst e2;exact h
  ·exact T.tr _ _ _ (P.lt (by lia)) (P.lt (by lia)) (P.lt b) (u i (j-1) (by lia) (by lia)) h
 ·exact u i j a (by lia)
theorem Dn.succ(T:Tot lt N)(P:Pm p N)(h1:1<=n)(b:n<N)(u:Dn lt p n)(h:lt (at' p n) (at' p (n-1))=true):Dn lt p (n+1):=by
 intro i j a c;by_cases e:j=n
 ·subst e
  by_cases e2:i=j-1
  ·subst e2;exact h
  ·exact T.tr _ _ _ (P.lt b) (P.lt (by lia)) (P.lt (by lia)) h (u i (j-1) (by lia) (by lia))
 ·exact u i j a (by lia)
theorem yP(T:Tot lt N)(P:Pm p N):∀(f n:Nat),1<=n->n+f<=N->Up lt p n->∃m,run lt (kas_asc p f n)=m/\n<=m/\m<=n+f/\Up lt p m/\(m=n+f\/lt (at' p m) (at' p (m-1))=true)/\okT lt N (kas_asc p f n)
 | 0,n,h1,h2,u=>⟨n,rfl,ay _,ay _,u,.inl rfl,trivial⟩
 |f+1,n,h1,h2,u=>by
  unfold kas_asc;have a:=P.ask (i:=n) (j:=n-1) (by lia) (by lia) (by lia);simp only[run,okT];by_cases c:lt (at' p n) (at' p (n-1))=true
  ·rw[if_pos c]
   exact⟨n,rfl,ay _,by lia,u,.inr c,a,trivial⟩
  ·rw[if_neg c]
   have c':lt (at' p n) (at' p (n-1))=false:=by simpa using c
   obtain⟨m,e,h,k,b,d,g⟩:=yP T P f (n+1) (by lia) (by lia) (u.succ T P h1 (by lia) (T.flip P (by lia) (by lia) (by lia) c'));refine⟨m,e,by lia,by lia,b,?_,a,g⟩;rcases d with z|z
   ·exact .inl (by lia)
   ·exact .inr z
theorem Ao(T:Tot lt N)(P:Pm p N):∀(f n:Nat),1<=n->n+f<=N->Dn lt p n->∃m,run lt (kas_desc f p n 0)=(p,m,0)/\n<=m/\m<=n+f/\Dn lt p m/\okT lt N (kas_desc f p n 0)
 | 0,n,h1,h2,u=>⟨n,rfl,ay _,ay _,u,trivial⟩
 |f+1,n,h1,h2,u=>by
  unfold kas_desc;have a:=P.ask (i:=n) (j:=n-1) (by lia) (by lia) (by lia);have h:=P.ask (i:=n-1) (j:=n) (by lia) (by lia) (by lia);simp only[run,okT];by_cases c:lt (at' p n) (at' p (n-1))=true
  ·rw[if_pos c,if_neg (du 0)]
   obtain⟨m,e,k,l,b,g⟩:=Ao T P f (n+1) (by lia) (by lia) (u.succ T P h1 (by lia) c);exact⟨m,e,by lia,by lia,b,a,g⟩
  ·rw[if_neg c]
   have c':lt (at' p n) (at' p (n-1))=false:=by simpa using c
   have d:=T.flip P (by lia) (by lia) (by lia) c';simp only[run,okT];rw[if_pos d];exact⟨n,rfl,ay _,by lia,u,a,h,trivial⟩
theorem Ht(T:Tot lt N)(P:Pm p N)(h1:1<=n)(a:n<=N)(u:Dn lt p n):∃m p',run lt (kas_tail3 n N p)=(m,p')/\1<=m/\m<=N/\Up lt p' m/\Pm p' N/\okT lt N (kas_tail3 n N p):=by
 have f:Up lt (zT p 0 n) n:=by
  intro i j k d;rw[JN (by rw[P.size];exact a),JN (by rw[P.size];exact a),if_pos ⟨aR _,by lia⟩,if_pos ⟨aR _,d⟩];exact u _ _ (by lia) (by lia)
 obtain⟨m,e,g,h,b,_,c⟩:=yP T P.rev (N-n) n h1 (by lia) f;unfold kas_tail3;refine⟨m,zT p 0 n,?_,by lia,by lia,b,P.rev,oz c trivial⟩;rw[run_bind,e];rfl
theorem yO(T:Tot lt N)(P:Pm p N)(o:n+1<=N)(u:Dn lt p (n+1)):∃m p',run lt (jB n N p)=(m,p')/\1<=m/\m<=N/\Up lt p' m/\Pm p' N/\okT lt N (jB n N p):=by
 obtain⟨m,e,k,l,a,b⟩:=Ao T P (N-(n+1)) (n+1) (by lia) (by lia) u;obtain⟨j,p2,c,d,f,g,h,i⟩:=Ht T P (by lia) (by lia) a;unfold jB;refine⟨j,p2,?_,d,f,g,h,oz b ?_⟩
 ·rw[run_bind,e]
  exact c
 ·rw[e]
  exact i
theorem Fj(T:Tot lt N)(P:Pm p N)(w:1<=N):∃m p',run lt (kas_count N p)=(m,p')/\1<=m/\m<=N/\Up lt p' m/\Pm p' N/\okT lt N (kas_count N p):=by
 obtain⟨m,e,f,v,b,g,h⟩:=yP T P (N-1) 1 (ay _) (by lia) (fun i j s t=>by lia);have u:∃a p',run lt (if(m==N)=true then uJ (m,p)else if m>1 then KasT.ask (p.getD 0 0) (p.getD (m-1) 0) fun c=>if c=true then uJ (m,p)else jB m N (zT p 0 m)else jB m N p)=(a,p')/\1<=a/\a<=N/\Up lt p' a/\Pm p' N/\
   okT lt N (if(m==N)=true then uJ (m,p)else if m>1 then KasT.ask (p.getD 0 0) (p.getD (m-1) 0) fun c=>if c=true then uJ (m,p)else jB m N (zT p 0 m)else jB m N p):=by
  by_cases c:m=N
  ·rw[if_pos (by simpa using c)]
   exact⟨m,p,rfl,f,by lia,b,P,trivial⟩
  ·rw[if_neg (by simpa using c)]
   by_cases d:m>1
   ·rw[if_pos d]
    simp only[run,okT];rw[if_pos (b 0 (m-1) (by lia) (by lia))];exact⟨m,p,rfl,f,by lia,b,P,P.ask (by lia) (by lia) (by lia),trivial⟩
   ·rw[if_neg d]
    obtain rfl:m=1:=by lia
    rcases g with z|z
    ·lia
    ·exact yO T P (by lia) fun i j s t=>by
      obtain rfl:j=1:=by lia
      obtain rfl:i=0:=by lia
      exact z
 obtain⟨a,p',k,l,n,o,q,r⟩:=u;unfold kas_count;refine⟨a,p',?_,l,n,o,q,oz h ?_⟩
 ·rw[run_bind,e]
  exact k
 ·rw[e]
  exact r
theorem se(T:Tot lt N)(P:Pm p N)(g:k<N)(u:Up lt p k):∀(f l r:Nat),l<=r->r<=k->r-l<=f->(∀i,i<l->lt (at' p i) (at' p k)=true)->(∀i,r<=i->i<k->lt (at' p k) (at' p i)=true)->
  ∃q,run lt (kas_place p k f l r)=q/\q<=k/\(∀i,i<q->lt (at' p i) (at' p k)=true)/\(∀i,q<=i->i<k->lt (at' p k) (at' p i)=true)/\okT lt N (kas_place p k f l r)
 | 0,l,r,h1,h2,h3,a,b=>⟨l,rfl,by lia,a,fun i hi=>b i (by lia),trivial⟩
 |f+1,l,r,h1,h2,h3,a,b=>by
  unfold kas_place;by_cases c:l≥ r
  ·rw[if_pos c]
   exact⟨l,rfl,by lia,a,fun i hi=>b i (by lia),trivial⟩
  ·rw[if_neg c]
   have v:=P.ask (i:=k) (j:=(l+r)/2) g (by lia) (by lia);simp only[run,okT];by_cases d:lt (at' p k) (at' p ((l+r)/2))=true
   ·rw[if_pos d]
    have key:=se T P g u f l ((l+r)/2) (by lia) (by lia) (by lia) a fun i hi w=>?_;obtain⟨q,h,m,n,o,s⟩:=key;exact⟨q,h,m,n,o,v,s⟩;by_cases e:i=(l+r)/2
    ·rw[e];exact d
    ·exact T.tr _ _ _ (P.lt g) (P.lt (by lia)) (P.lt (by lia)) d (u _ _ (by lia) w)
   ·rw[if_neg d]
    have t:=T.flip P g (by lia:(l+r)/2<N) (by lia) (by simpa using d);have key:=se T P g u f ((l+r)/2+1) r (by lia) h2 (by lia) (fun i hi=>?_) b;obtain⟨q,h,m,n,o,s⟩:=key;exact⟨q,h,m,n,o,v,s⟩;by_cases e:i=(l+r)/2
    ·rw[e];exact t
    ·exact T.tr _ _ _ (P.lt (by lia)) (P.lt (by lia)) (P.lt g) (u _ _ (by lia) (by lia)) t
end
theorem DE{lt:Nat->Nat->Bool}{N:Nat}(T:Tot lt N):∀(f k:Nat)(p:Array Nat),Pm p N->k+f=N->Up lt p k->∃p',run lt (kas_bin f p k)=p'/\Up lt p' N/\Pm p' N/\okT lt N (kas_bin f p k)
 | 0,k,p,P,h,u=>⟨p,rfl,by rw[<-h];exact u,P,trivial⟩
 |f+1,k,p,P,h,u=>by
  have c:k<N:=by lia
  obtain⟨q,e,hq,a,b,l⟩:=se T P c u k 0 k (aR _) (ay _) (by lia) (fun i hi=>absurd hi (c8 _)) fun i h1 h2=>by lia
  have key:=DE T f (k+1) (bubble p k (k-q)) P.bub (by lia) fun i j s t=>?_;obtain⟨p',m,n,o,r⟩:=key;unfold kas_bin;refine⟨p',?_,n,o,oz l ?_⟩
  ·rw[run_bind,e]
   exact m
  ·rw[e]
   exact r
  have d:k<p.size:=by rw[P.size];exact c
  rw[JO d (by lia),JO d (by lia)];have g:k-(k-q)=q:=by lia
  rw[g];by_cases c1:i=q
  ·rw[if_pos c1,if_neg (by lia),if_pos (by lia)]
   exact b _ (by lia) (by lia)
  ·rw[if_neg c1]
   by_cases c2:j=q
   ·rw[if_pos c2,if_neg (by lia)]
    exact a i (by lia)
   ·rw[if_neg c2]
    by_cases c3:q<i
    ·rw[if_pos (by lia),if_pos (by lia)]
     exact u _ _ (by lia) (by lia)
    ·rw[if_neg (by lia)]
     by_cases c4:q<j
     ·rw[if_pos (by lia)]
      exact u _ _ (by lia) (by lia)
     ·rw[if_neg (by lia)]
      exact u _ _ (by lia) (by lia)
theorem eT{lt:Nat->Nat->Bool}{N:Nat}(T:Tot lt N)(n:1<=N):Pm (run lt (dm N)) N/\Up lt (run lt (dm N)) N/\okT lt N (dm N):=by
 have d:Pm (dQ (aA N)) N:=⟨Array.Perm.refl _⟩;obtain⟨m,p',e,q,r,a,b,f⟩:=Fj T d n;have o:max m 1=m:=by lia
 have p:∃p2,run lt (if m<N then kas_bin (N-max m 1) p' (max m 1)else uJ p')=p2/\Up lt p2 N/\Pm p2 N/\okT lt N (if m<N then kas_bin (N-max m 1) p' (max m 1)else uJ p'):=by
  rw[o];by_cases c:m<N
  ·rw[if_pos c]
   exact DE T (N-m) m p' b (by lia) a
  ·rw[if_neg c]
   have k:m=N:=by lia
   exact⟨p',rfl,by rw[<-k];exact a,b,trivial⟩
 obtain⟨p2,g,h,i,j⟩:=p;have l:run lt (dm N)=p2:=by
  unfold dm;rw[run_bind,e];exact g
 rw[l];refine⟨i,h,?_⟩;unfold dm;refine oz f ?_;rw[e];exact j
theorem wp_run{lt:Nat->Nat->Bool}{N:Nat}{S:Shared->Prop}{b:Nat->Nat->(Bool->Shared->Prop)->Shared->Prop}{α:Type}{G:α->Shared->Prop}
  (h:∀i j C s,i<N->j<N->i≠j->S s->(∀s',S s'->C (lt i j) s')->b i j C s):
  ∀(t:KasT α)(s:Shared),okT lt N t->S s->(∀s',S s'->G (run lt t) s')->t.kasWp b G s
 |.ret a,s,_,hs,g=>g s hs
 |.ask i j k,s,ok,hs,g=>h i j _ s ok.1.1 ok.1.2.1 ok.1.2.2 hs fun s' c=>wp_run h (k (lt i j)) s' ok.2 c g
end Q
namespace L2
open PySem PySem.Spec PyProof.Rows
structure Fly(h₀ h:Heap)(H:Hp)(pn:List (Addr×Obj))(a:Addr)(c:Value)(d:Option Addr):Prop where
 ex:∃T oe vs oT ts,h.get? a=some oe/\oe.cls=c/\oe.dict=d/\oe.data=.fields vs/\vs[1]? =some (.ref T)/\T≠a/\h.get? T=some oT/\oT.data=.fields ts/\ts[3]? =some .none/\h₀.get? T=none/\H T=none/\∀p∈pn,p.1≠T
 new:h₀.get? a=none
 un:H a=none
 pins:∀p∈pn,p.1≠a
noncomputable def CXx(P:Program)(w:World):CXT:=fun b H s E e s'=>
 ∃a c d H',e=.ref a/\s'.os=s.os/\oS s'.gens/\Un (frs b) [] H H' s.heap s'.heap/\HOk P w H' s'.heap/\Fly s.heap s'.heap H' [] a c d/\E c d H'
section
variable {X:Cx}{pins:List (Addr×Obj)}{σ:St}{H:Hp}{s:Shared}
theorem Inv.yw(I:Inv X pins σ H s)(k:∀b o,b≠it->s.heap.get? b=some o->h'.get? b=some o)(E:H it=none)(B:it≠X.env.locals)
  (h1:X.s₀.heap.get? it=none)(h2:∀x c,X.env.cells.lookup x=some c->c≠it)(A:∀p∈X.pn++pins,p.1≠it):Inv X pins σ H {s with heap:=h',toks:=t'}:=by
 have h:∀b o,X.s₀.heap.get? b=some o->b≠it:=fun b o e z=>by rw[z,h1]at e;cases e
 have j:∀b u,H b=some u->b≠it:=fun b u e z=>by rw[z,E]at e;cases e
 refine⟨I.ok,I.os,I.bare,⟨fun b o e n g a=>k b o (h b o e) (I.base.keep b o e n g a),fun b o e n g a=>?_,I.base.free,fun b o e a=>?_,I.base.tups,I.base.frzs,I.base.tbls⟩,?_,fun x c e=>?_,I.free,I.freeC,fun p hp=>?_,fun b u e=>?_,I.len⟩
 ·obtain⟨sl,q⟩:=I.base.slot b o e n g a
  exact⟨sl,k _ _ (h b o e) q⟩
 ·obtain⟨o',q⟩:=I.base.there b o e a
  exact⟨o',k _ _ (h b o e) q⟩
 ·obtain⟨m,⟨o,es,ep,F,r⟩,D⟩:=I.loc
  refine⟨m,⟨o,es,ep,k _ _ (bS B) F,r⟩,fun i x v t w y=>?_⟩;obtain⟨u,G,l⟩:=D i x v t w y;refine⟨u,G,?_⟩;rcases l with l|⟨kk,c,e,oc,q,f⟩
  ·exact .inl l
  ·exact .inr ⟨kk,c,e,oc,k _ _ (h2 x c e) q,f⟩
 ·obtain⟨v,oc,q,f⟩:=I.cell x c e
  exact⟨v,oc,k _ _ (h2 x c e) q,f⟩
 ·obtain⟨e,n,ne,nf,d⟩:=I.pin p hp
  exact⟨k _ _ (A p hp) e,n,ne,nf,d⟩
 ·refine(I.hok b u e).oV (fun c v C q=>k c v ?_ q) (fun _ q=>q) fun _ _ q=>q
  rcases C with z|z
  ·rw[z];exact j b u e
  ·exact j c _ z
theorem Inv.Cf(I:Inv X pins σ H s){o:Obj}{vs:Array Value}(e:s.heap.get? a=some o)(f:o.data=.fields vs):a≠X.env.locals/\∀x c,X.env.cells.lookup x=some c->c≠a:=by
 refine⟨fun z=>?_,fun x c g z=>?_⟩
 ·obtain⟨m,⟨o',es,ep,d,b,_⟩,_⟩:=I.loc
  rw[<-z,e]at d;cases d;rw[f]at b;cases b
 ·obtain⟨v,o',d,b⟩:=I.cell x c g
  rw[z,e]at d;cases d;rw[f]at b;cases b
theorem dP.has{o:HO}(x:dP P w H h a o):∃b,h.get? a=some b:=by
 cases o with
 |lst xs=>obtain⟨_,_,_,_,e⟩:=x;exact⟨_,e⟩
 |tup xs=>obtain⟨_,_,_,_,e,_⟩:=x;exact⟨_,e⟩
 |dK kvs=>obtain⟨_,_,_,_,o,_,_,e,_⟩:=x;exact⟨_,e⟩
 |dT kvs=>obtain⟨_,_,_,_,o,_,_,e,_⟩:=x;exact⟨_,e⟩
 |set S n=>obtain⟨o,_,_,_,e,_⟩:=x;exact⟨_,e⟩
 |ins C dx fs=>obtain⟨_,_,_,e,_⟩:=x;exact⟨_,e⟩
 |own y=>exact x
 |xd fs=>obtain⟨_,⟨_,_,_,e,_⟩,_⟩:=x;exact⟨_,e⟩
 |rng lo hi=>obtain⟨_,_,_,e⟩:=x;exact⟨_,e⟩
 |frz b u=>obtain⟨e,_⟩:=x;exact⟨_,e⟩
 |tbl ps=>exact⟨_,x⟩
 |met f y=>exact⟨_,x⟩
 |ext φ=>exact x.2.1
section
variable {M:Model}{E:Value->Shared->Prop}{Q:Unit->Shared->Prop}
theorem enter{d:Obj}{vs:Array Value}{k:Value}{more:Bool}(I:Inv X pins σ H s)(t:X.stack=X.env::X.outer)(hf:X.env.frame=some X.env.locals)
  (B:s.heap.get? a=some d)(j:d.data=.fields vs)(S:1<vs.size)(h0:X.s₀.heap.get? a=none)(D:H a=none)(hp:∀p∈X.pn++pins,p.1≠a)
  (h:∀s2,Inv X pins σ H s2->Fly X.s₀.heap s2.heap H (X.pn++pins) a d.cls d.dict->Q () s2):
  wpAny M X.A (do let f<-frameOf X.env;let l<-entryPlaceOf X.env.locals more;let b<-BN k f .none (rawInt X.env.locals) .none l;tX (.ref a) 1 b)
   (fun _ s'=>wpAny M X.A (BE (.ref a) none) Q E s') E s:=by
 have a2:X.A.frames=some (X.env::X.outer):=by rw[<-t];exact I.ok.frames
 have N:s.heap.FunFrames X.base (X.env::X.outer):=by rw[<-t];exact I.stack
 have nofr:∀b∈frs X.stack,H b=none:=I.yA;refine af (wpAny_frameOf_fun a2 N hf fun h1 R=>?_);have i:Heap.SlotsOnly (frs X.stack) s.heap h1:=by rw[t];exact R
 have a1:a∉frs X.stack:=fun m=>by
  rw[t]at m;obtain⟨_,o,O,a3⟩:=N.mem m;rw[B]at O;cases O;exact a3 vs j
 have u1:Un (frs X.stack) [] H H s.heap h1:=
  ⟨fun b o e _ g _=>(i.2.1 b g).trans e,fun b o e _ _ _=>i.2.2 b o e,fun _ _ _ n _=>n,fun b o e _=>let⟨sl,q⟩:=i.2.2 b o e;⟨_,q⟩,fun _ _ q=>q,fun _ _ _ q=>q,fun _ ps q=>⟨#[],by rw[q];simp⟩⟩
 have k1:HOk X.prog X.w H h1:=fun b u e=>by
  refine(I.hok b u e).oV (fun c v hc q=>(i.2.1 c fun m=>?_).trans q) (fun _ q=>q) fun _ _ q=>q;have n:=nofr c m;rcases hc with z|z
  ·rw[z,e]at n;cases n
  ·rw[z]at n;cases n
 have V:Inv X pins σ H {s with heap:=h1}:=I.call (g':=s.gens) (t':=s.toks) (d':=s.drawn) (ch:=[]) u1 k1 I.bare fun _ z=>nomatch z;have J:h1.get? a=some d:=(i.2.1 a a1).trans B;refine af (wpAny_entryPlaceOf fun pl a5=>?_);unfold BN newFields;refine af (bw ?_ (a5.sizeOk5 _ _ _ _ _));generalize hob:({cls:=.type "traceback",dict:=none,data:=.fields ([k,.ref X.env.locals,.none,rawInt X.env.locals,.none]++(if pl.isEmpty then bp 6 bF else pl)).toArray}:Obj)=ob;have r:ob.data=.fields ([k,.ref X.env.locals,.none,rawInt X.env.locals,.none]++(if pl.isEmpty then bp 6 bF else pl)).toArray:=by rw[<-hob]
 have a4:ob.isFreed=false:=by rw[<-hob];rfl
 have W:Inv X pins σ H {s with heap:=h1.push ob}:=V.kept (t':=s.toks) fun b o e=>ag _ e;have K:(h1.push ob).get? a=some d:=ag _ J;have a0:(h1.push ob).get? h1.objs.size=some ob:=az _ a4;have x:h1.objs.size≠a:=eD (aB J);have A:=iQ j (·.setIfInBounds 1 (cF h1.objs.size));refine tV K j S ?_;obtain⟨a6,a7⟩:=I.Cf B j;have C:Inv X pins σ H {s with heap:=(h1.push ob).update a (iK (·.setIfInBounds 1 (.ref h1.objs.size)))}:=
  W.yw (t':=s.toks) (fun b o g e=>by rw[aX _ _ (bS g)];exact e) D a6 h0 a7 hp
 have L:=cw (iK (·.setIfInBounds 1 (cF h1.objs.size))) K (qf A);have w:((h1.push ob).update a (iK (·.setIfInBounds 1 (cF h1.objs.size)))).get? h1.objs.size=some ob:=by
  rw[aX _ _ (bS x)];exact a0
 have T:3<([k,.ref X.env.locals,.none,rawInt X.env.locals,.none]++(if pl.isEmpty then bp 6 bF else pl)).toArray.size:=by
  simp only[au,aN,bg,oX];lia
 have U:(vs.setIfInBounds 1 (cF h1.objs.size))[1]? =some (.ref h1.objs.size):=by simp[S]
 refine wpAny_setFlight_none L A U w r T ?_;have y:s.heap.objs.size<=h1.objs.size:=wF R.1.symm;have F:X.s₀.heap.get? h1.objs.size=none:=GI (aG I.sz y);have G:H h1.objs.size=none:=I.hok.fresh y;obtain⟨a8,a9⟩:=C.Cf w r;have P:∀p∈X.pn++pins,p.1≠h1.objs.size:=fun p hq z=>by
  have q:=aB (I.pin p hq).1;exact absurd (aY (z▸q) y) (du _)
 have Y:=C.yw (t':=s.toks) (h':=((h1.push ob).update a (iK (·.setIfInBounds 1 (.ref h1.objs.size)))).update h1.objs.size (iK (·.setIfInBounds 3 .none)))
  (fun b o g e=>by rw[aX _ _ (bS g)];exact e) G a8 F a9 P
 refine h _ Y ⟨⟨h1.objs.size,_,_,_,_,?_,Obj.cls_mapFields _ _,?_,A,U,x,cw _ w (qf (iQ r _)),iQ r _,?_,F,G,P⟩,h0,D,hp⟩
 ·show(Heap.update _ _ _).get? a=_
  rw[aX _ _ x];exact L
 ·obtain⟨c',d',Z,b0⟩:=d
  cases Z<;>rfl
 ·rw[Array.getElem?_setIfInBounds_self_of_lt T]
theorem Ij{c:Value}(I:Inv X pins σ H s)(j:X.stack=X.env::X.outer)(hf:X.env.frame=some X.env.locals)(i:X.ex=[])(b:Heap.MadeExcOf s.heap h' a c args)
  (h:∀s2,Inv X pins σ H s2->Fly X.s₀.heap s2.heap H (X.pn++pins) a c none->Q () s2):
  wpAny M X.A (mI (.ref a) X.env) (fun _ s'=>wpAny M X.A (BE (.ref a) none) Q E s') E {s with heap:=h'}:=by
 obtain⟨t,d,_,_⟩:=b.there;have f:Inv X pins σ H {s with heap:=h'}:=I.kept (t':=s.toks) b.keeps;have g:H a=none:=by
  cases q:H a with
  |none=>rfl
  |some o=>
   obtain⟨k,e⟩:=(I.hok a o q).has;rw[b.new]at e;cases e
 unfold mI;simp only[hf];refine af (eN (x:=.none) d rfl (by rfl) ?_);rw[if_neg (show ¬(bF != bF)=true by simp)];have h0:X.s₀.heap.get? a=none:=by
  cases q:X.s₀.heap.get? a with
  |none=>rfl
  |some o=>
   obtain⟨o',e⟩:=I.base.there a o q (by rw[i];simp);rw[b.new]at e;cases e
 exact enter f j hf d rfl (by simp) h0 g (fun p hp z=>by have :=(I.pin p hp).1;rw[z,b.new]at this;cases this) h
theorem Ik{c:Value}{d:Option Addr}(I:Inv X pins σ H s)(N:X.stack=X.env::X.outer)(hf:X.env.frame=some X.env.locals)(G:X.ex=[])(D:s'.os=s.os)(C:oS s'.gens)(u:Un (frs X.stack) [] H H' s.heap s'.heap)(ok:HOk X.prog X.w H' s'.heap)
  (F:Fly s.heap s'.heap H' [] a c d)(h:∀s2,Inv X pins σ H' s2->Fly X.s₀.heap s2.heap H' (X.pn++pins) a c d->Q () s2):
  wpAny M X.A (mI (.ref a) X.env) (fun _ s'=>wpAny M X.A (BE (.ref a) none) Q E s') E s':=by
 obtain⟨⟨T,J,vs,O,ts,m,rfl,rfl,l,h1,y,f,g,k,r,w,_⟩,t,x,_⟩:=F;have i:Inv X pins σ H' s':=I.call' (ch:=[]) D u ok C fun _ z=>nomatch z;have j:∀b,s.heap.get? b=none->X.s₀.heap.get? b=none:=fun b n=>by
  cases q:X.s₀.heap.get? b with
  |none=>rfl
  |some o=>
   obtain⟨o',e⟩:=I.base.there b o q (by rw[G];simp);rw[n]at e;cases e
 have np:∀b,s.heap.get? b=none->∀p∈X.pn++pins,p.1≠b:=fun b n p hp z=>by have :=(I.pin p hp).1;rw[z,n]at this;cases this
 unfold mI;simp only[hf];refine af (eN m l h1 ?_);rw[if_pos (show(cF T != bF)=true by simp)];refine af (eN f g k ?_);rw[if_neg (show ¬(bF==rawInt X.env.locals)=true by simp[rawInt])];refine af (tV f g (dq.mp k).1 ?_);obtain⟨K,L⟩:=i.Cf f g;have v:=i.yw (t':=s'.toks) (h':=s'.heap.update T (iK (·.setIfInBounds 3 .none))) (fun b o A e=>by rw[aX _ _ (bS A)];exact e) w K (j T r) L (np T r);have B:(s'.heap.update T (iK (·.setIfInBounds 3 .none))).get? a=some J:=by rw[aX _ _ y];exact m
 exact enter v N hf B l (dq.mp h1).1 (j a t) x (np a t) h
end
end
end L2
namespace L2
open PySem PySem.Spec PySem.W PyProof.Rows
noncomputable def excOk(K:ah)(C:Addr):Bool:=
 findIn K (.ref C) "__getattribute__"==some (some (.builtin "BaseException.__getattribute__"))&&findIn K (.ref C) "__getattr__"==some none&&
 findIn K (.ref C) "__class__"==some (some (.builtin "object.__class__"))&&specialIn K (.builtin "object.__class__") "__get__"==some (some (.builtin "getset_descriptor.__get__"))&&
 takesIn K (.builtin "object.__class__")==some true&&mroIn K C (.type "object")==some true&&mroIn K C (.type "BaseException")==some true&&(clsIn K C).isSome
abbrev bmV:List Value:=[.type "ValueError",.type "Exception",.type "BaseException",.type "object"]
noncomputable def Jm(a:Addr)(c:Value)(d:Option Addr):HO:=.ext fun h=>∃o,h.get? a=some o/\o.cls=c/\o.dict=d/\notCls o=true
noncomputable abbrev excO(a:Addr)(c:Value):HO:=Jm a c none
noncomputable def Cx.re(X:Cx)(A:Around)(calm:Bool)(pn:List (Addr×Obj))(xe:Value->Shared->Prop):Cx:={X with A:=A,calm:=calm,pn:=pn,xe:=xe}
noncomputable def Ends.drop(D:Ends)(i:Nat):Ends:={nx:=fun σ H=>D.nx (σ.set i none) H,rt:=D.rt,bk:=fun σ H=>D.bk (σ.set i none) H,ct:=fun σ H=>D.ct (σ.set i none) H}
noncomputable def eCatch(K:ah)(C:Addr)(i:Nat)(ts:TS)(D:Ends):St->XK:=fun σ c d H=>
 c=c/\exmOne K c (.ref C)=some true/\∀a,H a=none->ts (D.drop i) (σ.set i (some (.ref a))) (upd H a (Jm a c d))
noncomputable def wCatch(X:Cx)(pins:List (Addr×Obj))(D:Ends)(a:List ExceptHandler):Value->Shared->Prop:=fun e b=>
 wpAny (model X.prog X.w) X.A (mI e X.env) (fun _ s2=>wpAny (model X.prog X.w) X.A (BE e none) (fun _ s3=>wpAny (model X.prog X.w) X.A (handleBy e X.env a) (SP X pins D) X.xe s3) X.xe s2) X.xe b
section
variable {X:Cx}{pins:List (Addr×Obj)}{σ:St}{H:Hp}{s:Shared}{x n:Str}{C:Addr}{i:Nat}{b₀:Stmt}{suite:List Stmt}{np hpos pos:Pos}{ts:TS}{D:Ends}
structure TryOk(X:Cx)(x n:Str)(C:Addr)(i:Nat)(suite:List Stmt)(ts:TS):Prop where
 nd:X.N.Nodup
 at_:X.N[i]? =some n
 loc:X.env.scope.names.lookup n=some .local
 gl:Gl X x
 mg:X.mg x=some (.ref C)
 db:(x==("__debug__":Str))=false
 stk:X.stack=X.env::X.outer
 fr:X.env.frame=some X.env.locals
 ex:X.ex=[]
 su:∀(pins:List (Addr×Obj))(a:Addr),PSs (X.re (X.A.mark (some (.ref a))) false (X.pn++pins) (fun _ _=>False)) suite ts
end
noncomputable abbrev XS:=St->XK
noncomputable abbrev N0:XS:=fun _=>E0
def BC(CX:CXT)(X:Cx)(E:XS):Prop:=∀(pins:List (Addr×Obj))(σ:St)(H:Hp)(s:Shared)(e:Value)(s':Shared),Inv X pins σ H s->CX X.stack H s (E σ) e s'->X.xe e s'
def MadeS(X:Cx)(E:XS):Prop:=∀(pins:List (Addr×Obj))(σ:St)(H:Hp)(s:Shared)(a:Addr)(c:Value)(args:List Value)(h':Heap),Inv X pins σ H s->Heap.MadeExcOf s.heap h' a c args->E σ c none H->X.xe (.ref a) {s with heap:=h'}
section
variable {X:Cx}{CX:CXT}{k:Nat}{f:Addr}{fd:gK}{ps:List Str}{sp:Sp}{dvs:List V}{ds:List Value}{E:XS}{x:Str}{p pos:Pos}{e:Expr}{es:List Expr}{t:TA}
theorem DD{Q:VK}{vs:List V}(F:jV X.prog X.w X.K X.mg X.base CX k f fd ps sp)(g:j6 k X.A)(b:Binds X.K fd ps ds)(c:bE dvs ds)(i:BC CX X E)
  (I:Inv X pins σ H s)(r:bE vs us)(h:sp (vs++dvs) H Q (E σ)):wpAny (model X.prog X.w) X.A (call (.ref f) us) (EP X pins σ Q) X.xe s:=by
 have a:bE (vs++dvs) (us++ds):=r.append c;have d:(us++ds).length=ps.length:=a.length.symm.trans (F.len _ _ _ _ h);refine wpAny_call (mn (F.run X.A X.stack s H ⟨us,[]⟩ (us++ds) (vs++dvs) Q (E σ) g I.env0 (b s us I.kIn d) a h) fun r s' hq=>?_);cases r with
 |error e=>exact i pins σ H s e s' I hq
 |ok fl=>cases fl<;>first |exact I.after hq|exact kN hq
theorem HW(F:jV X.prog X.w X.K X.mg X.base CX k f fd ps sp)(o:j6 k X.A)(j:Gl X x)(m:X.mg x=some (.ref f))(l:cS X.K (.ref f)=true)(c:Binds X.K fd ps ds)(d:bE dvs ds)(u:BC CX X E)
  (b:PA X (e::es) t)(g:(x==("__debug__":Str))=false)(i:b7 (e::es) X.env=(false,eval e X.env)::b7 es X.env)(n:(backTo pos (b7 es X.env)).any (·.1)=false):
  PE X (.Call (.Name x p) (e::es) [] pos) (fun σ H Q=>Ah sp dvs (E σ) t σ H Q):=by
 intro pins s σ H Q I h;refine jh (zo I j m ?_ g);exact PySem.W.callWith_K (h₀:=X.base) I.ok.mod.kin l (thn (b pos pins s σ H _ I h) fun us v ⟨vs,H1,a,r,q⟩=>⟨a.kIn,DD F o c d u a r q⟩) i n
theorem Ft(F:jV X.prog X.w X.K X.mg X.base CX k f fd ps sp)(i:j6 k X.A)(d:Gl X x)(g:X.mg x=some (.ref f))(e:cS X.K (.ref f)=true)(a:Binds X.K fd ps ds)(b:bE dvs ds)(j:BC CX X E)
  (c:(x==("__debug__":Str))=false):PE X (.Call (.Name x p) [] [] pos) (fun σ H Q=>Ah sp dvs (E σ) oU σ H Q):=by
 intro pins s σ H Q I h;refine jh (zo I d g ?_ c);exact PySem.W.callWith_K0 I.kIn e (DD (us:=[]) F i a b j I .nil h)
end
section
variable {P:Program}{w:World}{K:ah}{mg:Str->Option Value}{base:Heap}
theorem Gc{cd:Value}{outer:List Env}{E:XK}:
  BC (CXx P w) (zC (CXx P w) P w K mg base N qual scope f cd A outer s H E) (fun _=>E):=by
 intro pins σ H1 G e s' I h;obtain⟨a,c,d,H',rfl,y,x,u,B,F,q⟩:=h;show wpAny _ _ (leaving _ _) _ _ _;unfold leaving;refine af (Ik I rfl rfl rfl y x u B F fun s2 b g=>?_);obtain⟨⟨T,D,vs,C,ts,h1,h2,m,n,o,p,r,t,v,k,l,_⟩,i,j,_⟩:=g;exact⟨a,c,d,H',rfl,b.os,b.bare,b.base,b.hok,⟨⟨T,D,vs,C,ts,h1,h2,m,n,o,p,r,t,v,k,l,fun _ z=>nomatch z⟩,i,j,fun _ z=>nomatch z⟩,q⟩
theorem Gd{cd:Value}{outer:List Env}{E:XK}:
  MadeS (zC (CXx P w) P w K mg base N qual scope f cd A outer s H E) (fun _=>E):=by
 intro pins σ H1 v a c args h' I r q;show wpAny _ _ (leaving _ _) _ _ _;unfold leaving;refine af (Ij I rfl rfl rfl r fun s2 b d=>?_);obtain⟨⟨T,u,vs,t,ts,h1,h2,j,k,l,m,n,o,p,h,i,_⟩,e,g,_⟩:=d;exact⟨a,c,none,H1,rfl,b.os,b.bare,b.base,b.hok,⟨⟨T,u,vs,t,ts,h1,h2,j,k,l,m,n,o,p,h,i,fun _ z=>nomatch z⟩,e,g,fun _ z=>nomatch z⟩,q⟩
theorem F0{o:List Env}{e:Value}(h:CXx P w o H s E0 e s'):False:=by
 obtain⟨_,_,_,_,_,_,_,_,_,_,q⟩:=h;exact q
theorem jV.calm{fd:gK}{ps:List Str}{sp:Sp}(F:jV P w K mg base (CXx P w) k f fd ps sp):jV P w K mg base CX0 k f fd ps (fun vs H Q _=>sp vs H Q E0):=
 ⟨fun vs H Q E h=>F.len vs H Q E0 h,fun A i s H args us vs Q E c b a g d=>mn (F.run A i s H args us vs Q E0 c b a g d) fun r s' q=>by
  cases r with
  |error e=>exact F0 q
  |ok fl=>cases fl<;>exact q⟩
end
end L2
namespace Q
open PySem PySem.Spec PySem.W PyProof.Rows L2
noncomputable def gE(lt:Nat->Nat->Bool)(vs:List Value):List Value:=if vs.length<2 then vs else(run lt (dm vs.length)).toList.map fun i=>vs.getD i .none
def Gh(prog:Program)(w:World)(A:Around)(lt:Nat->Nat->Bool)(vs:List Value)(h0:Heap):Prop:=
 ∀a:Shared,(∀b o,h0.get? b=some o->a.heap.get? b=some o)->
  ∃κ,(∀(c:SortKind->Shared->Prop)(d:Value->Shared->Prop),c κ a->wpAny (model prog w) A (keyKind' vs.toArray) c d a)/\
   ∀i j (C:Bool->Shared->Prop),i<vs.length->j<vs.length->i≠j->C (lt i j) a->kas_ask prog w A κ vs i j C a
section
variable {prog:Program}{w:World}{A:Around}{E:Value->Shared->Prop}{s:Shared}{lt:Nat->Nat->Bool}{vs:List Value}
theorem fL(h:n<64):n<=sizeLine:=by rw[BO];lia
theorem DA(h:n<64):n<=sizeLine+1:=eX (fL h)
theorem Dz{P:dM->Shared->Prop}(T:Tot lt vs.length)(q:s.heap.get? a=some (seqObj "list" vs.toArray n))(u:∀b o,h0.get? b=some o->s.heap.get? b=some o/\b≠a)(f:vs.length<64)
  (ask:2<=vs.length->Gh prog w A lt vs h0)(h:P (.done (.ret .none)) {s with heap:=sortedHeap s.heap a vs (gE lt vs).toArray}):wpAny (model prog w) A (Builtin.«list.sort» ⟨[.ref a],[]⟩) P E s:=by
 have d:vs.toArray.size=vs.length:=by simp
 obtain⟨c,t⟩:∃c,(s.heap.update a (aV fun _=> #[])).get? a=some (seqObj "list" #[] c):=⟨_,rS q _⟩;have k:(((s.heap.update a (aV fun _=> #[])).push (seqObj "tuple" vs.toArray 0)).push (seqObj "list" #[] 0)).get? a=some (seqObj "list" #[] c):=ag _ (ag _ t);have M:∀b o,h0.get? b=some o->(((s.heap.update a (aV fun _=> #[])).push (seqObj "tuple" vs.toArray 0)).push (seqObj "list" #[] 0)).get? b=some o:=fun b o e=>
  ag _ (ag _ ((aX _ _ (bS (u b o e).2)).trans (u b o e).1))
 rw[list_sort_plain];refine af (listItems_at q rfl (af (fC q rfl ?_ (by rw[d];exact fL f) (aR _))));refine af (tZ t rfl (af (wpAny_newTuple ?_ (show vs.length<=_ from fL f))));refine af (oW (bU ?_) (aR _));by_cases hn:vs.length<2
 ·have e:gE lt vs=vs:=if_pos hn
  rw[e]at h;dsimp only;rw[if_pos (by rw[d];exact hn),if_pos (by rw[d];exact hn)];refine af (aj (af ?_));rw[StateT.run_pure];refine aj (af (tZ k rfl (af (fC k rfl ?_ (aR _) ?_))))
  ·have m:(arrOf (SortSt.mk' general' (vs.toArray.zip vs.toArray) #[] 7 none)).map (·.2)=vs.toArray:=by
    show(vs.toArray.zip vs.toArray).map (·.2)=vs.toArray;apply Array.ext';simp[ju]
   rw[m];have g:failedOf ((),SortSt.mk' general' (vs.toArray.zip vs.toArray) #[] 7 none).snd=none:=rfl;rw[g];simp only[bne_self_eq_false,aU,if_false];exact aj h
  ·show((vs.toArray.zip vs.toArray).map (·.2)).size<=_
   rw[Array.size_map,Array.size_zip,d,Nat.min_self];exact eX (fL f)
 ·have h2:2<=vs.length:=by lia
  have e:gE lt vs=(run lt (dm vs.length)).toList.map fun i=>vs.getD i .none:=if_neg hn;rw[e]at h;dsimp only;rw[if_neg (by rw[d];exact hn),if_neg (by rw[d];exact hn)];obtain⟨κ,I,J⟩:=ask h2 {s with heap:=((s.heap.update a (aV fun _=> #[])).push (seqObj "tuple" vs.toArray 0)).push (seqObj "list" #[] 0)} M;obtain⟨x,N,v⟩:=eT T (by lia:1<=vs.length);refine af (I _ _ (af ?_));have key:=kat_run (prog:=prog) (w:=w) (A:=A) (E:=E) (κ:=κ) (ks:=vs) (vs:=vs) (s:={s with heap:=((s.heap.update a (aV fun _=> #[])).push (seqObj "tuple" vs.toArray 0)).push (seqObj "list" #[] 0)})
   (Q:=fun l s'=>s'={s with heap:=((s.heap.update a (aV fun _=> #[])).push (seqObj "tuple" vs.toArray 0)).push (seqObj "list" #[] 0)}/\arrOf l=(run lt (dm vs.length)).map (kas_item (vs.toArray.zip vs.toArray))/\failedOf l=none)
   (G:=fun p s'=>s'={s with heap:=((s.heap.update a (aV fun _=> #[])).push (seqObj "tuple" vs.toArray 0)).push (seqObj "list" #[] 0)}/\p=run lt (dm vs.length)) rfl h2 f
   (fun p l s' _ y m g=>⟨g.1,by rw[y,g.2],m⟩)
   (wp_run (S:=fun s'=>s'={s with heap:=((s.heap.update a (aV fun _=> #[])).push (seqObj "tuple" vs.toArray 0)).push (seqObj "list" #[] 0)}) (fun i j C s' hi H F r B=>by
    subst r;exact J i j C hi H F (B _ rfl)) _ _ v rfl fun s' r=>⟨r,rfl⟩)
  refine gy key ?_ fun _ _ z=>z;rintro⟨⟨⟩,l⟩ s' ⟨rfl,D,hf⟩;have L:=kat_snds (ks:=vs) (vs:=vs) rfl D;dsimp only;rw[L,hf];have K:(dQ ((run lt (dm vs.length)).toList.map fun i=>vs.getD i bF)).size<=sizeLine+1:=by
   rw[au,ai,bZ,x.size];exact eX (fL f)
  refine af (tZ k rfl (af (fC k rfl ?_ (aR _) K)));simp only[bne_self_eq_false,aU,if_false];exact aj h
theorem xu{Q:Value->Shared->Prop}(T:Tot lt vs.length)(g:s.heap.IsList l vs.toArray)(a:vs.length<64)(ask:2<=vs.length->Gh prog w A.in1.in1 lt vs s.heap)
  (h:Q (.ref (s.heap.objs.size+1)) {s with heap:=sortedAll s.heap vs (gE lt vs).toArray}):wpAny (model prog w) A (call (.builtin "sorted") [.ref l]) Q E s:=by
 refine lT kind_sorted plain_sorted entry_sorted (args_sorted1 _) ?_;unfold Builtin.«sorted»;refine af (m:=checkCount "sorted" 1 1 _) (aj (af (collect_list g (af (oW ?_ (show vs.length<=_ from fL a))) (fL a))));generalize hH:(s.heap.push (seqObj "list" #[] 0)).update s.heap.objs.size (aV (·++vs.toArray))=h1;have d:h1.objs.size=s.heap.objs.size+1:=by rw[<-hH,wM,Gk]
 have kp:∀b o,s.heap.get? b=some o->h1.get? b=some o:=fun b o e=>by
  have f:=aB e;rw[<-hH,aX _ _ (eD f)];exact ag _ e
 have c:(h1.push (seqObj "list" vs.toArray 0)).get? (s.heap.objs.size+1)=some (seqObj "list" vs.toArray 0):=by
  rw[<-d];exact az _ rfl
 have hq:sortedAll s.heap vs (gE lt vs).toArray=sortedHeap (h1.push (seqObj "list" vs.toArray 0)) (s.heap.objs.size+1) vs (gE lt vs).toArray:=by rw[<-hH];rfl
 rw[hq]at h;show wpAny _ _ _ _ _ {s with heap:=h1.push (seqObj "list" vs.toArray 0)};rw[d];refine af (bU (cD Gj ⟨_,c,rfl⟩ Dh (Dz T c (fun b o e=>⟨ag _ (kp b o e),aK (bG (aB e))⟩) a ask ⟨_,rfl,?_⟩) (args_list_sort _)));exact aj ⟨_,rfl,h⟩
end
noncomputable def tlt(x y:Str):Bool:=decide (x.cps.toList<y.cps.toList)
noncomputable def nj(ks:List Str)(i j:Nat):Bool:=tlt (ks.getD i "") (ks.getD j "")
noncomputable def ord(ks:List Str):List Nat:=if ks.length<2 then aA ks.length else(run (nj ks) (dm ks.length)).toList
noncomputable def sortBy{α:Type}(d:α)(ks:List Str)(ys:List α):List α:=(ord ks).map fun i=>ys.getD i d
theorem str_ext{y:Str}(h:x.cps.toList=y.cps.toList):x=y:=by
 obtain⟨a⟩:=x;obtain⟨b⟩:=y;have :a=b:=Array.toList_inj.mp h;rw[this]
theorem xm{y:Str}(a:tlt x y=true)(b:tlt y z=true):tlt x z=true:=by
 unfold tlt at *;rw[decide_eq_true_eq]at *;exact List.lt_trans a b
theorem tlt_tri{y:Str}(h:x≠y):tlt x y= !tlt y x:=by
 unfold tlt;by_cases c:x.cps.toList<y.cps.toList
 ·have d:¬y.cps.toList<x.cps.toList:=fun z=>List.lt_irrefl _ (List.lt_trans c z)
  rw[decide_eq_true c,decide_eq_false d];rfl
 ·by_cases d:y.cps.toList<x.cps.toList
  ·rw[decide_eq_false c,decide_eq_true d];rfl
  ·exact absurd (str_ext (List.le_antisymm (List.not_lt.mp d) (List.not_lt.mp c))) h
theorem uM(nd:ks.Nodup):Tot (nj ks) ks.length where
 tri:=fun i j hi c h=>tlt_tri fun e=>h (by
  rw[ae,ae,aa hi,aa c]at e;exact(eG nd).mp e)
 tr:=fun i j k _ _ _ a b=>xm a b
theorem ord_len(ks:List Str)(nd:ks.Nodup):(ord ks).length=ks.length:=by
 unfold ord;split
 ·simp
 ·rw[bZ,(eT (uM nd) (by lia)).1.size]
theorem Ic(nd:ks.Nodup)(d:ks.length=ys.length)(r:bE ys vs):bE (sortBy .non ks ys) (gE (nj ks) vs):=by
 have k:=r.length;have e:vs.length=ks.length:=by lia
 unfold gE sortBy ord;rw[e];by_cases c:ks.length<2
 ·rw[if_pos c,if_pos c]
  have a:(aA ks.length).map (fun i=>ys.getD i V.non)=ys:=by
   rw[d];apply bA
   ·simp
   ·intro i h1 h2
    simp[h2]
  rw[a];exact r
 ·rw[if_neg c,if_neg c]
  have P:=(eT (uM nd) (by lia)).1;have all:∀l:List Nat,(∀i∈l,i<ks.length)->bE (l.map fun i=>ys.getD i V.non) (l.map fun i=>vs.getD i bF):=by
   intro l
   induction l with
   |nil=>exact fun _=>.nil
   |cons i l ih=>
    intro h;have hi:i<ys.length:=by have :=h i (.head _);lia
    obtain⟨u,f,g⟩:=r.get (aa hi);refine .cons ?_ (ih fun j b=>h j (.tail _ b));show L2.RelV (ys.getD i V.non) (vs.getD i bF);rw[ae,aa hi,ae,f];exact g
  refine all _ fun i hi=>?_;have m:i∈(aA ks.length).toArray:=P.perm.mem_iff.mp (jF.mp hi);simpa using m
theorem G8(r:zV vs ks)(hi:i<ks.length):∃t,vs.getD i .none=.str (ks.getD i "") t:=by
 induction r generalizing i with
 |nil=>exact absurd hi (c8 _)
 |cons y t h ih=>
  cases i with
  |zero=>exact⟨t,rfl⟩
  |succ i=>exact ih (by simpa using hi)
theorem uS(r:zV vs ks):vs.length=ks.length:=by
 induction r with
 |nil=>rfl
 |cons y t h ih=>simp[ih]
section
variable {prog:Program}{w:World}{A:Around}
theorem Gf(r:zV vs ks)(h2:2<=vs.length):Gh prog w A (nj ks) vs h0:=by
 intro f _;refine⟨oneType',fun e d q=>?_,fun i j C hi a _ q=>?_⟩
 ·match vs,r,h2 with
  |v1::v2::rest,r,_=>
   rw[keyKind_strs r];exact aj q
 ·rw[uS r]at hi a
  obtain⟨t,b⟩:=G8 r hi;obtain⟨u,c⟩:=G8 r a;unfold kas_ask;rw[b,c,keyLt'_oneType];exact oneLt_str q
end
def oH(H:Hp)(ys:List V)(ks:List Str):Prop:=Paired (fun v k=>∃a rest,v=V.ref a/\H a=some (.tup (V.str k::rest))) ys ks
noncomputable def rSort(K:ah):List V->Hp->VK->Prop:=fun xs H Q=>∃p ys ks,xs=[V.ref p]/\SqL K H p ys/\ks.length<64/\ks.Nodup/\(ys=ks.map V.str\/oH H ys ks)/\∀l,H l=none->Q (.ref l) (upd H l (.lst (sortBy .non ks ys)))
theorem sR:∀{ys:List V}{ks:List Str},oH H ys ks->ks.length=ys.length
 |_,_,.nil=>rfl
 |_,_,.cons _ t=>by simp[sR t]
set_option maxHeartbeats 3200000
noncomputable def has(acc:List Key)(k:Key):Bool:=acc.any fun x=>decide (x=k)
theorem jy{acc:List Key}{k:Key}:has acc k=true↔k∈acc:=by
 unfold has;rw[b8];constructor
 ·rintro⟨x,h,e⟩
  rw[<-of_decide_eq_true e];exact h
 ·exact fun h=>⟨k,h,decide_eq_true rfl⟩
noncomputable def more(acc:List Key)(k:Key):List Key:=if has acc k=true then acc else acc++[k]
noncomputable def met(ks:List Key):List Key:=ks.foldl more []
theorem Iz(ks:List Key)(k:Key):met (ks++[k])=more (met ks) k:=by unfold met;rw[List.foldl_append];rfl
theorem AN{acc:List Key}{k j:Key}:j∈more acc k↔j∈acc\/j=k:=by
 unfold more;split
 ·rename_i h
  constructor
  ·exact .inl
  ·rintro(z|rfl)
   ·exact z
   ·exact jy.mp h
 ·simp
theorem qH(acc:List Key)(k:Key):(more acc k).length=if has acc k=true then acc.length else acc.length+1:=by
 unfold more;split <;>simp
theorem CA(ks:List Key):(met ks).length<=ks.length:=by
 unfold met;have g:∀(l acc:List Key),(l.foldl more acc).length<=acc.length+l.length:=by
  intro l
  induction l with
  |nil=>intro acc;simp
  |cons k l ih=>
   intro acc;have h1:=ih (more acc k);have h2:=qH acc k;rw[dD,bg];split at h2<;>lia
 simpa using g ks []
theorem kj{ks:List Key}{k:Key}:k∈met ks↔k∈ks:=by
 unfold met;have g:∀(l acc:List Key),k∈l.foldl more acc↔k∈acc\/k∈l:=by
  intro l
  induction l with
  |nil=>intro acc;simp
  |cons j l ih=>
   intro acc;rw[dD,ih,AN,aE,or_assoc]
 simpa using g ks []
theorem FL{ks:List Key}(h:ks.Nodup):met ks=ks:=by
 unfold met;have g:∀(l acc:List Key),(acc++l).Nodup->l.foldl more acc=acc++l:=by
  intro l
  induction l with
  |nil=>intro acc _;simp
  |cons k l ih=>
   intro acc a;have b:k∉acc:=fun z=>(eS.mp a).2.2 k z k (.head _) rfl;have e:more acc k=acc++[k]:=if_neg fun z=>b (jy.mp z);rw[dD,e,ih (acc++[k]) (by simpa using a)];simp
 simpa using g ks [] (by simpa using h)
theorem FD(ks:List Key):(met ks).Nodup:=by
 unfold met;have g:∀(l acc:List Key),acc.Nodup->(l.foldl more acc).Nodup:=by
  intro l
  induction l with
  |nil=>intro acc h;exact h
  |cons k l ih=>
   intro acc h;rw[dD];refine ih _ ?_;unfold more;split
   ·exact h
   ·rename_i c
    refine eS.mpr ⟨h,by simp,fun a f b i e=>c ?_⟩;have d:b=k:=by simpa using i
    rw[<-d,<-e];exact jy.mpr f
 exact g ks [] i6
theorem zd{ks:List Key}(h:(met ks).length=ks.length):ks.Nodup:=by
 have up:∀(l acc:List Key),(l.foldl more acc).length<=acc.length+l.length:=by
  intro l
  induction l with
  |nil=>intro acc;simp
  |cons k l ih=>
   intro acc;have h1:=ih (more acc k);have h2:=qH acc k;rw[dD,bg];split at h2<;>lia
 have g:∀(l acc:List Key),acc.Nodup->(l.foldl more acc).length=acc.length+l.length->(acc++l).Nodup:=by
  intro l
  induction l with
  |nil=>intro acc h _;simpa using h
  |cons k l ih=>
   intro acc n e;rw[dD,bg]at e;have h1:=up l (more acc k);have h2:=qH acc k;by_cases c:has acc k=true
   ·rw[if_pos c]at h2
    lia
   ·rw[if_neg c]at h2
    have f:more acc k=acc++[k]:=if_neg c;rw[f]at e;have m:k∉acc:=fun z=>c (jy.mpr z);have o:(acc++[k]).Nodup:=eS.mpr ⟨n,by simp,fun a i b j e=>m (by
     have d:b=k:=by simpa using j
     rw[<-d,<-e];exact i)⟩
    have :=ih (acc++[k]) o (by rw[aN,dH];lia)
    simpa using this
 simpa using g ks [] i6 (by simpa[met]using h)
theorem met_one{ks:List Key}:(met ks).length<=1↔∀a∈ks,∀b∈ks,a=b:=by
 constructor
 ·intro h a f b g
  have c:=kj.mpr f;have d:=kj.mpr g
  match e:met ks,h with
  | [],_=>rw[e]at c;cases c
  | [x],_=>
   rw[e]at c d;rw[aT.mp c,aT.mp d]
 ·intro h
  match e:met ks with
  | []=>simp
  | [x]=>simp
  |x::y::r=>
   have n:=FD ks;rw[e]at n;have i:x∈ks:=kj.mp (by rw[e];exact .head _);have j:y∈ks:=kj.mp (by rw[e];exact .tail _ (.head _));have :=h x i y j;rw[this]at n;simp at n
noncomputable abbrev mN(led:Bool):Obj:={cls:=.type "set",dict:=none,data:=.set #[] 0 (.fresh 0 0 led)}
noncomputable def Am(a:Addr)(n:Nat):HO:=.ext fun h=>∃o es ep t,h.get? a=some o/\o.ExactSet/\o.data=.set es ep t/\es.size<fQ/\t.fits es.size=true/\es.size=n
theorem zt:∀{ks:List Key}{us:List Value},bE (ks.map kV) us->∀(i:Nat)(v:Value),us[i]? =some v->∃k,ks[i]? =some k/\RelV (kV k) v
 | [],_,.nil,i,v,e=>by simp at e
 |k::ks,_,.cons r t,0,v,e=>by
  simp at e;subst e;exact⟨k,rfl,r⟩
 |k::ks,_,.cons r t,i+1,v,e=>zt t i v (by simpa using e)
noncomputable def rSet(K:ah):List V->Hp->VK->Prop:=fun xs H Q=>∃p ks,xs=[V.ref p]/\SqL K H p (ks.map kV)/\ks.length<4000/\∀a,H a=none->Q (.ref a) (upd H a (Am a (met ks).length))
theorem xf:fB X (.builtin "len") (fun xs H Q=>∃a n,xs=[V.ref a]/\H a=some (Am a n)/\Q (.int n) H):=by
 intro pins s σ H xs us Q I r h;obtain⟨a,n,rfl,e,q⟩:=h;obtain⟨u,rfl,g⟩:=vals1 r;cases g;obtain⟨⟨o,es,ep,t,f,d,c,b,hf,rfl⟩,_⟩:=I.hok a _ e;refine call_len_set f d c hf (by have :es.size<4096:=b;lia) ?_;exact⟨.int es.size,H,I.tok _,⟨_,rfl⟩,q⟩
end Q
namespace L2
open PySem PySem.Spec PyProof.Rows
section
variable {X:Cx}
noncomputable def DL(K:ah):R2:=fun x y H Q=>∃a b ys,x=.ref a/\y=.ref b/\SqT K H a []/\SqT K H b ys/\Q (.ref b) H
theorem op_cat0:OpR X (d7 .Add) (DL X.K):=by
 intro pins s σ H x y v u Q I r t h;obtain⟨a,b,ys,rfl,rfl,l,m,q⟩:=h;cases r;cases t;obtain⟨its,p,p1,_⟩:=I.tuple l;obtain⟨C,D,p2,_⟩:=I.tuple m;cases p;obtain⟨⟨cls,j,A,sl⟩,g,c,n,e⟩:=id p1;obtain⟨⟨z,k,B,w⟩,i,d,o,f⟩:=id p2;simp only at c e d f;subst c e d f;exact concat_meets ⟨_,g,rfl⟩ ⟨_,i,rfl⟩ BF J1 mQ mq (lQ _ _) (tuple_addW0 a b _ _ n o j k sl w rfl) ⟨g,i,.ref b,H,I,rfl,q⟩
theorem xS(a b:Array Nat):∀k:Nat,((bp k a).foldl (·++·) b).size=b.size+k*a.size
 | 0=>by simp
 |k+1=>by
  rw[dz,dD,xS a (b++a) k,Array.size_append,Gz];lia
noncomputable def Hz:R2:=fun x y H Q=>∃(z:Str)(n:Int),x=.str z/\y=.int n/\2<=n/\n<=1000/\1<=z.length/\z.length<=1000/\Q (.str ⟨(bp n.toNat z.cps).foldl (·++·) #[]⟩) H
theorem op_repS:OpR X (d7 .Mult) Hz:=by
 intro pins s σ H x y v u Q I f g h;obtain⟨z,n,rfl,rfl,h1,h2,i,d,q⟩:=h;obtain⟨t,rfl⟩:=f;obtain⟨t',rfl⟩:=g;have b:¬n<1:=by lia
 have c:(n==1||z.length==0)=false:=by
  rw[Bool.or_eq_false_iff];exact⟨by simp;lia,by simp;lia⟩
 have a:z.length*n.toNat<=1000*1000:=Nat.mul_le_mul d (by lia);have e:((n.toNat:Nat):Int)=n:=by lia
 have j:(z.length:Int)*n<=1000*1000:=by
  rw[<-e,<-Int.natCast_mul];exact Int.ofNat_le.mpr a
 refine P.mul_str (by rw[decide_eq_false (by lia),decide_eq_false (by lia)];rfl) (fun _ _=>?_) (fun _ _=>?_) ?_
 ·exact Int.not_lt.mpr (Int.le_ediv_of_mul_le (by lia) (by lia))
 ·exact decide_eq_false (Nat.not_lt.mpr (aG a (by decide)))
 ·rw[if_neg b,if_neg (by rw[c];exact ak)]
  refine⟨?_,.str _,H,I.tok _,⟨_,rfl⟩,q⟩;show((bp n.toNat z.cps).foldl (·++·) #[]).size<=_;rw[xS];exact aG (by rw[GA];simpa[BG]using a) (by decide:1000*1000<=sizeLine)
noncomputable def rJoin(K:ah):V->List V->Hp->VK->Prop:=fun x vs H Q=>∃(a:Str)(p:Addr)(ys:List Str),x=.str a/\vs=[.ref p]/\SqL K H p (ys.map V.str)/\a.length<=16/\(ys.map (·.length)).sum+ys.length<=1048576/\Q (.str (Txt.join a ys)) H
end
end L2
set_option maxHeartbeats 1000000
namespace HT
open PySem PySem.Spec PyProof.Rows
section
variable {prog:Program}{w:World}{K:Type}[DecidableEq K]{knd:HeapKind prog w K}{A:Around}{s:Shared}{E:Value->Shared->Prop}
theorem setDef{d:Addr}{xs:List (K×Addr×Value)}{k:K}{v:Value}{Q:Value->Shared->Prop}(n:knd.room A)(h:knd.is s.heap k a)(r:s.heap.DictOfH knd d xs)
  (h1:∀u,(atKey xs k).map (·.2)=some u->Q u {s with toks:=s.toks+knd.draws k})
  (h2:atKey xs k=none->∀h',h'.DictOfH knd d (storedH xs k a v)->dv d s.heap h'->Q v {s with heap:=h',toks:=s.toks+knd.draws k})
  (B:xs.length<=sizeLine):wpAny (model prog w) A (Gu d (.ref a) v) Q E s:=by
 obtain⟨o,es,ep,c,q,b,g,l,i⟩:=r;unfold Gu;refine bU ?_;refine af (knd.pyHash n h ?_);refine af (wpAny_dictFind_heap (s:={s with toks:=s.toks+knd.draws k}) n h c b g l i ?_ ?_)
 ·intro f
  have t:k∉xs.map (·.1):=not_mem_keys_of_get f;refine af (ip (af (wpAny_updateDictKeys (hz:=by have e:=size_of_entries g;lia) (s:={s with toks:=s.toks+knd.draws k}) c b (aj (h2 (oN f) _ ⟨_,_,ep+1,cw _ c (Obj.isFreed_of_dict (Ka b _)),
   q.mapDictKeys _,Ka b _,?_,?_,?_⟩ (bM ..))))))
  ·rw[storedH_new (oN f)]
   simp[g,entryOfKey]
  ·rw[storedH_new (oN f)]
   intro x hx;rcases bQ.mp hx with hx|hx
   ·exact knd.keeps (l x hx) c b (bM ..)
   ·rw[aT.mp hx]
    exact knd.keeps h c b (bM ..)
  ·rw[storedH_new (oN f),c7,eS]
   refine⟨i,by simp,fun x hx y z e=>?_⟩;have :y=k:=by simpa using z
   exact t (by rw[<-this,<-e];exact hx)
 ·intro j p m
  refine af (wpAny_dictEntries (s:={s with toks:=s.toks+knd.draws k}) c b ?_);rw[entry_at g j,m];exact af (ip (aj (h1 _ (by rw[atKey_of_get i m];rfl))))
variable(knd) in
theorem zk(d a:Addr)(e:(d==gz)=false)(b:Value):
  MeetsIn prog w (Builtin.«dict.setdefault» ⟨[.ref d,.ref a,b],[]⟩) (fun A R s=>knd.room A.in1/\∃k xs,knd.is s.heap k a/\s.heap.DictOfH knd d xs/\xs.length<=sizeLine/\
   (∀u,(atKey xs k).map (·.2)=some u->R (.ok (.ret u)) {s with toks:=s.toks+knd.draws k})/\
   (atKey xs k=none->∀h',h'.DictOfH knd d (storedH xs k a b)->dv d s.heap h'->R (.ok (.ret b)) {s with heap:=h',toks:=s.toks+knd.draws k})):=
 .of_wp fun A R s ⟨j,k,xs,f,c,m,h1,h2⟩=>by
  unfold Builtin.«dict.setdefault»;refine af ?_;unfold Builtin.Dict.keyAndDefault;refine af (wpAny_notOrdered_dict c.typeIs ?_);show wpAny _ _ (pure (d,cF a,some b)) _ _ s;refine aj ?_;show wpAny _ _ (if(d==gz)=true then _ else(Gu d (.ref a) b>>=_)) _ _ s;rw[if_neg (by rw[e];exact ak)];exact af (setDef j f c (fun v l=>aj ⟨v,rfl,h1 v l⟩) (fun h h' g i=>aj ⟨b,rfl,h2 h h' g i⟩) m)
end
end HT
namespace L2
open PySem PySem.Spec PyProof.Rows
section
variable {X:Cx}{pins:List (Addr×Obj)}{σ:St}{H:Hp}{s:Shared}{a b:Addr}{v:V}{r:Value}{A:Around}{E:Value->Shared->Prop}{kvs:List (List Key×V)}{k:List Key}
theorem Ju{Q:Value->Shared->Prop}(C:A.units+1<cLine)(I:Inv X pins σ H s)(e:H a=some (.dT kvs))(i:H b=some (.tup (k.map kV)))(J:RelV v r)(L:kvs.length<sizeLine)
  (h1:∀x g s',d5 kvs k=some x->Inv X pins σ H s'->RelV x g->Q g s')(h2:d5 kvs k=none->∀s',Inv X pins σ (upd H a (.dT (putK kvs k v))) s'->Q r s'):
  wpAny (model X.prog X.w) A (call (.builtin "dict.setdefault") [.ref a,.ref b,r]) Q E s:=by
 obtain⟨z,l,xs,f,h⟩:=Jq I.hok e;have G:xs.length<=sizeLine:=by rw[<-lU f];exact z
 have w:(putK kvs k v).length<=sizeLine:=by have :=sY kvs k v;lia
 have d:=f.val k;refine call_meetsIn wA h.typeIs PySem.F.entry_dict_setdefault (PySem.F.args_dict_setdefault_3 _ _ _) (HT.zk (qb (cy X.prog X.w)) a b l r) ⟨tupleKind_room_in1 C,k,xs,IL I.hok i,h,G,fun u D=>?_,fun y h' m B=>?_⟩
 ·rw[D]at d
  cases hv:d5 kvs k with
  |none=>rw[hv]at d;exact absurd d (by intro z;cases z)
  |some x=>
   rw[hv]at d;obtain⟨g,F,K⟩:=wx.some_of d;cases F;exact h1 x _ _ hv (I.tok _) K
 ·rw[y]at d
  refine h2 (by
   cases hv:d5 kvs k with
   |none=>rfl
   |some x=>rw[hv]at d;exact absurd d (by intro z;cases z)) _ ?_
  obtain⟨q,es,ep,hq,n,o,p,_,t⟩:=m;refine d_write I (by rw[e];exact True.intro) B ⟨q,hq⟩ ⟨w,l,_,(f.put k i J).keeps fun c ys j=>?_,q,es,ep,hq,n,o,p,t⟩;rw[bo (ne_of j e (fun z=>nomatch z))];exact j
end
section
variable {X:Cx}
theorem FO{K:Type}[DecidableEq K]{knd:HeapKind prog w K}{d:Addr}{xs:List (K×Addr×Value)}{Q:Value->Shared->Prop}(b:(d==gz)=false)(a:s.heap.DictOfH knd d xs)(j:(xs.length:Int)<2^63)
  (h:Q (.int xs.length (s.toks+1)) {s with toks:=s.toks+1+1}):wpAny (model prog w) A (call (.builtin "len") [.ref d]) Q E s:=by
 have g:MeetsIn prog w (Builtin.«dict.__len__» ⟨[.ref d],[]⟩) (fun _ R s=>∃xs,s.heap.DictOfH knd d xs/\R (.ok (.ret (.int xs.length s.toks))) {s with toks:=s.toks+1}):=
  .of_wp fun A R s ⟨xs,a,h⟩=>by
   obtain⟨o,es,ep,f,i,c,e,_⟩:=a;show wpAny _ _ (dictSize d>>=_) _ _ s;unfold dictSize;refine af (af (wpAny_dictEntries f c (aj ?_)));show wpAny _ _ (Builtin.Dict.pendingCount d>>=_) _ _ s;refine af (wpAny_pendingCount_other b ?_);refine wpAny_ret_mkInt ?_;have :es.size=xs.length:=size_of_entries e;rw[Nat.add_zero,this];exact h
 refine lT kind_len plain_len entry_len (args_len1 _) ?_;unfold Builtin.«len»;refine af (m:=oneArg "len" _) (aj ?_);refine af (m:=callSpecial? (.ref d) (bT "__len__")) (dk (name:=bT "__len__") a.typeIs F.slot_dict_len
  (call_meetsIn F.slot_dict_len a.typeIs F.entry_dict_len (F.args_dict_len_1 _) g ⟨xs,a,?_⟩))
 show wpAny _ _ _ _ _ {s with toks:=s.toks+1};refine af (bU (aj ?_));refine af (kK ?_);show wpAny _ _ (if((xs.length:Nat):Int)<0 then _ else _) _ _ _;rw[if_neg (by lia)];show wpAny _ _ (if((xs.length:Nat):Int)≥ 2^63 then _ else _) _ _ _;rw[if_neg (by lia)];exact af (wpAny_mkInt (aj ⟨_,rfl,h⟩))
theorem Bh:fB X (.builtin "len") (fun xs H Q=>∃a kvs,xs=[V.ref a]/\H a=some (.dT kvs)/\Q (.int kvs.length) H):=by
 intro pins s σ H xs us Q I r h;obtain⟨a,kvs,rfl,e,q⟩:=h;obtain⟨u,rfl,f⟩:=vals1 r;cases f;obtain⟨z,d,ys,b,c⟩:=Jq I.hok e;refine FO d c (by rw[<-lU b];rw[BO]at z;lia) ?_;rw[<-lU b];exact⟨.int kvs.length,H,I.tok _,⟨_,rfl⟩,q⟩
theorem key_seq{ks:List Key}(I:Inv X pins σ H s)(h:SqT X.K H b (ks.map kV)):(qb (cy X.prog X.w)).is s.heap ks b:=by
 obtain⟨its,r,⟨o,h1,h2,n,a⟩,_⟩:=I.tuple h;exact⟨o,its.toArray,n,h1,h2,a,by simpa using sv r⟩
noncomputable def rIxD(K:ah):R2:=fun x y H Q=>∃a b kvs k v,x=.ref a/\y=.ref b/\H a=some (.dT kvs)/\SqT K H b (k.map kV)/\d5 kvs k=some v/\Q v H
theorem ix_dict(m:X.A.units+1<cLine):IxR X (rIxD X.K):=by
 intro F E pins s σ H x y v u Q I C D h l;obtain⟨a,b,kvs,k,z,rfl,rfl,e,i,n,q⟩:=h;cases C;cases D;obtain⟨_,G,xs,A,d⟩:=Jq I.hok e;have f:s.TypeIs (.ref a) "dict":=d.typeIs;unfold J0;refine af ?_;rw[getitemInPython_of_ne f.not_modules];refine af (rO f PySem.F.slot_dict_getitem.lookup ?_);have c:wpAny (model X.prog X.w) X.A (subscripted E false (.ref a) (.ref b)) (fun r g=>wpAny (model X.prog X.w) X.A (letTemporaryGo F (.ref a) r>>=fun _=>pure r) (EP X pins σ Q) X.xe g) X.xe s:=by
  rw[l];obtain⟨J,t,B⟩:=wx.some_of (v:=z) (o:=(atKey xs k).map (·.2)) (by rw[<-n];exact A.val k);obtain⟨p,hp,j⟩:=mR.mp t;refine wpAny_operating (gy (wpAny_getItem_heap (Q:=EP X pins σ Q) (tupleKind_room_in1 m) (key_seq I i) d hp ?_) (fun r g w=>af (wpAny_letTemporaryGo (aj w))) fun _ _ x=>x);rw[j];exact⟨z,H,I.tok _,B,q⟩
 first
  |exact aj (af c)
  |exact af (aj (af c))
  |exact af c
noncomputable def DI:V->List V->Hp->VK->Prop:=fun x xs H Q=>∃a b kvs k v,x=.ref a/\xs=[.ref b,v]/\H a=some (.dT kvs)/\H b=some (.tup (k.map kV))/\kvs.length<sizeLine/\
 (∀z,d5 kvs k=some z->Q z H)/\(d5 kvs k=none->Q v (upd H a (.dT (putK kvs k v))))
theorem FI(j:X.A.units+1<cLine):MtR X "dict.setdefault" DI:=by
 intro pins s σ H x xs v us Q I q p h;obtain⟨a,b,kvs,k,y,rfl,rfl,e,f,g,m,n⟩:=h;cases q;obtain⟨u,t,rfl,o,d⟩:=vals2 p;cases o;exact Ju j I e f d g (fun z w s' l c r=>⟨z,H,c,r,m z l⟩) fun i s' c=>⟨y,_,c,d,n i⟩
end
section
variable {X:Cx}
noncomputable def isRef:V->Bool
 |.ref _=>true
 |_=>false
noncomputable def rInD(K:ah)(b:Bool):R2:=fun x y H Q=>∃p xs ds d,y=.ref p/\SqL K H p xs/\xs.all isRef=true/\Rep K H d x/\ff K H ds xs/\jo ds<=30/\
 Q (.bl (if b then !(ds.any fun a=>eqD a d)else ds.any fun a=>eqD a d)) H
open Classical in
noncomputable def eqW(K:ah)(H:Hp)(d:D)(u:Value):Bool:=decide (∃a b,u=.ref a/\Rep K H b (.ref a)/\eqD b d=true)
open Classical in
theorem Jo(I:Inv X pins σ H s){d d':D}(h:Rep X.K H d' (.ref a)):eqW X.K H d (.ref a)=eqD d' d:=by
 unfold eqW;cases e:eqD d' d with
 |true=>exact decide_eq_true (p:=∃b c,cF a=.ref b/\Rep X.K H c (.ref b)/\eqD c d=true) ⟨a,d',rfl,h,e⟩
 |false=>
  refine decide_eq_false ?_;rintro⟨b,c,g,h2,f⟩;cases g;rw[I.uf h2 h,e]at f;cases f
theorem zO(I:Inv X pins σ H s){d:D}:∀{ds:List D}{xs:List V}{us:List Value},bE xs us->xs.all isRef=true->ff X.K H ds xs->us.any (eqW X.K H d)=ds.any fun d'=>eqD d' d
 | [],_,us,r,_,h=>by
  rw[show _=[]from h]at r;cases r;rfl
 |d'::ds,_,us,r,f,h=>by
  obtain⟨x,t,rfl,h1,h2⟩:=h;cases r with
  |cons r1 r2=>
   rw[mL,aH]at f;cases x with
   |ref a=>
    cases r1;rw[mK,mK,Jo I h1,zO I r2 f.2 h2]
   |_=>exact absurd (show false=true from f.1) ak
theorem zj(I:Inv X pins σ H s){d:D}{x:V}{v:Value}(c:Rep X.K H d x)(e:RelV x v)(b:A.units+31<cLine):∀{ds:List D}{xs:List V}{us:List Value},bE xs us->xs.all isRef=true->ff X.K H ds xs->jo ds<=30->∀u∈us,J5 A s u v (eqW X.K H d u)
 | [],_,us,r,_,h,_=>by
  rw[show _=[]from h]at r;cases r;exact fun u b=>nomatch b
 |d'::ds,_,us,r,f,h,hh=>by
  obtain⟨y,t,rfl,h1,h2⟩:=h;cases r with
  |cons r1 r2=>
   rw[mL,aH]at f;have g:max (hgt d') (jo ds)<=30:=hh;cases y with
   |ref a=>
    cases r1;intro w hw;rcases aE.mp hw with rfl|hw
    ·rw[Jo I h1]
     exact I.Ba 30 A d' d _ x _ v h1 c rfl e (by lia) (by lia)
    ·exact zj I c e b r2 f.2 h2 (by lia) w hw
   |_=>exact absurd (show false=true from f.1) ak
theorem op_inD(j:X.A.units+40<cLine):OpR X (cX .In) (rInD X.K false):=by
 intro pins s σ H x y v u Q I g i h;obtain⟨p,xs,ds,d,rfl,hq,f,b,a,c,q⟩:=h;cases i;obtain⟨its,r,pl,k⟩:=I.list hq;refine SeqAt.in_listAt (eqW X.K H d) pl.isList (fun w e=>zj I b g (by show X.A.units+1+31<cLine;lia) r f a c w (by simpa using e)) ⟨.bl _,H,I,rfl,?_⟩;rw[show its.toArray.any (eqW X.K H d)=its.any (eqW X.K H d) by simp,zO I r f a];exact q
theorem Fw(j:X.A.units+40<cLine):OpR X (cX .NotIn) (rInD X.K true):=by
 intro pins s σ H x y v u Q I g i h;obtain⟨p,xs,ds,d,rfl,hq,f,b,a,c,q⟩:=h;cases i;obtain⟨its,r,pl,k⟩:=I.list hq;refine J4 (eqW X.K H d) pl.isList (fun w e=>zj I b g (by show X.A.units+1+31<cLine;lia) r f a c w (by simpa using e)) ⟨.bl _,H,I,rfl,?_⟩;rw[show its.toArray.any (eqW X.K H d)=its.any (eqW X.K H d) by simp,zO I r f a];exact q
end
section
variable {X:Cx}{e:Expr}{te:TE}{pos p2 p3 p4:Pos}{cd:Nat}
noncomputable def tRev(K:ah)(te:TE):TE:=fun σ H Q=>te σ H fun x H1=>∃a xs,x=.ref a/\SqL K H1 a xs/\∀p,H1 p=none->Q (.ref p) (upd H1 p (.lst xs.reverse))
end
end L2
namespace Q
open PySem PySem.Spec PySem.W PyProof.Rows L2
noncomputable def ltI(ns:List Int)(i j:Nat):Bool:=decide (ns.getD i 0<ns.getD j 0)
noncomputable def Ct(ns:List Int):List Nat:=if ns.length<2 then aA ns.length else(run (ltI ns) (dm ns.length)).toList
noncomputable def sortI(ns:List Int):List V:=(Ct ns).map fun i=>(ns.map V.int).getD i .non
theorem totI(nd:ns.Nodup):Tot (ltI ns) ns.length where
 tri:=fun i j hi c h=>by
  have f:ns.getD i 0≠ns.getD j 0:=fun e=>by
   rw[ae,ae,aa hi,aa c]at e;exact h ((eG nd).mp e)
  unfold ltI;by_cases a:ns.getD i 0<ns.getD j 0
  ·rw[decide_eq_true a,decide_eq_false (by lia)];rfl
  ·rw[decide_eq_false a,decide_eq_true (by lia)];rfl
 tr:=fun i j k hi c d a b=>by
  unfold ltI at a b⊢;have a:=of_decide_eq_true a;have b:=of_decide_eq_true b;exact decide_eq_true (by lia)
theorem Ie(nd:ns.Nodup):(Ct ns).length=ns.length:=by
 unfold Ct;split
 ·simp
 ·rw[bZ,(eT (totI nd) (by lia)).1.size]
theorem outI(nd:ns.Nodup)(r:bE (ns.map V.int) vs):bE (sortI ns) (gE (ltI ns) vs):=by
 have f:=r.length;rw[ai]at f;have e:vs.length=ns.length:=by lia
 unfold gE sortI Ct;rw[e];by_cases c:ns.length<2
 ·rw[if_pos c,if_pos c]
  have a:(aA ns.length).map (fun i=>(ns.map V.int).getD i V.non)=ns.map V.int:=by
   apply bA
   ·simp
   ·intro i h1 h2
    have b:i<ns.length:=by simpa using h2
    simp[b]
  rw[a];exact r
 ·rw[if_neg c,if_neg c]
  have P:=(eT (totI nd) (by lia)).1;have all:∀l:List Nat,(∀i∈l,i<ns.length)->bE (l.map fun i=>(ns.map V.int).getD i V.non) (l.map fun i=>vs.getD i bF):=by
   intro l
   induction l with
   |nil=>exact fun _=>.nil
   |cons i l ih=>
    intro h;have hi:i<(ns.map V.int).length:=by rw[ai];exact h i (.head _)
    obtain⟨u,g,k⟩:=r.get (aa hi);refine .cons ?_ (ih fun j d=>h j (.tail _ d));show L2.RelV ((ns.map V.int).getD i V.non) (vs.getD i bF);rw[ae,aa hi,ae,g];exact k
  refine all _ fun i hi=>?_;have m:i∈(aA ns.length).toArray:=P.perm.mem_iff.mp (jF.mp hi);simpa using m
theorem int_at(r:bY vs ns)(hi:i<ns.length):∃t,vs.getD i .none=.int (ns.getD i 0) t:=by
 induction r generalizing i with
 |nil=>exact absurd hi (c8 _)
 |cons y t h ih=>
  cases i with
  |zero=>exact⟨t,rfl⟩
  |succ i=>exact ih (by simpa using hi)
theorem IV(r:bY vs ns):vs.length=ns.length:=by
 induction r with
 |nil=>rfl
 |cons y t h ih=>simp[ih]
theorem Gg(r:bY vs ns)(h2:2<=vs.length):Gh prog w A (ltI ns) vs h0:=by
 intro f _;refine⟨oneType',fun e d q=>?_,fun i j C hi a _ q=>?_⟩
 ·match vs,r,h2 with
  |v1::v2::rest,r,_=>
   rw[keyKind_ints r];exact aj q
 ·rw[IV r]at hi a
  obtain⟨t,b⟩:=int_at r hi;obtain⟨u,c⟩:=int_at r a;unfold kas_ask;rw[b,c,keyLt'_oneType];exact oneLt_int q
noncomputable def rSortI(K:ah):List V->Hp->VK->Prop:=fun xs H Q=>∃p ns,xs=[V.ref p]/\SqL K H p (ns.map V.int)/\ns.length<64/\ns.Nodup/\∀l,H l=none->Q (.ref l) (upd H l (.lst (sortI ns)))
end Q
namespace L2
open PySem PySem.Spec PyProof.Rows
section
variable {X:Cx}
noncomputable def nats(n:Nat):List V:=(aA n).map fun i:Nat=>V.int (i:Int)
noncomputable def tLRng(ta:TA):TE:=fun σ H Q=>ta σ H fun vs H1=>∃n:Nat,vs=[.int n]/\n<=1000/\∀p,H1 p=none->Q (.ref p) (upd H1 p (.lst (nats n)))
end
section
variable {X:Cx}
noncomputable def leP(a b c d:Int):Bool:=decide (a<c\/a=c/\b<=d)
noncomputable def rLeP(K:ah):R2:=fun x y H Q=>∃p q a b c d,x=.ref p/\y=.ref q/\SqT K H p [.int a,.int b]/\SqT K H q [.int c,.int d]/\Q (.bl (leP a b c d)) H
noncomputable def rIndex:V->List V->Hp->VK->Prop:=fun x vs H Q=>∃(l:Addr)(ns:List Int)(k:Int),x=.ref l/\vs=[.int k]/\H l=some (.lst (ns.map V.int))/\k∈ns/\ns.length<=60/\Q (.int (ns.idxOf k:Nat)) H
end
end L2
namespace Q
open PySem PySem.Spec PySem.W PyProof.Rows L2
noncomputable def plt(x y:Int×Int):Bool:=decide (x.1<y.1\/x.1=y.1/\x.2<y.2)
noncomputable def ltP(ps:List (Int×Int))(i j:Nat):Bool:=plt (ps.getD i (0,0)) (ps.getD j (0,0))
noncomputable def ordP(ps:List (Int×Int)):List Nat:=if ps.length<2 then aA ps.length else(run (ltP ps) (dm ps.length)).toList
noncomputable def sortP{α:Type}(d:α)(ps:List (Int×Int))(ys:List α):List α:=(ordP ps).map fun i=>ys.getD i d
def JR(H:Hp)(ys:List V)(ps:List (Int×Int)):Prop:=Paired (fun v k=>∃a,v=V.ref a/\H a=some (.tup [.int k.1,.int k.2])) ys ps
noncomputable def rSortP(K:ah):List V->Hp->VK->Prop:=fun xs H Q=>∃p ys ps,xs=[V.ref p]/\SqL K H p ys/\ps.length<64/\ps.Nodup/\JR H ys ps/\∀l,H l=none->Q (.ref l) (upd H l (.lst (sortP .non ps ys)))
end Q
namespace D8
open PySem PySem.Spec PySem.W PyProof.Rows L2
noncomputable abbrev four:List (Int×Int):=[(0,0),(0,1),(1,0),(1,1)]
def Prs(H:Hp)(b:List Addr)(ps:List (Int×Int)):Prop:=b.length=ps.length/\∀(i:Nat) a q,b[i]? =some a->ps[i]? =some q->H a=some (.tup [.int q.1,.int q.2])
noncomputable def rSetP(K:ah):List V->Hp->VK->Prop:=fun xs H Q=>∃p b ps,xs=[V.ref p]/\SqL K H p (b.map V.ref)/\Prs H b ps/\(∀q∈ps,q∈four)/\∀a (ks:List (Int×Int)),H a=none->ks.Nodup->(∀r,r∈ks↔r∈ps)->Q (.ref a) (upd H a (_root_.Q.Am a ks.length))
end D8
namespace L2
open PySem PySem.Spec PyProof.Rows
section
variable {X:Cx}
def CDivB(_ j:Int):Prop:=0<j/\j.natAbs.log2<9000
noncomputable def rDivB:R2:=rI CDivB fun i j=>.int (i/j)
noncomputable def rInsert:V->List V->Hp->VK->Prop:=fun x vs H Q=>∃l xs k y,x=.ref l/\vs=[.int k,y]/\H l=some (.lst xs)/\xs.length<sizeLine/\0<=k/\k<=xs.length/\Q .non (upd H l (.lst (xs.take k.toNat++y::xs.drop k.toNat)))
end
section
variable {X:Cx}
noncomputable def rSplit:V->List V->Hp->VK->Prop:=fun x vs H Q=>∃z y:Str,x=.str z/\vs=[.str y]/\(y.length==0)=false/\z.length+2<=sizeLine/\∀p,H p=none->Q (.ref p) (upd H p (.lst ((Txt.split z y).map V.str)))
end
noncomputable def Itz(K:ah)(a b:Addr):It:=
 ⟨fun i H=>∃xs ys x y,SqL K H a xs/\SqL K H b ys/\xs[i]? =some x/\ys[i]? =some y,
  fun i H v H'=>∃p x y,H p=none/\H'=upd H p (.tup [x,y])/\v=.ref p/\(∀xs,SqL K H a xs->xs[i]? =some x)/\∀ys,SqL K H b ys->ys[i]? =some y,
  fun i H=>∃xs ys,SqL K H a xs/\SqL K H b ys/\(xs.length<=i\/ys.length<=i)⟩
section
variable {X:Cx}{es:List Expr}{kk:Nat}{pp:Pos}
noncomputable def iZip(K:ah)(t:TA):TI:=fun σ H R=>t σ H fun vs H1=>∃a b,vs=[.ref a,.ref b]/\(∃xs,SqL K H1 a xs)/\(∃ys,SqL K H1 b ys)/\R (Itz K a b) H1
end
def DkIn(P:Program)(w:World)(K:ah)(a:Addr)(kvs:List (Key×V)):Prop:=
 (a==gz)=false/\∃vs,KV kvs vs/\∀h,K.In h->h.DictOf (cy P w) a vs
section
variable {X:Cx}{dic:Addr->Option (List (Key×V))}
noncomputable def rInG(dic:Addr->Option (List (Key×V))):R2:=fun x y H Q=>∃a kvs k,y=.ref a/\dic a=some kvs/\x=kV k/\Q (.bl (d5 kvs k).isSome) H
noncomputable def rIxG(dic:Addr->Option (List (Key×V))):R2:=fun x y H Q=>∃a kvs k v,x=.ref a/\dic a=some kvs/\y=kV k/\d5 kvs k=some v/\Q v H
end
noncomputable def fText(b a:Str)(i:Int):Str:=Str.empty++b++(toString i:Str)++a
noncomputable def tFst(a b:Str)(t:TE):TE:=fun σ H Q=>(Str.empty++a).length<=sizeLine/\t σ H fun x H1=>∃i,x=.int i/\i.natAbs.log2<1920/\(fText a b i).length<=sizeLine/\Q (.str (fText a b i)) H1
end L2
namespace PySem
section
variable {prog:Program}{w:World}{A:Around}{E:Value->Shared->Prop}{s:Shared}
theorem Ii{j t:Addr}{xs:Array Value}{v:Value}{Q:Value->Shared->Prop}(c:s.heap.IsTupleIter j t k)(g:s.heap.IsTuple t xs)(h:xs[k]? =some v)
  (q:∀h',h'.IsTupleIter j t (k+1)->dv j s.heap h'->Q v {s with heap:=h'}):wpAny (model prog w) A (fF (.ref j)) Q E s:=by
 obtain⟨o,b,d,a⟩:=id c;obtain⟨p,e,_,n,f⟩:=g;unfold fF;refine af (dk (name:=bT "__next__") c.typeIs hZ (cD hZ c.typeIs BX ?_ (BL _)));show wpAny _ _ (field (.ref j) 0>>=_) _ _ s;refine af (eN b a (x:=.ref t) rfl ?_);show wpAny _ _ (if(cF t==bF)=true then _ else _) _ _ s;rw[if_neg (fun z:(cF t==bF)=true=>absurd z ak)];show wpAny _ _ (field (.ref j) 1>>=_) _ _ s;refine af (eN b a (x:=.int k 0) rfl ?_);show wpAny _ _ (uE (.ref t)>>=_) _ _ s;refine af (fP e f ?_);simp only[aJ,h];refine af (tV b a (by simp) (aj ⟨v,rfl,aj (q _ ?_ (bM ..))⟩));exact⟨_,cw _ b (qf (iQ a _)),(Obj.cls_mapFields ..).trans d,by rw[iQ a];simp[rawInt]⟩
theorem DR{j t:Addr}{xs:Array Value}{Q:Value->Shared->Prop}(f:A.handled=none)(d:s.heap.IsTupleIter j t k)(i:s.heap.IsTuple t xs)(l:xs[k]? =none)
  (q:∀h' e,Heap.ExtBut j s.heap h'->(∃o,h'.get? e=some o/\o.cls=.type "StopIteration")->E (.ref e) {s with heap:=h'}):wpAny (model prog w) A (fF (.ref j)) Q E s:=by
 obtain⟨o,b,r,c⟩:=id d;obtain⟨p,g,_,n,h⟩:=i;unfold fF;refine af (dk (name:=bT "__next__") d.typeIs hZ (cD hZ d.typeIs BX ?_ (BL _)));show wpAny _ _ (field (.ref j) 0>>=_) _ _ s;refine af (eN b c (x:=.ref t) rfl ?_);show wpAny _ _ (if(cF t==bF)=true then _ else _) _ _ s;rw[if_neg (fun z:(cF t==bF)=true=>absurd z ak)];show wpAny _ _ (field (.ref j) 1>>=_) _ _ s;refine af (eN b c (x:=.int k 0) rfl ?_);show wpAny _ _ (uE (.ref t)>>=_) _ _ s;refine af (fP g h ?_);simp only[aJ,l];refine af (ip (af (tV b c (by simp) ?_)));show wpAny _ _ (newExc (.type "StopIteration") []>>=_) _ _ _;refine af ?_;simp only[newExc,newTuple];refine af (bw ?_ (by size_fits));refine af (m:=t9 _ _) (tW (a:=bF) (by first |rfl| (simp only[t9];rfl)) ?_);refine bw ?_ (by size_fits);simp only[Gq];refine af (wpAny_handled ?_);first |rw[show A.in1.handled=none from f] |rw[f]
 refine af (aj (wpAny_throw ?_));exact q _ _ (((bM ..).extBut.push _).push _) ⟨_,az _ rfl,rfl⟩
end
end PySem
namespace L2
open PySem PySem.Spec PyProof.Rows
noncomputable def Itzt(K:ah)(a b:Addr):It:=
 ⟨fun i H=>∃xs ys x y,SqT K H a xs/\SqL K H b ys/\xs[i]? =some x/\ys[i]? =some y,
  fun i H v H'=>∃p x y,H p=none/\H'=upd H p (.tup [x,y])/\v=.ref p/\(∀xs,SqT K H a xs->xs[i]? =some x)/\∀ys,SqL K H b ys->ys[i]? =some y,
  fun i H=>∃xs,SqT K H a xs/\xs.length<=i⟩
theorem tup_ne{its:Array Value}{o:Obj}(f:h.IsTuple a its)(b:h.get? c=some o)(d:o.cls≠.type "tuple"):a≠c:=by
 obtain⟨o',e,k,_⟩:=f;rintro rfl;rw[e]at b;cases b;exact d k
section
variable {X:Cx}{es:List Expr}{kk:Nat}{pp:Pos}
noncomputable def iZipT(K:ah)(t:TA):TI:=fun σ H R=>t σ H fun vs H1=>∃a b,vs=[.ref a,.ref b]/\(∃xs,SqT K H1 a xs)/\(∃ys,SqL K H1 b ys)/\R (Itzt K a b) H1
end
end L2
namespace PySem
open Sem (wp)
local macro_rules | `(term| «the numeral») => return Lean.mkIdent (b9 (b9 (b9 (Lean.Name.num (b9 (b9 (b9 (b9 (b9 BW "_private") "PySem") "Builtin") "Int") "W0All") 0) "PySem") "Builtin") "readNumeral")
local macro_rules | `(term| «a value») => return Lean.mkIdent (b9 (b9 (b9 (b9 (Lean.Name.num (b9 (b9 (b9 (b9 (b9 BW "_private") "PySem") "Builtin") "Int") "W0All") 0) "PySem") "Builtin") "Numeral") "value")
end PySem
namespace L2
open PySem PySem.Spec PyProof.Rows
inductive Fig:Str->Int->Prop
 |one {a:Nat} (h:a<10):Fig ⟨#[48+a]⟩ (a:Nat)
 |two {a b:Nat} (ha:a<10) (hb:b<10):Fig ⟨#[48+a,48+b]⟩ (10*a+b:Nat)
section
variable {X:Cx}{dic:Addr->Option (List (Key×V))}
noncomputable def upS(z:Str):Str:=⟨placed z fun _ c=>Unicode.upperOf c⟩
noncomputable def rUpper:V->List V->Hp->VK->Prop:=fun x vs H Q=>∃z:Str,x=.str z/\vs=[]/\(upS z).length<=100/\Q (.str (upS z)) H
noncomputable def rNiG(dic:Addr->Option (List (Key×V))):R2:=fun x y H Q=>∃a kvs k,y=.ref a/\dic a=some kvs/\x=kV k/\Q (.bl (!(d5 kvs k).isSome)) H
end
end L2
namespace Q
open PySem PySem.Spec PySem.W PyProof.Rows L2
noncomputable def llt:List Int->List Int->Bool
 | [],[]=>false
 | [],_::_=>true
 |_::_,[]=>false
 |a::x,b::y=>decide (a<b)||(decide (a=b)&&llt x y)
theorem sr:∀{x y z:List Int},llt x y=true->llt y z=true->llt x z=true
 | [],[],_,h,_=>nomatch h
 | [],_::_,[],_,h=>nomatch h
 | [],_::_,_::_,_,_=>rfl
 |_::_,[],_,h,_=>nomatch h
 |_::_,_::_,[],_,h=>nomatch h
 |a::x,b::y,c::z,h,k=>by
  simp only[llt,cW,aH,decide_eq_true_eq]at h k⊢;rcases h with h|⟨rfl,h⟩
  ·rcases k with k|⟨rfl,k⟩
   ·exact .inl (by lia)
   ·exact .inl h
  ·rcases k with k|⟨rfl,k⟩
   ·exact .inl k
   ·exact .inr ⟨rfl,sr h k⟩
theorem iH:∀{x y:List Int},x≠y->llt x y= !llt y x
 | [],[],h=>absurd rfl h
 | [],_::_,_=>rfl
 |_::_,[],_=>rfl
 |a::x,b::y,h=>by
  by_cases e:a=b
  ·subst e
   have :=iH (x:=x) (y:=y) fun z=>h (by rw[z])
   simp[llt,this]
  ·by_cases c:a<b
   ·have :¬b<a:=by lia
    simp[llt,c,this,e,bS e]
   ·have :b<a:=by lia
    simp[llt,c,this,e,bS e]
noncomputable def ltL(ps:List (List Int))(i j:Nat):Bool:=llt (ps.getD i []) (ps.getD j [])
noncomputable def vo(ps:List (List Int)):List Nat:=if ps.length<2 then aA ps.length else(run (ltL ps) (dm ps.length)).toList
noncomputable def ck{α:Type}(d:α)(ps:List (List Int))(ys:List α):List α:=(vo ps).map fun i=>ys.getD i d
theorem neL(nd:ps.Nodup)(hi:i<ps.length)(a:j<ps.length)(h:i≠j):ps.getD i []≠ps.getD j []:=fun e=>by
 rw[ae,ae,aa hi,aa a]at e;exact h ((eG nd).mp e)
theorem E3(nd:ps.Nodup):Tot (ltL ps) ps.length where
 tri:=fun i j hi c h=>iH (neL nd hi c h)
 tr:=fun i j k _ _ _ a b=>sr a b
theorem kY(nd:ps.Nodup):(vo ps).Perm (aA ps.length):=by
 unfold vo;split
 ·exact dN _
 ·have P:=(eT (E3 nd) (by lia)).1
  have :=eI.mp P.perm
  simpa using this
theorem xE(nd:ps.Nodup)(d:ps.length=ys.length)(r:bE ys vs):bE (ck .non ps ys) (gE (ltL ps) vs):=by
 have k:=r.length;have e:vs.length=ps.length:=by lia
 unfold gE ck vo;rw[e];by_cases c:ps.length<2
 ·rw[if_pos c,if_pos c]
  have a:(aA ps.length).map (fun i=>ys.getD i V.non)=ys:=by
   rw[d];apply bA
   ·simp
   ·intro i h1 h2
    simp[h2]
  rw[a];exact r
 ·rw[if_neg c,if_neg c]
  have P:=(eT (E3 nd) (by lia)).1;have all:∀l:List Nat,(∀i∈l,i<ps.length)->bE (l.map fun i=>ys.getD i V.non) (l.map fun i=>vs.getD i bF):=by
   intro l
   induction l with
   |nil=>exact fun _=>.nil
   |cons i l ih=>
    intro h;have hi:i<ys.length:=by have :=h i (.head _);lia
    obtain⟨u,f,g⟩:=r.get (aa hi);refine .cons ?_ (ih fun j b=>h j (.tail _ b));show L2.RelV (ys.getD i V.non) (vs.getD i bF);rw[ae,aa hi,ae,f];exact g
  refine all _ fun i hi=>?_;have m:i∈(aA ps.length).toArray:=P.perm.mem_iff.mp (jF.mp hi);simpa using m
def sM(h:Heap)(vs:List Value)(ps:List (List Int)):Prop:=Paired (fun v k=>∃a o its n,v=.ref a/\h.get? a=some o/\o.cls=.type "tuple"/\o.data=.seq its n/\bY its.toList k) vs ps
theorem gT(r:sM h vs ps)(hi:i<vs.length):∃a o its n,vs.getD i .none=.ref a/\h.get? a=some o/\o.data=.seq its n/\bY its.toList (ps.getD i []):=by
 unfold sM at r
 induction r generalizing i with
 |nil=>exact absurd hi (c8 _)
 |cons y t ih=>
  cases i with
  |zero=>
   obtain⟨a,o,its,n,b,c,f,d,e⟩:=y;exact⟨a,o,its,n,b,c,d,e⟩
  |succ i=>exact ih (by simpa using hi)
theorem IW(kp:∀b o,h.get? b=some o->h1.get? b=some o)(r:sM h vs ps)(hp:∀k∈ps,k≠[]):∃fs,KatTups h1 vs fs/\fs.length=vs.length/\∀v∈fs,∃x t,v=wy x t:=by
 unfold sM at r
 induction r with
 |nil=>exact⟨[],.nil,rfl,fun v hv=>nomatch hv⟩
 | @cons v k vs ps y t ih=>
  obtain⟨fs,e,f,g⟩:=ih fun k c=>hp k (aO _ c);obtain⟨a,o,its,n,rfl,i,j,m,d⟩:=y;have c:=hp k aL;obtain⟨l⟩:=its;cases l with
  |nil=>
   cases d;exact absurd rfl c
  |cons u l=>
   cases d with
   |cons x t h=>
    refine⟨_::fs,.cons (kp _ _ i) j m rfl e,by simp[f],fun v hv=>?_⟩;rcases aE.mp hv with rfl|hv
    ·exact⟨_,_,rfl⟩
    ·exact g v hv
theorem IE{b j:Bool}{C:Bool->Shared->Prop}{xs ys:List Value}{x y:List Int}(i:Nat)(g:bY xs x)(d:bY ys y)(f:x.length=y.length)(h:x≠y)(q:C (llt x y) s):KatLex prog w A b j C (xs.zip ys) (i+1) s:=by
 induction g generalizing ys y i with
 |nil=>cases d with
  |nil=>exact absurd rfl h
  |cons=>simp at f
 |cons a t g ih=>cases d with
  |nil=>simp at f
  |cons c u d=>
   refine kat_cons (qa ?_);by_cases e:a=c
   ·subst e
    rw[show(a==a)=true by simp];refine kat_yes (ih (i+1) d (by simpa using f) (fun z=>h (by rw[z])) ?_);simp[llt]at q;exact q
   ·rw[show(a==c)=false by simpa using e]
    refine kat_no ?_;rw[show(b&&(i+1==0))=false by simp];refine kat_one _ _ (lt_int ?_);simp[llt,e]at q;exact q
theorem zM(nd:ps.Nodup)(f:vs.length=ps.length)(r:sM h0 vs ps)(h2:2<=vs.length)(g:∀k∈ps,k.length=m):Gh prog w A (ltL ps) vs h0:=by
 have l:m≠0:=fun z=>by
  have e:∀i,i<ps.length->ps.getD i []=[]:=fun i hi=>by
   rw[ae,aa hi];exact a7.mp ((g _ (ba hi)).trans z)
  exact neL nd (i:=0) (j:=1) (by lia) (by lia) (by decide) ((e 0 (by lia)).trans (e 1 (by lia)).symm)
 intro S kp;refine⟨tuples' true,fun P O q=>?_,fun i j C hi h K q=>?_⟩
 ·obtain⟨fs,p,Q,s⟩:=IW kp r fun k L z=>l (by rw[<-g k L,z];rfl)
  refine kat_kind (T:=.type "int") p (by lia) (fun v N=>?_) rfl q;obtain⟨x,t,rfl⟩:=s v N;exact Looks.of_pure rfl
 ·obtain⟨a,o,its,n,B,D,E,F⟩:=gT r hi
  obtain⟨b,o',its',R,G,H,I,J⟩:=gT r h;have M:=neL nd (f▸hi) (f▸h) K;have l1:(ps.getD i []).length=m:=by rw[ae,aa (f▸hi)];exact g _ (ba _)
  have l2:(ps.getD j []).length=m:=by rw[ae,aa (f▸h)];exact g _ (ba _)
  unfold kas_ask;unfold ltL at q;rw[B,G];generalize ps.getD i []=x at *;generalize ps.getD j []=y at *;refine kat_lt (kp _ _ D) E (kp _ _ H) I ?_;generalize its.toList=xs at *;generalize its'.toList=ys at *;cases F with
  |nil=>exact absurd l1.symm l
  | @cons c t xs x hx=>
   cases J with
   |nil=>exact absurd l2.symm l
   | @cons d u ys y hy=>
    refine kat_cons (qa ?_);by_cases e:c=d
    ·subst e
     rw[show(c==c)=true by simp];refine kat_yes (IE 0 hx hy (by simp at l1 l2;lia) (fun z=>M (by rw[z])) ?_);simp[llt]at q;exact q
    ·rw[show(c==d)=false by simpa using e]
     refine kat_no (oneLt_int ?_);simp[llt,e]at q;exact q
def IntKeys(H:Hp)(ys:List V)(ps:List (List Int)):Prop:=Paired (fun v k=>∃a,v=V.ref a/\H a=some (.tup (k.map V.int))) ys ps
theorem AY(h:IntKeys H ys ps):ps.length=ys.length:=by
 unfold IntKeys at h
 induction h with
 |nil=>rfl
 |cons _ _ ih=>simp[ih]
theorem zu(ok:HOk P w H h)(k:IntKeys H ys ps):bE ys vs->sM h vs ps:=by
 unfold IntKeys at k
 induction k generalizing vs with
 |nil=>intro z;cases z;exact .nil
 |cons y t ih=>
  intro z;cases z with
  |cons r q=>
   obtain⟨a,rfl,e⟩:=y;cases r;obtain⟨_,its,f,o,b,c,n,d⟩:=ok a _ e;exact .cons ⟨a,o,its.toArray,n,rfl,b,c,d,by simpa using intsAre_of f⟩ (ih q)
noncomputable def Hy(K:ah):List V->Hp->VK->Prop:=fun xs H Q=>∃p ys ps m,xs=[V.ref p]/\SqL K H p ys/\ps.length<64/\ps.Nodup/\(∀k∈ps,k.length=m)/\IntKeys H ys ps/\∀l,H l=none->Q (.ref l) (upd H l (.lst (ck .non ps ys)))
theorem zF:fB X (.builtin "sorted") (Hy X.K):=by
 intro pins s σ H xs us Q I r h;obtain⟨p,ys,ps,m,rfl,hq,n,nd,j,d,q⟩:=h;obtain⟨u,rfl,l⟩:=vals1 r;cases l;obtain⟨its,a,pl,v⟩:=I.list hq;have i:ps.length=ys.length:=AY d;have t:=a.length;have f:its.length=ps.length:=by lia
 refine xu (lt:=ltL ps) (vs:=its) (by rw[f];exact E3 nd) pl.isList (by lia) (fun h2=>zM nd f (zu I.hok d a) h2 j) ?_;obtain⟨c,g⟩:=sortedAll_at s.heap its (gE (ltL ps) its).toArray;have k:(ck V.non ps ys).length<=sizeLine:=by
  unfold ck;rw[ai,(kY nd).length_eq,aW];lia
 exact⟨.ref (s.heap.objs.size+1),_,I.laid (t':=s.toks) (fun b o e=>sortedAll_old e) (eY _) (show dP X.prog X.w _ _ _ (.lst (ck .non ps ys))from⟨k,_,c,xE nd i a,g⟩),rfl,q _ (I.hok.fresh (eY _))⟩
theorem AS:∀x:List Int,llt x x=false
 | []=>rfl
 |a::x=>by simp[llt,AS x]
theorem D7{B:Builtin}{op:CmpOp}{f:List Int->List Int->Bool}(G:(B=Builtin.«tuple.__lt__»/\op=.Lt/\f=llt)\/(B=Builtin.«tuple.__gt__»/\op=.Gt/\f=fun a b=>llt b a)){p q:Addr}{a b:List Int}{P:dM->Shared->Prop}(K:IsTup s.heap p us.toArray)(I:IsTup s.heap q vs.toArray)
  (C:bY us a)(D:bY vs b)(H:a.length=b.length)
  (h:P (.done (.ret (.bool (f a b)))) s):wpAny (model prog w) A (B ⟨[.ref p,.ref q],[]⟩) P E s:=by
 have⟨g,ci,fc⟩:∃g:Int->Int->Bool,(∀{m n:Int}{t u:Nat}{s:Shared}{Q:Value->Shared->Prop},Q (.bool (g m n)) s->wpAny (model prog w) A (cX op (.int m t) (.int n u)) Q E s)/\∀{m n:Int}{x y:List Int},m≠n->f (m::x) (n::y)=g m n:=by
  rcases G with⟨_,rfl,rfl⟩ |⟨_,rfl,rfl⟩
  ·exact⟨fun m n=>decide (m<n),fun q=>lt_int q,fun c=>by simp[llt,c]⟩
  ·exact⟨fun m n=>decide (n<m),fun q=>PyProof.Rows.gt_int q,fun c=>by simp[llt,bS c]⟩
 rcases G with⟨rfl,rfl,hf⟩ |⟨rfl,rfl,hf⟩
 all_goals
  show wpAny _ _ (isInstance (.ref q) (.type "tuple")>>=_) _ _ s;refine af (j7 I.typeIs isSubtype_tuple_tuple ?_);simp only[gg,aU,if_false];refine af (JY K ?_);refine af (JY I ?_);refine af ?_;show wpAny _ _ (forIn (us.zip vs) _ _) _ _ s;refine wpAny_forIn_list _ (fun rest r s'=>r.1=none/\s'=s/\∃k l o v,rest=List.zip k l/\k.length=l.length/\bY k o/\bY l v/\f a b=f o v) _ ?_ ?_ _ _ ⟨rfl,rfl,us,vs,a,b,rfl,by rw[C.length,D.length,H],C,D,rfl⟩
  ·rintro x rest ⟨r,_⟩ s' ⟨F,rfl,k,l,o,v,e,j,i,d,z⟩
   obtain rfl:r=none:=F;cases i with
   |nil=>cases e
   |cons m t i=>
    cases d with
    |nil=>cases j
    |cons n u d=>
     rw[tI]at e;cases e;dsimp only;refine af (qa ?_);by_cases c:m=n
     ·rw[show(m==n)=true by simpa using c]
      simp only[gg,aU,if_false];refine aj ⟨rfl,rfl,_,_,_,_,rfl,by simpa using j,i,d,?_⟩;rw[z];simp[hf,llt,c]
     ·rw[show(m==n)=false by simpa using c]
      simp only[Bool.not_false,if_true];rw[z,fc c]at h;refine af (ip (af (ci (af (aj (aj ?_))))));exact aj h
  ·rintro⟨r,_⟩ s' ⟨F,rfl,k,l,o,v,e,j,i,d,z⟩
   obtain rfl:r=none:=F;dsimp only;have J:f a b=false:=by
    rw[z];cases i with
    |nil=>cases d with
     |nil=>rw[hf];rfl
     |cons n u d=>cases j
    |cons m t i=>cases d with
     |nil=>cases j
     |cons n u d=>rw[tI]at e;cases e
   rw[J]at h;have L:us.toArray.size=vs.toArray.size:=by rw[au,au,C.length,D.length,H]
   rw[L];simp only[Builtin.Tuple.tupleCompareSizes,du,decide_false];exact aj h
theorem D1{p q:Addr}{a b:List Int}{P:dM->Shared->Prop}(f:IsTup s.heap p us.toArray)(g:IsTup s.heap q vs.toArray)
  (c:bY us a)(d:bY vs b)(e:a.length=b.length)
  (h:P (.done (.ret (.bool (llt a b)))) s):wpAny (model prog w) A (Builtin.«tuple.__lt__» ⟨[.ref p,.ref q],[]⟩) P E s:=D7 (.inl ⟨rfl,rfl,rfl⟩) f g c d e h
theorem gt_tree{p q:Addr}{a b:List Int}{P:dM->Shared->Prop}(g:IsTup s.heap p us.toArray)(i:IsTup s.heap q vs.toArray)
  (c:bY us a)(d:bY vs b)(e:a.length=b.length)
  (h:P (.done (.ret (.bool (llt b a)))) s):wpAny (model prog w) A (Builtin.«tuple.__gt__» ⟨[.ref p,.ref q],[]⟩) P E s:=D7 (f:=fun a b=>llt b a) (.inr ⟨rfl,rfl,rfl⟩) g i c d e h
section
variable {prog:Program}{w:World}{A:Around}{I:Addr}{fp wr:List Addr}{G:Array qg->Array qg->Prop}{P:Nat->Value->Prop}{St:Nat->Shared->Prop}{R:Result->Shared->Prop}
theorem Iy{N:String}{B:Builtin}{op:CmpOp}(l:Gs table N=some B)(pl:plainId N=true)(m:(N="min.loop"/\B=Builtin.«min.loop»/\op=.Lt)\/(N="max.loop"/\B=Builtin.«max.loop»/\op=.Gt))(W:WalksS prog w A.in1 I fp wr G 2 P St)(p:S∉fp){v0 v1:Value}(h0:∀v,P 0 v->v=v0)(h1:∀v,P 1 v->v=v1){c:Nat}{bt:Bool}(K:St 0 s)
  (D:s.heap.get? S=some {cls:=.type "list",dict:=none,data:=.seq #[] c,slots:= #[]})
  (J:∀(s':Shared)(Q:Value->Shared->Prop)(E:Value->Shared->Prop),Moved (S::wr) G s s'->Q (.bool bt) s'->wpAny (model prog w) A.in1 (richCompare op v1 v0) Q E s')
  (H:∀s',Moved (S::wr) G s s'->R (.ok (.ret (if bt=true then v1 else v0))) s'):i4 (model prog w) A (.builtin N ⟨[.ref I,.none,.ref S],[]⟩) R s:=by
 have q:S∉wr:=fun h=>p (W.sub _ h);have up:∀b∈wr,b∈S::wr:=fun b f=>aO _ f;have C:(toString "min"++toString ".loop":String)="min.loop":=by decide
 have z:(toString "max"++toString ".loop":String)="max.loop":=by decide
 have ns:∀{b:Addr},b∉S::wr->S≠b:=fun f h=>f (by rw[h];exact aL)
 --the t turn
 have t:∀(a:Shared)(x:Value)(d:Nat),St 2 a->a.heap.get? S=some {cls:=.type "list",dict:=none,data:=.seq #[x,x] d,slots:= #[]}->Moved (S::wr) G s a->x=(if bt=true then v1 else v0)->
   i4 (model prog w) A (.builtin N ⟨[.ref I,.none,.ref S],[]⟩) R a:=by
  intro a x d st g u ex;refine eB l ?_;rw[c9 pl _];rcases m with⟨rfl,rfl,rfl⟩ |⟨rfl,rfl,rfl⟩
  all_goals
   show wpAny _ A.in1 (uE (.ref S)>>=_) _ _ a;refine af (fP g rfl ?_);show wpAny _ A.in1 (tryCatch (pyNext (.ref I)) _>>=_) _ _ a;refine af (tU (W.done a _ _ st fun s' j=>?_));have i:=j.heap S _ q g;show wpAny _ A.in1 (updateSeq S (fun _=> #[])>>=_) _ _ _;refine af (rN i rfl (af (kK (aj ?_))));rw[ex];exact H _ (GC W.gtrans u ((j.mono up).then_heap (tk:=s'.toks) (ay _) fun b o f e=>(aX _ _ (ns f)).trans e))
 --the F
 have F:∀(a:Shared)(d:Nat),St 1 a->a.heap.get? S=some {cls:=.type "list",dict:=none,data:=.seq #[v0,v0] d,slots:= #[]}->Moved (S::wr) G s a->
   i4 (model prog w) A (.builtin N ⟨[.ref I,.none,.ref S],[]⟩) R a:=by
  intro a d st g u;refine eB l ?_;rw[c9 pl _];rcases m with⟨rfl,rfl,rfl⟩ |⟨rfl,rfl,rfl⟩
  all_goals
   show wpAny _ A.in1 (uE (.ref S)>>=_) _ _ a;refine af (fP g rfl ?_);show wpAny _ A.in1 (tryCatch (pyNext (.ref I)) _>>=_) _ _ a;refine af (tU (W.item 1 a _ _ (by decide) st fun v s' n k j=>?_));obtain rfl:=h1 v n;have i:=j.heap S _ q g;have y:=GC W.gtrans u (j.mono up);show wpAny _ A.in1 (tryCatch (holding [v,v] (richCompare _ v v0>>=_)) _>>=_) _ _ _;refine af (tU (bU (af (J _ _ _ y ?_))));refine af (bU (c6 ?_));refine af (kK (aj ?_));cases f:bt with
   |true=>
    simp only[if_true];refine af (rN i rfl (af (kK ?_)))
    first |rw[C] |rw[z]
    refine aj ⟨eO pl _,t _ v _ (W.frame _ s' _ s'.toks k (ay _) fun b r o e=>?_) (cw _ i rfl) (y.then_heap (ay _) fun b o f e=>(aX _ _ (ns f)).trans e) (by rw[f];rfl)⟩;exact(aX _ _ (fun h:S=b=>p (by rw[h];exact r))).trans e
   |false=>
    simp only[aU,if_false];refine af (kK ?_)
    first |rw[C] |rw[z]
    exact aj ⟨eO pl _,t _ v0 _ k i y (by rw[f];rfl)⟩
 refine eB l ?_;rw[c9 pl _];rcases m with⟨rfl,rfl,rfl⟩ |⟨rfl,rfl,rfl⟩
 all_goals
  show wpAny _ A.in1 (uE (.ref S)>>=_) _ _ s;refine af (fP D rfl ?_);show wpAny _ A.in1 (tryCatch (pyNext (.ref I)) _>>=_) _ _ s;refine af (tU (W.item 0 s _ _ (by decide) K fun v s' n k j=>?_));obtain rfl:=h0 v n;have i:=j.heap S _ q D;show wpAny _ A.in1 (updateSeq S (fun _=> #[v,v])>>=_) _ _ _;refine af (rN i rfl ?_)
  first |rw[C] |rw[z]
  refine aj ⟨eO pl _,F _ _ (W.frame _ s' _ s'.toks k (ay _) fun b r o e=>?_) (cw _ i rfl) ((j.mono up).then_heap (ay _) fun b o f e=>(aX _ _ (ns f)).trans e)⟩;exact(aX _ _ (fun h:S=b=>p (by rw[h];exact r))).trans e
theorem mm_go{N:String}{B:Builtin}{op:CmpOp}(j:Gs table N=some B)(pl:plainId N=true)(r:(N="min.loop"/\B=Builtin.«min.loop»/\op=.Lt)\/(N="max.loop"/\B=Builtin.«max.loop»/\op=.Gt))(x:A.handled=none){p q:Addr}{bt:Bool}
  (u:∀(s':Shared)(Q:Value->Shared->Prop)(E:Value->Shared->Prop),(∀c o,s.heap.get? c=some o->s'.heap.get? c=some o)->Q (.bool bt) s'->wpAny (model prog w) A.in1 (richCompare op (.ref q) (.ref p)) Q E s')
  (h:∀h' tk,(∀c o,s.heap.get? c=some o->h'.get? c=some o)->R (.ok (.ret (if bt=true then .ref q else .ref p))) {s with heap:=h',toks:=tk}) (k:n=s.heap.objs.size+1) (i:m=s.heap.objs.size+2):
  i4 (model prog w) A (.builtin N ⟨[.ref n,.none,.ref m],[]⟩) R {s with heap:=((s.heap.push {cls:=.type "tuple",data:=.seq #[.ref p,.ref q]}).push {cls:=.type "tuple_iterator",data:=.fields #[.ref s.heap.objs.size,.int 0 0]}).push {cls:=.type "list",data:=.seq #[]}}:=by
 have t:(s.heap.push {cls:=.type "tuple",data:=.seq #[.ref p,.ref q]}).IsTuple s.heap.objs.size #[.ref p,.ref q]:=⟨_,az _ rfl,rfl,0,rfl⟩;have z:(s.heap.push {cls:=.type "tuple",data:=.seq #[.ref p,.ref q]}).objs.size=s.heap.objs.size+1:=bC ..;have C:∀o o':Obj,((s.heap.push o).push o').objs.size=s.heap.objs.size+2:=fun o o'=>by rw[bC,bC]
 rw[k,i];have old:∀{G:Array qg->Array qg->Prop}{o1 o2 o3:Obj}{s':Shared},Moved [s.heap.objs.size+2,s.heap.objs.size+1] G {s with heap:=((s.heap.push o1).push o2).push o3} s'->∀c o,s.heap.get? c=some o->s'.heap.get? c=some o:=fun a c o e=>by
  have y:=aB e;refine a.heap c o (fun b=>?_) (ag _ (ag _ (ag _ e)));simp only[aE,cM,or_false]at b;rcases b with e|e<;>exact absurd y (by rw[e];exact Nat.not_lt.mpr (xj _ _))
 refine Iy j pl r (v0:=.ref p) (v1:=.ref q) (bt:=bt) ((Walks.tuple (A:=A.in1) x _ s.heap.objs.size (aK (dO _)) #[.ref p,.ref q]).toS) (by simp) (fun v e=>by simpa using e.symm) (fun v e=>by simpa using e.symm) ⟨⟨_,ag _ (z▸az _ rfl),rfl,rfl⟩,(t.push _).push _⟩ (C _ _▸az _ rfl) (fun s' f d a=>u s' f d (old a)) fun s' a=>?_;have D:=old a;obtain⟨h',l,g,H,F⟩:=s';obtain rfl:l=s.gens:=a.gens;obtain rfl:g=s.drawn:=a.drawn;obtain rfl:F=s.os:=a.os;exact h h' H D
theorem sF{p q:Addr}{a b:List Int}{Q:Value->Shared->Prop}(j:A.handled=none)(l:A.units+1<cLine)(m:IsTup s.heap p us.toArray)(n:IsTup s.heap q vs.toArray)(g:bY us a)(i:bY vs b)(k:a.length=b.length)
  (h:∀h' tk,(∀c o,s.heap.get? c=some o->h'.get? c=some o)->Q (if llt b a=true then .ref q else .ref p) {s with heap:=h',toks:=tk}):
  wpAny (model prog w) A (call (.builtin "min") [.ref p,.ref q]) Q E s:=by
 refine call_function_tree F.kind_min F.plain_min F.entry_min (F.args_min2 _ _) ?_;show wpAny _ A.in1 (fh "min" ["key","default"] 0 ⟨[],[]⟩>>=_) _ _ s;refine af (tW (show fh "min" ["key","default"] 0 ⟨[],[]⟩=pure [none,none]from rfl) ?_);show wpAny _ A.in1 (newTuple [.ref p,.ref q]>>=_) _ _ s;refine af (bw (af (gu ⟨_,az _ rfl,rfl,0,rfl⟩ (af (bw ?_)))));rw[show(toString "min"++toString ".loop":String)="min.loop" by decide];refine aj ⟨eO F.plain_min_loop _,mm_go F.entry_min_loop F.plain_min_loop (.inl ⟨rfl,rfl,rfl⟩) j (fun s' u t old r=>?_) h (bC ..) ((bC ..).trans (congrArg (·+1) (bC ..)))⟩;have f:=m.keeps old;have d:=n.keeps old;exact mj (op:=.Lt) d.typeIs f.typeIs qp (cD qp d.typeIs F.entry_tuple_lt (D1 d f i g k.symm ⟨_,rfl,(fun e=>nomatch e),r⟩) (F.args_tuple_lt_2 _ _)) l
theorem sG{p q:Addr}{a b:List Int}{Q:Value->Shared->Prop}(j:A.handled=none)(l:A.units+1<cLine)(m:IsTup s.heap p us.toArray)(n:IsTup s.heap q vs.toArray)(g:bY us a)(i:bY vs b)(k:a.length=b.length)
  (h:∀h' tk,(∀c o,s.heap.get? c=some o->h'.get? c=some o)->Q (if llt a b=true then .ref q else .ref p) {s with heap:=h',toks:=tk}):
  wpAny (model prog w) A (call (.builtin "max") [.ref p,.ref q]) Q E s:=by
 refine call_function_tree F.kind_max F.plain_max F.entry_max (F.args_max2 _ _) ?_;show wpAny _ A.in1 (fh "max" ["key","default"] 0 ⟨[],[]⟩>>=_) _ _ s;refine af (tW (show fh "max" ["key","default"] 0 ⟨[],[]⟩=pure [none,none]from rfl) ?_);show wpAny _ A.in1 (newTuple [.ref p,.ref q]>>=_) _ _ s;refine af (bw (af (gu ⟨_,az _ rfl,rfl,0,rfl⟩ (af (bw ?_)))));rw[show(toString "max"++toString ".loop":String)="max.loop" by decide];refine aj ⟨eO F.plain_max_loop _,mm_go F.entry_max_loop F.plain_max_loop (.inr ⟨rfl,rfl,rfl⟩) j (fun s' u t old r=>?_) h (bC ..) ((bC ..).trans (congrArg (·+1) (bC ..)))⟩;have f:=m.keeps old;have d:=n.keeps old;exact mj (op:=.Gt) d.typeIs f.typeIs F.slot_tuple_gt (cD F.slot_tuple_gt d.typeIs F.entry_tuple_gt (gt_tree d f i g k.symm ⟨_,rfl,(fun e=>nomatch e),r⟩) (F.args_tuple_gt_2 _ _)) l
end
noncomputable def rMinL(K:ah):List V->Hp->VK->Prop:=fun xs H Q=>∃(p q:Addr)(a b:List Int),xs=[V.ref p,V.ref q]/\SqT K H p (a.map V.int)/\SqT K H q (b.map V.int)/\a.length=b.length/\Q (if llt b a=true then .ref q else .ref p) H
noncomputable def rMaxL(K:ah):List V->Hp->VK->Prop:=fun xs H Q=>∃(p q:Addr)(a b:List Int),xs=[V.ref p,V.ref q]/\SqT K H p (a.map V.int)/\SqT K H q (b.map V.int)/\a.length=b.length/\Q (if llt a b=true then .ref q else .ref p) H
theorem F7(c:X.calm=true)(e:X.A.units+1<cLine):fB X (.builtin "min") (rMinL X.K):=by
 intro pins s σ H xs us Q I r h;obtain⟨p,q,a,b,rfl,h1,h2,d,hq⟩:=h;obtain⟨u,m,rfl,g,i⟩:=vals2 r;cases g;cases i;obtain⟨its,j,pl,_⟩:=I.tuple h1;obtain⟨its',l,f,_⟩:=I.tuple h2;refine _root_.Q.sF (I.ok.hd c) e pl f (intsAre_of j) (intsAre_of l) d fun h' tk k=>⟨_,H,I.kept k,?_,hq⟩;split <;>rfl
theorem F8(c:X.calm=true)(e:X.A.units+1<cLine):fB X (.builtin "max") (rMaxL X.K):=by
 intro pins s σ H xs us Q I r h;obtain⟨p,q,a,b,rfl,h1,h2,d,hq⟩:=h;obtain⟨u,m,rfl,g,i⟩:=vals2 r;cases g;cases i;obtain⟨its,j,pl,_⟩:=I.tuple h1;obtain⟨its',l,f,_⟩:=I.tuple h2;refine _root_.Q.sG (I.ok.hd c) e pl f (intsAre_of j) (intsAre_of l) d fun h' tk k=>⟨_,H,I.kept k,?_,hq⟩;split <;>rfl
noncomputable def j4(k:List Int×List Int):List Int:=k.1++k.2
theorem D6:∀{a c:List Int}(b d:List Int),a.length=c.length->llt (a++b) (c++d)=(llt a c||(decide (a=c)&&llt b d))
 | [],[],b,d,_=>by simp[llt]
 |x::a,y::c,b,d,h=>by
  have e:=D6 (a:=a) (c:=c) b d (by simpa using h);simp only[wL,llt,e];by_cases e1:x=y
  ·subst e1;simp
  ·simp[e1]
def P2(h:Heap)(v:Value)(k:List Int×List Int):Prop:=∃a o its n x y rest us ws,v=.ref a/\h.get? a=some o/\o.cls=.type "tuple"/\o.data=.seq its n/\its.toList=.ref x::.ref y::rest/\IsTup h x (us:List Value).toArray/\IsTup h y (ws:List Value).toArray/\bY us k.1/\bY ws k.2
def P2s(h:Heap)(vs:List Value)(ps:List (List Int×List Int)):Prop:=Paired (P2 h) vs ps
theorem p2_at{ps:List (List Int×List Int)}(r:P2s h vs ps)(hi:i<vs.length):P2 h (vs.getD i .none) (ps.getD i ([],[])):=by
 unfold P2s at r
 induction r generalizing i with
 |nil=>exact absurd hi (c8 _)
 |cons y t ih=>
  cases i with
  |zero=>exact y
  |succ i=>exact ih (by simpa using hi)
theorem p2_kat(kp:∀b o,h.get? b=some o->h1.get? b=some o){ps:List (List Int×List Int)}(r:P2s h vs ps):∃fs,KatTups h1 vs fs/\fs.length=vs.length/\∀v∈fs,∃x o,v=cF x/\h1.get? x=some o/\o.cls=.type "tuple":=by
 unfold P2s at r
 induction r with
 |nil=>exact⟨[],.nil,rfl,fun v hv=>nomatch hv⟩
 | @cons v k vs ps y t ih=>
  obtain⟨fs,c,d,e⟩:=ih;obtain⟨a,o,its,n,x,y,rest,us,ws,rfl,g,i,j,l,⟨p,m,f,_⟩,_⟩:=y;refine⟨.ref x::fs,.cons (kp _ _ g) i j (by rw[<-EV,l];rfl) c,by simp[d],fun v hv=>?_⟩;rcases aE.mp hv with rfl|hv
  ·exact⟨x,p,rfl,kp _ _ m,f⟩
  ·exact e v hv
section
variable {prog:Program}{w:World}{A:Around}{E:Value->Shared->Prop}{s:Shared}
theorem CK{k:List Int}(r:bY us k):ItemsAre (cy prog w) (k.map .inl) us:=by
 induction r with
 |nil=>exact .nil
 |cons n t r ih=>exact .cons (nh _ _ _ _) ih
theorem Ds{x:Addr}{k:List Int}(t:IsTup h x us.toArray)(r:bY us k):IsTupleKey (cy prog w) h (k.map .inl) x:=by
 obtain⟨o,c,a,n,b⟩:=t;exact⟨o,us.toArray,n,c,a,b,CK r⟩
theorem inl_inj{a c:List Int}:decide (a.map (dG:Int->Key)=c.map dG)=decide (a=c):=by
 refine decide_eq_decide.mpr ⟨fun h=>?_,fun h=>by rw[h]⟩
 induction a generalizing c with
 |nil=>cases c with
  |nil=>rfl
  |cons=>cases h
 |cons x a ih=>cases c with
  |nil=>cases h
  |cons y c=>
   simp only[cn,GH,dG.injEq]at h;rw[h.1,ih h.2]
theorem Ep{x y:Addr}{a c:List Int}{Q:Bool->Shared->Prop}(e:A.units<cLine)(f:IsTup s.heap x us.toArray)(g:IsTup s.heap y ws.toArray)(b:bY us a)(d:bY ws c)(h:Q (decide (a=c)) s):wpAny (model prog w) A (eqBool (.ref x) (.ref y)) Q E s:=by
 rw[<-inl_inj]at h;exact wpAny_eqBool_tuple (knd:=cy prog w) e (Ds f b) (Ds g d) h
theorem DZ{x y:Addr}{a c:List Int}{Q:Bool->Shared->Prop}(j:A.units<cLine)(b:IsTup s.heap x us.toArray)(d:IsTup s.heap y ws.toArray)(f:bY us a)(g:bY ws c)(i:a.length=c.length)(h:Q (llt a c) s):wpAny (model prog w) A (oneLt' false (.ref x) (.ref y)) Q E s:=
 kat_one _ _ (mj (op:=.Lt) b.typeIs d.typeIs qp (cD qp b.typeIs F.entry_tuple_lt (D1 b d f g i ⟨_,rfl,(fun e=>nomatch e),h⟩) (F.args_tuple_lt_2 _ _)) j)
end
theorem Bg{ps:List (List Int×List Int)}(i:Nat):(ps.map j4).getD i []=j4 (ps.getD i ([],[])):=by
 rw[ae,ae,av];cases ps[i]? <;>rfl
theorem asks_p2{ps:List (List Int×List Int)}(d:A.units<cLine)(nd:(ps.map j4).Nodup)(J:vs.length=ps.length)(r:P2s h0 vs ps)(h2:2<=vs.length)(K:∀k∈ps,k.1.length=m/\k.2.length=m):Gh prog w A (ltL (ps.map j4)) vs h0:=by
 intro s1 kp;refine⟨tuples' false,fun Z Y q=>?_,fun i j C hi I W q=>?_⟩
 ·obtain⟨fs,L,a2,M⟩:=p2_kat kp r
  refine kat_kind (T:=.type "tuple") L (by lia) (fun v X=>?_) rfl q;obtain⟨x,o,rfl,f,g⟩:=M v X;intro A Q E s k q;exact rH ⟨o,k _ _ f,g⟩ q
 ·obtain⟨a,o,its,n,x,y,rest,us,ws,f,g,e3,N,O,p,t,u,B⟩:=p2_at r hi
  obtain⟨a',o',its',n',x',y',a0,a4,a5,P,R,f3,S,U,D,F,G,H⟩:=p2_at r I;have h:=neL nd (i:=i) (j:=j) (by rw[ai];lia) (by rw[ai];lia) W;have l1:(ps.getD i ([],[])).1.length=m/\(ps.getD i ([],[])).2.length=m:=by rw[ae,aa (J▸hi)];exact K _ (ba _)
  have l2:(ps.getD j ([],[])).1.length=m/\(ps.getD j ([],[])).2.length=m:=by rw[ae,aa (J▸I)];exact K _ (ba _)
  unfold kas_ask;unfold ltL at q;rw[Bg,Bg]at q h;rw[f,P];generalize ps.getD i ([],[])=k at *;generalize ps.getD j ([],[])=k' at *;obtain⟨b,c⟩:=k;obtain⟨l,c'⟩:=k';unfold j4 at q h;rw[D6 _ _ (l1.1.trans l2.1.symm)]at q;refine kat_lt (kp _ _ g) N (kp _ _ R) S ?_;rw[O,U];refine kat_cons (Ep d (p.keeps kp) (D.keeps kp) u G ?_);by_cases e:b=l
  ·subst e
   rw[show decide (b=b)=true by simp];have V:c≠c':=fun z=>h (by rw[z]);refine kat_yes (kat_cons (Ep d (t.keeps kp) (F.keeps kp) B H ?_));dsimp only;rw[show decide (c=c')=false by simpa using V];refine kat_no (DZ d (t.keeps kp) (F.keeps kp) B H (l1.2.trans l2.2.symm) ?_);simp[AS]at q;exact q
  ·rw[show decide (b=l)=false by simpa using e]
   refine kat_no (DZ d (p.keeps kp) (D.keeps kp) u G (l1.1.trans l2.1.symm) ?_);simp[e]at q;exact q
def jg(H:Hp)(ys:List V)(ps:List (List Int×List Int)):Prop:=Paired (fun v k=>∃a x y rest,v=V.ref a/\H a=some (.tup (.ref x::.ref y::rest))/\H x=some (.tup (k.1.map V.int))/\H y=some (.tup (k.2.map V.int))) ys ps
theorem lV{ps:List (List Int×List Int)}(h:jg H ys ps):ps.length=ys.length:=by
 unfold jg at h
 induction h with
 |nil=>rfl
 |cons _ _ ih=>simp[ih]
theorem p2_of(ok:HOk P w H h){ps:List (List Int×List Int)}(k:jg H ys ps):bE ys vs->P2s h vs ps:=by
 unfold jg at k
 induction k generalizing vs with
 |nil=>intro z;cases z;exact .nil
 |cons y t ih=>
  intro z;cases z with
  |cons r q=>
   obtain⟨a,x,z,rest,rfl,e,ex,g⟩:=y;cases r;obtain⟨_,its,b,o,c,d,n,f⟩:=ok a _ e;obtain⟨_,p,i,l⟩:=ok x _ ex;obtain⟨_,s,j,m⟩:=ok z _ g;cases b with
   |cons r1 b=>cases b with
    |cons r2 b=>
     cases r1;cases r2;exact .cons ⟨a,o,_,n,x,z,_,p,s,rfl,c,d,f,rfl,l,m,intsAre_of i,intsAre_of j⟩ (ih q)
noncomputable def Hx(K:ah):List V->Hp->VK->Prop:=fun xs H Q=>∃(p:Addr)(ys:List V)(ps:List (List Int×List Int))(m:Nat),xs=[V.ref p]/\SqL K H p ys/\ps.length<64/\(ps.map j4).Nodup/\(∀k∈ps,k.1.length=m/\k.2.length=m)/\jg H ys ps/\∀l,H l=none->Q (.ref l) (upd H l (.lst (ck .non (ps.map j4) ys)))
theorem zE(k:X.A.units+2<cLine):fB X (.builtin "sorted") (Hx X.K):=by
 intro pins s σ H xs us Q I r h;obtain⟨p,ys,ps,m,rfl,hq,v,nd,j,d,q⟩:=h;obtain⟨u,rfl,t⟩:=vals1 r;cases t;obtain⟨its,a,pl,x⟩:=I.list hq;have i:ps.length=ys.length:=lV d;have g:(ps.map j4).length=ys.length:=by rw[ai];exact i
 have w:=a.length;have l:its.length=(ps.map j4).length:=by lia
 refine xu (lt:=ltL (ps.map j4)) (vs:=its) (by rw[l];exact E3 nd) pl.isList (by lia) (fun h2=>asks_p2 k nd (by lia) (p2_of I.hok d a) h2 j) ?_;obtain⟨c,f⟩:=sortedAll_at s.heap its (gE (ltL (ps.map j4)) its).toArray;have n:(ck V.non (ps.map j4) ys).length<=sizeLine:=by
  unfold ck;rw[ai,(kY nd).length_eq,aW];lia
 exact⟨.ref (s.heap.objs.size+1),_,I.laid (t':=s.toks) (fun b o e=>sortedAll_old e) (eY _) (show dP X.prog X.w _ _ _ (.lst (ck .non (ps.map j4) ys))from⟨n,_,c,xE nd g a,f⟩),rfl,q _ (I.hok.fresh (eY _))⟩
end Q
namespace PySem
noncomputable abbrev eT1(h:Heap)(t:Addr):Heap:=h.push {cls:=.type "tuple_iterator",data:=.fields #[.ref t,.int 0 0]}
noncomputable abbrev eT2(h:Heap)(t:Addr):Heap:=(eT1 h t).push {cls:=.type "enumerate",data:=.fields #[.none,.bool false,.ref h.objs.size,rawInt 0,.none,.none]}
theorem AQ(t:Addr)(xs:Array Value)(n:Nat)(b:Option Addr)(sl:Array (Option Value)):
  Meets (Builtin.«enumerate.__new__» ⟨[.type "enumerate",.ref t],[]⟩) (fun _ R s=>s.heap.get? t=some {cls:=.type "tuple",dict:=b,data:=.seq xs n,slots:=sl}/\R (.ok (.ret (.ref (eT1 s.heap t).objs.size))) {s with heap:=eT2 s.heap t}):=
 .of_wp fun prog w A R s h=>by
  obtain⟨hp,g,d,tk,os⟩:=s;obtain⟨h0,h⟩:=h;have c:=sub_enumerate;have a:Heap.IsTuple (Shared.heap ⟨hp,g,d,tk,os⟩) t xs:=⟨_,h0,rfl,n,rfl⟩
  wp_walk using kW h0
  refine wpAny_stack_any fun st=>aj ?_;split
  ·rename_i cc _ _ _ _ _
   generalize(cc==fK "enumerate")=bb;cases bb<;>(wp_walk using kW h0,gu a;exact⟨_,rfl,h⟩)
  ·wp_walk using kW h0,gu a
   exact⟨_,rfl,h⟩
section
variable {prog:Program}{w:World}{A:Around}{E:Value->Shared->Prop}{s:Shared}
theorem C5{t:Addr}{xs:Array Value}{Q:Value->Shared->Prop}(i:s.heap.IsTuple t xs)
  (q:∀h',IsEnum h' (s.heap.objs.size+1) s.heap.objs.size 0 .none->h'.IsTupleIter s.heap.objs.size t 0->(∀c o,s.heap.get? c=some o->h'.get? c=some o)->Q (.ref (s.heap.objs.size+1)) {s with heap:=h'}):
  wpAny (model prog w) A (call (.type "enumerate") [.ref t]) Q E s:=by
 obtain⟨⟨c,b,d,sl⟩,e,f,n,g⟩:=i;obtain rfl:c=fK "tuple":=f;obtain rfl:d=Data.seq xs n:=g;have k:(eT1 s.heap t).objs.size=s.heap.objs.size+1:=bC ..;have a:(eT2 s.heap t).get? (eT1 s.heap t).objs.size=some _:=az _ rfl;have h:(eT2 s.heap t).get? s.heap.objs.size=some _:=ag _ (az _ rfl);refine callType_new F.called_enumerate (by decide) (F.typeCall_enumerate_1 _) (F.newCall_enumerate_1 _) (fun j=>F.args_object_init_2 j _) F.entry_enumerate_new (AQ t xs n b sl) ⟨e,?_⟩;show _/\_;rw[k]at a⊢;exact⟨⟨_,a,rfl⟩,q _ a ⟨_,h,rfl,rfl⟩ fun c o x=>ag _ (ag _ x)⟩
end
theorem drawsT(f:A.handled=none)(j t:Addr)(k:t≠j)(xs:Array Value):
  Draws prog w A j [j,t] xs.size (fun i v=>xs[i]? =some v) (fun i h=>h.IsTupleIter j t i/\h.IsTuple t xs) where
 live:=fun _ _ st=>by obtain⟨⟨o,a,_⟩,_⟩:=st;exact⟨o,a⟩
 frame:=fun _ _ _ st b=>by
  obtain⟨⟨o,a,r⟩,⟨o',l,m⟩⟩:=st;exact⟨⟨o,b j (by simp) o a,r⟩,⟨o',b t (by simp) o' l,m⟩⟩
 item:=fun i s Q E hi st e=>Ii st.1 st.2 (v:=xs[i]) (by simp[hi]) fun h' g c=>e _ h' s.toks (by simp[hi]) ⟨g,st.2.extBut c.extBut k⟩ c
 done:=fun s Q E st d=>DR f st.1 st.2 (by simp) d
end PySem
namespace L2
open PySem PySem.Spec PyProof.Rows
noncomputable def Itet(K:ah)(a:Addr):It:=
 ⟨fun i H=>∃xs x,SqT K H a xs/\xs[i]? =some x,fun i H v H'=>∃p x,H p=none/\H'=upd H p (.tup [.int i,x])/\v=.ref p/\∀xs,SqT K H a xs->xs[i]? =some x,fun i H=>∃xs,SqT K H a xs/\xs.length<=i⟩
theorem B3{es:List Expr}{kk:Nat}{pp:Pos}(a it e:Addr)(U:e≠it):Turn P w K (.Tuple es kk pp) (Itet K a) [e,it] e (fun i h=>(∃old,IsEnum h e it i old)/\h.IsTupleIter it a i) where
 mem:=by simp
 obj:=fun i h st b f=>by
  obtain⟨⟨old,g⟩,o,e1,c,d⟩:=st;have t:b=e\/b=it:=by simpa using f
  rcases t with rfl|rfl
  ·exact⟨_,g,fun v z=>by cases z⟩
  ·exact⟨o,e1,fun v z=>by rw[d]at z;cases z⟩
 keep:=fun i h h' st k=>by
  obtain⟨⟨old,g⟩,o,C,r⟩:=st;exact⟨⟨old,k e (by simp) _ g⟩,o,k it (by simp) o C,r⟩
 item:=by
  intro X R V Q p i pins s σ H E I hf st S;subst R V Q;obtain⟨xs,x,hq,W⟩:=S;obtain⟨its,Z,pl,hz⟩:=I.tuple hq;have pl:s.heap.IsTuple a its.toArray:=pl;obtain⟨u,hu,ru⟩:=Z.get W;obtain⟨⟨old,g⟩,B⟩:=st;obtain⟨f0,L,f2,f3,f4,f5⟩:=hf e (by simp);obtain⟨G,J,g2,M,N,O⟩:=hf it (by simp);have a9:i<its.toArray.size:=by
   have :=(aD.mp hu).1
   simpa using this
  have b0:it<s.heap.objs.size:=by obtain⟨o,q,_⟩:=B;exact aB q
  have a4:a≠it:=by
   obtain⟨o',j,b4,_⟩:=id B;exact tup_ne pl j (by rw[b4];decide+kernel)
  have a3:e≠a:=bS (tup_ne pl g (by show fK "enumerate"≠fK "tuple";decide+kernel));have D:=drawsT (prog:=X.prog) (w:=X.w) (A:=X.A.in1) (I.ok.hd p) it a a4 its.toArray;refine wpAny_pyNext_enum_itemD D g ⟨B,pl⟩ a9 U (by simp[U,a3]) fun y h' tk hy C b1 ht b6 kp=>?_;have a1:y=u:=by
   have :its[i]? =some y:=by simpa using hy
   rw[hu]at this;exact(a6 this).symm
  subst a1;have hp:H s.heap.objs.size=none:=I.hok.fresh (ay _);have nE:∀b v,H b=some v->b≠e:=fun b v q z=>by rw[z,f0]at q;cases q
  have nI:∀b v,H b=some v->b≠it:=fun b v q z=>by rw[z,G]at q;cases q
  have Y:∀c o,c∉[e,it]->s.heap.get? c=some o->h'.get? c=some o:=fun c o p q=>kp c o (fun z=>p (by simp[z])) (fun z=>p (by simp[z])) q;have I1:Inv X pins σ (upd H s.heap.objs.size (.tup [.int i,x])) {s with heap:=h',toks:=tk+1}:=by
   refine I.step (g':=s.gens) (d':=s.drawn) (ch:=[e,it]) (fun b f=>?_) (fun b o _ _ l q _=>Y b o l q)
    (fun b o _ _ l q _=>⟨o.slots,Y b o l q⟩) (fun b o _ q n=>by rw[bo (aK (aB q))];exact n)
    (fun b o l q=>⟨o,Y b o l q⟩) (fun b ys q=>by rw[bo (bR q hp)];exact q) (fun b o v q=>by rw[bo (bR q hp)];exact q)
    (fun b ps q=>⟨#[],by rw[bo (bR q hp),q];simp⟩) (fun m hm=>?_) (fun b v q=>?_) I.bare
   ·have t:b=e\/b=it:=by simpa using f
    rcases t with rfl|rfl
    ·exact⟨f3,L,f4,f5⟩
    ·exact⟨M,J,N,O⟩
   ·obtain⟨o,es',ep,q,r⟩:=hm
    exact⟨o,es',ep,kp _ o (bS L) (bS J) q,r⟩
   ·by_cases f:b=s.heap.objs.size
    ·subst f
     rw[ao]at q;cases q;exact⟨by show 2<=sizeLine;decide,[.int i tk,y],.cons ⟨tk,rfl⟩ (.cons ru .nil),⟨_,ht,rfl,_,rfl⟩⟩
    ·rw[bo f]at q
     refine(I.hok b v q).oV (fun c o l j=>kp c o ?_ ?_ j) (fun c j=>by rw[bo (bR j hp)];exact j) fun c ys j=>by rw[bo (bR j hp)];exact j
     ·rcases l with z|z
      ·rw[z];exact nE b v q
      ·exact nE c _ z
     ·rcases l with z|z
      ·rw[z];exact nI b v q
      ·exact nI c _ z
  have fe:(upd H s.heap.objs.size (.tup [.int i,x])) e=none:=by rw[bo (aK (aB g))];exact f0
  refine⟨_,rfl,wpAny_letOwnedTupleGo_enum (s:={s with heap:=h',toks:=tk+1}) C fun a2 a8 a0=>?_⟩;have I2:Inv X pins σ (upd H s.heap.objs.size (.tup [.int i,x])) {s with heap:=a2,toks:=tk+1}:=I1.turned (t':=tk+1) (fun b o f q=>a0.extBut b o f q) fe L f3 f4 f5;refine⟨.ref s.heap.objs.size,_,I2,rfl,⟨_,x,hp,rfl,rfl,fun ys b3=>by rw[I.rZ b3 hq];exact W⟩,⟨⟨y,?_⟩,b1.1.extBut a0.extBut (bS U)⟩,fun b f=>?_⟩
  ·have :((i:Int)+1)=((i+1:Nat):Int):=by push_cast;rfl
   rw[<-this];exact a8
  ·have t:b=e\/b=it:=by simpa using f
   rcases t with rfl|rfl
   ·exact fe
   ·rw[bo (aK b0)];exact G
 done:=by
  intro X R V Q p i pins s σ H E I hf st S;subst R V Q;obtain⟨xs,hq,W⟩:=S;obtain⟨its,Z,pl,hz⟩:=I.tuple hq;have pl:s.heap.IsTuple a its.toArray:=pl;obtain⟨⟨old,g⟩,B⟩:=st;obtain⟨G,J,g2,M,N,O⟩:=hf it (by simp);have hT:s.TypeIs (.ref e) "enumerate":=⟨_,g,rfl⟩;have b5:=Z.length;unfold pyNext;refine af (wJ (dk (name:=bT "__next__") hT F.slot_enumerate_next (cD F.slot_enumerate_next hT F.entry_enumerate_next ?_ (F.args_enumerate_next_1 _))));show wpAny _ _ (field (.ref e) 2>>=_) _ _ _;refine af (eN g rfl (x:=.ref it) rfl ?_);refine af (DR (A:=X.A.in1) (I.ok.hd p) B pl (by simp;lia) fun h' z a7 b2=>?_);obtain⟨o,C,a5⟩:=b2;refine af (j7 (T:="StopIteration") (b:=true) ⟨o,C,a5⟩ isSubtype_stop ?_);exact aj ⟨rfl,I.turned (t':=s.toks) (fun b o f q=>a7 b o f q) G J M N O⟩
 self:=fun _ _ _ _ _ st h=>by
  obtain⟨⟨old,g⟩,_⟩:=st;exact wpAny_pyIter_enum g h
section
variable {X:Cx}{es:List Expr}{kk:Nat}{pp:Pos}
noncomputable def CT(K:ah)(t:TA):TI:=fun σ H R=>t σ H fun vs H1=>∃a,vs=[.ref a]/\(∃xs,SqT K H1 a xs)/\R (Itet K a) H1
theorem HM{l:Expr}{t:TA}{p:Pos}(j:Gl X "enumerate")(m:X.mg "enumerate"=none)(i:PA X [l] t)(n:b7 [l] X.env=[(false,eval l X.env)]:=by rfl):
  PI X (.Tuple es kk pp) (.Call (.Name "enumerate" p) [l] [] pos) (CT X.K t):=by
 intro pins s σ H R I h;refine Call_ (jM I j m boot_enumerate (cJ (thn (i pos pins s σ H _ I h) fun us s1 ⟨vs,H1,c,r,o⟩=>?_) n rfl));obtain⟨a,rfl,⟨xs,hq⟩,q⟩:=o;obtain⟨u,rfl,v⟩:=r.one;cases v;obtain⟨its,x,pl,w⟩:=c.tuple hq;have pl:s1.heap.IsTuple a its.toArray:=pl;refine C5 pl fun h' f k kp=>?_;refine wpAny_pyIter_enum (s:={s1 with heap:=h'}) f ?_;have g:Inv X pins σ H1 {s1 with heap:=h',toks:=s1.toks}:=c.kept kp;refine⟨_,[s1.heap.objs.size+1,s1.heap.objs.size],_,_,H1,rfl,g,B3 a s1.heap.objs.size (s1.heap.objs.size+1) (Nat.succ_ne_self _),⟨⟨_,f⟩,k⟩,fun b d=>?_,q⟩;have e:s1.heap.objs.size<=b:=by
  simp only[aE,cM,or_false]at d;rcases d with rfl|rfl
  ·exact eY _
  ·exact ay _
 exact c.zx e (c.hok.fresh e)
end
end L2
namespace L2
open PySem PySem.Spec PySem.W PyProof.Rows
noncomputable def exO(e C:Addr)(d:Option Addr):HO:=.ext fun h=>∃a,h.get? e=some {cls:=.ref C,dict:=d,data:=.fields #[.ref a,.none,.none,.none,.bool false,.none]}
noncomputable def xdO(d:Addr)(fs:List (Str×V)):HO:=.ext fun h=>∃mA,h.Ns1 d mA/\(∀f,wx (fs.lookup f) (mA f))/\Di mA (fs.map (·.1))
noncomputable def Jn(K:ah)(C f:Addr)(a:List Value)(b:String):Bool:=match K.lookup C with
 |some ⟨.type "type",_,.cls cd,sl⟩=>(match cd.mro,sl.toList with
  |.ref C'::bm,[_,_,_,_,some (.builtin n),_]=>C'==C&&n==b&& !cd.hasDel&&tailIn K a bm&&nsOkIn K cd.ns&&nsIn K cd.ns "__init__"==some (some (.ref f))
  |_,_=>false)
 |_=>false
structure MkX(K:ah)(C f:Addr):Prop where
 ex:Jn K C f bmV "ValueError.__new__"=true
 fn:∃o,K.lookup f=some o/\o.cls=.type "function"
 kp:keepIn K (.ref C)=true
end L2
namespace L2
open PySem PySem.Spec PySem.W PyProof.Rows PySem.Builtin PySem.Builtin.ObjectAttr
noncomputable def overX:List Value->Bool
 |.ref _::r=>overX r
 |l=>l==bmV
section
variable {prog:Program}{w:World}{K:ah}{A:Around}{E:Value->Shared->Prop}{s:Shared}{e C:Addr}{name:Str}{v:Value}{vs:Array Value}{Q:Unit->Shared->Prop}
structure StX(K:ah)(C:Addr)(name:Str):Prop where
 hs:findIn K (.ref C) "__setattr__"=some (some (.builtin "object.__setattr__"))
 hp:(clsIn K C).any (fun cd=>overX cd.mro)=true
 ht:takerIn K C name=some none
 hd:(clsIn K C).any (·.hasDict)=true
noncomputable abbrev exObj(C:Addr)(d:Option Addr)(vs:Array Value):Obj:={cls:=.ref C,dict:=d,data:=.fields vs}
end
end L2
namespace L2
open PySem PySem.Spec PySem.W PyProof.Rows
noncomputable def sFldX(K:ah)(ta c:TE)(f:Str):TS:=fun D σ H=>c σ H fun y H1=>ta σ H1 fun x H2=>∃a C,x=.ref a/\StX K C f/\
 ((H2 a=some (exO a C none)/\∀b,H2 b=none->D.nx σ (upd (upd H2 b (xdO b [(f,y)])) a (exO a C (some b))))\/
  ∃b fs,H2 a=some (exO a C (some b))/\H2 b=some (xdO b fs)/\fs.length<1000/\D.nx σ (upd H2 b (xdO b (putF f y fs))))
structure BsX(K:ah)(B:Addr):Prop where
 ga:specialIn K (.ref B) "__getattribute__"=some (some (.builtin "type.__getattribute__"))
 rd:readsIn K B (.type "type")=true
 fd:findCls K (.ref B) (.type "type") "__init__"=some (.val (.builtin "ValueError.__init__"))
noncomputable def tBase(K:ah)(B:Addr)(t:TA):TE:=fun σ H Q=>BsX K B/\t σ H fun vs H1=>∃a C f us,vs=.ref a::us/\H1 a=some (exO a C none)/\us.length<=sizeLine/\Jn K C f bmV "ValueError.__new__"=true/\Q .non H1
noncomputable def del(H:Hp)(a:Addr):Hp:=fun b=>if b=a then none else H b
section
variable {X:Cx}{pins:List (Addr×Obj)}{σ:St}{H:Hp}{s:Shared}
structure NewX(X:Cx)(pins:List (Addr×Obj))(H:Hp)(s:Shared)(a C:Addr)(d:Option Addr):Prop where
 at_:∃x0,s.heap.get? a=some (exObj C d #[.ref x0,.none,.none,.none,.bool false,.none])
 new:X.s₀.heap.get? a=none
 un:H a=none
 pins:∀p∈X.pn++pins,p.1≠a
theorem FC{M:Model}{Q:Unit->Shared->Prop}{d:Option Addr}(I:Inv X pins σ H s)(c:X.stack=X.env::X.outer)(hf:X.env.frame=some X.env.locals)(n:NewX X pins H s a C d)
  (h:∀s2,Inv X pins σ H s2->Fly X.s₀.heap s2.heap H (X.pn++pins) a (.ref C) d->Q () s2):
  wpAny M X.A (mI (.ref a) X.env) (fun _ s'=>wpAny M X.A (BE (.ref a) none) Q E s') E s:=by
 obtain⟨e,b⟩:=n.at_;unfold mI;simp only[hf];refine af (eN (x:=.none) b rfl (by rfl) ?_);rw[if_neg (show ¬(bF != bF)=true by simp)];exact enter I c hf b rfl (by simp) n.new n.un n.pins h
def JT(X:Cx)(E:XS):Prop:=∀(pins:List (Addr×Obj))(σ:St)(H:Hp)(s:Shared)(a C:Addr)(d:Option Addr),Inv X pins σ H s->NewX X pins H s a C d->E σ (.ref C) d H->X.xe (.ref a) s
theorem C7{cd:Value}{outer:List Env}{E:XK}:
  JT (zC (CXx P w) P w K mg base N qual scope f cd A outer s H E) (fun _=>E):=by
 intro pins σ H1 v a C d I n q;show wpAny _ _ (leaving _ _) _ _ _;unfold leaving;refine af (FC I rfl rfl n fun s2 b c=>?_);obtain⟨⟨T,u,vs,t,ts,h1,h2,j,k,l,m,o,p,r,h,i,_⟩,e,g,_⟩:=c;exact⟨a,.ref C,d,H1,rfl,b.os,b.bare,b.base,b.hok,⟨⟨T,u,vs,t,ts,h1,h2,j,k,l,m,o,p,r,h,i,fun _ z=>nomatch z⟩,e,g,fun _ z=>nomatch z⟩,q⟩
noncomputable def sRaisX(C:Addr)(sp:Sp)(dvs:List V)(E:XS)(t:TA):TS:=fun _ σ H=>t σ H fun vs H1=>vs.length<=sizeLine/\∀a,H1 a=none->
 sp (.ref a::(vs++dvs)) (upd H1 a (exO a C none)) (fun v H2=>v=.non/\∃d,H2 a=some (exO a C d)/\E σ (.ref C) d (del H2 a)) (E σ)
end
noncomputable def fldOk(K:ah)(C:Addr)(f:Str):Bool:=
 excOk K C&&findIn K (.ref C) f==some none&&(match clsIn K C with |some cd=>cd.hasDict|none=>false)
noncomputable def rFld(K:ah)(f:Str):V->Hp->VK->Prop:=fun x H Q=>∃a C b fs v,x=.ref a/\H a=some (Jm a (.ref C) (some b))/\H b=some (xdO b fs)/\fldOk K C f=true/\fs.lookup f=some v/\Q v H
noncomputable def tRepl(ta tb:TE)(i:Nat)(c d:Str)(tr:TA):TA:=fun σ H Q=>ta σ H fun x H1=>tb σ H1 fun y H2=>∃u v z:Str,x=.str u/\y=.str v/\(1<=u.length/\1<=v.length/\u.length+v.length<=sizeLine/\z.length<=1000)/\σ[i]? =some (some (.str z))/\
 tr σ H2 fun xs a=>Q (.str (u++v)::.str (Txt.replace z c d)::xs) a
section
variable {X:Cx}{a b:Expr}{es:List Expr}{ta tb:TE}{tr:TA}{i:Nat}{x c d:Str}{p1 np apos cpos p2 p3:Pos}{j1 j2:Nat}
noncomputable def tMkf(K:ah)(C:Addr)(sp:Sp)(dvs:List V)(E:XS)(d:Str)(t:TA):TE:=fun σ H Q=>t σ H fun vs H1=>vs.length<=sizeLine/\∀a,H1 a=none->
 sp (.ref a::(vs++dvs)) (upd H1 a (exO a C none)) (fun v H2=>v=.non/\∃b c fs w,V.ref a=.ref b/\H2 b=some (exO b C (some c))/\H2 c=some (xdO c fs)/\fldOk K C d=true/\fs.lookup d=some w/\Q w H2) (E σ)
end
noncomputable def rSlW(K:ah):V->Option Int->Option Int->Hp->VK->Prop:=fun x lo hi H Q=>∃a xs,x=.ref a/\SqT K H a xs/\HT.sIx xs.length 0 lo=0/\HT.sIx xs.length xs.length hi=xs.length/\Q (.ref a) H
noncomputable def tMakeS(C:Addr)(sp:Sp)(dvs:List V)(E:XS)(t:TA):TE:=fun σ H Q=>tMake C sp dvs (E σ) t σ H Q
noncomputable def tMethS(C:Addr)(m:Str)(sp:Sp)(dvs:List V)(E:XS)(ta:TE)(t:TA):TE:=fun σ H Q=>tMeth C m sp dvs (E σ) ta t σ H Q
end L2
namespace L2
open PySem PySem.Spec PyProof.Rows
section
variable {X:Cx}{pins:List (Addr×Obj)}{σ:St}{H N:Hp}{s:Shared}{h':Heap}
noncomputable def tLZip(K:ah)(t:TA):TE:=fun σ H Q=>t σ H fun vs H1=>∃a b xs ys,vs=[.ref a,.ref b]/\SqL K H1 a xs/\SqL K H1 b ys/\xs.length<=1000/\∀H' p ws,aM H1 H'->H1 p=none->H' p=some (.lst ws)->ws.length=min xs.length ys.length->
 (∀(j:Nat)(x y:V),xs[j]? =some x->ys[j]? =some y->∃q,ws[j]? =some (.ref q)/\H1 q=none/\H' q=some (.tup [x,y]))->Q (.ref p) H'
end
end L2
namespace Q
open PySem
def sL(xs:Array Nat):Prop:=xs.toList.Pairwise (·<·)
structure Parts(xs:Array Nat)(j p:Nat):Prop where
 le:p<=xs.size
 lo:∀i x,i<p->xs[i]? =some x->x<j
 hi:∀i x,p<=i->xs[i]? =some x->j<=x
theorem ud{xs:Array Nat}(h:sL xs){x y:Nat}(c:i<k)(d:xs[i]? =some x)(f:xs[k]? =some y):x<y:=by
 have e:xs.toList[i]? =some x:=by simpa using d
 have g:xs.toList[k]? =some y:=by simpa using f
 obtain⟨h1,a⟩:=aD.mp e;obtain⟨h2,b⟩:=aD.mp g;have :=cZ.mp h i k h1 h2 c;rw[a,b]at this;exact this
theorem vQ{xs:Array Nat}(h:sL xs)(j:Nat):∀(fuel lo hi:Nat),hi-lo<=fuel->lo<=hi->hi<=xs.size->(∀i x,i<lo->xs[i]? =some x->x<j)->(∀i x,hi<=i->xs[i]? =some x->j<=x)->Parts xs j (zW xs j fuel lo hi)
 | 0,lo,hi,hf,hl,hs,a,b=>by
  have e:lo=hi:=by lia
  subst e;exact⟨hs,a,b⟩
 |fuel+1,lo,hi,hf,hl,hs,a,b=>by
  unfold zW;by_cases c:lo<hi
  ·rw[if_pos c]
   have g:(lo+hi)/2<xs.size:=by lia
   have f:xs[(lo+hi)/2]? =some xs[(lo+hi)/2]:=by simp[g]
   have l:xs.getD ((lo+hi)/2) j=xs[(lo+hi)/2]:=by simp[Ke,g]
   simp only[l];by_cases d:xs[(lo+hi)/2]<j
   ·rw[if_pos d]
    refine vQ h j fuel _ hi (by lia) (by lia) hs (fun i x m e=>?_) b;by_cases k:i=(lo+hi)/2
    ·subst k
     rw[f]at e;cases e;exact d
    ·exact hW (ud h (by lia) e f) d
   ·rw[if_neg d]
    refine vQ h j fuel lo _ (by lia) (by lia) (by lia) a fun i x m e=>?_;by_cases k:i=(lo+hi)/2
    ·subst k
     rw[f]at e;cases e;lia
    ·have :=ud h (by lia:(lo+hi)/2<i) f e
     lia
  ·rw[if_neg c]
   have e:lo=hi:=by lia
   subst e;exact⟨hs,a,b⟩
theorem kz{xs:Array Nat}(h:sL xs)(j:Nat):Parts xs j (cq xs j):=
 vQ h j xs.size 0 xs.size (by lia) (aR _) (ay _) (fun i x hi _=>absurd hi (c8 _)) fun i x hi e=>by
  have :=(dq.mp e).1
  lia
theorem AZ{α:Type}(xs:Array α)(p:Nat)(x:α):(rT xs p x).toList=xs.toList.take p++x::xs.toList.drop p:=by
 unfold rT;simp;exact fN (by simp)
theorem Ap{xs:Array Nat}(h:sL xs)(d:∀i:Nat,xs[i]? ≠some j):sL (rT xs (cq xs j) j):=by
 have P:=kz h j;unfold sL;rw[AZ];have sub:=h;unfold sL at sub;rw[List.pairwise_append];refine⟨sub.sublist (uG _ _),tK.mpr ⟨fun y hy=>?_,sub.sublist (List.drop_sublist _ _)⟩,fun x f y hy=>?_⟩
 ·obtain⟨i,hi⟩:=cu.mp hy
  rw[iO]at hi;have e:xs[cq xs j+i]? =some y:=by simpa using hi
  have :=P.hi _ _ (xj _ _) e
  have ne:y≠j:=fun z=>d _ (z▸e);lia
 ·obtain⟨i,hi⟩:=cu.mp f
  have a:i<cq xs j:=by
   have :=(aD.mp hi).1
   rw[bN]at this;lia
  rw[BV a]at hi;have e:xs[i]? =some x:=by simpa using hi
  have lx:=P.lo _ _ a e;rcases aE.mp hy with rfl|hy
  ·exact lx
  ·obtain⟨k,b⟩:=cu.mp hy
   rw[iO]at b;have c:xs[cq xs j+k]? =some y:=by simpa using b
   have :=P.hi _ _ (xj _ _) c
   lia
theorem C9{xs:Array Nat}(h:sL xs){x:Nat}(e:xs[i]? =some x):cq xs (x+1)=i+1:=by
 have P:=kz h (x+1);have hi:=(dq.mp e).1;apply pM
 ·apply fE
  intro c;have f:i+1<xs.size:=aY c P.le;have d:xs[i+1]? =some xs[i+1]:=by simp[f]
  have a:=P.lo _ _ c d;have b:=ud h (dO i) e d;lia
 ·apply fE
  intro c;have :=P.hi i x (by lia) e;lia
theorem C8{xs:Array Nat}(h:sL xs):cq xs 0=0:=by
 have P:=kz h 0;apply pM _ (aR _);apply fE;intro c;have a:0<xs.size:=aY c P.le;have :=P.lo 0 xs[0] c (by simp[a]);lia
theorem Ge{xs:Array Nat}(h:sL xs){x:Nat}(e:xs[i]? =some x):cq xs x=i:=by
 have P:=kz h x;apply pM
 ·apply fE
  intro c;exact du _ (P.lo i x c e)
 ·apply fE
  intro c;have f:cq xs x<xs.size:=hW c (dq.mp e).1;have d:xs[cq xs x]? =some xs[cq xs x]:=by simp[f]
  have a:=P.hi _ _ (ay _) d;have b:=ud h c d e;lia
theorem Ce(n:Nat):sL (Array.range n):=by
 unfold sL;rw[Array.toList_range];exact i5
structure j5(t:bz):Prop where
 up:sL t.place
 no:t.dummies= #[]
theorem slot_no{t:bz}(T:j5 t)(j:Nat):t.slot j≠.dummy:=by
 unfold bz.slot;simp only[T.no];split
 ·simp
 ·split
  ·rename_i h
   exact absurd h (by simp[z6])
  ·simp
theorem Fc{t:bz}(T:j5 t)(h:t.slot j=.empty):∀i:Nat,t.place[i]? ≠some j:=fun i e=>by
 have :=Ge T.up e
 unfold bz.slot at h;simp only[this,e,beq_self_eq_true,if_true]at h;cases h
theorem xg(t:bz)(p:bz.Probe):(t.advance p).dummy=p.dummy:=by
 unfold bz.advance;split <;>rfl
theorem ve{t:bz}(T:j5 t){f:Nat->Int}{h:Int}{d:Option Nat}:∀(fuel:Nat)(p:bz.Probe),p.dummy=none->oO t f h fuel p=some (.empty j d)->t.slot j=.empty/\d=none
 | 0,p,_,e=>by simp[oO]at e
 |fuel+1,p,hp,e=>by
  unfold oO at e;cases hs:t.slot p.j with
  |empty=>
   rw[hs]at e;simp only[fI,bz.Met.empty.injEq]at e;exact⟨by rw[<-e.1];exact hs,by rw[<-e.2];exact hp⟩
  |dummy=>exact absurd hs (slot_no T _)
  |live i=>
   rw[hs]at e;simp only at e;split at e
   ·cases e
   ·exact ve T fuel _ (by rw[xg];exact hp) e
theorem w6{t:bz}(T:j5 t){h:Int}{b:Bool}(e:t.freeSlot h=some (j,b)):(∀i:Nat,t.place[i]? ≠some j)/\b=false:=by
 unfold bz.freeSlot at e;split at e
 ·rename_i j' d hm
  unfold bz.probe at hm;obtain⟨h1,h2⟩:=ve T _ _ (by rfl) hm;subst h2;simp only[uF,GG,fI,Prod.mk.injEq]at e;obtain⟨rfl,rfl⟩:=e;exact⟨Fc T h1,rfl⟩
 ·cases e
theorem jv(t:bz)(n:Nat):j5 (t.standIn n):=⟨Ce n,rfl⟩
theorem HD{t:bz}(T:j5 t)(a:∀i:Nat,t.place[i]? ≠some j):j5 (t.put j).1:=by
 refine⟨Ap T.up a,?_⟩;show(if z6 t.dummies j=true then _ else t.dummies)= #[];rw[T.no];simp[z6]
theorem vp{t:bz}(T:j5 t)(n:Nat):j5 (t.orStandIn n):=by
 unfold EO;split
 ·exact T
 ·exact jv t n
theorem AW{t:bz}(T:j5 t)(es:Array (Int×Value))(h:Int)(x:Value):j5 (layNew t es h x).2.1/\(layNew t es h x).2.2.1=false:=by
 unfold layNew;split
 ·rename_i j b e
  obtain⟨h1,h2⟩:=w6 T e;subst h2;exact⟨vp (HD T h1) _,rfl⟩
 ·exact⟨jv t _,rfl⟩
theorem xM{mask finger moves:Nat}{plain:Bool}{f:Array Int}{t:bz}{g:Array Nat}(h:bz.laid mask finger moves led plain f=some (t,g)):j5 t/\t.led=led/\t.plain=plain:=by
 unfold bz.laid at h;cases e:bz.layClean mask f with
 |none=>rw[e]at h;cases h
 |some owner=>
  rw[e]at h;have h':some (({mask,place:=(((aA (mask+1)).filterMap fun j=>(owner.getD j none).map (j,·)).map (·.1)).toArray,dummies:= #[],finger,led,moves,plain}:bz),(((aA (mask+1)).filterMap fun j=>(owner.getD j none).map (j,·)).map (·.2)).toArray)=some (t,g):=h;have h2:=(Prod.mk.inj (a6 h')).1;subst h2;refine⟨⟨?_,rfl⟩,rfl,rfl⟩;show((((aA (mask+1)).filterMap fun j=>(owner.getD j none).map (j,·)).map (·.1)).toArray).toList.Pairwise (·<·);rw[Kd,cQ,List.pairwise_filterMap];refine i5.imp fun{a b} i x c y d=>?_;cases ha:owner.getD a none with
  |none=>rw[ha]at c;cases c
  |some u=>
   cases hb:owner.getD b none with
   |none=>rw[hb]at d;cases d
   |some v=>
    rw[ha]at c;rw[hb]at d;cases c;cases d;exact i
theorem wX(t:bz)(es:Array (Int×Value))(a:Nat):j5 (qd t es a).2.1:=by
 unfold qd;split
 ·rename_i t' order e
  simp only;split
  ·unfold J3 at e
   exact(xM e).1
  ·exact jv t _
 ·exact jv t _
theorem put_led(t:bz)(j:Nat):(t.put j).1.led=t.led:=rfl
theorem w4(t:bz)(n:Nat):(t.orStandIn n).led=t.led:=by
 unfold EO;split <;>rfl
theorem CF(t:bz)(es:Array (Int×Value))(h:Int)(x:Value):(layNew t es h x).2.1.led=t.led:=by
 unfold layNew;split
 ·exact(w4 _ _).trans (put_led _ _)
 ·rfl
theorem yR(t:bz)(es:Array (Int×Value))(a:Nat):(qd t es a).2.1.led=t.led:=by
 unfold qd;split
 ·rename_i t' order e
  simp only;split
  ·unfold J3 at e
   exact(xM e).2.1
  ·rfl
 ·rfl
section
variable {prog:Program}{w:World}{K:Type}[DecidableEq K]{knd:KeyKind prog w K}{A:Around}{E:Value->Shared->Prop}{s:Shared}
def rF(knd:KeyKind prog w K)(h:Heap)(a:Addr)(S:K->Bool)(n:Nat)(led:Bool):Prop:=
 ∃o es ep t,h.get? a=some o/\o.ExactSet/\o.data=.set es ep t/\ElemsOf knd es.toList/\(∀k,S k=true↔∃e∈es.toList,knd.is k e.2=true)/\es.size<fQ/\t.fits es.size=true/\es.size=n/\j5 t/\t.led=led
theorem rF.of{S:K->Bool}(x:rF knd h a S n led):h.SetOf knd a S n:=by
 obtain⟨o,es,ep,t,b,c,d,e,f,g,i,j,_⟩:=x;exact⟨o,es,ep,t,b,c,d,e,f,g,i,j⟩
theorem uZ{o:Obj}{t:bz}(l:h.get? a=some o)(i:o.ExactSet)(j:o.data=.set es ep t){t':bz}{b:K->Bool}(d:ElemsOf knd es'.toList)(f:∀k,b k=true↔∃e∈es'.toList,knd.is k e.2=true)(c:es'.size<fQ)(hf:t'.fits es'.size=true)(m:j5 t'):
  rF knd (h.update a (Obj.putSet es' t')) a b es'.size t'.led:=by
 have g:=(SetOf_store (knd:=knd) l i j d f c hf).1;exact⟨_,es',ep+1,t',g,i,rfl,d,f,c,hf,rfl,m,rfl⟩
theorem BB{g:Bool->Sem Unit}(G:∀(b:Bool)(C:Shared)(x:Unit->Shared->Prop),x () C->wpAny (model prog w) A (g b) x E C){o:Obj}{t:bz}(p:s.heap.get? a=some o)(u:o.ExactSet)(k:o.data=.set es ep t)
  {c:bz}{y:K->Bool}(m:ElemsOf knd es1.toList)(n:∀f,y f=true↔∃e∈es1.toList,knd.is f e.2=true)(d:es1.size<fQ)(hf:c.fits es1.size=true)(H:j5 c){I:Bool}{R:Option Bool->Shared->Prop}
  (h:∀h',dv a s.heap h'->rF knd h' a y es1.size c.led->R (some true) {s with heap:=h'}):
  wpAny (model prog w) A (do
    storeSet a es1 c
    if(!I&&c.tooFull)=true then do
      g (qd c es1 (eZ es1.size)).2.2
      storeSet a (qd c es1 (eZ es1.size)).1 (qd c es1 (eZ es1.size)).2.1
      pure (some true)
     else pure (some true)) R E s:=by
 refine af (wpAny_storeSet_of p k ?_ (oM d));have z:=(SetOf_store (knd:=knd) p u k m n d hf).1;have J:=uZ (knd:=knd) p u k m n d hf H;have B:=bM s.heap a (Obj.putSet es1 c);split
 ·have hp:=relayAll_perm c es1 (eZ es1.size)
  have r:=relayAll_fits c es1 (eZ es1.size);have j:=wX c es1 (eZ es1.size);have i:=yR c es1 (eZ es1.size);generalize qd c es1 (eZ es1.size)=Rl at hp r j i⊢;obtain⟨F,t3,L⟩:=Rl;dsimp only at hp r j i⊢;have v:F.size=es1.size:=by rw[<-bZ,hp.length_eq,bZ]
  refine af (G _ _ _ (af (wpAny_storeSet_of z rfl ?_ (oM (by rw[v];exact d)))));have D:=uZ (knd:=knd) z u rfl (m.perm hp) (fun f=>(n f).trans ⟨fun⟨e,l,q⟩=>⟨e,hp.mem_iff.mpr l,q⟩,fun⟨e,l,q⟩=>⟨e,hp.mem_iff.mp l,q⟩⟩) (by rw[v];exact d) r j;rw[v,i]at D;exact aj (h _ (B.trans (bM _ a _)) D)
 ·exact aj (h _ B J)
theorem Cj{t:bz}(T:j5 t):j5 {t with plain:=false}:=⟨T.up,T.no⟩
theorem addX{S:K->Bool}{k:K}{x:Value}{Q:Bool->Shared->Prop}(C:knd.is k x=true)(F:x.scannable=true)(R:rF knd s.heap a S n led)(M:n+1<fQ)
  (h:∀h',dv a s.heap h'->rF knd h' a (fun c=>S c||decide (c=k)) (if S k then n else n+1) led->Q (!S k) {s with heap:=h'}):
  wpAny (model prog w) A (setAddHashed a x (knd.hash k)) Q E s:=by
 obtain⟨o,es,ep,t,p,G,l,y,z,J,hf,D,N,v⟩:=R;have X:es.size+1<fQ:=by rw[D];exact M
 unfold setAddHashed setAddHashedIn;refine bU (af (gV p l hf ?_));dsimp only;rw[byScan_of F J y];simp only[↓reduceIte];unfold setAddByScan;refine af ?_;refine af (ip (af (wpAny_setScan_of C p l hf y ?_)));cases hr:List.findIdx? (fun e=>knd.is k e.2) es.toList with
 |some j=>
  dsimp only;obtain⟨T,hp,_⟩:=List.findIdx?_eq_some_iff_getElem.mp hr;have g:S k=true:=(z k).mpr ⟨es.toList[j],ba T,hp⟩;refine aj (aj ?_);have :=h s.heap (dv.refl a s.heap) ⟨o,es,ep,t,p,G,l,y,fun c=>by
   rw[cW,decide_eq_true_eq,<-z c];exact⟨fun q=>q.elim id (fun e=>e▸g),.inl⟩,J,hf,by rw[g];exact D,N,v⟩
  rw[g]at this;exact this
 |none=>
  dsimp only;have g:S k=false:=by
   cases q:S k with
   |false=>rfl
   |true=>
    obtain⟨e,B,V⟩:=(z k).mp q;have :=List.findIdx?_eq_none_iff.mp hr e B;rw[V]at this;cases this
  have U:∀(b:Bool){u:Shared}{d:Unit->Shared->Prop},d () u->wpAny (model prog w) A (match b with |true=>rule "set.scan.the-table-gave-way" |false=>pure ()) d E u:=fun b u d q=>by cases b<;>first |exact aj q|exact ip q
  have hp:=layNew_perm t es (knd.hash k) x;have m:=layNew_fits t es (knd.hash k) x;have i:=(AW N es (knd.hash k) x).1;have f:=CF t es (knd.hash k) x;generalize layNew t es (knd.hash k) x=L at hp m i f⊢;obtain⟨es1,t1,Y,W⟩:=L;dsimp only at hp m i f⊢;rw[Array.toList_push]at hp;have l1:ElemsOf knd es1.toList:=(y.push C F).perm hp;have B:∀c,(S c||decide (c=k))=true↔∃e∈es1.toList,knd.is c e.2=true:=mem_push_iff C z hp;have O:es1.size=n+1:=by rw[<-bZ,hp.length_eq,aN,bZ,D];rfl
  have H:es1.size<fQ:=by rw[O];exact M
  refine af (U _ ?_);have I:∀h',dv a s.heap h'->rF knd h' a (fun c=>S c||decide (c=k)) es1.size led->Q true {s with heap:=h'}:=fun h' r x=>by
   have :=h h' r
   rw[g]at this;rw[O]at x;exact this x
  split
  ·refine af ?_
   rw[hashByValue_scannable 8 F];refine aj (BB ?_ p G l l1 B H ?_ ?_ ?_)
   ·intro b u d q;cases b<;>first |exact aj q|exact ip q
   ·split
    ·exact m
    ·exact bz.fits_plain_off m
   ·split
    ·exact i
    ·exact Cj i
   ·intro h' r x
    refine aj (I h' r ?_);split at x
    ·rw[f,v]at x;exact x
    ·have P:({t1 with plain:=false}:bz).led=led:=f.trans v
     rw[P]at x;exact x
  ·refine af (aj ?_)
   simp only[↓reduceIte];refine BB ?_ p G l l1 B H m i ?_
   ·intro b u d q;cases b<;>first |exact aj q|exact ip q
   ·intro h' r x
    rw[f,v]at x;exact aj (I h' r x)
end
end Q
set_option maxHeartbeats 3200000
namespace Q
open PySem PySem.Spec PySem.W PyProof.Rows L2
section
variable {prog:Program}{w:World}{A:Around}{R:Result->Shared->Prop}{I:Addr}{fp wr:List Addr}{G:Array qg->Array qg->Prop}{n:Nat}{P:Nat->Value->Prop}{St:Nat->Shared->Prop}
theorem xx(W:WalksS prog w A.in1 I fp wr G n P St)(S:Addr)(f:S∉fp)(ks:List Key)(l:ks.length=n)(q:∀i v,P i v->∃k,ks[i]? =some k/\RelV (kV k) v)(a:n+1<fQ):
  ∀(m i:Nat)(s:Shared),n-i=m->i<=n->St i s->rF (cy prog w) s.heap S (has (met (ks.take i))) (met (ks.take i)).length led->
   (∀s',Moved (S::wr) G s s'->rF (cy prog w) s'.heap S (has (met ks)) (met ks).length led->R (.ok (.ret .none)) s')->
   i4 (model prog w) A (.builtin "set.update.loop" ⟨[.ref S,.ref I],[]⟩) R s
 | 0,i,s,hm,hi,st,hS,hR=>by
  obtain rfl:i=n:=by lia
  rw[<-l,da]at hS;refine eB mJ ?_;rw[c9 fR _];show wpAny _ A.in1 (pyNext (.ref I)>>=_) _ _ s;refine af (W.done s _ _ st fun s' d=>?_);obtain⟨o,es,ep,t,c,rest⟩:=hS;exact aj (hR s' (d.mono fun b a=>aO _ a) ⟨o,es,ep,t,d.heap S _ (fun z=>f (W.sub _ z)) c,rest⟩)
 |m+1,i,s,hm,hi,st,hS,hR=>by
  have h:i<n:=by lia
  refine eB mJ ?_;rw[c9 fR _];show wpAny _ A.in1 (pyNext (.ref I)>>=_) _ _ s;refine af (W.item i s _ _ h st fun v s' u V d=>?_);obtain⟨k,K,g⟩:=q i v u;have y:rF (cy prog w) s'.heap S (has (met (ks.take i))) (met (ks.take i)).length led:=by
   obtain⟨o,es,ep,t,c,rest⟩:=hS;exact⟨o,es,ep,t,d.heap S _ (fun z=>f (W.sub _ z)) c,rest⟩
  have O:v.scannable=true:=by
   cases k with
   |inl j=>obtain⟨t,rfl⟩:=g;rfl
   |inr x=>obtain⟨t,rfl⟩:=g;rfl
  show wpAny _ A.in1 (holding [v] (setAdd S v)>>=_) _ _ s';refine af (bU ?_);unfold setAdd;refine bU (af ((cy prog w).pyHash (k:=k) (IM g) ?_));have L:=CA (ks.take i);rw[bN]at L;refine addX (knd:=cy prog w) (led:=led) (s:={s' with toks:=s'.toks+1}) (IM g) O y (by lia) fun h' p B=>?_;have r:ks.take (i+1)=ks.take i++[k]:=by rw[cg,K];rfl
  have C:rF (cy prog w) h' S (has (met (ks.take (i+1)))) (met (ks.take (i+1))).length led:=by
   rw[r,Iz];obtain⟨o,es,ep,t,c,J,F,H,M,E,hf,N,Q⟩:=B;refine⟨o,es,ep,t,c,J,F,H,fun j=>?_,E,hf,by rw[qH];exact N,Q⟩;rw[<-M j,jy,AN,cW,jy,decide_eq_true_eq]
  refine aj ⟨eO fR _,xx W S f ks l q a m (i+1) _ (by lia) h (W.frame _ s' _ _ V (eY _) fun b hq o e=>?_) C fun U T D=>?_⟩
  ·rw[p.2 b (fun z:b=S=>f (by rw[<-z];exact hq))]
   exact e
  ·refine hR U (GC W.gtrans ((d.mono fun b a=>aO _ a).then_heap (eY _) fun b o hq e=>?_) T) D
   rw[p.2 b (fun z:b=S=>hq (by rw[z];exact aL))];exact e
end
section
variable {prog:Program}{w:World}{A:Around}{E:Value->Shared->Prop}{s:Shared}
theorem F3(a:Value)(h:Q₁ (.ref s.heap.objs.size) {s with heap:=s.heap.push (mN (!w.params.followText "set-order"))}):i4 (model prog w) A (.call (.builtin "set.__new__") ⟨[.type "set",a],[]⟩) (wants Q₁ E) s:=by
 refine codeAny_of_tree ?_;show wpAny _ A.in1 (do checkBuiltinCall "set.__new__" ⟨[.type "set",a],[]⟩;again (.builtin "set.__new__" ⟨[.type "set",a],[]⟩)) _ _ s;refine af (tW (F.newCall_set_1 a) (aj ⟨eO F.plain_set_new _,eB F.entry_set_new ?_⟩));rw[c9 F.plain_set_new _];unfold Builtin.«set.__new__» Builtin.Frozenset.newClass;have b:=sub_set_self;obtain⟨hp,g,d,tk,os⟩:=s;dsimp only;wp_walk;refine iJ (aj ?_);dsimp only;simp only[newObj];exact af (wpAny_alloc (aj (aj h)))
theorem Fe{P:Bool->Heap->Prop}{Q:Value->Shared->Prop}(C:s.heap.IsList l items)
  (H:∀(led:Bool)(R:Result->Shared->Prop),(∀s',Moved (s.heap.objs.size::[(s.heap.push (mN led)).objs.size]) (fun a b=>b=a) {s with heap:=(s.heap.push (mN led)).push {cls:=.type "list_iterator",data:=.fields #[.ref l,.int 0 0]}} s'->P led s'.heap->R (.ok (.ret .none)) s')->i4 (model prog w) A.in1.in1 (.builtin "set.update.loop" ⟨[.ref s.heap.objs.size,.ref (s.heap.push (mN led)).objs.size],[]⟩) R {s with heap:=(s.heap.push (mN led)).push {cls:=.type "list_iterator",data:=.fields #[.ref l,.int 0 0]}})
  (h:∀(h':Heap)(tk:Nat),P (!w.params.followText "set-order") h'->(∀b o,b<s.heap.objs.size->s.heap.get? b=some o->h'.get? b=some o)->Q (.ref s.heap.objs.size) {s with heap:=h',toks:=tk}):
  wpAny (model prog w) A (call (.type "set") [.ref l]) Q E s:=by
 have d:=F.called_set;obtain⟨c,tl,a1⟩:=d.mro;have S:=d.made;have T:=d.sub;have U:=d.notType;have V:=d.canCreate;have W:=F.typeCall_set_1 (.ref l);refine wpAny_call (codeAny_of_tree ?_);show wpAny _ _ (callAny (.type "set") _) _ _ _;refine aj ⟨Code.quiet_builtin _ (by decide+kernel),eB F.entry_type_call ?_⟩;rw[Around.under_plain (weight_type_call_type "set" [.ref l] []) rfl];repeat(any_goals (first |assumption|wp_step))
 refine mn (F3 (.ref l) (E:=E) (Q₁:=fun obj n=>∃led:Bool,led=(!w.params.followText "set-order")/\obj=.ref s.heap.objs.size/\n={s with heap:=s.heap.push (mN led)}) ⟨_,rfl,rfl,rfl⟩) fun r n f=>?_;rcases r with e|fl
 ·exact f
 rcases fl with _|_|_|obj
 ·exact f.elim
 ·exact f.elim
 ·exact f.elim
 obtain⟨led,G,rfl,rfl⟩:=f;rw[<-G]at h;have t:(s.heap.push (mN led)).get? s.heap.objs.size=some (mN led):=az _ rfl;have u:Shared.TypeIs {s with heap:=s.heap.push (mN led)} (.ref s.heap.objs.size) "set":=⟨_,t,rfl⟩;have X:=d.init.lookup;have Y:=d.init.bind (.ref s.heap.objs.size);repeat(any_goals (first |assumption|wp_step))
 refine mn (codeAny_call_builtin (R:=wants (fun r s2=>r=.none/\∃h' tk,s2={s with heap:=h',toks:=tk}/\P led h'/\
  (∀b o,b<s.heap.objs.size->s.heap.get? b=some o->h'.get? b=some o)) E) d.init.plain F.entry_set_init (check_set_init_1 u ?_)) fun N s2 g=>?_
 ·obtain⟨L,m,x,k,y⟩:=C
  obtain⟨oc,od,K,osl⟩:=L;obtain rfl:oc=.type "list":=x;obtain rfl:K=.seq items k:=y;have I:(s.heap.push (mN led)).get? l=some {cls:=.type "list",dict:=od,data:=.seq items k,slots:=osl}:=ag _ m;have Z:=F.sub_list_set;have g2:=F.sub_list_frozenset;have g3:(fK "list"==fK "dict")=false:=by decide
  have D:(s.heap.push (mN led)).IsList l items:=⟨_,I,rfl,k,rfl⟩;unfold Builtin.«set.__init__» noKeywords Builtin.Frozenset.updateFrom;generalize hPI:pyIter=PI
  wp_walk
  subst hPI;refine oK D (af (wpAny_runValue ?_));have a0:l<s.heap.objs.size:=aB m;have J:(s.heap.push (mN led)).objs.size=s.heap.objs.size+1:=bC _ _;refine H led _ fun s' i j=>?_
  ·obtain⟨h',q,p,O,M⟩:=s'
   obtain rfl:q=s.gens:=i.gens;obtain rfl:p=s.drawn:=i.drawn;obtain rfl:M=s.os:=i.os;show wpAny _ _ _ _ _ _;refine aj ?_;show wpAny _ _ (ret bF) _ _ _;refine aj ⟨rfl,h',O,rfl,j,fun b o hq e=>i.heap b o (fun z=>?_) (ag _ (ag _ e))⟩;rcases aE.mp z with z|z
   ·exact aK hq z
   ·exact aK (bG hq) ((aT.mp z).trans J)
 ·rcases N with e|fl2
  ·exact g
  rcases fl2 with _|_|_|v
  ·exact g.elim
  ·exact g.elim
  ·exact g.elim
  obtain⟨rfl,h',tk,rfl,j,B⟩:=g;repeat(any_goals (first |assumption|wp_step))
  exact h _ _ j B
theorem xy{ks:List Key}{Q:Value->Shared->Prop}(p:A.handled=none)(a:s.heap.IsList l items)(q:ks.length=items.size)
  (u:∀(i:Nat)(v:Value),items[i]? =some v->∃k,ks[i]? =some k/\RelV (kV k) v)(m:items.size+1<fQ)
  (h:∀(h':Heap)(tk:Nat),rF (cy prog w) h' s.heap.objs.size (has (met ks)) (met ks).length (!w.params.followText "set-order")->(∀b o,b<s.heap.objs.size->s.heap.get? b=some o->h'.get? b=some o)->Q (.ref s.heap.objs.size) {s with heap:=h',toks:=tk}):
  wpAny (model prog w) A (call (.type "set") [.ref l]) Q E s:=by
 have c:l<s.heap.objs.size:=let⟨_,e,_⟩:=a;aB e;refine Fe (P:=fun led h=>rF (cy prog w) h s.heap.objs.size (has (met ks)) (met ks).length led) a (fun led R g=>?_) h;have f:A.in1.in1.in1.handled=none:=by simp[p]
 have d:(s.heap.push (mN led)).objs.size=s.heap.objs.size+1:=bC _ _;have r:l≠(s.heap.push (mN led)).objs.size:=by rw[d];exact aK (bG c)
 have t:s.heap.objs.size∉[(s.heap.push (mN led)).objs.size,l]:=by
  rw[d];intro z;rcases aE.mp z with z|z
  ·exact aK (dO _) z
  ·exact eD c (aT.mp z)
 have j:(s.heap.push (mN led)).get? s.heap.objs.size=some (mN led):=az _ rfl;refine xx (led:=led) ((Walks.list f _ l r items).toS) s.heap.objs.size t ks q u m (items.size-0) 0 _ (by lia) (aR _) ⟨⟨_,az _ rfl,rfl,rfl⟩,(a.push _).push _⟩ ?_ g;exact⟨mN led,#[],0,_,ag _ j,⟨rfl,rfl,rfl⟩,rfl,fun e n=>by simp at n,fun k=>by simp[met,has],by decide,by rfl,rfl,⟨oY,rfl⟩,rfl⟩
end
theorem F6(j:X.calm=true):fB X (.type "set") (rSet X.K):=by
 intro pins s σ H xs us Q I r h;obtain⟨p,ks,rfl,hq,A,q⟩:=h;obtain⟨u,rfl,w⟩:=vals1 r;cases w;obtain⟨its,d,pl,_⟩:=I.list hq;have c:=d.length;rw[ai]at c;refine xy (ks:=ks) (I.ok.hd j) pl.isList (by rw[au];exact c) (fun i v e=>zt d i v (by simpa using e)) (by rw[au,<-c];unfold fQ;lia) fun h' tk f kp=>?_;refine⟨.ref s.heap.objs.size,_,I.laid (t':=tk) (fun b o e=>kp b o (aB e) e) (ay _) (show dP X.prog X.w _ _ _ (Am _ (met ks).length)from ?_),rfl,q _ (I.hok.fresh (ay _))⟩;obtain⟨o,es,ep,t,a,m,l,x,y,g,hf,n⟩:=f.of;refine⟨⟨o,es,ep,t,a,m,l,g,hf,n⟩,⟨o,a⟩,fun h1 h2 z k=>?_⟩;obtain⟨o,es,ep,t,a,rest⟩:=z;exact⟨o,es,ep,t,k o a,rest⟩
end Q
set_option maxHeartbeats 1000000
namespace Q
open PySem
theorem p6{α:Type}:∀{l:List α}{i:Nat}(h:i<l.length),(l[i]::l.eraseIdx i).Perm l
 |a::l,0,_=>dN _
 |a::l,i+1,h=>by
  have hi:i<l.length:=by simpa using h
  have b:=p6 hi;show(l[i]::a::l.eraseIdx i).Perm (a::l);exact(wH _ _ _).trans (b.cons a)
theorem DO{α:Type}(next :Nat->Nat):∀(fuel k:Nat)(left:List α)(out:Array α),left.length<=fuel->(zS next fuel k left out).toList.Perm (out.toList++left)
 | 0,k,left,out,h=>by
  have e:left=[]:=a7.mp (by lia);subst e;simp[zS]
 |fuel+1,k,left,out,h=>by
  unfold zS;cases left with
  |nil=>simp
  |cons a l=>
   have hi:next k%(a::l).length<(a::l).length:=BI _ (by simp)
   rw[aa hi];dsimp only;refine(DO next fuel (k+1) _ _ (by rw[kQ hi];simp at h⊢;lia)).trans ?_;rw[Array.toList_push,gB];exact List.Perm.append_left _ (p6 hi)
theorem oy{α:Type}(next :Nat->Nat)(xs:Array α):(jj next xs).toList.Perm xs.toList:=by
 unfold jj;exact(DO next xs.size 0 xs.toList #[] (by simp)).trans (by simp)
section
variable {M:Model}{A:Around}{E:Value->Shared->Prop}
theorem wU{a:Source}{Q:Nat->Shared->Prop}(h:n≠0)(q:∀i d,i<n->Q i {s with drawn:=d}):wpAny M A (choose a n) Q E s:=fun c p b=>by
 unfold choose;rw[Sem.wp_choose];exact⟨h,q _ _ (BI _ (Nat.pos_of_ne_zero h))⟩
theorem xV{α:Type}:∀(n:Nat)(xs:List α)(s:Shared)(Q:List α->Shared->Prop),xs.length<=n->(∀ys d,ys.Perm xs->Q ys {s with drawn:=d})->wpAny M A (drawOrder n xs) Q E s
 | 0,xs,s,Q,h,q=>by
  have e:xs=[]:=a7.mp (by lia);subst e;unfold drawOrder;exact aj (q [] s.drawn (dN _))
 |n+1,[],s,Q,h,q=>by
  unfold drawOrder;exact aj (q [] s.drawn (dN _))
 |n+1,a::l,s,Q,h,q=>by
  unfold drawOrder;refine af (wU (by simp) fun i d hi=>?_);rw[aa hi];dsimp only;refine af (xV n _ _ _ (by rw[kQ hi];simp at h⊢;lia) fun ys b c=>aj ?_);exact q _ b ((c.cons _).trans (p6 hi))
end
end Q
set_option maxHeartbeats 3200000
namespace Q
open PySem PySem.Spec PySem.W PyProof.Rows L2
theorem fk:Slot "set_iterator" "__next__" "set_iterator.__next__":=
 .of (owner:="set_iterator") (n:="__next__") (by rw[rQ,jW];kernel_rfl) (by decide+kernel) (by decide+kernel) (by decide+kernel) (by first |exact .inl (by decide+kernel) |exact .inr (by decide+kernel)) (by rw[t7];kernel_rfl)
theorem o6:Gs table "set_iterator.__next__"=some Builtin.«set_iterator.__next__»:=entryFor_of_tree (by kernel_rfl)
theorem rB(a:Value):argsOk "set_iterator.__next__" ⟨[a],[]⟩:=by unfold argsOk;kernel_rfl
theorem tS:Gs table "set.__iter__"=some Builtin.«frozenset.__iter__»:=entryFor_alias (id':="frozenset.__iter__") (by kernel_rfl) rfl (by decide+kernel) (by kernel_rfl)
noncomputable abbrev siO(S:Addr)(first :Value)(i n ep:Nat):Obj:={cls:=.type "set_iterator",dict:=none,data:=.fields #[first,.int i 0,.ref S,.int n 0,.int ep 0],slots:= #[]}
section
variable {prog:Program}{w:World}{A:Around}{E:Value->Shared->Prop}{s:Shared}
noncomputable def i2(es:Array (Int×Value))(t:bz):Bool:= !t.plain&&es.size>1
theorem qr{o:Obj}{t:bz}{Q:Bool->Shared->Prop}(c:s.heap.get? a=some o)(b:o.data=.set es ep t)(hf:t.fits es.size=true)(h:Q (!w.params.followText "set-order"&&i2 es t) s):
  wpAny (model prog w) A (setDrawn a) Q E s:=by
 unfold setDrawn Gn;refine af (gV c b hf ?_);dsimp only;refine af (af (iJ (aj (aj ?_))));exact h
theorem IQ{o:Obj}{t:bz}{Q:Value->Shared->Prop}(b:s.heap.get? S=some o)(e:o.cls=.type "set")(a:o.data=.set es ep t)(hf:t.fits es.size=true)(h:es.size<fQ)
  (h1:(!w.params.followText "set-order"&&i2 es t)=false->Q (.ref s.heap.objs.size) {s with heap:=s.heap.push (siO S (.int 0 0) 0 es.size ep)})
  (h2:(!w.params.followText "set-order"&&i2 es t)=true->∀(ps:List Nat)(d:Drawn),ps.Perm (aA es.size)->Q (.ref (s.heap.objs.size+1)) {s with drawn:=d,heap:=(s.heap.push {cls:=.type "tuple",data:=.seq (ps.map fun(i:Nat)=>rawInt i).toArray}).push (siO S (.ref s.heap.objs.size) 0 es.size ep)}):
  wpAny (model prog w) A (pyIter (.ref S)) Q E s:=by
 have c:s.TypeIs (.ref S) "set":=⟨o,b,e⟩;refine wpAny_pyIter_slot c F.slot_set_iter (cD F.slot_set_iter c tS ?_ (F.args_set_iter_1 _));unfold Builtin.«frozenset.__iter__» Builtin.Frozenset.slot0 Builtin.Frozenset.sizeOf
 wp_walk
 have f:(t.place.size != es.size||decide (t.fill>t.mask))=false:=by
  simp only[bz.fits,aH,beq_iff_eq,decide_eq_true_eq]at hf;simp[hf.1,Nat.not_lt.mpr hf.2]
 rw[a];dsimp only;rw[if_neg (by rw[f];decide)];refine aj (aj (aj ?_));refine af (qr b a hf ?_);dsimp only;cases hb:(!w.params.followText "set-order"&&i2 es t)with
 |false=>
  rw[if_neg (by decide)];refine af (aj (af (wpAny_setEpoch_of b a hf ?_)));refine af (bw (aj ⟨_,rfl,"set_iterator",_,⟨_,az _ rfl,rfl⟩,fk.lookup,h1 hb⟩))
 |true=>
  rw[if_pos rfl];refine af (xV _ _ _ _ (by simp) fun ps d hp=>?_);refine af (bw ?_ (by show(ps.map fun(i:Nat)=>rawInt i).toArray.size<=sizeLine;rw[au,ai,hp.length_eq,aW];exact oM h));have g:(s.heap.push {cls:=.type "tuple",data:=.seq (ps.map fun(i:Nat)=>rawInt i).toArray}).get? S=some o:=ag _ b;refine af (wpAny_setEpoch_of (s:={s with drawn:=d,heap:=s.heap.push {cls:=.type "tuple",data:=.seq (ps.map fun(i:Nat)=>rawInt i).toArray}}) g a hf ?_);have j:(s.heap.push {cls:=.type "tuple",data:=.seq (ps.map fun(i:Nat)=>rawInt i).toArray}).objs.size=s.heap.objs.size+1:=bC ..;refine af (bw (aj ⟨_,rfl,"set_iterator",_,⟨_,az _ rfl,rfl⟩,fk.lookup,?_⟩));have :=h2 hb ps d hp;rw[<-j]at this;exact this
end
section
variable {prog:Program}{w:World}{A:Around}{E:Value->Shared->Prop}{s:Shared}
structure kA(h:Heap)(S:Addr)(es:Array (Int×Value))(ep:Nat)(t:bz):Prop where
 ob:∃o,h.get? S=some o/\o.cls=.type "set"/\o.data=.set es ep t
 fit:t.fits es.size=true
theorem jG{first :Value}{t:bz}{Q:dM->Shared->Prop}(hi:s.heap.get? I=some (siO S first i es.size ep))(c:kA s.heap S es ep t)
  (h:wpAny (model prog w) A (match first with
   |.int slot _=>do
    match<-setNext S slot.toNat i ep with
    |some (x,next)=>do
     tX (.ref I) 0 (rawInt next)
     tX (.ref I) 1 (rawInt ((i:Int)+1))
     ret x
    |none=>do
     tX (.ref I) 2 .none
     Gq (<-newExc (.type "StopIteration") [])
   |_=>do
    let some places<-uE first |unsupported "internal:set_iterator"
    match places[i]? with
    |some (.int place _)=>do
     let x<-setNextDrawn S place.toNat ep
     tX (.ref I) 1 (rawInt ((i:Int)+1))
     ret x
    |some _=>unsupported "internal:set_iterator"
    |none=>do
     tX (.ref I) 0 (rawInt 0)
     tX (.ref I) 2 .none
     Gq (<-newExc (.type "StopIteration") [])) Q E s):
  wpAny (model prog w) A (Builtin.«set_iterator.__next__» ⟨[.ref I],[]⟩) Q E s:=by
 obtain⟨⟨o,b,d,a⟩,hf⟩:=c;unfold Builtin.«set_iterator.__next__»;show wpAny _ _ (fieldsOf (.ref I)>>=_) _ _ _;refine af (wpAny_fieldsOf hi rfl ?_);dsimp only;refine af (wpAny_setEntries_of b a hf ?_);rw[if_neg (by simp)];exact h
theorem nxA{t:bz}{o:Obj}{Q:Option (Value×Nat)->Shared->Prop}(c:w.params.followText "set-order"=true)(b:s.heap.get? S=some o)(a:o.data=.set es ep t)(hf:t.fits es.size=true)
  (q:Q ((jj (w.params.setOrder S ep) es)[i]?.map fun e=>(e.2,k)) s):wpAny (model prog w) A (setNext S k i ep) Q E s:=by
 unfold setNext Gn;refine af (gV b a hf ?_);dsimp only;refine af (af (iJ (aj ?_)));dsimp only;rw[show(model prog w).w.params.followText "set-order"=true from c];simp only[if_true,bne_self_eq_false,aU,if_false];refine af ?_;unfold setWalk Gn;refine af (gV b a hf ?_);dsimp only;refine af (af (iJ (aj ?_)));dsimp only;rw[show(model prog w).w.params.followText "set-order"=true from c];simp only[if_true];exact af (iJ (aj (aj q)))
theorem nxB{t:bz}{o:Obj}{Q:Option (Value×Nat)->Shared->Prop}(h:w.params.followText "set-order"=false)(e:i2 es t=false)(f:t.led=true)(g:s.heap.get? S=some o)(d:o.data=.set es ep t)(hf:t.fits es.size=true)(b:cq t.place k=i)
  (l:∀x j,es[i]? =some x->t.place[i]? =some j->Q (some (x.2,j+1)) s)(m:es[i]? =none->Q none s):wpAny (model prog w) A (setNext S k n ep) Q E s:=by
 unfold setNext Gn;refine af (gV g d hf ?_);dsimp only;refine af (af (iJ (aj ?_)));dsimp only;rw[show(model prog w).w.params.followText "set-order"=false from h];simp only[aU,if_false];rw[if_neg (fun z=>by have c:i2 es t=true:=z;rw[e]at c;cases c)];refine af (show wpAny _ _ (if(!t.led&& !es.isEmpty)=true then unsupported "set:maker-not-led" else pure ()) _ _ _ from ?_);rw[if_neg (by rw[f];simp)];refine aj (aj ?_);cases hx:es[i]? with
 |none=>
  simp only[b,hx];exact m hx
 |some x=>
  have q:t.place.size=es.size:=by
   simp only[bz.fits,aH,beq_iff_eq]at hf;exact hf.1
  have p:i<es.size:=(dq.mp hx).1;have a:t.place[i]? =some (t.place[i]'(by lia)):=by simp[show i<t.place.size by lia]
  simp only[b,hx,a];exact l x _ hx a
theorem nextA{t:bz}{x:Int×Value}{Q:dM->Shared->Prop}(f:w.params.followText "set-order"=true)(hi:s.heap.get? I=some (siO S (.int k 0) i es.size ep))(c:kA s.heap S es ep t)
  (g:(jj (w.params.setOrder S ep) es)[i]? =some x)(h:∀h',h'.get? I=some (siO S (.int k 0) (i+1) es.size ep)->dv I s.heap h'->Q (.done (.ret x.2)) {s with heap:=h'}):
  wpAny (model prog w) A (Builtin.«set_iterator.__next__» ⟨[.ref I],[]⟩) Q E s:=by
 refine jG hi c ?_;obtain⟨⟨o,e,l,d⟩,hf⟩:=c;refine af (nxA f e d hf ?_);rw[g,ix];dsimp only;refine af (dh hi (by simp) fun h1 a j=>?_);have a:h1.get? I=some (siO S (.int k 0) i es.size ep):=a;refine af (dh a (by simp) fun h2 b s2=>?_);have b:h2.get? I=some (siO S (.int k 0) (i+1) es.size ep):=b;exact aj (h h2 b (j.trans s2))
theorem nextB{t:bz}{x:Int×Value}{Q:dM->Shared->Prop}(q:w.params.followText "set-order"=false)(l:i2 es t=false)(n:t.led=true)(hi:s.heap.get? I=some (siO S (.int k 0) i es.size ep))(d:kA s.heap S es ep t)
  (m:cq t.place k=i)(e:es[i]? =some x)(h:∀h' j,t.place[i]? =some j->h'.get? I=some (siO S (.int (j+1:Nat) 0) (i+1) es.size ep)->dv I s.heap h'->Q (.done (.ret x.2)) {s with heap:=h'}):
  wpAny (model prog w) A (Builtin.«set_iterator.__next__» ⟨[.ref I],[]⟩) Q E s:=by
 refine jG hi d ?_;obtain⟨⟨o,p,u,g⟩,hf⟩:=d;refine af (nxB q l n p g hf m (fun y j c f=>?_) fun z=>by rw[e]at z;cases z);rw[e]at c;cases c;dsimp only;refine af (dh hi (by simp) fun h1 a r=>?_);have a:h1.get? I=some (siO S (.int (j+1:Nat) 0) i es.size ep):=a;refine af (dh a (by simp) fun h2 b s2=>?_);have b:h2.get? I=some (siO S (.int (j+1:Nat) 0) (i+1) es.size ep):=b;exact aj (h h2 _ f b (r.trans s2))
theorem nextC{tk:Tok}{t:bz}{ps:Array Value}{c:Obj}{x:Int×Value}{Q:dM->Shared->Prop}(hi:s.heap.get? I=some (siO S (.ref T) i es.size ep))(b:kA s.heap S es ep t)
  (d:s.heap.get? T=some c)(e:c.data=.seq ps m)(hp:ps[i]? =some (.int p tk))(j:es[p]? =some x)(h:∀h',h'.get? I=some (siO S (.ref T) (i+1) es.size ep)->dv I s.heap h'->Q (.done (.ret x.2)) {s with heap:=h'}):
  wpAny (model prog w) A (Builtin.«set_iterator.__next__» ⟨[.ref I],[]⟩) Q E s:=by
 refine jG hi b ?_;obtain⟨⟨o,g,k,f⟩,hf⟩:=b;dsimp only;refine af (fP d e ?_);simp only[hp,aJ];refine af ?_;unfold setNextDrawn;refine af (gV g f hf ?_);simp only[bne_self_eq_false,aU,if_false,j];refine aj ?_;refine af (dh hi (by simp) fun h2 a s2=>?_);have a:h2.get? I=some (siO S (.ref T) (i+1) es.size ep):=a;exact aj (h h2 a s2)
end
section
variable {prog:Program}{w:World}{A:Around}{E:Value->Shared->Prop}{s:Shared}
theorem pN{α:Type}{Q:α->Shared->Prop}(b:A.handled=none)(h:∀h' e,(∀c o,s.heap.get? c=some o->h'.get? c=some o)->(∃o,h'.get? e=some o/\o.cls=.type "StopIteration")->E (.ref e) {s with heap:=h'}):
  wpAny (model prog w) A (newExc (.type "StopIteration") []>>=fun x=>Gq x) Q E s:=by
 refine af ?_;simp only[newExc,newTuple];refine af (bw ?_ (by size_fits));refine af (m:=t9 _ _) (tW (a:=bF) (by first |rfl| (simp only[t9];rfl)) ?_);refine bw ?_ (by size_fits);simp only[Gq];refine af (wpAny_handled ?_);rw[b];refine af (aj (wpAny_throw ?_));exact h _ _ (fun c o e=>ag _ (ag _ e)) ⟨_,az _ rfl,rfl⟩
def Ends(E:Value->Shared->Prop)(I:Addr)(s:Shared):Prop:=∀h' e,(∀c o,c≠I->s.heap.get? c=some o->h'.get? c=some o)->(∃o,h'.get? e=some o/\o.cls=.type "StopIteration")->E (.ref e) {s with heap:=h'}
theorem endA{t:bz}{Q:dM->Shared->Prop}(g:A.handled=none)(j:w.params.followText "set-order"=true)(hi:s.heap.get? I=some (siO S (.int k 0) es.size es.size ep))(a:kA s.heap S es ep t)(h:Ends E I s):
  wpAny (model prog w) A (Builtin.«set_iterator.__next__» ⟨[.ref I],[]⟩) Q E s:=by
 have l:(jj (w.params.setOrder S ep) es)[es.size]? =none:=by
  have :=(oy (w.params.setOrder S ep) es).length_eq
  simp at this⊢;lia
 refine jG hi a ?_;obtain⟨⟨o,i,p,d⟩,hf⟩:=a;refine af (nxA j i d hf ?_);rw[l,Option.map_none];dsimp only;refine af (dh hi (by simp) fun h1 n m=>?_);exact pN (s:={s with heap:=h1}) g fun h' e kp f=>h h' e (fun c o b q=>kp c o (m.extBut c o b q)) f
theorem endB{t:bz}{Q:dM->Shared->Prop}(l:A.handled=none)(r:w.params.followText "set-order"=false)(g:i2 es t=false)(n:t.led=true)(hi:s.heap.get? I=some (siO S (.int k 0) es.size es.size ep))(a:kA s.heap S es ep t)
  (m:cq t.place k=es.size)(h:Ends E I s):wpAny (model prog w) A (Builtin.«set_iterator.__next__» ⟨[.ref I],[]⟩) Q E s:=by
 refine jG hi a ?_;obtain⟨⟨o,p,z,f⟩,hf⟩:=a;refine af (nxB r g n p f hf m (fun y j d x=>by simp at d) fun _=>?_);dsimp only;refine af (dh hi (by simp) fun h1 v u=>?_);exact pN (s:={s with heap:=h1}) l fun h' e kp i=>h h' e (fun c o b q=>kp c o (u.extBut c o b q)) i
theorem endC{t:bz}{ps:Array Value}{d:Obj}{Q:dM->Shared->Prop}(j:A.handled=none)(hi:s.heap.get? I=some (siO S (.ref T) es.size es.size ep))(l:kA s.heap S es ep t)(f:s.heap.get? T=some d)(g:d.data=.seq ps m)(hp:ps.size=es.size)(h:Ends E I s):
  wpAny (model prog w) A (Builtin.«set_iterator.__next__» ⟨[.ref I],[]⟩) Q E s:=by
 refine jG hi l ?_;dsimp only;refine af (fP f g ?_);have k:ps[es.size]? =none:=by simp;lia
 simp only[k];refine af (dh hi (by simp) fun h1 a n=>?_);have a:h1.get? I=some (siO S (.int 0 0) es.size es.size ep):=a;refine af (dh a (by simp) fun h2 p s2=>?_);exact pN (s:={s with heap:=h2}) j fun h' e kp i=>h h' e (fun c o b q=>kp c o (s2.extBut c o b (n.extBut c o b q))) i
end
theorem qu:Slot "set_iterator" "__iter__" "set_iterator.__iter__":=
 .of (owner:="set_iterator") (n:="__iter__") (by rw[rQ,jW];kernel_rfl) (by decide+kernel) (by decide+kernel) (by decide+kernel) (by first |exact .inl (by decide+kernel) |exact .inr (by decide+kernel)) (by rw[t7];kernel_rfl)
theorem w8:Gs table "set_iterator.__iter__"=some Builtin.«dict_keyiterator.__iter__»:=
 entryFor_alias (id':="dict_keyiterator.__iter__") (by kernel_rfl) (by first |rfl|decide+kernel) (by decide+kernel) (by kernel_rfl)
theorem zN(a:Value):argsOk "set_iterator.__iter__" ⟨[a],[]⟩:=by unfold argsOk;kernel_rfl
section
variable {prog:Program}{w:World}{A:Around}{E:Value->Shared->Prop}{s:Shared}
theorem yM{Q:Option Value->Shared->Prop}(b:s.TypeIs (.ref I) "set_iterator")(h:∀(a:dM->Shared->Prop)(c:Value->Shared->Prop),(∀v h',Q (some v) {s with heap:=h'}->a (.done (.ret v)) {s with heap:=h'})->wpAny (model prog w) A.in1 (Builtin.«set_iterator.__next__» ⟨[.ref I],[]⟩) a c s):
  wpAny (model prog w) A (pyNext (.ref I)) Q E s:=by
 unfold pyNext;exact af (wJ (dk (name:=bT "__next__") b fk (cD fk b o6 (h _ _ fun v h' q=>⟨_,rfl,aj q⟩) (rB _))))
theorem yN{Q:Option Value->Shared->Prop}(d:s.TypeIs (.ref I) "set_iterator")(h:∀(f:dM->Shared->Prop)(a:Value->Shared->Prop),(∀h' e,(∀c o,c≠I->s.heap.get? c=some o->h'.get? c=some o)->(∃o,h'.get? e=some o/\o.cls=.type "StopIteration")->a (.ref e) {s with heap:=h'})->wpAny (model prog w) A.in1 (Builtin.«set_iterator.__next__» ⟨[.ref I],[]⟩) f a s)
  (q:∀h',(∀c o,c≠I->s.heap.get? c=some o->h'.get? c=some o)->Q none {s with heap:=h'}):wpAny (model prog w) A (pyNext (.ref I)) Q E s:=by
 unfold pyNext;refine af (wJ (dk (name:=bT "__next__") d fk (cD fk d o6 (h _ _ fun h' e kp j=>?_) (rB _))));obtain⟨o,g,i⟩:=j;exact af (j7 (T:="StopIteration") (b:=true) ⟨o,g,i⟩ isSubtype_stop (aj (q _ kp)))
theorem yL{Q:Value->Shared->Prop}(a:s.TypeIs (.ref I) "set_iterator")(h:Q (.ref I) s):wpAny (model prog w) A (pyIter (.ref I)) Q E s:=by
 refine wpAny_pyIter_slot a qu (cD qu a w8 ?_ (zN _));show wpAny _ _ (ret (.ref I)) _ _ s;exact aj ⟨_,rfl,"set_iterator",_,a,fk.lookup,h⟩
end
theorem kA.at{t:bz}(x:kA h S es ep t)(k:∀o,h.get? S=some o->h'.get? S=some o):kA h' S es ep t:=let⟨⟨o,a,b,c⟩,f⟩:=x;⟨⟨o,k o a,b,c⟩,f⟩
variable {prog:Program}{w:World}{A:Around}
theorem walkA(n:A.handled=none)(d:w.params.followText "set-order"=true)(ne:S≠I)(es:Array (Int×Value))(ep:Nat)(t:bz):
  Walks prog w A I [I,S] [I] es.size (fun i v=>((jj (w.params.setOrder S ep) es).toList.map (·.2))[i]? =some v) (fun i h=>kA h S es ep t/\∃k:Nat,h.get? I=some (siO S (.int k 0) i es.size ep)) where
 sub:=fun b a=>by simp at a⊢;exact .inl a
 frame:=fun i h h' ⟨x,k,e⟩ kp=>⟨x.at fun o q=>kp S (by simp) o q,k,kp I (by simp) _ e⟩
 item:=fun i s Q E hi ⟨x,k,e⟩ c=>by
  have p:=(oy (w.params.setOrder S ep) es).length_eq;simp only[bZ]at p;have f:(jj (w.params.setOrder S ep) es)[i]? =some ((jj (w.params.setOrder S ep) es)[i]'(by lia)):=by simp[show i<(jj (w.params.setOrder S ep) es).size by lia]
  refine yM ⟨_,e,rfl⟩ fun l j q=>nextA d e x f fun h' m g=>q _ h' ?_;exact c _ h' s.toks (by simp[f]) ⟨x.at fun o z=>g.extBut S o ne z,k,m⟩ fun b o a z=>g.extBut b o (by simpa using a) z
 done:=fun s Q E ⟨x,k,e⟩ c=>yN ⟨_,e,rfl⟩ (fun l j q=>endA (by simp[n]) d e x q) fun h' kp=>c h' s.toks fun b o a z=>kp b o (by simpa using a) z
 self:=fun i s Q E ⟨x,k,e⟩ q=>yL ⟨_,e,rfl⟩ q
theorem walkB(B:A.handled=none)(l:w.params.followText "set-order"=false)(ne:S≠I)(es:Array (Int×Value))(ep:Nat)(t:bz)(f:i2 es t=false)(g:t.led=true)(y:j5 t):
  Walks prog w A I [I,S] [I] es.size (fun i v=>(es.toList.map (·.2))[i]? =some v) (fun i h=>kA h S es ep t/\∃k:Nat,cq t.place k=i/\h.get? I=some (siO S (.int k 0) i es.size ep)) where
 sub:=fun b a=>by simp at a⊢;exact .inl a
 frame:=fun i h h' ⟨x,k,c,e⟩ kp=>⟨x.at fun o q=>kp S (by simp) o q,k,c,kp I (by simp) _ e⟩
 item:=fun i s Q E hi ⟨x,k,c,e⟩ d=>by
  have m:es[i]? =some es[i]:=by simp[hi]
  refine yM ⟨_,e,rfl⟩ fun r p q=>nextB l f g e x c m fun h' j C u n=>q _ h' ?_;exact d _ h' s.toks (by simp[m]) ⟨x.at fun o z=>n.extBut S o ne z,j+1,C9 y.up C,u⟩ fun b o a z=>n.extBut b o (by simpa using a) z
 done:=fun s Q E ⟨x,k,c,e⟩ d=>yN ⟨_,e,rfl⟩ (fun r p q=>endB (by simp[B]) l f g e x c q) fun h' kp=>d h' s.toks fun b o a z=>kp b o (by simpa using a) z
 self:=fun i s Q E ⟨x,k,c,e⟩ q=>yL ⟨_,e,rfl⟩ q
theorem walkC(m:A.handled=none)(ne:S≠I)(r:T≠I)(es:Array (Int×Value))(ep:Nat)(t:bz)(ps:List Nat)(hp:ps.Perm (aA es.size)):
  Walks prog w A I [I,S,T] [I] es.size (fun i v=>(ps.map fun p=>(es.getD p (0,.none)).2)[i]? =some v) (fun i h=>kA h S es ep t/\h.get? T=some {cls:=.type "tuple",data:=.seq (ps.map fun(i:Nat)=>rawInt i).toArray}/\h.get? I=some (siO S (.ref T) i es.size ep)) where
 sub:=fun b a=>by simp at a⊢;exact .inl a
 frame:=fun i h h' ⟨x,z,e⟩ kp=>⟨x.at fun o q=>kp S (by simp) o q,kp T (by simp) _ z,kp I (by simp) _ e⟩
 item:=fun i s Q E hi ⟨x,z,e⟩ c=>by
  have u:ps.length=es.size:=by rw[hp.length_eq,aW]
  have d:i<ps.length:=by lia
  have g:ps[i]<es.size:=aQ.mp (hp.mem_iff.mp (ba d));have n:es[ps[i]]? =some es[ps[i]]:=by simp[g]
  refine yM ⟨_,e,rfl⟩ fun k j q=>nextC (p:=ps[i]) (tk:=0) e x z rfl (by simp[d,rawInt]) n fun h' l f=>q _ h' ?_;exact c _ h' s.toks (by simp[d,g,Ke]) ⟨x.at fun o y=>f.extBut S o ne y,f.extBut T _ r z,l⟩ fun b o a y=>f.extBut b o (by simpa using a) y
 done:=fun s Q E ⟨x,z,e⟩ c=>yN ⟨_,e,rfl⟩ (fun k j q=>endC (by simp[m]) e x z rfl (by simp[hp.length_eq]) q) fun h' kp=>c h' s.toks fun b o a y=>kp b o (by simpa using a) y
 self:=fun i s Q E ⟨x,z,e⟩ q=>yL ⟨_,e,rfl⟩ q
end Q
namespace Q
open PySem PySem.Spec PySem.W PyProof.Rows L2
section
variable {prog:Program}{w:World}{A:Around}{E:Value->Shared->Prop}{s:Shared}
theorem ite_yes{α:Type}{M:Model}{b:Bool}{x y:Sem α}{Q:α->Shared->Prop}(a:b=true)(h:wpAny M A x Q E s):wpAny M A (if b=true then x else y) Q E s:=by rw[if_pos a];exact h
theorem A0{Q:Bool->Shared->Prop}(a:s.TypeIs (.ref S) "set")(h:Q false s):wpAny (model prog w) A (fG (.ref S)) Q E s:=by
 unfold fG;refine af (rO a F.slot_set_len.lookup ?_);generalize hid:("set.__len__":String)=id0
 (fail_if_success (clear hid id0))
 wp_delta
 rw[show splitId id0=some ("set","__len__")from by subst hid;decide+kernel];subst hid;refine af (j7 (b:=true) a (by rw[t7];kernel_rfl) ?_);rw[if_neg (by decide)];refine ite_yes (by decide+kernel) (af (rH a ?_));exact aj h
noncomputable abbrev jm(acc:Array Value)(c:Nat):Obj:={cls:=.type "list",dict:=none,data:=.seq acc c,slots:= #[]}
theorem touch{c:Nat}{Q:Unit->Shared->Prop}(f:s.heap.get? L=some (jm acc c))(hz:acc.size<=5000)(h:∀h' c',h'.get? L=some (jm acc c')->dv L s.heap h'->Q () {s with heap:=h'}):wpAny (model prog w) A (kT (.ref L)) Q E s:=by
 have g:acc.size<=sizeLine:=aG hz (by decide);unfold kT;refine af (fC f rfl ?_ g (by simp;lia));have a:∃e,(s.heap.update L (aV fun x=>x.push bF)).get? L=some (jm (acc.push .none) e):=⟨_,by rw[cw _ f rfl];rfl⟩;obtain⟨e,a⟩:=a;refine fC (s:={s with heap:=s.heap.update L (aV fun x=>x.push bF)}) a rfl ?_ (by simp;exact aG (by lia:acc.size+1<=5001) (by decide)) (by simp;lia);have d:∃b,((s.heap.update L (aV fun x=>x.push bF)).update L (aV fun x=>x.pop)).get? L=some (jm acc b):=⟨_,by rw[cw _ a rfl];simp[aV];rfl⟩;obtain⟨b,d⟩:=d;exact h _ b d ((bM ..).trans (bM ..))
theorem vK{wr:List Addr}{P:Nat->Value->Prop}{St:Nat->Heap->Prop}{i:Value}{c:Nat}{R:Result->Shared->Prop}(hq:∀c' s',c'.quiet=true/\i4 (model prog w) A c' R s'->Qf (.again c') s')(W:Walks prog w A.in1 I fp wr n P St)(r:n<=sizeLine)(g:L∉fp)(m:s.heap.get? L=some (jm #[] c))(st:St 0 s.heap)
  (h:∀s' acc c',(∀b o,b∉L::wr->s.heap.get? b=some o->s'.heap.get? b=some o)->s'.gens=s.gens->s'.drawn=s.drawn->s'.os=s.os->s'.heap.get? L=some (jm acc c')->ET P acc n->R (.ok (.ret i)) s'):
  wpAny (model prog w) A.in1 (do
   rule "list.extend.makes-room"
   let f<-kT (.ref L)
   (fun(f:Unit)=>again (Code.builtin "list.extend.loop" {pos:=[cF L,cF I,i]})) f) Qf E s:=by
 refine af (ip (af (touch m (by simp) fun h1 u l j=>?_)));have t:=W.frame 0 s.heap h1 st fun b a o e=>j.extBut b o (fun z=>g (z▸a)) e;refine aj (hq _ _ ⟨eO F.plain_extend_loop _,codeAny_extend_loopS W.toS r _ g _ n 0 _ _ _ rfl (aR _) t l (ET.nil P) fun s' k c' d p q=>?_⟩);exact h s' k c' (fun b o a e=>d.heap b o a (j.extBut b o (fun z=>a (by rw[z];exact aL)) e)) d.gens d.drawn d.os p q
end
theorem CJ(h:ET (fun i v=>vs[i]? =some v) acc vs.length):acc.toList=vs:=by
 obtain⟨h1,h2⟩:=h;apply bA
 ·simpa using h1
 ·intro i a b
  have :vs[i]? =some acc[i]:=h2 i acc[i] (by simp);rw[aa b]at this;simpa using(a6 this).symm
theorem es_map(es:Array (Int×Value)):((aA es.size).map fun p=>(es.getD p (0,.none)).2)=es.toList.map (·.2):=by
 apply bA
 ·simp
 ·intro i a b
  have hi:i<es.size:=by simpa using a
  simp[hi,Ke]
section
variable {prog:Program}{w:World}{A:Around}{E:Value->Shared->Prop}{s:Shared}
theorem Bd{o:Obj}{t:bz}{Q:List Value->Shared->Prop}(H:A.handled=none)(M:s.heap.get? S=some o)(g:o.cls=.type "set")(G:o.data=.set es ep t)(hf:t.fits es.size=true)(O:es.size<fQ)(L:j5 t)(W:w.params.followText "set-order"=false->t.led=true)
  (R:∀(vs:List Value) s',vs.Perm (es.toList.map (·.2))->(∀b o,s.heap.get? b=some o->s'.heap.get? b=some o)->s'.gens=s.gens->s'.os=s.os->s.heap.objs.size<s'.heap.objs.size->Q vs s'):wpAny (model prog w) A (collect (.ref S)) Q E s:=by
 have f:S<s.heap.objs.size:=aB M;have J:es.size<=sizeLine:=oM O;unfold collect;refine af (wpAny_runValue (eB F.entry_proto_collect ?_));rw[c9 F.plain_proto_collect _];show wpAny _ A.in1 (newList []>>=fun l=>again (.builtin "list.__iadd__" ⟨[l,.ref S],[]⟩)) _ _ s;refine af (bw ?_);refine aj ⟨eO F.plain_list_iadd _,eB F.entry_list_iadd ?_⟩;rw[c9 F.plain_list_iadd _];have D:(s.heap.push (jm #[] 0)).get? s.heap.objs.size=some (jm #[] 0):=az _ rfl;have n:(s.heap.push (jm #[] 0)).get? S=some o:=ag _ M;have r:(s.heap.push (jm #[] 0)).objs.size=s.heap.objs.size+1:=bC ..;have T:Shared.TypeIs {s with heap:=s.heap.push (jm #[] 0)} (.ref S) "set":=⟨o,n,g⟩;show wpAny _ A.in1 (dU (.ref s.heap.objs.size) (.ref S) (.ref s.heap.objs.size)) _ _ {s with heap:=s.heap.push (jm #[] 0)};unfold dU;refine af (rH T ?_);rw[if_neg (by simp[jY];exact eD f)];have C:∀(vs:List Value)(s':Shared)(acc:Array Value)(c':Nat),vs.length=es.size->vs.Perm (es.toList.map (·.2))->(∀b o,s.heap.get? b=some o->s'.heap.get? b=some o)->s'.gens=s.gens->s'.os=s.os->s'.heap.get? s.heap.objs.size=some (jm acc c')->ET (fun i v=>vs[i]? =some v) acc es.size->
   wpAny (model prog w) A (load s.heap.objs.size>>=fun x=>match x.data with |.seq xs _=>pure xs.toList|_=>unsupported "internal:collect") Q E s':=fun vs s' acc c' m hp a c z e it=>by
  refine af (wpAny_load e ?_);rw[<-m]at it;have :=CJ it;exact aj (by rw[this];exact R vs s' hp a c z (aB e))
 refine af (IQ n g G hf O (fun I=>?_) fun I ps d hp=>?_)
 ·rw[r]
  refine af (bU (A0 ⟨o,ag _ n,g⟩ ?_));refine ite_yes (by decide+kernel) ?_;have y:((s.heap.push (jm #[] 0)).push (siO S (.int 0 0) 0 es.size ep)).get? (s.heap.objs.size+1)=some (siO S (.int 0 0) 0 es.size ep):=by rw[<-r];exact az _ rfl
  have K:kA ((s.heap.push (jm #[] 0)).push (siO S (.int 0 0) 0 es.size ep)) S es ep t:=⟨⟨o,ag _ n,g,G⟩,hf⟩;have B:s.heap.objs.size∉[s.heap.objs.size+1,S]:=by
   simp only[aE,cM,or_false,not_or];exact⟨aK (dO _),eD f⟩
  have kp:∀(s':Shared),(∀b o,b∉s.heap.objs.size::[s.heap.objs.size+1]->((s.heap.push (jm #[] 0)).push (siO S (.int 0 0) 0 es.size ep)).get? b=some o->s'.heap.get? b=some o)->∀b o,s.heap.get? b=some o->s'.heap.get? b=some o:=fun s' k b o e=>by
   have j:=aB e;refine k b o ?_ (ag _ (ag _ e));simp only[aE,cM,or_false,not_or];exact⟨aK j,aK (bG j)⟩
  cases hw:w.params.followText "set-order" with
  |true=>
   have m:((jj (w.params.setOrder S ep) es).toList.map (·.2)).length=es.size:=by
    have :=(oy (w.params.setOrder S ep) es).length_eq
    simpa using this
   refine vK (s:={s with heap:=(s.heap.push (jm #[] 0)).push (siO S (.int 0 0) 0 es.size ep)}) (fun c' s' h=>h) (walkA (A:=A.in1) (by simp[H]) hw (aK (bG f)) es ep t) J B (ag _ D) ⟨K,0,y⟩ fun s' acc c' a c z u e it=>?_;exact C _ s' acc c' m ((oy (w.params.setOrder S ep) es).map _) (kp s' a) c u e it
  |false=>
   have V:i2 es t=false:=by rw[hw]at I;simpa using I
   refine vK (s:={s with heap:=(s.heap.push (jm #[] 0)).push (siO S (.int 0 0) 0 es.size ep)}) (fun c' s' h=>h) (walkB (A:=A.in1) (by simp[H]) hw (aK (bG f)) es ep t V (W hw) L) J B (ag _ D) ⟨K,0,C8 L.up,y⟩ fun s' acc c' a c z u e it=>?_;exact C _ s' acc c' (by simp) (dN _) (kp s' a) c u e it
 ·rw[r]
  have X:((s.heap.push (jm #[] 0)).push {cls:=.type "tuple",data:=.seq (ps.map fun(i:Nat)=>rawInt i).toArray}).objs.size=s.heap.objs.size+1+1:=by rw[bC,r]
  have U:((s.heap.push (jm #[] 0)).push {cls:=.type "tuple",data:=.seq (ps.map fun(i:Nat)=>rawInt i).toArray}).get? (s.heap.objs.size+1)=some {cls:=.type "tuple",data:=.seq (ps.map fun(i:Nat)=>rawInt i).toArray}:=by rw[<-r];exact az _ rfl
  have N:((s.heap.push (jm #[] 0)).push {cls:=.type "tuple",data:=.seq (ps.map fun(i:Nat)=>rawInt i).toArray}).get? S=some o:=ag _ n;have P:((s.heap.push (jm #[] 0)).push {cls:=.type "tuple",data:=.seq (ps.map fun(i:Nat)=>rawInt i).toArray}).get? s.heap.objs.size=some (jm #[] 0):=ag _ D;have Y:∀b o,s.heap.get? b=some o->((s.heap.push (jm #[] 0)).push {cls:=.type "tuple",data:=.seq (ps.map fun(i:Nat)=>rawInt i).toArray}).get? b=some o:=fun b o e=>ag _ (ag _ e);generalize(s.heap.push (jm #[] 0)).push {cls:=.type "tuple",data:=.seq (ps.map fun(i:Nat)=>rawInt i).toArray}=h2 at *;refine af (bU (A0 ⟨o,ag _ N,g⟩ ?_));refine ite_yes (by decide+kernel) ?_;have y:(h2.push (siO S (.ref (s.heap.objs.size+1)) 0 es.size ep)).get? (s.heap.objs.size+1+1)=some (siO S (.ref (s.heap.objs.size+1)) 0 es.size ep):=by rw[<-X];exact az _ rfl
  have B:s.heap.objs.size∉[s.heap.objs.size+1+1,S,s.heap.objs.size+1]:=by
   simp only[aE,cM,or_false,not_or];exact⟨aK (bG (dO _)),eD f,aK (dO _)⟩
  have m:(ps.map fun p=>(es.getD p (0,.none)).2).length=es.size:=by rw[ai,hp.length_eq,aW]
  refine vK (s:={s with drawn:=d,heap:=h2.push (siO S (.ref (s.heap.objs.size+1)) 0 es.size ep)}) (fun c' s' h=>h) (walkC (A:=A.in1) (by simp[H]) (aK (bG (bG f))) (aK (dO _)) es ep t ps hp) J B (ag _ P)
   ⟨⟨⟨o,ag _ N,g,G⟩,hf⟩,ag _ U,y⟩ fun s' acc c' a c z u e it=>?_
  refine C _ s' acc c' m ((hp.map _).trans (by rw[es_map])) (fun b o q=>?_) c u e it;have j:=aB q;refine a b o ?_ (ag _ (Y b o q));simp only[aE,cM,or_false,not_or];exact⟨aK j,aK (bG (bG j))⟩
end
theorem FX{xs:List Value}(p:vs.Perm xs):∀{ks:List Int},bY xs ks->∃c:List Int,c.Perm ks/\bY vs c:=by
 induction p with
 |nil=>intro ks h;exact⟨ks,dN _,h⟩
 |cons x p ih=>
  intro ks h;cases h with
  |cons k t h=>
   obtain⟨c,a,b⟩:=ih h;exact⟨k::c,a.cons k,.cons k t b⟩
 |swap x y l=>
  intro ks h;cases h with
  |cons k t h=>cases h with
   |cons k' t' h=>exact⟨k'::k::_,wH _ _ _,.cons k' t' (.cons k t h)⟩
 |trans p q ih1 ih2=>
  intro ks h;obtain⟨c,a,b⟩:=ih2 h;obtain⟨f,d,e⟩:=ih1 b;exact⟨f,d.trans a,e⟩
section
variable {prog:Program}{w:World}{A:Around}{E:Value->Shared->Prop}{s:Shared}
theorem B9{o:Obj}{t:bz}{ks:List Int}{Q:Value->Shared->Prop}(u:A.handled=none)(z:s.heap.get? S=some o)(p:o.cls=.type "set")(r:o.data=.set es ep t)(hf:t.fits es.size=true)(k:es.size<64)(n:j5 t)(y:w.params.followText "set-order"=false->t.led=true)
  (v:bY (es.toList.map (·.2)) ks)(nd:ks.Nodup)
  (h:∀(a:List Int)(vs:List Value)(s':Shared)(l:Addr)(c:Nat),a.Perm ks->bY vs a->(∀b o,s.heap.get? b=some o->s'.heap.get? b=some o)->s'.gens=s.gens->s'.os=s.os->s.heap.objs.size<=l->s'.heap.get? l=some (seqObj "list" (gE (ltI a) vs).toArray c)->Q (.ref l) s'):
  wpAny (model prog w) A (call (.builtin "sorted") [.ref S]) Q E s:=by
 refine lT kind_sorted plain_sorted entry_sorted (args_sorted1 _) ?_;unfold Builtin.«sorted»;refine af (m:=checkCount "sorted" 1 1 _) (aj (af (Bd (by simp[u]) z p r hf (hW k (by decide)) n y fun vs s' hp kp C D F=>af (oW ?_ ?_))))
 ·obtain⟨a,j,f⟩:=FX hp v
  have x:vs.length=a.length:=f.length;have B:vs.length<64:=by
   have :=hp.length_eq
   simp at this;lia
  have d:(s'.heap.push (seqObj "list" vs.toArray 0)).get? s'.heap.objs.size=some (seqObj "list" vs.toArray 0):=az _ rfl;have G:a.Nodup:=j.nodup_iff.mpr nd;show wpAny _ _ _ _ _ {s' with heap:=s'.heap.push (seqObj "list" vs.toArray 0)};refine af (bU (cD Gj ⟨_,d,rfl⟩ Dh (Dz (lt:=ltI a) (h0:=s'.heap) (by rw[x];exact totI G) d (fun b o e=>⟨ag _ e,aK (aB e)⟩) B (fun h2=>Gg f h2) ⟨_,rfl,?_⟩) (args_list_sort _)));refine aj ⟨_,rfl,?_⟩;obtain⟨c,q⟩:=sortedHeap_at (out:=(gE (ltI a) vs).toArray) d;refine h a vs _ _ c j f (fun b o e=>?_) C D (kM F) q;have g:=kp b o e;have i:=aB g;show(sortedHeap (s'.heap.push (seqObj "list" vs.toArray 0)) s'.heap.objs.size vs (gE (ltI a) vs).toArray).get? b=some o;rw[sortedHeap_old (aK i) (by rw[Gk];exact bG i)];exact ag _ g
 ·have :=hp.length_eq
  simp at this;exact aG (by lia:vs.length<=64) (by decide)
end
theorem zi(ks:List Key):(met ks).Nodup:=by
 unfold met;have g:∀(l acc:List Key),acc.Nodup->(l.foldl more acc).Nodup:=by
  intro l
  induction l with
  |nil=>exact fun _ h=>h
  |cons k l ih=>
   intro acc h;refine ih _ ?_;unfold more;split
   ·exact h
   ·rename_i c
    refine eS.mpr ⟨h,by simp,fun a e b d=>?_⟩;rw[aT]at d;subst d;intro z;subst z;exact c (jy.mpr e)
 exact g ks [] i6
theorem xD{α:Type}[DecidableEq α]:∀{m l:List α},m.Nodup->(∀x∈m,x∈l)->l.length=m.length->l.Perm m
 | [],l,_,_,h=>by
  rw[oX]at h;rw[List.eq_nil_of_length_eq_zero h]
 |a::m,l,nd,hs,h=>by
  have c:a∈l:=hs a aL;have p:=qi c;rw[bI]at nd;have d:=p.length_eq;rw[bg]at d h;have q:=xD (m:=m) (l:=l.erase a) nd.2 (fun x b=>(qk (fun z:x=a=>nd.1 (by rw[<-z];exact b))).mpr (hs x (aO _ b))) (by lia);exact p.trans (q.cons a)
section
variable {prog:Program}{w:World}
theorem D9{k:Int}{v:Value}(h:(cy prog w).is (.inl k) v=true):∃t,v=.int k t:=by
 rw[Cz]at h;exact Value.isInt_shape (k:=k) (v:=v) h
theorem uu{l:List (Int×Value)}(h:ElemsOf (cy prog w) l)(hi:∀e∈l,∀k,(cy prog w).is k e.2=true->∃n:Int,k=.inl n):∃a:List Int,bY (l.map (·.2)) a:=by
 induction l with
 |nil=>exact⟨[],.nil⟩
 |cons e l ih=>
  obtain⟨a,r⟩:=ih h.tail fun c f=>hi c (aO _ f);obtain⟨⟨k,b,_⟩,_⟩:=h.head;obtain⟨n,rfl⟩:=hi e aL k b;obtain⟨t,d⟩:=D9 b;refine⟨n::a,?_⟩;rw[cn,d];exact .cons n t r
theorem IU:∀{vs:List Value}{a:List Int},bY vs a->∀n,n∈a↔∃v∈vs,(cy prog w).is (.inl n) v=true:=by
 intro vs a r
 induction r with
 |nil=>simp
 |cons k t r ih=>
  intro n;rw[aE,ih n];constructor
  ·rintro(rfl|⟨v,hv,e⟩)
   ·exact⟨_,aL,nh _ _ _ _⟩
   ·exact⟨v,aO _ hv,e⟩
  ·rintro⟨v,hv,e⟩
   rcases aE.mp hv with rfl|hv
   ·obtain⟨t',b⟩:=D9 e
    cases b;exact .inl rfl
   ·exact .inr ⟨v,hv,e⟩
theorem Ff(x:rF (cy prog w) h a (has (met (ns.map .inl))) (met (ns.map .inl)).length led):
  ∃o es ep t b,h.get? a=some o/\o.cls=.type "set"/\o.data=.set es ep t/\t.fits es.size=true/\es.size<=ns.length/\j5 t/\t.led=led/\bY (es.toList.map (·.2)) b/\b.Nodup/\∀n,n∈b↔n∈ns:=by
 obtain⟨o,es,ep,t,B,g,q,u,i,D,hf,f,m,l⟩:=x;have y:=CA (ns.map (dG:Int->Key));rw[ai]at y;have inl:∀e∈es.toList,∀k,(cy prog w).is k e.2=true->∃n:Int,n∈ns/\k=.inl n:=fun e c k d=>by
  have :=kj.mp (jy.mp ((i k).mpr ⟨e,c,d⟩))
  obtain⟨n,f,rfl⟩:=ax.mp this;exact⟨n,f,rfl⟩
 obtain⟨b,r⟩:=uu u fun e c k d=>let⟨n,_,e⟩:=inl e c k d;⟨n,e⟩;have mem:∀n,n∈b↔n∈ns:=fun n=>by
  rw[IU (prog:=prog) (w:=w) r n];constructor
  ·rintro⟨v,C,e⟩
   obtain⟨j,s,rfl⟩:=ax.mp C;obtain⟨E,A,z⟩:=inl j s _ e;cases z;exact A
  ·intro h
   obtain⟨e,c,d⟩:=(i (.inl n)).mp (jy.mpr (kj.mpr (rU h)));exact⟨e.2,rU c,d⟩
 have len:b.length=es.size:=by
  have :=r.length
  simp at this;lia
 have p:(b.map (dG:Int->Key)).Perm (met (ns.map .inl)):=xD (zi _) (fun x g=>by
  obtain⟨n,f,rfl⟩:=ax.mp (kj.mp g);exact rU ((mem n).mpr f)) (by rw[ai];lia)
 have nd:(b.map (dG:Int->Key)).Nodup:=p.nodup_iff.mpr (zi _);exact⟨o,es,ep,t,b,B,g.1,q,hf,by lia,m,l,r,(cQ.mp nd).imp fun h z=>h (congrArg _ z),mem⟩
end
end Q
namespace L2
open PySem PySem.Spec PyProof.Rows Q
section
variable {X:Cx}
theorem Inv.same{σ:List (Option V)}(I:Inv X pins σ H s)(h1:s'.heap=s.heap)(h2:s'.gens=s.gens)(b:s'.os=s.os):Inv X pins σ H s':=by
 obtain⟨h,g,d,t,o⟩:=s;obtain⟨h',a,c,t',o'⟩:=s';obtain rfl:h'=h:=h1;obtain rfl:a=g:=h2;obtain rfl:o'=o:=b;exact⟨I.ok,I.os,I.bare,I.base,I.loc,I.cell,I.free,I.freeC,I.pin,I.hok,I.len⟩
theorem kZ{α:Type}[DecidableEq α]:∀{l m:List α},l.Nodup->(∀x∈l,x∈m)->l.length<=m.length
 | [],_,_,_=>aR _
 |a::l,m,nd,h=>by
  rw[bI]at nd;have c:=h a aL;have p:=(qi c).length_eq;have :=kZ (m:=m.erase a) nd.2 fun x b=>(qk fun z:x=a=>nd.1 (z▸b)).mpr (h x (aO _ b));rw[bg]at p⊢;lia
def Few(ns:List Int):Prop:=ns.length<1000/\∃a:List Int,a.length<64/\∀x∈ns,x∈a
theorem Few.of(h:ns.length<64):Few ns:=⟨by lia,ns,h,fun _ h=>h⟩
noncomputable def uN(K:ah)(ta:TA):TE:=fun σ H Q=>ta σ H fun vs H1=>∃(p:Addr)(ns:List Int),vs=[V.ref p]/\SqL K H1 p (ns.map V.int)/\Few ns/\
 ∀(a:List Int) l,a.Nodup->(∀x,x∈a↔x∈ns)->H1 l=none->Q (.ref l) (upd H1 l (.lst (sortI a)))
theorem zK:eM "sorted"=some (.builtin "sorted"):=by decide+kernel
theorem Ga:eM "set"=some (.type "set"):=by decide+kernel
theorem Cm{a:Expr}{ta:TA}{p:Pos}(n:X.calm=true)(G:Gl X "sorted")(L:X.mg "sorted"=none)(J:Gl X "set")(M:X.mg "set"=none)(E:PA X [a] ta)(O:b7 [a] X.env=[(false,eval a X.env)]:=by rfl):
  PE X (.Call (.Name "sorted" p) [.Call (.Name "set" p') [a] [] pos'] [] pos) (uN X.K ta):=by
 intro pins s σ H Q I h;refine Call_ (jM I G L zK (qh (sP ?_) rfl rfl));refine Call_ (jM I J M Ga (cJ (thn (E pos' pins s σ H _ I h) fun us s1 ⟨vs,H1,d,r1,Z⟩=>?_) O rfl));obtain⟨pl,ns,e,hq,⟨a0,mm,a3,N⟩,q⟩:=Z;subst e;obtain⟨u,rfl,rx⟩:=vals1 r1;cases rx;obtain⟨its,A,Y,_⟩:=d.list hq;have j:=A.length;rw[ai]at j;have r2:bE ((ns.map (dG:Int->Key)).map kV) its:=by
  rw[bf];exact A
 refine xy (ks:=ns.map .inl) (d.ok.hd n) Y.isList (by rw[au,ai];exact j) (fun i v e=>zt r2 i v (by simpa using e)) (by rw[au,<-j];unfold fQ;lia) fun h' tk C kp=>?_;obtain⟨o,es,ep,t,ms,y,k,F,hf,a6,D,B,r,nd,mem⟩:=Ff C;have a4:es.size<64:=by
  have g:=r.length;simp at g;have :=kZ nd fun x k=>N x ((mem x).mp k);lia
 refine aj ?_;refine B9 (s:={s1 with heap:=h',toks:=tk}) (d.ok.hd n) y k F hf (by lia) D (fun z=>by rw[B,z];rfl) r nd fun f vs s' l c hp P W S T U V=>?_;have m:f.Nodup:=hp.nodup_iff.mpr nd;have a5:f.length=es.size:=by
  have a1:=hp.length_eq;have g:=r.length;simp at g;lia
 have kk:∀b o,s1.heap.get? b=some o->s'.heap.get? b=some o:=fun b o e=>W b o (kp b o (aB e) e);have K:s1.heap.objs.size<h'.objs.size:=aB y;have w:s1.heap.objs.size<=l:=aG (kM K) U;have R:(sortI f).length<=sizeLine:=by
  unfold sortI;rw[ai,Ie m];exact fL (by lia)
 exact⟨.ref l,_,(d.laid (h':=s'.heap) (t':=s1.toks) kk w (show dP X.prog X.w _ _ _ (.lst (sortI f))from⟨R,_,c,outI m (rY P),V⟩)).same rfl S T,rfl,q _ _ m (fun x=>(hp.mem_iff).trans (mem x)) (d.hok.fresh w)⟩
end
section
variable {X:Cx}
noncomputable def tSortSetL(K:ah)(ta:TA):TE:=fun σ H Q=>ta σ H fun vs H1=>∃(p:Addr)(ys:List V)(ps:List (List Int))(m:Nat),vs=[V.ref p]/\SqL K H1 p ys/\ps.length<=18/\(∀k∈ps,k.length=m)/\IntKeys H1 ys ps/\
 ∀(zs:List V)(qs:List (List Int)) l,qs.Nodup->(∀x,x∈qs↔x∈ps)->IntKeys H1 zs qs->H1 l=none->Q (.ref l) (upd H1 l (.lst (ck .non qs zs)))
end
end L2
set_option maxHeartbeats 1000000
namespace Q
open PySem PySem.Spec PySem.W PyProof.Rows L2
section
variable {prog:Program}{w:World}{A:Around}{E:Value->Shared->Prop}{s:Shared}{lt:Nat->Nat->Bool}{vs:List Value}
open Classical in
end
end Q
set_option maxHeartbeats 3200000
namespace L2
open PySem PySem.Spec PyProof.Rows Q
section
variable {X:Cx}
noncomputable def sortT(ks:List Str):List V:=sortBy .non ks (ks.map V.str)
end
end L2
set_option maxHeartbeats 1000000
namespace L2
open PySem PySem.Spec PyProof.Rows
section
variable {prog:Program}{w:World}{A:Around}{E:Value->Shared->Prop}{s:Shared}
theorem I0{z:Addr}{Q:Bool->Shared->Prop}(c:s.TypeIs (.ref z) "list_reverseiterator")(h:Q false s):wpAny (model prog w) A (fG (.ref z)) Q E s:=by
 unfold fG;refine af (rO (r:=none) c (by rw[rQ,jW];kernel_rfl) ?_);show wpAny _ _ (specialOf (.ref z) "__length_hint__">>=_) _ _ _;refine af (rO (r:=some (.builtin "list_reverseiterator.__length_hint__")) c (by rw[rQ,jW];kernel_rfl) ?_);dsimp only;have d:splitId "list_reverseiterator.__length_hint__"=some ("list_reverseiterator","__length_hint__"):=by decide+kernel
 rw[d];dsimp only;refine af (j7 (b:=true) c (by rw[t7];kernel_rfl) ?_);refine rP (fun a=>absurd a (by decide)) (fun _=>?_);refine rP (fun _=>?_) (fun a=>absurd (by decide+kernel) a);refine rP (fun a=>absurd a (by decide+kernel)) (fun _=>aj h)
theorem Hu{R:Result->Shared->Prop}(z:A.handled=none)(B:s.heap.IsRevIter it l ((items.size:Int)-1))(C:s.heap.IsList l items)(E:l≠it)(h:S≠it)(k:S≠l)(D:items.size<=sizeLine)(g:s.heap.get? S=some {cls:=.type "list",data:=.seq #[]})
  (r:∀h' tk a c',(∀b o,b≠S->b≠it->s.heap.get? b=some o->h'.get? b=some o)->h'.get? S=some {cls:=.type "list",dict:=none,data:=.seq a c',slots:= #[]}->ET (fun i v=>items[items.size-1-i]? =some v) a items.size->R (.ok (.ret .none)) {s with heap:=h',toks:=tk}):
  wpAny (model prog w) A.in1 (Builtin.«list.__init__» ⟨[.ref S,.ref it],[]⟩)
   (fun p s'=>match p with |.done f=>R (.ok f) s'|.again c'=>c'.quiet=true/\i4 (model prog w) A c' R s') (fun e s'=>R (.error e) s') s:=by
 show wpAny _ _ (do let old<-wN (.ref S);Builtin.List.listUpdate (.ref S) (fun _=> #[]);letGo old.toList.reverse;dU (.ref S) (.ref it) .none) _ _ s;refine af ?_;unfold wN;refine af (fP g rfl (aj ?_));show wpAny _ _ (updateSeq S (fun _=> #[])>>=fun _=>letGo (#[]:Array Value).toList.reverse>>=fun _=>dU (.ref S) (.ref it) .none) _ _ s;refine af (rN g rfl ?_);have u:=cw (aV (fun _=>(#[]:Array Value))) g rfl;have j:∀b o,b≠S->s.heap.get? b=some o->(s.heap.update S (aV (fun _=>(#[]:Array Value)))).get? b=some o:=fun b o c e=>(aX _ _ (bS c)).trans e;refine af (kK ?_);have d:Heap.IsRevIter (s.heap.update S (aV (fun _=>(#[]:Array Value)))) it l ((items.size:Int)-1):=B.at fun o e=>j it o h.symm e;unfold dU;refine af (rH (T:="list_reverseiterator") (wI (s:={s with heap:=s.heap.update S _}) d) ?_);have h1:jY (.ref S) (.ref it)=false:=by simp[jY,h]
 have h2:(fK "list_reverseiterator"==fK "list")=false:=by decide
 have q:(fK "list_reverseiterator"==fK "tuple")=false:=by decide
 simp only[h1,h2,q,BY,aU,if_false];refine af (wpAny_pyIter_revIter (s:={s with heap:=s.heap.update S _}) d ?_);refine af (bU (I0 (wI (s:={s with heap:=s.heap.update S _}) d) ?_));refine rP (fun x=>absurd x ak) (fun _=>aj ⟨eO F.plain_extend_loop _,?_⟩);have W:=Walks.listRev (prog:=prog) (w:=w) (A:=A.in1) z it l E items;refine codeAny_extend_loopS W.toS D S (by simp only[aE,cM,or_false,not_or];exact⟨h,k⟩) .none items.size 0 _ _ _ (wD _) (aR _) ⟨aR _,by rw[show(items.size:Int)-1-((0:Nat):Int)=(items.size:Int)-1 by lia];exact d,C.at fun o e=>j l o k.symm e⟩ u (ET.nil _) fun s' a c' m t y=>?_;rw[Moved.eq_with m];refine r s'.heap s'.toks a c' (fun b o c hi e=>m.heap b o (fun hmem=>?_) (j b o c e)) t y;rcases aE.mp hmem with n|hmem
 ·exact c n
 ·exact hi (aT.mp hmem)
theorem xc{Q:Value->Shared->Prop}(p:A.handled=none)(d:s.heap.IsRevIter it l ((items.size:Int)-1))(f:s.heap.IsList l items)(t:l≠it)(r:items.size<=sizeLine)
  (j:∀h' tk a c',(∀b o,b≠it->s.heap.get? b=some o->h'.get? b=some o)->h'.get? s.heap.objs.size=some {cls:=.type "list",dict:=none,data:=.seq a c',slots:= #[]}->ET (fun i v=>items[items.size-1-i]? =some v) a items.size->Q (.ref s.heap.objs.size) {s with heap:=h',toks:=tk}):
  wpAny (model prog w) A (call (.type "list") [.ref it]) Q E s:=by
 refine callType_codes (Q₁:=fun g h=>g=.ref s.heap.objs.size/\h={s with heap:=s.heap.push {cls:=.type "list",data:=.seq #[]}}) F.called_list (F.typeCall_list_1 _) F.entry_list_init
  (code_list_new _ ⟨rfl,rfl⟩) fun g h u=>?_
 obtain⟨rfl,rfl⟩:=u;have c:(s.heap.push {cls:=.type "list",data:=.seq #[]}).get? s.heap.objs.size=some {cls:=.type "list",data:=.seq #[]}:=az _ rfl;have l1:it<s.heap.objs.size:=let⟨_,e,_⟩:=d;aB e;have l2:l<s.heap.objs.size:=let⟨_,e,_⟩:=f;aB e;refine⟨⟨_,c,rfl⟩,F.args_list_init_2 _ _,Hu (A:=A.in1) p (d.at fun o e=>ag _ e) (f.at fun o e=>ag _ e) t (eD l1) (eD l2) r c fun h' tk a c' q k m=>⟨rfl,j h' tk a c' (fun b o n e=>q b o (aK (aB e)) n (ag _ e)) k m⟩⟩
end
theorem Fl(h:ET (fun i v=>its.toArray[its.toArray.size-1-i]? =some v) acc its.toArray.size):acc.toList=its.reverse:=by
 obtain⟨h1,h2⟩:=h;rw[au]at h1;apply bA
 ·rw[rV]
  exact h1
 ·intro i a b
  have :=h2 i acc[i] (by simp)
  rw[au,List.getElem?_toArray,aa (by simp at b;lia)]at this;rw[List.getElem_reverse];simpa using(a6 this).symm
section
variable {X:Cx}
noncomputable def tLRev(K:ah)(ta:TA):TE:=fun σ H Q=>ta σ H fun vs H1=>∃a xs,vs=[.ref a]/\SqL K H1 a xs/\∀p,H1 p=none->Q (.ref p) (upd H1 p (.lst xs.reverse))
theorem boot_reversed:eM "reversed"=some (.type "reversed"):=by decide+kernel
theorem pe_lrev{a:Expr}{ta:TA}{p:Pos}(r:X.calm=true)(v:Gl X "list")(y:X.mg "list"=none)(t:Gl X "reversed")(x:X.mg "reversed"=none)(l:PA X [a] ta)(z:b7 [a] X.env=[(false,eval a X.env)]:=by rfl):
  PE X (.Call (.Name "list" p) [.Call (.Name "reversed" p') [a] [] pos'] [] pos) (tLRev X.K ta):=by
 intro pins s σ H Q I h;refine Call_ (jM I v y kO (cJ (sP ?_) rfl rfl));refine Call_ (jM I t x boot_reversed (cJ (thn (l pos' pins s σ H _ I h) fun us s1 ⟨vs,H1,d,C,B⟩=>?_) z rfl));obtain⟨b,xs,rfl,hq,q⟩:=B;obtain⟨u,rfl,D⟩:=C.one;cases D;obtain⟨its,g,pl,A⟩:=d.list hq;have F:=g.length;refine call_reversed_list pl.isList ?_;refine aj ?_;have E:Inv X pins σ H1 {s1 with heap:=s1.heap.push (revObj b ((its.toArray.size:Int)-1))}:=d.kept (t':=s1.toks) fun b o e=>ag _ e;obtain⟨o,j,G⟩:=id pl.isList;have n:b<s1.heap.objs.size:=aB j;refine xc (s:={s1 with heap:=s1.heap.push (revObj b ((its.toArray.size:Int)-1))}) (d.ok.hd r) ⟨_,az _ rfl,rfl,rfl⟩ (pl.isList.at fun o e=>ag _ e) (aK n) (by rw[au];lia) fun h' tk i c' w k m=>?_;have f:s1.heap.objs.size<=(s1.heap.push (revObj b ((its.toArray.size:Int)-1))).objs.size:=by rw[bC];exact eY _
 exact⟨.ref _,_,d.laid (t':=tk) (o:=.lst xs.reverse) (fun c o e=>w c o (aK (aB e)) (ag _ e)) f ⟨by rw[rV];exact A,i.toList,c',by rw[Fl m];exact g.reverse,k⟩,rfl,q _ (d.hok.fresh f)⟩
end
end L2
namespace L2
open PySem PySem.Spec PyProof.Rows Q
noncomputable def rSortA(K:ah):List V->Hp->VK->Prop:=fun xs H Q=>∃p ks,xs=[V.ref p]/\SqL K H p (ks.map V.str)/\ks.length<1000/\ks.Nodup/\∀l,H l=none->Q (.ref l) (upd H l (.lst (sortT ks)))
end L2
namespace Q
open PySem PySem.Spec PySem.W PyProof.Rows L2
noncomputable abbrev Tri:=Int×Str×Str
noncomputable def t3(x y:Tri):Bool:=decide (x.1<y.1)||(decide (x.1=y.1)&&(tlt x.2.1 y.2.1||(decide (x.2.1=y.2.1)&&tlt x.2.2 y.2.2)))
def EL(H:Hp)(ys:List V)(ps:List Tri):Prop:=Paired (fun v k=>∃a,v=V.ref a/\H a=some (.tup [.int k.1,.str k.2.1,.str k.2.2])) ys ps
noncomputable def rSort3(K:ah):List V->Hp->VK->Prop:=fun xs H Q=>∃p ys ps,xs=[V.ref p]/\SqL K H p ys/\ps.length<=9000/\ps.Nodup/\EL H ys ps/\∀l zs qs,H l=none->EL H zs qs->qs.Perm ps->qs.Pairwise (fun a b=>t3 a b=true)->Q (.ref l) (upd H l (.lst zs))
end Q
set_option genInjectivity false
set_option genSizeOf false
namespace R
open PySem PySem.Spec PyProof.Rows L2
inductive Bf where
 |len|isinstance|all|list|tuple|set|min|max|int|lend|sortl|minl|maxl|sortt
 deriving DecidableEq
noncomputable def Bf.name:Bf->Str
 |.len=>"len" |.isinstance=>"isinstance" |.all=>"all" |.list=>"list" |.tuple=>"tuple" |.set=>"set" |.min=>"min" |.max=>"max" |.int=>"int" |.lend=>"len" |.sortl=>"sorted" |.minl=>"min" |.maxl=>"max" |.sortt=>"sorted"
noncomputable def Bf.val:Bf->Value
 |.len=>.builtin "len" |.isinstance=>.builtin "isinstance" |.all=>.builtin "all" |.list=>.type "list" |.tuple=>.type "tuple" |.set=>.type "set" |.min=>.builtin "min" |.max=>.builtin "max" |.int=>.type "int" |.lend=>.builtin "len" |.sortl=>.builtin "sorted" |.minl=>.builtin "min" |.maxl=>.builtin "max" |.sortt=>.builtin "sorted"
theorem Bf.boot:∀b:Bf,eM b.name=some b.val
 |.len=>PySem.boot_len|.isinstance=>boot_isinstance|.all=>boot_all|.list=>kO|.tuple=>wB
 |.set=>by decide+kernel|.min=>by decide+kernel|.max=>by decide+kernel|.int=>xi|.lend=>PySem.boot_len|.sortl=>by decide+kernel|.minl=>by decide+kernel|.maxl=>by decide+kernel|.sortt=>by decide+kernel
theorem Bf.plain:∀b:Bf,b.name≠"__name__"/\(b.name==("__debug__":Str))=false:=by
 intro b;cases b<;>exact⟨by decide+kernel,by decide+kernel⟩
inductive Ty where
 |int|bool|str|list|tuple|dict|valueError
 deriving DecidableEq
noncomputable def Ty.name:Ty->Str
 |.int=>"int" |.bool=>"bool" |.str=>"str" |.list=>"list" |.tuple=>"tuple" |.dict=>"dict" |.valueError=>"ValueError"
noncomputable def Ty.t:Ty->String
 |.int=>"int" |.bool=>"bool" |.str=>"str" |.list=>"list" |.tuple=>"tuple" |.dict=>"dict" |.valueError=>"ValueError"
theorem Ty.boot:∀b:Ty,eM b.name=some (.type b.t)
 |.int=>xi|.bool=>PyProof.Rows.boot_bool|.str=>PyProof.Rows.boot_str|.list=>kO|.tuple=>wB|.dict=>PyProof.Rows.boot_dict|.valueError=>by decide+kernel
theorem Ty.plain:∀b:Ty,b.name≠"__name__"/\(b.name==("__debug__":Str))=false:=by
 intro b;cases b<;>exact⟨by decide+kernel,by decide+kernel⟩
noncomputable def jb(K:ah):Operator->R2
 |.Add=>fun x y H Q=>(rI0 fun i j=>.int (i+j)) x y H Q\/(∃i j,x=.str i/\y=.str j/\i.length+j.length<=sizeLine/\Q (.str (i++j)) H)\/rCat x y H Q\/DK K x y H Q\/DL K x y H Q
 |.Sub=>rI0 fun i j=>.int (i-j)
 |.Mult=>fun x y H Q=>(rI Df fun i j=>.int (i*j)) x y H Q\/rRep x y H Q\/Hz x y H Q
 |.Mod=>rI (fun _ j=>0<j) fun i j=>.int (i%j)
 |.FloorDiv=>rI CDiv fun i j=>.int (i/j)
 |.Pow=>rI JW fun i j=>.int (i^j.toNat)
 |.RShift=>rI (fun _ j=>0<=j) fun i j=>.int (i/2^j.toNat)
 |.LShift=>rI JW fun i j=>.int (i*2^j.toNat)
 |.BitAnd=>rI0 fun i j=>.int (iR i j)
 |.BitXor=>rI0 fun i j=>.int (kg i j)
 |_=>fun _ _ _ _=>False
noncomputable def gP(K:ah):CmpOp->R2
 |.Eq=>rEqD K
 |.NotEq=>rNeD K
 |.Lt=>rI0 fun i j=>.bl (decide (i<j))
 |.LtE=>rI0 fun i j=>.bl (decide (i<=j))
 |.Gt=>rI0 fun i j=>.bl (decide (j<i))
 |.GtE=>rI0 fun i j=>.bl (decide (j<=i))
 |.Is=>fun x y H Q=>y=.non/\Q (.bl (decide (x=.non))) H
 |.IsNot=>fun x y H Q=>y=.non/\Q (.bl (!decide (x=.non))) H
 |.In=>fun x y H Q=>((∃i j,x=.str i/\y=.str j/\Q (.bl (!(gY j i 0 j.length 1).isEmpty)) H)\/rInD K false x y H Q)\/rIn K false x y H Q
 |.NotIn=>fun x y H Q=>((∃i j,x=.str i/\y=.str j/\Q (.bl (!(!(gY j i 0 j.length 1).isEmpty))) H)\/rInD K true x y H Q)\/rIn K true x y H Q
noncomputable def Fn(K:ah):V->Option Int->Option Int->Hp->VK->Prop:=fun x lo hi H Q=>rSlL K x lo hi H Q\/rSlT K x lo hi H Q\/rSlS x lo hi H Q
noncomputable def rBf(K:ah):Bf->List V->Hp->VK->Prop
 |.len=>fun xs H Q=>(∃p ys,xs=[.ref p]/\(SqL K H p ys\/SqT K H p ys)/\Q (.int ys.length) H)\/(∃z:Str,xs=[.str z]/\z.length<=sizeLine/\Q (.int z.length) H)\/(∃a n,xs=[V.ref a]/\H a=some (_root_.Q.Am a n)/\Q (.int n) H)
 |.isinstance=>fun xs H Q=>(∃x T t b,xs=[x,.ty T]/\mO K H x t/\iP K t (.type T)=some b/\Q (.bl b) H)\/(∃x C t b,xs=[x,.ref C]/\mO K H x t/\iP K t (.ref C)=some b/\Q (.bl b) H)
 |.all=>fun xs H Q=>∃(p:Addr)(bs:List Bool),xs=[.ref p]/\SqL K H p (bs.map V.bl)/\Q (.bl (bs.all id)) H
 |.list=>fun xs H Q=>∃p ys,xs=[.ref p]/\(SqL K H p ys\/SqT K H p ys)/\∀l,H l=none->Q (.ref l) (upd H l (.lst ys))
 |.tuple=>fun xs H Q=>∃p ys,xs=[.ref p]/\((SqL K H p ys/\∀l,H l=none->Q (.ref l) (upd H l (.tup ys)))\/(SqT K H p ys/\Q (.ref p) H))
 |.set=>Q.rSet K
 |.min=>fun xs H Q=>∃i j,xs=[.int i,.int j]/\Q (.int (if j<i then j else i)) H
 |.max=>fun xs H Q=>∃i j,xs=[.int i,.int j]/\Q (.int (if j>i then j else i)) H
 |.int=>fun xs H Q=>(∃i,xs=[.int i]/\Q (.int i) H)\/∃k,xs=[.bl k]/\Q (.int (if k then 1 else 0)) H
 |.lend=>fun xs H Q=>∃a kvs,xs=[V.ref a]/\H a=some (.dT kvs)/\Q (.int kvs.length) H
 |.sortl=>Q.Hy K
 |.sortt=>Q.Hx K
 |.minl=>Q.rMinL K
 |.maxl=>Q.rMaxL K
inductive Mm where
 |append|clear|reverse|pop|index|extend
 deriving DecidableEq
noncomputable def Mm.name:Mm->Str
 |.append=>"append" |.clear=>"clear" |.reverse=>"reverse" |.pop=>"pop" |.index=>"index" |.extend=>"extend"
noncomputable def Mm.id:Mm->String
 |.append=>"list.append" |.clear=>"list.clear" |.reverse=>"list.reverse" |.pop=>"list.pop" |.index=>"list.index" |.extend=>"list.extend"
noncomputable def rMm:Mm->V->List V->Hp->VK->Prop
 |.append=>DM
 |.clear=>HB
 |.reverse=>As
 |.pop=>fun x xs H Q=>False\/HA x xs H Q
 |.index=>fun _ _ _ _=>False
 |.extend=>DJ
noncomputable def baseOk:Expr->Bool
 |.Name .. =>true|.Subscript .. =>true
 |.Call f _ _ _=>match f with
  |.Attribute .. =>true
  |_=>false
 |_=>false
mutual
inductive CE where
 |var (i:Nat)
 |con (c:Const)
 |glo (x:Str)
 |ty (t:Ty)
 |bin (op:Operator) (a b:CE)
 |cmp (op:CmpOp) (a b:CE)
 |chain (op op':CmpOp) (a b c:CE)
 |not (a:CE)
 |and (a b:CE)
 |or (a b:CE)
 |ite (c a b:CE)
 |idx (a i:CE)
 |cut (a:CE) (lo hi:CO)
 |tup (es:CL)
 |lst (es:CL)
 |call (f:Str) (es:CL)
 |bfn (b:Bf) (es:CL)
 |meth1 (m:Mm) (o a:CE)
 |idxd (a i:CE)
 |dicT
 |setd (o a b:CE)
 |sortset (a:CE)
 |lrev (a:CE)
 |comp (own:List Str) (fr:List Nat) (tg:CG) (it:CI) (cond:CO) (elt:CE)
inductive CL where
 |nil
 |cons (e:CE) (es:CL)
inductive CP where
 |nil
 |cons (k v:CE) (r:CP)
inductive CO where
 |no
 |yes (e:CE)
inductive CG where
 |name (i:Nat)
 |tup (gs:CGs)
 |sub (o i:CE)
inductive CGs where
 |nil
 |cons (g:CG) (gs:CGs)
inductive CI where
 |seq (e:CE)
 |lseq (e:CE)
 |tseq (e:CE)
 |range1 (e:CE)
 |range2 (a b:CE)
 |enumt (e:CE)
end
noncomputable def CL.len:CL->Nat
 |.nil=>0
 |.cons _ r=>r.len+1
noncomputable def CGs.len:CGs->Nat
 |.nil=>0
 |.cons _ r=>r.len+1
mutual
inductive CS where
 |asg (g:CG) (e:CE)
 |asgc (i:Nat) (e:CE)
 |expr (e:CE)
 |iff (c:CE) (a b:CB)
 |whl (c:CE) (b:CB)
 |forr (g:CG) (it:CI) (b:CB)
 |ret (e:CE)
 |retN
 |pass|brk|cont
inductive CB where
 |nil
 |hole
 |cons (s:CS) (r:CB)
end
noncomputable def IT(sc:Scope)(x:Str):Bool:=sc.names.lookup x==some .local||sc.names.lookup x==some .cell||sc.names.lookup x==some .free
noncomputable def pX(sc:Scope)(x:Str):Bool:=sc.names.lookup x==some .globalImplicit
noncomputable def AE(x:Str):Bool:=(x==("__debug__":Str))==false&&(x==("__classdict__":Str))==false
noncomputable def okCon:Const->Bool
 |.none=>true|.bool _=>true|.int _=>true|.str _=>true|_=>false
noncomputable def cv:Const->V
 |.none=>.non|.bool b=>.bl b|.int i=>.int i|.str x=>.str x|_=>.non
noncomputable def namesOf(N own:List Str)(fr:List Nat):List Str:=own++fr.map fun j=>N.getD j ""
noncomputable def lX(own:List Str)(fr:List Nat)(σ:L2.St):L2.St:=own.map (fun _=>none)++fr.map fun j=>(σ[j]?).getD none
noncomputable def qJ:Expr->Bool
 |.Slice .. =>true
 |_=>false
noncomputable def isSet:Expr->Bool
 |.Set .. =>true
 |_=>false
noncomputable def vN:Expr->Bool
 |.ListComp .. =>true|.SetComp .. =>true|.DictComp .. =>true
 |_=>false
noncomputable def pV:Expr->Bool
 |.Tuple .. =>true
 |_=>false
noncomputable def za(sc sc':Scope)(N own:List Str)(fr:List Nat):Bool:=
 decide (sc'.kind=.function)&&sc'.names.all (fun y=>decide (y.2=.cell->sc'.names.lookup y.1=some .cell))&&sc'.names.all (fun y=>decide (y.2=.local->sc'.names.lookup y.1=some .local))&&
 sc'.names.all (fun y=>decide (y.2=.free->sc.names.lookup y.1=some .cell\/sc.names.lookup y.1=some .free))&&decide ((namesOf N own fr).Nodup)&&
 fr.all (fun j=>decide (j<N.length)&&sc'.names.lookup (N.getD j "")==some .free)&&own.all (fun x=>sc'.names.lookup x==some .local||sc'.names.lookup x==some .cell)
theorem dA{P:Prop}(h:false=true):P:=(ak h).elim
theorem an{a b:Bool}(h:(a&&b)=true):a=true/\b=true:=by rwa [aH]at h
theorem tQ{a:Bool}(h:(!a)=true):a=false:=by simpa using h
theorem jz{a b c:Bool}(h:(a&&b&&c)=true):a=true/\b=true/\c=true:=let⟨h,z⟩:=an h;let⟨x,y⟩:=an h;⟨x,y,z⟩
theorem rD{a b c d:Bool}(h:(a&&b&&c&&d)=true):a=true/\b=true/\c=true/\d=true:=let⟨h,z⟩:=an h;let⟨x,y,w⟩:=jz h;⟨x,y,w,z⟩
theorem and5{a b c d e:Bool}(h:(a&&b&&c&&d&&e)=true):a=true/\b=true/\c=true/\d=true/\e=true:=let⟨h,z⟩:=an h;let⟨x,y,w,v⟩:=rD h;⟨x,y,w,v,z⟩
section
variable {e:Expr}{s:Stmt}
noncomputable def l1{α:Type}(l:List α)(f:α->Bool):Bool:=match l with
 |a::r=>r.isEmpty&&f a
 | []=>false
theorem k9{α:Type}{l:List α}{f:α->Bool}(h:l1 l f=true):∃a,l=[a]/\f a=true:=by
 cases l with
 |nil=>exact dA h
 |cons a r=>
  obtain⟨h1,h⟩:=an h;cases r with
  |nil=>exact⟨a,rfl,h⟩
  |cons=>exact dA h1
noncomputable def l2{α:Type}(l:List α)(f:α->α->Bool):Bool:=match l with
 |a::r=>l1 r (f a)
 | []=>false
theorem xN{α:Type}{l:List α}{f:α->α->Bool}(h:l2 l f=true):∃a b,l=[a,b]/\f a b=true:=by
 cases l with
 |nil=>exact dA h
 |cons a r=>
  obtain⟨b,rfl,h⟩:=k9 h;exact⟨a,b,rfl,h⟩
noncomputable def dNm(e:Expr)(f:Str->Pos->Bool):Bool:=match e with
 |.Name x p=>f x p
 |_=>false
theorem me{f}(h:dNm e f=true):∃x p,e=.Name x p/\f x p=true:=by cases e<;>first |exact⟨_,_,rfl,h⟩ |exact dA h
noncomputable def dCn(e:Expr)(f:Const->Bool):Bool:=match e with
 |.Constant c _ _=>f c
 |_=>false
theorem JA{f}(h:dCn e f=true):∃c j p,e=.Constant c j p/\f c=true:=by cases e<;>first |exact⟨_,_,_,rfl,h⟩ |exact dA h
noncomputable def dBi(e:Expr)(f:Expr->Operator->Expr->Bool):Bool:=match e with
 |.BinOp a op b _=>f a op b
 |_=>false
theorem dBi_of{f}(h:dBi e f=true):∃a c b p,e=.BinOp a c b p/\f a c b=true:=by cases e<;>first |exact⟨_,_,_,_,rfl,h⟩ |exact dA h
noncomputable def dUn(e:Expr)(f:UnaryOp->Expr->Bool):Bool:=match e with
 |.UnaryOp op a _=>f op a
 |_=>false
theorem Jv{f}(h:dUn e f=true):∃b a p,e=.UnaryOp b a p/\f b a=true:=by cases e<;>first |exact⟨_,_,_,rfl,h⟩ |exact dA h
noncomputable def dCm(e:Expr)(f:Expr->List CmpOp->List Expr->Bool):Bool:=match e with
 |.Compare a os es _=>f a os es
 |_=>false
theorem C2{f}(h:dCm e f=true):∃a os es p,e=.Compare a os es p/\f a os es=true:=by cases e<;>first |exact⟨_,_,_,_,rfl,h⟩ |exact dA h
noncomputable def dC1(e:Expr)(f:Expr->CmpOp->Expr->Bool):Bool:=dCm e fun a os es=>l1 os fun c=>l1 es fun b=> !isSet b&&f a c b
theorem JC{f}(h:dC1 e f=true):∃a c b p,e=.Compare a [c] [b] p/\isSet b=false/\f a c b=true:=by
 obtain⟨a,os,es,p,rfl,k⟩:=C2 h;obtain⟨c,rfl,l⟩:=k9 k;obtain⟨b,rfl,m⟩:=k9 l;obtain⟨h1,n⟩:=an m;exact⟨a,c,b,p,rfl,tQ h1,n⟩
noncomputable def dBo(e:Expr)(f:BoolOp->Expr->Expr->Bool):Bool:=match e with
 |.BoolOp op es p=>match es with
  |a::r=>match r with
   |b::r=>match r with
    | []=>f op a b
    |c::r=>f op a (.BoolOp op (b::c::r) p)
   | []=>false
  | []=>false
 |_=>false
theorem sD{f}(h:dBo e f=true):∃d a x p,f d a x=true/\(e=.BoolOp d [a,x] p\/∃b c r,x=.BoolOp d (b::c::r) p/\e=.BoolOp d (a::b::c::r) p):=by
 cases e<;>first |exact dA h|skip
 rename_i d es p;cases es with
 |nil=>exact dA h
 |cons a r=>cases r with
  |nil=>exact dA h
  |cons b r=>cases r with
   |nil=>exact⟨d,a,b,p,h,.inl rfl⟩
   |cons c r=>exact⟨d,a,_,p,h,.inr ⟨b,c,r,rfl,rfl⟩⟩
noncomputable def dIf(e:Expr)(f:Expr->Expr->Expr->Bool):Bool:=match e with
 |.IfExp c a b _=>f c a b
 |_=>false
theorem dIf_of{f}(h:dIf e f=true):∃c a b p,e=.IfExp c a b p/\f c a b=true:=by cases e<;>first |exact⟨_,_,_,_,rfl,h⟩ |exact dA h
noncomputable def dSu(e:Expr)(f:Expr->Expr->Bool):Bool:=match e with
 |.Subscript a i _=>f a i
 |_=>false
theorem vX{f}(h:dSu e f=true):∃a i p,e=.Subscript a i p/\f a i=true:=by cases e<;>first |exact⟨_,_,_,rfl,h⟩ |exact dA h
noncomputable def dSl(e:Expr)(f:Option Expr->Option Expr->Option Expr->Bool):Bool:=match e with
 |.Slice a b c _=>f a b c
 |_=>false
theorem dSl_of{f}(h:dSl e f=true):∃a b c p,e=.Slice a b c p/\f a b c=true:=by cases e<;>first |exact⟨_,_,_,_,rfl,h⟩ |exact dA h
noncomputable def dTu(e:Expr)(f:List Expr->Bool):Bool:=match e with
 |.Tuple es _ _=>f es
 |_=>false
theorem Jw{f}(h:dTu e f=true):∃es k p,e=.Tuple es k p/\f es=true:=by cases e<;>first |exact⟨_,_,_,rfl,h⟩ |exact dA h
noncomputable def dLi(e:Expr)(f:List Expr->Bool):Bool:=match e with
 |.List es _=>f es
 |_=>false
theorem dLi_of{f}(h:dLi e f=true):∃es p,e=.List es p/\f es=true:=by cases e<;>first |exact⟨_,_,rfl,h⟩ |exact dA h
noncomputable def dDi(e:Expr)(f:List (Option Expr)->List Expr->Bool):Bool:=match e with
 |.Dict ks vs _=>f ks vs
 |_=>false
theorem dDi_of{f}(h:dDi e f=true):∃ks vs p,e=.Dict ks vs p/\f ks vs=true:=by cases e<;>first |exact⟨_,_,_,rfl,h⟩ |exact dA h
noncomputable def dCa(e:Expr)(f:Expr->List Expr->Pos->Bool):Bool:=match e with
 |.Call g es ks p=>ks.isEmpty&&f g es p
 |_=>false
theorem JB{f}(h:dCa e f=true):∃g es p,e=.Call g es [] p/\f g es p=true:=by
 cases e<;>first |exact dA h|skip
 rename_i g es ks p;obtain⟨h1,h⟩:=an h;cases ks with
 |nil=>exact⟨g,es,p,rfl,h⟩
 |cons=>exact dA h1
noncomputable def dFn(e:Expr)(f:Str->List Expr->Bool):Bool:=dCa e fun g es _=>dNm g fun x _=>f x es
theorem kD{f}(h:dFn e f=true):∃x np es p,e=.Call (.Name x np) es [] p/\f x es=true:=by
 obtain⟨g,es,p,rfl,k⟩:=JB h;obtain⟨x,np,rfl,l⟩:=me k;exact⟨x,np,es,p,rfl,l⟩
noncomputable def dAt(e:Expr)(f:Expr->Str->Pos->Bool):Bool:=match e with
 |.Attribute a x p=>f a x p
 |_=>false
theorem dAt_of{f}(h:dAt e f=true):∃a x p,e=.Attribute a x p/\f a x p=true:=by cases e<;>first |exact⟨_,_,_,rfl,h⟩ |exact dA h
noncomputable def dMt(m:Str)(e:Expr)(f:Expr->List Expr->Bool):Bool:=dCa e fun g es b=>dAt g fun o c a=>decide (m=c)&&(a.endLine==b.line)&&f o es
theorem Jy{m:Str}{f}(h:dMt m e f=true):∃o a es b,e=.Call (.Attribute o m a) es [] b/\(a.endLine==b.line)=true/\f o es=true:=by
 obtain⟨g,es,b,rfl,k⟩:=JB h;obtain⟨o,c,a,rfl,l⟩:=dAt_of k;obtain⟨h1,h2,n⟩:=jz l;cases of_decide_eq_true h1;exact⟨o,a,es,b,rfl,h2,n⟩
noncomputable def dLc(e:Expr)(f:Expr->List Comprehension->Scope->Pos->Bool):Bool:=match e with
 |.ListComp a gs sc p=>f a gs sc p
 |_=>false
theorem C1{f}(h:dLc e f=true):∃a b sc p,e=.ListComp a b sc p/\f a b sc p=true:=by cases e<;>first |exact⟨_,_,_,_,rfl,h⟩ |exact dA h
noncomputable def dJs(e:Expr)(f:List Expr->Bool):Bool:=match e with
 |.JoinedStr es _=>f es
 |_=>false
noncomputable def dFv(e:Expr)(f:Expr->Int->Option Expr->Bool):Bool:=match e with
 |.FormattedValue a c s _=>f a c s
 |_=>false
noncomputable def dAs(s:Stmt)(f:Expr->Expr->Pos->Bool):Bool:=match s with
 |.Assign ts e p=>l1 ts fun g=>f g e p
 |_=>false
theorem JD{f}(h:dAs s f=true):∃g e p,s=.Assign [g] e p/\f g e p=true:=by
 cases s<;>first |exact dA h|skip
 obtain⟨g,rfl,h⟩:=k9 h;exact⟨g,_,_,rfl,h⟩
noncomputable def dEx(s:Stmt)(f:Expr->Bool):Bool:=match s with
 |.Expr e _=>f e
 |_=>false
theorem dEx_of{f}(h:dEx s f=true):∃e p,s=.Expr e p/\f e=true:=by cases s<;>first |exact⟨_,_,rfl,h⟩ |exact dA h
noncomputable def dIs(s:Stmt)(f:Expr->List Stmt->List Stmt->Bool):Bool:=match s with
 |.If c a b _=>f c a b
 |_=>false
theorem dIs_of{f}(h:dIs s f=true):∃c a b p,s=.If c a b p/\f c a b=true:=by cases s<;>first |exact⟨_,_,_,_,rfl,h⟩ |exact dA h
noncomputable def dWh(s:Stmt)(f:Expr->List Stmt->Bool):Bool:=match s with
 |.While c a b _=>b.isEmpty&&f c a
 |_=>false
theorem dWh_of{f}(h:dWh s f=true):∃c a p,s=.While c a [] p/\f c a=true:=by
 cases s<;>first |exact dA h|skip
 rename_i c a b p;obtain⟨h1,h⟩:=an h;cases b with
 |nil=>exact⟨c,a,p,rfl,h⟩
 |cons=>exact dA h1
noncomputable def dFo(s:Stmt)(f:Expr->Expr->List Stmt->Bool):Bool:=match s with
 |.For g i a b _=>b.isEmpty&&f g i a
 |_=>false
theorem dFo_of{f}(h:dFo s f=true):∃g i a p,s=.For g i a [] p/\f g i a=true:=by
 cases s<;>first |exact dA h|skip
 rename_i g i a b p;obtain⟨h1,h⟩:=an h;cases b with
 |nil=>exact⟨g,i,a,p,rfl,h⟩
 |cons=>exact dA h1
noncomputable def dRt(s:Stmt)(f:Option Expr->Bool):Bool:=match s with
 |.Return e _=>f e
 |_=>false
theorem Jx{f}(h:dRt s f=true):∃e p,s=.Return e p/\f e=true:=by cases s<;>first |exact⟨_,_,rfl,h⟩ |exact dA h
noncomputable def dRa(s:Stmt)(f:Str->List Expr->Bool):Bool:=match s with
 |.Raise e c _=>match e with
  |some e=>c.isNone&&dFn e f
  |none=>false
 |_=>false
theorem dRa_of{f}(h:dRa s f=true):∃x np es a p,s=.Raise (some (.Call (.Name x np) es [] a)) none p/\f x es=true:=by
 cases s<;>first |exact dA h|skip
 rename_i e c p;cases e with
 |none=>exact dA h
 |some e=>
  obtain⟨h1,k⟩:=an h;obtain⟨x,np,es,a,rfl,l⟩:=kD k;cases c with
  |none=>exact⟨x,np,es,a,p,rfl,l⟩
  |some=>exact dA h1
noncomputable def dTr(s:Stmt)(f:List Stmt->Str->Str->List Stmt->Bool):Bool:=match s with
 |.Try b hs o r _=>o.isEmpty&&r.isEmpty&&l1 hs fun h=>match h with
  |.ExceptHandler t n ss _=>match t with
   |some t=>match n with
    |some n=>dNm t fun x _=>f b x n ss
    |none=>false
   |none=>false
 |_=>false
theorem dTr_of{f}(h:dTr s f=true):∃b x np n a hp p,s=.Try b [.ExceptHandler (some (.Name x np)) (some n) a hp] [] [] p/\f b x n a=true:=by
 cases s<;>first |exact dA h|skip
 rename_i b hs o r p;obtain⟨h1,h2,k⟩:=jz h;obtain⟨⟨t,n,a,hp⟩,rfl,l⟩:=k9 k;cases o with
 |cons=>exact dA h1
 |nil=>cases r with
  |cons=>exact dA h2
  |nil=>cases t with
   |none=>exact dA l
   |some t=>cases n with
    |none=>exact dA l
    |some n=>
     obtain⟨x,np,rfl,m⟩:=me l;exact⟨b,x,np,n,a,hp,p,rfl,m⟩
end
noncomputable def u1{α:Type}(l:List α)(f:α->List α->Bool):Bool:=match l with
 |a::r=>f a r
 | []=>false
theorem Ae{α:Type}{l:List α}{f:α->List α->Bool}(h:u1 l f=true):∃a r,l=a::r/\f a r=true:=by
 cases l with
 |nil=>exact dA h
 |cons a r=>exact⟨a,r,rfl,h⟩
noncomputable def om{α:Type}(o:Option α)(f:α->Bool):Bool:=match o with
 |some x=>f x
 |none=>false
theorem Ig{α:Type}{o:Option α}{f:α->Bool}(h:om o f=true):∃x,o=some x/\f x=true:=by
 cases o with
 |none=>exact dA h
 |some x=>exact⟨x,rfl,h⟩
theorem nil_of{α:Type}{l:List α}(h:l.isEmpty=true):l=[]:=List.isEmpty_iff.mp h
noncomputable def dFF(f g:Str)(sc:Scope)(e:Expr)(k:Expr->Bool):Bool:=dFn e fun b es=>l1 es fun x=>dFn x fun c es=>l1 es fun a=>decide (b=f)&&decide (c=g)&&pX sc f&&pX sc g&&k a
theorem Jz{f g:Str}{k}(h:dFF f g sc e k=true):∃p a q r t,e=.Call (.Name f p) [.Call (.Name g q) [a] [] r] [] t/\pX sc f=true/\pX sc g=true/\k a=true:=by
 obtain⟨_,p,_,t,rfl,i⟩:=kD h;obtain⟨x,rfl,j⟩:=k9 i;obtain⟨_,q,_,r,rfl,l⟩:=kD j;obtain⟨a,rfl,m⟩:=k9 l;obtain⟨h1,h2,b,c,n⟩:=and5 m;cases of_decide_eq_true h1;cases of_decide_eq_true h2;exact⟨p,a,q,r,t,rfl,b,c,n⟩
noncomputable def isM1(e:Expr):Bool:=dUn e fun a c=>decide (a=.USub)&&dCn c fun k=>decide (k=.int 1)
noncomputable def mBase(e:Expr):Bool:=(dNm e fun _ _=>true)||(dFn e fun _ es=> !es.isEmpty)
mutual
noncomputable def dF(sc:Scope)(N:List Str):CE->Expr->Bool
 |.var i,e=>dNm e fun x _=>N[i]? ==some x&&IT sc x&&AE x
 |.con c,e=>dCn e fun c'=>okCon c&&decide (c=c')
 |.glo x,e=>dNm e fun y _=>decide (x=y)&&pX sc x&&AE x
 |.ty t,e=>dNm e fun y _=>decide (t.name=y)&&pX sc y
 |.bin j a b,e=>dBi e fun d r h=>decide (j=r)&&dF sc N a d&&dF sc N b h
 |.cmp j a b,e=>dC1 e fun d r h=>decide (j=r)&&dF sc N a d&&dF sc N b h
 |.chain o1 o2 a b c,e=>dCm e fun d os es=>l2 os fun p q=>l2 es fun h c'=>decide (o1=p)&&decide (o2=q)&& !isSet c'&&(dF sc N a d&&dF sc N b h&&dF sc N c c')
 |.not a,e=>dUn e fun j d=>decide (j=.Not)&&dF sc N a d
 |.and a b,e=>dBo e fun j d x=>decide (j=.And)&&dF sc N a d&&dF sc N b x
 |.or a b,e=>dBo e fun j d x=>decide (j=.Or)&&dF sc N a d&&dF sc N b x
 |.ite c a b,e=>dIf e fun c' d h=>dF sc N c c'&&dF sc N a d&&dF sc N b h
 |.idx a i,e=>dSu e fun d k=> !qJ k&&dF sc N a d&&dF sc N i k
 |.cut a lo hi,e=>dSu e fun d s=>dSl s fun l u t=>t.isNone&&dF sc N a d&&(chkO sc N lo l&&chkO sc N hi u)
 |.tup es,e=>dTu e fun es'=>sE sc N es es'
 |.lst es,e=>dLi e fun es'=>sE sc N es es'
 |.call f es,e=>dFn e fun n es'=>decide (f=n)&&pX sc f&&AE f&&sE sc N es es'
 |.bfn b es,e=>dFn e fun n es'=>decide (b.name=n)&&pX sc n&& !es'.isEmpty&&sE sc N es es'
 |.meth1 m o a,e=>dMt m.name e fun o' es=>l1 es fun d=>baseOk o'&&dF sc N o o'&&dF sc N a d
 |.idxd a i,e=>dSu e fun d k=> !qJ k&&dF sc N a d&&dF sc N i k
 |.dicT,e=>dDi e fun ks vs=>ks.isEmpty&&vs.isEmpty
 |.setd o a b,e=>dMt (bT "setdefault") e fun o' es=>l2 es fun d h=>baseOk o'&&dF sc N o o'&&(dF sc N a d&&dF sc N b h)
 |.sortset a,e=>dFF "sorted" "set" sc e (dF sc N a)
 |.lrev a,e=>dFF "list" "reversed" sc e (dF sc N a)
 |.comp own fr tg it cond elt,e=>dLc e fun v w sc' _=>l1 w fun g=>decide (g.is_async=0)&&za sc sc' N own fr&& !isSet g.iter&&(chkI sc N it g.iter g.target&&xa sc' (namesOf N own fr) false tg g.target&&chkC sc' (namesOf N own fr) cond g.ifs&&dF sc' (namesOf N own fr) elt v)
noncomputable def sE(sc:Scope)(N:List Str):CL->List Expr->Bool
 |.nil,es=>es.isEmpty
 |.cons e r,es=>u1 es fun a b=>dF sc N e a&&sE sc N r b
noncomputable def chkP(sc:Scope)(N:List Str):CP->List (Option Expr)->List Expr->Bool
 |.nil,ks,vs=>ks.isEmpty&&vs.isEmpty
 |.cons k v r,ks,vs=>u1 ks fun a b=>u1 vs fun c d=>om a fun a=>dF sc N k a&&dF sc N v c&&chkP sc N r b d
noncomputable def chkO(sc:Scope)(N:List Str):CO->Option Expr->Bool
 |.no,o=>o.isNone
 |.yes e,o=>om o (dF sc N e)
noncomputable def chkC(sc:Scope)(N:List Str):CO->List Expr->Bool
 |.no,o=>o.isEmpty
 |.yes e,o=>l1 o (dF sc N e)
noncomputable def xa(sc:Scope)(N:List Str)(all:Bool):CG->Expr->Bool
 |.name i,e=>dNm e fun x _=>N[i]? ==some x&&(sc.names.lookup x==some .local||sc.names.lookup x==some .cell)
 |.tup gs,e=>dTu e fun es=>wb sc N all gs es
 |.sub o i,e=>dSu e fun o' a=> !qJ a&&dF sc N o o'&&dF sc N i a
noncomputable def wb(sc:Scope)(N:List Str)(all:Bool):CGs->List Expr->Bool
 |.nil,es=>es.isEmpty
 |.cons g gs,es=>u1 es fun a es'=>xa sc N all g a&&wb sc N all gs es'
noncomputable def chkI(sc:Scope)(N:List Str):CI->Expr->Expr->Bool
 |.seq e,c,_=>dF sc N e c
 |.lseq e,c,_=>dF sc N e c
 |.tseq e,c,_=>dF sc N e c
 |.range1 e,x,_=>dFn x fun f es=>l1 es fun c=>decide (f="range")&&pX sc f&&dF sc N e c
 |.range2 a b,x,_=>dFn x fun f es=>l2 es fun d g=>decide (f="range")&&pX sc f&&dF sc N a d&&dF sc N b g
 |.enumt e,x,tg'=>dFn x fun f es=>l1 es fun c=>decide (f="enumerate")&&pX sc f&&dF sc N e c&&pV tg'
end
noncomputable def isCe:CE->Bool
 |.comp .. =>true
 |_=>false
mutual
noncomputable def chkS(sc:Scope)(N:List Str):CS->Stmt->Bool
 |.asg g e,s=>dAs s fun j f _=>xa sc N true g j&&dF sc N e f&& !vN f&& !(pV j&&pV f)
 |.asgc i e,s=>isCe e&&dAs s fun g f _=>dNm g fun x p=>dLc f fun a b c d=>N[i]? ==some x&&(sc.names.lookup x==some .local||sc.names.lookup x==some .cell)&&dF sc N e (.ListComp a b c d)&&
   (sc.names.lookup x==some .cell||(decide (p.line=d.line)&& !(c.names.any fun y=>decide (y.1=x)&&(decide (y.2=.local)||decide (y.2=.cell)))))
 |.expr e,s=>dEx s fun f=>dF sc N e f&& !vN f
 |.iff c a b,s=>dIs s fun c' l h=>dF sc N c c'&&wc sc N a l&&wc sc N b h
 |.whl c b,s=>dWh s fun c' h=>dF sc N c c'&&wc sc N b h
 |.forr g it b,s=>dFo s fun j k h=>xa sc N true g j&&chkI sc N it k j&& !isSet k&&wc sc N b h
 |.ret e,s=>dRt s fun o=>om o (dF sc N e)
 |.retN,s=>dRt s fun o=>o.isNone
 |.pass,s=>match s with
  |.Pass _=>true
  |_=>false
 |.brk,s=>match s with
  |.Break _=>true
  |_=>false
 |.cont,s=>match s with
  |.Continue _=>true
  |_=>false
noncomputable def wc(sc:Scope)(N:List Str):CB->List Stmt->Bool
 |.hole,_=>true
 |.nil,ss=>ss.isEmpty
 |.cons s r,ss=>u1 ss fun s' a=>chkS sc N s s'&&wc sc N r a
end
structure Gam where
 val:Str->Option V
 fn:Str->Nat->Option (Sp×List V)
 ini:Str->Nat->Option (Addr×Sp×List V)
 dic:Addr->Option (List (Key×V))
 mak:Str->Nat->Option (Addr×Sp×List V)
 mth:Str->Nat->Option (Addr×Sp×List V)
noncomputable def CU(K:ah)(tl:TE):TI:=fun σ H R=>tl σ H fun x H1=>(∃a,x=.ref a/\(∃xs,SqL K H1 a xs)/\R (Itl K a) H1)\/(∃a,x=.ref a/\(∃xs,SqT K H1 a xs)/\R (Itt K a) H1)\/(∃z,x=.str z/\R (Its z) H1)
noncomputable def B4(K:ah)(t:TE):TT:=fun σ H Q=>t σ H fun x H1=>∃k,TruV K x H1 k/\Q k H1
mutual
noncomputable def wpE(G:Gam)(K:ah)(E:XS):CE->TE
 |.var i=>j3 i
 |.con c=>tC (cv c)
 |.glo x=>fun σ H Q=>∃v,G.val x=some v/\Q v H
 |.ty t=>tC (.ty t.t)
 |.bin op a b=>tOp (jb K op) (wpE G K E a) (wpE G K E b)
 |.cmp op a b=>tOp (gP K op) (wpE G K E a) (wpE G K E b)
 |.chain o1 o2 a b c=>uR (gP K o1) (gP K o2) (wpE G K E a) (wpE G K E b) (wpE G K E c)
 |.not a=>G3 (wpE G K E a)
 |.and a b=>G6 (wpE G K E a) (wpE G K E b)
 |.or a b=>tOrV (wpE G K E a) (wpE G K E b)
 |.ite c a b=>tIf (wpT G K E c) (wpE G K E a) (wpE G K E b)
 |.idx a i=>tOp (rIx K) (wpE G K E a) (wpE G K E i)
 |.cut a lo hi=>tSl (Fn K) (wpE G K E a) (wpO G K E lo) (wpO G K E hi)
 |.tup es=>G1 (wpL G K E es)
 |.lst es=>tLst (wpL G K E es)
 |.call f es=>fun σ H Q=>∃sp dvs,G.fn f es.len=some (sp,dvs)/\Ah sp dvs (E σ) (wpL G K E es) σ H Q
 |.bfn b es=>tCB (rBf K b) (wpL G K E es)
 |.meth1 m o a=>tBM K "list" (rMm m) (wpE G K E o) (ja (wpE G K E a) oU)
 |.idxd a i=>tOp (rIxD K) (wpE G K E a) (wpE G K E i)
 |.dicT=>G4
 |.setd o a b=>tBM K "dict" DI (wpE G K E o) (ja (wpE G K E a) (ja (wpE G K E b) oU))
 |.sortset a=>uN K (ja (wpE G K E a) oU)
 |.lrev a=>tLRev K (ja (wpE G K E a) oU)
 |.comp own fr tg it cond elt=>uQ (wpI G K E it) (wpG G K N0 tg) (wpC G K N0 cond) (wpE G K N0 elt) (lX own fr)
noncomputable def wpT(G:Gam)(K:ah)(E:XS):CE->TT
 |.cmp op a b=>xn (tOp (gP K op) (wpE G K E a) (wpE G K E b))
 |.chain o1 o2 a b c=>xn (uR (gP K o1) (gP K o2) (wpE G K E a) (wpE G K E b) (wpE G K E c))
 |.not a=>tNot (wpT G K E a)
 |.and a b=>tAnd (wpT G K E a) (wpT G K E b)
 |.or a b=>tOr (wpT G K E a) (wpT G K E b)
 |.ite _ _ _=>fun _ _ _=>False
 |.var i=>B4 K (j3 i)
 |.con c=>B4 K (tC (cv c))
 |.glo x=>B4 K (fun σ H Q=>∃v,G.val x=some v/\Q v H)
 |.idx a i=>B4 K (tOp (rIx K) (wpE G K E a) (wpE G K E i))
 |.call f es=>B4 K (fun σ H Q=>∃sp dvs,G.fn f es.len=some (sp,dvs)/\Ah sp dvs (E σ) (wpL G K E es) σ H Q)
 |.bfn b es=>B4 K (tCB (rBf K b) (wpL G K E es))
 |_=>fun _ _ _=>False
noncomputable def wpL(G:Gam)(K:ah)(E:XS):CL->TA
 |.nil=>oU
 |.cons e es=>ja (wpE G K E e) (wpL G K E es)
noncomputable def wpP(G:Gam)(K:ah)(E:XS):CP->List (TE×TE)
 |.nil=>[]
 |.cons k v r=>(wpE G K E k,wpE G K E v)::wpP G K E r
noncomputable def wpO(G:Gam)(K:ah)(E:XS):CO->TO
 |.no=>oq
 |.yes e=>xo (wpE G K E e)
noncomputable def wpC(G:Gam)(K:ah)(E:XS):CO->TT
 |.no=>GZ
 |.yes e=>wpT G K E e
noncomputable def wpG(G:Gam)(K:ah)(E:XS):CG->TG
 |.name i=>km i
 |.tup gs=>gTup K gs.len (wpGs G K E gs)
 |.sub o i=>gSub (wpE G K E o) (wpE G K E i) rSetL
noncomputable def wpGs(G:Gam)(K:ah)(E:XS):CGs->TGs
 |.nil=>gNil
 |.cons g gs=>Jf (wpG G K E g) (wpGs G K E gs)
noncomputable def wpI(G:Gam)(K:ah)(E:XS):CI->TI
 |.seq e=>CU K (wpE G K E e)
 |.lseq e=>IZ K (wpE G K E e)
 |.tseq e=>iTup K (wpE G K E e)
 |.range1 e=>IY (ja (wpE G K E e) oU)
 |.range2 a b=>IX (ja (wpE G K E a) (ja (wpE G K E b) oU))
 |.enumt e=>CT K (ja (wpE G K E e) oU)
end
mutual
noncomputable def wpS(G:Gam)(K:ah)(E:XS):CS->TS
 |.asg g e=>yy (wpE G K E e) (wpG G K E g)
 |.asgc i e=>yy (wpE G K E e) (km i)
 |.expr e=>Dx (wpE G K E e)
 |.iff c a b=>tIfS (wpT G K E c) (wpB G K E a) (wpB G K E b)
 |.whl c b=>G0 (wpT G K E c) (wpB G K E b)
 |.forr g it b=>tFor (wpI G K E it) (wpG G K E g) (wpB G K E b)
 |.ret e=>tRet (wpE G K E e)
 |.retN=>G2
 |.pass=>Ag
 |.brk=>G5
 |.cont=>tCont
noncomputable def wpB(G:Gam)(K:ah)(E:XS):CB->TS
 |.nil=>Ag
 |.hole=>fun _ _ _=>False
 |.cons s r=>uP (wpS G K E s) (wpB G K E r)
end
noncomputable abbrev Sat(G:Gam)(K:ah)(sp:Sp)(c:CB)(N:List Str):Prop:=∀vs H Q E,sp vs H Q E->wpB G K (fun _=>E) c {nx:=fun _ H'=>Q .non H',rt:=Q} (L2.start N vs) H
noncomputable def jf:List Str:=["len","isinstance","all","any","list","tuple","int","bool","str","dict","range","enumerate","sorted","set","min","max","ValueError","sum","zip","reversed"]
structure Ok(CX:CXT)(G:Gam)(E:XS)(sc:Scope)(N:List Str)(all:Bool)(X:Cx):Prop where
 names:X.N=N
 top:all=true->X.stack=X.env::X.outer/\X.env.frame=some X.env.locals/\X.ex=[]
 nd:N.Nodup
 loc:∀x,sc.names.lookup x=some .local->X.env.scope.names.lookup x=some .local
 cel:∀x,sc.names.lookup x=some .cell->X.env.scope.names.lookup x=some .cell
 fre:∀x,sc.names.lookup x=some .free->X.env.scope.names.lookup x=some .cell\/X.env.scope.names.lookup x=some .free
 glo:∀x,sc.names.lookup x=some .globalImplicit->X.env.scope.names.lookup x=some .globalImplicit
 all:all=true->∀x,X.fn x=true
 own:∀x,sc.names.lookup x=some .cell->X.fn x=true
 calm:X.calm=true
 hu:X.A.units+50<cLine
 val:∀x v,G.val x=some v->∃u,X.mg x=some u/\RelV v u
 fn:∀x n sp dvs,G.fn x n=some (sp,dvs)->∃f fd ps ds k,jV X.prog X.w X.K X.mg X.base CX k f fd ps sp/\j6 k X.A/\X.mg x=some (.ref f)/\cS X.K (.ref f)=true/\Binds X.K fd ps ds/\bE dvs ds
 ini:∀x n C sp dvs,G.ini x n=some (C,sp,dvs)->∃f fd ps ds k,MkX X.K C f/\jV X.prog X.w X.K X.mg X.base CX k f fd ps sp/\j6 (k+1) X.A/\X.mg x=some (.ref C)/\Binds X.K fd ps ds/\bE dvs ds
 dic:∀a kvs,G.dic a=some kvs->DkIn X.prog X.w X.K a kvs
 mak:∀x n C sp dvs,G.mak x n=some (C,sp,dvs)->∃f fd ps ds k,Mk X.K C f/\jV X.prog X.w X.K X.mg X.base CX k f fd ps sp/\j6 (k+1) X.A/\X.mg x=some (.ref C)/\Binds X.K fd ps ds/\bE dvs ds
 mth:∀m n C sp dvs,G.mth m n=some (C,sp,dvs)->∃f fd ps ds k,Cls X.K C/\Meth X.K C m f/\jV X.prog X.w X.K X.mg X.base CX k f fd ps sp/\j6 k X.A/\Binds X.K fd ps ds/\bE dvs ds
 blt:∀x∈jf,X.mg x=none
 px:PassesOwn (model X.prog X.w) X.A X.env X.xe
 pass:BC CX X E
 made:MadeS X E
 madeX:JT X E
 cx:CX=CXx X.prog X.w
theorem Bf.mem:∀b:Bf,b.name∈jf:=by intro b;cases b<;>decide+kernel
theorem Ty.mem:∀b:Ty,b.name∈jf:=by intro b;cases b<;>decide+kernel
section
variable {CX:CXT}{G:Gam}{E:XS}{sc:Scope}{N:List Str}{all:Bool}{X:Cx}
theorem Ok.vis(o:Ok CX G E sc N all X)(h:IT sc x=true):Vis X.env.scope x:=by
 unfold IT at h;rw[cW,cW,beq_iff_eq,beq_iff_eq,beq_iff_eq]at h;rcases h with(h|h) |h
 ·exact .inl (o.loc x h)
 ·exact .inr (.inl (o.cel x h))
 ·rcases o.fre x h with q|q
  ·exact .inr (.inl q)
  ·exact .inr (.inr q)
theorem Ok.gl(o:Ok CX G E sc N all X)(h:pX sc x=true):Gl X x:=by
 unfold pX at h;rw[beq_iff_eq]at h;exact o.glo x h
theorem qx(h:AE x=true):(x==("__debug__":Str))=false/\(x==("__classdict__":Str))=false:=by
 unfold AE at h;rw[aH,beq_iff_eq,beq_iff_eq]at h;exact h
theorem rBin_ok:∀a,OpR X (d7 a) (jb X.K a)
 |.Add=>op_add.or (Cu.or (op_cat.or (op_catT.or op_cat0)))
 |.Sub=>op_sub
 |.Mult=>op_mul.or (op_rep.or op_repS)
 |.Mod=>op_mod
 |.FloorDiv=>op_fdiv
 |.Pow=>op_pow
 |.RShift=>op_shr
 |.MatMult=>fun _ _ _ _ _ _ _ _ _ _ _ _ h=>h.elim
 |.Div=>fun _ _ _ _ _ _ _ _ _ _ _ _ h=>h.elim
 |.LShift=>op_shl
 |.BitOr=>fun _ _ _ _ _ _ _ _ _ _ _ _ h=>h.elim
 |.BitXor=>op_xor
 |.BitAnd=>op_and
theorem ou(b:X.A.units+50<cLine):∀a,OpR X (cX a) (gP X.K a)
 |.Eq=>op_eqD (by lia)
 |.NotEq=>op_neD (by lia)
 |.Lt=>op_lt
 |.LtE=>op_le
 |.Gt=>op_gt
 |.GtE=>op_ge
 |.Is=>op_isN
 |.IsNot=>op_notN
 |.In=>(Fy.or (op_inD (by lia))).or Fz
 |.NotIn=>(y8.or (Fw (by lia))).or y9
theorem rSlc_ok:SlR X (Fn X.K):=sl_list.or (sl_tup.or sl_str)
theorem rBf_ok(a:X.calm=true)(c:X.A.units+50<cLine):∀b,fB X (Bf.val b) (rBf X.K b)
 |.len=>zI.or (zH.or Q.xf)
 |.isinstance=>Bi.or zJ
 |.all=>JK a
 |.list=>zG
 |.tuple=>xb
 |.set=>Q.F6 a
 |.min=>sF a
 |.max=>sG a
 |.int=>F9
 |.lend=>Bh
 |.sortl=>Q.zF
 |.sortt=>Q.zE (by lia)
 |.minl=>Q.F7 a (by lia)
 |.maxl=>Q.F8 a (by lia)
theorem Mm.slot:∀m:Mm,Slot "list" m.name m.id
 |.append=>PySem.F.slot_list_append|.clear=>PySem.F.slot_list_clear|.reverse=>PySem.F.slot_list_reverse|.pop=>PySem.F.slot_list_pop|.index=>PySem.F.slot_list_index|.extend=>PySem.F.slot_list_extend
theorem Mm.ty:∀m:Mm,typeOf (.builtin m.id)=pure (.type "method_descriptor")
 |.append=>PySem.F.type_list_append|.clear=>PySem.F.type_list_clear|.reverse=>PySem.F.type_list_reverse|.pop=>PySem.F.type_list_pop|.index=>PySem.F.type_list_index|.extend=>PySem.F.type_list_extend
theorem rMm_ok:∀m:Mm,MtR X m.id (rMm m)
 |.append=>FK|.clear=>Iw|.reverse=>Cy|.pop=>MtR.or (r:=fun _ _ _ _=>False) (fun _ _ _ _ _ _ _ _ _ _ _ _ h=>h.elim) Iv|.index=>fun _ _ _ _ _ _ _ _ _ _ _ _ h=>h.elim|.extend=>FJ
theorem EH(h:baseOk o=true)(a:Str)(env:Env)(t:Sem Value):attributeBase o a env t=t:=by
 cases o<;>first
  |rfl
  |exact dA h
  | (rename_i f es ks p;cases f<;>first
   |rfl
   |exact dA h)
theorem cC{c:CE}(h:dF sc N c e=true)(es:List Expr)(env:Env):b7 (e::es) env=(false,eval e env)::b7 es env:=by
 cases e<;>first
  |rfl
  | (cases c<;>exact dA h)
theorem oG{c:CE}{r:CL}{es:List Expr}(h:sE sc N (.cons c r) es=true):∃b d,es=b::d/\dF sc N c b=true/\sE sc N r d=true:=
 let⟨b,d,a,k⟩:=Ae h
 ⟨b,d,a,an k⟩
theorem qS{es:List Expr}(h:sE sc N .nil es=true):es=[]:=nil_of h
theorem v9:∀{l:CL}{es:List Expr},sE sc N l es=true->∀(a:Env)(pos:Pos),(backTo pos (b7 es a)).any (·.1)=false
 |.nil,es,h,a,pos=>by rw[qS h];rfl
 |.cons c r,es,h,a,pos=>by
  obtain⟨d,b,rfl,h1,h2⟩:=oG h;rw[cC h1];show(false||(backTo pos (b7 b a)).any (·.1))=false;rw[v9 h2];rfl
theorem stars{l:CL}{es:List Expr}(h:sE sc N l es=true)(d:(!es.isEmpty)=true):∃e es',es=e::es'/\∀(a:Env)(pos:Pos),b7 (e::es') a=(false,eval e a)::b7 es' a/\(backTo pos (b7 es' a)).any (·.1)=false:=by
 cases l with
 |nil=>
  obtain rfl:=qS h;exact dA d
 |cons c r=>
  obtain⟨b,f,rfl,h1,h2⟩:=oG h;exact⟨b,f,rfl,fun a pos=>⟨cC h1 _ _,v9 h2 _ _⟩⟩
theorem zc(h:isSet e=false)(env:Env):∀x,jC e env x=pure x:=by
 intro x;cases e<;>first
  |rfl
  | (exact absurd h (by simp[isSet]))
theorem oA(h:isSet e=false)(op:CmpOp):J2 op e=false:=by
 cases e<;>first
  |rfl
  | (exact absurd h (by simp[isSet]))
theorem Av(h:qJ e=false):EM e:=by
 intro o i;cases e<;>first
  |rfl
  | (exact absurd h (by simp[qJ]))
theorem ze(h:vN e=false)(t:Option Expr)(l:Nat)(env:Env):uD e t l env=pure false:=by
 cases e<;>first
  |rfl
  | (exact absurd h (by simp[vN]))
theorem pi_any{l:Expr}{tl:TE}(i:PE X l tl):PI X tg l (CU X.K tl):=by
 intro pins s σ H R I h;refine thn (i pins s σ H _ I h) fun v c ⟨x,H1,d,g,q1⟩=>?_;have key:∀{m:TE}{wi:TI},True:=fun{_ _}=>trivial;rcases q1 with q1|q1|q1
 ·obtain⟨a,e,⟨xs,hq⟩,q⟩:=q1
  subst e;cases g;obtain⟨its,k,p,j⟩:=d.list hq;refine oK p.isList ?_;refine⟨c.heap.objs.size,[c.heap.objs.size],_,_,H1,rfl,d.kept (t':=c.toks) fun b o e=>ag _ e,xl a _,⟨_,az _ rfl,rfl,rfl⟩,fun b f=>?_,q⟩;have e:b=c.heap.objs.size:=by simpa using f
  subst e;exact d.zx (ay _) (d.hok.fresh (ay _))
 ·obtain⟨a,e,⟨xs,hq⟩,q⟩:=q1
  subst e;cases g;obtain⟨its,k,p,j⟩:=d.tuple hq;refine gu (show c.heap.IsTuple a its.toArray from p) ?_;refine⟨c.heap.objs.size,[c.heap.objs.size],_,_,H1,rfl,d.kept (t':=c.toks) fun b o e=>ag _ e,uL a _,⟨_,az _ rfl,rfl,rfl⟩,fun b f=>?_,q⟩;have e:b=c.heap.objs.size:=by simpa using f
  subst e;exact d.zx (ay _) (d.hok.fresh (ay _))
 ·obtain⟨z,e,q⟩:=q1
  subst e;obtain⟨t,rfl⟩:=g;refine wpAny_pyIter_strU ?_;refine⟨c.heap.objs.size,[c.heap.objs.size],_,_,H1,rfl,d.kept (t':=c.toks) fun b o e=>ag _ e,GV z _ t,⟨_,az _ rfl,rfl,rfl⟩,fun b f=>?_,q⟩;have e:b=c.heap.objs.size:=by simpa using f
  subst e;exact d.zx (ay _) (d.hok.fresh (ay _))
end
set_option maxHeartbeats 4000000
section
variable {CX:CXT}{G:Gam}
structure oI(sc sc':Scope)(N own:List Str)(fr:List Nat):Prop where
 kind:sc'.kind=.function
 cellk:∀y∈sc'.names,y.2=.cell->sc'.names.lookup y.1=some .cell
 own1:∀y∈sc'.names,y.2=.local->sc'.names.lookup y.1=some .local
 free:∀y∈sc'.names,y.2=.free->sc.names.lookup y.1=some .cell\/sc.names.lookup y.1=some .free
 nd:(namesOf N own fr).Nodup
 fr:∀j∈fr,j<N.length/\sc'.names.lookup (N.getD j "")=some .free
 own2:∀x∈own,sc'.names.lookup x=some .local\/sc'.names.lookup x=some .cell
theorem u7{own:List Str}{fr:List Nat}(h:za sc sc' N own fr=true):oI sc sc' N own fr:=by
 unfold za at h;simp only[aH,bB,decide_eq_true_eq,beq_iff_eq,cW]at h;obtain⟨⟨⟨⟨⟨⟨h1,h2⟩,a⟩,b⟩,c⟩,d⟩,e⟩:=h;exact⟨h1,h2,a,b,c,d,e⟩
theorem oI.comp{E:XS}{own:List Str}{fr:List Nat}{all:Bool}(S:oI sc sc' N own fr)(o:Ok CX G E sc N all X):oJ X (namesOf N own fr) sc':=
 ⟨S.kind,S.cellk,S.own1,fun y a hf=>by
  rcases S.free y a hf with q|q
  ·exact .inl (o.cel _ q)
  ·exact o.fre _ q⟩
theorem oI.mkOk{E:XS}{own:List Str}{fr:List Nat}{all:Bool}(S:oI sc sc' N own fr)(o:Ok CX G E sc N all X):MkOk X (namesOf N own fr) sc' (lX own fr):=by
 intro σ d;refine⟨by simp[lX,namesOf],fun i x v h1 h2=>?_⟩;unfold lX at h2;unfold namesOf at h1;by_cases hi:i<own.length
 ·rw[cH (by simpa using hi),av]at h2
  cases q:own[i]? with
  |none=>rw[q]at h2;cases h2
  |some z=>rw[q]at h2;cases h2
 ·rw[bV (by simpa using hi),av,ai]at h2
  rw[bV (by simpa using hi),av]at h1;cases q:fr[i-own.length]? with
  |none=>rw[q]at h2;cases h2
  |some j=>
   rw[q]at h1 h2;have b:N.getD j ""=x:=a6 h1;have a:(σ[j]?).getD none=some v:=a6 h2;obtain⟨c,hf⟩:=S.fr j (aC q);refine⟨by rw[<-b];exact hf,j,?_,?_⟩
   ·rw[o.names,<-b,ae,aa c];rfl
   ·cases w:σ[j]? with
    |none=>rw[w]at a;cases a
    |some z=>rw[w]at a;exact congrArg some a
noncomputable abbrev HX(CX:CXT):Prop:=∀o H s e s',CX o H s E0 e s'->False
theorem Ok.comp{E:XS}{own:List Str}{fr:List Nat}{all:Bool}(b:HX CX)(S:oI sc sc' N own fr)(o:Ok CX G E sc N all X)(C:Addr)(c:Shared)(a:Hp)(fp:List Addr):
  Ok CX G N0 sc' (namesOf N own fr) false (dJ X (namesOf N own fr) sc' C c a fp) where
 names:=rfl
 nd:=S.nd
 loc:=fun x h=>lookup_relabel_local (env:=X.env) h
 cel:=fun x h=>fX (env:=X.env) h (by decide)
 own:=fun x h=>b8.mpr ⟨(x,.cell),bu h,by simp⟩
 fre:=fun x h=>(gG (env:=X.env) h).symm
 glo:=fun x h=>fX (env:=X.env) h (by decide)
 all:=fun h=>absurd h (by decide)
 calm:=o.calm
 hu:=o.hu
 val:=o.val
 fn:=o.fn
 ini:=o.ini
 dic:=o.dic
 mak:=o.mak
 mth:=o.mth
 blt:=o.blt
 px:=PassesOwn.never
 pass:=fun _ _ _ _ _ _ _ h=>(b _ _ _ _ _ h).elim
 made:=fun _ _ _ _ _ _ _ _ _ _ h=>h.elim
 madeX:=fun _ _ _ _ _ _ _ _ _ h=>h.elim
 cx:=o.cx
 top:=fun h=>absurd h (by decide)
theorem qz{all:Bool}{g:CG}(h:xa sc N all g e=true)(es:List Expr)(env:Env):iu (e::es) env=(false,assign e env)::iu es env:=by
 cases e<;>first
  |rfl
  | (cases g<;>exact dA h)
theorem wa{all:Bool}{g:CG}{r:CGs}{es:List Expr}(h:wb sc N all (.cons g r) es=true):∃b c,es=b::c/\xa sc N all g b=true/\wb sc N all r c=true:=
 let⟨b,c,a,k⟩:=Ae h
 ⟨b,c,a,an k⟩
theorem xX{all:Bool}{es:List Expr}(h:wb sc N all .nil es=true):es=[]:=nil_of h
theorem tm{all:Bool}:∀{d:CGs}{es:List Expr},wb sc N all d es=true->∀c,(iu es c).length=d.len/\(iu es c).findIdx? (·.1)=none
 |.nil,es,h,c=>by rw[xX h];exact⟨rfl,rfl⟩
 |.cons g r,es,h,c=>by
  obtain⟨e,f,rfl,h1,h2⟩:=wa h;obtain⟨a,b⟩:=tm h2 c;rw[qz h1];refine⟨by rw[bg,a,CGs.len],?_⟩;rw[List.findIdx?_cons];simp[b]
end
section
variable {CX:CXT}{G:Gam}
noncomputable abbrev IHE(CX:CXT)(G:Gam)(c:CE):Prop:=∀(e:Expr){E:XS}{sc:Scope}{N:List Str}{all:Bool}{X:Cx},Ok CX G E sc N all X->dF sc N c e=true->PE X e (wpE G X.K E c)
noncomputable abbrev IHT(CX:CXT)(G:Gam)(c:CE):Prop:=∀(e:Expr){E:XS}{sc:Scope}{N:List Str}{all:Bool}{X:Cx},Ok CX G E sc N all X->dF sc N c e=true->PT X e (wpT G X.K E c)
noncomputable def isBo:Expr->Bool
 |.BoolOp .. =>true
 |_=>false
theorem isBo_of(h:isBo e=true):∃a es p,e=.BoolOp a es p:=by
 cases e<;>first
  |exact⟨_,_,_,rfl⟩
  |exact dA h
noncomputable abbrev IHW(CX:CXT)(G:Gam)(c:CE):Prop:=∀(e:Expr){E:XS}{sc:Scope}{N:List Str}{all:Bool}{X:Cx},Ok CX G E sc N all X->dF sc N c e=true->isBo e=true->PW X e (wpT G X.K E c)
noncomputable abbrev IHL(CX:CXT)(G:Gam)(c:CL):Prop:=∀(es:List Expr){E:XS}{sc:Scope}{N:List Str}{all:Bool}{X:Cx},Ok CX G E sc N all X->sE sc N c es=true->PA X es (wpL G X.K E c)
noncomputable abbrev IHP(CX:CXT)(G:Gam)(c:CP):Prop:=∀(ks:List (Option Expr))(vs:List Expr){E:XS}{sc:Scope}{N:List Str}{all:Bool}{X:Cx},Ok CX G E sc N all X->chkP sc N c ks vs=true->∀pos,
  PPs X pos ks vs (wpP G X.K E c)/\ks.all (·.isSome)=true/\ks.length=vs.length/\(c≠.nil->ks≠[])
noncomputable abbrev IHO(CX:CXT)(G:Gam)(c:CO):Prop:=∀(e:Option Expr){E:XS}{sc:Scope}{N:List Str}{all:Bool}{X:Cx},Ok CX G E sc N all X->chkO sc N c e=true->PO X e (wpO G X.K E c)
noncomputable abbrev IHC(CX:CXT)(G:Gam)(c:CO):Prop:=∀(es:List Expr){E:XS}{sc:Scope}{N:List Str}{all:Bool}{X:Cx},Ok CX G E sc N all X->chkC sc N c es=true->PTs X es (wpC G X.K E c)
noncomputable abbrev IHG(CX:CXT)(G:Gam)(c:CG):Prop:=∀(e:Expr){E:XS}{sc:Scope}{N:List Str}{all:Bool}{X:Cx},Ok CX G E sc N all X->xa sc N all c e=true->PG X e (wpG G X.K E c)
noncomputable abbrev JV(CX:CXT)(G:Gam)(c:CGs):Prop:=∀(es:List Expr){E:XS}{sc:Scope}{N:List Str}{all:Bool}{X:Cx},Ok CX G E sc N all X->wb sc N all c es=true->PGs X es (wpGs G X.K E c)
noncomputable abbrev IHI(CX:CXT)(G:Gam)(c:CI):Prop:=∀(e tg:Expr){E:XS}{sc:Scope}{N:List Str}{all:Bool}{X:Cx},Ok CX G E sc N all X->chkI sc N c e tg=true->PI X tg e (wpI G X.K E c)
theorem Hl:IHE CX G (.var i):=by
  intro e E sc N all X o h;obtain⟨x,p,rfl,k⟩:=me h;obtain⟨h1,h2,c⟩:=jz k;obtain⟨a,b⟩:=qx c;exact pe_var (by rw[o.names];exact beq_iff_eq.mp h1) (o.vis h2) a b
theorem Hq{c:Const}:IHE CX G (.con c):=by
  intro e E sc N all X o h;obtain⟨c',j,p,rfl,k⟩:=JA h;obtain⟨h1,h2⟩:=an k;cases of_decide_eq_true h2;cases c with
  |none=>exact pe_non
  |bool b=>exact pe_bl
  |int i=>exact pe_int
  |str x=>exact pe_str
  |_=>exact dA h1
theorem Ho:IHE CX G (.glo x):=by
  intro e E sc N all X o h;obtain⟨y,p,rfl,k⟩:=me h;obtain⟨h1,h2,a⟩:=jz k;cases of_decide_eq_true h1;intro pins s σ H Q I d;obtain⟨v,c,q⟩:=d;obtain⟨u,b,r⟩:=o.val _ _ c;exact pe_glob (o.gl h2) b r (qx a).1 pins s σ H Q I q
theorem sE_ty{t:Ty}:IHE CX G (.ty t):=by
  intro e E sc N all X o h;obtain⟨y,p,rfl,k⟩:=me h;obtain⟨h1,h2⟩:=an k;cases of_decide_eq_true h1;exact pe_bltn (o.gl h2) (o.blt _ t.mem) t.boot rfl t.plain.1 t.plain.2
theorem sE_bin{op:Operator}{a b:CE}(d:IHE CX G a)(f:IHE CX G b):IHE CX G (.bin op a b):=by
  intro e E sc N all X o h;obtain⟨g,j,i,p,rfl,k⟩:=dBi_of h;obtain⟨h1,h2,c⟩:=jz k;cases of_decide_eq_true h1;exact pe_op (rBin_ok op) (d _ o h2) (f _ o c)
theorem sE_cmp{op:CmpOp}{a b:CE}(d:IHE CX G a)(f:IHE CX G b):IHE CX G (.cmp op a b):=by
  intro e E sc N all X o h;obtain⟨g,j,i,p,rfl,h0,k⟩:=JC h;obtain⟨h1,h2,c⟩:=jz k;cases of_decide_eq_true h1;exact pe_cmpR (ou o.hu op) (d _ o h2) (f _ o c) (oA h0 op)
theorem Hr{o1 o2:CmpOp}{a b c:CE}(j:IHE CX G a)(q:IHE CX G b)(r:IHE CX G c):IHE CX G (.chain o1 o2 a b c):=by
  intro e E sc N all X o h;obtain⟨s,os,es,p,rfl,k⟩:=C2 h;obtain⟨p',u,rfl,l⟩:=xN k;obtain⟨t,c',rfl,m⟩:=xN l;obtain⟨h1,h2,d,n⟩:=rD m;obtain⟨f,g,i⟩:=jz n;cases of_decide_eq_true h1;cases of_decide_eq_true h2;exact HV (ou o.hu o1) (ou o.hu o2) (j _ o f) (q _ o g) (r _ o i) (oA (tQ d) o2)
theorem sE_not{a:CE}(b:IHE CX G a):IHE CX G (.not a):=by
  intro e E sc N all X o h;obtain⟨d,c,p,rfl,k⟩:=Jv h;obtain⟨h1,h2⟩:=an k;cases of_decide_eq_true h1;exact pe_not (b _ o h2)
theorem sE_and{a b:CE}(d:IHE CX G a)(f:IHE CX G b):IHE CX G (.and a b):=by
  intro e E sc N all X o h;obtain⟨j,g,x,p,k,m⟩:=sD h;obtain⟨h1,h2,c⟩:=jz k;cases of_decide_eq_true h1;rcases m with rfl|⟨i,c',r,rfl,rfl⟩
  ·exact HZ (d _ o h2) (HR (f _ o c))
  ·exact HZ (d _ o h2) (f _ o c)
theorem sE_or{a b:CE}(d:IHE CX G a)(f:IHE CX G b):IHE CX G (.or a b):=by
  intro e E sc N all X o h;obtain⟨j,g,x,p,k,m⟩:=sD h;obtain⟨h1,h2,c⟩:=jz k;cases of_decide_eq_true h1;rcases m with rfl|⟨i,c',r,rfl,rfl⟩
  ·exact pe_or (d _ o h2) (HR (f _ o c))
  ·exact pe_or (d _ o h2) (f _ o c)
theorem sE_ite{c a b:CE}(i:IHT CX G c)(f:IHE CX G a)(g:IHE CX G b):IHE CX G (.ite c a b):=by
  intro e E sc N all X o h;obtain⟨c',j,l,p,rfl,k⟩:=dIf_of h;obtain⟨h1,h2,d⟩:=jz k;exact HS (i _ o h1) (f _ o h2) (g _ o d)
theorem Hn{a i:CE}(c:IHE CX G a)(d:IHE CX G i):IHE CX G (.idx a i):=by
  intro e E sc N all X o h;obtain⟨f,g,p,rfl,k⟩:=vX h;obtain⟨h1,h2,b⟩:=jz k;exact pe_ix ix_seq (c _ o h2) (d _ o b) (Av (tQ h1))
theorem sE_cut{a:CE}{lo hi:CO}(d:IHE CX G a)(g:IHO CX G lo)(f:IHO CX G hi):IHE CX G (.cut a lo hi):=by
  intro e E sc N all X o h;obtain⟨i,s,p,rfl,k⟩:=vX h;obtain⟨l,u,t,p',rfl,m⟩:=dSl_of k;obtain⟨h1,h2,n⟩:=jz m;obtain⟨b,c⟩:=an n;cases gR.mp h1;exact HQ rSlc_ok (d _ o h2) (g _ o b) (f _ o c)
theorem sE_tup{es:CL}(a:IHL CX G es):IHE CX G (.tup es):=by
  intro e E sc N all X o h;obtain⟨es',j,p,rfl,k⟩:=Jw h;exact pe_tup (a _ o k)
theorem sE_lst{es:CL}(a:IHL CX G es):IHE CX G (.lst es):=by
  intro e E sc N all X o h;obtain⟨es',p,rfl,k⟩:=dLi_of h;exact pe_lst (a _ o k)
theorem DC{f:Str}{es:CL}(q:IHL CX G es):IHE CX G (.call f es):=by
  intro e E sc N all X o h;obtain⟨r,np,es',p,rfl,k⟩:=kD h;obtain⟨h1,h2,c,b⟩:=rD k;cases of_decide_eq_true h1;intro pins s σ H Q I a;obtain⟨sp,dvs,hf,a⟩:=a;obtain⟨fa,fd,ps,ds,k,F,l,j,i,d,g⟩:=o.fn _ _ _ _ hf;cases es' with
  |nil=>
   cases es with
   |nil=>exact Ft F l (o.gl h2) j i d g o.pass (qx c).1 pins s σ H Q I a
   |cons=>exact dA b
  |cons e1 r1=>
   have n:=q _ o b;obtain⟨_,_,e,m⟩:=stars b rfl;cases e;exact HW F l (o.gl h2) j i d g o.pass n (qx c).1 (m _ p).1 (m _ _).2 pins s σ H Q I a
theorem Bf.kind:∀b:Bf,(∃n,b.val=.builtin n)\/∃n,b.val=.type n:=by intro b;cases b<;>first |exact .inl ⟨_,rfl⟩ |exact .inr ⟨_,rfl⟩
theorem pe_bf{b:Bf}{np:Pos}{es:List Expr}{t:TA}{l:CL}(a:fB X b.val (rBf X.K b))(g:Gl X b.name)(i:X.mg b.name=none)(f:PA X es t)(j:(!es.isEmpty)=true)(h:sE sc N l es=true):PE X (.Call (.Name b.name np) es [] pos) (tCB (rBf X.K b) t):=by
 obtain⟨e,es',rfl,c⟩:=stars h j;have d:=b.boot;rcases b.kind with⟨n,q⟩ |⟨n,q⟩
 ·rw[q]at a d
  exact HY a g i d f b.plain.1 b.plain.2 (c _ pos).1 (c _ _).2
 ·rw[q]at a d
  exact Fs a g i d f b.plain.1 b.plain.2 (c _ pos).1 (c _ _).2
theorem Hs{b:Bf}{es:CL}(d:IHL CX G es):IHE CX G (.bfn b es):=by
  intro e E sc N all X o h;obtain⟨f,np,es',p,rfl,k⟩:=kD h;obtain⟨h1,h2,c,a⟩:=rD k;cases of_decide_eq_true h1;exact pe_bf (rBf_ok o.calm o.hu b) (o.gl h2) (o.blt _ b.mem) (d _ o a) c a
theorem Hm{m:Mm}{b a:CE}(f:IHE CX G b)(d:IHE CX G a):IHE CX G (.meth1 m b a):=by
  intro e E sc N all X o h;obtain⟨o',i,es,j,rfl,h0,k⟩:=Jy h;obtain⟨g,rfl,l⟩:=k9 k;obtain⟨h1,h2,c⟩:=jz l;exact pe_bm PySem.F.plainAttrs_list m.slot m.ty (rMm_ok m) (f _ o h2) (iD (d _ o c) lY (cC c _ _)) (EH h1 _ _ _) (by rw[cC c];rfl) h0 (cC c _ _) rfl
theorem sE_idxd{a i:CE}(c:IHE CX G a)(d:IHE CX G i):IHE CX G (.idxd a i):=by
  intro e E sc N all X o h;obtain⟨f,g,p,rfl,k⟩:=vX h;obtain⟨h1,h2,b⟩:=jz k;exact pe_ix (ix_dict (by have :=o.hu;lia)) (c _ o h2) (d _ o b) (Av (tQ h1))
theorem sE_dicT:IHE CX G .dicT:=by
  intro e E sc N all X o h;obtain⟨ks,vs,p,rfl,k⟩:=dDi_of h;obtain⟨a,b⟩:=an k;obtain rfl:=nil_of a;obtain rfl:=nil_of b;exact HU
theorem sE_setd{b a c:CE}(i:IHE CX G b)(g:IHE CX G a)(j:IHE CX G c):IHE CX G (.setd b a c):=by
  intro e E sc N all X o h;obtain⟨o',p,es,r,rfl,h0,k⟩:=Jy h;obtain⟨n,q,rfl,l⟩:=xN k;obtain⟨h1,h2,m⟩:=jz l;obtain⟨d,f⟩:=an m;exact pe_bm PySem.F.plainAttrs_dict wA PySem.F.type_dict_setdefault (FI (by have :=o.hu;lia)) (i _ o h2) (iD (g _ o d) (iD (j _ o f) lY (cC f _ _)) (cC d _ _)) (EH h1 _ _ _) (by rw[cC d,cC f];rfl) h0 (cC d _ _) (by rw[cC f];rfl)
theorem Cd{a:CE}(c:IHE CX G a):IHE CX G (.sortset a):=by
  intro e E sc N all X o h;obtain⟨p,d,q,r,t,rfl,h1,h2,b⟩:=Jz h;exact Cm o.calm (o.gl h1) (o.blt _ (by decide+kernel)) (o.gl h2) (o.blt _ (by decide+kernel)) (iD (c _ o b) lY (cC b _ _)) (cC b _ _)
theorem sE_lrev{a:CE}(c:IHE CX G a):IHE CX G (.lrev a):=by
  intro e E sc N all X o h;obtain⟨p,d,q,r,t,rfl,h1,h2,b⟩:=Jz h;exact pe_lrev o.calm (o.gl h1) (o.blt _ (by decide+kernel)) (o.gl h2) (o.blt _ (by decide+kernel)) (iD (c _ o b) lY (cC b _ _)) (cC b _ _)
theorem sE_comp(b:HX CX){own:List Str}{fr:List Nat}{tg:CG}{it:CI}{d:CO}{elt:CE}(t:IHI CX G it)(s:IHG CX G tg)(q:IHC CX G d)(r:IHE CX G elt):IHE CX G (.comp own fr tg it d elt):=by
  intro e E sc N all X o h;obtain⟨u,v,sc',p,rfl,k⟩:=C1 h;obtain⟨⟨z,x,w,y⟩,rfl,l⟩:=k9 k;obtain⟨h1,h2,f,m⟩:=rD l;obtain⟨g,i,j,n⟩:=rD m;cases of_decide_eq_true h1;have S:=u7 h2;exact pe_comp (S.comp o) (S.mkOk o) o.calm (t _ _ o g)
   (fun C c a fp _=>⟨s _ (o.comp b S C c a fp) i,q _ (o.comp b S C c a fp) j,r _ (o.comp b S C c a fp) n⟩) (zc (tQ f) _)
theorem sT_cmp{op:CmpOp}{a b:CE}(d:IHE CX G a)(f:IHE CX G b):IHT CX G (.cmp op a b):=by
  intro e E sc N all X o h;obtain⟨g,j,i,p,rfl,h0,k⟩:=JC h;obtain⟨h1,h2,c⟩:=jz k;cases of_decide_eq_true h1;exact pt_cmpR (ou o.hu op) (d _ o h2) (f _ o c) (oA h0 op)
theorem Hi{o1 o2:CmpOp}{a b c:CE}(j:IHE CX G a)(q:IHE CX G b)(r:IHE CX G c):IHT CX G (.chain o1 o2 a b c):=by
  intro e E sc N all X o h;obtain⟨s,os,es,p,rfl,k⟩:=C2 h;obtain⟨p',u,rfl,l⟩:=xN k;obtain⟨t,c',rfl,m⟩:=xN l;obtain⟨h1,h2,d,n⟩:=rD m;obtain⟨f,g,i⟩:=jz n;cases of_decide_eq_true h1;cases of_decide_eq_true h2;exact HG (ou o.hu o1) (ou o.hu o2) (j _ o f) (q _ o g) (r _ o i) (oA (tQ d) o2)
theorem sT_not{a:CE}(b:IHT CX G a):IHT CX G (.not a):=by
  intro e E sc N all X o h;obtain⟨d,c,p,rfl,k⟩:=Jv h;obtain⟨h1,h2⟩:=an k;cases of_decide_eq_true h1;exact pt_not (b _ o h2)
theorem sT_var:IHT CX G (.var i):=by
  intro e E sc N all X o h;have q:=Hl e o h;obtain⟨x,p,rfl,k⟩:=me h;exact kX q fun _=>rfl
theorem sT_con{c:Const}:IHT CX G (.con c):=by
  intro e E sc N all X o h;have q:=Hq e o h;obtain⟨x,j,p,rfl,k⟩:=JA h;exact kX q fun _=>rfl
theorem sT_glo:IHT CX G (.glo x):=by
  intro e E sc N all X o h;have q:=Ho e o h;obtain⟨x,p,rfl,k⟩:=me h;exact kX q fun _=>rfl
theorem sT_idx{a i:CE}(b:IHE CX G a)(c:IHE CX G i):IHT CX G (.idx a i):=by
  intro e E sc N all X o h;have q:=Hn b c e o h;obtain⟨x,y,p,rfl,k⟩:=vX h;exact kX q fun _=>rfl
theorem sT_call{f:Str}{es:CL}(a:IHL CX G es):IHT CX G (.call f es):=by
  intro e E sc N all X o h;have q:=DC a e o h;obtain⟨x,np,es,p,rfl,k⟩:=kD h;exact kX q fun _=>rfl
theorem sT_bfn{b:Bf}{es:CL}(a:IHL CX G es):IHT CX G (.bfn b es):=by
  intro e E sc N all X o h;have q:=Hs a e o h;obtain⟨x,np,es,p,rfl,k⟩:=kD h;exact kX q fun _=>rfl
theorem Hh{a b:CE}(d:IHT CX G a)(f:IHT CX G b)(g:IHW CX G b):IHW CX G (.and a b):=by
  intro e E sc N all X o h;obtain⟨l,i,x,p,k,m⟩:=sD h;obtain⟨h1,h2,c⟩:=jz k;cases of_decide_eq_true h1;rcases m with rfl|⟨j,c',r,rfl,rfl⟩
  ·exact fun _=>HC (d _ o h2) (pw_and1 (f _ o c))
  ·exact fun _=>HC (d _ o h2) (g _ o c rfl)
theorem sT_and{a b:CE}(c:IHW CX G (.and a b)):IHT CX G (.and a b):=by
  intro e E sc N all X o h;obtain⟨g,d,x,p,k,m⟩:=sD h;exact(c _ o h (by rcases m with rfl|⟨f,c',r,rfl,rfl⟩<;>rfl)).pt
theorem sW_or{a b:CE}(d:IHT CX G a)(f:IHT CX G b)(g:IHW CX G b):IHW CX G (.or a b):=by
  intro e E sc N all X o h;obtain⟨l,i,x,p,k,m⟩:=sD h;obtain⟨h1,h2,c⟩:=jz k;cases of_decide_eq_true h1;rcases m with rfl|⟨j,c',r,rfl,rfl⟩
  ·exact fun _=>pw_or (d _ o h2) (pw_or1 (f _ o c))
  ·exact fun _=>pw_or (d _ o h2) (g _ o c rfl)
theorem sT_or{a b:CE}(c:IHW CX G (.or a b)):IHT CX G (.or a b):=by
  intro e E sc N all X o h;obtain⟨g,d,x,p,k,m⟩:=sD h;exact(c _ o h (by rcases m with rfl|⟨f,c',r,rfl,rfl⟩<;>rfl)).pt
theorem sL_nil:IHL CX G .nil:=by
  intro es E sc N all X o h;obtain rfl:=qS h;exact lY
theorem sL_cons{c:CE}{r:CL}(a:IHE CX G c)(b:IHL CX G r):IHL CX G (.cons c r):=by
  intro es E sc N all X o h;obtain⟨d,e,rfl,h1,h2⟩:=oG h;exact iD (a _ o h1) (b _ o h2) (cC h1 _ _)
theorem sP_nil:IHP CX G .nil:=by
  intro ks vs E sc N all X o h pos;obtain⟨h1,h2⟩:=an h;obtain rfl:=nil_of h1;obtain rfl:=nil_of h2;exact⟨pps_nil,rfl,rfl,fun z=>absurd rfl z⟩
theorem sP_cons{k v:CE}{r:CP}(c:IHP CX G r)(b:IHE CX G k)(d:IHE CX G v):IHP CX G (.cons k v r):=by
  intro ks vs E sc N all X o h pos;obtain⟨e,f,rfl,l⟩:=Ae h;obtain⟨g,i,rfl,m⟩:=Ae l;obtain⟨e,rfl,n⟩:=Ig m;obtain⟨h1,h2,a⟩:=jz n;obtain⟨p1,p2,p3,_⟩:=c _ _ o a pos;exact⟨HK (b _ o h1) (d _ o h2) p1,by simp[p2],by simp[p3],fun _=>by simp⟩
theorem sO_no:IHO CX G .no:=by
  intro e E sc N all X o h;obtain rfl:=gR.mp h;exact po_none
theorem sO_yes{c:CE}(a:IHE CX G c):IHO CX G (.yes c):=by
  intro e E sc N all X o h;obtain⟨b,rfl,k⟩:=Ig h;exact po_some (a _ o k)
theorem sC_no:IHC CX G .no:=by
  intro es E sc N all X o h;obtain rfl:=nil_of h;exact pts_nil
theorem sC_yes{c:CE}(a:IHT CX G c):IHC CX G (.yes c):=by
  intro es E sc N all X o h;obtain⟨b,rfl,k⟩:=k9 h;exact pts_one (a _ o k)
theorem sG_name:IHG CX G (.name i):=by
  intro e E sc N all X o h;obtain⟨x,p,rfl,k⟩:=me h;rw[aH,cW,beq_iff_eq,beq_iff_eq,beq_iff_eq]at k;obtain⟨h1,h2⟩:=k;refine DP (by rw[o.names];exact o.nd) (by rw[o.names];exact h1) ?_ ?_
  ·rcases h2 with q|q
   ·exact .inl (o.loc x q)
   ·exact .inr (o.cel x q)
  ·rcases h2 with q|q
   ·exact .inr (o.loc x q)
   ·exact .inl (o.own x q)
theorem sG_tup{c:CGs}(d:JV CX G c):IHG CX G (.tup c):=by
  intro e E sc N all X o h;obtain⟨es,j,p,rfl,k⟩:=Jw h;obtain⟨a,b⟩:=tm k X.env;exact pg_tup o.calm (d _ o k) a b
theorem sG_sub{b i:CE}(d:IHE CX G b)(f:IHE CX G i):IHG CX G (.sub b i):=by
  intro e E sc N all X o h;obtain⟨o',c,p,rfl,k⟩:=vX h;obtain⟨h1,h2,a⟩:=jz k;refine pg_sub (d _ o h2) (f _ o a) set_list fun v=>?_;cases c<;>first
   |rfl
   |exact dA h1
theorem sGs_nil:JV CX G .nil:=by
  intro es E sc N all X o h;obtain rfl:=xX h;exact pgs_nil
theorem Hk{c:CG}{r:CGs}(a:IHG CX G c)(b:JV CX G r):JV CX G (.cons c r):=by
  intro es E sc N all X o h;obtain⟨d,e,rfl,h1,h2⟩:=wa h;exact HN (a _ o h1) (b _ o h2) (by rw[qz h1];rfl)
theorem sI_seq{c:CE}(a:IHE CX G c):IHI CX G (.seq c):=by
  intro e tg E sc N all X o h;exact pi_any (a _ o h)
theorem sI_lseq{c:CE}(a:IHE CX G c):IHI CX G (.lseq c):=by
  intro e tg E sc N all X o h;exact pi_list (a _ o h)
theorem sI_tseq{c:CE}(a:IHE CX G c):IHI CX G (.tseq c):=by
  intro e tg E sc N all X o h;exact pi_tup (a _ o h)
theorem Fi{c:CE}(b:IHE CX G c):IHI CX G (.range1 c):=by
  intro e tg E sc N all X o h;obtain⟨f,np,es,p,rfl,k⟩:=kD h;obtain⟨d,rfl,l⟩:=k9 k;obtain⟨h1,h2,a⟩:=jz l;cases of_decide_eq_true h1;exact Fq (o.gl h2) (o.blt _ (by decide+kernel)) (iD (b _ o a) lY (cC a _ _)) (cC a _ _)
theorem Fh{a b:CE}(g:IHE CX G a)(i:IHE CX G b):IHI CX G (.range2 a b):=by
  intro e tg E sc N all X o h;obtain⟨f,np,es,p,rfl,k⟩:=kD h;obtain⟨j,m,rfl,l⟩:=xN k;obtain⟨h1,h2,d,c⟩:=rD l;cases of_decide_eq_true h1;exact Fp (o.gl h2) (o.blt _ (by decide+kernel)) (iD (g _ o d) (iD (i _ o c) lY (cC c _ _)) (cC d _ _)) (by rw[cC d,cC c];rfl) (cC c _ _)
theorem FU(h:pV e=true):∃es k p,e=.Tuple es k p:=by cases e<;>first |exact⟨_,_,_,rfl⟩ |exact dA h
theorem Hj{c:CE}(d:IHE CX G c):IHI CX G (.enumt c):=by
  intro e tg E sc N all X o h;obtain⟨f,np,es,p,rfl,k⟩:=kD h;obtain⟨g,rfl,l⟩:=k9 k;obtain⟨h1,h2,a,b⟩:=rD l;cases of_decide_eq_true h1;obtain⟨es,j,p',rfl⟩:=FU b;exact HM (o.gl h2) (o.blt _ (by decide+kernel)) (iD (d _ o a) lY (cC a _ _)) (cC a _ _)
mutual
theorem bH(d:HX CX):∀c:CE,IHE CX G c
 |.var i=>Hl
 |.con c=>Hq
 |.glo x=>Ho
 |.ty t=>sE_ty
 |.bin op a b=>sE_bin (bH d a) (bH d b)
 |.cmp op a b=>sE_cmp (bH d a) (bH d b)
 |.chain o1 o2 a b c=>Hr (bH d a) (bH d b) (bH d c)
 |.not a=>sE_not (bH d a)
 |.and a b=>sE_and (bH d a) (bH d b)
 |.or a b=>sE_or (bH d a) (bH d b)
 |.ite c a b=>sE_ite (iS d c) (bH d a) (bH d b)
 |.idx a i=>Hn (bH d a) (bH d i)
 |.cut a lo hi=>sE_cut (bH d a) (He d lo) (He d hi)
 |.tup es=>sE_tup (pP d es)
 |.lst es=>sE_lst (pP d es)
 |.call f es=>DC (pP d es)
 |.bfn b es=>Hs (pP d es)
 |.meth1 m b a=>Hm (bH d b) (bH d a)
 |.idxd a i=>sE_idxd (bH d a) (bH d i)
 |.dicT=>sE_dicT
 |.setd b a c=>sE_setd (bH d b) (bH d a) (bH d c)
 |.sortset a=>Cd (bH d a)
 |.lrev a=>sE_lrev (bH d a)
 |.comp own fr tg it cond elt=>sE_comp d (B8 d it) (r8 d tg) (Hf d cond) (bH d elt)
theorem iS(d:HX CX)(c:CE):IHT CX G c:=by
 cases c with
 |cmp op a b=>exact sT_cmp (bH d a) (bH d b)
 |chain p q a b c=>exact Hi (bH d a) (bH d b) (bH d c)
 |not a=>exact sT_not (iS d a)
 |and a b=>exact sT_and (Hh (iS d a) (iS d b) (yI d b))
 |or a b=>exact sT_or (sW_or (iS d a) (iS d b) (yI d b))
 |var i=>exact sT_var
 |con c=>exact sT_con
 |glo x=>exact sT_glo
 |idx a i=>exact sT_idx (bH d a) (bH d i)
 |call f es=>exact sT_call (pP d es)
 |bfn b es=>exact sT_bfn (pP d es)
 |_=>exact fun _ _ _ _ _ _ _ _ _ _ _ _ _ _ z=>z.elim
theorem yI(d:HX CX)(c:CE):IHW CX G c:=by
 cases c with
 |and a b=>exact Hh (iS d a) (iS d b) (yI d b)
 |or a b=>exact sW_or (iS d a) (iS d b) (yI d b)
 |_=>
  intro e E sc N all X o h f;obtain⟨g,es,p,rfl⟩:=isBo_of f;exact dA h
theorem pP(a:HX CX):∀c:CL,IHL CX G c
 |.nil=>sL_nil
 |.cons c r=>sL_cons (bH a c) (pP a r)
theorem soundP(a:HX CX):∀c:CP,IHP CX G c
 |.nil=>sP_nil
 |.cons k v r=>sP_cons (soundP a r) (bH a k) (bH a v)
theorem He(a:HX CX):∀c:CO,IHO CX G c
 |.no=>sO_no
 |.yes c=>sO_yes (bH a c)
theorem Hf(a:HX CX):∀c:CO,IHC CX G c
 |.no=>sC_no
 |.yes c=>sC_yes (iS a c)
theorem r8(a:HX CX):∀c:CG,IHG CX G c
 |.name i=>sG_name
 |.tup gs=>sG_tup (Dy a gs)
 |.sub ob i=>sG_sub (bH a ob) (bH a i)
theorem Dy(a:HX CX):∀c:CGs,JV CX G c
 |.nil=>sGs_nil
 |.cons c r=>Hk (r8 a c) (Dy a r)
theorem B8(d:HX CX):∀c:CI,IHI CX G c
 |.seq c=>sI_seq (bH d c)
 |.lseq c=>sI_lseq (bH d c)
 |.tseq c=>sI_tseq (bH d c)
 |.range1 c=>Fi (bH d c)
 |.range2 a b=>Fh (bH d a) (bH d b)
 |.enumt c=>Hj (bH d c)
end
end
section
variable {CX:CXT}{G:Gam}
theorem vB{all:Bool}{g:CG}(h:xa sc N all g tg=true)(a:(pV tg&&pV e)=false)(env:Env):swappedStores [tg] e env=pure none:=by
 cases tg with
 |Tuple es k p=>
  cases e<;>first
   |rfl
   | (exact absurd a (by simp[pV]))
 |List es p=>cases g<;>exact dA h
 |_=>rfl
theorem Ai{a:Expr}{b:List Comprehension}{c:Scope}{d p:Pos}{l:Nat}{env:Env}(h:env.kindOf x≠some .local):uD (.ListComp a b c d) (some (.Name x p)) l env=pure false:=by
 show(pure (env.blockKind== .function&&env.kindOf x==some .local&&p.line==d.line&& !(c.names.any fun(n,k)=>n==x&&(k== .local||k== .cell))):Sem Bool)=pure false;have e:(env.kindOf x==some dS.local)=false:=by simpa using h
 rw[e,kU,dw,dw]
theorem B6{a:Expr}{b:List Comprehension}{c:Scope}{d p:Pos}{l:Nat}{env:Env}(g:env.scope.kind=.function)(h:env.kindOf x=some .local)(i:p.line=d.line)
  (j:(c.names.any fun y=>decide (y.1=x)&&(decide (y.2=.local)||decide (y.2=.cell)))=false):uD (.ListComp a b c d) (some (.Name x p)) l env=pure true:=by
 show(pure (env.blockKind== .function&&env.kindOf x==some .local&&p.line==d.line&& !(c.names.any fun(n,k)=>n==x&&(k== .local||k== .cell))):Sem Bool)=pure true;have e:env.blockKind=.function:=by unfold Env.blockKind;rw[g];rfl
 have f:(c.names.any fun(n,k)=>n==x&&(k==dS.local||k==cT))=false:=by
  rw[<-j];congr 1
 rw[e,h,i,f];simp
theorem C4{c:CE}(h:isCe c=true):∃own fr tg it a elt,c=.comp own fr tg it a elt:=by
 cases c with
 |comp own fr tg it a elt=>exact⟨_,_,_,_,_,_,rfl⟩
 |_=>exact dA h
theorem Io(h:vN e=false)(tg:Expr)(l:Nat)(env:Env):JZ [tg] e l env=pure false:=by
 unfold JZ;exact ze h _ _ _
structure OkL(G:Gam)(sc:Scope)(N:List Str)(X:Cx):Prop where
 names:X.N=N
 nd:N.Nodup
 loc:∀x,sc.names.lookup x=some .local->X.env.scope.names.lookup x=some .local
 cel:∀x,sc.names.lookup x=some .cell->X.env.scope.names.lookup x=some .cell
 fre:∀x,sc.names.lookup x=some .free->X.env.scope.names.lookup x=some .cell\/X.env.scope.names.lookup x=some .free
 glo:∀x,sc.names.lookup x=some .globalImplicit->X.env.scope.names.lookup x=some .globalImplicit
 all:∀x,X.fn x=true
 val:∀x v,G.val x=some v->∃u,X.mg x=some u/\RelV v u
 blt:∀x∈jf,X.mg x=none
mutual
theorem Hd(f:HX CX):∀(c:CS)(st:Stmt){E:XS}{sc:Scope}{N:List Str}{X:Cx},Ok CX G E sc N true X->(∀pins σ H s,Inv X pins σ H s->X.env.scope.kind=.function)->chkS sc N c st=true->PS X st (wpS G X.K E c)
 |.asg g e,st,E,sc,N,X,o,hk,h=>by
  obtain⟨z,u,p,rfl,k⟩:=JD h;obtain⟨h1,h2,j,n⟩:=rD k;exact HJ (bH f e _ o h2) (r8 f g _ o h1) (ze (tQ j) _ _ _) (vB h1 (tQ n) _) (by rw[qz h1];rfl)
 |.asgc i e,st,E,sc,N,X,o,hk,h=>by
  obtain⟨h0,h⟩:=an h;obtain⟨z,u,sp,rfl,k⟩:=JD h;obtain⟨x,p,rfl,l⟩:=me k;obtain⟨a,b,c,d,rfl,m⟩:=C1 l;obtain⟨h1,h2,j,n⟩:=rD m;rw[beq_iff_eq]at h1;rw[cW,beq_iff_eq,beq_iff_eq]at h2;rw[cW,beq_iff_eq]at n;obtain⟨own,fr,tg,it,B,elt,rfl⟩:=C4 h0;by_cases hl:X.env.scope.names.lookup x=some .local
  ·rcases n with q|q
   ·rw[o.cel x q]at hl;cases hl
   obtain⟨T,U⟩:=an q;obtain⟨a0,gs,sc',p',F,V⟩:=C1 j;cases F;obtain⟨⟨a3,a2,a1,y⟩,rfl,W⟩:=k9 V;obtain⟨J,K,L,Y⟩:=rD W;obtain⟨M,O,P,Q⟩:=rD Y;cases of_decide_eq_true J;have S:=u7 K;intro pins s σ H D I R;exact Ci (S.comp o) (S.mkOk o) o.calm (B8 f it _ _ o M)
    (fun C v t fp _=>⟨r8 f tg _ (o.comp f S C v t fp) O,Hf f B _ (o.comp f S C v t fp) P,bH f elt _ (o.comp f S C v t fp) Q⟩)
    (by rw[o.names];exact o.nd) (by rw[o.names];exact h1) hl (B6 (hk pins σ H s I) hl (of_decide_eq_true T) (tQ U)) (zc (tQ L) _) pins s σ H D I R
  ·have A:sc.names.lookup x=some .cell:=by
    rcases h2 with q|q
    ·exact absurd (o.loc x q) hl
    ·exact q
   exact ps_set (by rw[o.names];exact o.nd) (by rw[o.names];exact h1) (.inr (o.cel x A)) (bH f _ _ o j) (Ai (by rw[show X.env.kindOf x=_ from o.cel x A];decide)) (.inl (o.all rfl x))
 |.expr e,st,E,sc,N,X,o,hk,h=>by
  obtain⟨u,p,rfl,k⟩:=dEx_of h;obtain⟨h1,h2⟩:=an k;exact ps_expr (bH f e _ o h1) (ze (tQ h2) _ _ _)
 |.iff c a b,st,E,sc,N,X,o,hk,h=>by
  obtain⟨c',Z,w,p,rfl,k⟩:=dIs_of h;obtain⟨h1,h2,j⟩:=jz k;exact ps_if (iS f c _ o h1) (pQ f a _ o hk h2) (pQ f b _ o hk j)
 |.whl c b,st,E,sc,N,X,o,hk,h=>by
  obtain⟨c',w,p,rfl,k⟩:=dWh_of h;obtain⟨h1,h2⟩:=an k;exact HH o.px (iS f c _ o h1) (pQ f b _ o hk h2)
 |.forr g it b,st,E,sc,N,X,o,hk,h=>by
  obtain⟨z,i',w,p,rfl,k⟩:=dFo_of h;obtain⟨h1,h2,j,n⟩:=rD k;exact ps_for o.px o.calm (B8 f it _ _ o h2) (r8 f g _ o h1) (pQ f b _ o hk n) (zc (tQ j) _)
 |.ret e,st,E,sc,N,X,o,hk,h=>by
  obtain⟨r,p,rfl,k⟩:=Jx h;obtain⟨u,rfl,m⟩:=Ig k;exact ps_ret (bH f e _ o m)
 |.retN,st,E,sc,N,X,o,hk,h=>by
  obtain⟨r,p,rfl,k⟩:=Jx h;obtain rfl:=gR.mp k;exact ps_retN
 |.pass,st,E,sc,N,X,o,hk,h=>by
  cases st<;>first
   |exact ps_pass
   |exact dA h
 |.brk,st,E,sc,N,X,o,hk,h=>by
  cases st<;>first
   |exact HI
   |exact dA h
 |.cont,st,E,sc,N,X,o,hk,h=>by
  cases st<;>first
   |exact Au
   |exact dA h
theorem pQ(a:HX CX):∀(c:CB)(st:List Stmt){E:XS}{sc:Scope}{N:List Str}{X:Cx},Ok CX G E sc N true X->(∀pins σ H s,Inv X pins σ H s->X.env.scope.kind=.function)->wc sc N c st=true->PSs X st (wpB G X.K E c)
 |.hole,_,_,_,_,_,_,_,_=>fun _ _ _ _ _ _ z=>z.elim
 |.nil,st,E,sc,N,X,o,hk,h=>by
  obtain rfl:=nil_of h;exact pss_nil
 |.cons s r,st,E,sc,N,X,o,hk,h=>by
  obtain⟨s',b,rfl,k⟩:=Ae h;obtain⟨h1,h2⟩:=an k;exact vd (Hd a s _ o hk h1) (pQ a r _ o hk h2)
end
end
structure GOk(P:Program)(w:World)(K:ah)(mg:Str->Option Value)(base:Heap)(CX:CXT)(k:Nat)(G:Gam):Prop where
 val:∀x v,G.val x=some v->∃u,mg x=some u/\RelV v u
 fn:∀x n sp dvs,G.fn x n=some (sp,dvs)->∃f fd ps ds j,j<=k/\jV P w K mg base CX j f fd ps sp/\mg x=some (.ref f)/\cS K (.ref f)=true/\Binds K fd ps ds/\bE dvs ds
 ini:∀x n C sp dvs,G.ini x n=some (C,sp,dvs)->∃f fd ps ds j,j+1<=k/\MkX K C f/\jV P w K mg base CX j f fd ps sp/\mg x=some (.ref C)/\Binds K fd ps ds/\bE dvs ds
 dic:∀a kvs,G.dic a=some kvs->DkIn P w K a kvs
 mak:∀x n C sp dvs,G.mak x n=some (C,sp,dvs)->∃f fd ps ds j,j+1<=k/\Mk K C f/\jV P w K mg base CX j f fd ps sp/\mg x=some (.ref C)/\Binds K fd ps ds/\bE dvs ds
 mth:∀m n C sp dvs,G.mth m n=some (C,sp,dvs)->∃f fd ps ds j,j<=k/\Cls K C/\Meth K C m f/\jV P w K mg base CX j f fd ps sp/\Binds K fd ps ds/\bE dvs ds
 blt:∀x∈jf,mg x=none
noncomputable def qy(N ps:List Str)(sc:Scope):Bool:=
 decide (sc.kind=.function)&&decide (sc.isCoroutine=false)&&decide (sc.isGenerator=false)&&decide N.Nodup&&decide (N.take ps.length=ps)&&
 ps.all (fun x=>sc.names.lookup x==some .local||sc.names.lookup x==some .cell)&&sc.names.all (fun y=>decide (y.2≠.free))
theorem AF{ps:List Str}(h:qy N ps sc=true):uC N ps sc:=by
 unfold qy at h;simp only[aH,bB,decide_eq_true_eq,beq_iff_eq,cW]at h;obtain⟨⟨⟨⟨⟨⟨h1,h2⟩,a⟩,b⟩,c⟩,d⟩,e⟩:=h;exact⟨h1,h2,a,b,c,d,e⟩
section
variable {P:Program}{w:World}{K:ah}{mg:Str->Option Value}{base:Heap}
theorem Ih{ps:List Str}{G:Gam}{outer:List Env}{E:XK}(S:uC N ps sc)(g:GOk P w K mg base (CXx P w) k G)(h:j6 k (A.deeper (envOfC qual sc s.heap.objs.size f cdv))):Ok (CXx P w) G (fun _=>E) sc N true (zC (CXx P w) P w K mg base N qual sc f cdv A outer s H E):=
  {names:=rfl,top:=fun _=>⟨rfl,rfl,rfl⟩,nd:=S.nd,loc:=fun _ z=>z,cel:=fun _ z=>z,fre:=fun y z=>absurd rfl (S.nofree _ (bu z)),glo:=fun _ z=>z,all:=fun _ _=>rfl,own:=fun _ _=>rfl,calm:=rfl,
   hu:=by have :=h.units;show _+50<cLine;exact lR (Nat.add_le_add_left (by decide) _) this
   val:=g.val
   fn:=fun y n d dvs e=>by
    obtain⟨a,fd',ps',ds',j,hj,F',hm,hk,hb,b⟩:=g.fn y n d dvs e;exact⟨a,fd',ps',ds',j,F',h.mono hj,hm,hk,hb,b⟩
   ini:=fun y n C d dvs e=>by
    obtain⟨a,fd',ps',ds',j,hj,M,F',hm,hb,b⟩:=g.ini y n C d dvs e;exact⟨a,fd',ps',ds',j,M,F',h.mono hj,hm,hb,b⟩
   dic:=g.dic
   mak:=fun y n C d dvs e=>by
    obtain⟨a,fd',ps',ds',j,hj,M,F',hm,hb,b⟩:=g.mak y n C d dvs e;exact⟨a,fd',ps',ds',j,M,F',h.mono hj,hm,hb,b⟩
   mth:=fun y n C d dvs e=>by
    obtain⟨a,fd',ps',ds',j,hj,c,M,F',hb,b⟩:=g.mth y n C d dvs e;exact⟨a,fd',ps',ds',j,c,M,F',h.mono hj,hb,b⟩
   blt:=g.blt,px:=PassesOwn.leaving,pass:=Gc,made:=Gd,madeX:=C7,cx:=rfl}
theorem Jj{st:Stmt}{kV:Value}{an:Option Addr}{ps:List Str}{G:Gam}{sp:Sp}{a:CB}(j:K.lookup f=some ⟨oc,od,.func (aF x qual (bq st) (a8 st) (aP st) dV kV doc pm an cdv ct),osl⟩)(c:fg K cdv qual=true)(d:qy N ps (aP st)=true)(b:wc (aP st) N a (a8 st)=true)
  (g:GOk P w K mg base (CXx P w) k G)(len:∀vs H Q E,sp vs H Q E->vs.length=ps.length)
  (h:∀vs H Q E,sp vs H Q E->wpB G K (fun _=>E) a {nx:=fun _ H'=>Q .non H',rt:=Q} (start N vs) H):jV P w K mg base (CXx P w) (k+1) f (aF x qual (bq st) (a8 st) (aP st) dV kV doc pm an cdv ct) ps sp:=by
 have S:=AF d;refine fn_of j c S len fun A l s H vs Q E e i=>?_;exact⟨_,pQ (fun _ _ _ _ _ z=>F0 z) a _ (Ih S g e) (fun _ _ _ _ _=>S.kind) b,h vs H Q E i⟩
theorem El{st:Stmt}{fd:gK}{ps:List Str}{G:Gam}{sp:Sp}{a:CB}(F:Fun K x qual st f fd)(d:qy N ps (aP st)=true)(b:wc (aP st) N a (a8 st)=true)
  (g:GOk P w K mg base (CXx P w) k G)(len:∀vs H Q E,sp vs H Q E->vs.length=ps.length)
  (h:∀vs H Q E,sp vs H Q E->wpB G K (fun _=>E) a {nx:=fun _ H'=>Q .non H',rt:=Q} (start N vs) H):jV P w K mg base (CXx P w) (k+1) f fd ps sp:=by
 obtain⟨oc,od,kV,doc,pm,an,cdv,ct,osl,rfl,e,c⟩:=F.ex;exact Jj e c d b g len h
end
end R
namespace R
open PySem PySem.Spec PyProof.Rows L2
noncomputable def gam(vals:List (Str×V))(c:List ((Str×Nat)×(Sp×List V)))(d:List ((Str×Nat)×(Addr×Sp×List V)):=[]) (b:List (Addr×List (Key×V)):=[]) (e f:List ((Str×Nat)×(Addr×Sp×List V)):=[]):Gam:=⟨fun x=>vals.lookup x,fun x n=>c.lookup (x,n),fun x n=>d.lookup (x,n),fun a=>b.lookup a,fun x n=>e.lookup (x,n),fun m n=>f.lookup (m,n)⟩
theorem AO{c:Type}{b:c}:∀{l:List (Addr×c)},l.lookup a=some b->(a,b)∈l
 | [],h=>nomatch h
 | (k,v)::l,h=>by
  rw[bh]at h;cases q:(a==k)with
  |true=>
   rw[q]at h;cases h;rw[beq_iff_eq.mp q];exact aL
  |false=>
   rw[q]at h;exact aO _ (AO h)
section
variable {P:Program}{w:World}{K:ah}{mg:Str->Option Value}{base:Heap}{CX:CXT}
theorem GOk.start{vals:List (Str×V)}(f:∀x v,(x,v)∈vals->∃u,mg x=some u/\RelV v u)(c:∀x∈jf,mg x=none){b:List (Addr×List (Key×V))}(d:∀a kvs,(a,kvs)∈b->DkIn P w K a kvs:=by intro a kvs h;exact nomatch h):GOk P w K mg base CX 0 (gam vals [] [] b):=
 ⟨fun x v e=>f x v (bu e),fun x n sp dvs e=>(nomatch e),fun x n C sp dvs e=>(nomatch e),fun a kvs e=>d a kvs (AO (show jI a b=some kvs from e)),fun x n C sp dvs e=>(nomatch e),fun x n C sp dvs e=>(nomatch e),c⟩
theorem GOk.add{vals:List (Str×V)}{p:List ((Str×Nat)×(Sp×List V))}{fd:gK}{ps:List Str}{sp:Sp}{dvs:List V}{t u v:List ((Str×Nat)×(Addr×Sp×List V))}{s:List (Addr×List (Key×V))}(g:GOk P w K mg base CX k (gam vals p t s u v))
  (F:jV P w K mg base CX (k+1) f fd ps sp)(E:mg x=some (.ref f))(D:cS K (.ref f)=true)(A:Binds K fd ps ds)(B:bE dvs ds):GOk P w K mg base CX (k+1) (gam vals (((x,n),(sp,dvs))::p) t s u v):=by
 refine⟨g.val,fun y m b a e=>?_,fun y m C b a e=>?_,g.dic,fun y m C b a e=>?_,fun y m C b a e=>?_,g.blt⟩
 rotate_left
 rotate_left
 ·obtain⟨d,h,l,c,j,i,r⟩:=g.mak y m C b a e
  exact⟨d,h,l,c,j,eX i,r⟩
 ·obtain⟨d,h,l,c,j,i,r⟩:=g.mth y m C b a e
  exact⟨d,h,l,c,j,eX i,r⟩
 rotate_left
 ·obtain⟨d,h,l,c,j,i,r⟩:=g.ini y m C b a e
  exact⟨d,h,l,c,j,eX i,r⟩
 have o:jI (y,m) (((x,n),(sp,dvs))::p)=some (b,a):=e;rw[bh]at o;cases q:((y,m)==(x,n))with
 |true=>
  rw[q]at o;have z:(y,m)=(x,n):=eq_of_beq q;cases z;cases o;exact⟨f,fd,ps,ds,k+1,ay _,F,E,D,A,B⟩
 |false=>
  rw[q]at o;obtain⟨d,h,l,c,j,i,r⟩:=g.fn y m b a o;exact⟨d,h,l,c,j,eX i,r⟩
end
section
variable {K:ah}{H:Hp}{Q:VK}{i j:Int}
theorem sI:jb K .Add (.int i) (.int j) H Q↔Q (.int (i+j)) H:=by
 simp[jb,rI0,rCat,DK,DL]
theorem yz:jb K .Sub (.int i) (.int j) H Q↔Q (.int (i-j)) H:=by simp[jb,rI0]
theorem mul_ii:jb K .Mult (.int i) (.int j) H Q↔Df i j/\Q (.int (i*j)) H:=by simp[jb,rI,rRep,Hz]
theorem iG:jb K .Mod (.int i) (.int j) H Q↔0<j/\Q (.int (i%j)) H:=by simp[jb,rI]
theorem div_ii:jb K .FloorDiv (.int i) (.int j) H Q↔CDiv i j/\Q (.int (i/j)) H:=by simp[jb,rI]
theorem pow_ii:jb K .Pow (.int i) (.int j) H Q↔JW i j/\Q (.int (i^j.toNat)) H:=by simp[jb,rI]
theorem add_ss{y:Str}:jb K .Add (.str x) (.str y) H Q↔x.length+y.length<=sizeLine/\Q (.str (x++y)) H:=by simp[jb,rI0,rCat,DK,DL]
theorem D4:gP K .Lt (.int i) (.int j) H Q↔Q (.bl (decide (i<j))) H:=by simp[gP,rI0]
theorem IF:gP K .LtE (.int i) (.int j) H Q↔Q (.bl (decide (i<=j))) H:=by simp[gP,rI0]
theorem Jc:gP K .Gt (.int i) (.int j) H Q↔Q (.bl (decide (j<i))) H:=by simp[gP,rI0]
theorem Je:gP K .GtE (.int i) (.int j) H Q↔Q (.bl (decide (j<=i))) H:=by simp[gP,rI0]
theorem DH{d:D}:Rep K H d (.int i)↔d=.int i:=by
 cases d<;>simp[Rep,eq_comm]
theorem jd:gP K .Eq (.int i) (.int j) H Q↔Q (.bl (decide (i=j))) H:=by
 simp only[gP,rEqD,DH];constructor
 ·rintro⟨_,_,rfl,rfl,_,q⟩;exact q
 ·intro q;exact⟨_,_,rfl,rfl,aR _,q⟩
theorem xH:gP K .NotEq (.int i) (.int j) H Q↔Q (.bl (!decide (i=j))) H:=by
 simp only[gP,rNeD,DH];constructor
 ·rintro⟨_,_,rfl,rfl,_,q⟩;exact q
 ·intro q;exact⟨_,_,rfl,rfl,aR _,q⟩
theorem isnot_n{x:V}:gP K .IsNot x .non H Q↔Q (.bl (!decide (x=.non))) H:=by simp[gP]
theorem len_s:rBf K .len [.str z] H Q↔z.length<=sizeLine/\Q (.int z.length) H:=by simp[rBf]
theorem idx_s:rIx K (.str z) (.int i) H Q↔∃c,z.length<=sizeLine/\atI z.cps.toList i=some c/\Q (.str ⟨#[c]⟩) H:=by
 simp[rIx,rIxL,rIxT,rIxS]
theorem cut_s{lo hi:Option Int}:Fn K (.str z) lo hi H Q↔z.length<=sizeLine/\Q (.str (vY z lo hi)) H:=by
 simp[Fn,rSlL,rSlT,rSlS]
end
structure tT(J:It)(n:Nat)(it:Nat->V->Hp->Prop)(Hc:Hp->Prop):Prop where
 go:∀i H,Hc H->i<n->J.go i H
 stop:∀i H,Hc H->n<=i->J.stop i H
 yld:∀i H x H',Hc H->i<n->J.yld i H x H'->it i x H'/\aM H H'
section
variable {K:ah}
theorem cK:tT (Itl K a) xs.length (fun i x _=>xs[i]? =some x) (fun H=>SqL K H a xs) where
 go:=fun i H h hi=>⟨xs,xs[i],h,by simp[hi]⟩
 stop:=fun i H h hi=>⟨xs,h,hi⟩
 yld:=fun i H x H' h hi y=>by
  obtain⟨e,y⟩:=y;subst e;exact⟨y xs h,aM.refl _⟩
theorem qv:tT (Itt K a) xs.length (fun i x _=>xs[i]? =some x) (fun H=>SqT K H a xs) where
 go:=fun i H h hi=>⟨xs,xs[i],h,by simp[hi]⟩
 stop:=fun i H h hi=>⟨xs,h,hi⟩
 yld:=fun i H x H' h hi y=>by
  obtain⟨e,y⟩:=y;subst e;exact⟨y xs h,aM.refl _⟩
theorem dg{lo:Int}:tT (Itr lo n) n (fun i x _=>x=.int (lo+i)) (fun _=>True) where
 go:=fun i H _ hi=>hi
 stop:=fun i H _ hi=>hi
 yld:=fun i H x H' _ hi y=>by
  obtain⟨e,y⟩:=y;subst e;exact⟨y,aM.refl _⟩
theorem seq_str:tT (Its z) z.length (fun i x _=>∃c,z.cps[i]? =some c/\x=.str ⟨#[c]⟩) (fun _=>True) where
 go:=fun i H _ hi=>hi
 stop:=fun i H _ hi=>hi
 yld:=fun i H x H' _ hi y=>by
  obtain⟨e,y⟩:=y;subst e;exact⟨y,aM.refl _⟩
theorem aq{p:Addr}{o:HO}(h:H p=none):aM H (upd H p o):=fun b u e=>by rw[bo (bR e h)];exact e
theorem jK{p:Addr}{o:HO}(h:upd H p o=H1)(hp:H p=none):aM H H1/\H1 p=some o:=by subst h;exact⟨aq hp,ao⟩
def ForB(J:It)(g:TG)(tb:TS)(D:Ends)(σ:L2.St)(H:Hp):Prop:=∃W:Nat->Nat->L2.St->Hp->Prop,(∃m,W 0 m σ H)/\∀i m σ H,W i m σ H->
 (J.stop i H/\D.nx σ H)\/(J.go i H/\∃N:L2.St->Hp->Prop,(∀b H',N b H'->∃a,a<m/\W (i+1) a b H')/\∀x H',J.yld i H x H'->g x σ H' fun c H2=>tb {D with nx:=N,ct:=N,bk:=D.nx} c H2)
def BD(J:It)(g:TG)(tc:TT)(te:TE)(o:L2.St)(H1:Hp)(Q:VK):Prop:=∃W:Nat->Nat->L2.St->List V->Hp->Prop,(∃m,W 0 m o [] H1)/\
 ∀i m h acc H2,W i m h acc H2->(J.stop i H2/\∀l,H2 l=none->Q (.ref l) (upd H2 l (.lst acc)))\/(J.go i H2/\∃N:L2.St->List V->Hp->Prop,(∀j e H',N j e H'->∃f,f<m/\W (i+1) f j e H')/\
  ∀x c,J.yld i H2 x c->g x h c fun a k=>tc a k fun b d=>if b=true then te a d fun v n=>acc.length<sizeLine/\N a (acc++[v]) n else N a acc d)
theorem Ej{J:It}{it:Nat->V->Hp->Prop}{b:Hp->Prop}{g:TG}{tb:TS}{D:Ends}(S:tT J n it b)(a:Nat->L2.St->Hp->Prop)(h0:a 0 σ H)(d:∀i σ H,i<=n->a i σ H->b H)
  (f:∀i x σ H H',i<n->a i σ H->it i x H'->aM H H'->g x σ H' fun k H2=>tb {D with nx:=a (i+1),ct:=a (i+1),bk:=D.nx} k H2) (c:∀σ H,a n σ H->D.nx σ H):
  ForB J g tb D σ H:=by
 refine⟨fun i m σ H=>m=n-i/\i<=n/\a i σ H,⟨n,by simp,aR _,h0⟩,?_⟩;rintro i m σ H ⟨rfl,hi,p⟩;have q:=d i σ H hi p;by_cases hlt:i<n
 ·refine .inr ⟨S.go i H q hlt,a (i+1),fun l H' p'=>⟨n-(i+1),by lia,rfl,hlt,p'⟩,fun x H' y=>?_⟩
  obtain⟨h,j⟩:=S.yld i H x H' q hlt y;exact f i x σ H H' hlt p h j
 ·have e:i=n:=by lia
  subst e;exact .inl ⟨S.stop i H q (ay _),c σ H p⟩
theorem dy{J:It}{it:Nat->V->Hp->Prop}{u:Hp->Prop}{g:TG}{te:TE}{Q:VK}{B:L2.St}(S:tT J n it u)(X:n<=sizeLine)(L:∀H,aM H1 H->u H)
  (F:Nat->V->Hp->Prop)(D:∀i v H H',aM H H'->F i v H->F i v H')(T:L2.St->Prop)(K:T B)
  (step:∀i x o j (R:L2.St->V->Hp->Prop),i<n->T o->aM H1 j->it i x j->(∀h v f,T h->aM j f->F i v f->R h v f)->g x o j fun C E=>te C E (R C))
  (I:∀vs H2 l,vs.length=n->(∀(i:Nat) v,vs[i]? =some v->F i v H2)->aM H1 H2->H2 l=none->Q (.ref l) (upd H2 l (.lst vs))):
  BD J g GZ te B H1 Q:=by
 refine⟨fun i m o acc H2=>m=n-i/\i<=n/\T o/\acc.length=i/\aM H1 H2/\∀(k:Nat) v,acc[k]? =some v->F k v H2,⟨n,by simp,aR _,K,rfl,aM.refl _,fun k v e=>by simp at e⟩,?_⟩;rintro i m o acc H2 ⟨rfl,hi,P,z,r,w⟩;have q:=L H2 r;by_cases hlt:i<n
 ·refine .inr ⟨S.go i H2 q hlt,fun h s H'=>T h/\s.length=i+1/\aM H1 H'/\∀(k:Nat) v,s[k]? =some v->F k v H',fun h s H' ⟨a,b,c,d⟩=>⟨n-(i+1),by lia,rfl,hlt,a,b,c,d⟩,fun x j y=>?_⟩
  obtain⟨W,t⟩:=S.yld i H2 x j q hlt y;refine step i x o j (fun h v f=>acc.length<sizeLine/\T h/\(acc++[v]).length=i+1/\aM H1 f/\∀(k:Nat) p,(acc++[v])[k]? =some p->F k p f) hlt P (r.trans t) W fun h v f U A G=>⟨by lia,U,by simp[z],(r.trans t).trans A,fun k p e=>?_⟩;by_cases hk:k<acc.length
  ·rw[cH hk]at e
   exact D k p H2 f (t.trans A) (w k p e)
  ·rw[bV (by lia)]at e
   have N:k-acc.length=0:=by
    have :=(aD.mp e).1
    simp at this;lia
   rw[N]at e;have M:k=i:=by lia
   simp at e;subst e;rw[M];exact G
 ·have e:i=n:=by lia
  subst e;exact .inl ⟨S.stop i H2 q (ay _),fun l O=>I acc H2 l z w r O⟩
theorem cL{wi:TI}{g:TG}{tc:TT}{te:TE}{mk:L2.St->L2.St}{Q:VK}(h:wi σ H fun J H1=>BD J g tc te (mk σ) H1 Q):uQ wi g tc te mk σ H Q:=h
theorem fo{wi:TI}{g:TG}{tb:TS}{D:Ends}(h:wi σ H fun J H1=>ForB J g tb D σ H1):tFor wi g tb D σ H:=h
theorem Bw{R:It->Hp->Prop}(a:σ[i]? =some (some (.str z)))(h:R (Its z) H):CU K (j3 i) σ H R:=⟨_,a,.inr (.inr ⟨z,rfl,h⟩)⟩
theorem bD{R:It->Hp->Prop}(b:σ[i]? =some (some (.ref a)))(hq:SqL K H a xs)(h:R (Itl K a) H):CU K (j3 i) σ H R:=⟨_,b,.inl ⟨a,rfl,⟨xs,hq⟩,h⟩⟩
theorem oj{R:It->Hp->Prop}(b:σ[i]? =some (some (.ref a)))(hq:SqT K H a xs)(h:R (Itt K a) H):CU K (j3 i) σ H R:=⟨_,b,.inr (.inl ⟨a,rfl,⟨xs,hq⟩,h⟩)⟩
theorem bool_list{vs:List V}{b:Nat->Bool}(a:vs.length=n)(h:∀(i:Nat) v,vs[i]? =some v->v=.bl (b i)):vs=((aA n).map b).map V.bl:=by
 apply bA
 ·simp[a]
 ·intro i h1 h2
  have :=h i vs[i] (by simp[h1])
  simp[this]
theorem rE{α:Type}(l:List α)(d:α)(f:α->Bool):((aA l.length).map fun i=>f (l.getD i d)).all id=l.all f:=by
 rw[oR,cA];simp only[bB,aQ,Function.comp,id];constructor
 ·intro h c a
  obtain⟨i,hi,rfl⟩:=cG.mp a;have :=h i hi;rw[ae,aa hi]at this;exact this
 ·intro h i hi
  have :=h _ (ba hi)
  rw[ae,aa hi];exact this
theorem getD_some{α:Type}{l:List α}{d x:α}(h:l[i]? =some x):l.getD i d=x:=by
 rw[ae,h];rfl
theorem oD:∀ns:List Int,jo (ns.map D.int)=0
 | []=>rfl
 |n::ns=>by rw[cn,jo,oD ns];rfl
theorem pT(x y:Str):(x++y).length=x.length+y.length:=by
 show(x.cps++y.cps).size=_;rw[Array.size_append];rfl
end
def HasFn(K:ah)(x:Str)(st:Stmt):Prop:=∃(f:Addr)(oc:Value)(od an:Option Addr)(osl:Array (Option Value))(kV doc pm cdv ct:Value),d8 K bK x=some (some (.ref f))/\
 K.lookup f=some ⟨oc,od,.func (aF x x (bq st) (a8 st) (aP st) .none kV doc pm an cdv ct),osl⟩/\fg K cdv x=true/\cS K (.ref f)=true
theorem Jb{st:Stmt}{an:Option Addr}{kV:Value}(a:d8 K bK x=some (some (.ref f)))
  (l:K.lookup f=some ⟨oc,od,.func (aF x x (bq st) (a8 st) (aP st) .none kV doc pm an cdv ct),osl⟩)(c:fg K cdv x=true)(k:cS K (.ref f)=true):HasFn K x st:=
 ⟨f,oc,od,an,osl,kV,doc,pm,cdv,ct,a,l,c,k⟩
structure Def(K:ah)(mg:Str->Option Value)(x:Str)(st:Stmt):Prop where
 ex:∃f fd,Fun K x x st f fd/\mg x=some (.ref f)
theorem HasFn.def{st:Stmt}(X:K.In h)(b:h.Ns bK mg)(H:HasFn K x st):Def K mg x st:=by
 obtain⟨f,oc,od,an,osl,kV,doc,pm,cdv,ct,a,l,c,k⟩:=H;exact⟨f,_,CV l c k,eQ X b a⟩
section
variable {P:Program}{w:World}{K:ah}{mg:Str->Option Value}{base:Heap}
theorem cR{vals:List (Str×V)}{b:List ((Str×Nat)×(Sp×List V))}{st:Stmt}{ps:List Str}{sp:Sp}{l:CB}{e i j:List ((Str×Nat)×(Addr×Sp×List V))}{a:List (Addr×List (Key×V))}(g:GOk P w K mg base (CXx P w) k (gam vals b e a i j))(d:Def K mg x st)
  (c:(qy N ps (aP st)&&wc (aP st) N l (a8 st))=true)
  (m:∀(kV doc pm:Value)(an:Option Addr)(cdv ct:Value)(us:List Value),us.length=ps.length->qe (aF x x (bq st) (a8 st) (aP st) .none kV doc pm an cdv ct) ⟨us,[]⟩=pure (ps.zip us))
  (len:∀vs H Q E,sp vs H Q E->vs.length=ps.length)
  (h:∀vs H Q E,sp vs H Q E->wpB (gam vals b e a i j) K (fun _=>E) l {nx:=fun _ H'=>Q .non H',rt:=Q} (L2.start N vs) H):GOk P w K mg base (CXx P w) (k+1) (gam vals (((x,ps.length),(sp,[]))::b) e a i j):=by
 rw[aH]at c;obtain⟨f,fd,F,o⟩:=d.ex;exact g.add (n:=ps.length) (El F c.1 c.2 g len h) o F.kp (F.binds m) .nil
end
end R
variable {G:R.Gam}
set_option hygiene false in
local macro_rules | `(tactic| walk_at "wp") => `(tactic| simp only [_root_.R.wpB, _root_.R.wpS, _root_.R.wpE, _root_.R.wpT, _root_.R.wpL, _root_.R.wpO, _root_.R.wpC, _root_.R.wpG, _root_.R.wpGs, _root_.R.wpI, _root_.L2.uP, _root_.L2.tRet, _root_.L2.G2, _root_.L2.Ag, _root_.L2.yy, _root_.L2.Dx, _root_.L2.tIfS, _root_.L2.G6, _root_.L2.tOrV, _root_.L2.G3, _root_.L2.tNot, _root_.L2.tAnd, _root_.L2.tOr, _root_.L2.xn, _root_.R.B4, _root_.L2.tIf, _root_.L2.tCB, _root_.L2.ja, _root_.L2.oU, _root_.L2.j3, _root_.L2.tC, _root_.L2.tOp, _root_.L2.uR, _root_.L2.G1, _root_.L2.tLst, _root_.L2.Ah, _root_.L2.tBM, _root_.L2.tBM0, _root_.L2.tSl, _root_.L2.xo, _root_.L2.oq, _root_.R.cv, _root_.L2.km, _root_.L2.gSub, _root_.L2.gTup, _root_.L2.Jf, _root_.L2.gNil, _root_.R.CGs.len, _root_.L2.IY, _root_.L2.IX, _root_.L2.IZ, _root_.L2.iTup, _root_.L2.iEnum, _root_.List.getElem?_cons_zero, _root_.List.getElem?_cons_succ, _root_.Option.some.injEq, _root_.exists_eq_left', _root_.exists_eq_left, _root_.L2.V.bl.injEq, _root_.L2.V.int.injEq, _root_.L2.V.str.injEq, _root_.List.set_cons_zero, _root_.List.set_cons_succ, _root_.R.CL.len, _root_.R.Ty.t, _root_.R.sI, _root_.R.yz, _root_.R.mul_ii, _root_.R.iG, _root_.R.div_ii, _root_.R.pow_ii, _root_.R.add_ss, _root_.R.D4, _root_.R.IF, _root_.R.Jc, _root_.R.Je, _root_.R.jd, _root_.R.xH, _root_.R.isnot_n, _root_.R.len_s, _root_.R.idx_s, _root_.R.cut_s, _root_.List.append_nil, _root_.R.lX, _root_.List.map_cons, _root_.List.map_nil, _root_.List.nil_append, _root_.List.cons_append])
namespace Cp
open PySem R
noncomputable def Cq:List Str:=["thing"]
noncomputable def vF:List Str:=["thing"]
noncomputable def wo:CB:=
  (.cons (.ret (.and (.bfn .isinstance (.cons (.var 0) (.cons (.ty .int) .nil))) (.not (.bfn .isinstance (.cons (.var 0) (.cons (.ty .bool) .nil))))))
  .nil)
noncomputable def Fu:List Str:=["thing"]
noncomputable def xI:List Str:=["thing"]
noncomputable def xY:CB:=
  (.cons (.iff (.not (.bfn .isinstance (.cons (.var 0) (.cons (.ty .str) .nil))))
  (.cons (.ret (.con (.bool false)))
  .nil)
  .nil)
  (.cons (.iff (.not (.chain .LtE .LtE (.con (.int 1)) (.bfn .len (.cons (.var 0) .nil)) (.glo "LONGEST_NAME")))
  (.cons (.ret (.con (.bool false)))
  .nil)
  .nil)
  (.cons (.ret (.bfn .all (.cons (.comp ["sign"] [] (.name 0) (.seq (.var 0)) .no (.cmp .In (.var 0) (.glo "LETTERS"))) .nil)))
  .nil)))
noncomputable def yZ:List Str:=["thing"]
noncomputable def qF:List Str:=["thing"]
noncomputable def rh:CB:=
  (.cons (.ret (.and (.call "is_whole" (.cons (.var 0) .nil)) (.cmp .In (.var 0) (.tup (.cons (.con (.int 0)) (.cons (.con (.int 1)) .nil))))))
  .nil)
noncomputable def vm:List Str:=["thing"]
noncomputable def ng:List Str:=["thing"]
noncomputable def og:CB:=
  (.cons (.iff (.or (.not (.bfn .isinstance (.cons (.var 0) (.cons (.ty .tuple) .nil)))) (.cmp .Gt (.bfn .len (.cons (.var 0) .nil)) (.glo "MOST_PLACES")))
  (.cons (.ret (.con (.bool false)))
  .nil)
  .nil)
  (.cons (.ret (.bfn .all (.cons (.comp ["part"] [] (.name 0) (.seq (.var 0)) .no (.call "is_reading" (.cons (.var 0) .nil))) .nil)))
  .nil))
end Cp
set_option maxHeartbeats 1000000
namespace Cp
open PySem PySem.Spec PyProof.Rows L2 R
noncomputable def gH:Option HO->String
 |some (.lst _)=>"list"
 |some (.frz _ (.lst _))=>"list"
 |some (.tup _)=>"tuple"
 |some (.dK _)=>"dict"
 |some (.dT _)=>"dict"
 |_=>"?"
noncomputable def tyName(H:Hp):V->String
 |.non=>"NoneType"
 |.bl _=>"bool"
 |.int _=>"int"
 |.str _=>"str"
 |.ref a=>gH (H a)
 |_=>"?"
def Known(H:Hp)(x:V):Prop:=tyName H x≠"?"
theorem Known.same{x:V}(h:Known H x)(s:aM H H'):Known H' x/\tyName H' x=tyName H x:=by
 cases x with
 |ref a=>
  have h':gH (H a)≠"?":=h;show gH (H' a)≠"?"/\gH (H' a)=gH (H a);cases e:H a with
  |none=>rw[e]at h';exact absurd rfl h'
  |some o=>rw[s a o e];rw[e]at h';exact⟨h',rfl⟩
 |_=>exact⟨h,rfl⟩
theorem Known.ty{x:V}(h:Known H x):mO K H x (.type (tyName H x)):=by
 cases x with
 |non=>exact .non
 |bl b=>exact .bl b
 |int i=>exact .int i
 |str s=>exact .str s
 |ref a=>
  have h':gH (H a)≠"?":=h;show mO K H (.ref a) (.type (gH (H a)));cases e:H a with
  |none=>rw[e]at h';exact absurd rfl h'
  |some o=>
   rw[e]at h';cases o with
   |lst xs=>exact .lst e
   |tup xs=>exact .tup e
   |dK kvs=>exact .dK e
   |dT kvs=>exact .dT e
   |frz ob u=>
    cases u with
    |lst xs=>exact .frz e
    |_=>exact absurd rfl h'
   |_=>exact absurd rfl h'
 |_=>exact absurd rfl h
theorem Known.mem{x:V}(h:Known H x):tyName H x∈["NoneType","bool","int","str","list","tuple","dict"]:=by
 cases x with
 |ref a=>
  have h':gH (H a)≠"?":=h;show gH (H a)∈_;cases e:H a with
  |none=>rw[e]at h';exact absurd rfl h'
  |some o=>
   rw[e]at h';cases o with
   |lst xs=>simp[gH]
   |tup xs=>simp[gH]
   |dK kvs=>simp[gH]
   |dT kvs=>simp[gH]
   |frz ob u=>
    cases u with
    |lst xs=>simp[gH]
    |_=>exact absurd rfl h'
   |_=>exact absurd rfl h'
 |_=>first
  |exact absurd rfl h
  |simp[tyName]
noncomputable def js(a b:String):Bool:=a==b||(a=="bool"&&b=="int")
theorem kit_ty(K:ah):∀(a:String)(t:Ty),a∈["NoneType","bool","int","str","list","tuple","dict"]->iP K (.type a) (.type t.t)=some (js a t.t):=by
 intro a t h;simp only[aE,cM,or_false]at h;rcases h with rfl|rfl|rfl|rfl|rfl|rfl|rfl<;>cases t<;>rfl
theorem isi{x:V}{Q:VK}(h:Known H x)(t:Ty)(q:Q (.bl (js (tyName H x) t.t)) H):rBf K .isinstance [x,.ty t.t] H Q:=
 .inl ⟨x,t.t,_,_,rfl,h.ty,kit_ty K _ t h.mem,q⟩
theorem zr{i:Int}:Known H (.int i):=by show "int"≠"?";decide
theorem kn_str:Known H (.str x):=by show "str"≠"?";decide
theorem zq(h:H a=some (.tup xs)):Known H (.ref a):=by show gH (H a)≠"?";rw[h];show "tuple"≠"?";decide
theorem IH(h:H a=some (.lst xs)):Known H (.ref a):=by show gH (H a)≠"?";rw[h];show "list"≠"?";decide
theorem dW{o:HO}(s:aM H H1)(h:H l=none):aM H (upd H1 l o):=fun b u e=>by rw[bo (bR e h)];exact s b u e
noncomputable def isWhole:V->Bool
 |.int _=>true
 |_=>false
noncomputable def cI:V->Bool
 |.int i=>i==0||i==1
 |_=>false
noncomputable def spB(f:V->Bool):Sp:=fun vs H Q _=>∃x,vs=[x]/\Known H x/\∀H',aM H H'->Q (.bl (f x)) H'
theorem sub_int{x:V}(h:Known H x):(js (tyName H x) "int"&& !js (tyName H x) "bool")=isWhole x:=by
 cases x with
 |ref a=>
  have h':gH (H a)≠"?":=h;show(js (gH (H a)) "int"&& !js (gH (H a)) "bool")=false;unfold gH;split <;>rfl
 |_=>rfl
theorem Aa:Sat G K (spB isWhole) wo vF:=by
 rintro vs H Q E ⟨x,rfl,b,q⟩;unfold wo;change wpB G K _ _ _ [some x] H;walk_at "wp";refine isi b .int ⟨_,rfl,?_⟩;have e:=sub_int b;cases h1:js (tyName H x) "int" with
 |false=>
  rw[h1,dw]at e;have a:=q H (aM.refl H);rw[<-e]at a;simpa[Ty.t,h1]using a
 |true=>
  rw[h1,eF]at e;have a:=q H (aM.refl H);rw[<-e]at a;simp only[Ty.t,h1,if_true];exact isi b .bool ⟨_,rfl,a⟩
theorem wR(c:G.fn "is_whole" 1=some (spB isWhole,[])):
  Sat G K (spB cI) rh qF:=by
 rintro vs H Q E ⟨x,rfl,d,q⟩;unfold rh;change wpB G K _ _ _ [some x] H;walk_at "wp";refine⟨_,_,c,x,rfl,d,fun H1 b=>⟨_,rfl,?_⟩⟩;cases x with
 |int i=>
  refine⟨by decide,fun p hp=>.inr ⟨p,_,rfl,.inr (SqT.of ao),rfl,rfl,?_⟩⟩;have f:=q _ (b.trans (aq (o:=.tup [.int 0,.int 1]) hp));have e:(if false=true then !inV (.int i) [.int 0,.int 1]else inV (.int i) [.int 0,.int 1])=cI (.int i):=by
   show((0:Int)==i||((1:Int)==i||false))=(i==0||i==1);rw[BY,Bool.beq_comm,Bool.beq_comm (a:=(1:Int))]
  rw[e];exact f
 |_=>exact q H1 b
noncomputable def l9(c:Nat):Bool:=decide (97<=c/\c<=122)
noncomputable def gZ(z:Str):Bool:=decide (1<=z.length/\z.length<=8)&&z.cps.toList.all l9
noncomputable def isName:V->Bool
 |.str z=>gZ z
 |_=>false
noncomputable def LETTERS:Str:="abcdefghijklmnopqrstuvwxyz"
theorem AV(c:Nat):decide (c∈LETTERS.cps.toList)=l9 c:=by
 unfold l9;rw[show LETTERS.cps.toList=List.range' 97 26 by decide+kernel,decide_eq_decide,List.mem_range'_1];exact⟨fun h=>⟨h.1,Nat.le_of_lt_succ h.2⟩,fun h=>⟨h.1,Nat.lt_succ_of_le h.2⟩⟩
theorem CQ{c:Nat}{Q:VK}(q:Q (.bl (l9 c)) H):gP K .In (.str ⟨#[c]⟩) (.str LETTERS) H Q:=by
 refine .inl (.inl ⟨_,_,rfl,rfl,?_⟩);rw[StrLaws.found_one,AV];exact q
theorem CD:(20000:Nat)<=sizeLine:=by decide
noncomputable def spN:Sp:=fun vs H Q _=>∃x,vs=[x]/\Known H x/\(∀z,x=.str z->z.length<=20000)/\∀H',aM H H'->Q (.bl (isName x)) H'
theorem sub_str{x:V}(h:Known H x):js (tyName H x) "str"=(match x with |.str _=>true|_=>false):=by
 cases x with
 |ref a=>
  show js (gH (H a)) "str"=false;unfold gH;split <;>rfl
 |_=>rfl
theorem BZ(v1:G.val "LETTERS"=some (.str LETTERS))(u:G.val "LONGEST_NAME"=some (.int 8)):
  Sat G K spN xY xI:=by
 rintro vs H Q E ⟨x,rfl,g,f,q⟩;unfold xY;change wpB G K _ _ _ [some x] H;walk_at "wp";refine isi g .str ⟨_,rfl,?_⟩;rw[show Ty.t .str="str" from rfl,sub_str g];cases x with
 |str z=>
  have f:=f z rfl;have j:z.length<=sizeLine:=aG f CD;have all:∀R:VK,(∀H',aM H H'->R (.bl (z.cps.toList.all l9)) H')->uQ (CU K (j3 0)) (km 0) GZ (tOp (gP K .In) (j3 0) fun σ H Q=>∃v,G.val "LETTERS"=some v/\Q v H) (lX ["sign"] []) [some (.str z)] H fun x H2=>rBf K .all [x] H2 R:=by
   intro R o;refine cL (Bw rfl (dy seq_str j (fun _ _=>trivial) (fun i v _=>v=.bl (l9 (z.cps.toList.getD i 0))) (fun _ _ _ _ _ h=>h) (fun m=>∃t,m=[t]) ⟨none,rfl⟩ ?_ ?_))
   ·rintro i x m w R hi ⟨t,rfl⟩ s3 ⟨c,p,rfl⟩ k
    refine⟨_,rfl,_,v1,CQ (k _ _ _ ⟨_,rfl⟩ (aM.refl _) ?_)⟩;have :z.cps.toList[i]? =some c:=by simpa using p
    rw[ae,this];rfl
   ·intro vs H2 l s n s2 r
    have e:=bool_list s n;subst e;refine⟨l,_,rfl,SqL.of ao,?_⟩;have d:((aA z.length).map fun i=>l9 (z.cps.toList.getD i 0)).all id=z.cps.toList.all l9:=by
     have :=rE z.cps.toList 0 l9
     rw[show z.cps.toList.length=z.length by simp[BG]]at this;exact this
    rw[d];exact o _ (s2.trans (aq r))
  simp only[gg,aU,if_false,u,fI,exists_eq_left',exists_eq_left,V.bl.injEq,V.int.injEq,IF,len_s,j,true_and];have a:∀H',aM H H'->Q (.bl (gZ z)) H':=q;unfold gZ at a;by_cases h1:1<=z.length
  ·by_cases h2:z.length<=8
   ·have b:decide ((1:Int)<=z.length)=true:=decide_eq_true (by lia)
    have d:decide ((z.length:Int)<=8)=true:=decide_eq_true (by lia);rw[decide_eq_true (And.intro h1 h2),eF]at a;simp only[b,d,if_true,gg,aU,if_false];exact all Q a
   ·have b:decide ((1:Int)<=z.length)=true:=decide_eq_true (by lia)
    have d:decide ((z.length:Int)<=8)=false:=decide_eq_false (by lia);rw[decide_eq_false (fun h=>h2 h.2),dw]at a;simp only[b,d,if_true,Bool.not_false];exact a H (aM.refl H)
  ·have b:decide ((1:Int)<=z.length)=false:=decide_eq_false (by lia)
   rw[decide_eq_false (fun h=>h1 h.1),dw]at a;simp only[b,aU,if_false,Bool.not_false,if_true];exact a H (aM.refl H)
 |_=>exact q H (aM.refl H)
noncomputable def di:Option HO->Option (List V)
 |some (.tup xs)=>some xs
 |_=>none
theorem ma{o:Option HO}(h:di o=some xs):o=some (.tup xs):=by
 unfold di at h;split at h
 ·cases h;rfl
 ·cases h
theorem xp(o:Option HO):js (gH o) "tuple"=(di o).isSome:=by
 unfold gH;split <;>first
  |rfl
  |skip
 unfold di;split <;>simp_all
 rfl
noncomputable def dj(H:Hp):V->Bool
 |.ref a=>match di (H a)with
  |some xs=>decide (xs.length<=60)&&xs.all cI
  |none=>false
 |_=>false
noncomputable def spR:Sp:=fun vs H Q _=>∃x,vs=[x]/\Known H x/\(∀a xs,x=.ref a->H a=some (.tup xs)->xs.length<=20000/\∀y∈xs,Known H y)/\∀H',aM H H'->Q (.bl (dj H x)) H'
theorem tO(j:G.fn "is_reading" 1=some (spB cI,[]))(v1:G.val "MOST_PLACES"=some (.int 60)):
  Sat G K spR og ng:=by
 rintro vs H Q E ⟨x,rfl,n,u,q⟩;unfold og;change wpB G K _ _ _ [some x] H;walk_at "wp";refine isi n .tuple ⟨_,rfl,?_⟩;rw[show Ty.t .tuple="tuple" from rfl];cases x with
 |ref a=>
  show if(!js (gH (H a)) "tuple")=true then _ else _
  rw[xp];have c:∀H',aM H H'->Q (.bl (match di (H a)with |some xs=>decide (xs.length<=60)&&xs.all cI|none=>false)) H':=q;cases e0:di (H a)with
  |none=>
   rw[e0]at c;exact c H (aM.refl H)
  |some xs=>
    rw[e0]at c;have e:=ma e0;have b:∀H',aM H H'->Q (.bl (decide (xs.length<=60)&&xs.all cI)) H':=c;obtain⟨o,w⟩:=u a xs rfl e;have p:xs.length<=sizeLine:=aG o CD;simp only[iz,gg,aU,if_false];refine Or.inl ⟨a,xs,rfl,.inr (SqT.of e),_,v1,?_⟩;rw[Jc];refine⟨_,rfl,?_⟩;by_cases hle:xs.length<=60
    ·rw[decide_eq_true hle,eF]at b
     have d:decide ((60:Int)<xs.length)=false:=decide_eq_false (by lia);rw[d];simp only[aU,if_false];refine cL (oj rfl (SqT.of e) (dy qv p (fun H1 A=>A.tup (SqT.of e)) (fun i v _=>v=.bl (cI (xs.getD i .non))) (fun _ _ _ _ _ h=>h) (fun g=>∃t,g=[t]) ⟨none,rfl⟩ ?_ ?_))
     ·rintro i y g C R hi ⟨t,rfl⟩ s3 f k
      have z:y∈xs:=aC f;exact⟨_,_,j,y,rfl,y,rfl,((w y z).same s3).1,fun D B=>k _ _ _ ⟨_,rfl⟩ B (by rw[getD_some f])⟩
     ·intro vs H2 l s m s2 r
      have e:=bool_list s m;subst e;refine⟨l,_,rfl,SqL.of ao,?_⟩;rw[rE xs .non cI];exact b _ (s2.trans (aq r))
    ·rw[decide_eq_false hle,dw]at b
     have d:decide ((60:Int)<xs.length)=true:=decide_eq_true (by lia);rw[d];simpa using b H (aM.refl H)
 |_=>exact q H (aM.refl H)
end Cp
namespace Cp
open PySem R
noncomputable def Fv:List Str:=["thing"]
noncomputable def xJ:List Str:=["thing"]
noncomputable def xZ:CB:=
  (.cons (.iff (.or (.not (.bfn .isinstance (.cons (.var 0) (.cons (.ty .tuple) .nil)))) (.cmp .NotEq (.bfn .len (.cons (.var 0) .nil)) (.con (.int 2))))
  (.cons (.ret (.con (.bool false)))
  .nil)
  .nil)
  (.cons (.ret (.and (.call "is_name" (.cons (.idx (.var 0) (.con (.int 0))) .nil)) (.call "are_readings" (.cons (.idx (.var 0) (.con (.int 1))) .nil))))
  .nil))
noncomputable def Cr:List Str:=["thing"]
noncomputable def vG:List Str:=["thing","names","counts"]
noncomputable def wq:CB:=
  (.cons (.iff (.or (.not (.bfn .isinstance (.cons (.var 0) (.cons (.ty .list) .nil)))) (.cmp .Gt (.bfn .len (.cons (.var 0) .nil)) (.glo "MOST_COPIES")))
  (.cons (.ret (.con (.bool false)))
  .nil)
  .nil)
  (.cons (.iff (.not (.bfn .all (.cons (.comp ["part"] [] (.name 0) (.seq (.var 0)) .no (.call "is_copy" (.cons (.var 0) .nil))) .nil)))
  (.cons (.ret (.con (.bool false)))
  .nil)
  .nil)
  (.cons (.asgc 1 (.comp ["name","readings"] [] (.tup (.cons (.name 0) (.cons (.name 1) .nil))) (.seq (.var 0)) .no (.var 0)))
  (.cons (.asgc 2 (.comp ["name","readings"] [] (.tup (.cons (.name 0) (.cons (.name 1) .nil))) (.seq (.var 0)) .no (.bfn .len (.cons (.var 1) .nil))))
  (.cons (.ret (.and (.cmp .Eq (.bfn .len (.cons (.bfn .set (.cons (.var 1) .nil)) .nil)) (.bfn .len (.cons (.var 1) .nil))) (.cmp .LtE (.bfn .len (.cons (.bfn .set (.cons (.var 2) .nil)) .nil)) (.con (.int 1)))))
  .nil)))))
noncomputable def yV:List Str:=["table"]
noncomputable def qB:List Str:=["table"]
noncomputable def qU:CB:=
  (.cons (.iff (.not (.call "is_table" (.cons (.var 0) .nil)))
  .hole
  .nil)
  .nil)
noncomputable def wY:List Str:=["table"]
noncomputable def oZ:List Str:=["table"]
noncomputable def o7:CB:=
  (.cons (.expr (.call "need_table" (.cons (.var 0) .nil)))
  (.cons (.iff (.cmp .Eq (.bfn .len (.cons (.var 0) .nil)) (.con (.int 0)))
  (.cons (.ret (.con (.int 0)))
  .nil)
  .nil)
  (.cons (.ret (.bfn .len (.cons (.idx (.idx (.var 0) (.con (.int 0))) (.con (.int 1))) .nil)))
  .nil)))
end Cp
namespace Cp
open PySem PySem.Spec PyProof.Rows L2 R
def Kn1(H:Hp)(x:V):Prop:=Known H x/\∀z,x=.str z->z.length<=20000
def Kn2(H:Hp)(x:V):Prop:=Kn1 H x/\∀a xs,x=.ref a->H a=some (.tup xs)->xs.length<=20000/\∀y∈xs,Kn1 H y
def Kn3(H:Hp)(x:V):Prop:=Kn1 H x/\∀a xs,x=.ref a->H a=some (.tup xs)->xs.length<=20000/\∀y∈xs,Kn2 H y
noncomputable def d0:Option HO->Option (List V)
 |some (.lst xs)=>some xs
 |some (.frz _ (.lst xs))=>some xs
 |_=>none
def Kn4(H:Hp)(x:V):Prop:=Kn1 H x/\∀a xs,x=.ref a->d0 (H a)=some xs->xs.length<=20000/\∀y∈xs,Kn3 H y
theorem yk{o:HO}(s:aM H H')(k:H a≠none)(h:H' a=some o):H a=some o:=by
 cases e:H a with
 |none=>exact absurd e k
 |some u=>rw[s a u e]at h;exact h
theorem Known.some(k:Known H (.ref a)):H a≠none:=fun e=>by
 have b:gH (H a)≠"?":=k;rw[e]at b;exact b rfl
theorem Kn1.same{x:V}(h:Kn1 H x)(s:aM H H'):Kn1 H' x:=⟨(h.1.same s).1,h.2⟩
theorem Kn2.same{x:V}(h:Kn2 H x)(s:aM H H'):Kn2 H' x:=⟨h.1.same s,fun a xs e b=>by
 subst e;obtain⟨l,k⟩:=h.2 a xs rfl (yk s h.1.1.some b);exact⟨l,fun y c=>(k y c).same s⟩⟩
theorem Kn3.same{x:V}(h:Kn3 H x)(s:aM H H'):Kn3 H' x:=⟨h.1.same s,fun a xs e b=>by
 subst e;obtain⟨l,k⟩:=h.2 a xs rfl (yk s h.1.1.some b);exact⟨l,fun y c=>(k y c).same s⟩⟩
theorem ym{x:V}(h:Known H x)(s:aM H H'):dj H' x=dj H x:=by
 cases x with
 |ref a=>
  show(match di (H' a)with |some xs=>_|none=>_)=(match di (H a)with |some xs=>_|none=>_);cases e:H a with
  |none=>exact absurd e h.some
  |some o=>rw[s a o e]
 |_=>rfl
noncomputable def de(H:Hp):V->Bool
 |.ref a=>match di (H a)with
  |some [n,r]=>isName n&&dj H r
  |_=>false
 |_=>false
theorem F1{x:V}(h:Kn3 H x)(s:aM H H'):de H' x=de H x:=by
 cases x with
 |ref a=>
  show(match di (H' a)with |some [n,r]=>_|_=>_)=(match di (H a)with |some [n,r]=>_|_=>_);cases e:H a with
  |none=>exact absurd e h.1.1.some
  |some o=>
   rw[s a o e];cases o with
   |tup xs=>
    match xs with
    | []=>rfl
    | [_]=>rfl
    | [n,r]=>
     have k:=(h.2 a _ rfl e).2 r (by simp);show(isName n&&dj H' r)=(isName n&&dj H r);rw[ym k.1.1 s]
    |_::_::_::_=>rfl
   |_=>rfl
 |_=>rfl
noncomputable def spC:Sp:=fun vs H Q _=>∃x,vs=[x]/\Kn3 H x/\∀H',aM H H'->Q (.bl (de H x)) H'
theorem B0(p:G.fn "is_name" 1=some (spN,[]))(s:G.fn "are_readings" 1=some (spR,[])):
  Sat G K spC xZ xJ:=by
 rintro vs H Q E ⟨x,rfl,h,q⟩;unfold xZ;change wpB G K _ _ _ [some x] H;walk_at "wp";refine isi h.1.1 .tuple ⟨_,rfl,?_⟩;rw[show Ty.t .tuple="tuple" from rfl];cases x with
 |ref a=>
  show if(!js (gH (H a)) "tuple")=true then _ else _
  rw[xp];have c:∀H',aM H H'->Q (.bl (match di (H a)with |some [n,r]=>isName n&&dj H r|_=>false)) H':=q;cases e0:di (H a)with
  |none=>
   rw[e0]at c;exact c H (aM.refl H)
  |some xs=>
   have e:=ma e0;rw[e0]at c;obtain⟨u,d⟩:=h.2 a xs rfl e;simp only[iz,gg,aU,if_false];refine Or.inl ⟨a,xs,rfl,.inr (SqT.of e),?_⟩;show gP K .NotEq (.int (xs.length:Int)) (.int 2) H _;rw[xH];refine⟨_,rfl,?_⟩
   match xs,u,d,e,c with
   | [],_,_,_,c=>exact c H (aM.refl H)
   | [_],_,_,_,c=>exact c H (aM.refl H)
   |_::_::_::r,_,_,_,c=>
    rw[if_pos (by simp;lia)];exact c H (aM.refl H)
   | [n,r],_,d,e,c=>
    rw[if_neg (by simp)];have i:=d n (by simp);have j:=d r (by simp);refine⟨_,_,p,.inr (.inl ⟨a,[n,r],0,n,rfl,rfl,SqT.of e,rfl,n,rfl,i.1.1,i.1.2,fun H1 f=>⟨_,rfl,?_⟩⟩)⟩;have g:∀H',aM H H'->Q (.bl (isName n&&dj H r)) H':=c;cases en:isName n with
    |false=>
     rw[en,dw]at g;rw[if_neg ak];exact g H1 f
    |true=>
     rw[en,eF]at g;rw[if_pos rfl];have m:=j.same f;refine⟨_,_,s,.inr (.inl ⟨a,[n,r],1,r,rfl,rfl,f.tup (SqT.of e),rfl,r,rfl,m.1.1,fun b ys o t=>?_,fun H2 s2=>?_⟩)⟩
     ·obtain⟨l,k⟩:=m.2 b ys o t
      exact⟨l,fun y d=>(k y d).1⟩
     ·rw[ym j.1.1 f]
      exact g H2 (f.trans s2)
 |_=>exact q H (aM.refl H)
theorem AR{vs:List V}{f:V->V}(b:vs.length=xs.length)(h:∀(i:Nat) v,vs[i]? =some v->v=f (xs.getD i .non)):vs=xs.map f:=by
 apply bA
 ·simp[b]
 ·intro i h1 h2
  have a:i<xs.length:=by lia
  have :=h i vs[i] (by simp[h1])
  rw[this,bj,ae,aa a];rfl
theorem xG:∀(l:List Str),(l.map (eW:Str->Key)).Nodup↔l.Nodup
 | []=>by simp
 |x::l=>by
  rw[cn,bI,bI,xG l];have e:eW x∈l.map (eW:Str->Key)↔x∈l:=by
   constructor
   ·intro h
    obtain⟨y,a,e⟩:=ax.mp h;injection e with e
    rw[<-e];exact a
   ·exact fun h=>ax.mpr ⟨x,h,rfl⟩
  rw[e]
theorem lg(h:d0 (H a)=some xs):SqL K H a xs:=by
 unfold d0 at h;split at h
 ·rename_i e;cases h;exact .inl (.inl e)
 ·rename_i o _ e;cases h;exact .inl (.inr ⟨o,e⟩)
 ·cases h
theorem G7(o:Option HO):js (gH o) "list"=(d0 o).isSome:=by
 unfold gH;split <;>first
  |rfl
  |skip
 unfold d0;split <;>simp_all
 rfl
noncomputable def aZ(H:Hp):V->Str
 |.ref a=>match di (H a)with
  |some (.str z::_)=>z
  |_=>""
 |_=>""
noncomputable def cz(H:Hp):V->Nat
 |.ref a=>match di (H a)with
  |some [_,.ref b]=>(di (H b)).elim 0 mr
  |_=>0
 |_=>0
theorem hO{x:V}(h:de H x=true):∃a z b ys,x=.ref a/\H a=some (.tup [.str z,.ref b])/\H b=some (.tup ys)/\gZ z=true/\ys.length<=60/\(∀y∈ys,cI y=true)/\aZ H x=z/\cz H x=ys.length:=by
 cases x with
 |ref a=>
  have h':(match di (H a)with |some [n,r]=>isName n&&dj H r|_=>false)=true:=h;split at h'
  ·rename_i n r e
   rw[aH]at h';obtain⟨h1,h2⟩:=h';cases n with
   |str z=>
    cases r with
    |ref b=>
     have c:(match di (H b)with |some xs=>decide (xs.length<=60)&&xs.all cI|none=>false)=true:=h2;split at c
     ·rename_i ys eb
      rw[aH,decide_eq_true_eq,bB]at c;refine⟨a,z,b,ys,rfl,ma e,ma eb,h1,c.1,c.2,?_,?_⟩
      ·show(match di (H a)with |some (.str z::_)=>z|_=>"")=z
       rw[e]
      ·show(match di (H a)with |some [_,.ref b]=>(di (H b)).elim 0 mr|_=>0)=ys.length
       rw[e];show(di (H b)).elim 0 mr=ys.length;rw[eb];rfl
     ·cases c
    |_=>cases h2
   |_=>cases h1
  ·cases h'
 |_=>cases h
noncomputable def dE(H:Hp):V->Bool
 |.ref a=>match d0 (H a)with
  |some xs=>decide (xs.length<=40)&&(xs.all (de H)&&(decide ((xs.map (aZ H)).Nodup)&&decide (∀y∈xs,∀z∈xs,cz H y=cz H z)))
  |none=>false
 |_=>false
noncomputable def spT:Sp:=fun vs H Q _=>∃x,vs=[x]/\Kn4 H x/\∀H',aM H H'->Q (.bl (dE H x)) H'
theorem Ab(g1:G.fn "is_copy" 1=some (spC,[]))(v1:G.val "MOST_COPIES"=some (.int 40)):
  Sat G K spT wq vG:=by
 rintro vs H Q E ⟨x,rfl,P,q⟩;unfold wq;change wpB G K _ _ _ [some x,none,none] H;walk_at "wp";refine isi P.1.1 .list ⟨_,rfl,?_⟩;rw[show Ty.t .list="list" from rfl];cases x with
 |ref a=>
  show if(!js (gH (H a)) "list")=true then _ else _
  rw[G7];have p:∀H',aM H H'->Q (.bl (match d0 (H a)with |some xs=>decide (xs.length<=40)&&(xs.all (de H)&&(decide ((xs.map (aZ H)).Nodup)&&decide (∀y∈xs,∀z∈xs,cz H y=cz H z))) |none=>false)) H':=q;cases e0:d0 (H a)with
  |none=>
   rw[e0]at p;exact p H (aM.refl H)
  |some xs=>
   rw[e0]at p;obtain⟨hl,hy⟩:=P.2 a xs rfl e0;have F:xs.length<=sizeLine:=aG hl CD;simp only[iz,gg,aU,if_false];refine Or.inl ⟨a,xs,rfl,.inl (lg e0),_,v1,?_⟩;rw[Jc];refine⟨_,rfl,?_⟩;by_cases hle:xs.length<=40
   ·rw[decide_eq_false (by lia:¬(40:Int)<xs.length),if_neg ak]
    have g:∀H',aM H H'->Q (.bl (xs.all (de H)&&(decide ((xs.map (aZ H)).Nodup)&&decide (∀y∈xs,∀z∈xs,cz H y=cz H z)))) H':=fun H' s'=>by
     have z:Q (.bl (decide (xs.length<=40)&&(xs.all (de H)&&(decide ((xs.map (aZ H)).Nodup)&&decide (∀y∈xs,∀z∈xs,cz H y=cz H z))))) H':=p H' s';rw[decide_eq_true hle,eF]at z;exact z
    have s:∀{H1:Hp},aM H H1->SqL K H1 a xs:=fun j=>j.seq (lg e0);refine cL (bD rfl (lg e0) (dy cK F (fun H1 j=>s j) (fun i v _=>v=.bl (de H (xs.getD i .non))) (fun _ _ _ _ _ h=>h) (fun f=>∃t,f=[t]) ⟨none,rfl⟩ ?_ ?_))
    ·rintro i y f N R hi ⟨t,rfl⟩ s3 d k
     have T:=hy y (aC d);exact⟨_,_,g1,y,rfl,y,rfl,T.same s3,fun n r=>k _ _ _ ⟨_,rfl⟩ r (by rw[getD_some d,F1 T s3])⟩
    intro vs H2 l b3 hF s2 a8;have e:=bool_list b3 hF;subst e;refine⟨l,_,rfl,SqL.of ao,_,rfl,?_⟩;rw[rE xs .non (de H)];have s3:aM H (upd H2 l (.lst (((aA xs.length).map fun i=>de H (xs.getD i .non)).map V.bl))):=s2.trans (aq a8);generalize upd H2 l (.lst (((aA xs.length).map fun i=>de H (xs.getD i .non)).map V.bl))=N at s3;cases ea:xs.all (de H)with
    |false=>
     rw[ea,dw]at g;rw[if_pos (by rfl)];exact g N s3
    |true=>
     rw[ea,eF]at g;rw[if_neg (by simp)];rw[bB]at ea;have Y:∀{i:Nat}{y:V},xs[i]? =some y->∃a z b ys,y=.ref a/\H a=some (.tup [.str z,.ref b])/\H b=some (.tup ys)/\aZ H y=z/\cz H y=ys.length:=fun d=>by
      obtain⟨a,z,b,ys,h1,h2,A,_,_,_,h7,h8⟩:=hO (ea _ (aC d));exact⟨a,z,b,ys,h1,h2,A,h7,h8⟩
     refine cL (bD rfl (s s3) (dy cK F (fun H1 j=>s (s3.trans j)) (fun i v _=>v=.str (aZ H (xs.getD i .non))) (fun _ _ _ _ _ h=>h) (fun f=>∃t u,f=[t,u]) ⟨none,none,rfl⟩ ?_ ?_))
     ·rintro i y f n R hi ⟨t,u,rfl⟩ r d k
      obtain⟨b,z,c,ys,rfl,h1,h2,A,O⟩:=Y d;refine⟨b,_,rfl,(s3.trans r).tup (SqT.of h1),rfl,_,_,rfl,_,_,rfl,rfl,_,rfl,k _ _ _ ⟨_,_,rfl⟩ (aM.refl _) ?_⟩;rw[getD_some d,A]
     intro b6 n l1 b4 a2 r a9;have e1:b6=xs.map fun y=>V.str (aZ H y):=AR b4 a2;subst e1;have m:aM H (upd n l1 (.lst (xs.map fun y=>V.str (aZ H y)))):=s3.trans (r.trans (aq a9));have L:SqL K (upd n l1 (.lst (xs.map fun y=>V.str (aZ H y)))) l1 (xs.map fun y=>V.str (aZ H y)):=SqL.of ao;generalize upd n l1 (.lst (xs.map fun y=>V.str (aZ H y)))=H5 at m L;refine cL (bD rfl (s m) (dy cK F (fun H1 j=>s (m.trans j)) (fun i v _=>v=.int (cz H (xs.getD i .non))) (fun _ _ _ _ _ h=>h) (fun f=>∃t u,f=[t,u]) ⟨none,none,rfl⟩ ?_ ?_))
     ·rintro i y f w R hi ⟨t,u,rfl⟩ B d k
      obtain⟨b,z,c,ys,rfl,h1,h2,A,O⟩:=Y d;refine⟨b,_,rfl,(m.trans B).tup (SqT.of h1),rfl,_,_,rfl,_,_,rfl,rfl,_,rfl,Or.inl ⟨c,ys,rfl,.inr ((m.trans B).tup (SqT.of h2)),k _ _ _ ⟨_,_,rfl⟩ (aM.refl _) ?_⟩⟩;rw[getD_some d,O]
     intro b7 w l2 b5 a3 B b0;have e2:b7=xs.map fun y=>V.int (cz H y):=AR b5 a3;subst e2;have C:aM H5 (upd w l2 (.lst (xs.map fun y=>V.int (cz H y)))):=B.trans (aq b0);have U:SqL K (upd w l2 (.lst (xs.map fun y=>V.int (cz H y)))) l2 (xs.map fun y=>V.int (cz H y)):=SqL.of ao;generalize upd w l2 (.lst (xs.map fun y=>V.int (cz H y)))=H7 at C U;have a0:(xs.map fun y=>(eW (aZ H y):Key)).map kV=xs.map fun y=>V.str (aZ H y):=by rw[bf];rfl
     have a1:(xs.map fun y=>(dG (cz H y:Int):Key)).map kV=xs.map fun y=>V.int (cz H y):=by rw[bf];rfl
     refine⟨l1,xs.map fun y=>(eW (aZ H y):Key),rfl,by rw[a0];exact C.seq L,by rw[ai];lia,fun o a4=>?_⟩;refine .inr (.inr ⟨o,_,rfl,ao,?_⟩);have D:aM H7 (upd H7 o (_root_.Q.Am o (_root_.Q.met (xs.map fun y=>(eW (aZ H y):Key))).length)):=aq a4;generalize upd H7 o (_root_.Q.Am o (_root_.Q.met (xs.map fun y=>(eW (aZ H y):Key))).length)=H8 at D;refine Or.inl ⟨l1,_,rfl,.inl (D.seq (C.seq L)),?_⟩;show gP K .Eq (.int ((_root_.Q.met (xs.map fun y=>(eW (aZ H y):Key))).length:Int)) (.int ((xs.map fun y=>V.str (aZ H y)).length:Int)) H8 _;rw[jd];refine⟨_,rfl,?_⟩;have b1:decide (((_root_.Q.met (xs.map fun y=>(eW (aZ H y):Key))).length:Int)=((xs.map fun y=>V.str (aZ H y)).length:Int))=decide ((xs.map (aZ H)).Nodup):=by
      rw[decide_eq_decide,ai];have S:(xs.map fun y=>(eW (aZ H y):Key)).Nodup↔(xs.map (aZ H)).Nodup:=by
       have :(xs.map fun y=>(eW (aZ H y):Key))=(xs.map (aZ H)).map eW:=by rw[bf];rfl
       rw[this];exact xG _
      constructor
      ·intro z
       refine S.mp (_root_.Q.zd ?_);rw[ai];exact Int.ofNat.inj z
      ·intro z
       rw[_root_.Q.FL (S.mpr z),ai]
     rw[b1];have X:aM H H8:=m.trans (C.trans D);cases en:decide ((xs.map (aZ H)).Nodup)with
     |false=>
      rw[en,dw]at g;rw[if_neg ak];exact g H8 X
     |true=>
      rw[en,eF]at g;rw[if_pos rfl];refine⟨l2,xs.map fun y=>(dG (cz H y:Int):Key),rfl,by rw[a1];exact D.seq U,by rw[ai];lia,fun Z a5=>?_⟩;refine .inr (.inr ⟨Z,_,rfl,ao,?_⟩);show gP K .LtE (.int ((_root_.Q.met (xs.map fun y=>(dG (cz H y:Int):Key))).length:Int)) (.int 1) _ Q;rw[IF];have b2:decide (((_root_.Q.met (xs.map fun y=>(dG (cz H y:Int):Key))).length:Int)<=1)=decide (∀y∈xs,∀z∈xs,cz H y=cz H z):=by
       rw[decide_eq_decide];have h1:((_root_.Q.met (xs.map fun y=>(dG (cz H y:Int):Key))).length:Int)<=1↔(_root_.Q.met (xs.map fun y=>(dG (cz H y:Int):Key))).length<=1:=by lia
       rw[h1,_root_.Q.met_one];constructor
       ·intro z y I M J
        have :=z _ (ax.mpr ⟨y,I,rfl⟩) _ (ax.mpr ⟨M,J,rfl⟩)
        injection this with this;lia
       ·intro z k1 a6 k2 a7
        obtain⟨y,I,rfl⟩:=ax.mp a6;obtain⟨M,J,rfl⟩:=ax.mp a7;rw[z y I M J]
      rw[b2];exact g _ (X.trans (aq a5))
   ·rw[decide_eq_true (by lia:(40:Int)<xs.length),if_pos rfl]
    have W:Q (.bl (decide (xs.length<=40)&&(xs.all (de H)&&(decide ((xs.map (aZ H)).Nodup)&&decide (∀y∈xs,∀z∈xs,cz H y=cz H z))))) H:=p H (aM.refl H);rw[decide_eq_false hle,dw]at W;exact W
 |_=>exact q H (aM.refl H)
noncomputable def yC(C:Addr):Sp:=fun vs H Q E=>∃x,vs=[x]/\Kn4 H x/\(dE H x=true->∀H',aM H H'->Q .non H')/\(dE H x=false->False)
theorem wQ(a:G.fn "is_table" 1=some (spT,[])):
  Sat G K (yC C) qU qB:=by
 rintro vs H Q E ⟨x,rfl,b,c,d⟩;unfold qU;change wpB G K _ _ _ [some x] H;walk_at "wp";refine⟨_,_,a,x,rfl,b,fun H1 f=>⟨_,rfl,?_⟩⟩;cases e:dE H x with
 |true=>
  rw[if_neg (by simp)];exact c e H1 f
 |false=>
  rw[if_pos (by rfl)];exact d e
noncomputable def count(H:Hp):V->Nat
 |.ref a=>match d0 (H a)with
  |some (y::_)=>cz H y
  |_=>0
 |_=>0
theorem eJ{x:V}(h:dE H x=true):∃a xs,x=.ref a/\d0 (H a)=some xs/\xs.length<=40/\(∀y∈xs,de H y=true)/\(xs.map (aZ H)).Nodup/\∀y∈xs,cz H y=count H x:=by
 cases x with
 |ref a=>
  have h':(match d0 (H a)with |some xs=>decide (xs.length<=40)&&(xs.all (de H)&&(decide ((xs.map (aZ H)).Nodup)&&decide (∀y∈xs,∀z∈xs,cz H y=cz H z))) |none=>false)=true:=h;split at h'
  ·rename_i xs e
   rw[aH,aH,aH,decide_eq_true_eq,decide_eq_true_eq,decide_eq_true_eq,bB]at h';obtain⟨h1,h2,c,d⟩:=h';refine⟨a,xs,rfl,e,h1,h2,c,fun y b=>?_⟩;show _=(match d0 (H a)with |some (y::_)=>cz H y|_=>0);rw[e];cases xs with
   |nil=>cases b
   |cons z r=>exact d y b z (.head _)
  ·cases h'
 |_=>cases h
noncomputable def uc(C:Addr):Sp:=fun vs H Q E=>∃x,vs=[x]/\Kn4 H x/\(dE H x=true->∀H',aM H H'->Q (.int (count H x)) H')/\(dE H x=false->False)
theorem uK(i:G.fn "need_table" 1=some (yC C,[])):
  Sat G K (uc C) o7 oZ:=by
 rintro vs H Q E ⟨x,rfl,m,f,q⟩;unfold o7;change wpB G K _ _ _ [some x] H;walk_at "wp";refine⟨_,_,i,x,rfl,m,fun e H1 d=>?_,q⟩;obtain⟨a,xs,rfl,h1,h2,k,s,l⟩:=eJ e;have g:SqL K H1 a xs:=d.seq (lg h1);refine Or.inl ⟨a,xs,rfl,.inl g,?_⟩;show gP K .Eq (.int (xs.length:Int)) (.int 0) H1 _;rw[jd];refine⟨_,rfl,?_⟩;cases xs with
 |nil=>
  rw[if_pos (by rfl)];have z:=f e H1 d;have h:count H (.ref a)=0:=by
   show(match d0 (H a)with |some (y::_)=>cz H y|_=>0)=0;rw[h1]
  rw[h]at z;exact z
 |cons y r=>
  rw[if_neg (by simp;lia)];obtain⟨b,z,c,ys,rfl,n,o,_,_,_,_,p⟩:=hO (k y (.head _));refine .inl ⟨a,_,0,.ref b,rfl,rfl,g,cf (j:=0) rfl,?_⟩;refine .inr (.inl ⟨b,_,1,.ref c,rfl,rfl,d.tup (SqT.of n),rfl,?_⟩);refine Or.inl ⟨c,ys,rfl,.inr (d.tup (SqT.of o)),?_⟩;have w:=f e H1 d;rw[<-l _ (.head _),p]at w;exact w
noncomputable def isPlace(H:Hp)(x:V):V->Bool
 |.int i=>decide (0<=i/\i<count H x)
 |_=>false
noncomputable def sg(H:Hp):V->List V
 |.ref a=>match di (H a)with
  |some [_,.ref b]=>(di (H b)).getD []
  |_=>[]
 |_=>[]
noncomputable def at_(H:Hp)(i:Int)(y:V):V:=(sg H y).getD i.toNat .non
theorem mf{x:V}(h:de H x=true):∃a b,x=.ref a/\H a=some (.tup [.str (aZ H x),.ref b])/\H b=some (.tup (sg H x))/\(sg H x).length=cz H x/\∀y∈sg H x,cI y=true:=by
 obtain⟨a,z,b,ys,rfl,h1,h2,_,_,c,d,f⟩:=hO h;have e:sg H (.ref a)=ys:=by
  show(match di (H a)with |some [_,.ref b]=>(di (H b)).getD [] |_=>[])=ys;rw[h1];show(di (H b)).getD []=ys;rw[h2];rfl
 refine⟨a,b,rfl,by rw[d];exact h1,by rw[e];exact h2,by rw[e,f],by rw[e];exact c⟩
theorem Dc{x:V}{i:Int}(h:de H y=true)(g:cz H y=count H x)(hi:isPlace H x (.int i)=true):atI (sg H y) i=some (at_ H i y)/\cI (at_ H i y)=true:=by
 have k:0<=i/\i<count H x:=of_decide_eq_true hi;obtain⟨a,b,_,_,_,f,c⟩:=mf h;have d:i.toNat<(sg H y).length:=by lia
 have e:(sg H y)[i.toNat]? =some (at_ H i y):=by
  unfold at_;rw[ae,aa d];rfl
 refine⟨?_,c _ (aC e)⟩;have :=cf (j:=i.toNat) e
 rwa [show((i.toNat:Nat):Int)=i by lia]at this
theorem iZ{v:V}(h:cI v=true):v=.int 0\/v=.int 1:=by
 cases v with
 |int i=>
  have h':(i==0||i==1)=true:=h;rw[cW,beq_iff_eq,beq_iff_eq]at h';rcases h' with rfl|rfl
  ·exact .inl rfl
  ·exact .inr rfl
 |_=>cases h
theorem mh{J:It}{v:Hp->Prop}{g:TG}{tc:TT}{te:TE}{Q:VK}{F:L2.St}{α:Type}{ds:List α}(O:xs.length=ds.length)(S:tT J xs.length (fun i x _=>xs[i]? =some x) v)(R:xs.length<=sizeLine)(L:∀H,aM H1 H->v H)
  (t:α->Bool)(f:V->α->V)(T:L2.St->Prop)(K:T F)
  (step:∀(i:Nat) x a k h (A:L2.St->V->Hp->Prop)(w:L2.St->Hp->Prop),xs[i]? =some x->ds[i]? =some a->T k->aM H1 h->(∀d j,T d->aM h j->t a=true->A d (f x a) j)->(∀d j,T d->aM h j->t a=false->w d j)->
   g x k h fun o G=>tc o G fun b u=>if b=true then te o u (A o)else w o u)
  (I:∀H2 l,aM H1 H2->H2 l=none->Q (.ref l) (upd H2 l (.lst (((xs.zip ds).filter fun p=>t p.2).map fun p=>f p.1 p.2)))):BD J g tc te F H1 Q:=by
 have E:(xs.zip ds).length=xs.length:=by rw[List.length_zip];lia
 refine⟨fun i m k acc H2=>m=xs.length-i/\i<=xs.length/\T k/\acc=(((xs.zip ds).take i).filter fun p=>t p.2).map (fun p=>f p.1 p.2)/\aM H1 H2,⟨xs.length,by simp,aR _,K,by simp,aM.refl _⟩,?_⟩;rintro i m k acc H2 ⟨rfl,hi,N,rfl,n⟩;have q:=L H2 n;by_cases hlt:i<xs.length
 ·refine .inr ⟨S.go i H2 q hlt,fun d B H'=>T d/\B=(((xs.zip ds).take (i+1)).filter fun p=>t p.2).map (fun p=>f p.1 p.2)/\aM H1 H',fun d B H' ⟨a,b,c⟩=>⟨xs.length-(i+1),by lia,rfl,hlt,a,b,c⟩,fun x h y=>?_⟩
  obtain⟨D,s⟩:=S.yld i H2 x h q hlt y;have C:ds[i]? =some ds[i]:=aa (by lia);have e:(xs.zip ds).take (i+1)=(xs.zip ds).take i++[(x,ds[i])]:=by
   rw[cg,(List.getElem?_zip_eq_some (z:=(x,ds[i]))).mpr ⟨D,C⟩];rfl
  have P:((((xs.zip ds).take i).filter fun p=>t p.2).map (fun p=>f p.1 p.2)).length<=i:=by
   rw[ai];refine aG (cP _ _) ?_;rw[bN];lia
  refine step i x _ k h _ _ D C N (n.trans s) (fun d j h1 h2 r=>⟨by lia,h1,?_,(n.trans s).trans h2⟩) (fun d j h1 h2 r=>⟨h1,?_,(n.trans s).trans h2⟩)
  ·rw[e,kR,c7]
   simp[r]
  ·rw[e,kR,c7]
   simp[r]
 ·have e:i=xs.length:=by lia
  subst e;rw[<-E,da];exact .inl ⟨S.stop _ H2 q (by rw[E];exact ay _),fun l M=>I H2 l n M⟩
theorem oF{J:It}{p:Hp->Prop}{g:TG}{tc:TT}{te:TE}{Q:VK}{u:L2.St}(S:tT J xs.length (fun i x _=>xs[i]? =some x) p)(B:xs.length<=sizeLine)(A:∀H,aM H1 H->p H)
  (t:V->Bool)(f:V->V)(T:L2.St->Prop)(y:T u)
  (step:∀x m c (k:L2.St->V->Hp->Prop)(j:L2.St->Hp->Prop),x∈xs->T m->aM H1 c->(∀e d,T e->aM c d->t x=true->k e (f x) d)->(∀e d,T e->aM c d->t x=false->j e d)->
   g x m c fun n v=>tc n v fun b o=>if b=true then te n o (k n)else j n o)
  (w:∀H2 l,aM H1 H2->H2 l=none->Q (.ref l) (upd H2 l (.lst ((xs.filter t).map f)))):BD J g tc te u H1 Q:=by
 refine mh rfl S B A t (fun _ a=>f a) T y (fun i x a m c k j q r=>?_) fun H2 l s h=>?_
 ·rw[q]at r
  cases r;exact step x m c k j (aC q)
 ·have z:=w H2 l s h
  rw[<-ju (l₁:=xs) (l₂:=xs) (ay _),fS,bf]at z;exact z
end Cp
namespace Lt
open PySem R
noncomputable def wZ:List Str:=["_law_script","_law_k"]
noncomputable def o4:List Str:=["_law_script","_law_k"]
noncomputable def pC:CB:=
  (.cons (.iff (.cmp .Lt (.var 1) (.bfn .len (.cons (.var 0) .nil)))
  (.cons (.ret (.idx (.var 0) (.var 1)))
  .nil)
  .nil)
  (.cons (.ret (.con (.int 0)))
  .nil))
end Lt
namespace Lt
open PySem PySem.Spec PyProof.Rows L2 R Cp
theorem v7{i j:Int}(h0:0<=j)(h1:j<18446744073709551616):Df i j:=.inr ⟨by lia,by lia⟩
theorem Et{i j:Int}(h0:0<=i)(h1:i<18446744073709551616):Df i j:=.inl ⟨by lia,by lia⟩
noncomputable def uX(K:ah):Sp:=fun vs H Q _=>∃(a:Addr)(ns:List Int)(k:Nat),vs=[.ref a,.int k]/\SqL K H a (ns.map V.int)/\Q (.int (ns.getD k 0)) H
theorem wp_cell:Sat G K (uX K) pC o4:=by
 rintro vs H Q E ⟨a,ns,k,rfl,b,q⟩;unfold pC;change wpB G K _ _ _ [some (.ref a),some (.int k)] H;walk_at "wp";refine Or.inl ⟨a,_,rfl,.inl b,?_⟩;show gP K .Lt (.int (k:Int)) (.int ((ns.map V.int).length:Int)) H _;rw[D4,ai];refine⟨_,rfl,?_⟩;by_cases hk:k<ns.length
 ·rw[decide_eq_true (by lia:(k:Int)<(ns.length:Int)),if_pos rfl]
  refine .inl ⟨a,_,k,_,rfl,rfl,b,cf (j:=k) (v:=.int (ns.getD k 0)) ?_,q⟩;rw[av,aa hk,ae,aa hk];rfl
 ·rw[decide_eq_false (by lia:¬(k:Int)<(ns.length:Int)),if_neg ak]
  rw[ae,bO (by lia)]at q;exact q
theorem short(h:n<=40):n<=sizeLine:=aG h (by decide)
end Lt
namespace Q
open PySem PySem.Spec PySem.W PyProof.Rows L2
theorem AB(nd:ks.Nodup):(ord ks).Perm (aA ks.length):=by
 unfold ord;split
 ·exact dN _
 ·have P:=(eT (uM nd) (by lia)).1
  have :=eI.mp P.perm
  simpa using this
theorem range_getD{α:Type}(d:α)(ys:List α):(aA ys.length).map (fun i=>ys.getD i d)=ys:=by
 apply bA
 ·simp
 ·intro i h1 h2
  simp[h2]
theorem fV{α:Type}(d:α){ys:List α}(nd:ks.Nodup)(a:ks.length=ys.length):(sortBy d ks ys).Perm ys:=by
 unfold sortBy;have h:=(AB nd).map fun i=>ys.getD i d;rw[a,range_getD]at h;exact h
theorem iY(nd:ks.Nodup):(sortBy ("":Str) ks ks).Pairwise fun a b=>tlt a b=true:=by
 unfold sortBy ord;split
 ·rename_i h
  rw[range_getD]
  match ks,h with
  | [],_=>exact .nil
  | [x],_=>simp
  |_::_::_,h=>simp at h;lia
 ·rename_i h
  obtain⟨P,U,_⟩:=eT (uM nd) (by lia:1<=ks.length);rw[cZ];intro i j hi f d;have m:i<ks.length:=by simpa[P.size]using hi
  have g:j<ks.length:=by simpa[P.size]using f
  have u:=U i j d g;rw[bj,bj];have e:∀(k:Nat)(c:k<(run (nj ks) (dm ks.length)).toList.length),(run (nj ks) (dm ks.length)).toList[k]=at' (run (nj ks) (dm ks.length)) k:=fun k c=>by
   have l:k<(run (nj ks) (dm ks.length)).size:=by simpa using c
   simp[at',l]
  rw[e,e];exact u
theorem E5{y:Str}(a:tlt x y=true)(b:tlt y x=true):False:=by
 have c:=xm a b;unfold tlt at c;exact List.lt_irrefl _ (of_decide_eq_true c)
theorem kB:∀{l m:List Str},l.Perm m->l.Pairwise (fun a b=>tlt a b=true)->m.Pairwise (fun a b=>tlt a b=true)->l=m
 | [],m,p,_,_=>by rw[List.nil_perm.mp p]
 |x::l,[],p,_,_=>by simpa using p.length_eq
 |x::l,y::m,p,h1,h2=>by
  rw[tK]at h1 h2;have e:x=y:=by
   by_cases e:x=y
   ·exact e
   ·have c:x∈m:=by
     have :=p.mem_iff.mp (aL (a:=x) (l:=l))
     rcases aE.mp this with z|z
     ·exact absurd z e
     ·exact z
    have d:y∈l:=by
     have :=p.mem_iff.mpr (aL (a:=y) (l:=m))
     rcases aE.mp this with z|z
     ·exact absurd z.symm e
     ·exact z
    exact(E5 (h1.1 y d) (h2.1 x c)).elim
  subst e;rw[kB (List.perm_cons x |>.mp p) h1.2 h2.2]
theorem sS{α:Type}(d:α)(f:α->Str)(p:α->Bool){ys:List α}(nd:(ys.map f).Nodup):((sortBy d (ys.map f) ys).filter p).map f=sortBy ("":Str) ((ys.filter p).map f) ((ys.filter p).map f):=by
 have c:((ys.filter p).map f).Nodup:=nd.sublist (ke.map _);refine kB ?_ ?_ (iY c)
 ·exact(((fV d nd (by simp)).filter p).map f).trans (fV ("":Str) c rfl).symm
 ·have h:((sortBy d (ys.map f) ys).map f).Pairwise fun a b=>tlt a b=true:=by
   have r:=iY nd;unfold sortBy at r⊢;rw[bf];have e:(ord (ys.map f)).map (f∘fun i=>ys.getD i d)=(ord (ys.map f)).map fun i=>(ys.map f).getD i ("":Str):=by
    apply cO
    intro i hi;have g:i<ys.length:=by
     have :=(AB nd).mem_iff.mp hi
     simpa using this
    show f (ys.getD i d)=(ys.map f).getD i ("":Str);rw[ae,ae,av,aa g];rfl
   rw[e];exact r
  exact h.sublist (ke.map _)
end Q
namespace Lt
open PySem PySem.Spec PyProof.Rows L2 R Cp
mutual
theorem A9:∀d:D,eqD d d=true
 |.non=>rfl
 |.bl b=>by cases b<;>rfl
 |.int i=>by show(i==i)=true;simp
 |.str x=>by show(x==x)=true;simp
 |.tup ds=>sA ds
 |.lst ds=>sA ds
theorem sA:∀ds:List D,lh ds ds=true
 | []=>rfl
 |d::ds=>by show(eqD d d&&lh ds ds)=true;rw[A9 d,sA ds];rfl
end
end Lt
namespace L2
open PySem PySem.Spec PyProof.Rows
section
variable {κ α:Type}[DecidableEq κ](kf:α->κ)(vf:α->V)
noncomputable def qO(acc:List (κ×V))(y:α):List (κ×V):=if(d5 acc (kf y)).isSome then acc else putK acc (kf y) (vf y)
noncomputable def fnd(ys:List α):List (κ×V):=ys.foldl (qO kf vf) []
theorem Jg(acc:List (κ×V))(y:α)(k:κ):d5 (qO kf vf acc y) k=if(d5 acc k).isSome then d5 acc k else if k=kf y then some (vf y)else none:=by
 unfold qO;cases h:d5 acc (kf y)with
 |some v=>
  show d5 acc k=_;cases hk:d5 acc k with
  |some u=>rfl
  |none=>
   rw[if_neg (by simp),if_neg];intro e;rw[e,h]at hk;cases hk
 |none=>
  rw[if_neg (by simp),GU];by_cases e:k=kf y
  ·rw[if_pos e,e,h]
   simp
  ·rw[if_neg e]
   cases hk:d5 acc k<;>simp[e]
theorem fndS_nd{acc:List (κ×V)}(y:α)(h:(acc.map (·.1)).Nodup):((qO kf vf acc y).map (·.1)).Nodup:=by
 unfold qO;cases e:d5 acc (kf y)with
 |some v=>exact h
 |none=>rw[if_neg (by simp)];exact nd_putK _ h e
theorem Jh(acc:List (κ×V))(y:α):(qO kf vf acc y).length<=acc.length+1:=by
 unfold qO;split
 ·lia
 ·exact sY _ _ _
theorem A6:∀(ys:List α)(acc:List (κ×V)),(ys.foldl (qO kf vf) acc).length<=acc.length+ys.length
 | [],acc=>ay _
 |y::ys,acc=>by
  have :=A6 ys (qO kf vf acc y)
  have :=Jh kf vf acc y
  simp only[dD,bg];lia
theorem Ek:∀(ys:List α){acc:List (κ×V)},(acc.map (·.1)).Nodup->((ys.foldl (qO kf vf) acc).map (·.1)).Nodup
 | [],_,h=>h
 |y::ys,_,h=>Ek ys (fndS_nd kf vf y h)
theorem A5:∀(ys:List α)(acc:List (κ×V))(k:κ),d5 (ys.foldl (qO kf vf) acc) k=if(d5 acc k).isSome then d5 acc k else(ys.find? fun y=>decide (kf y=k)).map vf
 | [],acc,k=>by
  show d5 acc k=_;cases d5 acc k<;>rfl
 |y::ys,acc,k=>by
  rw[dD,A5 ys,Jg];cases hk:d5 acc k with
  |some u=>simp
  |none=>
   simp only[GG,aU,if_false];by_cases e:k=kf y
   ·rw[if_pos e,iL]
    simp[e]
   ·have a:¬kf y=k:=fun z=>e z.symm
    rw[if_neg e,iL];simp[a]
theorem zy(ys:List α)(k:κ):d5 (fnd kf vf ys) k=(ys.find? fun y=>decide (kf y=k)).map vf:=by
 unfold fnd;rw[A5];rfl
theorem fnd_nd(ys:List α):((fnd kf vf ys).map (·.1)).Nodup:=Ek kf vf ys i6
theorem fnd_len(ys:List α):(fnd kf vf ys).length<=ys.length:=by
 have :=A6 kf vf ys []
 rw[oX,wC]at this;exact this
theorem zz{ys:List α}{k:κ}:k∈(fnd kf vf ys).map (·.1)↔∃y∈ys,kf y=k:=by
 constructor
 ·intro h
  cases e:d5 (fnd kf vf ys) k with
  |none=>exact absurd h (Ac e)
  |some v=>
   rw[zy]at e;obtain⟨y,a,_⟩:=mR.mp e;exact⟨y,List.mem_of_find?_eq_some a,by have :=List.find?_some a;simpa using this⟩
 ·rintro⟨y,a,e⟩
  cases h:d5 (fnd kf vf ys) k with
  |some v=>exact valV_in h
  |none=>
   rw[zy,Option.map_eq_none_iff,tM]at h;exact absurd e (by have :=h y a;simpa using this)
theorem Ip:∀{l m:List κ},l.Nodup->(∀x∈l,x∈m)->l.length<=m.length
 | [],_,_,_=>aR _
 |a::l,m,h,hs=>by
  obtain⟨h1,h2⟩:=bI.mp h;have b:=hs a (.head _);have :=Ip (l:=l) (m:=m.erase a) h2 fun x c=>(qk (fun e:x=a=>h1 (by rw[<-e];exact c))).mpr (hs x (.tail _ c));rw[List.length_erase_of_mem b]at this;have :=List.length_pos_of_mem b;simp only[bg];lia
theorem fnd_all{ys:List α}{ks:List κ}(b:ks.Nodup)(l:∀y∈ys,kf y∈ks):(fnd kf vf ys).length<ks.length↔∃k∈ks,∀y∈ys,kf y≠k:=by
 have m:∀k∈(fnd kf vf ys).map (·.1),k∈ks:=fun k h=>by
  obtain⟨y,a,e⟩:=(zz kf vf).mp h;rw[<-e];exact l y a
 have i:=fnd_nd kf vf ys;constructor
 ·intro n
  apply aI
  intro j;have d:∀k∈ks,k∈(fnd kf vf ys).map (·.1):=fun k b=>by
   apply aI
   intro c;exact j ⟨k,b,fun y a e=>c ((zz kf vf).mpr ⟨y,a,e⟩)⟩
  have :=Ip b d
  rw[ai]at this;lia
 ·rintro⟨k,g,f⟩
  have c:k∉(fnd kf vf ys).map (·.1):=fun h=>by
   obtain⟨y,a,e⟩:=(zz kf vf).mp h;exact f y a e
  have :(k::(fnd kf vf ys).map (·.1)).Nodup:=bI.mpr ⟨c,i⟩;have :=Ip this (fun x hx=>by
   rcases aE.mp hx with rfl|hx
   ·exact g
   ·exact m x hx)
  rw[bg,ai]at this;lia
end
end L2
namespace Kc
open PySem R
noncomputable def sj:List Str:=["copies","one","other"]
noncomputable def k7:List Str:=["copies","one","other","found","name","readings"]
noncomputable def lN:CB:=
  (.cons (.asg (.name 3) (.dicT))
  (.cons (.forr (.tup (.cons (.name 4) (.cons (.name 5) .nil))) (.seq (.var 0))
  (.cons (.expr (.setd (.var 3) (.tup (.cons (.idx (.var 5) (.var 1)) (.cons (.idx (.var 5) (.var 2)) .nil))) (.var 4)))
  .nil))
  (.cons (.iff (.cmp .Lt (.bfn .lend (.cons (.var 3) .nil)) (.bfn .len (.cons (.glo "KINDS") .nil)))
  (.cons (.ret (.con .none))
  .nil)
  .nil)
  (.cons (.ret (.bfn .tuple (.cons (.comp ["kind"] [3] (.name 0) (.seq (.glo "KINDS")) .no (.idxd (.var 1) (.var 0))) .nil)))
  .nil))))
end Kc
namespace Kc
open PySem PySem.Spec PyProof.Rows L2 R Cp Lt
theorem eL{J:It}{it:Nat->V->Hp->Prop}{k:Hp->Prop}{g:TG}{tb:TS}{D:Ends}(S:tT J n it k)(e:Nat->L2.St->Hp->Prop)(h0:e 0 σ H)(m:∀i σ H,i<=n->e i σ H->k H)
  (o:∀i x σ H H' (j:Ends),i<n->e i σ H->it i x H'->aM H H'->(∀f H2,e (i+1) f H2->j.nx f H2)->j.rt=D.rt->g x σ H' fun f H2=>tb j f H2)(l:∀σ H,e n σ H->D.nx σ H):ForB J g tb D σ H:=
 Ej S e h0 m (fun i x σ H H' a b c d=>o i x σ H H' _ a b c d (fun _ _ h=>h) rfl) l
theorem iE(h:us.length=1):∃a,us=[a]:=by
 cases us with
 |nil=>exact nomatch h
 |cons a r=>exact⟨a,by rw[a7.mp (jH h)]⟩
theorem fU(h:us.length=2):∃a b,us=[a,b]:=by
 cases us with
 |nil=>exact nomatch h
 |cons a r=>
  obtain⟨b,e⟩:=iE (jH h);exact⟨a,b,by rw[e]⟩
theorem mT(h:us.length=3):∃a b c,us=[a,b,c]:=by
 cases us with
 |nil=>exact nomatch h
 |cons a r=>
  obtain⟨b,c,e⟩:=fU (jH h);exact⟨a,b,c,by rw[e]⟩
theorem dX{α:Type}{F:α->Prop}{vs:List V}(h:∃a,F a)(k:∀a,F a->vs.length=n):vs.length=n:=let⟨a,f⟩:=h;k a f
theorem fJ{P:Prop}{l vs:List V}(h:vs=l/\P)(e:l.length=n):vs.length=n:=by rw[h.1];exact e
noncomputable def num(H:Hp)(i:Int)(y:V):Int:=match at_ H i y with
 |.int n=>n
 |_=>0
noncomputable def KP:List (Int×Int):=[(0,0),(0,1),(1,0),(1,1)]
noncomputable def pU(k:Int×Int):List Key:=[.inl k.1,.inl k.2]
noncomputable def kf(H:Hp)(i j:Int)(y:V):List Key:=pU (num H i y,num H j y)
noncomputable def kC(H:Hp)(xs:List V)(i j:Int):Bool:=KP.all fun k=>xs.any fun y=>decide (num H i y=k.1/\num H j y=k.2)
noncomputable def firstOf(H:Hp)(xs:List V)(i j:Int)(k:Int×Int):V:=((xs.find? fun y=>decide (kf H i j y=pU k)).map fun y=>V.str (aZ H y)).getD .non
def Kinds(K:ah)(kd:Addr):Prop:=∃a b c d:Addr,∀H:Hp,SqT K H kd [.ref a,.ref b,.ref c,.ref d]/\SqT K H a [.int 0,.int 0]/\SqT K H b [.int 0,.int 1]/\SqT K H c [.int 1,.int 0]/\SqT K H d [.int 1,.int 1]
theorem Kinds.at(h:Kinds K kd):∃a:List V,a.length=4/\(∀H:Hp,SqT K H kd a)/\∀(H:Hp)(i:Nat) x,a[i]? =some x->∃(b:Addr)(k:Int×Int),x=.ref b/\KP[i]? =some k/\SqT K H b ((pU k).map kV):=by
 obtain⟨c,d,f,g,h⟩:=h;refine⟨[.ref c,.ref d,.ref f,.ref g],rfl,fun H=>(h H).1,fun H i x e=>?_⟩;obtain⟨_,h0,h1,h2,j⟩:=h H
 match i,e with
 | 0,e=>cases e;exact⟨c,_,rfl,rfl,h0⟩
 | 1,e=>cases e;exact⟨d,_,rfl,rfl,h1⟩
 | 2,e=>cases e;exact⟨f,_,rfl,rfl,h2⟩
 | 3,e=>cases e;exact⟨g,_,rfl,rfl,j⟩
 |n+4,e=>simp at e
theorem zb{x:V}{i:Int}(h:de H y=true)(a:cz H y=count H x)(hi:isPlace H x (.int i)=true):at_ H i y=.int (num H i y)/\(num H i y=0\/num H i y=1):=by
 have :=(Dc h a hi).2
 unfold num;rcases iZ this with e|e
 ·rw[e];exact⟨rfl,.inl rfl⟩
 ·rw[e];exact⟨rfl,.inr rfl⟩
theorem IP{k l:Int×Int}(h:pU k=pU l):k=l:=by
 unfold pU at h;injection h with h1 h2
 injection h2 with h2 _;injection h1 with h1;injection h2 with h2;exact Prod.ext h1 h2
theorem II:(KP.map pU).Nodup:=by decide+kernel
theorem kf_eq{i j:Int}{k:Int×Int}:kf H i j y=pU k↔(num H i y=k.1/\num H j y=k.2):=by
 constructor
 ·intro h
  have :=IP h
  rw[<-this];exact⟨rfl,rfl⟩
 ·rintro⟨h1,h2⟩
  unfold kf;rw[h1,h2]
theorem vR{i j:Int}(vf:V->V)(c:∀y∈xs,kf H i j y∈KP.map pU):(fnd (kf H i j) vf xs).length<4↔kC H xs i j=false:=by
 rw[show(4:Nat)=(KP.map pU).length from rfl,fnd_all (kf H i j) vf II c];unfold kC;rw[List.all_eq_false];constructor
 ·rintro⟨k,b,h⟩
  obtain⟨p,hp,rfl⟩:=ax.mp b;refine⟨p,hp,?_⟩;intro z;obtain⟨y,a,e⟩:=b8.mp z;exact h y a (kf_eq.mpr (of_decide_eq_true e))
 ·rintro⟨p,hp,h⟩
  refine⟨pU p,ax.mpr ⟨p,hp,rfl⟩,fun y a e=>h ?_⟩;exact b8.mpr ⟨y,a,decide_eq_true (kf_eq.mp e)⟩
theorem kf_in{x:V}{i j:Int}(b:∀y∈xs,de H y=true)(c:∀y∈xs,cz H y=count H x)(hi:isPlace H x (.int i)=true)(h:isPlace H x (.int j)=true):∀y∈xs,kf H i j y∈KP.map pU:=by
 intro y a;have d:=(zb (b y a) (c y a) hi).2;have g:=(zb (b y a) (c y a) h).2;unfold kf;refine ax.mpr ⟨_,?_,rfl⟩;rcases d with e|e<;>rcases g with f|f<;>rw[e,f]<;>simp[KP]
noncomputable def yF:Sp:=fun vs H Q _=>∃a xs i j b,vs=[.ref a,.int i,.int j]/\aM b H/\dE b (.ref a)=true/\d0 (b a)=some xs/\isPlace b (.ref a) (.int i)=true/\isPlace b (.ref a) (.int j)=true/\
 (kC b xs i j=false->∀H',aM H H'->Q .non H')/\(kC b xs i j=true->∀H' l,aM H H'->H l=none->H' l=some (.tup (KP.map (firstOf b xs i j)))->Q (.ref l) H')
theorem GO(v1:G.val "KINDS"=some (.ref kd))(hk:Kinds K kd):
  Sat G K yF lN k7:=by
 rintro vs H Q E ⟨a,xs,i,j,e,rfl,s0,ht,M,hi,B,q1,q2⟩;unfold lN;change wpB G K _ _ _ [some (.ref a),some (.int i),some (.int j),none,none,none] H;walk_at "wp";intro d J;obtain⟨a',a6,W,h1,h2,q,h4,r⟩:=eJ ht;cases W;rw[M]at h1;cases h1;obtain⟨T,A,C,a1⟩:=hk.at;have P:∀{H1:Hp},aM e H1->SqL K H1 a xs:=fun g=>g.seq (lg M);have O:aM H (upd H d (.dT [])):=aq J;refine fo (bD rfl (P (s0.trans O)) (eL cK (fun k σ H'=>aM H H'/\H' d=some (.dT (fnd (kf e i j) (fun y=>V.str (aZ e y)) (xs.take k)))/\∃u v,σ=[some (.ref a),some (.int i),some (.int j),some (.ref d),u,v])
  ⟨O,ao,none,none,rfl⟩ (fun k σ H' _ p=>P (s0.trans p.1)) ?_ ?_))
 ·rintro k y σ H1 H2 D2 a5 ⟨g,m,u,v,rfl⟩ w s2 I _
  have f:=aC w;have X:=zb (q y f) (r y f) hi;have Y:=zb (q y f) (r y f) B;have gi:=(Dc (q y f) (r y f) hi).1;have gj:=(Dc (q y f) (r y f) B).1;obtain⟨b,c,rfl,k1,N,k3,k4⟩:=mf (q y f);have s3:=s0.trans (g.trans s2);refine⟨b,_,rfl,s3.tup (SqT.of k1),rfl,_,_,rfl,_,_,rfl,rfl,?_⟩;walk_at "wp";refine⟨.inr (.inr (.inl ⟨rfl,.inr ⟨_,s2 _ _ m⟩⟩)),?_⟩;refine .inr (.inl ⟨c,_,i,_,rfl,rfl,s3.tup (SqT.of N),gi,?_⟩);refine .inr (.inl ⟨c,_,j,_,rfl,rfl,s3.tup (SqT.of N),gj,short (by simp),fun p hp=>?_⟩);have x:aM H2 (upd H2 p (.tup [at_ e i (.ref b),at_ e j (.ref b)])):=aq hp;have hf:(fnd (kf e i j) (fun y=>V.str (aZ e y)) (xs.take k)).length<=40:=aG (fnd_len _ _ _) (by rw[bN];lia);have Z:xs.take (k+1)=xs.take k++[V.ref b]:=by rw[cg,w];rfl
  have F:fnd (kf e i j) (fun y=>V.str (aZ e y)) (xs.take (k+1))=qO (kf e i j) (fun y=>V.str (aZ e y)) (fnd (kf e i j) (fun y=>V.str (aZ e y)) (xs.take k)) (.ref b):=by
   unfold fnd;rw[Z,List.foldl_append];rfl
  refine⟨d,p,_,kf e i j (.ref b),_,rfl,rfl,x _ _ (s2 _ _ m),?_,lR hf (by decide),fun z D=>?_,fun D=>?_⟩
  ·rw[ao,X.1,Y.1]
   rfl
  ·refine I _ _ ⟨g.trans (s2.trans x),?_,_,_,rfl⟩
   rw[F];unfold qO;rw[D];exact x _ _ (s2 _ _ m)
  ·refine I _ _ ⟨dW (g.trans (s2.trans x)) J,?_,_,_,rfl⟩
   rw[F];unfold qO;rw[D];exact ao
 ·rintro σ H1 ⟨g,m,u,v,rfl⟩
  rw[da]at m;walk_at "wp";refine⟨d,_,rfl,m,_,v1,Or.inl ⟨kd,T,rfl,.inr (C _),?_⟩⟩;rw[A];show gP K .Lt (.int _) (.int ((4:Nat):Int)) H1 _;rw[D4];refine⟨_,rfl,?_⟩;have o:=vR (fun y=>V.str (aZ e y)) (kf_in q r hi B);cases hf:kC e xs i j with
  |false=>
   have :=o.mpr hf
   rw[decide_eq_true (by lia),if_pos rfl];exact q1 hf H1 g
  |true=>
   have a4:¬(fnd (kf e i j) (fun y=>V.str (aZ e y)) xs).length<4:=fun z=>by rw[o.mp z]at hf;cases hf
   rw[decide_eq_false (by lia),if_neg ak];refine cL ⟨_,v1,.inr (.inl ⟨kd,rfl,⟨_,C _⟩,?_⟩)⟩;refine dy qv (by rw[A];exact short (by decide)) (fun H2 _=>C H2) (fun n v _=>v=firstOf e xs i j (KP.getD n (0,0))) (fun _ _ _ _ _ h=>h) (fun S=>∃t,S=[t,some (.ref d)]) ⟨none,rfl⟩ ?_ ?_
   ·rintro n y S H2 R hn ⟨t,rfl⟩ s2 w k
    obtain⟨b,p,rfl,hp,s⟩:=a1 H2 n y w;walk_at "wp";have a0:xs.any (fun y=>decide (num e i y=p.1/\num e j y=p.2))=true:=by
     unfold kC at hf;exact bB.mp hf p (aC hp)
    obtain⟨y0,a3,U⟩:=b8.mp a0;cases o:xs.find? (fun y=>decide (kf e i j y=pU p))with
    |none=>
     rw[tM]at o;exact absurd (decide_eq_true (kf_eq.mpr (of_decide_eq_true U))) (o y0 a3)
    |some y1=>
     refine⟨d,b,_,pU p,V.str (aZ e y1),rfl,rfl,s2 _ _ m,s,?_,?_⟩
     ·rw[zy,o]
      rfl
     ·refine k _ _ _ ⟨_,rfl⟩ (aM.refl _) ?_
      rw[getD_some hp];unfold firstOf;rw[o];rfl
   ·intro vs H2 l L hF s2 a2
    have ev:vs=KP.map (firstOf e xs i j):=by
     rw[A]at L;apply bA
     ·rw[L];rfl
     ·intro n m1 m2
      have :=hF n vs[n] (by simp[m1])
      rw[this,bj,ae,aa (by simpa using m2)];rfl
    subst ev;refine⟨l,_,rfl,.inl ⟨SqL.of ao,fun b s=>?_⟩⟩;have s3:aM H (upd H2 l (.lst (KP.map (firstOf e xs i j)))):=g.trans (s2.trans (aq a2));exact q2 hf _ b (s3.trans (aq s)) (s3.free s) ao
end Kc
namespace K21
open PySem PySem.Spec PyProof.Rows L2 R Cp Lt Kc
def Dr(H:Hp)(nf:Nat->Str)(n:Nat)(ys:List V):Prop:=∀(i:Nat) y,ys[i]? =some y->∃b r zs,y=.ref b/\H b=some (.tup [.str (nf i),.ref r])/\H r=some (.tup zs)/\zs.length=n/\∀z∈zs,cI z=true
theorem qR(g:∀i,gZ (nf i)=true)(d:Dr H nf n ys)(m:n<=60)(e:ys[i]? =some y):de H y=true/\aZ H y=nf i/\cz H y=n/\Kn3 H y:=by
 obtain⟨b,r,zs,rfl,h1,h2,j,f⟩:=d i y e;have ar:dj H (.ref r)=true:=by
  show(match di (H r)with |some xs=>decide (xs.length<=60)&&xs.all cI|none=>false)=true;rw[h2];show(decide (zs.length<=60)&&zs.all cI)=true;rw[decide_eq_true (by lia),eF,bB];exact f
 have k:(nf i).length<=20000:=by
  have :=g i
  unfold gZ at this;rw[aH,decide_eq_true_eq]at this;lia
 refine⟨?_,?_,?_,⟨zq h1,fun z e=>nomatch e⟩,fun a xs e c=>?_⟩
 ·show(match di (H b)with |some [n,r]=>isName n&&dj H r|_=>false)=true
  rw[h1];show(gZ (nf i)&&dj H (.ref r))=true;rw[g,ar];rfl
 ·show(match di (H b)with |some (.str z::_)=>z|_=>("":Str))=_
  rw[h1];rfl
 ·show(match di (H b)with |some [_,.ref b]=>(di (H b)).elim 0 mr|_=>0)=n
  rw[h1];show(di (H r)).elim 0 mr=n;rw[h2];exact j
 ·injection e with e
  subst e;rw[h1]at c;cases c;refine⟨by show 2<=20000;decide,fun y h=>?_⟩;simp only[aE,cM,or_false]at h;rcases h with rfl|rfl
  ·exact⟨⟨kn_str,fun z e=>by injection e with e;rw[<-e];exact k⟩,fun a xs e=>nomatch e⟩
  ·refine⟨⟨zq h2,fun z e=>nomatch e⟩,fun a xs e c=>?_⟩
   injection e with e;subst e;rw[h2]at c;cases c;refine⟨by lia,fun z l=>?_⟩;rcases iZ (f z l)with rfl|rfl
   ·exact⟨zr,fun z e=>nomatch e⟩
   ·exact⟨zr,fun z e=>nomatch e⟩
theorem vW{t:Addr}(g:∀i,gZ (nf i)=true)(o:∀i j,i<ys.length->j<ys.length->nf i=nf j->i=j)(k:H t=some (.lst ys))(d:Dr H nf n ys)(p:ys.length<=40)(f:n<=60):Kn4 H (.ref t)/\dE H (.ref t)=true/\(∀y∈ys,de H y=true)/\∀y∈ys,cz H y=n:=by
 have at':∀y∈ys,∃i,ys[i]? =some y:=fun y c=>cu.mp c;have l:∀y∈ys,de H y=true:=fun y c=>let⟨i,e⟩:=at' y c;(qR g d f e).1;have ct:∀y∈ys,cz H y=n:=fun y c=>let⟨i,e⟩:=at' y c;(qR g d f e).2.2.1;refine⟨⟨⟨IH k,fun z e=>nomatch e⟩,fun a xs e m=>?_⟩,?_,l,ct⟩
 ·injection e with e
  subst e;rw[k]at m;cases m;exact⟨by lia,fun y c=>let⟨i,e⟩:=at' y c;(qR g d f e).2.2.2⟩
 ·show(match d0 (H t)with |some xs=>decide (xs.length<=40)&&(xs.all (de H)&&(decide ((xs.map (aZ H)).Nodup)&&decide (∀y∈xs,∀z∈xs,cz H y=cz H z))) |none=>false)=true
  rw[k];show(decide (ys.length<=40)&&(ys.all (de H)&&(decide ((ys.map (aZ H)).Nodup)&&decide (∀y∈ys,∀z∈ys,cz H y=cz H z))))=true;rw[decide_eq_true p,eF,aH,aH,bB,decide_eq_true_eq,decide_eq_true_eq];refine⟨l,?_,fun y c z q=>by rw[ct y c,ct z q]⟩;show List.Pairwise (fun a b=>a≠b) _;rw[cZ];intro i j hi h r e;rw[ai]at hi h;rw[bj,bj,(qR g d f (aa hi)).2.1,(qR g d f (aa h)).2.1]at e;have :=o i j hi h e;lia
theorem zu{vs:List V}(h:∀(i:Nat) v,vs[i]? =some v->∃m:Int,v=.int m):∃ns:List Int,vs=ns.map V.int:=by
 induction vs with
 |nil=>exact⟨[],rfl⟩
 |cons v vs ih=>
  obtain⟨m,rfl⟩:=h 0 v rfl;obtain⟨ns,rfl⟩:=ih fun i w e=>h (i+1) w (by simpa using e);exact⟨m::ns,rfl⟩
theorem JE(ns:List Int)(lo hi:Option Int):∃b:List Int,lq (ns.map V.int) lo hi=b.map V.int:=by
 refine zu fun i v e=>?_;have a:=aC e;unfold lq at a;obtain⟨m,_,rfl⟩:=ax.mp (List.mem_of_mem_drop (qj a));exact⟨m,rfl⟩
end K21
namespace K22
open PySem PySem.Spec PyProof.Rows L2 R Cp Lt Kc K21
theorem AI{t p:Addr}{fs:List Int}(b:SqL K H t (fs.map V.int))(ep:H p=some (.lst [])):∃d a,Rep K H d (.ref t)/\Rep K H a (.ref p)/\hgt d<=30/\eqD d a=decide (fs=[]):=by
 refine⟨.lst (fs.map D.int),.lst [],⟨t,_,rfl,b,ff.ints fs⟩,⟨p,[],rfl,SqL.of ep,rfl⟩,by show jo (fs.map D.int)+1<=30;rw[oD];decide,?_⟩;cases fs with
 |nil=>rfl
 |cons x r=>
  rw[decide_eq_false (by simp)];rfl
end K22
namespace Lm
open PySem PySem.Spec PySem.W PyProof.Rows L2 Q
noncomputable abbrev Kp(h h':Heap):Prop:=∀b o,h.get? b=some o->h'.get? b=some o
section
variable {prog:Program}{w:World}{A:Around}{E:Value->Shared->Prop}{s:Shared}
theorem JJ{Q:Value->Shared->Prop}{params:Arguments}{k:Value}{p1 p2 p3:Pos}{its:Array Value}
  (hf:s.heap.get? f=some (kla_obj "<lambda>" qual params (.Subscript (.Name x p1) (.Constant (.int 0) j p2) p3) scope [] pm c' ctv))(p:s.heap.CodeRec (.ref c') qual)(F:A.depth<jA)(C:s.heap.NoLimit)
  (n:∀v,qe (kla_fn "<lambda>" qual params (.Subscript (.Name x p1) (.Constant (.int 0) j p2) p3) scope [] pm (.ref c') ctv) ⟨[v],[]⟩=pure [(x,v)])
  (l:scope.names.lookup x=some .local)(u:(x==("__debug__":Str))=false)(a:scope.kind=.function)(q:∀y∈scope.names,y.2≠.cell)(t:scope.isCoroutine=false)(B:scope.isGenerator=false)
  (G:IsTup s.heap b its)(h0:its[0]? =some k)(h:∀h' t',Kp s.heap h'->Q k {s with heap:=h',toks:=t'}):wpAny (model prog w) A (call (.ref f) [.ref b]) Q E s:=by
 refine wpAny_call (kla_callFunE F hf rfl t B rfl p ?_);rw[n];refine aj (wpAny_newFunctionEnv q (fun y H=>?_) (fun m D g=>⟨C.fresh _ g,?_⟩) a)
 ·have e:y=(x,.ref b):=by simpa using H
  rw[e];exact l
 have d:Kp s.heap m:=fun b o e=>g.extBut b o (aK (aB e)) (ag _ e);refine kla_codeExpr (Subscript_ (Gi (wpAny_loadName_local a l D (v:=.ref b) (by simp) ?_) u));refine wpAny_Constant_int ?_;have i:IsTup m b its:=by
  obtain⟨o,e,c⟩:=G;exact⟨o,d _ _ e,c⟩
 have I:0<its.size:=by
  rcases Nat.eq_zero_or_pos its.size with z|z
  ·rw[Array.getElem?_eq_none (by lia)]at h0;cases h0
  ·exact z
 exact rJ (x:=k) i.typeIs slot_tuple_getitem.lookup
  (getItem_tuple (j:=0) (Q:=fun r s'=>r=k/\_) i (by decide) (by decide) (by rw[tY (by decide) (by lia)];rfl) h0 ⟨rfl,h _ _ d⟩) rfl
def Keys(prog:Program)(w:World)(A:Around)(f:Value)(vs:List Value)(ks:List Str)(h0:Heap):Prop:=
 ∀(i:Nat)(v:Value)(k:Str),vs[i]? =some v->ks[i]? =some k->∀(s1:Shared)(E:Value->Shared->Prop)(a:Value->Shared->Prop),Kp h0 s1.heap->
  (∀t h' t',Kp s1.heap h'->a (.str k t) {s1 with heap:=h',toks:=t'})->wpAny (model prog w) A (call f [v]) a E s1
theorem strs_snoc{k:Str}{t:Tok}:∀{vs:List Value}{ks:List Str},zV vs ks->zV (vs++[.str k t]) (ks++[k])
 |_,_,.nil=>.cons k t .nil
 |_,_,.cons y u h=>.cons y u (strs_snoc h)
theorem Dw{e f:Nat}{st:SortSt}{P:dM->Shared->Prop}(p:(arrOf st).map (·.2)=dQ out)(hz:out.length<64)(m:kv.length<64)(hf:failedOf st=none)
  (l:s.heap.get? kS=some (seqObj "list" kv.toArray e))(j:s.heap.get? a=some (seqObj "list" #[] f))(n:kS≠a)
  (h:∀h' c,(∀b o,b≠a->b≠kS->s.heap.get? b=some o->h'.get? b=some o)->h'.get? a=some (seqObj "list" out.toArray c)->P (.done (.ret .none)) {s with heap:=h'}):
  wpAny (model prog w) A (ksk_tail a false f (.ref kS) st) P E s:=by
 have i:=bM s.heap kS (aV fun _=>(#[]:Array Value));have g:(s.heap.update kS (aV fun _=>(#[]:Array Value))).get? a=some (seqObj "list" #[] f):=(i.2 a (bS n)).trans j;have s2:=bM (s.heap.update kS (aV fun _=>(#[]:Array Value))) a (aV fun _=>dQ out);obtain⟨d,k⟩:∃d,((s.heap.update kS (aV fun _=>(#[]:Array Value))).update a (aV fun _=>dQ out)).get? a=some (seqObj "list" (dQ out) d):=⟨_,rS g fun _=>dQ out⟩;unfold ksk_tail;try dsimp only
 rw[p];refine af (fC l rfl ?_ (by rw[au];exact fL m) (aR _));refine af (kK ?_);refine af (tZ g rfl ?_);refine af (fC g rfl ?_ (aR _) (by simpa using DA hz));rw[hf];simp only[bne_self_eq_false,aU,if_false];exact aj (h _ d (fun b o h1 h2 q=>(s2.2 b h1).trans ((i.2 b h2).trans q)) k)
theorem end_ok{e d:Nat}{P:dM->Shared->Prop}(nd:ks.Nodup)(r:zV kv ks)(x:ks.length=vs.length)(l:vs.length<64)
  (v:s.heap.get? kS=some (seqObj "list" kv.toArray e))(u:s.heap.get? a=some (seqObj "list" #[] d))(y:kS≠a)
  (h:∀h' c,(∀b o,b≠a->b≠kS->s.heap.get? b=some o->h'.get? b=some o)->h'.get? a=some (seqObj "list" (gE (nj ks) vs).toArray c)->P (.done (.ret .none)) {s with heap:=h'}):
  wpAny (model prog w) A (ksk_end a false vs.toArray d (.ref kS) (dQ kv)) P E s:=by
 have f:vs.toArray.size=vs.length:=by simp
 have M:=uS r;have m:kv.length=vs.length:=M.trans x;unfold ksk_end;simp only[aU,if_false];by_cases hn:vs.length<2
 ·have k:gE (nj ks) vs=vs:=if_pos hn
  rw[k]at h;rw[if_pos (by rw[f];exact hn),if_pos (by rw[f];exact hn)];refine af (aj (af ?_));rw[StateT.run_pure];refine aj (Dw (out:=vs) ?_ l (by lia) rfl v u y h);show(kv.toArray.zip vs.toArray).map (·.2)=vs.toArray;apply Array.ext';simp[ju,m]
 ·have h2:2<=vs.length:=by lia
  have k:gE (nj ks) vs=(run (nj ks) (dm vs.length)).toList.map fun i=>vs.getD i .none:=if_neg hn;rw[k]at h;rw[if_neg (by rw[f];exact hn),if_neg (by rw[f];exact hn)];obtain⟨κ,K,L⟩:=Gf (prog:=prog) (w:=w) (A:=A) (h0:=s.heap) r (by lia) s (fun _ _ q=>q);have T:Tot (nj ks) vs.length:=by rw[<-x];exact uM nd
  obtain⟨D,N,B⟩:=eT T (by lia:1<=vs.length);refine af (K _ _ (af ?_));have key:=kat_run (prog:=prog) (w:=w) (A:=A) (E:=E) (κ:=κ) (ks:=kv) (vs:=vs) (s:=s)
   (Q:=fun g s'=>s'=s/\arrOf g=(run (nj ks) (dm vs.length)).map (kas_item (kv.toArray.zip vs.toArray))/\failedOf g=none)
   (G:=fun p s'=>s'=s/\p=run (nj ks) (dm vs.length)) m h2 l
   (fun p g s' _ d F t=>⟨t.1,by rw[d,t.2],F⟩)
   (wp_run (S:=fun s'=>s'=s) (fun i j C s' hi O J n H=>by
    subst n;exact L i j C (by lia) (by lia) J (H _ rfl)) _ _ B rfl fun s' n=>⟨n,rfl⟩)
  refine gy key ?_ fun _ _ z=>z;rintro⟨⟨⟩,g⟩ s' ⟨rfl,I,hf⟩;exact Dw (kat_snds m I) (by rw[ai,bZ,D.size];exact l) (by lia) hf v u y h
theorem Hg{f:Value}{P:dM->Shared->Prop}(nd:ks.Nodup)(Q:ks.length=vs.length)(m:s.heap.get? a=some (seqObj "list" vs.toArray n))
  (K:∀b o,h0.get? b=some o->s.heap.get? b=some o/\b≠a)(B:vs.length<64)(S:Keys prog w A f vs ks h0)
  (h:∀h' t' c,(∀b o,b≠a->s.heap.get? b=some o->h'.get? b=some o)->h'.get? a=some (seqObj "list" (gE (nj ks) vs).toArray c)->P (.done (.ret .none)) {s with heap:=h',toks:=t'}):
  wpAny (model prog w) A (ksk_tree a f false) P E s:=by
 have R:vs.toArray.size=vs.length:=by simp
 have N:a<s.heap.objs.size:=aB m;have T:=bM s.heap a (aV fun _=>(#[]:Array Value));obtain⟨g,I⟩:∃g,(s.heap.update a (aV fun _=>(#[]:Array Value))).get? a=some (seqObj "list" #[] g):=⟨_,rS m fun _=> #[]⟩;unfold ksk_tree;refine af (listItems_at m rfl ?_);refine af (fC m rfl ?_ (by rw[R];exact fL B) (aR _));refine af (tZ I rfl ?_);refine af (wpAny_newTuple ?_ (show vs.length<=_ from fL B));refine af (oW ?_ (aR _));refine bU ?_;have F:((s.heap.update a (aV fun _=>(#[]:Array Value))).push (seqObj "tuple" vs.toArray 0)).get? a=some (seqObj "list" #[] g):=ag _ I;have L:∀b o,b≠a->s.heap.get? b=some o->((s.heap.update a (aV fun _=>(#[]:Array Value))).push (seqObj "tuple" vs.toArray 0)).get? b=some o:=fun b o d q=>ag _ ((T.2 b d).trans q);have p:s.heap.objs.size<((s.heap.update a (aV fun _=>(#[]:Array Value))).push (seqObj "tuple" vs.toArray 0)).objs.size:=by rw[Gk,wM];lia
 show wpAny _ _ (ksk_rest a f false vs.toArray g (.ref ((s.heap.update a (aV fun _=>(#[]:Array Value))).push (seqObj "tuple" vs.toArray 0)).objs.size)) _ _
  {s with heap:=((s.heap.update a (aV fun _=>(#[]:Array Value))).push (seqObj "tuple" vs.toArray 0)).push (seqObj "list" #[] 0)}
 generalize(s.heap.update a (aV fun _=>(#[]:Array Value))).push (seqObj "tuple" vs.toArray 0)=h1 at F L p⊢;have H:h1.objs.size≠a:=eD (hW N p);unfold ksk_rest;refine af (ip ?_)
 first
  |rw[List.forIn_toArray]
  | (rw[<-Kf];simp only[Kd])
  |rw[<-Kf]
 refine af (ksk_fold (fun i s'=>∃h2 v kv e,s'={s with heap:=h2,toks:=v}/\zV kv (ks.take i)/\h2.get? h1.objs.size=some (seqObj "list" (dQ kv) e)/\h2.get? a=some (seqObj "list" #[] g)/\∀b o,b≠a->s.heap.get? b=some o->h2.get? b=some o)
  vs 0 _ ⟨_,s.toks,[],0,rfl,by rw[List.take_zero];exact .nil,az _ rfl,ag _ F,fun b o d q=>ag _ (L b o d q)⟩ ?_ ?_)
 ·rintro j x s' J ⟨h2,v,kv,e,rfl,r,l,C,kp⟩
  rw[wC]at r;have U:j<vs.length:=(aD.mp J).1;have G:ks[j]? =some (ks[j]'(by lia)):=aa (by lia);have V:kv.length=j:=by rw[uS r,bN];lia
  refine af (wJ (S j x _ J G _ _ _ (fun b o q=>kp b o (K b o q).2 (K b o q).1) fun t D t3 u=>?_));have s3:=bM D h1.objs.size (aV (·.push (iM (ks[j]'(by lia)) t)));have M:(dQ kv).push (iM (ks[j]'(by lia)) t)=dQ (kv++[iM (ks[j]'(by lia)) t]):=by simp
  obtain⟨y,O⟩:∃y,(D.update h1.objs.size (aV (·.push (iM (ks[j]'(by lia)) t)))).get? h1.objs.size=some (seqObj "list" (dQ (kv++[iM (ks[j]'(by lia)) t])) y):=⟨_,by rw[<-M];exact rS (u _ _ l) (·.push _)⟩;try dsimp only
  refine af (fC (u _ _ l) rfl ?_ (by rw[au];exact fL (by lia)) (aG (wF (Array.size_push ..)) (by rw[au];exact DA (by lia))));refine aj ⟨rfl,_,t3,kv++[iM (ks[j]'(by lia)) t],y,rfl,?_,O,(s3.2 a (bS H)).trans (u _ _ C),fun b o d q=>(s3.2 b (aK (hW (aB q) p))).trans (u _ _ (kp b o d q))⟩;rw[wC,cg,G];exact strs_snoc r
 ·rintro s' ⟨h2,v,kv,e,rfl,r,l,C,kp⟩
  rw[wC,fN (by lia)]at r;try dsimp only
  refine af (listItems_at l rfl ?_);exact end_ok nd r Q B l C H fun h' c k q=>h h' v c (fun b o d z=>k b o d (aK (hW (aB z) p)) (kp b o d z)) q
theorem Ca{q:Addr}{Q:Value->Shared->Prop}(nd:ks.Nodup)(n:ks.length=vs.length)(j:s.heap.IsList l vs.toArray)(a:vs.length<64)(p:Keys prog w A.in1.in1 (.ref q) vs ks s.heap)
  (h:∀h' t' c,Kp s.heap h'->h'.get? (s.heap.objs.size+1)=some (seqObj "list" (gE (nj ks) vs).toArray c)->Q (.ref (s.heap.objs.size+1)) {s with heap:=h',toks:=t'}):
  wpAny (model prog w) A (call (.builtin "sorted") [.ref l] [(bT "key",.ref q)]) Q E s:=by
 refine call_function_entry_kw kind_sorted plain_sorted entry_sorted (ksk_s1 _ _) ?_;unfold Builtin.«sorted»;refine af (m:=checkCount "sorted" 1 1 _) (aj ?_);refine af (collect_list j ?_ (by simpa using fL a));refine af (oW ?_ (show vs.length<=_ from fL a));have g:((s.heap.push (seqObj "list" #[] 0)).update s.heap.objs.size (aV (·++vs.toArray))).objs.size=s.heap.objs.size+1:=by rw[wM,Gk]
 have kp:Kp s.heap ((s.heap.push (seqObj "list" #[] 0)).update s.heap.objs.size (aV (·++vs.toArray))):=fun b o e=>by
  have i:=aB e;rw[aX _ _ (eD i)];exact ag _ e
 have d:(((s.heap.push (seqObj "list" #[] 0)).update s.heap.objs.size (aV (·++vs.toArray))).push (seqObj "list" vs.toArray 0)).get? (s.heap.objs.size+1)=some (seqObj "list" vs.toArray 0):=by
  rw[<-g];exact az _ rfl
 show wpAny _ _ _ _ _ {s with heap:=((s.heap.push (seqObj "list" #[] 0)).update s.heap.objs.size (aV (·++vs.toArray))).push (seqObj "list" vs.toArray 0)};rw[g];have f:Kp s.heap (((s.heap.push (seqObj "list" #[] 0)).update s.heap.objs.size (aV (·++vs.toArray))).push (seqObj "list" vs.toArray 0)):=fun b o e=>ag _ (kp b o e);generalize((s.heap.push (seqObj "list" #[] 0)).update s.heap.objs.size (aV (·++vs.toArray))).push (seqObj "list" vs.toArray 0)=h1 at d f⊢;refine af (bU (wpAny_call_entry_kw Gj ⟨_,d,rfl⟩ Dh ?_ (ksk_l1 _ _)));show wpAny (model prog w) A.in1.in1 (Builtin.«list.sort» ⟨[.ref (s.heap.objs.size+1)],[(bT "key",.ref q)]⟩) _ _ _;rw[ksk_t1];exact Hg (s:={s with heap:=h1}) nd n d (fun b o e=>⟨f b o e,aK (bG (aB e))⟩) a p fun h' t' c k z=>⟨_,rfl,aj ⟨_,rfl,h h' t' c (fun b o e=>k b o (aK (bG (aB e))) (f b o e)) z⟩⟩
end
structure Tb where
 P:Addr
 pos:Pos
 q:Str
def Tab(T:Tb)(H:Hp):Prop:=H T.P=some (.tbl #[])\/∃c' oc u vs t,H T.P=some (.tbl #[rawInt T.pos.line,rawInt T.pos.col,.ref c'])/\H c'=some (.frz oc u)/\oc.data=.fields vs/\vs[1]? =some (.str T.q t)
structure Gr(T:Tb)(H H':Hp):Prop where
 keep:∀b o,b≠T.P->H b=some o->H' b=some o
 tab:Tab T H->Tab T H'
theorem Gr.refl(T:Tb)(H:Hp):Gr T H H:=⟨fun _ _ _ e=>e,fun t=>t⟩
theorem Gr.trans{T:Tb}{H2:Hp}(a:Gr T H H1)(b:Gr T H1 H2):Gr T H H2:=⟨fun c o n e=>b.keep c o n (a.keep c o n e),fun t=>b.tab (a.tab t)⟩
theorem Gr.of{T:Tb}(e:aM H H'):Gr T H H':=
 ⟨fun b o _ q=>e b o q,fun t=>by
  rcases t with t|⟨c',oc,u,vs,tk,h1,h2,a,c⟩
  ·exact .inl (e _ _ t)
  ·exact .inr ⟨c',oc,u,vs,tk,e _ _ h1,e _ _ h2,a,c⟩⟩
theorem Tab.ne{T:Tb}(t:Tab T H){o:HO}(e:H b=some o)(n:∀ps,o≠.tbl ps):b≠T.P:=by
 intro z;subst z;rcases t with t|⟨c',oc,u,vs,tk,h1,h2,a,c⟩
 ·rw[t]at e;exact n _ (a6 e).symm
 ·rw[h1]at e;exact n _ (a6 e).symm
section
variable {K:ah}{T:Tb}{H H':Hp}{a:Addr}{xs:List V}
theorem Gr.at(g:Gr T H H')(t:Tab T H){o:HO}(e:H a=some o)(n:∀ps,o≠.tbl ps):H' a=some o:=g.keep a o (t.ne e n) e
theorem Gr.lst(g:Gr T H H')(t:Tab T H)(e:H a=some (.lst xs)):H' a=some (.lst xs):=g.at t e fun _ z=>by cases z
theorem Gr.yx(g:Gr T H H')(t:Tab T H)(e:H a=some (.tup xs)):H' a=some (.tup xs):=g.at t e fun _ z=>by cases z
theorem Gr.frz(g:Gr T H H')(t:Tab T H){o:Obj}{u:HO}(e:H a=some (.frz o u)):H' a=some (.frz o u):=g.at t e fun _ z=>by cases z
theorem Gr.seq(g:Gr T H H')(t:Tab T H)(h:SqL K H a xs):SqL K H' a xs:=by
 rcases h with(h|⟨o,h⟩) |h
 ·exact .inl (.inl (g.lst t h))
 ·exact .inl (.inr ⟨o,g.frz t h⟩)
 ·exact .inr h
theorem Gr.tup(g:Gr T H H')(t:Tab T H)(h:SqT K H a xs):SqT K H' a xs:=by
 rcases h with(h|⟨o,h⟩) |h
 ·exact .inl (.inl (g.yx t h))
 ·exact .inl (.inr ⟨o,g.frz t h⟩)
 ·exact .inr h
end
theorem un_tab{fs:List Addr}{p:Addr}{oc:Obj}{ps more:Array Value}(l:HOk P w H h)(g:∀b o,b≠p->h.get? b=some o->h'.get? b=some o)(c:H p=some (.tbl ps))(j:h.objs.size<=c')
  (m:h'.get? p=some (tabObj (ps++more)))(i:h'.get? c'=some oc):
  Un fs [] H (upd (upd H c' (.frz oc (.ext fun _=>True))) p (.tbl (ps++more))) h h'/\HOk P w (upd (upd H c' (.frz oc (.ext fun _=>True))) p (.tbl (ps++more))) h':=by
 have k:H c'=none:=l.fresh j;have ne:c'≠p:=bS (bR c k);have out:∀{b:Addr}{o:HO},H b=some o->b≠p->upd (upd H c' (.frz oc (.ext fun _=>True))) p (.tbl (ps++more)) b=some o:=fun{b o} e n=>by
  rw[bo n,bo (bR e k)];exact e
 have f:∀{b:Addr}{o:HO},H b=some o->(∀vs,o≠.tbl vs)->b≠p:=fun{b o} e n z=>by
  subst z;rw[c]at e;exact n _ (a6 e).symm
 refine⟨⟨fun b o e n _ _=>g b o (fun z=>by rw[z,c]at n;cases n) e,fun b o e n _ _=>⟨o.slots,g b o (fun z=>by rw[z,c]at n;cases n) e⟩,fun b o e n _=>?_,fun b o e _=>?_,fun b xs e=>out e (f e fun _ z=>by cases z),
  fun b o u e=>out e (f e fun _ z=>by cases z),fun b vs e=>?_⟩,fun b o e=>?_⟩
 ·have a:b≠p:=fun z=>by rw[z,c]at n;cases n
  rw[bo a,bo (aK (aY (aB e) j))];exact n
 ·by_cases a:b=p
  ·exact⟨_,by rw[a];exact m⟩
  ·exact⟨o,g b o a e⟩
 ·by_cases a:b=p
  ·subst a
   rw[c]at e;cases e;exact⟨more,ao⟩
  ·exact⟨#[],by rw[out e a];simp⟩
 ·by_cases a:b=p
  ·subst a
   rw[ao]at e;cases e;exact m
  ·rw[bo a]at e
   by_cases hc2:b=c'
   ·subst hc2
    rw[ao]at e;cases e;exact⟨i,trivial,⟨_,i⟩,fun _ _ _ _=>trivial⟩
   ·rw[bo hc2]at e
    refine(l b o e).oV (fun d v r q=>g d v ?_ q) (fun d q=>out q (f q fun _ z=>by cases z)) fun d xs q=>out q (f q fun _ z=>by cases z);rcases r with z|z
    ·rw[z];exact a
    ·exact f z fun _ y=>by cases y
def BM(mg:Str->Option Value)(h:Heap):Prop:=∃a b,mg "__builtins__"=some (.ref a)/\a≠mP/\a≠bK/\h.get? a=some b/\b.cls=.type "module"/\b.dict=some mP/\b.data=.plain
noncomputable def rSortK(K:ah)(T:Tb):List V->Hp->VK->Prop:=fun xs H Q=>∃a ys ks,xs=[V.ref a]/\SqL K H a ys/\ks.length<64/\ks.Nodup/\oH H ys ks/\Tab T H/\
 ∀H2 l,Gr T H H2->H2 l=none->Q (.ref l) (upd H2 l (.lst (sortBy .non ks ys)))
noncomputable def uO(K:ah)(T:Tb)(te:TE):TE:=fun σ H Q=>ja te oU σ H fun xs H1=>rSortK K T xs H1 Q
structure JU(env:Env)(params:Arguments)(x:Str)(body:Expr)(scope:Scope):Prop where
 cl:Gw scope env=pure []
 df:defaultsOf params env=([],[])
 bd:∀(qual:Str)(pm ctv v:Value)(c':Addr),qe (kla_fn "<lambda>" qual params body scope [] pm (.ref c') ctv) ⟨[v],[]⟩=pure [(x,v)]
 lk:scope.names.lookup x=some .local
 dbg:(x==("__debug__":Str))=false
 kd:scope.kind=.function
 nc:∀y∈scope.names,y.2≠.cell
 co:scope.isCoroutine=false
 gn:scope.isGenerator=false
section
variable {X:Cx}{e:Expr}{te:TE}{T:Tb}{c:Addr}{p kp pos p1 p2 p3:Pos}{x:Str}{j:Nat}{params:Arguments}{scope:Scope}
theorem uu(O:JU X.env params x (.Subscript (.Name x p1) (.Constant (.int 0) j p2) p3) scope)(ok:HOk X.prog X.w H s.heap)
  (hf:s.heap.get? f=some (kla_obj "<lambda>" qual params (.Subscript (.Name x p1) (.Constant (.int 0) j p2) p3) scope [] pm c' ctv))(b:s.heap.CodeRec (.ref c') qual)(d:A.depth<jA)(c:s.heap.NoLimit):
  ∀{ys:List V}{ks:List Str}{vs:List Value},oH H ys ks->bE ys vs->Keys prog w A (.ref f) vs ks s.heap
 |_,_,_,.nil,.nil=>fun i v k h1=>by simp at h1
 |_,_,_,.cons y t,.cons r q=>by
  intro i v k h1 h2 B E e kp hq;cases i with
  |zero=>
   obtain⟨a,rest,rfl,h⟩:=y;cases r;have g:v=cF a:=by simpa using h1.symm
   subst g;obtain⟨_,its,z,o,l,m,n,p⟩:=ok a _ h;cases z with
   |cons r0 _=>
    obtain⟨tk,rfl⟩:=r0;obtain rfl:=a6 h2;exact JJ (kp _ _ hf) (b.keeps kp) d (c.keeps kp) (fun v=>O.bd _ _ _ v _) O.lk O.dbg O.kd O.nc O.co O.gn ⟨o,kp _ _ l,m,n,p⟩ (by simp) fun h' t' u=>hq tk h' t' u
  |succ i=>exact uu O ok hf b d c t q i v k (by simpa using h1) (by simpa using h2) B E e kp hq
theorem xv{Q:VK}(O:JU X.env params x (.Subscript (.Name x p1) (.Constant (.int 0) j p2) p3) scope)(I:Inv X pins σ H s)
  (hf:s.heap.get? f=some (kla_obj "<lambda>" T.q params (.Subscript (.Name x p1) (.Constant (.int 0) j p2) p3) scope [] pm c' ctv))(e:s.heap.CodeRec (.ref c') T.q)(i:X.A.depth<jA)
  (hq:SqL X.K H a ys)(o:ks.length<64)(nd:ks.Nodup)(c:oH H ys ks)(q:∀l,H l=none->Q (.ref l) (upd H l (.lst (sortBy .non ks ys)))):
  wpAny (model X.prog X.w) X.A (call (.builtin "sorted") [.ref a] [(bT "key",.ref f)]) (EP X pins σ Q) X.xe s:=by
 obtain⟨its,b,pl,r⟩:=I.list hq;have h:ks.length=ys.length:=sR c;have p:=b.length;have m:ks.length=its.length:=by lia
 refine Ca nd m pl.isList (by lia) (uu (A:=X.A.in1.in1) O I.hok hf e i I.nolimit c b) fun h' t' d k g=>?_;have n:(sortBy V.non ks ys).length<=sizeLine:=by
  unfold sortBy;rw[ai,ord_len ks nd];lia
 exact⟨.ref (s.heap.objs.size+1),_,I.laid (t':=t') k (eY _) (show dP X.prog X.w _ _ _ (.lst (sortBy .non ks ys))from⟨n,_,d,Ic nd h b,g⟩),rfl,q _ (I.hok.fresh (eY _))⟩
theorem HP(he:PE X e te)(w:b7 [e] X.env=(false,eval e X.env)::b7 [] X.env)(hg:Gl X "sorted")(hm:X.mg "sorted"=none)(E:X.env.code=.ref c)(D:CodeHd X.base c T.P)(hq:X.env.qual++"<lambda>"=T.q)(hb:BM X.mg X.base)
  (O:JU X.env params x (.Subscript (.Name x p1) (.Constant (.int 0) j p2) p3) scope)(M:X.A.depth<jA):
  PE X (.Call (.Name "sorted" p) [e] [⟨some (bT "key"),.Lambda params (.Subscript (.Name x p1) (.Constant (.int 0) j p2) p3) scope T.pos,kp⟩] pos) (uO X.K T te):=by
 intro pins s σ H Q I h;refine jh (jM (u:=.builtin "sorted") I hg hm (by decide+kernel) ?_);refine callWith_kw (thn (iD he lY w pos pins s σ H _ I h) fun us f ⟨vs,H1,d,r,a,ys,ks,ev,P,B,nd,K,tb,q⟩=>?_) (by rw[w];rfl) (by rw[w];rfl);subst ev;obtain⟨u,rfl,rx⟩:=vals1 r;cases rx;obtain⟨A,ob,V,W,U,y,Y,Z,b6⟩:=hb;have J:f.heap.Ns bK X.mg:=d.mod.glob.keeps d.bk;have a0:A≠T.P:=fun z=>by
  have n:=(d.bs _ _ y).2;rw[z]at n;rcases tb with t|⟨_,_,_,_,_,t,_⟩<;>(rw[t]at n;cases n)
 have a2:bK≠T.P:=fun z=>by
  obtain⟨o,es,ep,g1,g2,_⟩:=d.mod.glob;have n:=(d.bs _ _ g1).2;rw[z]at n;rcases tb with t|⟨_,_,_,_,_,t,_⟩<;>(rw[t]at n;cases n)
 have C:f.heap.BuiltinsAt X.mg T.P:=⟨A,ob,V,W,U,a0,d.bk _ _ y,Y,Z,b6⟩;refine kws_cons (kla_eval O.df ?_);rw[hq];rcases tb with t|⟨c',oc,u,vs,tk,t,a1,g,a5⟩
 ·refine kla_makeFunction (mg:=X.mg) O.cl d.ok.glob J E (D.keeps d.bk) (ps:= #[]) (d.hok _ _ t) True.intro rfl a2 C fun c' ctv h' tk hx G a7 a3 a4=>kws_nil ?_
  obtain⟨c2,oc,vs,R,ec,g,F,N⟩:=a3;cases ec;have a6:∀b o,b≠T.P->f.heap.get? b=some o->(h'.push (kla_obj "<lambda>" T.q params (.Subscript (.Name x p1) (.Constant (.int 0) j p2) p3) scope [] ((X.mg "__name__").getD .none) c' ctv)).get? b=some o:=fun b o n e=>ag _ (hx b o n e);obtain⟨un,ok⟩:=un_tab (fs:=frs X.stack) d.hok a6 t G (ag _ a4) (ag _ g);have i:=d.call (g':=f.gens) (t':=tk) (d':=f.drawn) un ok d.bare (fun b z=>absurd z (by simp));have S:Tab T H1:=.inl t;have gr:Gr T H1 (upd (upd H1 c' (.frz oc (.ext fun _=>True))) T.P (.tbl (#[]++ #[rawInt T.pos.line,rawInt T.pos.col,cF c']))):=by
   have L:H1 c'=none:=d.hok.fresh G;refine⟨fun b o n e=>by rw[bo n,bo (bR e L)];exact e,fun _=>.inr ⟨c',oc,.ext fun _=>True,vs,R,?_,?_,F,N⟩⟩
   ·rw[ao];simp
   ·rw[bo (bS (bR t L)),ao]
  exact xv O i (az _ rfl) ⟨c',oc,vs,R,rfl,ag _ g,F,N⟩ M (gr.seq S P) B nd (Paired.gh K fun v k ⟨b,rest,e1,e2⟩=>⟨b,rest,e1,gr.yx S e2⟩) (q _ · gr)
 ·refine kla_makeFunctionHit (mg:=X.mg) O.cl d.ok.glob J E (D.keeps d.bk) (d.hok _ _ t) (by simp[TriplesOk,rawInt]) (cv:=.ref c') (by simp[codeAmong,rawInt]) C fun ctv h' tk m a8=>kws_nil ?_
  have i:=d.call (H':=H1) (h':=h'.push (kla_obj "<lambda>" T.q params (.Subscript (.Name x p1) (.Constant (.int 0) j p2) p3) scope [] ((X.mg "__name__").getD .none) c' ctv)) (g':=f.gens) (t':=tk) (d':=f.drawn) (ch:=[])
   (Un.kept fun b o e=>ag _ (m b o e)) (d.hok.kept fun b o e=>ag _ (m b o e)) d.bare (fun b z=>absurd z (by simp))
  exact xv O i (az _ rfl) ⟨c',oc,vs,_,rfl,ag _ (m _ _ (d.hok _ _ a1).1),g,a5⟩ M P B nd K fun l hl=>q H1 l (Gr.refl _ _) hl
end
end Lm
namespace Lm
open PySem PySem.Spec PySem.W PyProof.Rows L2 Q R
noncomputable def qI(lx:Str)(p:Pos):Arguments:={posonlyargs:=[],args:=[⟨lx,none,p⟩],vararg:=none,kwonlyargs:=[],kw_defaults:=[],kwarg:=none,defaults:=[]}
noncomputable def isArg(lx:Str):List Arg->Bool
 |x::r=>r.isEmpty&&(x.annotation.isNone&&x.arg==lx)
 | []=>false
noncomputable def xQ(lx:Str)(a:Arguments):Bool:=a.posonlyargs.isEmpty&&(a.vararg.isNone&&(a.kwonlyargs.isEmpty&&(a.kw_defaults.isEmpty&&(a.kwarg.isNone&&(a.defaults.isEmpty&&isArg lx a.args)))))
theorem jq{a b:Bool}(h:(a&&b)=true):a=true/\b=true:=by rwa [aH]at h
theorem emp{α:Type}{l:List α}(h:l.isEmpty=true):l=[]:=List.isEmpty_iff.mp h
theorem non{α:Type}{l:Option α}(h:l.isNone=true):l=none:=gR.mp h
theorem CH{a:Arguments}(h:xQ lx a=true):∃p,a=qI lx p:=by
 obtain⟨m,ar,n,k,kd,l,j⟩:=a;obtain⟨h1,h⟩:=jq h;obtain⟨h2,h⟩:=jq h;obtain⟨b,h⟩:=jq h;obtain⟨c,h⟩:=jq h;obtain⟨d,h⟩:=jq h;obtain⟨e,h⟩:=jq h;cases ar with
 |nil=>exact(ak h).elim
 |cons x r=>
  obtain⟨f,h⟩:=jq h;obtain⟨g,i⟩:=jq h;obtain⟨y,an,p⟩:=x;cases emp h1;cases non h2;cases emp b;cases emp c;cases non d;cases emp e;cases emp f;cases non g;cases eq_of_beq i;exact⟨p,rfl⟩
noncomputable def pW(lx:Str)(sc:Scope):Bool:=decide (sc.names=[(lx,.local)])&&(decide (sc.kind=.function)&&(decide (sc.isCoroutine=false)&&(decide (sc.isGenerator=false)&&(lx==("__debug__":Str))==false)))
noncomputable def isNm(lx:Str):Expr->Bool
 |.Name x _=>x==lx
 |_=>false
theorem Eb(h:isNm lx e=true):∃p,e=.Name lx p:=by
 cases e with
 |Name x p=>cases eq_of_beq h;exact⟨p,rfl⟩
 |_=>exact(ak h).elim
noncomputable def isZero:Expr->Bool
 |.Constant c _ _=>decide (c=.int 0)
 |_=>false
theorem FT(h:isZero e=true):∃j p,e=.Constant (.int 0) j p:=by
 cases e with
 |Constant c j p=>cases of_decide_eq_true h;exact⟨j,p,rfl⟩
 |_=>exact(ak h).elim
noncomputable def Ec(lx:Str):Expr->Bool
 |.Subscript a b _=>isNm lx a&&isZero b
 |_=>false
theorem CM(h:Ec lx e=true):∃p1 j p2 p3,e=.Subscript (.Name lx p1) (.Constant (.int 0) j p2) p3:=by
 cases e with
 |Subscript a b p=>
  obtain⟨h1,h2⟩:=jq h;obtain⟨p1,rfl⟩:=Eb h1;obtain⟨j,p2,rfl⟩:=FT h2;exact⟨_,_,_,_,rfl⟩
 |_=>exact(ak h).elim
noncomputable def JG(lx:Str)(pos:Pos):Expr->Bool
 |.Lambda params body scope lp=>decide (lp=pos)&&(xQ lx params&&(pW lx scope&&Ec lx body))
 |_=>false
theorem F4(h:JG lx pos e=true):∃a scope p1 j p2 p3,e=.Lambda (qI lx a) (.Subscript (.Name lx p1) (.Constant (.int 0) j p2) p3) scope pos/\pW lx scope=true:=by
 cases e with
 |Lambda params body scope lp=>
  obtain⟨h1,h⟩:=jq h;obtain⟨h2,h⟩:=jq h;obtain⟨b,c⟩:=jq h;cases of_decide_eq_true h1;obtain⟨a,rfl⟩:=CH h2;obtain⟨p1,j,p2,p3,rfl⟩:=CM c;exact⟨_,_,_,_,_,_,rfl,b⟩
 |_=>exact(ak h).elim
noncomputable def chkKw(lx:Str)(pos:Pos):List Keyword->Bool
 |k::r=>r.isEmpty&&(decide (k.arg=some (bT "key"))&&JG lx pos k.value)
 | []=>false
noncomputable def JH(sc:Scope)(N:List Str)(a:CE)(lx:Str)(pos:Pos):Expr->Bool
 |.Call f es ks _=>isNm "sorted" f&&(pX sc "sorted"&&(sE sc N (.cons a .nil) es&&chkKw lx pos ks))
 |_=>false
noncomputable def chkTg(sc:Scope)(N:List Str)(i:Nat):List Expr->Bool
 |g::r=>r.isEmpty&&xa sc N true (.name i) g
 | []=>false
noncomputable def JI(sc:Scope)(N:List Str)(i:Nat)(a:CE)(lx:Str)(pos:Pos):Stmt->Bool
 |.Assign ts v _=>chkTg sc N i ts&&JH sc N a lx pos v
 |_=>false
theorem F5{a:CE}{s:Stmt}(h:JI sc N i a lx pos s=true):∃g e d scope p1 j p2 p3 p kp b sp,s=.Assign [g] (.Call (.Name "sorted" p) [e] [⟨some (bT "key"),.Lambda (qI lx d) (.Subscript (.Name lx p1) (.Constant (.int 0) j p2) p3) scope pos,kp⟩] b) sp/\
  xa sc N true (.name i) g=true/\pX sc "sorted"=true/\dF sc N a e=true/\pW lx scope=true:=by
 cases s with
 |Assign ts v sp=>
  obtain⟨h1,h2⟩:=jq h;cases ts with
  |nil=>exact(ak h1).elim
  |cons g r=>
   obtain⟨w,x⟩:=jq h1;cases emp w;cases v with
   |Call f es ks b=>
    obtain⟨y,h2⟩:=jq h2;obtain⟨z,h2⟩:=jq h2;obtain⟨A,c⟩:=jq h2;obtain⟨p,rfl⟩:=Eb y;obtain⟨e,D,rfl,B,m⟩:=oG A;cases qS m;cases ks with
    |nil=>exact(ak c).elim
    |cons k ks=>
     obtain⟨n,o⟩:=jq c;obtain⟨q,t⟩:=jq o;cases emp n;obtain⟨C,kv,kp⟩:=k;cases of_decide_eq_true q;obtain⟨d,scope,p1,j,p2,p3,l,u⟩:=F4 t;cases l;exact⟨_,_,_,_,_,_,_,_,_,_,_,_,rfl,x,z,B,u⟩
   |_=>exact(ak h2).elim
 |_=>exact(ak h).elim
noncomputable def chkK(sc:Scope)(N:List Str)(a:CS)(i:Nat)(c:CE)(lx:Str)(pos:Pos)(b:CB):List Stmt->Bool
 |s1::r=>chkS sc N a s1&&rst r
 | []=>false
where rst:List Stmt->Bool
 |s2::rest=>JI sc N i c lx pos s2&&wc sc N b rest
 | []=>false
section
variable {P:Program}{w:World}{K:ah}{mg:Str->Option Value}{base:Heap}
theorem Ji{st:Stmt}{fd:gK}{ps:List Str}{sp:Sp}{m:CS}{q:CE}{n:CB}{T:Tb}(F:Fun K x qual st f fd)(X:qy N ps (aP st)=true)
  (b:chkK (aP st) N m i q lx T.pos n (a8 st)=true)(V:fd.code=.ref c)(M:CodeHd base c T.P)(hq:qual++".<locals>."++"<lambda>"=T.q)(R:BM mg base)
  (U:∀(p:Pos)(l:Expr)(scope:Scope)(qual:Str)(pm ctv v:Value)(c':Addr),qe (kla_fn "<lambda>" qual (qI lx p) l scope [] pm (.ref c') ctv) ⟨[v],[]⟩=pure [(lx,v)])
  (g:GOk P w K mg base (CXx P w) k G)(len:∀vs H Q E,sp vs H Q E->vs.length=ps.length)
  (h:∀vs H Q E,sp vs H Q E->uP (wpS G K (fun _=>E) m) (uP (yy (uO K T (wpE G K (fun _=>E) q)) (km i)) (wpB G K (fun _=>E) n)) {nx:=fun _ H'=>Q .non H',rt:=Q} (start N vs) H):jV P w K mg base (CXx P w) (k+1) f fd ps sp:=by
 have S:=AF X;obtain⟨oc,od,kV,doc,pm,an,cdv,ct,osl,rfl,lk,W⟩:=F.ex;have I:cdv=.ref c:=V;subst I;refine fn_of lk W S len fun A outer s H vs Q E y Y=>?_;have o:=Ih (outer:=outer) (E:=E) (H:=H) S g y;refine⟨_,?_,h vs H Q E Y⟩;generalize hB:a8 st=l at b;cases l with
 |nil=>exact(ak b).elim
 |cons s1 r=>
  obtain⟨h1,b⟩:=jq b;cases r with
  |nil=>exact(ak b).elim
  |cons s2 rest=>
  obtain⟨h2,J⟩:=jq b;obtain⟨g',e,pa,scope,p1,j,p2,p3,p,kp,cp,a0,rfl,t,L,u,a⟩:=F5 h2;obtain⟨d,a⟩:=jq a;obtain⟨B,a⟩:=jq a;obtain⟨C,a⟩:=jq a;obtain⟨D,n5⟩:=jq a;rw[decide_eq_true_eq]at d B C D;have O:=r8 (CX:=CXx P w) (fun _ _ _ _ _ z=>F0 z) (.name i) _ o t;refine vd (Hd (fun _ _ _ _ _ z=>F0 z) m s1 o (fun _ _ _ _ _=>S.kind) h1) (vd ?_ (pQ (fun _ _ _ _ _ z=>F0 z) n rest o (fun _ _ _ _ _=>S.kind) J));refine HJ (HP (c:=c) (T:=T) (bH (fun _ _ _ _ _ z=>F0 z) q e o u) (cC u [] _) (o.gl L) (g.blt _ (by decide+kernel)) rfl M hq R ?_ ?_) O (Io rfl _ _ _) (vB t (kU _) _) (by rw[qz t];rfl)
  ·refine⟨?_,rfl,fun qual pm ctv v c'=>U pa _ _ qual pm ctv v c',by rw[d];simp,by simpa using n5,B,?_,C,D⟩
   ·unfold Gw
    rw[d];rfl
   ·rw[d]
    intro z Z;have :z=(lx,dS.local):=by simpa using Z
    rw[this];exact fun z=>by cases z
  ·exact y.depth
end
noncomputable def jN(K:ah)(tabs:List Addr)(a:Addr)(vs:List Value)(ns:List Int):Hp:=fun b=>
 if b∈tabs then some (.tbl #[])else if b=a/\K.lookup a=none then some (.frz {cls:=.type "list",data:=.seq vs.toArray} (.lst (ns.map V.int)))else none
theorem FP{CX:CXT}{fd:gK}{sp:Sp}{c:Shared}(n:K.In c.heap)
  (C:c.heap.Ns bK mg)(f:c.heap.Ns mP mb)(T:∀x:Str,x≠"__name__"->mb x=eM x)(X:c.heap.NoLimit)(W:c.gens= #[])(g:c.heap.get? a=some {cls:=.type "list",data:=.seq vs.toArray})
  (hi:bY vs ns) (B:ns.length<=sizeLine) (Z:j6 k EN) (i:∀p∈tabs,c.heap.get? p=some (tabObj #[])/\isCodeTable c.heap p/\K.lookup p=none)
  (F:∀base:Heap,K.In base->base.Ns bK mg->(∀b o,c.heap.get? b=some o->o.cls≠.none->o.cls≠.type "list"->base.get? b=some o)->jV P w K mg base CX k fa fd [x] sp)
  (U:∀(s:Shared)(u:Value),BindsTo s fd ⟨[u],[]⟩ [(x,u)])
  (a0:∀H:Hp,(∀p∈tabs,H p=some (.tbl #[]))->SqL K H a (ns.map V.int)->sp [.ref a] H (fun v _=>v=.bl true) fun _ _ _=>False) (O:∀H e s',CX [] H c (fun _ _ _=>False) e s'->False):
  i4 (model P w) EN (.call (.ref fa) ⟨[.ref a],[]⟩) (fun r s'=>r=.ok (.ret (.bool true))/\OldK c.heap s'.heap/\s'.os=c.os/\oS s'.gens) c:=by
 have E:=rY hi;have a1:=hi.length;have j:∀b,(b∈tabs/\jN K tabs a vs ns b=some (.tbl #[]))\/(b=a/\K.lookup a=none/\jN K tabs a vs ns b=some (.frz {cls:=.type "list",data:=.seq vs.toArray} (.lst (ns.map V.int))))\/jN K tabs a vs ns b=none:=fun b=>by
  unfold jN;by_cases h1:b∈tabs
  ·exact .inl ⟨h1,if_pos h1⟩
  ·rw[if_neg h1]
   by_cases h2:b=a/\K.lookup a=none
   ·exact .inr (.inl ⟨h2.1,h2.2,if_pos h2⟩)
   ·exact .inr (.inr (if_neg h2))
 have G:∀p∈tabs,jN K tabs a vs ns p=some (.tbl #[]):=fun p hp=>if_pos hp;have S:a∉tabs:=fun z=>by
  have :=(i a z).1
  rw[g]at this;cases this
 --what is neither a table nor a list is not tracked
 have I:∀{b:Addr}{o:Obj},c.heap.get? b=some o->o.cls≠.none\/(∃es ep,o.data=.dict es ep)->o.cls≠.type "list"\/(∃es ep,o.data=.dict es ep)->jN K tabs a vs ns b=none:=fun{b o} e h1 h2=>by
  rcases j b with⟨q,_⟩ |⟨rfl,_⟩ |q
  ·have :=(i b q).1
   rw[e]at this;cases this;rcases h1 with z|⟨_,_,z⟩
   ·exact absurd rfl z
   ·cases z
  ·rw[g]at e;cases e
   rcases h2 with z|⟨_,_,z⟩
   ·exact absurd rfl z
   ·cases z
  ·exact q
 have l:∀{b:Addr}{m:Str->Option Value},c.heap.Ns b m->(A1 c.heap (jN K tabs a vs ns)).Ns b m:=fun{b m} ⟨o,es,ep,e,d,r⟩=>⟨o,es,ep,vP e (I e (.inr ⟨_,_,d⟩) (.inr ⟨_,_,d⟩)),d,r⟩;have A:K.In (A1 c.heap (jN K tabs a vs ns)):=fun b o e=>vP (n b o e) (by
  rcases j b with⟨q,_⟩ |⟨rfl,z,_⟩ |q
  ·rw[(i b q).2.2]at e;cases e
  ·rw[z]at e;cases e
  ·exact q)
 have Y:HOk P w (jN K tabs a vs ns) c.heap:=fun b o e=>by
  rcases j b with⟨q,z⟩ |⟨rfl,_,z⟩ |z
  ·rw[z]at e;cases e
   exact(i b q).1
  ·rw[z]at e;cases e
   exact⟨g,by rw[ai];exact B,vs,_,E,g⟩
  ·rw[z]at e;cases e
 have R:SqL K (jN K tabs a vs ns) a (ns.map V.int):=by
  cases hk:K.lookup a with
  |none=>
   refine .inl (.inr ⟨{cls:=.type "list",data:=.seq vs.toArray},?_⟩);unfold jN;rw[if_neg S,if_pos ⟨rfl,hk⟩]
  |some o=>
   have e:=n a o hk;rw[g]at e;cases e;exact .inr ⟨_,vs.toArray,_,hk,rfl,rfl,rfl,by rw[au,a1];exact B,by simpa using E⟩
 have Q:Mod K mg (A1 c.heap (jN K tabs a vs ns)):=⟨A,l C,⟨mb,l f,T⟩,let⟨mc,h1,h2⟩:=X;⟨mc,l h1,h2⟩⟩;have L:Env0 P w K mg (A1 c.heap (jN K tabs a vs ns)) EN [] c (jN K tabs a vs ns):=⟨rfl,Q,fun b o e=>of_hidT e,wF (FY _ _),trivial,fun b f=>absurd (show b∈([]:List Addr)from f) (by simp),Y,.of_eq W⟩;have N:=F _ A (l C) fun b o e h1 h2=>vP e (I e (.inl h1) (.inl h2));refine mn (N.run EN [] c (jN K tabs a vs ns) ⟨[.ref a],[]⟩ [.ref a] [.ref a] _ _ Z L (U c (.ref a)) (.cons rfl .nil) (a0 _ G R)) fun r s' h=>?_;cases r with
 |error e=>exact(O _ e s' h).elim
 |ok fl=>
  cases fl with
  |next =>exact kN h
  |brk=>exact kN h
  |cont=>exact kN h
  |ret u=>
   obtain⟨v,H',os,J,un,D,r',q⟩:=h;have q':v=.bl true:=q;subst q';obtain rfl:u=zU true:=r';have kept:∀b o,c.heap.get? b=some o->b∉tabs->s'.heap.get? b=some o:=fun b o e nt=>by
    rcases j b with⟨z,_⟩ |⟨rfl,_,z⟩ |z
    ·exact absurd z nt
    ·have z2:=un.frzs b _ _ z
     obtain⟨M,_⟩:=D b _ z2;rw[g]at e;cases e;exact M
    ·exact un.keep b o e z (by intro z;exact absurd (show b∈([]:List Addr)from z) (by simp)) (by simp)
   have y:∀b∈tabs,∃more,s'.heap.get? b=some (tabObj (#[]++more)):=fun b f=>by
    obtain⟨more,z⟩:=un.tbls b _ (G b f);exact⟨more,D b _ z⟩
   refine⟨rfl,⟨fun b o e=>?_,fun b o e=>?_⟩,os,J⟩
   ·by_cases f:b∈tabs
    ·obtain⟨t,ct,_⟩:=i b f
     rw[e]at t;cases t;obtain⟨more,z⟩:=y b f;exact .inr (.inl ⟨ct,rfl,#[],more,rfl,z⟩)
    ·exact .inl (kept b o e f)
   ·by_cases f:b∈tabs
    ·obtain⟨more,z⟩:=y b f
     exact⟨_,z⟩
    ·exact⟨o,kept b o e f⟩
theorem bm_of(m:h.Ns bK mg)(k:∃b a,mg "__builtins__"=some (.ref b)/\b≠mP/\h.get? b=some a/\a.cls=.type "module"/\a.dict=some mP/\a.data=.plain):BM mg h:=by
 obtain⟨b,a,f,g,c,i,j,d⟩:=k;refine⟨b,a,f,g,fun q=>?_,c,i,j,d⟩;obtain⟨o,es,ep,e,l,_⟩:=m;rw[q,e]at c;cases c;rw[l]at d;cases d
theorem GS{l:PySem.W.OpenLaw}{q:Program}{XP:(Str->Option Value)->Heap->Prop}{YP:World->Heap->Prop}{d:DefRec}{K:Params->ah}{CX:CXT}{sp:ah->Sp}
  (R:l.most=some n)(T:n<=sizeLine)(N:d.params.defaults=[])(W:j6 k EN)(J:∀(w:World)(h:Heap),YP w h->(K w.params).In h)
  (I:∀(w:World)(c:Shared)(mg mb:Str->Option Value)(h:Heap),Ground q loose [] XP w c mg mb h->YP w h->∀p∈tabs,h.get? p=some (tabObj #[])/\isCodeTable h p/\(K w.params).lookup p=none)
  (F:∀(w:World)(mg:Str->Option Value)(fa:Addr)(h:Heap),(K w.params).In h->h.Ns bK mg->mg d.name=some (.ref fa)->
   ∃fd:gK,(∀(s:Shared)(u:Value),BindsTo s fd ⟨[u],[]⟩ [(x,u)])/\
    ∀base:Heap,(K w.params).In base->base.Ns bK mg->BM mg base->jV l.prog w (K w.params) mg base CX k fa fd [x] (sp (K w.params)))
  (X:∀(K:ah)(H:Hp)(a:Addr)(ns:List Int),ns.length<=n->(∀p∈tabs,H p=some (.tbl #[]))->SqL K H a (ns.map V.int)->sp K [.ref a] H (fun v _=>v=.bl true) fun _ _ _=>False)
  (D:∀(H:Hp)(s:Shared)(e:Value)(s':Shared),CX [] H s (fun _ _ _=>False) e s'->False):
  PySem.W.WalkO q loose XP YP l.row.toRowW d [] (fun f vs=>PySem.call f vs):=by
 refine Att.Bv R N fun w c a0 mg mb fa o pm cd doc a vs ns G Y ho hd a1 Q U P j O=>?_;have g:=J w _ Y;obtain⟨fd,L,E⟩:=F w mg fa _ g G.T.g Q;have M:=bm_of G.T.g G.T.bmain;refine FP g G.T.g G.T.b G.T.builtins G.T.nolimit O U P (aG j T) W (I w c mg mb _ G Y) (fun base Z k2 k3=>E base Z k2 ?_) L (fun H t S=>X _ H a ns j t S) fun H e s'=>D H a0 e s';obtain⟨i,m,y,z,r,A,b,B,C⟩:=M;exact⟨i,m,y,z,r,k3 i m A (by rw[b];nofun) (by rw[b];decide),b,B,C⟩
end Lm
namespace Cp
open PySem PySem.Spec PyProof.Rows L2 R Lm
noncomputable def qw:List Str:=["table"]
noncomputable def jx:List Str:=["table","ordered"]
noncomputable def kI:CS:=.expr (.call "need_table" (.cons (.var 0) .nil))
noncomputable def kH:CB:=.cons (.ret (.comp ["name","readings"] [] (.tup (.cons (.name 0) (.cons (.name 1) .nil))) (.seq (.var 1)) .no (.tup (.cons (.var 0) (.cons (.bfn .tuple (.cons (.bfn .list (.cons (.var 1) .nil)) .nil)) .nil))))) .nil
theorem _root_.Lm.Gr.free{T:Tb}(g:Gr T H H')(t:Tab T H)(h:H' l=none):H l=none:=by
 cases e:H l with
 |none=>rfl
 |some o=>
  by_cases n:l=T.P
  ·rcases g.tab t with z|⟨_,_,_,_,_,z,_⟩
   ·rw[n,z]at h;cases h
   ·rw[n,z]at h;cases h
  ·rw[g.keep l o n e]at h;cases h
noncomputable def srt(H:Hp):V->List V
 |.ref a=>match d0 (H a)with
  |some ys=>_root_.Q.sortBy .non (ys.map (aZ H)) ys
  |none=>[]
 |_=>[]
def Copied(H H':Hp)(us zs:List V):Prop:=zs.length=us.length/\∀(i:Nat) z,zs[i]? =some z->∃b r,z=.ref b/\H' b=some (.tup [.str (aZ H (us.getD i .non)),.ref r])/\H' r=some (.tup (sg H (us.getD i .non)))
noncomputable def yD(C:Addr)(T:Tb):Sp:=fun vs H Q E=>∃x,vs=[x]/\Kn4 H x/\Tab T H/\(dE H x=true->∀H' l zs,Gr T H H'->H l=none->H' l=some (.lst zs)->Copied H H' (srt H x) zs->Q (.ref l) H')/\(dE H x=false->False)
theorem tk_of(s:aM H H'):∀{xs:List V},(∀y∈xs,de H y=true)->_root_.Q.oH H' xs (xs.map (aZ H))
 | [],_=>.nil
 |y::xs,h=>by
  obtain⟨a,b,e,h1,_⟩:=mf (h y (.head _));exact .cons ⟨a,_,e,s _ _ h1⟩ (tk_of s fun z c=>h z (.tail _ c))
theorem wO{T:Tb}(P:G.fn "need_table" 1=some (yC C,[])):
  ∀vs H Q E,yD C T vs H Q E->uP (R.wpS G K (fun _=>E) kI) (uP (yy (uO K T (wpE G K (fun _=>E) (.var 0))) (km 1)) (wpB G K (fun _=>E) kH)) {nx:=fun _ H'=>Q .non H',rt:=Q} (L2.start jx vs) H:=by
 rintro vs H Q E ⟨x,rfl,U,tb,q1,q2⟩;unfold kI kH;change uP _ _ _ [some x,none] H;unfold uO;walk_at "wp";refine⟨_,_,P,x,rfl,U,fun e H1 m=>?_,q2⟩;obtain⟨a,ys,rfl,h1,h2,D,F,h5⟩:=eJ e;have a2:Tab T H1:=(Gr.of m).tab tb;refine⟨a,ys,ys.map (aZ H),rfl,m.seq (lg h1),by rw[ai];lia,F,tk_of m D,a2,fun H2 l gr W=>?_⟩;have M:srt H (.ref a)=_root_.Q.sortBy V.non (ys.map (aZ H)) ys:=by
  show(match d0 (H a)with |some ys=>_root_.Q.sortBy V.non (ys.map (aZ H)) ys|none=>[])=_;rw[h1]
 have A:(_root_.Q.sortBy V.non (ys.map (aZ H)) ys).Perm ys:=_root_.Q.fV V.non F (by simp);have o:=q1 e;rw[M]at o;generalize _root_.Q.sortBy V.non (ys.map (aZ H)) ys=us at A o⊢;have h:Gr T H (upd H2 l (.lst us)):=(Gr.of m).trans (gr.trans (Gr.of (aq W)));have n:upd H2 l (.lst us) l=some (.lst us):=ao;generalize upd H2 l (.lst us)=H3 at h n⊢;have a0:us.length<=40:=by rw[A.length_eq];exact h2
 refine cL (bD rfl (SqL.of n) (dy cK (aG a0 (by decide)) (fun d f=>SqL.of (f _ _ n)) (fun i v H'=>∃b r,v=V.ref b/\H' b=some (.tup [.str (aZ H (us.getD i .non)),.ref r])/\H' r=some (.tup (sg H (us.getD i .non))))
  (fun i v d H5 g ⟨b,r,q,s,w⟩=>⟨b,r,q,g _ _ s,g _ _ w⟩) (fun L=>∃t u,L=[t,u]) ⟨none,none,rfl⟩ ?_ ?_))
 ·rintro j y L d R hi ⟨t,u,rfl⟩ f J k
  have Y:y∈ys:=A.mem_iff.mp (aC J);obtain⟨b,c,rfl,k1,k2,k3,k4⟩:=mf (D y Y);have N:=f _ _ (h.yx tb k1);have O:=f _ _ (h.yx tb k2);refine⟨b,_,rfl,SqT.of N,rfl,_,_,rfl,_,_,rfl,rfl,?_⟩;walk_at "wp";refine⟨c,_,rfl,.inr (SqT.of O),fun l1 X=>⟨l1,_,rfl,.inl ⟨SqL.of ao,fun r Z=>⟨aG (by simp :_<=2) (by decide),fun p hp=>k _ _ _ ⟨_,_,rfl⟩ ((aq X).trans ((aq Z).trans (aq hp))) ?_⟩⟩⟩⟩;rw[getD_some J];exact⟨p,r,rfl,ao,by rw[bo (bR ao hp)];exact ao⟩
 ·intro vs d l2 a1 S f I
  have B:Gr T H d:=h.trans (Gr.of f);have g:aM d (upd d l2 (.lst vs)):=aq I;refine o _ l2 vs (B.trans (Gr.of g)) (B.free tb I) ao ⟨a1,fun i z hz=>?_⟩;obtain⟨b,r,q,s,w⟩:=S i z hz;exact⟨b,r,q,g _ _ s,g _ _ w⟩
end Cp
namespace K22
open PySem R
noncomputable def p_clash:List Str:=["table"]
noncomputable def DY:List Str:=["table","copies","count","one","other","names"]
noncomputable def yb:CB:=
  (.cons (.ret (.con .none))
  .nil)
noncomputable def yc:CB:=
  (.cons (.forr (.name 3) (.range1 (.var 2))
  (.cons (.forr (.name 4) (.range2 (.bin .Add (.var 3) (.con (.int 1))) (.var 2))
  (.cons (.asg (.name 5) (.call "first_of_kinds" (.cons (.var 1) (.cons (.var 3) (.cons (.var 4) .nil)))))
  (.cons (.iff (.cmp .IsNot (.var 5) (.con .none))
  (.cons (.ret (.tup (.cons (.var 3) (.cons (.var 4) (.cons (.var 5) .nil)))))
  .nil)
  .nil)
  .nil)))
  .nil))
  yb)
noncomputable def yd:CB:=
  (.cons (.asg (.name 2) (.call "place_count" (.cons (.var 1) .nil)))
  yc)
noncomputable def EE:CB:=
  (.cons (.asg (.name 1) (.call "table_list" (.cons (.var 0) .nil)))
  yd)
end K22
namespace K22
open PySem PySem.Spec PyProof.Rows L2 R Cp Lt Kc K21 Lm
noncomputable def cd(H:Hp)(y:V):Str×List V:=(aZ H y,sg H y)
noncomputable def FA(i:Int)(p:Str×List V):Int:=match p.2.getD i.toNat .non with
 |.int n=>n
 |_=>0
noncomputable def isK(i j:Int)(k:Int×Int)(p:Str×List V):Bool:=decide (FA i p=k.1/\FA j p=k.2)
noncomputable def qN(rows:List (Str×List V))(i j:Int):Bool:=KP.all fun k=>rows.any (isK i j k)
noncomputable def DW(rows:List (Str×List V))(i j:Int)(k:Int×Int):Str:=((rows.find? (isK i j k)).map (·.1)).getD ""
theorem Ei{i j:Int}:kC H xs i j=qN (xs.map (cd H)) i j:=by
 unfold kC qN;congr 1;funext k;rw[uI];rfl
theorem Iq{i j:Int}(h:kC H xs i j=true):KP.map (firstOf H xs i j)=(KP.map (DW (xs.map (cd H)) i j)).map V.str:=by
 rw[bf];refine cO fun k c=>?_;have b:xs.any (fun y=>decide (num H i y=k.1/\num H j y=k.2))=true:=by
  unfold kC at h;exact bB.mp h k c
 have ep:(fun y=>decide (kf H i j y=pU k))=(isK i j k)∘(cd H):=by
  funext y
  exact decide_eq_decide.mpr kf_eq
 show firstOf H xs i j k=V.str (DW (xs.map (cd H)) i j k);unfold firstOf DW;rw[ep,List.find?_map];obtain⟨e,d,a⟩:=b8.mp b;cases hf:xs.find? ((isK i j k)∘(cd H))with
 |none=>
  rw[tM]at hf;exact absurd a (hf e d)
 |some y=>rfl
structure First(rows:List (Str×List V))(n i j:Nat):Prop where
 ij:i<j
 jn:j<n
 four:qN rows i j=true
 no:∀a b:Nat,a<b->b<n->(a<i\/a=i/\b<j)->qN rows a b=false
def NoC(rows:List (Str×List V))(n:Nat):Prop:=∀a b:Nat,a<b->b<n->qN rows a b=false
def Res(H:Hp)(rows:List (Str×List V))(n:Nat)(v:V):Prop:=(v=.non/\NoC rows n)\/∃(i j:Nat)(a l:Addr),v=.ref a/\First rows n i j/\H a=some (.tup [.int i,.int j,.ref l])/\H l=some (.tup ((KP.map (DW rows i j)).map V.str))
noncomputable def rowsOf(H:Hp)(x:V):List (Str×List V):=(srt H x).map (cd H)
theorem Cg{r:Addr}(h1:H b=some (.tup [.str z,.ref r]))(h2:H r=some (.tup zs)):cd H (.ref b)=(z,zs):=by
 have a:aZ H (.ref b)=z:=by
  show(match di (H b)with |some (.str z::_)=>z|_=>("":Str))=_;rw[h1];rfl
 have c:sg H (.ref b)=zs:=by
  show(match di (H b)with |some [_,.ref b]=>(di (H b)).getD [] |_=>[])=zs;rw[h1];show(di (H r)).getD []=zs;rw[h2];rfl
 unfold cd;rw[a,c]
theorem ub{t:Addr}(h:d0 (H t)=some ys):srt H (.ref t)=_root_.Q.sortBy .non (ys.map (aZ H)) ys:=by
 show(match d0 (H t)with |some ys=>_root_.Q.sortBy V.non (ys.map (aZ H)) ys|none=>[])=_;rw[h]
theorem FH{x:V}(h:de H x=true):gZ (aZ H x)=true:=by
 obtain⟨_,_,_,_,_,_,_,a,_,_,b,_⟩:=hO h;rw[b];exact a
theorem vZ{x:V}(e:dE H x=true)(h:H' l=some (.lst zs))(c:Copied H H' (srt H x) zs):
  Kn4 H' (.ref l)/\dE H' (.ref l)=true/\count H' (.ref l)=count H x/\zs.map (cd H')=rowsOf H x:=by
 obtain⟨a,ys,rfl,h1,h2,C,D,E⟩:=eJ e;have O:=ub h1;have d:(srt H (.ref a)).Perm ys:=by rw[O];exact _root_.Q.fV V.non D (by simp)
 unfold rowsOf;generalize srt H (.ref a)=us at c d⊢;have W:us.length<=40:=by rw[d.length_eq];exact h2
 have I:∀u∈us,de H u=true/\cz H u=count H (.ref a):=fun u F=>⟨C u (d.mem_iff.mp F),E u (d.mem_iff.mp F)⟩;have nd:(us.map (aZ H)).Nodup:=(d.map (aZ H)).nodup_iff.mpr D;have get:∀{i:Nat}{z:V},zs[i]? =some z->us[i]? =some (us.getD i .non)/\us.getD i .non∈us:=fun{i z} f=>by
  have hi:i<us.length:=by
   have :=(aD.mp f).1
   rw[<-c.1];exact this
  have e:us[i]? =some (us.getD i .non):=by rw[ae,aa hi];rfl
  exact⟨e,aC e⟩
 let nf:Nat->Str:=fun i=>if i<us.length then aZ H (us.getD i .non)else "a"
 have G:∀i,gZ (nf i)=true:=fun i=>by
  show gZ (if i<us.length then aZ H (us.getD i .non)else "a")=true;split
  ·rename_i hi
   have e:us[i]? =some (us.getD i .non):=by rw[ae,aa hi];rfl
   exact FH (I _ (aC e)).1
  ·decide+kernel
 have dr:Dr H' nf (count H (.ref a)) zs:=fun i z f=>by
  obtain⟨b,r,T,q,s⟩:=c.2 i z f;obtain⟨P,Q⟩:=get f;have hi:i<us.length:=(aD.mp P).1;obtain⟨L,M⟩:=I _ Q;obtain⟨_,_,_,_,_,Y,Z⟩:=mf L;refine⟨b,r,_,T,?_,s,by rw[Y,M],Z⟩;show H' b=some (.tup [.str (if i<us.length then aZ H (us.getD i .non)else "a"),.ref r]);rw[if_pos hi];exact q
 have hn60:ys=[]\/count H (.ref a)<=60:=by
  cases ys with
  |nil=>exact .inl rfl
  |cons y r=>
   right
   rw[<-E y (.head _)];obtain⟨_,_,_,_,_,_,_,_,R,_,_,S⟩:=hO (C y (.head _));rw[S];exact R
 have U:∀i j,i<zs.length->j<zs.length->nf i=nf j->i=j:=fun i j hi t e=>by
  rw[c.1]at hi t;have n:(if i<us.length then aZ H (us.getD i .non)else "a")=(if j<us.length then aZ H (us.getD j .non)else "a"):=e;rw[if_pos hi,if_pos t]at n;have g:∀k (v:k<us.length),(us.map (aZ H))[k]'(by simpa using v)=aZ H (us.getD k .non):=fun k v=>by
   rw[bj,ae,aa v];rfl
  rw[<-g i hi,<-g j t]at n;exact(eG nd).mp n
 have J:zs=[]↔us=[]:=by
  rw[<-a7,c.1,a7]
 have K:zs.map (cd H')=us.map (cd H):=by
  apply gA
  intro i;rw[av,av];cases f:zs[i]? with
  |none=>
   have :us.length<=i:=by
    have :=BJ.mp f
    rw[c.1]at this;exact this
   rw[bO this];rfl
  |some z=>
   obtain⟨b,r,rfl,q,s⟩:=c.2 i z f;rw[(get f).1];show some (cd H' (.ref b))=some (cd H (us.getD i .non));rw[Cg q s];rfl
 rcases hn60 with m|hn60
 ·have w:us=[]:=by rw[m]at d;exact List.perm_nil.mp d
  have X:=J.mpr w;subst X;have N:Dr H' nf 0 []:=fun i y e=>by simp at e
  obtain⟨A,B,_,_⟩:=vW G (fun i j hi=>absurd hi (by simp)) h N (by simp) (by decide);refine⟨A,B,?_,K⟩;have o:count H' (.ref l)=0:=by
   show(match d0 (H' l)with |some (y::_)=>cz H' y|_=>0)=0;rw[h];rfl
  have p:count H (.ref a)=0:=by
   show(match d0 (H a)with |some (y::_)=>cz H y|_=>0)=0;rw[h1,m]
  rw[o,p]
 ·obtain⟨A,B,_,t4⟩:=vW G U h dr (by rw[c.1];exact W) hn60
  refine⟨A,B,?_,K⟩;cases zs with
  |nil=>
   have w:=J.mp rfl;have m:ys=[]:=by rw[w]at d;exact List.nil_perm.mp d
   have o:count H' (.ref l)=0:=by
    show(match d0 (H' l)with |some (y::_)=>cz H' y|_=>0)=0;rw[h];rfl
   have p:count H (.ref a)=0:=by
    show(match d0 (H a)with |some (y::_)=>cz H y|_=>0)=0;rw[h1,m]
   rw[o,p]
  |cons z r=>
   show(match d0 (H' l)with |some (y::_)=>cz H' y|_=>0)=_;rw[h];exact t4 z (.head _)
noncomputable def yG(C:Addr)(T:Tb):Sp:=fun vs H Q E=>∃x,vs=[x]/\Kn4 H x/\Tab T H/\(dE H x=true->∀H' v,Gr T H H'->Res H' (rowsOf H x) (count H x) v->Q v H')/\(dE H x=false->False)
theorem GP{T:Tb}(Y:G.fn "table_list" 1=some (yD C T,[]))(Z:G.fn "place_count" 1=some (uc C,[]))(g3:G.fn "first_of_kinds" 3=some (yF,[])):
  Sat G K (yG C T) EE DY:=by
 rintro vs H Q E ⟨x,rfl,hk,tb,q1,q2⟩;unfold EE yd;change wpB G K _ _ _ [some x,none,none,none,none,none] H;walk_at "wp";refine⟨_,_,Y,x,rfl,hk,tb,fun e H1 l zs gr hl q R=>?_,q2⟩;obtain⟨kn,D,ct,rows⟩:=vZ e q R;have o:=q1 e;generalize rowsOf H x=rw0 at rows o;generalize hn:count H x=n at ct o;refine⟨_,_,Z,.ref l,rfl,kn,fun _ H2 s2=>?_,fun z=>by rw[D]at z;cases z⟩;rw[ct];have M:d0 (H1 l)=some zs:=by rw[q];rfl
 have pl:∀z:Nat,z<n->isPlace H1 (.ref l) (.int z)=true:=fun z hz=>decide_eq_true ⟨by lia,by lia⟩;have a6:n<=60:=by
  obtain⟨I,a7,S,L,f2,W,f4,X⟩:=eJ D;cases S;rw[M]at L;cases L;rw[<-ct];cases zs with
  |nil=>
   show(match d0 (H1 l)with |some (y::_)=>cz H1 y|_=>0)<=60;rw[q];exact aR _
  |cons y r=>
   rw[<-X y (.head _)];obtain⟨_,_,_,_,_,_,_,_,a0,_,_,h8⟩:=hO (W y (.head _));rw[h8];exact a0
 unfold yc;walk_at "wp";refine fo ?_;walk_at "wp";refine⟨(n:Int),rfl,by lia,by lia,?_⟩;refine eL dg (fun i σ H'=>aM H1 H'/\(∀a b:Nat,a<i->a<b->b<n->qN rw0 a b=false)/\∃u v w,σ=[some x,some (.ref l),some (.int n),u,v,w])
  ⟨s2,fun a b h=>absurd h (by lia),none,none,none,rfl⟩ (fun _ _ _ _ _=>trivial) ?_ ?_
 ·rintro i y σ F H4 D2 hi ⟨s3,k,u,v,w,rfl⟩ rfl s4 a1 a4
  have a3:i<n:=by lia
  walk_at "wp"
  simp only[eE];refine fo ?_;walk_at "wp";refine⟨_,_,rfl,⟨by lia,by lia,by lia,by lia⟩,?_⟩;refine eL dg (fun m σ H'=>aM H1 H'/\(∀b:Nat,i<b->b<i+1+m->qN rw0 i b=false)/\∃v w,σ=[some x,some (.ref l),some (.int n),some (.int i),v,w])
   ⟨s3.trans s4,fun b h1 h2=>absurd h2 (by lia),_,_,rfl⟩ (fun _ _ _ _ _=>trivial) ?_ ?_
  ·rintro m y σ N O D3 hm ⟨t,d,v,w,rfl⟩ rfl s6 a2 a5
   have s:i+1+m<n:=by lia
   have U:(i:Int)+1+(m:Int)=((i+1+m:Nat):Int):=by lia
   walk_at "wp"
   rw[U];generalize hjj:i+1+m=j at s d⊢;have A:aM H1 O:=t.trans s6;refine⟨_,_,g3,l,zs,i,j,H1,rfl,A,D,M,pl i a3,pl j s,fun f P B=>?_,fun f P p B hp ep=>?_⟩
   ·show if(!decide (V.non=V.non))=true then _ else _
    rw[if_neg (by simp)];refine a2 _ _ ⟨A.trans B,fun b h1 h2=>?_,_,_,rfl⟩;by_cases hb:b=j
    ·rw[hb,<-rows,<-Ei]
     exact f
    ·exact d b h1 (by lia)
   ·show if(!decide (V.ref p=V.non))=true then _ else _
    rw[if_pos (by simp)];refine⟨short (by simp),fun a g=>?_⟩;rw[a5,a4];refine o _ _ (gr.trans (Gr.of (A.trans (B.trans (aq g))))) (.inr ⟨i,j,a,p,rfl,⟨by lia,s,by rw[<-rows,<-Ei];exact f,fun I J h1 h2 c=>?_⟩,ao,?_⟩)
    ·rcases c with c|⟨rfl,c⟩
     ·exact k I J c h1 h2
     ·exact d J h1 (by lia)
    ·rw[aq g _ _ ep,Iq f,rows]
  ·rintro σ N ⟨t,d,v,w,rfl⟩
   refine a1 _ _ ⟨t,fun a b h1 h2 c=>?_,_,_,_,rfl⟩;by_cases g:a=i
   ·subst g
    exact d b h2 (by lia)
   ·exact k a b (by lia) h2 c
 ·rintro σ F ⟨s3,k,u,v,w,rfl⟩
  unfold yb;walk_at "wp";exact o F .non (gr.trans (Gr.of s3)) (.inl ⟨rfl,fun a b h1 h2=>k a b (by simp;lia) h1 h2⟩)
theorem vI{α d:Type}{f:α->d}{ys:List α}(hf:∀a∈ys,∀b∈ys,f a=f b->a=b):∀{l m:List α},(∀a∈l,a∈ys)->(∀a∈m,a∈ys)->l.map f=m.map f->l=m
 | [],[],_,_,_=>rfl
 | [],_::_,_,_,e=>by simp at e
 |_::_,[],_,_,e=>by simp at e
 |a::l,b::m,h1,h2,e=>by
  rw[cn,cn]at e;injection e with e1 e2
  rw[hf a (h1 a (.head _)) b (h2 b (.head _)) e1,vI hf (fun x c=>h1 x (.tail _ c)) (fun x c=>h2 x (.tail _ c)) e2]
theorem FE{α k:Type}{f:α->k}{ys:List α}(nd:(ys.map f).Nodup):∀a∈ys,∀b∈ys,f a=f b->a=b:=fun a d b g e=>by
 obtain⟨i,hi,rfl⟩:=cG.mp d;obtain⟨j,h,rfl⟩:=cG.mp g;have c:(ys.map f)[i]'(by simpa using hi)=(ys.map f)[j]'(by simpa using h):=by rw[bj,bj];exact e
 have :=(eG nd).mp c
 subst this;rfl
end K22
namespace Q
open PySem PySem.Spec PySem.W PyProof.Rows L2
theorem xF(nd:ns.Nodup):(Ct ns).Perm (aA ns.length):=by
 unfold Ct;split
 ·exact dN _
 ·have P:=(eT (totI nd) (by lia)).1
  have :=eI.mp P.perm
  simpa using this
end Q
namespace M3
open PySem
theorem and_nat(m n:Nat):iR (m:Int) (n:Int)=((m&&& n:Nat):Int):=by
 unfold iR;simp
theorem xor_bit{a b:Int}(c:a=0\/a=1)(d:b=0\/b=1):kg a b=if a=b then 0 else 1:=by
 rcases c with rfl|rfl<;>rcases d with rfl|rfl<;>decide
noncomputable def num:List Bool->Nat->Nat
 | [],n=>n
 |b::bs,n=>num bs (n*2+b.toNat)
theorem vz:∀(bs:List Bool)(b:Bool)(n:Nat),num (bs++[b]) n=num bs n*2+b.toNat
 | [],_,_=>rfl
 |c::bs,b,n=>vz bs b _
theorem DT:∀(bs:List Bool)(i:Nat),(num bs.reverse 0).testBit i=(bs[i]?).getD false
 | [],i=>by simp[num]
 |b::bs,i=>by
  rw[uH,vz];cases i with
  |zero=>
   rw[Nat.testBit_zero];cases b<;>simp <;>lia
  |succ i=>
   rw[Nat.testBit_succ];have e:(num bs.reverse 0*2+b.toNat)/2=num bs.reverse 0:=by
    have a:b.toNat<=1:=by cases b<;>decide
    lia
   rw[e,DT bs i];simp
theorem and_sub:m&&& n=n↔∀i,n.testBit i=true->m.testBit i=true:=by
 constructor
 ·intro h i hi
  rw[<-h,Nat.testBit_and]at hi;exact(aH _ _▸hi).1
 ·intro h
  apply rK
  intro i;rw[Nat.testBit_and];cases hn:n.testBit i with
  |true=>rw[h i hn];rfl
  |false=>simp
end M3
namespace M4
open Q
noncomputable def bl(f:Nat->Int)(n:Nat)(P:Nat->Bool):List Int:=(aA n).map fun p=>if P p=true then 1-f p else f p
theorem hV(f:Nat->Int)(n:Nat)(P:Nat->Bool):(bl f n P).length=n:=by simp[bl]
theorem gQ{f:Nat->Int}{P Q:Nat->Bool}(h:bl f n P=bl f n Q)(hf:∀p,p<n->f p=0\/f p=1)(hp:p<n):P p=Q p:=by
 have e:(bl f n P)[p]? =(bl f n Q)[p]? :=by rw[h]
 simp[bl,hp]at e;rcases hf p hp with z|z<;>cases hP:P p<;>cases hQ:Q p<;>simp[hP,hQ,z]at e⊢
noncomputable def sub(grp:Nat->Nat)(g p:Nat):Bool:=decide (grp p&&& g=g)
noncomputable def above(grp:Nat->Nat)(g p:Nat):Bool:=decide (grp p&&& g=g/\grp p≠g)
variable {f:Nat->Int}{n:Nat}{grp:Nat->Nat}(hf:∀p,p<n->f p=0\/f p=1)
include hf
theorem Bu(hp:p<n):bl f n (sub grp (grp p))≠bl f n fun _=>false:=fun h=>by
 have :=gQ h hf hp
 simp[sub]at this
theorem Bs(hp:p<n)(hq:q<n)(c:grp p≠grp q):bl f n (sub grp (grp p))≠bl f n (sub grp (grp q)):=fun h=>by
 have a:=gQ h hf hp;have b:=gQ h hf hq;simp[sub]at a b;exact c (by rw[<-b,Nat.and_comm,a])
theorem JF(hp:p<n)(hq:q<n)(h1:bl f n (sub grp (grp p))=bl f n (above grp (grp q)))(h2:bl f n (sub grp (grp q))=bl f n (above grp (grp p))):False:=by
 have a:=gQ h1 hf hp;have b:=gQ h2 hf hq;simp[sub,above]at a b;exact a.2 (by rw[<-b.1,Nat.and_comm,a.1])
theorem DB(hp:p<n):bl f n (above grp (grp p))≠bl f n (sub grp (grp p)):=fun h=>by
 have :=gQ h hf hp
 simp[sub,above]at this
noncomputable def lo(a b:List Int):List Int:=if llt b a=true then b else a
noncomputable def hi(a b:List Int):List Int:=if llt a b=true then b else a
omit hf in
theorem lohi{a b c d:List Int}(h1:lo a b=lo c d)(h2:hi a b=hi c d)(e:a≠b)(f:c≠d):(a=c/\b=d)\/(a=d/\b=c):=by
 have g:=iH (bS e);have h:=iH (bS f);unfold lo at h1;unfold hi at h2;rw[g,h]at h1;cases x:llt a b<;>cases y:llt c d<;>rw[x,y]at h1 h2<;>simp only[Bool.not_false,gg,if_true,aU,if_false]at h1 h2
 ·exact .inl ⟨h2,h1⟩
 ·exact .inr ⟨h2,h1⟩
 ·exact .inr ⟨h1,h2⟩
 ·exact .inl ⟨h1,h2⟩
theorem ye(hp:p<n)(hq:q<n)(a:grp p≠grp q):
  lo (bl f n (above grp (grp p))) (bl f n (sub grp (grp p)))++hi (bl f n (above grp (grp p))) (bl f n (sub grp (grp p)))≠
  lo (bl f n (above grp (grp q))) (bl f n (sub grp (grp q)))++hi (bl f n (above grp (grp q))) (bl f n (sub grp (grp q))):=fun h=>by
 have len:∀P Q:Nat->Bool,(lo (bl f n P) (bl f n Q)).length=n:=fun P Q=>by unfold lo;split <;>exact hV _ _ _
 obtain⟨h1,h2⟩:=List.append_inj h ((len _ _).trans (len _ _).symm);rcases lohi h1 h2 (DB hf hp) (DB hf hq)with⟨_,z⟩ |⟨b,c⟩
 ·exact Bs hf hp hq a z
 ·exact JF hf hp hq c b.symm
end M4
namespace Q
open L2
theorem xw(nd:ns.Nodup):∃qs:List Int,sortI ns=qs.map V.int/\qs.Perm ns:=by
 refine⟨(Ct ns).map fun i=>ns.getD i 0,?_,?_⟩
 ·unfold sortI
  rw[bf];refine cO fun i hi=>?_;have a:i<ns.length:=aQ.mp ((xF nd).mem_iff.mp hi);show(ns.map V.int).getD i .non=V.int (ns.getD i 0);rw[ae,ae,av,aa a];rfl
 ·have h:=(xF nd).map fun i=>ns.getD i 0
  rw[range_getD]at h;exact h
end Q
namespace M5
open M3 M4 Q L2
noncomputable def plc(n:Nat)(P:Nat->Bool):List Int:=((aA n).filter P).map fun p:Nat=>(p:Int)
theorem ki{P:Nat->Bool}(h:i<n):(i:Int)∈plc n P↔P i=true:=by
 unfold plc;rw[ax];constructor
 ·rintro⟨p,hp,e⟩
  have :p=i:=by lia
  rw[<-this];exact(a9.mp hp).2
 ·intro e
  exact⟨i,a9.mpr ⟨aQ.mpr h,e⟩,rfl⟩
noncomputable def trn(zs:List Int)(ms:List Int):List Int:=(aA zs.length).map fun i:Nat=>if(i:Int)∈ms then 1-zs.getD i 0 else zs.getD i 0
theorem E2{zs:List Int}{P:Nat->Bool}:trn zs (plc zs.length P)=bl (fun p=>zs.getD p 0) zs.length P:=by
 unfold trn bl;refine cO fun i hi=>?_;have hi:=aQ.mp hi;by_cases h:P i=true
 ·rw[if_pos ((ki hi).mpr h),if_pos h]
 ·rw[if_neg (fun z=>h ((ki hi).mp z)),if_neg h]
theorem EG{f:Nat->Int}{P:Nat->Bool}(h:i<n):(bl f n P).getD i 0=if P i=true then 1-f i else f i:=by
 unfold bl;rw[ae,av,bJ h];rfl
theorem trn_bl{f:Nat->Int}{S E:Nat->Bool}(h:∀p,E p=true->S p=true):trn (bl f n S) (plc n E)=bl f n fun p=>S p&& !E p:=by
 unfold trn;rw[hV];refine cO fun i hi=>?_;have hi:=aQ.mp hi;rw[EG hi];show _=if(S i&& !E i)=true then 1-f i else f i
 cases hE:E i with
 |true=>
  rw[if_pos ((ki hi).mpr hE),h i hE,if_pos rfl];show 1-(1-f i)=if(true&& !true)=true then _ else f i
  rw[if_neg (by simp)];lia
 |false=>
  rw[if_neg (fun z=>by rw[(ki hi).mp z]at hE;cases hE)];cases S i<;>rfl
theorem Jl(zs:List Int):bl (fun p=>zs.getD p 0) zs.length (fun _=>false)=zs:=by
 unfold bl;apply bA
 ·simp
 ·intro i h1 h2
  simp[h2]
noncomputable def own(grp:Nat->Nat)(g p:Nat):Bool:=decide (grp p=g)
theorem own_sub{grp:Nat->Nat}{g:Nat}(h:own grp g p=true):sub grp g p=true:=by
 have :grp p=g:=of_decide_eq_true h;refine decide_eq_true ?_;rw[this];exact GB g
theorem JQ(grp:Nat->Nat)(g:Nat):(fun p=>sub grp g p&& !own grp g p)=above grp g:=by
 funext p
 unfold sub own above;by_cases h1:grp p&&& g=g<;>by_cases h2:grp p=g<;>simp[h1,h2]
noncomputable def nB(f:Nat->Int)(n:Nat)(grp:Nat->Nat)(q:Int):List Int:=bl f n (sub grp q.toNat)
noncomputable def nA(f:Nat->Int)(n:Nat)(grp:Nat->Nat)(q:Int):List Int:=bl f n (above grp q.toNat)
noncomputable def eU(f:Nat->Int)(n:Nat)(grp:Nat->Nat)(qs:List Int):List (List Int):=bl f n (fun _=>false)::qs.map (nB f n grp)
noncomputable def brK(f:Nat->Int)(n:Nat)(grp:Nat->Nat)(qs:List Int):List (List Int×List Int):=qs.map fun q=>(lo (nA f n grp q) (nB f n grp q),hi (nA f n grp q) (nB f n grp q))
def Grs(n:Nat)(grp:Nat->Nat)(qs:List Int):Prop:=qs.Nodup/\∀q∈qs,∃p,p<n/\q=(grp p:Int)
section
variable {f:Nat->Int}{n:Nat}{grp:Nat->Nat}{qs:List Int}(hf:∀p,p<n->f p=0\/f p=1)(hq:Grs n grp qs)
include hf hq
theorem IB{j:Type}{F:Int->j}(h:∀p q,p<n->q<n->grp p≠grp q->F (grp p:Int)≠F (grp q:Int)):(qs.map F).Nodup:=by
 refine cQ.mpr ?_;have p:List.Pairwise (fun a b=>a≠b) qs:=hq.1;refine(lS.mp p).imp ?_;rintro a b ⟨c,d,f⟩;obtain⟨x,g,rfl⟩:=hq.2 a c;obtain⟨y,i,rfl⟩:=hq.2 b d;exact h x y g i (fun e=>f (by rw[e]))
theorem vA:(eU f n grp qs).Nodup:=by
 unfold eU;refine bI.mpr ⟨fun z=>?_,IB hf hq fun p q hp a b=>?_⟩
 ·obtain⟨q,a,e⟩:=ax.mp z
  obtain⟨p,hp,rfl⟩:=hq.2 q a;exact Bu hf hp (by unfold nB at e;rw[aJ]at e;exact e)
 ·unfold nB
  rw[aJ,aJ];exact Bs hf hp a b
theorem C6:((brK f n grp qs).map j4).Nodup:=by
 unfold brK;rw[bf];refine IB hf hq fun p q hp b a=>?_;show lo (nA f n grp (grp p:Int)) (nB f n grp (grp p:Int))++hi (nA f n grp (grp p:Int)) (nB f n grp (grp p:Int))≠lo (nA f n grp (grp q:Int)) (nB f n grp (grp q:Int))++hi (nA f n grp (grp q:Int)) (nB f n grp (grp q:Int));unfold nA nB;rw[aJ,aJ];exact ye hf hp b a
end
theorem FF{f:Nat->Int}{grp:Nat->Nat}:∀k∈eU f n grp qs,k.length=n:=fun k hk=>by
 rcases aE.mp hk with rfl|hk
 ·exact hV _ _ _
 ·obtain⟨q,_,rfl⟩:=ax.mp hk
  exact hV _ _ _
theorem ID{a b:List Int}(c:a.length=n)(d:b.length=n):(lo a b).length=n:=by unfold lo;split <;>assumption
theorem Ja{a b:List Int}(c:a.length=n)(d:b.length=n):(hi a b).length=n:=by unfold hi;split <;>assumption
theorem brK_len{f:Nat->Int}{grp:Nat->Nat}:∀k∈brK f n grp qs,k.1.length=n/\k.2.length=n:=fun k a=>by
 obtain⟨q,_,rfl⟩:=ax.mp a;exact⟨ID (hV _ _ _) (hV _ _ _),Ja (hV _ _ _) (hV _ _ _)⟩
theorem uy{grp:Nat->Nat}(h:Grs n grp qs):qs.length<=n:=by
 have e:qs.length<=((aA n).map fun p:Nat=>(grp p:Int)).length:=by
  refine List.Nodup.length_le_of_subset h.1 fun q hq=>?_;obtain⟨p,hp,rfl⟩:=h.2 q hq;exact ax.mpr ⟨p,aQ.mpr hp,rfl⟩
 simpa using e
end M5
namespace K32
open PySem R
noncomputable def Cs:List Str:=["copies","place"]
noncomputable def vH:List Str:=["copies","place","first","group","name","readings"]
noncomputable def rj:CB:=
  (.cons (.ret (.var 3))
  .nil)
noncomputable def rm:CB:=
  (.cons (.forr (.tup (.cons (.name 4) (.cons (.name 5) .nil))) (.seq (.var 0))
  (.cons (.asg (.name 3) (.bin .Add (.bin .Mult (.var 3) (.con (.int 2))) (.bin .BitXor (.idx (.var 5) (.var 1)) (.var 2))))
  .nil))
  rj)
noncomputable def rq:CB:=
  (.cons (.asg (.name 3) (.con (.int 0)))
  rm)
noncomputable def wt:CB:=
  (.cons (.asg (.name 2) (.idx (.idx (.idx (.var 0) (.con (.int 0))) (.con (.int 1))) (.var 1)))
  rq)
noncomputable def Ia:List Str:=["readings","places"]
noncomputable def AK:List Str:=["readings","places"]
noncomputable def Bj:CB:=
  (.cons (.ret (.bfn .tuple (.cons (.comp ["place","reading"] [1] (.tup (.cons (.name 0) (.cons (.name 1) .nil))) (.enumt (.var 0)) .no (.ite (.cmp .In (.var 0) (.var 2)) (.bin .Sub (.con (.int 1)) (.var 1)) (.var 1))) .nil)))
  .nil)
noncomputable def p_grown:List Str:=["copies"]
noncomputable def DX:List Str:=["copies","first","groups","nodes","branches","group","places","around","below","above"]
noncomputable def x5:CB:=
  (.cons (.ret (.tup (.cons (.bfn .sortl (.cons (.var 3) .nil)) (.cons (.bfn .sortt (.cons (.var 4) .nil)) .nil))))
  .nil)
noncomputable def nV:CB:=
  (.cons (.expr (.meth1 .append (.var 4) (.tup (.cons (.bfn .minl (.cons (.var 9) (.cons (.var 8) .nil))) (.cons (.bfn .maxl (.cons (.var 9) (.cons (.var 8) .nil))) (.cons (.bfn .tuple (.cons (.var 6) .nil)) .nil))))))
  .nil)
noncomputable def nW:CB:=
  (.cons (.expr (.meth1 .append (.var 3) (.var 8)))
  nV)
noncomputable def tG:CB:=
  (.cons (.asg (.name 9) (.call "turned" (.cons (.var 8) (.cons (.var 6) .nil))))
  nW)
noncomputable def nX:CB:=
  (.cons (.asg (.name 8) (.call "turned" (.cons (.var 1) (.cons (.var 7) .nil))))
  tG)
noncomputable def tH:CB:=
  (.cons (.asgc 7 (.comp ["place"] [5,2] (.name 0) (.range1 (.bfn .len (.cons (.var 1) .nil))) (.yes (.cmp .Eq (.bin .BitAnd (.idx (.var 2) (.var 0)) (.var 1)) (.var 1))) (.var 0)))
  nX)
noncomputable def nY:CB:=
  (.cons (.asgc 6 (.comp ["place"] [5,2] (.name 0) (.range1 (.bfn .len (.cons (.var 1) .nil))) (.yes (.cmp .Eq (.idx (.var 2) (.var 0)) (.var 1))) (.var 0)))
  tH)
noncomputable def x6:CB:=
  (.cons (.forr (.name 5) (.lseq (.sortset (.var 2)))
  (.cons (.iff (.cmp .Eq (.var 5) (.con (.int 0)))
  (.cons (.cont)
  .nil)
  .nil)
  nY))
  x5)
noncomputable def x8:CB:=
  (.cons (.asg (.name 4) (.lst .nil))
  x6)
noncomputable def x9:CB:=
  (.cons (.asg (.name 3) (.lst (.cons (.var 1) .nil)))
  x8)
noncomputable def ya:CB:=
  (.cons (.asgc 2 (.comp ["place"] [0] (.name 0) (.range1 (.bfn .len (.cons (.var 1) .nil))) .no (.call "group_at" (.cons (.var 1) (.cons (.var 0) .nil)))))
  x9)
noncomputable def ED:CB:=
  (.cons (.asg (.name 1) (.idx (.idx (.var 0) (.con (.int 0))) (.con (.int 1))))
  ya)
end K32
namespace K32
open PySem PySem.Spec PyProof.Rows L2 R Cp Lt Kc K21 K22 Lm M3 M4 M5
theorem dc(h:n<=63):n<=sizeLine:=aG h (by decide)
theorem vJ(h:n<=63):n<sizeLine:=lR h (by decide)
theorem xor_ii{i j:Int}{Q:VK}:jb K .BitXor (.int i) (.int j) H Q↔Q (.int (kg i j)) H:=by simp[jb,rI0]
theorem and_ii{i j:Int}{Q:VK}:jb K .BitAnd (.int i) (.int j) H Q↔Q (.int (iR i j)) H:=by simp[jb,rI0]
theorem uv(a:Int)(l:List Int):inV (V.int a) (l.map V.int)=decide (a∈l):=by
 unfold inV;rw[uI,cA,b8,decide_eq_true_eq];constructor
 ·rintro⟨x,b,e⟩
  have :x=a:=by simpa[eqV]using e
  rw[<-this];exact b
 ·intro h
  exact⟨a,h,by simp[eqV]⟩
theorem oE(ms:List Int):(ms.map V.int).all o5=true:=by
 rw[bB];intro v a;obtain⟨m,_,rfl⟩:=ax.mp a;rfl
theorem xA:tT (Itet K a) xs.length (fun i x H=>∃p v,x=.ref p/\H p=some (.tup [.int i,v])/\xs[i]? =some v) (fun H=>SqT K H a xs) where
 go:=fun i H h hi=>⟨xs,xs[i],h,by simp[hi]⟩
 stop:=fun i H h hi=>⟨xs,h,hi⟩
 yld:=fun i H x H' h hi y=>by
  obtain⟨p,v,hp,e,ex,y⟩:=y;subst e ex;exact⟨⟨p,v,rfl,ao,y xs h⟩,aq hp⟩
theorem gT{zs:List Int}(h:i<zs.length):(zs.map V.int)[i]? =some (.int (zs.getD i 0)):=by
 rw[av,aa h,ae,aa h];rfl
structure Cps(H:Hp)(c:Addr)(ys:List V)(n:Nat)(rows:List (List Int)):Prop where
 ec:H c=some (.lst ys)
 len:ys.length<=40
 rl:rows.length=ys.length
 n60:n<=60
 at_:∀(i:Nat) y,ys[i]? =some y->∃b z r,y=.ref b/\H b=some (.tup [.str z,.ref r])/\H r=some (.tup ((rows.getD i []).map V.int))
 rd:∀zs∈rows,zs.length=n/\∀x∈zs,x=0\/x=1
theorem Cps.same(d:Cps H c ys n rows)(s:aM H H'):Cps H' c ys n rows:=
 {d with ec:=s _ _ d.ec,at_:=fun i y e=>let⟨b,z,r,h1,h2,h3⟩:=d.at_ i y e;⟨b,z,r,h1,s _ _ h2,s _ _ h3⟩}
theorem Cps.row(d:Cps H c ys n rows)(hi:i<ys.length):(rows.getD i []).length=n/\∀p,p<n->(rows.getD i []).getD p 0=0\/(rows.getD i []).getD p 0=1:=by
 have a:i<rows.length:=by rw[d.rl];exact hi
 have e:rows.getD i []=rows[i]:=by rw[ae,aa a];rfl
 obtain⟨h1,h2⟩:=d.rd rows[i] (ba a);rw[e];refine⟨h1,fun p hp=>h2 _ ?_⟩;rw[ae,aa (by lia)];exact ba _
noncomputable def fr(rows:List (List Int))(p:Nat):Int:=(rows.getD 0 []).getD p 0
noncomputable def bt(rows:List (List Int))(p:Nat)(r:List Int):Bool:= !decide (r.getD p 0=fr rows p)
noncomputable def grp(rows:List (List Int))(p:Nat):Nat:=M3.num (rows.map (bt rows p)) 0
noncomputable def yE:Sp:=fun vs H Q _=>∃(c:Addr)(p:Nat)(ys:List V)(n:Nat)(rows:List (List Int)),vs=[.ref c,.int p]/\Cps H c ys n rows/\ys≠[]/\p<n/\∀H',aM H H'->Q (.int (grp rows p)) H'
theorem GN:Sat G K yE wt vH:=by
 rintro vs H Q E ⟨c,p,ys,n,rows,rfl,d,D,hp,q⟩;unfold wt;change wpB G K _ _ _ [some (.ref c),some (.int p),none,none,none,none] H;walk_at "wp";have h0:0<ys.length:=d9.mpr D;obtain⟨b,z,r,g,i,l⟩:=d.at_ 0 ys[0] (aa h0);obtain⟨N,J⟩:=d.row h0;have A:ys[0]? =some (.ref b):=by rw[aa h0,g]
 refine .inl ⟨c,ys,0,_,rfl,rfl,SqL.of d.ec,cf (j:=0) A,?_⟩;refine .inr (.inl ⟨b,_,1,_,rfl,rfl,SqT.of i,rfl,?_⟩);refine .inr (.inl ⟨r,_,p,_,rfl,rfl,SqT.of l,cf (gT (by lia)),?_⟩);unfold rq;walk_at "wp";unfold rm;walk_at "wp";refine fo (bD rfl (SqL.of d.ec) (eL cK (fun k σ H'=>aM H H'/\∃u v,σ=[some (.ref c),some (.int p),some (.int (fr rows p)),some (.int (M3.num ((rows.take k).map (bt rows p)) 0:Nat)),u,v])
  ⟨aM.refl _,none,none,rfl⟩ (fun k σ H' _ s=>s.1.seq (SqL.of d.ec)) ?_ ?_))
 ·rintro k y σ H1 H2 M e ⟨a,u,v,rfl⟩ F s2 B _
  obtain⟨f,P,I,rfl,w,x⟩:=d.at_ k y F;have s3:=a.trans s2;obtain⟨O,L⟩:=d.row e;have C:k<rows.length:=by rw[d.rl];exact e
  refine⟨f,_,rfl,SqT.of (s3 _ _ w),rfl,_,_,rfl,_,_,rfl,rfl,?_⟩;walk_at "wp";refine⟨v7 (by decide) (by decide),.inr (.inl ⟨I,_,p,_,rfl,rfl,SqT.of (s3 _ _ x),cf (gT (by lia)),?_⟩)⟩;refine xor_ii.mpr (sI.mpr ?_);rw[show kg ((rows.getD k []).getD p 0) (fr rows p)=if(rows.getD k []).getD p 0=(rows.getD 0 []).getD p 0 then 0 else 1 from xor_bit (L p hp) (J p hp)];have t:rows.take (k+1)=rows.take k++[rows.getD k []]:=by
   rw[cg,ae,aa C];rfl
  have o:(if(rows.getD k []).getD p 0=(rows.getD 0 []).getD p 0 then(0:Int)else 1)=((bt rows p (rows.getD k [])).toNat:Int):=by
   unfold bt fr;by_cases h:(rows.getD k []).getD p 0=(rows.getD 0 []).getD p 0
   ·rw[if_pos h,decide_eq_true h];rfl
   ·rw[if_neg h,decide_eq_false h];rfl
  have m:((M3.num ((rows.take k).map (bt rows p)) 0:Nat):Int)*2+((bt rows p (rows.getD k [])).toNat:Int)=((M3.num ((rows.take (k+1)).map (bt rows p)) 0:Nat):Int):=by
   rw[t,c7,cn,i7,vz];push_cast;rfl
  rw[o,m];exact B _ _ ⟨s3,_,_,rfl⟩
 ·rintro σ H1 ⟨a,u,v,rfl⟩
  unfold rj;walk_at "wp";rw[<-d.rl,da];exact q H1 a
noncomputable def mW(K:ah):Sp:=fun vs H Q _=>∃(r b:Addr)(zs a:List Int),vs=[.ref r,.ref b]/\SqT K H r (zs.map V.int)/\SqL K H b (a.map V.int)/\zs.length<=60/\
 ∀(H':Hp)(p:Addr),aM H H'->H p=none->H' p=some (.tup ((trn zs a).map V.int))->Q (.ref p) H'
theorem EW:Sat G K (mW K) Bj AK:=by
 rintro vs H Q E ⟨r,b,zs,a,rfl,d,n,s,q⟩;unfold Bj;change wpB G K _ _ _ [some (.ref r),some (.ref b)] H;walk_at "wp";refine cL ⟨_,rfl,r,rfl,⟨_,d⟩,?_⟩;refine dy xA (dc (by rw[ai];lia)) (fun j s3=>s3.tup d) (fun i v _=>v=.int (if(i:Int)∈a then 1-zs.getD i 0 else zs.getD i 0)) (fun _ _ _ _ _ h=>h) (fun g=>∃u v,g=[u,v,some (.ref b)]) ⟨none,none,rfl⟩ ?_ ?_
 ·rintro i x g j R hi ⟨u,v,rfl⟩ s3 ⟨p,v,rfl,hp,f⟩ k
  rw[ai]at hi;rw[gT hi]at f;cases f;refine⟨p,_,rfl,SqT.of hp,rfl,_,_,rfl,_,_,rfl,rfl,?_⟩;walk_at "wp";refine .inr ⟨b,_,rfl,.inl (s3.seq n),rfl,oE a,_,rfl,?_⟩;show if inV (V.int (i:Int)) (a.map V.int)=true then _ else _
  rw[uv];by_cases h:(i:Int)∈a
  ·rw[decide_eq_true h,if_pos rfl]
   exact k _ _ _ ⟨_,_,rfl⟩ (aM.refl _) (by rw[if_pos h])
  ·rw[decide_eq_false h,if_neg ak]
   exact k _ _ _ ⟨_,_,rfl⟩ (aM.refl _) (by rw[if_neg h])
 ·intro vs H2 l o m s2 c
  rw[ai]at o;have e:vs=(trn zs a).map V.int:=by
   unfold trn;apply gA;intro i;rw[av,av];by_cases hi:i<vs.length
   ·rw[aa hi,bJ (by lia),m i _ (aa hi)]
    rfl
   ·rw[bO (by lia),bO (by rw[aW];lia)]
    rfl
  rw[e];exact⟨l,_,rfl,.inl ⟨SqL.of ao,fun p hp=>q _ p (s2.trans ((aq c).trans (aq hp))) ((s2.trans (aq c)).free hp) ao⟩⟩
end K32
namespace M6
def Ok(n:Nat)(v:List Int):Prop:=v.length=n/\∀x∈v,x=0\/x=1
theorem Ok.at(h:Ok n v)(i:Nat):v.getD i 0=0\/v.getD i 0=1:=by
 rw[ae];cases e:v[i]? with
 |none=>exact .inl rfl
 |some x=>exact h.2 x (aC e)
def Mis(vs:List (List Int))(i j:Nat):Prop:=∃a b:Int,(a=0\/a=1)/\(b=0\/b=1)/\∀v∈vs,¬(v.getD i 0=a/\v.getD j 0=b)
theorem Mis.sub{vs ws:List (List Int)}(h:Mis vs i j)(s:∀w∈ws,w∈vs):Mis ws i j:=let⟨a,b,ha,hb,k⟩:=h;⟨a,b,ha,hb,fun w c=>k w (s w c)⟩
theorem Mis.flip{vs:List (List Int)}(h:Mis vs i j):Mis vs j i:=let⟨a,b,ha,hb,k⟩:=h;⟨b,a,hb,ha,fun w c ⟨x,y⟩=>k w c ⟨y,x⟩⟩
end M6
namespace M7
open K32
def Fits(rows:List (List Int))(n:Nat)(v:List Int):Prop:=M6.Ok n v/\∀i j,i<n->j<n->∃r∈rows,r.getD i 0=v.getD i 0/\r.getD j 0=v.getD j 0
theorem Fits.sub{a:List (List Int)}(h:Fits rows n v)(s:∀r∈rows,r∈a):Fits a n v:=⟨h.1,fun i j hi b=>let⟨r,hr,e⟩:=h.2 i j hi b;⟨r,s r hr,e⟩⟩
section
variable {rows:List (List Int)}{n:Nat}
theorem kJ:bt rows p r=true↔r.getD p 0≠fr rows p:=by
 unfold bt;simp
theorem oh(p i:Nat):(grp rows p).testBit i=((rows.reverse[i]?).map (bt rows p)).getD false:=by
 unfold grp;have :=M3.DT (rows.map (bt rows p)).reverse i;rw[List.reverse_reverse]at this;rw[this,<-List.map_reverse,av]
theorem gsub:grp rows p&&& grp rows q=grp rows q↔∀r∈rows,bt rows q r=true->bt rows p r=true:=by
 rw[M3.and_sub];constructor
 ·intro h r a hq
  obtain⟨i,hi⟩:=cu.mp (jt.mpr a);have :=h i;rw[oh,oh,hi]at this;exact this hq
 ·intro h i
  rw[oh,oh];cases e:rows.reverse[i]? with
  |none=>exact id
  |some r=>exact h r (jt.mp (aC e))
theorem geq:grp rows p=grp rows q↔∀r∈rows,bt rows p r=bt rows q r:=by
 constructor
 ·intro h r c
  have a:=gsub.mp (show grp rows p&&& grp rows q=grp rows q by rw[h,GB]) r c;have b:=gsub.mp (show grp rows q&&& grp rows p=grp rows p by rw[h,GB]) r c;exact cA.mpr ⟨b,a⟩
 ·intro h
  apply rK
  intro i;rw[oh,oh];cases e:rows.reverse[i]? with
  |none=>rfl
  |some r=>exact h r (jt.mp (aC e))
theorem gnz:grp rows p≠0↔∃r∈rows,bt rows p r=true:=by
 constructor
 ·intro h
  apply aI
  intro a;apply h;apply rK;intro i;rw[oh,Nat.zero_testBit];cases e:rows.reverse[i]? with
  |none=>rfl
  |some r=>
   cases b:bt rows p r with
   |false=>exact b
   |true=>exact absurd ⟨r,jt.mp (aC e),b⟩ a
 ·rintro⟨r,c,h⟩ z
  obtain⟨i,hi⟩:=cu.mp (jt.mpr c);have :=oh (rows:=rows) p i;rw[hi,z,Nat.zero_testBit]at this;rw[show((some r).map (bt rows p)).getD false=bt rows p r from rfl,h]at this;cases this
end
theorem Bc{α:Type}{p q:α->Bool}:∀{l:List α},(∀r∈l,q r=true->p r=true)->∀{x:α},x∈l->p x=true->q x=false->l.countP q<l.countP p
 |a::l,h,x,hx,hp,hq=>by
  rw[List.countP_cons,List.countP_cons];have c:=h a aL;have b:∀r∈l,q r=true->p r=true:=fun r d=>h r (aO _ d);rcases aE.mp hx with rfl|hx
  ·have :=List.countP_mono_left b
   rw[hp,hq,if_pos rfl,if_neg (by decide)];lia
  ·have :=Bc b hx hp hq
   cases e:q a with
   |true=>rw[c e];lia
   |false=>rw[if_neg (by decide)];lia
structure Tbl(rows:List (List Int))(n:Nat):Prop where
 ok:∀r∈rows,M6.Ok n r
 ne:rows≠[]
 mis:∀i j,i<j->j<n->M6.Mis rows i j
section
variable {rows:List (List Int)}{n:Nat}
theorem Tbl.first(t:Tbl rows n):rows.getD 0 []∈rows:=by
 cases rows with
 |nil=>exact absurd rfl t.ne
 |cons a r=>exact aL
theorem Tbl.f01(t:Tbl rows n)(p:Nat):fr rows p=0\/fr rows p=1:=(t.ok _ t.first).at p
theorem Tbl.mis'(t:Tbl rows n)(h:i≠j)(hi:i<n)(a:j<n):M6.Mis rows i j:=by
 rcases Nat.lt_or_gt_of_ne h with h|h
 ·exact t.mis i j h a
 ·exact(t.mis j i h hi).flip
theorem neq{x f:Int}(a:x=0\/x=1)(hf:f=0\/f=1):x≠f↔x=1-f:=by
 rcases a with rfl|rfl<;>rcases hf with rfl|rfl<;>decide
theorem Tbl.turn(t:Tbl rows n)(a:r∈rows):bt rows p r=true↔r.getD p 0=1-fr rows p:=by
 rw[kJ];exact neq ((t.ok r a).at p) (t.f01 p)
theorem Tbl.oV(t:Tbl rows n):bt rows p r=false↔r.getD p 0=fr rows p:=by
 unfold bt;simp
theorem two{x y z:Int}(a:x=0\/x=1)(b:y=0\/y=1)(hz:z=0\/z=1)(h:x≠y):x=z\/y=z:=by
 rcases a with rfl|rfl<;>rcases b with rfl|rfl<;>rcases hz with rfl|rfl<;>first |exact absurd rfl h|decide
theorem two1{x z:Int}(a:x=0\/x=1)(hz:z=0\/z=1):x=z\/1-x=z:=by
 rcases a with rfl|rfl<;>rcases hz with rfl|rfl<;>decide
theorem eqb{x y f:Int}(a:x=0\/x=1)(b:y=0\/y=1)(hf:f=0\/f=1):x=y↔(x≠f↔y≠f):=by
 rcases a with rfl|rfl<;>rcases b with rfl|rfl<;>rcases hf with rfl|rfl<;>decide
theorem Tbl.nest(t:Tbl rows n)(hp:p<n)(hq:q<n)(d:r∈rows)(l:bt rows p r=true)(m:bt rows q r=true):(∀r∈rows,bt rows p r=true->bt rows q r=true)\/∀r∈rows,bt rows q r=true->bt rows p r=true:=by
 by_cases hpq:p=q
 ·exact .inl fun r _ h=>hpq▸h
 apply aI
 intro h;rw[not_or]at h;obtain⟨e,h1⟩:=gd.mp h.1;obtain⟨f,h2⟩:=gd.mp h.2;have h1:e∈rows/\bt rows p e=true/\¬bt rows q e=true:=by
  apply aI;intro z;apply h1;intro a b
  apply aI;intro c;exact z ⟨a,b,c⟩
 have h2:f∈rows/\bt rows q f=true/\¬bt rows p f=true:=by
  apply aI;intro z;apply h2;intro a b
  apply aI;intro c;exact z ⟨a,b,c⟩
 obtain⟨a,b,v,w,k⟩:=t.mis' hpq hp hq;have s:=t.f01 p;have u:=t.f01 q;have o:=k _ t.first;have j:=k _ d;have g:=k _ h1.1;have i:=k _ h2.1;rw[(t.turn d).mp l,(t.turn d).mp m]at j;rw[(t.turn h1.1).mp h1.2.1,t.oV.mp (i9.mpr h1.2.2)]at g;rw[(t.turn h2.1).mp h2.2.1,t.oV.mp (i9.mpr h2.2.2)]at i;rcases two1 s v with x|x<;>rcases two1 u w with y|y
 ·exact o ⟨x,y⟩
 ·exact i ⟨x,y⟩
 ·exact g ⟨x,y⟩
 ·exact j ⟨x,y⟩
theorem gQ{f:Nat->Int}{P:Nat->Bool}(h:i<n):(M4.bl f n P).getD i 0=if P i=true then 1-f i else f i:=M5.EG h
theorem Eo{u:List Int}(a:u.length=n)(b:v.length=n)(h:∀i,i<n->u.getD i 0=v.getD i 0):u=v:=by
 apply bA (a.trans b.symm)
 intro i h1 h2;have :=h i (by lia)
 rwa [ae,ae,aa h1,aa h2]at this
theorem EF(t:Tbl rows n)(P:Nat->Bool):M6.Ok n (M4.bl (fr rows) n P):=⟨M4.hV _ _ _,fun x a=>by
 obtain⟨i,_,rfl⟩:=ax.mp a;have :=t.f01 i;split <;>lia⟩
noncomputable def below(rows:List (List Int))(n p:Nat):List Int:=M4.bl (fr rows) n (M4.sub (grp rows) (grp rows p))
theorem iC:M4.sub (grp rows) (grp rows p) q=true↔∀r∈rows,bt rows p r=true->bt rows q r=true:=by
 unfold M4.sub;rw[decide_eq_true_eq];exact gsub
theorem pZ(t:Tbl rows n)(hz:grp rows p≠0):Fits rows n (below rows n p):=by
 refine⟨EF t _,fun i j hi e=>?_⟩;unfold below;rw[gQ hi,gQ e];have pick:∀{i j:Nat},M4.sub (grp rows) (grp rows p) i=true->M4.sub (grp rows) (grp rows p) j=false->∃r∈rows,r.getD i 0=1-fr rows i/\r.getD j 0=fr rows j:=fun{i j} a b=>by
  have b:¬∀r∈rows,bt rows p r=true->bt rows j r=true:=fun z=>by rw[iC.mpr z]at b;cases b
  obtain⟨r,h⟩:=gd.mp b;have h:r∈rows/\bt rows p r=true/\¬bt rows j r=true:=by
   apply aI;intro z;apply h;intro a b
   apply aI;intro c;exact z ⟨a,b,c⟩
  exact⟨r,h.1,(t.turn h.1).mp (iC.mp a r h.1 h.2.1),t.oV.mp (i9.mpr h.2.2)⟩
 cases a:M4.sub (grp rows) (grp rows p) i with
 |true=>
  cases b:M4.sub (grp rows) (grp rows p) j with
  |true=>
   obtain⟨r,d,h⟩:=gnz.mp hz;exact⟨r,d,(t.turn d).mp (iC.mp a r d h),(t.turn d).mp (iC.mp b r d h)⟩
  |false=>exact pick a b
 |false=>
  cases b:M4.sub (grp rows) (grp rows p) j with
  |true=>
   obtain⟨r,d,h1,h2⟩:=pick b a;exact⟨r,d,h2,h1⟩
  |false=>exact⟨_,t.first,rfl,rfl⟩
theorem CW(t:Tbl rows n):Fits rows n (M4.bl (fr rows) n fun _=>false):=by
 refine⟨EF t _,fun i j hi a=>⟨_,t.first,?_⟩⟩;rw[gQ hi,gQ a];exact⟨rfl,rfl⟩
theorem DQ(t:Tbl rows n)(h:Fits rows n v):v=M4.bl (fr rows) n (fun _=>false)\/∃p,p<n/\grp rows p≠0/\v=below rows n p:=by
 by_cases hS:∀p,p<n->v.getD p 0=fr rows p
 ·left
  exact Eo h.1.1 (M4.hV _ _ _) fun i hi=>by rw[gQ hi];exact hS i hi
 ·right
  have ex:∃m p,p<n/\v.getD p 0≠fr rows p/\rows.countP (bt rows p)=m:=by
   obtain⟨p,hp⟩:=gd.mp hS;obtain⟨hp,c⟩:=rL.mp hp;exact⟨_,p,hp,c,rfl⟩
  obtain⟨m,⟨p,hp,c,l⟩,w⟩:∃m,(∃p,p<n/\v.getD p 0≠fr rows p/\rows.countP (bt rows p)=m)/\∀k,k<m->¬∃p,p<n/\v.getD p 0≠fr rows p/\rows.countP (bt rows p)=k:=by
   obtain⟨m,l⟩:=ex
   induction m using kc with
   |_ m ih=>
    by_cases d:∃k,k<m/\∃p,p<n/\v.getD p 0≠fr rows p/\rows.countP (bt rows p)=k
    ·obtain⟨k,d,h⟩:=d
     exact ih k d h
    ·exact⟨m,l,fun k u s=>d ⟨k,u,s⟩⟩
  have A:=fun i=>h.1.at i;have f:∀{r:List Int}{i:Nat},r∈rows->r.getD i 0=v.getD i 0->v.getD i 0≠fr rows i->bt rows i r=true:=fun a e x=>kJ.mpr (by rw[e];exact x);refine⟨p,hp,gnz.mpr ?_,?_⟩
  ·obtain⟨r,a,e,_⟩:=h.2 p p hp hp
   exact⟨r,a,f a e c⟩
  ·refine Eo h.1.1 (M4.hV _ _ _) fun q hq=>?_
   unfold below;rw[gQ hq];by_cases hqv:v.getD q 0=fr rows q
   ·rw[if_neg,hqv]
    rw[iC];intro hs;obtain⟨r,a,g,j⟩:=h.2 p q hp hq;exact kJ.mp (hs r a (f a g c)) (j.trans hqv)
   ·rw[if_pos,(neq (A q) (t.f01 q)).mp hqv]
    rw[iC];obtain⟨r,a,g,j⟩:=h.2 p q hp hq;rcases t.nest hp hq a (f a g c) (f a j hqv)with hs|hs
    ·exact hs
    ·intro z y o
     cases b:bt rows q z with
     |true=>rfl
     |false=>
      exfalso
      refine w _ ?_ ⟨q,hq,hqv,rfl⟩;rw[<-l];exact Bc hs y o b
def Cls(rows:List (List Int))(p q:Nat):Prop:=∀r∈rows,∀s∈rows,r.getD p 0=s.getD p 0↔r.getD q 0=s.getD q 0
theorem Tbl.cls(t:Tbl rows n):grp rows p=grp rows q↔Cls rows p q:=by
 rw[geq];constructor
 ·intro h r c s d
  have a:=h r c;have b:=h s d;rw[cA,kJ,kJ]at a b;rw[eqb ((t.ok r c).at p) ((t.ok s d).at p) (t.f01 p),eqb ((t.ok r c).at q) ((t.ok s d).at q) (t.f01 q),a,b]
 ·intro h r c
  rw[cA,kJ,kJ];exact not_congr (h r c _ t.first)
structure End(rows:List (List Int))(n p:Nat)(v:List Int):Prop where
 ok:M6.Ok n v
 own:∀q,q<n->Cls rows p q->∃r∈rows,r.getD p 0=v.getD p 0/\r.getD q 0=v.getD q 0
 off:∀q,q<n->¬Cls rows p q->∃r∈rows,∃s∈rows,r.getD p 0≠s.getD p 0/\r.getD q 0=v.getD q 0/\s.getD q 0=v.getD q 0
theorem End.one(t:Tbl rows n)(hp:p<n){w:List Int}(a:End rows n p v)(b:End rows n p w)(e:v.getD p 0=w.getD p 0):v=w:=by
 refine Eo a.ok.1 b.ok.1 fun q hq=>?_;by_cases c:Cls rows p q
 ·obtain⟨r,d,g,i⟩:=a.own q hq c
  obtain⟨s,f,j,N⟩:=b.own q hq c;rw[<-i,<-N];exact(c r d s f).mp (by rw[g,j,e])
 ·apply aI
  intro O;have P:p≠q:=fun z=>c (by rw[z];exact fun _ _ _ _=>Iff.rfl);obtain⟨r,d,s,f,g,i,j⟩:=a.off q hq c;obtain⟨D,l,s',m,K,L,M⟩:=b.off q hq c;obtain⟨x,y,o,Q,k⟩:=t.mis' P hp hq;have u:=k r d;have A:=k s f;have B:=k D l;have C:=k s' m;have E:=(t.ok r d).at p;have F:=(t.ok s f).at p;have G:=(t.ok D l).at p;have H:=(t.ok s' m).at p;have I:=a.ok.at q;have J:=b.ok.at q;rw[i]at u;rw[j]at A;rw[L]at B;rw[M]at C;have h1:=two E F o g;have h2:=two G H o K;have h3:=two I J Q O;rcases h3 with h3|h3
  ·rcases h1 with h|h
   ·exact u ⟨h,h3⟩
   ·exact A ⟨h,h3⟩
  ·rcases h2 with h|h
   ·exact B ⟨h,h3⟩
   ·exact C ⟨h,h3⟩
noncomputable def gI(rows:List (List Int))(n p:Nat):List Int:=M4.bl (fr rows) n (M4.above (grp rows) (grp rows p))
theorem sJ:M4.above (grp rows) (grp rows p) q=true↔M4.sub (grp rows) (grp rows p) q=true/\grp rows q≠grp rows p:=by
 unfold M4.above M4.sub;rw[decide_eq_true_eq,decide_eq_true_eq]
theorem sub_self:M4.sub (grp rows) (grp rows p) p=true:=iC.mpr fun _ _ h=>h
theorem uB(hp:p<n):(below rows n p).getD p 0=1-fr rows p:=by
 unfold below;rw[gQ hp,if_pos sub_self]
theorem zQ(hp:p<n):(gI rows n p).getD p 0=fr rows p:=by
 unfold gI;rw[gQ hp,if_neg fun h=>(sJ.mp h).2 rfl]
theorem vV(t:Tbl rows n)(hz:grp rows p≠0)(c:¬Cls rows p q):∃r∈rows,∃s∈rows,r.getD p 0≠s.getD p 0/\(r.getD q 0=if M4.sub (grp rows) (grp rows p) q=true then 1-fr rows q else fr rows q)/\s.getD q 0=if M4.sub (grp rows) (grp rows p) q=true then 1-fr rows q else fr rows q:=by
 have f:∀{a b:Nat},(¬∀r∈rows,bt rows a r=true->bt rows b r=true)->∃r∈rows,bt rows a r=true/\bt rows b r=false:=fun{a b} h=>by
  obtain⟨r,h⟩:=gd.mp h;obtain⟨h1,h⟩:=rL.mp h;obtain⟨h2,h⟩:=rL.mp h;exact⟨r,h1,h2,i9.mpr h⟩
 have f01:=t.f01 p;cases a:M4.sub (grp rows) (grp rows p) q with
 |true=>
  obtain⟨r,d,h⟩:=gnz.mp hz;have e:¬∀r∈rows,bt rows q r=true->bt rows p r=true:=fun z=>c (t.cls.mp (geq.mpr fun r d=>cA.mpr ⟨iC.mp a r d,z r d⟩));obtain⟨s,e,h1,h2⟩:=f e;rw[if_pos rfl];exact⟨r,d,s,e,by rw[(t.turn d).mp h,t.oV.mp h2];lia,(t.turn d).mp (iC.mp a r d h),(t.turn e).mp h1⟩
 |false=>
  obtain⟨r,d,h1,h2⟩:=f fun z=>by rw[iC.mpr z]at a;cases a
  rw[if_neg (by decide)];exact⟨r,d,_,t.first,by rw[(t.turn d).mp h1];show _≠fr rows p;lia,t.oV.mp h2,rfl⟩
theorem iV(t:Tbl rows n)(hp:p<n)(hz:grp rows p≠0):End rows n p (below rows n p):=by
 refine⟨EF t _,fun q hq c=>?_,fun q hq c=>?_⟩
 ·obtain⟨r,a,h⟩:=gnz.mp hz
  have e:=geq.mp (t.cls.mpr c);refine⟨r,a,?_,?_⟩
  ·rw[uB hp];exact(t.turn a).mp h
  ·unfold below
   rw[gQ hq,if_pos (iC.mpr fun s d b=>by rw[<-e s d];exact b)];exact(t.turn a).mp (by rw[<-e r a];exact h)
 ·have :=vV t hz c
  unfold below;rw[gQ hq];exact this
theorem ll(t:Tbl rows n)(hp:p<n)(hz:grp rows p≠0):End rows n p (gI rows n p):=by
 refine⟨EF t _,fun q hq c=>⟨_,t.first,?_,?_⟩,fun q hq c=>?_⟩
 ·rw[zQ hp];rfl
 ·unfold gI
  rw[gQ hq,if_neg fun h=>(sJ.mp h).2 (t.cls.mpr c).symm];rfl
 ·have :=vV t hz c
  unfold gI;rw[gQ hq];have e:(M4.above (grp rows) (grp rows p) q=true)↔(M4.sub (grp rows) (grp rows p) q=true):=by
   rw[sJ];exact⟨fun h=>h.1,fun h=>⟨h,fun z=>c (t.cls.mp z.symm)⟩⟩
  simp only[e];exact this
theorem qQ(t:Tbl rows n)(hp:p<n):gI rows n p≠below rows n p:=fun h=>by
 have a:=zQ (rows:=rows) hp;have b:=uB (rows:=rows) hp;have :=t.f01 p;rw[h,b]at a;lia
theorem D5{a b:List Int}(h:a≠b):M4.lo a b=M4.lo b a:=by
 unfold M4.lo;rw[Q.iH h];cases Q.llt b a<;>rfl
theorem Ee{a b:List Int}(h:a≠b):M4.hi a b=M4.hi b a:=by
 unfold M4.hi;rw[Q.iH h];cases Q.llt b a<;>rfl
theorem Bb(t:Tbl rows n)(hp:p<n)(hz:grp rows p≠0){u:List Int}(c:End rows n p u)(d:End rows n p v)(k:u≠v):M4.lo (gI rows n p) (below rows n p)=M4.lo u v/\M4.hi (gI rows n p) (below rows n p)=M4.hi u v:=by
 have a:=ll t hp hz;have b:=iV t hp hz;have g:=zQ (rows:=rows) hp;have h:=uB (rows:=rows) hp;have f:=t.f01 p;have u1:=c.ok.at p;have j:=d.ok.at p;have i:u.getD p 0≠v.getD p 0:=fun z=>k (c.one t hp d z);by_cases e:u.getD p 0=fr rows p
 ·have x:=c.one t hp a (by rw[g];exact e)
  have y:=d.one t hp b (by rw[h];exact(neq j f).mp fun z=>i (e.trans z.symm));rw[x,y];exact⟨rfl,rfl⟩
 ·have x:=c.one t hp b (by rw[h];exact(neq u1 f).mp e)
  have y:=d.one t hp a (by rw[g];exact(two u1 j f i).resolve_left e);rw[x,y];exact⟨D5 (qQ t hp),Ee (qQ t hp)⟩
end
end M7
namespace K32
open PySem PySem.Spec PyProof.Rows L2 R Cp Lt Kc K21 K22 Lm M3 M4 M5
theorem A4{J:It}{it:Nat->V->Hp->Prop}{k:Hp->Prop}{g:TG}{tb:TS}{D:Ends}(S:tT J n it k)(e:Nat->L2.St->Hp->Prop)(h0:e 0 σ H)(m:∀i σ H,i<=n->e i σ H->k H)
  (o:∀i x σ H H' (j:Ends),i<n->e i σ H->it i x H'->aM H H'->(∀f H2,e (i+1) f H2->j.nx f H2)->(∀f H2,e (i+1) f H2->j.ct f H2)->g x σ H' fun f H2=>tb j f H2)(l:∀σ H,e n σ H->D.nx σ H):ForB J g tb D σ H:=
 Ej S e h0 m (fun i x σ H H' a b c d=>o i x σ H H' _ a b c d (fun _ _ h=>h) (fun _ _ h=>h)) l
theorem An:tT (Itr 0 n) (nats n).length (fun i x _=>(nats n)[i]? =some x) (fun _=>True) where
 go:=fun i H h hi=>dg.go i H h (by simpa[nats]using hi)
 stop:=fun i H h hi=>dg.stop i H h (by simpa[nats]using hi)
 yld:=fun i H x H' h hi y=>by
  have a:i<n:=by simpa[nats]using hi
  obtain⟨e,s⟩:=dg.yld i H x H' h a y;refine⟨?_,s⟩;subst e;unfold nats;rw[av,bJ a,eE];rfl
theorem FG{t:V->Bool}{P:Nat->Bool}(h:∀p,p<n->t (.int p)=P p):((nats n).filter t).map id=(plc n P).map V.int:=by
 unfold nats plc;rw[dB,fS,bf];rw[show(aA n).filter (t∘fun i:Nat=>V.int (i:Int))=(aA n).filter P from mw fun p hp=>h p (aQ.mp hp)];rfl
theorem Paired.snoc{α c:Type}{F:α->c->Prop}{a:α}{b:c}(h:F a b){l:List α}{m:List c}(p:Paired F l m):Paired F (l++[a]) (m++[b]):=by
 induction p with
 |nil=>exact .cons h .nil
 |cons x r ih=>exact .cons x ih
def Tk(H H':Hp):Prop:=∀a xs,H a=some (.tup xs)->H' a=some (.tup xs)
theorem Tk.of(s:aM H H'):Tk H H':=fun a _ e=>s a _ e
theorem r6(h:H a=some (.lst xs)):Tk H (upd H a (.lst ys)):=fun b _ e=>by
 rw[bo (fun z=>by rw[z,h]at e;cases e)];exact e
theorem dR(t:Tk H H')(h:_root_.Q.IntKeys H ys ps):_root_.Q.IntKeys H' ys ps:=Paired.gh h fun v k z=>by
 obtain⟨a,e,f⟩:=z;exact⟨a,e,t _ _ f⟩
def BrOf(f:Nat->Int)(n:Nat)(g:Nat->Nat)(H:Hp)(v:V)(q:Int):Prop:=∃a x y z,v=V.ref a/\H a=some (.tup [.ref x,.ref y,.ref z])/\H x=some (.tup ((lo (nA f n g q) (nB f n g q)).map V.int))/\H y=some (.tup ((hi (nA f n g q) (nB f n g q)).map V.int))/\H z=some (.tup ((plc n (own g q.toNat)).map V.int))
def mi(f:Nat->Int)(n:Nat)(g:Nat->Nat)(H:Hp)(bs:List V)(qs:List Int):Prop:=Paired (BrOf f n g H) bs qs
theorem mi.tk{f:Nat->Int}{g:Nat->Nat}(t:Tk H H'){bs:List V}(h:mi f n g H bs qs):mi f n g H' bs qs:=Paired.gh h fun v k w=>by
 obtain⟨a,x,y,z,e,b,c,d,i⟩:=w;exact⟨a,x,y,z,e,t _ _ b,t _ _ c,t _ _ d,t _ _ i⟩
theorem mi.two{f:Nat->Int}{g:Nat->Nat}{bs:List V}(h:mi f n g H bs qs):_root_.Q.jg H bs (brK f n g qs):=by
 unfold mi at h
 induction h with
 |nil=>exact .nil
 |cons x r ih=>
  obtain⟨a,x,y,z,e,b,c,d,_⟩:=x;exact .cons ⟨a,x,y,_,e,b,c,d⟩ ih
theorem eP{α a:Type}{F:α->a->Prop}{l:List α}{m:List a}(h:Paired F l m):m.length=l.length:=by
 induction h with
 |nil=>rfl
 |cons _ _ ih=>simp[ih]
noncomputable def gsI(rows:List (List Int))(n:Nat):List Int:=(aA n).map fun p:Nat=>(grp rows p:Int)
theorem zv:(gsI rows n).length=n:=by simp[gsI]
theorem Jd(h:p<n):(gsI rows n).getD p 0=(grp rows p:Int):=by
 unfold gsI;rw[ae,av,bJ h];rfl
noncomputable def dn(qs:List Int)(k:Nat):List Int:=(qs.take k).filter fun q=> !decide (q=0)
theorem dn_zero(h:qs[k]? =some 0):dn qs (k+1)=dn qs k:=by
 unfold dn;rw[cg,h,kR];simp
theorem Es{q:Int}(h:qs[k]? =some q)(a:q≠0):dn qs (k+1)=dn qs k++[q]:=by
 unfold dn;rw[cg,h,kR];simp[a]
theorem Jt{g:Nat->Nat}(h:Grs n g qs):Grs n g (dn qs k):=by
 have s:(dn qs k).Sublist qs:=ke.trans (uG k qs);exact⟨h.1.sublist s,fun q hq=>h.2 q (s.subset hq)⟩
theorem Js{g:Nat->Nat}(h:Grs n g qs):(dn qs k).length<=n:=uy (Jt h)
structure Fx(H:Hp)(gl nd br so:Addr):Prop where
 fnd:H nd=none
 fbr:H br=none
 n1:nd≠br
 n2:nd≠gl
 n3:nd≠so
 n4:br≠gl
 n5:br≠so
structure Gx(rows:List (List Int))(n:Nat)(qs:List Int)(H:Hp)(gl nd br so:Addr)(ds:List Int)(ks bs:List V)(H':Hp):Prop where
 s:aM H H'
 eg:H' gl=some (.lst ((gsI rows n).map V.int))
 eo:H' so=some (.lst (qs.map V.int))
 en:H' nd=some (.lst ks)
 eb:H' br=some (.lst bs)
 nk:_root_.Q.IntKeys H' ks (eU (fr rows) n (grp rows) ds)
 bk:mi (fr rows) n (grp rows) H' bs ds
section
variable {rows:List (List Int)}{n:Nat}{qs:List Int}{H:Hp}{gl nd br so c r0:Addr}{ds:List Int}{ks bs:List V}{H':Hp}{G:Gam}{K:ah}{E:XS}{D:Ends}
theorem Gx.same{H2:Hp}(g:Gx rows n qs H gl nd br so ds ks bs H')(s:aM H' H2):Gx rows n qs H gl nd br so ds ks bs H2:=
 ⟨g.s.trans s,s _ _ g.eg,s _ _ g.eo,s _ _ g.en,s _ _ g.eb,dR (Tk.of s) g.nk,g.bk.tk (Tk.of s)⟩
theorem Gx.ksl(g:Gx rows n qs H gl nd br so ds ks bs H'):ks.length=ds.length+1:=by
 have :=eP g.nk
 simpa[eU]using this.symm
theorem Gx.bsl(g:Gx rows n qs H gl nd br so ds ks bs H'):bs.length=ds.length:=(eP g.bk).symm
def Gv(rows:List (List Int))(n:Nat)(qs:List Int)(H:Hp)(c r0 gl nd br so:Addr)(k:Nat)(σ:L2.St)(H':Hp):Prop:=
 (∃ks bs,Gx rows n qs H gl nd br so (dn qs k) ks bs H')/\∃u v w x y,σ=[some (.ref c),some (.ref r0),some (.ref gl),some (.ref nd),some (.ref br),u,v,w,x,y]
theorem Cv{f:Nat->Int}{g:Nat->Nat}{q:Int}:eU f n g (ds++[q])=eU f n g ds++[nB f n g q]:=by simp[eU]
theorem pick{p:Prop}[Decidable p]{x y:Addr}{A B:List Int}(a:H x=some (.tup (A.map V.int)))(b:H y=some (.tup (B.map V.int))):∃z,(if p then V.ref y else V.ref x)=V.ref z/\H z=some (.tup ((if p then B else A).map V.int)):=by
 split
 ·exact⟨y,rfl,b⟩
 ·exact⟨x,rfl,a⟩
theorem yq(F:Fx H gl nd br so)(Q:n<=60)(hq:Grs n (grp rows) qs){q:Int}(I:qs[k]? =some q)(h0:q≠0)(C:∀u H2,Gv rows n qs H c r0 gl nd br so (k+1) u H2->D.nx u H2)
  (s:aM H H')(v:H' gl=some (.lst ((gsI rows n).map V.int)))(A:H' so=some (.lst (qs.map V.int)))(w:H' nd=some (.lst ks))(m:H' br=some (.lst bs))(N:_root_.Q.IntKeys H' ks (eU (fr rows) n (grp rows) (dn qs (k+1))))(bk:mi (fr rows) n (grp rows) H' bs (dn qs k))
  (ep:H' pl=some (.lst ((plc n (own (grp rows) q.toNat)).map V.int)))(g:H' be=some (.tup ((nB (fr rows) n (grp rows) q).map V.int)))(f:H' ab=some (.tup ((nA (fr rows) n (grp rows) q).map V.int))):
  wpB G K E nV D [some (.ref c),some (.ref r0),some (.ref gl),some (.ref nd),some (.ref br),some (.int q),some (.ref pl),some (.ref ar),some (.ref be),some (.ref ab)] H':=by
 have P:(dn qs k).length<=n:=Js hq;have O:=eP bk;unfold nV;walk_at "wp";have t:(nA (fr rows) n (grp rows) q).length=(nB (fr rows) n (grp rows) q).length:=(hV _ _ _).trans (hV _ _ _).symm;obtain⟨x,ex,J⟩:=pick (p:=_root_.Q.llt (nB (fr rows) n (grp rows) q) (nA (fr rows) n (grp rows) q)=true) f g;obtain⟨y,B,L⟩:=pick (p:=_root_.Q.llt (nA (fr rows) n (grp rows) q) (nB (fr rows) n (grp rows) q)=true) f g;refine⟨.inl ⟨rfl,_,SqL.of m⟩,ab,be,_,_,rfl,SqT.of f,SqT.of g,t,ab,be,_,_,rfl,SqT.of f,SqT.of g,t,?_⟩;rw[ex,B];refine⟨pl,_,rfl,.inl ⟨SqL.of ep,fun z M=>⟨short (by simp),fun a r=>?_⟩⟩⟩;have d:aM H' (upd (upd H' z (.tup ((plc n (own (grp rows) q.toNat)).map V.int))) a (.tup [.ref x,.ref y,.ref z])):=(aq M).trans (aq r);have j:upd (upd H' z (.tup ((plc n (own (grp rows) q.toNat)).map V.int))) a (.tup [.ref x,.ref y,.ref z]) a=some (.tup [.ref x,.ref y,.ref z]):=ao;have l:upd (upd H' z (.tup ((plc n (own (grp rows) q.toNat)).map V.int))) a (.tup [.ref x,.ref y,.ref z]) z=some (.tup ((plc n (own (grp rows) q.toNat)).map V.int)):=aq r _ _ ao;generalize upd (upd H' z (.tup ((plc n (own (grp rows) q.toNat)).map V.int))) a (.tup [.ref x,.ref y,.ref z])=H1 at d j l⊢;have o:=d _ _ m;refine⟨br,bs,_,rfl,rfl,o,vJ (by lia),C _ _ ⟨⟨ks,bs++[.ref a],?_⟩,_,_,_,_,_,rfl⟩⟩;have i:Tk H1 (upd H1 br (.lst (bs++[V.ref a]))):=r6 o;have h:Tk H' (upd H1 br (.lst (bs++[V.ref a]))):=fun b xs e=>i b xs (d _ _ e);refine⟨dW (s.trans d) F.fbr,?_,?_,?_,ao,dR h N,?_⟩
 ·rw[bo (bS F.n4)];exact d _ _ v
 ·rw[bo (bS F.n5)];exact d _ _ A
 ·rw[bo F.n1];exact d _ _ w
 ·rw[Es I h0]
  exact Paired.snoc ⟨a,x,y,z,rfl,i _ _ j,h _ _ J,h _ _ L,i _ _ l⟩ (bk.tk h)
theorem yr(F:Fx H gl nd br so)(i:n<=60)(hq:Grs n (grp rows) qs){q:Int}(d:qs[k]? =some q)(h0:q≠0)(h:∀e H2,Gv rows n qs H c r0 gl nd br so (k+1) e H2->D.nx e H2)
  (g:Gx rows n qs H gl nd br so (dn qs k) ks bs H')(np:pl≠nd)(ep:H' pl=some (.lst ((plc n (own (grp rows) q.toNat)).map V.int)))(b:H' be=some (.tup ((nB (fr rows) n (grp rows) q).map V.int)))(f:H' ab=some (.tup ((nA (fr rows) n (grp rows) q).map V.int))):
  wpB G K E nW D [some (.ref c),some (.ref r0),some (.ref gl),some (.ref nd),some (.ref br),some (.int q),some (.ref pl),some (.ref ar),some (.ref be),some (.ref ab)] H':=by
 have j:(dn qs k).length<=n:=Js hq;have l:=g.ksl;unfold nW;walk_at "wp";refine⟨.inl ⟨rfl,_,SqL.of g.en⟩,nd,ks,_,rfl,rfl,g.en,vJ (by lia),?_⟩;have a:Tk H' (upd H' nd (.lst (ks++[V.ref be]))):=r6 g.en;refine yq F i hq d h0 h (dW g.s F.fnd) ?_ ?_ ao ?_ ?_ (g.bk.tk a) ?_ (a _ _ b) (a _ _ f)
 ·rw[bo (bS F.n2)];exact g.eg
 ·rw[bo (bS F.n3)];exact g.eo
 ·rw[bo (bS F.n1)];exact g.eb
 ·rw[Es d h0,Cv]
  exact Paired.snoc ⟨be,rfl,a _ _ b⟩ (dR a g.nk)
 ·rw[bo np];exact ep
theorem td{P:Nat->Bool}{q:Int}{Q:VK}{tc:TT}(m:H1 gl=some (.lst ((gsI rows n).map V.int)))(o:n<=60)
  (step:∀(p:Nat)(u:Option V)(a:Hp)(R:Bool->Hp->Prop),p<n->aM H1 a->R (P p) a->tc [some (.int p),some (.int q),some (.ref gl)] a R)
  (d:∀H2 l,aM H1 H2->H2 l=none->Q (.ref l) (upd H2 l (.lst ((plc n P).map V.int)))):
  BD (Itr 0 n) (km 0) tc (j3 0) [none,some (.int q),some (.ref gl)] H1 Q:=by
 refine oF (xs:=nats n) An (dc (by unfold nats;simp;lia)) (fun _ _=>trivial) (fun v=>match v with |.int i=>P i.toNat|_=>false) id (fun c=>∃u,c=[u,some (.int q),some (.ref gl)]) ⟨none,rfl⟩ ?_ ?_
 ·rintro x c a k j b ⟨u,rfl⟩ s3 g kf
  unfold nats at b;obtain⟨p,hp,rfl⟩:=ax.mp b;have hp:=aQ.mp hp;refine step p u a _ hp s3 ?_;have e:P ((p:Int)).toNat=P p:=by rw[aJ]
  cases h:P p with
  |true=>
   rw[if_pos rfl];exact⟨_,rfl,g _ _ ⟨_,rfl⟩ (aM.refl _) (e.trans h)⟩
  |false=>
   rw[if_neg ak];exact kf _ _ ⟨_,rfl⟩ (aM.refl _) (e.trans h)
 ·intro H2 l s2 f
  rw[FG (P:=P) fun p hp=>by show P ((p:Int)).toNat=P p;rw[aJ]];exact d H2 l s2 f
theorem yt(e:G.fn "turned" 2=some (mW K,[]))(F:Fx H gl nd br so)(f:n<=60)(r:(rows.getD 0 []).length=n)(s:H r0=some (.tup ((rows.getD 0 []).map V.int)))(hq:Grs n (grp rows) qs){q:Int}(o:qs[k]? =some q)(h0:q≠0)(m:∀h H2,Gv rows n qs H c r0 gl nd br so (k+1) h H2->D.nx h H2){x y:Option V}
  (g:Gx rows n qs H gl nd br so (dn qs k) ks bs H')(np:pl≠nd)(ep:H' pl=some (.lst ((plc n (own (grp rows) q.toNat)).map V.int)))(l:H' ar=some (.lst ((plc n (M4.sub (grp rows) q.toNat)).map V.int))):
  wpB G K E nX D [some (.ref c),some (.ref r0),some (.ref gl),some (.ref nd),some (.ref br),some (.int q),some (.ref pl),some (.ref ar),x,y] H':=by
 unfold nX;walk_at "wp";refine⟨_,_,e,r0,ar,_,_,rfl,SqT.of (g.s _ _ s),SqL.of l,by lia,fun H1 be b _ a=>?_⟩;have i:trn (rows.getD 0 []) (plc n (M4.sub (grp rows) q.toNat))=nB (fr rows) n (grp rows) q:=by
  rw[<-r];exact E2
 rw[i]at a;unfold tG;walk_at "wp";refine⟨_,_,e,be,pl,_,_,rfl,SqT.of a,SqL.of (b _ _ ep),by unfold nB;rw[hV];exact f,fun H2 ab s2 _ d=>?_⟩;have j:trn (nB (fr rows) n (grp rows) q) (plc n (own (grp rows) q.toNat))=nA (fr rows) n (grp rows) q:=by
  unfold nB nA;rw[trn_bl fun p=>own_sub,JQ]
 rw[j]at d;exact yr F f hq o h0 m (g.same (b.trans s2)) np (s2 _ _ (b _ _ ep)) (s2 _ _ a) d
theorem yu(A:G.fn "turned" 2=some (mW K,[]))(F:Fx H gl nd br so)(b:n<=60)(l:(rows.getD 0 []).length=n)(f:H r0=some (.tup ((rows.getD 0 []).map V.int)))(hq:Grs n (grp rows) qs){q:Int}(j:qs[k]? =some q)(h0:q≠0)(B:∀s H2,Gv rows n qs H c r0 gl nd br so (k+1) s H2->D.nx s H2){v w x y:Option V}
  (g:Gx rows n qs H gl nd br so (dn qs k) ks bs H'):
  wpB G K E nY D [some (.ref c),some (.ref r0),some (.ref gl),some (.ref nd),some (.ref br),some (.int q),v,w,x,y] H':=by
 obtain⟨I,C,t⟩:=hq.2 q (aC j);have m:q=(q.toNat:Int):=by rw[t,aJ]
 have o:((rows.getD 0 []).map V.int).length=n:=by rw[ai];exact l
 unfold nY;walk_at "wp";refine cL ?_;walk_at "wp";refine Or.inl ⟨r0,_,rfl,.inr (SqT.of (g.s _ _ f)),_,rfl,by lia,by lia,?_⟩;rw[o,aJ];refine td (rows:=rows) (P:=own (grp rows) q.toNat) g.eg b ?_ ?_
 ·intro p u h R hp s3 a
  walk_at "wp"
  refine .inl ⟨gl,_,p,_,rfl,rfl,SqL.of (s3 _ _ g.eg),cf (gT (by rw[zv];exact hp)),?_⟩;rw[Jd hp];refine jd.mpr ?_;refine⟨_,rfl,?_⟩;have e:decide ((grp rows p:Int)=q)=own (grp rows) q.toNat p:=by
   unfold M5.own;rw[m,aJ];exact decide_eq_decide.mpr (by lia)
  rw[e];exact a
 intro H1 pl r d;have s2:aM H' (upd H1 pl (.lst ((plc n (own (grp rows) q.toNat)).map V.int))):=r.trans (aq d);have ep:upd H1 pl (.lst ((plc n (own (grp rows) q.toNat)).map V.int)) pl=some (.lst ((plc n (own (grp rows) q.toNat)).map V.int)):=ao;have np:pl≠nd:=fun z=>by rw[z,r _ _ g.en]at d;cases d
 have g:=g.same s2;generalize upd H1 pl (.lst ((plc n (own (grp rows) q.toNat)).map V.int))=H2 at ep g⊢;unfold tH;walk_at "wp";refine cL ?_;walk_at "wp";refine Or.inl ⟨r0,_,rfl,.inr (SqT.of (g.s _ _ f)),_,rfl,by lia,by lia,?_⟩;rw[o,aJ];refine td (rows:=rows) (P:=M4.sub (grp rows) q.toNat) g.eg b ?_ ?_
 ·intro p u h R hp s3 a
  walk_at "wp"
  refine .inl ⟨gl,_,p,_,rfl,rfl,SqL.of (s3 _ _ g.eg),cf (gT (by rw[zv];exact hp)),?_⟩;rw[Jd hp];refine and_ii.mpr (jd.mpr ⟨_,rfl,?_⟩);have e:decide (iR (grp rows p:Int) q=q)=M4.sub (grp rows) q.toNat p:=by
   unfold M4.sub;rw[m,and_nat,aJ];exact decide_eq_decide.mpr (by lia)
  rw[e];exact a
 intro h ar s3 i;exact yt A F b l f hq j h0 B (g.same (s3.trans (aq i))) np ((s3.trans (aq i)) _ _ ep) ao
end
def sN(rows:List (List Int))(n:Nat)(H:Hp)(H':Hp)(p:Addr):Prop:=∃(a bl:Addr)(ks bs:List V)(qs:List Int),H' p=some (.tup [.ref a,.ref bl])/\H a=none/\H bl=none/\a≠bl/\Grs n (grp rows) qs/\0∉qs/\(∀p,p<n->grp rows p≠0->(grp rows p:Int)∈qs)/\
 _root_.Q.IntKeys H' ks (eU (fr rows) n (grp rows) qs)/\mi (fr rows) n (grp rows) H' bs qs/\H' a=some (.lst (_root_.Q.ck .non (eU (fr rows) n (grp rows) qs) ks))/\H' bl=some (.lst (_root_.Q.ck .non ((brK (fr rows) n (grp rows) qs).map _root_.Q.j4) bs))
noncomputable def uU:Sp:=fun vs H Q _=>∃(c:Addr)(ys:List V)(n:Nat)(rows:List (List Int)),vs=[.ref c]/\Cps H c ys n rows/\ys≠[]/\∀H' p,aM H H'->H p=none->sN rows n H H' p->Q (.ref p) H'
theorem EY(g1:G.fn "group_at" 2=some (yE,[]))(C:G.fn "turned" 2=some (mW K,[])):Sat G K uU ED DX:=by
 rintro vs H Q E ⟨c,ys,n,rows,rfl,d,hy,q⟩;unfold ED;change wpB G K _ _ _ [some (.ref c),none,none,none,none,none,none,none,none,none] H;walk_at "wp";have h0:0<ys.length:=d9.mpr hy;obtain⟨b,z,r0,e1,e2,N⟩:=d.at_ 0 ys[0] (aa h0);obtain⟨T,hf⟩:=d.row h0;have hf:∀p,p<n->fr rows p=0\/fr rows p=1:=hf;have hn:=d.n60;have a4:((rows.getD 0 []).map V.int).length=n:=by rw[ai];exact T
 have g0:ys[0]? =some (.ref b):=by rw[aa h0,e1]
 refine .inl ⟨c,ys,0,_,rfl,rfl,SqL.of d.ec,cf (j:=0) g0,?_⟩;refine .inr (.inl ⟨b,_,1,_,rfl,rfl,SqT.of e2,rfl,?_⟩);unfold ya;walk_at "wp";refine cL ?_;walk_at "wp";refine Or.inl ⟨r0,_,rfl,.inr (SqT.of N),_,rfl,by lia,by lia,?_⟩;rw[a4,aJ];refine dy dg (dc (by lia)) (fun _ _=>trivial) (fun i v _=>v=.int (grp rows i)) (fun _ _ _ _ _ h=>h) (fun τ=>∃u,τ=[u,some (.ref c)]) ⟨none,rfl⟩ ?_ ?_
 ·rintro i x τ t R hi ⟨u,rfl⟩ s3 rfl k
  walk_at "wp"
  simp only[eE];exact⟨_,_,g1,c,i,ys,n,rows,rfl,d.same s3,hy,by lia,fun A I=>k _ _ _ ⟨_,rfl⟩ I rfl⟩
 intro vs H1 gl b0 hF s1 a3;have ev:vs=(gsI rows n).map V.int:=by
  unfold gsI;apply gA;intro i;rw[av,av];by_cases hi:i<vs.length
  ·rw[aa hi,bJ (by lia),hF i _ (aa hi)]
   rfl
  ·rw[bO (by lia),bO (by rw[aW];lia)]
   rfl
 rw[ev];have s2:aM H (upd H1 gl (.lst ((gsI rows n).map V.int))):=s1.trans (aq a3);have a:upd H1 gl (.lst ((gsI rows n).map V.int)) gl=some (.lst ((gsI rows n).map V.int)):=ao;generalize upd H1 gl (.lst ((gsI rows n).map V.int))=H2 at s2 a⊢;unfold x9;walk_at "wp";refine⟨short (by simp),fun nd M=>?_⟩;have s3:aM H2 (upd H2 nd (.lst [.ref r0])):=aq M;have f:upd H2 nd (.lst [.ref r0]) nd=some (.lst [.ref r0]):=ao;have n2:nd≠gl:=fun z=>by rw[z,a]at M;cases M
 have fnd:H nd=none:=s2.free M;generalize upd H2 nd (.lst [.ref r0])=t at s3 f⊢;unfold x8;walk_at "wp";refine⟨short (by simp),fun br m=>?_⟩;have I:aM t (upd t br (.lst [])):=aq m;have O:upd t br (.lst []) br=some (.lst []):=ao;have n1:nd≠br:=fun z=>by rw[<-z,f]at m;cases m
 have n4:br≠gl:=fun z=>by rw[z,s3 _ _ a]at m;cases m
 have a2:H br=none:=(s2.trans s3).free m;have f:=I _ _ f;have a:=I _ _ (s3 _ _ a);have U:=s2.trans (s3.trans I);generalize upd t br (.lst [])=A at U O f a⊢;unfold x6;walk_at "wp";refine fo ?_;walk_at "wp";refine⟨_,rfl,gl,gsI rows n,rfl,SqL.of a,Few.of (by rw[zv];lia),fun ms so a0 mem F=>?_⟩;obtain⟨qs,eq,pm⟩:=_root_.Q.xw a0;have hq:Grs n (grp rows) qs:=⟨pm.nodup_iff.mpr a0,fun q hq=>by
  have h:=(mem q).mp (pm.mem_iff.mp hq);unfold gsI at h;obtain⟨p,hp,e⟩:=ax.mp h;exact⟨p,aQ.mp hp,e.symm⟩⟩
 rw[eq];have s:aM A (upd A so (.lst (qs.map V.int))):=aq F;have S:upd A so (.lst (qs.map V.int)) so=some (.lst (qs.map V.int)):=ao;have n3:nd≠so:=fun z=>by rw[<-z,f]at F;cases F
 have n5:br≠so:=fun z=>by rw[<-z,O]at F;cases F
 have a1:Fx H gl nd br so:=⟨fnd,a2,n1,n2,n3,n4,n5⟩;generalize upd A so (.lst (qs.map V.int))=H5 at s S⊢;have gx:Gx rows n qs H gl nd br so (dn qs 0) [.ref r0] [] H5:=by
  refine⟨U.trans s,s _ _ a,S,s _ _ f,s _ _ O,?_,.nil⟩;refine .cons ⟨r0,rfl,?_⟩ .nil;have ef:bl (fr rows) n (fun _=>false)=rows.getD 0 []:=by rw[<-T];exact Jl _
  rw[ef];exact(U.trans s) _ _ N
 refine⟨so,rfl,⟨_,SqL.of S⟩,A4 (cK (xs:=qs.map V.int)) (Gv rows n qs H c r0 gl nd br so) ⟨⟨_,_,gx⟩,_,_,_,_,_,rfl⟩ (fun k σ H' _ g=>?_) ?_ ?_⟩
 ·obtain⟨⟨ks,bs,g⟩,_⟩:=g
  exact SqL.of g.eo
 ·rintro k x σ B H7 D2 Y ⟨⟨ks,bs,g⟩,u,v,w,x',y,rfl⟩ hx s7 hD hC
  have g:=g.same s7;rw[ai]at Y;have L:qs[k]? =some qs[k]:=aa Y;rw[av,L]at hx;cases hx;generalize qs[k]=q at L;walk_at "wp";by_cases h0:q=0
  ·rw[decide_eq_true h0,if_pos rfl]
   refine hC _ _ ⟨⟨ks,bs,?_⟩,_,_,_,_,_,rfl⟩;rw[dn_zero (by rw[L,h0])];exact g
  ·rw[decide_eq_false h0,if_neg ak]
   exact yu C a1 hn T N hq L h0 hD g
 ·rintro σ B ⟨⟨ks,bs,g⟩,u,v,w,x',y,rfl⟩
  rw[ai]at g;have D:Grs n (grp rows) (dn qs qs.length):=Jt hq;have X:dn qs qs.length=qs.filter fun q=> !decide (q=0):=by unfold dn;rw[da]
  have z0:(0:Int)∉dn qs qs.length:=fun z=>by
   rw[X]at z;simpa using(a9.mp z).2
  have all:∀p,p<n->grp rows p≠0->(grp rows p:Int)∈dn qs qs.length:=fun p hp h=>by
   rw[X];refine a9.mpr ⟨pm.mem_iff.mpr ((mem _).mpr ?_),?_⟩
   ·unfold gsI
    exact ax.mpr ⟨p,aQ.mpr hp,rfl⟩
   ·have :¬((grp rows p:Int)=0):=by lia
    rw[decide_eq_false this];rfl
  generalize dn qs qs.length=ds at g D z0 all;have a7:ds.length<=n:=uy D;have a8:=g.ksl;have a6:=g.bsl;have b1:=eP g.nk;have a5:=eP g.bk.two;unfold x5;walk_at "wp";refine⟨nd,ks,_,n,rfl,SqL.of g.en,by lia,vA hf D,FF,g.nk,fun r Z=>?_⟩;have t1:aM B (upd B r (.lst (_root_.Q.ck .non (eU (fr rows) n (grp rows) ds) ks))):=aq Z;have P:upd B r (.lst (_root_.Q.ck .non (eU (fr rows) n (grp rows) ds) ks)) r=some (.lst (_root_.Q.ck .non (eU (fr rows) n (grp rows) ds) ks)):=ao;have l:=g.same t1;generalize upd B r (.lst (_root_.Q.ck .non (eU (fr rows) n (grp rows) ds) ks))=H7 at t1 P l⊢;refine⟨br,bs,_,n,rfl,SqL.of l.eb,by lia,C6 hf D,brK_len,l.bk.two,fun bl J=>⟨short (by simp),fun p hp=>?_⟩⟩;have W:=aq (o:=.lst (_root_.Q.ck .non ((brK (fr rows) n (grp rows) ds).map _root_.Q.j4) bs)) J;have t3:=aq (o:=.tup [.ref r,.ref bl]) hp;have C:=l.same (W.trans t3);refine q _ p C.s (((l.s).trans W).free hp) ⟨r,bl,ks,bs,ds,ao,g.s.free Z,l.s.free J,fun z=>by(rw[<-z,P]at J;cases J),D,z0,all,C.nk,C.bk,(W.trans t3) _ _ P,t3 _ _ ao⟩
end K32
namespace K32
open PySem R
noncomputable def p_tree:List Str:=["table"]
noncomputable def Ir:List Str:=["table","copies"]
noncomputable def Bl:CB:=
  (.cons (.ret (.call "grown" (.cons (.var 1) .nil)))
  .nil)
noncomputable def Bn:CB:=
  (.cons (.iff (.cmp .Eq (.bfn .len (.cons (.var 1) .nil)) (.con (.int 0)))
  (.cons (.ret (.tup (.cons (.lst .nil) (.cons (.lst .nil) .nil))))
  .nil)
  .nil)
  Bl)
noncomputable def Bo:CB:=
  (.cons (.expr (.call "refuse_clash" (.cons (.var 1) .nil)))
  Bn)
noncomputable def JL:CB:=
  (.cons (.asg (.name 1) (.call "table_list" (.cons (.var 0) .nil)))
  Bo)
end K32
namespace K32
open PySem PySem.Spec PyProof.Rows L2 R Cp Lt Kc K21 K22 Lm M5
theorem Al{x:V}(e:dE H x=true)(m:H' l=some (.lst zs))(h:zs.map (cd H')=rowsOf H x)(r:dE H' (.ref l)=true):rowsOf H' (.ref l)=rowsOf H x/\srt H' (.ref l)=zs:=by
 have i:d0 (H' l)=some zs:=by rw[m];rfl
 obtain⟨u,z,o,j,v,w,b,y⟩:=eJ r;cases o;rw[i]at j;cases j;obtain⟨a,ys,rfl,h1,h2,s,g,t⟩:=eJ e;have c:∀l:List V,l.filter (fun _=>true)=l:=fun l=>rW.mpr fun _ _=>rfl;have p:(_root_.Q.sortBy V.non (ys.map (aZ H)) ys).map (aZ H)=_root_.Q.sortBy ("":Str) (ys.map (aZ H)) (ys.map (aZ H)):=by
  have :=_root_.Q.sS V.non (aZ H) (fun _=>true) g
  rwa [c,c]at this
 have q:(_root_.Q.sortBy V.non (zs.map (aZ H')) zs).map (aZ H')=_root_.Q.sortBy ("":Str) (zs.map (aZ H')) (zs.map (aZ H')):=by
  have :=_root_.Q.sS V.non (aZ H') (fun _=>true) b
  rwa [c,c]at this
 have n:zs.map (aZ H')=_root_.Q.sortBy ("":Str) (ys.map (aZ H)) (ys.map (aZ H)):=by
  rw[<-p,<-ub h1];have :=congrArg (List.map Prod.fst) h;unfold rowsOf at this;rw[bf,bf]at this;exact this
 have p2:=_root_.Q.fV V.non b (ys:=zs) (by simp);have k:_root_.Q.sortBy V.non (zs.map (aZ H')) zs=zs:=by
  refine vI (FE b) (fun a d=>p2.mem_iff.mp d) (fun a d=>d) ?_;rw[q];refine _root_.Q.kB (_root_.Q.fV ("":Str) b rfl) (_root_.Q.iY b) ?_;rw[n];exact _root_.Q.iY g
 have f:srt H' (.ref l)=zs:=by rw[ub i,k]
 refine⟨?_,f⟩;show(srt H' (.ref l)).map (cd H')=_;rw[f];exact h
noncomputable def intOf:V->Int
 |.int i=>i
 |_=>0
theorem sx(h:∀z∈zs,cI z=true):(zs.map intOf).map V.int=zs/\∀x∈zs.map intOf,x=0\/x=1:=by
 constructor
 ·rw[bf]
  conv =>rhs;rw[<-dB zs]
  refine cO fun z a=>?_;rcases iZ (h z a)with e|e<;>rw[e]<;>rfl
 ·intro x b
  obtain⟨z,a,rfl⟩:=ax.mp b;rcases iZ (h z a)with e|e<;>rw[e]
  ·exact .inl rfl
  ·exact .inr rfl
noncomputable def rI(R:List (Str×List V)):List (List Int):=R.map fun p=>p.2.map intOf
theorem cps_of(d:H l=some (.lst zs))(v:dE H (.ref l)=true):Cps H l zs (count H (.ref l)) (rI (zs.map (cd H))):=by
 have g:d0 (H l)=some zs:=by rw[d];rfl
 obtain⟨x,A,q,m,w,c,z,n⟩:=eJ v;cases q;rw[g]at m;cases m;refine⟨d,w,by simp[rI],?_,fun i y e=>?_,fun r u=>?_⟩
 ·cases zs with
  |nil=>
   show(match d0 (H l)with |some (y::_)=>cz H y|_=>0)<=60;rw[g];exact aR _
  |cons y r=>
   rw[<-n y (.head _)];obtain⟨_,_,_,_,_,_,_,_,s,_,_,t⟩:=hO (c y (.head _));rw[t];exact s
 ·obtain⟨b,r,rfl,h,j,k,a⟩:=mf (c y (aC e))
  refine⟨b,_,r,rfl,h,?_⟩;have o:(rI (zs.map (cd H))).getD i []=(sg H (.ref b)).map intOf:=by
   unfold rI;rw[ae,av,av,e];rfl
  rw[o,(sx a).1];exact j
 ·obtain⟨p,hp,rfl⟩:=ax.mp u
  obtain⟨y,f,rfl⟩:=ax.mp hp;obtain⟨b,r,rfl,h,j,k,a⟩:=mf (c y f);refine⟨?_,(sx a).2⟩;rw[ai,<-n _ f];exact k
theorem gr_free{T:Tb}{p:Addr}(g:Gr T H H')(t:Tab T H')(h:H' p=none):H p=none:=by
 cases e:H p with
 |none=>rfl
 |some o=>
  have hp:p≠T.P:=fun z=>by
   rw[z]at h;rcases t with t|⟨_,_,_,_,_,t,_⟩<;>(rw[h]at t;cases t)
  rw[g.keep p o hp e]at h;cases h
theorem Cps.gr{T:Tb}(d:Cps H c ys n rows)(g:Gr T H H')(a:Tab T H):Cps H' c ys n rows:=
 {d with ec:=g.lst a d.ec,at_:=fun i y e=>let⟨b,z,r,h1,h2,h3⟩:=d.at_ i y e;⟨b,z,r,h1,g.yx a h2,g.yx a h3⟩}
theorem sN.old{a:Hp}{p:Addr}(g:sN rows n H H' p)(f:∀p,H p=none->a p=none):sN rows n a H' p:=by
 obtain⟨d,bl,ks,bs,qs,h1,h2,b,c⟩:=g;exact⟨d,bl,ks,bs,qs,h1,f _ h2,f _ b,c⟩
def TreeK(R:List (Str×List V))(n:Nat)(H H':Hp)(p:Addr):Prop:=
 (R=[]/\∃a b,H' p=some (.tup [.ref a,.ref b])/\H a=none/\H b=none/\a≠b/\H' a=some (.lst [])/\H' b=some (.lst []))\/(R≠[]/\sN (rI R) n H H' p)
end K32
namespace K02
open PySem PySem.Spec PyProof.Rows L2 R Cp Lt Lm
theorem isi_tup{Q:VK}(h:H l=some (.tup xs))(q:Q (.bl true) H):rBf K .isinstance [.ref l,.ty (Ty.t .tuple)] H Q:=by
 refine isi (zq h) .tuple ?_;have e:js (tyName H (.ref l)) (Ty.t .tuple)=true:=by show js (gH (H l)) "tuple"=true;rw[h];rfl
 rw[e];exact q
end K02
namespace K82
open PySem PySem.Spec PyProof.Rows L2 R Cp Lt Lm K02
noncomputable abbrev Row:=Str×List V
end K82
namespace K24
open PySem PySem.Spec PyProof.Rows L2 R Cp Lt Kc K21 K22 Lm
theorem vR{rows:List (Str×List V)}{i j:Int}:qN rows i j=true↔∀u v:Int,(u=0\/u=1)->(v=0\/v=1)->∃r∈rows,FA i r=u/\FA j r=v:=by
 unfold qN;rw[bB];constructor
 ·intro h u v a f
  have d:(u,v)∈KP:=by
   unfold KP;rcases a with rfl|rfl<;>rcases f with rfl|rfl<;>simp
  obtain⟨r,c,e⟩:=b8.mp (h (u,v) d);exact⟨r,c,of_decide_eq_true e⟩
 ·intro h k b
  have a:(k.1=0\/k.1=1)/\(k.2=0\/k.2=1):=by
   unfold KP at b;simp only[aE,cM,or_false]at b;rcases b with rfl|rfl|rfl|rfl<;>simp
  obtain⟨r,c,e⟩:=h k.1 k.2 a.1 a.2;exact b8.mpr ⟨r,c,decide_eq_true e⟩
end K24
namespace K84
open PySem PySem.Spec PyProof.Rows L2 R Cp Lt Kc K21 K22 K24 Lm
theorem ui{α:Type}[DecidableEq α]:∀{l m:List α},l.Nodup->m.Nodup->(∀x,x∈l↔x∈m)->l.Perm m
 | [],m,_,_,h=>by
  cases m with
  |nil=>exact .nil
  |cons x m=>exact nomatch(h x).mpr (.head _)
 |x::l,m,h1,h2,h=>by
  have c:=(h x).mp (.head _);refine .trans (.cons x (ui (bI.mp h1).2 (h2.erase x) fun y=>?_)) (qi c).symm;rw[h2.mem_erase_iff];constructor
  ·intro a
   exact⟨fun e=>(bI.mp h1).1 (e▸a),(h y).mp (.tail _ a)⟩
  ·rintro⟨b,a⟩
   rcases aE.mp ((h y).mpr a)with e|e
   ·exact absurd e b
   ·exact e
end K84
namespace K83
open PySem PySem.Spec PyProof.Rows L2 R Cp Lt Kc K84 Lm
theorem dY{α a:Type}{F:α->a->Prop}{l:List α}{m:List a}(p:Paired F l m):l.length=m.length:=by
 induction p with
 |nil=>rfl
 |cons _ _ ih=>rw[bg,bg,ih]
theorem pr_at{α c:Type}{F:α->c->Prop}{l:List α}{m:List c}(p:Paired F l m):∀{i:Nat}{a:α},l[i]? =some a->∃b,m[i]? =some b/\F a b:=by
 induction p with
 |nil=>intro i a h;cases h
 |cons h _ ih=>
  intro i a e;cases i with
  |zero=>cases e;exact⟨_,rfl,h⟩
  |succ i=>exact ih e
theorem vals_eq{ws:List V}{g:Nat->V}(a:ws.length=n)(h:∀(i:Nat) v,ws[i]? =some v->v=g i):ws=(aA n).map g:=by
 apply gA
 intro i;cases e:ws[i]? with
 |none=>rw[av,bO (by rw[aW];have :=BJ.mp e;lia)];rfl
 |some v=>
  have :=(aD.mp e).1
  rw[av,bJ (by lia),h i v e];rfl
end K83
namespace K83
open PySem R
noncomputable def vg:List Str:=["table"]
noncomputable def m4:List Str:=["table","found"]
noncomputable def nC:CB:=
  (.cons (.asg (.name 1) (.call "clash" (.cons (.var 0) .nil)))
  (.cons (.iff (.cmp .IsNot (.var 1) (.con .none)) .hole .nil)
  .nil))
end K83
namespace K83
open PySem PySem.Spec PyProof.Rows L2 R Cp Lt Lm K02 K82
theorem yJ(nd:ps.Nodup):(_root_.Q.ck [] ps ps).Pairwise fun a b=>_root_.Q.llt a b=true:=by
 unfold _root_.Q.ck _root_.Q.vo;split
 ·rename_i h
  rw[_root_.Q.range_getD]
  match ps,h with
  | [],_=>exact .nil
  | [x],_=>simp
  |_::_::_,h=>simp at h;lia
 ·rename_i h
  obtain⟨P,U,_⟩:=_root_.Q.eT (_root_.Q.E3 nd) (by lia:1<=ps.length);rw[cZ];intro i j hi f d;have g:j<ps.length:=by simpa[P.size]using f
  have u:=U i j d g;rw[bj,bj];have e:∀(k:Nat)(c:k<(_root_.Q.run (_root_.Q.ltL ps) (ji ps.length)).toList.length),(_root_.Q.run (_root_.Q.ltL ps) (ji ps.length)).toList[k]=_root_.Q.at' (_root_.Q.run (_root_.Q.ltL ps) (ji ps.length)) k:=fun k c=>by
   have l:k<(_root_.Q.run (_root_.Q.ltL ps) (ji ps.length)).size:=by simpa using c
   simp[_root_.Q.at',l]
  rw[e,e];exact u
theorem um(nd:ps.Nodup)(h:i∈_root_.Q.vo ps):i<ps.length:=aQ.mp ((_root_.Q.kY nd).mem_iff.mp h)
theorem iT{α:Type}(d:α){ys:List α}(nd:ps.Nodup)(a:ps.length=ys.length):(_root_.Q.ck d ps ys).Perm ys:=by
 unfold _root_.Q.ck;have h:=(_root_.Q.kY nd).map fun i=>ys.getD i d;rw[a,_root_.Q.range_getD]at h;exact h
theorem llt_no{a b:List Int}(h:_root_.Q.llt a b=true)(k:_root_.Q.llt b a=true):a=b:=by
 have c:=_root_.Q.sr h k;have :∀x:List Int,_root_.Q.llt x x=false:=fun x=>by
  induction x with
  |nil=>rfl
  |cons a x ih=>simp[_root_.Q.llt,ih]
 rw[this]at c;cases c
theorem Fb{α:Type}(d:α)(F:α->List Int){ys:List α}(nd:(ys.map F).Nodup):(_root_.Q.ck d (ys.map F) ys).map F=_root_.Q.ck [] (ys.map F) (ys.map F):=by
 unfold _root_.Q.ck;rw[bf];refine cO fun i hi=>?_;have :=um nd hi;rw[ai]at this;show F (ys.getD i d)=_;rw[ae,ae,av,aa this];rfl
theorem ot{α:Type}(d:α)(F:α->List Int){ys zs:List α}(nd:(ys.map F).Nodup)(p:ys.Perm zs):_root_.Q.ck d (ys.map F) ys=_root_.Q.ck d (zs.map F) zs:=by
 have c:=(p.map F).nodup_iff.mp nd;have f:∀{ys:List α},(ys.map F).Nodup->(_root_.Q.ck d (ys.map F) ys).Pairwise fun a b=>_root_.Q.llt (F a) (F b)=true:=fun{ys} nd=>by
  have h:=yJ nd;rw[<-Fb d F nd]at h;exact cQ.mp h
 have p1:=iT d (ys:=ys) nd (by simp);have p2:=iT d (ys:=zs) c (by simp);refine List.Perm.eq_of_pairwise (fun a b g m h k=>?_) (f nd) (f c) (p1.trans (p.trans p2.symm));have e:=llt_no h k;have l:=p1.mem_iff.mp g;have n:=p.mem_iff.mpr (p2.mem_iff.mp m);obtain⟨i,hi,rfl⟩:=cG.mp l;obtain⟨j,o,rfl⟩:=cG.mp n;have :(ys.map F)[i]'(by simpa using hi)=(ys.map F)[j]'(by simpa using o):=by rw[bj,bj];exact e
 have :=(eG nd).mp this
 subst this;rfl
theorem DN{α:Type}{F:V->α->Prop}{ks:List α}{d:α}(nd:ps.Nodup)(g:ps.length=ys.length)(p:Paired F ys ks):Paired F (_root_.Q.ck .non ps ys) (_root_.Q.ck d ps ks):=by
 unfold _root_.Q.ck;have key:∀{a:List Nat},(∀i∈a,i<ys.length)->Paired F (a.map fun i=>ys.getD i .non) (a.map fun i=>ks.getD i d):=fun{a} h=>by
  induction a with
  |nil=>exact .nil
  |cons i a ih=>
   have hi:=h i aL;obtain⟨b,e,f⟩:=pr_at p (aa hi);refine .cons ?_ (ih fun j c=>h j (aO _ c));show F (ys.getD i .non) (ks.getD i d);rw[ae,ae,aa hi,e];exact f
 exact key fun i hi=>by rw[<-g];exact um nd hi
def GrQ(rows:List (List Int))(n:Nat)(qs:List Int):Prop:=M5.Grs n (K32.grp rows) qs/\0∉qs/\∀p,p<n->K32.grp rows p≠0->(K32.grp rows p:Int)∈qs
theorem GrQ.perm{ps:List Int}(a:GrQ rows n qs)(b:GrQ rows n ps):qs.Perm ps:=by
 have s:∀{qs ps:List Int},GrQ rows n qs->GrQ rows n ps->∀x∈qs,x∈ps:=fun{qs ps} a b x c=>by
  obtain⟨p,hp,rfl⟩:=a.1.2 x c;exact b.2.2 p hp fun z=>a.2.1 (by rw[z]at c;exact c)
 exact K84.ui a.1.1 b.1.1 fun x=>⟨s a b x,s b a x⟩
noncomputable def nd1(k:List Int):L2.D:=.tup (k.map .int)
noncomputable def brF(rows:List (List Int))(n:Nat)(q:Int):List Int:=_root_.Q.j4 (M4.lo (M5.nA (K32.fr rows) n (K32.grp rows) q) (M5.nB (K32.fr rows) n (K32.grp rows) q),M4.hi (M5.nA (K32.fr rows) n (K32.grp rows) q) (M5.nB (K32.fr rows) n (K32.grp rows) q))
noncomputable def br1(rows:List (List Int))(n:Nat)(q:Int):L2.D:=.tup [nd1 (M4.lo (M5.nA (K32.fr rows) n (K32.grp rows) q) (M5.nB (K32.fr rows) n (K32.grp rows) q)),nd1 (M4.hi (M5.nA (K32.fr rows) n (K32.grp rows) q) (M5.nB (K32.fr rows) n (K32.grp rows) q)),nd1 (M5.plc n (M5.own (K32.grp rows) q.toNat))]
noncomputable def gD(rows:List (List Int))(n:Nat)(qs:List Int):L2.D:=
 .tup [.lst ((_root_.Q.ck [] (M5.eU (K32.fr rows) n (K32.grp rows) qs) (M5.eU (K32.fr rows) n (K32.grp rows) qs)).map nd1),.lst ((_root_.Q.ck 0 (qs.map (brF rows n)) qs).map (br1 rows n))]
noncomputable def qs0(rows:List (List Int))(n:Nat):List Int:=Classical.epsilon (GrQ rows n)
theorem DG{α:Type}{F:V->α->Prop}{g:α->L2.D}(f:∀v a,F v a->Rep K H (g a) v){ks:List α}(p:Paired F ys ks):ff K H (ks.map g) ys:=by
 induction p with
 |nil=>rfl
 |cons h _ ih=>exact⟨_,_,rfl,f _ _ h,ih⟩
theorem yQ{k:List Int}(h:H a=some (.tup (k.map V.int))):Rep K H (nd1 k) (.ref a):=⟨a,_,rfl,SqT.of h,ff.ints k⟩
theorem FZ{p:Addr}(hf:∀p,p<n->K32.fr rows p=0\/K32.fr rows p=1)(g:K32.sN rows n H H' p):Rep K H' (gD rows n (qs0 rows n)) (.ref p):=by
 obtain⟨s,bl,ks,bs,qs,ep,_,_,_,h1,h2,r,i,bk,o,f⟩:=g;have q:GrQ rows n qs:=⟨h1,h2,r⟩;have t:GrQ rows n (qs0 rows n):=zY (p:=GrQ rows n) ⟨qs,q⟩;have pm:=q.perm t;have j:=M5.vA hf h1;have c:=M5.C6 hf h1;have b:(M5.brK (K32.fr rows) n (K32.grp rows) qs).map _root_.Q.j4=qs.map (brF rows n):=by unfold M5.brK;rw[bf];rfl
 rw[b]at c f;have u:_root_.Q.ck [] (M5.eU (K32.fr rows) n (K32.grp rows) qs) (M5.eU (K32.fr rows) n (K32.grp rows) qs)=_root_.Q.ck [] (M5.eU (K32.fr rows) n (K32.grp rows) (qs0 rows n)) (M5.eU (K32.fr rows) n (K32.grp rows) (qs0 rows n)):=by
  have :=ot [] id (ys:=M5.eU (K32.fr rows) n (K32.grp rows) qs) (zs:=M5.eU (K32.fr rows) n (K32.grp rows) (qs0 rows n)) (by rw[dB];exact j) (.cons _ (pm.map _))
  rwa [dB,dB]at this
 have s2:=ot (0:Int) (brF rows n) c pm;refine⟨p,_,rfl,SqT.of ep,_,_,rfl,⟨s,_,rfl,SqL.of o,?_⟩,_,_,rfl,⟨bl,_,rfl,SqL.of f,?_⟩,rfl⟩
 ·rw[<-u]
  exact DG (fun v a ⟨x,e,h⟩=>by subst e;exact yQ h) (DN j (dY i).symm i)
 ·rw[<-s2]
  refine DG (fun v w ⟨a,x,y,z,e,k,b,l,m⟩=>?_) (DN (d:=(0:Int)) c (by rw[ai];exact(dY bk).symm) bk);subst e;exact⟨a,_,rfl,SqT.of k,_,_,rfl,yQ b,_,_,rfl,yQ l,_,_,rfl,yQ m,rfl⟩
noncomputable def tD(n:Nat)(R:List K82.Row):L2.D:=if R=[]then .tup [.lst [],.lst []]else gD (K32.rI R) n (qs0 (K32.rI R) n)
theorem Af{R:List K82.Row}{p:Addr}(f:∀l∈R,l.2.length=n/\∀y∈l.2,cI y=true)(e:R≠[]->m=n)(t:K32.TreeK R m H H' p):Rep K H' (tD n R) (.ref p):=by
 unfold tD;rcases t with⟨h,a,b,ep,_,_,_,c,d⟩ |⟨h,g⟩
 ·rw[if_pos h]
  exact⟨p,_,rfl,SqT.of ep,_,_,rfl,⟨a,_,rfl,SqL.of c,rfl⟩,_,_,rfl,⟨b,_,rfl,SqL.of d,rfl⟩,rfl⟩
 ·rw[if_neg h]
  rw[e h]at g;refine FZ (fun q hq=>?_) g;cases R with
  |nil=>exact absurd rfl h
  |cons l R=>
   obtain⟨h1,h2⟩:=f l aL;have :=M6.Ok.at (n:=(l.2.map K32.intOf).length) ⟨rfl,(K32.sx h2).2⟩ q;exact this
section
variable {G:Gam}{K:ah}{C CS:Addr}{T:Tb}
noncomputable def Ha(T:Tb):Sp:=fun vs H Q _=>∃x,vs=[x]/\Kn4 H x/\Tab T H/\dE H x=true/\K22.NoC (K22.rowsOf H x) (count H x)/\∀H',Gr T H H'->Q .non H'
theorem wp_ref(c:G.fn "clash" 1=some (K22.yG C T,[])):Sat G K (Ha T) nC m4:=by
 rintro vs H Q E ⟨x,rfl,d,tb,e,f,q⟩;unfold nC;change wpB G K _ _ _ [some x,none] H;walk_at "wp";refine⟨_,_,c,x,rfl,d,tb,fun _ H1 v gr g=>?_,fun z=>by rw[e]at z;cases z⟩;rcases g with⟨rfl,m⟩ |⟨i,j,a,l,rfl,b,h,k⟩
 ·rw[if_neg (by simp)]
  exact q H1 gr
 ·have :=f i j b.ij b.jn
  rw[b.four]at this;cases this
noncomputable def pO(T:Tb):Sp:=fun vs H Q _=>∃x,vs=[x]/\Kn4 H x/\Tab T H/\dE H x=true/\K22.NoC (K22.rowsOf H x) (count H x)/\∀H' p,Gr T H H'->H p=none->K32.TreeK (K22.rowsOf H x) (count H x) H H' p->Q (.ref p) H'
theorem wp_tree(v:G.fn "table_list" 1=some (yD C T,[]))(w:G.fn "refuse_clash" 1=some (Ha T,[]))(y:G.fn "grown" 1=some (K32.uU,[])):
  Sat G K (pO T) K32.JL K32.Ir:=by
 rintro vs H Q E ⟨x,rfl,D,tb,e,j,g⟩;unfold K32.JL;change wpB G K _ _ _ [some x,none] H;walk_at "wp";refine⟨_,_,v,x,rfl,D,tb,fun _ H1 l zs gr J h u=>?_,fun z=>by rw[e]at z;cases z⟩;obtain⟨F,q,ct,rows⟩:=K22.vZ e h u;obtain⟨s,_⟩:=K32.Al e h rows q;have c:=K32.cps_of h q;rw[ct,rows]at c;have i:zs.length=(K22.rowsOf H x).length:=by rw[<-rows,ai]
 have m:=gr.tab tb;generalize K22.rowsOf H x=R at g j s c i;generalize count H x=n at g j ct c;unfold K32.Bo;walk_at "wp";refine⟨_,_,w,.ref l,rfl,F,m,q,by rw[s,ct];exact j,fun H2 d=>?_⟩;have c:=c.gr d m;have I:=d.tab m;have fre:∀p,H2 p=none->H p=none:=fun p=>K32.gr_free (gr.trans d) I;unfold K32.Bn;walk_at "wp";refine Or.inl ⟨l,zs,rfl,.inl (SqL.of c.ec),?_⟩;refine jd.mpr ⟨_,rfl,?_⟩;by_cases hz:zs=[]
 ·have B:R=[]:=a7.mp (by rw[<-i,hz];rfl)
  rw[hz,if_pos (by simp)];refine⟨short (by simp),fun a r=>⟨short (by simp),fun b f=>⟨short (by simp),fun p hp=>?_⟩⟩⟩;have k:=aq (o:=.lst []) r;have s2:=aq (o:=.lst []) f;have s3:=aq (o:=.tup [.ref a,.ref b]) hp;refine g _ p ((gr.trans d).trans (Gr.of (k.trans (s2.trans s3)))) (fre _ ((k.trans s2).free hp)) (.inl ⟨B,a,b,ao,fre _ r,fre _ (k.free f),fun z=>?_,(s2.trans s3) _ _ ao,s3 _ _ ao⟩);rw[<-z,ao]at f;cases f
 ·rw[if_neg (fun z=>hz (a7.mp (by have :=of_decide_eq_true z;lia)))]
  unfold K32.Bl;walk_at "wp";refine⟨_,_,y,l,zs,n,K32.rI R,rfl,c,hz,fun t p s3 hp A=>?_⟩;exact g t p ((gr.trans d).trans (Gr.of s3)) (fre _ hp) (.inr ⟨fun z=>hz (a7.mp (by rw[i,z];rfl)),A.old fre⟩)
end
end K83
namespace M8
open K32 M7 K83
theorem ex_grq(rows:List (List Int))(n:Nat):∃qs,GrQ rows n qs:=by
 induction n with
 |zero=>exact⟨[],⟨i6,fun _ h=>by cases h⟩,by simp,fun p hp=>by lia⟩
 |succ n ih=>
  obtain⟨qs,⟨nd,h1⟩,h2,f⟩:=ih;by_cases c:grp rows n=0\/(grp rows n:Int)∈qs
  ·refine⟨qs,⟨nd,fun q hq=>let⟨p,hp,e⟩:=h1 q hq;⟨p,by lia,e⟩⟩,h2,fun p hp d=>?_⟩
   by_cases e:p=n
   ·rw[e]at d⊢
    rcases c with c|c
    ·exact absurd c d
    ·exact c
   ·exact f p (by lia) d
  ·rw[not_or]at c
   refine⟨qs++[(grp rows n:Int)],⟨eS.mpr ⟨nd,by simp,fun a g b i e=>c.2 (by rw[aT.mp i]at e;rw[<-e];exact g)⟩,fun q hq=>?_⟩,fun z=>?_,fun p hp d=>?_⟩
   ·rcases bQ.mp hq with hq|hq
    ·obtain⟨p,hp,e⟩:=h1 q hq
     exact⟨p,by lia,e⟩
    ·exact⟨n,by lia,aT.mp hq⟩
   ·rcases bQ.mp z with z|z
    ·exact h2 z
    ·have :=aT.mp z
     lia
   ·by_cases e:p=n
    ·rw[e];simp
    ·exact cj _ (f p (by lia) d)
theorem pR(rows:List (List Int))(n:Nat):GrQ rows n (qs0 rows n):=zY (ex_grq rows n)
noncomputable def nds(rows:List (List Int))(n:Nat):List (List Int):=M5.eU (fr rows) n (grp rows) (qs0 rows n)
noncomputable abbrev Tri:=List Int×List Int×List Int
noncomputable def tri(rows:List (List Int))(n p:Nat):Tri:=(M4.lo (gI rows n p) (below rows n p),M4.hi (gI rows n p) (below rows n p),M5.plc n (M5.own (grp rows) (grp rows p)))
noncomputable def triQ(rows:List (List Int))(n:Nat)(q:Int):Tri:=(M4.lo (M5.nA (fr rows) n (grp rows) q) (M5.nB (fr rows) n (grp rows) q),M4.hi (M5.nA (fr rows) n (grp rows) q) (M5.nB (fr rows) n (grp rows) q),M5.plc n (M5.own (grp rows) q.toNat))
theorem oo(rows:List (List Int))(n p:Nat):triQ rows n (grp rows p:Int)=tri rows n p:=rfl
noncomputable def trs(rows:List (List Int))(n:Nat):List Tri:=(qs0 rows n).map (triQ rows n)
noncomputable def key(x:Tri):List Int:=_root_.Q.j4 (x.1,x.2.1)
noncomputable def triD(x:Tri):L2.D:=.tup [nd1 x.1,nd1 x.2.1,nd1 x.2.2]
noncomputable def lW(xs:List (List Int)):List (List Int):=_root_.Q.ck [] xs xs
noncomputable def mM(xs:List Tri):List Tri:=_root_.Q.ck ([],[],[]) (xs.map key) xs
theorem wV{α a:Type}(d:α)(e:a)(g:α->a){ys:List α}(nd:ps.Nodup)(b:ps.length=ys.length):(_root_.Q.ck d ps ys).map g=_root_.Q.ck e ps (ys.map g):=by
 unfold _root_.Q.ck;rw[bf];refine cO fun i hi=>?_;have :=um nd hi;show g (ys.getD i d)=_;rw[ae,ae,av,aa (by lia)];rfl
section
variable {rows rows2:List (List Int)}{n:Nat}
theorem fA(t:Tbl rows n):v∈nds rows n↔Fits rows n v:=by
 have q:=pR rows n;unfold nds M5.eU;rw[aE];constructor
 ·rintro(rfl|h)
  ·exact CW t
  ·obtain⟨x,a,rfl⟩:=ax.mp h
   obtain⟨p,hp,rfl⟩:=q.1.2 x a;exact pZ t (p:=p) fun z=>q.2.1 (by rw[z]at a;exact a)
 ·intro h
  rcases DQ t h with h|⟨p,hp,b,h⟩
  ·exact .inl h
  ·exact .inr (ax.mpr ⟨_,q.2.2 p hp b,h.symm⟩)
theorem gS(t:Tbl rows n){x:Tri}:x∈trs rows n↔∃p,p<n/\grp rows p≠0/\x=tri rows n p:=by
 have q:=pR rows n;unfold trs;rw[ax];constructor
 ·rintro⟨y,a,rfl⟩
  obtain⟨p,hp,rfl⟩:=q.1.2 y a;exact⟨p,hp,fun z=>q.2.1 (by rw[z]at a;exact a),rfl⟩
 ·rintro⟨p,hp,b,rfl⟩
  exact⟨_,q.2.2 p hp b,rfl⟩
theorem jL(t:Tbl rows n):(nds rows n).Nodup:=M5.vA (fun p _=>t.f01 p) (pR rows n).1
theorem iB(t:Tbl rows n):((trs rows n).map key).Nodup:=by
 have :=M5.C6 (fun p _=>t.f01 p) (pR rows n).1
 unfold M5.brK at this;rw[bf]at this;unfold trs;rw[bf];exact this
theorem gD_is(t:Tbl rows n):gD rows n (qs0 rows n)=.tup [.lst ((lW (nds rows n)).map nd1),.lst ((mM (trs rows n)).map triD)]:=by
 unfold gD mM;have nd:=iB t;have e:(trs rows n).map key=(qs0 rows n).map (brF rows n):=by unfold trs;rw[bf];rfl
 rw[e]at nd⊢;have :=wV (0:Int) (([],[],[]):Tri) (triQ rows n) (ys:=qs0 rows n) nd (by simp);unfold trs;rw[<-this,bf];rfl
structure Iso(rows rows2:List (List Int))(n:Nat)(φ:List Int->List Int)(o oi:Nat->Nat):Prop where
 t:Tbl rows n
 t2:Tbl rows2 n
 lt:∀j,j<n->o j<n
 lti:∀p,p<n->oi p<n
 l1:∀j,j<n->oi (o j)=j
 l2:∀p,p<n->o (oi p)=p
 fit:∀v,Fits rows n v->Fits rows2 n (φ v)
 tif:∀w,Fits rows2 n w->∃v,Fits rows n v/\w=φ v
 inj:∀u v,M6.Ok n u->M6.Ok n v->φ u=φ v->u=v
 ed:∀j v,j<n->End rows n (o j) v->End rows2 n j (φ v)
 cls:∀i j,i<n->j<n->(Cls rows2 i j↔Cls rows (o i) (o j))
 nz:∀j,j<n->(grp rows2 j≠0↔grp rows (o j)≠0)
noncomputable def psi(n:Nat)(φ:List Int->List Int)(o:Nat->Nat)(x:Tri):Tri:=(M4.lo (φ x.1) (φ x.2.1),M4.hi (φ x.1) (φ x.2.1),M5.plc n fun i=>decide ((o i:Int)∈x.2.2))
variable {φ:List Int->List Int}{o oi:Nat->Nat}
theorem Iso.nodes(I:Iso rows rows2 n φ o oi):((nds rows n).map φ).Perm (nds rows2 n):=by
 refine K84.ui ?_ (jL I.t2) fun w=>?_
 ·refine cQ.mpr ?_
  have nd:(nds rows n).Pairwise (fun a b=>a≠b):=jL I.t;refine(lS.mp nd).imp ?_;rintro a b ⟨d,g,f⟩ e;exact f (I.inj a b ((fA I.t).mp d).1 ((fA I.t).mp g).1 e)
 ·rw[fA I.t2,ax]
  constructor
  ·rintro⟨v,c,rfl⟩
   exact I.fit v ((fA I.t).mp c)
  ·intro h
   obtain⟨v,c,rfl⟩:=I.tif w h;exact⟨v,(fA I.t).mpr c,rfl⟩
theorem IA{P:Nat->Bool}{x:Int}(h:x∈M5.plc n P):∃i,i<n/\P i=true/\x=(i:Int):=by
 obtain⟨i,hi,rfl⟩:=ax.mp h;have :=a9.mp hi;exact⟨i,aQ.mp this.1,this.2,rfl⟩
theorem xC{P a:Nat->Bool}(h:∀i,i<n->P i=a i):M5.plc n P=M5.plc n a:=by
 unfold M5.plc;rw[mw fun i hi=>h i (aQ.mp hi)]
theorem Iso.tri(I:Iso rows rows2 n φ o oi)(f:j<n)(hz:grp rows (o j)≠0):M8.tri rows2 n j=psi n φ o (M8.tri rows n (o j)):=by
 have hp:=I.lt j f;have h:=(I.nz j f).mpr hz;have a:=ll I.t hp hz;have b:=iV I.t hp hz;have ne:=qQ I.t (rows:=rows) hp;have g:φ (gI rows n (o j))≠φ (below rows n (o j)):=fun e=>ne (I.inj _ _ a.ok b.ok e);have c:=Bb I.t2 f h (I.ed j _ f a) (I.ed j _ f b) g;have d:M4.lo (φ (M4.lo (gI rows n (o j)) (below rows n (o j)))) (φ (M4.hi (gI rows n (o j)) (below rows n (o j))))=M4.lo (φ (gI rows n (o j))) (φ (below rows n (o j)))/\M4.hi (φ (M4.lo (gI rows n (o j)) (below rows n (o j)))) (φ (M4.hi (gI rows n (o j)) (below rows n (o j))))=M4.hi (φ (gI rows n (o j))) (φ (below rows n (o j))):=by
  unfold M4.lo M4.hi;rw[_root_.Q.iH ne];cases _root_.Q.llt (below rows n (o j)) (gI rows n (o j))with
  |false=>exact⟨rfl,rfl⟩
  |true=>exact⟨D5 (bS g),Ee (bS g)⟩
 unfold psi M8.tri;refine Prod.ext (c.1.trans d.1.symm) (Prod.ext (c.2.trans d.2.symm) (xC fun i hi=>?_));rw[cA,decide_eq_true_eq,M5.ki (I.lt i hi)];unfold M5.own;rw[decide_eq_true_eq,decide_eq_true_eq,I.t2.cls,I.t.cls];exact I.cls i j hi f
theorem Iso.tris(I:Iso rows rows2 n φ o oi):((trs rows n).map (psi n φ o)).Perm (trs rows2 n):=by
 have B:(trs rows2 n).Nodup:=by
  have :=iB I.t2
  exact(cQ.mp this).imp fun h e=>h (by rw[e])
 refine K84.ui ?_ B fun x=>?_
 ·unfold trs
  rw[bf];refine cQ.mpr ?_;have q:=pR rows n;have nd:(qs0 rows n).Pairwise (fun a b=>a≠b):=q.1.1;refine(lS.mp nd).imp ?_;rintro a b ⟨i,k,v⟩ e;obtain⟨p,hp,rfl⟩:=q.1.2 a i;obtain⟨p',d,rfl⟩:=q.1.2 b k;have C:grp rows p≠0:=fun z=>q.2.1 (by rw[z]at i;exact i);have D:grp rows p'≠0:=fun z=>q.2.1 (by rw[z]at k;exact k);have e:psi n φ o (M8.tri rows n p)=psi n φ o (M8.tri rows n p'):=e;have j1:=I.lti p hp;have j2:=I.lti p' d;have s:=I.tri j1 (by rw[I.l2 p hp];exact C);have t:=I.tri j2 (by rw[I.l2 p' d];exact D);rw[I.l2 p hp]at s;rw[I.l2 p' d]at t;have m:M8.tri rows2 n (oi p)=M8.tri rows2 n (oi p'):=by rw[s,t,e]
  have u:grp rows2 (oi p)=grp rows2 (oi p'):=by
   apply aI
   intro w;have :=M4.ye (f:=fr rows2) (n:=n) (grp:=grp rows2) (fun p _=>I.t2.f01 p) j1 j2 w;apply this;show M4.lo (gI rows2 n (oi p)) (below rows2 n (oi p))++M4.hi (gI rows2 n (oi p)) (below rows2 n (oi p))=M4.lo (gI rows2 n (oi p')) (below rows2 n (oi p'))++M4.hi (gI rows2 n (oi p')) (below rows2 n (oi p'));rw[show M4.lo (gI rows2 n (oi p)) (below rows2 n (oi p))=M4.lo (gI rows2 n (oi p')) (below rows2 n (oi p'))from congrArg Prod.fst m,show M4.hi (gI rows2 n (oi p)) (below rows2 n (oi p))=M4.hi (gI rows2 n (oi p')) (below rows2 n (oi p'))from congrArg (fun x:Tri=>x.2.1) m]
  have c:=(I.cls _ _ j1 j2).mp (I.t2.cls.mp u);rw[I.l2 p hp,I.l2 p' d]at c;exact v (by rw[I.t.cls.mpr c])
 ·rw[gS I.t2,ax]
  constructor
  ·rintro⟨y,A,rfl⟩
   obtain⟨p,hp,g,rfl⟩:=(gS I.t).mp A;have j1:=I.lti p hp;refine⟨oi p,j1,(I.nz _ j1).mpr (by rw[I.l2 p hp];exact g),?_⟩;rw[I.tri j1 (by rw[I.l2 p hp];exact g),I.l2 p hp]
  ·rintro⟨j,l,g,rfl⟩
   have r:=(I.nz j l).mp g;exact⟨_,(gS I.t).mpr ⟨o j,I.lt j l,r,rfl⟩,(I.tri l r).symm⟩
end
end M8
namespace M9
open K32 M7 M8
section
variable {rows rows2:List (List Int)}{n:Nat}
theorem qt(t:Tbl rows n):grp rows p≠0↔∃r∈rows,∃s∈rows,r.getD p 0≠s.getD p 0:=by
 rw[gnz];constructor
 ·rintro⟨r,a,h⟩
  exact⟨r,a,_,t.first,kJ.mp h⟩
 ·rintro⟨r,a,s,b,h⟩
  by_cases e:r.getD p 0=fr rows p
  ·exact⟨s,b,kJ.mpr fun z=>h (e.trans z.symm)⟩
  ·exact⟨r,a,kJ.mpr e⟩
theorem IS(t:Tbl rows n)(t2:Tbl rows2 n)(h:∀r,r∈rows↔r∈rows2):Iso rows rows2 n id id id where
 t:=t
 t2:=t2
 lt:=fun _ h=>h
 lti:=fun _ h=>h
 l1:=fun _ _=>rfl
 l2:=fun _ _=>rfl
 fit:=fun v f=>f.sub fun r a=>(h r).mp a
 tif:=fun w f=>⟨w,f.sub fun r a=>(h r).mpr a,rfl⟩
 inj:=fun _ _ _ _ e=>e
 ed:=fun j v d e=>⟨e.ok,fun q hq c=>by
  obtain⟨r,a,x⟩:=e.own q hq fun r a s b=>c r ((h r).mp a) s ((h s).mp b);exact⟨r,(h r).mp a,x⟩,fun q hq c=>by
  obtain⟨r,a,s,b,x⟩:=e.off q hq fun z=>c fun r a s b=>z r ((h r).mpr a) s ((h s).mpr b);exact⟨r,(h r).mp a,s,(h s).mp b,x⟩⟩
 cls:=fun i j _ _=>⟨fun c r a s b=>c r ((h r).mp a) s ((h s).mp b),fun c r a s b=>c r ((h r).mpr a) s ((h s).mpr b)⟩
 nz:=fun j _=>by
  rw[qt t,qt t2];exact⟨fun⟨r,a,s,b,x⟩=>⟨r,(h r).mpr a,s,(h s).mpr b,x⟩,fun⟨r,a,s,b,x⟩=>⟨r,(h r).mp a,s,(h s).mp b,x⟩⟩
end
end M9
namespace M9
open K32 K83 M7 M8 L2
noncomputable def trD(rows:List (List Int))(n:Nat):L2.D:=.tup [.lst ((lW (nds rows n)).map nd1),.lst ((mM (trs rows n)).map triD)]
theorem xr{xs ys:List (List Int)}(nd:xs.Nodup)(p:xs.Perm ys):lW xs=lW ys:=by
 have :=ot [] id (ys:=xs) (zs:=ys) (by rw[dB];exact nd) p
 rwa [dB,dB]at this
theorem E7{xs ys:List Tri}(nd:(xs.map key).Nodup)(p:xs.Perm ys):mM xs=mM ys:=ot _ key nd p
theorem mV{xs:List (List Int)}(nd:xs.Nodup):(lW xs).Perm xs:=iT [] nd rfl
theorem gO{xs:List Tri}(nd:(xs.map key).Nodup):(mM xs).Perm xs:=iT _ nd (by simp)
theorem lo_lo{a b:List Int}:M4.lo (M4.lo a b) (M4.hi a b)=M4.lo a b/\M4.hi (M4.lo a b) (M4.hi a b)=M4.hi a b:=by
 by_cases h:a=b
 ·subst h
  unfold M4.lo M4.hi;split <;>simp_all
 ·have t:=_root_.Q.iH h
  cases c:_root_.Q.llt b a with
  |true=>
   rw[c]at t;have d:M4.lo a b=b:=if_pos c;have e:M4.hi a b=a:=if_neg (by rw[t];decide);rw[d,e];exact⟨if_neg (by rw[t];decide),if_pos c⟩
  |false=>
   rw[c]at t;have d:M4.lo a b=a:=if_neg (by rw[c];decide);have e:M4.hi a b=b:=if_pos t;rw[d,e];exact⟨d,e⟩
theorem psi_id{a b:List Int}{P:Nat->Bool}:psi n id id (M4.lo a b,M4.hi a b,M5.plc n P)=(M4.lo a b,M4.hi a b,M5.plc n P):=by
 unfold psi;dsimp only[id];rw[lo_lo.1,lo_lo.2];refine Prod.ext rfl (Prod.ext rfl ?_);refine xC fun i hi=>?_;rw[cA,decide_eq_true_eq];constructor
 ·intro h
  obtain⟨j,_,c,e⟩:=IA h;rw[show i=j by lia];exact c
 ·intro h
  unfold M5.plc;exact ax.mpr ⟨i,a9.mpr ⟨aQ.mpr hi,h⟩,rfl⟩
theorem GY{rows2:List (List Int)}(t:Tbl rows n)(c:Tbl rows2 n)(h:∀r,r∈rows↔r∈rows2):trD rows n=trD rows2 n:=by
 have I:=IS t c h;have a:=I.nodes;rw[dB]at a;have pt:=I.tris;have e:(trs rows n).map (psi n id id)=trs rows n:=by
  conv =>rhs;rw[<-dB (trs rows n)]
  refine cO fun x b=>?_;obtain⟨p,_,_,rfl⟩:=(gS t).mp b;exact psi_id
 rw[e]at pt;unfold trD;rw[xr (jL t) a,E7 (iB t) pt]
theorem zg(rows:List (List Int))(n:Nat):(nds rows n).length<=n+1:=by
 have :=M5.uy (pR rows n).1
 unfold nds M5.eU;simp;lia
theorem Dt(rows:List (List Int))(n:Nat):(trs rows n).length<=n:=by
 have :=M5.uy (pR rows n).1
 unfold trs;simp;lia
end M9
namespace K34
open PySem PySem.Spec PyProof.Rows L2 R Cp Lt Kc K21 K22 Lm M5 K32 K24
structure Tn(H:Hp)(t:Addr)(nf:Nat->Str)(n:Nat)(ys:List V)(rows:List (List Int)):Prop where
 et:H t=some (.lst ys)
 ln:rows.length=ys.length
 row:∀(i:Nat) y,ys[i]? =some y->∃b r,y=.ref b/\H b=some (.tup [.str (nf i),.ref r])/\H r=some (.tup ((rows.getD i []).map V.int))
 ok:∀i,gZ (nf i)=true
 inj:∀i j,i<ys.length->j<ys.length->nf i=nf j->i=j
 len:ys.length<=40
 n10:n<=60
 rd:∀r∈rows,M6.Ok n r
 mis:∀i j,i<j->j<n->M6.Mis rows i j
section
variable {H H':Hp}{t:Addr}{nf:Nat->Str}{n:Nat}{ys:List V}{rows:List (List Int)}{T:Tb}
theorem Tn.get(d:Tn H t nf n ys rows)(h:i<ys.length):rows.getD i []∈rows:=by
 rw[ae,aa (by rw[d.ln];exact h)];exact ba _
theorem Tn.gr(d:Tn H t nf n ys rows)(g:Gr T H H')(a:Tab T H):Tn H' t nf n ys rows:=
 {d with et:=g.lst a d.et,row:=fun i y e=>let⟨b,r,h1,h2,h3⟩:=d.row i y e;⟨b,r,h1,g.yx a h2,g.yx a h3⟩}
theorem Tn.same(d:Tn H t nf n ys rows)(s:aM H H'):Tn H' t nf n ys rows:=
 {d with et:=s _ _ d.et,row:=fun i y e=>let⟨b,r,h1,h2,h3⟩:=d.row i y e;⟨b,r,h1,s _ _ h2,s _ _ h3⟩}
theorem Tn.dr(d:Tn H t nf n ys rows):Dr H nf n ys:=fun i y e=>by
 obtain⟨b,r,h1,h2,a⟩:=d.row i y e;have o:=d.rd _ (d.get (aD.mp e).1);refine⟨b,r,_,h1,h2,a,by rw[ai];exact o.1,fun z f=>?_⟩;obtain⟨x,c,rfl⟩:=ax.mp f;rcases o.2 x c with rfl|rfl<;>rfl
theorem Tn.tab(d:Tn H t nf n ys rows):Kn4 H (.ref t)/\dE H (.ref t)=true/\(∀y∈ys,de H y=true)/\∀y∈ys,cz H y=n:=
 vW d.ok d.inj d.et d.dr (by have :=d.len;lia) (by have :=d.n10;lia)
theorem Tn.count(d:Tn H t nf n ys rows)(h:ys≠[]):Cp.count H (.ref t)=n:=by
 show(match d0 (H t)with |some (y::_)=>cz H y|_=>0)=n;rw[d.et];cases ys with
 |nil=>exact absurd rfl h
 |cons y r=>exact d.tab.2.2.2 y (.head _)
theorem Tn.perm(d:Tn H t nf n ys rows):(rowsOf H (.ref t)).Perm (ys.map (cd H)):=by
 have nd:(ys.map (aZ H)).Nodup:=by
  obtain⟨a,xs,e,h1,h2,c,b,f⟩:=eJ d.tab.2.1;cases e;rw[show d0 (H t)=some ys by rw[d.et];rfl]at h1;cases h1;exact b
 unfold rowsOf;rw[ub (show d0 (H t)=some ys by rw[d.et];rfl)];exact(_root_.Q.fV V.non nd (by simp)).map (cd H)
theorem Tn.cds(d:Tn H t nf n ys rows)(x:Str×List V):x∈ys.map (cd H)↔∃i,i<ys.length/\x=(nf i,(rows.getD i []).map V.int):=by
 constructor
 ·intro h
  obtain⟨y,f,rfl⟩:=ax.mp h;obtain⟨i,e⟩:=cu.mp f;obtain⟨b,r,rfl,h2,a⟩:=d.row i y e;exact⟨i,(aD.mp e).1,Cg h2 a⟩
 ·rintro⟨i,hi,rfl⟩
  have e:=aa hi;obtain⟨b,r,c,h2,a⟩:=d.row i _ e;refine ax.mpr ⟨ys[i],ba hi,?_⟩;rw[c];exact Cg h2 a
theorem AX(z:List Int):(z.map V.int).map intOf=z:=by
 rw[bf]
 conv =>rhs;rw[<-dB z]
 rfl
theorem Tn.mem(d:Tn H t nf n ys rows)(r:List Int):r∈K32.rI (rowsOf H (.ref t))↔r∈rows:=by
 unfold K32.rI;rw[(d.perm.map _).mem_iff];constructor
 ·intro h
  obtain⟨x,a,rfl⟩:=ax.mp h;obtain⟨i,hi,rfl⟩:=(d.cds x).mp a;rw[AX];exact d.get hi
 ·intro h
  obtain⟨i,hi,rfl⟩:=cG.mp h;refine ax.mpr ⟨(nf i,(rows.getD i []).map V.int),(d.cds _).mpr ⟨i,by rw[<-d.ln];exact hi,rfl⟩,?_⟩;rw[AX,ae,aa hi];rfl
theorem Tn.tbl(d:Tn H t nf n ys rows)(h:ys≠[]):M7.Tbl rows n:=⟨d.rd,fun z=>h (a7.mp (by rw[<-d.ln,z];rfl)),d.mis⟩
theorem DS{r:Str×List V}{z:List Int}(e:r.2=z.map V.int)(i:Nat)(h:i<z.length):FA i r=z.getD i 0:=by
 unfold FA;rw[e,aJ,ae,av,ae,aa h];rfl
theorem Tn.noc(d:Tn H t nf n ys rows):NoC (rowsOf H (.ref t)) (Cp.count H (.ref t)):=fun a b j h=>by
 rw[i9];intro z;rw[K24.vR]at z;have mem:∀r∈rowsOf H (.ref t),∃q∈rows,r.2=q.map V.int:=fun r c=>by
  obtain⟨i,hi,rfl⟩:=(d.cds r).mp (d.perm.mem_iff.mp c);exact⟨_,d.get hi,rfl⟩
 have p:ys≠[]:=fun e=>by
  obtain⟨r,c,_⟩:=z 0 0 (.inl rfl) (.inl rfl);obtain⟨q,hq,_⟩:=mem r c;have :=d.ln;rw[e]at this;rw[a7.mp this]at hq;cases hq
 rw[d.count p]at h;obtain⟨u,v,l,m,k⟩:=d.mis a b j h;obtain⟨r,c,f,g⟩:=z u v l m;obtain⟨q,hq,e⟩:=mem r c;have o:=d.rd q hq;rw[DS e a (by rw[o.1];lia)]at f;rw[DS e b (by rw[o.1];lia)]at g;exact k q hq ⟨f,g⟩
theorem GX{Q:VK}{E:XS}(d:Tn H t nf n ys rows)(tb:Tab T H)(q:∀H' p,Gr T H H'->(∃xs,H' p=some (.tup xs))->Rep K H' (if ys=[]then .tup [.lst [],.lst []]else M9.trD rows n) (.ref p)->Q (.ref p) H')(s:L2.St):K83.pO T [.ref t] H Q (E s):=by
 refine⟨_,rfl,d.tab.1,tb,d.tab.2.1,d.noc,fun H' p gr fp tk=>q H' p gr (by
  rcases tk with⟨_,a,b,ep,_⟩ |⟨_,m,bl,ks,bs,qs,ep,_⟩
  ·exact⟨_,ep⟩
  ·exact⟨_,ep⟩) ?_⟩
 have h0:rowsOf H (.ref t)=[]↔ys=[]:=by
  have :=d.perm.length_eq
  rw[ai]at this;rw[<-a7,this,a7]
 by_cases c:ys=[]
 ·rw[if_pos c]
  have :=K83.Af (K:=K) (n:=0) (fun l e=>by rw[h0.mpr c]at e;cases e) (fun h=>absurd (h0.mpr c) h) tk
  unfold K83.tD at this
  rwa [if_pos (h0.mpr c)]at this
 ·rw[if_neg c]
  have tl:=d.tbl c;have g:M7.Tbl (K32.rI (rowsOf H (.ref t))) n:=⟨fun r f=>tl.ok r ((d.mem r).mp f),fun z=>?_,fun i j a b=>(tl.mis i j a b).sub fun r f=>(d.mem r).mp f⟩
  ·have :=K83.Af (K:=K) (n:=n) (fun l e=>?_) (fun _=>d.count c) tk
   ·unfold K83.tD at this
    rw[if_neg (fun z=>c (h0.mp z)),M8.gD_is g]at this;rw[<-M9.GY g tl d.mem];exact this
   ·obtain⟨i,hi,rfl⟩:=(d.cds l).mp (d.perm.mem_iff.mp e)
    have o:=d.rd _ (d.get hi);refine⟨by rw[ai];exact o.1,fun y c=>?_⟩;obtain⟨x,k,rfl⟩:=ax.mp c;rcases o.2 x k with rfl|rfl<;>rfl
  ·unfold K32.rI at z
   exact c (h0.mp (List.map_eq_nil_iff.mp z))
end
end K34
namespace K34
open PySem PySem.Spec PyProof.Rows L2 R Cp Lt Kc K21 K22 Lm M5 K32
theorem pr_mk{α c:Type}{F:α->c->Prop}:∀{l:List α}{m:List c},l.length=m.length->(∀(j:Nat) a b,l[j]? =some a->m[j]? =some b->F a b)->Paired F l m
 | [],[],_,_=>.nil
 |a::l,b::m,h,f=>.cons (f 0 a b rfl rfl) (pr_mk (jH h) fun j x y d e=>f (j+1) x y (by simpa using d) (by simpa using e))
theorem xB:∀{ks:List Int}{ys:List V},ff K H (ks.map L2.D.int) ys->ys=ks.map V.int
 | [],ys,h=>h
 |k::ks,ys,h=>by
  obtain⟨x,r,rfl,h1,h2⟩:=h;obtain rfl:x=.int k:=h1;rw[xB h2];rfl
theorem zh{k:List Int}{v:V}(h:Rep K H (K83.nd1 k) v):∃a,v=.ref a/\SqT K H a (k.map V.int):=by
 obtain⟨a,xs,rfl,hq,b⟩:=h;rw[xB b]at hq;exact⟨a,rfl,hq⟩
end K34
namespace K75
open PySem R
noncomputable def yY:List Str:=["thing","count"]
noncomputable def qE:List Str:=["thing","count"]
noncomputable def nT:CB:=
  (.cons (.ret (.call "is_reading" (.cons (.idx (.var 0) (.con (.int 1))) .nil)))
  .nil)
noncomputable def nU:CB:=
  (.cons (.iff (.or (.not (.call "is_whole" (.cons (.idx (.var 0) (.con (.int 0))) .nil))) (.not (.chain .LtE .Lt (.con (.int 0)) (.idx (.var 0) (.con (.int 0))) (.var 1))))
  (.cons (.ret (.con (.bool false)))
  .nil)
  .nil)
  nT)
noncomputable def rg:CB:=
  (.cons (.iff (.or (.not (.bfn .isinstance (.cons (.var 0) (.cons (.ty .tuple) .nil)))) (.cmp .NotEq (.bfn .len (.cons (.var 0) .nil)) (.con (.int 2))))
  (.cons (.ret (.con (.bool false)))
  .nil)
  .nil)
  nU)
noncomputable def vk:List Str:=["thing","count"]
noncomputable def m9:List Str:=["thing","count"]
noncomputable def lO:CB:=
  (.cons (.ret (.cmp .Eq (.bfn .len (.cons (.bfn .set (.cons (.comp ["place","elder"] [] (.tup (.cons (.name 0) (.cons (.name 1) .nil))) (.seq (.var 0)) .no (.var 0)) .nil)) .nil)) (.bfn .len (.cons (.var 0) .nil))))
  .nil)
noncomputable def lP:CB:=
  (.cons (.iff (.not (.bfn .all (.cons (.comp ["part"] [1] (.name 0) (.seq (.var 0)) .no (.call "is_telling" (.cons (.var 0) (.cons (.var 1) .nil)))) .nil)))
  (.cons (.ret (.con (.bool false)))
  .nil)
  .nil)
  lO)
noncomputable def oa:CB:=
  (.cons (.iff (.not (.bfn .isinstance (.cons (.var 0) (.cons (.ty .list) .nil))))
  (.cons (.ret (.con (.bool false)))
  .nil)
  .nil)
  lP)
noncomputable def tP:List Str:=["table","tellings"]
noncomputable def my:List Str:=["table","tellings","count"]
noncomputable def kq:CB:=
  (.cons (.iff (.not (.call "are_tellings" (.cons (.var 1) (.cons (.var 2) .nil))))
  .hole
  .nil)
  .nil)
noncomputable def ku:CB:=
  (.cons (.iff (.cmp .Eq (.bfn .len (.cons (.var 0) .nil)) (.con (.int 0)))
  .hole
  .nil)
  kq)
noncomputable def mz:CB:=
  (.cons (.asg (.name 2) (.call "place_count" (.cons (.var 0) .nil)))
  ku)
noncomputable def Aw:List Str:=["nodes","tellings"]
noncomputable def sT:List Str:=["nodes","tellings"]
noncomputable def tu:CB:=
  (.cons (.ret (.comp ["node"] [1] (.name 0) (.seq (.var 0)) (.yes (.bfn .all (.cons (.comp ["place","elder"] [0] (.tup (.cons (.name 0) (.cons (.name 1) .nil))) (.seq (.var 1)) .no (.cmp .Eq (.idx (.var 2) (.var 0)) (.var 1))) .nil))) (.var 0)))
  .nil)
noncomputable def yU:List Str:=["nodes","tellings"]
noncomputable def qA:List Str:=["nodes","tellings","found"]
noncomputable def nr:CB:=
  (.cons (.ret (.var 2))
  .nil)
noncomputable def ny:CB:=
  (.cons (.iff (.cmp .Eq (.bfn .len (.cons (.var 2) .nil)) (.con (.int 0)))
  .hole
  .nil)
  nr)
noncomputable def qT:CB:=
  (.cons (.asg (.name 2) (.call "that_read" (.cons (.var 0) (.cons (.var 1) .nil))))
  ny)
noncomputable def si:List Str:=["branches","nodes","tellings"]
noncomputable def k6:List Str:=["branches","nodes","tellings","told","found","one","other","places"]
noncomputable def jO:CB:=
  (.cons (.ret (.var 4))
  .nil)
noncomputable def jP:CB:=
  (.cons (.forr (.tup (.cons (.name 5) (.cons (.name 6) (.cons (.name 7) .nil)))) (.seq (.var 0))
  (.cons (.iff (.or (.cmp .In (.var 5) (.var 1)) (.cmp .In (.var 6) (.var 1)))
  (.cons (.expr (.meth1 .extend (.var 4) (.comp ["place"] [3] (.name 0) (.seq (.var 7)) (.yes (.cmp .NotIn (.var 0) (.var 1))) (.var 0))))
  .nil)
  .nil)
  .nil))
  jO)
noncomputable def jQ:CB:=
  (.cons (.asg (.name 4) (.lst .nil))
  jP)
noncomputable def lr:CB:=
  (.cons (.asgc 3 (.comp ["place","elder"] [] (.tup (.cons (.name 0) (.cons (.name 1) .nil))) (.seq (.var 2)) .no (.var 0)))
  jQ)
noncomputable def y6:List Str:=["table","tellings"]
noncomputable def qG:List Str:=["table","tellings","whole","nodes","unknown"]
noncomputable def nZ:CB:=
  (.cons (.ret (.bfn .tuple (.cons (.comp ["place","reading"] [4] (.tup (.cons (.name 0) (.cons (.name 1) .nil))) (.enumt (.idx (.var 3) (.con (.int 0)))) .no (.ite (.cmp .In (.var 0) (.var 2)) (.con .none) (.var 1))) .nil)))
  .nil)
noncomputable def n6:CB:=
  (.cons (.asg (.name 4) (.call "unknown_places" (.cons (.idx (.var 2) (.con (.int 1))) (.cons (.var 3) (.cons (.var 1) .nil)))))
  nZ)
noncomputable def n8:CB:=
  (.cons (.asg (.name 3) (.call "told_nodes" (.cons (.idx (.var 2) (.con (.int 0))) (.cons (.var 1) .nil))))
  n6)
noncomputable def n9:CB:=
  (.cons (.asg (.name 2) (.call "tree" (.cons (.var 0) .nil)))
  n8)
noncomputable def rA:CB:=
  (.cons (.expr (.call "need_tellings" (.cons (.var 0) (.cons (.var 1) .nil))))
  n9)
end K75
namespace K75
open PySem PySem.Spec PyProof.Rows L2 R Cp Lt Kc K21 K22 Lm M5 K32 K34
def TgV(H:Hp)(z:V)(q:Nat×Int):Prop:=∃a,z=V.ref a/\H a=some (.tup [.int q.1,.int q.2])
structure Tls(H:Hp)(l:Addr)(zs:List V)(ts:List (Nat×Int)):Prop where
 hl:H l=some (.lst zs)
 pr:Paired (TgV H) zs ts
theorem Tls.same(d:Tls H l zs ts)(s:aM H H'):Tls H' l zs ts:=⟨s _ _ d.hl,Paired.gh d.pr fun _ _ ⟨a,e,h⟩=>⟨a,e,s _ _ h⟩⟩
theorem Tls.gr{T:Tb}(d:Tls H l zs ts)(g:Gr T H H')(b:Tab T H):Tls H' l zs ts:=⟨g.lst b d.hl,Paired.gh d.pr fun _ _ ⟨a,e,h⟩=>⟨a,e,g.yx b h⟩⟩
structure Vt(n:Nat)(ts:List (Nat×Int)):Prop where
 ok:∀q∈ts,q.1<n/\(q.2=0\/q.2=1)
 nd:(ts.map (·.1)).Nodup
theorem Vt.len(v:Vt n ts):ts.length<=n:=by
 have :=L2.kZ v.nd (m:=aA n) fun x a=>by
  obtain⟨q,hq,rfl⟩:=ax.mp a;exact aQ.mpr (v.ok q hq).1
 rw[ai,aW]at this;exact this
theorem fW{α a:Type}{P:α->a->Prop}{xs:List α}{ys:List a}(h:Paired P xs ys){x:α}(e:xs[i]? =some x):∃y,ys[i]? =some y/\P x y:=K83.pr_at h e
noncomputable def spTg:Sp:=fun vs H Q _=>∃(a:Addr)(n p:Nat)(e:Int),vs=[.ref a,.int n]/\H a=some (.tup [.int p,.int e])/\p<n/\(e=0\/e=1)/\∀H',aM H H'->Q (.bl true) H'
theorem wp_tg(d:G.fn "is_whole" 1=some (spB isWhole,[]))(f:G.fn "is_reading" 1=some (spB cI,[])):Sat G K spTg rg qE:=by
 rintro vs H Q E ⟨a,n,p,e,rfl,b,hp,g,q⟩;unfold rg;change wpB G K _ _ _ [some (.ref a),some (.int n)] H;walk_at "wp";refine isi (zq b) .tuple ⟨_,rfl,?_⟩;rw[show tyName H (.ref a)="tuple" by show gH (H a)=_;rw[b];rfl,if_neg (by decide)];refine .inl ⟨a,_,rfl,.inr (SqT.of b),xH.mpr ⟨_,rfl,?_⟩⟩;rw[if_neg (by simp)];unfold nU;walk_at "wp";refine⟨_,_,d,.inr (.inl ⟨a,_,0,_,rfl,rfl,SqT.of b,rfl,.int p,rfl,zr,fun H1 c=>⟨_,rfl,?_⟩⟩)⟩;rw[show(!isWhole (.int p))=false from rfl,if_neg (by decide)];refine .inr (.inl ⟨a,_,0,_,rfl,rfl,SqT.of (c _ _ b),rfl,?_⟩);walk_at "wp";rw[if_pos (decide_eq_true (by lia:(0:Int)<=p)),if_neg (by rw[decide_eq_true (by lia:(p:Int)<n)];decide)];unfold nT;walk_at "wp";refine⟨_,_,f,.inr (.inl ⟨a,_,1,_,rfl,rfl,SqT.of (c _ _ b),rfl,.int e,rfl,zr,fun H2 s2=>?_⟩)⟩;rw[show cI (.int e)=true by rcases g with rfl|rfl<;>rfl];exact q _ (c.trans s2)
theorem zi{ks:List Key}(nd:ks.Nodup):(_root_.Q.met ks).length=ks.length:=by
 have a:=_root_.Q.CA ks;have b:=L2.kZ nd (m:=_root_.Q.met ks) fun x c=>_root_.Q.kj.mpr c;lia
noncomputable def spAt:Sp:=fun vs H Q _=>∃(l:Addr)(n:Nat)(zs:List V)(ts:List (Nat×Int)),vs=[.ref l,.int n]/\Tls H l zs ts/\Vt n ts/\n<=60/\∀H',aM H H'->Q (.bl true) H'
theorem wp_at(I:G.fn "is_telling" 2=some (spTg,[])):Sat G K spAt oa m9:=by
 rintro vs H Q E ⟨l,n,zs,ts,rfl,d,v,T,q⟩;have C:zs.length=ts.length:=K83.dY d.pr;have tl:=v.len;unfold oa;change wpB G K _ _ _ [some (.ref l),some (.int n)] H;walk_at "wp";refine isi (IH d.hl) .list ⟨_,rfl,?_⟩;rw[show tyName H (.ref l)="list" by show gH (H l)=_;rw[d.hl];rfl,if_neg (by decide)];unfold lP;walk_at "wp";refine cL (bD rfl (SqL.of d.hl) (dy cK (dc (by lia)) (fun H1 r=>SqL.of (r _ _ d.hl)) (fun i v _=>v=.bl true) (fun _ _ _ _ _ h=>h) (fun f=>∃u,f=[u,some (.int n)]) ⟨none,rfl⟩ ?_ ?_))
 ·rintro i x f D R hi ⟨u,rfl⟩ s3 p k
  obtain⟨g,hq,a,rfl,m⟩:=fW d.pr p;obtain⟨o1,o2⟩:=v.ok g (aC hq);walk_at "wp";exact⟨_,_,I,a,n,g.1,g.2,rfl,s3 _ _ m,o1,o2,fun j b=>k _ _ _ ⟨_,rfl⟩ b rfl⟩
 intro vs H2 l2 P J s2 M;have e:vs=((aA zs.length).map fun _=>true).map V.bl:=by rw[<-P];exact bool_list rfl J
 subst e;refine⟨l2,_,rfl,SqL.of ao,_,rfl,?_⟩;rw[show(((aA zs.length).map fun _=>true).all id)=true by rw[oR];simp,if_neg (by decide)];have s3:=s2.trans (aq (o:=.lst (((aA zs.length).map fun _=>true).map V.bl)) M);generalize upd H2 l2 (.lst (((aA zs.length).map fun _=>true).map V.bl))=D at s3;unfold lO;walk_at "wp";refine cL (bD rfl (SqL.of (s3 _ _ d.hl)) (dy cK (dc (by lia)) (fun H1 r=>SqL.of (r _ _ (s3 _ _ d.hl))) (fun i v _=>v=.int (((ts.map (·.1)).getD i 0:Nat):Int)) (fun _ _ _ _ _ h=>h) (fun f=>∃u w,f=[u,w]) ⟨none,none,rfl⟩ ?_ ?_))
 ·rintro i x f j R hi ⟨u,w,rfl⟩ b p k
  obtain⟨g,hq,a,rfl,m⟩:=fW d.pr p;refine⟨a,_,rfl,SqT.of ((s3.trans b) _ _ m),rfl,_,_,rfl,_,_,rfl,rfl,_,rfl,k _ _ _ ⟨_,_,rfl⟩ (aM.refl _) ?_⟩;rw[ae,av,hq];rfl
 intro vs j A S L b N;have F:vs=(ts.map fun q=>(dG (q.1:Int):Key)).map kV:=by
  rw[bf];apply bA
  ·rw[S,ai,C]
  ·intro i h1 h2
   rw[L i _ (aa h1),bj,ae,av,aa (by rw[ai]at h2;exact h2)];rfl
 subst F;refine⟨A,_,rfl,SqL.of ao,by rw[ai];lia,fun c y=>?_⟩;have B:=s3.trans (b.trans (aq (o:=.lst ((ts.map fun q=>(dG (q.1:Int):Key)).map kV)) N));generalize upd j A (.lst ((ts.map fun q=>(dG (q.1:Int):Key)).map kV))=H5 at B y;refine .inr (.inr ⟨c,_,rfl,ao,?_⟩);have s:=B.trans (aq (o:=_root_.Q.Am c (_root_.Q.met (ts.map fun q=>(dG (q.1:Int):Key))).length) y);have O:=s _ _ d.hl;refine .inl ⟨l,_,rfl,.inl (SqL.of O),jd.mpr ?_⟩;have t:=zi (ks:=ts.map fun q=>(dG (q.1:Int):Key)) (by
  have :=v.nd
  rw[kP,cQ]at this⊢;exact this.imp fun h z=>h (Int.ofNat.inj (dG.inj z)))
 rw[ai]at t;rw[t]at s⊢;rw[C,decide_eq_true rfl];exact q _ s
noncomputable def spNt(K:ah):Sp:=fun vs H Q _=>∃(t l:Addr)(nf:Nat->Str)(n:Nat)(ys zs:List V)(rows:List (List Int))(ts:List (Nat×Int)),vs=[.ref t,.ref l]/\Tn H t nf n ys rows/\ys≠[]/\Tls H l zs ts/\Vt n ts/\∀H',aM H H'->Q .non H'
theorem wp_nt(b:G.fn "place_count" 1=some (uc C,[]))(c:G.fn "are_tellings" 2=some (spAt,[])):Sat G K (spNt K) mz my:=by
 rintro vs H Q E ⟨t,l,nf,n,ys,zs,rows,ts,rfl,d,ne,tl,v,q⟩;have e:=d.n10;unfold mz;change wpB G K _ _ _ [some (.ref t),some (.ref l),none] H;walk_at "wp";refine⟨_,_,b,.ref t,rfl,d.tab.1,fun _ H1 a=>?_,fun z=>by(rw[d.tab.2.1]at z;cases z)⟩;rw[d.count ne];unfold ku;walk_at "wp";refine .inl ⟨t,_,rfl,.inl (SqL.of (a _ _ d.et)),jd.mpr ⟨_,rfl,?_⟩⟩;rw[if_neg (by simpa using fun z=>ne (a7.mp z))];unfold kq;walk_at "wp";refine⟨_,_,c,l,n,zs,ts,rfl,tl.same a,v,by lia,fun H2 s2=>⟨_,rfl,?_⟩⟩;rw[if_neg (by decide)];exact q _ (a.trans s2)
def NdV(K:ah)(H:Hp)(v:V)(k:List Int):Prop:=∃b,v=V.ref b/\SqT K H b (k.map V.int)
theorem NdV.same{v:V}{k:List Int}(h:NdV K H v k)(s:aM H H'):NdV K H' v k:=let⟨b,e,q⟩:=h;⟨b,e,s.tup q⟩
noncomputable def rdT(ts:List (Nat×Int))(v:List Int):Bool:=ts.all fun q=>decide (v.getD q.1 0=q.2)
theorem yp{α:Type}{P:V->α->Prop}(t:α->Bool):∀{xs:List V}{ds:List α},Paired P xs ds->Paired P (((xs.zip ds).filter fun p=>t p.2).map fun p=>p.1) (ds.filter t)
 |_,_,.nil=>.nil
 |x::xs,d::ds,.cons h r=>by
  have a:=yp t r;rw[tI,mS,mS];cases c:t d with
  |true=>exact .cons h a
  |false=>exact a
noncomputable def G9(K:ah):Sp:=fun vs H Q _=>∃(a l:Addr)(n:Nat)(us zs:List V)(ns:List (List Int))(ts:List (Nat×Int)),vs=[.ref a,.ref l]/\SqL K H a us/\Paired (NdV K H) us ns/\(∀v∈ns,v.length=n)/\ns.length<=61/\n<=60/\Tls H l zs ts/\(∀q∈ts,q.1<n/\(q.2=0\/q.2=1))/\ts.length<=60/\
 ∀H' b ws,aM H H'->H b=none->H' b=some (.lst ws)->Paired (NdV K H') ws (ns.filter (rdT ts))->Q (.ref b) H'
theorem wp_thr:Sat G K (G9 K) tu sT:=by
 rintro vs H Q E ⟨a,l,n,us,zs,ns,ts,rfl,s,g,O,a0,a1,d,v,tl,q⟩;have Y:us.length=ns.length:=K83.dY g;have Z:zs.length=ts.length:=K83.dY d.pr;unfold tu;change wpB G K _ _ _ [some (.ref a),some (.ref l)] H;walk_at "wp";refine cL (bD rfl s (mh Y cK (dc (by lia)) (fun H1 m=>m.seq s) (rdT ts) (fun x _=>x) (fun f=>∃u,f=[u,some (.ref l)]) ⟨none,rfl⟩ ?_ ?_))
 ·rintro i x k f H3 Rt Rf P t ⟨u,rfl⟩ s3 U kf
  obtain⟨k',y,b,rfl,J⟩:=fW g P;rw[t]at y;cases y;have T:=O k (aC t);walk_at "wp";refine cL (bD rfl (SqL.of (s3 _ _ d.hl)) (dy cK (dc (by lia)) (fun H1 m=>SqL.of (m _ _ (s3 _ _ d.hl))) (fun i v _=>v=.bl (decide (k.getD (ts.getD i (0,0)).1 0=(ts.getD i (0,0)).2))) (fun _ _ _ _ _ h=>h) (fun f=>∃u w,f=[u,w,some (.ref b)]) ⟨none,none,rfl⟩ ?_ ?_))
  ·rintro j z f D R hj ⟨u',w,rfl⟩ r S kk
   obtain⟨X,hq,c,rfl,M⟩:=fW d.pr S;obtain⟨o1,o2⟩:=v X (aC hq);have B:=s3.trans r;refine⟨c,_,rfl,SqT.of (B _ _ M),rfl,_,_,rfl,_,_,rfl,rfl,?_⟩;walk_at "wp";refine .inr (.inl ⟨b,_,_,_,rfl,rfl,B.tup J,cf (gT (by rw[T];exact o1)),jd.mpr (kk _ _ _ ⟨_,_,rfl⟩ (aM.refl _) ?_)⟩);rw[getD_some hq]
  ·intro bs D W L I r N
   have e:=bool_list L I;subst e;refine⟨W,_,rfl,SqL.of ao,_,rfl,?_⟩;have F:(((aA zs.length).map fun i=>decide (k.getD (ts.getD i (0,0)).1 0=(ts.getD i (0,0)).2)).all id)=rdT ts k:=by
    unfold rdT;rw[Z,<-rE ts (0,0) fun q:Nat×Int=>decide (k.getD q.1 0=q.2)]
   rw[F];have C:=r.trans (aq (o:=.lst (((aA zs.length).map fun i=>decide (k.getD (ts.getD i (0,0)).1 0=(ts.getD i (0,0)).2)).map V.bl)) N);cases c:rdT ts k with
   |true=>rw[if_pos rfl];exact U _ _ ⟨_,rfl⟩ C c
   |false=>rw[if_neg (by decide)];exact kf _ _ ⟨_,rfl⟩ C c
 ·intro H2 l2 s2 A
  have s3:=s2.trans (aq (o:=.lst (((us.zip ns).filter fun p=>rdT ts p.2).map fun p=>p.1)) A);exact q _ l2 _ s3 (s2.free A) ao (yp (rdT ts) (Paired.gh g fun _ _ h=>h.same s3))
noncomputable def spTn(K:ah):Sp:=fun vs H Q _=>∃(a l:Addr)(n:Nat)(us zs:List V)(ns:List (List Int))(ts:List (Nat×Int)),vs=[.ref a,.ref l]/\SqL K H a us/\Paired (NdV K H) us ns/\(∀v∈ns,v.length=n)/\ns.length<=61/\n<=60/\Tls H l zs ts/\Vt n ts/\ns.filter (rdT ts)≠[]/\
 ∀H' b ws,aM H H'->H b=none->H' b=some (.lst ws)->Paired (NdV K H') ws (ns.filter (rdT ts))->Q (.ref b) H'
theorem wp_tn(c:G.fn "that_read" 2=some (G9 K,[])):Sat G K (spTn K) qT qA:=by
 rintro vs H Q E ⟨a,l,n,us,zs,ns,ts,rfl,e,i,f,h,b,d,v,ne,q⟩;unfold qT;change wpB G K _ _ _ [some (.ref a),some (.ref l),none] H;walk_at "wp";refine⟨_,_,c,a,l,n,us,zs,ns,ts,rfl,e,i,f,h,b,d,v.ok,aG v.len b,fun H1 l1 ws j g h1 p1=>?_⟩;unfold ny;walk_at "wp";have k:=K83.dY p1;refine .inl ⟨l1,_,rfl,.inl (SqL.of h1),jd.mpr ⟨_,rfl,?_⟩⟩;rw[if_neg (by rw[k];exact fun z=>ne (a7.mp (by have :=of_decide_eq_true z;lia)))];unfold nr;walk_at "wp";exact q _ _ _ j g h1 p1
theorem xU:∀u v:List Int,lh (u.map L2.D.int) (v.map .int)=decide (u=v)
 | [],[]=>rfl
 | [],_::_=>rfl
 |_::_,[]=>rfl
 |a::u,b::v=>by
  show(eqD (.int a) (.int b)&&lh (u.map L2.D.int) (v.map .int))=_;rw[xU u v];have e:eqD (.int a) (.int b)=decide (a=b):=by
   show(a==b)=_;rw[cA,beq_iff_eq,decide_eq_true_eq]
  rw[e,cA,aH,decide_eq_true_eq,decide_eq_true_eq,decide_eq_true_eq,GH]
theorem CY(u v:List Int):eqD (K83.nd1 u) (K83.nd1 v)=decide (u=v):=xU u v
theorem uo:∀{us:List V}{ns:List (List Int)},Paired (NdV K H) us ns->ff K H (ns.map K83.nd1) us/\us.all isRef=true
 |_,_,.nil=>⟨rfl,rfl⟩
 |_,_,.cons ⟨b,e,h⟩ r=>by
  obtain⟨h1,h2⟩:=uo r;subst e;exact⟨⟨_,_,rfl,⟨b,_,rfl,h,ff.ints _⟩,h1⟩,h2⟩
theorem qL:∀ns:List (List Int),jo (ns.map K83.nd1)<=1
 | []=>aR _
 |v::ns=>by
  have :=qL ns
  have h1:hgt (K83.nd1 v)=1:=by show jo (v.map L2.D.int)+1=1;rw[oD]
  show max (hgt (K83.nd1 v)) (jo (ns.map K83.nd1))<=1;lia
theorem JP(ns:List (List Int))(v:List Int):((ns.map K83.nd1).any fun d=>eqD d (K83.nd1 v))=decide (v∈ns):=by
 rw[uI,cA,b8,decide_eq_true_eq];constructor
 ·rintro⟨x,a,e⟩
  have :x=v:=by
   have e:eqD (K83.nd1 x) (K83.nd1 v)=true:=e;rw[CY]at e;exact of_decide_eq_true e
  exact this▸a
 ·intro h
  refine⟨v,h,?_⟩;show eqD (K83.nd1 v) (K83.nd1 v)=true;rw[CY,decide_eq_true rfl]
theorem vO{p:Addr}{us:List V}{ns:List (List Int)}{x:V}{Q:VK}(h1:SqL K H p us)(h2:Paired (NdV K H) us ns)(a:NdV K H x v)(q:Q (.bl (decide (v∈ns))) H):gP K .In x (.ref p) H Q:=by
 obtain⟨d,e⟩:=uo h2;obtain⟨b,rfl,c⟩:=a;refine .inl (.inr ⟨p,us,_,K83.nd1 v,rfl,h1,e,⟨b,_,rfl,c,ff.ints _⟩,d,aG (qL ns) (by decide),?_⟩);rw[if_neg ak,JP];exact q
def TrV(K:ah)(H:Hp)(v:V)(x:M8.Tri):Prop:=∃c p q r,v=V.ref c/\SqT K H c [.ref p,.ref q,.ref r]/\SqT K H p (x.1.map V.int)/\SqT K H q (x.2.1.map V.int)/\SqT K H r (x.2.2.map V.int)
theorem Dv{vs:List V}(b:vs.length=m)(c:m=ts.length)(a:∀(i:Nat)(v:V),vs[i]? =some v->v=V.int (((ts.map (·.1)).getD i 0:Nat):Int)):vs=(ts.map fun q=>(q.1:Int)).map V.int:=by
 rw[bf];apply bA
 ·rw[b,ai,c]
 ·intro i h1 h2
  rw[a i _ (aa h1),bj,ae,av,aa (by rw[ai]at h2;exact h2)];rfl
theorem xT(t:Int->Bool):(((qs.map V.int).zip qs).filter fun p=>t p.2).map (fun p=>V.int p.2)=(qs.filter t).map V.int:=by
 conv =>rhs;rw[<-ju (l₁:=qs.map V.int) (l₂:=qs) (by rw[ai];exact ay _),fS,bf]
 rfl
noncomputable def unB(ns:List (List Int))(ts:List (Nat×Int))(x:M8.Tri):List Int:=if x.1∈ns\/x.2.1∈ns then x.2.2.filter fun p=>decide (p∉ts.map fun q=>(q.1:Int))else[]
noncomputable def spUp(K:ah):Sp:=fun vs H Q _=>∃(b a l:Addr)(bs us zs:List V)(xs:List M8.Tri)(ns:List (List Int))(ts:List (Nat×Int)),vs=[.ref b,.ref a,.ref l]/\SqL K H b bs/\Paired (TrV K H) bs xs/\xs.length<=60/\(∀x∈xs,x.2.2.length<=60)/\SqL K H a us/\Paired (NdV K H) us ns/\Tls H l zs ts/\ts.length<=60/\
 ∀H' f,aM H H'->H f=none->H' f=some (.lst ((xs.flatMap (unB ns ts)).map V.int))->Q (.ref f) H'
theorem A7{α:Type}{g:α->List Int}:∀{xs:List α},(∀x∈xs,(g x).length<=m)->(xs.flatMap g).length<=xs.length*m
 | [],_=>aR _
 |x::xs,h=>by
  have h1:=h x aL;have h2:=A7 (xs:=xs) fun y a=>h y (aO _ a);rw[dZ,aN,bg,Gz];lia
theorem Dq(ns:List (List Int))(ts:List (Nat×Int))(x:M8.Tri):(unB ns ts x).length<=x.2.2.length:=by
 unfold unB;split
 ·exact cP _ _
 ·exact aR _
theorem wp_up:Sat G K (spUp K) lr k6:=by
 rintro vs H Q E ⟨b,a,l,bs,us,zs,xs,ns,ts,rfl,U,pb,a9,Z,T,pn,d,a8,q⟩;have zl:zs.length=ts.length:=K83.dY d.pr;have bl:bs.length=xs.length:=K83.dY pb;unfold lr;change wpB G K _ _ _ [some (.ref b),some (.ref a),some (.ref l),none,none,none,none,none] H;walk_at "wp";refine cL (bD rfl (SqL.of d.hl) (dy cK (dc (by lia)) (fun H1 D=>SqL.of (D _ _ d.hl)) (fun i v _=>v=.int (((ts.map (·.1)).getD i 0:Nat):Int)) (fun _ _ _ _ _ h=>h) (fun F=>∃u w,F=[u,w]) ⟨none,none,rfl⟩ ?_ ?_))
 ·rintro i x F I R hi ⟨u,w,rfl⟩ e M k
  obtain⟨C,hq,c,rfl,N⟩:=fW d.pr M;refine⟨c,_,rfl,SqT.of (e _ _ N),rfl,_,_,rfl,_,_,rfl,rfl,_,rfl,k _ _ _ ⟨_,_,rfl⟩ (aM.refl _) ?_⟩;rw[ae,av,hq];rfl
 intro vs H1 tl a4 hF D a3;have e4:=Dv a4 zl hF;subst e4;have s2:=D.trans (aq (o:=.lst ((ts.map fun q=>(q.1:Int)).map V.int)) a3);have P:upd H1 tl (.lst ((ts.map fun q=>(q.1:Int)).map V.int)) tl=some (.lst ((ts.map fun q=>(q.1:Int)).map V.int)):=ao;generalize upd H1 tl (.lst ((ts.map fun q=>(q.1:Int)).map V.int))=H2 at s2 P;unfold jQ;walk_at "wp";refine⟨aR _,fun f hf=>?_⟩;have s3:=aq (o:=.lst []) hf;have n0:H f=none:=s2.free hf;unfold jP;walk_at "wp";refine fo (bD rfl ((s2.trans s3).seq U) (eL cK (fun i σ H'=>aM H2 H'/\H' f=some (.lst (((xs.take i).flatMap (unB ns ts)).map V.int))/\∃u v w,σ=[some (.ref b),some (.ref a),some (.ref l),some (.ref tl),some (.ref f),u,v,w])
  ⟨s3,ao,_,_,_,rfl⟩ (fun i σ H' _ s=>(s2.trans s.1).seq U) ?_ ?_))
 ·rintro i y σ H3 I O hi ⟨e,J,u,v,w,rfl⟩ t A S _
  obtain⟨x,M,c,p,C,r,rfl,N,hp,hq,X⟩:=fW pb t;have a7:=Z x (aC M);have n:=s2.trans (e.trans A);have L:=A _ _ J;have ex:xs.take (i+1)=xs.take i++[x]:=by rw[cg,M];rfl
  refine⟨c,_,rfl,n.tup N,rfl,_,_,rfl,_,_,rfl,_,_,rfl,rfl,?_⟩;have a0:=Paired.gh pn fun _ _ h=>h.same n;have no:¬(x.1∈ns\/x.2.1∈ns)->O.nx [some (.ref b),some (.ref a),some (.ref l),some (.ref tl),some (.ref f),some (.ref p),some (.ref C),some (.ref r)] I:=fun z=>by
   refine S _ _ ⟨e.trans A,?_,_,_,_,rfl⟩;rw[ex,eh,dZ,gW,cV,show unB ns ts x=[]from if_neg z,cV];exact L
  have a1:x.1∈ns\/x.2.1∈ns->tyV K "list" (V.ref f) I/\uQ (CU K (j3 7)) (km 0) (xn (tOp (gP K .NotIn) (j3 0) (j3 1))) (j3 0) (lX ["place"] [3]) [some (.ref b),some (.ref a),some (.ref l),some (.ref tl),some (.ref f),some (.ref p),some (.ref C),some (.ref r)] I fun x H1=>rMm .extend (.ref f) [x] H1 fun x H1=>O.nx [some (.ref b),some (.ref a),some (.ref l),some (.ref tl),some (.ref f),some (.ref p),some (.ref C),some (.ref r)] H1:=fun z=>by
   refine⟨.inl ⟨rfl,_,SqL.of L⟩,?_⟩;refine cL (oj rfl (n.tup X) (mh (ds:=x.2.2) (by rw[ai]) qv (dc (by rw[ai];lia)) (fun H1 D=>D.tup (n.tup X)) (fun m=>decide (m∉ts.map fun q=>(q.1:Int))) (fun _ m=>.int m) (fun F=>∃u,F=[u,some (.ref tl)]) ⟨none,rfl⟩ ?_ ?_))
   ·rintro j y m F H5 Rt Rf t hm ⟨u',rfl⟩ B kt kf
    rw[av,hm]at t;cases t;walk_at "wp";refine .inr ⟨tl,_,rfl,.inl (SqL.of (B _ _ ((e.trans A) _ _ P))),rfl,oE _,_,rfl,?_⟩;rw[if_pos rfl,uv];by_cases c:m∈ts.map fun q=>(q.1:Int)
    ·rw[if_neg (by rw[decide_eq_true c];decide)]
     exact kf _ _ ⟨_,rfl⟩ (aM.refl _) (by simpa using c)
    ·rw[if_pos (by rw[decide_eq_false c];rfl)]
     exact kt _ _ ⟨_,rfl⟩ (aM.refl _) (by simpa using c)
   ·intro H5 Y B W
    have e5:(((x.2.2.map V.int).zip x.2.2).filter fun p=>decide (p.2∉ts.map fun q=>(q.1:Int))).map (fun p=>V.int p.2)=(unB ns ts x).map V.int:=by
     unfold unB;rw[if_pos z];exact xT fun p=>decide (p∉ts.map fun q=>(q.1:Int))
    have a2:f≠Y:=bR (B _ _ L) W;have a5:((xs.take i).flatMap (unB ns ts)).length<=3600:=by
     have :=A7 (m:=60) (g:=unB ns ts) (xs:=xs.take i) fun y t=>aG (Dq ns ts y) (Z y (qj t))
     rw[bN]at this;have :min i xs.length*60<=60*60:=Nat.mul_le_mul (by lia) (ay _);lia
    have a6:=Dq ns ts x;rw[e5];refine⟨f,Y,_,_,rfl,rfl,by rw[bo a2];exact B _ _ L,ao,?_,?_⟩
    ·rw[ai,ai]
     exact aG (by lia:_<=4000) (by decide)
    ·refine S _ _ ⟨dW (dW ((e.trans A).trans B) (((e.trans A).trans B).free W)) hf,?_,_,_,_,rfl⟩
     rw[ao,ex,eh,dZ,gW,cV,c7]
  walk_at "wp"
  refine vO (n.seq T) a0 ⟨p,rfl,n.tup hp⟩ ⟨_,rfl,?_⟩;by_cases c1:x.1∈ns
  ·rw[if_pos (decide_eq_true c1),if_pos trivial]
   exact a1 (.inl c1)
  ·rw[if_neg (by simpa using c1)]
   refine vO (n.seq T) a0 ⟨C,rfl,n.tup hq⟩ ⟨_,rfl,?_⟩;by_cases c2:x.2.1∈ns
   ·rw[if_pos (decide_eq_true c2)]
    exact a1 (.inr c2)
   ·rw[if_neg (by simpa using c2)]
    exact no fun z=>z.elim c1 c2
 ·rintro σ H3 ⟨e,J,u,v,w,rfl⟩
  unfold jO;walk_at "wp";rw[bl,da]at J;exact q _ _ (s2.trans e) n0 J
noncomputable def stn(rows:List (List Int))(n:Nat)(ts:List (Nat×Int)):List (List Int):=(M8.lW (M8.nds rows n)).filter (rdT ts)
noncomputable def unk(rows:List (List Int))(n:Nat)(ts:List (Nat×Int)):List Int:=(M8.mM (M8.trs rows n)).flatMap (unB (stn rows n ts) ts)
noncomputable def knw(rows:List (List Int))(n:Nat)(ts:List (Nat×Int)):List V:=(aA n).map fun p:Nat=>if(p:Int)∈unk rows n ts then .non else .int (((stn rows n ts).headD []).getD p 0)
theorem vb:∀{ns:List (List Int)}{us:List V},ff K H (ns.map K83.nd1) us->Paired (NdV K H) us ns
 | [],us,h=>by
  obtain rfl:us=[]:=h;exact .nil
 |v::ns,us,h=>by
  obtain⟨x,r,rfl,h1,h2⟩:=h;exact .cons (zh h1) (vb h2)
theorem u9:∀{xs:List M8.Tri}{us:List V},ff K H (xs.map M8.triD) us->Paired (TrV K H) us xs
 | [],us,h=>by
  obtain rfl:us=[]:=h;exact .nil
 |v::xs,us,h=>by
  obtain⟨x,r,rfl,⟨c,cs,rfl,d,_,_,rfl,h1,_,_,rfl,h2,_,_,rfl,a,rfl⟩,b⟩:=h;obtain⟨p,rfl,hp⟩:=zh h1;obtain⟨q,rfl,hq⟩:=zh h2;obtain⟨f,rfl,e⟩:=zh a;exact .cons ⟨c,p,q,f,rfl,d,hp,hq,e⟩ (u9 b)
theorem plc_len(n:Nat)(P:Nat->Bool):(M5.plc n P).length<=n:=by
 unfold M5.plc;rw[ai];exact aG (cP _ _) (by rw[aW];exact ay _)
theorem stn_len(t:M7.Tbl rows n)(h:v∈stn rows n ts):M7.Fits rows n v/\rdT ts v=true:=by
 obtain⟨h1,h2⟩:=a9.mp h;exact⟨(M8.fA t).mp ((M9.mV (M8.jL t)).mem_iff.mp h1),h2⟩
noncomputable def spFr(K:ah)(T:Tb):Sp:=fun vs H Q _=>∃(t l:Addr)(nf:Nat->Str)(n:Nat)(ys zs:List V)(rows:List (List Int))(ts:List (Nat×Int)),vs=[.ref t,.ref l]/\Tn H t nf n ys rows/\ys≠[]/\Tab T H/\Tls H l zs ts/\Vt n ts/\stn rows n ts≠[]/\
 ∀H' p,Gr T H H'->H' p=some (.tup (knw rows n ts))->Q (.ref p) H'
theorem wp_fr{T:Tb}(g1:G.fn "need_tellings" 2=some (spNt K,[]))(g2:G.fn "tree" 1=some (K83.pO T,[]))(g3:G.fn "told_nodes" 2=some (spTn K,[]))(g4:G.fn "unknown_places" 3=some (spUp K,[])):
  Sat G K (spFr K T) rA qG:=by
 rintro vs H Q E ⟨t,l,nf,n,ys,zs,rows,ts,rfl,d,ne,tb,tl,v,ns,q⟩;have b3:=d.n10;have tbl:=d.tbl ne;unfold rA;change wpB G K _ _ _ [some (.ref t),some (.ref l),none,none,none] H;walk_at "wp";refine⟨_,_,g1,t,l,nf,n,ys,zs,rows,ts,rfl,d,ne,tl,v,fun H1 o=>?_⟩;have Y:=d.same o;have O:=(Gr.of (T:=T) o).tab tb;have b2:=tl.same o;unfold n9;walk_at "wp";refine⟨_,_,g2,GX (K:=K) (E:=fun _=>E) Y O (fun H2 p gr _ C=>?_) []⟩;rw[if_neg ne]at C;unfold M9.trD at C;obtain⟨_,_,e,hp,_,_,rfl,⟨nl,b1,rfl,a5,rn⟩,_,_,rfl,⟨bl,X,rfl,a2,rb⟩,rfl⟩:=C;cases e;have pn:=vb rn;have pb:=u9 rb;have M:=M9.mV (M8.jL tbl);have N:=M9.gO (M8.iB tbl);have b4:(M8.lW (M8.nds rows n)).length<=61:=by
  have :=M9.zg rows n
  rw[M.length_eq];lia
 have b5:(M8.mM (M8.trs rows n)).length<=60:=by
  have :=M9.Dt rows n
  rw[N.length_eq];lia
 have P:=b2.gr gr O;unfold n8;walk_at "wp";refine⟨_,_,g3,.inr (.inl ⟨p,_,0,_,rfl,rfl,hp,rfl,nl,l,n,b1,zs,_,ts,rfl,a5,pn,(fun u hu=>((M8.fA tbl).mp (M.mem_iff.mp hu)).1.1),by lia,by lia,P,v,ns,fun H3 l1 ws s3 n1 h1 B=>?_⟩)⟩;have vl:=v.len;unfold n6;walk_at "wp";refine⟨_,_,g4,.inr (.inl ⟨p,_,1,_,rfl,rfl,s3.tup hp,rfl,bl,l1,l,X,ws,zs,_,_,ts,rfl,s3.seq a2,(Paired.gh pb fun _ _ ⟨c,p,q,r,e,h1,h2,h3,b⟩=>⟨c,p,q,r,e,s3.tup h1,s3.tup h2,s3.tup h3,s3.tup b⟩),by lia,(fun x hx=>?_),SqL.of h1,B,P.same s3,by lia,fun F f s n4 b=>?_⟩)⟩
 ·obtain⟨j,_,_,rfl⟩:=(M8.gS tbl).mp (N.mem_iff.mp hx)
  exact aG (plc_len _ _) (by lia)
 have b:F f=some (.lst ((unk rows n ts).map V.int)):=b;have a0:Gr T H F:=(Gr.of (T:=T) o).trans (gr.trans (Gr.of (s3.trans s)));have a1:=s _ _ h1;obtain⟨D,g⟩:∃D,(stn rows n ts)[0]? =some D:=by
  cases c:stn rows n ts with
  |nil=>exact absurd c ns
  |cons a r=>exact⟨a,rfl⟩
 have S:0<ws.length:=by
  rw[K83.dY B];exact(aD.mp g).1
 obtain⟨A,a9,W,Z,J⟩:=fW B (aa S);have ev:A=D:=a6 (a9.symm.trans g);subst ev;have lv:A.length=n:=(stn_len tbl (aC g)).1.1.1;have a3:(stn rows n ts).headD []=A:=by
  cases c:stn rows n ts with
  |nil=>exact absurd c ns
  |cons a r=>rw[c]at g;cases g;rfl
 unfold nZ;walk_at "wp";refine cL ?_;simp only[CT];walk_at "wp";refine .inl ⟨l1,_,0,_,rfl,rfl,SqL.of a1,(cf (j:=0) (by rw[aa S,Z]):atI ws ((0:Nat):Int)=_),?_⟩;refine⟨W,rfl,⟨_,s.tup J⟩,?_⟩;refine dy xA (dc (by rw[ai];lia)) (fun I m=>m.tup (s.tup J)) (fun i w _=>w=if(i:Int)∈unk rows n ts then .non else .int (A.getD i 0)) (fun _ _ _ _ _ h=>h) (fun U=>∃u w,U=[u,w,some (.ref f)]) ⟨none,none,rfl⟩ ?_ ?_
 ·rintro i x U I R hi ⟨u,w,rfl⟩ m ⟨c,y,rfl,hc,L⟩ k
  rw[ai]at hi;rw[gT hi]at L;cases L;refine⟨c,_,rfl,SqT.of hc,rfl,_,_,rfl,_,_,rfl,rfl,?_⟩;walk_at "wp";refine .inr ⟨f,_,rfl,.inl (SqL.of (m _ _ b)),rfl,oE _,_,rfl,?_⟩;rw[if_neg ak,uv];by_cases z:(i:Int)∈unk rows n ts
  ·rw[if_pos (decide_eq_true z)]
   exact k _ _ _ ⟨_,_,rfl⟩ (aM.refl _) (if_pos z).symm
  ·rw[if_neg (by exact fun y=>z (of_decide_eq_true y))]
   exact k _ _ _ ⟨_,_,rfl⟩ (aM.refl _) (if_neg z).symm
 ·intro us I l5 a8 hF m a4
  have e:us=knw rows n ts:=by
   unfold knw;rw[a3];exact K83.vals_eq (by rw[a8,ai,lv]) hF
  subst e;refine⟨l5,_,rfl,.inl ⟨SqL.of ao,fun p5 a7=>?_⟩⟩;exact q _ p5 (a0.trans (Gr.of ((m.trans (aq a4)).trans (aq a7)))) ao
section
variable {rows:List (List Int)}{n:Nat}{ts:List (Nat×Int)}
theorem kh(t:M7.Tbl rows n):v∈stn rows n ts↔M7.Fits rows n v/\rdT ts v=true:=by
 unfold stn;rw[a9,(M9.mV (M8.jL t)).mem_iff,M8.fA t]
theorem unk_mem(t:M7.Tbl rows n)(hp:p<n):(p:Int)∈unk rows n ts->p∉ts.map (·.1):=by
 intro h z;unfold unk at h;obtain⟨x,_,a⟩:=cY.mp h;unfold unB at a;split at a
 ·obtain⟨_,h2⟩:=a9.mp a
  obtain⟨q,hq,e⟩:=ax.mp z;exact of_decide_eq_true h2 (ax.mpr ⟨q,hq,by rw[e]⟩)
 ·cases a
theorem unk_of(t:M7.Tbl rows n)(hp:p<n)(hz:grp rows p≠0)(a:M7.below rows n p∈stn rows n ts)(d:p∉ts.map (·.1)):(p:Int)∈unk rows n ts:=by
 unfold unk;have f:M8.tri rows n p∈M8.mM (M8.trs rows n):=(M9.gO (M8.iB t)).mem_iff.mpr ((M8.gS t).mpr ⟨p,hp,hz,rfl⟩);refine cY.mpr ⟨_,f,?_⟩;have b:(M8.tri rows n p).1∈stn rows n ts\/(M8.tri rows n p).2.1∈stn rows n ts:=by
  have ne:=M7.qQ t hp;have tr:=_root_.Q.iH ne;unfold M8.tri M4.lo M4.hi;dsimp only;cases c:_root_.Q.llt (M7.below rows n p) (M7.gI rows n p)with
  |true=>rw[if_pos rfl];exact .inl a
  |false=>
   rw[c]at tr;have tr:_root_.Q.llt (M7.gI rows n p) (M7.below rows n p)=true:=tr;rw[tr,if_neg (by decide),if_pos rfl];exact .inr a
 unfold unB;rw[if_pos b];refine a9.mpr ⟨?_,decide_eq_true fun z=>?_⟩
 ·exact(M5.ki hp).mpr (by unfold M5.own;simp)
 ·obtain⟨q,hq,e⟩:=ax.mp z
  exact d (ax.mpr ⟨q,hq,by lia⟩)
end
end K75
namespace K76
open PySem PySem.Spec PyProof.Rows L2 R Cp Lt Kc K21 K22 Lm M5 K32 K34 K75
section
variable {rows:List (List Int)}{n:Nat}{ts ts':List (Nat×Int)}
theorem Aq{w:List Int}(h:rdT ts w=true){q:Nat×Int}(hq:q∈ts):w.getD q.1 0=q.2:=of_decide_eq_true (bB.mp h q hq)
theorem agree(t:M7.Tbl rows n)(P:Vt n ts)(hp:p<n){u:List Int}(W:u∈stn rows n ts)(X:v∈stn rows n ts)(h:(p:Int)∉unk rows n ts):u.getD p 0=v.getD p 0:=by
 obtain⟨m,M⟩:=(kh t).mp W;obtain⟨o,N⟩:=(kh t).mp X;apply aI;intro f;obtain⟨Z,U,Q,_⟩:=m.2 p p hp hp;obtain⟨r2,V,R,_⟩:=o.2 p p hp hp;have l:grp rows p≠0:=(M9.qt t).mpr ⟨Z,U,r2,V,by rw[Q,R];exact f⟩;refine h (unk_of t hp l ((kh t).mpr ⟨M7.pZ t l,bB.mpr fun q hq=>decide_eq_true ?_⟩) fun z=>?_)
 ·have g:=(P.ok q hq).1
  have u1:=Aq M hq;have O:=Aq N hq;obtain⟨K,H,A,B⟩:=m.2 p q.1 hp g;obtain⟨L,I,C,D⟩:=o.2 p q.1 hp g;have c:¬M7.Cls rows p q.1:=fun c=>f (by rw[<-A,<-C];exact(c K H L I).mpr (by rw[B,D,u1,O]));obtain⟨r,G,s,J,d,h1,h2⟩:=M7.vV t l c;have S:(M7.below rows n p).getD q.1 0=if M4.sub (grp rows) (grp rows p) q.1=true then 1-fr rows q.1 else fr rows q.1:=M7.gQ g
  rw[<-S]at h1 h2;obtain⟨a,b,F,T,k⟩:=t.mis' (i:=p) (j:=q.1) (fun e=>c (by rw[<-e];exact fun _ _ _ _=>Iff.rfl)) hp g;apply aI;intro hw;by_cases e:b=q.2
  ·rcases M7.two (m.1.at p) (o.1.at p) F f with e'|e'
   ·exact k K H ⟨by rw[A,e'],by rw[B,u1,e]⟩
   ·exact k L I ⟨by rw[C,e'],by rw[D,O,e]⟩
  ·have E:(M7.below rows n p).getD q.1 0=b:=by
    have a0:=(M7.pZ t l).1.at q.1;have Y:=(P.ok q hq).2;rcases a0 with w|w<;>rcases Y with x|x<;>rcases T with y|y<;>lia
   rcases M7.two ((t.ok r G).at p) ((t.ok s J).at p) F d with e'|e'
   ·exact k r G ⟨e',by rw[h1,E]⟩
   ·exact k s J ⟨e',by rw[h2,E]⟩
 ·obtain⟨q,hq,e⟩:=ax.mp z
  have e:q.1=p:=e;exact f (by rw[<-e,Aq M hq,Aq N hq])
end
end K76
namespace Mt
open Q M4
noncomputable def onp(par:Nat->Nat)(e:Nat):Nat->Nat->Bool
 | 0,_=>false
 |f+1,v=>if v=0 then false else decide (v=e)||onp par e f (par v)
noncomputable def on(par:Nat->Nat)(e v:Nat):Bool:=onp par e v v
section
variable {par:Nat->Nat}{e f:Nat}{N:Nat}(hp:∀v,1<=v->v<N->par v<v)
include hp
theorem vq:∀(k v:Nat),v<N->v<=k->onp par e k v=onp par e v v
 | 0,v,_,h=>by
  obtain rfl:v=0:=by lia
  rfl
 |k+1,v,hv,h=>by
  by_cases h0:v=0
  ·subst h0
   rfl
  ·obtain⟨u,rfl⟩:∃u,v=u+1:=⟨v-1,by lia⟩
   have a:=hp (u+1) (by lia) hv;show(if u+1=0 then false else decide (u+1=e)||onp par e k (par (u+1)))=(if u+1=0 then false else decide (u+1=e)||onp par e u (par (u+1)));rw[vq k (par (u+1)) (by lia) (by lia),vq u (par (u+1)) (by lia) (by lia)]
theorem jc{v:Nat}(h1:1<=v)(a:v<N):on par e v=(decide (v=e)||on par e (par v)):=by
 obtain⟨u,rfl⟩:∃u,v=u+1:=⟨v-1,by lia⟩;have b:=hp (u+1) (by lia) a;show(if u+1=0 then false else decide (u+1=e)||onp par e u (par (u+1)))=_;rw[if_neg (by lia),vq hp u (par (u+1)) (by lia) (by lia)];rfl
theorem m3:∀(v:Nat),v<N->on par e v=true->e<=v/\1<=e:=fun v=>by
 induction v using kc with
 |ind v ih=>
  intro a h;by_cases h0:v=0
  ·subst h0
   cases h
  ·rw[jc hp (by lia) a,cW,decide_eq_true_eq]at h
   rcases h with h|h
   ·lia
   ·have b:=hp v (by lia) a
    have :=ih (par v) b (by lia) h
    lia
theorem iF{v:Nat}(h1:1<=v)(a:v<N):on par v v=true:=by
 rw[jc hp h1 a];simp
theorem vy:∀(v:Nat),v<N->on par e v=true->on par f v=true->f<=e->on par f e=true:=fun v=>by
 induction v using kc with
 |ind v ih=>
  intro b h1 h2 d;by_cases h0:v=0
  ·subst h0
   cases h1
  ·by_cases he:v=e
   ·rw[<-he]
    exact h2
   ·have c:=hp v (by lia) b
    have a:=h1;rw[jc hp (by lia) b,decide_eq_false he,bL]at a;have :=m3 hp (par v) (by lia) a;rw[jc hp (by lia) b,decide_eq_false (by lia:¬v=f),bL]at h2;exact ih (par v) c (by lia) a h2 d
theorem vx:∀(v:Nat),v<N->on par e v=true->on par f e=true->on par f v=true:=fun v=>by
 induction v using kc with
 |ind v ih=>
  intro a h1 h2;by_cases h0:v=0
  ·subst h0
   cases h1
  ·by_cases he:v=e
   ·rw[he]
    exact h2
   ·have b:=hp v (by lia) a
    rw[jc hp (by lia) a,decide_eq_false he,bL]at h1;rw[jc hp (by lia) a,ih (par v) b (by lia) h1 h2,EU]
theorem Il{a b c d:Nat}(k:a<N)(l:b<N)(m:c<N)(g:on par e a=true/\on par f a=true)(j:on par e b=true/\on par f b=false)(i:on par e c=false/\on par f c=true):False:=by
 by_cases h:f<=e
 ·have :=vx hp b l j.1 (vy hp a k g.1 g.2 h)
  rw[j.2]at this;cases this
 ·have :=vx hp c m i.2 (vy hp a k g.2 g.1 (by lia))
  rw[i.1]at this;cases this
end
noncomputable def rdv(f:Nat->Int)(own par:Nat->Nat)(v p:Nat):Int:=if on par (own p) v=true then 1-f p else f p
noncomputable def nd(f:Nat->Int)(own par:Nat->Nat)(n v:Nat):List Int:=(aA n).map (rdv f own par v)
theorem vC{f:Nat->Int}{own par:Nat->Nat}{v:Nat}:(nd f own par n v).length=n:=by simp[nd]
theorem dI{f:Nat->Int}{own par:Nat->Nat}{v:Nat}(h:p<n):(nd f own par n v).getD p 0=rdv f own par v p:=by
 unfold nd;rw[ae,av,bJ h];rfl
theorem rdv_bit{f:Nat->Int}{own par:Nat->Nat}{v:Nat}(hf:f p=0\/f p=1):rdv f own par v p=0\/rdv f own par v p=1:=by
 unfold rdv;split <;>lia
theorem Hv{f:Nat->Int}{own par:Nat->Nat}:rdv f own par 0 p=f p:=by
 unfold rdv;rw[if_neg (by intro h;cases h)]
section
variable {f:Nat->Int}{own par:Nat->Nat}{n N:Nat}(hp:∀v,1<=v->v<N->par v<v)(hf:∀p,p<n->f p=0\/f p=1)
include hp hf
theorem Hw{v:Nat}(h1:1<=v)(a:v<N)(b:p<n):(rdv f own par (par v) p+(if own p=v then 1 else 0))%2=rdv f own par v p:=by
 have c:=hp v h1 a;unfold rdv;rw[jc hp h1 a];have d:=hf p b;by_cases h:v=own p
 ·have :on par (own p) (par v)=false:=by
   cases q:on par (own p) (par v)with
   |false=>rfl
   |true=>
    have :=m3 hp (par v) (by lia) q
    lia
  rw[this,decide_eq_true h,if_pos h.symm];simp only[Bool.true_or,if_true,aU,if_false];lia
 ·rw[decide_eq_false h,if_neg (bS h),bL]
  split <;>lia
theorem sf{v:Nat}(a:p<n):on par (own p) v=decide (rdv f own par v p≠f p):=by
 have b:=hf p a;unfold rdv;cases on par (own p) v with
 |true=>simp;lia
 |false=>simp
theorem AJ(hi:i<j)(d:j<N)(g:∃p,p<n/\own p=j):nd f own par n j≠nd f own par n i:=fun h=>by
 obtain⟨p,c,e⟩:=g;have q:rdv f own par j p=rdv f own par i p:=by rw[<-dI (n:=n) c,h,dI c]
 have a:=sf (own:=own) (v:=j) hp hf c;have b:=sf (own:=own) (v:=i) hp hf c;rw[q,<-b,e,iF hp (by lia) d]at a;have :=m3 hp i (by lia) a.symm;lia
end
end Mt
namespace Bm
open Mt
section
variable {par:Nat->Nat}{N:Nat}(hp:∀v,1<=v->v<N->par v<v)
noncomputable def kids(par:Nat->Nat)(N v:Nat):List Nat:=(aA N).filter fun u=>decide (1<=u/\par u=v)
theorem eA{v u:Nat}:u∈kids par N v↔u<N/\1<=u/\par u=v:=by
 unfold kids;rw[a9,aQ,decide_eq_true_eq]
theorem ur{v:Nat}:(kids par N v).Nodup:=wK.sublist ke
theorem other{l:List Nat}(nd:l.Nodup)(h:2<=l.length)(x:Nat):∃u∈l,u≠x:=by
 match l,nd,h with
 |a::b::r,nd,_=>
  by_cases e:a=x
  ·refine⟨b,by simp,fun z=>?_⟩
   rw[bI]at nd;exact nd.1 (by rw[e,<-z];simp)
  ·exact⟨a,by simp,e⟩
theorem third{l:List Nat}(nd:l.Nodup)(h:3<=l.length)(x y:Nat):∃u∈l,u≠x/\u≠y:=by
 match l,nd,h with
 |a::b::c::r,nd,_=>
  simp only[bI,aE,not_or]at nd;obtain⟨⟨ab,i,_⟩,⟨j,_⟩,_⟩:=nd;apply aI;intro f;have d:∀u∈a::b::c::r,u=x\/u=y:=fun u g=>by
   apply aI
   intro k;exact f ⟨u,g,fun e=>k (.inl e),fun e=>k (.inr e)⟩
  have m:=d a (by simp);have n:=d b (by simp);have o:=d c (by simp);lia
noncomputable def near(par:Nat->Nat)(N v:Nat):Nat:=(kids par N v).length+if v=0 then 0 else 1
include hp
theorem lZ{u e:Nat}(a:u<N)(h1:1<=u):on par e u=(decide (u=e)||on par e (par u)):=jc hp h1 a
def Und(par:Nat->Nat)(c g:Nat):Prop:=(c=0/\1<=g)\/(on par c g=true/\g≠c)
theorem Dp{c u g:Nat}(b:u<N)(h1:1<=u)(e:par u=c)(a:g<N)(h:on par u g=true):Und par c g:=by
 by_cases c0:c=0
 ·exact .inl ⟨c0,by have :=m3 hp g a h;lia⟩
 ·have d:=hp u h1 b
  rw[e]at d;have h2:on par c u=true:=by
   rw[lZ hp b h1,e,iF hp (by lia) (by lia),EU]
  have :=m3 hp g a h
  exact .inr ⟨vx hp g a h h2,by lia⟩
theorem down{cp:Nat->Prop}(t:∀v,v<N->¬cp v->3<=near par N v){e g:Nat}(i:g<N):∀(k c:Nat),N-c<=k->c<N->¬Und par c g->∃d,d<N/\cp d/\on par e d=on par e c/\on par g d=on par g c:=by
 intro k
 induction k with
 |zero=>intro c h f;lia
 |succ k ih=>
  intro c h f l;by_cases hcp:cp c
  ·exact⟨c,f,hcp,rfl,rfl⟩
  ·have j:=t c f hcp
   have h2:2<=(kids par N c).length:=by
    unfold near at j;split at j<;>lia
   obtain⟨u,r,q⟩:=other ur h2 e;obtain⟨u1,a,b⟩:=eA.mp r;have w:=hp u a u1;have s:u≠g:=fun z=>l (Dp hp u1 a b i (by rw[<-z];exact iF hp a u1));obtain⟨d,m,n,o,p⟩:=ih u (by lia) u1 fun z=>by
    rcases z with⟨z,_⟩ |⟨z,_⟩
    ·lia
    ·exact l (Dp hp u1 a b i z)
   refine⟨d,m,n,?_,?_⟩
   ·rw[o,lZ hp u1 a,decide_eq_false q,bL,b]
   ·rw[p,lZ hp u1 a,decide_eq_false s,bL,b]
theorem toward{v e:Nat}(a:e<N)(j:v<N):Und par v e->∃u,u∈kids par N v/\on par u e=true:=by
 induction e using kc with
 |ind e ih=>
  intro h;have b:1<=e:=by
   rcases h with⟨_,h⟩ |⟨h,_⟩
   ·exact h
   ·have :=m3 hp e a h;lia
  have d:=hp e b a;by_cases c:par e=v
  ·exact⟨e,eA.mpr ⟨a,b,c⟩,iF hp b a⟩
  ·have h':Und par v (par e):=by
    rcases h with⟨h0,_⟩ |⟨h,f⟩
    ·exact .inl ⟨h0,by lia⟩
    ·rw[jc hp b a,decide_eq_false f,bL]at h
     exact .inr ⟨h,c⟩
   obtain⟨u,i,g⟩:=ih (par e) d (by lia) h';exact⟨u,i,by rw[jc hp b a,g,EU]⟩
theorem oB{v u w e:Nat}(n:e<N)(p:u∈kids par N v)(q:w∈kids par N v)(h1:on par u e=true)(h2:on par w e=true):u=w:=by
 obtain⟨a,b,c⟩:=eA.mp p;obtain⟨d,f,g⟩:=eA.mp q;have key:∀{x y:Nat},x<N->1<=x->par x=v->y<N->1<=y->par y=v->on par x e=true->on par y e=true->x<=y->x=y:=fun{x y} i j A k l m r s t=>by
  apply aI
  intro o;have :=vy hp e n s r t;rw[jc hp l k,decide_eq_false (fun z=>o z.symm),bL,m]at this;have B:=hp x j i;have :=m3 hp v (by lia) this;lia
 rcases Nat.le_total u w with h|h
 ·exact key a b c d f g h1 h2 h
 ·exact(key d f g a b c h2 h1 h).symm
theorem there{cp:Nat->Prop}(p:∀v,v<N->¬cp v->3<=near par N v){v e g:Nat}(b:v<N)(s:e<N)(n:g<N):∃d,d<N/\cp d/\on par e d=on par e v/\on par g d=on par g v:=by
 by_cases hcp:cp v
 ·exact⟨v,b,hcp,rfl,rfl⟩
 have D:=p v b hcp;refine(rM (Und par v g)).elim (fun O=>?_) (fun O=>down hp p n _ v (ay _) b O);refine(rM (Und par v e)).elim (fun M=>?_) (fun M=>let⟨d,j,k,l,m⟩:=down hp p (e:=g) s _ v (ay _) b M;⟨d,j,k,m,l⟩);obtain⟨f,o,o1⟩:=toward hp s b M;obtain⟨i,w,o2⟩:=toward hp n b O;obtain⟨G,H,Z⟩:=eA.mp o;obtain⟨r,B,I⟩:=eA.mp w;have step:∀u,u∈kids par N v->u≠e->u≠g->¬Und par u g->∃d,d<N/\cp d/\on par e d=on par e v/\on par g d=on par g v:=fun u a L F h=>by
  obtain⟨u1,y,A⟩:=eA.mp a;obtain⟨d,j,k,l,m⟩:=down hp p n _ u (ay _) u1 h;refine⟨d,j,k,?_,?_⟩
  ·rw[l,lZ hp u1 y,decide_eq_false L,bL,A]
  ·rw[m,lZ hp u1 y,decide_eq_false F,bL,A]
 have U:∀{u},u∈kids par N v->u≠i->¬Und par u g:=fun{u} a t z=>by
  rcases z with⟨z,_⟩ |⟨z,_⟩
  ·have :=(eA.mp a).2.1
   lia
  ·exact t (oB hp n a w z o2)
 have nk:∀{u x},u∈kids par N v->x<N->(∀c,c∈kids par N v->on par c x=true->u≠c)->u≠x:=fun{u x} a hx h z=>h u a (by rw[<-z];exact iF hp (eA.mp a).2.1 (eA.mp a).1) rfl;by_cases t3:∃u∈kids par N v,u≠f/\u≠i
 ·obtain⟨u,a,L,F⟩:=t3
  exact step u a (fun z=>L (oB hp s a o (by rw[<-z];exact iF hp (eA.mp a).2.1 (eA.mp a).1) o1)) (fun z=>F (oB hp n a w (by rw[<-z];exact iF hp (eA.mp a).2.1 (eA.mp a).1) o2)) (U a F)
 have a4:(kids par N v).length<=2:=fE fun h=>t3 (third ur h f i);have v0:v≠0:=fun z=>by
  unfold near at D;rw[if_pos z]at D;lia
 have a0:2<=(kids par N v).length:=by
  unfold near at D;rw[if_neg v0]at D;lia
 have C:f≠i:=fun z=>by
  obtain⟨u,a,t⟩:=other ur a0 f;exact t3 ⟨u,a,t,z▸t⟩
 refine(rM (f=e)).elim (fun J=>?_) (fun J=>?_)
 rotate_left
 ·exact step f o J (fun z=>C (oB hp n o w (by rw[<-z];exact iF hp H G) o2)) (U o C)
 refine(rM (i=g)).elim (fun K=>?_) (fun K=>?_)
 rotate_left
 ·obtain⟨d,j,k,l,m⟩:=down hp p (e:=g) s _ i (ay _) r (fun z=>by
   rcases z with⟨z,_⟩ |⟨z,_⟩
   ·lia
   ·exact C (oB hp s o w o1 z))
  refine⟨d,j,k,?_,?_⟩
  ·rw[m,lZ hp r B,decide_eq_false (fun z=>C (oB hp s o w o1 (by rw[<-z];exact iF hp B r))),bL,I]
  ·rw[l,lZ hp r B,decide_eq_false K,bL,I]
 have E:1<=v:=by lia
 have hw:=hp v E b;have h1:=hp f H G;have h2:=hp i B r;have W:on par e v=on par e (par v):=by rw[jc hp E b,decide_eq_false (by lia),bL]
 have X:on par g v=on par g (par v):=by rw[jc hp E b,decide_eq_false (by lia),bL]
 by_cases hcw:cp (par v)
 ·exact⟨par v,by lia,hcw,W.symm,X.symm⟩
 have S:=p (par v) (by lia) hcw;have kw:2<=(kids par N (par v)).length:=by
  unfold near at S;split at S<;>lia
 obtain⟨u,a,t⟩:=other ur kw v;obtain⟨u1,y,A⟩:=eA.mp a;have h3:=hp u y u1;have V:∀{x},x<N->1<=x->par x=v->on par u x=false/\u≠x:=fun{x} x1 x2 Y=>by
  have T:u≠x:=fun z=>by rw[<-z,A]at Y;lia
  refine⟨?_,T⟩;rw[jc hp x2 x1,decide_eq_false (fun z=>T z.symm),bL,Y,jc hp E b,decide_eq_false (fun z=>t z.symm),bL];cases q:on par u (par v)with
  |false=>rfl
  |true=>have :=m3 hp _ (by lia) q;lia
 obtain⟨f1,P⟩:=V G H Z;obtain⟨Q,R⟩:=V r B I;rw[J]at f1 P;rw[K]at Q R;obtain⟨d,j,k,l,m⟩:=down hp p (e:=e) n _ u (ay _) u1 (fun z=>by
  rcases z with⟨z,_⟩ |⟨z,_⟩
  ·lia
  ·rw[Q]at z;cases z)
 refine⟨d,j,k,?_,?_⟩
 ·rw[l,lZ hp u1 y,decide_eq_false P,bL,A,W]
 ·rw[m,lZ hp u1 y,decide_eq_false R,bL,A,X]
end
end Bm
namespace K74
open PySem PySem.Spec PyProof.Rows L2 R Cp Lt Kc K21 K22 Lm M5 K32 K34 K75 K76
section
variable {rows left:List (List Int)}{n:Nat}{ts:List (Nat×Int)}
theorem lo_hi{a b:List Int}:(M4.lo a b=a\/M4.lo a b=b)/\(M4.hi a b=a\/M4.hi a b=b):=by
 unfold M4.lo M4.hi;constructor<;>split <;>first |exact .inl rfl|exact .inr rfl
theorem unk_iff(t:M7.Tbl rows n)(hp:p<n):(p:Int)∈unk rows n ts↔p∉ts.map (·.1)/\grp rows p≠0/\∃x∈K75.stn rows n ts,M7.End rows n p x:=by
 constructor
 ·intro h
  refine⟨unk_mem t hp h,?_⟩;unfold unk at h;obtain⟨x,k,i⟩:=cY.mp h;obtain⟨j,u,d,rfl⟩:=(M8.gS t).mp ((M9.gO (M8.iB t)).mem_iff.mp k);unfold unB at i;split at i
  ·rename_i c
   obtain⟨h1,_⟩:=a9.mp i;have e:grp rows p=grp rows j:=of_decide_eq_true ((M5.ki hp).mp h1);have o:M8.tri rows n j=M8.tri rows n p:=by rw[<-M8.oo,<-M8.oo,e]
   rw[o]at c;have d:grp rows p≠0:=by rw[e];exact d
   have ends:∀v,v=M7.gI rows n p\/v=M7.below rows n p->M7.End rows n p v:=fun v h=>by
    rcases h with rfl|rfl
    ·exact M7.ll t hp d
    ·exact M7.iV t hp d
   refine⟨d,?_⟩;rcases c with c|c
   ·exact⟨_,c,ends _ lo_hi.1⟩
   ·exact⟨_,c,ends _ lo_hi.2⟩
  ·cases i
 ·rintro⟨s,d,x,k,l⟩
  unfold unk;have i:M8.tri rows n p∈M8.mM (M8.trs rows n):=(M9.gO (M8.iB t)).mem_iff.mpr ((M8.gS t).mpr ⟨p,hp,d,rfl⟩);refine cY.mpr ⟨_,i,?_⟩;have m:x=M7.gI rows n p\/x=M7.below rows n p:=by
   have a:=M7.zQ (rows:=rows) hp;have b:=M7.uB (rows:=rows) hp;have f:=t.f01 p;rcases l.ok.at p with z|z<;>rcases f with g|g
   ·exact .inl (M7.End.one t hp l (M7.ll t hp d) (by rw[z,a,g]))
   ·exact .inr (M7.End.one t hp l (M7.iV t hp d) (by rw[z,b,g];rfl))
   ·exact .inr (M7.End.one t hp l (M7.iV t hp d) (by rw[z,b,g];rfl))
   ·exact .inl (M7.End.one t hp l (M7.ll t hp d) (by rw[z,a,g]))
  have r:(M8.tri rows n p).1∈K75.stn rows n ts\/(M8.tri rows n p).2.1∈K75.stn rows n ts:=by
   have tr:=_root_.Q.iH (M7.qQ t hp);unfold M8.tri M4.lo M4.hi;dsimp only;cases c:_root_.Q.llt (M7.below rows n p) (M7.gI rows n p)with
   |true=>
    rw[c]at tr;have tr:_root_.Q.llt (M7.gI rows n p) (M7.below rows n p)=false:=tr;rw[tr,if_pos rfl,if_neg (by decide)];rcases m with e|e
    ·exact .inr (e▸k)
    ·exact .inl (e▸k)
   |false=>
    rw[c]at tr;have tr:_root_.Q.llt (M7.gI rows n p) (M7.below rows n p)=true:=tr;rw[tr,if_neg (by decide),if_pos rfl];rcases m with e|e
    ·exact .inl (e▸k)
    ·exact .inr (e▸k)
  unfold unB;rw[if_pos r];refine a9.mpr ⟨(M5.ki hp).mpr (by unfold M5.own;simp),decide_eq_true fun z=>?_⟩;obtain⟨q,hq,e⟩:=ax.mp z;exact s (ax.mpr ⟨q,hq,by lia⟩)
end
end K74
namespace Bm
open Mt
structure Bk(f:Nat->Int)(own par:Nat->Nat)(n N:Nat)(rows:List (List Int)):Prop where
 hp:∀v,1<=v->v<N->par v<v
 hf:∀p,p<n->f p=0\/f p=1
 ow:∀p,p<n->own p<N
 has:∀e,1<=e->e<N->∃p,p<n/\own p=e
 row:∀r∈rows,∃v,v<N/\r=nd f own par n v
 cp:∀v,v<N->near par N v<=2->nd f own par n v∈rows
 tb:M7.Tbl rows n
section
variable {f:Nat->Int}{own par:Nat->Nat}{n N:Nat}{rows:List (List Int)}
theorem mZ{u v:Nat}(h:on par (own p) u=on par (own p) v):rdv f own par u p=rdv f own par v p:=by
 unfold rdv;rw[h]
theorem nd_ok(hf:∀p,p<n->f p=0\/f p=1)(v:Nat):M6.Ok n (nd f own par n v):=⟨vC,fun x a=>by
 unfold nd at a;obtain⟨p,hp,rfl⟩:=ax.mp a;exact rdv_bit (hf p (aQ.mp hp))⟩
theorem Bk.fits(b:Bk f own par n N rows){v:Nat}(c:v<N):M7.Fits rows n (nd f own par n v):=by
 refine⟨nd_ok b.hf v,fun i j hi a=>?_⟩;obtain⟨d,m,e,g,l⟩:=there b.hp (cp:=fun v=>nd f own par n v∈rows) (fun v c h=>by
  apply aI
  intro k;exact h (b.cp v c (by lia))) c (b.ow i hi) (b.ow j a)
 exact⟨_,e,by rw[dI hi,dI hi];exact mZ g,by rw[dI a,dI a];exact mZ l⟩
theorem Bk.C0(b:Bk f own par n N rows)(hp:p<n)(h1:1<=own p):rdv f own par (own p) p≠rdv f own par (par (own p)) p:=fun z=>by
 have h2:=b.ow p hp;have d:=b.hp _ h1 h2;have a:=sf (own:=own) (v:=own p) b.hp b.hf hp;have c:=sf (own:=own) (v:=par (own p)) b.hp b.hf hp;rw[z,<-c,iF b.hp h1 h2]at a;have :=m3 b.hp _ (by lia) a.symm;lia
theorem Bk.same(b:Bk f own par n N rows)(hp:p<n)(h1:1<=own p)(h:own q≠own p):rdv f own par (own p) q=rdv f own par (par (own p)) q:=
 mZ (by rw[jc b.hp h1 (b.ow p hp),decide_eq_false (fun z=>h z.symm),bL])
theorem Bk.cls(b:Bk f own par n N rows)(hp:p<n)(hq:q<n)(h:own q=own p):M7.Cls rows p q:=by
 intro r a s c;obtain⟨u,e,rfl⟩:=b.row r a;obtain⟨v,g,rfl⟩:=b.row s c;rw[dI hp,dI hp,dI hq,dI hq];have fp:=b.hf p hp;have d:=b.hf q hq;unfold rdv;rw[h];cases on par (own p) u<;>cases on par (own p) v<;>simp <;>lia
theorem Bk.ends(b:Bk f own par n N rows)(hp:p<n)(h1:1<=own p):M7.End rows n p (nd f own par n (own p))/\M7.End rows n p (nd f own par n (par (own p))):=by
 have h2:=b.ow p hp;have w:=b.hp _ h1 h2;have fa:=b.fits h2;have i:=b.fits (show par (own p)<N by lia);have u:=b.C0 hp h1;have k:∀q,q<n->¬M7.Cls rows p q->∃r∈rows,∃s∈rows,r.getD p 0≠s.getD p 0/\r.getD q 0=rdv f own par (own p) q/\s.getD q 0=rdv f own par (own p) q/\rdv f own par (own p) q=rdv f own par (par (own p)) q:=fun q hq c=>by
  have v:own q≠own p:=fun z=>c (b.cls hp hq z);have t:=b.same hp h1 v;obtain⟨r,a,l,m⟩:=fa.2 p q hp hq;obtain⟨s,d,o,s2⟩:=i.2 p q hp hq;rw[dI hp]at l o;rw[dI hq]at m s2;exact⟨r,a,s,d,by rw[l,o];exact u,m,by rw[s2,t],t⟩
 refine⟨⟨fa.1,fun q hq _=>fa.2 p q hp hq,fun q hq c=>?_⟩,⟨i.1,fun q hq _=>i.2 p q hp hq,fun q hq c=>?_⟩⟩
 ·obtain⟨r,a,s,d,e,g,h,_⟩:=k q hq c
  exact⟨r,a,s,d,e,by rw[dI hq];exact g,by rw[dI hq];exact h⟩
 ·obtain⟨r,a,s,d,e,g,h,j⟩:=k q hq c
  exact⟨r,a,s,d,e,by rw[dI hq,<-j];exact g,by rw[dI hq,<-j];exact h⟩
theorem Bk.end_iff(b:Bk f own par n N rows)(hp:p<n)(h1:1<=own p){x:List Int}:M7.End rows n p x↔x=nd f own par n (own p)\/x=nd f own par n (par (own p)):=by
 obtain⟨a,d⟩:=b.ends hp h1;constructor
 ·intro h
  have i:=b.C0 hp h1;have j:=h.ok.at p;have e:=a.ok.at p;have g:=d.ok.at p;rw[dI hp]at e g;by_cases c:x.getD p 0=rdv f own par (own p) p
  ·exact .inl (M7.End.one b.tb hp h a (by rw[dI hp];exact c))
  ·exact .inr (M7.End.one b.tb hp h d (by rw[dI hp];lia))
 ·rintro(rfl|rfl)
  ·exact a
  ·exact d
theorem Bk.E4(b:Bk f own par n N rows)(hp:p<n):K32.grp rows p≠0↔1<=own p:=by
 rw[M9.qt b.tb];constructor
 ·rintro⟨r,a,s,c,d⟩
  obtain⟨u,h,rfl⟩:=b.row r a;obtain⟨v,i,rfl⟩:=b.row s c;rw[dI hp,dI hp]at d;apply Nat.one_le_iff_ne_zero.mpr;intro z;apply d;have o0:∀w,w<N->on par (own p) w=false:=fun w j=>by
   cases q:on par (own p) w with
   |false=>rfl
   |true=>have :=m3 b.hp w j q;lia
  exact mZ (by rw[o0 u h,o0 v i])
 ·intro h1
  have h2:=b.ow p hp;have k:=b.hp _ h1 h2;obtain⟨r,a,e,_⟩:=(b.fits h2).2 p p hp hp;obtain⟨s,c,g,_⟩:=(b.fits (show par (own p)<N by lia)).2 p p hp hp;rw[dI hp]at e g;exact⟨r,a,s,c,by rw[e,g];exact b.C0 hp h1⟩
theorem Bk.mem(b:Bk f own par n N rows):M7.Fits rows n v↔∃k,k<N/\v=nd f own par n k:=by
 constructor
 ·intro h
  rcases M7.DQ b.tb h with e|⟨p,hp,c,e⟩
  ·have d:M4.bl (K32.fr rows) n (fun _=>false)=rows.getD 0 []:=M7.Eo (M4.hV _ _ _) (b.tb.ok _ b.tb.first).1 fun i hi=>by
    rw[M7.gQ hi,if_neg ak];rfl
   rw[d]at e;obtain⟨k,a,g⟩:=b.row _ b.tb.first;exact⟨k,a,e.trans g⟩
  ·have h1:=(b.E4 hp).mp c
   have h2:=b.ow p hp;have j:=b.hp _ h1 h2;rcases(b.end_iff hp h1).mp (M7.iV b.tb hp c)with e4|e4
   ·exact⟨own p,h2,e.trans e4⟩
   ·exact⟨par (own p),by lia,e.trans e4⟩
 ·rintro⟨k,a,rfl⟩
  exact b.fits a
theorem Bk.inj(b:Bk f own par n N rows)(hi:i<N)(a:j<N)(e:nd f own par n i=nd f own par n j):i=j:=by
 apply aI
 intro c;rcases Nat.lt_or_gt_of_ne c with h|h
 ·exact AJ b.hp b.hf h a (b.has j (by lia) a) e.symm
 ·exact AJ b.hp b.hf h hi (b.has i (by lia) hi) e
noncomputable def nodes(f:Nat->Int)(own par:Nat->Nat)(n N:Nat):List (List Int):=(aA N).map (nd f own par n)
theorem Bk.Im(b:Bk f own par n N rows):(nodes f own par n N).Nodup:=by
 unfold nodes;rw[kP,cQ];refine cZ.mpr fun i j hi a c z=>?_;rw[aW]at hi a;rw[fO,fO]at z;exact absurd (b.inj hi a z) (by lia)
theorem Bk.perm(b:Bk f own par n N rows):(M8.nds rows n).Perm (nodes f own par n N):=by
 refine(z7 (M8.jL b.tb) b.Im).mpr fun v=>?_;rw[M8.fA b.tb,b.mem];unfold nodes;rw[ax];constructor
 ·rintro⟨k,a,e⟩
  exact⟨k,aQ.mpr a,e.symm⟩
 ·rintro⟨k,a,e⟩
  exact⟨k,aQ.mp a,e.symm⟩
theorem Bk.sorted(b:Bk f own par n N rows):M8.lW (M8.nds rows n)=M8.lW (nodes f own par n N):=M9.xr (M8.jL b.tb) b.perm
end
section
variable {f:Nat->Int}{own par:Nat->Nat}{n N:Nat}{rows:List (List Int)}{ts:List (Nat×Int)}
theorem Bk.bears(b:Bk f own par n N rows){v:Nat}(a:v<N):nd f own par n v∈K75.stn rows n ts↔K75.rdT ts (nd f own par n v)=true:=by
 rw[K75.kh b.tb];exact⟨fun h=>h.2,fun h=>⟨b.fits a,h⟩⟩
theorem Bk.up(b:Bk f own par n N rows)(d:∀q∈ts,q.1<n){u v:Nat}(l:u<v)(j:v<N)(g:K75.rdT ts (nd f own par n u)=true)(h:K75.rdT ts (nd f own par n v)=true):K75.rdT ts (nd f own par n (par v))=true:=by
 unfold K75.rdT at g h⊢;rw[bB]at g h⊢;intro q hq;have a:=of_decide_eq_true (g q hq);have c:=of_decide_eq_true (h q hq);rw[dI (d q hq)]at a c;refine decide_eq_true ?_;rw[dI (d q hq),<-c];by_cases e:own q.1=v
 ·exfalso
  have i:=sf (own:=own) (v:=v) b.hp b.hf (d q hq);have k:=sf (own:=own) (v:=u) b.hp b.hf (d q hq);rw[c,<-a,<-k,e,iF b.hp (by lia) j]at i;have :=m3 b.hp u (by lia) i.symm;lia
 ·refine mZ ?_
  rw[jc (e:=own q.1) b.hp (by lia) j,decide_eq_false (fun z=>e z.symm),bL]
theorem Bk.less(b:Bk f own par n N rows)(j:∀q∈ts,q.1<n)(T:Nat->Bool)(a:∀v,T v=K75.rdT ts (nd f own par n v)):∀{L:List Nat},(aA N).filter T=L->L≠[]->(L.filter fun v=>decide (1<=v)&&T (par v)).length+1=L.length
 | [],_,h=>absurd rfl h
 |t::r,e,_=>by
  have i:(t::r).Pairwise (·<·):=e▸i5.filter T;have mem:∀v,v∈t::r↔v<N/\T v=true:=fun v=>by rw[<-e,a9,aQ]
  have lt:=(tK.mp i).1;have c:=(mem t).mp (.head _);have z:(decide (1<=t)&&T (par t))=false:=by
   cases q:decide (1<=t)&&T (par t)with
   |false=>rfl
   |true=>
    rw[aH]at q;have h1:=of_decide_eq_true q.1;have h2:=b.hp t h1 c.1;rcases aE.mp ((mem (par t)).mpr ⟨by lia,q.2⟩)with h|h
    ·lia
    ·have :=lt _ h
     lia
  have g:r.filter (fun v=>decide (1<=v)&&T (par v))=r:=rW.mpr fun v d=>by
   have h1:=lt v d;have h2:=(mem v).mp (.tail _ d);rw[aH];refine⟨decide_eq_true (by lia),?_⟩;rw[a];exact b.up j h1 h2.1 (by rw[<-a];exact c.2) (by rw[<-a];exact h2.2)
  rw[mS,if_neg (by rw[z];exact ak),g,bg]
theorem Bk.two(b:Bk f own par n N rows){v:Nat}(h1:1<=v)(a:v<N):nd f own par n v≠nd f own par n (par v):=AJ b.hp b.hf (b.hp v h1 a) a (b.has v h1 a)
theorem Bk.tri(b:Bk f own par n N rows)(hp:p<n)(h1:1<=own p):(M8.tri rows n p).1=M4.lo (nd f own par n (own p)) (nd f own par n (par (own p)))/\(M8.tri rows n p).2.1=M4.hi (nd f own par n (own p)) (nd f own par n (par (own p))):=
 M7.Bb b.tb hp ((b.E4 hp).mpr h1) (b.ends hp h1).1 (b.ends hp h1).2 (b.two h1 (b.ow p hp))
theorem Bk.Ef(b:Bk f own par n N rows)(hi:i<n)(hp:p<n)(h1:1<=own i)(h2:1<=own p)(e:(M8.tri rows n i).1=(M8.tri rows n p).1/\(M8.tri rows n i).2.1=(M8.tri rows n p).2.1):own i=own p:=by
 have d:=b.tri hi h1;have g:=b.tri hp h2;have o1:=b.ow i hi;have o2:=b.ow p hp;have j:=b.hp _ h1 o1;have k:=b.hp _ h2 o2;rcases M4.lohi (d.1.symm.trans (e.1.trans g.1)) (d.2.symm.trans (e.2.trans g.2)) (b.two h1 o1) (b.two h2 o2)with h|h
 ·exact b.inj o1 o2 h.1
 ·have a:=b.inj o1 (by lia) h.1
  have c:=b.inj (by lia) o2 h.2;lia
theorem Bk.few(b:Bk f own par n N rows)(hf:∀v,1<=v->((aA n).filter fun p=>decide (own p=v)).length<=m){x:M8.Tri}(d:x∈M8.trs rows n):x.2.2.length<=m:=by
 obtain⟨p,hp,a,rfl⟩:=(M8.gS b.tb).mp d;have h1:=(b.E4 hp).mp a;show(M5.plc n (M5.own (K32.grp rows) (K32.grp rows p))).length<=m;unfold M5.plc;rw[ai];refine aG ?_ (hf _ h1);have e:(aA n).filter (M5.own (K32.grp rows) (K32.grp rows p))=((aA n).filter fun i=>decide (own i=own p)).filter (M5.own (K32.grp rows) (K32.grp rows p)):=by
  rw[List.filter_filter];refine mw fun i hi=>?_;cases c:M5.own (K32.grp rows) (K32.grp rows p) i with
  |false=>rfl
  |true=>
   have hi:=aQ.mp hi;have e:K32.grp rows i=K32.grp rows p:=of_decide_eq_true c;have h2:=(b.E4 hi).mp (by rw[e];exact a);rw[eF];exact(decide_eq_true (b.Ef hi hp h2 h1 (by rw[<-M8.oo,<-M8.oo,e];exact⟨rfl,rfl⟩))).symm
 rw[e];exact cP _ _
theorem yf{x y:List Int}{S:List (List Int)}(h:x≠y):(M4.lo x y∈S/\M4.hi x y∈S)↔x∈S/\y∈S:=by
 have tr:=_root_.Q.iH h;unfold M4.lo M4.hi;rw[tr];cases _root_.Q.llt y x<;>simp[and_comm]
theorem Bk.part(b:Bk f own par n N rows)(I:∀q∈ts,q.1<n)(B:K75.stn rows n ts≠[]):((M8.mM (M8.trs rows n)).filter fun x=>decide (x.1∈K75.stn rows n ts)&&decide (x.2.1∈K75.stn rows n ts)).length+1=(K75.stn rows n ts).length:=by
 have t:∀v,(fun v=>K75.rdT ts (nd f own par n v)) v=K75.rdT ts (nd f own par n v):=fun _=>rfl;have len:(K75.stn rows n ts).length=((aA N).filter fun v=>K75.rdT ts (nd f own par n v)).length:=by
  have p1:(M8.lW (M8.nds rows n)).Perm (nodes f own par n N):=(K83.iT [] (M8.jL b.tb) rfl).trans b.perm;have p2:=(p1.filter (K75.rdT ts)).length_eq;show((M8.lW (M8.nds rows n)).filter (K75.rdT ts)).length=_;rw[p2];unfold nodes;rw[fS,ai];rfl
 have ne:((aA N).filter fun v=>K75.rdT ts (nd f own par n v))≠[]:=fun z=>B (a7.mp (by rw[len,z];rfl));rw[len,<-b.less I _ t rfl ne];congr 1;have F:=(M9.gO (M8.iB b.tb)).filter fun x:M8.Tri=>decide (x.1∈K75.stn rows n ts)&&decide (x.2.1∈K75.stn rows n ts);rw[F.length_eq];obtain⟨g,d⟩:∃g:Nat->Nat,∀e,1<=e->e<N->g e<n/\own (g e)=e:=by
  refine⟨fun e=>if h:1<=e/\e<N then(b.has e h.1 h.2).choose else 0,fun e h1 h2=>?_⟩;simp only[dif_pos (show 1<=e/\e<N from⟨h1,h2⟩)];exact(b.has e h1 h2).choose_spec
 rw[<-ai (f:=fun v=>M8.tri rows n (g v))];have E:(M8.trs rows n).Nodup:=List.Pairwise.of_map M8.key (fun _ _ h e=>h (by rw[e])) (M8.iB b.tb);have i:∀v,v∈((aA N).filter fun v=>K75.rdT ts (nd f own par n v)).filter (fun v=>decide (1<=v)&&K75.rdT ts (nd f own par n (par v)))↔v<N/\1<=v/\nd f own par n v∈K75.stn rows n ts/\nd f own par n (par v)∈K75.stn rows n ts:=fun v=>by
  rw[a9,a9,aQ,aH,decide_eq_true_eq];constructor
  ·rintro⟨⟨h1,h2⟩,c,l⟩
   have :=b.hp v c h1
   exact⟨h1,c,(b.bears h1).mpr h2,(b.bears (by lia)).mpr l⟩
  ·rintro⟨h1,c,h2,l⟩
   have :=b.hp v c h1
   exact⟨⟨h1,(b.bears h1).mp h2⟩,c,(b.bears (by lia)).mp l⟩
 refine List.Perm.length_eq ((z7 (E.filter _) ?_).mpr fun x=>?_)
 ·rw[kP,cQ]
  refine((i5.filter _).filter _).imp_of_mem fun{v w} m C L e=>?_;obtain⟨j,k,_⟩:=(i v).mp m;obtain⟨J,K,_⟩:=(i w).mp C;obtain⟨a,r⟩:=d v k j;obtain⟨A,M⟩:=d w K J;have :=b.Ef a A (by lia) (by lia) (by rw[e];exact⟨rfl,rfl⟩);lia
 ·rw[a9,M8.gS b.tb,ax,aH,decide_eq_true_eq,decide_eq_true_eq]
  constructor
  ·rintro⟨⟨p,hp,D,rfl⟩,h⟩
   have h1:=(b.E4 hp).mp D;have h2:=b.ow p hp;have s:=b.tri hp h1;rw[s.1,s.2,yf (b.two h1 h2)]at h;obtain⟨u,y⟩:=d _ h1 h2;refine⟨own p,(i _).mpr ⟨h2,h1,h.1,h.2⟩,?_⟩;rw[<-M8.oo,<-M8.oo,(b.tb.cls).mpr (b.cls u hp y.symm)]
  ·rintro⟨v,m,rfl⟩
   obtain⟨j,k,G,H⟩:=(i v).mp m;obtain⟨a,r⟩:=d v k j;have o:=b.tri a (by lia);rw[r]at o;refine⟨⟨g v,a,(b.E4 a).mpr (by lia),rfl⟩,?_⟩;rw[o.1,o.2,yf (b.two k j)];exact⟨G,H⟩
end
end Bm
namespace K64
open K75
noncomputable def flp(v:List Int)(q:Int):List Int:=v.set q.toNat (1-v.getD q.toNat 0)
noncomputable def eV:List (List Int)->List Int->List (List Int)
 |L,[]=>L
 |L,q::qs=>eV (L++L.map fun v=>flp v q) qs
theorem flp_off{q:Int}(h:q.toNat≠p):(flp v q).getD p 0=v.getD p 0:=by
 unfold flp;rw[ae,qo h,ae]
theorem flp_on{q:Int}(h:q.toNat=p)(hp:p<v.length):(flp v q).getD p 0=1-v.getD p 0:=by
 unfold flp;rw[h,ae,oP hp];rfl
theorem Em{q:Int}:(flp v q).length=v.length:=by simp[flp]
theorem BA:∀{qs:List Int}{L:List (List Int)}{v:List Int},v∈L->v∈eV L qs
 | [],_,_,h=>h
 |_::qs,_,_,h=>BA (qs:=qs) (cj _ h)
theorem By:∀{qs:List Int}{L:List (List Int)},(∀q∈qs,q.toNat≠p)->∀m∈eV L qs,∃v∈L,m.getD p 0=v.getD p 0
 | [],_,_,m,h=>⟨m,h,rfl⟩
 |q::qs,L,hq,m,h=>by
  obtain⟨v,hv,e⟩:=By (qs:=qs) (fun z b=>hq z (.tail _ b)) m h;rcases bQ.mp hv with hv|hv
  ·exact⟨v,hv,e⟩
  ·obtain⟨u,a,rfl⟩:=ax.mp hv
   exact⟨u,a,e.trans (flp_off (hq q (.head _)))⟩
theorem flp_ok{q:Int}(h:M6.Ok n v):M6.Ok n (flp v q):=⟨Em.trans h.1,fun x a=>by
 have b:=h.at q.toNat;rcases List.mem_or_eq_of_mem_set a with h1|h1
 ·exact h.2 x h1
 ·lia⟩
theorem EK:∀{qs:List Int}{L:List (List Int)},(∀v∈L,M6.Ok n v)->∀m∈eV L qs,M6.Ok n m
 | [],_,h,m,hm=>h m hm
 |q::qs,L,h,m,hm=>EK (qs:=qs) (fun v hv=>by
  rcases bQ.mp hv with hv|hv
  ·exact h v hv
  ·obtain⟨u,a,rfl⟩:=ax.mp hv
   exact flp_ok (h u a)) m hm
theorem Bz:∀{qs:List Int}{L:List (List Int)},(∀v∈L,v.length=n)->∀m∈eV L qs,m.length=n
 | [],_,h,m,hm=>h m hm
 |q::qs,L,h,m,hm=>Bz (qs:=qs) (fun v hv=>by
  rcases bQ.mp hv with hv|hv
  ·exact h v hv
  ·obtain⟨u,a,rfl⟩:=ax.mp hv
   rw[Em];exact h u a) m hm
theorem EJ:∀{qs:List Int}{L:List (List Int)}{v:List Int},(p:Int)∈qs->v∈L->p<v.length->∃m∈eV L qs,m.getD p 0=1-v.getD p 0
 |q::qs,L,v,hq,hv,hp=>by
  by_cases e:(p:Int)=q
  ·exact⟨flp v q,BA (qs:=qs) (aS _ (ax.mpr ⟨v,hv,rfl⟩)),flp_on (by rw[<-e];rfl) hp⟩
  ·refine EJ (qs:=qs) ?_ (cj _ hv) hp
   rcases aE.mp hq with h|h
   ·exact absurd h e
   ·exact h
theorem wu:∀{qs:List Int}{L:List (List Int)},(eV L qs).length=L.length*2^qs.length
 | [],L=>by simp[eV]
 |q::qs,L=>by
  show(eV (L++L.map fun v=>flp v q) qs).length=_;rw[wu,aN,ai,bg,Nat.pow_succ,<-Nat.mul_two,Nat.mul_assoc,GA 2]
noncomputable def fre(ts:List (Nat×Int))(qs:List Int):List Int:=qs.filter fun p=>decide (p∉ts.map fun q=>(q.1:Int))
noncomputable def amB(S:List (List Int))(ts:List (Nat×Int))(x:M8.Tri):List (List Int):=(if x.1∈S then eV [x.1] (fre ts x.2.2)else[])++if x.2.1∈S then eV [x.2.1] (fre ts x.2.2)else[]
noncomputable def whr(S:List (List Int))(ts:List (Nat×Int))(xs:List M8.Tri):List (List Int):=S++xs.flatMap (amB S ts)
noncomputable def jZ(rows:List (List Int))(n:Nat)(ts:List (Nat×Int)):List (List Int):=whr (stn rows n ts) ts (M8.mM (M8.trs rows n))
section
variable {rows:List (List Int)}{n:Nat}{ts:List (Nat×Int)}
theorem whrT_ok(t:M7.Tbl rows n):∀m∈jZ rows n ts,M6.Ok n m:=by
 intro m hm;have ok:∀v,v∈stn rows n ts->M6.Ok n v:=fun v a=>((kh t).mp a).1.1;rcases bQ.mp hm with hm|hm
 ·exact ok m hm
 ·obtain⟨x,_,hm⟩:=cY.mp hm
  unfold amB at hm;rcases bQ.mp hm with hm|hm
  all_goals
   split at hm
   ·rename_i c
    exact EK (fun v a=>by rw[aT.mp a];exact ok _ c) m hm
   ·cases hm
theorem GR(t:M7.Tbl rows n)(hp:p<n)(h:(p:Int)∈unk rows n ts):(∃m∈jZ rows n ts,m.getD p 0=0)/\∃m∈jZ rows n ts,m.getD p 0=1:=by
 unfold unk at h;obtain⟨x,k,d⟩:=cY.mp h;unfold unB at d;split at d
 ·rename_i c
  have key:∀v,v∈stn rows n ts->(∀m,m∈eV [v] (fre ts x.2.2)->m∈amB (stn rows n ts) ts x)->(∃m∈jZ rows n ts,m.getD p 0=0)/\∃m∈jZ rows n ts,m.getD p 0=1:=fun v g j=>by
   obtain⟨f,_⟩:=(kh t).mp g;have a:∃m∈jZ rows n ts,m.getD p 0=v.getD p 0:=⟨v,cj _ g,rfl⟩;obtain⟨m,i,e⟩:=EJ (L:=[v]) d (.head _) (by rw[f.1.1];exact hp);have b:∃m∈jZ rows n ts,m.getD p 0=1-v.getD p 0:=⟨m,aS _ (cY.mpr ⟨x,k,j m i⟩),e⟩;rcases f.1.at p with z|z
   ·rw[z]at a b
    exact⟨a,b⟩
   ·rw[z]at a b
    exact⟨b,a⟩
  rcases c with c|c
  ·exact key _ c fun m h=>cj _ (by rw[if_pos c];exact h)
  ·exact key _ c fun m h=>aS _ (by rw[if_pos c];exact h)
 ·cases d
theorem ways_kn(t:M7.Tbl rows n)(f:Vt n ts)(hp:p<n)(h:(p:Int)∉unk rows n ts){u:List Int}(a:u∈stn rows n ts):∀m∈jZ rows n ts,m.getD p 0=u.getD p 0:=by
 intro m hm;rcases bQ.mp hm with hm|hm
 ·exact K76.agree t f hp hm a h
 ·obtain⟨x,b,hm⟩:=cY.mp hm
  have d:(x.1∈stn rows n ts\/x.2.1∈stn rows n ts)->∀q∈fre ts x.2.2,q.toNat≠p:=fun c q hq e=>h (by
   unfold unk;refine cY.mpr ⟨x,b,?_⟩;unfold unB;rw[if_pos c];have :q=(p:Int):=by
    obtain⟨j,_,_,rfl⟩:=(M8.gS t).mp ((M9.gO (M8.iB t)).mem_iff.mp b);have h0:=(a9.mp hq).1;unfold M8.tri M5.plc at h0;obtain⟨i,_,l⟩:=ax.mp h0;lia
   rw[<-this];exact hq)
  have key:∀v,v∈stn rows n ts->(∀q∈fre ts x.2.2,q.toNat≠p)->m∈eV [v] (fre ts x.2.2)->m.getD p 0=u.getD p 0:=fun v g o hm=>by
   obtain⟨z,k,e⟩:=By o m hm;rw[e,aT.mp k];exact K76.agree t f hp g a h
  unfold amB at hm;rcases bQ.mp hm with hm|hm
  ·split at hm
   ·rename_i c
    exact key _ c (d (.inl c)) hm
   ·cases hm
  ·split at hm
   ·rename_i c
    exact key _ c (d (.inr c)) hm
   ·cases hm
end
end K64
namespace Bt
open PySem R
noncomputable def Ay:List Str:=["_law_cell","_law_k"]
noncomputable def sV:List Str:=["_law_cell","_law_k"]
noncomputable def tB:CB:=
  (.cons (.ret (.bin .Mod (.bin .Mult (.bin .Add (.bin .Mod (.bin .FloorDiv (.var 0) (.con (.int 7))) (.bin .Pow (.con (.int 10)) (.con (.int 30)))) (.con (.int 1))) (.bin .Add (.con (.int 48271)) (.bin .Mult (.bin .Mult (.con (.int 7919)) (.var 1)) (.var 1)))) (.con (.int 2147483629))))
  .nil)
noncomputable def yW:List Str:=["_law_many","_law_seed","_law_left","_law_free"]
noncomputable def qC:List Str:=["_law_many","_law_seed","_law_left","_law_free","_law_some","_law_edge","_law_rows","_law_place","_law_rank","_law_owners_here","_law_at"]
noncomputable def jR:CB:=
  (.cons (.ret (.tup (.cons (.var 9) (.cons (.var 2) .nil))))
  .nil)
noncomputable def iW:CB:=
  (.cons (.expr (.meth1 .append (.var 9) (.meth1 .pop (.var 4) (.var 10))))
  .nil)
noncomputable def jS:CB:=
  (.cons (.asg (.name 2) (.bin .FloorDiv (.var 2) (.bfn .len (.cons (.var 4) .nil))))
  .nil)
noncomputable def lF:CB:=
  (.cons (.iff (.cmp .GtE (.var 2) (.bfn .len (.cons (.var 4) .nil)))
  (.cons (.asg (.name 10) (.bin .Mod (.var 2) (.bfn .len (.cons (.var 4) .nil))))
  jS)
  .nil)
  iW)
noncomputable def lG:CB:=
  (.cons (.asg (.name 10) (.bin .Mod (.bin .FloorDiv (.var 1) (.con (.int 16))) (.bfn .len (.cons (.var 4) .nil))))
  lF)
noncomputable def nH:CB:=
  (.cons (.whl (.cmp .NotEq (.var 4) (.lst .nil))
  (.cons (.asg (.name 1) (.bin .Mod (.bin .Add (.bin .Mult (.var 1) (.con (.int 48271))) (.con (.int 11))) (.con (.int 2147483647))))
  lG))
  jR)
noncomputable def jT:CB:=
  (.cons (.asg (.name 9) (.lst .nil))
  nH)
noncomputable def nJ:CB:=
  (.cons (.iff (.not (.var 3))
  (.cons (.ret (.tup (.cons (.comp ["_law_row"] [] (.name 0) (.lseq (.bfn .sortl (.cons (.var 6) .nil))) .no (.idx (.var 0) (.con (.int 2)))) (.cons (.var 2) .nil))))
  .nil)
  .nil)
  jT)
noncomputable def lH:CB:=
  (.cons (.expr (.meth1 .append (.var 6) (.tup (.cons (.var 8) (.cons (.var 7) (.cons (.idx (.var 4) (.var 7)) .nil))))))
  .nil)
noncomputable def nK:CB:=
  (.cons (.forr (.name 7) (.range1 (.bfn .len (.cons (.var 4) .nil)))
  (.cons (.asg (.name 8) (.bin .Mod (.bin .Mult (.bin .Add (.var 1) (.con (.int 1))) (.bin .Add (.bin .Add (.bin .Mult (.bin .Mult (.con (.int 31)) (.var 7)) (.var 7)) (.bin .Mult (.con (.int 17)) (.var 7))) (.con (.int 7)))) (.con (.int 10007))))
  lH))
  nJ)
noncomputable def nL:CB:=
  (.cons (.asg (.name 6) (.lst .nil))
  nK)
noncomputable def nN:CB:=
  (.cons (.forr (.name 5) (.range1 (.bfn .len (.cons (.var 0) .nil)))
  (.cons (.asg (.name 4) (.bin .Add (.var 4) (.bin .Mult (.lst (.cons (.var 5) .nil)) (.idx (.var 0) (.var 5)))))
  .nil))
  nL)
noncomputable def qV:CB:=
  (.cons (.asg (.name 4) (.lst .nil))
  nN)
noncomputable def Az:List Str:=["_law_script","_law_start"]
noncomputable def sW:List Str:=["_law_script","_law_start","_law_parents","_law_many","_law_cells","_law_room","_law_k","_law_drawn","_law_more"]
noncomputable def pk:CB:=
  (.cons (.ret (.tup (.cons (.var 2) (.cons (.var 3) .nil))))
  .nil)
noncomputable def mC:CB:=
  (.cons (.expr (.meth1 .append (.var 3) (.bin .Add (.con (.int 1)) (.var 8))))
  .nil)
noncomputable def mD:CB:=
  (.cons (.asg (.name 5) (.bin .Sub (.var 5) (.var 8)))
  mC)
noncomputable def mE:CB:=
  (.cons (.asg (.name 8) (.bfn .min (.cons (.var 5) (.cons (.idx (.lst (.cons (.con (.int 0)) (.cons (.con (.int 0)) (.cons (.con (.int 1)) (.cons (.con (.int 2)) .nil))))) (.bin .Mod (.bin .FloorDiv (.var 7) (.con (.int 31))) (.con (.int 4)))) .nil))))
  mD)
noncomputable def mF:CB:=
  (.cons (.expr (.meth1 .append (.var 2) (.bin .Mod (.var 7) (.bfn .len (.cons (.var 2) .nil)))))
  mE)
noncomputable def pq:CB:=
  (.cons (.forr (.name 6) (.range1 (.bfn .len (.cons (.var 4) .nil)))
  (.cons (.asg (.name 7) (.call "_law_mixed" (.cons (.idx (.var 4) (.var 6)) (.cons (.bin .Add (.var 6) (.var 1)) .nil))))
  mF))
  pk)
noncomputable def pv:CB:=
  (.cons (.asg (.name 5) (.bin .Sub (.con (.int 54)) (.bfn .len (.cons (.var 4) .nil))))
  pq)
noncomputable def pA:CB:=
  (.cons (.asg (.name 4) (.cut (.var 0) (.yes (.var 1)) (.yes (.bin .Add (.var 1) (.con (.int 30))))))
  pv)
noncomputable def pB:CB:=
  (.cons (.asg (.name 3) (.lst (.cons (.bin .Mod (.bin .FloorDiv (.call "_law_cell_at" (.cons (.var 0) (.cons (.con (.int 0)) .nil))) (.con (.int 7))) (.con (.int 7))) .nil)))
  pA)
noncomputable def tE:CB:=
  (.cons (.asg (.name 2) (.lst (.cons (.con (.int 0)) .nil)))
  pB)
end Bt
namespace Bt
open PySem PySem.Spec PyProof.Rows L2 R Cp Lt Kc
noncomputable def mx(c k:Int):Int:=(c/7%10^Int.toNat 30+1)*(48271+7919*k*k)%2147483629
theorem mx_nn(c k:Int):0<=mx c k:=cB _ (by decide)
noncomputable def Ak:Sp:=fun vs H Q _=>∃c k:Int,vs=[.int c,.int k]/\0<=k/\k<=100/\Q (.int (mx c k)) H
theorem wp_mix:Sat G K Ak tB sV:=by
 rintro vs H Q E ⟨c,k,rfl,a,b,q⟩;unfold tB;change wpB G K _ _ _ [some (.int c),some (.int k)] H;walk_at "wp";have d:0<=7919*k*k/\7919*k*k<=79190000:=by
  have h1:0<=k*k:=Int.mul_nonneg a a;have h2:k*k<=100*100:=Int.mul_le_mul b b a (by decide);rw[Int.mul_assoc];lia
 exact⟨⟨by decide,by decide⟩,⟨by decide,by decide,by decide⟩,by decide,Et (by decide) (by decide),v7 a (by lia),v7 (by lia) (by lia),by decide,q⟩
noncomputable def iN(ks:List Nat):List V:=ks.map fun k:Nat=>V.int (k:Int)
theorem qK{ks:List Nat}(h:i<ks.length):(iN ks)[i]? =some (.int (ks.getD i 0:Nat)):=by
 unfold iN;rw[av,aa h,ae,aa h];rfl
theorem cU{ks:List Nat}:(iN ks).length=ks.length:=by simp[iN]
theorem uw{ks:List Nat}:iN (ks++[k])=iN ks++[V.int (k:Int)]:=by simp[iN]
structure Gp(ps ms:List Nat):Prop where
 len:ms.length=ps.length
 n31:ps.length<=31
 one:1<=ps.length
 par:∀v,1<=v->v<ps.length->ps.getD v 0<v
 m0:∀v,1<=v->v<ms.length->1<=ms.getD v 0/\ms.getD v 0<=3
 sum:ms.sum<=60
noncomputable def uV(K:ah):Sp:=fun vs H Q _=>∃(a:Addr)(ns:List Int)(st:Nat),vs=[.ref a,.int st]/\SqL K H a (ns.map V.int)/\ns.length<=63/\st<=10/\
 ∀(H':Hp)(p c pm:Addr)(ps b:List Nat),aM H H'->H' p=some (.tup [.ref c,.ref pm])->H' c=some (.lst (iN ps))->H' pm=some (.lst (iN b))->Gp ps b->Q (.ref p) H'
theorem getD_snoc{ks:List Nat}:(ks++[k]).getD i 0=if i<ks.length then ks.getD i 0 else if i=ks.length then k else 0:=by
 rw[ae,ae];by_cases h:i<ks.length
 ·rw[if_pos h,cH h]
 ·rw[if_neg h,bV (by lia)]
  by_cases h2:i=ks.length
  ·rw[if_pos h2,h2]
   simp
  ·rw[if_neg h2,bO (by simp;lia)]
   rfl
structure Gb(H:Hp)(pa pm:Addr)(k L room:Nat)(ps ms:List Nat)(H':Hp):Prop where
 s:aM H H'
 ea:H' pa=some (.lst (iN ps))
 em:H' pm=some (.lst (iN ms))
 pl:ps.length=k+1
 ml:ms.length=k+1
 par:∀v,1<=v->v<ps.length->ps.getD v 0<v
 m0:∀v,1<=v->v<ms.length->1<=ms.getD v 0/\ms.getD v 0<=3
 sum:ms.sum+room+(L-k)<=60
theorem EZ(g0:G.fn "_law_cell_at" 2=some (uX K,[]))(g1:G.fn "_law_mixed" 2=some (Ak,[])):
  Sat G K (uV K) tE sW:=by
 rintro vs H Q E ⟨a,ns,st,rfl,R,hn,b2,q⟩;unfold tE;change wpB G K _ _ _ [some (.ref a),some (.int st),none,none,none,none,none,none,none] H;walk_at "wp";refine⟨short (by simp),fun f T=>?_⟩;have o:aM H (upd H f (.lst [.int 0])):=aq T;have t:upd H f (.lst [.int 0]) f=some (.lst (iN [0])):=ao;generalize upd H f (.lst [.int 0])=H1 at o t⊢;unfold pB;walk_at "wp";refine⟨_,_,g0,a,ns,0,rfl,o.seq R,?_⟩;generalize ns.getD 0 0=c;refine div_ii.mpr ⟨⟨by decide,by decide⟩,iG.mpr ⟨by decide,short (by show 1<=40;decide),fun pm B=>?_⟩⟩;obtain⟨m,a3⟩:=bP (cB (c/7) (by decide:(7:Int)≠0));have b0:m<=6:=by
  have :=bX (c/7) (by decide:(0:Int)<7)
  lia
 rw[a3];have s2:aM H1 (upd H1 pm (.lst [.int m])):=aq B;have F:upd H1 pm (.lst [.int m]) pm=some (.lst (iN [m])):=ao;have X:f≠pm:=fun z=>by rw[<-z,t]at B;cases B
 have a1:H pm=none:=o.free B;generalize upd H1 pm (.lst [.int m])=H2 at s2 F⊢;unfold pA;walk_at "wp";obtain⟨cs,M⟩:=K21.JE ns (some (st:Int)) (some ((st:Int)+30));refine .inl ⟨a,_,rfl,(o.trans s2).seq R,fun l j=>?_⟩;rw[M];have a8:cs.length<=30:=by
  have e:(lq (ns.map V.int) (some (st:Int)) (some ((st:Int)+30))).length=cs.length:=by rw[M,ai]
  rw[<-e];unfold lq;rw[bN,show(some ((st:Int)+30))=some ((st+30:Nat):Int) by simp,HT.jw,HT.jw];lia
 have s3:aM H2 (upd H2 l (.lst (cs.map V.int))):=aq j;have A:upd H2 l (.lst (cs.map V.int)) l=some (.lst (cs.map V.int)):=ao;have a6:f≠l:=fun z=>by rw[<-z,s2 _ _ t]at j;cases j
 have a7:pm≠l:=fun z=>by rw[<-z,F]at j;cases j
 have fl:H l=none:=(o.trans s2).free j;generalize upd H2 l (.lst (cs.map V.int))=H3 at s3 A⊢;unfold pv;walk_at "wp";refine Or.inl ⟨l,_,rfl,.inl (SqL.of A),?_⟩;rw[ai];walk_at "wp";unfold pq;walk_at "wp";refine fo ?_;walk_at "wp";refine Or.inl ⟨l,_,rfl,.inl (SqL.of A),_,rfl,by rw[ai];lia,by rw[ai];lia,?_⟩;rw[ai,aJ];refine eL dg (fun k σ H'=>∃(h:Nat)(ps n:List Nat),Gb H f pm k cs.length h ps n H'/\H' l=some (.lst (cs.map V.int))/\∃u v w,σ=[some (.ref a),some (.int st),some (.ref f),some (.ref pm),some (.ref l),some (.int h),u,v,w])
  ⟨54-cs.length,[0],[m],⟨o.trans (s2.trans s3),s3 _ _ (s2 _ _ t),s3 _ _ F,rfl,rfl,fun v h1 h2=>by simp at h2;lia,fun v h1 h2=>by simp at h2;lia,by simp;lia⟩,A,none,none,none,by rw[show((54-cs.length:Nat):Int)=54-(cs.length:Int) by lia]⟩ (fun _ _ _ _ _=>trivial) ?_ ?_
 ·rintro k x σ Z s D2 hk ⟨h,ps,n,g,N,u,v,w,rfl⟩ rfl C hD _
  have O:=C _ _ N;have D:=C _ _ g.ea;have a0:=C _ _ g.em;have sH:=g.s.trans C;walk_at "wp";simp only[eE];have a2:(cs.map V.int)[k]? =some (.int (cs.getD k 0)):=K32.gT hk;refine⟨_,_,g1,.inl ⟨l,_,k,_,rfl,rfl,SqL.of O,cf a2,?_⟩⟩;walk_at "wp";refine⟨_,_,rfl,by lia,by lia,?_⟩;generalize cs.getD k 0=cc;have hd:=mx_nn cc ((k:Int)+(st:Int));generalize mx cc ((k:Int)+(st:Int))=d at hd;have U:=g.pl;have S:=g.ml;unfold mF;walk_at "wp";refine⟨.inl ⟨rfl,_,SqL.of D⟩,Or.inl ⟨f,_,rfl,.inl (SqL.of D),?_⟩⟩;rw[cU];refine iG.mpr ⟨by lia,?_⟩;obtain⟨z,hz⟩:=bP (cB d (by lia:(ps.length:Int)≠0));have b4:z<ps.length:=by
   have :=bX d (by lia:(0:Int)<(ps.length:Int))
   lia
  rw[hz];refine⟨f,_,_,rfl,rfl,D,K32.vJ (by rw[cU];lia),?_⟩;rw[<-uw];have J:upd s f (.lst (iN (ps++[z]))) f=some (.lst (iN (ps++[z]))):=ao;have I:upd s f (.lst (iN (ps++[z]))) pm=some (.lst (iN n)):=by rw[bo (bS X)];exact a0
  have P:upd s f (.lst (iN (ps++[z]))) l=some (.lst (cs.map V.int)):=by rw[bo (bS a6)];exact O
  have Y:aM H (upd s f (.lst (iN (ps++[z])))):=dW sH T;generalize upd s f (.lst (iN (ps++[z])))=H6 at J I P Y⊢;unfold mE;walk_at "wp";refine⟨short (by show 4<=40;decide),fun b hb=>?_⟩;have r:aM H6 (upd H6 b (.lst [.int 0,.int 0,.int 1,.int 2])):=aq hb;have L:upd H6 b (.lst [.int 0,.int 0,.int 1,.int 2]) b=some (.lst (iN [0,0,1,2])):=ao;generalize upd H6 b (.lst [.int 0,.int 0,.int 1,.int 2])=H7 at r L⊢;obtain⟨y,hy⟩:=bP (cB (d/31) (by decide:(4:Int)≠0));have b3:y<4:=by
   have :=bX (d/31) (by decide:(0:Int)<4)
   lia
  refine⟨⟨by decide,by decide⟩,by decide,?_⟩;rw[hy];refine .inl ⟨b,_,y,_,rfl,rfl,SqL.of L,cf (qK (by simp;lia)),?_⟩;have W:[0,0,1,2].getD y 0<=2:=by
   have :y=0\/y=1\/y=2\/y=3:=by lia
   rcases this with rfl|rfl|rfl|rfl<;>decide
  generalize[0,0,1,2].getD y 0=more at W;refine⟨_,_,rfl,?_⟩;obtain⟨i,a4,b1,a9⟩:∃i:Nat,(if(more:Int)<(h:Int)then(more:Int)else(h:Int))=(i:Int)/\i<=h/\i<=2:=by
   split
   ·exact⟨more,rfl,by lia,W⟩
   ·exact⟨h,rfl,ay _,by lia⟩
  rw[a4];unfold mD;walk_at "wp";unfold mC;walk_at "wp";refine⟨.inl ⟨rfl,_,SqL.of (r _ _ I)⟩,pm,_,_,rfl,rfl,r _ _ I,K32.vJ (by rw[cU];lia),?_⟩;rw[show(1:Int)+(i:Int)=((1+i:Nat):Int) by lia,<-uw,show(h:Int)-(i:Int)=((h-i:Nat):Int) by lia];have a5:=g.sum;refine hD _ _ ⟨h-i,ps++[z],n++[1+i],⟨dW (Y.trans r) a1,?_,ao,by simp[U],by simp[S],fun v h1 h2=>?_,fun v h1 h2=>?_,?_⟩,?_,_,_,_,rfl⟩
  ·rw[bo X];exact r _ _ J
  ·rw[getD_snoc]
   split
   ·exact g.par v h1 (by assumption)
   ·split
    ·lia
    ·lia
  ·rw[getD_snoc]
   split
   ·exact g.m0 v h1 (by assumption)
   ·rw[aN,dH]at h2
    rw[if_pos (by lia)];lia
  ·rw[List.sum_append]
   simp;lia
  ·rw[bo (bS a7)];exact r _ _ P
 ·rintro σ Z ⟨h,ps,n,g,N,u,v,w,rfl⟩
  unfold pk;walk_at "wp";have U:=g.pl;have S:=g.ml;have a5:=g.sum;refine⟨short (by simp),fun p hp=>q _ p f pm ps n (g.s.trans (aq hp)) ao (aq hp _ _ g.ea) (aq hp _ _ g.em) ⟨by lia,by lia,by lia,g.par,g.m0,by lia⟩⟩
noncomputable def hJ(ms:List Nat)(k:Nat):List Nat:=(aA k).flatMap fun e=>bp (ms.getD e 0) e
theorem nq(ms:List Nat)(k:Nat):hJ ms (k+1)=hJ ms k++bp (ms.getD k 0) k:=by
 unfold hJ;rw[jX,eh];simp
theorem pY(ms:List Nat):∀k,k<=ms.length->(hJ ms k).length=(ms.take k).sum
 | 0,_=>rfl
 |k+1,h=>by
  rw[nq,aN,pY ms k (by lia),jr,cg,List.sum_append,ae];cases ms[k]? <;>simp
theorem mU:∀(a:List Nat)(k:Nat),(a.take k).sum<=a.sum
 | [],k=>by simp
 |m::a,0=>by simp
 |m::a,k+1=>by
  rw[List.take_succ_cons,List.sum_cons,List.sum_cons];have :=mU a k;lia
theorem rep_iN(e m:Nat):(bp m [V.int (e:Int)]).flatten=iN (bp m e):=by
 unfold iN;rw[List.map_replicate]
 induction m with
 |zero=>rfl
 |succ m ih=>rw[dz,i8,ih,dz];rfl
theorem iN_app(a b:List Nat):iN (a++b)=iN a++iN b:=by simp[iN]
theorem iN_ints(ks:List Nat):iN ks=(ks.map fun k:Nat=>(k:Int)).map V.int:=by unfold iN;rw[bf];rfl
theorem nil_iN{t p:Addr}{fs:List Nat}(b:H t=some (.lst (iN fs)))(ep:H p=some (.lst [])):∃d a,Rep K H d (.ref t)/\Rep K H a (.ref p)/\hgt d<=30/\eqD d a=decide (fs=[]):=by
 rw[iN_ints]at b;obtain⟨d,a,c,e,f,g⟩:=K22.AI (K:=K) (SqL.of b) ep;refine⟨d,a,c,e,f,?_⟩;rw[g];exact decide_eq_decide.mpr (by simp)
theorem tf:∀(l:List Nat)(z:Nat)(h:z<l.length),(l[z]::l.eraseIdx z).Perm l
 | [],_,h=>absurd h (c8 _)
 |a::l,0,_=>dN _
 |a::l,z+1,h=>by
  have h':z<l.length:=by simpa using h
  exact(wH a l[z] (l.eraseIdx z)).trans ((tf l z h').cons a)
noncomputable def uT:Sp:=fun vs H Q _=>∃(pm:Addr)(b left:Int)(free:Bool)(a:List Nat),vs=[.ref pm,.int b,.int left,.bl free]/\H pm=some (.lst (iN a))/\a.length<=31/\a.sum<=60/\0<=b/\b<=10007/\
 ∀(H':Hp)(p l:Addr)(os:List Nat)(c:Int),aM H H'->H' p=some (.tup [.ref l,.int c])->H l=none->H' l=some (.lst (iN os))->os.Perm (hJ a a.length)->Q (.ref p) H'
section
variable {G:Gam}{K:ah}{E:XS}{D:Ends}
theorem GK{Q:VK}(Z:D.rt=Q){pm so:Addr}{F:List Nat}{h left:Int}{k:List Nat}{a b r c e f:Option V}(M:aM H H1)(S:H so=none)(es:H1 so=some (.lst (iN k)))(hl:k.length<=60)
  (q:∀(H':Hp)(p l:Addr)(os:List Nat)(a0:Int),aM H H'->H' p=some (.tup [.ref l,.int a0])->H l=none->H' l=some (.lst (iN os))->os.Perm k->Q (.ref p) H'):
  wpB G K E jT D [some (.ref pm),some (.int h),some (.int left),a,some (.ref so),b,r,c,e,f,none] H1:=by
 unfold jT;walk_at "wp";refine⟨short (by simp),fun l t=>?_⟩;have s2:aM H1 (upd H1 l (.lst [])):=aq t;have j:upd H1 l (.lst []) l=some (.lst (iN [])):=ao;have L:so≠l:=fun z=>by rw[<-z,es]at t;cases t
 have I:H l=none:=M.free t;have es:=s2 _ _ es;generalize upd H1 l (.lst [])=H2 at s2 j es⊢;unfold nH;walk_at "wp";refine⟨fun m σ H'=>∃(g os:List Nat)(h left:Int)(u:Option V),m=g.length/\aM H H'/\H' so=some (.lst (iN g))/\H' l=some (.lst (iN os))/\(os++g).Perm k/\σ=[some (.ref pm),some (.int h),some (.int left),a,some (.ref so),b,r,c,e,some (.ref l),u],
  ⟨_,k,[],h,left,none,rfl,M.trans s2,es,j,dN _,rfl⟩,?_⟩
 rintro m σ s ⟨g,os,h,left,u,rfl,s3,es,j,x,rfl⟩;have a1:os.length+g.length=k.length:=by
  have :=x.length_eq
  simpa using this
 walk_at "wp"
 refine⟨short (by simp),fun w Y=>?_⟩;have y:aM s (upd s w (.lst [])):=aq Y;have B:upd s w (.lst []) w=some (.lst []):=ao;have es:=y _ _ es;have j:=y _ _ j;have A:=s3.trans y;generalize upd s w (.lst [])=H4 at B es j A⊢;obtain⟨d,N,r1,r2,r3,r4⟩:=nil_iN (K:=K) es B;refine⟨d,N,r1,r2,r3,_,rfl,?_⟩;rw[r4];by_cases hz:g=[]
 ·rw[decide_eq_true hz,if_neg (by simp)]
  unfold jR;walk_at "wp";refine⟨short (by simp),fun p hp=>?_⟩;rw[Z];rw[hz,cV]at x;exact q _ p l os left (A.trans (aq hp)) ao I (aq hp _ _ j) x
 ·rw[decide_eq_false hz,if_pos (by simp)]
  have hpos:0<g.length:=d9.mpr hz;have o:(0:Int)<(g.length:Int):=by lia
  refine⟨fun n H'=>∃(i os:List Nat)(h left:Int)(u:Option V),i.length<g.length/\aM H H'/\H' so=some (.lst (iN i))/\H' l=some (.lst (iN os))/\(os++i).Perm k/\n=[some (.ref pm),some (.int h),some (.int left),a,some (.ref so),b,r,c,e,some (.ref l),u],
   fun n H' ⟨i,os,h,left,u,h1,h2,T,U,W,X⟩=>⟨_,h1,i,os,h,left,u,rfl,h2,T,U,W,X⟩,?_⟩
  refine⟨v7 (by decide) (by decide),by decide,?_⟩;generalize(h*48271+11)%2147483647=sd
  --the drawn place,whichever way
  have C:∀(at_ J:Int),0<=at_->at_<(g.length:Int)->wpB G K E iW {nx:=fun n H'=>∃(i os:List Nat)(h left:Int)(u:Option V),i.length<g.length/\aM H H'/\H' so=some (.lst (iN i))/\H' l=some (.lst (iN os))/\(os++i).Perm k/\n=[some (.ref pm),some (.int h),some (.int left),a,some (.ref so),b,r,c,e,some (.ref l),u],rt:=D.rt,bk:=wpB G K E jR D,ct:=fun n H'=>∃(i os:List Nat)(h left:Int)(u:Option V),i.length<g.length/\aM H H'/\H' so=some (.lst (iN i))/\H' l=some (.lst (iN os))/\(os++i).Perm k/\n=[some (.ref pm),some (.int h),some (.int left),a,some (.ref so),b,r,c,e,some (.ref l),u]}
    [some (.ref pm),some (.int sd),some (.int J),a,some (.ref so),b,r,c,e,some (.ref l),some (.int at_)] H4:=by
   intro at_ J h0 h1;obtain⟨z,rfl⟩:=bP h0;have v:z<g.length:=by lia
   unfold iW;walk_at "wp";refine⟨.inl ⟨rfl,_,SqL.of j⟩,.inl ⟨rfl,_,SqL.of es⟩,.inr ⟨so,_,z,z,_,rfl,rfl,es,by lia,by lia,?_,qK v,?_⟩⟩
   ·rw[cU,tY (by lia) (by lia)]
    simp
   have O:(iN g).eraseIdx z=iN (g.eraseIdx z):=by
    unfold iN;rw[wG,wG,c7,List.map_take,List.map_drop]
   rw[O];have P:upd H4 so (.lst (iN (g.eraseIdx z))) l=some (.lst (iN os)):=by rw[bo (bS L)];exact j
   refine⟨l,iN os,_,rfl,rfl,P,K32.vJ (by rw[cU];lia),?_⟩;have R:g.getD z 0=g[z]:=by rw[ae,aa v];rfl
   rw[R,<-uw];refine⟨g.eraseIdx z,os++[g[z]],_,_,_,?_,dW (dW A S) I,?_,ao,?_,rfl⟩
   ·rw[kQ v];lia
   ·rw[bo L];exact ao
   ·rw[gB]
    exact((tf g z v).append_left os).trans x
  unfold lG;walk_at "wp";refine⟨⟨by decide,by decide⟩,Or.inl ⟨so,_,rfl,.inl (SqL.of es),?_⟩⟩;rw[cU];refine iG.mpr ⟨o,?_⟩;unfold lF;walk_at "wp";refine Or.inl ⟨so,_,rfl,.inl (SqL.of es),?_⟩;rw[cU];refine Je.mpr ⟨_,rfl,?_⟩;by_cases hge:(g.length:Int)<=left
  ·rw[decide_eq_true hge,if_pos rfl]
   refine Or.inl ⟨so,_,rfl,.inl (SqL.of es),?_⟩;rw[cU];refine iG.mpr ⟨o,?_⟩;unfold jS;walk_at "wp";refine Or.inl ⟨so,_,rfl,.inl (SqL.of es),?_⟩;rw[cU];refine div_ii.mpr ⟨⟨o,by lia⟩,?_⟩;exact C _ _ (cB _ (by lia)) (bX _ o)
  ·rw[decide_eq_false hge,if_neg ak]
   exact C _ _ (cB _ (by lia)) (bX _ o)
noncomputable def jk(a:Nat->Int)(b:List Nat)(k:Nat):List (List Int):=(aA k).map fun j:Nat=>[a j,(j:Int),(b.getD j 0:Nat)]
theorem DF(d:Nat->Int)(f:List Nat)(k:Nat):(jk d f k).Nodup:=by
 unfold jk;refine cQ.mpr (wK.imp ?_);intro a b c e;injection e with _ e
 injection e with e _;exact c (by lia)
theorem Fk(a:Nat->Int)(b:List Nat)(k:Nat):jk a b (k+1)=jk a b k++[[a k,(k:Int),(b.getD k 0:Nat)]]:=by
 unfold jk;rw[jX,c7];rfl
noncomputable def rank(a:Int)(j:Nat):Int:=(a+1)*(31*(j:Int)*(j:Int)+17*(j:Int)+7)%10007
theorem E9{c:Nat->Int}{b:List Nat}(h:_root_.Q.IntKeys H ys (jk c b b.length)):∃os:List Nat,os.Perm b/\os.length=b.length/\(_root_.Q.ck V.non (jk c b b.length) ys).length=os.length/\∀(i:Nat) v,(_root_.Q.ck V.non (jk c b b.length) ys)[i]? =some v->∃a x y,v=.ref a/\H a=some (.tup [x,y,.int (os.getD i 0:Nat)]):=by
 have p:=K32.eP h;have o:(jk c b b.length).length=b.length:=by simp[jk]
 have pm:=_root_.Q.kY (DF c b b.length);rw[o]at pm;refine⟨(_root_.Q.vo (jk c b b.length)).map fun i=>b.getD i 0,?_,by rw[ai,pm.length_eq,aW],by unfold _root_.Q.ck;rw[ai,ai],fun i v e=>?_⟩
 ·have h:=pm.map fun i=>b.getD i 0
  rw[_root_.Q.range_getD]at h;exact h
 ·unfold _root_.Q.ck at e
  rw[av]at e;obtain⟨j,k,rfl⟩:=mR.mp e;have d:j<b.length:=aQ.mp (pm.mem_iff.mp (aC k));have at_:∀{ys:List V}{ks:List (List Int)},_root_.Q.IntKeys H ys ks->∀j,j<ks.length->∃a,ys.getD j .non=V.ref a/\H a=some (.tup ((ks.getD j []).map V.int)):=by
   intro ys ks h
   induction h with
   |nil=>intro j d;exact absurd d (c8 _)
   |cons r t ih=>
    intro j d;cases j with
    |zero=>obtain⟨a,e,f⟩:=r;exact⟨a,e,f⟩
    |succ j=>exact ih j (by simpa using d)
  obtain⟨a,l,g⟩:=at_ h j (by lia);have m:(jk c b b.length).getD j []=[c j,(j:Int),(b.getD j 0:Nat)]:=by
   unfold jk;rw[ae,av,bJ d];rfl
  rw[m]at g;have n:((_root_.Q.vo (jk c b b.length)).map fun i=>b.getD i 0).getD i 0=b.getD j 0:=by
   rw[ae,av,k];rfl
  rw[n];exact⟨a,_,_,l,g⟩
theorem EX:Sat G K uT qV qC:=by
 rintro vs H Q E ⟨pm,g,left,free,n,rfl,P,a9,a4,b1,b2,q⟩;unfold qV;change wpB G K _ _ _ [some (.ref pm),some (.int g),some (.int left),some (.bl free),none,none,none,none,none,none,none] H;walk_at "wp";refine⟨short (by simp),fun C Z=>?_⟩;unfold nN;walk_at "wp";refine fo ?_;walk_at "wp";have s0:aM H (upd H C (.lst [])):=aq Z;have O:upd H C (.lst []) C=some (.lst (iN [])):=ao;generalize upd H C (.lst [])=H0 at s0 O⊢;refine Or.inl ⟨pm,_,rfl,.inl (SqL.of (s0 _ _ P)),_,rfl,by rw[cU];lia,by rw[cU];lia,?_⟩;rw[cU,aJ];have a0:∀k,k<=n.length->(hJ n k).length<=60:=fun k t=>by
  rw[pY n k t];exact aG (mU n k) a4
 refine eL dg (fun k σ H'=>aM H H'/\∃so u,H so=none/\H' so=some (.lst (iN (hJ n k)))/\σ=[some (.ref pm),some (.int g),some (.int left),some (.bl free),some (.ref so),u,none,none,none,none,none])
  ⟨s0,C,none,Z,O,rfl⟩ (fun _ _ _ _ _=>trivial) ?_ ?_
 ·rintro k x σ H1 H2 D2 t ⟨r,so,u,T,es,rfl⟩ rfl s2 M _
  have es:=s2 _ _ es;have r:=r.trans s2;walk_at "wp";simp only[eE];refine⟨short (by simp),fun b hb=>?_⟩;generalize hX:upd H2 b _=A;obtain⟨s3,eb⟩:=jK hX hb;clear hX;refine .inl ⟨pm,_,k,_,rfl,rfl,SqL.of (s3 _ _ (r _ _ P)),cf (qK t),?_⟩;have a8:(hJ n k).length+n.getD k 0<=60:=by
   have :=a0 (k+1) t
   rw[nq,aN,jr]at this;exact this
  refine .inr (.inl ⟨b,_,_,rfl,rfl,eb,by lia,by lia,K32.dc (by rw[aJ,dH,Nat.one_mul];lia),fun c hc=>?_⟩);rw[aJ,rep_iN];generalize hX:upd A c _=L;obtain⟨f,ec⟩:=jK hX hc;clear hX;refine .inr (.inr (.inl ⟨so,c,_,_,rfl,rfl,f _ _ (s3 _ _ es),ec,K32.dc (by rw[cU,cU,jr];lia),fun d X=>?_⟩));rw[<-iN_app,<-nq];have e:=r.trans (s3.trans f);exact M _ _ ⟨e.trans (aq X),d,_,e.free X,ao,rfl⟩
 rintro σ H1 ⟨r,so,u,T,es,rfl⟩;have U:=a0 n.length (ay _);generalize hJ n n.length=ss at q es U;unfold nL;walk_at "wp";refine⟨short (by simp),fun m I=>?_⟩;have s2:aM H1 (upd H1 m (.lst [])):=aq I;have s:upd H1 m (.lst []) m=some (.lst []):=ao;have a5:so≠m:=fun z=>by rw[<-z,es]at I;cases I
 have a1:H m=none:=r.free I;have es:=s2 _ _ es;have r:=r.trans s2;generalize upd H1 m (.lst [])=H2 at s es r⊢;unfold nK;walk_at "wp";refine fo ?_;walk_at "wp";refine Or.inl ⟨so,_,rfl,.inl (SqL.of es),_,rfl,by rw[cU];lia,by rw[cU];lia,?_⟩;rw[cU,aJ];refine eL dg (fun k σ H'=>aM H H'/\H' so=some (.lst (iN ss))/\∃ys x y,H' m=some (.lst ys)/\_root_.Q.IntKeys H' ys (jk (rank g) ss k)/\σ=[some (.ref pm),some (.int g),some (.int left),some (.bl free),some (.ref so),u,some (.ref m),x,y,none,none])
  ⟨r,es,[],none,none,s,.nil,rfl⟩ (fun _ _ _ _ _=>trivial) ?_ ?_
 ·rintro k x σ A L D2 t ⟨s3,es,ys,x',y',s,w,rfl⟩ rfl f M _
  have es:=f _ _ es;have s:=f _ _ s;have w:=K32.dR (K32.Tk.of f) w;have s3:=s3.trans f;have N:=K32.eP w;rw[show(jk (rank g) ss k).length=k by simp[jk]]at N;walk_at "wp";simp only[eE];have a7:0<=31*(k:Int)*(k:Int)/\31*(k:Int)*(k:Int)<=111600:=by
   have h1:0<=(k:Int)*(k:Int):=Int.mul_nonneg (by lia) (by lia);have h2:(k:Int)*(k:Int)<=60*60:=Int.mul_le_mul (by lia) (by lia) (by lia) (by decide);rw[Int.mul_assoc];lia
  refine⟨Et (by decide) (by decide),v7 (by lia) (by lia),Et (by decide) (by decide),Et (by lia) (by lia),by decide,?_⟩;rw[show(g+1)*(31*(k:Int)*(k:Int)+17*(k:Int)+7)%10007=rank g k from rfl];unfold lH;walk_at "wp";refine⟨.inl ⟨rfl,_,SqL.of s⟩,.inl ⟨so,_,k,_,rfl,rfl,SqL.of es,cf (qK t),short (by simp),fun p hp=>?_⟩⟩;generalize hX:upd L p _=B;obtain⟨e,ep⟩:=jK hX hp;clear hX;have S:=e _ _ s;refine⟨m,ys,_,rfl,rfl,S,K32.vJ (by lia),?_⟩;have tk:K32.Tk B (upd B m (.lst (ys++[.ref p]))):=K32.r6 S;refine M _ _ ⟨dW (s3.trans e) a1,?_,_,_,_,ao,?_,rfl⟩
  ·rw[bo a5];exact e _ _ es
  ·rw[Fk]
   exact K32.Paired.snoc ⟨p,rfl,tk _ _ ep⟩ (K32.dR tk (K32.dR (K32.Tk.of e) w))
 rintro σ A ⟨s3,es,ys,x',y',s,w,rfl⟩;have N:=K32.eP w;rw[show(jk (rank g) ss ss.length).length=ss.length by simp[jk]]at N;unfold nJ;walk_at "wp";refine⟨free,rfl,?_⟩;cases free with
 |true=>
  rw[if_neg (by simp)];exact GK (F:=ss) rfl s3 T es U q
 |false=>
  rw[if_pos (by simp)];refine cL ?_;walk_at "wp";refine⟨m,ys,_,3,rfl,SqL.of s,by simp[jk];lia,DF _ _ _,fun k t=>?_,w,fun J a3=>?_⟩
  ·unfold jk at t
   obtain⟨j,_,rfl⟩:=ax.mp t;rfl
  obtain⟨os,a6,b0,a2,W⟩:=E9 w;have f:=aq (o:=.lst (_root_.Q.ck V.non (jk (rank g) ss ss.length) ys)) a3;have D:upd A J (.lst (_root_.Q.ck V.non (jk (rank g) ss ss.length) ys)) J=some (.lst (_root_.Q.ck V.non (jk (rank g) ss ss.length) ys)):=ao;generalize _root_.Q.ck V.non (jk (rank g) ss ss.length) ys=zs at f D a2 W⊢;generalize upd A J (.lst zs)=L at f D⊢;refine⟨J,rfl,⟨_,SqL.of D⟩,dy (cK (xs:=zs)) (K32.dc (by lia)) (fun B e=>e.seq (SqL.of D)) (fun i v _=>v=.int (os.getD i 0:Nat)) (fun _ _ _ _ _ h=>h) (fun τ=>∃u,τ=[u]) ⟨none,rfl⟩ ?_ ?_⟩
  ·rintro i v τ B R hi ⟨u,rfl⟩ e hv kk
   obtain⟨a,x,y,rfl,ea⟩:=W i v hv;walk_at "wp";exact .inr (.inl ⟨a,_,2,_,rfl,rfl,SqT.of (e _ _ (f _ _ ea)),rfl,kk _ _ _ ⟨_,rfl⟩ (aM.refl _) rfl⟩)
  ·intro vs B l b3 hF e Y
   have ev:vs=iN os:=by
    unfold iN;apply gA;intro i;rw[av];by_cases hi:i<vs.length
    ·rw[aa hi,hF i _ (aa hi),aa (by lia),ae,aa (by lia)]
     rfl
    ·rw[bO (by lia),bO (by lia)]
     rfl
   rw[ev];refine⟨short (by simp),fun p hp=>?_⟩;have s6:=s3.trans (f.trans e);exact q _ p l os left (s6.trans ((aq Y).trans (aq hp))) ao (s6.free Y) (aq hp _ _ ao) a6
end
end Bt
namespace Bt
open PySem R
noncomputable def Ax:List Str:=["_law_parents","_law_owners_here","_law_seed","_law_bits","_law_free"]
noncomputable def sU:List Str:=["_law_parents","_law_owners_here","_law_seed","_law_bits","_law_free","_law_first","_law_place","_law_nodes_here","_law_edge","_law_above"]
noncomputable def o8:CB:=
  (.cons (.ret (.var 7))
  .nil)
noncomputable def mB:CB:=
  (.cons (.expr (.meth1 .append (.var 7) (.bfn .tuple (.cons (.comp ["_law_k"] [9,8,1] (.name 0) (.range1 (.bfn .len (.cons (.var 1) .nil))) .no (.bin .Mod (.bin .Add (.idx (.var 1) (.var 0)) (.bfn .int (.cons (.cmp .Eq (.idx (.var 3) (.var 0)) (.var 2)) .nil))) (.con (.int 2)))) .nil))))
  .nil)
noncomputable def o9:CB:=
  (.cons (.forr (.name 8) (.range2 (.con (.int 1)) (.bfn .len (.cons (.var 0) .nil)))
  (.cons (.asg (.name 9) (.idx (.var 7) (.idx (.var 0) (.var 8))))
  mB))
  o8)
noncomputable def pd:CB:=
  (.cons (.asg (.name 7) (.lst (.cons (.bfn .tuple (.cons (.var 5) .nil)) .nil)))
  o9)
noncomputable def gU:CB:=
  (.cons (.asg (.name 3) (.bin .FloorDiv (.var 3) (.con (.int 2))))
  .nil)
noncomputable def ph:CB:=
  (.cons (.forr (.name 6) (.range1 (.bfn .len (.cons (.var 1) .nil)))
  (.cons (.expr (.meth1 .append (.var 5) (.bin .Mod (.idx (.lst (.cons (.bin .FloorDiv (.var 2) (.bin .Add (.var 6) (.con (.int 1)))) (.cons (.var 3) .nil))) (.bfn .int (.cons (.and (.var 4) (.cmp .Gt (.var 3) (.con (.int 1)))) .nil))) (.con (.int 2)))))
  gU))
  pd)
noncomputable def tw:CB:=
  (.cons (.asg (.name 5) (.lst .nil))
  ph)
noncomputable def Cn:List Str:=["_law_k","_law_seed"]
noncomputable def vD:List Str:=["_law_k","_law_seed","_law_place","_law_word"]
noncomputable def qW:CB:=
  (.cons (.ret (.bin .Add (.bin .Add (.var 3) (.idx (.con (.str "xy")) (.bin .FloorDiv (.var 0) (.con (.int 25))))) (.cut (.con (.str "mmm")) (.yes (.var 2)) .no)))
  .nil)
noncomputable def qX:CB:=
  (.cons (.asg (.name 3) (.bin .Add (.cut (.con (.str "mmm")) .no (.yes (.var 2))) (.idx (.con (.str "abcdefghijklnopqrstuvwxyz")) (.bin .Mod (.bin .Add (.bin .Mult (.var 0) (.con (.int 7))) (.var 1)) (.con (.int 25))))))
  qW)
noncomputable def wk:CB:=
  (.cons (.asg (.name 2) (.bin .Mod (.var 1) (.con (.int 4))))
  qX)
end Bt
namespace Bt
open PySem PySem.Spec PyProof.Rows L2 R Cp Lt Kc
noncomputable def LB:Str:="abcdefghijklnopqrstuvwxyz"
noncomputable def nmT(pl a b:Nat):Str:=((vY "mmm" none (some (pl:Int))++(⟨#[LB.cps.toList.getD a 0]⟩:Str))++(⟨#[(bT "xy").cps.toList.getD b 0]⟩:Str))++vY "mmm" (some (pl:Int)) none
theorem nmT_ok:∀(pl:Fin 4)(a:Fin 25)(b:Fin 2),gZ (nmT pl a b)=true:=by decide+kernel
theorem nmT_inj:∀(pl:Fin 4)(a:Fin 25)(b:Fin 2)(c:Fin 25)(d:Fin 2),nmT pl a b=nmT pl c d->a=c/\b=d:=by decide+kernel
noncomputable def nmB(a:Int)(k:Nat):Str:=nmT (a%4).toNat (((k:Int)*7+a)%25).toNat (k/25)
theorem l7{m:Int}(n:Nat)(h:0<n):∃z:Nat,m%(n:Int)=(z:Int)/\z<n:=by
 obtain⟨z,a⟩:=bP (cB m (by lia:(n:Int)≠0));have :=bX m (by lia:(0:Int)<(n:Int));exact⟨z,a,by lia⟩
theorem nmB_ok{b:Int}(h:k<50):gZ (nmB b k)=true:=by
 obtain⟨p,hp,e⟩:=l7 (m:=b) 4 (by decide);obtain⟨a,c,d⟩:=l7 (m:=(k:Int)*7+b) 25 (by decide);unfold nmB;rw[show(4:Int)=((4:Nat):Int)from rfl,show(25:Int)=((25:Nat):Int)from rfl,hp,c];exact nmT_ok ⟨p,e⟩ ⟨a,d⟩ ⟨k/25,by lia⟩
theorem nmB_inj{c:Int}(hi:i<50)(o:j<50)(h:nmB c i=nmB c j):i=j:=by
 obtain⟨p,hp,k⟩:=l7 (m:=c) 4 (by decide);obtain⟨a,d,f⟩:=l7 (m:=(i:Int)*7+c) 25 (by decide);obtain⟨b,e,g⟩:=l7 (m:=(j:Int)*7+c) 25 (by decide);unfold nmB at h;rw[show(4:Int)=((4:Nat):Int)from rfl,show(25:Int)=((25:Nat):Int)from rfl,hp,d,e]at h;obtain⟨h1,h2⟩:=nmT_inj ⟨p,k⟩ ⟨a,f⟩ ⟨i/25,by lia⟩ ⟨b,g⟩ ⟨j/25,by lia⟩ h;have h1:a=b:=congrArg Fin.val h1;have h2:i/25=j/25:=congrArg Fin.val h2;have l:((i:Int)*7+c)%25=(a:Int):=d;have n:((j:Int)*7+c)%25=(b:Int):=e;lia
noncomputable def spNm:Sp:=fun vs H Q _=>∃(k:Nat)(a:Int),vs=[.int k,.int a]/\k<50/\Q (.str (nmB a k)) H
theorem lb_len:LB.cps.toList.length=25:=by decide+kernel
theorem lb_len':LB.length<=sizeLine:=by decide+kernel
theorem cut3:∀pl:Fin 4,(vY "mmm" none (some (pl.val:Int))).length<=3/\(vY "mmm" (some (pl.val:Int)) none).length<=3:=by decide+kernel
theorem AD(c:Nat):(⟨#[c]⟩:Str).length=1:=rfl
theorem wp_nm:Sat G K spNm wk vD:=by
 rintro vs H Q E ⟨k,b,rfl,l,q⟩;unfold wk;change wpB G K _ _ _ [some (.int k),some (.int b),none,none] H;walk_at "wp";refine⟨by decide,?_⟩;obtain⟨p,hp,h⟩:=l7 (m:=b) 4 (by decide);obtain⟨a,c,j⟩:=l7 (m:=(k:Int)*7+b) 25 (by decide);have hp:b%4=(p:Int):=hp;have c:((k:Int)*7+b)%25=(a:Int):=c;unfold nmB at q;rw[hp,c,aJ,aJ]at q;rw[hp];obtain⟨d,e⟩:=cut3 ⟨p,h⟩;have d:(vY (bT "mmm") none (some (p:Int))).length<=3:=d;have e:(vY (bT "mmm") (some (p:Int)) none).length<=3:=e;unfold qX;walk_at "wp";refine⟨by decide+kernel,v7 (by decide) (by decide),by decide,?_⟩;rw[c];have f:LB.cps.toList[a]? =some (LB.cps.toList.getD a 0):=by
  rw[ae,aa (by rw[lb_len];lia)];rfl
 refine⟨_,lb_len',cf f,?_⟩;refine⟨short (by rw[AD];lia),?_⟩;unfold qW;walk_at "wp";refine⟨⟨by decide,by decide⟩,?_⟩;have g:(k:Int)/25=((k/25:Nat):Int):=by lia
 have i:(bT "xy").cps.toList[k/25]? =some ((bT "xy").cps.toList.getD (k/25) 0):=by
  have h2:(bT "xy").cps.toList.length=2:=by decide+kernel
  rw[ae,aa (by rw[h2];lia)];rfl
 rw[g];refine⟨_,by decide+kernel,cf i,short (by rw[pT,AD,AD];lia),by decide+kernel,short (by rw[pT,pT,AD,AD];lia),?_⟩;exact q
end Bt
namespace Bt
open PySem PySem.Spec PyProof.Rows L2 R Cp Lt Kc Mt
noncomputable abbrev fn(ks:List Nat):Nat->Nat:=fun i=>ks.getD i 0
noncomputable def yB:Sp:=fun vs H Q _=>∃(b lo:Addr)(d c:Int)(free:Bool)(ps os:List Nat),vs=[.ref b,.ref lo,.int d,.int c,.bl free]/\H b=some (.lst (iN ps))/\H lo=some (.lst (iN os))/\1<=ps.length/\ps.length<=31/\os.length<=60/\(∀v,1<=v->v<ps.length->ps.getD v 0<v)/\
 ∀(H':Hp)(a:Addr)(ys:List V)(f:Nat->Int),aM H H'->H a=none->H' a=some (.lst ys)->(∀p,p<os.length->f p=0\/f p=1)->_root_.Q.IntKeys H' ys ((aA ps.length).map (nd f (fn os) (fn ps) os.length))->Q (.ref a) H'
section
variable {G:Gam}{K:ah}
theorem nd_zero{fs:List Int}{own par:Nat->Nat}:nd (fun p=>fs.getD p 0) own par fs.length 0=fs:=by
 unfold nd;apply bA
 ·simp
 ·intro i h1 h2
  rw[bj,fO,Hv,ae,aa h2];rfl
theorem GL:Sat G K yB tw sU:=by
 rintro vs H Q E ⟨D,lo,J,A,free,ps,os,rfl,ea,T,b3,b4,b2,a5,q⟩;unfold tw;change wpB G K _ _ _ [some (.ref D),some (.ref lo),some (.int J),some (.int A),some (.bl free),none,none,none,none,none] H;walk_at "wp";refine⟨short (by simp),fun c a4=>?_⟩;have s1:aM H (upd H c (.lst [])):=aq a4;have B:upd H c (.lst []) c=some (.lst (([]:List Int).map V.int)):=ao;generalize upd H c (.lst [])=H1 at s1 B⊢;unfold ph;walk_at "wp";refine fo ?_;walk_at "wp";refine Or.inl ⟨lo,_,rfl,.inl (SqL.of (s1 _ _ T)),_,rfl,by rw[cU];lia,by rw[cU];lia,?_⟩;rw[cU,aJ];refine eL dg (fun k σ H'=>aM H H'/\∃(fs:List Int)(A:Int)(u:Option V),H' c=some (.lst (fs.map V.int))/\fs.length=k/\(∀x∈fs,x=0\/x=1)/\σ=[some (.ref D),some (.ref lo),some (.int J),some (.int A),some (.bl free),some (.ref c),u,none,none,none])
  ⟨s1,[],A,none,B,rfl,(fun x hx=>by cases hx),rfl⟩ (fun _ _ _ _ _=>trivial) ?_ ?_
 ·rintro k x σ H2 H3 O hk ⟨s2,fs,A,u,B,X,W,rfl⟩ rfl s3 U _
  have B:=s3 _ _ B;have s2:=s2.trans s3;walk_at "wp";simp only[eE];refine⟨.inl ⟨rfl,_,SqL.of B⟩,⟨by lia,by lia⟩,short (by simp),fun b hb=>?_⟩;generalize hX:upd H3 b _=I;obtain⟨F,eb⟩:=jK hX hb;clear hX;have s:=s2.trans F;have a8:=F _ _ B;have a7:∀z:Int,rMm .append (V.ref c) [V.int (z%2)] I fun _ H1=>wpB G K (fun _=>E) gU O [some (.ref D),some (.ref lo),some (.int J),some (.int A),some (.bl free),some (.ref c),some (.int k),none,none,none] H1:=fun z=>by
   refine⟨c,_,_,rfl,rfl,a8,K32.vJ (by rw[ai];lia),?_⟩;rw[show fs.map V.int++[V.int (z%2)]=(fs++[z%2]).map V.int by simp];unfold gU;walk_at "wp";refine⟨⟨by decide,by decide⟩,U _ _ ⟨dW s a4,fs++[z%2],_,_,ao,by simp[X],fun x hx=>?_,rfl⟩⟩;rcases bQ.mp hx with hx|hx
   ·exact W x hx
   ·rw[aT.mp hx]
    lia
  have key:∀S:Bool,rBf K .int [V.bl S] I (fun y H2=>rIx K (V.ref b) y H2 fun x H1=>jb K Operator.Mod x (V.int 2) H1 fun x H1=>rMm .append (V.ref c) [x] H1 fun _ H1=>wpB G K (fun _=>E) gU O [some (.ref D),some (.ref lo),some (.int J),some (.int A),some (.bl free),some (.ref c),some (.int k),none,none,none] H1):=fun S=>by
   cases S with
   |true=>exact .inr ⟨true,rfl,.inl ⟨b,_,1,_,rfl,rfl,SqL.of eb,rfl,iG.mpr ⟨by decide,a7 _⟩⟩⟩
   |false=>exact .inr ⟨false,rfl,.inl ⟨b,_,0,_,rfl,rfl,SqL.of eb,rfl,iG.mpr ⟨by decide,a7 _⟩⟩⟩
  split
  ·exact key _
  ·exact key _
 rintro σ H2 ⟨s2,fs,A,u,B,X,W,rfl⟩;have hf:∀p,p<os.length->fs.getD p 0=0\/fs.getD p 0=1:=fun p hp=>by
  rw[ae,aa (by lia)];exact W _ (ba _)
 unfold pd;walk_at "wp";refine⟨c,_,rfl,.inl ⟨SqL.of B,fun r0 a6=>⟨short (by simp),fun d Z=>?_⟩⟩⟩;have s3:aM H2 (upd (upd H2 r0 (.tup (fs.map V.int))) d (.lst [.ref r0])):=(aq a6).trans (aq Z);have a1:upd (upd H2 r0 (.tup (fs.map V.int))) d (.lst [.ref r0]) r0=some (.tup (fs.map V.int)):=aq Z _ _ ao;have g:upd (upd H2 r0 (.tup (fs.map V.int))) d (.lst [.ref r0]) d=some (.lst [.ref r0]):=ao;have a3:H d=none:=(s2.trans (aq a6)).free Z;have F:=s2.trans s3;generalize upd (upd H2 r0 (.tup (fs.map V.int))) d (.lst [.ref r0])=H3 at a1 g F⊢;have hz:nd (fun p=>fs.getD p 0) (fn os) (fn ps) os.length 0=fs:=by rw[<-X];exact nd_zero
 unfold o9;walk_at "wp";refine fo ?_;walk_at "wp";refine Or.inl ⟨D,_,rfl,.inl (SqL.of (F _ _ ea)),?_⟩;rw[cU];refine⟨_,_,rfl,⟨by lia,by lia,by lia,by lia⟩,?_⟩;refine eL dg (fun m σ H'=>aM H H'/\∃(ys:List V)(x y:Option V),H' d=some (.lst ys)/\_root_.Q.IntKeys H' ys ((aA (m+1)).map (nd (fun p=>fs.getD p 0) (fn os) (fn ps) os.length))/\σ=[some (.ref D),some (.ref lo),some (.int J),some (.int A),some (.bl free),some (.ref c),u,some (.ref d),x,y])
  ⟨F,[.ref r0],none,none,g,.cons ⟨r0,rfl,by rw[hz];exact a1⟩ .nil,rfl⟩ (fun _ _ _ _ _=>trivial) ?_ ?_
 ·rintro m x σ I H5 O hm ⟨s,ys,x',y',g,C,rfl⟩ rfl s6 U _
  have g:=s6 _ _ g;have C:=K32.dR (K32.Tk.of s6) C;have s:=s.trans s6;have b1:=K32.eP C;rw[ai,aW]at b1;have hv:m+1<ps.length:=by lia
  have ev:(1:Int)+(m:Int)=((m+1:Nat):Int):=by lia
  rw[ev];generalize hvv:m+1=v at *;have b0:=a5 v (by lia) hv;walk_at "wp";refine .inl ⟨D,_,v,_,rfl,rfl,SqL.of (s _ _ ea),cf (qK hv),?_⟩
  --the parent's readings
  have at_:∀{ys:List V}{ks:List (List Int)},_root_.Q.IntKeys H5 ys ks->∀j,j<ks.length->∃a,ys[j]? =some (V.ref a)/\H5 a=some (.tup ((ks.getD j []).map V.int)):=by
   intro ys ks h
   induction h with
   |nil=>intro j Y;exact absurd Y (c8 _)
   |cons r t ih=>
    intro j Y;cases j with
    |zero=>obtain⟨a,rfl,f⟩:=r;exact⟨a,rfl,f⟩
    |succ j=>exact ih j (by simpa using Y)
  obtain⟨ra,a9,a2⟩:=at_ C (ps.getD v 0) (by rw[ai,aW];lia);have ek:((aA v).map (nd (fun p=>fs.getD p 0) (fn os) (fn ps) os.length)).getD (ps.getD v 0) []=nd (fun p=>fs.getD p 0) (fn os) (fn ps) os.length (ps.getD v 0):=by
   rw[ae,av,bJ b0];rfl
  rw[ek]at a2;refine .inl ⟨d,_,ps.getD v 0,_,rfl,rfl,SqL.of g,cf a9,?_⟩;unfold mB;walk_at "wp";refine⟨.inl ⟨rfl,_,SqL.of g⟩,?_⟩;refine cL ?_;walk_at "wp";refine Or.inl ⟨lo,_,rfl,.inl (SqL.of (s _ _ T)),_,rfl,by rw[cU];lia,by rw[cU];lia,?_⟩;rw[cU,aJ];refine dy dg (K32.dc (by lia)) (fun _ _=>trivial) (fun p w _=>w=.int (rdv (fun p=>fs.getD p 0) (fn os) (fn ps) v p)) (fun _ _ _ _ _ h=>h) (fun τ=>∃u,τ=[u,some (.ref ra),some (.int v),some (.ref lo)]) ⟨none,rfl⟩ ?_ ?_
  ·rintro p x τ P R hp ⟨u,rfl⟩ L rfl kk
   walk_at "wp"
   simp only[eE];refine .inr (.inl ⟨ra,_,p,_,rfl,rfl,SqT.of (L _ _ a2),cf (K32.gT (by rw[vC];exact hp)),?_⟩);rw[dI hp];refine .inl ⟨lo,_,p,_,rfl,rfl,SqL.of (L _ _ (s _ _ T)),cf (qK hp),?_⟩;refine jd.mpr (.inr ⟨_,rfl,?_⟩);refine sI.mpr (iG.mpr ⟨by decide,kk _ _ _ ⟨_,rfl⟩ (aM.refl _) ?_⟩);have e:=Hw (f:=fun p=>fs.getD p 0) (own:=fn os) (par:=fn ps) (n:=os.length) (N:=ps.length) a5 hf (v:=v) (p:=p) (by lia) hv hp;rw[<-e];by_cases h:os.getD p 0=v
   ·rw[decide_eq_true (by lia:((os.getD p 0:Nat):Int)=(v:Int)),if_pos rfl,if_pos h]
   ·rw[decide_eq_false (by lia:¬((os.getD p 0:Nat):Int)=(v:Int)),if_neg ak,if_neg h]
  ·intro vs P l b5 hF L hl
   have e:vs=(nd (fun p=>fs.getD p 0) (fn os) (fn ps) os.length v).map V.int:=by
    unfold nd;apply gA;intro i;rw[av,av];by_cases hi:i<vs.length
    ·rw[aa hi,bJ (by lia),hF i _ (aa hi)]
     rfl
    ·rw[bO (by lia),bO (by rw[aW];lia)]
     rfl
   rw[e];refine⟨l,_,rfl,.inl ⟨SqL.of ao,fun r hr=>?_⟩⟩;have M:=L.trans ((aq (o:=.lst ((nd (fun p=>fs.getD p 0) (fn os) (fn ps) os.length v).map V.int)) hl).trans (aq (o:=.tup ((nd (fun p=>fs.getD p 0) (fn os) (fn ps) os.length v).map V.int)) hr));have er:upd (upd P l (.lst ((nd (fun p=>fs.getD p 0) (fn os) (fn ps) os.length v).map V.int))) r (.tup ((nd (fun p=>fs.getD p 0) (fn os) (fn ps) os.length v).map V.int)) r=some (.tup ((nd (fun p=>fs.getD p 0) (fn os) (fn ps) os.length v).map V.int)):=ao;generalize upd (upd P l (.lst ((nd (fun p=>fs.getD p 0) (fn os) (fn ps) os.length v).map V.int))) r (.tup ((nd (fun p=>fs.getD p 0) (fn os) (fn ps) os.length v).map V.int))=H7 at M er⊢;have a0:=M _ _ g;refine⟨d,ys,_,rfl,rfl,a0,K32.vJ (by lia),?_⟩;have tk:K32.Tk H7 (upd H7 d (.lst (ys++[.ref r]))):=K32.r6 a0;refine U _ _ ⟨dW (s.trans M) a3,_,_,_,ao,?_,rfl⟩;rw[jX,c7];exact K32.Paired.snoc ⟨r,rfl,tk _ _ er⟩ (K32.dR tk (K32.dR (K32.Tk.of M) C))
 rintro σ I ⟨s,ys,x',y',g,C,rfl⟩;unfold o8;walk_at "wp";refine q I d ys (fun p=>fs.getD p 0) s a3 g hf ?_;have e:((ps.length:Int)-1).toNat+1=ps.length:=by lia
 rw[e]at C;exact C
end
end Bt
namespace Bt
open PySem R
noncomputable def yX:List Str:=["_law_parents","_law_nodes_here","_law_seed","_law_left","_law_free"]
noncomputable def qD:List Str:=["_law_parents","_law_nodes_here","_law_seed","_law_left","_law_free","_law_table","_law_number","_law_lost","_law_like","_law_near"]
noncomputable def nP:CB:=
  (.cons (.ret (.var 5))
  .nil)
noncomputable def lI:CB:=
  (.cons (.expr (.meth1 .append (.var 5) (.tup (.cons (.call "_law_name" (.cons (.bfn .len (.cons (.var 5) .nil)) (.cons (.var 2) .nil))) (.cons (.idx (.var 1) (.var 6)) .nil)))))
  .nil)
noncomputable def lJ:CB:=
  (.cons (.iff (.and (.cmp .Eq (.var 8) (.con (.int 0))) (.cmp .Lt (.bfn .len (.cons (.var 5) .nil)) (.bin .Add (.bin .Sub (.con (.int 40)) (.bfn .len (.cons (.var 1) .nil))) (.var 6))))
  lI
  .nil)
  .nil)
noncomputable def iX:CB:=
  (.cons (.expr (.meth1 .append (.var 5) (.tup (.cons (.call "_law_name" (.cons (.bfn .len (.cons (.var 5) .nil)) (.cons (.var 2) .nil))) (.cons (.idx (.var 1) (.var 6)) .nil)))))
  lJ)
noncomputable def lK:CB:=
  (.cons (.iff (.and (.cmp .Gt (.var 9) (.con (.int 2))) (.cmp .Eq (.var 7) (.con (.int 0))))
  (.cons (.cont)
  .nil)
  .nil)
  iX)
noncomputable def gm:CB:=
  (.cons (.asg (.name 9) (.bin .Add (.bfn .len (.cons (.comp ["_law_one"] [6] (.name 0) (.seq (.cut (.var 0) (.yes (.con (.int 1))) .no)) (.yes (.cmp .Eq (.var 0) (.var 1))) (.var 0)) .nil)) (.bfn .int (.cons (.cmp .Gt (.var 6) (.con (.int 0))) .nil))))
  lK)
noncomputable def jU:CB:=
  (.cons (.asg (.name 3) (.bin .FloorDiv (.var 3) (.con (.int 10))))
  .nil)
noncomputable def hU:CB:=
  (.cons (.asg (.name 8) (.bin .Mod (.bin .FloorDiv (.var 3) (.con (.int 2))) (.con (.int 5))))
  jU)
noncomputable def lL:CB:=
  (.cons (.iff (.and (.var 4) (.cmp .GtE (.var 3) (.con (.int 10))))
  (.cons (.asg (.name 7) (.bin .Mod (.var 3) (.con (.int 2))))
  hU)
  .nil)
  gm)
noncomputable def lM:CB:=
  (.cons (.asg (.name 8) (.bin .Mod (.bin .FloorDiv (.var 2) (.bin .Add (.var 6) (.con (.int 5)))) (.con (.int 5))))
  lL)
noncomputable def nQ:CB:=
  (.cons (.forr (.name 6) (.range1 (.bfn .len (.cons (.var 1) .nil)))
  (.cons (.asg (.name 7) (.bin .Mod (.bin .FloorDiv (.var 2) (.bin .Add (.var 6) (.con (.int 3)))) (.con (.int 2))))
  lM))
  nP)
noncomputable def qY:CB:=
  (.cons (.asg (.name 5) (.lst .nil))
  nQ)
noncomputable def AA:List Str:=["_law_script","_law_start"]
noncomputable def sX:List Str:=["_law_script","_law_start","_law_parents","_law_many","_law_free","_law_seed","_law_owners_here","_law_left","_law_cell","_law_nodes_here","_law_branches","_law_edge","_law_pair","_law_places","_law_table","_law_at"]
noncomputable def nR:CB:=
  (.cons (.ret (.tup (.cons (.bin .Add (.cut (.var 14) (.yes (.var 15)) .no) (.cut (.var 14) .no (.yes (.var 15)))) (.cons (.bfn .sortl (.cons (.var 9) .nil)) (.cons (.bfn .sortt (.cons (.var 10) .nil)) .nil)))))
  .nil)
noncomputable def nS:CB:=
  (.cons (.asg (.name 15) (.bin .Mod (.bin .FloorDiv (.var 5) (.con (.int 11))) (.bfn .len (.cons (.var 14) .nil))))
  nR)
noncomputable def pD:CB:=
  (.cons (.asg (.name 14) (.call "_law_copies" (.cons (.var 2) (.cons (.var 9) (.cons (.var 5) (.cons (.var 7) (.cons (.var 4) .nil)))))))
  nS)
noncomputable def mG:CB:=
  (.cons (.expr (.meth1 .append (.var 10) (.tup (.cons (.idx (.var 12) (.con (.int 0))) (.cons (.idx (.var 12) (.con (.int 1))) (.cons (.bfn .tuple (.cons (.var 13) .nil)) .nil))))))
  .nil)
noncomputable def mH:CB:=
  (.cons (.asgc 13 (.comp ["_law_place"] [11,6] (.name 0) (.range1 (.bfn .len (.cons (.var 6) .nil))) (.yes (.cmp .Eq (.idx (.var 2) (.var 0)) (.var 1))) (.var 0)))
  mG)
noncomputable def pE:CB:=
  (.cons (.forr (.name 11) (.range2 (.con (.int 1)) (.bfn .len (.cons (.var 2) .nil)))
  (.cons (.asg (.name 12) (.bfn .sortl (.cons (.lst (.cons (.idx (.var 9) (.var 11)) (.cons (.idx (.var 9) (.idx (.var 2) (.var 11))) .nil))) .nil)))
  mH))
  pD)
noncomputable def pF:CB:=
  (.cons (.asg (.name 10) (.lst .nil))
  pE)
noncomputable def pG:CB:=
  (.cons (.asg (.name 9) (.call "_law_nodes" (.cons (.var 2) (.cons (.var 6) (.cons (.call "_law_mixed" (.cons (.var 8) (.cons (.con (.int 2)) .nil))) (.cons (.bin .FloorDiv (.var 8) (.con (.int 7))) (.cons (.var 4) .nil)))))))
  pF)
noncomputable def pH:CB:=
  (.cons (.asg (.name 8) (.call "_law_cell_at" (.cons (.var 0) (.cons (.con (.int 1)) .nil))))
  pG)
noncomputable def pI:CB:=
  (.cons (.asg (.tup (.cons (.name 6) (.cons (.name 7) .nil))) (.call "_law_owners" (.cons (.var 3) (.cons (.bin .Mod (.var 5) (.con (.int 10007))) (.cons (.bin .FloorDiv (.call "_law_cell_at" (.cons (.var 0) (.cons (.con (.int 0)) .nil))) (.con (.int 98))) (.cons (.var 4) .nil))))))
  pH)
noncomputable def pJ:CB:=
  (.cons (.asg (.name 5) (.call "_law_mixed" (.cons (.call "_law_cell_at" (.cons (.var 0) (.cons (.con (.int 0)) .nil))) (.cons (.con (.int 1)) .nil))))
  pI)
noncomputable def pK:CB:=
  (.cons (.asg (.name 4) (.cmp .Eq (.bin .Mod (.call "_law_cell_at" (.cons (.var 0) (.cons (.con (.int 0)) .nil))) (.con (.int 2))) (.con (.int 1))))
  pJ)
noncomputable def tF:CB:=
  (.cons (.asg (.tup (.cons (.name 2) (.cons (.name 3) .nil))) (.call "_law_grown" (.cons (.var 0) (.cons (.var 1) .nil))))
  pK)
end Bt
namespace Bt
open PySem PySem.Spec PyProof.Rows L2 R Cp Lt Kc Mt
structure Cb(H:Hp)(seed:Int)(ys:List V)(N:Nat)(vv:List Nat)(cs:List V):Prop where
 len:cs.length=vv.length
 at_:∀(i:Nat) c,cs[i]? =some c->∃b,c=.ref b/\H b=some (.tup [.str (nmB seed i),ys.getD (vv.getD i 0) .non])
 lt:∀v∈vv,v<N
theorem Cb.tk{a:Int}{N:Nat}{vv:List Nat}(d:Cb H a ys N vv cs)(t:K32.Tk H H'):Cb H' a ys N vv cs:=
 {d with at_:=fun i c e=>let⟨b,h1,h2⟩:=d.at_ i c e;⟨b,h1,t _ _ h2⟩}
theorem Cb.snoc{a:Int}{N:Nat}{vv:List Nat}{v:Nat}(d:Cb H a ys N vv cs)(f:H b=some (.tup [.str (nmB a cs.length),ys.getD v .non]))(h:v<N):Cb H a ys N (vv++[v]) (cs++[.ref b]):=by
 refine⟨by simp[d.len],fun i c e=>?_,fun w hw=>?_⟩
 ·rw[getD_snoc]
  by_cases hi:i<cs.length
  ·rw[cH hi]at e
   rw[if_pos (by rw[<-d.len];exact hi)];exact d.at_ i c e
  ·rw[bV (by lia)]at e
   have g:i=cs.length:=by
    have :=(aD.mp e).1
    simp at this;lia
   subst g;rw[d.len,if_neg (du _),if_pos rfl];simp at e;subst e;rw[<-d.len];exact⟨b,rfl,f⟩
 ·rcases bQ.mp hw with hw|hw
  ·exact d.lt w hw
  ·rw[aT.mp hw];exact h
noncomputable def uW:Sp:=fun vs H Q _=>∃(b a:Addr)(c left:Int)(free:Bool)(ps:List Nat)(ys:List V),vs=[.ref b,.ref a,.int c,.int left,.bl free]/\H b=some (.lst (iN ps))/\H a=some (.lst ys)/\ys.length=ps.length/\1<=ps.length/\ps.length<=31/\(∀v,1<=v->v<ps.length->ps.getD v 0<v)/\
 ∀(H':Hp)(t:Addr)(cs:List V)(d:List Nat),aM H H'->H t=none->H' t=some (.lst cs)->cs.length<=40->cs≠[]->Cb H' c ys ps.length d cs->(∀v,v<ps.length->Bm.near (fn ps) ps.length v<=2->v∈d)->Q (.ref t) H'
noncomputable abbrev putE:CE:=.meth1 .append (.var 5) (.tup (.cons (.call "_law_name" (.cons (.bfn .len (.cons (.var 5) .nil)) (.cons (.var 2) .nil))) (.cons (.idx (.var 1) (.var 6)) .nil)))
section
variable {G:Gam}{K:ah}{E:XS}
theorem HE(g:G.fn "_law_name" 2=some (spNm,[])){t c:Addr}{h:Int}{vv:List Nat}{N:Nat}{a d e f x y:Option V}{Q:VK}(o:H t=none)(s:aM H H1)(j:H1 t=some (.lst cs))(k:H1 c=some (.lst ys))(hi:i<ys.length)(v:ys.length=N)(w:cs.length<40)(m:Cb H1 h ys N vv cs)
  (q:∀H2 b,aM H H2->H2 t=some (.lst (cs++[.ref b]))->H2 c=some (.lst ys)->Cb H2 h ys N (vv++[i]) (cs++[.ref b])->Q .non H2)(u:t≠c):
  wpE G K E putE [a,some (.ref c),some (.int h),d,e,some (.ref t),some (.int i),f,x,y] H1 Q:=by
 walk_at "wp"
 refine⟨.inl ⟨rfl,_,SqL.of j⟩,_,_,g,Or.inl ⟨t,cs,rfl,.inl (SqL.of j),?_⟩⟩;refine⟨cs.length,h,rfl,by lia,?_⟩;have r:ys[i]? =some (ys.getD i .non):=by rw[ae,aa hi];rfl
 refine .inl ⟨c,ys,i,_,rfl,rfl,SqL.of k,cf r,short (by simp),fun b p=>?_⟩;generalize hX:upd H1 b _=H2;obtain⟨s2,n⟩:=jK hX p;clear hX;have l:=s2 _ _ j;refine⟨t,cs,_,rfl,rfl,l,K32.vJ (by lia),?_⟩;have tk:K32.Tk H2 (upd H2 t (.lst (cs++[.ref b]))):=K32.r6 l;refine q _ b (dW (s.trans s2) o) ao ?_ ((m.tk (K32.Tk.of s2)).tk tk |>.snoc (tk _ _ n) (by lia));rw[bo (bS u)];exact s2 _ _ k
theorem IK{ps:List Nat}(h1:1<=ps.length):((iN (ps.drop 1)).filter fun v=>match v with |.int j=>decide (j=(i:Int)) |_=>false).length=(Bm.kids (fn ps) ps.length i).length:=by
 have c:iN (ps.drop 1)=(aA (ps.length-1)).map fun m=>V.int ((ps.getD (m+1) 0:Nat):Int):=by
  unfold iN;apply bA
  ·simp
  ·intro j a b
   simp only[ai,cN]at a;simp only[bj,List.getElem_drop,fO];rw[ae,aa (by lia)];congr 2;simp only[Option.getD_some];congr 1;lia
 have d:aA ps.length=0::(aA (ps.length-1)).map Nat.succ:=by
  conv =>lhs;rw[show ps.length=(ps.length-1)+1 by lia]
  exact ES
 unfold Bm.kids;rw[c,d,mS,if_neg (by simp),fS,fS,ai,ai];congr 1;refine mw fun m _=>?_;show decide (((ps.getD (m+1) 0:Nat):Int)=(i:Int))=decide (1<=m.succ/\fn ps m.succ=i);rw[cA,decide_eq_true_eq,decide_eq_true_eq];constructor
 ·intro h;exact⟨by lia,by show ps.getD (m+1) 0=i;lia⟩
 ·rintro⟨_,h⟩
  have h:ps.getD (m+1) 0=i:=h;lia
theorem E1(g:G.fn "_law_name" 2=some (spNm,[])):Sat G K uW qY qD:=by
 rintro vs H Q E ⟨w,n,r,left,free,ps,ys,rfl,ea,I,W,b3,b8,b4,q⟩;unfold qY;change wpB G K _ _ _ [some (.ref w),some (.ref n),some (.int r),some (.int left),some (.bl free),none,none,none,none,none] H;walk_at "wp";refine⟨short (by simp),fun t A=>?_⟩;have X:aM H (upd H t (.lst [])):=aq A;have p:upd H t (.lst []) t=some (.lst []):=ao;have a4:t≠n:=fun z=>by rw[z,I]at A;cases A
 generalize upd H t (.lst [])=H1 at X p⊢;unfold nQ;walk_at "wp";refine fo ?_;walk_at "wp";refine Or.inl ⟨n,_,rfl,.inl (SqL.of (X _ _ I)),_,rfl,by lia,by lia,?_⟩;rw[W,aJ];refine K32.A4 dg (fun i σ H'=>aM H H'/\∃(cs:List V)(vv:List Nat)(left:Int)(u x y z:Option V),H' t=some (.lst cs)/\Cb H' r ys ps.length vv cs/\cs.length+ps.length<=40+i/\(i=ps.length->cs≠[])/\(∀v,v<i->Bm.near (fn ps) ps.length v<=2->v∈vv)/\σ=[some (.ref w),some (.ref n),some (.int r),some (.int left),some (.bl free),some (.ref t),u,x,y,z])
  ⟨X,[],[],left,none,none,none,none,p,⟨rfl,fun i c e=>by simp at e,fun v d=>by cases d⟩,by simp;lia,(fun h=>by lia),(fun v d=>absurd d (c8 _)),rfl⟩ (fun _ _ _ _ _=>trivial) ?_ ?_
 ·rintro i x σ H2 P s hi ⟨s2,cs,vv,left,u,x',y',z',p,B,a9,_,J,rfl⟩ rfl s3 hD hC
  have p:=s3 _ _ p;have B:=B.tk (K32.Tk.of s3);have s2:=s2.trans s3;have b5:=s2 _ _ I
  --the last rows,whatever was drawn
  have rest:∀(L D C:Int),wpB G K (fun _=>E) gm s [some (.ref w),some (.ref n),some (.int r),some (.int L),some (.bl free),some (.ref t),some (.int i),some (.int D),some (.int C),z'] P:=by
   intro L D C;unfold gm;walk_at "wp";have ec:lq (iN ps) (some 1) none=iN (ps.drop 1):=by
    unfold lq iN;rw[HT.mX,show HT.sIx (ps.map fun k:Nat=>V.int (k:Int)).length 0 (some 1)=min 1 (ps.map fun k:Nat=>V.int (k:Int)).length from HT.jw _ _ 1,ai,show min 1 ps.length=1 by lia,fN (by simp),List.map_drop]
   refine cL ⟨_,rfl,_,rfl,.inl ⟨w,_,rfl,SqL.of (s2 _ _ ea),fun l hl=>.inl ⟨l,rfl,⟨_,SqL.of ao⟩,?_⟩⟩⟩;rw[ec];generalize hX:upd P l _=H4;obtain⟨Y,el⟩:=jK hX hl;clear hX;refine oF (cK (xs:=iN (ps.drop 1))) (K32.dc (by rw[cU,cN];lia)) (fun F M=>M.seq (SqL.of el)) (fun v=>match v with |.int j=>decide (j=(i:Int)) |_=>false) id (fun τ=>∃u,τ=[u,some (.int i)]) ⟨none,rfl⟩ ?_ ?_
   ·rintro y τ F Rt Rf hy ⟨u,rfl⟩ M kt kf
    unfold iN at hy;obtain⟨j,_,rfl⟩:=ax.mp hy;walk_at "wp";by_cases h:(j:Int)=(i:Int)
    ·rw[decide_eq_true h,if_pos rfl]
     exact kt _ _ ⟨_,rfl⟩ (aM.refl _) (decide_eq_true h)
    ·rw[decide_eq_false h,if_neg ak]
     exact kf _ _ ⟨_,rfl⟩ (aM.refl _) (decide_eq_false h)
   intro F l2 M b0;have U:((iN (ps.drop 1)).filter fun v=>match v with |.int j=>decide (j=(i:Int)) |_=>false).length<=30/\(i+1=ps.length->((iN (ps.drop 1)).filter fun v=>match v with |.int j=>decide (j=(i:Int)) |_=>false)=[])/\((iN (ps.drop 1)).filter fun v=>match v with |.int j=>decide (j=(i:Int)) |_=>false).length=(Bm.kids (fn ps) ps.length i).length:=by
    refine⟨?_,?_,IK b3⟩
    ·refine aG (cP _ _) ?_
     rw[cU,cN];lia
    ·intro hN
     rw[oQ];intro v d;unfold iN at d;obtain⟨j,hj,rfl⟩:=ax.mp d;obtain⟨m,hm,rfl⟩:=cG.mp hj;rw[cN]at hm;have :=b4 (1+m) (by lia) (by lia);rw[List.getElem_drop];rw[ae,aa (by lia)]at this;have this:ps[1+m]<1+m:=this;show ¬decide (((ps[1+m]:Nat):Int)=(i:Int))=true;rw[decide_eq_true_eq];lia
   rw[dB];generalize((iN (ps.drop 1)).filter fun v=>match v with |.int j=>decide (j=(i:Int)) |_=>false)=fl at U;have Z:=M.trans (aq (o:=.lst fl) b0);have a2:upd F l2 (.lst fl) l2=some (.lst fl):=ao;have S:=Z _ _ (Y _ _ p);have R:=(B.tk (K32.Tk.of Y)).tk (K32.Tk.of Z);have O:=s2.trans (Y.trans Z);generalize upd F l2 (.lst fl)=H6 at a2 S R O⊢;refine Or.inl ⟨l2,_,rfl,.inl (SqL.of a2),?_⟩;refine .inr ⟨_,rfl,sI.mpr ?_⟩;unfold lK;walk_at "wp";have a7:=O _ _ I
   --a copy is put
   have put:wpB G K (fun _=>E) iX s [some (.ref w),some (.ref n),some (.int r),some (.int L),some (.bl free),some (.ref t),some (.int i),some (.int D),some (.int C),some (.int ((fl.length:Int)+if decide (0<(i:Int))=true then 1 else 0))] H6:=by
    unfold iX;refine HE (N:=ps.length) (vv:=vv) g A O S a7 (by lia) W (by lia) R (fun H7 b s8 T a3 a0=>?_) a4;unfold lJ;walk_at "wp";have a5:∀v,v<i+1->Bm.near (fn ps) ps.length v<=2->v∈vv++[i]:=fun v d f=>by
     rcases Dk.mp d with h|h
     ·exact cj _ (J v h f)
     ·rw[h];simp
    have a1:s.nx [some (.ref w),some (.ref n),some (.int r),some (.int L),some (.bl free),some (.ref t),some (.int i),some (.int D),some (.int C),some (.int ((fl.length:Int)+if decide (0<(i:Int))=true then 1 else 0))] H7:=hD _ _ ⟨s8,_,_,_,_,_,_,_,T,a0,by simp;lia,(fun _=>by simp),a5,rfl⟩;by_cases h0:C=0
    ·rw[decide_eq_true h0,if_pos rfl]
     refine Or.inl ⟨t,_,rfl,.inl (SqL.of T),Or.inl ⟨n,ys,rfl,.inl (SqL.of a3),?_⟩⟩;refine yz.mpr (sI.mpr (D4.mpr ⟨_,rfl,?_⟩));by_cases hlt:(((cs++[V.ref b]).length:Nat):Int)<40-(ys.length:Int)+(i:Int)
     ·rw[decide_eq_true hlt,if_pos rfl]
      have b7:(cs++[V.ref b]).length=cs.length+1:=by simp
      unfold lI;refine HE (N:=ps.length) (vv:=vv++[i]) (cs:=cs++[V.ref b]) g A s8 T a3 (show i<ys.length by lia) W (by lia) a0 (fun H8 b2 s9 a8 b6 a6=>?_) a4;exact hD _ _ ⟨s9,_,_,_,_,_,_,_,a8,a6,by simp at hlt⊢;lia,(fun _=>by simp),(fun v d f=>cj _ (a5 v d f)),rfl⟩
     ·rw[decide_eq_false hlt,if_neg ak]
      exact a1
    ·rw[decide_eq_false h0,if_neg ak]
     exact a1
   by_cases h2:2<(fl.length:Int)+if decide (0<(i:Int))=true then 1 else 0
   ·rw[decide_eq_true h2,if_pos rfl]
    by_cases hls:D=0
    ·rw[decide_eq_true hls,if_pos rfl]
     refine hC _ _ ⟨O,cs,vv,_,_,_,_,_,S,R,by lia,(fun hN=>?_),(fun v d f=>?_),rfl⟩
     ·rw[U.2.1 hN]at h2
      exfalso
      split at h2<;>simp at h2
     ·rcases Dk.mp d with h|h
      ·exact J v h f
      ·exfalso
       rw[h]at f;unfold Bm.near at f;rw[<-U.2.2]at f;by_cases h0:i=0
       ·rw[if_pos h0]at f
        rw[if_neg (by simp;lia)]at h2;lia
       ·rw[if_neg h0]at f
        rw[if_pos (by simp;lia)]at h2;lia
    ·rw[decide_eq_false hls,if_neg ak]
     exact put
   ·rw[decide_eq_false h2,if_neg ak]
    exact put
  walk_at "wp"
  simp only[eE];refine⟨⟨by lia,by lia⟩,by decide,?_⟩;unfold lM;walk_at "wp";refine⟨⟨by lia,by lia⟩,by decide,?_⟩;unfold lL;walk_at "wp";refine⟨free,rfl,?_⟩;have more:wpB G K (fun _=>E) hU {nx:=wpB G K (fun _=>E) gm s,rt:=s.rt,bk:=s.bk,ct:=s.ct} [some (.ref w),some (.ref n),some (.int r),some (.int left),some (.bl free),some (.ref t),some (.int i),some (.int (left%2)),some (.int (r/((i:Int)+5)%5)),z'] P:=by
   unfold hU;walk_at "wp";refine⟨⟨by decide,by decide⟩,by decide,?_⟩;unfold jU;walk_at "wp";exact⟨⟨by decide,by decide⟩,rest _ _ _⟩
  cases free with
  |true=>
   rw[if_pos rfl];split
   ·exact⟨by decide,more⟩
   ·exact rest _ _ _
  |false=>
   rw[if_neg ak,if_neg ak];exact rest _ _ _
 ·rintro σ H2 ⟨s2,cs,vv,left,u,x',y',z',p,B,a9,b1,J,rfl⟩
  unfold nP;walk_at "wp";exact q H2 t cs vv s2 A p (by lia) (b1 rfl) B J
end
end Bt
namespace Bt
open PySem PySem.Spec PyProof.Rows L2 R Cp Lt Kc Mt K21 K22
structure Blt(H:Hp)(t:Addr)(cs:List V)(nf:Nat->Str)(vf:Nat->Nat)(f:Nat->Int)(ps os:List Nat):Prop where
 et:H t=some (.lst cs)
 l1:1<=cs.length
 l40:cs.length<=40
 ok:∀i,gZ (nf i)=true
 inj:∀i j,i<cs.length->j<cs.length->nf i=nf j->i=j
 at_:∀(i:Nat) c,cs[i]? =some c->vf i<ps.length/\∃b r,c=.ref b/\H b=some (.tup [.str (nf i),.ref r])/\H r=some (.tup ((nd f (fn os) (fn ps) os.length (vf i)).map V.int))
 n60:os.length<=60
 bit:∀p,p<os.length->f p=0\/f p=1
 par:∀v,1<=v->v<ps.length->ps.getD v 0<v
theorem sort2{α:Type}{d:α}{a b:List Int}(h:a≠b)(x y:α):∃u v c e,_root_.Q.ck d [a,b] [x,y]=[u,v]/\((u=x/\v=y/\c=a/\e=b)\/(u=y/\v=x/\c=b/\e=a))/\_root_.Q.llt c e=true:=by
 have nd:[a,b].Nodup:=by simp[h]
 obtain⟨P,U,_⟩:=_root_.Q.eT (_root_.Q.E3 nd) (by simp);have P2:=eI.mp P.perm;have o:=P.size;have q:=U 0 1 (by decide) (by simp);unfold _root_.Q.ck _root_.Q.vo;rw[if_neg (by simp)];generalize _root_.Q.run (_root_.Q.ltL [a,b]) (ji [a,b].length)=p at *;obtain⟨l⟩:=p;have n:l.length=2:=by simpa using o
 obtain⟨i,j,rfl⟩:∃i j,l=[i,j]:=by
  match l,n with
  | [i,j],_=>exact⟨i,j,rfl⟩
 have f:∀k,(k=i\/k=j)↔k<2:=fun k=>by simpa using P2.mem_iff (a:=k)
 have g:_root_.Q.ltL [a,b] i j=true:=q;have h0:=(f 0).mpr (by decide);have h1:=(f 1).mpr (by decide);have m:(i=0/\j=1)\/(i=1/\j=0):=by lia
 rcases m with⟨rfl,rfl⟩ |⟨rfl,rfl⟩
 ·exact⟨x,y,a,b,rfl,.inl ⟨rfl,rfl,rfl,rfl⟩,g⟩
 ·exact⟨y,x,b,a,rfl,.inr ⟨rfl,rfl,rfl,rfl⟩,g⟩
def ends(g:Nat->List Int)(par:Nat->Nat)(e:Nat)(c:List Int×List Int):Prop:=(c=(g e,g (par e))\/c=(g (par e),g e))/\_root_.Q.llt c.1 c.2=true
theorem ends_nd{g:Nat->List Int}{par:Nat->Nat}{N:Nat}{ks:List (List Int×List Int)}(a:∀i j,i<N->j<N->g i=g j->i=j)(p:∀v,(g v).length=m)(hp:∀v,1<=v->v<N->par v<v)(o:∀i c,ks[i]? =some c->i+1<N/\ends g par (i+1) c):(ks.map _root_.Q.j4).Nodup/\∀k∈ks,k.1.length=m/\k.2.length=m:=by
 have len:∀k∈ks,k.1.length=m/\k.2.length=m:=fun k h=>by
  obtain⟨i,e⟩:=cu.mp h;rcases(o i k e).2.1 with rfl|rfl<;>exact⟨p _,p _⟩
 refine⟨?_,len⟩;refine cZ.mpr fun i j hi n s e=>?_;simp only[ai]at hi n;simp only[bj]at e;have q:=len _ (ba hi);have r:=len _ (ba n);obtain⟨b,ei,_⟩:=o i _ (aa hi);obtain⟨d,ej,_⟩:=o j _ (aa n);have t:=hp (i+1) (by lia) b;have u:=hp (j+1) (by lia) d;obtain⟨f,l⟩:=List.append_inj (show ks[i].1++ks[i].2=ks[j].1++ks[j].2 from e) (q.1.trans r.1.symm);rcases ei with ei|ei<;>rcases ej with ej|ej<;>rw[ei,ej]at f l
 ·have :=a _ _ b d f
  lia
 ·have :=a _ _ b (by lia) f
  have :=a _ _ (by lia) d l
  lia
 ·have :=a _ _ (by lia) d f
  have :=a _ _ b (by lia) l
  lia
 ·have :=a _ _ b d l
  lia
noncomputable abbrev gN(f:Nat->Int)(ps os:List Nat)(v:Nat):List Int:=nd f (fn os) (fn ps) os.length v
noncomputable abbrev nds(f:Nat->Int)(ps os:List Nat):List (List Int):=(aA ps.length).map (gN f ps os)
noncomputable def pls(os:List Nat)(e:Nat):List V:=(nats os.length).filter fun o=>match o with |.int i=>decide (((os.getD i.toNat 0:Nat):Int)=((e:Nat):Int)) |_=>false
def BrV(H:Hp)(f:Nat->Int)(ps os:List Nat)(z:V)(e:Nat):Prop:=∃b a c d x y,z=V.ref b/\H b=some (.tup [.ref a,.ref c,.ref d])/\H a=some (.tup (x.map V.int))/\H c=some (.tup (y.map V.int))/\((x=gN f ps os e/\y=gN f ps os (ps.getD e 0))\/(x=gN f ps os (ps.getD e 0)/\y=gN f ps os e))/\H d=some (.tup (pls os e))
theorem BrV.tk{f:Nat->Int}{ps os:List Nat}{z:V}{e:Nat}(h:BrV H f ps os z e)(t:K32.Tk H H'):BrV H' f ps os z e:=by
 obtain⟨b,i,j,k,x,y,a,h1,h2,c,d,g⟩:=h;exact⟨b,i,j,k,x,y,a,t _ _ h1,t _ _ h2,t _ _ c,d,t _ _ g⟩
structure Bx(H:Hp)(bs:List V)(m:Nat)(vf:Nat->Nat)(f:Nat->Int)(ps os:List Nat):Prop where
 ow:∀p,p<os.length->fn os p<ps.length
 has:∀v,1<=v->v<ps.length->∃p,p<os.length/\fn os p=v
 cp:∀v,v<ps.length->Bm.near (fn ps) ps.length v<=2->∃i,i<m/\vf i=v
 br:∀z∈bs,∃e,1<=e/\e<ps.length/\BrV H f ps os z e
 all:∀e,1<=e->e<ps.length->∃z∈bs,BrV H f ps os z e
 bl:bs.length<=30
 few:∀v,1<=v->os.count v<=3
noncomputable def yH(K:ah):Sp:=fun vs H Q _=>∃(a:Addr)(ns:List Int)(st:Nat),vs=[.ref a,.int st]/\SqL K H a (ns.map V.int)/\ns.length<=63/\st<=10/\
 ∀(H':Hp)(p t b br:Addr)(cs ys bs:List V)(nf:Nat->Str)(vf:Nat->Nat)(f:Nat->Int)(ps os:List Nat),aM H H'->H' p=some (.tup [.ref t,.ref b,.ref br])->Blt H' t cs nf vf f ps os->1<=ps.length->ps.length<=31->(nds f ps os).Nodup->_root_.Q.IntKeys H' ys (nds f ps os)->H' b=some (.lst (_root_.Q.ck .non (nds f ps os) ys))->H' br=some (.lst bs)->Bx H' bs cs.length vf f ps os->Q (.ref p) H'
theorem vS{ms:List Nat}{v:Nat}:∀(k:Nat),(hJ ms k).count v=if v<k then ms.getD v 0 else 0
 | 0=>by simp[hJ]
 |k+1=>by
  have h:=vS (ms:=ms) (v:=v) k;unfold hJ at h⊢;rw[jX,eh,List.count_append,h,dZ,gW,cV,List.count_replicate];by_cases e:k=v
  ·subst e
   simp
  ·have a:(k==v)=false:=by simpa using e
   rw[a,if_neg ak,Nat.add_zero];by_cases c:v<k
   ·rw[if_pos c,if_pos (by lia)]
   ·rw[if_neg c,if_neg (by lia)]
theorem own_of{ms os:List Nat}(h:os.Perm (hJ ms ms.length)){v:Nat}(b:v<ms.length)(h1:1<=ms.getD v 0):∃p,p<os.length/\fn os p=v:=by
 have a:v∈os:=by
  rw[h.mem_iff];unfold hJ;rw[cY];exact⟨v,aQ.mpr b,List.mem_replicate.mpr ⟨by lia,rfl⟩⟩
 obtain⟨p,hp,e⟩:=cG.mp a;exact⟨p,hp,by show os.getD p 0=v;rw[ae,aa hp];exact e⟩
theorem rot(a:k<cs.length)(hi:i<cs.length):(cs.drop k++cs.take k)[i]? =cs[(i+k)%cs.length]? :=by
 by_cases h:i<cs.length-k
 ·rw[cH (by rw[cN];exact h),iO,eH (by lia),Nat.add_comm]
 ·rw[bV (by rw[cN];lia),cN,List.getElem?_take,if_pos (by lia),Nat.mod_eq_sub_mod (by lia),eH (by lia)]
  congr 1
  lia
theorem Ed{ks:List (List Int)}(h:_root_.Q.IntKeys H ys ks):∀j,j<ks.length->∃a,ys[j]? =some (V.ref a)/\H a=some (.tup ((ks.getD j []).map V.int)):=by
 unfold _root_.Q.IntKeys at h
 induction h with
 |nil=>intro j b;exact absurd b (c8 _)
 |cons r t ih=>
  intro j b;cases j with
  |zero=>obtain⟨a,rfl,f⟩:=r;exact⟨a,rfl,f⟩
  |succ j=>exact ih j (by simpa using b)
theorem two_nd{a b:List Int}(h:a≠b):[a,b].Nodup:=by simp[h]
theorem Cw{f:Nat->Int}{ps os:List Nat}(h:j<ps.length):(nds f ps os).getD j []=gN f ps os j:=by
 rw[ae,av,bJ h];rfl
section
variable {G:Gam}{K:ah}
theorem GQ(g0:G.fn "_law_cell_at" 2=some (uX K,[]))(L:G.fn "_law_mixed" 2=some (Ak,[]))(O:G.fn "_law_grown" 2=some (uV K,[]))(g3:G.fn "_law_owners" 4=some (uT,[]))(g4:G.fn "_law_nodes" 5=some (yB,[]))(g5:G.fn "_law_copies" 5=some (uW,[])):
  Sat G K (yH K) tF sX:=by
 rintro vs H Q E ⟨a,ns,st,rfl,ha,hn,g8,q⟩;unfold tF;change wpB G K _ _ _ [some (.ref a),some (.int st),none,none,none,none,none,none,none,none,none,none,none,none,none,none] H;walk_at "wp";refine⟨_,_,O,a,ns,st,rfl,ha,hn,g8,fun H1 p pa pm ps ms s1 ep ea em n=>?_⟩;refine⟨p,_,rfl,SqT.of ep,rfl,_,_,rfl,_,_,rfl,rfl,?_⟩;unfold pK;walk_at "wp";refine⟨_,_,g0,a,ns,0,rfl,s1.seq ha,?_⟩;generalize ns.getD 0 0=c0;refine iG.mpr ⟨by decide,jd.mpr ?_⟩;generalize decide (c0%2=1)=free;unfold pJ;walk_at "wp";refine⟨_,_,L,_,_,g0,a,ns,0,rfl,s1.seq ha,?_⟩;generalize ns.getD 0 0=c0;refine⟨c0,1,rfl,by decide,by decide,?_⟩;generalize mx c0 1=seed;unfold pI;walk_at "wp";refine⟨_,_,g3,by decide,_,_,g0,a,ns,0,rfl,s1.seq ha,?_⟩;generalize ns.getD 0 0=c0;refine div_ii.mpr ⟨⟨by decide,by decide⟩,?_⟩;have b2:=n.n31;have b1:=n.one;have i5:=n.len;refine⟨pm,seed%10007,c0/98,free,ms,rfl,em,by lia,n.sum,cB _ (by decide),Int.le_of_lt (bX _ (by decide)),fun H2 p2 lo os left s2 a8 i0 eo a6=>?_⟩;refine⟨p2,_,rfl,SqT.of a8,rfl,_,_,rfl,_,_,rfl,rfl,?_⟩;have d6:=s1.trans s2;have b3:os.length<=60:=by
  rw[a6.length_eq,pY ms _ (ay _)];exact aG (mU ms _) n.sum
 unfold pH;walk_at "wp";refine⟨_,_,g0,a,ns,1,rfl,d6.seq ha,?_⟩;generalize ns.getD 1 0=c1;unfold pG;walk_at "wp";refine⟨_,_,g4,_,_,L,c1,2,rfl,by decide,by decide,?_⟩;generalize mx c1 2=sd2;refine⟨⟨by decide,by decide⟩,?_⟩;refine⟨pa,lo,sd2,c1/7,free,ps,os,rfl,s2 _ _ ea,eo,b1,b2,b3,n.par,fun H3 nl ys f s3 i1 a2 hf ik=>?_⟩;have h6:=d6.trans s3;have a7:=s3 _ _ (s2 _ _ ea);have c7:=s3 _ _ eo;have h0:=K32.eP ik;rw[ai,aW]at h0;have few:∀v,1<=v->os.count v<=3:=fun v h1=>by
  rw[a6.count_eq,vS];split
  ·exact(n.m0 v h1 (by assumption)).2
  ·exact aR _
 have own:∀v,1<=v->v<ps.length->∃p,p<os.length/\fn os p=v:=fun v h1 B=>own_of a6 (by lia) (n.m0 v h1 (by lia)).1;have a9:∀i j,i<ps.length->j<ps.length->gN f ps os i=gN f ps os j->i=j:=fun i j hi g e=>by
  rcases Nat.lt_trichotomy i j with h|h|h
  ·exact absurd e.symm (AJ (N:=ps.length) n.par hf h g (own j (by lia) g))
  ·exact h
  ·exact absurd e (AJ (N:=ps.length) n.par hf h hi (own i (by lia) hi))
 have d5:(nds f ps os).Nodup:=by
  refine cZ.mpr fun i j hi g i4 e=>?_;simp only[ai,aW]at hi g;simp only[bj,fO]at e;have :=a9 i j hi g e;lia
 unfold pF;walk_at "wp";refine⟨short (by simp),fun br d0=>?_⟩;generalize hX:upd H3 br _=H4;obtain⟨s4,J⟩:=jK hX d0;clear hX;unfold pE;walk_at "wp";refine fo ?_;walk_at "wp";refine Or.inl ⟨pa,_,rfl,.inl (SqL.of (s4 _ _ a7)),?_⟩;rw[cU];refine⟨_,_,rfl,⟨by lia,by lia,by lia,by lia⟩,?_⟩;refine eL dg (fun m σ H'=>aM H3 H'/\∃(bs:List V)(ks:List (List Int×List Int))(x y z:Option V),H' br=some (.lst bs)/\ks.length=m/\_root_.Q.jg H' bs ks/\(∀i c,ks[i]? =some c->i+1<ps.length/\ends (gN f ps os) (fn ps) (i+1) c)/\(∀(j:Nat) z,bs[j]? =some z->BrV H' f ps os z (j+1))/\σ=[some (.ref a),some (.int st),some (.ref pa),some (.ref pm),some (.bl free),some (.int seed),some (.ref lo),some (.int left),some (.int c1),some (.ref nl),some (.ref br),x,y,z,none,none])
  ⟨s4,[],[],none,none,none,J,rfl,.nil,(fun i c e=>by cases e),(fun j z e=>by cases e),rfl⟩ (fun _ _ _ _ _=>trivial) ?_ ?_
 ·rintro m x σ H5 I D2 W ⟨s,bs,ks,x',y',z',J,b0,tk,he,a3,rfl⟩ rfl M hD _
  have J:=M _ _ J;have s:=s.trans M;have B:m+1<ps.length:=by lia
  have i6:=n.par (m+1) (by lia) B;have d4:=K32.dR (K32.Tk.of s) ik;obtain⟨C,e1,f1⟩:=Ed d4 (m+1) (by rw[ai,aW];exact B);obtain⟨D,e2,f2⟩:=Ed d4 (ps.getD (m+1) 0) (by rw[ai,aW];lia);rw[Cw B]at f1;rw[Cw (by lia)]at f2;have ev:(1:Int)+(m:Int)=((m+1:Nat):Int):=by lia
  rw[ev];generalize hvv:m+1=v at *;walk_at "wp";refine .inl ⟨nl,_,v,_,rfl,rfl,SqL.of (s _ _ a2),cf e1,?_⟩;refine .inl ⟨pa,_,v,_,rfl,rfl,SqL.of (s _ _ a7),cf (qK B),?_⟩;refine .inl ⟨nl,_,ps.getD v 0,_,rfl,rfl,SqL.of (s _ _ a2),cf e2,?_⟩;refine⟨short (by simp),fun l hl=>?_⟩;have d3:gN f ps os v≠gN f ps os (ps.getD v 0):=fun e=>by
   have :=a9 _ _ B (by lia) e
   lia
  refine⟨l,_,[gN f ps os v,gN f ps os (ps.getD v 0)],os.length,rfl,SqL.of ao,by simp,two_nd d3,?_,.cons ⟨C,rfl,aq hl _ _ f1⟩ (.cons ⟨D,rfl,aq hl _ _ f2⟩ .nil),fun l2 f5=>?_⟩
  ·intro k U
   simp at U;rcases U with rfl|rfl<;>exact vC
  obtain⟨u,F,c,e,es,b4,a5⟩:=sort2 (d:=V.non) d3 (V.ref C) (V.ref D);rw[es];have R:aM I (upd (upd I l (.lst [.ref C,.ref D])) l2 (.lst [u,F])):=(aq hl).trans (aq f5);have c4:upd (upd I l (.lst [.ref C,.ref D])) l2 (.lst [u,F]) l2=some (.lst [u,F]):=ao;generalize upd (upd I l (.lst [.ref C,.ref D])) l2 (.lst [u,F])=H7 at R c4⊢;have b8:=s.trans R;unfold mH;walk_at "wp";refine cL ?_;walk_at "wp";refine Or.inl ⟨lo,_,rfl,.inl (SqL.of (b8 _ _ c7)),_,rfl,by rw[cU];lia,by rw[cU];lia,?_⟩;rw[cU,aJ];refine oF (xs:=nats os.length) K32.An (K32.dc (by unfold nats;simp;lia)) (fun _ _=>trivial) (fun o=>match o with |.int i=>decide (((os.getD i.toNat 0:Nat):Int)=((v:Nat):Int)) |_=>false) id (fun τ=>∃u,τ=[u,some (.int ((v:Nat):Int)),some (.ref lo)]) ⟨none,rfl⟩ ?_ ?_
  ·rintro x τ T Rt Rf hx ⟨u,rfl⟩ X kt kf
   unfold nats at hx;obtain⟨i,hi,rfl⟩:=ax.mp hx;have hi:=aQ.mp hi;walk_at "wp";refine .inl ⟨lo,_,i,_,rfl,rfl,SqL.of (X _ _ (b8 _ _ c7)),cf (qK hi),?_⟩;refine jd.mpr ⟨_,rfl,?_⟩;by_cases h:((os.getD i 0:Nat):Int)=((v:Nat):Int)
   ·rw[decide_eq_true h,if_pos rfl]
    exact kt _ _ ⟨_,rfl⟩ (aM.refl _) (decide_eq_true h)
   ·rw[decide_eq_false h,if_neg ak]
    exact kf _ _ ⟨_,rfl⟩ (aM.refl _) (decide_eq_false h)
  intro T l3 X f6;rw[dB];have e9:((nats os.length).filter fun o=>match o with |.int i=>decide (((os.getD i.toNat 0:Nat):Int)=((v:Nat):Int)) |_=>false).length<=60:=by
   refine aG (cP _ _) ?_;unfold nats;rw[ai,aW];exact b3
  generalize hpl:((nats os.length).filter fun o=>match o with |.int i=>decide (((os.getD i.toNat 0:Nat):Int)=((v:Nat):Int)) |_=>false)=pl at e9⊢;have S:aM H7 (upd T l3 (.lst pl)):=X.trans (aq f6);have c6:upd T l3 (.lst pl) l3=some (.lst pl):=ao;generalize upd T l3 (.lst pl)=H9 at S c6⊢;have h7:=b8.trans S;unfold mG;walk_at "wp";have c3:=S _ _ (R _ _ J);have c5:=S _ _ c4;refine⟨.inl ⟨rfl,_,SqL.of c3⟩,?_⟩;refine .inl ⟨l2,_,0,_,rfl,rfl,SqL.of c5,rfl,?_⟩;refine .inl ⟨l2,_,1,_,rfl,rfl,SqL.of c5,rfl,?_⟩;refine⟨l3,_,rfl,.inl ⟨SqL.of c6,fun z hz=>⟨short (by simp),fun w hw=>?_⟩⟩⟩;have P:aM H9 (upd (upd H9 z (.tup pl)) w (.tup [u,F,.ref z])):=(aq hz).trans (aq hw);have Z:upd (upd H9 z (.tup pl)) w (.tup [u,F,.ref z]) w=some (.tup [u,F,.ref z]):=ao;have c8:upd (upd H9 z (.tup pl)) w (.tup [u,F,.ref z]) z=some (.tup pl):=by rw[bo (bR ao hw)];exact ao
  generalize upd (upd H9 z (.tup pl)) w (.tup [u,F,.ref z])=H10 at P Z c8⊢;have c2:=P _ _ c3;have c9:=_root_.Q.lV tk;have Y:K32.Tk I H10:=K32.Tk.of (R.trans (S.trans P));have A:K32.Tk H10 (upd H10 br (.lst (bs++[.ref w]))):=K32.r6 c2;refine⟨br,_,_,rfl,rfl,c2,K32.vJ (by lia),?_⟩;refine hD _ _ ⟨dW (h7.trans P) d0,bs++[.ref w],ks++[(c,e)],_,_,_,ao,by simp[b0,hvv],?_,?_,?_,rfl⟩
  ·have L:=A _ _ (Y _ _ f1)
   have O:=A _ _ (Y _ _ f2);refine K32.Paired.snoc ?_ (Paired.gh tk ?_)
   ·rcases b4 with⟨rfl,rfl,rfl,rfl⟩ |⟨rfl,rfl,rfl,rfl⟩
    ·exact⟨w,C,D,_,rfl,A _ _ Z,L,O⟩
    ·exact⟨w,D,C,_,rfl,A _ _ Z,O,L⟩
   ·rintro y k ⟨a',x1,x2,rs,h1,h2,h3,h4⟩
    have t:K32.Tk H5 _:=fun b o h=>A b o (Y b o (M _ _ h));exact⟨a',x1,x2,rs,h1,t _ _ h2,t _ _ h3,t _ _ h4⟩
  ·intro i k a0
   by_cases hi:i<ks.length
   ·rw[cH hi]at a0
    exact he i k a0
   ·have f0:=(aD.mp a0).1
    rw[aN,dH]at f0;obtain rfl:i=m:=by lia
    rw[bV (by lia),b0,Nat.sub_self]at a0;cases a0;rw[hvv];refine⟨B,?_,a5⟩;rcases b4 with⟨_,_,rfl,rfl⟩ |⟨_,_,rfl,rfl⟩
    ·exact .inl rfl
    ·exact .inr rfl
  ·intro j y g
   have t:K32.Tk H5 (upd H10 br (.lst (bs++[.ref w]))):=fun b o h=>A b o (Y b o (M _ _ h));by_cases a4:j<bs.length
   ·rw[cH a4]at g
    exact(a3 j y g).tk t
   ·have f3:=(aD.mp g).1
    rw[aN,dH]at f3;obtain rfl:j=m:=by lia
    rw[bV (by lia),show j-bs.length=0 by lia]at g;cases g;rw[hvv];have L:=A _ _ (Y _ _ f1);have O:=A _ _ (Y _ _ f2);have g3:upd H10 br (.lst (bs++[.ref w])) z=some (.tup (pls os v)):=by
     unfold pls;rw[hpl];exact A _ _ c8
    rcases b4 with⟨rfl,rfl,rfl,rfl⟩ |⟨rfl,rfl,rfl,rfl⟩
    ·exact⟨w,C,D,z,_,_,rfl,A _ _ Z,L,O,.inl ⟨rfl,rfl⟩,g3⟩
    ·exact⟨w,D,C,z,_,_,rfl,A _ _ Z,O,L,.inr ⟨rfl,rfl⟩,g3⟩
 ·rintro σ H5 ⟨s,bs,ks,x',y',z',J,b0,tk,he,a3,rfl⟩
  unfold pD;walk_at "wp";refine⟨_,_,g5,pa,nl,seed,left,free,ps,ys,rfl,s _ _ a7,s _ _ a2,by lia,b1,b2,n.par,fun I t cs vv M ft et i3 e7 cb g9=>?_⟩;have h9:=M _ _ J;have d7:=s.trans M;have i2:1<=cs.length:=by
   cases cs with
   |nil=>exact absurd rfl e7
   |cons _ _=>simp
  unfold nS;walk_at "wp";refine⟨⟨by decide,by decide⟩,Or.inl ⟨t,_,rfl,.inl (SqL.of et),iG.mpr ⟨by lia,?_⟩⟩⟩;obtain⟨k,U⟩:=bP (cB (seed/11) (show((cs.length:Nat):Int)≠0 by lia));have f4:k<cs.length:=by
   have :=bX (seed/11) (show(0:Int)<((cs.length:Nat):Int) by lia)
   lia
  rw[U];unfold nR;walk_at "wp";have e1:lq cs (some (k:Int)) none=cs.drop k:=by
   unfold lq;rw[HT.mX,HT.jw,pL (by lia),fN (by rw[cN];lia)]
  have e2:lq cs none (some (k:Int))=cs.take k:=by
   unfold lq;rw[HT.mX,HT.jw,pL (by lia),z9,wD]
  refine .inl ⟨t,cs,rfl,SqL.of et,fun p1 f7=>?_⟩;rw[e1];generalize hX:upd I p1 _=H7;obtain⟨R,e4⟩:=jK hX f7;clear hX;refine .inl ⟨t,cs,rfl,SqL.of (R _ _ et),fun p2 f8=>?_⟩;rw[e2];generalize hX:upd H7 p2 _=T;obtain⟨X,a8⟩:=jK hX f8;clear hX;have d2:(cs.drop k).length+(cs.take k).length=cs.length:=by rw[cN,bN];lia
  refine .inr (.inr (.inl ⟨p1,p2,_,_,rfl,rfl,X _ _ e4,a8,K32.dc (by lia),fun p3 f9=>?_⟩));generalize hX:upd T p3 _=H9;obtain⟨S,e5⟩:=jK hX f9;clear hX;have b9:aM I H9:=R.trans (X.trans S);have d8:=d7.trans b9;have h5:=K32.dR (K32.Tk.of d8) ik;refine⟨nl,ys,nds f ps os,os.length,rfl,SqL.of (d8 _ _ a2),by simp;lia,d5,fun k U=>?_,h5,fun q1 g6=>?_⟩
  ·obtain⟨v,_,rfl⟩:=ax.mp U
   exact vC
  generalize hX:upd H9 q1 _=H10;obtain⟨P,e6⟩:=jK hX g6;clear hX;have a1:aM H5 H10:=M.trans (b9.trans P);have h8:_root_.Q.jg H10 bs ks:=Paired.gh tk fun y c ⟨a',x1,x2,rs,h1,h2,h3,h4⟩=>⟨a',x1,x2,rs,h1,a1 _ _ h2,a1 _ _ h3,a1 _ _ h4⟩;obtain⟨kn,kl⟩:=ends_nd (m:=os.length) a9 (fun v=>vC) n.par he;refine⟨br,bs,ks,os.length,rfl,SqL.of (a1 _ _ J),by lia,kn,kl,h8,fun q2 g7=>⟨short (by simp),fun w hw=>?_⟩⟩;have b6:=(aq (o:=.lst (_root_.Q.ck .non (ks.map _root_.Q.j4) bs)) g7).trans (aq (o:=.tup [.ref p3,.ref q1,.ref q2]) hw);have e0:=P.trans b6;have d9:=b9.trans e0;have b7:=d7.trans d9;refine q _ w p3 q1 q2 (cs.drop k++cs.take k) ys _ (fun i=>nmB seed ((i+k)%cs.length)) (fun i=>vv.getD ((i+k)%cs.length) 0) f ps os (h6.trans b7) ao ?_ b1 b2 d5 (K32.dR (K32.Tk.of b7) ik) (b6 _ _ e6) (aq hw _ _ ao) ?_
  rotate_left
  ·have c9:=_root_.Q.lV tk
   have pm:(_root_.Q.ck V.non (ks.map _root_.Q.j4) bs).Perm bs:=K83.iT _ kn (by rw[ai];exact c9);have e3:=K32.Tk.of (a1.trans b6);refine⟨fun p hp=>?_,own,fun v B hn=>?_,fun z hz=>?_,fun e e1 e2=>?_,?_,few⟩
   ·have W:os.getD p 0∈os:=by rw[ae,aa hp];exact ba hp
    rw[a6.mem_iff]at W;unfold hJ at W;obtain⟨e,e8,W⟩:=cY.mp W;have :=aQ.mp e8;have :=(List.mem_replicate.mp W).2;show os.getD p 0<ps.length;lia
   ·obtain⟨j,g,ej⟩:=cG.mp (g9 v B hn)
    have a4:j<cs.length:=by rw[cb.len];exact g
    refine⟨(j+(cs.length-k))%cs.length,by rw[aN,d2];exact BI _ (by lia),?_⟩;have em:((j+(cs.length-k))%cs.length+k)%cs.length=j:=by
     by_cases h:k<=j
     ·rw[show j+(cs.length-k)=(j-k)+cs.length by lia,Nat.add_mod_right,eH (show j-k<cs.length by lia),Nat.sub_add_cancel h,eH a4]
     ·rw[eH (show j+(cs.length-k)<cs.length by lia),show j+(cs.length-k)+k=j+cs.length by lia,Nat.add_mod_right,eH a4]
    show vv.getD (((j+(cs.length-k))%cs.length+k)%cs.length) 0=v;rw[em,ae,aa g];exact ej
   ·obtain⟨j,g⟩:=cu.mp (pm.mem_iff.mp hz)
    have :=(aD.mp g).1
    exact⟨j+1,by lia,by lia,(a3 j z g).tk e3⟩
   ·have g:e-1<bs.length:=by lia
    have h:=a3 (e-1) _ (aa g);rw[show e-1+1=e by lia]at h;exact⟨_,pm.mem_iff.mpr (ba g),h.tk e3⟩
   ·rw[pm.length_eq]
    lia
  have d1:(cs.drop k++cs.take k).length=cs.length:=by rw[aN,d2]
  have md:∀i,(i+k)%cs.length<cs.length:=fun i=>BI _ (by lia);refine⟨e0 _ _ e5,by lia,by lia,fun i=>nmB_ok (aY (md i) (by lia)),fun i j hi g e=>?_,fun i c hc=>?_,b3,hf,n.par⟩
  ·have e:=nmB_inj (aY (md i) (by lia)) (aY (md j) (by lia)) e
   rw[d1]at hi g;have r:∀i,i<cs.length->(i+k)%cs.length=if i+k<cs.length then i+k else i+k-cs.length:=fun i hi=>by
    by_cases h:i+k<cs.length
    ·rw[if_pos h,eH h]
    ·rw[if_neg h,Nat.mod_eq_sub_mod (by lia),eH (by lia)]
   rw[r i hi,r j g]at e;split at e<;>split at e<;>lia
  ·have hi:=(aD.mp hc).1
   rw[d1]at hi;rw[rot f4 hi]at hc;obtain⟨b,rfl,hb⟩:=cb.at_ _ c hc;have b5:vv.getD ((i+k)%cs.length) 0<ps.length:=by
    have a5:(i+k)%cs.length<vv.length:=by rw[<-cb.len];exact md i
    rw[ae,aa a5];exact cb.lt _ (ba a5)
   obtain⟨r,er,fr⟩:=Ed ik _ (show vv.getD ((i+k)%cs.length) 0<(nds f ps os).length by rw[ai,aW];exact b5);rw[ae (l:=ys),er]at hb;rw[Cw b5]at fr;exact⟨b5,b,r,rfl,d9 _ _ hb,b7 _ _ fr⟩
end
end Bt
namespace Bt
open PySem PySem.Spec PyProof.Rows L2 R Cp Lt Kc Mt K21 K22 Lm
section
variable {H:Hp}{t:Addr}{cs bs:List V}{nf:Nat->Str}{vf:Nat->Nat}{f:Nat->Int}{ps os:List Nat}
noncomputable def rws(m:Nat)(vf:Nat->Nat)(f:Nat->Int)(ps os:List Nat):List (List Int):=(aA m).map fun i=>gN f ps os (vf i)
theorem rws_at(h:i<m):(rws m vf f ps os).getD i []=gN f ps os (vf i):=by
 unfold rws;rw[ae,av,bJ h];rfl
theorem Blt.vlt(B:Blt H t cs nf vf f ps os)(h:i<cs.length):vf i<ps.length:=(B.at_ i _ (aa h)).1
theorem Blt.row(B:Blt H t cs nf vf f ps os)(h:r∈rws cs.length vf f ps os):∃v,v<ps.length/\r=nd f (fn os) (fn ps) os.length v:=by
 unfold rws at h;obtain⟨i,hi,rfl⟩:=ax.mp h;exact⟨vf i,B.vlt (aQ.mp hi),rfl⟩
theorem Br{a b:Bool}{x:Int}(c:x=0\/x=1)(h:(if a=true then 1-x else x)=if b=true then 1-x else x):a=b:=by
 rcases c with rfl|rfl<;>cases a<;>cases b<;>first |rfl| (revert h;decide)
theorem Blt.mis(B:Blt H t cs nf vf f ps os)(A:i<j)(e:j<os.length):M6.Mis (rws cs.length vf f ps os) i j:=by
 have g:=B.bit i (by lia);have h:=B.bit j e;have get:∀{p v:Nat},p<os.length->(nd f (fn os) (fn ps) os.length v).getD p 0=if on (fn ps) (fn os p) v=true then 1-f p else f p:=fun{p v} hp=>by rw[dI hp];rfl
 apply aI
 intro l;have ex:∀a b:Bool,∃v,v<ps.length/\on (fn ps) (fn os i) v=a/\on (fn ps) (fn os j) v=b:=fun a b=>by
  apply aI
  intro k;refine l ⟨if a=true then 1-f i else f i,if b=true then 1-f j else f j,by split <;>lia,by split <;>lia,fun r m ⟨h1,h2⟩=>?_⟩;obtain⟨v,c,rfl⟩:=B.row m;rw[get (by lia)]at h1;rw[get e]at h2;refine k ⟨v,c,?_,?_⟩
  ·exact Br g h1
  ·exact Br h h2
 obtain⟨u,n,u1,q⟩:=ex true true;obtain⟨v,c,s,x⟩:=ex true false;obtain⟨w,o,y,z⟩:=ex false true;exact Il (d:=0) B.par n c o ⟨u1,q⟩ ⟨s,x⟩ ⟨y,z⟩
theorem Blt.tn(B:Blt H t cs nf vf f ps os):K34.Tn H t nf os.length cs (rws cs.length vf f ps os) where
 et:=B.et
 ln:=by unfold rws;rw[ai,aW]
 row:=fun i y e=>by
  obtain⟨_,b,r,h1,h2,a⟩:=B.at_ i y e;exact⟨b,r,h1,h2,by rw[rws_at (aD.mp e).1];exact a⟩
 ok:=B.ok
 inj:=B.inj
 len:=B.l40
 n10:=B.n60
 rd:=fun r g=>by
  obtain⟨v,_,rfl⟩:=B.row g;exact Bm.nd_ok B.bit v
 mis:=fun i j c d=>B.mis c d
theorem Blt.ne(B:Blt H t cs nf vf f ps os):cs≠[]:=fun z=>by have :=B.l1;rw[z]at this;simp at this
theorem Blt.bk(B:Blt H t cs nf vf f ps os)(x:Bx H bs cs.length vf f ps os):Bm.Bk f (fn os) (fn ps) os.length ps.length (rws cs.length vf f ps os) where
 hp:=B.par
 hf:=B.bit
 ow:=x.ow
 has:=x.has
 row:=fun r b=>B.row b
 cp:=fun v c a=>by
  obtain⟨i,hi,e⟩:=x.cp v c a;unfold rws;exact ax.mpr ⟨i,aQ.mpr hi,by rw[e]⟩
 tb:=B.tn.tbl B.ne
end
end Bt
namespace K62
open PySem R
noncomputable def vi:List Str:=["_law_nodes_here","_law_cell","_law_many"]
noncomputable def m6:List Str:=["_law_nodes_here","_law_cell","_law_many","_law_node","_law_left","_law_drawn","_law_places","_law_k","_law_place"]
noncomputable def lA:CB:=
  (.cons (.ret (.comp ["_law_place"] [3] (.name 0) (.seq (.var 6)) .no (.tup (.cons (.var 0) (.cons (.idx (.var 1) (.var 0)) .nil)))))
  .nil)
noncomputable def fZ:CB:=
  (.cons (.iff (.cmp .NotIn (.var 8) (.var 6))
  (.cons (.expr (.meth1 .append (.var 6) (.var 8)))
  .nil)
  .nil)
  .nil)
noncomputable def iI:CB:=
  (.cons (.asg (.name 4) (.bin .FloorDiv (.var 4) (.bfn .len (.cons (.var 3) .nil))))
  .nil)
noncomputable def je:CB:=
  (.cons (.iff (.and (.cmp .Eq (.bin .Mod (.var 2) (.con (.int 2))) (.con (.int 1))) (.cmp .GtE (.var 4) (.bfn .len (.cons (.var 3) .nil))))
  (.cons (.asg (.name 8) (.bin .Mod (.var 4) (.bfn .len (.cons (.var 3) .nil))))
  iI)
  .nil)
  fZ)
noncomputable def lB:CB:=
  (.cons (.forr (.name 7) (.range1 (.var 2))
  (.cons (.iff (.cmp .NotEq (.var 3) (.tup .nil))
  (.cons (.asg (.name 8) (.bin .Mod (.bin .Add (.bin .FloorDiv (.var 5) (.con (.int 20))) (.bin .Mult (.var 7) (.bin .Add (.con (.int 1)) (.bin .Mod (.bin .FloorDiv (.var 5) (.con (.int 1300))) (.con (.int 7)))))) (.bfn .len (.cons (.var 3) .nil))))
  je)
  .nil)
  .nil))
  lA)
noncomputable def lC:CB:=
  (.cons (.asg (.name 6) (.lst .nil))
  lB)
noncomputable def lD:CB:=
  (.cons (.asg (.name 5) (.call "_law_mixed" (.cons (.var 1) (.cons (.con (.int 3)) .nil))))
  lC)
noncomputable def lE:CB:=
  (.cons (.asg (.name 4) (.bin .FloorDiv (.var 1) (.bfn .len (.cons (.var 0) .nil))))
  lD)
noncomputable def nG:CB:=
  (.cons (.asg (.name 3) (.idx (.var 0) (.bin .Mod (.var 1) (.bfn .len (.cons (.var 0) .nil)))))
  lE)
end K62
namespace K62
open PySem PySem.Spec PyProof.Rows L2 R Cp Lt Kc K21 K22 Lm K32 K34 K75
section
variable {G:Gam}{K:ah}
theorem getD_at{xs:List Int}(h:i<xs.length):(xs.map V.int)[i]? =some (.int (xs.getD i 0)):=by
 rw[av,ae,aa h];rfl
theorem inV_iN(p:Nat)(pl:List Nat):inV (.int p) (Bt.iN pl)=decide (p∈pl):=by
 unfold inV Bt.iN;rw[uI,cA,b8,decide_eq_true_eq];constructor
 ·rintro⟨x,a,h⟩
  have h:((x:Int)==(p:Int))=true:=h;have :(x:Int)=(p:Int):=by simpa using h
  have :x=p:=by lia
  exact this▸a
 ·intro h
  exact⟨p,h,by show((p:Int)==(p:Int))=true;simp⟩
theorem flat_iN(pl:List Nat):(Bt.iN pl).all o5=true:=by
 unfold Bt.iN;rw[oR,bB];exact fun _ _=>rfl
noncomputable def spTl(K:ah):Sp:=fun vs H Q _=>∃(a:Addr)(c:Int)(m n:Nat)(ws:List V)(ns:List (List Int)),vs=[.ref a,.int c,.int m]/\SqL K H a ws/\Paired (NdV K H) ws ns/\ns≠[]/\ns.length<=61/\(∀v∈ns,M6.Ok n v)/\n<=60/\m<=7/\
 ∀H' l zs ts v,aM H H'->H l=none->Tls H' l zs ts->Vt n ts->v∈ns->rdT ts v=true->Q (.ref l) H'
theorem wp_tl(g1:G.fn "_law_mixed" 2=some (Bt.Ak,[])):Sat G K (spTl K) nG m6:=by
 rintro vs H Q E ⟨s,c,m,n,ws,ns,rfl,C,pn,ne,b0,a3,a9,m7,q⟩;have wl:ws.length=ns.length:=K83.dY pn;have b1:0<ns.length:=d9.mpr ne;unfold nG;change wpB G K _ _ _ [some (.ref s),some (.int c),some (.int m),none,none,none,none,none,none] H;walk_at "wp";refine .inl ⟨s,ws,rfl,.inl C,iG.mpr ⟨by lia,?_⟩⟩;have i0:0<=c%(ws.length:Int):=cB _ (by lia);have i1:c%(ws.length:Int)<(ws.length:Int):=bX _ (by lia);obtain⟨z,hz⟩:=bP i0;rw[hz]at i1⊢;have X:z<ws.length:=by lia
 obtain⟨v,hv,b,eb,D⟩:=fW pn (aa X);have W:=aC hv;have Z:=a3 v W;have vl:=Z.1;refine .inl ⟨s,ws,z,_,rfl,rfl,C,cf (aa X),?_⟩;rw[eb];unfold lE;walk_at "wp";refine .inl ⟨s,ws,rfl,.inl C,div_ii.mpr ⟨⟨by lia,by lia⟩,?_⟩⟩;generalize c/(ws.length:Int)=left;unfold lD;walk_at "wp";refine⟨_,_,g1,c,3,rfl,by decide,by decide,?_⟩;have a0:=Bt.mx_nn c 3;generalize Bt.mx c 3=dr at a0⊢;unfold lC;walk_at "wp";refine⟨short (by simp),fun g U=>?_⟩;have s1:=aq (o:=.lst []) U;have A:upd H g (.lst []) g=some (.lst []):=ao;generalize upd H g (.lst [])=H1 at s1 A⊢;unfold lB;walk_at "wp";refine fo ?_;walk_at "wp";refine⟨(m:Int),rfl,by lia,by lia,?_⟩;rw[aJ];refine eL dg (fun i σ H'=>aM H H'/\∃(pl:List Nat)(left:Int)(x y:Option V),H' g=some (.lst (Bt.iN pl))/\pl.length<=i/\pl.Nodup/\(∀p∈pl,p<n)/\σ=[some (.ref s),some (.int c),some (.int m),some (.ref b),some (.int left),some (.int dr),some (.ref g),x,y])
  ⟨s1,[],left,none,none,A,ay _,.nil,(fun p hp=>nomatch hp),rfl⟩ (fun _ _ _ _ _=>trivial) ?_ ?_
 ·rintro i x σ H2 r D2 hi ⟨s2,pl,left,x',y',ep,a7,nd,plt,rfl⟩ rfl s3 J _
  have ep:=s3 _ _ ep;have t:=s2.trans s3;have a2:=t.tup D
  --the last row
  have put:∀(f:Hp),aM r f->∀(Y:Int)(p:Nat),p<n->wpB G K (fun _=>E) fZ D2 [some (.ref s),some (.int c),some (.int m),some (.ref b),some (.int Y),some (.int dr),some (.ref g),some (.int (i:Int)),some (.int (p:Int))] f:=fun f d Y p hp=>by
   have ep:=d _ _ ep;have t:=t.trans d;unfold fZ;walk_at "wp";refine .inr ⟨g,Bt.iN pl,rfl,.inl (SqL.of ep),rfl,flat_iN pl,_,rfl,?_⟩;rw[if_pos rfl,inV_iN];by_cases cp:p∈pl
   ·rw[decide_eq_true cp,if_neg (by decide)]
    exact J _ _ ⟨t,pl,_,_,_,ep,by lia,nd,plt,rfl⟩
   ·rw[decide_eq_false cp,if_pos (by decide)]
    refine⟨.inl ⟨rfl,_,SqL.of ep⟩,g,_,_,rfl,rfl,ep,K32.vJ (by rw[Bt.cU];lia),J _ _ ⟨dW t U,pl++[p],_,_,_,by rw[Bt.uw];exact ao,by simp;lia,?_,fun x F=>?_,rfl⟩⟩
    ·rw[eS]
     exact⟨nd,by simp,fun a L b D=>by rw[aT.mp D];exact fun z=>cp (z▸L)⟩
    ·rcases bQ.mp F with h|h
     ·exact plt x h
     ·rw[aT.mp h];exact hp
  walk_at "wp"
  simp only[eE];refine⟨aR _,fun I a5=>?_⟩;have d:=aq (o:=.tup []) a5;have P:upd r I (.tup []) I=some (.tup []):=ao;generalize upd r I (.tup [])=f at d P⊢;have B:=d.tup a2;refine⟨K83.nd1 v,K83.nd1 [],⟨b,_,rfl,B,ff.ints _⟩,⟨I,_,rfl,SqT.of P,rfl⟩,?_,_,rfl,?_⟩
  ·show jo (v.map L2.D.int)+1<=30
   rw[oD];decide
  rw[CY];by_cases cv:v=[]
  ·rw[decide_eq_true cv,if_neg (by decide)]
   exact J _ _ ⟨t.trans d,pl,_,_,_,d _ _ ep,by lia,nd,plt,rfl⟩
  ·rw[decide_eq_false cv,if_pos (by decide)]
   have n0:0<n:=by rw[<-vl];exact d9.mpr cv
   have O:(v.map V.int).length=n:=by rw[ai,vl]
   have j0:0<=dr/1300%7:=cB _ (by decide);have j1:dr/1300%7<7:=bX _ (by decide);refine⟨⟨by decide,by decide⟩,⟨by decide,by decide⟩,by decide,v7 (by lia) (by lia),.inl ⟨b,_,rfl,.inr B,iG.mpr ⟨by lia,?_⟩⟩⟩;rw[O];have w0:0<=(dr/20+(i:Int)*(1+dr/1300%7))%(n:Int):=cB _ (by lia);have w1:(dr/20+(i:Int)*(1+dr/1300%7))%(n:Int)<(n:Int):=bX _ (by lia);obtain⟨p,hp⟩:=bP w0;rw[hp]at w1⊢;unfold je;walk_at "wp";refine⟨by decide,?_⟩;by_cases cm:(m:Int)%2=1
   ·rw[if_pos (decide_eq_true cm)]
    refine .inl ⟨b,_,rfl,.inr B,Je.mpr ⟨_,rfl,?_⟩⟩;rw[O];by_cases cl:(n:Int)<=left
    ·rw[if_pos (decide_eq_true cl)]
     refine .inl ⟨b,_,rfl,.inr B,iG.mpr ⟨by lia,?_⟩⟩;rw[O];have y0:0<=left%(n:Int):=cB _ (by lia);have y1:left%(n:Int)<(n:Int):=bX _ (by lia);obtain⟨p',a4⟩:=bP y0;rw[a4]at y1⊢;unfold iI;walk_at "wp";refine .inl ⟨b,_,rfl,.inr B,div_ii.mpr ⟨⟨by lia,by lia⟩,?_⟩⟩;exact put f d _ p' (by lia)
    ·rw[if_neg (by simpa using cl)]
     exact put f d _ p (by lia)
   ·rw[if_neg (by simpa using cm),if_neg ak]
    exact put f d _ p (by lia)
 ·rintro σ H2 ⟨s2,pl,left,x',y',ep,a7,nd,plt,rfl⟩
  unfold lA;walk_at "wp";have a1:=s2.tup D;refine cL (bD rfl (SqL.of ep) (dy cK (dc (by rw[Bt.cU];lia)) (fun r s3=>SqL.of (s3 _ _ ep)) (fun i w H'=>∃a,w=V.ref a/\H' a=some (.tup [.int (pl.getD i 0:Nat),.int (v.getD (pl.getD i 0) 0)])) (fun i w r f d ⟨a,e,h⟩=>⟨a,e,d _ _ h⟩) (fun τ=>∃u,τ=[u,some (.ref b)]) ⟨none,rfl⟩ ?_ ?_))
  ·rintro i x τ r R hi ⟨u,rfl⟩ s3 F k
   rw[Bt.cU]at hi;rw[Bt.qK hi]at F;cases F;have a6:pl.getD i 0∈pl:=by rw[ae,aa hi];exact ba hi
   have a8:=plt _ a6;walk_at "wp";refine .inr (.inl ⟨b,_,(pl.getD i 0:Nat),_,rfl,rfl,s3.tup a1,cf (getD_at (by lia)),short (by simp),fun a L=>k _ _ _ ⟨_,rfl⟩ (aq L) ⟨a,rfl,ao⟩⟩)
  ·intro vs r l N hF s3 M
   rw[Bt.cU]at N;have d:=s3.trans (aq (o:=.lst vs) M);refine q _ l vs (pl.map fun p=>(p,v.getD p 0)) v (s2.trans d) ((s2.trans s3).free M) ⟨ao,pr_mk (by rw[ai];exact N) fun j z w A S=>?_⟩ ⟨fun w C=>?_,?_⟩ W ?_
   ·obtain⟨a,e,h⟩:=hF j z A
    have T:j<pl.length:=by rw[<-N];exact(aD.mp A).1
    rw[av,aa T]at S;cases S;rw[ae,aa T]at h;exact⟨a,e,aq M _ _ h⟩
   ·obtain⟨p,hp,rfl⟩:=ax.mp C
    exact⟨plt p hp,Z.at p⟩
   ·rw[bf]
    have e:((fun x:Nat×Int=>x.1)∘fun p=>(p,v.getD p 0))=id:=rfl;rw[e,dB];exact nd
   ·unfold rdT
    rw[oR,bB];exact fun p _=>decide_eq_true rfl
end
end K62
namespace K64
open PySem R
noncomputable def Co:List Str:=["_law_node","_law_places"]
noncomputable def vE:List Str:=["_law_node","_law_places","_law_some","_law_place","_law_more","_law_one"]
noncomputable def qZ:CB:=
  (.cons (.ret (.var 2))
  .nil)
noncomputable def rf:CB:=
  (.cons (.forr (.name 3) (.seq (.var 1))
  (.cons (.asg (.name 4) (.lst .nil))
  (.cons (.forr (.name 5) (.seq (.var 2))
  (.cons (.expr (.meth1 .append (.var 4) (.bin .Add (.bin .Add (.cut (.var 5) .no (.yes (.var 3))) (.tup (.cons (.bin .Sub (.con (.int 1)) (.idx (.var 5) (.var 3))) .nil))) (.cut (.var 5) (.yes (.bin .Add (.var 3) (.con (.int 1)))) .no))))
  .nil))
  (.cons (.asg (.name 2) (.bin .Add (.var 2) (.var 4)))
  .nil))))
  qZ)
noncomputable def wm:CB:=
  (.cons (.asg (.name 2) (.lst (.cons (.var 0) .nil)))
  rf)
noncomputable def vh:List Str:=["_law_nodes_here","_law_branches","_law_tellings_here"]
noncomputable def m5:List Str:=["_law_nodes_here","_law_branches","_law_tellings_here","_law_told_places","_law_found","_law_one","_law_other","_law_places","_law_free","_law_node"]
noncomputable def lu:CB:=
  (.cons (.ret (.var 4))
  .nil)
noncomputable def ly:CB:=
  (.cons (.forr (.tup (.cons (.name 5) (.cons (.name 6) (.cons (.name 7) .nil)))) (.seq (.var 1))
  (.cons (.asgc 8 (.comp ["_law_place"] [3] (.name 0) (.seq (.var 7)) (.yes (.cmp .NotIn (.var 0) (.var 1))) (.var 0)))
  (.cons (.forr (.name 9) (.tseq (.tup (.cons (.var 5) (.cons (.var 6) .nil))))
  (.cons (.iff (.cmp .In (.var 9) (.var 0))
  (.cons (.asg (.name 4) (.bin .Add (.var 4) (.call "_law_amid" (.cons (.var 9) (.cons (.var 8) .nil)))))
  .nil)
  .nil)
  .nil))
  .nil)))
  lu)
noncomputable def lz:CB:=
  (.cons (.asg (.name 4) (.bfn .list (.cons (.var 0) .nil)))
  ly)
noncomputable def nF:CB:=
  (.cons (.asgc 3 (.comp ["_law_one"] [] (.name 0) (.seq (.var 2)) .no (.idx (.var 0) (.con (.int 0)))))
  lz)
noncomputable def vj:List Str:=["_law_nodes_here","_law_branches"]
noncomputable def m8:List Str:=["_law_nodes_here","_law_branches","_law_inner"]
noncomputable def nO:CB:=
  (.cons (.asgc 2 (.comp ["_law_branch"] [0] (.name 0) (.seq (.var 1)) (.yes (.and (.cmp .In (.idx (.var 0) (.con (.int 0))) (.var 1)) (.cmp .In (.idx (.var 0) (.con (.int 1))) (.var 1)))) (.var 0)))
  (.cons (.ret (.cmp .Eq (.bfn .len (.cons (.var 2) .nil)) (.bin .Sub (.bfn .len (.cons (.var 0) .nil)) (.con (.int 1)))))
  .nil))
end K64
namespace K64
open PySem PySem.Spec PyProof.Rows L2 R Cp Lt Kc K21 K22 Lm K32 K34 K75 K62
section
variable {G:Gam}{K:ah}
noncomputable def spAm(K:ah):Sp:=fun vs H Q _=>∃(a l:Addr)(v qs:List Int)(n:Nat),vs=[.ref a,.ref l]/\SqT K H a (v.map V.int)/\SqL K H l (qs.map V.int)/\v.length=n/\n<=60/\qs.length<=3/\(∀q∈qs,0<=q/\q<n)/\
 ∀H' m ys,aM H H'->H m=none->H' m=some (.lst ys)->Paired (NdV K H') ys (eV [v] qs)->Q (.ref m) H'
theorem flp_is{z:Nat}(h:z<v.length):(v.map V.int).take z++[V.int (1-v.getD z 0)]++(v.map V.int).drop (z+1)=(flp v z).map V.int:=by
 unfold flp;rw[aJ,List.set_eq_take_append_cons_drop,if_pos h];simp
theorem uA{c:Hp}{Q:VK}(s:aM c H)(d:H a=some (.tup xs))(f:H b=some (.tup ys))(fa:c a=none)(g:c b=none)(i:xs.length+ys.length<=100)(q:∀H' p,aM H H'->c p=none->H' p=some (.tup (xs++ys))->Q (.ref p) H'):jb K .Add (.ref a) (.ref b) H Q:=by
 by_cases h:xs=[]
 ·subst h
  exact .inr (.inr (.inr (.inr ⟨a,b,ys,rfl,rfl,SqT.of d,SqT.of f,q H b (aM.refl _) g f⟩)))
 ·exact .inr (.inr (.inr (.inl ⟨a,b,xs,ys,rfl,rfl,SqT.of d,SqT.of f,h,aG i (by decide),fun e=>q H a (aM.refl _) fa (by rw[e,cV];exact d),fun _ p hp=>q _ p (aq hp) (s.free hp) ao⟩)))
theorem flip_at{z:Nat}{Q:VK}(e:SqT K H b (v.map V.int))(hz:z<v.length)(x:v.length<=60)(m:σ[i]? =some (some (.ref b)))(n:σ[j]? =some (some (.int z)))
  (q:∀H' p,aM H H'->H p=none->H' p=some (.tup ((flp v z).map V.int))->Q (.ref p) H'):
  tOp (jb K .Add) (tOp (jb K .Add) (tSl (Fn K) (j3 i) oq (xo (j3 j))) (G1 (ja (tOp (jb K .Sub) (tC (.int 1)) (tOp (rIx K) (j3 i) (j3 j))) oU))) (tSl (Fn K) (j3 i) (xo (tOp (jb K .Add) (j3 j) (tC (.int 1)))) oq) σ H Q:=by
 have y:(v.map V.int).length=v.length:=ai ..;simp only[tOp,tSl,j3,oq,xo,G1,ja,oU,tC,m,n,fI,exists_eq_left',V.int.injEq];refine .inr (.inl ⟨b,_,rfl,e,?_,fun p1 h1=>?_⟩)
 ·rw[HT.jw]
  lia
 have k:lq (v.map V.int) none (some (z:Int))=(v.map V.int).take z:=by
  unfold lq;rw[HT.mX,HT.jw,pL (by lia),z9,wD]
 rw[k];have a:=aq (o:=.tup ((v.map V.int).take z)) h1;have f:upd H p1 (.tup ((v.map V.int).take z)) p1=some (.tup ((v.map V.int).take z)):=ao;generalize upd H p1 (.tup ((v.map V.int).take z))=H1 at a f⊢;refine .inr (.inl ⟨b,_,z,_,rfl,rfl,a.tup e,cf (K62.getD_at hz),yz.mpr ⟨aG (by simp :_<=1) (by decide),fun p2 h2=>?_⟩⟩);have s2:=aq (o:=.tup [.int (1-v.getD z 0)]) h2;have g:upd H1 p2 (.tup [.int (1-v.getD z 0)]) p2=some (.tup [.int (1-v.getD z 0)]):=ao;generalize upd H1 p2 (.tup [.int (1-v.getD z 0)])=H2 at s2 g⊢;refine uA (a.trans s2) (s2 _ _ f) g h1 (a.free h2) (by rw[bN];simp;lia) fun u p3 s3 r t3=>?_;have d:=(a.trans s2).trans s3;refine sI.mpr ⟨_,rfl,.inr (.inl ⟨b,_,rfl,d.tup e,?_,fun p4 c=>?_⟩)⟩
 ·rw[show(z:Int)+1=((z+1:Nat):Int) by lia,HT.jw]
  lia
 have l:lq (v.map V.int) (some ((z:Int)+1)) none=(v.map V.int).drop (z+1):=by
  unfold lq;rw[show(z:Int)+1=((z+1:Nat):Int) by lia,HT.mX,HT.jw,pL (by lia),fN (by rw[cN];lia)]
 rw[l];refine uA (d.trans (aq c)) (aq c _ _ t3) ao r (d.free c) (by simp;lia) fun w A t s h=>q _ _ ((d.trans (aq c)).trans t) s ?_;rw[flp_is hz]at h;exact h
theorem yS{α c:Type}{F:α->c->Prop}:∀{a:List α}{b:List c}{d:List α}{e:List c},Paired F a b->Paired F d e->Paired F (a++d) (b++e)
 |_,_,_,_,.nil,h=>h
 |_,_,_,_,.cons r t,h=>.cons r (yS t h)
theorem DU{c:Addr}{o:HO}{v:V}{k:List Int}(h:NdV K H v k)(a:H c=some (.lst zs)):NdV K (upd H c o) v k:=by
 obtain⟨b,rfl,hb⟩:=h;refine⟨b,rfl,?_⟩;rcases hb with(hb|⟨o',hb⟩) |hb
 ·exact .inl (.inl (by rw[bo (fun e=>by rw[e,a]at hb;cases hb)];exact hb))
 ·exact .inl (.inr ⟨o',by rw[bo (fun e=>by rw[e,a]at hb;cases hb)];exact hb⟩)
 ·exact .inr hb
theorem yn{q:Int}:∀{qs:List Int}{L:List (List Int)},eV L (qs++[q])=eV L qs++(eV L qs).map fun v=>flp v q
 | [],_=>rfl
 |_::qs,_=>yn (qs:=qs)
theorem wp_amid:Sat G K (spAm K) wm vE:=by
 rintro vs H Q E ⟨a,l,v,qs,n,rfl,Y,I,vn,a3,q3,hq,q⟩;unfold wm;change wpB G K _ _ _ [some (.ref a),some (.ref l),none,none,none,none] H;walk_at "wp";refine⟨aG (by simp :_<=1) (by decide),fun m e=>?_⟩;unfold rf;walk_at "wp";refine fo (bD rfl ((aq e).seq I) (eL cK (fun i σ H'=>aM H H'/\∃m ys,H m=none/\H' m=some (.lst ys)/\Paired (NdV K H') ys (eV [v] (qs.take i))/\∃u w x,σ=[some (.ref a),some (.ref l),some (.ref m),u,w,x])
  ⟨aq e,m,_,e,ao,.cons ⟨a,rfl,(aq e).tup Y⟩ .nil,_,_,_,rfl⟩ (fun i σ H' _ s=>s.1.seq I) ?_ ?_))
 ·rintro i y σ S T D2 hi ⟨s3,m,ys,F,t,pm,u,w,x,rfl⟩ N k W _
  rw[ai]at hi;rw[av,aa hi]at N;cases N;obtain⟨z,O⟩:=bP (hq _ (ba hi)).1;have a1:=(hq _ (ba hi)).2;rw[O]at a1⊢;have ex:qs.take (i+1)=qs.take i++[(z:Int)]:=by rw[cg,aa hi,O];rfl
  have a2:∀w,w∈eV [v] (qs.take i)->w.length=n:=Bz fun w hw=>by rw[aT.mp hw];exact vn
  have pm:=Paired.gh pm fun _ _ h=>h.same k;have A:=k _ _ t;have yl:ys.length=(eV [v] (qs.take i)).length:=K83.dY pm;have V:(eV [v] (qs.take i)).length<=8:=by
   rw[wu,bN];have :2^min i qs.length<=2^3:=Kb (by decide) (by lia);simpa using this
  walk_at "wp"
  refine⟨aR _,fun g J=>?_⟩;have P:=aq (o:=.lst []) J;refine fo (bD rfl (SqL.of (P _ _ A)) (eL cK (fun j σ H'=>aM T H'/\∃zs,H' g=some (.lst zs)/\Paired (NdV K H') zs (((eV [v] (qs.take i)).take j).map fun w=>flp w z)/\∃x,σ=[some (.ref a),some (.ref l),some (.ref m),some (.int z),some (.ref g),x])
   ⟨P,_,ao,.nil,_,rfl⟩ (fun j σ H' _ s=>SqL.of (s.1 _ _ A)) ?_ ?_))
  ·rintro j y2 σ U H6 D3 hj ⟨c,zs,B,d,x2,rfl⟩ a0 r X _
   obtain⟨w2,M,b,rfl,Z⟩:=fW pm a0;have L:=r _ _ B;simp only[km,uP,Dx,tBM,ja,oU,tJ,List.set_cons_succ];have lw:=a2 _ (aC M);refine⟨_,rfl,.inl ⟨rfl,_,SqL.of L⟩,flip_at ((c.trans r).tup Z) (by lia) (by lia) rfl rfl fun H7 p D fp hp=>?_⟩;have C:=D _ _ L;have s9:=(c.trans r).trans D;have R:zs.length<=8:=by
    rw[K83.dY d,ai,bN];lia
   refine⟨g,zs,_,rfl,rfl,C,lR R (by decide),X _ _ ⟨dW s9 J,_,ao,?_,_,rfl⟩⟩;rw[cg,M,c7];exact yS (Paired.gh d fun _ _ h=>DU (h.same (r.trans D)) C) (.cons (DU ⟨p,rfl,SqT.of hp⟩ C) .nil)
  ·rintro σ U ⟨c,zs,B,d,x2,rfl⟩
   rw[yl,da]at d;have R:zs.length<=8:=by
    rw[K83.dY d,ai];exact V
   walk_at "wp"
   refine .inr (.inr (.inl ⟨m,g,ys,zs,rfl,rfl,c _ _ A,B,aG (by lia:_<=16) (by decide),fun m2 f=>W _ _ ⟨?_,m2,_,?_,ao,?_,_,_,_,rfl⟩⟩))
   ·exact(s3.trans k).trans (c.trans (aq f))
   ·exact((s3.trans k).trans c).free f
   ·rw[ex,yn]
    exact yS (Paired.gh pm fun _ _ h=>h.same (c.trans (aq f))) (Paired.gh d fun _ _ h=>h.same (aq f))
 ·rintro σ S ⟨s3,m,ys,F,t,pm,u,w,x,rfl⟩
  unfold qZ;walk_at "wp";rw[ai,da]at pm;exact q _ _ _ s3 F t pm
noncomputable def spWh(K:ah):Sp:=fun vs H Q _=>∃(s b l:Addr)(us bs zs:List V)(ns:List (List Int))(xs:List M8.Tri)(ts:List (Nat×Int))(n:Nat),vs=[.ref s,.ref b,.ref l]/\SqL K H s us/\Paired (NdV K H) us ns/\ns.length<=61/\SqL K H b bs/\Paired (TrV K H) bs xs/\xs.length<=60/\n<=60/\
 (∀x∈xs,x.1.length=n/\x.2.1.length=n/\x.2.2.length<=3/\∀q∈x.2.2,0<=q/\q<n)/\Tls H l zs ts/\ts.length<=60/\
 ∀H' f ys,aM H H'->H f=none->H' f=some (.lst ys)->Paired (NdV K H') ys (whr ns ts xs)->Q (.ref f) H'
theorem zP{S:List (List Int)}(h:qs.length<=3):(if v∈S then eV [v] (fre ts qs)else[]).length<=8:=by
 split
 ·rw[wu]
  have h1:(fre ts qs).length<=3:=aG (cP _ _) h;have :2^(fre ts qs).length<=2^3:=Kb (by decide) h1;simpa using this
 ·exact aR _
theorem Jk{S:List (List Int)}(h:qs.length<=3):∀{L:List (List Int)},(L.flatMap fun v=>if v∈S then eV [v] (fre ts qs)else[]).length<=8*L.length
 | []=>aR _
 |v::L=>by
  have h1:=zP (S:=S) (ts:=ts) (v:=v) h;have h2:(L.flatMap fun v=>if v∈S then eV [v] (fre ts qs)else[]).length<=8*L.length:=Jk h;rw[dZ,aN,bg];lia
theorem yv{S:List (List Int)}:∀{xs:List M8.Tri},(∀x∈xs,x.2.2.length<=3)->(whr S ts xs).length<=S.length+16*xs.length
 | [],_=>by simp[whr]
 |x::xs,h=>by
  have h1:(whr S ts xs).length<=S.length+16*xs.length:=yv fun y a=>h y (aO _ a);have h2:=zP (S:=S) (ts:=ts) (v:=x.1) (h x aL);have b:=zP (S:=S) (ts:=ts) (v:=x.2.1) (h x aL);unfold whr at h1⊢;rw[aN]at h1;rw[dZ,aN,aN,bg];unfold amB;rw[aN];unfold amB at h1;lia
theorem wp_wh(g1:G.fn "_law_amid" 2=some (spAm K,[])):Sat G K (spWh K) nF m5:=by
 rintro vs H Q E ⟨s,b,l,us,bs,zs,ns,xs,ts,n,rfl,hs,W,c1,hb,pb,c4,b7,P,d,c3,q⟩;have zl:zs.length=ts.length:=K83.dY d.pr;have bl:bs.length=xs.length:=K83.dY pb;have ul:us.length=ns.length:=K83.dY W;unfold nF;change wpB G K _ _ _ [some (.ref s),some (.ref b),some (.ref l),none,none,none,none,none,none,none] H;walk_at "wp";refine cL (bD rfl (SqL.of d.hl) (dy cK (dc (by lia)) (fun H1 D=>SqL.of (D _ _ d.hl)) (fun i v _=>v=.int (((ts.map (·.1)).getD i 0:Nat):Int)) (fun _ _ _ _ _ h=>h) (fun J=>∃u,J=[u]) ⟨none,rfl⟩ ?_ ?_))
 ·rintro i x J H4 R hi ⟨u,rfl⟩ z P k
  obtain⟨g,hq,c,rfl,hc⟩:=fW d.pr P;walk_at "wp";refine .inr (.inl ⟨c,_,0,_,rfl,rfl,SqT.of (z _ _ hc),rfl,k _ _ _ ⟨_,rfl⟩ (aM.refl _) ?_⟩);rw[ae,av,hq];rfl
 intro vs H1 tl b5 hF D b3;have e4:=Dv b5 zl hF;subst e4;have s2:=D.trans (aq (o:=.lst ((ts.map fun q=>(q.1:Int)).map V.int)) b3);have et:upd H1 tl (.lst ((ts.map fun q=>(q.1:Int)).map V.int)) tl=some (.lst ((ts.map fun q=>(q.1:Int)).map V.int)):=ao;generalize upd H1 tl (.lst ((ts.map fun q=>(q.1:Int)).map V.int))=H2 at s2 et;unfold lz;walk_at "wp";refine⟨s,us,rfl,.inl (s2.seq hs),fun f hf=>?_⟩;unfold ly;walk_at "wp";refine fo (bD rfl ((s2.trans (aq hf)).seq hb) (eL cK (fun i σ H'=>aM H2 H'/\∃f ys,H f=none/\H' f=some (.lst ys)/\Paired (NdV K H') ys (whr ns ts (xs.take i))/\∃u v w x y,σ=[some (.ref s),some (.ref b),some (.ref l),some (.ref tl),some (.ref f),u,v,w,x,y])
  ⟨aq hf,f,_,s2.free hf,ao,?_,_,_,_,_,_,rfl⟩ (fun i σ H' _ s=>(s2.trans s.1).seq hb) ?_ ?_))
 ·rw[show whr ns ts (xs.take 0)=ns by simp[whr]]
  exact Paired.gh W fun _ _ h=>h.same (s2.trans (aq hf))
 ·rintro i y σ H3 H4 D2 hi ⟨z,f,ys,nf,a1,U,u1,u2,u3,u4,u5,rfl⟩ A F hD _
  obtain⟨x,a6,c,p,g,r,rfl,hc,hp,hq,hr⟩:=fW pb A;obtain⟨x1,x2,x3,x4⟩:=P x (aC a6);have Y:=s2.trans (z.trans F);have ex:xs.take (i+1)=xs.take i++[x]:=by rw[cg,a6];rfl
  have wl:(whr ns ts (xs.take i)).length<=1100:=by
   have :=yv (S:=ns) (ts:=ts) (xs:=xs.take i) fun y A=>(P y (qj A)).2.2.1
   rw[bN]at this;lia
  refine⟨c,_,rfl,Y.tup hc,rfl,_,_,rfl,_,_,rfl,_,_,rfl,rfl,?_⟩;walk_at "wp";refine cL (oj rfl (Y.tup hr) (mh (ds:=x.2.2) (by rw[ai]) qv (dc (by rw[ai];lia)) (fun H1 D=>D.tup (Y.tup hr)) (fun m=>decide (m∉ts.map fun q=>(q.1:Int))) (fun _ m=>.int m) (fun J=>∃u,J=[u,some (.ref tl)]) ⟨none,rfl⟩ ?_ ?_))
  ·rintro j y m J H5 Rt Rf A hm ⟨u',rfl⟩ s7 kt kf
   rw[av,hm]at A;cases A;walk_at "wp";refine .inr ⟨tl,_,rfl,.inl (SqL.of (s7 _ _ ((z.trans F) _ _ et))),rfl,oE _,_,rfl,?_⟩;rw[if_pos rfl,uv];by_cases c:m∈ts.map fun q=>(q.1:Int)
   ·rw[if_neg (by rw[decide_eq_true c];decide)]
    exact kf _ _ ⟨_,rfl⟩ (aM.refl _) (by simpa using c)
   ·rw[if_pos (by rw[decide_eq_false c];rfl)]
    exact kt _ _ ⟨_,rfl⟩ (aM.refl _) (by simpa using c)
  ·intro H5 fr s7 b1
   have e5:(((x.2.2.map V.int).zip x.2.2).filter fun p=>decide (p.2∉ts.map fun q=>(q.1:Int))).map (fun p=>V.int p.2)=(fre ts x.2.2).map V.int:=xT fun p=>decide (p∉ts.map fun q=>(q.1:Int));rw[e5];have I:=s7.trans (aq (o:=.lst ((fre ts x.2.2).map V.int)) b1);have t8:upd H5 fr (.lst ((fre ts x.2.2).map V.int)) fr=some (.lst ((fre ts x.2.2).map V.int)):=ao;generalize upd H5 fr (.lst ((fre ts x.2.2).map V.int))=H6 at I t8⊢;have s9:=Y.trans I;have c2:=Paired.gh W fun _ _ h=>h.same s9;refine fo ?_;refine⟨_,rfl,_,rfl,aG (by simp :_<=2) (by decide),fun Z b4=>⟨Z,rfl,⟨_,SqT.of ao⟩,?_⟩⟩;have B:=aq (o:=.tup [.ref p,.ref g]) b4;have a8:upd H6 Z (.tup [.ref p,.ref g]) Z=some (.tup [.ref p,.ref g]):=ao;generalize upd H6 Z (.tup [.ref p,.ref g])=H7 at B a8⊢;have a3:=s9.trans B;have pp:Paired (NdV K H7) [V.ref p,V.ref g] [x.1,x.2.1]:=.cons ⟨p,rfl,a3.tup hp⟩ (.cons ⟨g,rfl,a3.tup hq⟩ .nil);refine eL qv (fun k σ H'=>aM H7 H'/\∃f ys,H f=none/\H' f=some (.lst ys)/\Paired (NdV K H') ys (whr ns ts (xs.take i)++([x.1,x.2.1].take k).flatMap fun v=>if v∈ns then eV [v] (fre ts x.2.2)else[])/\∃y,σ=[some (.ref s),some (.ref b),some (.ref l),some (.ref tl),some (.ref f),some (.ref p),some (.ref g),some (.ref r),some (.ref fr),y])
    ⟨aM.refl _,f,ys,nf,(F.trans (I.trans B)) _ _ a1,?_,_,rfl⟩ (fun k σ H' _ s=>SqT.of (s.1 _ _ a8)) ?_ ?_
   ·rw[List.take_zero,gW,cV]
    exact Paired.gh U fun _ _ h=>h.same (F.trans (I.trans B))
   ·rintro k y2 σ H8 H9 D3 hk ⟨t,M,a0,a2,O,C,u6,rfl⟩ b6 a a5 _
    obtain⟨v,hv,T⟩:=fW pp b6;have a4:=a3.trans (t.trans a);have T:=T.same (t.trans a);have b8:=Paired.gh W fun _ _ h=>h.same a4;have ek:[x.1,x.2.1].take (k+1)=[x.1,x.2.1].take k++[v]:=by rw[cg,hv];rfl
    have vl:v.length=n:=by
     rcases aE.mp (aC hv)with e|e
     ·rw[e];exact x1
     ·rw[aT.mp e];exact x2
    walk_at "wp"
    refine vO (a4.seq hs) b8 T ⟨_,rfl,?_⟩;by_cases cv:v∈ns
    ·rw[if_pos (decide_eq_true cv)]
     obtain⟨bb,rfl,b0⟩:=T;refine⟨_,_,g1,bb,fr,v,fre ts x.2.2,n,rfl,b0,SqL.of ((B.trans (t.trans a)) _ _ t8),vl,b7,aG (cP _ _) x3,fun q hq=>x4 q (a9.mp hq).1,fun c0 m b9 X fm b2 a7=>?_⟩;have l2:=K83.dY C;have l3:=K83.dY a7;have l4:=zP (S:=ns) (ts:=ts) (v:=v) x3;have l5:=Jk (S:=ns) (ts:=ts) (L:=[x.1,x.2.1].take k) x3;rw[if_pos cv]at l4;rw[aN]at l2;have l6:([x.1,x.2.1].take k).length<=2:=by rw[bN];exact Nat.min_le_right _ _
     refine .inr (.inr (.inl ⟨M,m,a0,b9,rfl,rfl,(a.trans X) _ _ O,b2,aG (by lia:_<=1200) (by decide),fun f3 N=>a5 _ _ ⟨(t.trans a).trans (X.trans (aq N)),f3,_,((a4.trans X).free N),ao,?_,_,rfl⟩⟩));rw[ek,eh,dZ,gW,if_pos cv,cV,<-gB];exact yS (Paired.gh C fun _ _ h=>h.same (a.trans (X.trans (aq N)))) (Paired.gh a7 fun _ _ h=>h.same (aq N))
    ·rw[if_neg (by simpa using cv)]
     refine a5 _ _ ⟨t.trans a,M,a0,a2,a _ _ O,?_,_,rfl⟩;rw[ek,eh,dZ,gW,if_neg cv,cV,cV];exact Paired.gh C fun _ _ h=>h.same a
   ·rintro σ H8 ⟨t,M,a0,a2,O,C,u6,rfl⟩
    refine hD _ _ ⟨z.trans (F.trans (I.trans (B.trans t))),M,a0,a2,O,?_,_,_,_,_,_,rfl⟩;have e6:whr ns ts (xs.take (i+1))=whr ns ts (xs.take i)++([x.1,x.2.1].take 2).flatMap fun v=>if v∈ns then eV [v] (fre ts x.2.2)else[]:=by
     unfold whr;rw[ex,eh,<-gB];simp[amB]
    rw[e6];exact C
 ·rintro σ H3 ⟨z,f,ys,nf,a1,U,u1,u2,u3,u4,u5,rfl⟩
  unfold lu;walk_at "wp";rw[bl,da]at U;exact q _ _ _ (s2.trans z) nf a1 U
noncomputable def inn(S:List (List Int))(x:M8.Tri):Bool:=decide (x.1∈S)&&decide (x.2.1∈S)
noncomputable def spOp(K:ah):Sp:=fun vs H Q _=>∃(s b:Addr)(us bs:List V)(ns:List (List Int))(xs:List M8.Tri),vs=[.ref s,.ref b]/\SqL K H s us/\Paired (NdV K H) us ns/\SqL K H b bs/\Paired (TrV K H) bs xs/\xs.length<=60/\
 ∀H',aM H H'->Q (.bl (decide ((xs.filter (inn ns)).length+1=ns.length))) H'
theorem wp_op:Sat G K (spOp K) nO m8:=by
 rintro vs H Q E ⟨s,b,us,bs,ns,xs,rfl,d,m,g,f,O,q⟩;have bl:bs.length=xs.length:=K83.dY f;have M:us.length=ns.length:=K83.dY m;unfold nO;change wpB G K _ _ _ [some (.ref s),some (.ref b),none] H;walk_at "wp";refine cL (bD rfl g (mh (ds:=xs) bl cK (dc (by lia)) (fun H1 D=>D.seq g) (inn ns) (fun y _=>y) (fun o=>∃u,o=[u,some (.ref s)]) ⟨none,rfl⟩ ?_ ?_))
 ·rintro j y x o t I F w v ⟨L,rfl⟩ a z kf
  obtain⟨N,l,c,p,C,r,rfl,i,hp,hq,J⟩:=fW f w;rw[v]at l;cases l;have n:=Paired.gh m fun _ _ h=>h.same a;walk_at "wp";refine .inr (.inl ⟨c,_,0,_,rfl,rfl,a.tup i,rfl,vO (a.seq d) n ⟨p,rfl,a.tup hp⟩ ⟨_,rfl,?_⟩⟩);by_cases c1:x.1∈ns
  ·rw[if_pos (decide_eq_true c1)]
   refine .inr (.inl ⟨c,_,1,_,rfl,rfl,a.tup i,rfl,vO (a.seq d) n ⟨C,rfl,a.tup hq⟩ ⟨_,rfl,?_⟩⟩);by_cases c2:x.2.1∈ns
   ·rw[if_pos (decide_eq_true c2)]
    exact z _ _ ⟨_,rfl⟩ (aM.refl _) (by simp[inn,c1,c2])
   ·rw[if_neg (by simpa using c2)]
    exact kf _ _ ⟨_,rfl⟩ (aM.refl _) (by simp[inn,c2])
  ·rw[if_neg (by simpa using c1),if_neg ak]
   exact kf _ _ ⟨_,rfl⟩ (aM.refl _) (by simp[inn,c1])
 ·intro t A a k
  have B:=K83.dY (yp (inn ns) f);refine .inl ⟨A,_,rfl,.inl (SqL.of ao),.inl ⟨s,us,rfl,.inl ((a.trans (aq k)).seq d),yz.mpr (jd.mpr ?_)⟩⟩;rw[B];have e:decide (((xs.filter (inn ns)).length:Int)=(us.length:Int)-1)=decide ((xs.filter (inn ns)).length+1=ns.length):=by
   rw[decide_eq_decide];lia
  rw[e];exact q _ (a.trans (aq k))
end
end K64
namespace K62
open PySem PySem.Spec PyProof.Rows L2 R Cp Lt Kc K21 K22 Lm K32 K34 K75
theorem E8{ks:List (List Int)}(nd:ks.Nodup)(h:_root_.Q.IntKeys H ys ks):Paired (NdV K H) (_root_.Q.ck .non ks ys) (M8.lW ks):=by
 unfold M8.lW _root_.Q.ck;have lt:∀i∈_root_.Q.vo ks,i<ks.length:=fun i hi=>K83.um nd hi;generalize _root_.Q.vo ks=o at lt
 induction o with
 |nil=>exact .nil
 |cons i o ih=>
  obtain⟨a,e,f⟩:=Bt.Ed h i (lt i (.head _));refine .cons ⟨a,?_,SqT.of f⟩ (ih fun j b=>lt j (.tail _ b));show ys.getD i V.non=V.ref a;rw[ae,e];rfl
end K62
namespace K64
open PySem R
noncomputable def Ib:List Str:=["table","tellings"]
noncomputable def AL:List Str:=["table","tellings"]
noncomputable def wj:CB:=
  (.cons (.ret (.call "told_nodes" (.cons (.idx (.call "tree" (.cons (.var 0) .nil)) (.con (.int 0))) (.cons (.var 1) .nil))))
  .nil)
noncomputable def Bp:CB:=
  (.cons (.expr (.call "need_tellings" (.cons (.var 0) (.cons (.var 1) .nil))))
  wj)
noncomputable def p_law:List Str:=["_law_script"]
noncomputable def Iu:List Str:=["_law_script","_law_table","_law_nodes_here","_law_branches","_law_tellings_here","_law_there","_law_at","_law_found","_law_some","_law_place","_law_ways"]
noncomputable def Bq:CB:=
  (.cons (.ret (.cmp .Eq (.comp ["_law_one"] [7] (.name 0) (.seq (.var 4)) (.yes (.cmp .NotEq (.idx (.var 1) (.idx (.var 0) (.con (.int 0)))) (.idx (.var 0) (.con (.int 1))))) (.var 0)) (.lst .nil)))
  .nil)
noncomputable def Eu:CB:=
  (.cons (.forr (.name 9) (.range1 (.bfn .len (.cons (.var 7) .nil)))
  (.cons (.asg (.name 10) (.sortset (.comp ["_law_node"] [9] (.name 0) (.seq (.var 8)) .no (.idx (.var 0) (.var 1)))))
  (.cons (.iff (.or (.and (.cmp .Eq (.bfn .len (.cons (.var 10) .nil)) (.con (.int 1))) (.cmp .NotEq (.idx (.var 7) (.var 9)) (.idx (.var 10) (.con (.int 0))))) (.and (.cmp .Eq (.bfn .len (.cons (.var 10) .nil)) (.con (.int 2))) (.cmp .IsNot (.idx (.var 7) (.var 9)) (.con .none))))
  (.cons (.ret (.con (.bool false)))
  .nil)
  .nil)
  .nil)))
  Bq)
noncomputable def Ew:CB:=
  (.cons (.iff (.or (.not (.bfn .isinstance (.cons (.var 7) (.cons (.ty .tuple) .nil)))) (.cmp .NotEq (.bfn .len (.cons (.var 7) .nil)) (.bfn .len (.cons (.idx (.var 6) (.con (.int 0))) .nil))))
  (.cons (.ret (.con (.bool false)))
  .nil)
  .nil)
  Eu)
noncomputable def Ex:CB:=
  (.cons (.asg (.name 8) (.call "_law_wherever" (.cons (.var 6) (.cons (.idx (.var 5) (.con (.int 1))) (.cons (.var 4) .nil)))))
  Ew)
noncomputable def Ey:CB:=
  (.cons (.asg (.name 7) (.call "first_read" (.cons (.var 1) (.cons (.var 4) .nil))))
  Ex)
noncomputable def Ez:CB:=
  (.cons (.iff (.or (.cmp .Eq (.var 6) (.lst .nil)) (.or (.cmp .NotEq (.comp ["_law_node"] [5] (.name 0) (.seq (.var 6)) (.yes (.cmp .NotIn (.var 0) (.idx (.var 1) (.con (.int 0))))) (.var 0)) (.lst .nil)) (.not (.call "_law_one_part" (.cons (.var 6) (.cons (.idx (.var 5) (.con (.int 1))) .nil))))))
  (.cons (.ret (.con (.bool false)))
  .nil)
  .nil)
  Ey)
noncomputable def EA:CB:=
  (.cons (.asg (.name 6) (.call "stands" (.cons (.var 1) (.cons (.var 4) .nil))))
  Ez)
noncomputable def EB:CB:=
  (.cons (.asg (.name 5) (.call "tree" (.cons (.var 1) .nil)))
  EA)
noncomputable def EC:CB:=
  (.cons (.asg (.name 4) (.call "_law_tellings" (.cons (.var 2) (.cons (.call "_law_cell_at" (.cons (.var 0) (.cons (.con (.int 3)) .nil))) (.cons (.bin .Mod (.call "_law_cell_at" (.cons (.var 0) (.cons (.con (.int 2)) .nil))) (.con (.int 7))) .nil)))))
  EB)
noncomputable def JM:CB:=
  (.cons (.asg (.tup (.cons (.name 1) (.cons (.name 2) (.cons (.name 3) .nil)))) (.call "_law_built" (.cons (.var 0) (.cons (.con (.int 4)) .nil))))
  EC)
end K64
namespace K64
open PySem PySem.Spec PyProof.Rows L2 R Cp Lt Kc K21 K22 Lm K32 K34 K75 K62
section
variable {G:Gam}{K:ah}{T:Tb}
noncomputable def spSt(K:ah)(T:Tb):Sp:=fun vs H Q _=>∃(t l:Addr)(nf:Nat->Str)(n:Nat)(ys zs:List V)(rows:List (List Int))(ts:List (Nat×Int)),vs=[.ref t,.ref l]/\Tn H t nf n ys rows/\ys≠[]/\Tab T H/\Tls H l zs ts/\Vt n ts/\stn rows n ts≠[]/\
 ∀H' f ws,Gr T H H'->H' f=some (.lst ws)->Paired (NdV K H') ws (stn rows n ts)->Q (.ref f) H'
theorem Du{t:Addr}{E:XK}{Q:VK}(d:Tn H t nf n ys rows)(ne:ys≠[])(tb:Tab T H)
  (q:∀H2 p b bl c a,Gr T H H2->SqT K H2 p [.ref b,.ref bl]->SqL K H2 b c->Paired (NdV K H2) c (M8.lW (M8.nds rows n))->SqL K H2 bl a->Paired (TrV K H2) a (M8.mM (M8.trs rows n))->Q (.ref p) H2):K83.pO T [.ref t] H Q E:=by
 refine GX (K:=K) (E:=fun _=>E) d tb (fun H2 p gr _ f=>?_) [];rw[if_neg ne]at f;unfold M9.trD at f;obtain⟨_,_,e,hp,_,_,rfl,⟨b,c,rfl,h,j⟩,_,_,rfl,⟨bl,a,rfl,g,i⟩,rfl⟩:=f;cases e;exact q _ _ _ _ _ _ gr hp h (vb j) g (u9 i)
theorem wp_st(f:G.fn "need_tellings" 2=some (spNt K,[]))(g:G.fn "tree" 1=some (K83.pO T,[]))(h:G.fn "told_nodes" 2=some (spTn K,[])):
  Sat G K (spSt K T) Bp AL:=by
 rintro vs H Q E ⟨t,l,nf,n,ys,zs,rows,ts,rfl,d,ne,tb,tl,v,ns,q⟩;have w:=d.n10;have tbl:=d.tbl ne;unfold Bp;change wpB G K _ _ _ [some (.ref t),some (.ref l)] H;walk_at "wp";refine⟨_,_,f,t,l,nf,n,ys,zs,rows,ts,rfl,d,ne,tl,v,fun H1 a=>?_⟩;have c:=(Gr.of (T:=T) a).tab tb;unfold wj;walk_at "wp";refine⟨_,_,h,_,_,g,Du (K:=K) (d.same a) ne c fun H2 p k bl m s gr hp i o _ _=>?_⟩;have b:=M9.mV (M8.jL tbl);have x:(M8.lW (M8.nds rows n)).length<=61:=by
  have :=M9.zg rows n
  rw[b.length_eq];lia
 exact .inr (.inl ⟨p,_,0,_,rfl,rfl,hp,rfl,k,l,n,m,zs,_,ts,rfl,i,o,(fun u j=>((M8.fA tbl).mp (b.mem_iff.mp j)).1.1),by lia,by lia,(tl.same a).gr gr c,v,ns,fun e l1 ws s3 _ h1 r=>q e l1 ws ((Gr.of (T:=T) a).trans (gr.trans (Gr.of s3))) h1 r⟩)
theorem nin_nds{p:Addr}{us:List V}{ns:List (List Int)}{x:V}{Q:VK}(h1:SqL K H p us)(h2:Paired (NdV K H) us ns)(a:NdV K H x v)(q:Q (.bl (!decide (v∈ns))) H):gP K .NotIn x (.ref p) H Q:=by
 obtain⟨d,e⟩:=uo h2;obtain⟨b,rfl,c⟩:=a;refine .inl (.inr ⟨p,us,_,K83.nd1 v,rfl,h1,e,⟨b,_,rfl,c,ff.ints _⟩,d,aG (qL ns) (by decide),?_⟩);rw[if_pos rfl,JP];exact q
theorem TrV.same{v:V}{x:M8.Tri}(h:TrV K H v x)(s:aM H H'):TrV K H' v x:=let⟨c,p,q,r,e,h1,h2,h3,h4⟩:=h;⟨c,p,q,r,e,s.tup h1,s.tup h2,s.tup h3,s.tup h4⟩
structure G64(G:Gam)(K:ah)(T:Tb):Prop where
 gc:G.fn "_law_cell_at" 2=some (uX K,[])
 gb:G.fn "_law_built" 2=some (Bt.yH K,[])
 gt:G.fn "_law_tellings" 3=some (spTl K,[])
 gr:G.fn "tree" 1=some (K83.pO T,[])
 gs:G.fn "stands" 2=some (spSt K T,[])
 gf:G.fn "first_read" 2=some (spFr K T,[])
 go:G.fn "_law_one_part" 2=some (spOp K,[])
 gw:G.fn "_law_wherever" 3=some (spWh K,[])
noncomputable def Hb(K:ah)(T:Tb):Sp:=fun vs H Q _=>∃(a:Addr)(ns:List Int),vs=[.ref a]/\SqL K H a (ns.map V.int)/\ns.length<=63/\Tab T H/\∀H',Q (.bl true) H'
theorem wp_law(g:G64 G K T):Sat G K (Hb K T) JM Iu:=by
 rintro vs H Q E ⟨a,ns,rfl,ha,g9,tb,qq⟩;unfold JM;change wpB G K _ _ _ [some (.ref a),none,none,none,none,none,none,none,none,none,none] H;walk_at "wp";refine⟨_,_,g.gb,a,ns,4,rfl,ha,g9,by decide,fun H1 p t nl br cs ys bs nf vf f ps os O ep a5 n1 l1 i9 ik d1 k8 bx=>?_⟩;refine⟨p,_,rfl,SqT.of ep,rfl,_,_,rfl,_,_,rfl,_,_,rfl,rfl,?_⟩;have bk:=a5.bk bx;have tn:=a5.tn;have ne:=a5.ne;have tbl:=bk.tb;have ol:=a5.n60;have fw:∀v,1<=v->((aA os.length).filter fun p=>decide (Bt.fn os p=v)).length<=3:=fun v h1=>by
  refine aG (wF ?_) (bx.few v h1);rw[List.count_eq_length_filter];have e:os=(aA os.length).map (Bt.fn os):=by
   apply bA
   ·simp
   ·intro i h1 h2
    rw[bj,fO];show _=os.getD i 0;rw[ae,aa h1];rfl
  conv =>rhs;rw[e]
  rw[fS,ai];rfl
 have pn:Paired (NdV K H1) (_root_.Q.ck .non (Bt.nds f ps os) ys) (M8.lW (M8.nds (Bt.rws cs.length vf f ps os) os.length)):=by
  rw[bk.sorted];exact E8 i9 ik
 generalize Bt.rws cs.length vf f ps os=rows at bk tn tbl pn;generalize _root_.Q.ck .non (Bt.nds f ps os) ys=ws at d1 pn;have mem:=M9.mV (M8.jL tbl);have f0:(M8.lW (M8.nds rows os.length)).length<=61:=by
  have :=M9.zg rows os.length
  rw[mem.length_eq];lia
 have j0:M8.lW (M8.nds rows os.length)≠[]:=fun z=>by
  have h:=mem.mem_iff.mpr ((M8.fA tbl).mpr (bk.fits (show 0<ps.length by lia)));rw[z]at h;cases h
 unfold EC;walk_at "wp";refine⟨_,_,g.gt,_,_,g.gc,a,ns,3,rfl,O.seq ha,_,_,g.gc,a,ns,2,rfl,O.seq ha,iG.mpr ⟨by decide,?_⟩⟩;have i0:0<=ns.getD 2 0%7:=cB _ (by decide);have i1:ns.getD 2 0%7<7:=bX _ (by decide);obtain⟨m,hm⟩:=bP i0;rw[hm]at i1⊢;refine⟨nl,_,m,os.length,ws,_,rfl,SqL.of d1,pn,j0,f0,(fun v k=>((M8.fA tbl).mp (mem.mem_iff.mp k)).1),ol,by lia,fun H2 l zs ts v s2 l2 d vt k hr=>?_⟩;have R:stn rows os.length ts≠[]:=fun z=>by
  have h:v∈stn rows os.length ts:=a9.mpr ⟨k,hr⟩;rw[z]at h;cases h
 have f8:=tn.same s2;have b7:=(Gr.of (T:=T) (O.trans s2)).tab tb;have vn:ts.length<=os.length:=vt.len;unfold EB;walk_at "wp";refine⟨_,_,g.gr,Du (K:=K) f8 ne b7 fun H3 p3 l3 c8 j1 a7 b9 i4 h9 j7 h6 j6=>?_⟩;have g0:=f8.gr b9 b7;have d3:=d.gr b9 b7;have s:=b9.tab b7;unfold EA;walk_at "wp";refine⟨_,_,g.gs,t,l,nf,os.length,cs,zs,rows,ts,rfl,g0,ne,s,d3,vt,R,fun H4 U L A B b2=>?_⟩;have k3:=g0.gr A s;have d4:=d3.gr A s;have C:=A.tab s;have c0:=A.tup s i4;have i2:=A.seq s h9;have e2:=A.seq s h6;have j8:Paired (NdV K H4) j1 (M8.lW (M8.nds rows os.length)):=Paired.gh j7 fun _ _ ⟨b,e,h⟩=>⟨b,e,A.tup s h⟩;have f1:Paired (TrV K H4) a7 (M8.mM (M8.trs rows os.length)):=Paired.gh j6 fun _ _ ⟨c,p,q,r,e,h1,h2,W,B⟩=>⟨c,p,q,r,e,A.tup s h1,A.tup s h2,A.tup s W,A.tup s B⟩;have k1:(stn rows os.length ts).length<=61:=aG (cP _ _) f0;have g2:L.length=(stn rows os.length ts).length:=K83.dY b2;unfold Ez;walk_at "wp";refine⟨aR _,fun p5 i5=>?_⟩;have P:=aq (o:=.lst []) i5;have f5:upd H4 p5 (.lst []) p5=some (.lst []):=ao;generalize upd H4 p5 (.lst [])=H5 at P f5⊢;have f3:=Paired.gh b2 fun _ _ h=>h.same P;obtain⟨r1,r2⟩:=uo f3;refine⟨.lst _,.lst [],⟨U,L,rfl,SqL.of (P _ _ B),r1⟩,⟨p5,[],rfl,SqL.of f5,rfl⟩,aG (Nat.succ_le_succ (qL _)) (by decide),false,?_,?_⟩
 ·show V.bl (lh _ [])=_
  cases h:stn rows os.length ts with
  |nil=>exact absurd h R
  |cons x r=>rfl
 rw[if_neg ak];refine cL (bD rfl (SqL.of (P _ _ B)) (oF (xs:=L) cK (dc ?_) (fun H8 Z=>SqL.of (Z _ _ (P _ _ B))) (fun _=>false) id (fun M=>∃u,M=[u,some (.ref p3)]) ⟨none,rfl⟩ ?_ ?_))
 ·rw[g2]
  lia
 ·rintro x M H8 Rt Rf n ⟨u,rfl⟩ Z kt kf
  obtain⟨i,hi⟩:=cu.mp n;obtain⟨v,k,nv⟩:=fW f3 hi;have i6:=(a9.mp (aC k)).1;have c5:=P.trans Z;walk_at "wp";refine .inr (.inl ⟨p3,_,0,_,rfl,rfl,c5.tup c0,rfl,nin_nds (c5.seq i2) (Paired.gh j8 fun _ _ h=>h.same c5) (nv.same Z) ⟨_,rfl,?_⟩⟩);rw[decide_eq_true i6,if_neg (by decide)];exact kf _ _ ⟨_,rfl⟩ (aM.refl _) rfl
 ·intro H8 l8 Z h7
  rw[oQ.mpr (fun _ _ z=>ak z),i7];refine⟨aR _,fun p9 e4=>?_⟩;have s9:=aq (o:=.lst []) h7;have f9:upd H8 l8 (.lst []) l8=some (.lst []):=ao;generalize upd H8 l8 (.lst [])=H9 at s9 f9 e4⊢;have c2:=aq (o:=.lst []) e4;have d2:upd H9 p9 (.lst []) p9=some (.lst []):=ao;generalize upd H9 p9 (.lst [])=H10 at c2 d2⊢;refine⟨.lst [],.lst [],⟨l8,[],rfl,SqL.of (c2 _ _ f9),rfl⟩,⟨p9,[],rfl,SqL.of d2,rfl⟩,by decide,_,rfl,?_⟩;rw[A9,if_neg (by decide)];have Y:=P.trans (Z.trans (s9.trans c2));have f7:(M8.mM (M8.trs rows os.length)).length<=60:=by
   have :=M9.Dt rows os.length
   rw[(M9.gO (M8.iB tbl)).length_eq];lia
  have part:=bk.part (fun q hq=>(vt.ok q hq).1) R;refine⟨_,_,g.go,.inr (.inl ⟨p3,_,1,_,rfl,rfl,Y.tup c0,rfl,U,c8,L,a7,_,_,rfl,SqL.of (Y _ _ B),Paired.gh b2 fun _ _ h=>h.same Y,Y.seq e2,Paired.gh f1 fun _ _ h=>TrV.same h Y,f7,fun k6 j9=>⟨_,rfl,?_⟩⟩)⟩;rw[decide_eq_true (show((M8.mM (M8.trs rows os.length)).filter (inn (stn rows os.length ts))).length+1=(stn rows os.length ts).length from part),if_neg (by decide)];have b6:=Y.trans j9;have k2:=k3.same b6;have c9:=d4.same b6;have f6:=(Gr.of (T:=T) b6).tab C;unfold Ey;walk_at "wp";refine⟨_,_,g.gf,t,l,nf,os.length,cs,zs,rows,ts,rfl,k2,ne,f6,c9,vt,R,fun c6 I d6 g6=>?_⟩;have gr:=(Gr.of (T:=T) b6).trans d6;have d0:=c9.gr d6 f6;have e1:=gr.lst C B;have f2:Paired (NdV K c6) L (stn rows os.length ts):=Paired.gh b2 fun _ _ ⟨b,e,h⟩=>⟨b,e,gr.tup C h⟩;have j5:Paired (TrV K c6) a7 (M8.mM (M8.trs rows os.length)):=Paired.gh f1 fun _ _ ⟨c,p,q,r,e,h1,h2,W,B⟩=>⟨c,p,q,r,e,gr.tup C h1,gr.tup C h2,gr.tup C W,gr.tup C B⟩;unfold Ex;walk_at "wp";refine⟨_,_,g.gw,.inr (.inl ⟨p3,_,1,_,rfl,rfl,gr.tup C c0,rfl,U,c8,l,L,a7,zs,_,_,ts,os.length,rfl,SqL.of e1,f2,k1,gr.seq C e2,j5,f7,ol,fun x n=>?_,d0,by lia,fun c7 d5 b8 b3 l0 g8 b1=>?_⟩)⟩
  ·have n:=(M9.gO (M8.iB tbl)).mem_iff.mp n
   have W:=bk.few fw n;obtain⟨j,hj,hz,rfl⟩:=(M8.gS tbl).mp n;have la:=(M7.ll tbl hj hz).ok.1;have lb:=(M7.iV tbl hj hz).ok.1;refine⟨M5.ID la lb,M5.Ja la lb,W,fun q hq=>?_⟩;obtain⟨i,hi,rfl⟩:=ax.mp hq;have :=aQ.mp (a9.mp hi).1;lia
  have a3:=b3 _ _ g6;have kl:(knw rows os.length ts).length=os.length:=by unfold knw;rw[ai,aW]
  obtain⟨u0,k9⟩:∃u0,(stn rows os.length ts)[0]? =some u0:=⟨_,aa (d9.mpr R)⟩;have e8:0<L.length:=by rw[g2];exact d9.mpr R
  obtain⟨u1,D,b0,g5,h0⟩:=fW f2 (aa e8);unfold Ew;walk_at "wp";refine K02.isi_tup a3 ⟨true,rfl,?_⟩;rw[if_neg (by decide)];refine .inl ⟨I,_,rfl,.inr (SqT.of a3),.inl ⟨U,L,0,.ref b0,rfl,rfl,SqL.of (b3 _ _ e1),cf (j:=0) (by rw[aa e8,g5]),.inl ⟨b0,_,rfl,.inr (b3.tup h0),xH.mpr ⟨_,rfl,?_⟩⟩⟩⟩;have ul:u1.length=os.length:=((K75.kh tbl).mp (aC D)).1.1.1;rw[ai,kl,ul,if_neg (by simp)];unfold Eu;walk_at "wp";have b1:Paired (NdV K c7) b8 (jZ rows os.length ts):=b1;have k5:b8.length=(jZ rows os.length ts).length:=K83.dY b1;have g3:=whrT_ok (ts:=ts) tbl;have k4:(jZ rows os.length ts).length<1000:=by
   have h1:=yv (S:=stn rows os.length ts) (ts:=ts) (xs:=M8.mM (M8.trs rows os.length)) fun x n=>bk.few fw ((M9.gO (M8.iB tbl)).mem_iff.mp n);have h2:=bk.perm.length_eq;have W:(M8.nds rows os.length).length=(M8.trs rows os.length).length+1:=by simp[M8.nds,M5.eU,M8.trs]
   have B:(Bm.nodes f (Bt.fn os) (Bt.fn ps) os.length ps.length).length=ps.length:=by simp[Bm.nodes]
   have h5:=(M9.gO (M8.iB tbl)).length_eq;show(whr _ _ _).length<1000;lia
  have wn:∀v∈jZ rows os.length ts,v.length=os.length:=fun v k=>(g3 v k).1;have g1:∀v∈jZ rows os.length ts,∀p,p<os.length->v.getD p 0=0\/v.getD p 0=1:=fun v k p _=>(g3 v k).at p;have hd:(stn rows os.length ts).headD []=u1:=by
   cases h:stn rows os.length ts with
   |nil=>exact absurd h R
   |cons x r=>rw[h]at D;exact a6 D
  have D:=aC D;refine fo ?_;walk_at "wp";refine .inl ⟨I,_,rfl,.inr (SqT.of a3),_,rfl,by rw[kl];lia,by rw[kl];lia,?_⟩;rw[aJ,kl];refine eL dg (fun i σ H'=>aM c7 H'/\∃u w,σ=[some (V.ref a),some (V.ref t),some (V.ref nl),some (V.ref br),some (V.ref l),some (V.ref p3),some (V.ref U),some (V.ref I),some (V.ref d5),u,w]) ⟨aM.refl _,_,_,rfl⟩ (fun _ _ _ _ _=>trivial) ?_ ?_
  ·rintro i x σ g4 k7 D2 hi ⟨b5,u,w,rfl⟩ rfl k0 hD _
   have b4:=b5.trans k0;have d8:=b4 _ _ g8;have j2:=Paired.gh b1 fun _ _ h=>h.same b4;walk_at "wp";simp only[uN,ja,oU,eE];refine cL (bD rfl (SqL.of d8) (mh (ds:=jZ rows os.length ts) k5 cK (aG (by lia:_<=1000) (by decide)) (fun H1 O=>SqL.of (O _ _ d8)) (fun _=>true) (fun _ d=>.int (d.getD i 0)) (fun M=>∃u,M=[u,some (.int (i:Int))]) ⟨none,rfl⟩ ?_ ?_))
   ·rintro j y v M a0 Rt Rf hy k ⟨u',rfl⟩ J kt kf
    obtain⟨v',e7,b,rfl,hb⟩:=fW j2 hy;rw[k]at e7;cases e7;simp only[km,GZ,tOp,j3,tJ,Dl,Dm,fI,exists_eq_left'];rw[if_pos trivial];exact .inr (.inl ⟨b,_,(i:Int),_,rfl,rfl,J.tup hb,cf (K62.getD_at (by rw[wn v (aC k)];exact hi)),kt _ _ ⟨_,rfl⟩ (aM.refl _) rfl⟩)
   ·intro a0 X J e3
    have e:(((b8.zip (jZ rows os.length ts)).filter fun p=>true).map fun p=>V.int (p.2.getD i 0))=((jZ rows os.length ts).map fun v=>v.getD i 0).map V.int:=by
     rw[rW.mpr (fun _ _=>rfl)]
     conv =>rhs;rw[<-ju (l₁:=b8) (l₂:=jZ rows os.length ts) (by lia)]
     rw[bf,bf];rfl
    rw[e];have c3:=J.trans (aq (o:=.lst (((jZ rows os.length ts).map fun v=>v.getD i 0).map V.int)) e3);have e0:upd a0 X (.lst (((jZ rows os.length ts).map fun v=>v.getD i 0).map V.int)) X=some (.lst (((jZ rows os.length ts).map fun v=>v.getD i 0).map V.int)):=ao;generalize upd a0 X (.lst (((jZ rows os.length ts).map fun v=>v.getD i 0).map V.int))=H17 at c3 e0⊢;refine⟨X,_,rfl,SqL.of e0,⟨by rw[ai];exact k4,[0,1],by decide,fun x n=>?_⟩,fun ms F e9 i8 h8=>?_⟩
    ·obtain⟨v,k,rfl⟩:=ax.mp n
     rcases g1 v k i hi with z|z<;>rw[z]<;>simp
    obtain⟨qs,eq,pm⟩:=_root_.Q.xw e9;rw[eq];have c4:=aq (o:=.lst (qs.map V.int)) h8;have a4:upd H17 F (.lst (qs.map V.int)) F=some (.lst (qs.map V.int)):=ao;generalize upd H17 F (.lst (qs.map V.int))=H18 at c4 a4⊢;have d7:=(b4.trans (c3.trans c4)) _ _ a3;have qm:∀x,x∈qs↔∃v∈jZ rows os.length ts,v.getD i 0=x:=fun x=>by rw[pm.mem_iff,i8,ax]
    have qn:qs.Nodup:=pm.nodup_iff.mpr e9;have N:(knw rows os.length ts)[i]? =some (if(i:Int)∈unk rows os.length ts then .non else .int (((stn rows os.length ts).headD []).getD i 0)):=by
     unfold knw;rw[av,bJ hi];rfl
    refine .inl ⟨F,_,rfl,.inl (SqL.of a4),jd.mpr ⟨_,rfl,?_⟩⟩;rw[ai];have next :D2.nx [some (V.ref a),some (V.ref t),some (V.ref nl),some (V.ref br),some (V.ref l),some (V.ref p3),some (V.ref U),some (V.ref I),some (V.ref d5),some (V.int (i:Int)),some (V.ref F)] H18:=hD _ _ ⟨b4.trans (c3.trans c4),_,_,rfl⟩
    by_cases c:(i:Int)∈unk rows os.length ts
    ·rw[if_pos c]at N
     have ql:qs.length=2:=by
      obtain⟨w0,w1⟩:=GR tbl hi c;have a1:=L2.kZ (m:=[0,1]) qn fun x n=>by
       obtain⟨v,k,e⟩:=(qm x).mp n;rcases g1 v k i hi with z|z<;>rw[z]at e<;>simp[<-e]
      have a2:=L2.kZ (l:=[(0:Int),1]) (m:=qs) (by decide) fun x n=>by
       rw[qm];rcases aE.mp n with z|z
       ·rw[z];exact w0
       ·rw[aT.mp z];exact w1
      exact pM a1 a2
     rw[ql,if_neg (by decide)];refine .inl ⟨F,_,rfl,.inl (SqL.of a4),jd.mpr ⟨_,rfl,?_⟩⟩;rw[ai,ql,if_pos (by decide)];refine .inr (.inl ⟨I,_,(i:Int),_,rfl,rfl,SqT.of d7,cf N,?_⟩);show if(!decide (V.non=V.non))=true then _ else _
     rw[if_neg (by decide)];exact next
    ·rw[if_neg c]at N
     rw[hd]at N;have ql:qs=[u1.getD i 0]:=by
      have all:∀x∈qs,x=u1.getD i 0:=fun x n=>by
       obtain⟨v,k,e⟩:=(qm x).mp n;rw[<-e];exact ways_kn tbl vt hi c D v k
      have has:u1.getD i 0∈qs:=(qm _).mpr ⟨u1,cj _ D,rfl⟩;cases qs with
      |nil=>cases has
      |cons x r=>
       cases r with
       |nil=>rw[all x (.head _)]
       |cons y r=>exact absurd ((all x (.head _)).trans (all y (.tail _ (.head _))).symm) fun e=>(bI.mp qn).1 (by rw[e];exact .head _)
     subst ql;rw[if_pos (by simp)];refine .inr (.inl ⟨I,_,(i:Int),_,rfl,rfl,SqT.of d7,cf N,.inl ⟨F,_,0,_,rfl,rfl,SqL.of a4,rfl,xH.mpr ⟨_,rfl,?_⟩⟩⟩);rw[if_neg (by simp)];refine .inl ⟨F,_,rfl,.inl (SqL.of a4),jd.mpr ⟨_,rfl,?_⟩⟩;rw[if_neg (by simp),if_neg ak];exact next
  ·rintro σ g4 ⟨b5,u,w,rfl⟩
   unfold Bq;walk_at "wp";have a8:=(d0.same b3).same b5;have zl:zs.length=ts.length:=K83.dY a8.pr;have g7:=b5 _ _ a3;refine cL (bD rfl (SqL.of a8.hl) (mh (ds:=ts) zl cK (dc (by lia)) (fun H1 O=>SqL.of (O _ _ a8.hl)) (fun _=>false) (fun y _=>y) (fun M=>∃u,M=[u,some (.ref I)]) ⟨none,rfl⟩ ?_ ?_))
   ·rintro j y q M a0 Rt Rf hy hq ⟨u',rfl⟩ J kt kf
    obtain⟨q',e5,c,rfl,hc⟩:=fW a8.pr hy;rw[hq]at e5;cases e5;have c1:=aC hq;have e6:=(vt.ok q c1).1;have nu:((q.1:Nat):Int)∉unk rows os.length ts:=fun z=>((K74.unk_iff tbl e6).mp z).1 (ax.mpr ⟨q,c1,rfl⟩);have N:(knw rows os.length ts)[q.1]? =some (.int q.2):=by
     unfold knw;rw[av,bJ e6,ix,if_neg nu,hd,K76.Aq ((K75.kh tbl).mp D).2 c1]
    walk_at "wp"
    refine .inr (.inl ⟨c,_,0,_,rfl,rfl,SqT.of (J _ _ hc),rfl,.inr (.inl ⟨I,_,(q.1:Int),_,rfl,rfl,SqT.of (J _ _ g7),cf N,.inr (.inl ⟨c,_,1,_,rfl,rfl,SqT.of (J _ _ hc),rfl,xH.mpr ⟨_,rfl,?_⟩⟩)⟩)⟩);rw[if_neg (by simp)];exact kf _ _ ⟨_,rfl⟩ (aM.refl _) rfl
   ·intro a0 X J e3
    rw[oQ.mpr (fun _ _ z=>ak z),i7];refine⟨aR _,fun j4 i3=>⟨.lst [],.lst [],⟨X,[],rfl,SqL.of (aq i3 _ _ ao),rfl⟩,⟨j4,[],rfl,SqL.of ao,rfl⟩,by decide,?_⟩⟩;exact qq _
end
end K64
set_option maxHeartbeats 0
namespace K64
open PySem PySem.Spec PySem.Calls PyProof.Rows L2 R Cp Lt Lm
theorem Eh(h:us.length=4):∃a b c d,us=[a,b,c,d]:=by
 cases us with
 |nil=>exact nomatch h
 |cons a r=>
  obtain⟨b,c,d,e⟩:=Kc.mT (jH h);exact⟨a,b,c,d,by rw[e]⟩
theorem fM{α f g i:Type}{P:α->f->g->i->Prop}{q:Prop}(h:∃a b c d,P a b c d)(k:∀a b c d,P a b c d->q):q:=let⟨a,b,c,d,e⟩:=h;k a b c d e
theorem En(h:us.length=5):∃a b c d e,us=[a,b,c,d,e]:=by
 cases us with
 |nil=>exact nomatch h
 |cons a r=>
  obtain⟨b,c,d,e,f⟩:=Eh (jH h);exact⟨a,b,c,d,e,by rw[f]⟩
noncomputable def IG(st:Stmt):Pos:=match a8 st with
 |_::.Assign _ (.Call _ _ [⟨_,.Lambda _ _ _ p,_⟩] _) _::_=>p
 |_=>⟨0,0,0,0⟩
noncomputable def tb(p:Addr):Tb:=⟨p,IG (top 18),"table_list.<locals>.<lambda>"⟩
theorem tl_ok:(qy jx qw (aP (top 18))&&chkK (aP (top 18)) jx kI 1 (.var 0) "copy" (IG (top 18)) kH (a8 (top 18)))=true:=by decide+kernel
theorem tl_q:("table_list":Str)++".<locals>."++"<lambda>"="table_list.<locals>.<lambda>":=by decide+kernel
noncomputable def vals(C kd:Addr):List (Str×V):=[("LETTERS",.str LETTERS),("LONGEST_NAME",.int 8),("MOST_PLACES",.int 60),("MOST_COPIES",.int 40),("NoTable",.ref C),("KINDS",.ref kd)]
theorem uj{sl:Array (Option Value)}{i j:Int}{t u:Tok}(l:K.lookup a=some ⟨.type "tuple",od,.seq #[.int i t,.int j u] n,sl⟩)(H:Hp):SqT K H a [.int i,.int j]:=
 .inr ⟨_,_,_,l,rfl,rfl,by show 2<=sizeLine;decide,.cons ⟨t,rfl⟩ (.cons ⟨u,rfl⟩ .nil)⟩
theorem IJ{a b c d:Addr}{g h i j:Nat}{sl k:Array (Option Value)}{m o p t3 q u1 r s:Tok}(l:K.lookup kd=some ⟨.type "tuple",od,.seq #[.ref a,.ref b,.ref c,.ref d] n,sl⟩)
  (e:K.lookup a=some ⟨.type "tuple",o0,.seq #[.int 0 m,.int 0 q] g,s0⟩)(l1:K.lookup b=some ⟨.type "tuple",o1,.seq #[.int 0 o,.int 1 u1] h,k⟩)(l2:K.lookup c=some ⟨.type "tuple",o2,.seq #[.int 1 p,.int 0 r] i,s2⟩)(f:K.lookup d=some ⟨.type "tuple",o3,.seq #[.int 1 t3,.int 1 s] j,s3⟩):Kc.Kinds K kd:=
 ⟨a,b,c,d,fun H=>⟨.inr ⟨_,_,_,l,rfl,rfl,by show 4<=sizeLine;decide,.cons rfl (.cons rfl (.cons rfl (.cons rfl .nil)))⟩,uj e H,uj l1 H,uj l2 H,uj f H⟩⟩
def zR(K:ah)(x:Str)(st:Stmt)(c p:Addr):Prop:=∃(f:Addr)(oc:Value)(od an:Option Addr)(osl:Array (Option Value))(kV doc pm ct:Value),d8 K bK x=some (some (.ref f))/\
 K.lookup f=some ⟨oc,od,.func (aF x x (bq st) (a8 st) (aP st) .none kV doc pm an (.ref c) ct),osl⟩/\fg K (.ref c) x=true/\cS K (.ref f)=true/\J9 K c p=true
theorem xR{st:Stmt}{p:Addr}{an:Option Addr}{kV:Value}(a:d8 K bK x=some (some (.ref f)))
  (l:K.lookup f=some ⟨oc,od,.func (aF x x (bq st) (a8 st) (aP st) .none kV doc pm an (.ref c) ct),osl⟩)(k:fg K (.ref c) x=true)(q:cS K (.ref f)=true)(h:J9 K c p=true):∃c,zR K x st c p:=
 ⟨c,f,oc,od,an,osl,kV,doc,pm,ct,a,l,k,q,h⟩
theorem add_fnK{vals:List (Str×V)}{e:List ((Str×Nat)×(Sp×List V))}{st:Stmt}{ps:List Str}{sp:Sp}{o:CS}{r:R.CE}{q:CB}{T:Tb}{j:List ((Str×Nat)×(Addr×Sp×List V))}{b:List (Addr×List (Key×V))}
  (g:GOk P w K mg base (CXx P w) k (gam vals e j b))(X:K.In h)(u:K.In base)(t:h.Ns bK mg)(d:zR K x st c T.P)(m:(qy N ps (aP st)&&chkK (aP st) N o i r lx T.pos q (a8 st))=true)(hq:x++".<locals>."++"<lambda>"=T.q)(z:BM mg base)
  (B:∀(p:Pos)(y:Expr)(scope:Scope)(qual:Str)(pm ctv v:Value)(c':Addr),qe (PySem.W.kla_fn "<lambda>" qual (qI lx p) y scope [] pm (.ref c') ctv) ⟨[v],[]⟩=pure [(lx,v)])
  (A:∀(kV doc pm:Value)(an:Option Addr)(cdv ct:Value)(us:List Value),us.length=ps.length->qe (aF x x (bq st) (a8 st) (aP st) .none kV doc pm an cdv ct) ⟨us,[]⟩=pure (ps.zip us))(len:∀vs H Q E,sp vs H Q E->vs.length=ps.length)
  (C:∀vs H Q E,sp vs H Q E->uP (R.wpS (gam vals e j b) K (fun _=>E) o) (uP (yy (uO K T (wpE (gam vals e j b) K (fun _=>E) r)) (km i)) (wpB (gam vals e j b) K (fun _=>E) q)) {nx:=fun _ H'=>Q .non H',rt:=Q} (L2.start N vs) H):
  GOk P w K mg base (CXx P w) (k+1) (gam vals (((x,ps.length),(sp,[]))::e) j b):=by
 rw[aH]at m;obtain⟨f,oc,od,an,osl,kV,doc,pm,ct,a,l,D,s,G⟩:=d;have F:=CV l D s;exact g.add (n:=ps.length) (Ji F m.1 m.2 rfl (ER u G) hq z B g len C) (eQ X t a) s (F.binds A) .nil
theorem all_mk{p:Addr}(X:K.In h)(d:h.Ns bK mg)(e8:mg "law"=some (.ref fa)){m n t3 o:Tok}
  (v1:d8 K bK "LETTERS"=some (some (.str LETTERS m)))(v2:d8 K bK "LONGEST_NAME"=some (some (.int 8 n)))(v3:d8 K bK "MOST_PLACES"=some (some (.int 60 t3)))(v4:d8 K bK "MOST_COPIES"=some (some (.int 40 o)))(v5:d8 K bK "NoTable"=some (some (.ref C)))(v6:d8 K bK "KINDS"=some (some (.ref kd)))
  (e9:Kc.Kinds K kd)(bl:∀x∈jf,d8 K bK x=some none)
  (b1:HasFn K "is_whole" (top 11))(b2:HasFn K "is_name" (top 12))(b3:HasFn K "is_reading" (top 13))(b4:HasFn K "are_readings" (top 14))(b5:HasFn K "is_copy" (top 15))(b6:HasFn K "is_table" (top 16))(b7:HasFn K "need_table" (top 17))(b8:HasFn K "place_count" (top 19))(b9:HasFn K "first_of_kinds" (top 22))(c0:HasFn K "clash" (top 23))(c1:HasFn K "refuse_clash" (top 24))(c2:HasFn K "group_at" (top 26))(c3:HasFn K "turned" (top 27))(c4:HasFn K "grown" (top 28))(c5:HasFn K "tree" (top 29))(c6:HasFn K "is_telling" (top 31))(c7:HasFn K "are_tellings" (top 32))(c8:HasFn K "need_tellings" (top 33))(c9:HasFn K "that_read" (top 34))(d0:HasFn K "told_nodes" (top 36))(d1:HasFn K "stands" (top 37))(d2:HasFn K "unknown_places" (top 38))(d3:HasFn K "first_read" (top 39))(d4:HasFn K "_law_cell_at" (top 41))(d5:HasFn K "_law_mixed" (top 43))(d6:HasFn K "_law_owners" (top 44))(d7:HasFn K "_law_grown" (top 45))(d9:HasFn K "_law_nodes" (top 46))(e0:HasFn K "_law_name" (top 47))(e1:HasFn K "_law_copies" (top 48))(e2:HasFn K "_law_built" (top 49))(e3:HasFn K "_law_tellings" (top 50))(e4:HasFn K "_law_amid" (top 51))(e5:HasFn K "_law_wherever" (top 52))(e6:HasFn K "_law_one_part" (top 53))(g:∃c,zR K "table_list" (top 18) c p)(e7:HasFn K "law" (top 54)):
  ∃fd:gK,(∀(s:Shared)(v:Value),BindsTo s fd ⟨[v],[]⟩ [("_law_script",v)])/\∀base:Heap,K.In base->base.Ns bK mg->BM mg base->jV P w K mg base CX0 37 fa fd ["_law_script"] (fun vs H Q _=>Hb K (tb p) vs H Q E0):=by
 obtain⟨f,f0,od,an,osl,kV,doc,pm,cdv,ct,a,l,c,k⟩:=id e7;have e:=e8.symm.trans (eQ X d a);cases e;obtain⟨cc,g⟩:=g;refine⟨aF "law" "law" (bq (top 54)) (a8 (top 54)) (aP (top 54)) .none kV doc pm an cdv ct,fun s v=>.of_eq rfl,fun base q _ r=>?_⟩;have hv:∀x v,(x,v)∈vals C kd->∃u,mg x=some u/\RelV v u:=by
  intro x v j;simp only[vals,aE,cM,or_false,Prod.mk.injEq]at j;rcases j with⟨rfl,rfl⟩ |⟨rfl,rfl⟩ |⟨rfl,rfl⟩ |⟨rfl,rfl⟩ |⟨rfl,rfl⟩ |⟨rfl,rfl⟩
  ·exact⟨_,eQ X d v1,m,rfl⟩
  ·exact⟨_,eQ X d v2,n,rfl⟩
  ·exact⟨_,eQ X d v3,t3,rfl⟩
  ·exact⟨_,eQ X d v4,o,rfl⟩
  ·exact⟨_,eQ X d v5,rfl⟩
  ·exact⟨_,eQ X d v6,rfl⟩
 have t:GOk P w K mg base (CXx P w) 0 (gam (vals C kd) []):=GOk.start hv fun x hx=>PySem.W.mg_none_of X d (bl x hx);have y:=cR (N:=Cp.vF) (ps:=Cp.Cq) t (b1.def X d) (by decide+kernel) (fun _ _ _ _ _ _ us b=>by obtain⟨_,rfl⟩:=Kc.iE b;rfl) (sp:=spB isWhole) (fun vs H Q E h=>Kc.dX h fun _ h=>Kc.fJ h rfl) Aa;have O:=cR (N:=Cp.xI) (ps:=Cp.Fu) y (b2.def X d) (by decide+kernel) (fun _ _ _ _ _ _ us b=>by obtain⟨_,rfl⟩:=Kc.iE b;rfl) (sp:=spN) (fun vs H Q E h=>Kc.dX h fun _ h=>Kc.fJ h rfl) (BZ (by kernel_rfl) (by kernel_rfl));have g3:=cR (N:=Cp.qF) (ps:=Cp.yZ) O (b3.def X d) (by decide+kernel) (fun _ _ _ _ _ _ us b=>by obtain⟨_,rfl⟩:=Kc.iE b;rfl) (sp:=spB cI) (fun vs H Q E h=>Kc.dX h fun _ h=>Kc.fJ h rfl) (wR (by kernel_rfl));have g4:=cR (N:=Cp.ng) (ps:=Cp.vm) g3 (b4.def X d) (by decide+kernel) (fun _ _ _ _ _ _ us b=>by obtain⟨_,rfl⟩:=Kc.iE b;rfl) (sp:=spR) (fun vs H Q E h=>Kc.dX h fun _ h=>Kc.fJ h rfl) (tO (by kernel_rfl) (by kernel_rfl));have g5:=cR (N:=Cp.xJ) (ps:=Cp.Fv) g4 (b5.def X d) (by decide+kernel) (fun _ _ _ _ _ _ us b=>by obtain⟨_,rfl⟩:=Kc.iE b;rfl) (sp:=spC) (fun vs H Q E h=>Kc.dX h fun _ h=>Kc.fJ h rfl) (B0 (by kernel_rfl) (by kernel_rfl));have g6:=cR (N:=Cp.vG) (ps:=Cp.Cr) g5 (b6.def X d) (by decide+kernel) (fun _ _ _ _ _ _ us b=>by obtain⟨_,rfl⟩:=Kc.iE b;rfl) (sp:=Cp.spT) (fun vs H Q E h=>Kc.dX h fun _ h=>Kc.fJ h rfl) (Ab (by kernel_rfl) (by kernel_rfl));have g7:=cR (N:=Cp.qB) (ps:=Cp.yV) g6 (b7.def X d) (by decide+kernel) (fun _ _ _ _ _ _ us b=>by obtain⟨_,rfl⟩:=Kc.iE b;rfl) (sp:=yC C) (fun vs H Q E h=>Kc.dX h fun _ h=>Kc.fJ h rfl) (wQ (by kernel_rfl));have g8:=add_fnK (T:=tb p) (N:=jx) (ps:=qw) (lx:="copy") g7 X q d g tl_ok tl_q r (fun _ _ _ _ _ _ _ _=>rfl) (fun _ _ _ _ _ _ us b=>by obtain⟨_,rfl⟩:=Kc.iE b;rfl) (sp:=yD C (tb p)) (fun vs H Q E h=>Kc.dX h fun _ h=>Kc.fJ h rfl) (wO (C:=C) (by kernel_rfl));have g9:=cR (N:=Cp.oZ) (ps:=Cp.wY) g8 (b8.def X d) (by decide+kernel) (fun _ _ _ _ _ _ us b=>by obtain⟨_,rfl⟩:=Kc.iE b;rfl) (sp:=uc C) (fun vs H Q E h=>Kc.dX h fun _ h=>Kc.fJ h rfl) (uK (C:=C) (by kernel_rfl));have z:=cR (N:=Kc.k7) (ps:=Kc.sj) g9 (b9.def X d) (by decide+kernel) (fun _ _ _ _ _ _ us b=>by obtain⟨_,_,_,rfl⟩:=Kc.mT b;rfl) (sp:=Kc.yF) (fun vs H Q E h=>fM h fun _ _ _ _ h=>Kc.dX h fun _ h=>Kc.fJ h rfl) (Kc.GO (by kernel_rfl) e9);have A:=cR (N:=K22.DY) (ps:=K22.p_clash) z (c0.def X d) (by decide+kernel) (fun _ _ _ _ _ _ us b=>by obtain⟨_,rfl⟩:=Kc.iE b;rfl) (sp:=K22.yG C (tb p)) (fun vs H Q E h=>Kc.dX h fun _ h=>Kc.fJ h rfl) (K22.GP (C:=C) (T:=tb p) (by kernel_rfl) (by kernel_rfl) (by kernel_rfl));have B:=cR (N:=K83.m4) (ps:=K83.vg) A (c1.def X d) (by decide+kernel) (fun _ _ _ _ _ _ us b=>by obtain⟨_,rfl⟩:=Kc.iE b;rfl) (sp:=K83.Ha (tb p)) (fun vs H Q E h=>Kc.dX h fun _ h=>Kc.fJ h rfl) (K83.wp_ref (C:=C) (T:=tb p) (by kernel_rfl));have D:=cR (N:=K32.vH) (ps:=K32.Cs) B (c2.def X d) (by decide+kernel) (fun _ _ _ _ _ _ us b=>by obtain⟨_,_,rfl⟩:=Kc.fU b;rfl) (sp:=K32.yE) (fun vs H Q E h=>fM h fun _ _ _ _ h=>Kc.dX h fun _ h=>Kc.fJ h rfl) K32.GN;have F:=cR (N:=K32.AK) (ps:=K32.Ia) D (c3.def X d) (by decide+kernel) (fun _ _ _ _ _ _ us b=>by obtain⟨_,_,rfl⟩:=Kc.fU b;rfl) (sp:=K32.mW K) (fun vs H Q E h=>fM h fun _ _ _ _ h=>Kc.fJ h rfl) K32.EW;have G:=cR (N:=K32.DX) (ps:=K32.p_grown) F (c4.def X d) (by decide+kernel) (fun _ _ _ _ _ _ us b=>by obtain⟨_,rfl⟩:=Kc.iE b;rfl) (sp:=K32.uU) (fun vs H Q E h=>fM h fun _ _ _ _ h=>Kc.fJ h rfl) (K32.EY (by kernel_rfl) (by kernel_rfl));have I:=cR (N:=K32.Ir) (ps:=K32.p_tree) G (c5.def X d) (by decide+kernel) (fun _ _ _ _ _ _ us b=>by obtain⟨_,rfl⟩:=Kc.iE b;rfl) (sp:=K83.pO (tb p)) (fun vs H Q E h=>Kc.dX h fun _ h=>Kc.fJ h rfl) (K83.wp_tree (C:=C) (T:=tb p) (by kernel_rfl) (by kernel_rfl) (by kernel_rfl));have J:=cR (N:=K75.qE) (ps:=K75.yY) I (c6.def X d) (by decide+kernel) (fun _ _ _ _ _ _ us b=>by obtain⟨_,_,rfl⟩:=Kc.fU b;rfl) (sp:=K75.spTg) (fun vs H Q E h=>fM h fun _ _ _ _ h=>Kc.fJ h rfl) (K75.wp_tg (by kernel_rfl) (by kernel_rfl));have L:=cR (N:=K75.m9) (ps:=K75.vk) J (c7.def X d) (by decide+kernel) (fun _ _ _ _ _ _ us b=>by obtain⟨_,_,rfl⟩:=Kc.fU b;rfl) (sp:=K75.spAt) (fun vs H Q E h=>fM h fun _ _ _ _ h=>Kc.fJ h rfl) (K75.wp_at (by kernel_rfl));have M:=cR (N:=K75.my) (ps:=K75.tP) L (c8.def X d) (by decide+kernel) (fun _ _ _ _ _ _ us b=>by obtain⟨_,_,rfl⟩:=Kc.fU b;rfl) (sp:=K75.spNt K) (fun vs H Q E h=>fM h fun _ _ _ _ h=>fM h fun _ _ _ _ h=>Kc.fJ h rfl) (K75.wp_nt (C:=C) (by kernel_rfl) (by kernel_rfl));have R:=cR (N:=K75.sT) (ps:=K75.Aw) M (c9.def X d) (by decide+kernel) (fun _ _ _ _ _ _ us b=>by obtain⟨_,_,rfl⟩:=Kc.fU b;rfl) (sp:=K75.G9 K) (fun vs H Q E h=>fM h fun _ _ _ _ h=>Kc.dX h fun _ h=>Kc.dX h fun _ h=>Kc.dX h fun _ h=>Kc.fJ h rfl) K75.wp_thr;have S:=cR (N:=K75.qA) (ps:=K75.yU) R (d0.def X d) (by decide+kernel) (fun _ _ _ _ _ _ us b=>by obtain⟨_,_,rfl⟩:=Kc.fU b;rfl) (sp:=K75.spTn K) (fun vs H Q E h=>fM h fun _ _ _ _ h=>Kc.dX h fun _ h=>Kc.dX h fun _ h=>Kc.dX h fun _ h=>Kc.fJ h rfl) (K75.wp_tn (by kernel_rfl));have U:=cR (N:=K64.AL) (ps:=K64.Ib) S (d1.def X d) (by decide+kernel) (fun _ _ _ _ _ _ us b=>by obtain⟨_,_,rfl⟩:=Kc.fU b;rfl) (sp:=K64.spSt K (tb p)) (fun vs H Q E h=>fM h fun _ _ _ _ h=>fM h fun _ _ _ _ h=>Kc.fJ h rfl) (K64.wp_st (T:=tb p) (by kernel_rfl) (by kernel_rfl) (by kernel_rfl));have V:=cR (N:=K75.k6) (ps:=K75.si) U (d2.def X d) (by decide+kernel) (fun _ _ _ _ _ _ us b=>by obtain⟨_,_,_,rfl⟩:=Kc.mT b;rfl) (sp:=K75.spUp K) (fun vs H Q E h=>fM h fun _ _ _ _ h=>fM h fun _ _ _ _ h=>Kc.dX h fun _ h=>Kc.fJ h rfl) K75.wp_up;have W:=cR (N:=K75.qG) (ps:=K75.y6) V (d3.def X d) (by decide+kernel) (fun _ _ _ _ _ _ us b=>by obtain⟨_,_,rfl⟩:=Kc.fU b;rfl) (sp:=K75.spFr K (tb p)) (fun vs H Q E h=>fM h fun _ _ _ _ h=>fM h fun _ _ _ _ h=>Kc.fJ h rfl) (K75.wp_fr (T:=tb p) (by kernel_rfl) (by kernel_rfl) (by kernel_rfl) (by kernel_rfl));have Y:=cR (N:=Lt.o4) (ps:=Lt.wZ) W (d4.def X d) (by decide+kernel) (fun _ _ _ _ _ _ us b=>by obtain⟨_,_,rfl⟩:=Kc.fU b;rfl) (sp:=Lt.uX K) (fun vs H Q E h=>Kc.dX h fun _ h=>Kc.dX h fun _ h=>Kc.dX h fun _ h=>Kc.fJ h rfl) Lt.wp_cell;have Z:=cR (N:=Bt.sV) (ps:=Bt.Ay) Y (d5.def X d) (by decide+kernel) (fun _ _ _ _ _ _ us b=>by obtain⟨_,_,rfl⟩:=Kc.fU b;rfl) (sp:=Bt.Ak) (fun vs H Q E h=>Kc.dX h fun _ h=>Kc.dX h fun _ h=>Kc.fJ h rfl) Bt.wp_mix;have a0:=cR (N:=Bt.qC) (ps:=Bt.yW) Z (d6.def X d) (by decide+kernel) (fun _ _ _ _ _ _ us b=>by obtain⟨_,_,_,_,rfl⟩:=Eh b;rfl) (sp:=Bt.uT) (fun vs H Q E h=>fM h fun _ _ _ _ h=>Kc.dX h fun _ h=>Kc.fJ h rfl) Bt.EX;have a1:=cR (N:=Bt.sW) (ps:=Bt.Az) a0 (d7.def X d) (by decide+kernel) (fun _ _ _ _ _ _ us b=>by obtain⟨_,_,rfl⟩:=Kc.fU b;rfl) (sp:=Bt.uV K) (fun vs H Q E h=>Kc.dX h fun _ h=>Kc.dX h fun _ h=>Kc.dX h fun _ h=>Kc.fJ h rfl) (Bt.EZ (by kernel_rfl) (by kernel_rfl));have a2:=cR (N:=Bt.sU) (ps:=Bt.Ax) a1 (d9.def X d) (by decide+kernel) (fun _ _ _ _ _ _ us b=>by obtain⟨_,_,_,_,_,rfl⟩:=En b;rfl) (sp:=Bt.yB) (fun vs H Q E h=>fM h fun _ _ _ _ h=>Kc.dX h fun _ h=>Kc.dX h fun _ h=>Kc.dX h fun _ h=>Kc.fJ h rfl) Bt.GL;have a3:=cR (N:=Bt.vD) (ps:=Bt.Cn) a2 (e0.def X d) (by decide+kernel) (fun _ _ _ _ _ _ us b=>by obtain⟨_,_,rfl⟩:=Kc.fU b;rfl) (sp:=Bt.spNm) (fun vs H Q E h=>Kc.dX h fun _ h=>Kc.dX h fun _ h=>Kc.fJ h rfl) Bt.wp_nm;have a4:=cR (N:=Bt.qD) (ps:=Bt.yX) a3 (e1.def X d) (by decide+kernel) (fun _ _ _ _ _ _ us b=>by obtain⟨_,_,_,_,_,rfl⟩:=En b;rfl) (sp:=Bt.uW) (fun vs H Q E h=>fM h fun _ _ _ _ h=>Kc.dX h fun _ h=>Kc.dX h fun _ h=>Kc.dX h fun _ h=>Kc.fJ h rfl) (Bt.E1 (by kernel_rfl));have a5:=cR (N:=Bt.sX) (ps:=Bt.AA) a4 (e2.def X d) (by decide+kernel) (fun _ _ _ _ _ _ us b=>by obtain⟨_,_,rfl⟩:=Kc.fU b;rfl) (sp:=Bt.yH K) (fun vs H Q E h=>Kc.dX h fun _ h=>Kc.dX h fun _ h=>Kc.dX h fun _ h=>Kc.fJ h rfl) (Bt.GQ (by kernel_rfl) (by kernel_rfl) (by kernel_rfl) (by kernel_rfl) (by kernel_rfl) (by kernel_rfl));have a6:=cR (N:=K62.m6) (ps:=K62.vi) a5 (e3.def X d) (by decide+kernel) (fun _ _ _ _ _ _ us b=>by obtain⟨_,_,_,rfl⟩:=Kc.mT b;rfl) (sp:=K62.spTl K) (fun vs H Q E h=>fM h fun _ _ _ _ h=>Kc.dX h fun _ h=>Kc.dX h fun _ h=>Kc.fJ h rfl) (K62.wp_tl (by kernel_rfl));have a7:=cR (N:=K64.vE) (ps:=K64.Co) a6 (e4.def X d) (by decide+kernel) (fun _ _ _ _ _ _ us b=>by obtain⟨_,_,rfl⟩:=Kc.fU b;rfl) (sp:=K64.spAm K) (fun vs H Q E h=>fM h fun _ _ _ _ h=>Kc.dX h fun _ h=>Kc.fJ h rfl) K64.wp_amid;have a9:=cR (N:=K64.m5) (ps:=K64.vh) a7 (e5.def X d) (by decide+kernel) (fun _ _ _ _ _ _ us b=>by obtain⟨_,_,_,rfl⟩:=Kc.mT b;rfl) (sp:=K64.spWh K) (fun vs H Q E h=>fM h fun _ _ _ _ h=>fM h fun _ _ _ _ h=>Kc.dX h fun _ h=>Kc.dX h fun _ h=>Kc.fJ h rfl) (K64.wp_wh (by kernel_rfl));have b0:=cR (N:=K64.m8) (ps:=K64.vj) a9 (e6.def X d) (by decide+kernel) (fun _ _ _ _ _ _ us b=>by obtain⟨_,_,rfl⟩:=Kc.fU b;rfl) (sp:=K64.spOp K) (fun vs H Q E h=>fM h fun _ _ _ _ h=>Kc.dX h fun _ h=>Kc.dX h fun _ h=>Kc.fJ h rfl) K64.wp_op;have i:(qy K64.Iu K64.p_law (aP (top 54))&&wc (aP (top 54)) K64.Iu K64.JM (a8 (top 54)))=true:=by decide+kernel
 rw[aH]at i;exact jV.calm (El (CV l c k) i.1 i.2 b0 (fun vs H Q E h=>Kc.dX h fun _ h=>Kc.dX h fun _ h=>Kc.fJ h rfl) (wp_law (T:=tb p) ⟨(by kernel_rfl),(by kernel_rfl),(by kernel_rfl),(by kernel_rfl),(by kernel_rfl),(by kernel_rfl),(by kernel_rfl),(by kernel_rfl)⟩))
end K64
open PySem PySem.W PyProof.Rows
set_option maxRecDepth 100000 in
set_option maxHeartbeats 0 in
theorem PySem.Challenge.cw_copykin_k64_whole_wherever_it_stands_holds : PySem.Challenge.rw_copykin_k64_whole_wherever_it_stands.Holds := by
 w_on;o_law
 refine PySem.W.holds_open (q:=K64.vw) (loose:=K64.loo) (Xt:=K64.xt)
  (XP:=PySem.W.XL K64.vw []) (Yf:=BS (j9 K64.A2 K64.A3 (fun _=>by kernel_rfl) [134])) (Ya:=BR (j9 K64.A2 K64.A3 (fun _=>by kernel_rfl) [134]))
  (YP:=PySem.W.Hook.says (j9 K64.A2 K64.A3 (fun _=>by kernel_rfl) [134])) (N:=4802) (fun w=>K64.both (K64.leftA w) (K64.leftB w)) (PySem.W.Hook.of _) (PySem.W.Hook.keeps _)
  (fun s e=>PySem.W.xl_of s (GJ.mp e).1) PySem.W.XL.keeps
  (by rfl) (by rfl) (by rfl)
  (fun s e=>PySem.W.recFacts_of (GJ.mp e).2) rfl (by assumption) (by decide+kernel)
  ⟨rfl,rfl,rfl,rfl,rfl,by decide+kernel⟩ ?hw ?hc
 (case hw=>w_witness2)
 k_fill
 refine Lm.GS (l:=PySem.Challenge.rw_copykin_k64_whole_wherever_it_stands) (n:=63) (k:=37) (x:="_law_script") (CX:=L2.CX0) (sp:=fun K=>fun vs H Q _=>K64.Hb K (K64.tb 134) vs H Q L2.E0) (tabs:=[134]) rfl (by decide) rfl ⟨rfl,by decide,by decide⟩ (fun w h Y=>J8 Y) ?T ?F (fun K H a ns hl ht hS=>⟨a,ns,rfl,hS,hl,.inl (ht 134 (aT.mpr rfl)),fun _=>rfl⟩) (fun _ _ _ _ z=>z)
 case T=>
  intro w s₀ mg mb h G Y p hp;obtain rfl:=aT.mp hp;have KX:=J8 Y;have T:=PySem.W.km_tabs_of Y 134 (aT.mpr rfl);have F:∃c,K64.zR (L2.KOf KX) "table_list" (K64.top 18) c 134:=by
   dsimp only[L2.KOf];refine' K64.xR ?ta ?tl ?tk ?tq ?th;(case ta=>k_is);(case tl=>k_is);(case tk=>k_is);(case tq=>k_is);(case th=>first |k_is|kernel_rfl)
  obtain⟨c,_,_,_,_,_,_,_,_,_,_,_,_,_,q⟩:=F;exact⟨T,((ER KX q).tab T).isCodeTable,by kernel_rfl⟩
 case F=>
  intro w mg fa h KX G hmg;refine' K64.all_mk (p:=134) KX G hmg ?v1 ?v2 ?v3 ?v4 ?v5 ?v6 ?kd0 ?bl ?h11 ?h12 ?h13 ?h14 ?h15 ?h16 ?h17 ?h19 ?h22 ?h23 ?h24 ?h26 ?h27 ?h28 ?h29 ?h31 ?h32 ?h33 ?h34 ?h36 ?h37 ?h38 ?h39 ?h41 ?h43 ?h44 ?h45 ?h46 ?h47 ?h48 ?h49 ?h50 ?h51 ?h52 ?h53 ?h18 ?h54
  (case v1=>k_is);(case v2=>k_is);(case v3=>k_is);(case v4=>k_is);(case v5=>k_is);(case v6=>k_is)
  (case kd0=>refine' K64.IJ ?l ?l0 ?l1 ?l2 ?l3;(case l=>k_is);(case l0=>k_is);(case l1=>k_is);(case l2=>k_is);(case l3=>k_is))
  (case bl=>
   intro x hx;simp only[R.jf,aE,cM,or_false]at hx;rcases hx with rfl|rfl|rfl|rfl|rfl|rfl|rfl|rfl|rfl|rfl|rfl|rfl|rfl|rfl|rfl|rfl|rfl|rfl|rfl|rfl<;>k_is)
  (case h18=>refine' K64.xR ?ua ?ul ?uk ?uq ?uh;(case ua=>k_is);(case ul=>k_is);(case uk=>k_is);(case uq=>k_is);(case uh=>first |k_is|kernel_rfl))
  all_goals(refine' R.Jb ?a ?l ?c ?k;(case a=>k_is);(case l=>k_is);(case c=>k_is);(case k=>k_is))
