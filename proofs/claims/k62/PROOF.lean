import PyProof.Rows.All
import Wide.All
import OpenK.AllK
import Wide.FinOn
import Lean
import PyProof.EqAt
import PyProof.EqKinds
import PyProof.TupleCall
import PyProof.NeKinds
import PySem.Challenge.RW_copykin_k62_first_read
open Array renaming length_toList → ck, getElem?_eq_some_iff → dj, perm_iff_toList_perm → eE, mem_toList_iff → jm, getElem?_toList → Ec, getD → Jx, forIn_toList → Jy
open Bool renaming false_ne_true → ak, and_eq_true → aN, false_eq_true → aQ, eq_iff_iff → bF, false_or → bM, or_eq_true → cw, false_and → cW, true_and → eB, not_true → fU, eq_false_iff → iT, and_false → iU, or_false → mf, or_true → oa, and_eq_true_iff → FU
open Classical renaming byContradiction → aJ, not_forall → fT, not_imp → qU, em → qV, epsilon_spec → zg
open False renaming elim → kz
open ForInStep renaming yield → gG
open Int renaming toNat_natCast → aH, emod_lt_of_pos → bU, eq_ofNat_of_zero_le → bY, emod_nonneg → cy, zero_add → eY, fdiv_eq_ediv_of_nonneg → A1
open Lean.Name renaming str → cf, anonymous → Bc
open List renaming getElem?_eq_getElem → aa, getD_eq_getElem?_getD → ae, length_map → ai, getElem?_map → aq, size_toArray → au, range → aw, mem_map → ay, getElem?_eq_some_iff → aC, mem_of_getElem? → aD, mem_cons → aE, mem_cons_self → aG, mem_range → aK, mem_cons_of_mem → aM, length_range → aO, getElem_map → aY, mem_singleton → a6, mem_append_right → a7, length_eq_zero_iff → a8, getElem_mem → a9, length_append → ba, lookup_cons → bf, ext_getElem → bg, replicate → bh, map_map → bq, length_cons → bB, all_eq_true → bC, map_congr_left → bE, mem_iff_getElem? → bJ, map_cons → bK, getElem?_eq_none → bL, nodup_cons → bN, getElem?_range → bP, mem_filter → bR, getElem?_append_right → bS, any_eq_true → b9, take_add_one → cB, mem_iff_getElem → cE, getElem?_append_left → cF, not_mem_nil → cJ, mem_append → cP, map_append → cQ, pairwise_iff_getElem → cT, pairwise_map → cU, take_length → c7, mem_reverse → c8, length_take → c9, length_drop → da, nodup_append → dm, replicate_succ → du, map_id → dy, foldl_cons → dz, length_singleton → dF, getElem_inj → dO, toArray → dR, getElem_range → eF, length_filter_le → eK, mem_append_left → eS, find?_cons → fM, ext_getElem? → fY, length_pos_iff → gU, append_nil → iu, getElem?_drop → iz, find?_eq_none → iA, take_of_length_le → iP, reverse_cons → iQ, nodup_nil → iR, flatten_cons → iS, length_replicate → i9, mem_flatMap → jc, filter_cons → jd, lookup → jt, filter_map → jK, filter_sublist → jU, map_nil → j6, zip_cons_cons → kB, pairwise_cons → kC, length_eraseIdx_of_lt → kD, filter_append → kE, length → lO, filter_congr → lP, append_assoc → lQ, any_cons → ma, all_cons → me, nodup_range → mq, map_reverse → mr, filter_eq_nil_iff → n8, all_map → n9, range_succ → oo, length_nil → oq, perm_cons_erase → pO, mem_erase_of_ne → pP, mem_map_of_mem → rj, length_reverse → rm, flatMap_append → rq, filterMap_cons → rA, lookup_append → sQ, take_sublist → tX, flatMap_cons → tY, any_map → tZ, eraseIdx_eq_take_drop_succ → vL, map_snd_zip → vP, cons_append → vQ, of_mem_zip → xD, nodup_iff_pairwise_ne → zj, forIn_nil → zk, mem_of_find?_eq_some → AZ, getElem?_eq_none_iff → A0, getElem?_take_of_lt → Bb, range_succ_eq_map → D7, pairwise_lt_range → D9, getElem?_set_self → Ea, mem_of_mem_take → FP, getElem?_set_ne → FQ, toList_toArray → Jw
open List.Pairwise renaming and_mem → lq, nil → ot
open List.Perm renaming refl → dN, swap → vM
open List.cons renaming injEq → FR
open Nat renaming le_refl → aB, ne_of_lt → aI, le_trans → aR, lt_of_lt_of_le → aV, zero_le → aX, lt_succ_of_lt → bA, not_lt_zero → c5, lt_irrefl → dk, lt_succ_self → dP, ne_of_gt → eA, mod_eq_of_lt → eD, le_succ_of_le → eW, le_succ → eX, le_of_not_lt → fB, lt_trans → gQ, strongRecOn → jT, le_of_lt → ku, eq_of_testBit_eq → qT, lt_of_le_of_lt → tB, zero_add → vK, le_add_right → wz, le_antisymm → zf, mod_lt → AY, lt_succ_iff_lt_or_eq → Ct, succ_mul → FG, sub_zero → FH, le_of_eq → FI, and_self → FJ
open Nat.succ renaming inj → js
open Ne renaming symm → bQ
open Option renaming isSome_iff_exists → eR, isNone_iff_eq_none → gC, isSome_some → gZ, map_some → jr, map_eq_some_iff → mn, getD_none → tW, map_eq_none_iff → Ba, isSome_none → FO
open Option.some renaming inj → aW, injEq → jJ
open PyProof.Rows renaming IntsAre → bW, callWith_type1 → cI, listUpdate_at → fA, boot_list → kA, AllBare → og, callWith_builtin1 → pN, subscriptTail_builtinR → qS, get?_update_seq → rg, seqEpoch_at → tp, boot_tuple → vJ, boot_int → wy, StrsAre → zc, entry_list_sort → Cq, slot_list_sort → Fy, size_push' → Fz, subscriptTail → Jm
open PyProof.Rows.F renaming plain_set_update_loop → fL, entry_set_update_loop → l9
open PySem renaming wpAny_bind → af, wpAny_pure → aj, mem_of_lookup → bp, SetTable → bu, mainGlobals → bG, wpAny_newObj_type → bV, starEach → bZ, wpAny_holding → b8, cellsFrom → cC, wpAny_call_entry → cM, compareOp → cR, wpAny_truthy_bool → cY, wpAny_setField_rec → dc, wpAny_askSetting → dh, wpAny_setState_of → dD, Fin → dM, NameKind → dU, wpAny_callSpecial?_slot → d9, codeAny_builtin → eh, bootBuiltins → eJ, plainId_quiet → eM, binaryOp → fu, wpAny_seqItems → fJ, scanBound → fK, wpAny_mono → fW, sysModules → fX, wpAny_passesOwn → gv, FuncData → gy, wpAny_rule → gV, wpAny_field → gW, strIterType → gX, assignEach → gY, pickOrder → ip, codeAny → iO, wpAny_pyIter_tuple → iY, wpAny_Call_Name_kw → iZ, recursionLimit → ji, foldedSetIterable → jk, Value → jl, builtinLookup_eq_fast → jI, wpAny_isInstance → jP, call_meets → jQ, wpAny_letGo → km, sliceBounds → kq, wpAny_richCompare_same_room → lM, codeAny_mono → lN, noteFrame → l7, setsByText → mj, builtinsNs → mm, wpAny_pyIter_list → nX, fits_of_scanBound → nY, atKey_none_of_get → nZ, wpAny_newList → oj, wpAny_eqBool_int → pH, tupleKind → pI, relayAll → pJ, bindArgs → pK, GenState → pM, wpAny_updateSeq → qW, wpAny_specialOf → qX, wpAny_ite_split → qY, typeLookup_type → qZ, letOwnedTupleGo → rf, wpAny_tryCatch → sZ, wpAny_setField → td, wpAny_of_eq → tf, setField → tj, seqIndex_of → tm, isSubtype_type → tu, firstArgMember → tw, swapsWith → tU, seqItems? → tV, wpAny_attempt → vO, wpAny_typeOf → y8, Addr → ze, setFlight → AV, sizeLine_eq → A4, Str → A9, wpAny_execs_nil → Co, Within → Cr, Shared → Cs, callerA → D4, ItemsOf → Eb, wpAny_Name → Fw, raiseNew → FA, entryFor → FC, dictSetDefault → FD, closureFor → FE, wpAny_standAt → Jk, swapsWithSole → Jl, behindInMarks → Jn
open PySem.Around renaming under_plainId → c6
open PySem.AutoSeq1 renaming wpAny_loadPart' → kG
open PySem.Builtin renaming bitAnd → iD, bitXor → jV
open PySem.Builtin.Builtins renaming bindParams → fg
open PySem.Builtin.List renaming listExtendWith → dW, listLengthHint → fE, listTooLong → gd, listSameRef → jL, listTouch → kF, listItems → vS
open PySem.Builtin.SmallTypes renaming nextOf → fC
open PySem.Builtin.Str renaming occurrences → gH, strSliceIndices → sR
open PySem.Calls renaming call_function_entry → lu, spliced_cons → r9, Name_function_global → zh
open PySem.EntryCells renaming newEntry → A3
open PySem.F renaming slot_tuple_iterator_next → gR, slot_tuple_lt → pQ, slot_dict_setdefault → vI, args_tuple_iterator_next_1 → A2, entry_tuple_iterator_next → Bd
open PySem.Heap renaming get?_push_of_some → ag, get?_push_size → az, lt_size → aA, get?_update_other → aT, size_push → bw, get?_update_self → cj, SameBut → dq, size_update → vR, get?_none_of_le → FT
open PySem.Heap.IsRevIter renaming typeIs → vN
open PySem.Heap.SameBut renaming update → bI
open PySem.IsL renaming update → FF
open PySem.Moved renaming trans → FK
open PySem.NameKind renaming free → bT, cell → cO
open PySem.Obj renaming mapSeq → aS, mapFields → iq, data_mapFields → iC, isFreed_of_fields → pL, data_mapDictKeys → Jv
open PySem.Paired renaming length → ly
open PySem.PyData renaming keyHash → av
open PySem.SeqAt renaming notIn_listAt → Jp, EqAt → Jq
open PySem.SeqAt.EqAt renaming str_int → A5, int_str → A6
open PySem.SetTable renaming below → cH, grown → eZ, insertAt → rh, has → zi, orStandIn → D5, relaid → Jo
open PySem.SetTable.below renaming go → zd
open PySem.SetTable.probe renaming go → n6
open PySem.Str renaming ofString → bX, length → AW
open PySem.Value renaming none → bz, ref → cD, type → fH, str → iy, int → vG, bool → zb
open PySem.W renaming Frag → ah, fnOf → aF, keepIn → cN, kia_one → cV, kas_sort → di, nsIn → d7, mg_of → eQ, codeIn → ff, kitOne → iB, kas_sort → i2, kas_descPart → jj, kmHook → jR, findIn → jS, methodObj → r8, instObj → vH, lookIn → wx, kas_rev → za, cellsFrom_some → AX, codeHd_of_K → D6, kitx_list → FL, kitx_dict → FN, plainGet → Jr, openEnds → Js, km_in_of → Jt, codeHdIn → Ju
open PySem.W.Hook renaming val → A7, obs → A8
open PySem.W.KasT renaming ret → t5
open PySem.pickOrder renaming go → y9
open Sum renaming inl → dE, inr → eV
set_option Elab.async false
set_option linter.all false
set_option maxRecDepth 100000
set_option maxHeartbeats 0
variable {es es' es1:Array (Int×jl)}{osl s0 s2 s3 sl:Array (Option jl)}{acc items:Array jl}{led:Bool}{ps rows rows2:List (List Int)}{ts:List (Nat×Int)}{pins pins':List (ze×PySem.Obj)}{ns qs r:List Int}{ch fp tabs:List ze}{N ks loose:List A9}{args ds its its' kv out us vs ws:List jl}{ep i j k m n p q t' v:Nat}{nf:Nat->A9}{func o0 o1 o2 o3 od:Option ze}{C I L S T a ab ar b be c c' dx f fa it kS kd l nl pl:ze}{A:PySem.Around}{e iter o tg:PySem.Expr}{Qf:dM->Cs->Prop}{base h h' h0 h1:PySem.Heap}{p' pos pos':PySem.Pos}{P prog:PySem.Program}{sc sc' scope:PySem.Scope}{s s':Cs}{lx qual x z:A9}{mA mb mg:A9->Option jl}{cdv ct ctv dV doc oc pm u:jl}{E QQ Q₁:jl->Cs->Prop}{K:ah}{w:PySem.World}
namespace L2
open PySem
noncomputable def bj(s:Stmt):Arguments:=match s with
 |.FunctionDef _ a _ _ _ _ _ _ _ _=>a
 |_=>{posonlyargs:=[],args:=[],vararg:=none,kwonlyargs:=[],kw_defaults:=[],kwarg:=none,defaults:=[]}
noncomputable def aZ(s:Stmt):List Stmt:=match s with
 |.FunctionDef _ _ b _ _ _ _ _ _ _=>b
 |_=>[]
noncomputable def aP(s:Stmt):Scope:=match s with
 |.FunctionDef _ _ _ _ _ _ sc _ _ _=>sc
 |_=>{kind:=.function,names:=[],isGenerator:=false,isCoroutine:=false}
end L2
namespace K62
open PySem PySem.Spec PySem.Calls PyProof.Rows
noncomputable def top(i:Nat):Stmt:=PySem.Challenge.pw_copykin_k62_first_read.main.body.getD i (.Pass ⟨0,0,0,0⟩)
noncomputable def vw:Program:=
 {PySem.Challenge.pw_copykin_k62_first_read with main:={PySem.Challenge.pw_copykin_k62_first_read.main with body:=[top 1,top 2,top 3,top 4,top 5,top 7,top 8,top 9,top 10,top 11,top 12,top 13,top 14,top 15,top 16,top 17,top 18,top 19,top 21,top 22,top 23,top 24,top 26,top 27,top 28,top 29,top 31,top 32,top 33,top 34,top 35,top 36,top 37,top 38,top 40,top 41,top 42,top 43,top 44,top 45,top 46,top 47,top 48,top 49,top 50,top 51,top 52,top 53]}}
noncomputable def loo:List Str:=[]
noncomputable def xt(s:Shared):Bool:=PySem.W.xlAt vw [] s&&PySem.W.recOk [] s
noncomputable def lhsA(w:World):=(Js treeTable PySem.Challenge.pw_copykin_k62_first_read w 4750).map
 (PySem.W.openSeen vw loo (importedModules PySem.Challenge.pw_copykin_k62_first_read.main.body) xt true)
noncomputable def rhsA(_:World):=some (PySem.W.openGood vw loo)
noncomputable def seen{α:Type}(_:α):Bool:=true
theorem laidA:(seen lhsA&&seen rhsA)=true:=by k_qdec
theorem leftA(w:World):lhsA w=rhsA w:=by
 have _:=laidA;rw[PySem.W.Fast.te11068368555974914067,PySem.W.Fast.te14891903817432124599]
 kernel_rfl
theorem both{α β γ:Type}{o:Option α}{f:α->β}{g:α->γ}{a:β}{b:γ}(h:o.map f=some a)(k:o.map g=some b):(o.map fun s=>(f s,g s))=some (a,b):=by
 cases o with
 |none=>cases h
 |some x=>
  injection h with h;injection k with k;rw[<-h,<-k];rfl
end K62
namespace K62
open PySem PySem.Spec PySem.Calls PyProof.Rows L2
noncomputable def An(P:PySem.Params):ah:=
 (nat_lit 2,⟨.none,none,(.dict #[] 0),#[]⟩)::
 (nat_lit 3,⟨.type "dict",none,(.dict #[⟨av P "__name__",.str "__name__" 165,.str "law_copykin_k62_first_read" 498⟩,⟨av P "__doc__",.str "__doc__" 166,.none⟩,⟨av P "__package__",.str "__package__" 167,.none⟩,⟨av P "__loader__",.str "__loader__" 168,.builtin "__main__.__loader__#opaque"⟩,⟨av P "__spec__",.str "__spec__" 169,.none⟩,⟨av P "__annotations__",.str "__annotations__" 170,.ref 6⟩,⟨av P "__builtins__",.str "__builtins__" 171,.ref 4⟩,⟨av P "__file__",.str "__file__" 173,.str "/claim/cut.py" 172⟩,⟨av P "__cached__",.str "__cached__" 174,.none⟩,⟨av P "KinError",.str "KinError" 206,.ref 24⟩,⟨av P "Clash",.str "Clash" 235,.ref 44⟩,⟨av P "Torn",.str "Torn" 262,.ref 63⟩,⟨av P "NoTable",.str "NoTable" 278,.ref 75⟩,⟨av P "NoTelling",.str "NoTelling" 294,.ref 87⟩,⟨av P "LETTERS",.str "LETTERS" 298,.str "abcdefghijklmnopqrstuvwxyz" 297⟩,⟨av P "LONGEST_NAME",.str "LONGEST_NAME" 300,.int 8 299⟩,⟨av P "MOST_PLACES",.str "MOST_PLACES" 302,.int 60 301⟩,⟨av P "MOST_COPIES",.str "MOST_COPIES" 304,.int 40 303⟩,⟨av P "is_whole",.str "is_whole" 311,.ref 96⟩,⟨av P "is_name",.str "is_name" 317,.ref 101⟩,⟨av P "is_reading",.str "is_reading" 324,.ref 108⟩,⟨av P "are_readings",.str "are_readings" 330,.ref 113⟩,⟨av P "is_copy",.str "is_copy" 337,.ref 120⟩,⟨av P "is_table",.str "is_table" 343,.ref 125⟩,⟨av P "need_table",.str "need_table" 350,.ref 132⟩,⟨av P "table_list",.str "table_list" 356,.ref 137⟩,⟨av P "place_count",.str "place_count" 363,.ref 144⟩,⟨av P "KINDS",.str "KINDS" 374,.ref 149⟩,⟨av P "first_of_kinds",.str "first_of_kinds" 380,.ref 154⟩,⟨av P "clash",.str "clash" 392,.ref 161⟩,⟨av P "refuse_clash",.str "refuse_clash" 400,.ref 168⟩,⟨av P "group_at",.str "group_at" 414,.ref 175⟩,⟨av P "turned",.str "turned" 420,.ref 180⟩,⟨av P "grown",.str "grown" 426,.ref 185⟩,⟨av P "tree",.str "tree" 434,.ref 192⟩,⟨av P "is_telling",.str "is_telling" 444,.ref 199⟩,⟨av P "are_tellings",.str "are_tellings" 450,.ref 204⟩,⟨av P "need_tellings",.str "need_tellings" 459,.ref 211⟩,⟨av P "that_read",.str "that_read" 465,.ref 216⟩,⟨av P "refuse_torn",.str "refuse_torn" 476,.ref 223⟩,⟨av P "told_nodes",.str "told_nodes" 485,.ref 230⟩,⟨av P "unknown_places",.str "unknown_places" 491,.ref 235⟩,⟨av P "first_read",.str "first_read" 497,.ref 240⟩,⟨av P "_law_cell_at",.str "_law_cell_at" 507,.ref 247⟩,⟨av P "_law_whole",.str "_law_whole" 514,.ref 254⟩,⟨av P "_law_mixed",.str "_law_mixed" 522,.ref 261⟩,⟨av P "_law_owners",.str "_law_owners" 528,.ref 266⟩,⟨av P "_law_grown",.str "_law_grown" 543,.ref 273⟩,⟨av P "_law_nodes",.str "_law_nodes" 549,.ref 278⟩,⟨av P "_law_name",.str "_law_name" 559,.ref 285⟩,⟨av P "_law_copies",.str "_law_copies" 565,.ref 290⟩,⟨av P "_law_built",.str "_law_built" 571,.ref 295⟩,⟨av P "_law_tellings",.str "_law_tellings" 577,.ref 300⟩,⟨av P "_law_bears",.str "_law_bears" 583,.ref 305⟩,⟨av P "_law_stands",.str "_law_stands" 589,.ref 310⟩,⟨av P "_law_first",.str "_law_first" 605,.ref 317⟩,⟨av P "law",.str "law" 611,.ref 322⟩] 57),#[]⟩)::
 (nat_lit 95,⟨.type "code",none,(.fields #[.str "is_whole" 305,.str "is_whole" 306,.str "/claim/cut.py" 307,.int 26 0,.int 1 0,.int 0 0,.int 0 0,.int 3 0,.ref 90,.bool true,.int 181 0,.ref 91,.none,.ref 92,.ref 93,.ref 94,.int 309 0,.int 26 0,.str "/claim/cut.py" 310]),#[]⟩)::
 (nat_lit 96,⟨.type "function",none,(.func (aF "is_whole" "is_whole" (bj (top 11)) (aZ (top 11)) (aP (top 11)) .none .none .none (.str "copykin.tables" 295) none (.ref 95) .none)),#[]⟩)::
 (nat_lit 100,⟨.type "code",none,(.fields #[.str "is_name" 312,.str "is_name" 313,.str "/claim/cut.py" 314,.int 28 0,.int 1 0,.int 0 0,.int 0 0,.int 3 0,.ref 97,.bool true,.int 181 0,.ref 98,.none,.none,.none,.ref 99,.int 315 0,.int 28 0,.str "/claim/cut.py" 316]),#[]⟩)::
 (nat_lit 101,⟨.type "function",none,(.func (aF "is_name" "is_name" (bj (top 12)) (aZ (top 12)) (aP (top 12)) .none .none .none (.str "copykin.tables" 295) none (.ref 100) .none)),#[]⟩)::
 (nat_lit 107,⟨.type "code",none,(.fields #[.str "is_reading" 318,.str "is_reading" 319,.str "/claim/cut.py" 320,.int 34 0,.int 1 0,.int 0 0,.int 0 0,.int 3 0,.ref 102,.bool true,.int 181 0,.ref 103,.none,.ref 104,.ref 105,.ref 106,.int 322 0,.int 34 0,.str "/claim/cut.py" 323]),#[]⟩)::
 (nat_lit 108,⟨.type "function",none,(.func (aF "is_reading" "is_reading" (bj (top 13)) (aZ (top 13)) (aP (top 13)) .none .none .none (.str "copykin.tables" 295) none (.ref 107) .none)),#[]⟩)::
 (nat_lit 112,⟨.type "code",none,(.fields #[.str "are_readings" 325,.str "are_readings" 326,.str "/claim/cut.py" 327,.int 36 0,.int 1 0,.int 0 0,.int 0 0,.int 3 0,.ref 109,.bool true,.int 181 0,.ref 110,.none,.none,.none,.ref 111,.int 328 0,.int 36 0,.str "/claim/cut.py" 329]),#[]⟩)::
 (nat_lit 113,⟨.type "function",none,(.func (aF "are_readings" "are_readings" (bj (top 14)) (aZ (top 14)) (aP (top 14)) .none .none .none (.str "copykin.tables" 295) none (.ref 112) .none)),#[]⟩)::
 (nat_lit 119,⟨.type "code",none,(.fields #[.str "is_copy" 331,.str "is_copy" 332,.str "/claim/cut.py" 333,.int 40 0,.int 1 0,.int 0 0,.int 0 0,.int 3 0,.ref 114,.bool true,.int 181 0,.ref 115,.none,.ref 116,.ref 117,.ref 118,.int 335 0,.int 40 0,.str "/claim/cut.py" 336]),#[]⟩)::
 (nat_lit 120,⟨.type "function",none,(.func (aF "is_copy" "is_copy" (bj (top 15)) (aZ (top 15)) (aP (top 15)) .none .none .none (.str "copykin.tables" 295) none (.ref 119) .none)),#[]⟩)::
 (nat_lit 124,⟨.type "code",none,(.fields #[.str "is_table" 338,.str "is_table" 339,.str "/claim/cut.py" 340,.int 44 0,.int 1 0,.int 0 0,.int 0 0,.int 3 0,.ref 121,.bool true,.int 181 0,.ref 122,.none,.none,.none,.ref 123,.int 341 0,.int 44 0,.str "/claim/cut.py" 342]),#[]⟩)::
 (nat_lit 125,⟨.type "function",none,(.func (aF "is_table" "is_table" (bj (top 16)) (aZ (top 16)) (aP (top 16)) .none .none .none (.str "copykin.tables" 295) none (.ref 124) .none)),#[]⟩)::
 (nat_lit 131,⟨.type "code",none,(.fields #[.str "need_table" 344,.str "need_table" 345,.str "/claim/cut.py" 346,.int 52 0,.int 1 0,.int 0 0,.int 0 0,.int 3 0,.ref 126,.bool true,.int 181 0,.ref 127,.none,.ref 128,.ref 129,.ref 130,.int 348 0,.int 52 0,.str "/claim/cut.py" 349]),#[]⟩)::
 (nat_lit 132,⟨.type "function",none,(.func (aF "need_table" "need_table" (bj (top 17)) (aZ (top 17)) (aP (top 17)) .none .none .none (.str "copykin.tables" 295) none (.ref 131) .none)),#[]⟩)::
 (nat_lit 136,⟨.type "code",none,(.fields #[.str "table_list" 351,.str "table_list" 352,.str "/claim/cut.py" 353,.int 55 0,.int 1 0,.int 0 0,.int 0 0,.int 3 0,.ref 133,.bool true,.int 181 0,.ref 134,.none,.none,.none,.ref 135,.int 354 0,.int 55 0,.str "/claim/cut.py" 355]),#[]⟩)::
 (nat_lit 137,⟨.type "function",none,(.func (aF "table_list" "table_list" (bj (top 18)) (aZ (top 18)) (aP (top 18)) .none .none .none (.str "copykin.tables" 295) none (.ref 136) .none)),#[]⟩)::
 (nat_lit 143,⟨.type "code",none,(.fields #[.str "place_count" 357,.str "place_count" 358,.str "/claim/cut.py" 359,.int 59 0,.int 1 0,.int 0 0,.int 0 0,.int 3 0,.ref 138,.bool true,.int 181 0,.ref 139,.none,.ref 140,.ref 141,.ref 142,.int 361 0,.int 59 0,.str "/claim/cut.py" 362]),#[]⟩)::
 (nat_lit 144,⟨.type "function",none,(.func (aF "place_count" "place_count" (bj (top 19)) (aZ (top 19)) (aP (top 19)) .none .none .none (.str "copykin.tables" 295) none (.ref 143) .none)),#[]⟩)::
 (nat_lit 145,⟨.type "tuple",none,(.seq #[.int 0 366,.int 0 367] 0),#[]⟩)::
 (nat_lit 146,⟨.type "tuple",none,(.seq #[.int 0 368,.int 1 369] 0),#[]⟩)::
 (nat_lit 147,⟨.type "tuple",none,(.seq #[.int 1 370,.int 0 371] 0),#[]⟩)::
 (nat_lit 148,⟨.type "tuple",none,(.seq #[.int 1 372,.int 1 373] 0),#[]⟩)::
 (nat_lit 149,⟨.type "tuple",none,(.seq #[.ref 145,.ref 146,.ref 147,.ref 148] 0),#[]⟩)::
 (nat_lit 153,⟨.type "code",none,(.fields #[.str "first_of_kinds" 375,.str "first_of_kinds" 376,.str "/claim/cut.py" 377,.int 66 0,.int 3 0,.int 0 0,.int 0 0,.int 3 0,.ref 150,.bool true,.int 181 0,.ref 151,.none,.none,.none,.ref 152,.int 378 0,.int 66 0,.str "/claim/cut.py" 379]),#[]⟩)::
 (nat_lit 154,⟨.type "function",none,(.func (aF "first_of_kinds" "first_of_kinds" (bj (top 22)) (aZ (top 22)) (aP (top 22)) .none .none .none (.str "copykin.clashes" 364) none (.ref 153) .none)),#[]⟩)::
 (nat_lit 160,⟨.type "code",none,(.fields #[.str "clash" 381,.str "clash" 382,.str "/claim/cut.py" 383,.int 73 0,.int 1 0,.int 0 0,.int 0 0,.int 3 0,.ref 155,.bool true,.int 181 0,.ref 156,.none,.ref 157,.ref 158,.ref 159,.int 390 0,.int 73 0,.str "/claim/cut.py" 391]),#[]⟩)::
 (nat_lit 161,⟨.type "function",none,(.func (aF "clash" "clash" (bj (top 23)) (aZ (top 23)) (aP (top 23)) .none .none .none (.str "copykin.clashes" 364) none (.ref 160) .none)),#[]⟩)::
 (nat_lit 167,⟨.type "code",none,(.fields #[.str "refuse_clash" 393,.str "refuse_clash" 394,.str "/claim/cut.py" 395,.int 82 0,.int 1 0,.int 0 0,.int 0 0,.int 3 0,.ref 162,.bool true,.int 181 0,.ref 163,.none,.ref 164,.ref 165,.ref 166,.int 398 0,.int 82 0,.str "/claim/cut.py" 399]),#[]⟩)::
 (nat_lit 168,⟨.type "function",none,(.func (aF "refuse_clash" "refuse_clash" (bj (top 24)) (aZ (top 24)) (aP (top 24)) .none .none .none (.str "copykin.clashes" 364) none (.ref 167) .none)),#[]⟩)::
 (nat_lit 174,⟨.type "code",none,(.fields #[.str "group_at" 403,.str "group_at" 404,.str "/claim/cut.py" 405,.int 87 0,.int 2 0,.int 0 0,.int 0 0,.int 3 0,.ref 169,.bool true,.int 181 0,.ref 170,.none,.ref 171,.ref 172,.ref 173,.int 412 0,.int 87 0,.str "/claim/cut.py" 413]),#[]⟩)::
 (nat_lit 175,⟨.type "function",none,(.func (aF "group_at" "group_at" (bj (top 26)) (aZ (top 26)) (aP (top 26)) .none .none .none (.str "copykin.trees" 401) none (.ref 174) .none)),#[]⟩)::
 (nat_lit 179,⟨.type "code",none,(.fields #[.str "turned" 415,.str "turned" 416,.str "/claim/cut.py" 417,.int 93 0,.int 2 0,.int 0 0,.int 0 0,.int 3 0,.ref 176,.bool true,.int 181 0,.ref 177,.none,.none,.none,.ref 178,.int 418 0,.int 93 0,.str "/claim/cut.py" 419]),#[]⟩)::
 (nat_lit 180,⟨.type "function",none,(.func (aF "turned" "turned" (bj (top 27)) (aZ (top 27)) (aP (top 27)) .none .none .none (.str "copykin.trees" 401) none (.ref 179) .none)),#[]⟩)::
 (nat_lit 184,⟨.type "code",none,(.fields #[.str "grown" 421,.str "grown" 422,.str "/claim/cut.py" 423,.int 95 0,.int 1 0,.int 0 0,.int 0 0,.int 3 0,.ref 181,.bool true,.int 181 0,.ref 182,.none,.none,.none,.ref 183,.int 424 0,.int 95 0,.str "/claim/cut.py" 425]),#[]⟩)::
 (nat_lit 185,⟨.type "function",none,(.func (aF "grown" "grown" (bj (top 28)) (aZ (top 28)) (aP (top 28)) .none .none .none (.str "copykin.trees" 401) none (.ref 184) .none)),#[]⟩)::
 (nat_lit 191,⟨.type "code",none,(.fields #[.str "tree" 427,.str "tree" 428,.str "/claim/cut.py" 429,.int 110 0,.int 1 0,.int 0 0,.int 0 0,.int 3 0,.ref 186,.bool true,.int 181 0,.ref 187,.none,.ref 188,.ref 189,.ref 190,.int 432 0,.int 110 0,.str "/claim/cut.py" 433]),#[]⟩)::
 (nat_lit 192,⟨.type "function",none,(.func (aF "tree" "tree" (bj (top 29)) (aZ (top 29)) (aP (top 29)) .none .none .none (.str "copykin.trees" 401) none (.ref 191) .none)),#[]⟩)::
 (nat_lit 198,⟨.type "code",none,(.fields #[.str "is_telling" 437,.str "is_telling" 438,.str "/claim/cut.py" 439,.int 117 0,.int 2 0,.int 0 0,.int 0 0,.int 3 0,.ref 193,.bool true,.int 181 0,.ref 194,.none,.ref 195,.ref 196,.ref 197,.int 442 0,.int 117 0,.str "/claim/cut.py" 443]),#[]⟩)::
 (nat_lit 199,⟨.type "function",none,(.func (aF "is_telling" "is_telling" (bj (top 31)) (aZ (top 31)) (aP (top 31)) .none .none .none (.str "copykin.standing" 435) none (.ref 198) .none)),#[]⟩)::
 (nat_lit 203,⟨.type "code",none,(.fields #[.str "are_tellings" 445,.str "are_tellings" 446,.str "/claim/cut.py" 447,.int 123 0,.int 2 0,.int 0 0,.int 0 0,.int 3 0,.ref 200,.bool true,.int 181 0,.ref 201,.none,.none,.none,.ref 202,.int 448 0,.int 123 0,.str "/claim/cut.py" 449]),#[]⟩)::
 (nat_lit 204,⟨.type "function",none,(.func (aF "are_tellings" "are_tellings" (bj (top 32)) (aZ (top 32)) (aP (top 32)) .none .none .none (.str "copykin.standing" 435) none (.ref 203) .none)),#[]⟩)::
 (nat_lit 210,⟨.type "code",none,(.fields #[.str "need_tellings" 451,.str "need_tellings" 452,.str "/claim/cut.py" 453,.int 129 0,.int 2 0,.int 0 0,.int 0 0,.int 3 0,.ref 205,.bool true,.int 181 0,.ref 206,.none,.ref 207,.ref 208,.ref 209,.int 457 0,.int 129 0,.str "/claim/cut.py" 458]),#[]⟩)::
 (nat_lit 211,⟨.type "function",none,(.func (aF "need_tellings" "need_tellings" (bj (top 33)) (aZ (top 33)) (aP (top 33)) .none .none .none (.str "copykin.standing" 435) none (.ref 210) .none)),#[]⟩)::
 (nat_lit 215,⟨.type "code",none,(.fields #[.str "that_read" 460,.str "that_read" 461,.str "/claim/cut.py" 462,.int 135 0,.int 2 0,.int 0 0,.int 0 0,.int 3 0,.ref 212,.bool true,.int 181 0,.ref 213,.none,.none,.none,.ref 214,.int 463 0,.int 135 0,.str "/claim/cut.py" 464]),#[]⟩)::
 (nat_lit 216,⟨.type "function",none,(.func (aF "that_read" "that_read" (bj (top 34)) (aZ (top 34)) (aP (top 34)) .none .none .none (.str "copykin.standing" 435) none (.ref 215) .none)),#[]⟩)::
 (nat_lit 229,⟨.type "code",none,(.fields #[.str "told_nodes" 477,.str "told_nodes" 478,.str "/claim/cut.py" 479,.int 142 0,.int 2 0,.int 0 0,.int 0 0,.int 3 0,.ref 224,.bool true,.int 181 0,.ref 225,.none,.ref 226,.ref 227,.ref 228,.int 483 0,.int 142 0,.str "/claim/cut.py" 484]),#[]⟩)::
 (nat_lit 230,⟨.type "function",none,(.func (aF "told_nodes" "told_nodes" (bj (top 36)) (aZ (top 36)) (aP (top 36)) .none .none .none (.str "copykin.standing" 435) none (.ref 229) .none)),#[]⟩)::
 (nat_lit 234,⟨.type "code",none,(.fields #[.str "unknown_places" 486,.str "unknown_places" 487,.str "/claim/cut.py" 488,.int 147 0,.int 3 0,.int 0 0,.int 0 0,.int 3 0,.ref 231,.bool true,.int 181 0,.ref 232,.none,.none,.none,.ref 233,.int 489 0,.int 147 0,.str "/claim/cut.py" 490]),#[]⟩)::
 (nat_lit 235,⟨.type "function",none,(.func (aF "unknown_places" "unknown_places" (bj (top 37)) (aZ (top 37)) (aP (top 37)) .none .none .none (.str "copykin.standing" 435) none (.ref 234) .none)),#[]⟩)::
 (nat_lit 239,⟨.type "code",none,(.fields #[.str "first_read" 492,.str "first_read" 493,.str "/claim/cut.py" 494,.int 154 0,.int 2 0,.int 0 0,.int 0 0,.int 3 0,.ref 236,.bool true,.int 181 0,.ref 237,.none,.none,.none,.ref 238,.int 495 0,.int 154 0,.str "/claim/cut.py" 496]),#[]⟩)::
 (nat_lit 240,⟨.type "function",none,(.func (aF "first_read" "first_read" (bj (top 38)) (aZ (top 38)) (aP (top 38)) .none .none .none (.str "copykin.standing" 435) none (.ref 239) .none)),#[]⟩)::
 (nat_lit 246,⟨.type "code",none,(.fields #[.str "_law_cell_at" 500,.str "_law_cell_at" 501,.str "/claim/cut.py" 502,.int 161 0,.int 2 0,.int 0 0,.int 0 0,.int 3 0,.ref 241,.bool true,.int 181 0,.ref 242,.none,.ref 243,.ref 244,.ref 245,.int 505 0,.int 161 0,.str "/claim/cut.py" 506]),#[]⟩)::
 (nat_lit 247,⟨.type "function",none,(.func (aF "_law_cell_at" "_law_cell_at" (bj (top 40)) (aZ (top 40)) (aP (top 40)) .none .none .none (.str "law_copykin_k62_first_read" 498) none (.ref 246) .none)),#[]⟩)::
 (nat_lit 253,⟨.type "code",none,(.fields #[.str "_law_whole" 508,.str "_law_whole" 509,.str "/claim/cut.py" 510,.int 165 0,.int 1 0,.int 0 0,.int 0 0,.int 3 0,.ref 248,.bool true,.int 181 0,.ref 249,.none,.ref 250,.ref 251,.ref 252,.int 512 0,.int 165 0,.str "/claim/cut.py" 513]),#[]⟩)::
 (nat_lit 254,⟨.type "function",none,(.func (aF "_law_whole" "_law_whole" (bj (top 41)) (aZ (top 41)) (aP (top 41)) .none .none .none (.str "law_copykin_k62_first_read" 498) none (.ref 253) .none)),#[]⟩)::
 (nat_lit 260,⟨.type "code",none,(.fields #[.str "_law_mixed" 515,.str "_law_mixed" 516,.str "/claim/cut.py" 517,.int 167 0,.int 2 0,.int 0 0,.int 0 0,.int 3 0,.ref 255,.bool true,.int 181 0,.ref 256,.none,.ref 257,.ref 258,.ref 259,.int 520 0,.int 167 0,.str "/claim/cut.py" 521]),#[]⟩)::
 (nat_lit 261,⟨.type "function",none,(.func (aF "_law_mixed" "_law_mixed" (bj (top 42)) (aZ (top 42)) (aP (top 42)) .none .none .none (.str "law_copykin_k62_first_read" 498) none (.ref 260) .none)),#[]⟩)::
 (nat_lit 265,⟨.type "code",none,(.fields #[.str "_law_owners" 523,.str "_law_owners" 524,.str "/claim/cut.py" 525,.int 169 0,.int 4 0,.int 0 0,.int 0 0,.int 3 0,.ref 262,.bool true,.int 181 0,.ref 263,.none,.none,.none,.ref 264,.int 526 0,.int 169 0,.str "/claim/cut.py" 527]),#[]⟩)::
 (nat_lit 266,⟨.type "function",none,(.func (aF "_law_owners" "_law_owners" (bj (top 43)) (aZ (top 43)) (aP (top 43)) .none .none .none (.str "law_copykin_k62_first_read" 498) none (.ref 265) .none)),#[]⟩)::
 (nat_lit 272,⟨.type "code",none,(.fields #[.str "_law_grown" 529,.str "_law_grown" 530,.str "/claim/cut.py" 531,.int 188 0,.int 2 0,.int 0 0,.int 0 0,.int 3 0,.ref 267,.bool true,.int 181 0,.ref 268,.none,.ref 269,.ref 270,.ref 271,.int 541 0,.int 188 0,.str "/claim/cut.py" 542]),#[]⟩)::
 (nat_lit 273,⟨.type "function",none,(.func (aF "_law_grown" "_law_grown" (bj (top 44)) (aZ (top 44)) (aP (top 44)) .none .none .none (.str "law_copykin_k62_first_read" 498) none (.ref 272) .none)),#[]⟩)::
 (nat_lit 277,⟨.type "code",none,(.fields #[.str "_law_nodes" 544,.str "_law_nodes" 545,.str "/claim/cut.py" 546,.int 200 0,.int 5 0,.int 0 0,.int 0 0,.int 3 0,.ref 274,.bool true,.int 181 0,.ref 275,.none,.none,.none,.ref 276,.int 547 0,.int 200 0,.str "/claim/cut.py" 548]),#[]⟩)::
 (nat_lit 278,⟨.type "function",none,(.func (aF "_law_nodes" "_law_nodes" (bj (top 45)) (aZ (top 45)) (aP (top 45)) .none .none .none (.str "law_copykin_k62_first_read" 498) none (.ref 277) .none)),#[]⟩)::
 (nat_lit 284,⟨.type "code",none,(.fields #[.str "_law_name" 550,.str "_law_name" 551,.str "/claim/cut.py" 552,.int 210 0,.int 2 0,.int 0 0,.int 0 0,.int 3 0,.ref 279,.bool true,.int 181 0,.ref 280,.none,.ref 281,.ref 282,.ref 283,.int 557 0,.int 210 0,.str "/claim/cut.py" 558]),#[]⟩)::
 (nat_lit 285,⟨.type "function",none,(.func (aF "_law_name" "_law_name" (bj (top 46)) (aZ (top 46)) (aP (top 46)) .none .none .none (.str "law_copykin_k62_first_read" 498) none (.ref 284) .none)),#[]⟩)::
 (nat_lit 289,⟨.type "code",none,(.fields #[.str "_law_copies" 560,.str "_law_copies" 561,.str "/claim/cut.py" 562,.int 214 0,.int 5 0,.int 0 0,.int 0 0,.int 3 0,.ref 286,.bool true,.int 181 0,.ref 287,.none,.none,.none,.ref 288,.int 563 0,.int 214 0,.str "/claim/cut.py" 564]),#[]⟩)::
 (nat_lit 290,⟨.type "function",none,(.func (aF "_law_copies" "_law_copies" (bj (top 47)) (aZ (top 47)) (aP (top 47)) .none .none .none (.str "law_copykin_k62_first_read" 498) none (.ref 289) .none)),#[]⟩)::
 (nat_lit 294,⟨.type "code",none,(.fields #[.str "_law_built" 566,.str "_law_built" 567,.str "/claim/cut.py" 568,.int 230 0,.int 2 0,.int 0 0,.int 0 0,.int 3 0,.ref 291,.bool true,.int 181 0,.ref 292,.none,.none,.none,.ref 293,.int 569 0,.int 230 0,.str "/claim/cut.py" 570]),#[]⟩)::
 (nat_lit 295,⟨.type "function",none,(.func (aF "_law_built" "_law_built" (bj (top 48)) (aZ (top 48)) (aP (top 48)) .none .none .none (.str "law_copykin_k62_first_read" 498) none (.ref 294) .none)),#[]⟩)::
 (nat_lit 299,⟨.type "code",none,(.fields #[.str "_law_tellings" 572,.str "_law_tellings" 573,.str "/claim/cut.py" 574,.int 245 0,.int 3 0,.int 0 0,.int 0 0,.int 3 0,.ref 296,.bool true,.int 181 0,.ref 297,.none,.none,.none,.ref 298,.int 575 0,.int 245 0,.str "/claim/cut.py" 576]),#[]⟩)::
 (nat_lit 300,⟨.type "function",none,(.func (aF "_law_tellings" "_law_tellings" (bj (top 49)) (aZ (top 49)) (aP (top 49)) .none .none .none (.str "law_copykin_k62_first_read" 498) none (.ref 299) .none)),#[]⟩)::
 (nat_lit 304,⟨.type "code",none,(.fields #[.str "_law_bears" 578,.str "_law_bears" 579,.str "/claim/cut.py" 580,.int 259 0,.int 2 0,.int 0 0,.int 0 0,.int 3 0,.ref 301,.bool true,.int 181 0,.ref 302,.none,.none,.none,.ref 303,.int 581 0,.int 259 0,.str "/claim/cut.py" 582]),#[]⟩)::
 (nat_lit 305,⟨.type "function",none,(.func (aF "_law_bears" "_law_bears" (bj (top 50)) (aZ (top 50)) (aP (top 50)) .none .none .none (.str "law_copykin_k62_first_read" 498) none (.ref 304) .none)),#[]⟩)::
 (nat_lit 309,⟨.type "code",none,(.fields #[.str "_law_stands" 584,.str "_law_stands" 585,.str "/claim/cut.py" 586,.int 261 0,.int 2 0,.int 0 0,.int 0 0,.int 3 0,.ref 306,.bool true,.int 181 0,.ref 307,.none,.none,.none,.ref 308,.int 587 0,.int 261 0,.str "/claim/cut.py" 588]),#[]⟩)::
 (nat_lit 310,⟨.type "function",none,(.func (aF "_law_stands" "_law_stands" (bj (top 51)) (aZ (top 51)) (aP (top 51)) .none .none .none (.str "law_copykin_k62_first_read" 498) none (.ref 309) .none)),#[]⟩)::
 (nat_lit 316,⟨.type "code",none,(.fields #[.str "_law_first" 590,.str "_law_first" 591,.str "/claim/cut.py" 592,.int 263 0,.int 3 0,.int 0 0,.int 0 0,.int 3 0,.ref 311,.bool true,.int 181 0,.ref 312,.none,.ref 313,.ref 314,.ref 315,.int 603 0,.int 263 0,.str "/claim/cut.py" 604]),#[]⟩)::
 (nat_lit 317,⟨.type "function",none,(.func (aF "_law_first" "_law_first" (bj (top 52)) (aZ (top 52)) (aP (top 52)) .none .none .none (.str "law_copykin_k62_first_read" 498) none (.ref 316) .none)),#[]⟩)::
 (nat_lit 321,⟨.type "code",none,(.fields #[.str "law" 606,.str "law" 607,.str "/claim/cut.py" 608,.int 273 0,.int 1 0,.int 0 0,.int 0 0,.int 3 0,.ref 318,.bool true,.int 181 0,.ref 319,.none,.none,.none,.ref 320,.int 609 0,.int 273 0,.str "/claim/cut.py" 610]),#[]⟩)::
 (nat_lit 322,⟨.type "function",none,(.func (aF "law" "law" (bj (top 53)) (aZ (top 53)) (aP (top 53)) .none .none .none (.str "law_copykin_k62_first_read" 498) none (.ref 321) .none)),#[]⟩)::[]
noncomputable def Ao:List Addr:=[2,3,95,96,100,101,107,108,112,113,119,120,124,125,131,132,136,137,143,144,145,146,147,148,149,153,154,160,161,167,168,174,175,179,180,184,185,191,192,198,199,203,204,210,211,215,216,229,230,234,235,239,240,246,247,253,254,260,261,265,266,272,273,277,278,284,285,289,290,294,295,299,300,304,305,309,310,316,317,321,322]
noncomputable def lhsB(w:World):=(Js treeTable PySem.Challenge.pw_copykin_k62_first_read w 4750).map (A8 (jR K62.An K62.Ao (fun _=>by kernel_rfl) [134]))
noncomputable def rhsB(w:World):=some (A7 (jR K62.An K62.Ao (fun _=>by kernel_rfl) [134]) w)
theorem laidB:(seen lhsB&&seen rhsB)=true:=by k_qdec
theorem leftB(w:World):lhsB w=rhsB w:=by
 have _:=laidB;rw[PySem.W.Fast.te10885426941152342375,PySem.W.Fast.te3166324164520003725]
 kernel_rfl
end K62
namespace L2
open PySem PySem.Spec PyProof.Rows
noncomputable abbrev Key:=Sum Int Str
noncomputable def u4:Key->Value->Bool
 |.inl k,v=>Value.isInt k v
 |.inr x,v=>Value.isStrOf x v
noncomputable def keyH(w:World):Key->Int
 |.inl k=>hashInt k
 |.inr x=>hashStr w x
theorem eH:∀{k:Key}{v:Value},u4 k v=true->(∃i t,k=dE i/\v=vG i t)\/(∃x t,k=eV x/\v=iy x t)
 |.inl i,v,h=>by
  obtain⟨t,e⟩:=Value.isInt_shape (k:=i) (v:=v) h;exact .inl ⟨i,t,rfl,e⟩
 |.inr x,v,h=>by
  obtain⟨t,e⟩:=Value.isStrOf_shape (x:=x) (v:=v) h;exact .inr ⟨x,t,rfl,e⟩
theorem E5(i:Int)(t:Tok):u4 (.inl i) (.int i t)=true:=by simp[u4,Value.isInt]
theorem E4(x:Str)(t:Tok):u4 (.inr x) (.str x t)=true:=by simp[u4,Value.isStrOf]
theorem key_ll(a b:Int):decide ((dE a:Key)=dE b)=(a==b):=by
 by_cases e:a=b
 ·subst e;simp
 ·have h:¬(dE a:Key)=dE b:=fun q=>e (dE.inj q)
  rw[decide_eq_false h];exact(beq_eq_false_iff_ne.mpr e).symm
theorem key_rr(a b:Str):decide ((eV a:Key)=eV b)=decide (a=b):=by
 by_cases e:a=b
 ·subst e;simp
 ·have h:¬(eV a:Key)=eV b:=fun q=>e (eV.inj q)
  rw[decide_eq_false h,decide_eq_false e]
theorem key_lr(a:Int)(b:Str):decide ((dE a:Key)=eV b)=false:=decide_eq_false (fun q=>nomatch q)
theorem key_rl(a:Str)(b:Int):decide ((eV a:Key)=dE b)=false:=decide_eq_false (fun q=>nomatch q)
noncomputable def cn(prog:Program)(w:World):PySem.KeyKind prog w Key where
 is:=u4
 hash:=keyH w
 inj:=fun v a b ha hb=>by
  rcases eH ha with⟨i,t,rfl,rfl⟩ |⟨x,t,rfl,rfl⟩
  ·rcases eH hb with⟨j,u,rfl,e⟩ |⟨y,u,rfl,e⟩
   ·injection e with e1 _;rw[e1]
   ·exact nomatch e
  ·rcases eH hb with⟨j,u,rfl,e⟩ |⟨y,u,rfl,e⟩
   ·exact nomatch e
   ·injection e with e1 _;rw[e1]
 byValue:=fun k v h=>by
  rcases eH h with⟨i,t,rfl,rfl⟩ |⟨x,t,rfl,rfl⟩<;>rfl
 pyHash:=fun hv h=>by
  rcases eH hv with⟨i,t,rfl,rfl⟩ |⟨x,t,rfl,rfl⟩
  ·exact wpAny_pyHash_int h
  ·exact wpAny_pyHash_str h
 eqBool:=fun hu hv h=>by
  rcases eH hu with⟨i,t,rfl,rfl⟩ |⟨x,t,rfl,rfl⟩
  ·rcases eH hv with⟨j,u,rfl,rfl⟩ |⟨y,u,rfl,rfl⟩
   ·rw[key_ll]at h;exact pH h
   ·rw[key_lr]at h;exact A6 i t y u _ _ _ _ h
  ·rcases eH hv with⟨j,u,rfl,rfl⟩ |⟨y,u,rfl,rfl⟩
   ·rw[key_rl]at h;exact A5 x t j u _ _ _ _ h
   ·rw[key_rr]at h;exact wpAny_eqBool_str h
 «strs»:=fun k x t v h=>by
  rcases eH h with⟨i,u,rfl,e⟩ |⟨y,u,rfl,e⟩
  ·exact nomatch e
  ·injection e with e1 _
   subst e1;cases v<;>rfl
theorem BO(prog:Program)(w:World)(k:Key)(v:Value):(cn prog w).is k v=u4 k v:=rfl
theorem mK(prog:Program)(w:World)(i:Int)(t:Tok):(cn prog w).is (.inl i) (.int i t)=true:=E5 i t
theorem z9(prog:Program)(w:World)(x:Str)(t:Tok):(cn prog w).is (.inr x) (.str x t)=true:=E4 x t
inductive V where
 |non|bl (b:Bool) |int (i:Int) |str (x:Str) |byt (b:Array UInt8) |flt (b:UInt64) |ref (a:Addr) |ty (n:String)
 deriving DecidableEq
noncomputable def RelV:V->Value->Prop
 |.non,u=>u=bz
 |.bl b,u=>u=zb b
 |.int i,u=>∃t,u=vG i t
 |.str x,u=>∃t,u=iy x t
 |.byt b,u=>∃t,u=Value.bytes b t
 |.flt b,u=>∃t,u=Value.float b t
 |.ref a,u=>u=cD a
 |.ty n,u=>u=fH n
noncomputable abbrev bD:List V->List Value->Prop:=Paired RelV
theorem bD.length{xs:List V}(r:bD xs us):xs.length=us.length:=ly r
theorem bD.get:∀{xs:List V}{us:List Value}{i:Nat}{x:V},bD xs us->xs[i]? =some x->∃u,us[i]? =some u/\RelV x u
 |_,_,_,_,.nil,e=>by simp at e
 |_,_,0,_,.cons r _,e=>by simp at e;subst e;exact⟨_,rfl,r⟩
 |_,_,i+1,x,.cons _ t,e=>by
  obtain⟨u,h1,h2⟩:=bD.get (i:=i) (x:=x) t (by simpa using e);exact⟨u,by simpa using h1,h2⟩
theorem bD.set{x:V}(r:RelV x u):∀{xs:List V}{us:List Value}(i:Nat),bD xs us->bD (xs.set i x) (us.set i u)
 |_,_,_,.nil=>.nil
 |_,_,0,.cons _ t=>.cons r t
 |_,_,i+1,.cons q t=>.cons q (bD.set r i t)
theorem bD.append:∀{xs ys:List V}{us ws:List Value},bD xs us->bD ys ws->bD (xs++ys) (us++ws)
 |_,_,_,_,.nil,s=>s
 |_,_,_,_,.cons r t,s=>.cons r (bD.append t s)
theorem bD.take:∀{xs:List V}{us:List Value}(n:Nat),bD xs us->bD (xs.take n) (us.take n)
 |_,_,0,_=>.nil
 |_,_,_+1,.nil=>.nil
 |_,_,n+1,.cons r t=>.cons r (bD.take n t)
theorem bD.drop:∀{xs:List V}{us:List Value}(n:Nat),bD xs us->bD (xs.drop n) (us.drop n)
 |_,_,0,r=>r
 |_,_,_+1,.nil=>.nil
 |_,_,n+1,.cons _ t=>bD.drop n t
noncomputable def vF:Option V->Option Value->Prop
 |some v,some u=>RelV v u
 |none,none=>True
 |_,_=>False
noncomputable def KV{κ:Type}:List (κ×V)->List (κ×Value)->Prop:=Paired fun(p:κ×V)(q:κ×Value)=>p.1=q.1/\RelV p.2 q.2
noncomputable def kV:Key->V
 |.inl i=>.int i
 |.inr x=>.str x
inductive HO where
 |lst (xs:List V)
 |tup (xs:List V)
 |dK (kvs:List (Key×V)) |dT (kvs:List (List Key×V))
 |set (S:Int->Bool) (n:Nat)
 |ins (C dx:Addr) (fs:List (Str×V))
 |own (x:Addr)
 |xd (fs:List (Str×V))
 |met (f x:Addr)
 |rng (lo hi:Int)
 |frz (o:Obj) (u:HO)
 |tbl (ps:Array Value)
 |ext (φ:Heap->Prop)
noncomputable abbrev Hp:=Addr->Option HO
noncomputable def upd(H:Hp)(a:Addr)(o:HO):Hp:=fun b=>if b=a then some o else H b
theorem ao{H:Hp}{o:HO}:upd H a o a=some o:=by unfold upd;rw[if_pos rfl]
theorem bo{H:Hp}{o:HO}(h:b≠a):upd H a o b=H b:=by unfold upd;rw[if_neg h]
theorem ne_of{H:Hp}{o u:HO}(h:H a=some o)(h':H b=some u)(d:o≠u):a≠b:=by
 intro e;subst e;rw[h]at h';exact d (aW h')
theorem bO{H:Hp}{o:HO}(h:H a=some o)(h':H b=none):a≠b:=by
 intro e;subst e;rw[h]at h';cases h'
section
variable(P:Program)(w:World)
noncomputable def dQ(H:Hp)(h:Heap)(a:Addr):HO->Prop
 |.lst xs=>xs.length<=sizeLine/\∃(its:List Value)(n:Nat),bD xs its/\h.get? a=some {cls:=.type "list",data:=.seq its.toArray n}
 |.tup xs=>xs.length<=sizeLine/\∃its:List Value,bD xs its/\IsTup h a its.toArray
 |.dK kvs=>kvs.length<=sizeLine/\(a==fX)=false/\∃vs,KV kvs vs/\h.DictOf (cn P w) a vs
 |.dT kvs=>kvs.length<=sizeLine/\(a==fX)=false/\∃xs:List (List Key×Addr×Value),
   Paired (fun(p:List Key×V)(q:List Key×Addr×Value)=>p.1=q.1/\H q.2.1=some (.tup (p.1.map kV))/\RelV p.2 q.2.2) kvs xs/\
   ∃o es ep,h.get? a=some o/\o.ExactDict/\o.data=.dict es ep/\es.toList=xs.map (entryOfKey (pI (cn P w)))/\(xs.map (·.1)).Nodup
 |.set S n=>h.SetOf (intKind P w) a S n
 |.ins C dx fs=>H dx=some (.own a)/\fs.length<=1000/\dx≠a/\h.get? a=some (vH C dx)/\
   ∃mA,h.Ns1 dx mA/\(∀f,vF (fs.lookup f) (mA f))/\Cr mA (fs.map (·.1))
 |.own _=>∃o,h.get? a=some o
 |.xd fs=>∃mA,h.Ns1 a mA/\∀f,vF (fs.lookup f) (mA f)
 |.rng lo hi=>∃t u v,h.get? a=some {cls:=.type "range",data:=.fields #[.int lo t,.int hi u,.int 1 v]}
 |.frz o u=>h.get? a=some o/\dQ H h a u
 |.tbl ps=>h.get? a=some {cls:=.none,data:=.fields ps}
 |.met f x=>h.get? a=some (r8 (.ref f) (.ref x))
 |.ext φ=>φ h/\(∃o,h.get? a=some o)/\∀h1 h2:Heap,φ h1->(∀o,h1.get? a=some o->h2.get? a=some o)->φ h2
def HOk(H:Hp)(h:Heap):Prop:=∀a o,H a=some o->dQ P w H h a o
end
section
variable {P:Program}{w:World}{H H':Hp}{h h':Heap}{a:Addr}{o:HO}
theorem dQ.lt(x:dQ P w H h a o):a<h.objs.size:=by
 cases o with
 |lst xs=>obtain⟨_,_,_,_,e⟩:=x;exact aA e
 |tup xs=>obtain⟨_,_,_,p⟩:=x;exact p.lt
 |dK kvs=>obtain⟨_,_,_,_,o,_,_,e,_⟩:=x;exact aA e
 |dT kvs=>obtain⟨_,_,_,_,o,_,_,e,_⟩:=x;exact aA e
 |set S n=>obtain⟨o,_,_,_,e,_⟩:=x;exact aA e
 |ins C dx fs=>obtain⟨_,_,_,e,_⟩:=x;exact aA e
 |own y=>obtain⟨_,e⟩:=x;exact aA e
 |xd fs=>obtain⟨_,⟨_,_,_,e,_⟩,_⟩:=x;exact aA e
 |rng lo hi=>obtain⟨_,_,_,e⟩:=x;exact aA e
 |frz ob u=>obtain⟨e,_⟩:=x;exact aA e
 |tbl ps=>exact aA (show h.get? a=some _ from x)
 |met f y=>exact aA (show h.get? a=some _ from x)
 |ext φ=>obtain⟨_,⟨_,e⟩,_⟩:=x;exact aA e
theorem Paired.mM{α β:Type}{F G:α->β->Prop}:∀{l₁:List α}{l₂:List β},Paired F l₁ l₂->(∀a b,F a b->G a b)->Paired G l₁ l₂
 |_,_,.nil,_=>.nil
 |_,_,.cons r t,f=>.cons (f _ _ r) (Paired.mM t f)
theorem dQ.oh(x:dQ P w H h a o)(k:∀b u,(b=a\/H b=some (.own a))->h.get? b=some u->h'.get? b=some u)
  (ho:∀b,H b=some (.own a)->H' b=some (.own a))(ht:∀b xs,H b=some (.tup xs)->H' b=some (.tup xs)):dQ P w H' h' a o:=by
 induction o with
 |lst xs=>obtain⟨z,its,n,r,e⟩:=x;exact⟨z,its,n,r,k _ _ (.inl rfl) e⟩
 |tup xs=>obtain⟨z,its,r,ob,e,c⟩:=x;exact⟨z,its,r,ob,k _ _ (.inl rfl) e,c⟩
 |dK kvs=>obtain⟨z,y,vs,r,ob,es,ep,e,c⟩:=x;exact⟨z,y,vs,r,ob,es,ep,k _ _ (.inl rfl) e,c⟩
 |dT kvs=>
  obtain⟨z,y,xs,r,ob,es,ep,e,c⟩:=x;exact⟨z,y,xs,Paired.mM r fun p q z=>⟨z.1,ht _ _ z.2.1,z.2.2⟩,ob,es,ep,k _ _ (.inl rfl) e,c⟩
 |set S n=>obtain⟨ob,es,ep,t,e,c⟩:=x;exact⟨ob,es,ep,t,k _ _ (.inl rfl) e,c⟩
 |ins C dx fs=>
  obtain⟨d,z,ne,e,mA,⟨od,es,ep,e2,c⟩,r⟩:=x;exact⟨ho _ d,z,ne,k _ _ (.inl rfl) e,mA,⟨od,es,ep,k _ _ (.inr d) e2,c⟩,r⟩
 |own y=>obtain⟨ob,e⟩:=x;exact⟨ob,k _ _ (.inl rfl) e⟩
 |xd fs=>obtain⟨mA,⟨od,es,ep,e,c⟩,r⟩:=x;exact⟨mA,⟨od,es,ep,k _ _ (.inl rfl) e,c⟩,r⟩
 |rng lo hi=>obtain⟨t,u,v,e⟩:=x;exact⟨t,u,v,k _ _ (.inl rfl) e⟩
 |frz ob u ih=>obtain⟨e,q⟩:=x;exact⟨k _ _ (.inl rfl) e,ih q⟩
 |tbl ps=>
  have e:h.get? a=some {cls:=.none,data:=.fields ps}:=x;show h'.get? a=some {cls:=.none,data:=.fields ps};exact k a _ (.inl rfl) e
 |met f y=>
  have e:h.get? a=some (r8 (.ref f) (.ref y)):=x;show h'.get? a=some (r8 (.ref f) (.ref y));exact k a _ (.inl rfl) e
 |ext φ=>obtain⟨p,⟨o,e⟩,st⟩:=x;exact⟨st _ _ p fun o q=>k _ _ (.inl rfl) q,⟨o,k _ _ (.inl rfl) e⟩,st⟩
theorem HOk.lt(x:HOk P w H h)(e:H a=some o):a<h.objs.size:=(x a o e).lt
theorem HOk.fresh(x:HOk P w H h)(e:h.objs.size<=a):H a=none:=by
 cases q:H a with
 |none=>rfl
 |some u=>exact absurd (aV (x.lt q) e) (dk _)
theorem HOk.kept(x:HOk P w H h)(k:∀b u,h.get? b=some u->h'.get? b=some u):HOk P w H h':=fun a o e=>
 (x a o e).oh (fun b u _ q=>k b u q) (fun _ q=>q) fun _ _ q=>q
theorem HOk.laid(x:HOk P w H h)(k:∀b u,h.get? b=some u->h'.get? b=some u)(hp:h.objs.size<=a)(new:dQ P w (upd H a o) h' a o):HOk P w (upd H a o) h':=fun b u e=>by
 have hn:=x.fresh hp;by_cases hb:b=a
 ·subst hb;rw[ao]at e;cases e;exact new
 ·rw[bo hb]at e
  exact(x b u e).oh (fun c v _ q=>k c v q) (fun c q=>by rw[bo (bO q hn)];exact q) fun c xs q=>by rw[bo (bO q hn)];exact q
end
def Rd(H:Hp)(a:Addr)(u:HO):Prop:=H a=some u\/∃o,H a=some (.frz o u)
theorem Rd.ok{H:Hp}{u:HO}(r:Rd H a u)(x:HOk P w H h):dQ P w H h a u:=by
 rcases r with r|⟨o,r⟩
 ·exact x a u r
 ·obtain⟨_,q⟩:=x a _ r
  exact q
noncomputable def Mut:Option HO->Prop
 |some (.lst _)=>True
 |some (.dK _)=>True
 |some (.dT _)=>True
 |some (.set _ _)=>True
 |some (.ins _ _ _)=>True
 |some (.ext _)=>True
 |_=>False
section
variable {P:Program}{w:World}{H:Hp}{h h':Heap}{x e:Addr}{o':HO}
theorem HOk.write(ok:HOk P w H h)(mu:Mut (H x))(he:e=x\/H e=some (.own x))(k:∀b u,b≠e->h.get? b=some u->h'.get? b=some u)(heo:∃u,h'.get? e=some u)
  (new:dQ P w (upd H x o') h' x o'):HOk P w (upd H x o') h':=fun b u q=>by
 have nown:∀c y,H c=some (.own y)->c≠x:=fun c y r z=>by subst z;rw[r]at mu;exact mu
 have ntup:∀c xs,H c=some (.tup xs)->c≠x:=fun c xs r z=>by subst z;rw[r]at mu;exact mu
 by_cases hb:b=x
 ·subst hb;rw[ao]at q;cases q;exact new
 ·rw[bo hb]at q
  by_cases hbe:b=e
  ·have q':H b=some (.own x):=by
    rcases he with z|z
    ·exact absurd (hbe.trans z) hb
    ·rw[hbe];exact z
   rw[q]at q';cases q';obtain⟨v,hv⟩:=heo;exact⟨v,by rw[hbe];exact hv⟩
  ·refine(ok b u q).oh (fun c v hc r=>k c v ?_ r) (fun c r=>by rw[bo (nown c b r)];exact r) fun c xs r=>by rw[bo (ntup c xs r)];exact r
   rcases hc with rfl|hc
   ·exact hbe
   ·rintro rfl
    rcases he with z|z
    ·exact nown c b hc z
    ·rw[hc]at z;cases z;exact hb rfl
end
structure Un(fs ex:List Addr)(H H':Hp)(h h':Heap):Prop where
 keep:∀b o,h.get? b=some o->H b=none->b∉fs->b∉ex->h'.get? b=some o
 slot:∀b o,h.get? b=some o->H b=none->b∈fs->b∉ex->∃sl,h'.get? b=some {o with slots:=sl}
 free:∀b o,h.get? b=some o->H b=none->b∉ex->H' b=none
 there:∀b o,h.get? b=some o->b∉ex->∃o',h'.get? b=some o'
 tups:∀b xs,H b=some (.tup xs)->H' b=some (.tup xs)
 frzs:∀b o u,H b=some (.frz o u)->H' b=some (.frz o u)
 tbls:∀b ps,H b=some (.tbl ps)->∃more,H' b=some (.tbl (ps++more))
section
variable {fs fs' ex ex':List Addr}{H H1 H2:Hp}{h h1 h2 h':Heap}{a x e:Addr}{o:HO}
theorem Un.any(u:Un fs ex H H1 h h1){ob:Obj}(q:h.get? b=some ob)(n:H b=none)(hx:b∉ex):∃sl,h1.get? b=some {ob with slots:=sl}:=by
 by_cases hb:b∈fs
 ·exact u.slot b ob q n hb hx
 ·exact⟨ob.slots,u.keep b ob q n hb hx⟩
theorem Un.kept(k:∀b u,h.get? b=some u->h'.get? b=some u):Un fs ex H H h h':=
 ⟨fun b ob q _ _ _=>k b ob q,fun b ob q _ _ _=>⟨ob.slots,k b ob q⟩,fun _ _ _ n _=>n,fun b ob q _=>⟨ob,k b ob q⟩,fun _ _ q=>q,fun _ _ _ q=>q,fun _ ps q=>⟨#[],by rw[q];simp⟩⟩
theorem Un.refl:Un fs ex H H h h:=Un.kept fun _ _ q=>q
theorem Un.laid(k:∀b u,h.get? b=some u->h'.get? b=some u)(hp:h.objs.size<=a)(hn:H a=none):Un fs ex H (upd H a o) h h' where
 keep:=fun b u q _ _ _=>k b u q
 slot:=fun b u q _ _ _=>⟨u.slots,k b u q⟩
 free:=fun b u q n _=>by rw[bo (aI (aV (aA q) hp))];exact n
 there:=fun b u q _=>⟨u,k b u q⟩
 tups:=fun b xs q=>by rw[bo (bO q hn)];exact q
 frzs:=fun b u xs q=>by rw[bo (bO q hn)];exact q
 tbls:=fun b ps q=>⟨#[],by rw[bo (bO q hn),q];simp⟩
theorem Un.write(mu:Mut (H x))(he:e=x\/H e=some (.own x))(k:∀b u,b≠e->h.get? b=some u->h'.get? b=some u)(heo:∃u,h'.get? e=some u):Un fs ex H (upd H x o) h h':=by
 have hx:∀b,H b=none->b≠x:=fun b n z=>by subst z;rw[n]at mu;exact mu
 have hb:∀b,H b=none->b≠e:=fun b n z=>by
  subst z;rcases he with r|r
  ·exact hx b n r
  ·rw[n]at r;cases r
 have hm:∀b u,H b=some u->¬Mut (some u)->b≠x:=fun b u q nm z=>by subst z;rw[q]at mu;exact nm mu
 refine⟨fun b u q n _ _=>k b u (hb b n) q,fun b u q n _ _=>⟨u.slots,k b u (hb b n) q⟩,fun b u q n _=>by rw[bo (hx b n)];exact n,fun b u q _=>?_,
  fun b xs q=>by rw[bo (hm b _ q fun z=>z)];exact q,fun b u xs q=>by rw[bo (hm b _ q fun z=>z)];exact q,fun b ps q=>⟨#[],by rw[bo (hm b _ q fun z=>z),q];simp⟩⟩
 by_cases hbe:b=e
 ·subst hbe;exact heo
 ·exact⟨u,k b u hbe q⟩
end
noncomputable def trk(h:Heap)(H:Hp):List Addr:=(aw h.objs.size).filter fun a=>(H a).isSome
noncomputable def Al(h:Heap)(H:Hp):Heap:=PySem.W.hideAll h (trk h H)
theorem Fc(h:Heap)(H:Hp):(Al h H).objs.size=h.objs.size:=PySem.W.hideAll_size _ _
theorem vd{H:Hp}{o:Obj}(e:h.get? b=some o)(n:H b=none):(Al h H).get? b=some o:=
 PySem.W.hideAll_get _ e fun hm=>by
  have q:(H b).isSome=true:=(bR.mp hm).2;rw[n]at q;simp at q
theorem of_hidT{H:Hp}{o:Obj}(e:(Al h H).get? b=some o):h.get? b=some o/\H b=none:=by
 have e':h.get? b=some o:=PySem.W.of_hideAll (trk h H) e;refine⟨e',?_⟩;cases q:H b with
 |none=>rfl
 |some x=>
  have hm:b∈trk h H:=bR.mpr ⟨aK.mpr (aA e'),by simp[q]⟩;have z:(Al h H).get? b=none:=PySem.W.hideAll_none (trk h H) hm;rw[z]at e;cases e
structure Mod(K:ah)(mg:Str->Option Value)(base:Heap):Prop where
 kin:K.In base
 glob:base.Ns bG mg
 blt:∃mb,base.Ns mm mb/\∀x:Str,x≠"__name__"->mb x=eJ x
 nolimit:base.NoLimit
structure Cx where
 prog:Program
 w:World
 K:ah
 mg:Str->Option Value
 base:Heap
 A:Around
 N:List Str
 s₀:Shared
 H₀:Hp
 env:Env
 outer:List Env
 stack:List Env
 ex:List Addr
 fn:Str->Bool
 calm:Bool
 pn:List (Addr×Obj)
 xe:Value->Shared->Prop
noncomputable def frs(l:List Env):List Addr:=l.filterMap (·.frame)
noncomputable abbrev Cx.fs(X:Cx):List Addr:=frs X.outer
def Vis(sc:Scope)(x:Str):Prop:=sc.names.lookup x=some .local\/sc.names.lookup x=some .cell\/sc.names.lookup x=some .free
def Loc(sc:Scope)(x:Str):Prop:=sc.names.lookup x=some .local\/sc.names.lookup x=some .cell
def Look(env:Env)(h:Heap)(m:Str->Option Value)(x:Str)(u:Value):Prop:=
 (env.kindOf x=some .local/\m x=some u)\/((env.kindOf x=some .cell\/env.kindOf x=some .free)/\∃c,env.cells.lookup x=some c/\h.IsCell c (some u))
structure Cx.Ok(X:Cx):Prop where
 mod:Mod X.K X.mg X.base
 kind:X.env.scope.kind=.function
 glob:X.env.globals=bG
 blt:X.env.builtins=mm
 above:X.s₀.heap.objs.size<=X.env.locals
 inj:∀x y c,X.env.cells.lookup x=some c->X.env.cells.lookup y=some c->x=y
 has:∀x,(X.env.kindOf x=some .cell\/X.env.kindOf x=some .free)->∃c,X.env.cells.lookup x=some c
 cab:∀x c,X.fn x=true->X.env.cells.lookup x=some c->X.s₀.heap.objs.size<=c
 hd:X.calm=true->X.A.handled=none
 frames:X.A.frames=some X.stack
 stk:X.stack=X.outer\/(X.stack=X.env::X.outer/\X.env.frame=some X.env.locals)
 exf:∀b∈X.ex,b≠X.env.locals/\∀x c,X.env.cells.lookup x=some c->c≠b
 bs:∀b o,X.base.get? b=some o->X.s₀.heap.get? b=some o/\X.H₀ b=none
 bsz:X.base.objs.size<=X.s₀.heap.objs.size
 noex:∀b o,X.base.get? b=some o->b∉X.ex
 exfs:∀b∈X.ex,b∉X.fs
 yI:X.s₀.heap.FunFrames X.base X.outer
 frf:∀b∈X.fs,X.H₀ b=none
structure Inv(X:Cx)(pins:List (Addr×Obj))(σ:List (Option V))(H:Hp)(s:Shared):Prop where
 ok:X.Ok
 os:s.os=X.s₀.os
 bare:og s.gens
 base:Un X.fs X.ex X.H₀ H X.s₀.heap s.heap
 loc:∃m,s.heap.Ns X.env.locals m/\∀(i:Nat)(x:Str)(v:V),X.N[i]? =some x->σ[i]? =some (some v)->Vis X.env.scope x->∃u,RelV v u/\Look X.env s.heap m x u
 cell:∀x c,X.env.cells.lookup x=some c->∃v,s.heap.IsCell c v
 free:H X.env.locals=none
 freeC:∀x c,X.env.cells.lookup x=some c->H c=none
 pin:∀p∈X.pn++pins,s.heap.get? p.1=some p.2/\H p.1=none/\p.1≠X.env.locals/\p.1∉X.fs/\∀v,p.2.data≠.cell v
 hok:HOk X.prog X.w H s.heap
 len:σ.length=X.N.length
section
variable {X:Cx}{pins:List (Addr×Obj)}{σ:List (Option V)}{H H':Hp}{s:Shared}{h':Heap}
theorem Cx.Ok.nofr(ok:X.Ok){o:Obj}(e:X.base.get? b=some o):b∉X.fs:=fun hb=>by
 have :=(ok.yI.mem hb).1
 rw[e]at this;cases this
theorem Inv.bs(I:Inv X pins σ H s):∀b o,X.base.get? b=some o->s.heap.get? b=some o/\H b=none:=fun b o e=>
 ⟨I.base.keep b o (I.ok.bs b o e).1 (I.ok.bs b o e).2 (I.ok.nofr e) (I.ok.noex b o e),I.base.free b o (I.ok.bs b o e).1 (I.ok.bs b o e).2 (I.ok.noex b o e)⟩
theorem Inv.bk(I:Inv X pins σ H s):∀b o,X.base.get? b=some o->s.heap.get? b=some o:=fun b o e=>(I.bs b o e).1
theorem Inv.mod(I:Inv X pins σ H s):Mod X.K X.mg X.base:=I.ok.mod
theorem Inv.kIn(I:Inv X pins σ H s):X.K.In s.heap:=I.ok.mod.kin.keeps I.bk
theorem Inv.nolimit(I:Inv X pins σ H s):s.heap.NoLimit:=I.ok.mod.nolimit.keeps I.bk
theorem Inv.lt(I:Inv X pins σ H s):X.env.locals<s.heap.objs.size:=let⟨_,hn,_⟩:=I.loc;hn.lt
theorem Inv.sz(I:Inv X pins σ H s):X.s₀.heap.objs.size<=s.heap.objs.size:=aR I.ok.above (ku I.lt)
theorem Inv.nofs(I:Inv X pins σ H s)(h:s.heap.objs.size<=a):a∉X.fs:=fun hb=>by
 obtain⟨_,o,ho,_⟩:=I.ok.yI.mem hb;exact absurd (aV (aA ho) (aR I.sz h)) (dk _)
theorem Inv.cne(I:Inv X pins σ H s):∀x c,X.env.cells.lookup x=some c->c≠X.env.locals:=fun x c e z=>by
 obtain⟨v,o,ho,hd⟩:=I.cell x c e;obtain⟨m,⟨o',es,ep,ho',hd',_⟩,_⟩:=I.loc;rw[z,ho']at ho;cases ho;rw[hd']at hd;cases hd
theorem Inv.yI(I:Inv X pins σ H s):s.heap.FunFrames X.base X.outer:=by
 have all:∀(l:List Env),(∀b∈frs l,b∈X.fs)->X.s₀.heap.FunFrames X.base l->s.heap.FunFrames X.base l:=by
  intro l
  induction l with
  |nil=>intro _ _;trivial
  |cons env r ih=>
   intro hs hl;obtain⟨hk,⟨L,o,hf,hn,ho,hd⟩,hr⟩:=hl;have hL:L∈X.fs:=hs L (by unfold frs;rw[rA,hf];exact aG);obtain⟨sl,e⟩:=I.base.slot L o ho (I.ok.frf L hL) hL fun z=>I.ok.exfs L z hL;exact⟨hk,⟨L,_,hf,hn,e,hd⟩,ih (fun b hb=>hs b (by unfold frs;rw[rA,hf];exact aM _ hb)) hr⟩
 exact all X.outer (fun _ hb=>hb) I.ok.yI
theorem Inv.stack(I:Inv X pins σ H s):s.heap.FunFrames X.base X.stack:=by
 rcases I.ok.stk with e|⟨e,hf⟩
 ·rw[e];exact I.yI
 ·rw[e]
  obtain⟨m,hn,_⟩:=I.loc;refine .cons (by rw[I.ok.kind];decide) hf hn ?_ I.yI;exact FT (aR I.ok.bsz I.ok.above)
theorem Inv.Bq(I:Inv X pins σ H s):∀b∈frs X.stack,b∈X.env.locals::X.fs:=fun b hb=>by
 rcases I.ok.stk with e|⟨e,hf⟩
 ·rw[e]at hb;exact aM _ hb
 ·rw[e]at hb
  unfold frs at hb;rw[rA,hf]at hb;exact hb
theorem Inv.xN(I:Inv X pins σ H s):∀b∈frs X.stack,H b=none:=fun b hb=>by
 rcases aE.mp (I.Bq b hb)with e|hb
 ·rw[e];exact I.free
 ·obtain⟨_,o,ho,_⟩:=I.ok.yI.mem hb
  exact I.base.free b o ho (I.ok.frf b hb) fun z=>I.ok.exfs b z hb
theorem Inv.step{g':Array pM}{d':Drawn}(I:Inv X pins σ H s)
  (hch:∀b∈ch,(b∈X.ex\/X.s₀.heap.objs.size<=b)/\b≠X.env.locals/\(∀x c,X.env.cells.lookup x=some c->c≠b)/\∀p∈X.pn++pins,p.1≠b)
  (keep:∀b o,b≠X.env.locals->b∉X.fs->b∉ch->s.heap.get? b=some o->H b=none->h'.get? b=some o)
  (slot:∀b o,b≠X.env.locals->b∈X.fs->b∉ch->s.heap.get? b=some o->H b=none->∃sl,h'.get? b=some {o with slots:=sl}) (free:∀b o,b∉ch->s.heap.get? b=some o->H b=none->H' b=none)
  (there:∀b o,b∉ch->s.heap.get? b=some o->∃o',h'.get? b=some o')
  (tups:∀b xs,H b=some (.tup xs)->H' b=some (.tup xs)) (frzs:∀b o u,H b=some (.frz o u)->H' b=some (.frz o u)) (tbls:∀b ps,H b=some (.tbl ps)->∃more,H' b=some (.tbl (ps++more)))
  (ns:∀m,s.heap.Ns X.env.locals m->h'.Ns X.env.locals m) (hok:HOk X.prog X.w H' h') (hg:og g'):
  Inv X pins σ H' {s with heap:=h',gens:=g',drawn:=d',toks:=t'}:=by
 have neL:∀b o,X.s₀.heap.get? b=some o->b≠X.env.locals:=fun b o e=>aI (aV (aA e) I.ok.above);have neC:∀b o,X.s₀.heap.get? b=some o->b∉X.ex->b∉ch:=fun b o e hx hb=>by
  rcases(hch b hb).1 with z|z
  ·exact hx z
  ·exact absurd (aV (aA e) z) (dk _)
 have cellK:∀x c,X.env.cells.lookup x=some c->∀v,s.heap.IsCell c v->h'.IsCell c v:=fun x c e v ⟨o,ho,hd⟩=>by
  have nch:c∉ch:=fun z=>(hch c z).2.2.1 x c e rfl;by_cases hc:c∈X.fs
  ·obtain⟨sl,q⟩:=slot c o (I.cne x c e) hc nch ho (I.freeC x c e)
   exact⟨_,q,hd⟩
  ·exact⟨o,keep c o (I.cne x c e) hc nch ho (I.freeC x c e),hd⟩
 refine⟨I.ok,I.os,hg,⟨fun b o e n hb hx=>?_,fun b o e n hb hx=>?_,fun b o e n hx=>?_,fun b o e hx=>?_,fun b xs e=>tups b xs (I.base.tups b xs e),fun b o xs e=>frzs b o xs (I.base.frzs b o xs e),fun b ps e=>?_⟩,?_,fun x c e=>?_,?_,fun x c e=>?_,fun p hp=>?_,hok,I.len⟩
 ·exact keep b o (neL b o e) hb (neC b o e hx) (I.base.keep b o e n hb hx) (I.base.free b o e n hx)
 ·obtain⟨sl,e1⟩:=I.base.slot b o e n hb hx
  obtain⟨sl',e2⟩:=slot b _ (neL b o e) hb (neC b o e hx) e1 (I.base.free b o e n hx);exact⟨sl',e2⟩
 ·obtain⟨o',e1⟩:=I.base.there b o e hx
  exact free b o' (neC b o e hx) e1 (I.base.free b o e n hx)
 ·obtain⟨o',e1⟩:=I.base.there b o e hx
  exact there b o' (neC b o e hx) e1
 ·obtain⟨m1,e1⟩:=I.base.tbls b ps e
  obtain⟨m2,e2⟩:=tbls b _ e1;exact⟨m1++m2,by rw[e2,Array.append_assoc]⟩
 ·obtain⟨m,hn,hl⟩:=I.loc
  refine⟨m,ns m hn,fun i x v e1 e2 e3=>?_⟩;obtain⟨u,r,l⟩:=hl i x v e1 e2 e3;refine⟨u,r,?_⟩;rcases l with l|⟨k,c,e,z⟩
  ·exact .inl l
  ·exact .inr ⟨k,c,e,cellK x c e _ z⟩
 ·obtain⟨v,z⟩:=I.cell x c e
  exact⟨v,cellK x c e v z⟩
 ·obtain⟨m,⟨o,_,_,ho,_⟩,_⟩:=I.loc
  exact free _ o (fun z=>(hch _ z).2.1 rfl) ho I.free
 ·obtain⟨v,o,ho,hd⟩:=I.cell x c e
  exact free c o (fun z=>(hch c z).2.2.1 x c e rfl) ho (I.freeC x c e)
 ·obtain⟨e,n,ne,nf,d⟩:=I.pin p hp
  have nch:p.1∉ch:=fun z=>(hch p.1 z).2.2.2 p hp rfl;exact⟨keep p.1 p.2 ne nf nch e n,free p.1 p.2 nch e n,ne,nf,d⟩
theorem Inv.un(I:Inv X pins σ H s)(u:Un X.fs [] H H' s.heap h')(hok:HOk X.prog X.w H' h'):Inv X pins σ H' {s with heap:=h',toks:=t'}:=by
 obtain⟨m,⟨o,es,ep,ho,r⟩,_⟩:=id I.loc;obtain⟨sl,hL⟩:=u.any ho I.free (by simp);exact I.step (g':=s.gens) (d':=s.drawn) (ch:=[]) (fun _ z=>nomatch z) (fun b o _ hb _ e n=>u.keep b o e n hb (by simp)) (fun b o _ hb _ e n=>u.slot b o e n hb (by simp)) (fun b o _ e n=>u.free b o e n (by simp)) (fun b o _ e=>u.there b o e (by simp)) u.tups u.frzs u.tbls (fun m' hm=>by
  obtain⟨o',es',ep',ho',r'⟩:=hm;rw[ho]at ho';cases ho';exact⟨_,es',ep',hL,r'⟩) hok I.bare
theorem Inv.call{g':Array pM}{d':Drawn}(I:Inv X pins σ H s)(u:Un (frs X.stack) ch H H' s.heap h')(hok:HOk X.prog X.w H' h')(hg:og g')
  (hch:∀b∈ch,(b∈X.ex\/X.s₀.heap.objs.size<=b)/\b≠X.env.locals/\(∀x c,X.env.cells.lookup x=some c->c≠b)/\∀p∈X.pn++pins,p.1≠b):
  Inv X pins σ H' {s with heap:=h',gens:=g',drawn:=d',toks:=t'}:=by
 obtain⟨m,⟨o,es,ep,ho,r⟩,_⟩:=id I.loc;obtain⟨sl,hL⟩:=u.any ho I.free fun z=>(hch _ z).2.1 rfl;exact I.step (ch:=ch) hch (fun b o hL hb hc e n=>u.keep b o e n (fun z=>(aE.mp (I.Bq b z)).elim hL hb) hc) (fun b o _ _ hc e n=>u.any e n hc) (fun b o hc e n=>u.free b o e n hc) (fun b o hc e=>u.there b o e hc) u.tups u.frzs u.tbls (fun m' hm=>by
  obtain⟨o',es',ep',ho',r'⟩:=hm;rw[ho]at ho';cases ho';exact⟨_,es',ep',hL,r'⟩) hok hg
theorem Inv.turned(I:Inv X pins σ H s)(k:∀b o,b≠it->s.heap.get? b=some o->h'.get? b=some o)(hn:H it=none)(hL:it≠X.env.locals)
  (h1:it∈X.ex\/X.s₀.heap.objs.size<=it)(h2:∀x c,X.env.cells.lookup x=some c->c≠it)(h3:∀p∈X.pn++pins,p.1≠it):Inv X pins σ H {s with heap:=h',toks:=t'}:=by
 have nit:∀b u,H b=some u->b≠it:=fun b u e z=>by rw[z,hn]at e;cases e
 refine I.step (g':=s.gens) (d':=s.drawn) (ch:=[it]) (fun b hb=>?_) (fun b o _ _ hc e _=>k b o (fun z=>hc (by simp[z])) e) (fun b o _ _ hc e _=>⟨o.slots,k b o (fun z=>hc (by simp[z])) e⟩) (fun _ _ _ _ n=>n)
  (fun b o hc e=>⟨o,k b o (fun z=>hc (by simp[z])) e⟩) (fun _ _ e=>e) (fun _ _ _ e=>e) (fun b ps e=>⟨#[],by rw[e];simp⟩) (fun m hm=>?_) (fun b u e=>?_) I.bare
 ·have e:b=it:=by simpa using hb
  subst e;exact⟨h1,hL,h2,h3⟩
 ·obtain⟨o,es,ep,ho,r⟩:=hm
  exact⟨o,es,ep,k _ o (bQ hL) ho,r⟩
 ·refine(I.hok b u e).oh (fun c v hc q=>k c v ?_ q) (fun _ q=>q) fun _ _ q=>q
  rcases hc with z|z
  ·rw[z];exact nit b u e
  ·exact nit c _ z
theorem Inv.tok(I:Inv X pins σ H s)(t:Nat):Inv X pins σ H {s with toks:=t}:=I.un (h':=s.heap) (t':=t) Un.refl I.hok
theorem Inv.kept(I:Inv X pins σ H s)(k:∀b u,s.heap.get? b=some u->h'.get? b=some u):Inv X pins σ H {s with heap:=h',toks:=t'}:=I.un (Un.kept k) (I.hok.kept k)
theorem Inv.laid{o:HO}(I:Inv X pins σ H s)(k:∀b u,s.heap.get? b=some u->h'.get? b=some u)(hp:s.heap.objs.size<=a)(new:dQ X.prog X.w (upd H a o) h' a o):
  Inv X pins σ (upd H a o) {s with heap:=h',toks:=t'}:=I.un (Un.laid k hp (I.hok.fresh hp)) (I.hok.laid k hp new)
theorem Inv.write{x e:Addr}{o:HO}(I:Inv X pins σ H s)(mu:Mut (H x))(he:e=x\/H e=some (.own x))(k:∀b u,b≠e->s.heap.get? b=some u->h'.get? b=some u)(heo:∃u,h'.get? e=some u)
  (new:dQ X.prog X.w (upd H x o) h' x o):Inv X pins σ (upd H x o) {s with heap:=h',toks:=t'}:=I.un (Un.write mu he k heo) (I.hok.write mu he k heo new)
theorem Inv.yc(I:Inv X pins σ H s)(h:∀p∈pins',s.heap.get? p.1=some p.2/\H p.1=none/\p.1≠X.env.locals/\p.1∉X.fs/\∀v,p.2.data≠.cell v):Inv X pins' σ H s:=
 ⟨I.ok,I.os,I.bare,I.base,I.loc,I.cell,I.free,I.freeC,fun p hp=>(cP.mp hp).elim (fun z=>I.pin p (eS _ z)) (h p),I.hok,I.len⟩
theorem zZ(hN:N.Nodup)(a:N[i]? =some x)(b:N[j]? =some x):i=j:=by
 obtain⟨h1,e1⟩:=aC.mp a;obtain⟨h2,e2⟩:=aC.mp b;exact(dO hN).mp (e1.trans e2.symm)
theorem El{M:Model}{v:V}{Q:Unit->Shared->Prop}(I:Inv X pins σ H s)(hN:X.N.Nodup)(hi:X.N[i]? =some x)(hx:Loc X.env.scope x)(r:RelV v u)
  (h:∀s',Inv X pins (σ.set i (some v)) H s'->(∃a,dq a s.heap s'.heap/\(a=X.env.locals\/X.env.cells.lookup x=some a))->Q () s')(hf:X.fn x=true\/X.env.scope.names.lookup x=some .local:=by first |exact .inl rfl|exact .inr rfl|assumption):wpAny M A (storeName X.env x u) Q E s:=by
 obtain⟨m,hn,hl⟩:=id I.loc;have hcls:(X.env.scope.kind== .class||(X.env.scope.kind== .module&&X.env.locals != X.env.globals))=false:=by rw[I.ok.kind];rfl
 have hiσ:i<σ.length:=by rw[I.len];exact(aC.mp hi).1
 have cne:=I.cne;have tracked:∀{a:Addr}{h':Heap},(∃o,s.heap.get? a=some o/\H a=none)->dq a s.heap h'->HOk X.prog X.w H h':=fun{a h'} ha hs b ob e=>by
  obtain⟨_,_,hfree⟩:=ha;refine(I.hok b ob e).oh (fun c w' hc q=>(hs.2 c ?_).trans q) (fun _ q=>q) fun _ _ q=>q;rintro rfl;rcases hc with rfl|hc
  ·rw[hfree]at e;cases e
  ·rw[hfree]at hc;cases hc
 rcases hx with hk|hk
 ·refine wpAny_storeName_local hk hn (fun h' hn' hs=>?_) hcls
  obtain⟨oL,_,_,hoL,_⟩:=id hn;refine h _ ⟨I.ok,I.os,I.bare,⟨fun b o e n hb hx=>?_,fun b o e n hb hx=>?_,I.base.free,fun b o e hx=>?_,I.base.tups,I.base.frzs,I.base.tbls⟩,⟨_,hn',fun j y v' e1 e2 e3=>?_⟩,fun y c e=>?_,I.free,I.freeC,fun p hp=>?_,tracked ⟨oL,hoL,I.free⟩ hs,by simpa using I.len⟩ ⟨_,hs,.inl rfl⟩
  ·exact(hs.2 b (aI (aV (aA e) I.ok.above))).trans (I.base.keep b o e n hb hx)
  ·obtain⟨sl,e1⟩:=I.base.slot b o e n hb hx
   exact⟨sl,(hs.2 b (aI (aV (aA e) I.ok.above))).trans e1⟩
  ·obtain⟨o',e1⟩:=I.base.there b o e hx
   exact⟨o',(hs.2 b (aI (aV (aA e) I.ok.above))).trans e1⟩
  ·by_cases hj:j=i
   ·subst hj
    rw[hi]at e1;cases e1;rw[Ea hiσ]at e2;cases e2;exact⟨u,r,.inl ⟨hk,by simp⟩⟩
   ·rw[FQ (bQ hj)]at e2
    obtain⟨u',r',q⟩:=hl j y v' e1 e2 e3;refine⟨u',r',?_⟩;rcases q with⟨k,e⟩ |⟨k,c,e,z⟩
    ·refine .inl ⟨k,?_⟩
     have :y≠x:=fun e=>hj (zZ hN e1 (e▸hi));simp[this,e]
    ·exact .inr ⟨k,c,e,z.sameBut hs (cne y c e)⟩
  ·obtain⟨w',z⟩:=I.cell y c e
   exact⟨w',z.sameBut hs (cne y c e)⟩
  ·obtain⟨e,n,ne,nf,d⟩:=I.pin p hp
   exact⟨(hs.2 p.1 ne).trans e,n,ne,nf,d⟩
 ·have hfn:X.fn x=true:=by
   rcases hf with z|z
   ·exact z
   ·rw[z]at hk;cases hk
  obtain⟨c,hc⟩:=I.ok.has x (.inl hk);obtain⟨w',z⟩:=I.cell x c hc;refine wpAny_storeName_cell I.ok.kind hk hc z (fun h' hc' hs=>?_);obtain⟨oc,hoc,hocd⟩:=id z;refine h {s with heap:=h'} ⟨I.ok,I.os,I.bare,⟨fun b o e n hb hx=>?_,fun b o e n hb hx=>?_,I.base.free,fun b o e hx=>?_,I.base.tups,I.base.frzs,I.base.tbls⟩,⟨m,hn.sameBut hs (bQ (cne x c hc)),fun j y v' e1 e2 e3=>?_⟩,fun y c' e=>?_,I.free,I.freeC,fun p hp=>?_,tracked ⟨oc,hoc,I.freeC x c hc⟩ hs,by simpa using I.len⟩ ⟨c,hs,.inr hc⟩
  ·exact(hs.2 b (aI (aV (aA e) (I.ok.cab x c hfn hc)))).trans (I.base.keep b o e n hb hx)
  ·obtain⟨sl,e1⟩:=I.base.slot b o e n hb hx
   exact⟨sl,(hs.2 b (aI (aV (aA e) (I.ok.cab x c hfn hc)))).trans e1⟩
  ·obtain⟨o',e1⟩:=I.base.there b o e hx
   exact⟨o',(hs.2 b (aI (aV (aA e) (I.ok.cab x c hfn hc)))).trans e1⟩
  ·by_cases hj:j=i
   ·subst hj
    rw[hi]at e1;cases e1;rw[Ea hiσ]at e2;cases e2;exact⟨u,r,.inr ⟨.inl hk,c,hc,hc'⟩⟩
   ·rw[FQ (bQ hj)]at e2
    obtain⟨u',r',q⟩:=hl j y v' e1 e2 e3;refine⟨u',r',?_⟩;rcases q with q|⟨k,c',e,z'⟩
    ·exact .inl q
    ·refine .inr ⟨k,c',e,z'.sameBut hs ?_⟩
     rintro rfl;exact hj (zZ hN e1 (I.ok.inj _ _ _ e hc▸hi))
  ·by_cases hcc:c'=c
   ·subst hcc;exact⟨_,hc'⟩
   ·obtain⟨w2,z2⟩:=I.cell y c' e
    exact⟨w2,z2.sameBut hs hcc⟩
  ·obtain⟨e,n,ne,nf,d⟩:=I.pin p hp
   refine⟨(hs.2 p.1 ?_).trans e,n,ne,nf,d⟩;intro q;rw[q,hoc]at e;have q':oc=p.2:=aW e;exact d w' (by rw[<-q'];exact hocd)
theorem zz{M:Model}{v:V}{Q:Unit->Shared->Prop}(I:Inv X pins σ H s)(hN:X.N.Nodup)(hi:X.N[i]? =some x)(hx:Loc X.env.scope x)(r:RelV v u)
  (h:∀s',Inv X pins (σ.set i (some v)) H s'->Q () s')(hf:X.fn x=true\/X.env.scope.names.lookup x=some .local:=by first |exact .inl rfl|exact .inr rfl|assumption):wpAny M A (storeName X.env x u) Q E s:=
 El I hN hi hx r (fun s' I' _=>h s' I') hf
theorem Inv.call'(I:Inv X pins σ H s)(ho:s'.os=s.os)(u:Un (frs X.stack) ch H H' s.heap s'.heap)(hok:HOk X.prog X.w H' s'.heap)(hg:og s'.gens)
  (hch:∀b∈ch,(b∈X.ex\/X.s₀.heap.objs.size<=b)/\b≠X.env.locals/\(∀x c,X.env.cells.lookup x=some c->c≠b)/\∀p∈X.pn++pins,p.1≠b):Inv X pins σ H' s':=by
 obtain⟨h',g',d',t',o'⟩:=s';have e:o'=s.os:=ho;subst e;exact I.call (g':=g') (t':=t') (d':=d') u hok hg hch
end
noncomputable abbrev XK:=Value->Option Addr->Hp->Prop
noncomputable abbrev St:=List (Option V)
noncomputable abbrev VK:=V->Hp->Prop
noncomputable abbrev TE:=St->Hp->VK->Prop
noncomputable abbrev TT:=St->Hp->(Bool->Hp->Prop)->Prop
noncomputable abbrev TA:=St->Hp->(List V->Hp->Prop)->Prop
structure Ends where
 nx:St->Hp->Prop
 rt:VK
 bk:St->Hp->Prop:=fun _ _=>False
 ct:St->Hp->Prop:=fun _ _=>False
noncomputable abbrev TS:=Ends->St->Hp->Prop
def EP(X:Cx)(pins:List (Addr×Obj))(σ:St)(Q:VK)(u:Value)(s':Shared):Prop:=∃v H',Inv X pins σ H' s'/\RelV v u/\Q v H'
def TP(X:Cx)(pins:List (Addr×Obj))(σ:St)(Q:Bool->Hp->Prop)(b:Bool)(s':Shared):Prop:=∃H',Inv X pins σ H' s'/\Q b H'
def AP(X:Cx)(pins:List (Addr×Obj))(σ:St)(Q:List V->Hp->Prop)(us:List Value)(s':Shared):Prop:=∃vs H',Inv X pins σ H' s'/\bD vs us/\Q vs H'
def SP(X:Cx)(pins:List (Addr×Obj))(D:Ends)(f:Flow)(s':Shared):Prop:=
 match f with
 |.next=>∃σ' H',Inv X pins σ' H' s'/\D.nx σ' H'
 |.brk=>∃σ' H',Inv X pins σ' H' s'/\D.bk σ' H'
 |.cont=>∃σ' H',Inv X pins σ' H' s'/\D.ct σ' H'
 |.ret u=>∃v σ' H',Inv X pins σ' H' s'/\RelV v u/\D.rt v H'
def PE(X:Cx)(e:Expr)(t:TE):Prop:=
 ∀(pins:List (Addr×Obj))(s:Shared)(σ:St)(H:Hp)(Q:VK),Inv X pins σ H s->t σ H Q->wpAny (model X.prog X.w) X.A (eval e X.env) (EP X pins σ Q) X.xe s
def PT(X:Cx)(e:Expr)(t:TT):Prop:=
 ∀(pins:List (Addr×Obj))(s:Shared)(σ:St)(H:Hp)(Q:Bool->Hp->Prop),Inv X pins σ H s->t σ H Q->wpAny (model X.prog X.w) X.A (isTrue e X.env (eval e X.env)) (TP X pins σ Q) X.xe s
def PW(X:Cx)(e:Expr)(t:TT):Prop:=
 ∀(whole:Sem Value)(pins:List (Addr×Obj))(s:Shared)(σ:St)(H:Hp)(Q:Bool->Hp->Prop),Inv X pins σ H s->t σ H Q->wpAny (model X.prog X.w) X.A (isTrue e X.env whole) (TP X pins σ Q) X.xe s
theorem PW.pt{X:Cx}{t:TT}(h:PW X e t):PT X e t:=h _
def PA(X:Cx)(es:List Expr)(t:TA):Prop:=
 ∀(pos:Pos)(pins:List (Addr×Obj))(s:Shared)(σ:St)(H:Hp)(Q:List V->Hp->Prop),Inv X pins σ H s->t σ H Q->wpAny (model X.prog X.w) X.A (spliced (backTo pos (bZ es X.env))) (AP X pins σ Q) X.xe s
def PS(X:Cx)(st:Stmt)(t:TS):Prop:=
 ∀(pins:List (Addr×Obj))(s:Shared)(σ:St)(H:Hp)(D:Ends),Inv X pins σ H s->t D σ H->wpAny (model X.prog X.w) X.A (exec st X.env) (SP X pins D) X.xe s
def PSs(X:Cx)(st:List Stmt)(t:TS):Prop:=
 ∀(pins:List (Addr×Obj))(s:Shared)(σ:St)(H:Hp)(D:Ends),Inv X pins σ H s->t D σ H->wpAny (model X.prog X.w) X.A (execs st X.env) (SP X pins D) X.xe s
theorem thn{α:Type}{t:Sem α}{Q Q':α->Shared->Prop}{M:Model}(h:wpAny M A t Q E s)(hQ:∀a s,Q a s->Q' a s):wpAny M A t Q' E s:=fW h hQ fun _ _ x=>x
section
variable {X:Cx}
noncomputable def pT(i:Nat):TE:=fun σ H Q=>∃v,σ[i]? =some (some v)/\Q v H
noncomputable def tC(v:V):TE:=fun _ H Q=>Q v H
theorem pe_var(hN:X.N[i]? =some x)(hv:Vis X.env.scope x)(hd:(x==("__debug__":Str))=false:=by decide) (hcd:(x==("__classdict__":Str))=false:=by decide):PE X (.Name x pos) (pT i):=by
 intro pins s σ H Q I h;obtain⟨v,e,h⟩:=h;obtain⟨m,hn,hl⟩:=I.loc;obtain⟨u,r,l⟩:=hl i x v hN e hv;have fin:EP X pins σ Q u s:=⟨v,H,I,r,h⟩;rcases l with⟨hk,hm⟩ |⟨hk,c,hc,hcell⟩
 ·exact Fw (wpAny_loadName_local I.ok.kind hk hn hm fin) hd
 ·rcases hk with hk|hk
  ·exact Fw (wpAny_loadName_cell I.ok.kind hk hc hcell fin) hd
  ·exact Fw (wpAny_loadName_free I.ok.kind hk hc hcell fin hcd) hd
theorem pe_int{i j pos}:PE X (.Constant (.int i) j pos) (tC (.int i)):=fun _ _ _ H _ I h=>wpAny_Constant_int ⟨.int i,H,I.tok _,⟨_,rfl⟩,h⟩
theorem pe_bl{b j pos}:PE X (.Constant (.bool b) j pos) (tC (.bl b)):=fun _ _ _ H _ I h=>Constant_bool ⟨.bl b,H,I,rfl,h⟩
theorem pe_non{j pos}:PE X (.Constant .none j pos) (tC .non):=fun _ _ _ H _ I h=>Constant_none ⟨.non,H,I,rfl,h⟩
theorem pe_str{x j pos}:PE X (.Constant (.str x) j pos) (tC (.str x)):=fun _ _ _ H _ I h=>Calls.Constant_str ⟨.str x,H,I.tok _,⟨_,rfl⟩,h⟩
def Gl(X:Cx)(x:Str):Prop:=X.env.kindOf x=some .globalImplicit
theorem yA{σ:St}{H:Hp}{Q:Value->Shared->Prop}(I:Inv X pins σ H s)(hg:Gl X x)(hm:X.mg x=some u)(h:Q u s)
  (hd:(x==("__debug__":Str))=false:=by decide):wpAny (model X.prog X.w) X.A (eval (.Name x pos) X.env) Q E s:=
 zh I.ok.kind hg (Calls.loadGlobal_global (by rw[I.ok.glob];exact I.mod.glob.keeps I.bk) hm h) hd
theorem jy{σ:St}{H:Hp}{Q:Value->Shared->Prop}(I:Inv X pins σ H s)(hg:Gl X x)(hm:X.mg x=none)(hv:eJ x=some u)(h:Q u s)
  (hn:x≠"__name__":=by decide) (hd:(x==("__debug__":Str))=false:=by decide):wpAny (model X.prog X.w) X.A (eval (.Name x pos) X.env) Q E s:=by
 obtain⟨mb,h1,h2⟩:=I.mod.blt;exact zh I.ok.kind hg (Calls.loadGlobal_builtin (by rw[I.ok.glob];exact I.mod.glob.keeps I.bk) hm (by rw[I.ok.blt];exact h1.keeps I.bk) ((h2 x hn).trans hv) h) hd
theorem pe_glob{v:V}(hg:Gl X x)(hm:X.mg x=some u)(r:RelV v u)(hd:(x==("__debug__":Str))=false:=by decide):PE X (.Name x pos) (tC v):=
 fun _ _ _ H _ I h=>yA I hg hm ⟨v,H,I,r,h⟩ hd
theorem pe_bltn{v:V}(hg:Gl X x)(hm:X.mg x=none)(hv:eJ x=some u)(r:RelV v u)(hn:x≠"__name__":=by decide) (hd:(x==("__debug__":Str))=false:=by decide):PE X (.Name x pos) (tC v):=
 fun _ _ _ H _ I h=>jy I hg hm hv ⟨v,H,I,r,h⟩ hn hd
variable {a b:Expr}{ta tb:TE}{pos:Pos}
variable {tA tB':TT}{rest:List Expr}
noncomputable def tAnd(t u:TT):TT:=fun σ H Q=>t σ H fun c H1=>if c=true then u σ H1 Q else Q false H1
noncomputable def tOr(t u:TT):TT:=fun σ H Q=>t σ H fun c H1=>if c=true then Q true H1 else u σ H1 Q
noncomputable def tNot(t:TT):TT:=fun σ H Q=>t σ H fun c H1=>Q (!c) H1
theorem pw_and1(ha:PT X a tA):PW X (.BoolOp .And [a] pos) tA:=by
 intro wh pins s σ H Q I h;refine isTrue_and (thn (ha pins s σ H Q I h) fun c s1 e=>?_);cases c with
 |true=>exact isTrue_and_nil e
 |false=>exact e
theorem pw_or1(ha:PT X a tA):PW X (.BoolOp .Or [a] pos) tA:=by
 intro wh pins s σ H Q I h;refine isTrue_or (thn (ha pins s σ H Q I h) fun c s1 e=>?_);cases c with
 |false=>exact isTrue_or_nil e
 |true=>exact e
theorem GW(ha:PT X a tA)(hb:PW X (.BoolOp .And (b::rest) pos) tB'):PW X (.BoolOp .And (a::b::rest) pos) (tAnd tA tB'):=by
 intro wh pins s σ H Q I h;refine isTrue_and (thn (ha pins s σ H _ I h) fun c s1 ⟨H1,I1,q1⟩=>?_);cases c with
 |true=>exact hb wh pins s1 σ H1 Q I1 q1
 |false=>exact⟨H1,I1,q1⟩
theorem pw_or(ha:PT X a tA)(hb:PW X (.BoolOp .Or (b::rest) pos) tB'):PW X (.BoolOp .Or (a::b::rest) pos) (tOr tA tB'):=by
 intro wh pins s σ H Q I h;refine isTrue_or (thn (ha pins s σ H _ I h) fun c s1 ⟨H1,I1,q1⟩=>?_);cases c with
 |true=>exact⟨H1,I1,q1⟩
 |false=>exact hb wh pins s1 σ H1 Q I1 q1
theorem pt_not(ha:PT X a tA):PT X (.UnaryOp .Not a pos) (tNot tA):=by
 intro pins s σ H Q I h;exact isTrue_not (ha pins s σ H (fun c H1=>Q (!c) H1) I h)
noncomputable def Gf(ta tb:TE):TE:=fun σ H Q=>ta σ H fun x H1=>∃c,x=.bl c/\if c=true then tb σ H1 Q else Q (.bl false) H1
noncomputable def tOrV(ta tb:TE):TE:=fun σ H Q=>ta σ H fun x H1=>∃c,x=.bl c/\if c=true then Q (.bl true) H1 else tb σ H1 Q
noncomputable def Ga(ta:TE):TE:=fun σ H Q=>ta σ H fun x H1=>∃c,x=.bl c/\Q (.bl (!c)) H1
theorem Ha{op}{t:TE}(h:PE X a t):PE X (.BoolOp op [a] pos) t:=fun pins s σ H Q I hw=>BoolOp_one (h pins s σ H Q I hw)
theorem Hh(ha:PE X a ta)(hb:PE X (.BoolOp .And (b::rest) pos) tb):PE X (.BoolOp .And (a::b::rest) pos) (Gf ta tb):=by
 intro pins s σ H Q I h;refine BoolOp_and (thn (ha pins s σ H _ I h) fun v s1 ⟨x,H1,I1,r1,q1⟩=>?_);obtain⟨c,rfl,q1⟩:=q1;cases r1;refine cY ?_;cases c with
 |true=>exact hb pins s1 σ H1 Q I1 q1
 |false=>exact⟨.bl false,H1,I1,rfl,q1⟩
theorem pe_or(ha:PE X a ta)(hb:PE X (.BoolOp .Or (b::rest) pos) tb):PE X (.BoolOp .Or (a::b::rest) pos) (tOrV ta tb):=by
 intro pins s σ H Q I h;refine BoolOp_or (thn (ha pins s σ H _ I h) fun v s1 ⟨x,H1,I1,r1,q1⟩=>?_);obtain⟨c,rfl,q1⟩:=q1;cases r1;refine cY ?_;cases c with
 |false=>exact hb pins s1 σ H1 Q I1 q1
 |true=>exact⟨.bl true,H1,I1,rfl,q1⟩
theorem pe_not(ha:PE X a ta):PE X (.UnaryOp .Not a pos) (Ga ta):=by
 intro pins s σ H Q I h;refine UnaryOp_ (thn (ha pins s σ H _ I h) fun v s1 ⟨x,H1,I1,r1,q1⟩=>?_);obtain⟨c,rfl,q1⟩:=q1;cases r1;exact not_of (cY ⟨.bl (!c),H1,I1,rfl,q1⟩)
noncomputable def tIf(t:TT)(ta tb:TE):TE:=fun σ H Q=>t σ H fun c H1=>if c=true then ta σ H1 Q else tb σ H1 Q
theorem Hb{c:Expr}(hc:PT X c tA)(ha:PE X a ta)(hb:PE X b tb):PE X (.IfExp c a b pos) (tIf tA ta tb):=by
 intro pins s σ H Q I h;refine wpAny_IfExp (thn (hc pins s σ H _ I h) fun d s1 ⟨H1,I1,q1⟩=>?_);cases d with
 |true=>exact ha pins s1 σ H1 Q I1 q1
 |false=>exact hb pins s1 σ H1 Q I1 q1
end
def SqL(K:ah)(H:Hp)(a:Addr)(xs:List V):Prop:=
 Rd H a (.lst xs)\/
  ∃(o:Obj)(its:Array Value)(n:Nat),K.lookup a=some o/\o.cls=.type "list"/\o.dict=none/\o.data=.seq its n/\its.size<=sizeLine/\bD xs its.toList
def SqT(K:ah)(H:Hp)(a:Addr)(xs:List V):Prop:=
 Rd H a (.tup xs)\/
  ∃(o:Obj)(its:Array Value)(n:Nat),K.lookup a=some o/\o.cls=.type "tuple"/\o.data=.seq its n/\its.size<=sizeLine/\bD xs its.toList
noncomputable def absV:Value->Option V
 |.none=>some .non
 |.bool b=>some (.bl b)
 |.int i _=>some (.int i)
 |.str x _=>some (.str x)
 |.bytes b _=>some (.byt b)
 |.float b _=>some (.flt b)
 |.ref a=>some (.ref a)
 |.type n=>some (.ty n)
 |_=>none
theorem RelV.abs{x:V}(r:RelV x u):absV u=some x:=by
 cases x with
 |non=>cases r;rfl
 |bl _=>cases r;rfl
 |int _=>obtain⟨t,rfl⟩:=r;rfl
 |str _=>obtain⟨t,rfl⟩:=r;rfl
 |byt _=>obtain⟨t,rfl⟩:=r;rfl
 |flt _=>obtain⟨t,rfl⟩:=r;rfl
 |ref _=>cases r;rfl
 |ty _=>cases r;rfl
theorem RelV.inj{x y:V}(r:RelV x u)(q:RelV y u):x=y:=aW (r.abs.symm.trans q.abs)
theorem bD.inj{xs ys:List V}(h:bD xs us):bD ys us->xs=ys:=by
 induction h generalizing ys with
 |nil=>intro k;cases k;rfl
 |cons r k ih=>
  intro w;cases w with
  |cons r' w'=>rw[r.inj r',ih w']
section
variable {X:Cx}{pins:List (Addr×Obj)}{σ:St}{H:Hp}{s:Shared}{a:Addr}{xs ys:List V}
theorem SqL.of(h:H a=some (.lst xs)):SqL K H a xs:=.inl (.inl h)
theorem SqT.of(h:H a=some (.tup xs)):SqT K H a xs:=.inl (.inl h)
theorem Inv.list(I:Inv X pins σ H s)(h:SqL X.K H a xs):∃its:List Value,bD xs its/\PlainL s.heap a its.toArray/\xs.length<=sizeLine:=by
 rcases h with h|⟨o,its,n,hk,hc,hd,hs,hz,r⟩
 ·obtain⟨z,its,n,r,e⟩:=h.ok I.hok
  exact⟨its,r,⟨_,n,e,rfl,rfl,rfl⟩,z⟩
 ·refine⟨its.toList,r,⟨o,n,I.kIn a o hk,hc,hd,by simpa using hs⟩,?_⟩
  have e:=r.length;simp only[ck]at e;omega
theorem Inv.tuple(I:Inv X pins σ H s)(h:SqT X.K H a xs):∃its:List Value,bD xs its/\IsTup s.heap a its.toArray/\xs.length<=sizeLine:=by
 rcases h with h|⟨o,its,n,hk,hc,hs,hz,r⟩
 ·obtain⟨z,its,r,p⟩:=h.ok I.hok
  exact⟨its,r,p,z⟩
 ·refine⟨its.toList,r,⟨o,I.kIn a o hk,hc,n,by simpa using hs⟩,?_⟩
  have e:=r.length;simp only[ck]at e;omega
theorem Inv.Ae(I:Inv X pins σ H s)(h:SqL X.K H a xs)(h':SqL X.K H a ys):xs=ys:=by
 obtain⟨its,r,⟨o,n,e,_,_,d⟩,_⟩:=I.list h;obtain⟨its',r',⟨o',n',e',_,_,d'⟩,_⟩:=I.list h';rw[e]at e';cases e';rw[d]at d';injection d' with d1 _
 have :its=its':=by simpa using congrArg Array.toList d1
 subst this;exact r.inj r'
theorem Inv.rC(I:Inv X pins σ H s)(h:SqT X.K H a xs)(h':SqT X.K H a ys):xs=ys:=by
 obtain⟨its,r,⟨o,e,_,n,d⟩,_⟩:=I.tuple h;obtain⟨its',r',⟨o',e',_,n',d'⟩,_⟩:=I.tuple h';rw[e]at e';cases e';rw[d]at d';injection d' with d1 _
 have :its=its':=by simpa using congrArg Array.toList d1
 subst this;exact r.inj r'
end
section
variable {X:Cx}{st:Stmt}{rest:List Stmt}{t u:TS}{e:Expr}{te:TE}{pos:Pos}
noncomputable def zw:TS:=fun D σ H=>D.nx σ H
noncomputable def vX(t u:TS):TS:=fun D σ H=>t {D with nx:=u D} σ H
theorem pss_nil:PSs X [] zw:=fun _ _ σ H _ I h=>Co ⟨σ,H,I,h⟩
theorem uC(h1:PS X st t)(h2:PSs X rest u):PSs X (st::rest) (vX t u):=by
 intro pins s σ H D I h;refine wpAny_execs_cons (thn (h1 pins s σ H {D with nx:=u D} I h) fun f s1 q=>?_);cases f with
 |next =>
  obtain⟨σ',H',I',q⟩:=q;exact h2 pins s1 σ' H' D I' q
 |ret v=>exact q
 |brk=>exact q
 |cont=>exact q
noncomputable def Ge:TS:=fun D σ H=>D.bk σ H
noncomputable def tCont:TS:=fun D σ H=>D.ct σ H
theorem ps_pass:PS X (.Pass pos) zw:=fun _ _ σ H _ I h=>wpAny_Pass ⟨σ,H,I,h⟩
theorem G2:PS X (.Break pos) Ge:=fun _ _ σ H _ I h=>wpAny_Break ⟨σ,H,I,h⟩
theorem zL:PS X (.Continue pos) tCont:=fun _ _ σ H _ I h=>wpAny_Continue ⟨σ,H,I,h⟩
theorem Inv.quiet{σ:St}{H:Hp}(I:Inv X pins σ H s):interactive X.env=false:=by simp[interactive,I.ok.kind]
noncomputable def Gc(te:TE):TS:=fun D σ H=>te σ H fun _ H1=>D.nx σ H1
theorem ps_expr(he:PE X e te)(hs:tU e none pos.line X.env=pure false:=by rfl):PS X (.Expr e pos) (Gc te):=by
 intro pins s σ H D I h;exact wpAny_Expr_any (thn (he pins s σ H _ I h) fun v s1 ⟨x,H1,I1,r1,q1⟩=>⟨σ,H1,I1,q1⟩) I.quiet hs
noncomputable def tRet(te:TE):TS:=fun D σ H=>te σ H D.rt
theorem ps_ret(he:PE X e te):PS X (.Return (some e) pos) (tRet te):=by
 intro pins s σ H D I h;exact wpAny_Return_some (thn (he pins s σ H _ I h) fun v s1 ⟨x,H1,I1,r1,q1⟩=>⟨x,σ,H1,I1,r1,q1⟩)
noncomputable def F8:TS:=fun D _ H=>D.rt .non H
theorem ps_retN:PS X (.Return none pos) F8:=fun _ _ σ H _ I h=>wpAny_Return_none ⟨.non,σ,H,I,rfl,h⟩
noncomputable def tIfS(c:TT)(t u:TS):TS:=fun D σ H=>c σ H fun b H1=>if b=true then t D σ H1 else u D σ H1
theorem ps_if{c:Expr}{a b:List Stmt}{tc:TT}(hc:PT X c tc)(ha:PSs X a t)(hb:PSs X b u):PS X (.If c a b pos) (tIfS tc t u):=by
 intro pins s σ H D I h;refine wpAny_If (thn (hc pins s σ H _ I h) fun d s1 ⟨H1,I1,q1⟩=>?_);cases d with
 |true=>exact ha pins s1 σ H1 D I1 q1
 |false=>exact hb pins s1 σ H1 D I1 q1
end
noncomputable abbrev TG:=V->St->Hp->(St->Hp->Prop)->Prop
noncomputable abbrev TGs:=List V->St->Hp->(St->Hp->Prop)->Prop
def PG(X:Cx)(target:Expr)(t:TG):Prop:=
 ∀(pins:List (Addr×Obj))(s:Shared)(σ:St)(H:Hp)(v:V)(u:Value)(Q:St->Hp->Prop),Inv X pins σ H s->RelV v u->t v σ H Q->
  wpAny (model X.prog X.w) X.A (assign target X.env u) (fun _ s'=>∃σ' H',Inv X pins σ' H' s'/\Q σ' H') X.xe s
def PGs(X:Cx)(ts:List Expr)(t:TGs):Prop:=
 ∀(pins:List (Addr×Obj))(s:Shared)(σ:St)(H:Hp)(vs:List V)(us:List Value)(Q:St->Hp->Prop),Inv X pins σ H s->bD vs us->t vs σ H Q->
  wpAny (model X.prog X.w) X.A (assignInOrder ((gY ts X.env).map (·.2)) us) (fun _ s'=>∃σ' H',Inv X pins σ' H' s'/\Q σ' H') X.xe s
noncomputable abbrev TSet:=V->V->V->Hp->(Hp->Prop)->Prop
def PSet(X:Cx)(t:TSet):Prop:=
 ∀(pins:List (Addr×Obj))(s:Shared)(σ:St)(H:Hp)(o i v:V)(ov iv u:Value)(Q:Hp->Prop),Inv X pins σ H s->RelV o ov->RelV i iv->RelV v u->t o i v H Q->
  wpAny (model X.prog X.w) X.A (setItem ov iv u) (fun _ s'=>∃H',Inv X pins σ H' s'/\Q H') X.xe s
section
variable {X:Cx}{pos:Pos}
noncomputable def lS(i:Nat):TG:=fun v σ H Q=>Q (σ.set i (some v)) H
theorem C7(hN:X.N.Nodup)(hi:X.N[i]? =some x)(hx:Loc X.env.scope x)(hf:X.fn x=true\/X.env.scope.names.lookup x=some .local:=by first |exact .inl rfl|exact .inr rfl|assumption):PG X (.Name x pos) (lS i):=by
 intro pins s σ H v u Q I r h;exact wpAny_assign_Name (zz I hN hi hx r (fun s' I'=>⟨_,H,I',h⟩) hf)
noncomputable def gNil:TGs:=fun vs σ H Q=>vs=[]/\Q σ H
noncomputable def Im(t:TG)(u:TGs):TGs:=fun vs σ H Q=>∃v r,vs=v::r/\t v σ H fun σ' H'=>u r σ' H' Q
theorem pgs_nil:PGs X [] gNil:=by
 intro pins s σ H vs us Q I r h;obtain⟨e,h⟩:=h;subst e;cases r;exact assignInOrder_nil ⟨σ,H,I,h⟩
theorem G7{es:List Expr}{t:TG}{u:TGs}(h1:PG X e t)(h2:PGs X es u)
  (hs:(gY (e::es) X.env).map (·.2)=assign e X.env::(gY es X.env).map (·.2):=by rfl):PGs X (e::es) (Im t u):=by
 intro pins s σ H vs us Q I r h;obtain⟨v,vr,e1,h⟩:=h;subst e1;cases r with
 |cons r rr=>
  rw[hs];refine assignInOrder_cons (thn (h1 pins s σ H _ _ _ I r h) fun _ s1 ⟨σ1,H1,I1,q1⟩=>?_);exact h2 pins s1 σ1 H1 _ _ Q I1 rr q1
noncomputable def gTup(K:ah)(n:Nat)(t:TGs):TG:=fun v σ H Q=>∃a xs,v=.ref a/\SqT K H a xs/\xs.length=n/\t xs σ H Q
theorem pg_tup{es:List Expr}{t:TGs}(hc:X.calm=true)(h:PGs X es t)
  (hn:(gY es X.env).length=n:=by rfl) (hst:(gY es X.env).findIdx? (·.1)=none:=by rfl):PG X (.Tuple es k pos) (gTup X.K n t):=by
 intro pins s σ H v u Q I r hw;obtain⟨a,xs,e1,hq,hl,hw⟩:=hw;subst e1;cases r;obtain⟨its,rv,ht,hz⟩:=I.tuple hq;refine assign_Tuple_tuple (I.ok.hd hc) ht (by simp[hn,<-hl,rv.length]) hst fun h' hx=>?_;have I1:Inv X pins σ H {s with heap:=h'}:=I.kept (t':=s.toks) fun b o e=>hx b o (aI (aA e)) e;exact h pins _ σ H xs _ Q I1 (by simpa using rv) hw
noncomputable def gSub(to ti:TE)(t:TSet):TG:=fun v σ H Q=>to σ H fun o H1=>ti σ H1 fun i H2=>t o i v H2 fun H3=>Q σ H3
theorem pg_sub{i:Expr}{to ti:TE}{t:TSet}(ho:PE X o to)(hi:PE X i ti)(hs:PSet X t)
  (ha:∀v,assign (.Subscript o i pos) X.env v=(do
   let ov<-holding [v] (eval o X.env)
   let iv<-holding [v,ov] (eval i X.env)
   standAt pos
   holding [v,ov,iv] (setItem ov iv v)
   release [v,ov,iv] []):=by intro _;rfl):PG X (.Subscript o i pos) (gSub to ti t):=by
 intro pins s σ H v u Q I r h;rw[ha];refine af (b8 (thn (ho pins s σ H _ I h) fun ov s1 ⟨x,H1,I1,r1,q1⟩=>?_));refine af (b8 (thn (hi pins s1 σ H1 _ I1 q1) fun iv s2 ⟨y,H2,I2,r2,q2⟩=>?_));refine af (Jk (af (b8 (thn (hs pins s2 σ H2 x y v ov iv u _ I2 r1 r2 r q2) fun _ s3 ⟨H3,I3,q3⟩=>?_))));exact wpAny_release ⟨σ,H3,I3,q3⟩
noncomputable def xK(te:TE)(g:TG):TS:=fun D σ H=>te σ H fun x H1=>g x σ H1 D.nx
theorem G3{te:TE}{g:TG}(he:PE X e te)(hg:PG X tg g)(hs:Jl [tg] e pos.line X.env=pure false:=by rfl) (hw:swappedStores [tg] e X.env=pure none:=by rfl)
  (h1:(gY [tg] X.env).map (·.2)=[assign tg X.env]:=by rfl):PS X (.Assign [tg] e pos) (xK te g):=by
 intro pins s σ H D I h;refine wpAny_Assign_stores (thn (he pins s σ H _ I h) fun v s1 ⟨x,H1,I1,r1,q1⟩=>?_) hs hw;rw[h1];exact thn (hg pins s1 σ H1 x v _ I1 r1 q1) fun _ s2 q=>q
theorem ps_set{te:TE}(hN:X.N.Nodup)(hi:X.N[i]? =some x)(hx:Loc X.env.scope x)(he:PE X e te)(hs:tU e (some (.Name x pos')) pos.line X.env=pure false:=by rfl) (hf:X.fn x=true\/X.env.scope.names.lookup x=some .local:=by first |exact .inl rfl|exact .inr rfl|assumption):
  PS X (.Assign [.Name x pos'] e pos) (xK te (lS i)):=by
 intro pins s σ H D I h;refine wpAny_Assign_Name (thn (he pins s σ H _ I h) fun v s1 ⟨y,H1,I1,r1,q1⟩=>?_) hs;exact zz I1 hN hi hx r1 (fun s2 I2=>⟨_,H1,I2,q1⟩) hf
end
section
variable {X:Cx}{pos:Pos}
noncomputable def F7(c:TT)(tb:TS):TS:=fun D σ H=>∃W:Nat->St->Hp->Prop,(∃m,W m σ H)/\∀m σ H,W m σ H->
 c σ H fun b H1=>if b=true then ∃N:St->Hp->Prop,(∀σ' H',N σ' H'->∃m',m'<m/\W m' σ' H')/\tb {D with nx:=N,ct:=N,bk:=D.nx} σ H1 else D.nx σ H1
theorem G1{c:Expr}{body:List Stmt}{tc:TT}{tb:TS}(hp:PassesOwn (model X.prog X.w) X.A X.env X.xe)(hc:PT X c tc)(hb:PSs X body tb):PS X (.While c body [] pos) (F7 tc tb):=by
 intro pins s σ H D I h;obtain⟨W,⟨m0,w0⟩,turn⟩:=h;refine wpAny_While (codeAny_whileLoop (fun n s'=>∃σ' H',Inv X pins σ' H' s'/\W n σ' H') ?_ m0 ⟨σ,H,I,w0⟩);rintro n s1 ⟨σ1,H1,I1,w1⟩;refine gv hp (thn (hc pins s1 σ1 H1 _ I1 (turn n σ1 H1 w1)) fun b s2 ⟨H2,I2,q2⟩=>?_);cases b with
 |true=>
  obtain⟨N,hN,q2⟩:=q2;rw[if_pos rfl];refine gv hp (thn (hb pins s2 σ1 H2 _ I2 q2) fun f s3 q3=>?_);cases f with
  |next =>
   obtain⟨σ3,H3,I3,n3⟩:=q3;obtain⟨m',hm,w3⟩:=hN σ3 H3 n3;exact⟨m',hm,σ3,H3,I3,w3⟩
  |cont=>
   obtain⟨σ3,H3,I3,n3⟩:=q3;obtain⟨m',hm,w3⟩:=hN σ3 H3 n3;exact⟨m',hm,σ3,H3,I3,w3⟩
  |brk=>exact q3
  |ret v=>exact q3
 |false=>
  rw[if_neg ak];exact Co ⟨σ1,H2,I2,q2⟩
end
structure It where
 go:Nat->Hp->Prop
 yld:Nat->Hp->V->Hp->Prop
 stop:Nat->Hp->Prop
def qR(X:Cx)(pins:List (Addr×Obj))(H:Hp)(b:Addr):Prop:=
 H b=none/\b≠X.env.locals/\b∉X.fs/\(b∈X.ex\/X.s₀.heap.objs.size<=b)/\(∀x c,X.env.cells.lookup x=some c->c≠b)/\∀p∈X.pn++pins,p.1≠b
theorem Inv.Aq{X:Cx}{σ:St}{H H':Hp}(I:Inv X pins σ H s)(hb:s.heap.objs.size<=b)(hn:H' b=none):qR X pins H' b:=by
 refine⟨hn,eA (aV I.lt hb),I.nofs hb,.inr (aR I.sz hb),fun x c e z=>?_,fun p hp z=>?_⟩
 ·obtain⟨v,q⟩:=I.cell x c e
  exact absurd (aV q.lt (by rw[z];exact hb)) (dk _)
 ·exact absurd (aV (aA (I.pin p hp).1) (by rw[z];exact hb)) (dk _)
structure Turn(P:Program)(w:World)(K:ah)(tg:Expr)(J:It)(fp:List Addr)(it:Addr)(tn:Nat->Heap->Prop):Prop where
 mem:it∈fp
 obj:∀i h,tn i h->∀b∈fp,∃o,h.get? b=some o/\∀v,o.data≠.cell v
 keep:∀i h h',tn i h->(∀b∈fp,∀o,h.get? b=some o->h'.get? b=some o)->tn i h'
 item:∀(X:Cx),X.prog=P->X.w=w->X.K=K->X.calm=true->∀(i:Nat)(pins:List (Addr×Obj))(s:Shared)(σ:St)(H:Hp)(E:Value->Shared->Prop),Inv X pins σ H s->(∀b∈fp,qR X pins H b)->tn i s.heap->J.go i H->
  wpAny (model P w) X.A (pyNext (.ref it)) (fun r s1=>∃u,r=some u/\
   wpAny (model P w) X.A (rf tg (.ref it) u) (fun _ s2=>∃x H',Inv X pins σ H' s2/\RelV x u/\J.yld i H x H'/\tn (i+1) s2.heap/\∀b∈fp,H' b=none) E s1) E s
 done:∀(X:Cx),X.prog=P->X.w=w->X.K=K->X.calm=true->∀(i:Nat)(pins:List (Addr×Obj))(s:Shared)(σ:St)(H:Hp)(E:Value->Shared->Prop),Inv X pins σ H s->(∀b∈fp,qR X pins H b)->tn i s.heap->J.stop i H->
  wpAny (model P w) X.A (pyNext (.ref it)) (fun r s1=>r=none/\Inv X pins σ H s1) E s
 self:∀(A:Around)(i:Nat)(s:Shared)(Q:Value->Shared->Prop)(E:Value->Shared->Prop),tn i s.heap->Q (.ref it) s->wpAny (model P w) A (pyIter (.ref it)) Q E s
noncomputable abbrev TI:=St->Hp->(It->Hp->Prop)->Prop
def PIE(X:Cx)(pins:List (Addr×Obj))(σ:St)(tg:Expr)(R:It->Hp->Prop)(itv:Value)(s2:Shared):Prop:=
 ∃(it:Addr)(fp:List Addr)(tn:Nat->Heap->Prop)(J:It)(H':Hp),itv=.ref it/\Inv X pins σ H' s2/\Turn X.prog X.w X.K tg J fp it tn/\tn 0 s2.heap/\(∀b∈fp,qR X pins H' b)/\R J H'
def PI(X:Cx)(tg iter:Expr)(wi:TI):Prop:=
 ∀(pins:List (Addr×Obj))(s:Shared)(σ:St)(H:Hp)(R:It->Hp->Prop),Inv X pins σ H s->wi σ H R->
  wpAny (model X.prog X.w) X.A (eval iter X.env) (fun v s1=>wpAny (model X.prog X.w) X.A (pyIter v) (PIE X pins σ tg R) X.xe s1) X.xe s
theorem DA{M:Model}{o:Obj}{n:String}{vs:Array Value}{Q:Unit->Shared->Prop}(ho:s.heap.get? it=some o)(hc:o.cls=.type n)(hd:o.data=.fields vs)
  (hn:["enumerate","zip","dict_itemiterator","dict_reverseitemiterator","odict_iterator","itertools.zip_longest","itertools.pairwise"].contains n=false)(hQ:Q () s):wpAny M A (rf tg (.ref it) u) Q E s:=by
 unfold rf;cases tg<;>first
  |exact aj hQ
  | (cases u<;>first
    |exact aj hQ
    | (refine af (wpAny_load ho ?_)
       rw[hc,hd];show wpAny M A (if(["enumerate","zip","dict_itemiterator","dict_reverseitemiterator","odict_iterator","itertools.zip_longest","itertools.pairwise"].contains n&&vs[0]? ==some (rawInt _))=true then _ else _) Q E s;rw[if_neg (by intro h;rw[hn,cW]at h;cases h)];exact aj hQ))
noncomputable def Itl(K:ah)(a:Addr):It:=
 ⟨fun i H=>∃xs x,SqL K H a xs/\xs[i]? =some x,fun i H x H'=>H'=H/\∀xs,SqL K H a xs->xs[i]? =some x,fun i H=>∃xs,SqL K H a xs/\xs.length<=i⟩
noncomputable def Itt(K:ah)(a:Addr):It:=
 ⟨fun i H=>∃xs x,SqT K H a xs/\xs[i]? =some x,fun i H x H'=>H'=H/\∀xs,SqT K H a xs->xs[i]? =some x,fun i H=>∃xs,SqT K H a xs/\xs.length<=i⟩
noncomputable def Itr(lo:Int)(n:Nat):It:=⟨fun i _=>i<n,fun i H x H'=>H'=H/\x=.int (lo+i),fun i _=>n<=i⟩
theorem wB(a it:Addr):Turn P w K tg (Itl K a) [it] it (fun i h=>h.IsListIter it a i) where
 mem:=by simp
 obj:=fun i h st b hb=>by
  have e:b=it:=by simpa using hb
  subst e;obtain⟨o,e,c,d⟩:=st;exact⟨o,e,fun v z=>by rw[d]at z;cases z⟩
 keep:=fun i h h' st k=>st.at fun o e=>k it (by simp) o e
 item:=by
  intro X hP hw hK hc i pins s σ H E I hf st hg;subst hP hw hK;obtain⟨xs,x,hq,hx⟩:=hg;obtain⟨its,rv,p,hz⟩:=I.list hq;obtain⟨u,hu,ru⟩:=rv.get hx;obtain⟨f0,f1,f2,f3,f4,f5⟩:=hf it (by simp);refine wpAny_pyNext_list_item st p.isList (x:=u) (by simpa using hu) fun h' st' sb=>?_;have I1:Inv X pins σ H {s with heap:=h'}:=I.turned (t':=s.toks) (fun b o hb e=>(sb.2 b hb).trans e) f0 f1 f3 f4 f5;obtain⟨o,e,c,d⟩:=id st';exact⟨u,rfl,DA (s:={s with heap:=h'}) e c d (by decide) ⟨x,H,I1,ru,⟨rfl,fun ys hy=>by rw[I.Ae hy hq];exact hx⟩,st',fun b hb=>(hf b hb).1⟩⟩
 done:=by
  intro X hP hw hK hc i pins s σ H E I hf st hg;subst hP hw hK;obtain⟨xs,hq,hx⟩:=hg;obtain⟨its,rv,p,hz⟩:=I.list hq;obtain⟨f0,f1,f2,f3,f4,f5⟩:=hf it (by simp);have hl:=rv.length;exact wpAny_pyNext_list_end (I.ok.hd hc) st p.isList (by simp;omega) fun h' eb=>⟨rfl,I.turned (t':=s.toks) (fun b o hb e=>eb b o hb e) f0 f1 f3 f4 f5⟩
 self:=fun _ _ _ _ _ st h=>wpAny_pyIter_listiter st h
theorem Bi(a it:Addr):Turn P w K tg (Itt K a) [it] it (fun i h=>h.IsTupleIter it a i) where
 mem:=by simp
 obj:=fun i h st b hb=>by
  have e:b=it:=by simpa using hb
  subst e;obtain⟨o,e,c,d⟩:=st;exact⟨o,e,fun v z=>by rw[d]at z;cases z⟩
 keep:=fun i h h' st k=>st.at fun o e=>k it (by simp) o e
 item:=by
  intro X hP hw hK hc i pins s σ H E I hf st hg;subst hP hw hK;obtain⟨xs,x,hq,hx⟩:=hg;obtain⟨its,rv,p,hz⟩:=I.tuple hq;obtain⟨u,hu,ru⟩:=rv.get hx;obtain⟨f0,f1,f2,f3,f4,f5⟩:=hf it (by simp);refine wpAny_pyNext_tuple_item st (show s.heap.IsTuple a its.toArray from p) (x:=u) (by simpa using hu) fun h' st' sb=>?_;have I1:Inv X pins σ H {s with heap:=h'}:=I.turned (t':=s.toks) (fun b o hb e=>(sb.2 b hb).trans e) f0 f1 f3 f4 f5;obtain⟨o,e,c,d⟩:=id st';exact⟨u,rfl,DA (s:={s with heap:=h'}) e c d (by decide) ⟨x,H,I1,ru,⟨rfl,fun ys hy=>by rw[I.rC hy hq];exact hx⟩,st',fun b hb=>(hf b hb).1⟩⟩
 done:=by
  intro X hP hw hK hc i pins s σ H E I hf st hg;subst hP hw hK;obtain⟨xs,hq,hx⟩:=hg;obtain⟨its,rv,p,hz⟩:=I.tuple hq;obtain⟨f0,f1,f2,f3,f4,f5⟩:=hf it (by simp);have hl:=rv.length;exact wpAny_pyNext_tuple_end (I.ok.hd hc) st (show s.heap.IsTuple a its.toArray from p) (by simp;omega) fun h' eb=>⟨rfl,I.turned (t':=s.toks) (fun b o hb e=>eb b o hb e) f0 f1 f3 f4 f5⟩
 self:=fun _ _ _ _ _ st h=>wpAny_pyIter_tupleiter st h
theorem Bj(it:Addr)(lo:Int)(n:Nat):Turn P w K tg (Itr lo n) [it] it (fun i h=>IsRangeIter h it (lo+(i:Nat)*1) ((n:Int)-(i:Nat)) 1) where
 mem:=by simp
 obj:=fun i h st b hb=>by
  have e:b=it:=by simpa using hb
  subst e;exact⟨_,st,fun v z=>by
   have z':Data.fields _=Data.cell v:=z;cases z'⟩
 keep:=fun i h h' st k=>k it (by simp) _ st
 item:=by
  intro X hP hw hK hc i pins s σ H E I hf st hg;subst hP hw hK;obtain⟨f0,f1,f2,f3,f4,f5⟩:=hf it (by simp);have W:=Walks.range (prog:=X.prog) (w:=X.w) (I.ok.hd hc) it lo 1 n;refine W.item i s _ _ hg st fun v h' tk hv st' kk=>?_;obtain⟨t,rfl⟩:=hv;have I1:Inv X pins σ H {s with heap:=h',toks:=tk}:=I.turned (fun b o hb e=>kk b o (by simpa using hb) e) f0 f1 f3 f4 f5;refine⟨_,rfl,DA (s:={s with heap:=h',toks:=tk}) (n:="range_iterator") st' rfl rfl (by decide) ⟨.int (lo+i),H,I1,⟨t,?_⟩,⟨rfl,rfl⟩,st',fun b hb=>(hf b hb).1⟩⟩;rw[Int.mul_one]
 done:=by
  intro X hP hw hK hc i pins s σ H E I hf st hg;subst hP hw hK;obtain⟨f0,f1,f2,f3,f4,f5⟩:=hf it (by simp);exact wpAny_pyNext_range_end (I.ok.hd hc) st (by have :n<=i:=hg;omega) fun h' eb=>⟨rfl,I.turned (t':=s.toks) (fun b o hb e=>eb b o hb e) f0 f1 f3 f4 f5⟩
 self:=fun _ _ _ _ _ st h=>wpAny_pyIter_rangeiter st h
section
variable {X:Cx}{tg:Expr}
noncomputable def Ig(K:ah)(tl:TE):TI:=fun σ H R=>tl σ H fun x H1=>∃a,x=.ref a/\(∃xs,SqL K H1 a xs)/\R (Itl K a) H1
theorem pi_list{l:Expr}{tl:TE}(hl:PE X l tl):PI X tg l (Ig X.K tl):=by
 intro pins s σ H R I h;refine thn (hl pins s σ H _ I h) fun v s1 ⟨x,H1,I1,r1,q1⟩=>?_;obtain⟨a,e,⟨xs,hq⟩,q⟩:=q1;subst e;cases r1;obtain⟨its,rv,p,hz⟩:=I1.list hq;refine nX p.isList ?_;refine⟨s1.heap.objs.size,[s1.heap.objs.size],_,_,H1,rfl,I1.kept (t':=s1.toks) fun b o e=>ag _ e,wB a _,⟨_,az _ rfl,rfl,rfl⟩,fun b hb=>?_,q⟩;have e:b=s1.heap.objs.size:=by simpa using hb
 subst e;exact I1.Aq (aB _) (I1.hok.fresh (aB _))
theorem zJ{σ:St}{H:Hp}{R:It->Hp->Prop}{lo hi:Int}{t u v:Tok}{tk:Nat}(I:Inv X pins σ H s)(h1: -(2^62)<=lo)(h2:lo<2^62)(h3: -(2^62)<=hi)(h4:hi<2^62)
  (q:R (Itr lo (hi-lo).toNat) H):wpAny (model X.prog X.w) X.A (pyIter (.ref s.heap.objs.size)) (PIE X pins σ tg R) E {s with heap:=s.heap.push {cls:=.type "range",data:=.fields #[.int lo t,.int hi u,.int 1 v]},toks:=tk}:=by
 refine wpAny_pyIter_range (IsRange.new ..) (small_one h1 h2 h3 h4) ?_;have I1:Inv X pins σ H {s with heap:=s.heap.push {cls:=.type "range",data:=.fields #[.int lo t,.int hi u,.int 1 v]},toks:=tk}:=I.kept fun b o e=>ag _ e;refine⟨(s.heap.push {cls:=.type "range",data:=.fields #[.int lo t,.int hi u,.int 1 v]}).objs.size,[(s.heap.push {cls:=.type "range",data:=.fields #[.int lo t,.int hi u,.int 1 v]}).objs.size],_,_,H,rfl,
  I1.kept (t':=tk) fun b o e=>ag _ e,Bj _ lo (hi-lo).toNat,?_,fun b hb=>?_,q⟩
 ·have e1:lo+((0:Nat):Int)*1=lo:=by simp
  have e2:(((hi-lo).toNat:Nat):Int)-((0:Nat):Int)=Builtin.Range.rangeSize lo hi 1:=by rw[rangeSize_one];split <;>omega
  show IsRangeIter _ _ (lo+((0:Nat):Int)*1) ((((hi-lo).toNat:Nat):Int)-((0:Nat):Int)) 1;rw[e1,e2];exact az _ rfl
 ·have e:b=(s.heap.push {cls:=.type "range",data:=.fields #[.int lo t,.int hi u,.int 1 v]}).objs.size:=by simpa using hb
  subst e;exact I1.Aq (aB _) (I1.hok.fresh (aB _))
noncomputable def Ie(ta:TA):TI:=fun σ H R=>ta σ H fun vs H1=>∃j:Int,vs=[.int j]∧-(2^62)<=j/\j<2^62/\R (Itr 0 j.toNat) H1
noncomputable def Ic(ta:TA):TI:=fun σ H R=>ta σ H fun vs H1=>∃i j:Int,vs=[.int i,.int j]/\(-(2^62)<=i/\i<2^62∧-(2^62)<=j/\j<2^62)/\R (Itr i (j-i).toNat) H1
theorem EF{a:Expr}{ta:TA}{p:Pos}(hg:Gl X "range")(hm:X.mg "range"=none)(ha:PA X [a] ta)(hs:bZ [a] X.env=[(false,eval a X.env)]:=by rfl):PI X tg (.Call (.Name "range" p) [a] [] pos) (Ie ta):=by
 intro pins s σ H R I h;refine Call_ (jy I hg hm boot_range (cI (thn (ha pos pins s σ H _ I h) fun us s1 ⟨vs,H1,I1,r1,q1⟩=>?_) hs rfl));obtain⟨j,e,q1,q2,q⟩:=q1;subst e;cases r1 with
 |cons r rr=>
  cases rr;obtain⟨t,rfl⟩:=r;exact call_range_1 (zJ I1 (by omega) (by omega) q1 q2 (by simpa using q))
theorem EE{a b:Expr}{ta:TA}{p:Pos}(hg:Gl X "range")(hm:X.mg "range"=none)(ha:PA X [a,b] ta)(hs:bZ [a,b] X.env=[(false,eval a X.env),(false,eval b X.env)]:=by rfl) (hs2:bZ [b] X.env=[(false,eval b X.env)]:=by rfl):
  PI X tg (.Call (.Name "range" p) [a,b] [] pos) (Ic ta):=by
 intro pins s σ H R I h;refine Call_ (jy I hg hm boot_range (cI (thn (ha pos pins s σ H _ I h) fun us s1 ⟨vs,H1,I1,r1,q1⟩=>?_) (by rw[hs,hs2]) (by rw[hs2];rfl)));obtain⟨i,j,e,⟨q1,q2,q3,q4⟩,q⟩:=q1;subst e;cases r1 with
 |cons r rr=>
  cases rr with
  |cons r' rr=>
   cases rr;obtain⟨t,rfl⟩:=r;obtain⟨t',rfl⟩:=r';exact call_range_2 (zJ I1 q1 q2 q3 q4 q)
noncomputable def tFor(wi:TI)(g:TG)(tb:TS):TS:=fun D σ H=>wi σ H fun J H1=>∃W:Nat->Nat->St->Hp->Prop,(∃m,W 0 m σ H1)/\∀i m σ H,W i m σ H->
 (J.stop i H/\D.nx σ H)\/(J.go i H/\∃N:St->Hp->Prop,(∀σ' H',N σ' H'->∃m',m'<m/\W (i+1) m' σ' H')/\∀x H',J.yld i H x H'->g x σ H' fun σ2 H2=>tb {D with nx:=N,ct:=N,bk:=D.nx} σ2 H2)
noncomputable def i5(fp:List Addr)(h:Heap):List (Addr×Obj):=fp.filterMap fun b=>(h.get? b).map fun o=>(b,o)
theorem iF{o:Obj}(hb:b∈fp)(e:h.get? b=some o):(b,o)∈i5 fp h:=List.mem_filterMap.mpr ⟨b,hb,by rw[e];rfl⟩
theorem rL{p:Addr×Obj}(hp:p∈i5 fp h):p.1∈fp/\h.get? p.1=some p.2:=by
 obtain⟨b,hb,e⟩:=List.mem_filterMap.mp hp;cases q:h.get? b with
 |none=>rw[q]at e;cases e
 |some o=>
  rw[q]at e;have e':(b,o)=p:=aW e;subst e';exact⟨hb,q⟩
theorem Inv.pinned{σ:St}{H:Hp}(I:Inv X pins σ H s)(hf:∀b∈fp,qR X pins H b)(ho:∀b∈fp,∃o,s.heap.get? b=some o/\∀v,o.data≠.cell v):Inv X (pins++i5 fp s.heap) σ H s:=
 I.yc fun p hp=>(cP.mp hp).elim (fun z=>I.pin p (a7 _ z)) fun z=>by
  obtain⟨hb,e⟩:=rL z;obtain⟨f0,f1,f2,_⟩:=hf p.1 hb;obtain⟨o,e',d⟩:=ho p.1 hb;rw[e]at e';cases e';exact⟨e,f0,f1,f2,d⟩
theorem Inv.hJ{pl:List (Addr×Obj)}{σ:St}{H:Hp}(I:Inv X (pins++pl) σ H s):Inv X pins σ H s:=I.yc fun p hp=>I.pin p (a7 _ (eS _ hp))
theorem ps_for{body:List Stmt}{wi:TI}{g:TG}{tb:TS}(hp:PassesOwn (model X.prog X.w) X.A X.env X.xe)(hc:X.calm=true)(hi:PI X tg iter wi)(hg:PG X tg g)(hb:PSs X body tb)
  (hs:∀x,jk iter X.env x=pure x:=by intro _;rfl):PS X (.For tg iter body [] pos) (tFor wi g tb):=by
 intro pins s σ H D I h;refine wpAny_For (thn (hi pins s σ H _ I h) fun v s1 h1=>thn h1 fun itv s2 h2=>?_) hs;obtain⟨it,fp,tn,J,H2,e,I2,T,st2,f2,W,⟨m0,w0⟩,turn⟩:=h2;subst e
 --what stays true of the iterator's objects through the loop
 have stat:∀{H':Hp},(∀b∈fp,H' b=none)->∀b∈fp,qR X pins H' b:=fun hn b hb=>⟨hn b hb,(f2 b hb).2⟩;refine codeAny_forLoop_any (fun n s'=>∃i σ' H',Inv X pins σ' H' s'/\tn i s'.heap/\(∀b∈fp,H' b=none)/\W i n σ' H') ?_ m0 ⟨0,σ,H2,I2,st2,fun b hb=>(f2 b hb).1,w0⟩;rintro n s3 ⟨i,σ3,H3,I3,st3,fr3,w3⟩;rcases turn i n σ3 H3 w3 with⟨stop,qn⟩ |⟨go,N,hN,step⟩
 ·refine gv hp (thn (T.done X rfl rfl rfl hc i pins s3 σ3 H3 X.xe I3 (stat fr3) st3 stop) fun r s4 ⟨hr,I4⟩=>?_)
  subst hr;exact Co ⟨σ3,H3,I4,qn⟩
 ·refine gv hp (thn (T.item X rfl rfl rfl hc i pins s3 σ3 H3 X.xe I3 (stat fr3) st3 go) fun r s4 ⟨u,hr,h4⟩=>?_)
  subst hr;refine gv hp (thn h4 fun _ s5 ⟨x,H5,I5,r5,y5,st5,fr5⟩=>?_);have I5':=I5.pinned (stat fr5) (T.obj _ _ st5);refine gv hp (thn (hg _ s5 σ3 H5 x u _ I5' r5 (step x H5 y5)) fun _ s6 ⟨σ6,H6,I6,q6⟩=>?_);refine gv hp (thn (hb _ s6 σ6 H6 _ I6 q6) fun f s7 q7=>?_);have again:∀{σ7:St}{H7:Hp},Inv X (pins++i5 fp s5.heap) σ7 H7 s7->N σ7 H7->∃m,m<n/\∃i σ' H',Inv X pins σ' H' s7/\tn i s7.heap/\(∀b∈fp,H' b=none)/\W i m σ' H':=fun{σ7 H7} I7 n7=>by
   obtain⟨m',hm,w7⟩:=hN σ7 H7 n7;refine⟨m',hm,i+1,σ7,H7,I7.hJ,T.keep _ _ _ st5 fun b hb o e=>(I7.pin (b,o) (a7 _ (a7 _ (iF hb e)))).1,fun b hb=>?_,w7⟩;obtain⟨o,e,d⟩:=T.obj _ _ st5 b hb;exact(I7.pin (b,o) (a7 _ (a7 _ (iF hb e)))).2.1
  cases f with
  |next =>obtain⟨σ7,H7,I7,n7⟩:=q7;exact again I7 n7
  |cont=>obtain⟨σ7,H7,I7,n7⟩:=q7;exact again I7 n7
  |brk=>obtain⟨σ7,H7,I7,q7⟩:=q7;exact⟨σ7,H7,I7.hJ,q7⟩
  |ret v=>obtain⟨x7,σ7,H7,I7,r7,q7⟩:=q7;exact⟨x7,σ7,H7,I7.hJ,r7,q7⟩
end
noncomputable abbrev R2:=V->V->Hp->VK->Prop
def OpR(X:Cx)(f:Value->Value->Sem Value)(r:R2):Prop:=
 ∀(pins:List (Addr×Obj))(s:Shared)(σ:St)(H:Hp)(x y:V)(v u:Value)(Q:VK),Inv X pins σ H s->RelV x v->RelV y u->r x y H Q->
  wpAny (model X.prog X.w) X.A (f v u) (EP X pins σ Q) X.xe s
def fz(X:Cx)(f:Value)(r:List V->Hp->VK->Prop):Prop:=
 ∀(pins:List (Addr×Obj))(s:Shared)(σ:St)(H:Hp)(xs:List V)(us:List Value)(Q:VK),Inv X pins σ H s->bD xs us->r xs H Q->
  wpAny (model X.prog X.w) X.A (call f us) (EP X pins σ Q) X.xe s
def TruR(X:Cx)(r:V->Hp->(Bool->Hp->Prop)->Prop):Prop:=
 ∀(pins:List (Addr×Obj))(s:Shared)(σ:St)(H:Hp)(x:V)(v:Value)(Q:Bool->Hp->Prop),Inv X pins σ H s->RelV x v->r x H Q->
  wpAny (model X.prog X.w) X.A (truthy v) (TP X pins σ Q) X.xe s
noncomputable def tOp(r:R2)(ta tb:TE):TE:=fun σ H Q=>ta σ H fun x H1=>tb σ H1 fun y H2=>r x y H2 Q
noncomputable def rI(C:Int->Int->Prop)(g:Int->Int->V):R2:=fun x y H Q=>∃i j,x=.int i/\y=.int j/\C i j/\Q (g i j) H
noncomputable def rI0(g:Int->Int->V):R2:=fun x y H Q=>∃i j,x=.int i/\y=.int j/\Q (g i j) H
section
variable {X:Cx}{a b c:Expr}{ta tb tc:TE}{pos:Pos}
theorem binT(ha:PE X a ta)(hb:PE X b tb){σ:St}{H:Hp}{R:V->V->Hp->Prop}(I:Inv X pins σ H s)
  (h:ta σ H fun x H1=>tb σ H1 fun y H2=>R x y H2){Q:Value->Shared->Prop}{f:Value->Value->Sem Value}
  (hf:∀v u s2 x y H2,Inv X pins σ H2 s2->RelV x v->RelV y u->R x y H2->wpAny (model X.prog X.w) X.A (f v u) Q X.xe s2):
  wpAny (model X.prog X.w) X.A (eval a X.env) (fun v s₁=>wpAny (model X.prog X.w) X.A (eval b X.env) (fun u s₂=>wpAny (model X.prog X.w) X.A (f v u) Q X.xe s₂) X.xe s₁) X.xe s:=by
 refine thn (ha pins s σ H _ I h) fun v s1 ⟨x,H1,I1,r1,q1⟩=>?_;refine thn (hb pins s1 σ H1 _ I1 q1) fun u s2 ⟨y,H2,I2,r2,q2⟩=>?_;exact hf v u s2 x y H2 I2 r1 r2 q2
theorem pe_op{op:Operator}{r:R2}(ho:OpR X (fu op) r)(ha:PE X a ta)(hb:PE X b tb):PE X (.BinOp a op b pos) (tOp r ta tb):=by
 intro pins s σ H Q I h;exact wpAny_BinOp (binT ha hb I h fun v u s2 x y H2 I2 rx ry q=>ho pins s2 σ H2 x y v u Q I2 rx ry q)
theorem opI{f:Value->Value->Sem Value}{C:Int->Int->Prop}{g:Int->Int->Int}
  (rule:∀(i j:Int)(t u:Tok)(s:Shared)(Q:Value->Shared->Prop)(E:Value->Shared->Prop),C i j->Q (.int (g i j) s.toks) {s with toks:=s.toks+1}->wpAny (model X.prog X.w) X.A (f (.int i t) (.int j u)) Q E s):
  OpR X f (rI C fun i j=>.int (g i j)):=by
 intro pins s σ H x y v u Q I rx ry h;obtain⟨i,j,rfl,rfl,hc,q⟩:=h;obtain⟨t,rfl⟩:=rx;obtain⟨t',rfl⟩:=ry;exact rule i j t t' s _ _ hc ⟨.int (g i j),H,I.tok _,⟨_,rfl⟩,q⟩
theorem opI0{f:Value->Value->Sem Value}{g:Int->Int->Int}
  (rule:∀(i j:Int)(t u:Tok)(s:Shared)(Q:Value->Shared->Prop)(E:Value->Shared->Prop),Q (.int (g i j) s.toks) {s with toks:=s.toks+1}->wpAny (model X.prog X.w) X.A (f (.int i t) (.int j u)) Q E s):
  OpR X f (rI0 fun i j=>.int (g i j)):=by
 intro pins s σ H x y v u Q I rx ry h;obtain⟨i,j,rfl,rfl,q⟩:=h;obtain⟨t,rfl⟩:=rx;obtain⟨t',rfl⟩:=ry;exact rule i j t t' s _ _ ⟨.int (g i j),H,I.tok _,⟨_,rfl⟩,q⟩
theorem opB0{f:Value->Value->Sem Value}{g:Int->Int->Bool}
  (rule:∀(i j:Int)(t u:Tok)(s:Shared)(Q:Value->Shared->Prop)(E:Value->Shared->Prop),Q (.bool (g i j)) s->wpAny (model X.prog X.w) X.A (f (.int i t) (.int j u)) Q E s):
  OpR X f (rI0 fun i j=>.bl (g i j)):=by
 intro pins s σ H x y v u Q I rx ry h;obtain⟨i,j,rfl,rfl,q⟩:=h;obtain⟨t,rfl⟩:=rx;obtain⟨t',rfl⟩:=ry;exact rule i j t t' s _ _ ⟨.bl (g i j),H,I,rfl,q⟩
def CDiv(i j:Int):Prop:=0<j/\j<1073741824
def Jj(i j:Int):Prop:=0<=j/\j<=1000000/\i.natAbs<2^64
def Cn(i j:Int):Prop:=(-(2^64)<i/\i<2^64)\/(-(2^64)<j/\j<2^64)
theorem Cn.ok{i j:Int}(h:Cn i j):IntMulOk i j:=by
 rcases h with⟨h1,h2⟩ |⟨h1,h2⟩
 ·exact .of_left (intBits_le_64 h1 h2)
 ·exact .of_right (intBits_le_64 h1 h2)
theorem Bh(k:Nat):(0:Int)<=2^k:=by
 rw[two_pow_cast];exact Int.natCast_nonneg _
theorem op_add:OpR X (fu .Add) (rI0 fun i j=>.int (i+j)):=opI0 fun _ _ _ _ _ _ _ q=>add_int q
theorem op_sub:OpR X (fu .Sub) (rI0 fun i j=>.int (i-j)):=opI0 fun _ _ _ _ _ _ _ q=>sub_int q
theorem op_mul:OpR X (fu .Mult) (rI Cn fun i j=>.int (i*j)):=opI fun _ _ _ _ _ _ _ hc q=>mul_int q hc.ok
theorem op_fdiv:OpR X (fu .FloorDiv) (rI CDiv fun i j=>.int (i/j)):=opI fun i j _ _ _ _ _ hc q=>by
 have h1:(0:Int)<j:=hc.1;have h2:j<1073741824:=hc.2;exact floordiv_int (by omega) (by rw[A1 i (by omega)];exact q) (.inl (PyProof.noPylong_small (by omega)))
theorem op_mod:OpR X (fu .Mod) (rI (fun _ j=>0<j) fun i j=>.int (i%j)):=opI fun i j _ _ _ _ _ hc q=>by
 have h1:(0:Int)<j:=hc;exact mod_int' (by omega) (by rw[Int.fmod_eq_emod_of_nonneg i (by omega)];exact q)
theorem op_pow:OpR X (fu .Pow) (rI Jj fun i j=>.int (i^j.toNat)):=opI fun _ _ _ _ _ _ _ hc q=>pow_int_small hc.1 hc.2.1 hc.2.2 q
theorem op_shl:OpR X (fu .LShift) (rI Jj fun i j=>.int (i*2^j.toNat)):=opI fun _ _ _ _ _ _ _ hc q=>lshift_int_small hc.1 hc.2.1 hc.2.2 q
theorem op_shr:OpR X (fu .RShift) (rI (fun _ j=>0<=j) fun i j=>.int (i/2^j.toNat)):=opI fun i j _ _ _ _ _ hc q=>
 rshift_int hc (by rw[A1 i (Bh _)];exact q)
theorem op_and:OpR X (fu .BitAnd) (rI0 fun i j=>.int (iD i j)):=opI0 fun _ _ _ _ _ _ _ q=>and_int q
theorem op_xor:OpR X (fu .BitXor) (rI0 fun i j=>.int (jV i j)):=opI0 fun _ _ _ _ _ _ _ q=>xor_int q
end
section
variable {X:Cx}{a b c:Expr}{ta tb tc:TE}{pos:Pos}
theorem vh{σ:St}{H:Hp}{Q:VK}{k k':Bool}(I:Inv X pins σ H s)(q:Q (.bl k) H)(e:k=k'):EP X pins σ Q (.bool k') s:=by
 subst e;exact⟨.bl k,H,I,rfl,q⟩
theorem op_lt:OpR X (cR .Lt) (rI0 fun i j=>.bl (decide (i<j))):=opB0 fun _ _ _ _ _ _ _ q=>lt_int q
theorem op_le:OpR X (cR .LtE) (rI0 fun i j=>.bl (decide (i<=j))):=opB0 fun _ _ _ _ _ _ _ q=>le_int q
theorem op_gt:OpR X (cR .Gt) (rI0 fun i j=>.bl (decide (j<i))):=opB0 fun _ _ _ _ _ _ _ q=>gt_int q
theorem op_ge:OpR X (cR .GtE) (rI0 fun i j=>.bl (decide (j<=i))):=opB0 fun _ _ _ _ _ _ _ q=>ge_int q
theorem EL:OpR X (cR .In) (fun x y H Q=>∃i j,x=.str i/\y=.str j/\Q (.bl (!(gH j i 0 j.length 1).isEmpty)) H):=by
 intro pins s σ H x y v u Q I rx ry h;obtain⟨i,j,rfl,rfl,q⟩:=h;obtain⟨t,rfl⟩:=rx;obtain⟨t',rfl⟩:=ry;exact in_str (vh I q rfl)
theorem op_isN:OpR X (cR .Is) (fun x y H Q=>y=.non/\Q (.bl (decide (x=.non))) H):=by
 intro pins s σ H x y v u Q I rx ry h;obtain⟨rfl,q⟩:=h;cases ry;refine is_none_gen (vh I q ?_);cases x<;>first
  | (cases rx;rfl)
  | (obtain⟨t,rfl⟩:=rx;rfl)
theorem op_notN:OpR X (cR .IsNot) (fun x y H Q=>y=.non/\Q (.bl (!decide (x=.non))) H):=by
 intro pins s σ H x y v u Q I rx ry h;obtain⟨rfl,q⟩:=h;cases ry;refine isnot_none_gen (vh I q ?_);cases x<;>first
  | (cases rx;rfl)
  | (obtain⟨t,rfl⟩:=rx;rfl)
theorem OpR.or{f:Value->Value->Sem Value}{r r':R2}(h:OpR X f r)(h':OpR X f r'):OpR X f (fun x y H Q=>r x y H Q\/r' x y H Q):=by
 intro pins s σ H x y v u Q I rx ry q;rcases q with q|q
 ·exact h pins s σ H x y v u Q I rx ry q
 ·exact h' pins s σ H x y v u Q I rx ry q
theorem pe_cmpR{op:CmpOp}{r:R2}(ho:OpR X (cR op) r)(ha:PE X a ta)(hb:PE X b tb)(hm:Jn op b=false):PE X (.Compare a [op] [b] pos) (tOp r ta tb):=by
 intro pins s σ H Q I h;exact wpAny_Compare1 (binT ha hb I h fun v u s2 x y H2 I2 rx ry q=>ho pins s2 σ H2 x y v u Q I2 rx ry q) hm
noncomputable def wD(t:TE):TT:=fun σ H Q=>t σ H fun x H'=>∃k,x=.bl k/\Q k H'
theorem pt_cmpR{op:CmpOp}{r:R2}(ho:OpR X (cR op) r)(ha:PE X a ta)(hb:PE X b tb)(hm:Jn op b=false):PT X (.Compare a [op] [b] pos) (wD (tOp r ta tb)):=by
 intro pins s σ H Q I h;refine wpAny_isTrue_Compare1 (thn (ha pins s σ H _ I h) fun v s1 ⟨x,H1,I1,r1,q1⟩=>thn (hb pins s1 σ H1 _ I1 q1) fun u s2 ⟨y,H2,I2,r2,q2⟩=>
  thn (ho pins s2 σ H2 x y v u _ I2 r1 r2 q2) fun c s3 ⟨z,H3,I3,r3,k,e,q3⟩=>?_) hm
 subst e;cases r3;exact cY ⟨H3,I3,q3⟩
noncomputable def ud(r r':R2)(ta tb tc:TE):TE:=fun σ H Q=>ta σ H fun x H1=>tb σ H1 fun y H2=>r x y H2 fun z H3=>∃k,z=.bl k/\
 (if k=true then tc σ H3 fun w' H4=>r' y w' H4 Q else Q (.bl false) H3)
theorem He{op op':CmpOp}{r r':R2}(ho:OpR X (cR op) r)(ho':OpR X (cR op') r')(ha:PE X a ta)(hb:PE X b tb)(hc:PE X c tc)
  (hm:lastMarks [op,op'] [b,c]=false:=by with_unfolding_all rfl):PE X (.Compare a [op,op'] [b,c] pos) (ud r r' ta tb tc):=by
 intro pins s σ H Q I h;refine Compare_chain (thn (ha pins s σ H _ I h) fun v s1 ⟨x,H1,I1,r1,q1⟩=>chain_link (thn (hb pins s1 σ H1 _ I1 q1) fun u s2 ⟨y,H2,I2,r2,q2⟩=>
  thn (ho pins s2 σ H2 x y v u _ I2 r1 r2 q2) fun d s3 ⟨z,H3,I3,r3,k,e,q3⟩=>?_)) hm
 subst e;cases r3;refine cY ?_;cases k with
 |false=>exact ite_ff ⟨.bl false,H3,I3,rfl,q3⟩
 |true=>exact ite_tt (chain_last (thn (hc pins s3 σ H3 _ I3 q3) fun w' s4 ⟨z',H4,I4,r4,q4⟩=>ho' pins s4 σ H4 y z' u w' Q I4 r2 r4 q4))
theorem G0{op op':CmpOp}{r r':R2}(ho:OpR X (cR op) r)(ho':OpR X (cR op') r')(ha:PE X a ta)(hb:PE X b tb)(hc:PE X c tc)
  (hm:lastMarks [op,op'] [b,c]=false:=by with_unfolding_all rfl):PT X (.Compare a [op,op'] [b,c] pos) (wD (ud r r' ta tb tc)):=by
 intro pins s σ H Q I h;refine isTrue_chain (thn (ha pins s σ H _ I h) fun v s1 ⟨x,H1,I1,r1,q1⟩=>test_link (thn (hb pins s1 σ H1 _ I1 q1) fun u s2 ⟨y,H2,I2,r2,q2⟩=>
  thn (ho pins s2 σ H2 x y v u _ I2 r1 r2 q2) fun d s3 ⟨z,H3,I3,r3,k,e,q3⟩=>?_)) hm
 subst e;cases r3;refine cY ?_;cases k with
 |false=>
  obtain⟨k',e',q'⟩:=q3;cases e';exact ite_ff ⟨H3,I3,q'⟩
 |true=>
  refine ite_tt (test_last (thn (hc pins s3 σ H3 _ I3 q3) fun w' s4 ⟨z',H4,I4,r4,q4⟩=>thn (ho' pins s4 σ H4 y z' u w' _ I4 r2 r4 q4) fun d' s5 ⟨z2,H5,I5,r5,k2,e2,q5⟩=>?_));subst e2;cases r5;exact cY ⟨H5,I5,q5⟩
def TruV(K:ah)(x:V)(H:Hp)(k:Bool):Prop:=
 match x with
 |.non=>k=false
 |.bl b=>k=b
 |.int i=>k=(i != 0)
 |.str y=>y.length<=sizeLine/\k=((y.length:Int) != 0)
 |.byt y=>y.size<=sizeLine/\k=((y.size:Int) != 0)
 |.ref p=>(∃xs,SqL K H p xs/\k= !xs.isEmpty)\/(∃xs,SqT K H p xs/\k= !xs.isEmpty)\/∃kvs,H p=some (.dK kvs)/\k= !kvs.isEmpty
 |_=>False
theorem BZ{κ:Type}{kvs:List (κ×V)}{vs:List (κ×Value)}(r:KV kvs vs):(!vs.isEmpty)= !kvs.isEmpty:=by
 cases r<;>rfl
theorem vb{xs:List V}(r:bD xs its):(!its.toArray.isEmpty)= !xs.isEmpty:=by
 cases r<;>simp
theorem ph:(sizeLine:Nat)<2^63:=by rw[A4];decide
theorem tru_ok:TruR X (fun x H Q=>∃k,TruV X.K x H k/\Q k H):=by
 intro pins s σ H x v Q I rx h;obtain⟨k,e,q⟩:=h;have hl:=ph;have hs:sizeLine=16777216:=A4;cases x with
 |non=>
  cases rx;have e':k=false:=e;subst e';exact truthy_none ⟨H,I,q⟩
 |bl b=>
  cases rx;have e':k=b:=e;subst e';exact cY ⟨H,I,q⟩
 |int i=>
  obtain⟨t,rfl⟩:=rx;have e':k=(i != 0):=e;subst e';exact PySem.P.truthy_int ⟨H,I,q⟩
 |str y=>
  obtain⟨t,rfl⟩:=rx;obtain⟨hy,e'⟩:y.length<=sizeLine/\k=((y.length:Int) != 0):=e;subst e';exact PySem.P.truthy_str (by omega) ⟨H,I.tok _,q⟩
 |byt y=>
  obtain⟨t,rfl⟩:=rx;obtain⟨hy,e'⟩:y.size<=sizeLine/\k=((y.size:Int) != 0):=e;subst e';exact PySem.W.truthy_bytes (by omega) ⟨H,I.tok _,q⟩
 |ref p=>
  cases rx;have e':(∃xs,SqL X.K H p xs/\k= !xs.isEmpty)\/(∃xs,SqT X.K H p xs/\k= !xs.isEmpty)\/∃kvs,H p=some (.dK kvs)/\k= !kvs.isEmpty:=e;rcases e' with⟨xs,hx,e'⟩ |⟨xs,hx,e'⟩ |⟨kvs,hx,e'⟩
  ·subst e'
   obtain⟨its,r,pl,hz⟩:=I.list hx;have hlen:=r.length;exact wpAny_truthy_list pl.isList (by simp only[au];omega) ⟨H,I.tok _,by rw[vb r];exact q⟩
  ·subst e'
   obtain⟨its,r,pl,hz⟩:=I.tuple hx;have hlen:=r.length;exact truthy_tuple pl (by simp only[au];omega) ⟨H,I.tok _,by rw[vb r];exact q⟩
  ·subst e'
   obtain⟨hz,hS,vs,r,m⟩:kvs.length<=sizeLine/\(p==fX)=false/\∃vs,KV kvs vs/\s.heap.DictOf (cn X.prog X.w) p vs:=I.hok p _ hx;have hlen:kvs.length=vs.length:=ly r;exact wpAny_truthy_dict hS m (by omega) ⟨H,I.tok _,by rw[BZ r];exact q⟩
 |_=>exact(show False from e).elim
theorem kI(ha:PE X a ta)(he:∀whole,isTrue a X.env whole=(do let v<-whole;standAt a.pos;holding [v] (truthy v))):
  PT X a (fun σ H Q=>ta σ H fun x H'=>∃k,TruV X.K x H' k/\Q k H'):=by
 intro pins s σ H Q I h;exact isTrue_plain (thn (ha pins s σ H _ I h) fun v s1 ⟨x,H1,I1,r1,q1⟩=>tru_ok pins s1 σ H1 x v Q I1 r1 q1) (he _)
theorem BJ:OpR X (fu .Add) (fun x y H Q=>∃i j,x=.str i/\y=.str j/\i.length+j.length<=sizeLine/\Q (.str (i++j)) H):=by
 intro pins s σ H x y v u Q I rx ry h;obtain⟨i,j,rfl,rfl,hz,q⟩:=h;obtain⟨t,rfl⟩:=rx;obtain⟨t',rfl⟩:=ry;exact add_str (fun t' tk=>⟨.str (i++j),H,I.tok _,⟨_,rfl⟩,q⟩) hz
theorem vals1{x:V}(r:bD [x] us):∃u,us=[u]/\RelV x u:=by
 cases r with
 |cons r1 r2=>cases r2;exact⟨_,rfl,r1⟩
theorem vals2{x y:V}(r:bD [x,y] us):∃u w',us=[u,w']/\RelV x u/\RelV y w':=by
 cases r with
 |cons r1 r2=>
  cases r2 with
  |cons r3 r4=>cases r4;exact⟨_,_,rfl,r1,r3⟩
theorem rW(hc:X.calm=true):fz X (.builtin "max") (fun xs H Q=>∃i j,xs=[.int i,.int j]/\Q (.int (if j>i then j else i)) H):=by
 intro pins s σ H xs us Q I r h;obtain⟨i,j,rfl,q⟩:=h;obtain⟨u,w',rfl,⟨t,rfl⟩,⟨t',rfl⟩⟩:=vals2 r;refine max_two_ints (I.ok.hd hc) fun h' tk k=>⟨_,H,I.kept k,?_,q⟩;by_cases hj:j>i
 ·rw[if_pos hj,if_pos hj];exact⟨_,rfl⟩
 ·rw[if_neg hj,if_neg hj];exact⟨_,rfl⟩
theorem rV(hc:X.calm=true):fz X (.builtin "min") (fun xs H Q=>∃i j,xs=[.int i,.int j]/\Q (.int (if j<i then j else i)) H):=by
 intro pins s σ H xs us Q I r h;obtain⟨i,j,rfl,q⟩:=h;obtain⟨u,w',rfl,⟨t,rfl⟩,⟨t',rfl⟩⟩:=vals2 r;refine min_two_ints (I.ok.hd hc) fun h' tk k=>⟨_,H,I.kept k,?_,q⟩;by_cases hj:j<i
 ·rw[if_pos hj,if_pos hj];exact⟨_,rfl⟩
 ·rw[if_neg hj,if_neg hj];exact⟨_,rfl⟩
theorem Fn:fz X (.type "int") (fun xs H Q=>(∃i,xs=[.int i]/\Q (.int i) H)\/∃k,xs=[.bl k]/\Q (.int (if k then 1 else 0)) H):=by
 intro pins s σ H xs us Q I r h;rcases h with⟨i,rfl,q⟩ |⟨k,rfl,q⟩
 ·obtain⟨u,rfl,t,rfl⟩:=vals1 r
  exact call_int_int ⟨.int i,H,I,⟨_,rfl⟩,q⟩
 ·obtain⟨u,rfl,r1⟩:=vals1 r
  cases r1;exact call_int_bool ⟨.int (if k then 1 else 0),H,I.tok _,⟨_,rfl⟩,q⟩
end
structure ObjM(h:Heap)(x dx C:Addr)(mA:Str->Option Value):Prop where
 obj:h.get? x=some (vH C dx)
 ns:h.Ns1 dx mA
 ne:dx≠x
theorem E1(n:h.Ns1 dx mA):∃od,h.get? dx=some od/\∀name,wx name od=some (mA name):=by
 obtain⟨o,es,ep,ho,hd,hk,_,hm⟩:=n;refine⟨o,ho,fun name=>?_⟩;have e:=hm name;unfold nsFind findBy at e;rw[<-Array.find?_toList]at e;unfold wx;rw[hd];dsimp only;split
 ·rename_i y q
  rw[q]at e;exact congrArg some e
 ·rename_i q
  rw[q]at e;have a:es.toList.any (·.refKey)=false:=by
   rw[List.any_eq_false];intro y hy;obtain⟨z,t,hkey⟩:=hk y (jm.mp hy);simp[DictEntry.refKey,hkey]
  have a':¬es.toList.any (·.refKey)=true:=by rw[a];exact ak
  rw[if_neg a'];exact congrArg some e
theorem ObjM.look{x:Addr}(I:ObjM h x dx C mA):∃od,PySem.W.InstAt h x (vH C dx) C (some od)/\∀name,wx name od=some (mA name):=
 let⟨od,ho,hl⟩:=E1 I.ns
 ⟨od,⟨I.obj,rfl,rfl,ho⟩,hl⟩
noncomputable def putF(f:Str)(v:V):List (Str×V)->List (Str×V)
 | []=>[(f,v)]
 | (g,x)::r=>if g=f then(g,v)::r else(g,x)::putF f v r
theorem vF.some_of{v:V}{o:Option Value}(r:vF (some v) o):∃u,o=some u/\RelV v u:=by
 cases o with
 |none=>exact(show False from r).elim
 |some u=>exact⟨u,rfl,r⟩
section
variable {P:Program}{w:World}{H H':Hp}{h h':Heap}{a C dx:Addr}{fs fs':List (Str×V)}
theorem ins_get(hok:HOk P w H h)(e:H a=some (.ins C dx fs)):∃mA,ObjM h a dx C mA/\(∀f,vF (fs.lookup f) (mA f))/\Cr mA (fs.map (·.1))/\fs.length<=1000/\H dx=some (.own a):=by
 obtain⟨d,z,ne,ob,mA,n,r,q⟩:=(show dQ P w H h a (.ins C dx fs)from hok a _ e);exact⟨mA,⟨ob,n,ne⟩,r,q,z,d⟩
end
structure Cls(K:ah)(C:Addr):Prop where
 pg:Jr K C Str.empty=true
 hd:PySem.W.hasDictIn K C=true
 po:PySem.W.plainOver K C=true
 sa:jS K (.ref C) "__setattr__"=some (some (.builtin "object.__setattr__"))
theorem Cls.get(c:Cls K C)(f:Str):Jr K C f=true:=c.pg
def Jf(K:ah)(C:Addr)(f:Str):Prop:=jS K (.ref C) f=some none
structure Meth(K:ah)(C:Addr)(m:Str)(f:Addr):Prop where
 at_:jS K (.ref C) m=some (some (.ref f))
 fn:PySem.W.isFn K (.ref f)=true
 kp:cN K (.ref f)=true
noncomputable def tFld(K:ah)(ta:TE)(f:Str):TE:=fun σ H Q=>ta σ H fun x H1=>∃a C dx fs v,x=.ref a/\H1 a=some (.ins C dx fs)/\Cls K C/\Jf K C f/\fs.lookup f=some v/\Q v H1
noncomputable def sFld(K:ah)(ta tv:TE)(f:Str):TS:=fun D σ H=>tv σ H fun y H1=>ta σ H1 fun x H2=>∃a C dx fs,x=.ref a/\H2 a=some (.ins C dx fs)/\Cls K C/\Jf K C f/\fs.length<1000/\
 D.nx σ (upd H2 a (.ins C dx (putF f y fs)))
section
variable {X:Cx}{pins:List (Addr×Obj)}{σ:St}{H:Hp}{s:Shared}{A:Around}{E:Value->Shared->Prop}{Q:Value->Shared->Prop}{c:Value}{b:Bool}
inductive mi (K:ah) (H:Hp):V->Value->Prop where
 |non:mi K H .non (.type "NoneType")
 |bl (x:Bool):mi K H (.bl x) (.type "bool")
 |int (i:Int):mi K H (.int i) (.type "int")
 |str (x:Str):mi K H (.str x) (.type "str")
 |flt (x:UInt64):mi K H (.flt x) (.type "float")
 |lst {a:Addr} {xs:List V} (e:H a=some (.lst xs)):mi K H (.ref a) (.type "list")
 |frz {a:Addr} {o:Obj} {xs:List V} (e:H a=some (.frz o (.lst xs))):mi K H (.ref a) (.type "list")
 |tup {a:Addr} {xs:List V} (e:H a=some (.tup xs)):mi K H (.ref a) (.type "tuple")
 |dK {a:Addr} {kvs:List (Key×V)} (e:H a=some (.dK kvs)):mi K H (.ref a) (.type "dict")
 |dT {a:Addr} {kvs:List (List Key×V)} (e:H a=some (.dT kvs)):mi K H (.ref a) (.type "dict")
 |ins {a C dx:Addr} {fs:List (Str×V)} (e:H a=some (.ins C dx fs)) (cl:Cls K C) (ha:jS K (.ref C) "__class__"=some (some (.builtin "object.__class__")))
   (hn:PySem.W.specialIn K (.builtin "object.__class__") "__get__"=some (some (.builtin "getset_descriptor.__get__"))) (htk:PySem.W.takesIn K (.builtin "object.__class__")=some true)
   (hm:PySem.W.mroIn K C (.type "object")=some true):mi K H (.ref a) (.ref C)
theorem w9{x:V}{t:Value}(I:Inv X pins σ H s)(rx:RelV x u)(ty:mi X.K H x t)(e:iB X.K t c=some b)(h:∀tk,Q (.bool b) {s with toks:=tk}):
  wpAny (model X.prog X.w) A (call (.builtin "isinstance") [u,c]) Q E s:=by
 cases ty with
 |non=>cases(show u=bz from rx);exact cV PySem.W.kitx_none I.kIn True.intro e (fun z=>nomatch z) h
 |bl y=>cases(show u=zb y from rx);exact cV PySem.W.kitx_bool I.kIn True.intro e (fun z=>nomatch z) h
 |int i=>obtain⟨t,q⟩:=(show ∃t,u=vG i t from rx);cases q;exact cV PySem.W.kitx_int I.kIn True.intro e (fun z=>nomatch z) h
 |str y=>obtain⟨t,q⟩:=(show ∃t,u=iy y t from rx);cases q;exact cV PySem.W.kitx_str I.kIn True.intro e (fun z=>nomatch z) h
 |flt y=>obtain⟨t,q⟩:=(show ∃t,u=Value.float y t from rx);cases q;exact cV PySem.W.kitx_float I.kIn True.intro e (fun z=>nomatch z) h
 | @lst a xs ea=>
  cases(show u=cD a from rx);obtain⟨_,_,n,_,h1⟩:=(show dQ X.prog X.w H s.heap a (.lst xs)from I.hok a _ ea);exact cV FL I.kIn ⟨_,h1,rfl⟩ e (fun z=>nomatch z) h
 | @frz a ob xs ea=>
  cases(show u=cD a from rx);obtain⟨_,_,_,n,_,h1⟩:=(show dQ X.prog X.w H s.heap a (.frz ob (.lst xs))from I.hok a _ ea);exact cV FL I.kIn ⟨_,h1,rfl⟩ e (fun z=>nomatch z) h
 | @tup a xs ea=>
  cases(show u=cD a from rx);obtain⟨_,_,_,p⟩:=(show dQ X.prog X.w H s.heap a (.tup xs)from I.hok a _ ea);obtain⟨o,h1,h2,_⟩:=p;exact cV PySem.W.kitx_tuple I.kIn ⟨o,h1,h2⟩ e (fun z=>nomatch z) h
 | @dK a kvs ea=>
  cases(show u=cD a from rx);obtain⟨_,_,vs,_,p⟩:=(show dQ X.prog X.w H s.heap a (.dK kvs)from I.hok a _ ea);obtain⟨o,es,ep,h1,h2,_⟩:=p;exact cV FN I.kIn ⟨o,h1,h2.1⟩ e (fun z=>nomatch z) h
 | @dT a kvs ea=>
  cases(show u=cD a from rx);obtain⟨_,_,xs,_,o,es,ep,h1,h2,_⟩:=(show dQ X.prog X.w H s.heap a (.dT kvs)from I.hok a _ ea);exact cV FN I.kIn ⟨o,h1,h2.1⟩ e (fun z=>nomatch z) h
 | @ins a C dx fs ea cl ha hn htk hm=>
  cases(show u=cD a from rx);obtain⟨mA,O,_⟩:=ins_get I.hok ea;obtain⟨od,J,_⟩:=O.look;exact cV (PySem.W.kitx_own (cl.get _) cl.hd ha hn htk hm) I.kIn J e (fun z=>nomatch z) h
end
structure jO(k:Nat)(A:Around):Prop where
 hd:A.handled=none
 dp:A.depth+3*k+5<ji
 un:A.units+16*k+200<cLine
theorem jO.mono(r:jO k A)(h:j<=k):jO j A:=⟨r.hd,by have :=r.dp;omega,by have :=r.un;omega⟩
theorem jO.deeper(r:jO (k+1) A)(env:Env):jO k (A.deeper env):=
 ⟨r.hd,by have :=r.dp;show A.depth+1+3*k+5<_;omega,by have :=r.un;show A.units+3+16*k+200<_;omega⟩
theorem jO.depth(r:jO k A):A.depth<ji:=by have :=r.dp;omega
theorem jO.units(r:jO k A):A.units+64<cLine:=by have :=r.un;omega
noncomputable def sT:TA:=fun _ H Q=>Q [] H
noncomputable def kH(ta:TE)(tr:TA):TA:=fun σ H Q=>ta σ H fun x H1=>tr σ H1 fun xs H2=>Q (x::xs) H2
section
variable {X:Cx}{e:Expr}{es:List Expr}{te:TE}{t:TA}{pos:Pos}
theorem lC:PA X [] sT:=fun _ _ _ _ H Q I h=>Calls.spliced_nil ⟨[],H,I,.nil,h⟩
theorem hV(ha:PE X e te)(hr:PA X es t)(hs:bZ (e::es) X.env=(false,eval e X.env)::bZ es X.env:=by rfl):PA X (e::es) (kH te t):=by
 intro pos pins s σ H Q I h;rw[hs];show wpAny _ _ (spliced ((false,eval e X.env)::backTo pos (bZ es X.env))) _ _ s;refine r9 (thn (ha pins s σ H _ I h) fun u s1 ⟨x,H1,I1,r1,q1⟩=>?_);exact thn (hr pos pins s1 σ H1 _ I1 q1) fun us s2 ⟨xs,H2,I2,r2,q2⟩=>⟨x::xs,H2,I2,.cons r1 r2,q2⟩
noncomputable def tTup(t:TA):TE:=fun σ H Q=>t σ H fun xs H1=>xs.length<=sizeLine/\∀p,H1 p=none->Q (.ref p) (upd H1 p (.tup xs))
noncomputable def tLst(t:TA):TE:=fun σ H Q=>t σ H fun xs H1=>xs.length<=sizeLine/\∀p,H1 p=none->Q (.ref p) (upd H1 p (.lst xs))
theorem pe_tup{x1}(h:PA X es t):PE X (.Tuple es x1 pos) (tTup t):=by
 intro pins s σ H Q I hq;refine wpAny_Tuple_spliced (thn (h pos pins s σ H _ I hq) fun us s1 ⟨xs,H1,I1,r,z,q⟩=>⟨by rw[<-r.length];exact z,?_⟩);have hf:H1 s1.heap.objs.size=none:=I1.hok.fresh (aB _);refine⟨.ref s1.heap.objs.size,upd H1 s1.heap.objs.size (.tup xs),I1.laid (t':=s1.toks) (fun b u e=>ag _ e) (aB _) ?_,rfl,q _ hf⟩;exact⟨z,us,r,⟨_,az _ rfl,rfl,_,rfl⟩⟩
theorem pe_lst(h:PA X es t):PE X (.List es pos) (tLst t):=by
 intro pins s σ H Q I hq;refine wpAny_List_spliced (thn (h pos pins s σ H _ I hq) fun us s1 ⟨xs,H1,I1,r,z,q⟩=>⟨by rw[<-r.length];exact z,?_⟩);have hf:H1 s1.heap.objs.size=none:=I1.hok.fresh (aB _);refine⟨.ref s1.heap.objs.size,upd H1 s1.heap.objs.size (.lst xs),I1.laid (t':=s1.toks) (fun b u e=>ag _ e) (aB _) ?_,rfl,q _ hf⟩;exact⟨z,us,0,r,az _ rfl⟩
end
noncomputable abbrev Sp:=List V->Hp->VK->XK->Prop
noncomputable abbrev CXT:=List Env->Hp->Shared->XK->Value->Shared->Prop
structure Env0(P:Program)(w:World)(K:ah)(mg:Str->Option Value)(base:Heap)(A:Around)(outer:List Env)(s:Shared)(H:Hp):Prop where
 frames:A.frames=some outer
 mod:Mod K mg base
 bs:∀b o,base.get? b=some o->s.heap.get? b=some o/\H b=none
 bsz:base.objs.size<=s.heap.objs.size
 yI:s.heap.FunFrames base outer
 frf:∀b∈frs outer,H b=none
 hok:HOk P w H s.heap
 bare:og s.gens
def CE(outer:List Env)(P:Program)(w:World)(H:Hp)(s:Shared)(Q:VK)(u:Value)(s':Shared):Prop:=
 ∃v H',s'.os=s.os/\og s'.gens/\Un (frs outer) [] H H' s.heap s'.heap/\HOk P w H' s'.heap/\RelV v u/\Q v H'
def CR(CX:CXT)(outer:List Env)(P:Program)(w:World)(H:Hp)(s:Shared)(Q:VK)(E:XK)(r:Result)(s':Shared):Prop:=
 match r with
 |.ok (.ret u)=>CE outer P w H s Q u s'
 |.ok _=>False
 |.error e=>CX outer H s E e s'
structure jH(P:Program)(w:World)(K:ah)(mg:Str->Option Value)(base:Heap)(CX:CXT)(k:Nat)(f:Addr)(fd:gy)(ps:List Str)(sp:Sp):Prop where
 len:∀vs H Q E,sp vs H Q E->vs.length=ps.length
 run:∀(A:Around)(outer:List Env)(s:Shared)(H:Hp)(args:Args)(us:List Value)(vs:List V)(Q:VK)(E:XK),jO k A->Env0 P w K mg base A outer s H->BindsTo s fd args (ps.zip us)->bD vs us->sp vs H Q E->
  iO (model P w) A (.call (.ref f) args) (CR CX outer P w H s Q E) s
section
variable {X:Cx}{pins:List (Addr×Obj)}{σ:St}{H:Hp}{s s':Shared}
theorem Inv.env0(I:Inv X pins σ H s):Env0 X.prog X.w X.K X.mg X.base X.A X.stack s H:=
 ⟨I.ok.frames,I.ok.mod,I.bs,aR I.ok.bsz I.sz,I.stack,I.xN,I.hok,I.bare⟩
theorem Inv.after{Q:VK}(I:Inv X pins σ H s)(h:CE X.stack X.prog X.w H s Q u s'):EP X pins σ Q u s':=by
 obtain⟨v,H',os,bare,un,hok,r,q⟩:=h;obtain⟨hh,g,d,t,os'⟩:=s';obtain rfl:os'=s.os:=os;exact⟨v,H',I.call (h':=hh) (g':=g) (d':=d) (t':=t) (ch:=[]) un hok bare (fun b z=>absurd z (by simp)),r,q⟩
end
noncomputable def zx(sp:Sp)(dvs:List V)(E:XK)(t:TA):TE:=fun σ H Q=>t σ H fun vs H1=>sp (vs++dvs) H1 Q E
noncomputable def tMeth(C:Addr)(m:Str)(sp:Sp)(dvs:List V)(E:XK)(ta:TE)(t:TA):TE:=fun σ H Q=>ta σ H fun x H1=>∃a dx fs,x=.ref a/\H1 a=some (.ins C dx fs)/\fs.lookup m=none/\
 t σ H1 fun vs H2=>sp (x::(vs++dvs)) H2 Q E
noncomputable def tMake(C:Addr)(sp:Sp)(dvs:List V)(E:XK)(t:TA):TE:=fun σ H Q=>t σ H fun vs H1=>∀x dx,H1 x=none->H1 dx=none->dx≠x->
 sp (.ref x::(vs++dvs)) (upd (upd H1 dx (.own x)) x (.ins C dx [])) (fun v H2=>v=.non/\Q (.ref x) H2) E
def Binds(K:ah)(fd:gy)(ps:List Str)(ds:List Value):Prop:=
 ∀(s:Shared)(us:List Value),K.In s.heap->(us++ds).length=ps.length->BindsTo s fd ⟨us,[]⟩ (ps.zip (us++ds))
theorem Binds.all{fd:gy}{ps:List Str}(h:∀us:List Value,us.length=ps.length->pK fd ⟨us,[]⟩=pure (ps.zip us)):Binds K fd ps []:=fun s us _ hl=>by
 rw[iu]at hl⊢;exact .of_eq (h us hl)
section
variable {X:Cx}{CX:CXT}{k:Nat}{f C:Addr}{fd:gy}{ps:List Str}{sp:Sp}{dvs:List V}{ds:List Value}{E:XK}{x m:Str}{p pos apos:Pos}{e o:Expr}{es:List Expr}{ta:TE}{t:TA}
structure Mk(K:ah)(C f:Addr):Prop where
 makes:PySem.W.makesIn K C=true
 init:jS K (.ref C) "__init__"=some (some (.ref f))
 fn:PySem.W.isFn K (.ref f)=true
 kp:cN K (.ref C)=true
end
structure tT(N P:List Str)(sc:Scope):Prop where
 kind:sc.kind=.function
 co:sc.isCoroutine=false
 gen:sc.isGenerator=false
 nd:N.Nodup
 pre:N.take P.length=P
 par:∀x∈P,sc.names.lookup x=some .local\/sc.names.lookup x=some .cell
 nofree:∀y∈sc.names,y.2≠.free
theorem xw{kindOf:Str->Option dU}:∀{binds:List (Str×Value)}{m:Str->Option Value},(∀v,(x,v)∉binds)->bindL kindOf binds m x=m x
 | [],_,_=>rfl
 | (n,v)::r,m,h=>by
  unfold bindL;rw[xw fun w hw=>h w (aM _ hw)];split
  ·have :x≠n:=by rintro rfl;exact h v aG
   simp[this]
  ·rfl
theorem xy{kindOf:Str->Option dU}:∀{binds:List (Str×Value)}{m:Str->Option Value},(∀v,(x,v)∉binds)->bindC kindOf binds m x=m x
 | [],_,_=>rfl
 | (n,v)::r,m,h=>by
  unfold bindC;rw[xy fun w hw=>h w (aM _ hw)];split
  ·rfl
  ·have :x≠n:=by rintro rfl;exact h v aG
   simp[this]
theorem xx{kindOf:Str->Option dU}{v:Value}:∀{P:List Str}{vs:List Value}{i:Nat}{m:Str->Option Value},P.Nodup->P[i]? =some x->vs[i]? =some v->kindOf x=some .local->
  bindL kindOf (P.zip vs) m x=some v
 | [],_,_,_,_,h,_,_=>by simp at h
 |_::_,[],_,_,_,_,h,_=>by simp at h
 |p::P,w::vs,0,m,nd,h1,h2,hk=>by
  simp at h1 h2;subst h1;subst h2;show bindL kindOf ((p,w)::P.zip vs) m p=_;unfold bindL;rw[xw fun v hv=>(bN.mp nd).1 (xD hv).1,if_pos hk];simp
 |p::P,w::vs,i+1,m,nd,h1,h2,hk=>by
  show bindL kindOf ((p,w)::P.zip vs) m x=_;unfold bindL;exact xx (i:=i) (bN.mp nd).2 (by simpa using h1) (by simpa using h2) hk
theorem xA{kindOf:Str->Option dU}{v:Value}:∀{P:List Str}{vs:List Value}{i:Nat}{m:Str->Option Value},P.Nodup->P[i]? =some x->vs[i]? =some v->kindOf x≠some .local->
  bindC kindOf (P.zip vs) m x=some v
 | [],_,_,_,_,h,_,_=>by simp at h
 |_::_,[],_,_,_,_,h,_=>by simp at h
 |p::P,w::vs,0,m,nd,h1,h2,hk=>by
  simp at h1 h2;subst h1;subst h2;show bindC kindOf ((p,w)::P.zip vs) m p=_;unfold bindC;rw[xy fun v hv=>(bN.mp nd).1 (xD hv).1,if_neg hk];simp
 |p::P,w::vs,i+1,m,nd,h1,h2,hk=>by
  show bindC kindOf ((p,w)::P.zip vs) m x=_;unfold bindC;exact xA (i:=i) (bN.mp nd).2 (by simpa using h1) (by simpa using h2) hk
noncomputable def start(N:List Str)(vs:List V):St:=vs.map some++bh (N.length-vs.length) none
noncomputable def yN(CX:CXT)(P:Program)(w:World)(K:ah)(mg:Str->Option Value)(base:Heap)(N:List Str)(qual:Str)(scope:Scope)(f:Addr)(cd:Value)(A:Around)(outer:List Env)(s:Shared)(H:Hp)(E:XK):Cx where
 prog:=P
 w:=w
 K:=K
 mg:=mg
 base:=base
 A:=A.deeper (envOfC qual scope s.heap.objs.size f cd)
 N:=N
 s₀:=s
 H₀:=H
 env:=envOfC qual scope s.heap.objs.size f cd
 outer:=outer
 stack:=envOfC qual scope s.heap.objs.size f cd::outer
 ex:=[]
 calm:=true
 fn:=fun _=>true
 pn:=[]
 xe:=fun e s'=>wpAny (model P w) (A.deeper (envOfC qual scope s.heap.objs.size f cd)) (leaving (envOfC qual scope s.heap.objs.size f cd) e) (fun _ s''=>CX outer H s E e s'') (fun e' s''=>CX outer H s E e' s'') s'
theorem AD(h:sc.names.lookup x=some .cell):∃c,(cC n sc.names []).lookup x=some c:=by
 have q:=AX sc.names n [] (.inl h);exact eR.mp q
theorem E9{CX:CXT}{ps:List Str}{cd:Value}{outer:List Env}{s1:Shared}{H:Hp}{E:XK}{vs:List V}
  (S:tT N ps scope)(hd:A.handled=none)(e0:Env0 P w K mg base A outer s H)(hl:vs.length=ps.length)(r:bD vs us)
  (x:InCallC s s.heap.objs.size (bindL (envOfC qual scope s.heap.objs.size f cd).kindOf (ps.zip us) fun _=>none) (cC (s.heap.objs.size+1) scope.names []) (bindC (envOfC qual scope s.heap.objs.size f cd).kindOf (ps.zip us) fun _=>none) s1):
  Inv (yN CX P w K mg base N qual scope f cd A outer s H E) [] (start N vs) H s1:=by
 have hpl:ps.length<=N.length:=by have :=congrArg lO S.pre;rw[c9]at this;omega
 obtain⟨h1,tk,rfl,hk⟩:=x.done;have noA:∀b:Addr,b∉(yN CX P w K mg base N qual scope f cd A outer s H E).ex:=fun b z=>absurd (show b∈([]:List Addr)from z) (by simp);refine⟨⟨e0.mod,S.kind,rfl,rfl,aB _,fun y z c h1 h2=>?_,fun y hy=>?_,fun y c _ h=>?_,fun _=>hd,Around.frames_deeper e0.frames,.inr ⟨rfl,rfl⟩,fun b z=>absurd z (noA b),e0.bs,e0.bsz,fun b _ _=>noA b,fun b z=>absurd z (noA b),e0.yI,e0.frf⟩,
  rfl,e0.bare,Un.kept hk,⟨_,x.toInCall.ns,fun i y v h1 h2 h3=>?_⟩,fun y c h=>⟨_,x.cell y c h⟩,e0.hok.fresh (aB _),fun y c h=>?_,fun p hp=>absurd (show p∈([]:List (Addr×Obj))from hp) (by simp),e0.hok.kept hk,?_⟩
 ·exact name_of_addr x.apart (bp h1) (bp h2)
 ·have hy:scope.names.lookup y=some .cell\/scope.names.lookup y=some .free:=hy
  rcases hy with hy|hy
  ·exact AD hy
  ·exact absurd rfl (S.nofree _ (bp hy))
 ·exact ku (x.above y c (bp h))
 ·have hi:i<vs.length:=by
   unfold start at h2;by_cases hi:i<vs.length
   ·exact hi
   ·rw[bS (by simpa using hi)]at h2
    rw[List.getElem?_replicate]at h2;split at h2<;>cases h2
  have ha:vs[i]? =some v:=by
   unfold start at h2;rw[cF (by simpa using hi),aq]at h2;cases e:vs[i]? with
   |none=>rw[e]at h2;cases h2
   |some a=>rw[e]at h2;cases h2;rfl
  obtain⟨u,hu,rv⟩:=r.get ha;have hp:ps[i]? =some y:=by
   rw[<-S.pre,Bb (by omega)];exact h1
  have ndP:ps.Nodup:=by rw[<-S.pre];exact S.nd.sublist (tX _ _)
  refine⟨u,rv,?_⟩;rcases S.par y (aD hp)with k|k
  ·exact .inl ⟨k,xx ndP hp hu k⟩
  ·obtain⟨c,e⟩:=AD (n:=s.heap.objs.size+1) k
   refine .inr ⟨.inl k,c,e,?_⟩;have q:=x.cell y c e;rw[xA ndP hp hu (by show scope.names.lookup y≠_;rw[k];decide)]at q;exact q
 ·exact e0.hok.fresh (ku (x.above y c (bp h)))
 ·unfold start
  show _=N.length;rw[ba,ai,i9];omega
theorem fn_of{CX:CXT}{name:Str}{params:Arguments}{body:List Stmt}{kV:Value}{an:Option Addr}
  {ps:List Str}{sp:Sp}(lk:K.lookup f=some ⟨oc,od,.func (aF name qual params body scope dV kV doc pm an cdv ct),osl⟩)(hcd:ff K cdv qual=true)(S:tT N ps scope)
  (len:∀vs H Q E,sp vs H Q E->vs.length=ps.length)
  (hbody:∀(A:Around)(outer:List Env)(s:Shared)(H:Hp)(vs:List V)(Q:VK)(E:XK),jO k (A.deeper (envOfC qual scope s.heap.objs.size f cdv))->sp vs H Q E->
   ∃t,PSs (yN CX P w K mg base N qual scope f cdv A outer s H E) body t/\t {nx:=fun _ H'=>Q .non H',rt:=Q} (start N vs) H):
  jH P w K mg base CX (k+1) f (aF name qual params body scope dV kV doc pm an cdv ct) ps sp:=by
 refine⟨len,fun A outer s H args us vs Q E hr e0 hb r hsp=>?_⟩;have hl:=len _ _ _ _ hsp;have KX:K.In s.heap:=e0.mod.kin.keeps fun b o e=>(e0.bs b o e).1;have lim:s.heap.NoLimit:=e0.mod.nolimit.keeps fun b o e=>(e0.bs b o e).1;have hkind:∀y∈ps.zip us,scope.names.lookup y.1=some .local\/(scope.names.lookup y.1=some .cell/\((cC (s.heap.objs.size+1) scope.names []).lookup y.1).isSome=true):=fun⟨n,v⟩ hy=>by
  rcases S.par n (xD hy).1 with q|q
  ·exact .inl q
  ·exact .inr ⟨q,AX _ _ _ (.inl q)⟩
 refine codeAny_call_function hr.depth (KX _ _ lk) rfl S.co S.gen rfl (PySem.W.codeRec_of KX hcd) (hb _ _ _ _ ?_);refine wpAny_newFunctionEnv_cells S.kind hkind fun env he s1 x=>?_;subst he;refine⟨lim.keeps x.toInCall.keep,codeAny_func ?_⟩;obtain⟨t,ht,hq⟩:=hbody A outer s H vs Q E (hr.deeper _) hsp;have I:Inv (yN CX P w K mg base N qual scope f cdv A outer s H E) [] (start N vs) H s1:=E9 S hr.hd e0 hl r x;refine fW (ht [] s1 (start N vs) H _ I hq) (fun fl s' hs=>?_) fun e s' hs=>hs;have fin:∀{σ':St}{H':Hp}{v:V}{u:Value},Inv (yN CX P w K mg base N qual scope f cdv A outer s H E) [] σ' H' s'->RelV v u->Q v H'->CE outer P w H s Q u s':=
  fun{σ' H' v u} J rv q=>⟨v,H',J.os,J.bare,J.base,J.hok,rv,q⟩
 cases fl with
 |ret u=>
  obtain⟨v,σ',H',J,rv,q⟩:=hs;exact fin J rv q
 |next =>
  obtain⟨σ',H',J,q⟩:=hs;exact fin (v:=V.non) (u:=bz) J rfl q
 |brk=>
  obtain⟨_,_,_,q⟩:=hs;exact kz q
 |cont=>
  obtain⟨_,_,_,q⟩:=hs;exact kz q
section
variable {X:Cx}{x:Str}{p pos:Pos}{e:Expr}{es:List Expr}{t:TA}{id T:String}{r:List V->Hp->VK->Prop}
noncomputable def tCB(r:List V->Hp->VK->Prop)(t:TA):TE:=fun σ H Q=>t σ H fun vs H1=>r vs H1 Q
theorem Hg(hc:fz X (.builtin id) r)(hg:Gl X x)(hm:X.mg x=none)(hv:eJ x=some (.builtin id))(ha:PA X (e::es) t)(hn:x≠"__name__":=by decide) (hdb:(x==("__debug__":Str))=false:=by decide)
  (he:bZ (e::es) X.env=(false,eval e X.env)::bZ es X.env:=by rfl) (hpl:(backTo pos (bZ es X.env)).any (·.1)=false:=by rfl):PE X (.Call (.Name x p) (e::es) [] pos) (tCB r t):=by
 intro pins s σ H Q I h;refine iZ (jy I hg hm hv ?_ hn hdb);exact pN (thn (ha pos pins s σ H _ I h) fun us s1 ⟨vs,H1,I1,r1,q1⟩=>hc pins s1 σ H1 vs us Q I1 r1 q1) he hpl
theorem EG(hc:fz X (.type T) r)(hg:Gl X x)(hm:X.mg x=none)(hv:eJ x=some (.type T))(ha:PA X (e::es) t)(hn:x≠"__name__":=by decide) (hdb:(x==("__debug__":Str))=false:=by decide)
  (he:bZ (e::es) X.env=(false,eval e X.env)::bZ es X.env:=by rfl) (hpl:(backTo pos (bZ es X.env)).any (·.1)=false:=by rfl):PE X (.Call (.Name x p) (e::es) [] pos) (tCB r t):=by
 intro pins s σ H Q I h;refine iZ (jy I hg hm hv ?_ hn hdb);exact cI (thn (ha pos pins s σ H _ I h) fun us s1 ⟨vs,H1,I1,r1,q1⟩=>hc pins s1 σ H1 vs us Q I1 r1 q1) he hpl
end
end L2
variable {X:L2.Cx}{H H' H1 H2:L2.Hp}{σ:L2.St}{y:L2.V}{cs xs ys zs:List L2.V}
namespace HT
open PySem PyProof.Rows
section
open PySem.SeqAt
open PySem.AutoSeq1 (wpAny_loadPart')
open PySem.MeetsSeq PySem.MeetsSeq2 PySem.MeetsSeq3
end
section
variable {prog:Program}{w:World}{A:Around}{E:Value->Shared->Prop}{s:Shared}
noncomputable def sIx(n d:Nat):Option Int->Nat
 |none=>d
 |some v=>if v<0 then(v+(n:Int)).toNat else min v.toNat n
theorem uA(n d:Nat):sIx n d none=d:=rfl
theorem pX(n d k:Nat):sIx n d (some (k:Int))=min k n:=by
 show(if(k:Int)<0 then((k:Int)+(n:Int)).toNat else min (k:Int).toNat n)=min k n;rw[if_neg (by omega),aH]
theorem GA(n d:Nat)(hd:d<=n)(o:Option Int):sIx n d o<=n:=by
 cases o with
 |none=>exact hd
 |some v=>
  show(if v<0 then(v+(n:Int)).toNat else min v.toNat n)<=n;by_cases hv:v<0
  ·rw[if_pos hv];omega
  ·rw[if_neg hv];exact Nat.min_le_right _ _
theorem clip_eq(v:Int)(n d:Nat):(if v<0 then max (v+(n:Int)) 0 else min v (n:Int))=((sIx n d (some v):Nat):Int):=by
 show(if v<0 then max (v+(n:Int)) 0 else min v (n:Int))=(((if v<0 then(v+(n:Int)).toNat else min v.toNat n):Nat):Int);by_cases hv:v<0
 ·simp only[if_pos hv];omega
 ·simp only[if_neg hv];omega
end
end HT
namespace L2
open PySem PySem.Spec PyProof.Rows
noncomputable abbrev TO:=St->Hp->(Option Int->Hp->Prop)->Prop
def PO(X:Cx)(e:Option Expr)(t:TO):Prop:=
 ∀(pins:List (Addr×Obj))(s:Shared)(σ:St)(H:Hp)(Q:Option Int->Hp->Prop),Inv X pins σ H s->t σ H Q->
  wpAny (model X.prog X.w) X.A (evalPart e X.env) (fun u s'=>∃o H',Inv X pins σ H' s'/\IsPart u o/\Q o H') X.xe s
noncomputable def xJ:TO:=fun _ H Q=>Q none H
noncomputable def F9(t:TE):TO:=fun σ H Q=>t σ H fun x H1=>∃i,x=.int i/\Q (some i) H1
theorem intsAre_of:∀{us:List Value},bD (ns.map V.int) us->bW us ns:=by
 induction ns with
 |nil=>intro us r;rw[j6]at r;cases r;exact .nil
 |cons n ns ih=>
  intro us r;rw[bK]at r;cases r with
  |cons r1 r2=>
   obtain⟨t,e⟩:=r1;subst e;exact .cons n t (ih r2)
section
variable {X:Cx}{e:Expr}{te:TE}{lo hi:Option Expr}{tl th:TO}{pos p2:Pos}
theorem po_none:PO X none xJ:=by
 intro pins s σ H Q I h;rw[evalPart_none];exact aj ⟨none,H,I,.none,h⟩
theorem po_some(h:PE X e te):PO X (some e) (F9 te):=by
 intro pins s σ H Q I hw;rw[evalPart_some];refine thn (h pins s σ H _ I hw) fun u s1 ⟨x,H1,I1,r1,q1⟩=>?_;obtain⟨i,rfl,q⟩:=q1;obtain⟨t,rfl⟩:=r1;exact⟨some i,H1,I1,.int i t,q⟩
def SlR(X:Cx)(r:V->Option Int->Option Int->Hp->VK->Prop):Prop:=
 ∀(pins:List (Addr×Obj))(s:Shared)(σ:St)(H:Hp)(x:V)(v vl vu:Value)(lo hi:Option Int)(sl:Addr)(Q:VK),Inv X pins σ H s->RelV x v->s.heap.IsSliceOf sl vl vu .none->IsPart vl lo->IsPart vu hi->r x lo hi H Q->
  ∃T id,typeLookup (.type T) "__getitem__"=pure (some (.builtin id))/\s.TypeIs v T/\wpAny (model X.prog X.w) X.A (getItem v (.ref sl)) (EP X pins σ Q) X.xe s
theorem SlR.or{r r':V->Option Int->Option Int->Hp->VK->Prop}(h:SlR X r)(h':SlR X r'):SlR X (fun x lo hi H Q=>r x lo hi H Q\/r' x lo hi H Q):=by
 intro pins s σ H x v vl vu lo hi sl Q I rx hs pl pu q;rcases q with q|q
 ·exact h pins s σ H x v vl vu lo hi sl Q I rx hs pl pu q
 ·exact h' pins s σ H x v vl vu lo hi sl Q I rx hs pl pu q
noncomputable def tSl(r:V->Option Int->Option Int->Hp->VK->Prop)(te:TE)(tl th:TO):TE:=fun σ H Q=>te σ H fun x H1=>tl σ H1 fun l H2=>th σ H2 fun u H3=>r x l u H3 Q
theorem G9{r:V->Option Int->Option Int->Hp->VK->Prop}(hr:SlR X r)(he:PE X e te)(hl:PO X lo tl)(hu:PO X hi th):PE X (.Subscript e (.Slice lo hi none p2) pos) (tSl r te tl th):=by
 intro pins s σ H Q I h;refine Subscript_ (thn (he pins s σ H _ I h) fun v s1 ⟨x,H1,I1,r1,q1⟩=>?_);refine wpAny_Slice (thn (hl pins s1 σ H1 _ I1 q1) fun vl s2 ⟨l,H2,I2,pl,q2⟩=>thn (hu pins s2 σ H2 _ I2 q2) fun vu s3 ⟨u,H3,I3,pu,q3⟩=>?_);rw[evalPart_none];refine aj ?_;have I4:Inv X pins σ H3 {s3 with heap:=s3.heap.push {cls:=.type "slice",data:=.fields #[vl,vu,.none]}}:=I3.kept (t':=s3.toks) fun b ob q=>ag _ q;obtain⟨T,id,hT,ht,hg⟩:=hr pins {s3 with heap:=s3.heap.push {cls:=.type "slice",data:=.fields #[vl,vu,.none]}} σ H3 x v vl vu l u s3.heap.objs.size Q I4 r1 (Heap.IsSliceOf.new ..) pl pu q3;show wpAny (model X.prog X.w) X.A (Jm e (.Slice lo hi none p2) v (.ref s3.heap.objs.size)) (EP X pins σ Q) X.xe {s3 with heap:=s3.heap.push {cls:=.type "slice",data:=.fields #[vl,vu,.none]}};exact tail_any (ops:=[.ref s3.heap.objs.size,v]) ht hT hg (by with_unfolding_all rfl)
noncomputable def pE(xs:List V)(lo hi:Option Int):List V:=(xs.drop (HT.sIx xs.length 0 lo)).take (HT.sIx xs.length xs.length hi-HT.sIx xs.length 0 lo)
theorem Az(xs:List V)(lo hi:Option Int):(pE xs lo hi).length<=xs.length:=by
 unfold pE;rw[c9,da];omega
noncomputable def rSlT(K:ah):V->Option Int->Option Int->Hp->VK->Prop:=fun x lo hi H Q=>∃a xs,x=.ref a/\SqT K H a xs/\
 ¬(HT.sIx xs.length 0 lo=0/\HT.sIx xs.length xs.length hi=xs.length)/\∀p,H p=none->Q (.ref p) (upd H p (.tup (pE xs lo hi)))
end
noncomputable def ixN(n:Nat)(i:Int):Option Nat:=if 0<=i then(if i<n then some i.toNat else none)else if -(n:Int)<=i then some (i+n).toNat else none
noncomputable def atI{α:Type}(xs:List α)(i:Int):Option α:=(ixN xs.length i).bind fun j=>xs[j]?
theorem Dv{i:Int}(h:ixN n i=some j):seqIndex? i n=some j/\j<n∧-(n:Int)<=i/\i<n:=by
 unfold ixN at h;by_cases h0:0<=i
 ·rw[if_pos h0]at h
  by_cases h1:i<n
  ·rw[if_pos h1]at h
   have e:i.toNat=j:=aW h;exact⟨by rw[tm h0 h1,e],by omega,by omega,h1⟩
  ·rw[if_neg h1]at h;cases h
 ·rw[if_neg h0]at h
  by_cases h1: -(n:Int)<=i
  ·rw[if_pos h1]at h
   have e:(i+n).toNat=j:=aW h;exact⟨by rw[seqIndex_neg (by omega) h1,e],by omega,h1,by omega⟩
  ·rw[if_neg h1]at h;cases h
theorem yV{α:Type}{xs:List α}{i:Int}{v:α}(h:atI xs i=some v):∃j,seqIndex? i xs.length=some j/\xs[j]? =some v/\j<xs.length∧-(xs.length:Int)<=i/\i<xs.length:=by
 unfold atI at h;cases e:ixN xs.length i with
 |none=>rw[e]at h;cases h
 |some j=>
  rw[e]at h;obtain⟨h1,h2,h3,h4⟩:=Dv e;exact⟨j,h1,h,h2,h3,h4⟩
theorem cG{α:Type}{xs:List α}{v:α}(h:xs[j]? =some v):atI xs (j:Int)=some v:=by
 have hj:j<xs.length:=(aC.mp h).1;have e:ixN xs.length (j:Int)=some j:=by
  unfold ixN;rw[if_pos (by omega),if_pos (by omega)];simp
 unfold atI;rw[e];exact h
def D1(b:Expr):Prop:=∀o i,subscripted b false o i=operate [o,i] (getItem o i)
def IxR(X:Cx)(r:R2):Prop:=
 ∀(value slice:Expr)(pins:List (Addr×Obj))(s:Shared)(σ:St)(H:Hp)(x y:V)(v u:Value)(Q:VK),Inv X pins σ H s->RelV x v->RelV y u->r x y H Q->
  subscripted slice false v u=operate [v,u] (getItem v u)->wpAny (model X.prog X.w) X.A (Jm value slice v u) (EP X pins σ Q) X.xe s
def MtR(X:Cx)(id:String)(r:V->List V->Hp->VK->Prop):Prop:=
 ∀(pins:List (Addr×Obj))(s:Shared)(σ:St)(H:Hp)(x:V)(xs:List V)(v:Value)(us:List Value)(Q:VK),Inv X pins σ H s->RelV x v->bD xs us->r x xs H Q->
  wpAny (model X.prog X.w) X.A (call (.builtin id) (v::us)) (EP X pins σ Q) X.xe s
section
variable {X:Cx}{a b:Expr}{ta tb:TE}{pos:Pos}
theorem IxR.or{r r':R2}(h:IxR X r)(h':IxR X r'):IxR X (fun x y H Q=>r x y H Q\/r' x y H Q):=by
 intro value slice pins s σ H x y v u Q I rx ry q hs;rcases q with q|q
 ·exact h value slice pins s σ H x y v u Q I rx ry q hs
 ·exact h' value slice pins s σ H x y v u Q I rx ry q hs
theorem MtR.or{id:String}{r r':V->List V->Hp->VK->Prop}(h:MtR X id r)(h':MtR X id r'):MtR X id (fun x xs H Q=>r x xs H Q\/r' x xs H Q):=by
 intro pins s σ H x xs v us Q I rx rs q;rcases q with q|q
 ·exact h pins s σ H x xs v us Q I rx rs q
 ·exact h' pins s σ H x xs v us Q I rx rs q
theorem pe_ix{r:R2}(hr:IxR X r)(ha:PE X a ta)(hb:PE X b tb)(hs:D1 b):PE X (.Subscript a b pos) (tOp r ta tb):=by
 intro pins s σ H Q I h;exact Subscript_ (binT ha hb I h fun v u s2 x y H2 I2 rx ry q=>hr a b pins s2 σ H2 x y v u Q I2 rx ry q (hs _ _))
noncomputable def rIxL(K:ah):R2:=fun x y H Q=>∃p xs i v,x=.ref p/\y=.int i/\SqL K H p xs/\atI xs i=some v/\Q v H
noncomputable def rIxT(K:ah):R2:=fun x y H Q=>∃p xs i v,x=.ref p/\y=.int i/\SqT K H p xs/\atI xs i=some v/\Q v H
noncomputable def rIxS:R2:=fun x y H Q=>∃z i c,x=.str z/\y=.int i/\z.length<=sizeLine/\atI z.cps.toList i=some c/\Q (.str ⟨#[c]⟩) H
theorem ix_list:IxR X (rIxL X.K):=by
 intro value slice pins s σ H x y v u Q I rx ry h hs;obtain⟨p,xs,i,z,rfl,rfl,hq,he,q⟩:=h;cases rx;obtain⟨t,rfl⟩:=ry;obtain⟨its,r,pl,hz⟩:=I.list hq;obtain⟨j,h1,h2,h3,h4,h5⟩:=yV he;obtain⟨w,ew,rw'⟩:=r.get h2;have hl:=r.length;have hn:=ph;have fin:EP X pins σ Q w s:=⟨z,H,I,rw',q⟩;by_cases h0:0<=i
 ·have hj:i.toNat=j:=by
   rw[tm h0 h5]at h1;exact aW h1
  exact item_listR pl.isList h0 (by omega) (by rw[hj];simpa using ew) fin hs
 ·have hj:(i+(its.toArray.size:Int)).toNat=j:=by
   rw[seqIndex_neg (by omega) h4]at h1;rw[au,<-hl];exact aW h1
  exact qS (x:=w) pl.isList.typeIs slot_list_getitem.lookup
   (wpAny_getItem_list_neg (Q:=fun r s'=>r=w/\EP X pins σ Q r s') pl.isList (by omega) (by rw[au]<;>omega) (by omega) (by rw[hj];simpa using ew) ⟨rfl,fin⟩) hs
theorem ix_tup:IxR X (rIxT X.K):=by
 intro value slice pins s σ H x y v u Q I rx ry h hs;obtain⟨p,xs,i,z,rfl,rfl,hq,he,q⟩:=h;cases rx;obtain⟨t,rfl⟩:=ry;obtain⟨its,r,pl,hz⟩:=I.tuple hq;obtain⟨j,h1,h2,h3,h4,h5⟩:=yV he;obtain⟨w,ew,rw'⟩:=r.get h2;have hl:=r.length;have hn:=ph;have fin:EP X pins σ Q w s:=⟨z,H,I,rw',q⟩;exact qS (x:=w) pl.typeIs slot_tuple_getitem.lookup
  (getItem_tuple (j:=j) (Q:=fun r s'=>r=w/\EP X pins σ Q r s') pl (by omega) (by omega) (by rw[au,<-hl];exact h1) (by simpa using ew) ⟨rfl,fin⟩) hs
theorem ix_str:IxR X rIxS:=by
 intro value slice pins s σ H x y v u Q I rx ry h hs;obtain⟨z,i,c,rfl,rfl,hz,he,q⟩:=h;obtain⟨t,rfl⟩:=rx;obtain⟨t',rfl⟩:=ry;obtain⟨j,h1,h2,h3,h4,h5⟩:=yV he;have hl:z.cps.toList.length=z.length:=by simp[AW]
 rw[hl]at h1 h4 h5;have hn:=ph;exact tail_any (typeIs_str s z t) slot_str_getitem.lookup (getItem_str (c:=c) (by
  have e1:decide (i< -(2^63:Int))=false:=decide_eq_false (by omega);have e2:decide (i≥ 2^63)=false:=decide_eq_false (by omega);rw[e1,e2,mf]) (by rw[h1];simpa using h2) ⟨.str ⟨#[c]⟩,H,I.tok _,⟨_,rfl⟩,q⟩) hs
noncomputable def rIx(K:ah):R2:=fun x y H Q=>rIxL K x y H Q\/rIxT K x y H Q\/rIxS x y H Q
theorem ix_seq:IxR X (rIx X.K):=ix_list.or (ix_tup.or ix_str)
theorem BQ(its:List Value)(n j:Nat)(u:Value):aS (·.setIfInBounds j u) {cls:=.type "list",data:=.seq its.toArray n}={cls:=.type "list",data:=.seq (its.set j u).toArray n}:=by
 simp[aS]
theorem Inv.lst{pins:List (Addr×Obj)}{σ:St}{H:Hp}{s:Shared}{p:Addr}{xs:List V}(I:Inv X pins σ H s)(h:H p=some (.lst xs)):
  ∃(its:List Value)(n:Nat),bD xs its/\s.heap.get? p=some {cls:=.type "list",data:=.seq its.toArray n}/\xs.length<=sizeLine:=by
 obtain⟨z,its,n,r,e⟩:=I.hok p _ h;exact⟨its,n,r,e,z⟩
theorem Inv.lstUpd{p:Addr}{n':Nat}{f:Obj->Obj}(I:Inv X pins σ H s)(h:H p=some (.lst xs))
  (ho:s.heap.get? p=some {cls:=.type "list",data:=.seq its.toArray n}) (hf:f {cls:=.type "list",data:=.seq its.toArray n}={cls:=.type "list",data:=.seq its'.toArray n'}) (r:bD ys its') (hz:ys.length<=sizeLine) (t:Nat):
  Inv X pins σ (upd H p (.lst ys)) {s with heap:=s.heap.update p f,toks:=t}:=by
 have e:(s.heap.update p f).get? p=some {cls:=.type "list",data:=.seq its'.toArray n'}:=by
  rw[cj f ho (by rw[hf]<;>rfl),hf]
 refine I.write (x:=p) (e:=p) (by rw[h];trivial) (.inl rfl) (fun b u hb q=>(aT _ _ (bQ hb)).trans q) ⟨_,e⟩ ?_;exact⟨hz,its',n',r,e⟩
noncomputable def C2:V->V->V->Hp->(Hp->Prop)->Prop:=fun o i v H Q=>∃p xs k j,o=.ref p/\i=.int k/\H p=some (.lst xs)/\ixN xs.length k=some j/\Q (upd H p (.lst (xs.set j v)))
theorem set_list:PSet X C2:=by
 intro pins s σ H o i v ov iv u Q I ro ri rv h;obtain⟨p,xs,k,j,rfl,rfl,hp,hj,q⟩:=h;cases ro;obtain⟨t,rfl⟩:=ri;obtain⟨its,n,r,ho,hz⟩:=I.lst hp;obtain⟨h1,h2,h3,h4⟩:=Dv hj;have hl:=r.length;have hn:=ph;have I':Inv X pins σ (upd H p (.lst (xs.set j v))) {s with heap:=s.heap.update p (aS (·.setIfInBounds j u))}:=
  I.lstUpd hp ho (BQ its n j u) (r.set rv j) (by rw[List.length_set];exact hz) s.toks
 by_cases h0:0<=k
 ·have hk:k.toNat=j:=by
   rw[tm h0 h4]at h1;exact aW h1
  exact PySem.W.ki_setAt ho h0 (by omega) (by rw[au,<-hl];exact h4) (by rw[hk];exact⟨_,I',q⟩)
 ·have hk:(k+(its.toArray.size:Int)).toNat=j:=by
   rw[seqIndex_neg (by omega) h3]at h1;rw[au,<-hl];exact aW h1
  exact PySem.W.ki_setBack ho (by omega) (by rw[au,<-hl];exact h3) (by omega) (by rw[hk];exact⟨_,I',q⟩)
theorem xX(lo hi:Option Int)(n:Nat):(kq lo hi none n).1=((HT.sIx n 0 lo:Nat):Int)/\(kq lo hi none n).2.1=((HT.sIx n n hi:Nat):Int)/\(kq lo hi none n).2.2=1:=by
 refine⟨?_,?_,rfl⟩
 ·cases lo with
  |none=>simp[kq,HT.sIx]
  |some i=>
   simp only[kq,HT.sIx,tW,show(1:Int)>0 by decide,if_true];by_cases h:i<0
   ·simp only[h,if_true]<;>omega
   ·simp only[h,if_false]<;>omega
 ·cases hi with
  |none=>simp[kq,HT.sIx]
  |some i=>
   simp only[kq,HT.sIx,tW,show(1:Int)>0 by decide,if_true];by_cases h:i<0
   ·simp only[h,if_true]<;>omega
   ·simp only[h,if_false]<;>omega
theorem vZ(its:List Value)(lo hi:Option Int):slicePick its.toArray lo hi none=((its.drop (HT.sIx its.length 0 lo)).take (HT.sIx its.length its.length hi-HT.sIx its.length 0 lo)).toArray:=by
 obtain⟨h1,h2,h3⟩:=xX lo hi its.toArray.size;unfold slicePick;rw[h1,h2,h3];simp only[sliceRange_one,pick_run,au]<;>rfl
noncomputable def rSlL(K:ah):V->Option Int->Option Int->Hp->VK->Prop:=fun x lo hi H Q=>∃a xs,x=.ref a/\SqL K H a xs/\∀p,H p=none->Q (.ref p) (upd H p (.lst (pE xs lo hi)))
theorem sl_list:SlR X (rSlL X.K):=by
 intro pins s σ H x v vl vu lo hi sl Q I rx hs pl pu h;obtain⟨a,xs,rfl,hx,q⟩:=h;cases rx;obtain⟨its,r,ht,hz⟩:=I.list hx;have hlen:=r.length;refine⟨"list",_,slot_list_getitem.lookup,ht.isList.typeIs,?_⟩;refine wpAny_getItem_list_slice ht.isList hs pl pu .none (by simp) ?_ (by rw[au]<;>omega);rw[vZ,<-hlen];refine⟨.ref s.heap.objs.size,_,I.laid (t':=s.toks) (o:=.lst (pE xs lo hi)) (fun b ob q=>ag _ q) (aB _) ?_,rfl,q _ (I.hok.fresh (aB _))⟩;exact⟨aR (Az xs lo hi) hz,_,0,(r.drop (HT.sIx xs.length 0 lo)).take (HT.sIx xs.length xs.length hi-HT.sIx xs.length 0 lo),az _ rfl⟩
noncomputable def oB:V->Bool
 |.non=>true
 |.bl _=>true
 |.int _=>true
 |.str _=>true
 |_=>false
noncomputable def eqV:V->V->Bool
 |.non,.non=>true
 |.bl a,.bl b=>a==b
 |.bl a,.int b=>(if a then 1 else 0)==b
 |.int a,.bl b=>a==(if b then 1 else 0)
 |.int a,.int b=>a==b
 |.str a,.str b=>a==b
 |_,_=>false
theorem fR{x:V}{v:Value}(ry:RelV y u)(rx:RelV x v)(fy:oB y=true)(fx:oB x=true):Jq A s u v (eqV y x):=by
 cases y with
 |non=>
  cases ry;cases x with
  |non=>cases rx;exact Jq.same _
  |bl b=>cases rx;exact Jq.none_bool b
  |int b=>obtain⟨t,rfl⟩:=rx;exact Jq.none_int b t
  |str b=>obtain⟨t,rfl⟩:=rx;exact Jq.none_str b t
  |_=>exact absurd (show false=true from fx) ak
 |bl a=>
  cases ry;cases x with
  |non=>cases rx;exact Jq.bool_none a
  |bl b=>cases rx;exact Jq.bool_bool a b
  |int b=>obtain⟨t,rfl⟩:=rx;exact Jq.bool_int a b t
  |str b=>obtain⟨t,rfl⟩:=rx;exact Jq.bool_str a b t
  |_=>exact absurd (show false=true from fx) ak
 |int a=>
  obtain⟨t',rfl⟩:=ry;cases x with
  |non=>cases rx;exact Jq.int_none a t'
  |bl b=>cases rx;exact Jq.int_bool a t' b
  |int b=>obtain⟨t,rfl⟩:=rx;exact Jq.int_int a t' b t
  |str b=>obtain⟨t,rfl⟩:=rx;exact A6 a t' b t
  |_=>exact absurd (show false=true from fx) ak
 |str a=>
  obtain⟨t',rfl⟩:=ry;cases x with
  |non=>cases rx;exact Jq.str_none a t'
  |bl b=>cases rx;exact Jq.str_bool a t' b
  |int b=>obtain⟨t,rfl⟩:=rx;exact A5 a t' b t
  |str b=>obtain⟨t,rfl⟩:=rx;exact Jq.str_str a t' b t
  |_=>exact absurd (show false=true from fx) ak
 |_=>exact absurd (show false=true from fy) ak
noncomputable def eqU(x:V)(u:Value):Bool:=match u with
 |.none=>eqV .non x
 |.bool b=>eqV (.bl b) x
 |.int i _=>eqV (.int i) x
 |.str z _=>eqV (.str z) x
 |_=>false
theorem Iz{x:V}(r:RelV y u)(f:oB y=true):eqU x u=eqV y x:=by
 cases y with
 |non=>cases r;rfl
 |bl b=>cases r;rfl
 |int i=>obtain⟨t,rfl⟩:=r;rfl
 |str z=>obtain⟨t,rfl⟩:=r;rfl
 |_=>exact absurd (show false=true from f) ak
theorem qN{x:V}:∀{xs:List V}{us:List Value},bD xs us->xs.all oB=true->us.any (eqU x)=xs.any fun y=>eqV y x
 |_,_,.nil,_=>rfl
 |y::xs,u::us,.cons r t,f=>by
  rw[me,aN]at f;rw[ma,ma,Iz r f.1,qN t f.2]
theorem mL{x:V}{v:Value}(rx:RelV x v)(fx:oB x=true):∀{xs:List V}{us:List Value},bD xs us->xs.all oB=true->∀u∈us,Jq A s u v (eqU x u)
 |_,_,.nil,_=>fun u hu=>by cases hu
 |y::xs,u::us,.cons r t,f=>fun u' hu=>by
  rw[me,aN]at f;rcases aE.mp hu with rfl|hu
  ·rw[Iz r f.1];exact fR r rx f.1 fx
  ·exact mL rx fx t f.2 u' hu
noncomputable def inV(x:V)(xs:List V):Bool:=xs.any fun y=>eqV y x
noncomputable def rIn(K:ah)(neg:Bool):R2:=fun x y H Q=>∃p xs,y=.ref p/\(SqL K H p xs\/SqT K H p xs)/\oB x=true/\xs.all oB=true/\Q (.bl (if neg then !inV x xs else inV x xs)) H
theorem EM:OpR X (cR .In) (rIn X.K false):=by
 intro pins s σ H x y v u Q I rx ry h;obtain⟨p,xs,rfl,hq,fx,fs,q⟩:=h;cases ry;rcases hq with hq|hq
 ·obtain⟨its,r,pl,hz⟩:=I.list hq
  refine SeqAt.in_listAt (eqU x) pl.isList (fun w hw=>mL rx fx r fs w (by simpa using hw)) ⟨.bl _,H,I,rfl,?_⟩;rw[show its.toArray.any (eqU x)=its.any (eqU x) by simp,qN r fs];exact q
 ·obtain⟨its,r,pl,hz⟩:=I.tuple hq
  refine SeqAt.in_tupleAt (eqU x) pl (fun w hw=>mL rx fx r fs w (by simpa using hw)) ⟨.bl _,H,I,rfl,?_⟩;rw[show its.toArray.any (eqU x)=its.any (eqU x) by simp,qN r fs];exact q
theorem ym:OpR X (cR .NotIn) (rIn X.K true):=by
 intro pins s σ H x y v u Q I rx ry h;obtain⟨p,xs,rfl,hq,fx,fs,q⟩:=h;cases ry;rcases hq with hq|hq
 ·obtain⟨its,r,pl,hz⟩:=I.list hq
  refine Jp (eqU x) pl.isList (fun w hw=>mL rx fx r fs w (by simpa using hw)) ⟨.bl _,H,I,rfl,?_⟩;rw[show its.toArray.any (eqU x)=its.any (eqU x) by simp,qN r fs];exact q
 ·obtain⟨its,r,pl,hz⟩:=I.tuple hq
  refine SeqAt.notIn_tupleAt (eqU x) pl (fun w hw=>mL rx fx r fs w (by simpa using hw)) ⟨.bl _,H,I,rfl,?_⟩;rw[show its.toArray.any (eqU x)=its.any (eqU x) by simp,qN r fs];exact q
theorem yl:OpR X (cR .NotIn) (fun x y H Q=>∃i j,x=.str i/\y=.str j/\Q (.bl (!(!(gH j i 0 j.length 1).isEmpty))) H):=by
 intro pins s σ H x y v u Q I rx ry h;obtain⟨i,j,rfl,rfl,q⟩:=h;obtain⟨t,rfl⟩:=rx;obtain⟨t',rfl⟩:=ry;exact notIn_str ⟨.bl _,H,I,rfl,q⟩
theorem yS:fz X (.builtin "len") (fun xs H Q=>∃p ys,xs=[.ref p]/\(SqL X.K H p ys\/SqT X.K H p ys)/\Q (.int ys.length) H):=by
 intro pins s σ H xs us Q I r h;obtain⟨p,ys,rfl,hq,q⟩:=h;obtain⟨u,rfl,rx⟩:=vals1 r;cases rx;have hn:=ph;rcases hq with hq|hq
 ·obtain⟨its,r',pl,hz⟩:=I.list hq
  have hlen:=r'.length;exact Calls.call_len_list pl.isList (by simp only[au]<;>omega) ⟨.int ys.length,H,I.tok _,⟨s.toks+1,by rw[au,hlen]⟩,q⟩
 ·obtain⟨its,r',pl,hz⟩:=I.tuple hq
  have hlen:=r'.length;exact len_tuple pl (by simp only[au]<;>omega) ⟨.int ys.length,H,I.tok _,⟨s.toks+1,by rw[au,hlen]⟩,q⟩
theorem yR:fz X (.builtin "len") (fun xs H Q=>∃z,xs=[.str z]/\z.length<=sizeLine/\Q (.int z.length) H):=by
 intro pins s σ H xs us Q I r h;obtain⟨z,rfl,hz,q⟩:=h;obtain⟨u,rfl,t,rfl⟩:=vals1 r;have hn:=ph;exact len_str (by omega) ⟨.int z.length,H,I.tok _,⟨_,rfl⟩,q⟩
theorem fz.or{f:Value}{r r':List V->Hp->VK->Prop}(h:fz X f r)(h':fz X f r'):fz X f (fun xs H Q=>r xs H Q\/r' xs H Q):=by
 intro pins s σ H xs us Q I rs q;rcases q with q|q
 ·exact h pins s σ H xs us Q I rs q
 ·exact h' pins s σ H xs us Q I rs q
theorem yQ:fz X (.type "list") (fun xs H Q=>∃p ys,xs=[.ref p]/\(SqL X.K H p ys\/SqT X.K H p ys)/\∀l,H l=none->Q (.ref l) (upd H l (.lst ys))):=by
 intro pins s σ H xs us Q I r h;obtain⟨p,ys,rfl,hq,q⟩:=h;obtain⟨u,rfl,rx⟩:=vals1 r;cases rx;have fin:∀(its:List Value),bD ys its->ys.length<=sizeLine->∀(h':Heap)(c':Nat),(∀b o',s.heap.get? b=some o'->h'.get? b=some o')->
   h'.get? s.heap.objs.size=some {cls:=.type "list",dict:=none,data:=.seq its.toArray c',slots:= #[]}->EP X pins σ Q (.ref s.heap.objs.size) {s with heap:=h'}:=fun its r' hz h' c' kp e=>
  ⟨.ref s.heap.objs.size,_,I.laid (t':=s.toks) kp (aB _) (show dQ X.prog X.w _ h' _ (.lst ys)from⟨hz,its,c',r',e⟩),rfl,q _ (I.hok.fresh (aB _))⟩
 rcases hq with hq|hq
 ·obtain⟨its,r',pl,hz⟩:=I.list hq
  have hlen:=r'.length;obtain⟨o,ho,hc,n,hd⟩:=pl.isList;exact call_list_seq p (.inl rfl) ho hc hd (fun h' c' kp e=>fin its r' hz h' c' kp e) (by simp only[au]<;>omega)
 ·obtain⟨its,r',pl,hz⟩:=I.tuple hq
  have hlen:=r'.length;obtain⟨o,ho,hc,n,hd⟩:=pl;exact call_list_seq p (.inr rfl) ho hc hd (fun h' c' kp e=>fin its r' hz h' c' kp e) (by simp only[au]<;>omega)
theorem wo:fz X (.type "tuple") (fun xs H Q=>∃p ys,xs=[.ref p]/\((SqL X.K H p ys/\∀l,H l=none->Q (.ref l) (upd H l (.tup ys)))\/(SqT X.K H p ys/\Q (.ref p) H))):=by
 intro pins s σ H xs us Q I r h;obtain⟨p,ys,rfl,h⟩:=h;obtain⟨u,rfl,rx⟩:=vals1 r;cases rx;rcases h with⟨hq,q⟩ |⟨hq,q⟩
 ·obtain⟨its,r',pl,hz⟩:=I.list hq
  have hlen:=r'.length;refine call_tuple_list pl.isList (fun h' kp=>?_) (by simp only[au]<;>omega);have I1:Inv X pins σ H {s with heap:=h'}:=I.kept (t':=s.toks) kp;have I2:Inv X pins σ (upd H h'.objs.size (.tup ys)) {s with heap:=h'.push {cls:=.type "tuple",data:=.seq its.toArray}}:=
   I1.laid (t':=s.toks) (fun b o e=>ag _ e) (aB _) (show dQ X.prog X.w _ _ _ (.tup ys)from⟨hz,its,r',IsTup.new _ _⟩)
  exact⟨.ref h'.objs.size,_,I2,rfl,q _ (I1.hok.fresh (aB _))⟩
 ·obtain⟨its,r',pl,hz⟩:=I.tuple hq
  exact call_tuple_same pl ⟨.ref p,H,I,rfl,q⟩
def tyV(K:ah)(T:String)(x:V)(H:Hp):Prop:=match x with
 |.str _=>T="str"
 |.int _=>T="int"
 |.ref p=>(T="list"/\∃xs,SqL K H p xs)\/(T="tuple"/\∃o,K.lookup p=some o/\o.cls=.type "tuple"/\o.dict=none)\/
   (T="dict"/\((∃kvs,H p=some (.dK kvs))\/∃kvs,H p=some (.dT kvs)))\/(T="set"/\∃S n,H p=some (.set S n))
 |_=>False
theorem tyV_is{T:String}{x:V}{v:Value}(I:Inv X pins σ H s)(r:RelV x v)(ty:tyV X.K T x H):
  s.TypeIs v T/\∀a,v=.ref a->∃ob,s.heap.get? a=some ob/\ob.dict=none:=by
 cases x with
 |str z=>
  obtain⟨t,rfl⟩:=r;cases(show T="str" from ty);exact⟨typeIs_str s z t,fun _ e=>nomatch e⟩
 |int i=>
  obtain⟨t,rfl⟩:=r;cases(show T="int" from ty);exact⟨typeIs_int s i t,fun _ e=>nomatch e⟩
 |ref p=>
  cases r;rcases ty with⟨rfl,xs,hq⟩ |⟨rfl,o,hk,hc,hd⟩ |⟨rfl,hk⟩ |⟨rfl,S,n,hk⟩
  ·obtain⟨its,_,pl,_⟩:=I.list hq
   refine⟨pl.isList.typeIs,fun a e=>?_⟩;cases e;obtain⟨o,n,e,c,hd,_⟩:=pl;exact⟨o,e,hd⟩
  ·refine⟨⟨o,I.kIn p o hk,hc⟩,fun a e=>?_⟩
   cases e;exact⟨o,I.kIn _ o hk,hd⟩
  ·have z:∃o,s.heap.get? p=some o/\o.ExactDict:=by
    rcases hk with⟨kvs,hk⟩ |⟨kvs,hk⟩
    ·obtain⟨_,_,_,_,o,_,_,e,ex,_⟩:=I.hok p _ hk
     exact⟨o,e,ex⟩
    ·obtain⟨_,_,_,_,o,_,_,e,ex,_⟩:=I.hok p _ hk
     exact⟨o,e,ex⟩
   obtain⟨o,e,ex⟩:=z;refine⟨⟨o,e,ex.1⟩,fun a e2=>?_⟩;cases e2;exact⟨o,e,ex.2.1⟩
  ·obtain⟨o,_,_,_,e,ex,_⟩:=I.hok p _ hk
   refine⟨⟨o,e,ex.1⟩,fun a e2=>?_⟩;cases e2;exact⟨o,e,ex.2.1⟩
 |_=>exact kz ty
noncomputable def tBM0(K:ah)(T:String)(r:V->List V->Hp->VK->Prop)(to:TE):TE:=fun σ H Q=>to σ H fun x H1=>tyV K T x H1/\r x [] H1 Q
noncomputable def tBM(K:ah)(T:String)(r:V->List V->Hp->VK->Prop)(to:TE)(t:TA):TE:=fun σ H Q=>to σ H fun x H1=>tyV K T x H1/\t σ H1 fun xs H2=>r x xs H2 Q
variable {o e:Expr}{es:List Expr}{to:TE}{t:TA}{name:Str}{apos cpos:Pos}{T id:String}{r:V->List V->Hp->VK->Prop}
theorem pe_bm(pa:PlainAttrs T)(slot:Slot T name id)(hty:typeOf (.builtin id)=pure (.type "method_descriptor"))(hm:MtR X id r)(ho:PE X o to)(ha:PA X (e::es) t)
  (hbase:attributeBase o name X.env (eval o X.env)=eval o X.env:=by rfl)
  (hfew:((backTo cpos (bZ (e::es) X.env)).all (fun x=> !x.1)&&(backToKw cpos (keywordEach [] X.env)).all (fun x=>x.1.isSome)
   &&decide ((e::es).length+([]:List Keyword).length+(if([]:List Keyword).isEmpty then 0 else 1)<30))=true:=by rfl)
  (hline:(apos.endLine==cpos.line)=true:=by rfl) (hs:bZ (e::es) X.env=(false,eval e X.env)::bZ es X.env:=by rfl) (hplain:(backTo cpos (bZ es X.env)).any (·.1)=false:=by rfl):
  PE X (.Call (.Attribute o name apos) (e::es) [] cpos) (tBM X.K T r to t):=by
 intro pins s σ H Q I h;refine wpAny_Call_method_late hbase hfew hline rfl (thn (ho pins s σ H _ I h) fun v s1 ⟨x,H1,I1,r1,ty,q1⟩=>?_);obtain⟨h1,h2⟩:=tyV_is I1 r1 ty;refine⟨T,id,pa,slot,hty,h1,h2,?_⟩;have hA:=ha cpos pins s1 σ H1 _ I1 q1;rw[hs]at hA⊢;refine Calls.callWith_builtin (by show(false||(backTo cpos (bZ es X.env)).any (·.1))=false;rw[hplain]<;>rfl) (Calls.evalArgs_plain ?_);exact thn hA fun us s2 ⟨vs,H2,I2,r2,q2⟩=>hm pins s2 σ H2 x vs v us Q I2 r1 r2 q2
end
def MtM(X:Cx)(id:String)(r:V->List V->Hp->VK->Prop):Prop:=
 ∀(pins:List (Addr×Obj))(s:Shared)(σ:St)(H:Hp)(x:V)(xs:List V)(v:Value)(us:List Value)(Q:VK),Inv X pins σ H s->RelV x v->bD xs us->r x xs H Q->
  wpAny (model X.prog X.w) X.A (call (.builtin id) (v::us)) (EP X pins σ Q) X.xe s
theorem bD.one{x:V}(h:bD [x] us):∃u,us=[u]/\RelV x u:=by
 cases h with
 |cons r k=>cases k with
  |nil=>exact⟨_,rfl,r⟩
theorem bD.two{x:V}(h:bD [x,y] us):∃u v,us=[u,v]/\RelV x u/\RelV y v:=by
 cases h with
 |cons r k=>
  obtain⟨v,e,q⟩:=bD.one k;exact⟨_,v,by rw[e],r,q⟩
theorem bD.zero:∀{us:List Value},bD [] us->us=[]
 |_,.nil=>rfl
theorem bD.eraseIdx:∀{xs:List V}{us:List Value}(i:Nat),bD xs us->bD (xs.eraseIdx i) (us.eraseIdx i)
 |_,_,_,.nil=>.nil
 |_,_,0,.cons _ t=>t
 |_,_,i+1,.cons r t=>.cons r (bD.eraseIdx i t)
theorem bD.reverse(h:bD xs us):bD xs.reverse us.reverse:=by
 induction h with
 |nil=>exact .nil
 |cons r t ih=>rw[iQ,iQ];exact bD.append ih (.cons r .nil)
theorem bD.rep(h:bD xs us):∀k:Nat,bD (bh k xs).flatten (bh k us).flatten
 | 0=>.nil
 |k+1=>by
  rw[du,du,iS,iS];exact bD.append h (bD.rep h k)
theorem wZ{α:Type}:∀(l:List α)(i:Nat),(l.eraseIdx i).length<=l.length
 | [],_=>aB _
 |_::_,0=>eX _
 |_::r,i+1=>Nat.succ_le_succ (wZ r i)
theorem foldl_rep(its:List Value):∀(k:Nat)(acc:List Value),
  List.foldl (fun x1 x2=>x1++x2) acc.toArray (bh k its.toArray)=(acc++(bh k its).flatten).toArray
 | 0,acc=>by simp
 |k+1,acc=>by
  have e:acc.toArray++its.toArray=(acc++its).toArray:=by simp
  have e2:(acc++its)++(bh k its).flatten=acc++(bh (k+1) its).flatten:=by
   rw[du,iS,lQ]
  rw[<-e2,<-foldl_rep its k (acc++its),<-e,du,dz]
section
variable {X:Cx}{pins:List (Addr×Obj)}{σ:St}{H:Hp}{s:Shared}{l b:Addr}{xs ys zs:List V}
theorem Inv.HF{f:Array Value->Array Value}(I:Inv X pins σ H s)(hH:H l=some (.lst xs))
  (e:s.heap.get? l=some {cls:=.type "list",data:=.seq its.toArray n}) (hf:f its.toArray=its'.toArray) (hv:bD ys its') (hz:ys.length<=sizeLine):
  Inv X pins σ (upd H l (.lst ys)) {s with heap:=s.heap.update l (aS f),toks:=t'}:=by
 have q:=FF e f;rw[hf]at q;refine I.write (x:=l) (e:=l) (by rw[hH];exact trivial) (.inl rfl) (fun b' u hb hu=>(aT s.heap (aS f) (bQ hb)).trans hu) ⟨_,q⟩ ?_;exact⟨hz,its',_,hv,q⟩
theorem Inv.lnew(I:Inv X pins σ H s)(hv:bD ys its)(hz:ys.length<=sizeLine):
  Inv X pins σ (upd H s.heap.objs.size (.lst ys)) {s with heap:=s.heap.push {cls:=.type "list",data:=.seq its.toArray},toks:=t'}:=
 I.laid (fun _ _ q=>ag _ q) (aB _) ⟨hz,its,0,hv,az _ rfl⟩
theorem Inv.fresh(I:Inv X pins σ H s):H s.heap.objs.size=none:=I.hok.fresh (aB _)
theorem Inv.yz(I:Inv X pins σ H s)(hH:H l=some (.lst xs)):xs.length<=sizeLine/\∃(its:List Value)(n:Nat),bD xs its/\xs.length=its.length/\s.heap.get? l=some {cls:=.type "list",data:=.seq its.toArray n}:=by
 obtain⟨z,its,n,r,e⟩:=I.hok l _ hH;exact⟨z,its,n,r,r.length,e⟩
theorem zY(h:n<=sizeLine):gd n=false:=by
 unfold gd;exact decide_eq_false (by omega)
end
section
variable {X:Cx}
noncomputable def C4:V->List V->Hp->VK->Prop:=fun x vs H Q=>∃l xs y,x=.ref l/\vs=[y]/\H l=some (.lst xs)/\xs.length<sizeLine/\Q .non (upd H l (.lst (xs++[y])))
theorem EY:MtM X "list.append" C4:=by
 intro pins s σ H x vs v us Q I rx rv h;obtain⟨l,xs,y,rfl,rfl,hH,hz,q⟩:=h;cases rx;obtain⟨u,rfl,ru⟩:=rv.one;obtain⟨z,its,n,r,hl,e⟩:=I.yz hH;refine jQ F.slot_list_append ⟨_,e,rfl⟩ F.entry_list_append (F.args_list_append_2 _ _) (PySem.list_append l its.toArray n u (by rw[au];omega)) ⟨e,?_⟩;refine⟨.non,_,I.HF (its':=its++[u]) hH e (by simp) (r.append (.cons ru .nil)) ?_,rfl,q⟩;rw[ba,dF];omega
noncomputable def C3:V->List V->Hp->VK->Prop:=fun x vs H Q=>∃l b xs zs,x=.ref l/\vs=[.ref b]/\H l=some (.lst xs)/\H b=some (.lst zs)/\xs.length+zs.length<=sizeLine/\Q .non (upd H l (.lst (xs++zs)))
theorem EX:MtM X "list.extend" C3:=by
 intro pins s σ H x vs v us Q I rx rv h;obtain⟨l,b,xs,zs,rfl,rfl,hH,hB,hz,q⟩:=h;cases rx;obtain⟨u,rfl,ru⟩:=rv.one;cases ru;obtain⟨z,its,n,r,hl,e⟩:=I.yz hH;obtain⟨z2,its2,n2,r2,hl2,e2⟩:=I.yz hB;have hsz:its.toArray.size+its2.toArray.size<=sizeLine:=by rw[au,au];omega
 have hlong:¬(!its.toArray.isEmpty&&gd (its.toArray.size+its2.toArray.size))=true:=by
  rw[zY hsz,iU];exact ak
 refine jQ F.slot_list_extend ⟨_,e,rfl⟩ F.entry_list_extend (F.args_list_extend_2 _ _)
  (AutoSeq1.list_extend_list_list_0 l its.toArray n b its2.toArray n2 hlong (by rw[au];omega) (by omega)) ⟨e,e2,?_⟩
 refine⟨.non,_,I.HF (its':=its++its2) hH e (by simp) (r.append r2) ?_,rfl,q⟩;rw[ba];omega
noncomputable def GU:V->List V->Hp->VK->Prop:=fun x vs H Q=>∃l xs i k y,x=.ref l/\vs=[.int i]/\H l=some (.lst xs)∧-(2^63)<=i/\i<2^63/\seqIndex? i xs.length=some k/\xs[k]? =some y/\Q y (upd H l (.lst (xs.eraseIdx k)))
theorem Hz:MtM X "list.pop" GU:=by
 intro pins s σ H x vs v us Q I rx rv h;obtain⟨l,xs,i,k,y,rfl,rfl,hH,h1,h2,hk,hy,q⟩:=h;cases rx;obtain⟨u,rfl,ru⟩:=rv.one;obtain⟨t,rfl⟩:=ru;obtain⟨z,its,n,r,hl,e⟩:=I.yz hH;obtain⟨w,hw,rw'⟩:=r.get hy;refine jQ F.slot_list_pop ⟨_,e,rfl⟩ F.entry_list_pop (F.args_list_pop_2 _ _)
  (MeetsSeq.list_pop_at l its.toArray n i t k w (fitsIndex_both h1 h2) (by rw[au,<-hl];exact hk) (by rw[<-Ec];exact hw) (by rw[au];omega)) ⟨e,?_⟩
 refine⟨y,_,I.HF (its':=its.eraseIdx k) hH e ?_ (r.eraseIdx k) ?_,rw',q⟩
 ·show its.toArray.eraseIdxIfInBounds k=(its.eraseIdx k).toArray
  rw[List.eraseIdxIfInBounds_toArray]
 ·have :=wZ xs k
  omega
noncomputable def zK:V->List V->Hp->VK->Prop:=fun x vs H Q=>∃l xs,x=.ref l/\vs=[]/\H l=some (.lst xs)/\Q .non (upd H l (.lst xs.reverse))
theorem BN:MtM X "list.reverse" zK:=by
 intro pins s σ H x vs v us Q I rx rv h;obtain⟨l,xs,rfl,rfl,hH,q⟩:=h;cases rx;have hus:=rv.zero;subst hus;obtain⟨z,its,n,r,hl,e⟩:=I.yz hH;refine jQ F.slot_list_reverse ⟨_,e,rfl⟩ F.entry_list_reverse (F.args_list_reverse_1 _) (AutoSeq1.list_reverse_list_0 l its.toArray n (by rw[au];omega)) ⟨e,?_⟩;refine⟨.non,_,I.HF (its':=its.reverse) hH e (by simp) r.reverse ?_,rfl,q⟩;rw[rm];omega
noncomputable def GV:V->List V->Hp->VK->Prop:=fun x vs H Q=>∃l xs,x=.ref l/\vs=[]/\H l=some (.lst xs)/\Q .non (upd H l (.lst []))
theorem HA:MtM X "list.clear" GV:=by
 intro pins s σ H x vs v us Q I rx rv h;obtain⟨l,xs,rfl,rfl,hH,q⟩:=h;cases rx;have hus:=rv.zero;subst hus;obtain⟨z,its,n,r,hl,e⟩:=I.yz hH;refine jQ F.slot_list_clear ⟨_,e,rfl⟩ F.entry_list_clear (F.args_list_clear_1 _) (AutoSeq1.list_clear_list_0 l its.toArray n (by rw[au];omega)) ⟨e,?_⟩;exact⟨.non,_,I.HF (its':=[]) (ys:=[]) hH e rfl .nil (aX _),rfl,q⟩
noncomputable def rCat:R2:=fun x y H Q=>∃l b xs zs,x=.ref l/\y=.ref b/\H l=some (.lst xs)/\H b=some (.lst zs)/\xs.length+zs.length<=sizeLine/\∀p,H p=none->Q (.ref p) (upd H p (.lst (xs++zs)))
theorem op_cat:OpR X (fu .Add) rCat:=by
 intro pins s σ H x y v u Q I rx ry h;obtain⟨l,b,xs,zs,rfl,rfl,hH,hB,hz,q⟩:=h;cases rx;cases ry;obtain⟨z,its,n,r,hl,e⟩:=I.yz hH;obtain⟨z2,its2,n2,r2,hl2,e2⟩:=I.yz hB;refine PySem.P.add_list e e2 ?_ (by rw[au,au];omega);have ea:its.toArray++its2.toArray=(its++its2).toArray:=by simp
 rw[ea];exact⟨.ref _,_,I.lnew (t':=s.toks) (r.append r2) (by rw[ba];omega),rfl,q _ I.fresh⟩
noncomputable def rRep:R2:=fun x y H Q=>∃l k xs,x=.ref l/\y=.int k/\H l=some (.lst xs)∧-(2^63)<=k/\k<2^63/\xs.length*k.toNat<=sizeLine/\
 ∀p,H p=none->Q (.ref p) (upd H p (.lst (bh k.toNat xs).flatten))
theorem len_rep{α:Type}(xs:List α)(k:Nat):(bh k xs).flatten.length=k*xs.length:=by
 induction k with
 |zero=>simp
 |succ k ih=>rw[du,iS,ba,ih,FG,Nat.add_comm]
theorem op_rep:OpR X (fu .Mult) rRep:=by
 intro pins s σ H x y v u Q I rx ry h;obtain⟨l,k,xs,rfl,rfl,hH,h1,h2,hz,q⟩:=h;cases rx;obtain⟨t,rfl⟩:=ry;obtain⟨z,its,n,r,hl,e⟩:=I.yz hH;have hlen:its.toArray.size*k.toNat<=sizeLine:=by rw[au,<-hl];exact hz
 have hcap:¬its.toArray.size*k.toNat>(2^63-1)/8:=by
  have :(sizeLine:Nat)<=(2^63-1)/8:=by decide
  omega
 have hfit:¬(!Builtin.List.listFitsIndex k)=true:=by
  rw[fitsIndex_both h1 h2];exact ak
 have hlong:¬gd (its.toArray.size*k.toNat)=true:=by
  rw[zY hlen];exact ak
 have hnew:List.foldl (fun x1 x2=>x1++x2) #[] (bh (if its.toArray.isEmpty=true then 0 else k.toNat) its.toArray)=(bh k.toNat its).flatten.toArray:=by
  have f0:∀m:Nat,List.foldl (fun x1 x2=>x1++x2) #[] (bh m its.toArray)=(bh m its).flatten.toArray:=fun m=>by
   have :=foldl_rep its m []
   rw[List.nil_append]at this;exact this
  rw[f0];cases its with
  |nil=>simp
  |cons a r'=>rw[if_neg (by simp)]
 refine wpAny_binaryOp_repeat_ref (T:="list") (U:="int") (by decide) ⟨_,e,rfl⟩ (fun s'=>typeIs_int s' k t) noFill_list_mul F.fills_int_mul F.slot_int_rmul repeat_list F.slot_int_index.lookup
  (jQ F.slot_int_rmul (typeIs_int s k t) F.entry_int_rmul (F.args_int_rmul_2 _ _) (int___rmul___int_list k t l its.toArray n)
   ⟨e,rfl,⟨_,e,rfl⟩,jQ F.slot_list_mul ⟨_,e,rfl⟩ F.entry_list_mul (F.args_list_mul_2 _ _) (AutoListH.list___mul___list_int_3 l its.toArray n k t hfit hcap hlong) ⟨e,?_⟩⟩)
 rw[hnew];exact⟨.ref _,_,I.lnew (t':=s.toks) (r.rep k.toNat) (by rw[len_rep,Nat.mul_comm];exact hz),rfl,q _ I.fresh⟩
end
section
variable {κ:Type}[DecidableEq κ]
noncomputable def d0(kvs:List (κ×V))(k:κ):Option V:=(kvs.find? fun kv=>decide (kv.1=k)).map (·.2)
noncomputable def putK(kvs:List (κ×V))(k:κ)(v:V):List (κ×V):=
 if(kvs.any fun kv=>decide (kv.1=k))=true then kvs.map (fun kv=>if kv.1=k then(kv.1,v)else kv)else kvs++[(k,v)]
theorem gz{p:κ×V}{r:List (κ×V)}{k:κ}(e:p.1=k):d0 (p::r) k=some p.2:=by simp[d0,fM,e]
theorem gA{p:κ×V}{r:List (κ×V)}{k:κ}(e:¬p.1=k):d0 (p::r) k=d0 r k:=by simp[d0,fM,e]
theorem ju(k:κ):∀kvs:List (κ×V),(kvs.any fun kv=>decide (kv.1=k))=(d0 kvs k).isSome
 | []=>rfl
 |p::r=>by
  rw[ma];by_cases e:p.1=k
  ·simp only[gz e,decide_eq_true e,Bool.true_or,gZ]
  ·rw[gA e,decide_eq_false e,bM];exact ju k r
theorem zq(k j:κ)(y:V):∀kvs:List (κ×V),d0 (kvs.map fun kv=>if kv.1=k then(kv.1,y)else kv) j=(d0 kvs j).map fun x=>if j=k then y else x
 | []=>rfl
 |p::r=>by
  have ih:=zq k j y r;rw[bK];by_cases h:p.1=k
  ·rw[if_pos h]
   by_cases e:p.1=j
   ·rw[gz (p:=(p.1,y)) e,gz e,jr,if_pos (e.symm.trans h)]
   ·rw[gA (p:=(p.1,y)) e,gA e,ih]
  ·rw[if_neg h]
   by_cases e:p.1=j
   ·rw[gz (p:=p) e,gz e,jr,if_neg (fun z=>h (e.trans z))]
   ·rw[gA (p:=p) e,gA e,ih]
theorem wA(k j:κ)(y:V):∀kvs:List (κ×V),d0 kvs k=none->d0 (kvs++[(k,y)]) j=if j=k then some y else d0 kvs j
 | [],_=>by
  by_cases e:k=j
  ·rw[if_pos e.symm];exact gz (p:=(k,y)) e
  ·rw[if_neg (fun z=>e z.symm)];exact gA (p:=(k,y)) e
 |p::r,hn=>by
  rw[vQ];have hk:¬p.1=k:=fun z=>by rw[gz z]at hn;cases hn
  rw[gA hk]at hn;have ih:=wA k j y r hn;by_cases e:p.1=j
  ·rw[gz e,gz e,if_neg (fun z=>hk (e.trans z))]
  ·rw[gA e,gA e,ih]
theorem F3(kvs:List (κ×V))(k j:κ)(y:V):d0 (putK kvs k y) j=if j=k then some y else d0 kvs j:=by
 unfold putK;by_cases a:(kvs.any fun kv=>decide (kv.1=k))=true
 ·rw[if_pos a,zq]
  rw[ju]at a;by_cases e:j=k
  ·obtain⟨x,hx⟩:=eR.mp a
   rw[if_pos e,e,hx,jr,if_pos rfl]
  ·rw[if_neg e]
   cases d0 kvs j with
   |none=>rfl
   |some x=>rw[jr,if_neg e]
 ·rw[if_neg a]
  refine wA k j y kvs ?_;rw[ju]at a;cases q:d0 kvs k with
  |none=>rfl
  |some x=>rw[q]at a;exact(a rfl).elim
theorem sA(kvs:List (κ×V))(k:κ)(v:V):(putK kvs k v).length<=kvs.length+1:=by
 unfold putK;split
 ·rw[ai];omega
 ·rw[ba,bB,oq];omega
theorem GZ{kvs:List (κ×V)}{k:κ}(v:V)(h:d0 kvs k=none):putK kvs k v=kvs++[(k,v)]:=by
 unfold putK;rw[ju,h];exact if_neg (by decide)
theorem vF.E8{o:Option V}{u:Option Value}(r:vF o u):o.isSome=u.isSome:=by
 cases o with
 |none=>cases u with
  |none=>rfl
  |some _=>exact(show False from r).elim
 |some _=>cases u with
  |none=>exact(show False from r).elim
  |some _=>rfl
end
theorem HS{k:Key}(r:RelV (kV k) u):(cn P w).is k u=true:=by
 cases k with
 |inl i=>obtain⟨t,e⟩:=(show ∃t,u=vG i t from r);subst e;exact mK P w i t
 |inr x=>obtain⟨t,e⟩:=(show ∃t,u=iy x t from r);subst e;exact z9 P w x t
theorem rN:∀{ks:List Key}{us:List Value},bD (ks.map kV) us->ItemsAre (cn P w) ks us
 | [],_,r=>by rw[j6]at r;cases r;exact .nil
 |k::ks,_,r=>by
  rw[bK]at r;cases r with
  |cons h t=>exact .cons (HS h) (rN t)
noncomputable abbrev KT(H:Hp):List (List Key×V)->List (List Key×Addr×Value)->Prop:=Paired fun p q=>p.1=q.1/\H q.2.1=some (.tup (p.1.map kV))/\RelV p.2 q.2.2
theorem KT.val{kvs:List (List Key×V)}{xs:List (List Key×Addr×Value)}(r:KT H kvs xs)(k:List Key):vF (d0 kvs k) ((atKey xs k).map (·.2)):=by
 induction r with
 |nil=>exact True.intro
 | @cons p q ps qs h t ih=>
  obtain⟨h1,_,h2⟩:=h;by_cases e:p.1=k
  ·have e':q.1=k:=h1.symm.trans e
   have b:atKey (q::qs) k=some q.2:=by simp[atKey,fM,e']
   rw[gz e,b];exact h2
  ·have e':¬q.1=k:=fun z=>e (h1.trans z)
   have b:atKey (q::qs) k=atKey qs k:=by simp[atKey,fM,e']
   rw[gA e,b];exact ih
theorem KT.repl{kvs:List (List Key×V)}{xs:List (List Key×Addr×Value)}(r:KT H kvs xs)(k:List Key)(ry:RelV y u):
  KT H (kvs.map fun kv=>if kv.1=k then(kv.1,y)else kv) (xs.map (putAt k u)):=by
 induction r with
 |nil=>exact .nil
 | @cons p q ps qs h t ih=>
  rw[bK,bK];refine .cons ?_ ih;obtain⟨h1,h2,h3⟩:=h;unfold putAt;by_cases e:p.1=k
  ·rw[if_pos e,if_pos (h1.symm.trans e)];exact⟨h1,h2,ry⟩
  ·rw[if_neg e,if_neg (fun z=>e (h1.trans z))];exact⟨h1,h2,h3⟩
theorem KT.put{kvs:List (List Key×V)}{xs:List (List Key×Addr×Value)}(r:KT H kvs xs)(k:List Key)(hb:H b=some (.tup (k.map kV)))(ry:RelV y u):
  KT H (putK kvs k y) (storedH xs k b u):=by
 have e:(kvs.any fun kv=>decide (kv.1=k))=(atKey xs k).isSome:=by
  rw[ju,(r.val k).E8,Option.isSome_map]
 unfold putK storedH;rw[e];by_cases q:(atKey xs k).isSome=true
 ·rw[if_pos q,if_pos q];exact r.repl k ry
 ·rw[if_neg q,if_neg q];exact Paired.snoc r ⟨rfl,hb,ry⟩
theorem KT.keeps{kvs:List (List Key×V)}{xs:List (List Key×Addr×Value)}(r:KT H kvs xs)(ht:∀b ys,H b=some (.tup ys)->H' b=some (.tup ys)):KT H' kvs xs:=
 Paired.mM r fun _ _ z=>⟨z.1,ht _ _ z.2.1,z.2.2⟩
section
variable {P:Program}{w:World}{H:Hp}{h:Heap}{a:Addr}
theorem rd_of{u:HO}(ok:HOk P w H h)(e:Rd H a u):dQ P w H h a u:=e.ok ok
theorem HR{ks:List Key}(ok:HOk P w H h)(e:H a=some (.tup (ks.map kV))):(pI (cn P w)).is h ks a:=by
 obtain⟨_,its,r,o,h1,h2,n,h3⟩:=(show dQ P w H h a (.tup (ks.map kV))from ok a _ e);exact⟨o,its.toArray,n,h1,h2,h3,by simpa using rN r⟩
theorem dt_rd{kvs:List (List Key×V)}(ok:HOk P w H h)(e:Rd H a (.dT kvs)):kvs.length<=sizeLine/\(a==fX)=false/\
  ∃xs,KT H kvs xs/\h.DictOfH (pI (cn P w)) a xs:=by
 obtain⟨z,y,xs,r,o,es,ep,h1,h2,h3,h4,h5⟩:=(show dQ P w H h a (.dT kvs)from rd_of ok e);refine⟨z,y,xs,r,o,es,ep,h1,h2,h3,h4,fun x hx=>?_,h5⟩;have all:∀{l:List (List Key×V)}{m:List (List Key×Addr×Value)},KT H l m->∀x∈m,(pI (cn P w)).is h x.1 x.2.1:=by
  intro l m q
  induction q with
  |nil=>intro x hx;exact nomatch hx
  | @cons p q ps qs hq t ih=>
   intro x hx;rcases aE.mp hx with e|hx
   ·subst e
    exact HR ok (by rw[<-hq.1];exact hq.2.1)
   ·exact ih x hx
 exact all r x hx
theorem IB{kvs:List (List Key×V)}(ok:HOk P w H h)(e:H a=some (.dT kvs)):kvs.length<=sizeLine/\(a==fX)=false/\
  ∃xs,KT H kvs xs/\h.DictOfH (pI (cn P w)) a xs:=dt_rd ok (.inl e)
end
section
variable {X:Cx}{pins:List (Addr×Obj)}{σ:St}{H:Hp}{s:Shared}{a:Addr}{y v:V}{u r:Value}{o:Option V}{A:Around}{E:Value->Shared->Prop}
theorem Inv.big(I:Inv X pins σ H s):fX<s.heap.objs.size:=by
 have h:bG<s.heap.objs.size:=(I.mod.glob.keeps I.bk).lt;exact gQ (by decide) h
theorem d_write{ob:HO}(I:Inv X pins σ H s)(mu:Mut (H a))(hs:dq a s.heap h')(he:∃q,h'.get? a=some q)(new:dQ X.prog X.w (upd H a ob) h' a ob):
  Inv X pins σ (upd H a ob) {s with heap:=h',toks:=t'}:=
 I.write (x:=a) (e:=a) mu (.inl rfl) (fun b q hb z=>(hs.2 b hb).trans z) he new
end
theorem IC(h:Heap)(hb:fX<h.objs.size):dQ P w H (h.push {cls:=.type "dict",data:=.dict #[]}) h.objs.size (.dT []):=
 ⟨aX _,beq_eq_false_iff_ne.mpr (bQ (aI hb)),[],.nil,_,#[],0,az _ rfl,⟨rfl,rfl,rfl⟩,rfl,rfl,iR⟩
noncomputable def tDNewK:TE:=fun _ H Q=>∀p,H p=none->Q (.ref p) (upd H p (.dK []))
noncomputable def Gd:TE:=fun _ H Q=>∀p,H p=none->Q (.ref p) (upd H p (.dT []))
section
variable {X:Cx}{pos:Pos}
theorem Hd:PE X (.Dict [] [] pos) Gd:=fun pins s σ H Q I h=>
 wpAny_Dict_empty ⟨.ref s.heap.objs.size,_,I.laid (a:=s.heap.objs.size) (o:=.dT []) (t':=s.toks) (fun _ _ q=>ag _ q) (aB _) (IC s.heap I.big),rfl,h _ (I.hok.fresh (aB _))⟩
end
noncomputable def Bo:List (TE×TE)->St->Hp->(List (V×V)->Hp->Prop)->Prop
 | [],_,H,Q=>Q [] H
 | (tk,tv)::r,σ,H,Q=>tk σ H fun x H1=>tv σ H1 fun y H2=>Bo r σ H2 fun ps H3=>Q ((x,y)::ps) H3
noncomputable abbrev VV:List (V×V)->List (Value×Value)->Prop:=Paired fun p q=>RelV p.1 q.1/\RelV p.2 q.2
def PPs(X:Cx)(pos:Pos)(keys:List (Option Expr))(values:List Expr)(trs:List (TE×TE)):Prop:=
 ∀(pins:List (Addr×Obj))(s:Shared)(σ:St)(H:Hp)(Q:List (V×V)->Hp->Prop),Inv X pins σ H s->Bo trs σ H Q->
  wpAny (model X.prog X.w) X.A (evalPairs (pairTrees keys values X.env pos)) (fun vs s'=>∃ps H',Inv X pins σ H' s'/\VV ps vs/\Q ps H') X.xe s
theorem pps_nil:PPs X pos [] [] []:=fun pins s σ H Q I h=>pairTrees_nil_walk ⟨[],H,I,.nil,h⟩
theorem G5{k v:Expr}{ks:List (Option Expr)}{vs:List Expr}{tk tv:TE}{trs:List (TE×TE)}(hk:PE X k tk)(hv:PE X v tv)(hr:PPs X pos ks vs trs):
  PPs X pos (some k::ks) (v::vs) ((tk,tv)::trs):=fun pins s σ H Q I h=>
 pairTrees_cons_walk (thn (hk pins s σ H _ I h) fun u s1 ⟨x,H1,I1,rx,q1⟩=>thn (hv pins s1 σ H1 _ I1 q1) fun w2 s2 ⟨y,H2,I2,ry,q2⟩=>
  thn (hr pins s2 σ H2 _ I2 q2) fun ws s3 ⟨ps,H3,I3,rel,q3⟩=>⟨(x,y)::ps,H3,I3,.cons ⟨rx,ry⟩ rel,q3⟩)
noncomputable def mergeK(kvs more:List (Key×V)):List (Key×V):=more.foldl (fun acc kv=>putK acc kv.1 kv.2) kvs
noncomputable def tDisp(trs:List (TE×TE)):TE:=fun σ H Q=>∀p,H p=none->Bo trs σ (upd H p (.dK [])) fun ps H2=>H2 p=some (.dK [])/\∃kvs:List (Key×V),ps=kvs.map (fun kv=>(kV kv.1,kv.2))/\kvs.length<=15/\Q (.ref p) (upd H2 p (.dK (mergeK [] kvs)))
end L2
namespace Att
open PySem PySem.W PySem.Calls PyProof.Rows
theorem sW{P:Params}:∀(ns:List Int)(vs:List Value),WellAll P h vs (ns.map WData.int)->bW vs ns:=by
 intro ns
 induction ns with
 |nil=>
  intro vs w;rw[j6]at w;cases w;exact .nil
 |cons n ns ih=>
  intro vs w;rw[bK]at w;cases w with
  |cons a b=>
   cases a;exact .cons _ _ (ih _ b)
theorem Ex{l:OpenLaw}(hn:l.most=some n){P:Params}{args:List WData}{vals:List Value}
  (hpre:l.row.toRowW.claim.pre args=true)(hwl:WellAll P h vals args):
  ∃a vs ns,vals=[cD a]/\args=[WData.list (ns.map WData.int)]/\h.get? a=some {cls:=.type "list",data:=.seq vs.toArray}/\bW vs ns/\ns.length<=n:=by
 have hsh:WShape.hasAll [] args [.list .int]=true:=(pre_splitW hpre).1;have hc:l.pre.holds [] {args:=args}=true:=(pre_splitW hpre).2;obtain⟨d,r,rfl,h1,h2⟩:=hasAllW_cons hsh;obtain rfl:=hasAllW_nil h2;obtain⟨xs,rfl,h3⟩:=hasW_list h1;obtain⟨ns,rfl⟩:=items_int h3;have hlen:ns.length<=n:=by
  unfold OpenLaw.pre at hc;have h4:(WTm.not (.lt (.lit (.int (n:Int))) (.len (.arg 0)))).holds [] {args:=[.list (ns.map .int)]}=true:=by
   have h4:=(holds_andW hc).1;rw[hn]at h4;exact h4
  have h5:=condW_of h4 (w_not (w_lt w_lit (w_len_list (w_arg rfl))));rw[ai]at h5;refine fB fun q=>?_;have q':(n:Int)<((ns.length:Nat):Int):=by omega
  first
   | (rw[decide_eq_true q']at h5;exact absurd h5 (by decide))
   | (simp at h5;omega)
 cases hwl with
 |cons w1 w2=>
  cases w2;cases w1 with
  |list ho hall=>exact⟨_,_,ns,rfl,rfl,ho,sW ns _ hall,hlen⟩
theorem ED(l:OpenLaw)(args:List WData):l.row.toRowW.claim.post args (.bool true) args=true:=
 postW_of (r:=l.row.toRowW) (X:=(true==true))
  (show WShape.has [] (.bool true) .bool=true by first |rfl|decide|simp[WShape.has,WShape.arms,WShape.armsAll])
  (show(WTm.eq .res (.lit (.bool true))).value [] {args:=args,res:=some (.bool true),after:=args}=some (.bool (true==true))from w_eq_bool (w_res rfl) w_lit) rfl
theorem AO{l:OpenLaw}{q:Program}{XP:(Str->Option Value)->Heap->Prop}{YP:World->Heap->Prop}{d:DefRec}
  (hn:l.most=some n)(hdf:d.params.defaults=[])
  (call:∀(w:World)(s₀ s₁:Shared)(mg mb:Str->Option Value)(fa:Addr)(o:Obj)(pm cd doc:Value)(a:Addr)(vs:List Value)(ns:List Int),
   Ground q loose [] XP w s₀ mg mb s₁.heap->YP w s₁.heap->
   s₁.heap.get? fa=some o->o.data=.func (docDef d.name d.params d.body d.scope pm cd doc)->s₁.heap.CodeRec cd d.name->mg d.name=some (.ref fa)->
   s₁.heap.get? a=some {cls:=.type "list",data:=.seq vs.toArray}->bW vs ns->ns.length<=n->s₁.gens= #[]->
   iO (model l.prog w) D4 (.call (.ref fa) ⟨[.ref a],[]⟩) (fun r s'=>r=.ok (.ret (.bool true))/\OldK s₁.heap s'.heap/\s'.os=s₁.os/\og s'.gens) s₁):
  WalkO q loose XP YP l.row.toRowW d [] (fun f vs=>PySem.call f vs):=by
 intro w s₀ s₁ mg mb G Y fa o pm cd doc dV kV ho hd hcd hD hmg hg args vals as hpre hlay hrd hwl hlo;obtain rfl:dV=.none:=Dflts.none hD hdf;obtain rfl:kV=.none:=Dflts.noKw hD;obtain⟨a,vs,ns,rfl,rfl,hobj,hints,hlen⟩:=Ex hn hpre hwl;refine enter_call (lN (call w s₀ s₁ mg mb fa o pm cd doc a vs ns G Y ho (fd_plain hd) hcd hmg hobj hints hlen hg) fun r s' hq=>?_);obtain⟨rfl,h2,h3,h4⟩:=hq;exact⟨.inl ⟨.bool true,.bool true,[],rfl,fun _=>rfl,.bool true,ED l _,fun _=>⟨ot,fun _ hm=>(nomatch hm)⟩⟩,h2,h3,h4⟩
end Att
namespace L2
open PySem PySem.Spec PyProof.Rows
theorem rB:∀{vs:List Value}{ns:List Int},bW vs ns->bD (ns.map V.int) vs
 |_,_,.nil=>.nil
 |_,_,.cons n t h=>.cons ⟨t,rfl⟩ (rB h)
noncomputable abbrev KOf{K:ah}{h:Heap}(_:K.In h):ah:=K
noncomputable abbrev CX0:CXT:=fun _ _ _ _ _ _=>False
noncomputable abbrev E0:XK:=fun _ _ _=>False
structure Fun(K:ah)(x qual:Str)(st:Stmt)(f:Addr)(fd:gy):Prop where
 ex:∃(oc:Value)(od:Option Addr)(kV doc pm:Value)(an:Option Addr)(cdv ct:Value)(osl:Array (Option Value)),
  fd=aF x qual (bj st) (aZ st) (aP st) .none kV doc pm an cdv ct/\K.lookup f=some ⟨oc,od,.func fd,osl⟩/\ff K cdv qual=true
 kp:cN K (.ref f)=true
section
variable {P:Program}{w:World}{K:ah}{mg:Str->Option Value}{base:Heap}
theorem Fun.binds{st:Stmt}{fd:gy}{ps:List Str}(F:Fun K x qual st f fd)
  (h:∀(kV doc pm:Value)(an:Option Addr)(cdv ct:Value)(us:List Value),us.length=ps.length->pK (aF x qual (bj st) (aZ st) (aP st) .none kV doc pm an cdv ct) ⟨us,[]⟩=pure (ps.zip us)):Binds K fd ps []:=by
 obtain⟨oc,od,kV,doc,pm,an,cdv,ct,osl,rfl,lk,hcd⟩:=F.ex;exact .all (h kV doc pm an cdv ct)
theorem B3{st:Stmt}{an:Option Addr}{kV:Value}(l:K.lookup f=some ⟨oc,od,.func (aF x qual (bj st) (aZ st) (aP st) .none kV doc pm an cdv ct),osl⟩)
  (c:ff K cdv qual=true)(k:cN K (.ref f)=true):Fun K x qual st f (aF x qual (bj st) (aZ st) (aP st) .none kV doc pm an cdv ct):=⟨⟨oc,od,kV,doc,pm,an,cdv,ct,osl,rfl,l,c⟩,k⟩
end
def aL(H H':Hp):Prop:=∀b o,H b=some o->H' b=some o
theorem aL.refl(H:Hp):aL H H:=fun _ _ h=>h
theorem aL.trans(a:aL H H1)(b:aL H1 H2):aL H H2:=fun c o h=>b c o (a c o h)
theorem aL.free(e:aL H H')(h:H' l=Option.none):H l=Option.none:=by
 cases q:H l with
 |none=>rfl
 |some o=>
  rw[e l o q]at h;cases h
theorem aL.seq(e:aL H H')(h:SqL K H a xs):SqL K H' a xs:=by
 rcases h with(h|⟨o,h⟩) |h
 ·exact .inl (.inl (e _ _ h))
 ·exact .inl (.inr ⟨o,e _ _ h⟩)
 ·exact .inr h
section
variable {κ:Type}[DecidableEq κ]
theorem zo{kvs:List (κ×V)}{k:κ}(h:d0 kvs k=none):¬k∈kvs.map (·.1):=by
 intro m;obtain⟨p,hp,e⟩:=ay.mp m;have q:(kvs.any fun kv=>decide (kv.1=k))=true:=b9.mpr ⟨p,hp,decide_eq_true e⟩;rw[ju,h]at q;exact absurd q (by simp)
theorem valV_in{kvs:List (κ×V)}{k:κ}{v:V}(h:d0 kvs k=some v):k∈kvs.map (·.1):=by
 have q:(kvs.any fun kv=>decide (kv.1=k))=true:=by
  rw[ju,h];all_goals rfl
 obtain⟨p,hp,e⟩:=b9.mp q;exact ay.mpr ⟨p,hp,of_decide_eq_true e⟩
theorem Dg:∀{l:List κ}{k:κ},l.Nodup->¬k∈l->(l++[k]).Nodup
 | [],k,_,_=>by simp
 |a::r,k,h,hk=>by
  obtain⟨h1,h2⟩:=bN.mp h;show(a::(r++[k])).Nodup;refine bN.mpr ⟨fun m=>?_,Dg h2 fun m=>hk (aE.mpr (Or.inr m))⟩;rcases cP.mp m with q|q
  ·exact h1 q
  ·exact hk (aE.mpr (Or.inl (a6.mp q).symm))
theorem nd_putK{kvs:List (κ×V)}{k:κ}(v:V)(hn:(kvs.map (·.1)).Nodup)(h:d0 kvs k=none):((putK kvs k v).map (·.1)).Nodup:=by
 rw[GZ v h,cQ];exact Dg hn (zo h)
end
noncomputable def fo(cells:List (Str×Addr)):List (Str×dU)->List (Str×Addr)->List (Str×Addr)
 | [],acc=>acc
 | (n,k)::r,acc=>fo cells r (if k=.free then(n,(cells.lookup n).getD 0)::acc else acc)
theorem pF{env:Env}{f:Str×dU->List (Str×Addr)->Sem (ForInStep (List (Str×Addr)))}
  (hf:∀n k a c,k=.free->env.cells.lookup n=some c->f (n,k) a=pure (.yield ((n,c)::a)))(hg:∀n k a,k≠.free->f (n,k) a=pure (.yield a)):
  ∀(names:List (Str×dU))(acc:List (Str×Addr)),(∀y∈names,y.2=.free->∃c,env.cells.lookup y.1=some c)->forIn names acc f=(pure (fo env.cells names acc):Sem _)
 | [],acc,_=>rfl
 | (n,k)::r,acc,h=>by
  rw[List.forIn_cons];by_cases e:k=.free
  ·obtain⟨c,hc⟩:=h (n,k) aG e
   rw[hf n k acc c e hc];show forIn r ((n,c)::acc) f=_;rw[pF hf hg r _ fun y hy=>h y (aM _ hy)];simp[fo,e,hc]
  ·rw[hg n k acc e]
   show forIn r acc f=_;rw[pF hf hg r _ fun y hy=>h y (aM _ hy)];simp[fo,e]
theorem wk{env:Env}(h:∀y∈scope.names,y.2=.free->∃c,env.cells.lookup y.1=some c):FE scope env=pure (fo env.cells scope.names []):=by
 have q:=pF (env:=env) (f:=fun x cs=>match x with | (name,kind)=>if(kind==bT)=true then(do let a<-cellOf env name;pure (gG ((name,a)::cs)))else pure (gG cs))
  (fun n k a c e hc=>by
   subst e;simp only[cellOf,hc];rfl) (fun n k a e=>by
   have e':(k==bT)=false:=by simpa using e
   simp only[e',aQ,if_false]) scope.names [] h
 unfold FE;show(forIn scope.names [] _>>=fun r=>pure r)=_;exact(congrArg (·>>=fun r=>pure r) q).trans rfl
theorem kc{cells:List (Str×Addr)}:∀(names:List (Str×dU))(acc:List (Str×Addr))(x:Str)(c:Addr),(fo cells names acc).lookup x=some c->
  ((x,bT)∈names/\c=(cells.lookup x).getD 0)\/acc.lookup x=some c
 | [],acc,x,c,h=>.inr h
 | (n,k)::r,acc,x,c,h=>by
  rcases kc r _ x c h with⟨q,e⟩ |q
  ·exact .inl ⟨aM _ q,e⟩
  ·by_cases e:k=.free
   ·rw[if_pos e,bf]at q
    cases hx:x==n with
    |true=>
     rw[hx]at q;have en:x=n:=by simpa using hx
     subst en;subst e;exact .inl ⟨aG,(aW q).symm⟩
    |false=>
     rw[hx]at q;exact .inr q
   ·rw[if_neg e]at q
    exact .inr q
theorem vp{cells:List (Str×Addr)}:∀(names:List (Str×dU))(acc:List (Str×Addr))(x:Str),(acc.lookup x).isSome=true->((fo cells names acc).lookup x).isSome=true
 | [],acc,x,h=>h
 | (n,k)::r,acc,x,h=>by
  refine vp r _ x ?_;split
  ·rw[bf]
   cases x==n<;>simp_all
  ·exact h
theorem pG{cells:List (Str×Addr)}:∀(names:List (Str×dU))(acc:List (Str×Addr))(x:Str),(x,bT)∈names->((fo cells names acc).lookup x).isSome=true
 | [],acc,x,h=>by simp at h
 | (n,k)::r,acc,x,h=>by
  rcases aE.mp h with q|q
  ·cases q
   refine vp r _ n ?_;simp[bf]
  ·exact pG r _ x q
theorem fF:∀(names:List (Str×dU))(n:Nat)(acc:List (Str×Addr)),cC n names acc=cC n names []++acc
 | [],_,_=>rfl
 | (x,k)::r,n,acc=>by
  unfold cC;split
  ·rw[fF r (n+1) ((x,n)::acc),fF r (n+1) [(x,n)],lQ]
   rfl
  ·exact fF r n acc
theorem kg:∀(names:List (Str×dU))(n:Nat)(acc:List (Str×Addr))(x:Str),(acc.lookup x).isSome=true->((cC n names acc).lookup x).isSome=true
 | [],_,_,_,h=>h
 | (y,k)::r,n,acc,x,h=>by
  unfold cC;split
  ·refine kg r _ _ x ?_
   rw[bf];cases x==y<;>simp_all
  ·exact kg r _ _ x h
theorem iM:∀(names:List (Str×dU))(n:Nat)(acc:List (Str×Addr))(x:Str),(x,cO)∈names->((cC n names acc).lookup x).isSome=true
 | [],_,_,_,h=>nomatch h
 | (y,k)::r,n,acc,x,h=>by
  unfold cC;rcases aE.mp h with q|q
  ·cases q
   rw[if_pos (by rfl)];refine kg r _ _ _ ?_;simp[bf]
  ·split
   ·exact iM r _ _ x q
   ·exact iM r _ _ x q
theorem ke:∀(names:List (Str×dU))(n:Nat)(acc:List (Str×Addr))(x:Str)(c:Addr),(x,c)∈cC n names acc->(x,cO)∈names\/(x,c)∈acc
 | [],_,_,_,_,h=>.inr h
 | (y,k)::r,n,acc,x,c,h=>by
  unfold cC at h;split at h
  ·rename_i hk
   rcases ke r _ _ x c h with q|q
   ·exact .inl (aM _ q)
   ·rcases aE.mp q with e|e
    ·cases e
     have :k=.cell:=by simpa using hk
     subst this;exact .inl aG
    ·exact .inr e
  ·rcases ke r _ _ x c h with q|q
   ·exact .inl (aM _ q)
   ·exact .inr q
theorem B7{M:Model}{globals:Addr}{cl:List (Str×Addr)}{code:Value}{outer:Env}{builtins:Addr}{Q:Env->Shared->Prop}
  (h:Q (newEnv scope s.heap.objs.size globals (cC (s.heap.objs.size+1) scope.names cl) qual func code (some outer) builtins) {s with heap:=pushCells (s.heap.push {cls:=.type "dict",data:=.dict #[]}) scope.names}):
  wpAny M A (newFunctionEnv scope globals cl [] qual func code (some outer) builtins) Q E s:=by
 simp only[newFunctionEnv,gZ,if_true];refine af (wpAny_alloc ?_);refine af (wpAny_layCells _ (fun name kind cells=>by cases hkc:kind==cO<;>simp[hkc]) _ _ _ _ ?_);rw[show({s with heap:=s.heap.push {cls:=.type "dict",data:=.dict #[]}}:Shared).heap.objs.size=s.heap.objs.size+1 from bw ..];rw[zk];exact af (aj (aj h))
structure nW(X:Cx)(N':List Str)(sc:Scope):Prop where
 kind:sc.kind=.function
 cellk:∀y∈sc.names,y.2=.cell->sc.names.lookup y.1=some .cell
 own:∀y∈sc.names,y.2=.local->sc.names.lookup y.1=some .local
 free:∀y∈sc.names,y.2=.free->X.env.kindOf y.1=some .cell\/X.env.kindOf y.1=some .free
noncomputable def dI(X:Cx)(N':List Str)(sc:Scope)(C:Addr)(s₀:Shared)(H₀:Hp)(fp:List Addr):Cx:=
 {X with N:=N',s₀:=s₀,H₀:=H₀,env:=compEnvC sc (cC (C+1) sc.names (fo X.env.cells sc.names [])) C X.env,outer:=X.stack,stack:=X.stack,ex:=fp,fn:=fun x=>sc.names.any fun y=>decide (y.1=x)&&decide (y.2=.cell),pn:=[],xe:=fun _ _=>False}
theorem mE{env:Env}:∀{names:List (Str×dU)}{x:Str}{k:dU},
  (names.map fun(n,k)=>if(k==bT&&env.scope.kind== .function&&env.kindOf n==some .cell)then(n,cO)else(n,k)).lookup x=some k->
  names.lookup x=some k\/(names.lookup x=some .free/\k=.cell)
 | [],_,_,h=>by simp at h
 | (n,k)::r,x,k',h=>by
  have ih:= @mE env r x k';rw[bK]at h;change jt x ((if(k==bT&&env.scope.kind== .function&&env.kindOf n==some .cell)=true then(n,cO)else(n,k))::_)=_ at h;cases hx:x==n with
  |true=>
   by_cases hc:(k==bT&&env.scope.kind== .function&&env.kindOf n==some .cell)=true
   ·rw[if_pos hc]at h
    simp only[bf,hx]at h⊢;have :k=.free:=by
     have :=hc
     simp only[aN]at this;simpa using this.1.1
    subst this;exact .inr ⟨rfl,(aW h).symm⟩
   ·rw[if_neg hc]at h
    simp only[bf,hx]at h⊢;exact .inl h
  |false=>
   have e:jt x (r.map fun(n,k)=>if(k==bT&&env.scope.kind== .function&&env.kindOf n==some .cell)then(n,cO)else(n,k))=some k':=by
    split at h<;>simpa only[bf,hx]using h
   simp only[bf,hx];exact ih e
theorem gm{env:Env}:∀{names:List (Str×dU)}{x:Str},names.lookup x=some .free->
  (names.map fun(n,k)=>if(k==bT&&env.scope.kind== .function&&env.kindOf n==some .cell)then(n,cO)else(n,k)).lookup x=some .free\/
  (names.map fun(n,k)=>if(k==bT&&env.scope.kind== .function&&env.kindOf n==some .cell)then(n,cO)else(n,k)).lookup x=some .cell
 | [],_,h=>by simp at h
 | (n,k)::r,x,h=>by
  have ih:= @gm env r x;rw[bK];change jt x ((if(k==bT&&env.scope.kind== .function&&env.kindOf n==some .cell)=true then(n,cO)else(n,k))::_)=_\/jt x ((if(k==bT&&env.scope.kind== .function&&env.kindOf n==some .cell)=true then(n,cO)else(n,k))::_)=_;cases hx:x==n with
  |true=>
   simp only[bf,hx]at h;cases h;by_cases hc:(bT==bT&&env.scope.kind== .function&&env.kindOf n==some .cell)=true
   ·rw[if_pos hc];right;simp only[bf,hx]
   ·rw[if_neg hc];left;simp only[bf,hx]
  |false=>
   simp only[bf,hx]at h;split <;>simpa only[bf,hx]using ih h
theorem fO{env:Env}:∀{names:List (Str×dU)}{x:Str}{k:Option dU},names.lookup x=k->k≠some .free->
  (names.map fun(n,k)=>if(k==bT&&env.scope.kind== .function&&env.kindOf n==some .cell)then(n,cO)else(n,k)).lookup x=k
 | [],_,_,h,_=>by simpa using h
 | (n,k)::r,x,k',h,hf=>by
  have ih:= @fO env r x k';rw[bK];change jt x ((if(k==bT&&env.scope.kind== .function&&env.kindOf n==some .cell)=true then(n,cO)else(n,k))::_)=_;cases hx:x==n with
  |true=>
   simp only[bf,hx]at h;have hk:k≠.free:=fun e=>hf (by rw[<-h,e]);have hb:(k==bT)=false:=by simpa using hk
   rw[if_neg (by rw[hb];simp)];simp only[bf,hx];exact h
  |false=>
   simp only[bf,hx]at h;split <;>simpa only[bf,hx]using ih h hf
theorem w8{cl:List (Str×Addr)}{env:Env}{k:dU}(h:(compEnvC sc cl C env).kindOf x=some k):sc.names.lookup x=some k\/(sc.names.lookup x=some .free/\k=.cell):=mE (env:=env) h
theorem Cc{R:Result->Shared->Prop}{elt target:Expr}{ifs:List Expr}{it acc:Value}{env:Env}(I:Nat->Shared->Prop)
  (turn:∀n s,I n s->wpAny (model prog w) A (pyNext it) (fun r s₁=>match r with
   |none=>R (.ok .next) s₁
   |some v=>wpAny (model prog w) A (rf target it v) (fun _ s₁'=>wpAny (model prog w) A (assign target env v) (fun _ s₂=>
     wpAny (model prog w) A (forIn ifs true fun c r=>if r=true then do let ok<-isTrue c env (eval c env);pure (gG ok)else pure (gG r)) (fun ok s₃=>
      if ok=true then wpAny (model prog w) A (eval elt env) (fun x s₄=>
       wpAny (model prog w) A (call (.builtin "list.append") [acc,x]) (fun _ s₅=>∃m,m<n/\I m s₅) (fun _ _=>False) s₄) (fun _ _=>False) s₃
      else ∃m,m<n/\I m s₃) (fun _ _=>False) s₂) (fun _ _=>False) s₁') (fun _ _=>False) s₁) (fun _ _=>False) s)
  (n:Nat) (h:I n s):
  iO (model prog w) A (.compLoop (.ListComp elt [⟨target,iter,ifs,0⟩] scope pos) 0 it acc env) R s:=by
 refine codeAny_loop rfl I (fun n s hI=>?_) n h;show wpAny _ A ((compTurn (.ListComp elt [⟨target,iter,ifs,0⟩] scope pos) 0 it acc env).onRaise (fun x=>do l7 x env;theTreesLotGoes x)) _ _ s;refine wpAny_noted ?_;rw[compTurn_list];refine af (Jk (af (fW (turn n s hI) (fun r s₁ h₁=>?_) fun _ _ h'=>h'.elim)));cases r with
 |none=>exact aj h₁
 |some v=>
  refine af (fW h₁ (fun _ s₁' h₁'=>?_) fun _ _ h'=>h'.elim);refine af (fW h₁' (fun _ s₂ h₂=>af (fW h₂ (fun ok s₃ h₃=>?_) fun _ _ h'=>h'.elim)) fun _ _ h'=>h'.elim);cases ok with
  |false=>exact aj ⟨rfl,h₃⟩
  |true=>
   exact af (af (fW h₃ (fun x s₄ h₄=>af (fW h₄ (fun _ s₅ h₅=>aj (aj ⟨rfl,h₅⟩)) fun _ _ h'=>h'.elim)) fun _ _ h'=>h'.elim))
def PTs(X:Cx)(ifs:List Expr)(t:TT):Prop:=
 ∀(pins:List (Addr×Obj))(s:Shared)(σ:St)(H:Hp)(Q:Bool->Hp->Prop),Inv X pins σ H s->t σ H Q->
  wpAny (model X.prog X.w) X.A (forIn ifs true fun c r=>if r=true then do let ok<-isTrue c X.env (eval c X.env);pure (gG ok)else pure (gG r)) (TP X pins σ Q) X.xe s
noncomputable def tYes:TT:=fun _ H Q=>Q true H
theorem pts_nil:PTs X [] tYes:=by
 intro pins s σ H Q I h;rw[zk];exact aj ⟨H,I,h⟩
theorem pts_one{c:Expr}{t:TT}(h:PT X c t):PTs X [c] t:=by
 intro pins s σ H Q I hw;rw[List.forIn_cons];simp only[if_true];refine af (af (thn (h pins s σ H Q I hw) fun b s1 q=>?_));refine aj ?_;show wpAny _ _ (forIn ([]:List Expr) b _) _ _ s1;rw[zk];exact aj q
noncomputable def uc(wi:TI)(g:TG)(tc:TT)(te:TE)(mk:St->St):TE:=fun σ H Q=>wi σ H fun J H1=>∃W:Nat->Nat->St->List V->Hp->Prop,(∃m,W 0 m (mk σ) [] H1)/\
 ∀i m τ acc H2,W i m τ acc H2->(J.stop i H2/\∀l,H2 l=none->Q (.ref l) (upd H2 l (.lst acc)))\/(J.go i H2/\∃N:St->List V->Hp->Prop,(∀τ' acc' H',N τ' acc' H'->∃m',m'<m/\W (i+1) m' τ' acc' H')/\
  ∀x H3,J.yld i H2 x H3->g x τ H3 fun τ4 H4=>tc τ4 H4 fun b H5=>if b=true then te τ4 H5 fun v H6=>acc.length<sizeLine/\N τ4 (acc++[v]) H6 else N τ4 acc H5)
theorem Inv.track{o:HO}(I:Inv X pins σ H s)(hf:qR X pins H a)(new:dQ X.prog X.w (upd H a o) s.heap a o):Inv X pins σ (upd H a o) s:=by
 obtain⟨h0,h1,h2,h3,h4,h5⟩:=hf;have :=I.step (g':=s.gens) (d':=s.drawn) (t':=s.toks) (h':=s.heap) (H':=upd H a o) (ch:=[a]) (fun b hb=>by
   have e:b=a:=by simpa using hb
   subst e;exact⟨h3,h1,h4,h5⟩)
  (fun b ob _ _ _ q _=>q) (fun b ob _ _ _ q _=>⟨ob.slots,q⟩) (fun b ob hb q n=>by rw[bo (fun z=>hb (by simp[z]))];exact n) (fun b ob _ q=>⟨ob,q⟩)
  (fun b xs q=>by rw[bo (bO q h0)];exact q) (fun b ob u q=>by rw[bo (bO q h0)];exact q) (fun b ps q=>⟨#[],by rw[bo (bO q h0),q];simp⟩)
  (fun m hm=>hm) (fun b u q=>by
   by_cases hb:b=a
   ·subst hb;rw[ao]at q;cases q;exact new
   ·rw[bo hb]at q
    exact(I.hok b u q).oh (fun c v _ e=>e) (fun c e=>by rw[bo (bO e h0)];exact e) fun c xs e=>by rw[bo (bO e h0)];exact e) I.bare
 exact this
theorem Cm{Q:Value->Shared->Prop}(I:Inv X pins σ H s)(hf:qR X pins H a)
  (e:s.heap.get? a=some {cls:=.type "list",data:=.seq its.toArray n}) (hz:its.length<sizeLine)
  (h:∀h' n',Inv X pins σ H {s with heap:=h'}->h'.get? a=some {cls:=.type "list",data:=.seq (its++[u]).toArray n'}->(∀b o,b≠a->s.heap.get? b=some o->h'.get? b=some o)->Q .none {s with heap:=h'}):
  wpAny (model X.prog X.w) X.A (call (.builtin "list.append") [.ref a,u]) Q E s:=by
 refine jQ F.slot_list_append ⟨_,e,rfl⟩ F.entry_list_append (F.args_list_append_2 _ _) (PySem.list_append a its.toArray n u (by rw[au];omega)) ⟨e,?_⟩;have q:=FF e (·.push u);have eq:its.toArray.push u=(its++[u]).toArray:=by simp
 rw[eq]at q;have k:∀b o,b≠a->s.heap.get? b=some o->(s.heap.update a (aS (·.push u))).get? b=some o:=fun b o hb z=>(aT s.heap _ (bQ hb)).trans z;obtain⟨h0,h1,h2,h3,h4,h5⟩:=hf;exact h _ _ (I.turned (t':=s.toks) k h0 h1 h3 h4 h5) q k
section
variable {X:Cx}{N':List Str}{sc:Scope}{elt tg iter:Expr}{ifs:List Expr}{pos:Pos}{wi:TI}{g:TG}{tc:TT}{te:TE}{mk:St->St}
def MkOk(X:Cx)(N':List Str)(sc:Scope)(mk:St->St):Prop:=
 ∀σ:St,σ.length=X.N.length->(mk σ).length=N'.length/\∀(i:Nat)(x:Str)(v:V),N'[i]? =some x->(mk σ)[i]? =some (some v)->sc.names.lookup x=some .free/\∃j:Nat,X.N[j]? =some x/\σ[j]? =some (some v)
theorem xh{Q:VK}{use:Option (Value->Sem Unit)}(S:nW X N' sc)(hm:MkOk X N' sc mk)(hc:X.calm=true)
  (hi:PI X tg iter wi)
  (hb:∀C s₀ H₀ fp,(dI X N' sc C s₀ H₀ fp).Ok->PG (dI X N' sc C s₀ H₀ fp) tg g/\PTs (dI X N' sc C s₀ H₀ fp) ifs tc/\PE (dI X N' sc C s₀ H₀ fp) elt te)
  (hs:∀x,jk iter X.env x=pure x)(I:Inv X pins σ H s)(h:uc wi g tc te mk σ H Q)
  (fin:∀(l C:Addr)(H':Hp)(s':Shared)(m:Str->Option Value),Inv X pins σ H' s'->s'.heap.Ns C m->qR X pins H' C->(∃o,s'.heap.get? C=some o/\∀v,o.data≠.cell v)->Q (.ref l) H'->compPost (model X.prog X.w) X.A X.xe use QQ (.ref l) C (.ok .next) s'):
  wpAny (model X.prog X.w) X.A (comprehension (.ListComp elt [⟨tg,iter,ifs,0⟩] sc pos) sc X.env (firstIterPos [⟨tg,iter,ifs,0⟩] pos) (newList []) false (eval iter X.env) use) QQ X.xe s:=by
 have hcells:∀y∈sc.names,y.2=.free->∃c,X.env.cells.lookup y.1=some c:=fun y hy hf=>I.ok.has _ (S.free y hy hf);refine wpAny_comprehension_free (use:=use) rfl hs (wk hcells) S.kind S.own ?_;refine thn (hi pins s σ H _ I h) fun v s1 h1=>thn h1 fun itv s2 h2=>?_;obtain⟨it,fp,tn,J,H2,e,I2,T,st2,f2,W,⟨m0,w0⟩,turn⟩:=h2;subst e
 --the list
 refine bV ?_;have hl0:H2 s2.heap.objs.size=none:=I2.fresh;have fD:qR X pins H2 s2.heap.objs.size:=I2.Aq (aB _) hl0;have eD3:(s2.heap.push {cls:=.type "list",dict:=none,data:=.seq ([]:List Value).toArray}).get? s2.heap.objs.size=some {cls:=.type "list",data:=.seq ([]:List Value).toArray 0}:=az _ rfl;have I3:Inv X pins σ H2 {s2 with heap:=s2.heap.push {cls:=.type "list",dict:=none,data:=.seq ([]:List Value).toArray}}:=I2.kept (t':=s2.toks) fun b o e=>ag _ e
 --the block's frame
 refine B7 ?_;dsimp only;have szL:(s2.heap.push {cls:=.type "list",dict:=none,data:=.seq ([]:List Value).toArray}).objs.size=s2.heap.objs.size+1:=bw ..;have hDC:s2.heap.objs.size≠(s2.heap.push {cls:=.type "list",dict:=none,data:=.seq ([]:List Value).toArray}).objs.size:=by rw[szL];exact aI (dP _)
 have k23:∀b o,s2.heap.get? b=some o->(s2.heap.push {cls:=.type "list",dict:=none,data:=.seq ([]:List Value).toArray}).get? b=some o:=fun b o e=>ag _ e;generalize hH3:s2.heap.push {cls:=.type "list",dict:=none,data:=.seq ([]:List Value).toArray}=P3 at I3 szL eD3 hDC k23⊢;generalize hD:s2.heap.objs.size=D0 at *;have hns4:(pushCells (P3.push {cls:=.type "dict",data:=.dict #[]}) sc.names).Ns P3.objs.size (fun _=>none):=(Heap.Ns.new P3 (.type "dict")).keeps (pushCells_keeps _ _);have keep4:∀b o,P3.get? b=some o->(pushCells (P3.push {cls:=.type "dict",data:=.dict #[]}) sc.names).get? b=some o:=fun b o e=>pushCells_keeps _ _ b o (ag _ e);have own4:=cellsFrom_ok sc.names (P3.push {cls:=.type "dict",data:=.dict #[]}) (P3.objs.size+1) [] ⟨fun _ _ hm=>(nomatch hm),ot⟩ (by rw[bw];exact aB _);rw[bw]at own4;generalize pushCells (P3.push {cls:=.type "dict",data:=.dict #[]}) sc.names=h4 at hns4 keep4 own4⊢
 --the context
 have fpl:∀b∈fp,b<D0:=fun b hb=>by
  obtain⟨o,e,_⟩:=T.obj _ _ st2 b hb;rw[<-hD];exact aA e
 have hCb:D0<P3.objs.size:=by rw[szL];exact dP _
 have clo:∀x c,(fo X.env.cells sc.names []).lookup x=some c->X.env.cells.lookup x=some c/\(x,bT)∈sc.names:=fun x c e=>by
  rcases kc _ _ x c e with⟨q,e'⟩ |q
  ·obtain⟨c',hc'⟩:=hcells _ q rfl
   have hc'':X.env.cells.lookup x=some c':=hc';rw[hc'']at e'⊢;exact⟨by rw[e'];rfl,q⟩
  ·simp at q
 have clt:∀x c,(fo X.env.cells sc.names []).lookup x=some c->c<P3.objs.size:=fun x c e=>by
  obtain⟨v,o,ho,_⟩:=I3.cell x c (clo x c e).1;exact aA ho
 have cel:∀x c,(cC (P3.objs.size+1) sc.names (fo X.env.cells sc.names [])).lookup x=some c->((x,c)∈cC (P3.objs.size+1) sc.names []/\P3.objs.size+1<=c/\h4.IsCell c none)\/(fo X.env.cells sc.names []).lookup x=some c:=fun x c e=>by
  rw[fF,sQ]at e;cases ho:(cC (P3.objs.size+1) sc.names []).lookup x with
  |none=>
   rw[ho]at e;exact .inr e
  |some c'=>
   rw[ho]at e;cases e;have m:=bp ho;exact .inl ⟨m,(own4.empty x c m).2,(own4.empty x c m).1⟩
 have celf:∀x,sc.names.lookup x=some .free->(cC (P3.objs.size+1) sc.names (fo X.env.cells sc.names [])).lookup x=(fo X.env.cells sc.names []).lookup x:=fun x hf=>by
  rw[fF,sQ];cases ho:(cC (P3.objs.size+1) sc.names []).lookup x with
  |none=>rfl
  |some c'=>
   rcases ke _ _ _ _ _ (bp ho)with q|q
   ·have :=S.cellk _ q rfl
    rw[hf]at this;cases this
   ·cases q
 have f3:∀b∈D0::fp,qR X pins H2 b/\b<P3.objs.size:=fun b hb=>by
  rcases aE.mp hb with z|z
  ·rw[z];exact⟨fD,hCb⟩
  ·exact⟨f2 b z,gQ (fpl b z) hCb⟩
 have ok:(dI X N' sc P3.objs.size {s2 with heap:=P3} H2 (D0::fp)).Ok:=by
  refine⟨I.ok.mod,S.kind,I.ok.glob,I.ok.blt,aB _,fun x y c h1 h2=>?_,fun x hx=>?_,fun x c z=>?_,fun z=>I.ok.hd z,I.ok.frames,.inl rfl,fun b hb=>⟨?_,fun x c e=>?_⟩,I3.bs,aR I.ok.bsz I3.sz,fun b o e hb=>?_,fun b hb z=>?_,I3.stack,I3.xN⟩
  ·rcases cel x c h1 with⟨m1,l1,_⟩ |q1<;>rcases cel y c h2 with⟨m2,l2,_⟩ |q2
   ·exact PySem.name_of_addr own4.apart m1 m2
   ·exact absurd l1 (Nat.not_le.mpr (bA (clt y c q2)))
   ·exact absurd l2 (Nat.not_le.mpr (bA (clt x c q1)))
   ·exact I.ok.inj x y c (clo x c q1).1 (clo y c q2).1
  ·have q:sc.names.lookup x=some .free\/sc.names.lookup x=some .cell:=by
    rcases hx with hx|hx
    ·rcases w8 hx with q|q
     ·exact .inr q
     ·exact .inl q.1
    ·rcases w8 hx with q|q
     ·exact .inl q
     ·exact .inl q.1
   rcases q with q|q
   ·have h1:=eR.mp (pG (cells:=X.env.cells) _ [] _ (bp q))
    show ∃c,(cC (P3.objs.size+1) sc.names (fo X.env.cells sc.names [])).lookup x=some c;rw[celf x q];exact h1
   ·exact eR.mp (iM _ _ _ _ (bp q))
  ·have z:(sc.names.any fun y=>decide (y.1=x)&&decide (y.2=cO))=true:=z
   obtain⟨y,hy,e⟩:=b9.mp z;rw[aN,decide_eq_true_eq,decide_eq_true_eq]at e;intro hc;rcases cel x c hc with⟨_,l1,_⟩ |q1
   ·show P3.objs.size<=c
    omega
   ·have hk:=S.cellk y hy e.2
    rw[e.1]at hk;rcases kc _ _ x c q1 with⟨q,_⟩ |q
    ·have h2:(cC (P3.objs.size+1) sc.names []).lookup x≠none:=fun h=>by
      have :=iM sc.names (P3.objs.size+1) [] x (bp hk)
      rw[h]at this;cases this
     have hc':(cC (P3.objs.size+1) sc.names (fo X.env.cells sc.names [])).lookup x=some c:=hc;rw[fF,sQ]at hc';cases ho:(cC (P3.objs.size+1) sc.names []).lookup x with
     |none=>exact absurd ho h2
     |some c'=>
      rw[ho]at hc';cases hc';have :=(own4.empty x c (bp ho)).2;show P3.objs.size<=c;omega
    ·cases q
  ·exact aI (f3 b hb).2
  ·rcases cel x c e with⟨_,l1,_⟩ |q1
   ·have :=(f3 b hb).2
    exact fun z=>by subst z;omega
   ·exact(f3 b hb).1.2.2.2.2.1 x c (clo x c q1).1
  ·rcases(f3 b hb).1.2.2.2.1 with z|z
   ·exact I.ok.noex b o e z
   ·exact absurd (aV (aA e) (aR I.ok.bsz z)) (dk _)
  ·rcases aE.mp (I2.Bq b z)with q|q
   ·exact(f3 b hb).1.2.1 q
   ·exact(f3 b hb).1.2.2.1 q
 obtain⟨pg,pt,pe⟩:=hb _ _ _ _ ok;have I4:Inv (dI X N' sc P3.objs.size {s2 with heap:=P3} H2 (D0::fp)) [] (mk σ) H2 {s2 with heap:=h4}:=by
  obtain⟨ml,hmk⟩:=hm σ I.len;have locC:∀x c v,X.env.cells.lookup x=some c->P3.IsCell c v->h4.IsCell c v:=fun x c v e ⟨o,ho,hd⟩=>⟨o,keep4 c o ho,hd⟩;refine⟨ok,rfl,I2.bare,Un.kept keep4,⟨_,hns4,fun i x v e1 e2 e3=>?_⟩,fun x c e=>?_,I3.hok.fresh (aB _),fun x c e=>?_,fun p hp=>absurd (show p∈([]:List (Addr×Obj))from hp) (by simp),I3.hok.kept keep4,ml⟩
  ·obtain⟨hf,j,hj,hv⟩:=hmk i x v e1 e2
   obtain⟨m,hn,hl⟩:=I3.loc;have kx:=S.free (x,.free) (bp hf) rfl;obtain⟨u,r,l⟩:=hl j x v hj hv (by
    rcases kx with q|q
    ·exact .inr (.inl q)
    ·exact .inr (.inr q))
   refine⟨u,r,.inr ⟨?_,?_⟩⟩
   ·rcases gm (env:=X.env) hf with q|q
    ·exact .inr q
    ·exact .inl q
   ·rcases l with⟨q,_⟩ |⟨_,c,hc1,hc2⟩
    ·have kx':X.env.kindOf x=some .cell\/X.env.kindOf x=some .free:=kx
     rw[q]at kx';rcases kx' with z|z<;>cases z
    ·obtain⟨c',q⟩:=eR.mp (pG (cells:=X.env.cells) _ [] _ (bp hf))
     have :=(clo x c' q).1
     rw[hc1]at this;cases this;exact⟨c,by show(cC (P3.objs.size+1) sc.names (fo X.env.cells sc.names [])).lookup x=some c;rw[celf x hf];exact q,locC x c _ hc1 hc2⟩
  ·rcases cel x c e with⟨_,_,hv⟩ |q1
   ·exact⟨none,hv⟩
   ·obtain⟨v,hv⟩:=I3.cell x c (clo x c q1).1
    exact⟨v,locC x c v (clo x c q1).1 hv⟩
  ·rcases cel x c e with⟨_,l1,_⟩ |q1
   ·exact I3.hok.fresh (by show P3.objs.size<=c;omega)
   ·exact I3.freeC x c (clo x c q1).1
 have st4:tn 0 h4:=T.keep _ _ _ st2 fun b hb o e=>keep4 b o (k23 b o e);have f4:∀{H':Hp}{b:Addr},b∈D0::fp->H' b=none->qR (dI X N' sc P3.objs.size {s2 with heap:=P3} H2 (D0::fp)) [] H' b:=fun{H' b} hb hn=>
  ⟨hn,(ok.exf b hb).1,ok.exfs b hb,.inl hb,(ok.exf b hb).2,fun p hp=>absurd (show p∈([]:List (Addr×Obj))from hp) (by simp)⟩
 have ofp:∀{b:Addr},b∈fp->b∈D0::fp:=fun hb=>aM _ hb;have nD:∀b∈fp,b≠D0:=fun b hb=>aI (fpl b hb)
 --the loop
 have loop:iO (model X.prog X.w) X.A (.compLoop (.ListComp elt [⟨tg,iter,ifs,0⟩] sc pos) 0 (.ref it) (.ref D0) (compEnvC sc (cC (P3.objs.size+1) sc.names (fo X.env.cells sc.names [])) P3.objs.size X.env))
   (compPost (model X.prog X.w) X.A X.xe use QQ (.ref D0) P3.objs.size) {s2 with heap:=h4}:=by
  refine Cc (fun n s'=>∃i τ acc H' its k,Inv (dI X N' sc P3.objs.size {s2 with heap:=P3} H2 (D0::fp)) [] τ H' s'/\tn i s'.heap/\(∀b∈D0::fp,H' b=none)/\bD acc its/\acc.length<=sizeLine/\
    s'.heap.get? D0=some {cls:=.type "list",data:=.seq its.toArray k}/\W i n τ acc H') ?_ m0
   ⟨0,mk σ,[],_,[],0,I4,st4,fun b hb=>(f3 b hb).1.1,.nil,aX _,keep4 _ _ eD3,w0⟩
  rintro n s5 ⟨i,τ,acc,H5,its,kk,I5,st5,fr5,va5,hz5,e5,w5⟩;have I5p:Inv (dI X N' sc P3.objs.size {s2 with heap:=P3} H2 (D0::fp)) ([]++i5 [D0] s5.heap) τ H5 s5:=by
   refine I5.pinned (fun b hb=>?_) (fun b hb=>?_)
   ·have z:b=D0:=by simpa using hb
    rw[z];exact f4 aG (fr5 D0 aG)
   ·have z:b=D0:=by simpa using hb
    rw[z];exact⟨_,e5,fun v z=>by cases z⟩
  obtain q|⟨go,NN,hN,step⟩:=turn i n τ acc H5 w5
  ·obtain⟨stop,q⟩:=q
   refine thn (T.done (dI X N' sc P3.objs.size {s2 with heap:=P3} H2 (D0::fp)) rfl rfl rfl hc i _ s5 τ H5 (fun _ _=>False) I5p (fun b hb=>?_) st5 stop) fun r s6 ⟨hr,I6p⟩=>?_
   ·obtain⟨g0,g1,g2,g3,g4,_⟩:=f4 (ofp hb) (fr5 b (ofp hb))
    refine⟨g0,g1,g2,g3,g4,fun p hp=>?_⟩;have hp':p∈i5 [D0] s5.heap:=by simpa[dI]using hp
    obtain⟨z,_⟩:=rL hp';have z':p.1=D0:=by simpa using z
    rw[z'];exact(nD b hb).symm
   subst hr;have I6:=I6p.hJ;have e6:s6.heap.get? D0=some {cls:=.type "list",data:=.seq its.toArray kk}:=(I6p.pin (D0,_) (a7 _ (a7 _ (iF (by simp) e5)))).1
   --back in the context around
   have un:Un (frs X.stack) fp H2 H5 s2.heap s6.heap:=by
    have u:=I6.base;have nb:∀b o,s2.heap.get? b=some o->b∉fp->b∉D0::fp:=fun b o e hb z=>by
     rcases aE.mp z with z|z
     ·exact absurd (aA e) (by rw[z,hD];exact dk _)
     ·exact hb z
    exact⟨fun b o e n hb hx=>u.keep b o (k23 b o e) n hb (nb b o e hx),fun b o e n hb hx=>u.slot b o (k23 b o e) n hb (nb b o e hx),fun b o e n hx=>u.free b o (k23 b o e) n (nb b o e hx),fun b o e hx=>u.there b o (k23 b o e) (nb b o e hx),u.tups,u.frzs,u.tbls⟩
   have I7:Inv X pins σ H5 s6:=by
    obtain⟨hh,g6,d6,t6,os6⟩:=s6;have eo:os6=s2.os:=I6.os;subst eo;exact I2.call (h':=hh) (g':=g6) (d':=d6) (t':=t6) (ch:=fp) un I6.hok I6.bare fun b hb=>⟨(f2 b hb).2.2.2.1,(f2 b hb).2.1,(f2 b hb).2.2.2.2.1,(f2 b hb).2.2.2.2.2⟩
   have fD5:qR X pins H5 D0:=⟨fr5 D0 aG,fD.2⟩;have I8:=I7.track (o:=.lst acc) fD5 (show dQ X.prog X.w _ s6.heap D0 (.lst acc)from⟨hz5,its,kk,va5,e6⟩);obtain⟨m,hn,_⟩:=id I6.loc;refine fin _ P3.objs.size _ s6 m I8 hn (I2.Aq (by rw[hD];exact ku hCb) (by rw[bo (bQ hDC)];exact I6.free)) ?_ (q D0 (fr5 D0 aG));obtain⟨o,es,ep,ho,hd,_⟩:=hn;exact⟨o,ho,fun v z=>by rw[hd]at z;cases z⟩
  ·skip
   have fpi:∀{H':Hp}{b:Addr},b∈fp->H' b=none->qR (dI X N' sc P3.objs.size {s2 with heap:=P3} H2 (D0::fp)) ([]++i5 [D0] s5.heap) H' b:=fun{H' b} hb hn=>by
    obtain⟨g0,g1,g2,g3,g4,_⟩:=f4 (H':=H') (ofp hb) hn;refine⟨g0,g1,g2,g3,g4,fun p hp=>?_⟩;have hp':p∈i5 [D0] s5.heap:=by simpa[dI]using hp
    obtain⟨z,_⟩:=rL hp';have z':p.1=D0:=by simpa using z
    rw[z'];exact(nD b hb).symm
   refine thn (T.item (dI X N' sc P3.objs.size {s2 with heap:=P3} H2 (D0::fp)) rfl rfl rfl hc i _ s5 τ H5 (fun _ _=>False) I5p (fun b hb=>fpi hb (fr5 b (ofp hb))) st5 go) fun r s6 ⟨u,hr,h6⟩=>?_;subst hr;refine thn h6 fun _ s7 ⟨x,H7,I7,r7,y7,st7,fr7⟩=>?_;have I7':=I7.pinned (fun b hb=>fpi hb (fr7 b hb)) (T.obj _ _ st7);refine thn (pg _ s7 τ H7 x u _ I7' r7 (step x H7 y7)) fun _ s8 ⟨τ8,H8,I8,q8⟩=>?_;refine thn (pt _ s8 τ8 H8 _ I8 q8) fun b s9 ⟨H9,I9,q9⟩=>?_;have pinD:∀{τ':St}{H':Hp}{s':Shared},Inv (dI X N' sc P3.objs.size {s2 with heap:=P3} H2 (D0::fp)) ([]++i5 [D0] s5.heap++i5 fp s7.heap) τ' H' s'->s'.heap.get? D0=some {cls:=.type "list",data:=.seq its.toArray kk}/\H' D0=none:=fun{τ' H' s'} J=>by
    have :=J.pin (D0,_) (a7 _ (eS _ (a7 _ (iF (by simp) e5))))
    exact⟨this.1,this.2.1⟩
   have pinF:∀{τ':St}{H':Hp}{s':Shared},Inv (dI X N' sc P3.objs.size {s2 with heap:=P3} H2 (D0::fp)) ([]++i5 [D0] s5.heap++i5 fp s7.heap) τ' H' s'->(∀b∈fp,∀o,s7.heap.get? b=some o->s'.heap.get? b=some o)/\(∀b∈fp,H' b=none):=fun{τ' H' s'} J=>by
    refine⟨fun b hb o e=>(J.pin (b,o) (a7 _ (a7 _ (iF hb e)))).1,fun b hb=>?_⟩;obtain⟨o,e,d⟩:=T.obj _ _ st7 b hb;exact(J.pin (b,o) (a7 _ (a7 _ (iF hb e)))).2.1
   cases b with
   |false=>
    rw[if_neg (by decide)]at q9⊢;obtain⟨m',hm',w7⟩:=hN τ8 acc H9 q9;obtain⟨d1,d2⟩:=pinD I9;obtain⟨p1,p2⟩:=pinF I9;refine⟨m',hm',i+1,τ8,acc,H9,its,kk,I9.hJ.hJ,T.keep _ _ _ st7 p1,fun b hb=>?_,va5,hz5,d1,w7⟩;rcases aE.mp hb with z|z
    ·rw[z];exact d2
    ·exact p2 b z
   |true=>
    rw[if_pos rfl]at q9⊢;refine thn (pe _ s9 τ8 H9 _ I9 q9) fun y s10 ⟨z,H10,I10,r10,q10⟩=>?_;obtain⟨hz10,n10⟩:=q10;obtain⟨m',hm',w7⟩:=hN τ8 _ H10 n10;obtain⟨d1,d2⟩:=pinD I10;obtain⟨p1,p2⟩:=pinF I10;have hlen:its.length=acc.length:=va5.length.symm;refine Cm (X:=dI X N' sc P3.objs.size {s2 with heap:=P3} H2 (D0::fp)) I10.hJ.hJ (f4 aG d2) d1 (by omega) fun h' n' I11 e11 k11=>?_;refine⟨m',hm',i+1,τ8,acc++[z],H10,its++[y],n',I11,T.keep _ _ _ st7 fun b hb o e=>k11 b o (nD b hb) (p1 b hb o e),fun b hb=>?_,va5.append (.cons r10 .nil),?_,e11,w7⟩
    ·rcases aE.mp hb with w|w
     ·rw[w];exact d2
     ·exact p2 b w
    ·rw[ba,dF];omega
 exact codeAny_compStart_list loop (T.self _ 0 _ _ _ st4 loop)
theorem pe_comp(S:nW X N' sc)(hm:MkOk X N' sc mk)(hc:X.calm=true)(hi:PI X tg iter wi)
  (hb:∀C s₀ H₀ fp,(dI X N' sc C s₀ H₀ fp).Ok->PG (dI X N' sc C s₀ H₀ fp) tg g/\PTs (dI X N' sc C s₀ H₀ fp) ifs tc/\PE (dI X N' sc C s₀ H₀ fp) elt te)
  (hs:∀x,jk iter X.env x=pure x:=by intro _;rfl):PE X (.ListComp elt [⟨tg,iter,ifs,0⟩] sc pos) (uc wi g tc te mk):=by
 intro pins s σ H Q I h;rw[eval_ListComp];refine xh (use:=none) S hm hc hi hb hs I h fun l C H' s' m I' hn hC hCo q=>⟨m,hn,fun h'' hs''=>?_⟩;have I'':Inv X pins σ H' {s' with heap:=h'',toks:=s'.toks}:=I'.turned (fun b o hb e=>hs''.extBut b o hb e) hC.1 hC.2.1 hC.2.2.2.1 hC.2.2.2.2.1 hC.2.2.2.2.2;exact⟨.ref l,H',I'',rfl,q⟩
theorem BA{spos:Pos}(S:nW X N' sc)(hm:MkOk X N' sc mk)(hc:X.calm=true)(hi:PI X tg iter wi)
  (hb:∀C s₀ H₀ fp,(dI X N' sc C s₀ H₀ fp).Ok->PG (dI X N' sc C s₀ H₀ fp) tg g/\PTs (dI X N' sc C s₀ H₀ fp) ifs tc/\PE (dI X N' sc C s₀ H₀ fp) elt te)
  (hN:X.N.Nodup)(hx:X.N[i]? =some x)(hl:X.env.scope.names.lookup x=some .local)
  (hsw:tU (.ListComp elt [⟨tg,iter,ifs,0⟩] sc pos) (some (.Name x pos')) spos.line X.env=pure true)
  (hs:∀x,jk iter X.env x=pure x:=by intro _;rfl):PS X (.Assign [.Name x pos'] (.ListComp elt [⟨tg,iter,ifs,0⟩] sc pos) spos) (xK (uc wi g tc te mk) (lS i)):=by
 intro pins s σ H D I h;rw[exec_Assign_Name_used _ _ _ _ hsw];refine af (Jk (af ?_));show wpAny _ X.A (do let _<-comprehension (.ListComp elt [⟨tg,iter,ifs,0⟩] sc pos) sc X.env (firstIterPos [⟨tg,iter,ifs,0⟩] pos) (newList []) false (eval iter X.env) (some (assign (.Name x pos') X.env))) _ _ s;refine af (thn (xh (use:=some (assign (.Name x pos') X.env)) (QQ:=fun _ s'=>SP X pins D .next s') S hm hc hi hb hs I h fun l C H' s' m I' hn hC hCo q=>?_) fun _ s' hq=>aj (aj hq));obtain⟨oC,eC,dC⟩:=id hCo;have I1:Inv X (pins++[(C,oC)]) σ H' s':=I'.yc fun p hp=>(cP.mp hp).elim (fun z=>I'.pin p (a7 _ z)) fun z=>by
  have e:p=(C,oC):=by simpa using z
  subst e;exact⟨eC,hC.1,hC.2.1,hC.2.2.1,dC⟩
 show wpAny _ X.A (assign (.Name x pos') X.env (.ref l)) _ _ s';refine thn (C7 (i:=i) hN hx (.inl hl) (.inr hl) (pins++[(C,oC)]) s' σ H' (.ref l) (.ref l) D.nx I1 rfl q) fun _ s2 ⟨σ2,H2,I2,q2⟩=>?_;obtain⟨eC2,nC2,_,_,_⟩:=I2.pin (C,oC) (a7 _ (a7 _ (by simp)));have hn2:s2.heap.Ns C m:=by
  obtain⟨o,es,ep,ho,r⟩:=hn;have :o=oC:=by rw[eC]at ho;exact(aW ho).symm
  subst this;exact⟨o,es,ep,eC2,r⟩
 refine⟨m,hn2,fun h'' hs''=>?_⟩;have I3:Inv X pins σ2 H2 {s2 with heap:=h'',toks:=s2.toks}:=I2.hJ.turned (fun b o hb e=>hs''.extBut b o hb e) nC2 hC.2.1 hC.2.2.2.1 hC.2.2.2.2.1 hC.2.2.2.2.2;exact⟨σ2,H2,I3,q2⟩
end
section
variable {X:Cx}
theorem AG:fz X (.builtin "isinstance") (fun xs H Q=>∃x T t b,xs=[x,.ty T]/\mi X.K H x t/\iB X.K t (.type T)=some b/\Q (.bl b) H):=by
 intro pins s σ H xs us Q I rv h;obtain⟨x,T,t,b,rfl,ty,e,q⟩:=h;obtain⟨u,c,rfl,ru,rc⟩:=rv.two;cases rc;exact w9 I ru ty e fun tk=>⟨.bl b,H,I.tok tk,rfl,q⟩
theorem yT:fz X (.builtin "isinstance") (fun xs H Q=>∃x C t b,xs=[x,.ref C]/\mi X.K H x t/\iB X.K t (.ref C)=some b/\Q (.bl b) H):=by
 intro pins s σ H xs us Q I rv h;obtain⟨x,T,t,b,rfl,ty,e,q⟩:=h;obtain⟨u,c,rfl,ru,rc⟩:=rv.two;cases rc;exact w9 I ru ty e fun tk=>⟨.bl b,H,I.tok tk,rfl,q⟩
theorem F5{bs:List Bool}(r:bD (bs.map V.bl) its):TruthOf prog w A (fun i v=>its.toArray[i]? =some v) (fun i=>bs.getD i false):=by
 intro i v s Q E hP h;have hi:its[i]? =some v:=by simpa using hP
 have e:v=.bool (bs.getD i false):=by
  have hl:=r.length;rw[ai]at hl;have hlt:i<bs.length:=by
   have :=(aC.mp hi).1
   omega
  obtain⟨u,hu,ru⟩:=bD.get (i:=i) (x:=.bl bs[i]) r (by simp[hlt]);rw[hi]at hu;cases hu;have ru':v=zb bs[i]:=ru;rw[ru',ae,aa hlt];rfl
 rw[e];exact cY h
theorem range_all(bs:List Bool):(aw bs.length).all (fun i=>bs.getD i false)=bs.all id:=by
 have :bs=(aw bs.length).map fun i=>bs.getD i false:=by
  apply bg
  ·simp
  ·intro i h1 h2
   simp[h1]
 rw[bF];simp only[bC,aK];constructor
 ·intro h x hx
  obtain⟨i,hi,rfl⟩:=cE.mp hx;have :=h i hi;simpa[hi]using this
 ·intro h i hi
  have :=h bs[i] (a9 hi)
  simpa[hi]using this
theorem IZ(hc:X.calm=true):fz X (.builtin "all") (fun xs H Q=>∃(p:Addr)(bs:List Bool),xs=[.ref p]/\SqL X.K H p (bs.map V.bl)/\Q (.bl (bs.all id)) H):=by
 intro pins s σ H xs us Q I rv h;obtain⟨p,bs,rfl,hq,q⟩:=h;obtain⟨u,rfl,ru⟩:=rv.one;cases ru;obtain⟨its,r,pl,hz⟩:=I.list hq;have hlen:its.toArray.size=bs.length:=by rw[au,<-r.length,ai]
 have hne:p≠s.heap.objs.size:=by obtain⟨o,n,ho,_⟩:=id pl;exact aI (aA ho)
 refine call_all_walk (nX pl.isList ⟨s.heap.objs.size,_,_,_,_,_,fun i=>bs.getD i false,rfl,Walks.list (A:=X.A.in1) (I.ok.hd hc) _ p hne its.toArray,⟨⟨_,az _ rfl,rfl,rfl⟩,pl.isList.at fun o e=>ag _ e⟩,F5 r,fun h' tk k=>?_⟩);rw[hlen,range_all];exact⟨.bl (bs.all id),H,I.kept (t':=tk) fun b o e=>k b o (by simpa using aI (aA e)) (ag _ e),rfl,q⟩
noncomputable def vm(x:Str)(lo hi:Option Int):Str:=⟨((x.cps.toList.drop (HT.sIx x.length 0 lo)).take (HT.sIx x.length x.length hi-HT.sIx x.length 0 lo)).toArray⟩
theorem sIx_eq(n d:Nat)(i:Int):(max 0 (min (if i<0 then i+(n:Int)else i) (n:Int)))=((HT.sIx n d (some i):Nat):Int):=by
 have :=HT.clip_eq i n d
 rw[<-this];split <;>omega
theorem strIx(lo hi:Option Int)(n:Nat):sR lo hi 1 n=(aw (HT.sIx n n hi-HT.sIx n 0 lo)).map fun k=>HT.sIx n 0 lo+k:=by
 have key:∀a b:Nat,sliceRange (a:Int) (b:Int) 1=(aw (b-a)).map fun k=>a+k:=by
  intro a b;unfold sliceRange;have e:(if(1:Int)>0 then(if(a:Int)<b then((b:Int)-a+1-1)/1 else 0)else(if(a:Int)>b then((a:Int)-b-1-1)/(-1)else 0)).toNat=b-a:=by
   rw[if_pos (by decide)];split <;>omega
  simp only[e];apply bE;intro k hk;omega
 have e1:∀(o:Option Int)(d:Nat),(match o with |none=>(d:Int) |some i=>max 0 (min (if i<0 then i+(n:Int)else i) (n:Int)))=((HT.sIx n d o:Nat):Int):=by
  intro o d;cases o with
  |none=>rfl
  |some i=>exact sIx_eq n d i
 have a1:=e1 lo 0;have a2:=e1 hi n;unfold sR;simp only[show(1:Int)>0 by decide,if_true];have b1:((0:Nat):Int)=0:=rfl;rw[b1]at a1;rw[<-key,<-a1,<-a2];cases lo<;>cases hi<;>rfl
theorem pickN(xs:Array Nat)(i:Nat):∀k,((aw k).map fun m=>i+m).filterMap (xs[·]?)=(xs.toList.drop i).take k:=by
 intro k
 induction k with
 |zero=>simp
 |succ k ih=>
  rw[oo,cQ,List.filterMap_append,ih];by_cases h:i+k<xs.size
  ·rw[List.take_succ,iz]
   simp[h]
  ·rw[List.take_succ,iz]
   simp[h]
theorem Et(x:Str)(lo hi:Option Int):Txt.slice x lo hi=vm x lo hi:=by
 have hl:HT.sIx x.length 0 lo<=x.length:=HT.GA _ _ (aX _) lo;have hu:HT.sIx x.length x.length hi<=x.length:=HT.GA _ _ (aB _) hi;unfold Txt.slice vm;rw[strIx];split
 ·rename_i h
  rw[aN,beq_iff_eq,beq_iff_eq,ai,aO]at h;have a:HT.sIx x.length 0 lo=0:=by omega
  have b:HT.sIx x.length x.length hi=x.length:=by omega
  rw[a,b];have :x.cps.toList.length=x.length:=by simp[AW]
  rw[List.drop_zero,FH,<-this,c7]
 ·rw[pickN]
theorem sC{v:Value}{o:Option Int}(p:IsPart v o):∃l:Option (Int×Tok),v=partValue l/\o=l.map (·.1):=by
 cases p with
 |none=>exact⟨none,rfl,rfl⟩
 |int i t=>exact⟨some (i,t),rfl,rfl⟩
noncomputable def rSlS:V->Option Int->Option Int->Hp->VK->Prop:=fun x lo hi H Q=>∃z,x=.str z/\z.length<=sizeLine/\Q (.str (vm z lo hi)) H
theorem sl_str:SlR X rSlS:=by
 intro pins s σ H x v vl vu lo hi sl Q I rx hs pl pu h;obtain⟨z,rfl,hz,q⟩:=h;obtain⟨t,rfl⟩:=rx;obtain⟨l,rfl,rfl⟩:=sC pl;obtain⟨u,rfl,rfl⟩:=sC pu;refine⟨"str",_,F.slot_str_getitem.lookup,typeIs_str _ _ _,?_⟩;refine wpAny_getItem_str_slice (l:=l) (u:=u) (st:=none) hs rfl (post_val_or_str ⟨aR (Txt.slice_le z _ _) hz,fun t' k=>?_⟩);have e:=Et z (l.map (·.1)) (u.map (·.1));unfold Txt.slice at e;refine⟨.str (vm z (l.map (·.1)) (u.map (·.1))),H,I.tok k,⟨t',?_⟩,q⟩;rw[<-e];rfl
noncomputable def Its(x:Str):It:=⟨fun i _=>i<x.length,fun i H v H'=>H'=H/\∃c,x.cps[i]? =some c/\v=.str ⟨#[c]⟩,fun i _=>x.length<=i⟩
end
theorem wG(it:Addr)(x:Str)(t:Tok)(A:Around)(hA:A.handled=none):
  Walks prog w A it [it] [it] x.cps.size (SignAt x) (fun i h=>h.IsStrIter it (gX x) x t i):=by
 unfold gX;cases ha:x.cps.all (·<128)
 ·simp only[aQ,if_false];exact Walks.strWide hA it x t
 ·simp only[if_true];exact Walks.strAscii hA it x t
theorem F4(x:Str)(it:Addr)(t:Tok):Turn P w K tg (Its x) [it] it (fun i h=>h.IsStrIter it (gX x) x t i) where
 mem:=by simp
 obj:=fun i h st b hb=>by
  have e:b=it:=by simpa using hb
  subst e;obtain⟨o,e,c,d⟩:=st;exact⟨o,e,fun v z=>by rw[d]at z;cases z⟩
 keep:=fun i h h' st k=>let⟨o,ho,r⟩:=st;⟨o,k it (by simp) o ho,r⟩
 item:=by
  intro X hP hw hK hc i pins s σ H E I hf st hg;subst hP hw hK;obtain⟨f0,f1,f2,f3,f4,f5⟩:=hf it (by simp);have W:=wG (prog:=X.prog) (w:=X.w) it x t X.A (I.ok.hd hc);refine W.item i s _ _ hg st fun v h' tk hv st' kk=>?_;obtain⟨c,u,hc',rfl⟩:=hv;have I1:Inv X pins σ H {s with heap:=h',toks:=tk}:=I.turned (fun b o hb e=>kk b o (by simpa using hb) e) f0 f1 f3 f4 f5;obtain⟨o,e,cl,d⟩:=id st';refine⟨_,rfl,DA (s:={s with heap:=h',toks:=tk}) (n:=gX x) e cl d ?_ ⟨.str ⟨#[c]⟩,H,I1,⟨u,rfl⟩,⟨rfl,c,hc',rfl⟩,st',fun b hb=>(hf b hb).1⟩⟩;unfold gX;split <;>decide
 done:=by
  intro X hP hw hK hc i pins s σ H E I hf st hg;subst hP hw hK;obtain⟨f0,f1,f2,f3,f4,f5⟩:=hf it (by simp);have hg':x.length<=i:=hg;by_cases hi:i=x.cps.size
  ·subst hi
   have W:=wG (prog:=X.prog) (w:=X.w) it x t X.A (I.ok.hd hc);exact W.done s _ _ st fun h' tk kk=>⟨rfl,I.turned (fun b o hb e=>kk b o (by simpa using hb) e) f0 f1 f3 f4 f5⟩
  ·have hn:x.cps[i]? =none:=by
    rw[Array.getElem?_eq_none_iff];exact hg'
   have st2:s.heap.IsStrIter it (gX x) x t i:=st;unfold gX at st2;cases ha:x.cps.all (·<128)
   ·rw[ha]at st2
    exact wpAny_pyNext_wide_end (I.ok.hd hc) st2 hn fun h' eb=>⟨rfl,I.turned (t':=s.toks) (fun b o hb e=>eb b o hb e) f0 f1 f3 f4 f5⟩
   ·rw[ha]at st2
    exact wpAny_pyNext_ascii_end (I.ok.hd hc) st2 hn fun h' eb=>⟨rfl,I.turned (t':=s.toks) (fun b o hb e=>eb b o hb e) f0 f1 f3 f4 f5⟩
 self:=fun A i s Q E st h=>by
  have st2:s.heap.IsStrIter it (gX x) x t i:=st;unfold gX at st2;cases ha:x.cps.all (·<128)
  ·rw[ha]at st2;exact wpAny_pyIter_striter_wide st2 h
  ·rw[ha]at st2;exact wpAny_pyIter_striter_ascii st2 h
noncomputable def Ite(K:ah)(a:Addr):It:=
 ⟨fun i H=>∃xs x,SqL K H a xs/\xs[i]? =some x,fun i H v H'=>∃p x,H p=none/\H'=upd H p (.tup [.int i,x])/\v=.ref p/\∀xs,SqL K H a xs->xs[i]? =some x,fun i H=>∃xs,SqL K H a xs/\xs.length<=i⟩
section
variable {X:Cx}{es:List Expr}{kk:Nat}{pp:Pos}
noncomputable def iEnum(K:ah)(tl:TE):TI:=fun σ H R=>tl σ H fun x H1=>∃a,x=.ref a/\(∃xs,SqL K H1 a xs)/\R (Ite K a) H1
end
inductive D where
 |non|bl (b:Bool) |int (i:Int) |str (x:Str) |tup (ds:List D) |lst (ds:List D)
 deriving Inhabited
mutual
noncomputable def Rep(K:ah)(H:Hp):D->V->Prop
 |.non,v=>v=.non
 |.bl b,v=>v=.bl b
 |.int i,v=>v=.int i
 |.str x,v=>v=.str x
 |.tup ds,v=>∃a xs,v=.ref a/\SqT K H a xs/\eI K H ds xs
 |.lst ds,v=>∃a xs,v=.ref a/\SqL K H a xs/\eI K H ds xs
noncomputable def eI(K:ah)(H:Hp):List D->List V->Prop
 | [],xs=>xs=[]
 |d::ds,xs=>∃x r,xs=x::r/\Rep K H d x/\eI K H ds r
end
theorem aL.tup{K:ah}{H H':Hp}{a:Addr}{xs:List V}(e:aL H H')(h:SqT K H a xs):SqT K H' a xs:=by
 rcases h with(h|⟨o,h⟩) |h
 ·exact .inl (.inl (e _ _ h))
 ·exact .inl (.inr ⟨o,e _ _ h⟩)
 ·exact .inr h
theorem eI.length:∀{ds:List D}{xs:List V},eI K H ds xs->xs.length=ds.length
 | [],_,h=>by rw[show _=[]from h];rfl
 |d::ds,_,h=>by
  obtain⟨x,r,rfl,_,h2⟩:=h;rw[bB,bB,eI.length h2]
theorem eI.at:∀{ds:List D}{xs:List V}{i:Nat}{d:D},eI K H ds xs->ds[i]? =some d->∃x,xs[i]? =some x/\Rep K H d x
 | [],_,i,d,h,e=>by simp at e
 |d::ds,_,0,d',h,e=>by
  obtain⟨y,r,rfl,h1,h2⟩:=h;simp at e;subst e;exact⟨y,rfl,h1⟩
 |d::ds,_,i+1,d',h,e=>by
  obtain⟨y,r,rfl,h1,h2⟩:=h;obtain⟨x,e',h'⟩:=eI.at (i:=i) h2 (by simpa using e);exact⟨x,by simpa using e',h'⟩
theorem eI.ints:∀(ns:List Int),eI K H (ns.map D.int) (ns.map V.int)
 | []=>rfl
 |n::ns=>⟨_,_,rfl,rfl,eI.ints ns⟩
mutual
noncomputable def eqD:D->D->Bool
 |.non,.non=>true
 |.bl a,.bl b=>a==b
 |.bl a,.int b=>(if a then 1 else 0)==b
 |.int a,.bl b=>a==(if b then 1 else 0)
 |.int a,.int b=>a==b
 |.str a,.str b=>a==b
 |.tup a,.tup b=>lJ a b
 |.lst a,.lst b=>lJ a b
 |_,_=>false
noncomputable def lJ:List D->List D->Bool
 | [],[]=>true
 |a::as,b::bs=>eqD a b&&lJ as bs
 |_,_=>false
end
mutual
noncomputable def hgt:D->Nat
 |.tup ds=>eP ds+1
 |.lst ds=>eP ds+1
 |_=>0
noncomputable def eP:List D->Nat
 | []=>0
 |d::ds=>max (hgt d) (eP ds)
end
theorem rP:∀{ds:List D}{i:Nat}{d:D},ds[i]? =some d->hgt d<=eP ds
 | [],i,d,e=>by simp at e
 |d::ds,0,d',e=>by simp at e;subst e;simp only[eP];omega
 |d::ds,i+1,d',e=>by
  have :=rP (i:=i) (ds:=ds) (d:=d') (by simpa using e)
  simp only[eP];omega
theorem Aw:∀(as bs:List D)(e:Nat->Bool),as.length=bs.length->(∀(i:Nat) a b,as[i]? =some a->bs[i]? =some b->e i=eqD a b)->(aw as.length).all e=lJ as bs
 | [],[],e,_,_=>rfl
 |a::as,b::bs,e,hl,h=>by
  rw[bB,D7,me,n9];have h0:=h 0 a b rfl rfl;have ih:=Aw as bs (fun i=>e (i+1)) (by simpa using hl) fun i x y hx hy=>h (i+1) x y (by simpa using hx) (by simpa using hy);rw[h0];show(eqD a b&&(aw as.length).all (fun i=>e (i+1)))=_;rw[ih,lJ]
 | [],b::bs,e,hl,_=>by simp at hl
 |a::as,[],e,hl,_=>by simp at hl
theorem qv:∀(as bs:List D),as.length≠bs.length->lJ as bs=false
 | [],[],h=>absurd rfl h
 |a::as,b::bs,h=>by
  rw[lJ,qv as bs (by simpa using h),iU]
 | [],b::bs,_=>rfl
 |a::as,[],_=>rfl
mutual
theorem vi:∀d:D,eqD d d=true
 |.non=>rfl
 |.bl b=>by simp[eqD]
 |.int i=>by simp[eqD]
 |.str x=>by simp[eqD]
 |.tup ds=>by rw[eqD];exact rS ds
 |.lst ds=>by rw[eqD];exact rS ds
theorem rS:∀ds:List D,lJ ds ds=true
 | []=>rfl
 |d::ds=>by rw[lJ,vi d,rS ds];rfl
end
section
variable {X:Cx}{pins:List (Addr×Obj)}{σ:St}{H:Hp}{s:Shared}
mutual
theorem Inv.tJ(I:Inv X pins σ H s):∀{d d':D}{v:V},Rep X.K H d v->Rep X.K H d' v->d=d'
 |.non,d',v,h,h'=>by
  cases(show v=V.non from h);cases d'<;>first | (obtain⟨_,_,z,_⟩:=h';cases z;done) |rfl| (cases h';done)
 |.bl b,d',v,h,h'=>by
  cases(show v=V.bl b from h);cases d'<;>first | (obtain⟨_,_,z,_⟩:=h';cases z;done) | (cases h';rfl) | (cases h';done)
 |.int b,d',v,h,h'=>by
  cases(show v=V.int b from h);cases d'<;>first | (obtain⟨_,_,z,_⟩:=h';cases z;done) | (cases h';rfl) | (cases h';done)
 |.str b,d',v,h,h'=>by
  cases(show v=V.str b from h);cases d'<;>first | (obtain⟨_,_,z,_⟩:=h';cases z;done) | (cases h';rfl) | (cases h';done)
 |.tup ds,d',v,h,h'=>by
  obtain⟨a,xs,rfl,h1,h2⟩:=h;cases d' with
  |tup ds'=>
   obtain⟨b,ys,e,h1',h2'⟩:=h';cases e;have :=I.rC h1 h1';subst this;rw[Inv.uB I h2 h2']
  |lst ds'=>
   obtain⟨b,ys,e,h1',h2'⟩:=h';cases e;obtain⟨its,_,⟨o,e1,c1,_⟩,_⟩:=I.tuple h1;obtain⟨its',_,⟨o',n,e2,c2,_⟩,_⟩:=I.list h1';rw[e1]at e2;cases e2;rw[c1]at c2;exact absurd c2 (by decide+kernel)
  |_=>cases h'
 |.lst ds,d',v,h,h'=>by
  obtain⟨a,xs,rfl,h1,h2⟩:=h;cases d' with
  |lst ds'=>
   obtain⟨b,ys,e,h1',h2'⟩:=h';cases e;have :=I.Ae h1 h1';subst this;rw[Inv.uB I h2 h2']
  |tup ds'=>
   obtain⟨b,ys,e,h1',h2'⟩:=h';cases e;obtain⟨its,_,⟨o,n,e1,c1,_⟩,_⟩:=I.list h1;obtain⟨its',_,⟨o',e2,c2,_⟩,_⟩:=I.tuple h1';rw[e1]at e2;cases e2;rw[c1]at c2;exact absurd c2 (by decide+kernel)
  |_=>cases h'
theorem Inv.uB(I:Inv X pins σ H s):∀{ds ds':List D}{xs:List V},eI X.K H ds xs->eI X.K H ds' xs->ds=ds'
 | [],[],_,_,_=>rfl
 | [],d::ds,xs,h,h'=>by
  obtain⟨x,r,e,_⟩:=h';rw[show xs=[]from h]at e;cases e
 |d::ds,[],xs,h,h'=>by
  obtain⟨x,r,e,_⟩:=h;rw[show xs=[]from h']at e;cases e
 |d::ds,d'::ds',xs,h,h'=>by
  obtain⟨x,r,rfl,h1,h2⟩:=h;obtain⟨y,r',e,h1',h2'⟩:=h';cases e;rw[Inv.tJ I h1 h1',Inv.uB I h2 h2']
end
open PySem.SeqAt
noncomputable def eqJ(ds ds':List D)(j:Nat):Bool:=match ds[j]?,ds'[j]? with |some d,some d'=>eqD d d'|_,_=>false
theorem yM{ds ds':List D}(hl:ds.length=ds'.length):(aw ds.length).all (eqJ ds ds')=lJ ds ds':=Aw ds ds' _ hl fun i x y hx hy=>by simp only[eqJ,hx,hy]
theorem DJ{ds ds':List D}:((aw (min ds.length ds'.length)).all (eqJ ds ds')&&ds.length==ds'.length)=lJ ds ds':=by
 by_cases hl:ds.length=ds'.length
 ·rw[<-hl,Nat.min_self,beq_self_eq_true,Bool.and_true,yM hl]
 ·rw[qv ds ds' hl,beq_eq_false_iff_ne.mpr hl,iU]
theorem yL{ds ds':List D}(hit:∀(i:Nat)(d d':D)(x y:V)(u u':Value),ds[i]? =some d->ds'[i]? =some d'->Rep X.K H d x->Rep X.K H d' y->RelV x u->RelV y u'->EqAt A.in1 s u u' (eqD d d'))(h2:eI X.K H ds xs)(h2':eI X.K H ds' ys)(r:bD xs its)(r':bD ys its'):its.toArray.size=ds.length/\its'.toArray.size=ds'.length/\∀j (g1:j<its.toArray.size)(g2:j<its'.toArray.size),EqAt A.in1 s its.toArray[j] its'.toArray[j] (eqJ ds ds' j):=by
 have l1:=h2.length;have l2:=h2'.length;have l3:=r.length;have l4:=r'.length;refine⟨by simp;omega,by simp;omega,fun j g1 g2=>?_⟩;have g1':j<its.length:=by simpa using g1
 have g2':j<its'.length:=by simpa using g2
 have e1:ds[j]? =some ds[j]:=aa (by omega);have e2:ds'[j]? =some ds'[j]:=aa (by omega);unfold eqJ;rw[e1,e2];obtain⟨x,hx,rx⟩:=h2.at e1;obtain⟨y,hy,ry⟩:=h2'.at e2;obtain⟨u,hu1,ru⟩:=r.get hx;obtain⟨u',hu2,ru'⟩:=r'.get hy;rw[aa g1']at hu1;rw[aa g2']at hu2;cases hu1;cases hu2;exact hit j _ _ x y _ _ e1 e2 rx ry ru ru'
theorem Inv.rcTup(I:Inv X pins σ H s)(A:Around){ds ds':List D}(hit:∀(i:Nat)(d d':D)(x y:V)(u u':Value),ds[i]? =some d->ds'[i]? =some d'->Rep X.K H d x->Rep X.K H d' y->RelV x u->RelV y u'->EqAt A.in1 s u u' (eqD d d'))(h1:SqT X.K H a xs)(h2:eI X.K H ds xs)(h1':SqT X.K H b ys)(h2':eI X.K H ds' ys)(hu:A.units<cLine):RcAt A s (.ref a) (.ref b) (lJ ds ds'):=by
 obtain⟨its,r,p,_⟩:=I.tuple h1;obtain⟨its',r',p',_⟩:=I.tuple h1';obtain⟨e,e',f⟩:=yL hit h2 h2' r r';have key:=RcAt.tuples p p' (A:=A) hu f
 rwa [e,e',DJ]at key
theorem Inv.rcLst(I:Inv X pins σ H s)(A:Around){ds ds':List D}(hit:∀(i:Nat)(d d':D)(x y:V)(u u':Value),ds[i]? =some d->ds'[i]? =some d'->Rep X.K H d x->Rep X.K H d' y->RelV x u->RelV y u'->EqAt A.in1 s u u' (eqD d d'))(h1:SqL X.K H a xs)(h2:eI X.K H ds xs)(h1':SqL X.K H b ys)(h2':eI X.K H ds' ys)(hu:A.units<cLine):RcAt A s (.ref a) (.ref b) (lJ ds ds'):=by
 obtain⟨its,r,p,_⟩:=I.list h1;obtain⟨its',r',p',_⟩:=I.list h1';obtain⟨e,e',f⟩:=yL hit h2 h2' r r';by_cases hl:ds.length=ds'.length
 ·have key:=RcAt.lists p.isList p'.isList (A:=A) (by rw[e,e',hl]) hu f
  rwa [e,yM hl]at key
 ·have key:=RcAt.lists_lengths p.isList p'.isList (A:=A) (by rw[e,e'];exact bne_iff_ne.mpr hl) hu
  rwa [qv ds ds' hl]
theorem Inv.shp(I:Inv X pins σ H s){d:D}{v:V}(h:Rep X.K H d v)(r:RelV v u):(d=.non/\v=.non/\u=.none)\/(∃x,d=.bl x/\v=.bl x/\u=.bool x)\/(∃x t,d=.int x/\v=.int x/\u=.int x t)\/(∃x t,d=.str x/\v=.str x/\u=.str x t)\/(∃ds a xs its,d=.tup ds/\v=.ref a/\u=.ref a/\SqT X.K H a xs/\eI X.K H ds xs/\IsTup s.heap a its)\/∃ds a xs its,d=.lst ds/\v=.ref a/\u=.ref a/\SqL X.K H a xs/\eI X.K H ds xs/\s.heap.IsList a its:=by
 cases d with
 |non=>cases(show v=_ from h);cases r;exact .inl ⟨rfl,rfl,rfl⟩
 |bl x=>cases(show v=_ from h);cases r;exact .inr (.inl ⟨x,rfl,rfl,rfl⟩)
 |int x=>cases(show v=_ from h);obtain⟨t,rfl⟩:=r;exact .inr (.inr (.inl ⟨x,t,rfl,rfl,rfl⟩))
 |str x=>cases(show v=_ from h);obtain⟨t,rfl⟩:=r;exact .inr (.inr (.inr (.inl ⟨x,t,rfl,rfl,rfl⟩)))
 |tup ds=>obtain⟨a,xs,rfl,h1,h2⟩:=id h;cases r;obtain⟨its,_,p,_⟩:=I.tuple h1;exact .inr (.inr (.inr (.inr (.inl ⟨ds,a,xs,_,rfl,rfl,rfl,h1,h2,p⟩))))
 |lst ds=>obtain⟨a,xs,rfl,h1,h2⟩:=id h;cases r;obtain⟨its,_,p,_⟩:=I.list h1;exact .inr (.inr (.inr (.inr (.inr ⟨ds,a,xs,_,rfl,rfl,rfl,h1,h2,p.isList⟩))))
theorem Inv.eqAt1(I:Inv X pins σ H s)(A:Around)(hit:∀(m:Nat)(ds ds':List D)(i:Nat)(d d':D)(x y:V)(u u':Value),n=m+1->eP ds<=m->ds[i]? =some d->ds'[i]? =some d'->Rep X.K H d x->Rep X.K H d' y->RelV x u->RelV y u'->EqAt A.in1 s u u' (eqD d d')):
  ∀(d d':D)(v v':V)(u u':Value),Rep X.K H d v->Rep X.K H d' v'->RelV v u->RelV v' u'->hgt d<=n->A.units+n+1<cLine->EqAt A s u u' (eqD d d'):=by
 intro d d' v v' u u' h h' r r' hn hu;obtain⟨rfl,rfl,rfl⟩ |⟨_,rfl,rfl,rfl⟩ |⟨_,t,rfl,rfl,rfl⟩ |⟨_,t,rfl,rfl,rfl⟩ |⟨ds,a,xs,its,rfl,rfl,rfl,h1,h2,p⟩ |⟨ds,a,xs,its,rfl,rfl,rfl,h1,h2,p⟩:=I.shp h r<;>obtain⟨rfl,rfl,rfl⟩ |⟨_,rfl,rfl,rfl⟩ |⟨_,t',rfl,rfl,rfl⟩ |⟨_,t',rfl,rfl,rfl⟩ |⟨ds',b,ys,its',rfl,rfl,rfl,h1',h2',p'⟩ |⟨ds',b,ys,its',rfl,rfl,rfl,h1',h2',p'⟩:=I.shp h' r'
 ·exact fR r r' rfl rfl
 ·exact fR r r' rfl rfl
 ·exact fR r r' rfl rfl
 ·exact fR r r' rfl rfl
 ·exact EqAt.none_tuple p' (by omega)
 ·exact EqAt.none_list p' (by omega)
 ·exact fR r r' rfl rfl
 ·exact fR r r' rfl rfl
 ·exact fR r r' rfl rfl
 ·exact fR r r' rfl rfl
 ·exact EqAt.bool_tuple _ p' (by omega)
 ·exact EqAt.bool_list _ p' (by omega)
 ·exact fR r r' rfl rfl
 ·exact fR r r' rfl rfl
 ·exact fR r r' rfl rfl
 ·exact fR r r' rfl rfl
 ·exact EqAt.int_tuple _ t p' (by omega)
 ·exact EqAt.int_list _ t p' (by omega)
 ·exact fR r r' rfl rfl
 ·exact fR r r' rfl rfl
 ·exact fR r r' rfl rfl
 ·exact fR r r' rfl rfl
 ·exact EqAt.str_tuple _ t p' (by omega)
 ·exact EqAt.str_list _ t p' (by omega)
 ·exact EqAt.tuple_none p (by omega)
 ·exact EqAt.tuple_bool _ p (by omega)
 ·exact EqAt.tuple_int _ t' p (by omega)
 ·exact EqAt.tuple_str _ t' p (by omega)
 ·rw[hgt]at hn
  by_cases z:a=b
  ·subst z
   have e:=I.tJ h h';rw[<-e,vi];exact EqAt.same _
  ·rw[eqD]
   exact EqAt.of_refs z (Inv.rcTup I A (fun i d d' x y u u' e1 e2 rx ry ru ru'=>hit (n-1) ds ds' i d d' x y u u' (by omega) (by omega) e1 e2 rx ry ru ru') h1 h2 h1' h2' (by omega))
 ·exact EqAt.tuple_list p p' (by omega)
 ·exact EqAt.list_none p (by omega)
 ·exact EqAt.list_bool _ p (by omega)
 ·exact EqAt.list_int _ t' p (by omega)
 ·exact EqAt.list_str _ t' p (by omega)
 ·exact EqAt.list_tuple p p' (by omega)
 ·rw[hgt]at hn
  by_cases z:a=b
  ·subst z
   have e:=I.tJ h h';rw[<-e,vi];exact EqAt.same _
  ·rw[eqD]
   exact EqAt.of_refs z (Inv.rcLst I A (fun i d d' x y u u' e1 e2 rx ry ru ru'=>hit (n-1) ds ds' i d d' x y u u' (by omega) (by omega) e1 e2 rx ry ru ru') h1 h2 h1' h2' (by omega))
theorem Inv.Ax(I:Inv X pins σ H s):∀(n:Nat)(A:Around)(d d':D)(v v':V)(u u':Value),Rep X.K H d v->Rep X.K H d' v'->RelV v u->RelV v' u'->hgt d<=n->A.units+n+1<cLine->EqAt A s u u' (eqD d d'):=by
 intro n
 induction n with
 |zero=>exact fun A d d' v v' u u' h h' r r' hn hu=>Inv.eqAt1 I A (fun m ds ds' i d d' x y u u' hm _ _ _ _ _ _ _=>absurd hm (by omega)) d d' v v' u u' h h' r r' hn hu
 |succ n ih=>
  exact fun A d d' v v' u u' h h' r r' hn hu=>Inv.eqAt1 I A (fun m ds ds' i d d' x y u u' hm hd e1 e2 rx ry ru ru'=>ih A.in1 d d' x y u u' rx ry ru ru' (by have :=rP e1;omega) (by show A.units+1+n+1<cLine;omega)) d d' v v' u u' h h' r r' hn hu
end
end L2
namespace L2
open PySem PySem.Spec PyProof.Rows PySem.SeqAt
section
variable {X:Cx}{pins:List (Addr×Obj)}{σ:St}{H:Hp}{s:Shared}
theorem Inv.neTup(I:Inv X pins σ H s)(A:Around){ds ds':List D}(hit:∀(i:Nat)(d d':D)(x y:V)(u u':Value),ds[i]? =some d->ds'[i]? =some d'->Rep X.K H d x->Rep X.K H d' y->RelV x u->RelV y u'->EqAt A.in1 s u u' (eqD d d'))(h1:SqT X.K H a xs)(h2:eI X.K H ds xs)(h1':SqT X.K H b ys)(h2':eI X.K H ds' ys)(hu:A.units<cLine):RcNeAt A s (.ref a) (.ref b) (!lJ ds ds'):=by
 obtain⟨its,r,p,_⟩:=I.tuple h1;obtain⟨its',r',p',_⟩:=I.tuple h1';obtain⟨e,e',f⟩:=yL hit h2 h2' r r';have key:=RcNeAt.tuples p p' (A:=A) hu f
 rwa [e,e',DJ]at key
theorem Inv.neLst(I:Inv X pins σ H s)(A:Around){ds ds':List D}(hit:∀(i:Nat)(d d':D)(x y:V)(u u':Value),ds[i]? =some d->ds'[i]? =some d'->Rep X.K H d x->Rep X.K H d' y->RelV x u->RelV y u'->EqAt A.in1 s u u' (eqD d d'))(h1:SqL X.K H a xs)(h2:eI X.K H ds xs)(h1':SqL X.K H b ys)(h2':eI X.K H ds' ys)(hu:A.units<cLine):RcNeAt A s (.ref a) (.ref b) (!lJ ds ds'):=by
 obtain⟨its,r,p,_⟩:=I.list h1;obtain⟨its',r',p',_⟩:=I.list h1';obtain⟨e,e',f⟩:=yL hit h2 h2' r r';by_cases hl:ds.length=ds'.length
 ·have key:=RcNeAt.lists p.isList p'.isList (A:=A) (by rw[e,e',hl]) hu f
  rwa [e,yM hl]at key
 ·have key:=RcNeAt.lists_lengths p.isList p'.isList (A:=A) (by rw[e,e'];exact bne_iff_ne.mpr hl) hu
  rwa [qv ds ds' hl]
theorem Inv.rcD(I:Inv X pins σ H s)(A:Around)(d d':D)(v v':V)(u u':Value)(h:Rep X.K H d v)(h':Rep X.K H d' v')(r:RelV v u)(r':RelV v' u')(hu:A.units+hgt d+1<cLine):RcAt A s u u' (eqD d d'):=by
 obtain⟨rfl,rfl,rfl⟩ |⟨_,rfl,rfl,rfl⟩ |⟨_,t,rfl,rfl,rfl⟩ |⟨_,t,rfl,rfl,rfl⟩ |⟨ds,a,xs,its,rfl,rfl,rfl,h1,h2,p⟩ |⟨ds,a,xs,its,rfl,rfl,rfl,h1,h2,p⟩:=I.shp h r<;>obtain⟨rfl,rfl,rfl⟩ |⟨_,rfl,rfl,rfl⟩ |⟨_,t',rfl,rfl,rfl⟩ |⟨_,t',rfl,rfl,rfl⟩ |⟨ds',b,ys,its',rfl,rfl,rfl,h1',h2',p'⟩ |⟨ds',b,ys,its',rfl,rfl,rfl,h1',h2',p'⟩:=I.shp h' r'
 ·exact RcAt.none_none
 ·exact RcAt.none_bool _
 ·exact RcAt.none_int _ t'
 ·exact RcAt.none_str _ t'
 ·exact RcAt.none_tuple p' (by omega)
 ·exact RcAt.none_list p' (by omega)
 ·exact RcAt.bool_none _
 ·exact RcAt.bool_bool _ _
 ·exact RcAt.bool_int _ _ t'
 ·exact RcAt.bool_str _ _ t'
 ·exact RcAt.bool_tuple _ p' (by omega)
 ·exact RcAt.bool_list _ p' (by omega)
 ·exact RcAt.int_none _ t
 ·exact RcAt.int_bool _ t _
 ·exact RcAt.int_int _ t _ t'
 ·exact RcAt.int_str _ t _ t'
 ·exact RcAt.int_tuple _ t p' (by omega)
 ·exact RcAt.int_list _ t p' (by omega)
 ·exact RcAt.str_none _ t
 ·exact RcAt.str_bool _ t _
 ·exact RcAt.str_int _ t _ t'
 ·exact RcAt.str_str _ t _ t'
 ·exact RcAt.str_tuple _ t p' (by omega)
 ·exact RcAt.str_list _ t p' (by omega)
 ·exact RcAt.tuple_none p (by omega)
 ·exact RcAt.tuple_bool _ p (by omega)
 ·exact RcAt.tuple_int _ t' p (by omega)
 ·exact RcAt.tuple_str _ t' p (by omega)
 ·rw[eqD];exact Inv.rcTup I A (fun i d d' x y u u' e1 e2 rx ry ru ru'=>Inv.Ax I (eP ds) A.in1 d d' x y u u' rx ry ru ru' (rP e1) (by rw[hgt]at hu;show A.units+1+eP ds+1<cLine;omega)) h1 h2 h1' h2' (by omega)
 ·exact RcAt.tuple_list p p' (by omega)
 ·exact RcAt.list_none p (by omega)
 ·exact RcAt.list_bool _ p (by omega)
 ·exact RcAt.list_int _ t' p (by omega)
 ·exact RcAt.list_str _ t' p (by omega)
 ·exact RcAt.list_tuple p p' (by omega)
 ·rw[eqD];exact Inv.rcLst I A (fun i d d' x y u u' e1 e2 rx ry ru ru'=>Inv.Ax I (eP ds) A.in1 d d' x y u u' rx ry ru ru' (rP e1) (by rw[hgt]at hu;show A.units+1+eP ds+1<cLine;omega)) h1 h2 h1' h2' (by omega)
theorem Inv.rcNeD(I:Inv X pins σ H s)(A:Around)(d d':D)(v v':V)(u u':Value)(h:Rep X.K H d v)(h':Rep X.K H d' v')(r:RelV v u)(r':RelV v' u')(hu:A.units+hgt d+1<cLine):RcNeAt A s u u' (!eqD d d'):=by
 obtain⟨rfl,rfl,rfl⟩ |⟨_,rfl,rfl,rfl⟩ |⟨_,t,rfl,rfl,rfl⟩ |⟨_,t,rfl,rfl,rfl⟩ |⟨ds,a,xs,its,rfl,rfl,rfl,h1,h2,p⟩ |⟨ds,a,xs,its,rfl,rfl,rfl,h1,h2,p⟩:=I.shp h r<;>obtain⟨rfl,rfl,rfl⟩ |⟨_,rfl,rfl,rfl⟩ |⟨_,t',rfl,rfl,rfl⟩ |⟨_,t',rfl,rfl,rfl⟩ |⟨ds',b,ys,its',rfl,rfl,rfl,h1',h2',p'⟩ |⟨ds',b,ys,its',rfl,rfl,rfl,h1',h2',p'⟩:=I.shp h' r'
 ·exact RcNeAt.none_none
 ·exact RcNeAt.none_bool _
 ·exact RcNeAt.none_int _ t'
 ·exact RcNeAt.none_str _ t'
 ·exact RcNeAt.none_tuple p' (by omega)
 ·exact RcNeAt.none_list p' (by omega)
 ·exact RcNeAt.bool_none _
 ·exact RcNeAt.bool_bool _ _
 ·exact RcNeAt.bool_int _ _ t'
 ·exact RcNeAt.bool_str _ _ t'
 ·exact RcNeAt.bool_tuple _ p' (by omega)
 ·exact RcNeAt.bool_list _ p' (by omega)
 ·exact RcNeAt.int_none _ t
 ·exact RcNeAt.int_bool _ t _
 ·exact RcNeAt.int_int _ t _ t'
 ·exact RcNeAt.int_str _ t _ t'
 ·exact RcNeAt.int_tuple _ t p' (by omega)
 ·exact RcNeAt.int_list _ t p' (by omega)
 ·exact RcNeAt.str_none _ t
 ·exact RcNeAt.str_bool _ t _
 ·exact RcNeAt.str_int _ t _ t'
 ·exact RcNeAt.str_str _ t _ t'
 ·exact RcNeAt.str_tuple _ t p' (by omega)
 ·exact RcNeAt.str_list _ t p' (by omega)
 ·exact RcNeAt.tuple_none p (by omega)
 ·exact RcNeAt.tuple_bool _ p (by omega)
 ·exact RcNeAt.tuple_int _ t' p (by omega)
 ·exact RcNeAt.tuple_str _ t' p (by omega)
 ·rw[eqD];exact Inv.neTup I A (fun i d d' x y u u' e1 e2 rx ry ru ru'=>Inv.Ax I (eP ds) A.in1 d d' x y u u' rx ry ru ru' (rP e1) (by rw[hgt]at hu;show A.units+1+eP ds+1<cLine;omega)) h1 h2 h1' h2' (by omega)
 ·exact RcNeAt.tuple_list p p' (by omega)
 ·exact RcNeAt.list_none p (by omega)
 ·exact RcNeAt.list_bool _ p (by omega)
 ·exact RcNeAt.list_int _ t' p (by omega)
 ·exact RcNeAt.list_str _ t' p (by omega)
 ·exact RcNeAt.list_tuple p p' (by omega)
 ·rw[eqD];exact Inv.neLst I A (fun i d d' x y u u' e1 e2 rx ry ru ru'=>Inv.Ax I (eP ds) A.in1 d d' x y u u' rx ry ru ru' (rP e1) (by rw[hgt]at hu;show A.units+1+eP ds+1<cLine;omega)) h1 h2 h1' h2' (by omega)
noncomputable def rEqD(K:ah):R2:=fun x y H Q=>∃d d',Rep K H d x/\Rep K H d' y/\hgt d<=30/\Q (.bl (eqD d d')) H
noncomputable def rNeD(K:ah):R2:=fun x y H Q=>∃d d',Rep K H d x/\Rep K H d' y/\hgt d<=30/\Q (.bl (!eqD d d')) H
theorem op_eqD(hu:X.A.units+40<cLine):OpR X (cR .Eq) (rEqD X.K):=by
 intro pins s σ H x y v u Q I rx ry h;obtain⟨d,d',h1,h2,hd,q⟩:=h;exact I.rcD X.A d d' x y v u h1 h2 rx ry (by omega) _ _ _ _ (vh I q rfl)
theorem op_neD(hu:X.A.units+40<cLine):OpR X (cR .NotEq) (rNeD X.K):=by
 intro pins s σ H x y v u Q I rx ry h;obtain⟨d,d',h1,h2,hd,q⟩:=h;exact I.rcNeD X.A d d' x y v u h1 h2 rx ry (by omega) _ _ _ _ (vh I q rfl)
end
end L2
namespace Q
open PySem PySem.W PyProof.Rows
noncomputable def run{α:Type}(lt:Nat->Nat->Bool):KasT α->α
 |.ret a=>a
 |.ask i j k=>run lt (k (lt i j))
theorem run_bind{α β:Type}(lt:Nat->Nat->Bool)(f:α->KasT β):∀t:KasT α,run lt (t.bind f)=run lt (f (run lt t))
 |.ret a=>rfl
 |.ask i j k=>run_bind lt f (k (lt i j))
noncomputable def okT{α:Type}(lt:Nat->Nat->Bool)(n:Nat):KasT α->Prop
 |.ret _=>True
 |.ask i j k=>(i<n/\j<n/\i≠j)/\okT lt n (k (lt i j))
theorem nO{α β:Type}{lt:Nat->Nat->Bool}{f:α->KasT β}:∀{t:KasT α},okT lt n t->okT lt n (f (run lt t))->okT lt n (t.bind f)
 |.ret a,_,h=>h
 |.ask i j k,h,h'=>⟨h.1,nO h.2 h'⟩
structure Tot(lt:Nat->Nat->Bool)(n:Nat):Prop where
 tri:∀i j,i<n->j<n->i≠j->lt i j= !lt j i
 tr:∀i j k,i<n->j<n->k<n->lt i j=true->lt j k=true->lt i k=true
noncomputable abbrev at'(p:Array Nat)(i:Nat):Nat:=p.getD i 0
theorem DY(p:Array Nat)(i:Nat):at' p i=(p[i]?).getD 0:=by simp[at',Array.getD_eq_getD_getElem?]
structure Pm(p:Array Nat)(n:Nat):Prop where
 perm:p.Perm (aw n).toArray
theorem Pm.size{p:Array Nat}(h:Pm p n):p.size=n:=by rw[h.perm.size_eq];simp
theorem Pm.lt{p:Array Nat}(h:Pm p n)(hi:i<n):at' p i<n:=by
 have hs:i<p.size:=by rw[h.size];exact hi
 have e:at' p i=p[i]:=by simp[at',hs]
 have m:p[i]∈(aw n).toArray:=h.perm.mem_iff.mp (Array.getElem_mem hs);rw[e];simpa using m
theorem Pm.inj{p:Array Nat}(h:Pm p n)(hi:i<n)(hj:j<n)(e:at' p i=at' p j):i=j:=by
 have hsi:i<p.size:=by rw[h.size];exact hi
 have hsj:j<p.size:=by rw[h.size];exact hj
 have nd:p.toList.Nodup:=by
  have q:p.toList.Perm (aw n):=by simpa using eE.mp h.perm
  exact q.nodup_iff.mpr mq
 have e1:at' p i=p.toList[i]'(by simpa using hsi):=by simp[at',hsi]
 have e2:at' p j=p.toList[j]'(by simpa using hsj):=by simp[at',hsj]
 rw[e1,e2]at e;exact(dO nd).mp e
theorem Jb{p:Array Nat}(hj:j<=p.size)(k:Nat):at' (za p i j) k=if i<=k/\k<j then at' p (i+j-1-k)else at' p k:=by
 rw[DY];unfold za;rw[getElem?_mirror_all hj];split <;>rw[DY]
theorem Jc{p:Array Nat}{src d:Nat}(hs:src<p.size)(hd:d<=src)(k:Nat):at' (bubble p src d) k=if k=src-d then at' p src else if src-d<k/\k<=src then at' p (k-1)else at' p k:=by
 rw[DY,getElem?_bubble hs d hd];split
 ·simp[at',hs]
 ·split <;>rw[DY]
theorem Pm.rev{p:Array Nat}(h:Pm p n):Pm (za p i j) n:=⟨(mirror_perm _ _ _ _).trans h.perm⟩
theorem Pm.bub{p:Array Nat}(h:Pm p n):Pm (bubble p i j) n:=⟨(bubble_perm _ _ _).trans h.perm⟩
def Up(lt:Nat->Nat->Bool)(p:Array Nat)(m:Nat):Prop:=∀i j,i<j->j<m->lt (at' p i) (at' p j)=true
def Dn(lt:Nat->Nat->Bool)(p:Array Nat)(m:Nat):Prop:=∀i j,i<j->j<m->lt (at' p j) (at' p i)=true
section
variable {lt:Nat->Nat->Bool}{N:Nat}{p:Array Nat}
theorem Tot.flip(T:Tot lt N)(P:Pm p N)(hi:i<N)(hj:j<N)(n:i≠j)(h:lt (at' p i) (at' p j)=false):lt (at' p j) (at' p i)=true:=by
 have q:=T.tri _ _ (P.lt hi) (P.lt hj) fun e=>n (P.inj hi hj e);rw[h]at q;simpa using q.symm
theorem Pm.ask{p:Array Nat}(P:Pm p N)(hi:i<N)(hj:j<N)(n:i≠j):at' p i<N/\at' p j<N/\at' p i≠at' p j:=⟨P.lt hi,P.lt hj,fun e=>n (P.inj hi hj e)⟩
theorem Up.succ(T:Tot lt N)(P:Pm p N)(h1:1<=n)(hn:n<N)(u:Up lt p n)(h:lt (at' p (n-1)) (at' p n)=true):Up lt p (n+1):=by
 intro i j hij hj;by_cases e:j=n
 ·subst e
  by_cases e2:i=j-1
  ·subst e2;exact h
  ·exact T.tr _ _ _ (P.lt (by omega)) (P.lt (by omega)) (P.lt hn) (u i (j-1) (by omega) (by omega)) h
 ·exact u i j hij (by omega)
theorem Dn.succ(T:Tot lt N)(P:Pm p N)(h1:1<=n)(hn:n<N)(u:Dn lt p n)(h:lt (at' p n) (at' p (n-1))=true):Dn lt p (n+1):=by
 intro i j hij hj;by_cases e:j=n
 ·subst e
  by_cases e2:i=j-1
  ·subst e2;exact h
  ·exact T.tr _ _ _ (P.lt hn) (P.lt (by omega)) (P.lt (by omega)) h (u i (j-1) (by omega) (by omega))
 ·exact u i j hij (by omega)
theorem x6(T:Tot lt N)(P:Pm p N):∀(f n:Nat),1<=n->n+f<=N->Up lt p n->∃m,run lt (kas_asc p f n)=m/\n<=m/\m<=n+f/\Up lt p m/\(m=n+f\/lt (at' p m) (at' p (m-1))=true)/\okT lt N (kas_asc p f n)
 | 0,n,h1,h2,u=>⟨n,rfl,aB _,aB _,u,.inl rfl,trivial⟩
 |f+1,n,h1,h2,u=>by
  unfold kas_asc;have hask:=P.ask (i:=n) (j:=n-1) (by omega) (by omega) (by omega);simp only[run,okT];by_cases c:lt (at' p n) (at' p (n-1))=true
  ·rw[if_pos c]
   exact⟨n,rfl,aB _,by omega,u,.inr c,hask,trivial⟩
  ·rw[if_neg c]
   have c':lt (at' p n) (at' p (n-1))=false:=by simpa using c
   obtain⟨m,e,a1,a2,a3,a4,a5⟩:=x6 T P f (n+1) (by omega) (by omega) (u.succ T P h1 (by omega) (T.flip P (by omega) (by omega) (by omega) c'));refine⟨m,e,by omega,by omega,a3,?_,hask,a5⟩;rcases a4 with z|z
   ·exact .inl (by omega)
   ·exact .inr z
theorem zF(T:Tot lt N)(P:Pm p N):∀(f n:Nat),1<=n->n+f<=N->Dn lt p n->∃m,run lt (kas_desc f p n 0)=(p,m,0)/\n<=m/\m<=n+f/\Dn lt p m/\okT lt N (kas_desc f p n 0)
 | 0,n,h1,h2,u=>⟨n,rfl,aB _,aB _,u,trivial⟩
 |f+1,n,h1,h2,u=>by
  unfold kas_desc;have hask:=P.ask (i:=n) (j:=n-1) (by omega) (by omega) (by omega);have hask2:=P.ask (i:=n-1) (j:=n) (by omega) (by omega) (by omega);simp only[run,okT];by_cases c:lt (at' p n) (at' p (n-1))=true
  ·rw[if_pos c,if_neg (dk 0)]
   obtain⟨m,e,a1,a2,a3,a4⟩:=zF T P f (n+1) (by omega) (by omega) (u.succ T P h1 (by omega) c);exact⟨m,e,by omega,by omega,a3,hask,a4⟩
  ·rw[if_neg c]
   have c':lt (at' p n) (at' p (n-1))=false:=by simpa using c
   have d:=T.flip P (by omega) (by omega) (by omega) c';simp only[run,okT];rw[if_pos d];exact⟨n,rfl,aB _,by omega,u,hask,hask2,trivial⟩
theorem GL(T:Tot lt N)(P:Pm p N)(h1:1<=n)(hn:n<=N)(u:Dn lt p n):∃m p',run lt (kas_tail3 n N p)=(m,p')/\1<=m/\m<=N/\Up lt p' m/\Pm p' N/\okT lt N (kas_tail3 n N p):=by
 have u':Up lt (za p 0 n) n:=by
  intro i j hij hj;rw[Jb (by rw[P.size];exact hn),Jb (by rw[P.size];exact hn),if_pos ⟨aX _,by omega⟩,if_pos ⟨aX _,hj⟩];exact u _ _ (by omega) (by omega)
 obtain⟨m,e,a1,a2,a3,_,a5⟩:=x6 T P.rev (N-n) n h1 (by omega) u';unfold kas_tail3;refine⟨m,za p 0 n,?_,by omega,by omega,a3,P.rev,nO a5 trivial⟩;rw[run_bind,e];rfl
theorem x5(T:Tot lt N)(P:Pm p N)(hn:n+1<=N)(u:Dn lt p (n+1)):∃m p',run lt (jj n N p)=(m,p')/\1<=m/\m<=N/\Up lt p' m/\Pm p' N/\okT lt N (jj n N p):=by
 obtain⟨m,e,a1,a2,a3,a4⟩:=zF T P (N-(n+1)) (n+1) (by omega) (by omega) u;obtain⟨m2,p2,b1,b2,b3,b4,b5,b6⟩:=GL T P (by omega) (by omega) a3;unfold jj;refine⟨m2,p2,?_,b2,b3,b4,b5,nO a4 ?_⟩
 ·rw[run_bind,e]
  exact b1
 ·rw[e]
  exact b6
theorem EA(T:Tot lt N)(P:Pm p N)(hN:1<=N):∃m p',run lt (kas_count N p)=(m,p')/\1<=m/\m<=N/\Up lt p' m/\Pm p' N/\okT lt N (kas_count N p):=by
 obtain⟨m,e,a1,a2,a3,a4,a5⟩:=x6 T P (N-1) 1 (aB _) (by omega) (fun i j hij hj=>by omega);have hmid:∃m' p',run lt (if(m==N)=true then t5 (m,p)else if m>1 then KasT.ask (p.getD 0 0) (p.getD (m-1) 0) fun c=>if c=true then t5 (m,p)else jj m N (za p 0 m)else jj m N p)=(m',p')/\1<=m'/\m'<=N/\Up lt p' m'/\Pm p' N/\
   okT lt N (if(m==N)=true then t5 (m,p)else if m>1 then KasT.ask (p.getD 0 0) (p.getD (m-1) 0) fun c=>if c=true then t5 (m,p)else jj m N (za p 0 m)else jj m N p):=by
  by_cases c:m=N
  ·rw[if_pos (by simpa using c)]
   exact⟨m,p,rfl,a1,by omega,a3,P,trivial⟩
  ·rw[if_neg (by simpa using c)]
   by_cases d:m>1
   ·rw[if_pos d]
    simp only[run,okT];rw[if_pos (a3 0 (m-1) (by omega) (by omega))];exact⟨m,p,rfl,a1,by omega,a3,P,P.ask (by omega) (by omega) (by omega),trivial⟩
   ·rw[if_neg d]
    obtain rfl:m=1:=by omega
    rcases a4 with z|z
    ·omega
    ·exact x5 T P (by omega) fun i j hij hj=>by
      obtain rfl:j=1:=by omega
      obtain rfl:i=0:=by omega
      exact z
 obtain⟨m',p',b1,b2,b3,b4,b5,b6⟩:=hmid;unfold kas_count;refine⟨m',p',?_,b2,b3,b4,b5,nO a5 ?_⟩
 ·rw[run_bind,e]
  exact b1
 ·rw[e]
  exact b6
theorem rG(T:Tot lt N)(P:Pm p N)(hk:k<N)(u:Up lt p k):∀(f l r:Nat),l<=r->r<=k->r-l<=f->(∀i,i<l->lt (at' p i) (at' p k)=true)->(∀i,r<=i->i<k->lt (at' p k) (at' p i)=true)->
  ∃q,run lt (kas_place p k f l r)=q/\q<=k/\(∀i,i<q->lt (at' p i) (at' p k)=true)/\(∀i,q<=i->i<k->lt (at' p k) (at' p i)=true)/\okT lt N (kas_place p k f l r)
 | 0,l,r,h1,h2,h3,a,b=>⟨l,rfl,by omega,a,fun i hi=>b i (by omega),trivial⟩
 |f+1,l,r,h1,h2,h3,a,b=>by
  unfold kas_place;by_cases c:l≥ r
  ·rw[if_pos c]
   exact⟨l,rfl,by omega,a,fun i hi=>b i (by omega),trivial⟩
  ·rw[if_neg c]
   have hask:=P.ask (i:=k) (j:=(l+r)/2) hk (by omega) (by omega);simp only[run,okT];by_cases d:lt (at' p k) (at' p ((l+r)/2))=true
   ·rw[if_pos d]
    have key:=rG T P hk u f l ((l+r)/2) (by omega) (by omega) (by omega) a fun i hi hik=>?_;obtain⟨q,y1,y2,y3,y4,y5⟩:=key;exact⟨q,y1,y2,y3,y4,hask,y5⟩;by_cases e:i=(l+r)/2
    ·rw[e];exact d
    ·exact T.tr _ _ _ (P.lt hk) (P.lt (by omega)) (P.lt (by omega)) d (u _ _ (by omega) hik)
   ·rw[if_neg d]
    have d':=T.flip P hk (by omega:(l+r)/2<N) (by omega) (by simpa using d);have key:=rG T P hk u f ((l+r)/2+1) r (by omega) h2 (by omega) (fun i hi=>?_) b;obtain⟨q,y1,y2,y3,y4,y5⟩:=key;exact⟨q,y1,y2,y3,y4,hask,y5⟩;by_cases e:i=(l+r)/2
    ·rw[e];exact d'
    ·exact T.tr _ _ _ (P.lt (by omega)) (P.lt (by omega)) (P.lt hk) (u _ _ (by omega) (by omega)) d'
end
theorem CQ{lt:Nat->Nat->Bool}{N:Nat}(T:Tot lt N):∀(f k:Nat)(p:Array Nat),Pm p N->k+f=N->Up lt p k->∃p',run lt (kas_bin f p k)=p'/\Up lt p' N/\Pm p' N/\okT lt N (kas_bin f p k)
 | 0,k,p,P,h,u=>⟨p,rfl,by rw[<-h];exact u,P,trivial⟩
 |f+1,k,p,P,h,u=>by
  have hk:k<N:=by omega
  obtain⟨q,e,hq,a,b,okp⟩:=rG T P hk u k 0 k (aX _) (aB _) (by omega) (fun i hi=>absurd hi (c5 _)) fun i h1 h2=>by omega
  have key:=CQ T f (k+1) (bubble p k (k-q)) P.bub (by omega) fun i j hij hj=>?_;obtain⟨p',y1,y2,y3,y4⟩:=key;unfold kas_bin;refine⟨p',?_,y2,y3,nO okp ?_⟩
  ·rw[run_bind,e]
   exact y1
  ·rw[e]
   exact y4
  have hs:k<p.size:=by rw[P.size];exact hk
  rw[Jc hs (by omega),Jc hs (by omega)];have eq:k-(k-q)=q:=by omega
  rw[eq];by_cases c1:i=q
  ·rw[if_pos c1,if_neg (by omega),if_pos (by omega)]
   exact b _ (by omega) (by omega)
  ·rw[if_neg c1]
   by_cases c2:j=q
   ·rw[if_pos c2,if_neg (by omega)]
    exact a i (by omega)
   ·rw[if_neg c2]
    by_cases c3:q<i
    ·rw[if_pos (by omega),if_pos (by omega)]
     exact u _ _ (by omega) (by omega)
    ·rw[if_neg (by omega)]
     by_cases c4:q<j
     ·rw[if_pos (by omega)]
      exact u _ _ (by omega) (by omega)
     ·rw[if_neg (by omega)]
      exact u _ _ (by omega) (by omega)
theorem eU{lt:Nat->Nat->Bool}{N:Nat}(T:Tot lt N)(hN:1<=N):Pm (run lt (di N)) N/\Up lt (run lt (di N)) N/\okT lt N (di N):=by
 have P0:Pm (dR (aw N)) N:=⟨Array.Perm.refl _⟩;obtain⟨m,p',e,a1,a2,a3,a4,a5⟩:=EA T P0 hN;have hm:max m 1=m:=by omega
 have hmid:∃p2,run lt (if m<N then kas_bin (N-max m 1) p' (max m 1)else t5 p')=p2/\Up lt p2 N/\Pm p2 N/\okT lt N (if m<N then kas_bin (N-max m 1) p' (max m 1)else t5 p'):=by
  rw[hm];by_cases c:m<N
  ·rw[if_pos c]
   exact CQ T (N-m) m p' a4 (by omega) a3
  ·rw[if_neg c]
   have e2:m=N:=by omega
   exact⟨p',rfl,by rw[<-e2];exact a3,a4,trivial⟩
 obtain⟨p2,b1,b2,b3,b4⟩:=hmid;have er:run lt (di N)=p2:=by
  unfold di;rw[run_bind,e];exact b1
 rw[er];refine⟨b3,b2,?_⟩;unfold di;refine nO a5 ?_;rw[e];exact b4
theorem wp_run{lt:Nat->Nat->Bool}{N:Nat}{S:Shared->Prop}{cmp:Nat->Nat->(Bool->Shared->Prop)->Shared->Prop}{α:Type}{G:α->Shared->Prop}
  (h:∀i j C s,i<N->j<N->i≠j->S s->(∀s',S s'->C (lt i j) s')->cmp i j C s):
  ∀(t:KasT α)(s:Shared),okT lt N t->S s->(∀s',S s'->G (run lt t) s')->t.kasWp cmp G s
 |.ret a,s,_,hs,g=>g s hs
 |.ask i j k,s,ok,hs,g=>h i j _ s ok.1.1 ok.1.2.1 ok.1.2.2 hs fun s' hs'=>wp_run h (k (lt i j)) s' ok.2 hs' g
end Q
namespace L2
open PySem PySem.Spec PyProof.Rows
structure Fly(h₀ h:Heap)(H:Hp)(pn:List (Addr×Obj))(a:Addr)(c:Value)(d:Option Addr):Prop where
 ex:∃T oe vs oT ts,h.get? a=some oe/\oe.cls=c/\oe.dict=d/\oe.data=.fields vs/\vs[1]? =some (.ref T)/\T≠a/\h.get? T=some oT/\oT.data=.fields ts/\ts[3]? =some .none/\h₀.get? T=none/\H T=none/\∀p∈pn,p.1≠T
 new:h₀.get? a=none
 un:H a=none
 pins:∀p∈pn,p.1≠a
noncomputable def CXx(P:Program)(w:World):CXT:=fun outer H s E e s'=>
 ∃a c d H',e=.ref a/\s'.os=s.os/\og s'.gens/\Un (frs outer) [] H H' s.heap s'.heap/\HOk P w H' s'.heap/\Fly s.heap s'.heap H' [] a c d/\E c d H'
section
variable {X:Cx}{pins:List (Addr×Obj)}{σ:St}{H:Hp}{s:Shared}
theorem Inv.xI(I:Inv X pins σ H s)(k:∀b o,b≠it->s.heap.get? b=some o->h'.get? b=some o)(hn:H it=none)(hL:it≠X.env.locals)
  (h1:X.s₀.heap.get? it=none)(h2:∀x c,X.env.cells.lookup x=some c->c≠it)(h3:∀p∈X.pn++pins,p.1≠it):Inv X pins σ H {s with heap:=h',toks:=t'}:=by
 have ne0:∀b o,X.s₀.heap.get? b=some o->b≠it:=fun b o e z=>by rw[z,h1]at e;cases e
 have nit:∀b u,H b=some u->b≠it:=fun b u e z=>by rw[z,hn]at e;cases e
 refine⟨I.ok,I.os,I.bare,⟨fun b o e n hb hx=>k b o (ne0 b o e) (I.base.keep b o e n hb hx),fun b o e n hb hx=>?_,I.base.free,fun b o e hx=>?_,I.base.tups,I.base.frzs,I.base.tbls⟩,?_,fun x c e=>?_,I.free,I.freeC,fun p hp=>?_,fun b u e=>?_,I.len⟩
 ·obtain⟨sl,q⟩:=I.base.slot b o e n hb hx
  exact⟨sl,k _ _ (ne0 b o e) q⟩
 ·obtain⟨o',q⟩:=I.base.there b o e hx
  exact⟨o',k _ _ (ne0 b o e) q⟩
 ·obtain⟨m,⟨o,es,ep,ho,r⟩,hl⟩:=I.loc
  refine⟨m,⟨o,es,ep,k _ _ (bQ hL) ho,r⟩,fun i x v e1 e2 e3=>?_⟩;obtain⟨u,ru,l⟩:=hl i x v e1 e2 e3;refine⟨u,ru,?_⟩;rcases l with l|⟨kk,c,e,oc,q,dd⟩
  ·exact .inl l
  ·exact .inr ⟨kk,c,e,oc,k _ _ (h2 x c e) q,dd⟩
 ·obtain⟨v,oc,q,dd⟩:=I.cell x c e
  exact⟨v,oc,k _ _ (h2 x c e) q,dd⟩
 ·obtain⟨e,n,ne,nf,d⟩:=I.pin p hp
  exact⟨k _ _ (h3 p hp) e,n,ne,nf,d⟩
 ·refine(I.hok b u e).oh (fun c v hc q=>k c v ?_ q) (fun _ q=>q) fun _ _ q=>q
  rcases hc with z|z
  ·rw[z];exact nit b u e
  ·exact nit c _ z
theorem Inv.By(I:Inv X pins σ H s){o:Obj}{vs:Array Value}(e:s.heap.get? a=some o)(hd:o.data=.fields vs):a≠X.env.locals/\∀x c,X.env.cells.lookup x=some c->c≠a:=by
 refine⟨fun z=>?_,fun x c hc z=>?_⟩
 ·obtain⟨m,⟨o',es,ep,ho',hd',_⟩,_⟩:=I.loc
  rw[<-z,e]at ho';cases ho';rw[hd]at hd';cases hd'
 ·obtain⟨v,o',ho',hd'⟩:=I.cell x c hc
  rw[z,e]at ho';cases ho';rw[hd]at hd';cases hd'
theorem dQ.has{o:HO}(x:dQ P w H h a o):∃ob,h.get? a=some ob:=by
 cases o with
 |lst xs=>obtain⟨_,_,_,_,e⟩:=x;exact⟨_,e⟩
 |tup xs=>obtain⟨_,_,_,_,e,_⟩:=x;exact⟨_,e⟩
 |dK kvs=>obtain⟨_,_,_,_,o,_,_,e,_⟩:=x;exact⟨_,e⟩
 |dT kvs=>obtain⟨_,_,_,_,o,_,_,e,_⟩:=x;exact⟨_,e⟩
 |set S n=>obtain⟨o,_,_,_,e,_⟩:=x;exact⟨_,e⟩
 |ins C dx fs=>obtain⟨_,_,_,e,_⟩:=x;exact⟨_,e⟩
 |own y=>exact x
 |xd fs=>obtain⟨_,⟨_,_,_,e,_⟩,_⟩:=x;exact⟨_,e⟩
 |rng lo hi=>obtain⟨_,_,_,e⟩:=x;exact⟨_,e⟩
 |frz ob u=>obtain⟨e,_⟩:=x;exact⟨_,e⟩
 |tbl ps=>exact⟨_,x⟩
 |met f y=>exact⟨_,x⟩
 |ext φ=>exact x.2.1
section
variable {M:Model}{E:Value->Shared->Prop}{Q:Unit->Shared->Prop}
theorem enter{oe:Obj}{vs:Array Value}{head:Value}{more:Bool}(I:Inv X pins σ H s)(stk:X.stack=X.env::X.outer)(hf:X.env.frame=some X.env.locals)
  (he:s.heap.get? a=some oe)(hd:oe.data=.fields vs)(hsz:1<vs.size)(h0:X.s₀.heap.get? a=none)(hH:H a=none)(hp:∀p∈X.pn++pins,p.1≠a)
  (h:∀s2,Inv X pins σ H s2->Fly X.s₀.heap s2.heap H (X.pn++pins) a oe.cls oe.dict->Q () s2):
  wpAny M X.A (do let f<-frameOf X.env;let l<-entryPlaceOf X.env.locals more;let b<-A3 head f .none (rawInt X.env.locals) .none l;tj (.ref a) 1 b)
   (fun _ s'=>wpAny M X.A (AV (.ref a) none) Q E s') E s:=by
 have hfr:X.A.frames=some (X.env::X.outer):=by rw[<-stk];exact I.ok.frames
 have hl:s.heap.FunFrames X.base (X.env::X.outer):=by rw[<-stk];exact I.stack
 have nofr:∀b∈frs X.stack,H b=none:=I.xN;refine af (wpAny_frameOf_fun hfr hl hf fun h1 hs=>?_);have hs':Heap.SlotsOnly (frs X.stack) s.heap h1:=by rw[stk];exact hs
 have hane:a∉frs X.stack:=fun hm=>by
  rw[stk]at hm;obtain⟨_,o,ho,hnf⟩:=hl.mem hm;rw[he]at ho;cases ho;exact hnf vs hd
 have u1:Un (frs X.stack) [] H H s.heap h1:=
  ⟨fun b o e _ hb _=>(hs'.2.1 b hb).trans e,fun b o e _ _ _=>hs'.2.2 b o e,fun _ _ _ n _=>n,fun b o e _=>let⟨sl,q⟩:=hs'.2.2 b o e;⟨_,q⟩,fun _ _ q=>q,fun _ _ _ q=>q,fun _ ps q=>⟨#[],by rw[q];simp⟩⟩
 have k1:HOk X.prog X.w H h1:=fun b u e=>by
  refine(I.hok b u e).oh (fun c v hc q=>(hs'.2.1 c fun hm=>?_).trans q) (fun _ q=>q) fun _ _ q=>q;have n:=nofr c hm;rcases hc with z|z
  ·rw[z,e]at n;cases n
  ·rw[z]at n;cases n
 have I1:Inv X pins σ H {s with heap:=h1}:=I.call (g':=s.gens) (t':=s.toks) (d':=s.drawn) (ch:=[]) u1 k1 I.bare fun _ z=>nomatch z;have he1:h1.get? a=some oe:=(hs'.2.1 a hane).trans he;refine af (wpAny_entryPlaceOf fun pl hpl=>?_);unfold A3 newFields;refine af (bV ?_ (hpl.sizeOk5 _ _ _ _ _));generalize hob:({cls:=.type "traceback",dict:=none,data:=.fields ([head,.ref X.env.locals,.none,rawInt X.env.locals,.none]++(if pl.isEmpty then bh 6 bz else pl)).toArray}:Obj)=ob;have hodata:ob.data=.fields ([head,.ref X.env.locals,.none,rawInt X.env.locals,.none]++(if pl.isEmpty then bh 6 bz else pl)).toArray:=by rw[<-hob]
 have hofree:ob.isFreed=false:=by rw[<-hob];rfl
 have I2:Inv X pins σ H {s with heap:=h1.push ob}:=I1.kept (t':=s.toks) fun b o e=>ag _ e;have he2:(h1.push ob).get? a=some oe:=ag _ he1;have hT2:(h1.push ob).get? h1.objs.size=some ob:=az _ hofree;have hTa:h1.objs.size≠a:=eA (aA he1);have hd3:=iC hd (·.setIfInBounds 1 (cD h1.objs.size));refine td he2 hd hsz ?_;obtain⟨ra1,ra2⟩:=I.By he hd;have I3:Inv X pins σ H {s with heap:=(h1.push ob).update a (iq (·.setIfInBounds 1 (.ref h1.objs.size)))}:=
  I2.xI (t':=s.toks) (fun b o hb e=>by rw[aT _ _ (bQ hb)];exact e) hH ra1 h0 ra2 hp
 have he3:=cj (iq (·.setIfInBounds 1 (cD h1.objs.size))) he2 (pL hd3);have hT3:((h1.push ob).update a (iq (·.setIfInBounds 1 (cD h1.objs.size)))).get? h1.objs.size=some ob:=by
  rw[aT _ _ (bQ hTa)];exact hT2
 have hszT:3<([head,.ref X.env.locals,.none,rawInt X.env.locals,.none]++(if pl.isEmpty then bh 6 bz else pl)).toArray.size:=by
  simp only[au,ba,bB,oq];omega
 have hv1:(vs.setIfInBounds 1 (cD h1.objs.size))[1]? =some (.ref h1.objs.size):=by simp[hsz]
 refine wpAny_setFlight_none he3 hd3 hv1 hT3 hodata hszT ?_;have hTle:s.heap.objs.size<=h1.objs.size:=FI hs.1.symm;have hT0:X.s₀.heap.get? h1.objs.size=none:=FT (aR I.sz hTle);have hTH:H h1.objs.size=none:=I.hok.fresh hTle;obtain⟨rt1,rt2⟩:=I3.By hT3 hodata;have hpT:∀p∈X.pn++pins,p.1≠h1.objs.size:=fun p hq z=>by
  have q:=aA (I.pin p hq).1;exact absurd (aV (z▸q) hTle) (dk _)
 have I4:=I3.xI (t':=s.toks) (h':=((h1.push ob).update a (iq (·.setIfInBounds 1 (.ref h1.objs.size)))).update h1.objs.size (iq (·.setIfInBounds 3 .none)))
  (fun b o hb e=>by rw[aT _ _ (bQ hb)];exact e) hTH rt1 hT0 rt2 hpT
 refine h _ I4 ⟨⟨h1.objs.size,_,_,_,_,?_,Obj.cls_mapFields _ _,?_,hd3,hv1,hTa,cj _ hT3 (pL (iC hodata _)),iC hodata _,?_,hT0,hTH,hpT⟩,h0,hH,hp⟩
 ·show(Heap.update _ _ _).get? a=_
  rw[aT _ _ hTa];exact he3
 ·obtain⟨c',d',dt',sl'⟩:=oe
  cases dt'<;>rfl
 ·rw[Array.getElem?_setIfInBounds_self_of_lt hszT]
theorem Ho{c:Value}(I:Inv X pins σ H s)(stk:X.stack=X.env::X.outer)(hf:X.env.frame=some X.env.locals)(hx:X.ex=[])(hm:Heap.MadeExcOf s.heap h' a c args)
  (h:∀s2,Inv X pins σ H s2->Fly X.s₀.heap s2.heap H (X.pn++pins) a c none->Q () s2):
  wpAny M X.A (l7 (.ref a) X.env) (fun _ s'=>wpAny M X.A (AV (.ref a) none) Q E s') E {s with heap:=h'}:=by
 obtain⟨t,ht,_,_⟩:=hm.there;have I1:Inv X pins σ H {s with heap:=h'}:=I.kept (t':=s.toks) hm.keeps;have hH:H a=none:=by
  cases q:H a with
  |none=>rfl
  |some o=>
   obtain⟨ob,e⟩:=(I.hok a o q).has;rw[hm.new]at e;cases e
 unfold l7;simp only[hf];refine af (gW (x:=.none) ht rfl (by rfl) ?_);rw[if_neg (show ¬(bz != bz)=true by simp)];have h0:X.s₀.heap.get? a=none:=by
  cases q:X.s₀.heap.get? a with
  |none=>rfl
  |some o=>
   obtain⟨o',e⟩:=I.base.there a o q (by rw[hx];simp);rw[hm.new]at e;cases e
 exact enter I1 stk hf ht rfl (by simp) h0 hH (fun p hp z=>by have :=(I.pin p hp).1;rw[z,hm.new]at this;cases this) h
theorem Hq{c:Value}{d:Option Addr}(I:Inv X pins σ H s)(stk:X.stack=X.env::X.outer)(hf:X.env.frame=some X.env.locals)(hx:X.ex=[])(ho:s'.os=s.os)(hg:og s'.gens)(u:Un (frs X.stack) [] H H' s.heap s'.heap)(ok:HOk X.prog X.w H' s'.heap)
  (F:Fly s.heap s'.heap H' [] a c d)(h:∀s2,Inv X pins σ H' s2->Fly X.s₀.heap s2.heap H' (X.pn++pins) a c d->Q () s2):
  wpAny M X.A (l7 (.ref a) X.env) (fun _ s'=>wpAny M X.A (AV (.ref a) none) Q E s') E s':=by
 obtain⟨⟨T,oe,vs,oT,ts,he,rfl,rfl,hd,h1,hTa,hT,hdT,h3,hnT,hHT,_⟩,hna,hHa,_⟩:=F;have I1:Inv X pins σ H' s':=I.call' (ch:=[]) ho u ok hg fun _ z=>nomatch z;have back:∀b,s.heap.get? b=none->X.s₀.heap.get? b=none:=fun b n=>by
  cases q:X.s₀.heap.get? b with
  |none=>rfl
  |some o=>
   obtain⟨o',e⟩:=I.base.there b o q (by rw[hx];simp);rw[n]at e;cases e
 have np:∀b,s.heap.get? b=none->∀p∈X.pn++pins,p.1≠b:=fun b n p hp z=>by have :=(I.pin p hp).1;rw[z,n]at this;cases this
 unfold l7;simp only[hf];refine af (gW he hd h1 ?_);rw[if_pos (show(cD T != bz)=true by simp)];refine af (gW hT hdT h3 ?_);rw[if_neg (show ¬(bz==rawInt X.env.locals)=true by simp[rawInt])];refine af (td hT hdT (dj.mp h3).1 ?_);obtain⟨rt1,rt2⟩:=I1.By hT hdT;have I2:=I1.xI (t':=s'.toks) (h':=s'.heap.update T (iq (·.setIfInBounds 3 .none))) (fun b o hb e=>by rw[aT _ _ (bQ hb)];exact e) hHT rt1 (back T hnT) rt2 (np T hnT);have he2:(s'.heap.update T (iq (·.setIfInBounds 3 .none))).get? a=some oe:=by rw[aT _ _ hTa];exact he
 exact enter I2 stk hf he2 hd (dj.mp h1).1 (back a hna) hHa (np a hna) h
end
end
end L2
namespace L2
open PySem PySem.Spec PySem.W PyProof.Rows
noncomputable def excOk(K:ah)(C:Addr):Bool:=
 findIn K (.ref C) "__getattribute__"==some (some (.builtin "BaseException.__getattribute__"))&&findIn K (.ref C) "__getattr__"==some none&&
 findIn K (.ref C) "__class__"==some (some (.builtin "object.__class__"))&&specialIn K (.builtin "object.__class__") "__get__"==some (some (.builtin "getset_descriptor.__get__"))&&
 takesIn K (.builtin "object.__class__")==some true&&mroIn K C (.type "object")==some true&&mroIn K C (.type "BaseException")==some true&&(clsIn K C).isSome
abbrev bmV:List Value:=[.type "ValueError",.type "Exception",.type "BaseException",.type "object"]
noncomputable def Iv(a:Addr)(c:Value)(d:Option Addr):HO:=.ext fun h=>∃o,h.get? a=some o/\o.cls=c/\o.dict=d/\notCls o=true
noncomputable abbrev excO(a:Addr)(c:Value):HO:=Iv a c none
noncomputable def Cx.re(X:Cx)(A:Around)(calm:Bool)(pn:List (Addr×Obj))(xe:Value->Shared->Prop):Cx:={X with A:=A,calm:=calm,pn:=pn,xe:=xe}
noncomputable def Ends.drop(D:Ends)(i:Nat):Ends:={nx:=fun σ H=>D.nx (σ.set i none) H,rt:=D.rt,bk:=fun σ H=>D.bk (σ.set i none) H,ct:=fun σ H=>D.ct (σ.set i none) H}
noncomputable def eCatch(K:ah)(C:Addr)(i:Nat)(ts:TS)(D:Ends):St->XK:=fun σ c d H=>
 c=c/\exmOne K c (.ref C)=some true/\∀a,H a=none->ts (D.drop i) (σ.set i (some (.ref a))) (upd H a (Iv a c d))
noncomputable def wCatch(X:Cx)(pins:List (Addr×Obj))(D:Ends)(hs:List ExceptHandler):Value->Shared->Prop:=fun e s1=>
 wpAny (model X.prog X.w) X.A (l7 e X.env) (fun _ s2=>wpAny (model X.prog X.w) X.A (AV e none) (fun _ s3=>wpAny (model X.prog X.w) X.A (handleBy e X.env hs) (SP X pins D) X.xe s3) X.xe s2) X.xe s1
section
variable {X:Cx}{pins:List (Addr×Obj)}{σ:St}{H:Hp}{s:Shared}{x n:Str}{C:Addr}{i:Nat}{b₀:Stmt}{suite:List Stmt}{np hpos pos:Pos}{ts:TS}{D:Ends}
structure TryOk(X:Cx)(x n:Str)(C:Addr)(i:Nat)(suite:List Stmt)(ts:TS):Prop where
 nd:X.N.Nodup
 at_:X.N[i]? =some n
 loc:X.env.scope.names.lookup n=some .local
 gl:Gl X x
 mg:X.mg x=some (.ref C)
 db:(x==("__debug__":Str))=false
 stk:X.stack=X.env::X.outer
 fr:X.env.frame=some X.env.locals
 ex:X.ex=[]
 su:∀(pins:List (Addr×Obj))(a:Addr),PSs (X.re (X.A.mark (some (.ref a))) false (X.pn++pins) (fun _ _=>False)) suite ts
end
noncomputable abbrev XS:=St->XK
noncomputable abbrev N0:XS:=fun _=>E0
def AS(CX:CXT)(X:Cx)(E:XS):Prop:=∀(pins:List (Addr×Obj))(σ:St)(H:Hp)(s:Shared)(e:Value)(s':Shared),Inv X pins σ H s->CX X.stack H s (E σ) e s'->X.xe e s'
def MadeS(X:Cx)(E:XS):Prop:=∀(pins:List (Addr×Obj))(σ:St)(H:Hp)(s:Shared)(a:Addr)(c:Value)(args:List Value)(h':Heap),Inv X pins σ H s->Heap.MadeExcOf s.heap h' a c args->E σ c none H->X.xe (.ref a) {s with heap:=h'}
section
variable {X:Cx}{CX:CXT}{k:Nat}{f:Addr}{fd:gy}{ps:List Str}{sp:Sp}{dvs:List V}{ds:List Value}{E:XS}{x:Str}{p pos:Pos}{e:Expr}{es:List Expr}{t:TA}
theorem CN{Q:VK}{vs:List V}(F:jH X.prog X.w X.K X.mg X.base CX k f fd ps sp)(hr:jO k X.A)(hb:Binds X.K fd ps ds)(hd:bD dvs ds)(hx:AS CX X E)
  (I:Inv X pins σ H s)(r:bD vs us)(h:sp (vs++dvs) H Q (E σ)):wpAny (model X.prog X.w) X.A (call (.ref f) us) (EP X pins σ Q) X.xe s:=by
 have r2:bD (vs++dvs) (us++ds):=r.append hd;have hl:(us++ds).length=ps.length:=r2.length.symm.trans (F.len _ _ _ _ h);refine wpAny_call (lN (F.run X.A X.stack s H ⟨us,[]⟩ (us++ds) (vs++dvs) Q (E σ) hr I.env0 (hb s us I.kIn hl) r2 h) fun r s' hq=>?_);cases r with
 |error e=>exact hx pins σ H s e s' I hq
 |ok fl=>cases fl<;>first |exact I.after hq|exact kz hq
theorem Hf(F:jH X.prog X.w X.K X.mg X.base CX k f fd ps sp)(hr:jO k X.A)(hg:Gl X x)(hm:X.mg x=some (.ref f))(hk:cN X.K (.ref f)=true)(hb:Binds X.K fd ps ds)(hd:bD dvs ds)(hx:AS CX X E)
  (ha:PA X (e::es) t)(hdb:(x==("__debug__":Str))=false)(he:bZ (e::es) X.env=(false,eval e X.env)::bZ es X.env)(hpl:(backTo pos (bZ es X.env)).any (·.1)=false):
  PE X (.Call (.Name x p) (e::es) [] pos) (fun σ H Q=>zx sp dvs (E σ) t σ H Q):=by
 intro pins s σ H Q I h;refine iZ (yA I hg hm ?_ hdb);exact PySem.W.callWith_K (h₀:=X.base) I.ok.mod.kin hk (thn (ha pos pins s σ H _ I h) fun us s1 ⟨vs,H1,I1,r,q⟩=>⟨I1.kIn,CN F hr hb hd hx I1 r q⟩) he hpl
theorem EH(F:jH X.prog X.w X.K X.mg X.base CX k f fd ps sp)(hr:jO k X.A)(hg:Gl X x)(hm:X.mg x=some (.ref f))(hk:cN X.K (.ref f)=true)(hb:Binds X.K fd ps ds)(hd:bD dvs ds)(hx:AS CX X E)
  (hdb:(x==("__debug__":Str))=false):PE X (.Call (.Name x p) [] [] pos) (fun σ H Q=>zx sp dvs (E σ) sT σ H Q):=by
 intro pins s σ H Q I h;refine iZ (yA I hg hm ?_ hdb);exact PySem.W.callWith_K0 I.kIn hk (CN (us:=[]) F hr hb hd hx I .nil h)
end
section
variable {P:Program}{w:World}{K:ah}{mg:Str->Option Value}{base:Heap}
theorem Fp{cd:Value}{outer:List Env}{E:XK}:
  AS (CXx P w) (yN (CXx P w) P w K mg base N qual scope f cd A outer s H E) (fun _=>E):=by
 intro pins σ H1 s1 e s' I h;obtain⟨a,c,d,H',rfl,ho,hg,u,hok,F,q⟩:=h;show wpAny _ _ (leaving _ _) _ _ _;unfold leaving;refine af (Hq I rfl rfl rfl ho hg u hok F fun s2 I2 F2=>?_);obtain⟨⟨T,oe,vs,oT,ts,h1,h2,h3,h4,h5,h6,h7,h8,h9,h10,h11,_⟩,b1,b2,_⟩:=F2;exact⟨a,c,d,H',rfl,I2.os,I2.bare,I2.base,I2.hok,⟨⟨T,oe,vs,oT,ts,h1,h2,h3,h4,h5,h6,h7,h8,h9,h10,h11,fun _ z=>nomatch z⟩,b1,b2,fun _ z=>nomatch z⟩,q⟩
theorem Fq{cd:Value}{outer:List Env}{E:XK}:
  MadeS (yN (CXx P w) P w K mg base N qual scope f cd A outer s H E) (fun _=>E):=by
 intro pins σ H1 s1 a c args h' I hm q;show wpAny _ _ (leaving _ _) _ _ _;unfold leaving;refine af (Ho I rfl rfl rfl hm fun s2 I2 F2=>?_);obtain⟨⟨T,oe,vs,oT,ts,h1,h2,h3,h4,h5,h6,h7,h8,h9,h10,h11,_⟩,b1,b2,_⟩:=F2;exact⟨a,c,none,H1,rfl,I2.os,I2.bare,I2.base,I2.hok,⟨⟨T,oe,vs,oT,ts,h1,h2,h3,h4,h5,h6,h7,h8,h9,h10,h11,fun _ z=>nomatch z⟩,b1,b2,fun _ z=>nomatch z⟩,q⟩
theorem Fe{o:List Env}{e:Value}(h:CXx P w o H s E0 e s'):False:=by
 obtain⟨_,_,_,_,_,_,_,_,_,_,q⟩:=h;exact q
theorem jH.calm{fd:gy}{ps:List Str}{sp:Sp}(F:jH P w K mg base (CXx P w) k f fd ps sp):jH P w K mg base CX0 k f fd ps (fun vs H Q _=>sp vs H Q E0):=
 ⟨fun vs H Q E h=>F.len vs H Q E0 h,fun A outer s H args us vs Q E hr he hb hv hs=>lN (F.run A outer s H args us vs Q E0 hr he hb hv hs) fun r s' q=>by
  cases r with
  |error e=>exact Fe q
  |ok fl=>cases fl<;>exact q⟩
end
end L2
namespace Q
open PySem PySem.Spec PySem.W PyProof.Rows L2
noncomputable def fZ(lt:Nat->Nat->Bool)(vs:List Value):List Value:=if vs.length<2 then vs else(run lt (di vs.length)).toList.map fun i=>vs.getD i .none
def Fv(prog:Program)(w:World)(A:Around)(lt:Nat->Nat->Bool)(vs:List Value)(h0:Heap):Prop:=
 ∀s1:Shared,(∀b o,h0.get? b=some o->s1.heap.get? b=some o)->
  ∃κ,(∀(Q':SortKind->Shared->Prop)(E':Value->Shared->Prop),Q' κ s1->wpAny (model prog w) A (keyKind' vs.toArray) Q' E' s1)/\
   ∀i j (C:Bool->Shared->Prop),i<vs.length->j<vs.length->i≠j->C (lt i j) s1->kas_ask prog w A κ vs i j C s1
section
variable {prog:Program}{w:World}{A:Around}{E:Value->Shared->Prop}{s:Shared}{lt:Nat->Nat->Bool}{vs:List Value}
theorem fI(h:n<64):n<=sizeLine:=by rw[A4];omega
theorem CJ(h:n<64):n<=sizeLine+1:=eW (fI h)
theorem CH{P:dM->Shared->Prop}(T:Tot lt vs.length)(ho:s.heap.get? a=some (seqObj "list" vs.toArray n))(k0:∀b o,h0.get? b=some o->s.heap.get? b=some o/\b≠a)(h64:vs.length<64)
  (ask:2<=vs.length->Fv prog w A lt vs h0)(h:P (.done (.ret .none)) {s with heap:=sortedHeap s.heap a vs (fZ lt vs).toArray}):wpAny (model prog w) A (Builtin.«list.sort» ⟨[.ref a],[]⟩) P E s:=by
 have hv:vs.toArray.size=vs.length:=by simp
 obtain⟨c,hc⟩:∃c,(s.heap.update a (aS fun _=> #[])).get? a=some (seqObj "list" #[] c):=⟨_,rg ho _⟩;have hc':(((s.heap.update a (aS fun _=> #[])).push (seqObj "tuple" vs.toArray 0)).push (seqObj "list" #[] 0)).get? a=some (seqObj "list" #[] c):=ag _ (ag _ hc);have keep:∀b o,h0.get? b=some o->(((s.heap.update a (aS fun _=> #[])).push (seqObj "tuple" vs.toArray 0)).push (seqObj "list" #[] 0)).get? b=some o:=fun b o e=>
  ag _ (ag _ ((aT _ _ (bQ (k0 b o e).2)).trans (k0 b o e).1))
 rw[list_sort_plain];refine af (listItems_at ho rfl (af (fA ho rfl ?_ (by rw[hv];exact fI h64) (aX _))));refine af (tp hc rfl (af (wpAny_newTuple ?_ (show vs.length<=_ from fI h64))));refine af (oj (b8 ?_) (aX _));by_cases hn:vs.length<2
 ·have e:fZ lt vs=vs:=if_pos hn
  rw[e]at h;dsimp only;rw[if_pos (by rw[hv];exact hn),if_pos (by rw[hv];exact hn)];refine af (aj (af ?_));rw[StateT.run_pure];refine aj (af (tp hc' rfl (af (fA hc' rfl ?_ (aX _) ?_))))
  ·have e2:(arrOf (SortSt.mk' general' (vs.toArray.zip vs.toArray) #[] 7 none)).map (·.2)=vs.toArray:=by
    show(vs.toArray.zip vs.toArray).map (·.2)=vs.toArray;apply Array.ext';simp[vP]
   rw[e2];have e3:failedOf ((),SortSt.mk' general' (vs.toArray.zip vs.toArray) #[] 7 none).snd=none:=rfl;rw[e3];simp only[bne_self_eq_false,aQ,if_false];exact aj h
  ·show((vs.toArray.zip vs.toArray).map (·.2)).size<=_
   rw[Array.size_map,Array.size_zip,hv,Nat.min_self];exact eW (fI h64)
 ·have h2:2<=vs.length:=by omega
  have e:fZ lt vs=(run lt (di vs.length)).toList.map fun i=>vs.getD i .none:=if_neg hn;rw[e]at h;dsimp only;rw[if_neg (by rw[hv];exact hn),if_neg (by rw[hv];exact hn)];obtain⟨κ,hk1,hk2⟩:=ask h2 {s with heap:=((s.heap.update a (aS fun _=> #[])).push (seqObj "tuple" vs.toArray 0)).push (seqObj "list" #[] 0)} keep;obtain⟨P1,U1,O1⟩:=eU T (by omega:1<=vs.length);refine af (hk1 _ _ (af ?_));have key:=kat_run (prog:=prog) (w:=w) (A:=A) (E:=E) (κ:=κ) (ks:=vs) (vs:=vs) (s:={s with heap:=((s.heap.update a (aS fun _=> #[])).push (seqObj "tuple" vs.toArray 0)).push (seqObj "list" #[] 0)})
   (Q:=fun st' s'=>s'={s with heap:=((s.heap.update a (aS fun _=> #[])).push (seqObj "tuple" vs.toArray 0)).push (seqObj "list" #[] 0)}/\arrOf st'=(run lt (di vs.length)).map (kas_item (vs.toArray.zip vs.toArray))/\failedOf st'=none)
   (G:=fun p s'=>s'={s with heap:=((s.heap.update a (aS fun _=> #[])).push (seqObj "tuple" vs.toArray 0)).push (seqObj "list" #[] 0)}/\p=run lt (di vs.length)) rfl h2 h64
   (fun p st' s' _ e1 e2 e3=>⟨e3.1,by rw[e1,e3.2],e2⟩)
   (wp_run (S:=fun s'=>s'={s with heap:=((s.heap.update a (aS fun _=> #[])).push (seqObj "tuple" vs.toArray 0)).push (seqObj "list" #[] 0)}) (fun i j C s' hi hj hij hs hC=>by
    subst hs;exact hk2 i j C hi hj hij (hC _ rfl)) _ _ O1 rfl fun s' hs=>⟨hs,rfl⟩)
  refine fW key ?_ fun _ _ z=>z;rintro⟨⟨⟩,st'⟩ s' ⟨rfl,har,hf⟩;have hout:=kat_snds (ks:=vs) (vs:=vs) rfl har;dsimp only;rw[hout,hf];have hlen:(dR ((run lt (di vs.length)).toList.map fun i=>vs.getD i bz)).size<=sizeLine+1:=by
   rw[au,ai,ck,P1.size];exact eW (fI h64)
  refine af (tp hc' rfl (af (fA hc' rfl ?_ (aX _) hlen)));simp only[bne_self_eq_false,aQ,if_false];exact aj h
theorem wI{Q:Value->Shared->Prop}(T:Tot lt vs.length)(hl:s.heap.IsList l vs.toArray)(h64:vs.length<64)(ask:2<=vs.length->Fv prog w A.in1.in1 lt vs s.heap)
  (h:Q (.ref (s.heap.objs.size+1)) {s with heap:=sortedAll s.heap vs (fZ lt vs).toArray}):wpAny (model prog w) A (call (.builtin "sorted") [.ref l]) Q E s:=by
 refine lu kind_sorted plain_sorted entry_sorted (args_sorted1 _) ?_;unfold Builtin.«sorted»;refine af (m:=checkCount "sorted" 1 1 _) (aj (af (collect_list hl (af (oj ?_ (show vs.length<=_ from fI h64))) (fI h64))));generalize hH:(s.heap.push (seqObj "list" #[] 0)).update s.heap.objs.size (aS (·++vs.toArray))=h1;have hz:h1.objs.size=s.heap.objs.size+1:=by rw[<-hH,vR,Fz]
 have kp:∀b o,s.heap.get? b=some o->h1.get? b=some o:=fun b o e=>by
  have hb:=aA e;rw[<-hH,aT _ _ (eA hb)];exact ag _ e
 have hg:(h1.push (seqObj "list" vs.toArray 0)).get? (s.heap.objs.size+1)=some (seqObj "list" vs.toArray 0):=by
  rw[<-hz];exact az _ rfl
 have hq:sortedAll s.heap vs (fZ lt vs).toArray=sortedHeap (h1.push (seqObj "list" vs.toArray 0)) (s.heap.objs.size+1) vs (fZ lt vs).toArray:=by rw[<-hH];rfl
 rw[hq]at h;show wpAny _ _ _ _ _ {s with heap:=h1.push (seqObj "list" vs.toArray 0)};rw[hz];refine af (b8 (cM Fy ⟨_,hg,rfl⟩ Cq (CH T hg (fun b o e=>⟨ag _ (kp b o e),aI (bA (aA e))⟩) h64 ask ⟨_,rfl,?_⟩) (args_list_sort _)));exact aj ⟨_,rfl,h⟩
end
noncomputable def tlt(x y:Str):Bool:=decide (x.cps.toList<y.cps.toList)
noncomputable def mN(ks:List Str)(i j:Nat):Bool:=tlt (ks.getD i "") (ks.getD j "")
noncomputable def ord(ks:List Str):List Nat:=if ks.length<2 then aw ks.length else(run (mN ks) (di ks.length)).toList
noncomputable def sortBy{α:Type}(d:α)(ks:List Str)(ys:List α):List α:=(ord ks).map fun i=>ys.getD i d
theorem str_ext{y:Str}(h:x.cps.toList=y.cps.toList):x=y:=by
 obtain⟨a⟩:=x;obtain⟨b⟩:=y;have :a=b:=Array.toList_inj.mp h;rw[this]
theorem wC{y:Str}(a:tlt x y=true)(b:tlt y z=true):tlt x z=true:=by
 unfold tlt at *;rw[decide_eq_true_eq]at *;exact List.lt_trans a b
theorem tlt_tri{y:Str}(h:x≠y):tlt x y= !tlt y x:=by
 unfold tlt;by_cases c:x.cps.toList<y.cps.toList
 ·have d:¬y.cps.toList<x.cps.toList:=fun z=>List.lt_irrefl _ (List.lt_trans c z)
  rw[decide_eq_true c,decide_eq_false d];rfl
 ·by_cases d:y.cps.toList<x.cps.toList
  ·rw[decide_eq_false c,decide_eq_true d];rfl
  ·exact absurd (str_ext (List.le_antisymm (List.not_lt.mp d) (List.not_lt.mp c))) h
theorem t9(nd:ks.Nodup):Tot (mN ks) ks.length where
 tri:=fun i j hi hj h=>tlt_tri fun e=>h (by
  rw[ae,ae,aa hi,aa hj]at e;exact(dO nd).mp e)
 tr:=fun i j k _ _ _ a b=>wC a b
theorem ord_len(ks:List Str)(nd:ks.Nodup):(ord ks).length=ks.length:=by
 unfold ord;split
 ·simp
 ·rw[ck,(eU (t9 nd) (by omega)).1.size]
theorem Hj(nd:ks.Nodup)(hl:ks.length=ys.length)(r:bD ys vs):bD (sortBy .non ks ys) (fZ (mN ks) vs):=by
 have hlen:=r.length;have e:vs.length=ks.length:=by omega
 unfold fZ sortBy ord;rw[e];by_cases c:ks.length<2
 ·rw[if_pos c,if_pos c]
  have e2:(aw ks.length).map (fun i=>ys.getD i V.non)=ys:=by
   rw[hl];apply bg
   ·simp
   ·intro i h1 h2
    simp[h2]
  rw[e2];exact r
 ·rw[if_neg c,if_neg c]
  have P:=(eU (t9 nd) (by omega)).1;have all:∀l:List Nat,(∀i∈l,i<ks.length)->bD (l.map fun i=>ys.getD i V.non) (l.map fun i=>vs.getD i bz):=by
   intro l
   induction l with
   |nil=>exact fun _=>.nil
   |cons i l ih=>
    intro h;have hi:i<ys.length:=by have :=h i (.head _);omega
    obtain⟨u,hu,ru⟩:=r.get (aa hi);refine .cons ?_ (ih fun j hj=>h j (.tail _ hj));show L2.RelV (ys.getD i V.non) (vs.getD i bz);rw[ae,aa hi,ae,hu];exact ru
  refine all _ fun i hi=>?_;have m:i∈(aw ks.length).toArray:=P.perm.mem_iff.mp (jm.mp hi);simpa using m
theorem Gi(r:zc vs ks)(hi:i<ks.length):∃t,vs.getD i .none=.str (ks.getD i "") t:=by
 induction r generalizing i with
 |nil=>exact absurd hi (c5 _)
 |cons y t h ih=>
  cases i with
  |zero=>exact⟨t,rfl⟩
  |succ i=>exact ih (by simpa using hi)
theorem uf(r:zc vs ks):vs.length=ks.length:=by
 induction r with
 |nil=>rfl
 |cons y t h ih=>simp[ih]
section
variable {prog:Program}{w:World}{A:Around}
theorem Ft(r:zc vs ks)(h2:2<=vs.length):Fv prog w A (mN ks) vs h0:=by
 intro s1 _;refine⟨oneType',fun Q' E' q=>?_,fun i j C hi hj _ q=>?_⟩
 ·match vs,r,h2 with
  |v1::v2::rest,r,_=>
   rw[keyKind_strs r];exact aj q
 ·rw[uf r]at hi hj
  obtain⟨t,e1⟩:=Gi r hi;obtain⟨u,e2⟩:=Gi r hj;unfold kas_ask;rw[e1,e2,keyLt'_oneType];exact oneLt_str q
end
def nU(H:Hp)(ys:List V)(ks:List Str):Prop:=Paired (fun v k=>∃a rest,v=V.ref a/\H a=some (.tup (V.str k::rest))) ys ks
noncomputable def rSort(K:ah):List V->Hp->VK->Prop:=fun xs H Q=>∃p ys ks,xs=[V.ref p]/\SqL K H p ys/\ks.length<64/\ks.Nodup/\(ys=ks.map V.str\/nU H ys ks)/\∀l,H l=none->Q (.ref l) (upd H l (.lst (sortBy .non ks ys)))
theorem sf:∀{ys:List V}{ks:List Str},nU H ys ks->ks.length=ys.length
 |_,_,.nil=>rfl
 |_,_,.cons _ t=>by simp[sf t]
set_option maxHeartbeats 3200000
noncomputable def has(acc:List Key)(k:Key):Bool:=acc.any fun x=>decide (x=k)
theorem jg{acc:List Key}{k:Key}:has acc k=true↔k∈acc:=by
 unfold has;rw[b9];constructor
 ·rintro⟨x,h,e⟩
  rw[<-of_decide_eq_true e];exact h
 ·exact fun h=>⟨k,h,decide_eq_true rfl⟩
noncomputable def more(acc:List Key)(k:Key):List Key:=if has acc k=true then acc else acc++[k]
noncomputable def met(ks:List Key):List Key:=ks.foldl more []
theorem HC(ks:List Key)(k:Key):met (ks++[k])=more (met ks) k:=by unfold met;rw[List.foldl_append];rfl
theorem Aa{acc:List Key}{k j:Key}:j∈more acc k↔j∈acc\/j=k:=by
 unfold more;split
 ·rename_i h
  constructor
  ·exact .inl
  ·rintro(z|rfl)
   ·exact z
   ·exact jg.mp h
 ·simp
theorem qm(acc:List Key)(k:Key):(more acc k).length=if has acc k=true then acc.length else acc.length+1:=by
 unfold more;split <;>simp
theorem BP(ks:List Key):(met ks).length<=ks.length:=by
 unfold met;have g:∀(l acc:List Key),(l.foldl more acc).length<=acc.length+l.length:=by
  intro l
  induction l with
  |nil=>intro acc;simp
  |cons k l ih=>
   intro acc;have h1:=ih (more acc k);have h2:=qm acc k;rw[dz,bB];split at h2<;>omega
 simpa using g ks []
theorem jW{ks:List Key}{k:Key}:k∈met ks↔k∈ks:=by
 unfold met;have g:∀(l acc:List Key),k∈l.foldl more acc↔k∈acc\/k∈l:=by
  intro l
  induction l with
  |nil=>intro acc;simp
  |cons j l ih=>
   intro acc;rw[dz,ih,Aa,aE,or_assoc]
 simpa using g ks []
theorem EZ{ks:List Key}(h:ks.Nodup):met ks=ks:=by
 unfold met;have g:∀(l acc:List Key),(acc++l).Nodup->l.foldl more acc=acc++l:=by
  intro l
  induction l with
  |nil=>intro acc _;simp
  |cons k l ih=>
   intro acc hn;have hk:k∉acc:=fun z=>(dm.mp hn).2.2 k z k (.head _) rfl;have e:more acc k=acc++[k]:=if_neg fun z=>hk (jg.mp z);rw[dz,e,ih (acc++[k]) (by simpa using hn)];simp
 simpa using g ks [] (by simpa using h)
theorem ER(ks:List Key):(met ks).Nodup:=by
 unfold met;have g:∀(l acc:List Key),acc.Nodup->(l.foldl more acc).Nodup:=by
  intro l
  induction l with
  |nil=>intro acc h;exact h
  |cons k l ih=>
   intro acc h;rw[dz];refine ih _ ?_;unfold more;split
   ·exact h
   ·rename_i c
    refine dm.mpr ⟨h,by simp,fun a ha b hb e=>c ?_⟩;have e2:b=k:=by simpa using hb
    rw[<-e2,<-e];exact jg.mpr ha
 exact g ks [] iR
theorem yq{ks:List Key}(h:(met ks).length=ks.length):ks.Nodup:=by
 have up:∀(l acc:List Key),(l.foldl more acc).length<=acc.length+l.length:=by
  intro l
  induction l with
  |nil=>intro acc;simp
  |cons k l ih=>
   intro acc;have h1:=ih (more acc k);have h2:=qm acc k;rw[dz,bB];split at h2<;>omega
 have g:∀(l acc:List Key),acc.Nodup->(l.foldl more acc).length=acc.length+l.length->(acc++l).Nodup:=by
  intro l
  induction l with
  |nil=>intro acc h _;simpa using h
  |cons k l ih=>
   intro acc hn e;rw[dz,bB]at e;have h1:=up l (more acc k);have h2:=qm acc k;by_cases c:has acc k=true
   ·rw[if_pos c]at h2
    omega
   ·rw[if_neg c]at h2
    have em:more acc k=acc++[k]:=if_neg c;rw[em]at e;have hk:k∉acc:=fun z=>c (jg.mpr z);have hn2:(acc++[k]).Nodup:=dm.mpr ⟨hn,by simp,fun a ha b hb e=>hk (by
     have e2:b=k:=by simpa using hb
     rw[<-e2,<-e];exact ha)⟩
    have :=ih (acc++[k]) hn2 (by rw[ba,dF];omega)
    simpa using this
 simpa using g ks [] iR (by simpa[met]using h)
theorem met_one{ks:List Key}:(met ks).length<=1↔∀a∈ks,∀b∈ks,a=b:=by
 constructor
 ·intro h a ha b hb
  have ha':=jW.mpr ha;have hb':=jW.mpr hb
  match e:met ks,h with
  | [],_=>rw[e]at ha';cases ha'
  | [x],_=>
   rw[e]at ha' hb';rw[a6.mp ha',a6.mp hb']
 ·intro h
  match e:met ks with
  | []=>simp
  | [x]=>simp
  |x::y::r=>
   have n:=ER ks;rw[e]at n;have hx:x∈ks:=jW.mp (by rw[e];exact .head _);have hy:y∈ks:=jW.mp (by rw[e];exact .tail _ (.head _));have :=h x hx y hy;rw[this]at n;simp at n
noncomputable abbrev mh(led:Bool):Obj:={cls:=.type "set",dict:=none,data:=.set #[] 0 (.fresh 0 0 led)}
noncomputable def zD(a:Addr)(n:Nat):HO:=.ext fun h=>∃o es ep t,h.get? a=some o/\o.ExactSet/\o.data=.set es ep t/\es.size<fK/\t.fits es.size=true/\es.size=n
theorem yC:∀{ks:List Key}{us:List Value},bD (ks.map kV) us->∀(i:Nat)(v:Value),us[i]? =some v->∃k,ks[i]? =some k/\RelV (kV k) v
 | [],_,.nil,i,v,e=>by simp at e
 |k::ks,_,.cons r t,0,v,e=>by
  simp at e;subst e;exact⟨k,rfl,r⟩
 |k::ks,_,.cons r t,i+1,v,e=>yC t i v (by simpa using e)
noncomputable def rSet(K:ah):List V->Hp->VK->Prop:=fun xs H Q=>∃p ks,xs=[V.ref p]/\SqL K H p (ks.map kV)/\ks.length<4000/\∀a,H a=none->Q (.ref a) (upd H a (zD a (met ks).length))
theorem wt:fz X (.builtin "len") (fun xs H Q=>∃a n,xs=[V.ref a]/\H a=some (zD a n)/\Q (.int n) H):=by
 intro pins s σ H xs us Q I r h;obtain⟨a,n,rfl,e,q⟩:=h;obtain⟨u,rfl,rx⟩:=vals1 r;cases rx;obtain⟨⟨o,es,ep,t,ho,hex,hd,hbb,hf,rfl⟩,_⟩:=I.hok a _ e;refine call_len_set ho hex hd hf (by have :es.size<4096:=hbb;omega) ?_;exact⟨.int es.size,H,I.tok _,⟨_,rfl⟩,q⟩
end Q
namespace L2
open PySem PySem.Spec PyProof.Rows
section
variable {X:Cx}
theorem xc(a b:Array Nat):∀k:Nat,((bh k a).foldl (·++·) b).size=b.size+k*a.size
 | 0=>by simp
 |k+1=>by
  rw[du,dz,xc a (b++a) k,Array.size_append,FG];omega
noncomputable def GS:R2:=fun x y H Q=>∃(z:Str)(n:Int),x=.str z/\y=.int n/\2<=n/\n<=1000/\1<=z.length/\z.length<=1000/\Q (.str ⟨(bh n.toNat z.cps).foldl (·++·) #[]⟩) H
theorem op_repS:OpR X (fu .Mult) GS:=by
 intro pins s σ H x y v u Q I rx ry h;obtain⟨z,n,rfl,rfl,h1,h2,h3,h4,q⟩:=h;obtain⟨t,rfl⟩:=rx;obtain⟨t',rfl⟩:=ry;have c1:¬n<1:=by omega
 have c2:(n==1||z.length==0)=false:=by
  rw[Bool.or_eq_false_iff];exact⟨by simp;omega,by simp;omega⟩
 have hm:z.length*n.toNat<=1000*1000:=Nat.mul_le_mul h4 (by omega);have hn:((n.toNat:Nat):Int)=n:=by omega
 have hm2:(z.length:Int)*n<=1000*1000:=by
  rw[<-hn,<-Int.natCast_mul];exact Int.ofNat_le.mpr hm
 refine P.mul_str (by rw[decide_eq_false (by omega),decide_eq_false (by omega)];rfl) (fun _ _=>?_) (fun _ _=>?_) ?_
 ·exact Int.not_lt.mpr (Int.le_ediv_of_mul_le (by omega) (by omega))
 ·exact decide_eq_false (Nat.not_lt.mpr (aR hm (by decide)))
 ·rw[if_neg c1,if_neg (by rw[c2];exact ak)]
  refine⟨?_,.str _,H,I.tok _,⟨_,rfl⟩,q⟩;show((bh n.toNat z.cps).foldl (·++·) #[]).size<=_;rw[xc];exact aR (by rw[Nat.mul_comm];simpa[AW]using hm) (by decide:1000*1000<=sizeLine)
noncomputable def rJoin(K:ah):V->List V->Hp->VK->Prop:=fun x vs H Q=>∃(sep:Str)(p:Addr)(ys:List Str),x=.str sep/\vs=[.ref p]/\SqL K H p (ys.map V.str)/\sep.length<=16/\(ys.map (·.length)).sum+ys.length<=1048576/\Q (.str (Txt.join sep ys)) H
end
end L2
set_option maxHeartbeats 1000000
namespace HT
open PySem PySem.Spec PyProof.Rows
section
variable {prog:Program}{w:World}{K:Type}[DecidableEq K]{knd:HeapKind prog w K}{A:Around}{s:Shared}{E:Value->Shared->Prop}
theorem setDef{d:Addr}{xs:List (K×Addr×Value)}{k:K}{v:Value}{Q:Value->Shared->Prop}(hu:knd.room A)(hkey:knd.is s.heap k a)(hm:s.heap.DictOfH knd d xs)
  (h1:∀u,(atKey xs k).map (·.2)=some u->Q u {s with toks:=s.toks+knd.draws k})
  (h2:atKey xs k=none->∀h',h'.DictOfH knd d (storedH xs k a v)->dq d s.heap h'->Q v {s with heap:=h',toks:=s.toks+knd.draws k})
  (hsz:xs.length<=sizeLine):wpAny (model prog w) A (FD d (.ref a) v) Q E s:=by
 obtain⟨o,es,ep,ho,hc,hd,he,his,hn⟩:=hm;unfold FD;refine b8 ?_;refine af (knd.pyHash hu hkey ?_);refine af (wpAny_dictFind_heap (s:={s with toks:=s.toks+knd.draws k}) hu hkey ho hd he his hn ?_ ?_)
 ·intro hno
  have hnot:k∉xs.map (·.1):=not_mem_keys_of_get hno;refine af (gV (af (wpAny_updateDictKeys (hz:=by have e:=size_of_entries he;omega) (s:={s with toks:=s.toks+knd.draws k}) ho hd (aj (h2 (nZ hno) _ ⟨_,_,ep+1,cj _ ho (Obj.isFreed_of_dict (Jv hd _)),
   hc.mapDictKeys _,Jv hd _,?_,?_,?_⟩ (bI ..))))))
  ·rw[storedH_new (nZ hno)]
   simp[he,entryOfKey]
  ·rw[storedH_new (nZ hno)]
   intro x hx;rcases cP.mp hx with hx|hx
   ·exact knd.keeps (his x hx) ho hd (bI ..)
   ·rw[a6.mp hx]
    exact knd.keeps hkey ho hd (bI ..)
  ·rw[storedH_new (nZ hno),cQ,dm]
   refine⟨hn,by simp,fun x hx y hy e=>?_⟩;have :y=k:=by simpa using hy
   exact hnot (by rw[<-this,<-e];exact hx)
 ·intro j p hj
  refine af (wpAny_dictEntries (s:={s with toks:=s.toks+knd.draws k}) ho hd ?_);rw[entry_at he j,hj];exact af (gV (aj (h1 _ (by rw[atKey_of_get hn hj];rfl))))
variable(knd) in
theorem yy(d a:Addr)(hd:(d==fX)=false)(dflt:Value):
  MeetsIn prog w (Builtin.«dict.setdefault» ⟨[.ref d,.ref a,dflt],[]⟩) (fun A R s=>knd.room A.in1/\∃k xs,knd.is s.heap k a/\s.heap.DictOfH knd d xs/\xs.length<=sizeLine/\
   (∀u,(atKey xs k).map (·.2)=some u->R (.ok (.ret u)) {s with toks:=s.toks+knd.draws k})/\
   (atKey xs k=none->∀h',h'.DictOfH knd d (storedH xs k a dflt)->dq d s.heap h'->R (.ok (.ret dflt)) {s with heap:=h',toks:=s.toks+knd.draws k})):=
 .of_wp fun A R s ⟨hu,k,xs,hkey,hm,hz,h1,h2⟩=>by
  unfold Builtin.«dict.setdefault»;refine af ?_;unfold Builtin.Dict.keyAndDefault;refine af (wpAny_notOrdered_dict hm.typeIs ?_);show wpAny _ _ (pure (d,cD a,some dflt)) _ _ s;refine aj ?_;show wpAny _ _ (if(d==fX)=true then _ else(FD d (.ref a) dflt>>=_)) _ _ s;rw[if_neg (by rw[hd];exact ak)];exact af (setDef hu hkey hm (fun v hv=>aj ⟨v,rfl,h1 v hv⟩) (fun hn h' hm' hs'=>aj ⟨dflt,rfl,h2 hn h' hm' hs'⟩) hz)
end
end HT
namespace L2
open PySem PySem.Spec PyProof.Rows
section
variable {X:Cx}{pins:List (Addr×Obj)}{σ:St}{H:Hp}{s:Shared}{a b:Addr}{v:V}{r:Value}{A:Around}{E:Value->Shared->Prop}{kvs:List (List Key×V)}{k:List Key}
theorem IF{Q:Value->Shared->Prop}(hu:A.units+1<cLine)(I:Inv X pins σ H s)(e:H a=some (.dT kvs))(eb:H b=some (.tup (k.map kV)))(rv:RelV v r)(hl:kvs.length<sizeLine)
  (h1:∀x w' s',d0 kvs k=some x->Inv X pins σ H s'->RelV x w'->Q w' s')(h2:d0 kvs k=none->∀s',Inv X pins σ (upd H a (.dT (putK kvs k v))) s'->Q r s'):
  wpAny (model X.prog X.w) A (call (.builtin "dict.setdefault") [.ref a,.ref b,r]) Q E s:=by
 obtain⟨z,hd,xs,rel,dd⟩:=IB I.hok e;have hz:xs.length<=sizeLine:=by rw[<-ly rel];exact z
 have hl':(putK kvs k v).length<=sizeLine:=by have :=sA kvs k v;omega
 have rk:=rel.val k;refine call_meetsIn vI dd.typeIs PySem.F.entry_dict_setdefault (PySem.F.args_dict_setdefault_3 _ _ _) (HT.yy (pI (cn X.prog X.w)) a b hd r) ⟨tupleKind_room_in1 hu,k,xs,HR I.hok eb,dd,hz,fun u hu'=>?_,fun hn h' dd' hs=>?_⟩
 ·rw[hu']at rk
  cases hv:d0 kvs k with
  |none=>rw[hv]at rk;exact absurd rk (by intro z;cases z)
  |some x=>
   rw[hv]at rk;obtain⟨w',hw,rw'⟩:=vF.some_of rk;cases hw;exact h1 x _ _ hv (I.tok _) rw'
 ·rw[hn]at rk
  refine h2 (by
   cases hv:d0 kvs k with
   |none=>rfl
   |some x=>rw[hv]at rk;exact absurd rk (by intro z;cases z)) _ ?_
  obtain⟨q,es,ep,hq,g2,g3,g4,_,g5⟩:=dd';refine d_write I (by rw[e];exact True.intro) hs ⟨q,hq⟩ ⟨hl',hd,_,(rel.put k eb rv).keeps fun c ys ec=>?_,q,es,ep,hq,g2,g3,g4,g5⟩;rw[bo (ne_of ec e (fun z=>nomatch z))];exact ec
end
section
variable {X:Cx}
theorem E2{K:Type}[DecidableEq K]{knd:HeapKind prog w K}{d:Addr}{xs:List (K×Addr×Value)}{Q:Value->Shared->Prop}(hd:(d==fX)=false)(hm:s.heap.DictOfH knd d xs)(hfit:(xs.length:Int)<2^63)
  (h:Q (.int xs.length (s.toks+1)) {s with toks:=s.toks+1+1}):wpAny (model prog w) A (call (.builtin "len") [.ref d]) Q E s:=by
 have ml:MeetsIn prog w (Builtin.«dict.__len__» ⟨[.ref d],[]⟩) (fun _ R s=>∃xs,s.heap.DictOfH knd d xs/\R (.ok (.ret (.int xs.length s.toks))) {s with toks:=s.toks+1}):=
  .of_wp fun A R s ⟨xs,hm,h⟩=>by
   obtain⟨o,es,ep,ho,hc,hdat,he,_⟩:=hm;show wpAny _ _ (dictSize d>>=_) _ _ s;unfold dictSize;refine af (af (wpAny_dictEntries ho hdat (aj ?_)));show wpAny _ _ (Builtin.Dict.pendingCount d>>=_) _ _ s;refine af (wpAny_pendingCount_other hd ?_);refine wpAny_ret_mkInt ?_;have :es.size=xs.length:=size_of_entries he;rw[Nat.add_zero,this];exact h
 refine lu kind_len plain_len entry_len (args_len1 _) ?_;unfold Builtin.«len»;refine af (m:=oneArg "len" _) (aj ?_);refine af (m:=callSpecial? (.ref d) (bX "__len__")) (d9 (name:=bX "__len__") hm.typeIs F.slot_dict_len
  (call_meetsIn F.slot_dict_len hm.typeIs F.entry_dict_len (F.args_dict_len_1 _) ml ⟨xs,hm,?_⟩))
 show wpAny _ _ _ _ _ {s with toks:=s.toks+1};refine af (b8 (aj ?_));refine af (km ?_);show wpAny _ _ (if((xs.length:Nat):Int)<0 then _ else _) _ _ _;rw[if_neg (by omega)];show wpAny _ _ (if((xs.length:Nat):Int)≥ 2^63 then _ else _) _ _ _;rw[if_neg (by omega)];exact af (wpAny_mkInt (aj ⟨_,rfl,h⟩))
theorem AF:fz X (.builtin "len") (fun xs H Q=>∃a kvs,xs=[V.ref a]/\H a=some (.dT kvs)/\Q (.int kvs.length) H):=by
 intro pins s σ H xs us Q I r h;obtain⟨a,kvs,rfl,e,q⟩:=h;obtain⟨u,rfl,rx⟩:=vals1 r;cases rx;obtain⟨z,hd,ys,rel,dd⟩:=IB I.hok e;refine E2 hd dd (by rw[<-ly rel];rw[A4]at z;omega) ?_;rw[<-ly rel];exact⟨.int kvs.length,H,I.tok _,⟨_,rfl⟩,q⟩
theorem key_seq{ks:List Key}(I:Inv X pins σ H s)(h:SqT X.K H b (ks.map kV)):(pI (cn X.prog X.w)).is s.heap ks b:=by
 obtain⟨its,r,⟨o,h1,h2,n,h3⟩,_⟩:=I.tuple h;exact⟨o,its.toArray,n,h1,h2,h3,by simpa using rN r⟩
noncomputable def rIxD(K:ah):R2:=fun x y H Q=>∃a b kvs k v,x=.ref a/\y=.ref b/\H a=some (.dT kvs)/\SqT K H b (k.map kV)/\d0 kvs k=some v/\Q v H
theorem ix_dict(hu:X.A.units+1<cLine):IxR X (rIxD X.K):=by
 intro value slice pins s σ H x y v u Q I rx ry h hs;obtain⟨a,b,kvs,k,z,rfl,rfl,e,eb,hv,q⟩:=h;cases rx;cases ry;obtain⟨_,hd,xs,rel,dd⟩:=IB I.hok e;have hT:s.TypeIs (.ref a) "dict":=dd.typeIs;unfold Jm;refine af ?_;rw[getitemInPython_of_ne hT.not_modules];refine af (qX hT PySem.F.slot_dict_getitem.lookup ?_);have fin:wpAny (model X.prog X.w) X.A (subscripted slice false (.ref a) (.ref b)) (fun r s₃=>wpAny (model X.prog X.w) X.A (letTemporaryGo value (.ref a) r>>=fun _=>pure r) (EP X pins σ Q) X.xe s₃) X.xe s:=by
  rw[hs];obtain⟨w',hw,rw'⟩:=vF.some_of (v:=z) (o:=(atKey xs k).map (·.2)) (by rw[<-hv];exact rel.val k);obtain⟨p,hp,hp2⟩:=mn.mp hw;refine wpAny_operating (fW (wpAny_getItem_heap (Q:=EP X pins σ Q) (tupleKind_room_in1 hu) (key_seq I eb) dd hp ?_) (fun r s₃ h₃=>af (wpAny_letTemporaryGo (aj h₃))) fun _ _ x=>x);rw[hp2];exact⟨z,H,I.tok _,rw',q⟩
 first
  |exact aj (af fin)
  |exact af (aj (af fin))
  |exact af fin
noncomputable def C1:V->List V->Hp->VK->Prop:=fun x xs H Q=>∃a b kvs k v,x=.ref a/\xs=[.ref b,v]/\H a=some (.dT kvs)/\H b=some (.tup (k.map kV))/\kvs.length<sizeLine/\
 (∀z,d0 kvs k=some z->Q z H)/\(d0 kvs k=none->Q v (upd H a (.dT (putK kvs k v))))
theorem EW(hu:X.A.units+1<cLine):MtR X "dict.setdefault" C1:=by
 intro pins s σ H x xs v us Q I rx rv h;obtain⟨a,b,kvs,k,y,rfl,rfl,e,eb,hl,q1,q2⟩:=h;cases rx;obtain⟨u,w',rfl,r1,r2⟩:=vals2 rv;cases r1;exact IF hu I e eb r2 hl (fun z w1 s' hz I' rz=>⟨z,H,I',rz,q1 z hz⟩) fun hn s' I'=>⟨y,_,I',r2,q2 hn⟩
end
section
variable {X:Cx}
noncomputable def isRef:V->Bool
 |.ref _=>true
 |_=>false
noncomputable def rInD(K:ah)(neg:Bool):R2:=fun x y H Q=>∃p xs ds d,y=.ref p/\SqL K H p xs/\xs.all isRef=true/\Rep K H d x/\eI K H ds xs/\eP ds<=30/\
 Q (.bl (if neg then !(ds.any fun d'=>eqD d' d)else ds.any fun d'=>eqD d' d)) H
open Classical in
noncomputable def eqW(K:ah)(H:Hp)(d:D)(u:Value):Bool:=decide (∃a d',u=.ref a/\Rep K H d' (.ref a)/\eqD d' d=true)
open Classical in
theorem Iy(I:Inv X pins σ H s){d d':D}(h:Rep X.K H d' (.ref a)):eqW X.K H d (.ref a)=eqD d' d:=by
 unfold eqW;cases e:eqD d' d with
 |true=>exact decide_eq_true (p:=∃b d2,cD a=.ref b/\Rep X.K H d2 (.ref b)/\eqD d2 d=true) ⟨a,d',rfl,h,e⟩
 |false=>
  refine decide_eq_false ?_;rintro⟨b,d2,e1,h2,e2⟩;cases e1;rw[I.tJ h2 h,e]at e2;cases e2
theorem yY(I:Inv X pins σ H s){d:D}:∀{ds:List D}{xs:List V}{us:List Value},bD xs us->xs.all isRef=true->eI X.K H ds xs->us.any (eqW X.K H d)=ds.any fun d'=>eqD d' d
 | [],_,us,r,_,h=>by
  rw[show _=[]from h]at r;cases r;rfl
 |d'::ds,_,us,r,f,h=>by
  obtain⟨x,t,rfl,h1,h2⟩:=h;cases r with
  |cons r1 r2=>
   rw[me,aN]at f;cases x with
   |ref a=>
    cases r1;rw[ma,ma,Iy I h1,yY I r2 f.2 h2]
   |_=>exact absurd (show false=true from f.1) ak
theorem yx(I:Inv X pins σ H s){d:D}{x:V}{v:Value}(hd:Rep X.K H d x)(rx:RelV x v)(hu:A.units+31<cLine):∀{ds:List D}{xs:List V}{us:List Value},bD xs us->xs.all isRef=true->eI X.K H ds xs->eP ds<=30->∀u∈us,Jq A s u v (eqW X.K H d u)
 | [],_,us,r,_,h,_=>by
  rw[show _=[]from h]at r;cases r;exact fun u hu=>nomatch hu
 |d'::ds,_,us,r,f,h,hh=>by
  obtain⟨y,t,rfl,h1,h2⟩:=h;cases r with
  |cons r1 r2=>
   rw[me,aN]at f;have hh':max (hgt d') (eP ds)<=30:=hh;cases y with
   |ref a=>
    cases r1;intro w hw;rcases aE.mp hw with rfl|hw
    ·rw[Iy I h1]
     exact I.Ax 30 A d' d _ x _ v h1 hd rfl rx (by omega) (by omega)
    ·exact yx I hd rx hu r2 f.2 h2 (by omega) w hw
   |_=>exact absurd (show false=true from f.1) ak
theorem op_inD(hu:X.A.units+40<cLine):OpR X (cR .In) (rInD X.K false):=by
 intro pins s σ H x y v u Q I rx ry h;obtain⟨p,xs,ds,d,rfl,hq,f,hd,hs,hh,q⟩:=h;cases ry;obtain⟨its,r,pl,hz⟩:=I.list hq;refine SeqAt.in_listAt (eqW X.K H d) pl.isList (fun w hw=>yx I hd rx (by show X.A.units+1+31<cLine;omega) r f hs hh w (by simpa using hw)) ⟨.bl _,H,I,rfl,?_⟩;rw[show its.toArray.any (eqW X.K H d)=its.any (eqW X.K H d) by simp,yY I r f hs];exact q
theorem EK(hu:X.A.units+40<cLine):OpR X (cR .NotIn) (rInD X.K true):=by
 intro pins s σ H x y v u Q I rx ry h;obtain⟨p,xs,ds,d,rfl,hq,f,hd,hs,hh,q⟩:=h;cases ry;obtain⟨its,r,pl,hz⟩:=I.list hq;refine Jp (eqW X.K H d) pl.isList (fun w hw=>yx I hd rx (by show X.A.units+1+31<cLine;omega) r f hs hh w (by simpa using hw)) ⟨.bl _,H,I,rfl,?_⟩;rw[show its.toArray.any (eqW X.K H d)=its.any (eqW X.K H d) by simp,yY I r f hs];exact q
end
section
variable {X:Cx}{e:Expr}{te:TE}{pos p2 p3 p4:Pos}{cd:Nat}
noncomputable def tRev(K:ah)(te:TE):TE:=fun σ H Q=>te σ H fun x H1=>∃a xs,x=.ref a/\SqL K H1 a xs/\∀p,H1 p=none->Q (.ref p) (upd H1 p (.lst xs.reverse))
end
end L2
namespace Q
open PySem PySem.Spec PySem.W PyProof.Rows L2
noncomputable def ltI(ns:List Int)(i j:Nat):Bool:=decide (ns.getD i 0<ns.getD j 0)
noncomputable def BI(ns:List Int):List Nat:=if ns.length<2 then aw ns.length else(run (ltI ns) (di ns.length)).toList
noncomputable def sortI(ns:List Int):List V:=(BI ns).map fun i=>(ns.map V.int).getD i .non
theorem totI(nd:ns.Nodup):Tot (ltI ns) ns.length where
 tri:=fun i j hi hj h=>by
  have hne:ns.getD i 0≠ns.getD j 0:=fun e=>by
   rw[ae,ae,aa hi,aa hj]at e;exact h ((dO nd).mp e)
  unfold ltI;by_cases a:ns.getD i 0<ns.getD j 0
  ·rw[decide_eq_true a,decide_eq_false (by omega)];rfl
  ·rw[decide_eq_false a,decide_eq_true (by omega)];rfl
 tr:=fun i j k hi hj hk a b=>by
  unfold ltI at a b⊢;have a:=of_decide_eq_true a;have b:=of_decide_eq_true b;exact decide_eq_true (by omega)
theorem Hk(nd:ns.Nodup):(BI ns).length=ns.length:=by
 unfold BI;split
 ·simp
 ·rw[ck,(eU (totI nd) (by omega)).1.size]
theorem outI(nd:ns.Nodup)(r:bD (ns.map V.int) vs):bD (sortI ns) (fZ (ltI ns) vs):=by
 have hlen:=r.length;rw[ai]at hlen;have e:vs.length=ns.length:=by omega
 unfold fZ sortI BI;rw[e];by_cases c:ns.length<2
 ·rw[if_pos c,if_pos c]
  have e2:(aw ns.length).map (fun i=>(ns.map V.int).getD i V.non)=ns.map V.int:=by
   apply bg
   ·simp
   ·intro i h1 h2
    have h3:i<ns.length:=by simpa using h2
    simp[h3]
  rw[e2];exact r
 ·rw[if_neg c,if_neg c]
  have P:=(eU (totI nd) (by omega)).1;have all:∀l:List Nat,(∀i∈l,i<ns.length)->bD (l.map fun i=>(ns.map V.int).getD i V.non) (l.map fun i=>vs.getD i bz):=by
   intro l
   induction l with
   |nil=>exact fun _=>.nil
   |cons i l ih=>
    intro h;have hi:i<(ns.map V.int).length:=by rw[ai];exact h i (.head _)
    obtain⟨u,hu,ru⟩:=r.get (aa hi);refine .cons ?_ (ih fun j hj=>h j (.tail _ hj));show L2.RelV ((ns.map V.int).getD i V.non) (vs.getD i bz);rw[ae,aa hi,ae,hu];exact ru
  refine all _ fun i hi=>?_;have m:i∈(aw ns.length).toArray:=P.perm.mem_iff.mp (jm.mp hi);simpa using m
theorem int_at(r:bW vs ns)(hi:i<ns.length):∃t,vs.getD i .none=.int (ns.getD i 0) t:=by
 induction r generalizing i with
 |nil=>exact absurd hi (c5 _)
 |cons y t h ih=>
  cases i with
  |zero=>exact⟨t,rfl⟩
  |succ i=>exact ih (by simpa using hi)
theorem Ia(r:bW vs ns):vs.length=ns.length:=by
 induction r with
 |nil=>rfl
 |cons y t h ih=>simp[ih]
theorem Fu(r:bW vs ns)(h2:2<=vs.length):Fv prog w A (ltI ns) vs h0:=by
 intro s1 _;refine⟨oneType',fun Q' E' q=>?_,fun i j C hi hj _ q=>?_⟩
 ·match vs,r,h2 with
  |v1::v2::rest,r,_=>
   rw[keyKind_ints r];exact aj q
 ·rw[Ia r]at hi hj
  obtain⟨t,e1⟩:=int_at r hi;obtain⟨u,e2⟩:=int_at r hj;unfold kas_ask;rw[e1,e2,keyLt'_oneType];exact oneLt_int q
noncomputable def rSortI(K:ah):List V->Hp->VK->Prop:=fun xs H Q=>∃p ns,xs=[V.ref p]/\SqL K H p (ns.map V.int)/\ns.length<64/\ns.Nodup/\∀l,H l=none->Q (.ref l) (upd H l (.lst (sortI ns)))
end Q
namespace L2
open PySem PySem.Spec PyProof.Rows
section
variable {X:Cx}
noncomputable def nats(n:Nat):List V:=(aw n).map fun i:Nat=>V.int (i:Int)
noncomputable def tLRng(ta:TA):TE:=fun σ H Q=>ta σ H fun vs H1=>∃n:Nat,vs=[.int n]/\n<=1000/\∀p,H1 p=none->Q (.ref p) (upd H1 p (.lst (nats n)))
end
section
variable {X:Cx}
noncomputable def leP(a b c d:Int):Bool:=decide (a<c\/a=c/\b<=d)
noncomputable def rLeP(K:ah):R2:=fun x y H Q=>∃p q a b c d,x=.ref p/\y=.ref q/\SqT K H p [.int a,.int b]/\SqT K H q [.int c,.int d]/\Q (.bl (leP a b c d)) H
noncomputable def rIndex:V->List V->Hp->VK->Prop:=fun x vs H Q=>∃(l:Addr)(ns:List Int)(k:Int),x=.ref l/\vs=[.int k]/\H l=some (.lst (ns.map V.int))/\k∈ns/\ns.length<=60/\Q (.int (ns.idxOf k:Nat)) H
end
end L2
namespace Q
open PySem PySem.Spec PySem.W PyProof.Rows L2
noncomputable def plt(x y:Int×Int):Bool:=decide (x.1<y.1\/x.1=y.1/\x.2<y.2)
noncomputable def ltP(ps:List (Int×Int))(i j:Nat):Bool:=plt (ps.getD i (0,0)) (ps.getD j (0,0))
noncomputable def ordP(ps:List (Int×Int)):List Nat:=if ps.length<2 then aw ps.length else(run (ltP ps) (di ps.length)).toList
noncomputable def sortP{α:Type}(d:α)(ps:List (Int×Int))(ys:List α):List α:=(ordP ps).map fun i=>ys.getD i d
def Je(H:Hp)(ys:List V)(ps:List (Int×Int)):Prop:=Paired (fun v k=>∃a,v=V.ref a/\H a=some (.tup [.int k.1,.int k.2])) ys ps
noncomputable def rSortP(K:ah):List V->Hp->VK->Prop:=fun xs H Q=>∃p ys ps,xs=[V.ref p]/\SqL K H p ys/\ps.length<64/\ps.Nodup/\Je H ys ps/\∀l,H l=none->Q (.ref l) (upd H l (.lst (sortP .non ps ys)))
end Q
namespace D8
open PySem PySem.Spec PySem.W PyProof.Rows L2
noncomputable abbrev four:List (Int×Int):=[(0,0),(0,1),(1,0),(1,1)]
def Prs(H:Hp)(as:List Addr)(ps:List (Int×Int)):Prop:=as.length=ps.length/\∀(i:Nat) a q,as[i]? =some a->ps[i]? =some q->H a=some (.tup [.int q.1,.int q.2])
noncomputable def rSetP(K:ah):List V->Hp->VK->Prop:=fun xs H Q=>∃p as ps,xs=[V.ref p]/\SqL K H p (as.map V.ref)/\Prs H as ps/\(∀q∈ps,q∈four)/\∀a (ks:List (Int×Int)),H a=none->ks.Nodup->(∀r,r∈ks↔r∈ps)->Q (.ref a) (upd H a (_root_.Q.zD a ks.length))
end D8
namespace L2
open PySem PySem.Spec PyProof.Rows
section
variable {X:Cx}
def CDivB(_ j:Int):Prop:=0<j/\j.natAbs.log2<9000
noncomputable def rDivB:R2:=rI CDivB fun i j=>.int (i/j)
noncomputable def rInsert:V->List V->Hp->VK->Prop:=fun x vs H Q=>∃l xs k y,x=.ref l/\vs=[.int k,y]/\H l=some (.lst xs)/\xs.length<sizeLine/\0<=k/\k<=xs.length/\Q .non (upd H l (.lst (xs.take k.toNat++y::xs.drop k.toNat)))
end
section
variable {X:Cx}
noncomputable def rSplit:V->List V->Hp->VK->Prop:=fun x vs H Q=>∃z y:Str,x=.str z/\vs=[.str y]/\(y.length==0)=false/\z.length+2<=sizeLine/\∀p,H p=none->Q (.ref p) (upd H p (.lst ((Txt.split z y).map V.str)))
end
noncomputable def Itz(K:ah)(a b:Addr):It:=
 ⟨fun i H=>∃xs ys x y,SqL K H a xs/\SqL K H b ys/\xs[i]? =some x/\ys[i]? =some y,
  fun i H v H'=>∃p x y,H p=none/\H'=upd H p (.tup [x,y])/\v=.ref p/\(∀xs,SqL K H a xs->xs[i]? =some x)/\∀ys,SqL K H b ys->ys[i]? =some y,
  fun i H=>∃xs ys,SqL K H a xs/\SqL K H b ys/\(xs.length<=i\/ys.length<=i)⟩
section
variable {X:Cx}{es:List Expr}{kk:Nat}{pp:Pos}
noncomputable def iZip(K:ah)(t:TA):TI:=fun σ H R=>t σ H fun vs H1=>∃a b,vs=[.ref a,.ref b]/\(∃xs,SqL K H1 a xs)/\(∃ys,SqL K H1 b ys)/\R (Itz K a b) H1
end
def DkIn(P:Program)(w:World)(K:ah)(a:Addr)(kvs:List (Key×V)):Prop:=
 (a==fX)=false/\∃vs,KV kvs vs/\∀h,K.In h->h.DictOf (cn P w) a vs
section
variable {X:Cx}{dic:Addr->Option (List (Key×V))}
noncomputable def rInG(dic:Addr->Option (List (Key×V))):R2:=fun x y H Q=>∃a kvs k,y=.ref a/\dic a=some kvs/\x=kV k/\Q (.bl (d0 kvs k).isSome) H
noncomputable def rIxG(dic:Addr->Option (List (Key×V))):R2:=fun x y H Q=>∃a kvs k v,x=.ref a/\dic a=some kvs/\y=kV k/\d0 kvs k=some v/\Q v H
end
noncomputable def fText(pre post:Str)(i:Int):Str:=Str.empty++pre++(toString i:Str)++post
noncomputable def tFst(pre post:Str)(t:TE):TE:=fun σ H Q=>(Str.empty++pre).length<=sizeLine/\t σ H fun x H1=>∃i,x=.int i/\i.natAbs.log2<1920/\(fText pre post i).length<=sizeLine/\Q (.str (fText pre post i)) H1
end L2
namespace PySem
section
variable {prog:Program}{w:World}{A:Around}{E:Value->Shared->Prop}{s:Shared}
theorem Hn{j t:Addr}{xs:Array Value}{v:Value}{Q:Value->Shared->Prop}(hj:s.heap.IsTupleIter j t k)(ht:s.heap.IsTuple t xs)(hv:xs[k]? =some v)
  (q:∀h',h'.IsTupleIter j t (k+1)->dq j s.heap h'->Q v {s with heap:=h'}):wpAny (model prog w) A (fC (.ref j)) Q E s:=by
 obtain⟨o,e1,e2,e3⟩:=id hj;obtain⟨p,f1,_,n,f3⟩:=ht;unfold fC;refine af (d9 (name:=bX "__next__") hj.typeIs gR (cM gR hj.typeIs Bd ?_ (A2 _)));show wpAny _ _ (field (.ref j) 0>>=_) _ _ s;refine af (gW e1 e3 (x:=.ref t) rfl ?_);show wpAny _ _ (if(cD t==bz)=true then _ else _) _ _ s;rw[if_neg (fun z:(cD t==bz)=true=>absurd z ak)];show wpAny _ _ (field (.ref j) 1>>=_) _ _ s;refine af (gW e1 e3 (x:=.int k 0) rfl ?_);show wpAny _ _ (tV (.ref t)>>=_) _ _ s;refine af (fJ f1 f3 ?_);simp only[aH,hv];refine af (td e1 e3 (by simp) (aj ⟨v,rfl,aj (q _ ?_ (bI ..))⟩));exact⟨_,cj _ e1 (pL (iC e3 _)),(Obj.cls_mapFields ..).trans e2,by rw[iC e3];simp[rawInt]⟩
theorem C9{j t:Addr}{xs:Array Value}{Q:Value->Shared->Prop}(hh:A.handled=none)(hj:s.heap.IsTupleIter j t k)(ht:s.heap.IsTuple t xs)(hv:xs[k]? =none)
  (q:∀h' e,Heap.ExtBut j s.heap h'->(∃o,h'.get? e=some o/\o.cls=.type "StopIteration")->E (.ref e) {s with heap:=h'}):wpAny (model prog w) A (fC (.ref j)) Q E s:=by
 obtain⟨o,e1,e2,e3⟩:=id hj;obtain⟨p,f1,_,n,f3⟩:=ht;unfold fC;refine af (d9 (name:=bX "__next__") hj.typeIs gR (cM gR hj.typeIs Bd ?_ (A2 _)));show wpAny _ _ (field (.ref j) 0>>=_) _ _ s;refine af (gW e1 e3 (x:=.ref t) rfl ?_);show wpAny _ _ (if(cD t==bz)=true then _ else _) _ _ s;rw[if_neg (fun z:(cD t==bz)=true=>absurd z ak)];show wpAny _ _ (field (.ref j) 1>>=_) _ _ s;refine af (gW e1 e3 (x:=.int k 0) rfl ?_);show wpAny _ _ (tV (.ref t)>>=_) _ _ s;refine af (fJ f1 f3 ?_);simp only[aH,hv];refine af (gV (af (td e1 e3 (by simp) ?_)));show wpAny _ _ (newExc (.type "StopIteration") []>>=_) _ _ _;refine af ?_;simp only[newExc,newTuple];refine af (bV ?_ (by size_fits));refine af (m:=tw _ _) (tf (a:=bz) (by first |rfl| (simp only[tw];rfl)) ?_);refine bV ?_ (by size_fits);simp only[FA];refine af (wpAny_handled ?_);first |rw[show A.in1.handled=none from hh] |rw[hh]
 refine af (aj (wpAny_throw ?_));exact q _ _ (((bI ..).extBut.push _).push _) ⟨_,az _ rfl,rfl⟩
end
end PySem
namespace L2
open PySem PySem.Spec PyProof.Rows
noncomputable def Itzt(K:ah)(a b:Addr):It:=
 ⟨fun i H=>∃xs ys x y,SqT K H a xs/\SqL K H b ys/\xs[i]? =some x/\ys[i]? =some y,
  fun i H v H'=>∃p x y,H p=none/\H'=upd H p (.tup [x,y])/\v=.ref p/\(∀xs,SqT K H a xs->xs[i]? =some x)/\∀ys,SqL K H b ys->ys[i]? =some y,
  fun i H=>∃xs,SqT K H a xs/\xs.length<=i⟩
theorem tup_ne{its:Array Value}{o:Obj}(hl:h.IsTuple a its)(hc:h.get? c=some o)(hk:o.cls≠.type "tuple"):a≠c:=by
 obtain⟨o',e,k,_⟩:=hl;rintro rfl;rw[e]at hc;cases hc;exact hk k
section
variable {X:Cx}{es:List Expr}{kk:Nat}{pp:Pos}
noncomputable def iZipT(K:ah)(t:TA):TI:=fun σ H R=>t σ H fun vs H1=>∃a b,vs=[.ref a,.ref b]/\(∃xs,SqT K H1 a xs)/\(∃ys,SqL K H1 b ys)/\R (Itzt K a b) H1
end
end L2
namespace PySem
open Sem (wp)
local macro_rules | `(term| «the numeral») => return Lean.mkIdent (cf (cf (cf (Lean.Name.num (cf (cf (cf (cf (cf Bc "_private") "PySem") "Builtin") "Int") "W0All") 0) "PySem") "Builtin") "readNumeral")
local macro_rules | `(term| «a value») => return Lean.mkIdent (cf (cf (cf (cf (Lean.Name.num (cf (cf (cf (cf (cf Bc "_private") "PySem") "Builtin") "Int") "W0All") 0) "PySem") "Builtin") "Numeral") "value")
end PySem
namespace L2
open PySem PySem.Spec PyProof.Rows
inductive Fig:Str->Int->Prop
 |one {a:Nat} (h:a<10):Fig ⟨#[48+a]⟩ (a:Nat)
 |two {a b:Nat} (ha:a<10) (hb:b<10):Fig ⟨#[48+a,48+b]⟩ (10*a+b:Nat)
section
variable {X:Cx}{dic:Addr->Option (List (Key×V))}
noncomputable def upS(z:Str):Str:=⟨placed z fun _ c=>Unicode.upperOf c⟩
noncomputable def rUpper:V->List V->Hp->VK->Prop:=fun x vs H Q=>∃z:Str,x=.str z/\vs=[]/\(upS z).length<=100/\Q (.str (upS z)) H
noncomputable def rNiG(dic:Addr->Option (List (Key×V))):R2:=fun x y H Q=>∃a kvs k,y=.ref a/\dic a=some kvs/\x=kV k/\Q (.bl (!(d0 kvs k).isSome)) H
end
end L2
namespace Q
open PySem PySem.Spec PySem.W PyProof.Rows L2
noncomputable def llt:List Int->List Int->Bool
 | [],[]=>false
 | [],_::_=>true
 |_::_,[]=>false
 |a::x,b::y=>decide (a<b)||(decide (a=b)&&llt x y)
theorem rM:∀{x y z:List Int},llt x y=true->llt y z=true->llt x z=true
 | [],[],_,h,_=>nomatch h
 | [],_::_,[],_,h=>nomatch h
 | [],_::_,_::_,_,_=>rfl
 |_::_,[],_,h,_=>nomatch h
 |_::_,_::_,[],_,h=>nomatch h
 |a::x,b::y,c::z,h,k=>by
  simp only[llt,cw,aN,decide_eq_true_eq]at h k⊢;rcases h with h|⟨rfl,h⟩
  ·rcases k with k|⟨rfl,k⟩
   ·exact .inl (by omega)
   ·exact .inl h
  ·rcases k with k|⟨rfl,k⟩
   ·exact .inl k
   ·exact .inr ⟨rfl,rM h k⟩
theorem iK:∀{x y:List Int},x≠y->llt x y= !llt y x
 | [],[],h=>absurd rfl h
 | [],_::_,_=>rfl
 |_::_,[],_=>rfl
 |a::x,b::y,h=>by
  by_cases e:a=b
  ·subst e
   have :=iK (x:=x) (y:=y) fun z=>h (by rw[z])
   simp[llt,this]
  ·by_cases c:a<b
   ·have :¬b<a:=by omega
    simp[llt,c,this,e,bQ e]
   ·have :b<a:=by omega
    simp[llt,c,this,e,bQ e]
noncomputable def ltL(ps:List (List Int))(i j:Nat):Bool:=llt (ps.getD i []) (ps.getD j [])
noncomputable def uI(ps:List (List Int)):List Nat:=if ps.length<2 then aw ps.length else(run (ltL ps) (di ps.length)).toList
noncomputable def cg{α:Type}(d:α)(ps:List (List Int))(ys:List α):List α:=(uI ps).map fun i=>ys.getD i d
theorem neL(nd:ps.Nodup)(hi:i<ps.length)(hj:j<ps.length)(h:i≠j):ps.getD i []≠ps.getD j []:=fun e=>by
 rw[ae,ae,aa hi,aa hj]at e;exact h ((dO nd).mp e)
theorem Ej(nd:ps.Nodup):Tot (ltL ps) ps.length where
 tri:=fun i j hi hj h=>iK (neL nd hi hj h)
 tr:=fun i j k _ _ _ a b=>rM a b
theorem kJ(nd:ps.Nodup):(uI ps).Perm (aw ps.length):=by
 unfold uI;split
 ·exact dN _
 ·have P:=(eU (Ej nd) (by omega)).1
  have :=eE.mp P.perm
  simpa using this
theorem wU(nd:ps.Nodup)(hl:ps.length=ys.length)(r:bD ys vs):bD (cg .non ps ys) (fZ (ltL ps) vs):=by
 have hlen:=r.length;have e:vs.length=ps.length:=by omega
 unfold fZ cg uI;rw[e];by_cases c:ps.length<2
 ·rw[if_pos c,if_pos c]
  have e2:(aw ps.length).map (fun i=>ys.getD i V.non)=ys:=by
   rw[hl];apply bg
   ·simp
   ·intro i h1 h2
    simp[h2]
  rw[e2];exact r
 ·rw[if_neg c,if_neg c]
  have P:=(eU (Ej nd) (by omega)).1;have all:∀l:List Nat,(∀i∈l,i<ps.length)->bD (l.map fun i=>ys.getD i V.non) (l.map fun i=>vs.getD i bz):=by
   intro l
   induction l with
   |nil=>exact fun _=>.nil
   |cons i l ih=>
    intro h;have hi:i<ys.length:=by have :=h i (.head _);omega
    obtain⟨u,hu,ru⟩:=r.get (aa hi);refine .cons ?_ (ih fun j hj=>h j (.tail _ hj));show L2.RelV (ys.getD i V.non) (vs.getD i bz);rw[ae,aa hi,ae,hu];exact ru
  refine all _ fun i hi=>?_;have m:i∈(aw ps.length).toArray:=P.perm.mem_iff.mp (jm.mp hi);simpa using m
def rZ(h:Heap)(vs:List Value)(ps:List (List Int)):Prop:=Paired (fun v k=>∃a o its n,v=.ref a/\h.get? a=some o/\o.cls=.type "tuple"/\o.data=.seq its n/\bW its.toList k) vs ps
theorem gE(r:rZ h vs ps)(hi:i<vs.length):∃a o its n,vs.getD i .none=.ref a/\h.get? a=some o/\o.data=.seq its n/\bW its.toList (ps.getD i []):=by
 unfold rZ at r
 induction r generalizing i with
 |nil=>exact absurd hi (c5 _)
 |cons y t ih=>
  cases i with
  |zero=>
   obtain⟨a,o,its,n,e1,e2,e3,e4,e5⟩:=y;exact⟨a,o,its,n,e1,e2,e4,e5⟩
  |succ i=>exact ih (by simpa using hi)
theorem Ib(kp:∀b o,h.get? b=some o->h1.get? b=some o)(r:rZ h vs ps)(hp:∀k∈ps,k≠[]):∃fs,KatTups h1 vs fs/\fs.length=vs.length/\∀v∈fs,∃x t,v=vG x t:=by
 unfold rZ at r
 induction r with
 |nil=>exact⟨[],.nil,rfl,fun v hv=>nomatch hv⟩
 | @cons v k vs ps y t ih=>
  obtain⟨fs,a1,a2,a3⟩:=ih fun k hk=>hp k (aM _ hk);obtain⟨a,o,its,n,rfl,e2,e3,e4,e5⟩:=y;have hk:=hp k aG;obtain⟨l⟩:=its;cases l with
  |nil=>
   cases e5;exact absurd rfl hk
  |cons u l=>
   cases e5 with
   |cons x t h=>
    refine⟨_::fs,.cons (kp _ _ e2) e3 e4 rfl a1,by simp[a2],fun v hv=>?_⟩;rcases aE.mp hv with rfl|hv
    ·exact⟨_,_,rfl⟩
    ·exact a3 v hv
theorem HG{b fin:Bool}{C:Bool->Shared->Prop}{xs ys:List Value}{x y:List Int}(i:Nat)(hx:bW xs x)(hy:bW ys y)(hl:x.length=y.length)(h:x≠y)(q:C (llt x y) s):KatLex prog w A b fin C (xs.zip ys) (i+1) s:=by
 induction hx generalizing ys y i with
 |nil=>cases hy with
  |nil=>exact absurd rfl h
  |cons=>simp at hl
 |cons a t hx ih=>cases hy with
  |nil=>simp at hl
  |cons c u hy=>
   refine kat_cons (pH ?_);by_cases e:a=c
   ·subst e
    rw[show(a==a)=true by simp];refine kat_yes (ih (i+1) hy (by simpa using hl) (fun z=>h (by rw[z])) ?_);simp[llt]at q;exact q
   ·rw[show(a==c)=false by simpa using e]
    refine kat_no ?_;rw[show(b&&(i+1==0))=false by simp];refine kat_one _ _ (lt_int ?_);simp[llt,e]at q;exact q
theorem yW(nd:ps.Nodup)(hl:vs.length=ps.length)(r:rZ h0 vs ps)(h2:2<=vs.length)(hm:∀k∈ps,k.length=m):Fv prog w A (ltL ps) vs h0:=by
 have hm0:m≠0:=fun z=>by
  have e:∀i,i<ps.length->ps.getD i []=[]:=fun i hi=>by
   rw[ae,aa hi];exact a8.mp ((hm _ (a9 hi)).trans z)
  exact neL nd (i:=0) (j:=1) (by omega) (by omega) (by decide) ((e 0 (by omega)).trans (e 1 (by omega)).symm)
 intro s1 kp;refine⟨tuples' true,fun Q' E' q=>?_,fun i j C hi hj hij q=>?_⟩
 ·obtain⟨fs,a1,a2,a3⟩:=Ib kp r fun k hk z=>hm0 (by rw[<-hm k hk,z];rfl)
  refine kat_kind (T:=.type "int") a1 (by omega) (fun v hv=>?_) rfl q;obtain⟨x,t,rfl⟩:=a3 v hv;exact Looks.of_pure rfl
 ·obtain⟨a,o,its,n,e1,e2,e3,e4⟩:=gE r hi
  obtain⟨b,o',its',n',f1,f2,f3,f4⟩:=gE r hj;have hne:=neL nd (hl▸hi) (hl▸hj) hij;have l1:(ps.getD i []).length=m:=by rw[ae,aa (hl▸hi)];exact hm _ (a9 _)
  have l2:(ps.getD j []).length=m:=by rw[ae,aa (hl▸hj)];exact hm _ (a9 _)
  unfold kas_ask;unfold ltL at q;rw[e1,f1];generalize ps.getD i []=x at *;generalize ps.getD j []=y at *;refine kat_lt (kp _ _ e2) e3 (kp _ _ f2) f3 ?_;generalize its.toList=xs at *;generalize its'.toList=ys at *;cases e4 with
  |nil=>exact absurd l1.symm hm0
  | @cons c t xs x hx=>
   cases f4 with
   |nil=>exact absurd l2.symm hm0
   | @cons d u ys y hy=>
    refine kat_cons (pH ?_);by_cases e:c=d
    ·subst e
     rw[show(c==c)=true by simp];refine kat_yes (HG 0 hx hy (by simp at l1 l2;omega) (fun z=>hne (by rw[z])) ?_);simp[llt]at q;exact q
    ·rw[show(c==d)=false by simpa using e]
     refine kat_no (oneLt_int ?_);simp[llt,e]at q;exact q
def IntKeys(H:Hp)(ys:List V)(ps:List (List Int)):Prop:=Paired (fun v k=>∃a,v=V.ref a/\H a=some (.tup (k.map V.int))) ys ps
theorem Ai(h:IntKeys H ys ps):ps.length=ys.length:=by
 unfold IntKeys at h
 induction h with
 |nil=>rfl
 |cons _ _ ih=>simp[ih]
theorem yD(ok:HOk P w H h)(k:IntKeys H ys ps):bD ys vs->rZ h vs ps:=by
 unfold IntKeys at k
 induction k generalizing vs with
 |nil=>intro z;cases z;exact .nil
 |cons y t ih=>
  intro z;cases z with
  |cons r q=>
   obtain⟨a,rfl,e⟩:=y;cases r;obtain⟨_,its,rv,o,e1,e2,n,e3⟩:=ok a _ e;exact .cons ⟨a,o,its.toArray,n,rfl,e1,e2,e3,by simpa using intsAre_of rv⟩ (ih q)
noncomputable def GR(K:ah):List V->Hp->VK->Prop:=fun xs H Q=>∃p ys ps m,xs=[V.ref p]/\SqL K H p ys/\ps.length<64/\ps.Nodup/\(∀k∈ps,k.length=m)/\IntKeys H ys ps/\∀l,H l=none->Q (.ref l) (upd H l (.lst (cg .non ps ys)))
theorem yP:fz X (.builtin "sorted") (GR X.K):=by
 intro pins s σ H xs us Q I r h;obtain⟨p,ys,ps,m,rfl,hq,h64,nd,hm,hk,q⟩:=h;obtain⟨u,rfl,rx⟩:=vals1 r;cases rx;obtain⟨its,r',pl,hz⟩:=I.list hq;have hl:ps.length=ys.length:=Ai hk;have hlen:=r'.length;have hv:its.length=ps.length:=by omega
 refine wI (lt:=ltL ps) (vs:=its) (by rw[hv];exact Ej nd) pl.isList (by omega) (fun h2=>yW nd hv (yD I.hok hk r') h2 hm) ?_;obtain⟨c,hc⟩:=sortedAll_at s.heap its (fZ (ltL ps) its).toArray;have hz2:(cg V.non ps ys).length<=sizeLine:=by
  unfold cg;rw[ai,(kJ nd).length_eq,aO];omega
 exact⟨.ref (s.heap.objs.size+1),_,I.laid (t':=s.toks) (fun b o e=>sortedAll_old e) (eX _) (show dQ X.prog X.w _ _ _ (.lst (cg .non ps ys))from⟨hz2,_,c,wU nd hl r',hc⟩),rfl,q _ (I.hok.fresh (eX _))⟩
theorem uY:∀x:List Int,llt x x=false
 | []=>rfl
 |a::x=>by simp[llt,uY x]
theorem Dt{B:Builtin}{op:CmpOp}{f:List Int->List Int->Bool}(hB:(B=Builtin.«tuple.__lt__»/\op=.Lt/\f=llt)\/(B=Builtin.«tuple.__gt__»/\op=.Gt/\f=fun a b=>llt b a)){p q:Addr}{a b:List Int}{P:dM->Shared->Prop}(hx:IsTup s.heap p us.toArray)(hy:IsTup s.heap q vs.toArray)
  (ha:bW us a)(hb:bW vs b)(hl:a.length=b.length)
  (h:P (.done (.ret (.bool (f a b)))) s):wpAny (model prog w) A (B ⟨[.ref p,.ref q],[]⟩) P E s:=by
 have⟨g,ci,fc⟩:∃g:Int->Int->Bool,(∀{m n:Int}{t u:Nat}{s:Shared}{Q:Value->Shared->Prop},Q (.bool (g m n)) s->wpAny (model prog w) A (cR op (.int m t) (.int n u)) Q E s)/\∀{m n:Int}{x y:List Int},m≠n->f (m::x) (n::y)=g m n:=by
  rcases hB with⟨_,rfl,rfl⟩ |⟨_,rfl,rfl⟩
  ·exact⟨fun m n=>decide (m<n),fun q=>lt_int q,fun c=>by simp[llt,c]⟩
  ·exact⟨fun m n=>decide (n<m),fun q=>PyProof.Rows.gt_int q,fun c=>by simp[llt,bQ c]⟩
 rcases hB with⟨rfl,rfl,hf⟩ |⟨rfl,rfl,hf⟩
 all_goals
  show wpAny _ _ (isInstance (.ref q) (.type "tuple")>>=_) _ _ s;refine af (jP hy.typeIs isSubtype_tuple_tuple ?_);simp only[fU,aQ,if_false];refine af (tupleItemsOf_ hx ?_);refine af (tupleItemsOf_ hy ?_);refine af ?_;show wpAny _ _ (forIn (us.zip vs) _ _) _ _ s;refine wpAny_forIn_list _ (fun rest r s'=>r.1=none/\s'=s/\∃us' vs' a' b',rest=List.zip us' vs'/\us'.length=vs'.length/\bW us' a'/\bW vs' b'/\f a b=f a' b') _ ?_ ?_ _ _ ⟨rfl,rfl,us,vs,a,b,rfl,by rw[ha.length,hb.length,hl],ha,hb,rfl⟩
  ·rintro x rest ⟨r,_⟩ s' ⟨hr,rfl,us',vs',a',b',e,hl',ia,ib,hll⟩
   obtain rfl:r=none:=hr;cases ia with
   |nil=>cases e
   |cons m t ia=>
    cases ib with
    |nil=>cases hl'
    |cons n u ib=>
     rw[kB]at e;cases e;dsimp only;refine af (pH ?_);by_cases c:m=n
     ·rw[show(m==n)=true by simpa using c]
      simp only[fU,aQ,if_false];refine aj ⟨rfl,rfl,_,_,_,_,rfl,by simpa using hl',ia,ib,?_⟩;rw[hll];simp[hf,llt,c]
     ·rw[show(m==n)=false by simpa using c]
      simp only[Bool.not_false,if_true];rw[hll,fc c]at h;refine af (gV (af (ci (af (aj (aj ?_))))));exact aj h
  ·rintro⟨r,_⟩ s' ⟨hr,rfl,us',vs',a',b',e,hl',ia,ib,hll⟩
   obtain rfl:r=none:=hr;dsimp only;have e2:f a b=false:=by
    rw[hll];cases ia with
    |nil=>cases ib with
     |nil=>rw[hf];rfl
     |cons n u ib=>cases hl'
    |cons m t ia=>cases ib with
     |nil=>cases hl'
     |cons n u ib=>rw[kB]at e;cases e
   rw[e2]at h;have hz:us.toArray.size=vs.toArray.size:=by rw[au,au,ha.length,hb.length,hl]
   rw[hz];simp only[Builtin.Tuple.tupleCompareSizes,dk,decide_false];exact aj h
theorem Dm{p q:Addr}{a b:List Int}{P:dM->Shared->Prop}(hx:IsTup s.heap p us.toArray)(hy:IsTup s.heap q vs.toArray)
  (ha:bW us a)(hb:bW vs b)(hl:a.length=b.length)
  (h:P (.done (.ret (.bool (llt a b)))) s):wpAny (model prog w) A (Builtin.«tuple.__lt__» ⟨[.ref p,.ref q],[]⟩) P E s:=Dt (.inl ⟨rfl,rfl,rfl⟩) hx hy ha hb hl h
theorem gt_tree{p q:Addr}{a b:List Int}{P:dM->Shared->Prop}(hx:IsTup s.heap p us.toArray)(hy:IsTup s.heap q vs.toArray)
  (ha:bW us a)(hb:bW vs b)(hl:a.length=b.length)
  (h:P (.done (.ret (.bool (llt b a)))) s):wpAny (model prog w) A (Builtin.«tuple.__gt__» ⟨[.ref p,.ref q],[]⟩) P E s:=Dt (f:=fun a b=>llt b a) (.inr ⟨rfl,rfl,rfl⟩) hx hy ha hb hl h
section
variable {prog:Program}{w:World}{A:Around}{I:Addr}{fp wr:List Addr}{G:Array pM->Array pM->Prop}{P:Nat->Value->Prop}{St:Nat->Shared->Prop}{R:Result->Shared->Prop}
theorem HB{N:String}{B:Builtin}{op:CmpOp}(en:FC table N=some B)(pl:plainId N=true)(hB:(N="min.loop"/\B=Builtin.«min.loop»/\op=.Lt)\/(N="max.loop"/\B=Builtin.«max.loop»/\op=.Gt))(W:WalksS prog w A.in1 I fp wr G 2 P St)(hSf:S∉fp){v0 v1:Value}(h0:∀v,P 0 v->v=v0)(h1:∀v,P 1 v->v=v1){c:Nat}{bt:Bool}(hst:St 0 s)
  (hS:s.heap.get? S=some {cls:=.type "list",dict:=none,data:=.seq #[] c,slots:= #[]})
  (hcmp:∀(s':Shared)(Q:Value->Shared->Prop)(E:Value->Shared->Prop),Moved (S::wr) G s s'->Q (.bool bt) s'->wpAny (model prog w) A.in1 (richCompare op v1 v0) Q E s')
  (hR:∀s',Moved (S::wr) G s s'->R (.ok (.ret (if bt=true then v1 else v0))) s'):iO (model prog w) A (.builtin N ⟨[.ref I,.none,.ref S],[]⟩) R s:=by
 have hSw:S∉wr:=fun h=>hSf (W.sub _ h);have up:∀b∈wr,b∈S::wr:=fun b hb=>aM _ hb;have nm:(toString "min"++toString ".loop":String)="min.loop":=by decide
 have nM:(toString "max"++toString ".loop":String)="max.loop":=by decide
 have ns:∀{b:Addr},b∉S::wr->S≠b:=fun hb h=>hb (by rw[h];exact aG)
 --the last turn
 have last:∀(s1:Shared)(x:Value)(d:Nat),St 2 s1->s1.heap.get? S=some {cls:=.type "list",dict:=none,data:=.seq #[x,x] d,slots:= #[]}->Moved (S::wr) G s s1->x=(if bt=true then v1 else v0)->
   iO (model prog w) A (.builtin N ⟨[.ref I,.none,.ref S],[]⟩) R s1:=by
  intro s1 x d st g mv ex;refine eh en ?_;rw[c6 pl _];rcases hB with⟨rfl,rfl,rfl⟩ |⟨rfl,rfl,rfl⟩
  all_goals
   show wpAny _ A.in1 (tV (.ref S)>>=_) _ _ s1;refine af (fJ g rfl ?_);show wpAny _ A.in1 (tryCatch (pyNext (.ref I)) _>>=_) _ _ s1;refine af (sZ (W.done s1 _ _ st fun s' hm=>?_));have g':=hm.heap S _ hSw g;show wpAny _ A.in1 (updateSeq S (fun _=> #[])>>=_) _ _ _;refine af (qW g' rfl (af (km (aj ?_))));rw[ex];exact hR _ (FK W.gtrans mv ((hm.mono up).then_heap (tk:=s'.toks) (aB _) fun b o hb e=>(aT _ _ (ns hb)).trans e))
 --the second
 have second:∀(s1:Shared)(d:Nat),St 1 s1->s1.heap.get? S=some {cls:=.type "list",dict:=none,data:=.seq #[v0,v0] d,slots:= #[]}->Moved (S::wr) G s s1->
   iO (model prog w) A (.builtin N ⟨[.ref I,.none,.ref S],[]⟩) R s1:=by
  intro s1 d st g mv;refine eh en ?_;rw[c6 pl _];rcases hB with⟨rfl,rfl,rfl⟩ |⟨rfl,rfl,rfl⟩
  all_goals
   show wpAny _ A.in1 (tV (.ref S)>>=_) _ _ s1;refine af (fJ g rfl ?_);show wpAny _ A.in1 (tryCatch (pyNext (.ref I)) _>>=_) _ _ s1;refine af (sZ (W.item 1 s1 _ _ (by decide) st fun v s' hP st' hm=>?_));obtain rfl:=h1 v hP;have g':=hm.heap S _ hSw g;have mv':=FK W.gtrans mv (hm.mono up);show wpAny _ A.in1 (tryCatch (holding [v,v] (richCompare _ v v0>>=_)) _>>=_) _ _ _;refine af (sZ (b8 (af (hcmp _ _ _ mv' ?_))));refine af (b8 (cY ?_));refine af (km (aj ?_));cases hb:bt with
   |true=>
    simp only[if_true];refine af (qW g' rfl (af (km ?_)))
    first |rw[nm] |rw[nM]
    refine aj ⟨eM pl _,last _ v _ (W.frame _ s' _ s'.toks st' (aB _) fun b hbf o e=>?_) (cj _ g' rfl) (mv'.then_heap (aB _) fun b o hb e=>(aT _ _ (ns hb)).trans e) (by rw[hb];rfl)⟩;exact(aT _ _ (fun h:S=b=>hSf (by rw[h];exact hbf))).trans e
   |false=>
    simp only[aQ,if_false];refine af (km ?_)
    first |rw[nm] |rw[nM]
    exact aj ⟨eM pl _,last _ v0 _ st' g' mv' (by rw[hb];rfl)⟩
 refine eh en ?_;rw[c6 pl _];rcases hB with⟨rfl,rfl,rfl⟩ |⟨rfl,rfl,rfl⟩
 all_goals
  show wpAny _ A.in1 (tV (.ref S)>>=_) _ _ s;refine af (fJ hS rfl ?_);show wpAny _ A.in1 (tryCatch (pyNext (.ref I)) _>>=_) _ _ s;refine af (sZ (W.item 0 s _ _ (by decide) hst fun v s' hP st' hm=>?_));obtain rfl:=h0 v hP;have g':=hm.heap S _ hSw hS;show wpAny _ A.in1 (updateSeq S (fun _=> #[v,v])>>=_) _ _ _;refine af (qW g' rfl ?_)
  first |rw[nm] |rw[nM]
  refine aj ⟨eM pl _,second _ _ (W.frame _ s' _ s'.toks st' (aB _) fun b hbf o e=>?_) (cj _ g' rfl) ((hm.mono up).then_heap (aB _) fun b o hb e=>(aT _ _ (ns hb)).trans e)⟩;exact(aT _ _ (fun h:S=b=>hSf (by rw[h];exact hbf))).trans e
theorem mm_go{N:String}{B:Builtin}{op:CmpOp}(en:FC table N=some B)(pl:plainId N=true)(hB:(N="min.loop"/\B=Builtin.«min.loop»/\op=.Lt)\/(N="max.loop"/\B=Builtin.«max.loop»/\op=.Gt))(hh:A.handled=none){p q:Addr}{bt:Bool}
  (hcmp:∀(s':Shared)(Q:Value->Shared->Prop)(E:Value->Shared->Prop),(∀c o,s.heap.get? c=some o->s'.heap.get? c=some o)->Q (.bool bt) s'->wpAny (model prog w) A.in1 (richCompare op (.ref q) (.ref p)) Q E s')
  (h:∀h' tk,(∀c o,s.heap.get? c=some o->h'.get? c=some o)->R (.ok (.ret (if bt=true then .ref q else .ref p))) {s with heap:=h',toks:=tk}) (en':n=s.heap.objs.size+1) (em:m=s.heap.objs.size+2):
  iO (model prog w) A (.builtin N ⟨[.ref n,.none,.ref m],[]⟩) R {s with heap:=((s.heap.push {cls:=.type "tuple",data:=.seq #[.ref p,.ref q]}).push {cls:=.type "tuple_iterator",data:=.fields #[.ref s.heap.objs.size,.int 0 0]}).push {cls:=.type "list",data:=.seq #[]}}:=by
 have hT:(s.heap.push {cls:=.type "tuple",data:=.seq #[.ref p,.ref q]}).IsTuple s.heap.objs.size #[.ref p,.ref q]:=⟨_,az _ rfl,rfl,0,rfl⟩;have hsz:(s.heap.push {cls:=.type "tuple",data:=.seq #[.ref p,.ref q]}).objs.size=s.heap.objs.size+1:=bw ..;have hz2:∀o o':Obj,((s.heap.push o).push o').objs.size=s.heap.objs.size+2:=fun o o'=>by rw[bw,bw]
 rw[en',em];have old:∀{G:Array pM->Array pM->Prop}{o1 o2 o3:Obj}{s':Shared},Moved [s.heap.objs.size+2,s.heap.objs.size+1] G {s with heap:=((s.heap.push o1).push o2).push o3} s'->∀c o,s.heap.get? c=some o->s'.heap.get? c=some o:=fun mv c o e=>by
  have hlt:=aA e;refine mv.heap c o (fun hm=>?_) (ag _ (ag _ (ag _ e)));simp only[aE,cJ,or_false]at hm;rcases hm with e|e<;>exact absurd hlt (by rw[e];exact Nat.not_lt.mpr (wz _ _))
 refine HB en pl hB (v0:=.ref p) (v1:=.ref q) (bt:=bt) ((Walks.tuple (A:=A.in1) hh _ s.heap.objs.size (aI (dP _)) #[.ref p,.ref q]).toS) (by simp) (fun v e=>by simpa using e.symm) (fun v e=>by simpa using e.symm) ⟨⟨_,ag _ (hsz▸az _ rfl),rfl,rfl⟩,(hT.push _).push _⟩ (hz2 _ _▸az _ rfl) (fun s' Q' E' mv=>hcmp s' Q' E' (old mv)) fun s' mv=>?_;have ol:=old mv;obtain⟨h',g',d',tk',os'⟩:=s';obtain rfl:g'=s.gens:=mv.gens;obtain rfl:d'=s.drawn:=mv.drawn;obtain rfl:os'=s.os:=mv.os;exact h h' tk' ol
theorem rV{p q:Addr}{a b:List Int}{Q:Value->Shared->Prop}(hh:A.handled=none)(hu:A.units+1<cLine)(hx:IsTup s.heap p us.toArray)(hy:IsTup s.heap q vs.toArray)(ha:bW us a)(hb:bW vs b)(hl:a.length=b.length)
  (h:∀h' tk,(∀c o,s.heap.get? c=some o->h'.get? c=some o)->Q (if llt b a=true then .ref q else .ref p) {s with heap:=h',toks:=tk}):
  wpAny (model prog w) A (call (.builtin "min") [.ref p,.ref q]) Q E s:=by
 refine call_function_tree F.kind_min F.plain_min F.entry_min (F.args_min2 _ _) ?_;show wpAny _ A.in1 (fg "min" ["key","default"] 0 ⟨[],[]⟩>>=_) _ _ s;refine af (tf (show fg "min" ["key","default"] 0 ⟨[],[]⟩=pure [none,none]from rfl) ?_);show wpAny _ A.in1 (newTuple [.ref p,.ref q]>>=_) _ _ s;refine af (bV (af (iY ⟨_,az _ rfl,rfl,0,rfl⟩ (af (bV ?_)))));rw[show(toString "min"++toString ".loop":String)="min.loop" by decide];refine aj ⟨eM F.plain_min_loop _,mm_go F.entry_min_loop F.plain_min_loop (.inl ⟨rfl,rfl,rfl⟩) hh (fun s' Q' E' old q'=>?_) h (bw ..) ((bw ..).trans (congrArg (·+1) (bw ..)))⟩;have hx':=hx.keeps old;have hy':=hy.keeps old;exact lM (op:=.Lt) hy'.typeIs hx'.typeIs pQ (cM pQ hy'.typeIs F.entry_tuple_lt (Dm hy' hx' hb ha hl.symm ⟨_,rfl,(fun e=>nomatch e),q'⟩) (F.args_tuple_lt_2 _ _)) hu
theorem rW{p q:Addr}{a b:List Int}{Q:Value->Shared->Prop}(hh:A.handled=none)(hu:A.units+1<cLine)(hx:IsTup s.heap p us.toArray)(hy:IsTup s.heap q vs.toArray)(ha:bW us a)(hb:bW vs b)(hl:a.length=b.length)
  (h:∀h' tk,(∀c o,s.heap.get? c=some o->h'.get? c=some o)->Q (if llt a b=true then .ref q else .ref p) {s with heap:=h',toks:=tk}):
  wpAny (model prog w) A (call (.builtin "max") [.ref p,.ref q]) Q E s:=by
 refine call_function_tree F.kind_max F.plain_max F.entry_max (F.args_max2 _ _) ?_;show wpAny _ A.in1 (fg "max" ["key","default"] 0 ⟨[],[]⟩>>=_) _ _ s;refine af (tf (show fg "max" ["key","default"] 0 ⟨[],[]⟩=pure [none,none]from rfl) ?_);show wpAny _ A.in1 (newTuple [.ref p,.ref q]>>=_) _ _ s;refine af (bV (af (iY ⟨_,az _ rfl,rfl,0,rfl⟩ (af (bV ?_)))));rw[show(toString "max"++toString ".loop":String)="max.loop" by decide];refine aj ⟨eM F.plain_max_loop _,mm_go F.entry_max_loop F.plain_max_loop (.inr ⟨rfl,rfl,rfl⟩) hh (fun s' Q' E' old q'=>?_) h (bw ..) ((bw ..).trans (congrArg (·+1) (bw ..)))⟩;have hx':=hx.keeps old;have hy':=hy.keeps old;exact lM (op:=.Gt) hy'.typeIs hx'.typeIs F.slot_tuple_gt (cM F.slot_tuple_gt hy'.typeIs F.entry_tuple_gt (gt_tree hy' hx' hb ha hl.symm ⟨_,rfl,(fun e=>nomatch e),q'⟩) (F.args_tuple_gt_2 _ _)) hu
end
noncomputable def rMinL(K:ah):List V->Hp->VK->Prop:=fun xs H Q=>∃(p q:Addr)(a b:List Int),xs=[V.ref p,V.ref q]/\SqT K H p (a.map V.int)/\SqT K H q (b.map V.int)/\a.length=b.length/\Q (if llt b a=true then .ref q else .ref p) H
noncomputable def rMaxL(K:ah):List V->Hp->VK->Prop:=fun xs H Q=>∃(p q:Addr)(a b:List Int),xs=[V.ref p,V.ref q]/\SqT K H p (a.map V.int)/\SqT K H q (b.map V.int)/\a.length=b.length/\Q (if llt a b=true then .ref q else .ref p) H
theorem Fk(hc:X.calm=true)(hu:X.A.units+1<cLine):fz X (.builtin "min") (rMinL X.K):=by
 intro pins s σ H xs us Q I r h;obtain⟨p,q,a,b,rfl,h1,h2,hl,hq⟩:=h;obtain⟨u,w',rfl,r1,r2⟩:=vals2 r;cases r1;cases r2;obtain⟨its,ra,pl,_⟩:=I.tuple h1;obtain⟨its',rb,pl',_⟩:=I.tuple h2;refine _root_.Q.rV (I.ok.hd hc) hu pl pl' (intsAre_of ra) (intsAre_of rb) hl fun h' tk k=>⟨_,H,I.kept k,?_,hq⟩;split <;>rfl
theorem Fl(hc:X.calm=true)(hu:X.A.units+1<cLine):fz X (.builtin "max") (rMaxL X.K):=by
 intro pins s σ H xs us Q I r h;obtain⟨p,q,a,b,rfl,h1,h2,hl,hq⟩:=h;obtain⟨u,w',rfl,r1,r2⟩:=vals2 r;cases r1;cases r2;obtain⟨its,ra,pl,_⟩:=I.tuple h1;obtain⟨its',rb,pl',_⟩:=I.tuple h2;refine _root_.Q.rW (I.ok.hd hc) hu pl pl' (intsAre_of ra) (intsAre_of rb) hl fun h' tk k=>⟨_,H,I.kept k,?_,hq⟩;split <;>rfl
noncomputable def jM(k:List Int×List Int):List Int:=k.1++k.2
theorem Ds:∀{a c:List Int}(b d:List Int),a.length=c.length->llt (a++b) (c++d)=(llt a c||(decide (a=c)&&llt b d))
 | [],[],b,d,_=>by simp[llt]
 |x::a,y::c,b,d,h=>by
  have ih:=Ds (a:=a) (c:=c) b d (by simpa using h);simp only[vQ,llt,ih];by_cases e1:x=y
  ·subst e1;simp
  ·simp[e1]
def P2(h:Heap)(v:Value)(k:List Int×List Int):Prop:=∃a o its n x y rest us ws,v=.ref a/\h.get? a=some o/\o.cls=.type "tuple"/\o.data=.seq its n/\its.toList=.ref x::.ref y::rest/\IsTup h x (us:List Value).toArray/\IsTup h y (ws:List Value).toArray/\bW us k.1/\bW ws k.2
def P2s(h:Heap)(vs:List Value)(ps:List (List Int×List Int)):Prop:=Paired (P2 h) vs ps
theorem p2_at{ps:List (List Int×List Int)}(r:P2s h vs ps)(hi:i<vs.length):P2 h (vs.getD i .none) (ps.getD i ([],[])):=by
 unfold P2s at r
 induction r generalizing i with
 |nil=>exact absurd hi (c5 _)
 |cons y t ih=>
  cases i with
  |zero=>exact y
  |succ i=>exact ih (by simpa using hi)
theorem p2_kat(kp:∀b o,h.get? b=some o->h1.get? b=some o){ps:List (List Int×List Int)}(r:P2s h vs ps):∃fs,KatTups h1 vs fs/\fs.length=vs.length/\∀v∈fs,∃x o,v=cD x/\h1.get? x=some o/\o.cls=.type "tuple":=by
 unfold P2s at r
 induction r with
 |nil=>exact⟨[],.nil,rfl,fun v hv=>nomatch hv⟩
 | @cons v k vs ps y t ih=>
  obtain⟨fs,a1,a2,a3⟩:=ih;obtain⟨a,o,its,n,x,y,rest,us,ws,rfl,e2,e3,e4,e5,⟨ox,hx,cx,_⟩,_⟩:=y;refine⟨.ref x::fs,.cons (kp _ _ e2) e3 e4 (by rw[<-Ec,e5];rfl) a1,by simp[a2],fun v hv=>?_⟩;rcases aE.mp hv with rfl|hv
  ·exact⟨x,ox,rfl,kp _ _ hx,cx⟩
  ·exact a3 v hv
section
variable {prog:Program}{w:World}{A:Around}{E:Value->Shared->Prop}{s:Shared}
theorem BX{k:List Int}(r:bW us k):ItemsAre (cn prog w) (k.map .inl) us:=by
 induction r with
 |nil=>exact .nil
 |cons n t r ih=>exact .cons (mK _ _ _ _) ih
theorem Cy{x:Addr}{k:List Int}(t:IsTup h x us.toArray)(r:bW us k):IsTupleKey (cn prog w) h (k.map .inl) x:=by
 obtain⟨o,ho,hc,n,hd⟩:=t;exact⟨o,us.toArray,n,ho,hc,hd,BX r⟩
theorem inl_inj{a c:List Int}:decide (a.map (dE:Int->Key)=c.map dE)=decide (a=c):=by
 refine decide_eq_decide.mpr ⟨fun h=>?_,fun h=>by rw[h]⟩
 induction a generalizing c with
 |nil=>cases c with
  |nil=>rfl
  |cons=>cases h
 |cons x a ih=>cases c with
  |nil=>cases h
  |cons y c=>
   simp only[bK,FR,dE.injEq]at h;rw[h.1,ih h.2]
theorem DI{x y:Addr}{a c:List Int}{Q:Bool->Shared->Prop}(hu:A.units<cLine)(hx:IsTup s.heap x us.toArray)(hy:IsTup s.heap y ws.toArray)(ha:bW us a)(hc:bW ws c)(h:Q (decide (a=c)) s):wpAny (model prog w) A (eqBool (.ref x) (.ref y)) Q E s:=by
 rw[<-inl_inj]at h;exact wpAny_eqBool_tuple (knd:=cn prog w) hu (Cy hx ha) (Cy hy hc) h
theorem Dl{x y:Addr}{a c:List Int}{Q:Bool->Shared->Prop}(hu:A.units<cLine)(hx:IsTup s.heap x us.toArray)(hy:IsTup s.heap y ws.toArray)(ha:bW us a)(hc:bW ws c)(hl:a.length=c.length)(h:Q (llt a c) s):wpAny (model prog w) A (oneLt' false (.ref x) (.ref y)) Q E s:=
 kat_one _ _ (lM (op:=.Lt) hx.typeIs hy.typeIs pQ (cM pQ hx.typeIs F.entry_tuple_lt (Dm hx hy ha hc hl ⟨_,rfl,(fun e=>nomatch e),h⟩) (F.args_tuple_lt_2 _ _)) hu)
end
theorem AE{ps:List (List Int×List Int)}(i:Nat):(ps.map jM).getD i []=jM (ps.getD i ([],[])):=by
 rw[ae,ae,aq];cases ps[i]? <;>rfl
theorem asks_p2{ps:List (List Int×List Int)}(hu:A.units<cLine)(nd:(ps.map jM).Nodup)(hl:vs.length=ps.length)(r:P2s h0 vs ps)(h2:2<=vs.length)(hm:∀k∈ps,k.1.length=m/\k.2.length=m):Fv prog w A (ltL (ps.map jM)) vs h0:=by
 intro s1 kp;refine⟨tuples' false,fun Q' E' q=>?_,fun i j C hi hj hij q=>?_⟩
 ·obtain⟨fs,a1,a2,a3⟩:=p2_kat kp r
  refine kat_kind (T:=.type "tuple") a1 (by omega) (fun v hv=>?_) rfl q;obtain⟨x,o,rfl,e1,e2⟩:=a3 v hv;intro A Q E s k q;exact y8 ⟨o,k _ _ e1,e2⟩ q
 ·obtain⟨a,o,its,n,x,y,rest,us,ws,e1,e2,e3,e4,e5,e6,e7,e8,e9⟩:=p2_at r hi
  obtain⟨a',o',its',n',x',y',rest',us',ws',f1,f2,f3,f4,f5,f6,f7,f8,f9⟩:=p2_at r hj;have hne:=neL nd (i:=i) (j:=j) (by rw[ai];omega) (by rw[ai];omega) hij;have l1:(ps.getD i ([],[])).1.length=m/\(ps.getD i ([],[])).2.length=m:=by rw[ae,aa (hl▸hi)];exact hm _ (a9 _)
  have l2:(ps.getD j ([],[])).1.length=m/\(ps.getD j ([],[])).2.length=m:=by rw[ae,aa (hl▸hj)];exact hm _ (a9 _)
  unfold kas_ask;unfold ltL at q;rw[AE,AE]at q hne;rw[e1,f1];generalize ps.getD i ([],[])=k at *;generalize ps.getD j ([],[])=k' at *;obtain⟨b,c⟩:=k;obtain⟨b',c'⟩:=k';unfold jM at q hne;rw[Ds _ _ (l1.1.trans l2.1.symm)]at q;refine kat_lt (kp _ _ e2) e4 (kp _ _ f2) f4 ?_;rw[e5,f5];refine kat_cons (DI hu (e6.keeps kp) (f6.keeps kp) e8 f8 ?_);by_cases e:b=b'
  ·subst e
   rw[show decide (b=b)=true by simp];have hc:c≠c':=fun z=>hne (by rw[z]);refine kat_yes (kat_cons (DI hu (e7.keeps kp) (f7.keeps kp) e9 f9 ?_));dsimp only;rw[show decide (c=c')=false by simpa using hc];refine kat_no (Dl hu (e7.keeps kp) (f7.keeps kp) e9 f9 (l1.2.trans l2.2.symm) ?_);simp[uY]at q;exact q
  ·rw[show decide (b=b')=false by simpa using e]
   refine kat_no (Dl hu (e6.keeps kp) (f6.keeps kp) e8 f8 (l1.1.trans l2.1.symm) ?_);simp[e]at q;exact q
def iX(H:Hp)(ys:List V)(ps:List (List Int×List Int)):Prop:=Paired (fun v k=>∃a x y rest,v=V.ref a/\H a=some (.tup (.ref x::.ref y::rest))/\H x=some (.tup (k.1.map V.int))/\H y=some (.tup (k.2.map V.int))) ys ps
theorem lz{ps:List (List Int×List Int)}(h:iX H ys ps):ps.length=ys.length:=by
 unfold iX at h
 induction h with
 |nil=>rfl
 |cons _ _ ih=>simp[ih]
theorem p2_of(ok:HOk P w H h){ps:List (List Int×List Int)}(k:iX H ys ps):bD ys vs->P2s h vs ps:=by
 unfold iX at k
 induction k generalizing vs with
 |nil=>intro z;cases z;exact .nil
 |cons y t ih=>
  intro z;cases z with
  |cons r q=>
   obtain⟨a,x,z,rest,rfl,e,ex,ez⟩:=y;cases r;obtain⟨_,its,rv,o,e1,e2,n,e3⟩:=ok a _ e;obtain⟨_,ux,rx,tx⟩:=ok x _ ex;obtain⟨_,uz,rz,tz⟩:=ok z _ ez;cases rv with
   |cons r1 rv=>cases rv with
    |cons r2 rv=>
     cases r1;cases r2;exact .cons ⟨a,o,_,n,x,z,_,ux,uz,rfl,e1,e2,e3,rfl,tx,tz,intsAre_of rx,intsAre_of rz⟩ (ih q)
noncomputable def GQ(K:ah):List V->Hp->VK->Prop:=fun xs H Q=>∃(p:Addr)(ys:List V)(ps:List (List Int×List Int))(m:Nat),xs=[V.ref p]/\SqL K H p ys/\ps.length<64/\(ps.map jM).Nodup/\(∀k∈ps,k.1.length=m/\k.2.length=m)/\iX H ys ps/\∀l,H l=none->Q (.ref l) (upd H l (.lst (cg .non (ps.map jM) ys)))
theorem yO(hu:X.A.units+2<cLine):fz X (.builtin "sorted") (GQ X.K):=by
 intro pins s σ H xs us Q I r h;obtain⟨p,ys,ps,m,rfl,hq,h64,nd,hm,hk,q⟩:=h;obtain⟨u,rfl,rx⟩:=vals1 r;cases rx;obtain⟨its,r',pl,hz⟩:=I.list hq;have hl0:ps.length=ys.length:=lz hk;have hl:(ps.map jM).length=ys.length:=by rw[ai];exact hl0
 have hlen:=r'.length;have hv:its.length=(ps.map jM).length:=by omega
 refine wI (lt:=ltL (ps.map jM)) (vs:=its) (by rw[hv];exact Ej nd) pl.isList (by omega) (fun h2=>asks_p2 hu nd (by omega) (p2_of I.hok hk r') h2 hm) ?_;obtain⟨c,hc⟩:=sortedAll_at s.heap its (fZ (ltL (ps.map jM)) its).toArray;have hz2:(cg V.non (ps.map jM) ys).length<=sizeLine:=by
  unfold cg;rw[ai,(kJ nd).length_eq,aO];omega
 exact⟨.ref (s.heap.objs.size+1),_,I.laid (t':=s.toks) (fun b o e=>sortedAll_old e) (eX _) (show dQ X.prog X.w _ _ _ (.lst (cg .non (ps.map jM) ys))from⟨hz2,_,c,wU nd hl r',hc⟩),rfl,q _ (I.hok.fresh (eX _))⟩
end Q
namespace PySem
noncomputable abbrev eT1(h:Heap)(t:Addr):Heap:=h.push {cls:=.type "tuple_iterator",data:=.fields #[.ref t,.int 0 0]}
noncomputable abbrev eT2(h:Heap)(t:Addr):Heap:=(eT1 h t).push {cls:=.type "enumerate",data:=.fields #[.none,.bool false,.ref h.objs.size,rawInt 0,.none,.none]}
theorem Ac(t:Addr)(xs:Array Value)(n:Nat)(dct:Option Addr)(sl:Array (Option Value)):
  Meets (Builtin.«enumerate.__new__» ⟨[.type "enumerate",.ref t],[]⟩) (fun _ R s=>s.heap.get? t=some {cls:=.type "tuple",dict:=dct,data:=.seq xs n,slots:=sl}/\R (.ok (.ret (.ref (eT1 s.heap t).objs.size))) {s with heap:=eT2 s.heap t}):=
 .of_wp fun prog w A R s h=>by
  obtain⟨hp,g,d,tk,os⟩:=s;obtain⟨h0,h⟩:=h;have hsub:=sub_enumerate;have e1:Heap.IsTuple (Shared.heap ⟨hp,g,d,tk,os⟩) t xs:=⟨_,h0,rfl,n,rfl⟩
  wp_walk using kG h0
  refine wpAny_stack_any fun st=>aj ?_;split
  ·rename_i cc _ _ _ _ _
   generalize(cc==fH "enumerate")=bb;cases bb<;>(wp_walk using kG h0,iY e1;exact⟨_,rfl,h⟩)
  ·wp_walk using kG h0,iY e1
   exact⟨_,rfl,h⟩
section
variable {prog:Program}{w:World}{A:Around}{E:Value->Shared->Prop}{s:Shared}
theorem Ce{t:Addr}{xs:Array Value}{Q:Value->Shared->Prop}(ht:s.heap.IsTuple t xs)
  (q:∀h',IsEnum h' (s.heap.objs.size+1) s.heap.objs.size 0 .none->h'.IsTupleIter s.heap.objs.size t 0->(∀c o,s.heap.get? c=some o->h'.get? c=some o)->Q (.ref (s.heap.objs.size+1)) {s with heap:=h'}):
  wpAny (model prog w) A (call (.type "enumerate") [.ref t]) Q E s:=by
 obtain⟨⟨c,dct,dt,sl⟩,e1,e2,n,e3⟩:=ht;obtain rfl:c=fH "tuple":=e2;obtain rfl:dt=Data.seq xs n:=e3;have z1:(eT1 s.heap t).objs.size=s.heap.objs.size+1:=bw ..;have g2:(eT2 s.heap t).get? (eT1 s.heap t).objs.size=some _:=az _ rfl;have g1:(eT2 s.heap t).get? s.heap.objs.size=some _:=ag _ (az _ rfl);refine callType_new F.called_enumerate (by decide) (F.typeCall_enumerate_1 _) (F.newCall_enumerate_1 _) (fun obj=>F.args_object_init_2 obj _) F.entry_enumerate_new (Ac t xs n dct sl) ⟨e1,?_⟩;show _/\_;rw[z1]at g2⊢;exact⟨⟨_,g2,rfl⟩,q _ g2 ⟨_,g1,rfl,rfl⟩ fun c o x=>ag _ (ag _ x)⟩
end
theorem drawsT(hh:A.handled=none)(j t:Addr)(hne:t≠j)(xs:Array Value):
  Draws prog w A j [j,t] xs.size (fun i v=>xs[i]? =some v) (fun i h=>h.IsTupleIter j t i/\h.IsTuple t xs) where
 live:=fun _ _ st=>by obtain⟨⟨o,ho,_⟩,_⟩:=st;exact⟨o,ho⟩
 frame:=fun _ _ _ st hk=>by
  obtain⟨⟨o,ho,r⟩,⟨o',ho',r'⟩⟩:=st;exact⟨⟨o,hk j (by simp) o ho,r⟩,⟨o',hk t (by simp) o' ho',r'⟩⟩
 item:=fun i s Q E hi st hQ=>Hn st.1 st.2 (v:=xs[i]) (by simp[hi]) fun h' hj hs=>hQ _ h' s.toks (by simp[hi]) ⟨hj,st.2.extBut hs.extBut hne⟩ hs
 done:=fun s Q E st hE=>C9 hh st.1 st.2 (by simp) hE
end PySem
namespace L2
open PySem PySem.Spec PyProof.Rows
noncomputable def Itet(K:ah)(a:Addr):It:=
 ⟨fun i H=>∃xs x,SqT K H a xs/\xs[i]? =some x,fun i H v H'=>∃p x,H p=none/\H'=upd H p (.tup [.int i,x])/\v=.ref p/\∀xs,SqT K H a xs->xs[i]? =some x,fun i H=>∃xs,SqT K H a xs/\xs.length<=i⟩
theorem Bl{es:List Expr}{kk:Nat}{pp:Pos}(a it e:Addr)(hne:e≠it):Turn P w K (.Tuple es kk pp) (Itet K a) [e,it] e (fun i h=>(∃old,IsEnum h e it i old)/\h.IsTupleIter it a i) where
 mem:=by simp
 obj:=fun i h st b hb=>by
  obtain⟨⟨old,he⟩,o,e1,c,d⟩:=st;have hb':b=e\/b=it:=by simpa using hb
  rcases hb' with rfl|rfl
  ·exact⟨_,he,fun v z=>by cases z⟩
  ·exact⟨o,e1,fun v z=>by rw[d]at z;cases z⟩
 keep:=fun i h h' st k=>by
  obtain⟨⟨old,he⟩,o,ho,r⟩:=st;exact⟨⟨old,k e (by simp) _ he⟩,o,k it (by simp) o ho,r⟩
 item:=by
  intro X hP hw hK hc i pins s σ H E I hf st hg;subst hP hw hK;obtain⟨xs,x,hq,hx⟩:=hg;obtain⟨its,rv,pl,hz⟩:=I.tuple hq;have pl:s.heap.IsTuple a its.toArray:=pl;obtain⟨u,hu,ru⟩:=rv.get hx;obtain⟨⟨old,he⟩,hl⟩:=st;obtain⟨f0,f1,f2,f3,f4,f5⟩:=hf e (by simp);obtain⟨g0,g1,g2,g3,g4,g5⟩:=hf it (by simp);have hilt:i<its.toArray.size:=by
   have :=(aC.mp hu).1
   simpa using this
  have hit:it<s.heap.objs.size:=by obtain⟨o,q,_⟩:=hl;exact aA q
  have haI:a≠it:=by
   obtain⟨o',q',qc',_⟩:=id hl;exact tup_ne pl q' (by rw[qc'];decide+kernel)
  have haE:e≠a:=bQ (tup_ne pl he (by show fH "enumerate"≠fH "tuple";decide+kernel));have D:=drawsT (prog:=X.prog) (w:=X.w) (A:=X.A.in1) (I.ok.hd hc) it a haI its.toArray;refine wpAny_pyNext_enum_itemD D he ⟨hl,pl⟩ hilt hne (by simp[hne,haE]) fun y h' tk hy ho hst ht hsz kp=>?_;have eyu:y=u:=by
   have :its[i]? =some y:=by simpa using hy
   rw[hu]at this;exact(aW this).symm
  subst eyu;have hp:H s.heap.objs.size=none:=I.hok.fresh (aB _);have nE:∀b v,H b=some v->b≠e:=fun b v q z=>by rw[z,f0]at q;cases q
  have nI:∀b v,H b=some v->b≠it:=fun b v q z=>by rw[z,g0]at q;cases q
  have kp':∀c o,c∉[e,it]->s.heap.get? c=some o->h'.get? c=some o:=fun c o hc q=>kp c o (fun z=>hc (by simp[z])) (fun z=>hc (by simp[z])) q;have I1:Inv X pins σ (upd H s.heap.objs.size (.tup [.int i,x])) {s with heap:=h',toks:=tk+1}:=by
   refine I.step (g':=s.gens) (d':=s.drawn) (ch:=[e,it]) (fun b hb=>?_) (fun b o _ _ hc' q _=>kp' b o hc' q)
    (fun b o _ _ hc' q _=>⟨o.slots,kp' b o hc' q⟩) (fun b o _ q n=>by rw[bo (aI (aA q))];exact n)
    (fun b o hc' q=>⟨o,kp' b o hc' q⟩) (fun b ys q=>by rw[bo (bO q hp)];exact q) (fun b o v q=>by rw[bo (bO q hp)];exact q)
    (fun b ps q=>⟨#[],by rw[bo (bO q hp),q];simp⟩) (fun m hm=>?_) (fun b v q=>?_) I.bare
   ·have hb':b=e\/b=it:=by simpa using hb
    rcases hb' with rfl|rfl
    ·exact⟨f3,f1,f4,f5⟩
    ·exact⟨g3,g1,g4,g5⟩
   ·obtain⟨o,es',ep,q,r⟩:=hm
    exact⟨o,es',ep,kp _ o (bQ f1) (bQ g1) q,r⟩
   ·by_cases hb:b=s.heap.objs.size
    ·subst hb
     rw[ao]at q;cases q;exact⟨by show 2<=sizeLine;decide,[.int i tk,y],.cons ⟨tk,rfl⟩ (.cons ru .nil),⟨_,ht,rfl,_,rfl⟩⟩
    ·rw[bo hb]at q
     refine(I.hok b v q).oh (fun c o hc' q'=>kp c o ?_ ?_ q') (fun c q'=>by rw[bo (bO q' hp)];exact q') fun c ys q'=>by rw[bo (bO q' hp)];exact q'
     ·rcases hc' with z|z
      ·rw[z];exact nE b v q
      ·exact nE c _ z
     ·rcases hc' with z|z
      ·rw[z];exact nI b v q
      ·exact nI c _ z
  have fe:(upd H s.heap.objs.size (.tup [.int i,x])) e=none:=by rw[bo (aI (aA he))];exact f0
  refine⟨_,rfl,wpAny_letOwnedTupleGo_enum (s:={s with heap:=h',toks:=tk+1}) ho fun h'' he'' hs''=>?_⟩;have I2:Inv X pins σ (upd H s.heap.objs.size (.tup [.int i,x])) {s with heap:=h'',toks:=tk+1}:=I1.turned (t':=tk+1) (fun b o hb q=>hs''.extBut b o hb q) fe f1 f3 f4 f5;refine⟨.ref s.heap.objs.size,_,I2,rfl,⟨_,x,hp,rfl,rfl,fun ys hy'=>by rw[I.rC hy' hq];exact hx⟩,⟨⟨y,?_⟩,hst.1.extBut hs''.extBut (bQ hne)⟩,fun b hb=>?_⟩
  ·have :((i:Int)+1)=((i+1:Nat):Int):=by push_cast;rfl
   rw[<-this];exact he''
  ·have hb':b=e\/b=it:=by simpa using hb
   rcases hb' with rfl|rfl
   ·exact fe
   ·rw[bo (aI hit)];exact g0
 done:=by
  intro X hP hw hK hc i pins s σ H E I hf st hg;subst hP hw hK;obtain⟨xs,hq,hx⟩:=hg;obtain⟨its,rv,pl,hz⟩:=I.tuple hq;have pl:s.heap.IsTuple a its.toArray:=pl;obtain⟨⟨old,he⟩,hl⟩:=st;obtain⟨g0,g1,g2,g3,g4,g5⟩:=hf it (by simp);have hT:s.TypeIs (.ref e) "enumerate":=⟨_,he,rfl⟩;have hlen:=rv.length;unfold pyNext;refine af (vO (d9 (name:=bX "__next__") hT F.slot_enumerate_next (cM F.slot_enumerate_next hT F.entry_enumerate_next ?_ (F.args_enumerate_next_1 _))));show wpAny _ _ (field (.ref e) 2>>=_) _ _ _;refine af (gW he rfl (x:=.ref it) rfl ?_);refine af (C9 (A:=X.A.in1) (I.ok.hd hc) hl pl (by simp;omega) fun h' z he' hx'=>?_);obtain⟨o,ho,hcl⟩:=hx';refine af (jP (T:="StopIteration") (b:=true) ⟨o,ho,hcl⟩ isSubtype_stop ?_);exact aj ⟨rfl,I.turned (t':=s.toks) (fun b o hb q=>he' b o hb q) g0 g1 g3 g4 g5⟩
 self:=fun _ _ _ _ _ st h=>by
  obtain⟨⟨old,he⟩,_⟩:=st;exact wpAny_pyIter_enum he h
section
variable {X:Cx}{es:List Expr}{kk:Nat}{pp:Pos}
noncomputable def B1(K:ah)(t:TA):TI:=fun σ H R=>t σ H fun vs H1=>∃a,vs=[.ref a]/\(∃xs,SqT K H1 a xs)/\R (Itet K a) H1
theorem G6{l:Expr}{t:TA}{p:Pos}(hg:Gl X "enumerate")(hm:X.mg "enumerate"=none)(ha:PA X [l] t)(hs:bZ [l] X.env=[(false,eval l X.env)]:=by rfl):
  PI X (.Tuple es kk pp) (.Call (.Name "enumerate" p) [l] [] pos) (B1 X.K t):=by
 intro pins s σ H R I h;refine Call_ (jy I hg hm boot_enumerate (cI (thn (ha pos pins s σ H _ I h) fun us s1 ⟨vs,H1,I1,r1,q1⟩=>?_) hs rfl));obtain⟨a,rfl,⟨xs,hq⟩,q⟩:=q1;obtain⟨u,rfl,ru⟩:=r1.one;cases ru;obtain⟨its,rv,pl,hz⟩:=I1.tuple hq;have pl:s1.heap.IsTuple a its.toArray:=pl;refine Ce pl fun h' he hl' kp=>?_;refine wpAny_pyIter_enum (s:={s1 with heap:=h'}) he ?_;have I2:Inv X pins σ H1 {s1 with heap:=h',toks:=s1.toks}:=I1.kept kp;refine⟨_,[s1.heap.objs.size+1,s1.heap.objs.size],_,_,H1,rfl,I2,Bl a s1.heap.objs.size (s1.heap.objs.size+1) (Nat.succ_ne_self _),⟨⟨_,he⟩,hl'⟩,fun b hb=>?_,q⟩;have hbs:s1.heap.objs.size<=b:=by
  simp only[aE,cJ,or_false]at hb;rcases hb with rfl|rfl
  ·exact eX _
  ·exact aB _
 exact I1.Aq hbs (I1.hok.fresh hbs)
end
end L2
namespace L2
open PySem PySem.Spec PySem.W PyProof.Rows
noncomputable def exO(e C:Addr)(d:Option Addr):HO:=.ext fun h=>∃x0,h.get? e=some {cls:=.ref C,dict:=d,data:=.fields #[.ref x0,.none,.none,.none,.bool false,.none]}
noncomputable def xdO(d:Addr)(fs:List (Str×V)):HO:=.ext fun h=>∃mA,h.Ns1 d mA/\(∀f,vF (fs.lookup f) (mA f))/\Cr mA (fs.map (·.1))
noncomputable def Iw(K:ah)(C f:Addr)(bmB:List Value)(newId:String):Bool:=match K.lookup C with
 |some ⟨.type "type",_,.cls cd,sl⟩=>(match cd.mro,sl.toList with
  |.ref C'::bm,[_,_,_,_,some (.builtin n),_]=>C'==C&&n==newId&& !cd.hasDel&&tailIn K bmB bm&&nsOkIn K cd.ns&&nsIn K cd.ns "__init__"==some (some (.ref f))
  |_,_=>false)
 |_=>false
structure MkX(K:ah)(C f:Addr):Prop where
 ex:Iw K C f bmV "ValueError.__new__"=true
 fn:∃o,K.lookup f=some o/\o.cls=.type "function"
 kp:keepIn K (.ref C)=true
end L2
namespace L2
open PySem PySem.Spec PySem.W PyProof.Rows PySem.Builtin PySem.Builtin.ObjectAttr
noncomputable def overX:List Value->Bool
 |.ref _::r=>overX r
 |l=>l==bmV
section
variable {prog:Program}{w:World}{K:ah}{A:Around}{E:Value->Shared->Prop}{s:Shared}{e C:Addr}{name:Str}{v:Value}{vs:Array Value}{Q:Unit->Shared->Prop}
structure StX(K:ah)(C:Addr)(name:Str):Prop where
 hs:findIn K (.ref C) "__setattr__"=some (some (.builtin "object.__setattr__"))
 hp:(clsIn K C).any (fun cd=>overX cd.mro)=true
 ht:takerIn K C name=some none
 hd:(clsIn K C).any (·.hasDict)=true
noncomputable abbrev exObj(C:Addr)(d:Option Addr)(vs:Array Value):Obj:={cls:=.ref C,dict:=d,data:=.fields vs}
end
end L2
namespace L2
open PySem PySem.Spec PySem.W PyProof.Rows
noncomputable def sFldX(K:ah)(ta tv:TE)(f:Str):TS:=fun D σ H=>tv σ H fun y H1=>ta σ H1 fun x H2=>∃a C,x=.ref a/\StX K C f/\
 ((H2 a=some (exO a C none)/\∀dd,H2 dd=none->D.nx σ (upd (upd H2 dd (xdO dd [(f,y)])) a (exO a C (some dd))))\/
  ∃dd fs,H2 a=some (exO a C (some dd))/\H2 dd=some (xdO dd fs)/\fs.length<1000/\D.nx σ (upd H2 dd (xdO dd (putF f y fs))))
structure BsX(K:ah)(B:Addr):Prop where
 ga:specialIn K (.ref B) "__getattribute__"=some (some (.builtin "type.__getattribute__"))
 rd:readsIn K B (.type "type")=true
 fd:findCls K (.ref B) (.type "type") "__init__"=some (.val (.builtin "ValueError.__init__"))
noncomputable def tBase(K:ah)(B:Addr)(t:TA):TE:=fun σ H Q=>BsX K B/\t σ H fun vs H1=>∃a C f us,vs=.ref a::us/\H1 a=some (exO a C none)/\us.length<=sizeLine/\Iw K C f bmV "ValueError.__new__"=true/\Q .non H1
noncomputable def del(H:Hp)(a:Addr):Hp:=fun b=>if b=a then none else H b
section
variable {X:Cx}{pins:List (Addr×Obj)}{σ:St}{H:Hp}{s:Shared}
structure NewX(X:Cx)(pins:List (Addr×Obj))(H:Hp)(s:Shared)(a C:Addr)(d:Option Addr):Prop where
 at_:∃x0,s.heap.get? a=some (exObj C d #[.ref x0,.none,.none,.none,.bool false,.none])
 new:X.s₀.heap.get? a=none
 un:H a=none
 pins:∀p∈X.pn++pins,p.1≠a
theorem EO{M:Model}{Q:Unit->Shared->Prop}{d:Option Addr}(I:Inv X pins σ H s)(stk:X.stack=X.env::X.outer)(hf:X.env.frame=some X.env.locals)(n:NewX X pins H s a C d)
  (h:∀s2,Inv X pins σ H s2->Fly X.s₀.heap s2.heap H (X.pn++pins) a (.ref C) d->Q () s2):
  wpAny M X.A (l7 (.ref a) X.env) (fun _ s'=>wpAny M X.A (AV (.ref a) none) Q E s') E s:=by
 obtain⟨x0,ht⟩:=n.at_;unfold l7;simp only[hf];refine af (gW (x:=.none) ht rfl (by rfl) ?_);rw[if_neg (show ¬(bz != bz)=true by simp)];exact enter I stk hf ht rfl (by simp) n.new n.un n.pins h
def Jg(X:Cx)(E:XS):Prop:=∀(pins:List (Addr×Obj))(σ:St)(H:Hp)(s:Shared)(a C:Addr)(d:Option Addr),Inv X pins σ H s->NewX X pins H s a C d->E σ (.ref C) d H->X.xe (.ref a) s
theorem Cg{cd:Value}{outer:List Env}{E:XK}:
  Jg (yN (CXx P w) P w K mg base N qual scope f cd A outer s H E) (fun _=>E):=by
 intro pins σ H1 s1 a C d I n q;show wpAny _ _ (leaving _ _) _ _ _;unfold leaving;refine af (EO I rfl rfl n fun s2 I2 F2=>?_);obtain⟨⟨T,oe,vs,oT,ts,h1,h2,h3,h4,h5,h6,h7,h8,h9,h10,h11,_⟩,b1,b2,_⟩:=F2;exact⟨a,.ref C,d,H1,rfl,I2.os,I2.bare,I2.base,I2.hok,⟨⟨T,oe,vs,oT,ts,h1,h2,h3,h4,h5,h6,h7,h8,h9,h10,h11,fun _ z=>nomatch z⟩,b1,b2,fun _ z=>nomatch z⟩,q⟩
noncomputable def sRaisX(C:Addr)(sp:Sp)(dvs:List V)(E:XS)(t:TA):TS:=fun _ σ H=>t σ H fun vs H1=>vs.length<=sizeLine/\∀a,H1 a=none->
 sp (.ref a::(vs++dvs)) (upd H1 a (exO a C none)) (fun v H2=>v=.non/\∃d,H2 a=some (exO a C d)/\E σ (.ref C) d (del H2 a)) (E σ)
end
noncomputable def fldOk(K:ah)(C:Addr)(f:Str):Bool:=
 excOk K C&&findIn K (.ref C) f==some none&&(match clsIn K C with |some cd=>cd.hasDict|none=>false)
noncomputable def rFld(K:ah)(f:Str):V->Hp->VK->Prop:=fun x H Q=>∃a C dd fs v,x=.ref a/\H a=some (Iv a (.ref C) (some dd))/\H dd=some (xdO dd fs)/\fldOk K C f=true/\fs.lookup f=some v/\Q v H
noncomputable def tRepl(ta tb:TE)(i:Nat)(c d:Str)(tr:TA):TA:=fun σ H Q=>ta σ H fun x H1=>tb σ H1 fun y H2=>∃u v z:Str,x=.str u/\y=.str v/\(1<=u.length/\1<=v.length/\u.length+v.length<=sizeLine/\z.length<=1000)/\σ[i]? =some (some (.str z))/\
 tr σ H2 fun xs H3=>Q (.str (u++v)::.str (Txt.replace z c d)::xs) H3
section
variable {X:Cx}{a b:Expr}{es:List Expr}{ta tb:TE}{tr:TA}{i:Nat}{x c d:Str}{p1 np apos cpos p2 p3:Pos}{j1 j2:Nat}
noncomputable def tMkf(K:ah)(C:Addr)(sp:Sp)(dvs:List V)(E:XS)(fl:Str)(t:TA):TE:=fun σ H Q=>t σ H fun vs H1=>vs.length<=sizeLine/\∀a,H1 a=none->
 sp (.ref a::(vs++dvs)) (upd H1 a (exO a C none)) (fun v H2=>v=.non/\∃b dd fs w,V.ref a=.ref b/\H2 b=some (exO b C (some dd))/\H2 dd=some (xdO dd fs)/\fldOk K C fl=true/\fs.lookup fl=some w/\Q w H2) (E σ)
end
noncomputable def rSlW(K:ah):V->Option Int->Option Int->Hp->VK->Prop:=fun x lo hi H Q=>∃a xs,x=.ref a/\SqT K H a xs/\HT.sIx xs.length 0 lo=0/\HT.sIx xs.length xs.length hi=xs.length/\Q (.ref a) H
noncomputable def tMakeS(C:Addr)(sp:Sp)(dvs:List V)(E:XS)(t:TA):TE:=fun σ H Q=>tMake C sp dvs (E σ) t σ H Q
noncomputable def tMethS(C:Addr)(m:Str)(sp:Sp)(dvs:List V)(E:XS)(ta:TE)(t:TA):TE:=fun σ H Q=>tMeth C m sp dvs (E σ) ta t σ H Q
end L2
namespace L2
open PySem PySem.Spec PyProof.Rows
section
variable {X:Cx}{pins:List (Addr×Obj)}{σ:St}{H N:Hp}{s:Shared}{h':Heap}
noncomputable def tLZip(K:ah)(t:TA):TE:=fun σ H Q=>t σ H fun vs H1=>∃a b xs ys,vs=[.ref a,.ref b]/\SqL K H1 a xs/\SqL K H1 b ys/\xs.length<=1000/\∀H' p ws,aL H1 H'->H1 p=none->H' p=some (.lst ws)->ws.length=min xs.length ys.length->
 (∀(j:Nat)(x y:V),xs[j]? =some x->ys[j]? =some y->∃q,ws[j]? =some (.ref q)/\H1 q=none/\H' q=some (.tup [x,y]))->Q (.ref p) H'
end
end L2
namespace Q
open PySem
def rY(xs:Array Nat):Prop:=xs.toList.Pairwise (·<·)
structure Parts(xs:Array Nat)(j p:Nat):Prop where
 le:p<=xs.size
 lo:∀i x,i<p->xs[i]? =some x->x<j
 hi:∀i x,p<=i->xs[i]? =some x->j<=x
theorem tI{xs:Array Nat}(h:rY xs){x y:Nat}(hik:i<k)(hx:xs[i]? =some x)(hy:xs[k]? =some y):x<y:=by
 have hx':xs.toList[i]? =some x:=by simpa using hx
 have hy':xs.toList[k]? =some y:=by simpa using hy
 obtain⟨h1,e1⟩:=aC.mp hx';obtain⟨h2,e2⟩:=aC.mp hy';have :=cT.mp h i k h1 h2 hik;rw[e1,e2]at this;exact this
theorem ve{xs:Array Nat}(h:rY xs)(j:Nat):∀(fuel lo hi:Nat),hi-lo<=fuel->lo<=hi->hi<=xs.size->(∀i x,i<lo->xs[i]? =some x->x<j)->(∀i x,hi<=i->xs[i]? =some x->j<=x)->Parts xs j (zd xs j fuel lo hi)
 | 0,lo,hi,hf,hl,hs,a,b=>by
  have e:lo=hi:=by omega
  subst e;exact⟨hs,a,b⟩
 |fuel+1,lo,hi,hf,hl,hs,a,b=>by
  unfold zd;by_cases c:lo<hi
  ·rw[if_pos c]
   have hm:(lo+hi)/2<xs.size:=by omega
   have em:xs[(lo+hi)/2]? =some xs[(lo+hi)/2]:=by simp[hm]
   have eg:xs.getD ((lo+hi)/2) j=xs[(lo+hi)/2]:=by simp[Jx,hm]
   simp only[eg];by_cases d:xs[(lo+hi)/2]<j
   ·rw[if_pos d]
    refine ve h j fuel _ hi (by omega) (by omega) hs (fun i x hi' e=>?_) b;by_cases k:i=(lo+hi)/2
    ·subst k
     rw[em]at e;cases e;exact d
    ·exact gQ (tI h (by omega) e em) d
   ·rw[if_neg d]
    refine ve h j fuel lo _ (by omega) (by omega) (by omega) a fun i x hi' e=>?_;by_cases k:i=(lo+hi)/2
    ·subst k
     rw[em]at e;cases e;omega
    ·have :=tI h (by omega:(lo+hi)/2<i) em e
     omega
  ·rw[if_neg c]
   have e:lo=hi:=by omega
   subst e;exact⟨hs,a,b⟩
theorem j3{xs:Array Nat}(h:rY xs)(j:Nat):Parts xs j (cH xs j):=
 ve h j xs.size 0 xs.size (by omega) (aX _) (aB _) (fun i x hi _=>absurd hi (c5 _)) fun i x hi e=>by
  have :=(dj.mp e).1
  omega
theorem Aj{α:Type}(xs:Array α)(p:Nat)(x:α):(rh xs p x).toList=xs.toList.take p++x::xs.toList.drop p:=by
 unfold rh;simp;exact iP (by simp)
theorem zG{xs:Array Nat}(h:rY xs)(hj:∀i:Nat,xs[i]? ≠some j):rY (rh xs (cH xs j) j):=by
 have P:=j3 h j;unfold rY;rw[Aj];have sub:=h;unfold rY at sub;rw[List.pairwise_append];refine⟨sub.sublist (tX _ _),kC.mpr ⟨fun y hy=>?_,sub.sublist (List.drop_sublist _ _)⟩,fun x hx y hy=>?_⟩
 ·obtain⟨i,hi⟩:=bJ.mp hy
  rw[iz]at hi;have e:xs[cH xs j+i]? =some y:=by simpa using hi
  have :=P.hi _ _ (wz _ _) e
  have ne:y≠j:=fun z=>hj _ (z▸e);omega
 ·obtain⟨i,hi⟩:=bJ.mp hx
  have hip:i<cH xs j:=by
   have :=(aC.mp hi).1
   rw[c9]at this;omega
  rw[Bb hip]at hi;have e:xs[i]? =some x:=by simpa using hi
  have lx:=P.lo _ _ hip e;rcases aE.mp hy with rfl|hy
  ·exact lx
  ·obtain⟨k,hk⟩:=bJ.mp hy
   rw[iz]at hk;have e2:xs[cH xs j+k]? =some y:=by simpa using hk
   have :=P.hi _ _ (wz _ _) e2
   omega
theorem Cj{xs:Array Nat}(h:rY xs){x:Nat}(e:xs[i]? =some x):cH xs (x+1)=i+1:=by
 have P:=j3 h (x+1);have hi:=(dj.mp e).1;apply zf
 ·apply fB
  intro c;have hs:i+1<xs.size:=aV c P.le;have e2:xs[i+1]? =some xs[i+1]:=by simp[hs]
  have a:=P.lo _ _ c e2;have b:=tI h (dP i) e e2;omega
 ·apply fB
  intro c;have :=P.hi i x (by omega) e;omega
theorem Ci{xs:Array Nat}(h:rY xs):cH xs 0=0:=by
 have P:=j3 h 0;apply zf _ (aX _);apply fB;intro c;have hs:0<xs.size:=aV c P.le;have :=P.lo 0 xs[0] c (by simp[hs]);omega
theorem Fs{xs:Array Nat}(h:rY xs){x:Nat}(e:xs[i]? =some x):cH xs x=i:=by
 have P:=j3 h x;apply zf
 ·apply fB
  intro c;exact dk _ (P.lo i x c e)
 ·apply fB
  intro c;have hs:cH xs x<xs.size:=gQ c (dj.mp e).1;have e2:xs[cH xs x]? =some xs[cH xs x]:=by simp[hs]
  have a:=P.hi _ _ (aB _) e2;have b:=tI h c e2 e;omega
theorem Bw(n:Nat):rY (Array.range n):=by
 unfold rY;rw[Array.toList_range];exact D9
structure jN(t:bu):Prop where
 up:rY t.place
 no:t.dummies= #[]
theorem slot_no{t:bu}(T:jN t)(j:Nat):t.slot j≠.dummy:=by
 unfold bu.slot;simp only[T.no];split
 ·simp
 ·split
  ·rename_i h
   exact absurd h (by simp[zi])
  ·simp
theorem Es{t:bu}(T:jN t)(h:t.slot j=.empty):∀i:Nat,t.place[i]? ≠some j:=fun i e=>by
 have :=Fs T.up e
 unfold bu.slot at h;simp only[this,e,beq_self_eq_true,if_true]at h;cases h
theorem wu(t:bu)(p:bu.Probe):(t.advance p).dummy=p.dummy:=by
 unfold bu.advance;split <;>rfl
theorem uD{t:bu}(T:jN t){f:Nat->Int}{h:Int}{d:Option Nat}:∀(fuel:Nat)(p:bu.Probe),p.dummy=none->n6 t f h fuel p=some (.empty j d)->t.slot j=.empty/\d=none
 | 0,p,_,e=>by simp[n6]at e
 |fuel+1,p,hp,e=>by
  unfold n6 at e;cases hs:t.slot p.j with
  |empty=>
   rw[hs]at e;simp only[jJ,bu.Met.empty.injEq]at e;exact⟨by rw[<-e.1];exact hs,by rw[<-e.2];exact hp⟩
  |dummy=>exact absurd hs (slot_no T _)
  |live i=>
   rw[hs]at e;simp only at e;split at e
   ·cases e
   ·exact uD T fuel _ (by rw[wu];exact hp) e
theorem wc{t:bu}(T:jN t){h:Int}{b:Bool}(e:t.freeSlot h=some (j,b)):(∀i:Nat,t.place[i]? ≠some j)/\b=false:=by
 unfold bu.freeSlot at e;split at e
 ·rename_i j' d hm
  unfold bu.probe at hm;obtain⟨h1,h2⟩:=uD T _ _ (by rfl) hm;subst h2;simp only[tW,FO,jJ,Prod.mk.injEq]at e;obtain⟨rfl,rfl⟩:=e;exact⟨Es T h1,rfl⟩
 ·cases e
theorem je(t:bu)(n:Nat):jN (t.standIn n):=⟨Bw n,rfl⟩
theorem GX{t:bu}(T:jN t)(hj:∀i:Nat,t.place[i]? ≠some j):jN (t.put j).1:=by
 refine⟨zG T.up hj,?_⟩;show(if zi t.dummies j=true then _ else t.dummies)= #[];rw[T.no];simp[zi]
theorem uJ{t:bu}(T:jN t)(n:Nat):jN (t.orStandIn n):=by
 unfold D5;split
 ·exact T
 ·exact je t n
theorem Ag{t:bu}(T:jN t)(es:Array (Int×Value))(h:Int)(x:Value):jN (layNew t es h x).2.1/\(layNew t es h x).2.2.1=false:=by
 unfold layNew;split
 ·rename_i j b e
  obtain⟨h1,h2⟩:=wc T e;subst h2;exact⟨uJ (GX T h1) _,rfl⟩
 ·exact⟨je t _,rfl⟩
theorem w4{mask finger moves:Nat}{plain:Bool}{hashes:Array Int}{t:bu}{order:Array Nat}(h:bu.laid mask finger moves led plain hashes=some (t,order)):jN t/\t.led=led/\t.plain=plain:=by
 unfold bu.laid at h;cases e:bu.layClean mask hashes with
 |none=>rw[e]at h;cases h
 |some owner=>
  rw[e]at h;have h':some (({mask,place:=(((aw (mask+1)).filterMap fun j=>(owner.getD j none).map (j,·)).map (·.1)).toArray,dummies:= #[],finger,led,moves,plain}:bu),(((aw (mask+1)).filterMap fun j=>(owner.getD j none).map (j,·)).map (·.2)).toArray)=some (t,order):=h;have h2:=(Prod.mk.inj (aW h')).1;subst h2;refine⟨⟨?_,rfl⟩,rfl,rfl⟩;show((((aw (mask+1)).filterMap fun j=>(owner.getD j none).map (j,·)).map (·.1)).toArray).toList.Pairwise (·<·);rw[Jw,cU,List.pairwise_filterMap];refine D9.imp fun{a b} hab x hx y hy=>?_;cases ha:owner.getD a none with
  |none=>rw[ha]at hx;cases hx
  |some u=>
   cases hb:owner.getD b none with
   |none=>rw[hb]at hy;cases hy
   |some v=>
    rw[ha]at hx;rw[hb]at hy;cases hx;cases hy;exact hab
theorem v7(t:bu)(es:Array (Int×Value))(wanted:Nat):jN (pJ t es wanted).2.1:=by
 unfold pJ;split
 ·rename_i t' order e
  simp only;split
  ·unfold Jo at e
   exact(w4 e).1
  ·exact je t _
 ·exact je t _
theorem put_led(t:bu)(j:Nat):(t.put j).1.led=t.led:=rfl
theorem wb(t:bu)(n:Nat):(t.orStandIn n).led=t.led:=by
 unfold D5;split <;>rfl
theorem BS(t:bu)(es:Array (Int×Value))(h:Int)(x:Value):(layNew t es h x).2.1.led=t.led:=by
 unfold layNew;split
 ·exact(wb _ _).trans (put_led _ _)
 ·rfl
theorem ya(t:bu)(es:Array (Int×Value))(wanted:Nat):(pJ t es wanted).2.1.led=t.led:=by
 unfold pJ;split
 ·rename_i t' order e
  simp only;split
  ·unfold Jo at e
   exact(w4 e).2.1
  ·rfl
 ·rfl
section
variable {prog:Program}{w:World}{K:Type}[DecidableEq K]{knd:KeyKind prog w K}{A:Around}{E:Value->Shared->Prop}{s:Shared}
def qQ(knd:KeyKind prog w K)(h:Heap)(a:Addr)(S:K->Bool)(n:Nat)(led:Bool):Prop:=
 ∃o es ep t,h.get? a=some o/\o.ExactSet/\o.data=.set es ep t/\ElemsOf knd es.toList/\(∀k,S k=true↔∃e∈es.toList,knd.is k e.2=true)/\es.size<fK/\t.fits es.size=true/\es.size=n/\jN t/\t.led=led
theorem qQ.of{S:K->Bool}(x:qQ knd h a S n led):h.SetOf knd a S n:=by
 obtain⟨o,es,ep,t,e1,e2,e3,e4,e5,e6,e7,e8,_⟩:=x;exact⟨o,es,ep,t,e1,e2,e3,e4,e5,e6,e7,e8⟩
theorem uw{o:Obj}{t:bu}(ho:h.get? a=some o)(hx:o.ExactSet)(hd:o.data=.set es ep t){t':bu}{S':K->Bool}(hl:ElemsOf knd es'.toList)(hm:∀k,S' k=true↔∃e∈es'.toList,knd.is k e.2=true)(hb:es'.size<fK)(hf:t'.fits es'.size=true)(ht:jN t'):
  qQ knd (h.update a (Obj.putSet es' t')) a S' es'.size t'.led:=by
 have g:=(SetOf_store (knd:=knd) ho hx hd hl hm hb hf).1;exact⟨_,es',ep+1,t',g,hx,rfl,hl,hm,hb,hf,rfl,ht,rfl⟩
theorem AR{g:Bool->Sem Unit}(hg:∀(b:Bool)(s₁:Shared)(Q':Unit->Shared->Prop),Q' () s₁->wpAny (model prog w) A (g b) Q' E s₁){o:Obj}{t:bu}(ho:s.heap.get? a=some o)(hx:o.ExactSet)(hd:o.data=.set es ep t)
  {t2:bu}{S':K->Bool}(hl:ElemsOf knd es1.toList)(hm:∀k',S' k'=true↔∃e∈es1.toList,knd.is k' e.2=true)(hb:es1.size<fK)(hf:t2.fits es1.size=true)(ht:jN t2){wasDummy:Bool}{R:Option Bool->Shared->Prop}
  (h:∀h',dq a s.heap h'->qQ knd h' a S' es1.size t2.led->R (some true) {s with heap:=h'}):
  wpAny (model prog w) A (do
    storeSet a es1 t2
    if(!wasDummy&&t2.tooFull)=true then do
      g (pJ t2 es1 (eZ es1.size)).2.2
      storeSet a (pJ t2 es1 (eZ es1.size)).1 (pJ t2 es1 (eZ es1.size)).2.1
      pure (some true)
     else pure (some true)) R E s:=by
 refine af (wpAny_storeSet_of ho hd ?_ (nY hb));have ho1:=(SetOf_store (knd:=knd) ho hx hd hl hm hb hf).1;have x1:=uw (knd:=knd) ho hx hd hl hm hb hf ht;have sb:=bI s.heap a (Obj.putSet es1 t2);split
 ·have hp:=relayAll_perm t2 es1 (eZ es1.size)
  have hr:=relayAll_fits t2 es1 (eZ es1.size);have hT:=v7 t2 es1 (eZ es1.size);have hL:=ya t2 es1 (eZ es1.size);generalize pJ t2 es1 (eZ es1.size)=Rl at hp hr hT hL⊢;obtain⟨es2,t3,gave⟩:=Rl;dsimp only at hp hr hT hL⊢;have hz:es2.size=es1.size:=by rw[<-ck,hp.length_eq,ck]
  refine af (hg _ _ _ (af (wpAny_storeSet_of ho1 rfl ?_ (nY (by rw[hz];exact hb)))));have x2:=uw (knd:=knd) ho1 hx rfl (hl.perm hp) (fun k'=>(hm k').trans ⟨fun⟨e,he,q⟩=>⟨e,hp.mem_iff.mpr he,q⟩,fun⟨e,he,q⟩=>⟨e,hp.mem_iff.mp he,q⟩⟩) (by rw[hz];exact hb) hr hT;rw[hz,hL]at x2;exact aj (h _ (sb.trans (bI _ a _)) x2)
 ·exact aj (h _ sb x1)
theorem BC{t:bu}(T:jN t):jN {t with plain:=false}:=⟨T.up,T.no⟩
theorem addX{S:K->Bool}{k:K}{x:Value}{Q:Bool->Shared->Prop}(hk:knd.is k x=true)(hsc:x.scannable=true)(hS:qQ knd s.heap a S n led)(hroom:n+1<fK)
  (h:∀h',dq a s.heap h'->qQ knd h' a (fun k'=>S k'||decide (k'=k)) (if S k then n else n+1) led->Q (!S k) {s with heap:=h'}):
  wpAny (model prog w) A (setAddHashed a x (knd.hash k)) Q E s:=by
 obtain⟨o,es,ep,t,ho,hx,hd,hl,hm,hb,hf,hn,ht,he⟩:=hS;have hb1:es.size+1<fK:=by rw[hn];exact hroom
 unfold setAddHashed setAddHashedIn;refine b8 (af (dD ho hd hf ?_));dsimp only;rw[byScan_of hsc hb hl];simp only[↓reduceIte];unfold setAddByScan;refine af ?_;refine af (gV (af (wpAny_setScan_of hk ho hd hf hl ?_)));cases hr:List.findIdx? (fun e=>knd.is k e.2) es.toList with
 |some j=>
  dsimp only;obtain⟨hj,hp,_⟩:=List.findIdx?_eq_some_iff_getElem.mp hr;have hSk:S k=true:=(hm k).mpr ⟨es.toList[j],a9 hj,hp⟩;refine aj (aj ?_);have :=h s.heap (dq.refl a s.heap) ⟨o,es,ep,t,ho,hx,hd,hl,fun k'=>by
   rw[cw,decide_eq_true_eq,<-hm k'];exact⟨fun q=>q.elim id (fun e=>e▸hSk),.inl⟩,hb,hf,by rw[hSk];exact hn,ht,he⟩
  rw[hSk]at this;exact this
 |none=>
  dsimp only;have hSk:S k=false:=by
   cases q:S k with
   |false=>rfl
   |true=>
    obtain⟨e,m1,m2⟩:=(hm k).mp q;have :=List.findIdx?_eq_none_iff.mp hr e m1;rw[m2]at this;cases this
  have hw:∀(b:Bool){s₁:Shared}{Q':Unit->Shared->Prop},Q' () s₁->wpAny (model prog w) A (match b with |true=>rule "set.scan.the-table-gave-way" |false=>pure ()) Q' E s₁:=fun b s₁ Q' q=>by cases b<;>first |exact aj q|exact gV q
  have hp:=layNew_perm t es (knd.hash k) x;have hfit:=layNew_fits t es (knd.hash k) x;have hT:=(Ag ht es (knd.hash k) x).1;have hL:=BS t es (knd.hash k) x;generalize layNew t es (knd.hash k) x=L at hp hfit hT hL⊢;obtain⟨es1,t1,wd,gave⟩:=L;dsimp only at hp hfit hT hL⊢;rw[Array.toList_push]at hp;have l1:ElemsOf knd es1.toList:=(hl.push hk hsc).perm hp;have m1:∀k',(S k'||decide (k'=k))=true↔∃e∈es1.toList,knd.is k' e.2=true:=mem_push_iff hk hm hp;have z1:es1.size=n+1:=by rw[<-ck,hp.length_eq,ba,ck,hn];rfl
  have b1:es1.size<fK:=by rw[z1];exact hroom
  refine af (hw _ ?_);have fin:∀h',dq a s.heap h'->qQ knd h' a (fun k'=>S k'||decide (k'=k)) es1.size led->Q true {s with heap:=h'}:=fun h' sb x=>by
   have :=h h' sb
   rw[hSk]at this;rw[z1]at x;exact this x
  split
  ·refine af ?_
   rw[hashByValue_scannable 8 hsc];refine aj (AR ?_ ho hx hd l1 m1 b1 ?_ ?_ ?_)
   ·intro b s₁ Q' q;cases b<;>first |exact aj q|exact gV q
   ·split
    ·exact hfit
    ·exact bu.fits_plain_off hfit
   ·split
    ·exact hT
    ·exact BC hT
   ·intro h' sb x
    refine aj (fin h' sb ?_);split at x
    ·rw[hL,he]at x;exact x
    ·have e2:({t1 with plain:=false}:bu).led=led:=hL.trans he
     rw[e2]at x;exact x
  ·refine af (aj ?_)
   simp only[↓reduceIte];refine AR ?_ ho hx hd l1 m1 b1 hfit hT ?_
   ·intro b s₁ Q' q;cases b<;>first |exact aj q|exact gV q
   ·intro h' sb x
    rw[hL,he]at x;exact aj (fin h' sb x)
end
end Q
set_option maxHeartbeats 3200000
namespace Q
open PySem PySem.Spec PySem.W PyProof.Rows L2
section
variable {prog:Program}{w:World}{A:Around}{R:Result->Shared->Prop}{I:Addr}{fp wr:List Addr}{G:Array pM->Array pM->Prop}{n:Nat}{P:Nat->Value->Prop}{St:Nat->Shared->Prop}
theorem wK(W:WalksS prog w A.in1 I fp wr G n P St)(S:Addr)(hSf:S∉fp)(ks:List Key)(hn:ks.length=n)(hv:∀i v,P i v->∃k,ks[i]? =some k/\RelV (kV k) v)(hb:n+1<fK):
  ∀(m i:Nat)(s:Shared),n-i=m->i<=n->St i s->qQ (cn prog w) s.heap S (has (met (ks.take i))) (met (ks.take i)).length led->
   (∀s',Moved (S::wr) G s s'->qQ (cn prog w) s'.heap S (has (met ks)) (met ks).length led->R (.ok (.ret .none)) s')->
   iO (model prog w) A (.builtin "set.update.loop" ⟨[.ref S,.ref I],[]⟩) R s
 | 0,i,s,hm,hi,st,hS,hR=>by
  obtain rfl:i=n:=by omega
  rw[<-hn,c7]at hS;refine eh l9 ?_;rw[c6 fL _];show wpAny _ A.in1 (pyNext (.ref I)>>=_) _ _ s;refine af (W.done s _ _ st fun s' mv=>?_);obtain⟨o,es,ep,t,ho,rest⟩:=hS;exact aj (hR s' (mv.mono fun b hb=>aM _ hb) ⟨o,es,ep,t,mv.heap S _ (fun z=>hSf (W.sub _ z)) ho,rest⟩)
 |m+1,i,s,hm,hi,st,hS,hR=>by
  have hlt:i<n:=by omega
  refine eh l9 ?_;rw[c6 fL _];show wpAny _ A.in1 (pyNext (.ref I)>>=_) _ _ s;refine af (W.item i s _ _ hlt st fun v s' hP st' mv=>?_);obtain⟨k,hk,rv⟩:=hv i v hP;have hS1:qQ (cn prog w) s'.heap S (has (met (ks.take i))) (met (ks.take i)).length led:=by
   obtain⟨o,es,ep,t,ho,rest⟩:=hS;exact⟨o,es,ep,t,mv.heap S _ (fun z=>hSf (W.sub _ z)) ho,rest⟩
  have hsc:v.scannable=true:=by
   cases k with
   |inl j=>obtain⟨t,rfl⟩:=rv;rfl
   |inr x=>obtain⟨t,rfl⟩:=rv;rfl
  show wpAny _ A.in1 (holding [v] (setAdd S v)>>=_) _ _ s';refine af (b8 ?_);unfold setAdd;refine b8 (af ((cn prog w).pyHash (k:=k) (HS rv) ?_));have hle:=BP (ks.take i);rw[c9]at hle;refine addX (knd:=cn prog w) (led:=led) (s:={s' with toks:=s'.toks+1}) (HS rv) hsc hS1 (by omega) fun h' hsb hS2=>?_;have et:ks.take (i+1)=ks.take i++[k]:=by rw[cB,hk];rfl
  have hS3:qQ (cn prog w) h' S (has (met (ks.take (i+1)))) (met (ks.take (i+1))).length led:=by
   rw[et,HC];obtain⟨o,es,ep,t,ho,hex,hd,hel,hmem,hbb,hf,hnn,htt⟩:=hS2;refine⟨o,es,ep,t,ho,hex,hd,hel,fun j=>?_,hbb,hf,by rw[qm];exact hnn,htt⟩;rw[<-hmem j,jg,Aa,cw,jg,decide_eq_true_eq]
  refine aj ⟨eM fL _,wK W S hSf ks hn hv hb m (i+1) _ (by omega) hlt (W.frame _ s' _ _ st' (eX _) fun b hq o e=>?_) hS3 fun s'' mv2 hS4=>?_⟩
  ·rw[hsb.2 b (fun z:b=S=>hSf (by rw[<-z];exact hq))]
   exact e
  ·refine hR s'' (FK W.gtrans ((mv.mono fun b hb=>aM _ hb).then_heap (eX _) fun b o hq e=>?_) mv2) hS4
   rw[hsb.2 b (fun z:b=S=>hq (by rw[z];exact aG))];exact e
end
section
variable {prog:Program}{w:World}{A:Around}{E:Value->Shared->Prop}{s:Shared}
theorem Fg(a:Value)(h:Q₁ (.ref s.heap.objs.size) {s with heap:=s.heap.push (mh (!w.params.followText "set-order"))}):iO (model prog w) A (.call (.builtin "set.__new__") ⟨[.type "set",a],[]⟩) (wants Q₁ E) s:=by
 refine codeAny_of_tree ?_;show wpAny _ A.in1 (do checkBuiltinCall "set.__new__" ⟨[.type "set",a],[]⟩;again (.builtin "set.__new__" ⟨[.type "set",a],[]⟩)) _ _ s;refine af (tf (F.newCall_set_1 a) (aj ⟨eM F.plain_set_new _,eh F.entry_set_new ?_⟩));rw[c6 F.plain_set_new _];unfold Builtin.«set.__new__» Builtin.Frozenset.newClass;have hsub:=sub_set_self;obtain⟨hp,g,d,tk,os⟩:=s;dsimp only;wp_walk;refine dh (aj ?_);dsimp only;simp only[newObj];exact af (wpAny_alloc (aj (aj h)))
theorem Eu{P:Bool->Heap->Prop}{Q:Value->Shared->Prop}(hl:s.heap.IsList l items)
  (hloop:∀(led:Bool)(R:Result->Shared->Prop),(∀s',Moved (s.heap.objs.size::[(s.heap.push (mh led)).objs.size]) (fun a b=>b=a) {s with heap:=(s.heap.push (mh led)).push {cls:=.type "list_iterator",data:=.fields #[.ref l,.int 0 0]}} s'->P led s'.heap->R (.ok (.ret .none)) s')->iO (model prog w) A.in1.in1 (.builtin "set.update.loop" ⟨[.ref s.heap.objs.size,.ref (s.heap.push (mh led)).objs.size],[]⟩) R {s with heap:=(s.heap.push (mh led)).push {cls:=.type "list_iterator",data:=.fields #[.ref l,.int 0 0]}})
  (h:∀(h':Heap)(tk:Nat),P (!w.params.followText "set-order") h'->(∀b o,b<s.heap.objs.size->s.heap.get? b=some o->h'.get? b=some o)->Q (.ref s.heap.objs.size) {s with heap:=h',toks:=tk}):
  wpAny (model prog w) A (call (.type "set") [.ref l]) Q E s:=by
 have c0:=F.called_set;obtain⟨c,tl,hmro⟩:=c0.mro;have f1:=c0.made;have f2:=c0.sub;have f3:=c0.notType;have f4:=c0.canCreate;have f5:=F.typeCall_set_1 (.ref l);refine wpAny_call (codeAny_of_tree ?_);show wpAny _ _ (callAny (.type "set") _) _ _ _;refine aj ⟨Code.quiet_builtin _ (by decide+kernel),eh F.entry_type_call ?_⟩;rw[Around.under_plain (weight_type_call_type "set" [.ref l] []) rfl];repeat(any_goals (first |assumption|wp_step))
 refine lN (Fg (.ref l) (E:=E) (Q₁:=fun obj s1=>∃led:Bool,led=(!w.params.followText "set-order")/\obj=.ref s.heap.objs.size/\s1={s with heap:=s.heap.push (mh led)}) ⟨_,rfl,rfl,rfl⟩) fun r s1 hr=>?_;rcases r with e|fl
 ·exact hr
 rcases fl with _|_|_|obj
 ·exact hr.elim
 ·exact hr.elim
 ·exact hr.elim
 obtain⟨led,hled,rfl,rfl⟩:=hr;rw[<-hled]at h;have hS:(s.heap.push (mh led)).get? s.heap.objs.size=some (mh led):=az _ rfl;have hT:Shared.TypeIs {s with heap:=s.heap.push (mh led)} (.ref s.heap.objs.size) "set":=⟨_,hS,rfl⟩;have f6:=c0.init.lookup;have f7:=c0.init.bind (.ref s.heap.objs.size);repeat(any_goals (first |assumption|wp_step))
 refine lN (codeAny_call_builtin (R:=wants (fun r s2=>r=.none/\∃h' tk,s2={s with heap:=h',toks:=tk}/\P led h'/\
  (∀b o,b<s.heap.objs.size->s.heap.get? b=some o->h'.get? b=some o)) E) c0.init.plain F.entry_set_init (check_set_init_1 hT ?_)) fun r2 s2 hr2=>?_
 ·obtain⟨ol,hol,hcl,nl,hdl⟩:=hl
  obtain⟨oc,od,odt,osl⟩:=ol;obtain rfl:oc=.type "list":=hcl;obtain rfl:odt=.seq items nl:=hdl;have hol':(s.heap.push (mh led)).get? l=some {cls:=.type "list",dict:=od,data:=.seq items nl,slots:=osl}:=ag _ hol;have g1:=F.sub_list_set;have g2:=F.sub_list_frozenset;have g3:(fH "list"==fH "dict")=false:=by decide
  have hl1:(s.heap.push (mh led)).IsList l items:=⟨_,hol',rfl,nl,rfl⟩;unfold Builtin.«set.__init__» noKeywords Builtin.Frozenset.updateFrom;generalize hPI:pyIter=PI
  wp_walk
  subst hPI;refine nX hl1 (af (wpAny_runValue ?_));have hlt:l<s.heap.objs.size:=aA hol;have hz:(s.heap.push (mh led)).objs.size=s.heap.objs.size+1:=bw _ _;refine hloop led _ fun s' mv hS'=>?_
  ·obtain⟨h',g',d',tk',os'⟩:=s'
   obtain rfl:g'=s.gens:=mv.gens;obtain rfl:d'=s.drawn:=mv.drawn;obtain rfl:os'=s.os:=mv.os;show wpAny _ _ _ _ _ _;refine aj ?_;show wpAny _ _ (ret bz) _ _ _;refine aj ⟨rfl,h',tk',rfl,hS',fun b o hq e=>mv.heap b o (fun z=>?_) (ag _ (ag _ e))⟩;rcases aE.mp z with z|z
   ·exact aI hq z
   ·exact aI (bA hq) ((a6.mp z).trans hz)
 ·rcases r2 with e|fl2
  ·exact hr2
  rcases fl2 with _|_|_|v
  ·exact hr2.elim
  ·exact hr2.elim
  ·exact hr2.elim
  obtain⟨rfl,h',tk,rfl,hS',hk'⟩:=hr2;repeat(any_goals (first |assumption|wp_step))
  exact h _ _ hS' hk'
theorem wL{ks:List Key}{Q:Value->Shared->Prop}(hh:A.handled=none)(hl:s.heap.IsList l items)(hk:ks.length=items.size)
  (hv:∀(i:Nat)(v:Value),items[i]? =some v->∃k,ks[i]? =some k/\RelV (kV k) v)(hb:items.size+1<fK)
  (h:∀(h':Heap)(tk:Nat),qQ (cn prog w) h' s.heap.objs.size (has (met ks)) (met ks).length (!w.params.followText "set-order")->(∀b o,b<s.heap.objs.size->s.heap.get? b=some o->h'.get? b=some o)->Q (.ref s.heap.objs.size) {s with heap:=h',toks:=tk}):
  wpAny (model prog w) A (call (.type "set") [.ref l]) Q E s:=by
 have hlt:l<s.heap.objs.size:=let⟨_,e,_⟩:=hl;aA e;refine Eu (P:=fun led h=>qQ (cn prog w) h s.heap.objs.size (has (met ks)) (met ks).length led) hl (fun led R hR=>?_) h;have h3:A.in1.in1.in1.handled=none:=by simp[hh]
 have hz:(s.heap.push (mh led)).objs.size=s.heap.objs.size+1:=bw _ _;have hne:l≠(s.heap.push (mh led)).objs.size:=by rw[hz];exact aI (bA hlt)
 have hnf:s.heap.objs.size∉[(s.heap.push (mh led)).objs.size,l]:=by
  rw[hz];intro z;rcases aE.mp z with z|z
  ·exact aI (dP _) z
  ·exact eA hlt (a6.mp z)
 have hS:(s.heap.push (mh led)).get? s.heap.objs.size=some (mh led):=az _ rfl;refine wK (led:=led) ((Walks.list h3 _ l hne items).toS) s.heap.objs.size hnf ks hk hv hb (items.size-0) 0 _ (by omega) (aX _) ⟨⟨_,az _ rfl,rfl,rfl⟩,(hl.push _).push _⟩ ?_ hR;exact⟨mh led,#[],0,_,ag _ hS,⟨rfl,rfl,rfl⟩,rfl,fun e he=>by simp at he,fun k=>by simp[met,has],by decide,by rfl,rfl,⟨ot,rfl⟩,rfl⟩
end
theorem Fj(hc:X.calm=true):fz X (.type "set") (rSet X.K):=by
 intro pins s σ H xs us Q I r h;obtain⟨p,ks,rfl,hq,hz,q⟩:=h;obtain⟨u,rfl,rx⟩:=vals1 r;cases rx;obtain⟨its,r',pl,_⟩:=I.list hq;have hlen:=r'.length;rw[ai]at hlen;refine wL (ks:=ks) (I.ok.hd hc) pl.isList (by rw[au];exact hlen) (fun i v e=>yC r' i v (by simpa using e)) (by rw[au,<-hlen];unfold fK;omega) fun h' tk hS kp=>?_;refine⟨.ref s.heap.objs.size,_,I.laid (t':=tk) (fun b o e=>kp b o (aA e) e) (aB _) (show dQ X.prog X.w _ _ _ (zD _ (met ks).length)from ?_),rfl,q _ (I.hok.fresh (aB _))⟩;obtain⟨o,es,ep,t,ho,hex,hd,hel,hmem,hbb,hf,hn⟩:=hS.of;refine⟨⟨o,es,ep,t,ho,hex,hd,hbb,hf,hn⟩,⟨o,ho⟩,fun h1 h2 z k=>?_⟩;obtain⟨o,es,ep,t,ho,rest⟩:=z;exact⟨o,es,ep,t,k o ho,rest⟩
end Q
set_option maxHeartbeats 1000000
namespace Q
open PySem
theorem pD{α:Type}:∀{l:List α}{i:Nat}(h:i<l.length),(l[i]::l.eraseIdx i).Perm l
 |a::l,0,_=>dN _
 |a::l,i+1,h=>by
  have hi:i<l.length:=by simpa using h
  have ih:=pD hi;show(l[i]::a::l.eraseIdx i).Perm (a::l);exact(vM _ _ _).trans (ih.cons a)
theorem C6{α:Type}(next :Nat->Nat):∀(fuel k:Nat)(left:List α)(out:Array α),left.length<=fuel->(y9 next fuel k left out).toList.Perm (out.toList++left)
 | 0,k,left,out,h=>by
  have e:left=[]:=a8.mp (by omega);subst e;simp[y9]
 |fuel+1,k,left,out,h=>by
  unfold y9;cases left with
  |nil=>simp
  |cons a l=>
   have hi:next k%(a::l).length<(a::l).length:=AY _ (by simp)
   rw[aa hi];dsimp only;refine(C6 next fuel (k+1) _ _ (by rw[kD hi];simp at h⊢;omega)).trans ?_;rw[Array.toList_push,lQ];exact List.Perm.append_left _ (pD hi)
theorem nN{α:Type}(next :Nat->Nat)(xs:Array α):(ip next xs).toList.Perm xs.toList:=by
 unfold ip;exact(C6 next xs.size 0 xs.toList #[] (by simp)).trans (by simp)
section
variable {M:Model}{A:Around}{E:Value->Shared->Prop}
theorem vW{src:Source}{Q:Nat->Shared->Prop}(h:n≠0)(q:∀i d,i<n->Q i {s with drawn:=d}):wpAny M A (choose src n) Q E s:=fun Γ p hΓ=>by
 unfold choose;rw[Sem.wp_choose];exact⟨h,q _ _ (AY _ (Nat.pos_of_ne_zero h))⟩
theorem xg{α:Type}:∀(n:Nat)(xs:List α)(s:Shared)(Q:List α->Shared->Prop),xs.length<=n->(∀ys d,ys.Perm xs->Q ys {s with drawn:=d})->wpAny M A (drawOrder n xs) Q E s
 | 0,xs,s,Q,h,q=>by
  have e:xs=[]:=a8.mp (by omega);subst e;unfold drawOrder;exact aj (q [] s.drawn (dN _))
 |n+1,[],s,Q,h,q=>by
  unfold drawOrder;exact aj (q [] s.drawn (dN _))
 |n+1,a::l,s,Q,h,q=>by
  unfold drawOrder;refine af (vW (by simp) fun i d hi=>?_);rw[aa hi];dsimp only;refine af (xg n _ _ _ (by rw[kD hi];simp at h⊢;omega) fun ys d' hy=>aj ?_);exact q _ d' ((hy.cons _).trans (pD hi))
end
end Q
set_option maxHeartbeats 3200000
namespace Q
open PySem PySem.Spec PySem.W PyProof.Rows L2
theorem fk:Slot "set_iterator" "__next__" "set_iterator.__next__":=
 .of (owner:="set_iterator") (n:="__next__") (by rw[qZ,jI];kernel_rfl) (by decide+kernel) (by decide+kernel) (by decide+kernel) (by first |exact .inl (by decide+kernel) |exact .inr (by decide+kernel)) (by rw[tu];kernel_rfl)
theorem oD:FC table "set_iterator.__next__"=some Builtin.«set_iterator.__next__»:=entryFor_of_tree (by kernel_rfl)
theorem qM(a:Value):argsOk "set_iterator.__next__" ⟨[a],[]⟩:=by unfold argsOk;kernel_rfl
theorem sX:FC table "set.__iter__"=some Builtin.«frozenset.__iter__»:=entryFor_alias (id':="frozenset.__iter__") (by kernel_rfl) rfl (by decide+kernel) (by kernel_rfl)
noncomputable abbrev siO(S:Addr)(first :Value)(i n ep:Nat):Obj:={cls:=.type "set_iterator",dict:=none,data:=.fields #[first,.int i 0,.ref S,.int n 0,.int ep 0],slots:= #[]}
section
variable {prog:Program}{w:World}{A:Around}{E:Value->Shared->Prop}{s:Shared}
noncomputable def iL(es:Array (Int×Value))(t:bu):Bool:= !t.plain&&es.size>1
theorem pR{o:Obj}{t:bu}{Q:Bool->Shared->Prop}(ho:s.heap.get? a=some o)(hd:o.data=.set es ep t)(hf:t.fits es.size=true)(h:Q (!w.params.followText "set-order"&&iL es t) s):
  wpAny (model prog w) A (setDrawn a) Q E s:=by
 unfold setDrawn mj;refine af (dD ho hd hf ?_);dsimp only;refine af (af (dh (aj (aj ?_))));exact h
theorem HV{o:Obj}{t:bu}{Q:Value->Shared->Prop}(ho:s.heap.get? S=some o)(hc:o.cls=.type "set")(hd:o.data=.set es ep t)(hf:t.fits es.size=true)(hsb:es.size<fK)
  (h1:(!w.params.followText "set-order"&&iL es t)=false->Q (.ref s.heap.objs.size) {s with heap:=s.heap.push (siO S (.int 0 0) 0 es.size ep)})
  (h2:(!w.params.followText "set-order"&&iL es t)=true->∀(ps:List Nat)(d:Drawn),ps.Perm (aw es.size)->Q (.ref (s.heap.objs.size+1)) {s with drawn:=d,heap:=(s.heap.push {cls:=.type "tuple",data:=.seq (ps.map fun(i:Nat)=>rawInt i).toArray}).push (siO S (.ref s.heap.objs.size) 0 es.size ep)}):
  wpAny (model prog w) A (pyIter (.ref S)) Q E s:=by
 have hT:s.TypeIs (.ref S) "set":=⟨o,ho,hc⟩;refine wpAny_pyIter_slot hT F.slot_set_iter (cM F.slot_set_iter hT sX ?_ (F.args_set_iter_1 _));unfold Builtin.«frozenset.__iter__» Builtin.Frozenset.slot0 Builtin.Frozenset.sizeOf
 wp_walk
 have hfc:(t.place.size != es.size||decide (t.fill>t.mask))=false:=by
  simp only[bu.fits,aN,beq_iff_eq,decide_eq_true_eq]at hf;simp[hf.1,Nat.not_lt.mpr hf.2]
 rw[hd];dsimp only;rw[if_neg (by rw[hfc];decide)];refine aj (aj (aj ?_));refine af (pR ho hd hf ?_);dsimp only;cases hb:(!w.params.followText "set-order"&&iL es t)with
 |false=>
  rw[if_neg (by decide)];refine af (aj (af (wpAny_setEpoch_of ho hd hf ?_)));refine af (bV (aj ⟨_,rfl,"set_iterator",_,⟨_,az _ rfl,rfl⟩,fk.lookup,h1 hb⟩))
 |true=>
  rw[if_pos rfl];refine af (xg _ _ _ _ (by simp) fun ps d hp=>?_);refine af (bV ?_ (by show(ps.map fun(i:Nat)=>rawInt i).toArray.size<=sizeLine;rw[au,ai,hp.length_eq,aO];exact nY hsb));have ho1:(s.heap.push {cls:=.type "tuple",data:=.seq (ps.map fun(i:Nat)=>rawInt i).toArray}).get? S=some o:=ag _ ho;refine af (wpAny_setEpoch_of (s:={s with drawn:=d,heap:=s.heap.push {cls:=.type "tuple",data:=.seq (ps.map fun(i:Nat)=>rawInt i).toArray}}) ho1 hd hf ?_);have hz:(s.heap.push {cls:=.type "tuple",data:=.seq (ps.map fun(i:Nat)=>rawInt i).toArray}).objs.size=s.heap.objs.size+1:=bw ..;refine af (bV (aj ⟨_,rfl,"set_iterator",_,⟨_,az _ rfl,rfl⟩,fk.lookup,?_⟩));have :=h2 hb ps d hp;rw[<-hz]at this;exact this
end
section
variable {prog:Program}{w:World}{A:Around}{E:Value->Shared->Prop}{s:Shared}
structure j5(h:Heap)(S:Addr)(es:Array (Int×Value))(ep:Nat)(t:bu):Prop where
 ob:∃o,h.get? S=some o/\o.cls=.type "set"/\o.data=.set es ep t
 fit:t.fits es.size=true
theorem jo{first :Value}{t:bu}{Q:dM->Shared->Prop}(hi:s.heap.get? I=some (siO S first i es.size ep))(hs:j5 s.heap S es ep t)
  (h:wpAny (model prog w) A (match first with
   |.int slot _=>do
    match<-setNext S slot.toNat i ep with
    |some (x,next)=>do
     tj (.ref I) 0 (rawInt next)
     tj (.ref I) 1 (rawInt ((i:Int)+1))
     ret x
    |none=>do
     tj (.ref I) 2 .none
     FA (<-newExc (.type "StopIteration") [])
   |_=>do
    let some places<-tV first |unsupported "internal:set_iterator"
    match places[i]? with
    |some (.int place _)=>do
     let x<-setNextDrawn S place.toNat ep
     tj (.ref I) 1 (rawInt ((i:Int)+1))
     ret x
    |some _=>unsupported "internal:set_iterator"
    |none=>do
     tj (.ref I) 0 (rawInt 0)
     tj (.ref I) 2 .none
     FA (<-newExc (.type "StopIteration") [])) Q E s):
  wpAny (model prog w) A (Builtin.«set_iterator.__next__» ⟨[.ref I],[]⟩) Q E s:=by
 obtain⟨⟨o,ho,hc,hd⟩,hf⟩:=hs;unfold Builtin.«set_iterator.__next__»;show wpAny _ _ (fieldsOf (.ref I)>>=_) _ _ _;refine af (wpAny_fieldsOf hi rfl ?_);dsimp only;refine af (wpAny_setEntries_of ho hd hf ?_);rw[if_neg (by simp)];exact h
theorem nextA{t:bu}{x:Int×Value}{Q:dM->Shared->Prop}(hw:w.params.followText "set-order"=true)(hi:s.heap.get? I=some (siO S (.int k 0) i es.size ep))(hs:j5 s.heap S es ep t)
  (hx:(ip (w.params.setOrder S ep) es)[i]? =some x)(h:∀h',h'.get? I=some (siO S (.int k 0) (i+1) es.size ep)->dq I s.heap h'->Q (.done (.ret x.2)) {s with heap:=h'}):
  wpAny (model prog w) A (Builtin.«set_iterator.__next__» ⟨[.ref I],[]⟩) Q E s:=by
 refine jo hi hs ?_;obtain⟨⟨o,ho,hc,hd⟩,hf⟩:=hs;dsimp only;refine af ?_;unfold setNext mj;refine af (dD ho hd hf ?_);dsimp only;refine af (af (dh (aj ?_)));dsimp only;rw[show(model prog w).w.params.followText "set-order"=true from hw];simp only[if_true,bne_self_eq_false,aQ,if_false];refine af ?_;unfold setWalk mj;refine af (dD ho hd hf ?_);dsimp only;refine af (af (dh (aj ?_)));dsimp only;rw[show(model prog w).w.params.followText "set-order"=true from hw];simp only[if_true];refine af (dh (aj (aj ?_)));rw[show(ip ({program:=(model prog w).prog,params:=(model prog w).w.params:Setting}.params.setOrder S ep) es)[i]? =some x from hx];simp only[jr,aH];refine af (dc hi (by simp) fun h1 e1 s1=>?_);have e1:h1.get? I=some (siO S (.int k 0) i es.size ep):=e1;refine af (dc e1 (by simp) fun h2 e2 s2=>?_);have e2:h2.get? I=some (siO S (.int k 0) (i+1) es.size ep):=e2;exact aj (h h2 e2 (s1.trans s2))
theorem nextB{t:bu}{x:Int×Value}{Q:dM->Shared->Prop}(hw:w.params.followText "set-order"=false)(hdr:iL es t=false)(hled:t.led=true)(hi:s.heap.get? I=some (siO S (.int k 0) i es.size ep))(hs:j5 s.heap S es ep t)
  (hk:cH t.place k=i)(hx:es[i]? =some x)(h:∀h' j,t.place[i]? =some j->h'.get? I=some (siO S (.int (j+1:Nat) 0) (i+1) es.size ep)->dq I s.heap h'->Q (.done (.ret x.2)) {s with heap:=h'}):
  wpAny (model prog w) A (Builtin.«set_iterator.__next__» ⟨[.ref I],[]⟩) Q E s:=by
 refine jo hi hs ?_;obtain⟨⟨o,ho,hc,hd⟩,hf⟩:=hs;dsimp only;refine af ?_;unfold setNext mj;refine af (dD ho hd hf ?_);dsimp only;refine af (af (dh (aj ?_)));dsimp only;rw[show(model prog w).w.params.followText "set-order"=false from hw];simp only[aQ,if_false];have hsz:t.place.size=es.size:=by
  simp only[bu.fits,aN,beq_iff_eq]at hf;exact hf.1
 have hil:i<es.size:=(dj.mp hx).1;have hj:t.place[i]? =some (t.place[i]'(by omega)):=by simp[show i<t.place.size by omega]
 rw[if_neg (fun z=>by have z':iL es t=true:=z;rw[hdr]at z';cases z')];refine af (show wpAny _ _ (if(!t.led&& !es.isEmpty)=true then unsupported "set:maker-not-led" else pure ()) _ _ _ from ?_);rw[if_neg (by rw[hled];simp)];refine aj (aj ?_);simp only[aH,hk,hx,hj];refine af (dc hi (by simp) fun h1 e1 s1=>?_);have e1:h1.get? I=some (siO S (.int (t.place[i]'(by omega)+1:Nat) 0) i es.size ep):=e1;refine af (dc e1 (by simp) fun h2 e2 s2=>?_);have e2:h2.get? I=some (siO S (.int (t.place[i]'(by omega)+1:Nat) 0) (i+1) es.size ep):=e2;exact aj (h h2 _ hj e2 (s1.trans s2))
theorem nextC{tk:Tok}{t:bu}{ps:Array Value}{oT:Obj}{x:Int×Value}{Q:dM->Shared->Prop}(hi:s.heap.get? I=some (siO S (.ref T) i es.size ep))(hs:j5 s.heap S es ep t)
  (hT:s.heap.get? T=some oT)(hTd:oT.data=.seq ps m)(hp:ps[i]? =some (.int p tk))(hx:es[p]? =some x)(h:∀h',h'.get? I=some (siO S (.ref T) (i+1) es.size ep)->dq I s.heap h'->Q (.done (.ret x.2)) {s with heap:=h'}):
  wpAny (model prog w) A (Builtin.«set_iterator.__next__» ⟨[.ref I],[]⟩) Q E s:=by
 refine jo hi hs ?_;obtain⟨⟨o,ho,hc,hd⟩,hf⟩:=hs;dsimp only;refine af (fJ hT hTd ?_);simp only[hp,aH];refine af ?_;unfold setNextDrawn;refine af (dD ho hd hf ?_);simp only[bne_self_eq_false,aQ,if_false,hx];refine aj ?_;refine af (dc hi (by simp) fun h2 e2 s2=>?_);have e2:h2.get? I=some (siO S (.ref T) (i+1) es.size ep):=e2;exact aj (h h2 e2 s2)
end
section
variable {prog:Program}{w:World}{A:Around}{E:Value->Shared->Prop}{s:Shared}
theorem o7{α:Type}{Q:α->Shared->Prop}(hh:A.handled=none)(h:∀h' e,(∀c o,s.heap.get? c=some o->h'.get? c=some o)->(∃o,h'.get? e=some o/\o.cls=.type "StopIteration")->E (.ref e) {s with heap:=h'}):
  wpAny (model prog w) A (newExc (.type "StopIteration") []>>=fun x=>FA x) Q E s:=by
 refine af ?_;simp only[newExc,newTuple];refine af (bV ?_ (by size_fits));refine af (m:=tw _ _) (tf (a:=bz) (by first |rfl| (simp only[tw];rfl)) ?_);refine bV ?_ (by size_fits);simp only[FA];refine af (wpAny_handled ?_);rw[hh];refine af (aj (wpAny_throw ?_));exact h _ _ (fun c o e=>ag _ (ag _ e)) ⟨_,az _ rfl,rfl⟩
def Ends(E:Value->Shared->Prop)(I:Addr)(s:Shared):Prop:=∀h' e,(∀c o,c≠I->s.heap.get? c=some o->h'.get? c=some o)->(∃o,h'.get? e=some o/\o.cls=.type "StopIteration")->E (.ref e) {s with heap:=h'}
theorem endA{t:bu}{Q:dM->Shared->Prop}(hh:A.handled=none)(hw:w.params.followText "set-order"=true)(hi:s.heap.get? I=some (siO S (.int k 0) es.size es.size ep))(hs:j5 s.heap S es ep t)(h:Ends E I s):
  wpAny (model prog w) A (Builtin.«set_iterator.__next__» ⟨[.ref I],[]⟩) Q E s:=by
 have hx:(ip (w.params.setOrder S ep) es)[es.size]? =none:=by
  have :=(nN (w.params.setOrder S ep) es).length_eq
  simp at this⊢;omega
 refine jo hi hs ?_;obtain⟨⟨o,ho,hc,hd⟩,hf⟩:=hs;dsimp only;refine af ?_;unfold setNext mj;refine af (dD ho hd hf ?_);dsimp only;refine af (af (dh (aj ?_)));dsimp only;rw[show(model prog w).w.params.followText "set-order"=true from hw];simp only[if_true,bne_self_eq_false,aQ,if_false];refine af ?_;unfold setWalk mj;refine af (dD ho hd hf ?_);dsimp only;refine af (af (dh (aj ?_)));dsimp only;rw[show(model prog w).w.params.followText "set-order"=true from hw];simp only[if_true];refine af (dh (aj (aj ?_)));rw[show(ip ({program:=(model prog w).prog,params:=(model prog w).w.params:Setting}.params.setOrder S ep) es)[es.size]? =none from hx];simp only[Option.map_none];refine af (dc hi (by simp) fun h1 e1 s1=>?_);exact o7 (s:={s with heap:=h1}) hh fun h' e kp he=>h h' e (fun c o c1 q=>kp c o (s1.extBut c o c1 q)) he
theorem endB{t:bu}{Q:dM->Shared->Prop}(hh:A.handled=none)(hw:w.params.followText "set-order"=false)(hdr:iL es t=false)(hled:t.led=true)(hi:s.heap.get? I=some (siO S (.int k 0) es.size es.size ep))(hs:j5 s.heap S es ep t)
  (hk:cH t.place k=es.size)(h:Ends E I s):wpAny (model prog w) A (Builtin.«set_iterator.__next__» ⟨[.ref I],[]⟩) Q E s:=by
 refine jo hi hs ?_;obtain⟨⟨o,ho,hc,hd⟩,hf⟩:=hs;dsimp only;refine af ?_;unfold setNext mj;refine af (dD ho hd hf ?_);dsimp only;refine af (af (dh (aj ?_)));dsimp only;rw[show(model prog w).w.params.followText "set-order"=false from hw];simp only[aQ,if_false];rw[if_neg (fun z=>by have z':iL es t=true:=z;rw[hdr]at z';cases z')];refine af (show wpAny _ _ (if(!t.led&& !es.isEmpty)=true then unsupported "set:maker-not-led" else pure ()) _ _ _ from ?_);rw[if_neg (by rw[hled];simp)];refine aj (aj ?_);have hn:es[es.size]? =none:=by simp
 simp only[aH,hk,hn];refine af (dc hi (by simp) fun h1 e1 s1=>?_);exact o7 (s:={s with heap:=h1}) hh fun h' e kp he=>h h' e (fun c o c1 q=>kp c o (s1.extBut c o c1 q)) he
theorem endC{t:bu}{ps:Array Value}{oT:Obj}{Q:dM->Shared->Prop}(hh:A.handled=none)(hi:s.heap.get? I=some (siO S (.ref T) es.size es.size ep))(hs:j5 s.heap S es ep t)(hT:s.heap.get? T=some oT)(hTd:oT.data=.seq ps m)(hp:ps.size=es.size)(h:Ends E I s):
  wpAny (model prog w) A (Builtin.«set_iterator.__next__» ⟨[.ref I],[]⟩) Q E s:=by
 refine jo hi hs ?_;dsimp only;refine af (fJ hT hTd ?_);have hn:ps[es.size]? =none:=by simp;omega
 simp only[hn];refine af (dc hi (by simp) fun h1 e1 s1=>?_);have e1:h1.get? I=some (siO S (.int 0 0) es.size es.size ep):=e1;refine af (dc e1 (by simp) fun h2 e2 s2=>?_);exact o7 (s:={s with heap:=h2}) hh fun h' e kp he=>h h' e (fun c o c1 q=>kp c o (s2.extBut c o c1 (s1.extBut c o c1 q))) he
end
theorem pV:Slot "set_iterator" "__iter__" "set_iterator.__iter__":=
 .of (owner:="set_iterator") (n:="__iter__") (by rw[qZ,jI];kernel_rfl) (by decide+kernel) (by decide+kernel) (by decide+kernel) (by first |exact .inl (by decide+kernel) |exact .inr (by decide+kernel)) (by rw[tu];kernel_rfl)
theorem wj:FC table "set_iterator.__iter__"=some Builtin.«dict_keyiterator.__iter__»:=
 entryFor_alias (id':="dict_keyiterator.__iter__") (by kernel_rfl) (by first |rfl|decide+kernel) (by decide+kernel) (by kernel_rfl)
theorem yX(a:Value):argsOk "set_iterator.__iter__" ⟨[a],[]⟩:=by unfold argsOk;kernel_rfl
section
variable {prog:Program}{w:World}{A:Around}{E:Value->Shared->Prop}{s:Shared}
theorem xZ{Q:Option Value->Shared->Prop}(hT:s.TypeIs (.ref I) "set_iterator")(h:∀(Q':dM->Shared->Prop)(E':Value->Shared->Prop),(∀v h',Q (some v) {s with heap:=h'}->Q' (.done (.ret v)) {s with heap:=h'})->wpAny (model prog w) A.in1 (Builtin.«set_iterator.__next__» ⟨[.ref I],[]⟩) Q' E' s):
  wpAny (model prog w) A (pyNext (.ref I)) Q E s:=by
 unfold pyNext;exact af (vO (d9 (name:=bX "__next__") hT fk (cM fk hT oD (h _ _ fun v h' q=>⟨_,rfl,aj q⟩) (qM _))))
theorem x4{Q:Option Value->Shared->Prop}(hT:s.TypeIs (.ref I) "set_iterator")(h:∀(Q':dM->Shared->Prop)(E':Value->Shared->Prop),(∀h' e,(∀c o,c≠I->s.heap.get? c=some o->h'.get? c=some o)->(∃o,h'.get? e=some o/\o.cls=.type "StopIteration")->E' (.ref e) {s with heap:=h'})->wpAny (model prog w) A.in1 (Builtin.«set_iterator.__next__» ⟨[.ref I],[]⟩) Q' E' s)
  (q:∀h',(∀c o,c≠I->s.heap.get? c=some o->h'.get? c=some o)->Q none {s with heap:=h'}):wpAny (model prog w) A (pyNext (.ref I)) Q E s:=by
 unfold pyNext;refine af (vO (d9 (name:=bX "__next__") hT fk (cM fk hT oD (h _ _ fun h' e kp he=>?_) (qM _))));obtain⟨o,e1,e2⟩:=he;exact af (jP (T:="StopIteration") (b:=true) ⟨o,e1,e2⟩ isSubtype_stop (aj (q _ kp)))
theorem xY{Q:Value->Shared->Prop}(hT:s.TypeIs (.ref I) "set_iterator")(h:Q (.ref I) s):wpAny (model prog w) A (pyIter (.ref I)) Q E s:=by
 refine wpAny_pyIter_slot hT pV (cM pV hT wj ?_ (yX _));show wpAny _ _ (ret (.ref I)) _ _ s;exact aj ⟨_,rfl,"set_iterator",_,hT,fk.lookup,h⟩
end
theorem j5.at{t:bu}(x:j5 h S es ep t)(k:∀o,h.get? S=some o->h'.get? S=some o):j5 h' S es ep t:=let⟨⟨o,a,b,c⟩,f⟩:=x;⟨⟨o,k o a,b,c⟩,f⟩
variable {prog:Program}{w:World}{A:Around}
theorem walkA(hh:A.handled=none)(hw:w.params.followText "set-order"=true)(ne:S≠I)(es:Array (Int×Value))(ep:Nat)(t:bu):
  Walks prog w A I [I,S] [I] es.size (fun i v=>((ip (w.params.setOrder S ep) es).toList.map (·.2))[i]? =some v) (fun i h=>j5 h S es ep t/\∃k:Nat,h.get? I=some (siO S (.int k 0) i es.size ep)) where
 sub:=fun b hb=>by simp at hb⊢;exact .inl hb
 frame:=fun i h h' ⟨x,k,e⟩ kp=>⟨x.at fun o q=>kp S (by simp) o q,k,kp I (by simp) _ e⟩
 item:=fun i s Q E hi ⟨x,k,e⟩ hQ=>by
  have hl:=(nN (w.params.setOrder S ep) es).length_eq;simp only[ck]at hl;have hx:(ip (w.params.setOrder S ep) es)[i]? =some ((ip (w.params.setOrder S ep) es)[i]'(by omega)):=by simp[show i<(ip (w.params.setOrder S ep) es).size by omega]
  refine xZ ⟨_,e,rfl⟩ fun Q' E' q=>nextA hw e x hx fun h' e' sb=>q _ h' ?_;exact hQ _ h' s.toks (by simp[hx]) ⟨x.at fun o z=>sb.extBut S o ne z,k,e'⟩ fun b o hb z=>sb.extBut b o (by simpa using hb) z
 done:=fun s Q E ⟨x,k,e⟩ hQ=>x4 ⟨_,e,rfl⟩ (fun Q' E' q=>endA (by simp[hh]) hw e x q) fun h' kp=>hQ h' s.toks fun b o hb z=>kp b o (by simpa using hb) z
 self:=fun i s Q E ⟨x,k,e⟩ q=>xY ⟨_,e,rfl⟩ q
theorem walkB(hh:A.handled=none)(hw:w.params.followText "set-order"=false)(ne:S≠I)(es:Array (Int×Value))(ep:Nat)(t:bu)(hd:iL es t=false)(hl:t.led=true)(hT:jN t):
  Walks prog w A I [I,S] [I] es.size (fun i v=>(es.toList.map (·.2))[i]? =some v) (fun i h=>j5 h S es ep t/\∃k:Nat,cH t.place k=i/\h.get? I=some (siO S (.int k 0) i es.size ep)) where
 sub:=fun b hb=>by simp at hb⊢;exact .inl hb
 frame:=fun i h h' ⟨x,k,hk,e⟩ kp=>⟨x.at fun o q=>kp S (by simp) o q,k,hk,kp I (by simp) _ e⟩
 item:=fun i s Q E hi ⟨x,k,hk,e⟩ hQ=>by
  have hx:es[i]? =some es[i]:=by simp[hi]
  refine xZ ⟨_,e,rfl⟩ fun Q' E' q=>nextB hw hd hl e x hk hx fun h' j hj e' sb=>q _ h' ?_;exact hQ _ h' s.toks (by simp[hx]) ⟨x.at fun o z=>sb.extBut S o ne z,j+1,Cj hT.up hj,e'⟩ fun b o hb z=>sb.extBut b o (by simpa using hb) z
 done:=fun s Q E ⟨x,k,hk,e⟩ hQ=>x4 ⟨_,e,rfl⟩ (fun Q' E' q=>endB (by simp[hh]) hw hd hl e x hk q) fun h' kp=>hQ h' s.toks fun b o hb z=>kp b o (by simpa using hb) z
 self:=fun i s Q E ⟨x,k,hk,e⟩ q=>xY ⟨_,e,rfl⟩ q
theorem walkC(hh:A.handled=none)(ne:S≠I)(neT:T≠I)(es:Array (Int×Value))(ep:Nat)(t:bu)(ps:List Nat)(hp:ps.Perm (aw es.size)):
  Walks prog w A I [I,S,T] [I] es.size (fun i v=>(ps.map fun p=>(es.getD p (0,.none)).2)[i]? =some v) (fun i h=>j5 h S es ep t/\h.get? T=some {cls:=.type "tuple",data:=.seq (ps.map fun(i:Nat)=>rawInt i).toArray}/\h.get? I=some (siO S (.ref T) i es.size ep)) where
 sub:=fun b hb=>by simp at hb⊢;exact .inl hb
 frame:=fun i h h' ⟨x,z,e⟩ kp=>⟨x.at fun o q=>kp S (by simp) o q,kp T (by simp) _ z,kp I (by simp) _ e⟩
 item:=fun i s Q E hi ⟨x,z,e⟩ hQ=>by
  have hl:ps.length=es.size:=by rw[hp.length_eq,aO]
  have hil:i<ps.length:=by omega
  have hm:ps[i]<es.size:=aK.mp (hp.mem_iff.mp (a9 hil));have hx:es[ps[i]]? =some es[ps[i]]:=by simp[hm]
  refine xZ ⟨_,e,rfl⟩ fun Q' E' q=>nextC (p:=ps[i]) (tk:=0) e x z rfl (by simp[hil,rawInt]) hx fun h' e' sb=>q _ h' ?_;exact hQ _ h' s.toks (by simp[hil,hm,Jx]) ⟨x.at fun o y=>sb.extBut S o ne y,sb.extBut T _ neT z,e'⟩ fun b o hb y=>sb.extBut b o (by simpa using hb) y
 done:=fun s Q E ⟨x,z,e⟩ hQ=>x4 ⟨_,e,rfl⟩ (fun Q' E' q=>endC (by simp[hh]) e x z rfl (by simp[hp.length_eq]) q) fun h' kp=>hQ h' s.toks fun b o hb y=>kp b o (by simpa using hb) y
 self:=fun i s Q E ⟨x,z,e⟩ q=>xY ⟨_,e,rfl⟩ q
end Q
namespace Q
open PySem PySem.Spec PySem.W PyProof.Rows L2
section
variable {prog:Program}{w:World}{A:Around}{E:Value->Shared->Prop}{s:Shared}
theorem ite_yes{α:Type}{M:Model}{b:Bool}{x y:Sem α}{Q:α->Shared->Prop}(hb:b=true)(h:wpAny M A x Q E s):wpAny M A (if b=true then x else y) Q E s:=by rw[if_pos hb];exact h
theorem Ak{Q:Bool->Shared->Prop}(hT:s.TypeIs (.ref S) "set")(h:Q false s):wpAny (model prog w) A (fE (.ref S)) Q E s:=by
 unfold fE;refine af (qX hT F.slot_set_len.lookup ?_);generalize hid:("set.__len__":String)=id0
 (fail_if_success (clear hid id0))
 wp_delta
 rw[show splitId id0=some ("set","__len__")from by subst hid;decide+kernel];subst hid;refine af (jP (b:=true) hT (by rw[tu];kernel_rfl) ?_);rw[if_neg (by decide)];refine ite_yes (by decide+kernel) (af (y8 hT ?_));exact aj h
noncomputable abbrev i6(acc:Array Value)(c:Nat):Obj:={cls:=.type "list",dict:=none,data:=.seq acc c,slots:= #[]}
theorem touch{c:Nat}{Q:Unit->Shared->Prop}(hL:s.heap.get? L=some (i6 acc c))(hz:acc.size<=5000)(h:∀h' c',h'.get? L=some (i6 acc c')->dq L s.heap h'->Q () {s with heap:=h'}):wpAny (model prog w) A (kF (.ref L)) Q E s:=by
 have hz1:acc.size<=sizeLine:=aR hz (by decide);unfold kF;refine af (fA hL rfl ?_ hz1 (by simp;omega));have e1:∃c1,(s.heap.update L (aS fun x=>x.push bz)).get? L=some (i6 (acc.push .none) c1):=⟨_,by rw[cj _ hL rfl];rfl⟩;obtain⟨c1,e1⟩:=e1;refine fA (s:={s with heap:=s.heap.update L (aS fun x=>x.push bz)}) e1 rfl ?_ (by simp;exact aR (by omega:acc.size+1<=5001) (by decide)) (by simp;omega);have e2:∃c2,((s.heap.update L (aS fun x=>x.push bz)).update L (aS fun x=>x.pop)).get? L=some (i6 acc c2):=⟨_,by rw[cj _ e1 rfl];simp[aS];rfl⟩;obtain⟨c2,e2⟩:=e2;exact h _ c2 e2 ((bI ..).trans (bI ..))
theorem uX{wr:List Addr}{P:Nat->Value->Prop}{St:Nat->Heap->Prop}{res:Value}{c:Nat}{R:Result->Shared->Prop}(hq:∀c' s',c'.quiet=true/\iO (model prog w) A c' R s'->Qf (.again c') s')(W:Walks prog w A.in1 I fp wr n P St)(hn:n<=sizeLine)(hLf:L∉fp)(hL:s.heap.get? L=some (i6 #[] c))(st:St 0 s.heap)
  (h:∀s' acc c',(∀b o,b∉L::wr->s.heap.get? b=some o->s'.heap.get? b=some o)->s'.gens=s.gens->s'.drawn=s.drawn->s'.os=s.os->s'.heap.get? L=some (i6 acc c')->Eb P acc n->R (.ok (.ret res)) s'):
  wpAny (model prog w) A.in1 (do
   rule "list.extend.makes-room"
   let __r<-kF (.ref L)
   (fun(__r:Unit)=>again (Code.builtin "list.extend.loop" {pos:=[cD L,cD I,res]})) __r) Qf E s:=by
 refine af (gV (af (touch hL (by simp) fun h1 c1 e1 sb=>?_)));have st1:=W.frame 0 s.heap h1 st fun b hb o e=>sb.extBut b o (fun z=>hLf (z▸hb)) e;refine aj (hq _ _ ⟨eM F.plain_extend_loop _,codeAny_extend_loopS W.toS hn _ hLf _ n 0 _ _ _ rfl (aX _) st1 e1 (Eb.nil P) fun s' acc' c' hm hS' hacc=>?_⟩);exact h s' acc' c' (fun b o hb e=>hm.heap b o hb (sb.extBut b o (fun z=>hb (by rw[z];exact aG)) e)) hm.gens hm.drawn hm.os hS' hacc
end
theorem BW(h:Eb (fun i v=>vs[i]? =some v) acc vs.length):acc.toList=vs:=by
 obtain⟨h1,h2⟩:=h;apply bg
 ·simpa using h1
 ·intro i a b
  have :vs[i]? =some acc[i]:=h2 i acc[i] (by simp);rw[aa b]at this;simpa using(aW this).symm
theorem es_map(es:Array (Int×Value)):((aw es.size).map fun p=>(es.getD p (0,.none)).2)=es.toList.map (·.2):=by
 apply bg
 ·simp
 ·intro i a b
  have hi:i<es.size:=by simpa using a
  simp[hi,Jx]
section
variable {prog:Program}{w:World}{A:Around}{E:Value->Shared->Prop}{s:Shared}
theorem AB{o:Obj}{t:bu}{Q:List Value->Shared->Prop}(hh:A.handled=none)(ho:s.heap.get? S=some o)(hc:o.cls=.type "set")(hd:o.data=.set es ep t)(hf:t.fits es.size=true)(hsb:es.size<fK)(hT:jN t)(hled:w.params.followText "set-order"=false->t.led=true)
  (hQ:∀(vs:List Value) s',vs.Perm (es.toList.map (·.2))->(∀b o,s.heap.get? b=some o->s'.heap.get? b=some o)->s'.gens=s.gens->s'.os=s.os->s.heap.objs.size<s'.heap.objs.size->Q vs s'):wpAny (model prog w) A (collect (.ref S)) Q E s:=by
 have hSl:S<s.heap.objs.size:=aA ho;have hn:es.size<=sizeLine:=nY hsb;unfold collect;refine af (wpAny_runValue (eh F.entry_proto_collect ?_));rw[c6 F.plain_proto_collect _];show wpAny _ A.in1 (newList []>>=fun l=>again (.builtin "list.__iadd__" ⟨[l,.ref S],[]⟩)) _ _ s;refine af (bV ?_);refine aj ⟨eM F.plain_list_iadd _,eh F.entry_list_iadd ?_⟩;rw[c6 F.plain_list_iadd _];have hL:(s.heap.push (i6 #[] 0)).get? s.heap.objs.size=some (i6 #[] 0):=az _ rfl;have ho1:(s.heap.push (i6 #[] 0)).get? S=some o:=ag _ ho;have hz:(s.heap.push (i6 #[] 0)).objs.size=s.heap.objs.size+1:=bw ..;have hT1:Shared.TypeIs {s with heap:=s.heap.push (i6 #[] 0)} (.ref S) "set":=⟨o,ho1,hc⟩;show wpAny _ A.in1 (dW (.ref s.heap.objs.size) (.ref S) (.ref s.heap.objs.size)) _ _ {s with heap:=s.heap.push (i6 #[] 0)};unfold dW;refine af (y8 hT1 ?_);rw[if_neg (by simp[jL];exact eA hSl)];have fin:∀(vs:List Value)(s':Shared)(acc:Array Value)(c':Nat),vs.length=es.size->vs.Perm (es.toList.map (·.2))->(∀b o,s.heap.get? b=some o->s'.heap.get? b=some o)->s'.gens=s.gens->s'.os=s.os->s'.heap.get? s.heap.objs.size=some (i6 acc c')->Eb (fun i v=>vs[i]? =some v) acc es.size->
   wpAny (model prog w) A (load s.heap.objs.size>>=fun x=>match x.data with |.seq xs _=>pure xs.toList|_=>unsupported "internal:collect") Q E s':=fun vs s' acc c' hl hp k1 k2 k3 e it=>by
  refine af (wpAny_load e ?_);rw[<-hl]at it;have :=BW it;exact aj (by rw[this];exact hQ vs s' hp k1 k2 k3 (aA e))
 refine af (HV ho1 hc hd hf hsb (fun hm=>?_) fun hm ps d hp=>?_)
 ·rw[hz]
  refine af (b8 (Ak ⟨o,ag _ ho1,hc⟩ ?_));refine ite_yes (by decide+kernel) ?_;have hI:((s.heap.push (i6 #[] 0)).push (siO S (.int 0 0) 0 es.size ep)).get? (s.heap.objs.size+1)=some (siO S (.int 0 0) 0 es.size ep):=by rw[<-hz];exact az _ rfl
  have hSA:j5 ((s.heap.push (i6 #[] 0)).push (siO S (.int 0 0) 0 es.size ep)) S es ep t:=⟨⟨o,ag _ ho1,hc,hd⟩,hf⟩;have nfp:s.heap.objs.size∉[s.heap.objs.size+1,S]:=by
   simp only[aE,cJ,or_false,not_or];exact⟨aI (dP _),eA hSl⟩
  have kp:∀(s':Shared),(∀b o,b∉s.heap.objs.size::[s.heap.objs.size+1]->((s.heap.push (i6 #[] 0)).push (siO S (.int 0 0) 0 es.size ep)).get? b=some o->s'.heap.get? b=some o)->∀b o,s.heap.get? b=some o->s'.heap.get? b=some o:=fun s' k b o e=>by
   have hb:=aA e;refine k b o ?_ (ag _ (ag _ e));simp only[aE,cJ,or_false,not_or];exact⟨aI hb,aI (bA hb)⟩
  cases hw:w.params.followText "set-order" with
  |true=>
   have hl:((ip (w.params.setOrder S ep) es).toList.map (·.2)).length=es.size:=by
    have :=(nN (w.params.setOrder S ep) es).length_eq
    simpa using this
   refine uX (s:={s with heap:=(s.heap.push (i6 #[] 0)).push (siO S (.int 0 0) 0 es.size ep)}) (fun c' s' h=>h) (walkA (A:=A.in1) (by simp[hh]) hw (aI (bA hSl)) es ep t) hn nfp (ag _ hL) ⟨hSA,0,hI⟩ fun s' acc c' k1 k2 k3 k4 e it=>?_;exact fin _ s' acc c' hl ((nN (w.params.setOrder S ep) es).map _) (kp s' k1) k2 k4 e it
  |false=>
   have hdr:iL es t=false:=by rw[hw]at hm;simpa using hm
   refine uX (s:={s with heap:=(s.heap.push (i6 #[] 0)).push (siO S (.int 0 0) 0 es.size ep)}) (fun c' s' h=>h) (walkB (A:=A.in1) (by simp[hh]) hw (aI (bA hSl)) es ep t hdr (hled hw) hT) hn nfp (ag _ hL) ⟨hSA,0,Ci hT.up,hI⟩ fun s' acc c' k1 k2 k3 k4 e it=>?_;exact fin _ s' acc c' (by simp) (dN _) (kp s' k1) k2 k4 e it
 ·rw[hz]
  have hz2:((s.heap.push (i6 #[] 0)).push {cls:=.type "tuple",data:=.seq (ps.map fun(i:Nat)=>rawInt i).toArray}).objs.size=s.heap.objs.size+1+1:=by rw[bw,hz]
  have hT2:((s.heap.push (i6 #[] 0)).push {cls:=.type "tuple",data:=.seq (ps.map fun(i:Nat)=>rawInt i).toArray}).get? (s.heap.objs.size+1)=some {cls:=.type "tuple",data:=.seq (ps.map fun(i:Nat)=>rawInt i).toArray}:=by rw[<-hz];exact az _ rfl
  have ho2:((s.heap.push (i6 #[] 0)).push {cls:=.type "tuple",data:=.seq (ps.map fun(i:Nat)=>rawInt i).toArray}).get? S=some o:=ag _ ho1;have hL2:((s.heap.push (i6 #[] 0)).push {cls:=.type "tuple",data:=.seq (ps.map fun(i:Nat)=>rawInt i).toArray}).get? s.heap.objs.size=some (i6 #[] 0):=ag _ hL;have kp2:∀b o,s.heap.get? b=some o->((s.heap.push (i6 #[] 0)).push {cls:=.type "tuple",data:=.seq (ps.map fun(i:Nat)=>rawInt i).toArray}).get? b=some o:=fun b o e=>ag _ (ag _ e);generalize(s.heap.push (i6 #[] 0)).push {cls:=.type "tuple",data:=.seq (ps.map fun(i:Nat)=>rawInt i).toArray}=h2 at *;refine af (b8 (Ak ⟨o,ag _ ho2,hc⟩ ?_));refine ite_yes (by decide+kernel) ?_;have hI:(h2.push (siO S (.ref (s.heap.objs.size+1)) 0 es.size ep)).get? (s.heap.objs.size+1+1)=some (siO S (.ref (s.heap.objs.size+1)) 0 es.size ep):=by rw[<-hz2];exact az _ rfl
  have nfp:s.heap.objs.size∉[s.heap.objs.size+1+1,S,s.heap.objs.size+1]:=by
   simp only[aE,cJ,or_false,not_or];exact⟨aI (bA (dP _)),eA hSl,aI (dP _)⟩
  have hl:(ps.map fun p=>(es.getD p (0,.none)).2).length=es.size:=by rw[ai,hp.length_eq,aO]
  refine uX (s:={s with drawn:=d,heap:=h2.push (siO S (.ref (s.heap.objs.size+1)) 0 es.size ep)}) (fun c' s' h=>h) (walkC (A:=A.in1) (by simp[hh]) (aI (bA (bA hSl))) (aI (dP _)) es ep t ps hp) hn nfp (ag _ hL2)
   ⟨⟨⟨o,ag _ ho2,hc,hd⟩,hf⟩,ag _ hT2,hI⟩ fun s' acc c' k1 k2 k3 k4 e it=>?_
  refine fin _ s' acc c' hl ((hp.map _).trans (by rw[es_map])) (fun b o q=>?_) k2 k4 e it;have hb:=aA q;refine k1 b o ?_ (ag _ (kp2 b o q));simp only[aE,cJ,or_false,not_or];exact⟨aI hb,aI (bA (bA hb))⟩
end
theorem Fb{xs:List Value}(p:vs.Perm xs):∀{ks:List Int},bW xs ks->∃ms:List Int,ms.Perm ks/\bW vs ms:=by
 induction p with
 |nil=>intro ks h;exact⟨ks,dN _,h⟩
 |cons x p ih=>
  intro ks h;cases h with
  |cons k t h=>
   obtain⟨ms,a,b⟩:=ih h;exact⟨k::ms,a.cons k,.cons k t b⟩
 |swap x y l=>
  intro ks h;cases h with
  |cons k t h=>cases h with
   |cons k' t' h=>exact⟨k'::k::_,vM _ _ _,.cons k' t' (.cons k t h)⟩
 |trans p q ih1 ih2=>
  intro ks h;obtain⟨ms,a,b⟩:=ih2 h;obtain⟨ms',a',b'⟩:=ih1 b;exact⟨ms',a'.trans a,b'⟩
section
variable {prog:Program}{w:World}{A:Around}{E:Value->Shared->Prop}{s:Shared}
theorem Bs{o:Obj}{t:bu}{ks:List Int}{Q:Value->Shared->Prop}(hh:A.handled=none)(ho:s.heap.get? S=some o)(hc:o.cls=.type "set")(hd:o.data=.set es ep t)(hf:t.fits es.size=true)(h64:es.size<64)(hT:jN t)(hled:w.params.followText "set-order"=false->t.led=true)
  (hk:bW (es.toList.map (·.2)) ks)(nd:ks.Nodup)
  (h:∀(ms:List Int)(vs:List Value)(s':Shared)(l:Addr)(c:Nat),ms.Perm ks->bW vs ms->(∀b o,s.heap.get? b=some o->s'.heap.get? b=some o)->s'.gens=s.gens->s'.os=s.os->s.heap.objs.size<=l->s'.heap.get? l=some (seqObj "list" (fZ (ltI ms) vs).toArray c)->Q (.ref l) s'):
  wpAny (model prog w) A (call (.builtin "sorted") [.ref S]) Q E s:=by
 refine lu kind_sorted plain_sorted entry_sorted (args_sorted1 _) ?_;unfold Builtin.«sorted»;refine af (m:=checkCount "sorted" 1 1 _) (aj (af (AB (by simp[hh]) ho hc hd hf (gQ h64 (by decide)) hT hled fun vs s' hp kp k2 k3 k4=>af (oj ?_ ?_))))
 ·obtain⟨ms,m1,m2⟩:=Fb hp hk
  have hl:vs.length=ms.length:=m2.length;have hv:vs.length<64:=by
   have :=hp.length_eq
   simp at this;omega
  have hg:(s'.heap.push (seqObj "list" vs.toArray 0)).get? s'.heap.objs.size=some (seqObj "list" vs.toArray 0):=az _ rfl;have ndm:ms.Nodup:=m1.nodup_iff.mpr nd;show wpAny _ _ _ _ _ {s' with heap:=s'.heap.push (seqObj "list" vs.toArray 0)};refine af (b8 (cM Fy ⟨_,hg,rfl⟩ Cq (CH (lt:=ltI ms) (h0:=s'.heap) (by rw[hl];exact totI ndm) hg (fun b o e=>⟨ag _ e,aI (aA e)⟩) hv (fun h2=>Fu m2 h2) ⟨_,rfl,?_⟩) (args_list_sort _)));refine aj ⟨_,rfl,?_⟩;obtain⟨c,hc'⟩:=sortedHeap_at (out:=(fZ (ltI ms) vs).toArray) hg;refine h ms vs _ _ c m1 m2 (fun b o e=>?_) k2 k3 (ku k4) hc';have e':=kp b o e;have hb:=aA e';show(sortedHeap (s'.heap.push (seqObj "list" vs.toArray 0)) s'.heap.objs.size vs (fZ (ltI ms) vs).toArray).get? b=some o;rw[sortedHeap_old (aI hb) (by rw[Fz];exact bA hb)];exact ag _ e'
 ·have :=hp.length_eq
  simp at this;exact aR (by omega:vs.length<=64) (by decide)
end
theorem yv(ks:List Key):(met ks).Nodup:=by
 unfold met;have g:∀(l acc:List Key),acc.Nodup->(l.foldl more acc).Nodup:=by
  intro l
  induction l with
  |nil=>exact fun _ h=>h
  |cons k l ih=>
   intro acc h;refine ih _ ?_;unfold more;split
   ·exact h
   ·rename_i c
    refine dm.mpr ⟨h,by simp,fun a ha b hb=>?_⟩;rw[a6]at hb;subst hb;intro z;subst z;exact c (jg.mpr ha)
 exact g ks [] iR
theorem wR{α:Type}[DecidableEq α]:∀{m l:List α},m.Nodup->(∀x∈m,x∈l)->l.length=m.length->l.Perm m
 | [],l,_,_,h=>by
  rw[oq]at h;rw[List.eq_nil_of_length_eq_zero h]
 |a::m,l,nd,hs,h=>by
  have ha:a∈l:=hs a aG;have p:=pO ha;rw[bN]at nd;have hl:=p.length_eq;rw[bB]at hl h;have q:=wR (m:=m) (l:=l.erase a) nd.2 (fun x hx=>(pP (fun z:x=a=>nd.1 (by rw[<-z];exact hx))).mpr (hs x (aM _ hx))) (by omega);exact p.trans (q.cons a)
section
variable {prog:Program}{w:World}
theorem Du{k:Int}{v:Value}(h:(cn prog w).is (.inl k) v=true):∃t,v=.int k t:=by
 rw[BO]at h;exact Value.isInt_shape (k:=k) (v:=v) h
theorem tO{l:List (Int×Value)}(h:ElemsOf (cn prog w) l)(hi:∀e∈l,∀k,(cn prog w).is k e.2=true->∃n:Int,k=.inl n):∃ms:List Int,bW (l.map (·.2)) ms:=by
 induction l with
 |nil=>exact⟨[],.nil⟩
 |cons e l ih=>
  obtain⟨ms,r⟩:=ih h.tail fun e' he'=>hi e' (aM _ he');obtain⟨⟨k,hk,_⟩,_⟩:=h.head;obtain⟨n,rfl⟩:=hi e aG k hk;obtain⟨t,e2⟩:=Du hk;refine⟨n::ms,?_⟩;rw[bK,e2];exact .cons n t r
theorem HZ:∀{vs:List Value}{ms:List Int},bW vs ms->∀n,n∈ms↔∃v∈vs,(cn prog w).is (.inl n) v=true:=by
 intro vs ms r
 induction r with
 |nil=>simp
 |cons k t r ih=>
  intro n;rw[aE,ih n];constructor
  ·rintro(rfl|⟨v,hv,e⟩)
   ·exact⟨_,aG,mK _ _ _ _⟩
   ·exact⟨v,aM _ hv,e⟩
  ·rintro⟨v,hv,e⟩
   rcases aE.mp hv with rfl|hv
   ·obtain⟨t',e'⟩:=Du e
    cases e';exact .inl rfl
   ·exact .inr ⟨v,hv,e⟩
theorem Ew(x:qQ (cn prog w) h a (has (met (ns.map .inl))) (met (ns.map .inl)).length led):
  ∃o es ep t ms,h.get? a=some o/\o.cls=.type "set"/\o.data=.set es ep t/\t.fits es.size=true/\es.size<=ns.length/\jN t/\t.led=led/\bW (es.toList.map (·.2)) ms/\ms.Nodup/\∀n,n∈ms↔n∈ns:=by
 obtain⟨o,es,ep,t,ho,hx,hd,hl,hm,hb,hf,hn,hT,hL⟩:=x;have hle:=BP (ns.map (dE:Int->Key));rw[ai]at hle;have inl:∀e∈es.toList,∀k,(cn prog w).is k e.2=true->∃n:Int,n∈ns/\k=.inl n:=fun e he k hk=>by
  have :=jW.mp (jg.mp ((hm k).mpr ⟨e,he,hk⟩))
  obtain⟨n,hn,rfl⟩:=ay.mp this;exact⟨n,hn,rfl⟩
 obtain⟨ms,r⟩:=tO hl fun e he k hk=>let⟨n,_,e⟩:=inl e he k hk;⟨n,e⟩;have mem:∀n,n∈ms↔n∈ns:=fun n=>by
  rw[HZ (prog:=prog) (w:=w) r n];constructor
  ·rintro⟨v,hv,e⟩
   obtain⟨e',he',rfl⟩:=ay.mp hv;obtain⟨n',hn',z⟩:=inl e' he' _ e;cases z;exact hn'
  ·intro h
   obtain⟨e,he,hk⟩:=(hm (.inl n)).mp (jg.mpr (jW.mpr (rj h)));exact⟨e.2,rj he,hk⟩
 have len:ms.length=es.size:=by
  have :=r.length
  simp at this;omega
 have p:(ms.map (dE:Int->Key)).Perm (met (ns.map .inl)):=wR (yv _) (fun x hx=>by
  obtain⟨n,hn,rfl⟩:=ay.mp (jW.mp hx);exact rj ((mem n).mpr hn)) (by rw[ai];omega)
 have nd:(ms.map (dE:Int->Key)).Nodup:=p.nodup_iff.mpr (yv _);exact⟨o,es,ep,t,ms,ho,hx.1,hd,hf,by omega,hT,hL,r,(cU.mp nd).imp fun h z=>h (congrArg _ z),mem⟩
end
end Q
namespace L2
open PySem PySem.Spec PyProof.Rows Q
section
variable {X:Cx}
theorem Inv.same{σ:List (Option V)}(I:Inv X pins σ H s)(h1:s'.heap=s.heap)(h2:s'.gens=s.gens)(h3:s'.os=s.os):Inv X pins σ H s':=by
 obtain⟨h,g,d,t,o⟩:=s;obtain⟨h',g',d',t',o'⟩:=s';obtain rfl:h'=h:=h1;obtain rfl:g'=g:=h2;obtain rfl:o'=o:=h3;exact⟨I.ok,I.os,I.bare,I.base,I.loc,I.cell,I.free,I.freeC,I.pin,I.hok,I.len⟩
noncomputable def zv(K:ah)(ta:TA):TE:=fun σ H Q=>ta σ H fun vs H1=>∃(p:Addr)(ns:List Int),vs=[V.ref p]/\SqL K H1 p (ns.map V.int)/\ns.length<64/\
 ∀(ms:List Int) l,ms.Nodup->(∀x,x∈ms↔x∈ns)->H1 l=none->Q (.ref l) (upd H1 l (.lst (sortI ms)))
theorem yU:eJ "sorted"=some (.builtin "sorted"):=by decide+kernel
theorem Fo:eJ "set"=some (.type "set"):=by decide+kernel
theorem BD{a:Expr}{ta:TA}{p:Pos}(hc:X.calm=true)(hg:Gl X "sorted")(hm:X.mg "sorted"=none)(hg':Gl X "set")(hm':X.mg "set"=none)(ha:PA X [a] ta)(hs:bZ [a] X.env=[(false,eval a X.env)]:=by rfl):
  PE X (.Call (.Name "sorted" p) [.Call (.Name "set" p') [a] [] pos'] [] pos) (zv X.K ta):=by
 intro pins s σ H Q I h;refine Call_ (jy I hg hm yU (pN (r9 ?_) rfl rfl));refine Call_ (jy I hg' hm' Fo (cI (thn (ha pos' pins s σ H _ I h) fun us s1 ⟨vs,H1,I1,r1,q1⟩=>?_) hs rfl));obtain⟨pl,ns,e,hq,h64,q⟩:=q1;subst e;obtain⟨u,rfl,rx⟩:=vals1 r1;cases rx;obtain⟨its,r',plist,_⟩:=I1.list hq;have hlen:=r'.length;rw[ai]at hlen;have r2:bD ((ns.map (dE:Int->Key)).map kV) its:=by
  rw[bq];exact r'
 refine wL (ks:=ns.map .inl) (I1.ok.hd hc) plist.isList (by rw[au,ai];exact hlen) (fun i v e=>yC r2 i v (by simpa using e)) (by rw[au,<-hlen];unfold fK;omega) fun h' tk hS kp=>?_;obtain⟨o,es,ep,t,ms,ho,hx,hd,hf,hsz,hT,hL,r,nd,mem⟩:=Ew hS;refine aj ?_;refine Bs (s:={s1 with heap:=h',toks:=tk}) (I1.ok.hd hc) ho hx hd hf (by omega) hT (fun z=>by rw[hL,z];rfl) r nd fun ms' vs s' l c hp hv kp' k2 k3 k4 k5=>?_;have nd':ms'.Nodup:=hp.nodup_iff.mpr nd;have hlm:ms'.length=es.size:=by
  have a1:=hp.length_eq;have a2:=r.length;simp at a2;omega
 have kk:∀b o,s1.heap.get? b=some o->s'.heap.get? b=some o:=fun b o e=>kp' b o (kp b o (aA e) e);have hlt:s1.heap.objs.size<h'.objs.size:=aA ho;have hle:s1.heap.objs.size<=l:=aR (ku hlt) k4;have hz2:(sortI ms').length<=sizeLine:=by
  unfold sortI;rw[ai,Hk nd'];exact fI (by omega)
 exact⟨.ref l,_,(I1.laid (h':=s'.heap) (t':=s1.toks) kk hle (show dQ X.prog X.w _ _ _ (.lst (sortI ms'))from⟨hz2,_,c,outI nd' (rB hv),k5⟩)).same rfl k2 k3,rfl,q _ _ nd' (fun x=>(hp.mem_iff).trans (mem x)) (I1.hok.fresh hle)⟩
end
section
variable {X:Cx}
noncomputable def tSortSetL(K:ah)(ta:TA):TE:=fun σ H Q=>ta σ H fun vs H1=>∃(p:Addr)(ys:List V)(ps:List (List Int))(m:Nat),vs=[V.ref p]/\SqL K H1 p ys/\ps.length<=18/\(∀k∈ps,k.length=m)/\IntKeys H1 ys ps/\
 ∀(zs:List V)(qs:List (List Int)) l,qs.Nodup->(∀x,x∈qs↔x∈ps)->IntKeys H1 zs qs->H1 l=none->Q (.ref l) (upd H1 l (.lst (cg .non qs zs)))
end
end L2
set_option maxHeartbeats 1000000
namespace Q
open PySem PySem.Spec PySem.W PyProof.Rows L2
section
variable {prog:Program}{w:World}{A:Around}{E:Value->Shared->Prop}{s:Shared}{lt:Nat->Nat->Bool}{vs:List Value}
open Classical in
end
end Q
set_option maxHeartbeats 3200000
namespace L2
open PySem PySem.Spec PyProof.Rows Q
section
variable {X:Cx}
noncomputable def sortT(ks:List Str):List V:=sortBy .non ks (ks.map V.str)
theorem qd{α:Type}[DecidableEq α]:∀{l m:List α},l.Nodup->(∀x∈l,x∈m)->l.length<=m.length
 | [],_,_,_=>aX _
 |a::l,m,nd,h=>by
  rw[bN]at nd;have ha:=h a aG;have p:=(pO ha).length_eq;have :=qd (m:=m.erase a) nd.2 fun x hx=>(pP fun z:x=a=>nd.1 (z▸hx)).mpr (h x (aM _ hx));rw[bB]at p⊢;omega
end
end L2
set_option maxHeartbeats 1000000
namespace L2
open PySem PySem.Spec PyProof.Rows
section
variable {prog:Program}{w:World}{A:Around}{E:Value->Shared->Prop}{s:Shared}
theorem Ih{z:Addr}{Q:Bool->Shared->Prop}(hT:s.TypeIs (.ref z) "list_reverseiterator")(h:Q false s):wpAny (model prog w) A (fE (.ref z)) Q E s:=by
 unfold fE;refine af (qX (r:=none) hT (by rw[qZ,jI];kernel_rfl) ?_);show wpAny _ _ (specialOf (.ref z) "__length_hint__">>=_) _ _ _;refine af (qX (r:=some (.builtin "list_reverseiterator.__length_hint__")) hT (by rw[qZ,jI];kernel_rfl) ?_);dsimp only;have hs:splitId "list_reverseiterator.__length_hint__"=some ("list_reverseiterator","__length_hint__"):=by decide+kernel
 rw[hs];dsimp only;refine af (jP (b:=true) hT (by rw[tu];kernel_rfl) ?_);refine qY (fun hab=>absurd hab (by decide)) (fun _=>?_);refine qY (fun _=>?_) (fun hab=>absurd (by decide+kernel) hab);refine qY (fun hab=>absurd hab (by decide+kernel)) (fun _=>aj h)
theorem GN{R:Result->Shared->Prop}(hh:A.handled=none)(hit:s.heap.IsRevIter it l ((items.size:Int)-1))(hl:s.heap.IsList l items)(hne:l≠it)(hSi:S≠it)(hSl:S≠l)(hn:items.size<=sizeLine)(hS:s.heap.get? S=some {cls:=.type "list",data:=.seq #[]})
  (hR:∀h' tk acc' c',(∀b o,b≠S->b≠it->s.heap.get? b=some o->h'.get? b=some o)->h'.get? S=some {cls:=.type "list",dict:=none,data:=.seq acc' c',slots:= #[]}->Eb (fun i v=>items[items.size-1-i]? =some v) acc' items.size->R (.ok (.ret .none)) {s with heap:=h',toks:=tk}):
  wpAny (model prog w) A.in1 (Builtin.«list.__init__» ⟨[.ref S,.ref it],[]⟩)
   (fun fin s'=>match fin with |.done f=>R (.ok f) s'|.again c'=>c'.quiet=true/\iO (model prog w) A c' R s') (fun e s'=>R (.error e) s') s:=by
 show wpAny _ _ (do let old<-vS (.ref S);Builtin.List.listUpdate (.ref S) (fun _=> #[]);letGo old.toList.reverse;dW (.ref S) (.ref it) .none) _ _ s;refine af ?_;unfold vS;refine af (fJ hS rfl (aj ?_));show wpAny _ _ (updateSeq S (fun _=> #[])>>=fun _=>letGo (#[]:Array Value).toList.reverse>>=fun _=>dW (.ref S) (.ref it) .none) _ _ s;refine af (qW hS rfl ?_);have hS₂:=cj (aS (fun _=>(#[]:Array Value))) hS rfl;have oth:∀b o,b≠S->s.heap.get? b=some o->(s.heap.update S (aS (fun _=>(#[]:Array Value)))).get? b=some o:=fun b o hb e=>(aT _ _ (bQ hb)).trans e;refine af (km ?_);have hit2:Heap.IsRevIter (s.heap.update S (aS (fun _=>(#[]:Array Value)))) it l ((items.size:Int)-1):=hit.at fun o e=>oth it o hSi.symm e;unfold dW;refine af (y8 (T:="list_reverseiterator") (vN (s:={s with heap:=s.heap.update S _}) hit2) ?_);have h1:jL (.ref S) (.ref it)=false:=by simp[jL,hSi]
 have h2:(fH "list_reverseiterator"==fH "list")=false:=by decide
 have h3:(fH "list_reverseiterator"==fH "tuple")=false:=by decide
 simp only[h1,h2,h3,mf,aQ,if_false];refine af (wpAny_pyIter_revIter (s:={s with heap:=s.heap.update S _}) hit2 ?_);refine af (b8 (Ih (vN (s:={s with heap:=s.heap.update S _}) hit2) ?_));refine qY (fun hab=>absurd hab ak) (fun _=>aj ⟨eM F.plain_extend_loop _,?_⟩);have W:=Walks.listRev (prog:=prog) (w:=w) (A:=A.in1) hh it l hne items;refine codeAny_extend_loopS W.toS hn S (by simp only[aE,cJ,or_false,not_or];exact⟨hSi,hSl⟩) .none items.size 0 _ _ _ (FH _) (aX _) ⟨aX _,by rw[show(items.size:Int)-1-((0:Nat):Int)=(items.size:Int)-1 by omega];exact hit2,hl.at fun o e=>oth l o hSl.symm e⟩ hS₂ (Eb.nil _) fun s' acc' c' hm hS' hacc=>?_;rw[Moved.eq_with hm];refine hR s'.heap s'.toks acc' c' (fun b o hb hi e=>hm.heap b o (fun hmem=>?_) (oth b o hb e)) hS' hacc;rcases aE.mp hmem with e'|hmem
 ·exact hb e'
 ·exact hi (a6.mp hmem)
theorem wq{Q:Value->Shared->Prop}(hh:A.handled=none)(hit:s.heap.IsRevIter it l ((items.size:Int)-1))(hl:s.heap.IsList l items)(hne:l≠it)(hn:items.size<=sizeLine)
  (hQ:∀h' tk acc' c',(∀b o,b≠it->s.heap.get? b=some o->h'.get? b=some o)->h'.get? s.heap.objs.size=some {cls:=.type "list",dict:=none,data:=.seq acc' c',slots:= #[]}->Eb (fun i v=>items[items.size-1-i]? =some v) acc' items.size->Q (.ref s.heap.objs.size) {s with heap:=h',toks:=tk}):
  wpAny (model prog w) A (call (.type "list") [.ref it]) Q E s:=by
 refine callType_codes (Q₁:=fun obj s₁=>obj=.ref s.heap.objs.size/\s₁={s with heap:=s.heap.push {cls:=.type "list",data:=.seq #[]}}) F.called_list (F.typeCall_list_1 _) F.entry_list_init
  (code_list_new _ ⟨rfl,rfl⟩) fun obj s₁ h₁=>?_
 obtain⟨rfl,rfl⟩:=h₁;have hS:(s.heap.push {cls:=.type "list",data:=.seq #[]}).get? s.heap.objs.size=some {cls:=.type "list",data:=.seq #[]}:=az _ rfl;have l1:it<s.heap.objs.size:=let⟨_,e,_⟩:=hit;aA e;have l2:l<s.heap.objs.size:=let⟨_,e,_⟩:=hl;aA e;refine⟨⟨_,hS,rfl⟩,F.args_list_init_2 _ _,GN (A:=A.in1) hh (hit.at fun o e=>ag _ e) (hl.at fun o e=>ag _ e) hne (eA l1) (eA l2) hn hS fun h' tk acc' c' hk hS' hacc=>⟨rfl,hQ h' tk acc' c' (fun b o hb e=>hk b o (aI (aA e)) hb (ag _ e)) hS' hacc⟩⟩
end
theorem EC(h:Eb (fun i v=>its.toArray[its.toArray.size-1-i]? =some v) acc its.toArray.size):acc.toList=its.reverse:=by
 obtain⟨h1,h2⟩:=h;rw[au]at h1;apply bg
 ·rw[rm]
  exact h1
 ·intro i a b
  have :=h2 i acc[i] (by simp)
  rw[au,List.getElem?_toArray,aa (by simp at b;omega)]at this;rw[List.getElem_reverse];simpa using(aW this).symm
section
variable {X:Cx}
noncomputable def tLRev(K:ah)(ta:TA):TE:=fun σ H Q=>ta σ H fun vs H1=>∃a xs,vs=[.ref a]/\SqL K H1 a xs/\∀p,H1 p=none->Q (.ref p) (upd H1 p (.lst xs.reverse))
theorem boot_reversed:eJ "reversed"=some (.type "reversed"):=by decide+kernel
theorem pe_lrev{a:Expr}{ta:TA}{p:Pos}(hc:X.calm=true)(hg':Gl X "list")(hm':X.mg "list"=none)(hg:Gl X "reversed")(hm:X.mg "reversed"=none)(ha:PA X [a] ta)(hs:bZ [a] X.env=[(false,eval a X.env)]:=by rfl):
  PE X (.Call (.Name "list" p) [.Call (.Name "reversed" p') [a] [] pos'] [] pos) (tLRev X.K ta):=by
 intro pins s σ H Q I h;refine Call_ (jy I hg' hm' kA (cI (r9 ?_) rfl rfl));refine Call_ (jy I hg hm boot_reversed (cI (thn (ha pos' pins s σ H _ I h) fun us s1 ⟨vs,H1,I1,r1,q1⟩=>?_) hs rfl));obtain⟨b,xs,rfl,hq,q⟩:=q1;obtain⟨u,rfl,ru⟩:=r1.one;cases ru;obtain⟨its,rv,pl,hz⟩:=I1.list hq;have hl:=rv.length;refine call_reversed_list pl.isList ?_;refine aj ?_;have I2:Inv X pins σ H1 {s1 with heap:=s1.heap.push (revObj b ((its.toArray.size:Int)-1))}:=I1.kept (t':=s1.toks) fun b o e=>ag _ e;obtain⟨o,eo,ho⟩:=id pl.isList;have hb:b<s1.heap.objs.size:=aA eo;refine wq (s:={s1 with heap:=s1.heap.push (revObj b ((its.toArray.size:Int)-1))}) (I1.ok.hd hc) ⟨_,az _ rfl,rfl,rfl⟩ (pl.isList.at fun o e=>ag _ e) (aI hb) (by rw[au];omega) fun h' tk acc' c' hk hS hacc=>?_;have hsz:s1.heap.objs.size<=(s1.heap.push (revObj b ((its.toArray.size:Int)-1))).objs.size:=by rw[bw];exact eX _
 exact⟨.ref _,_,I1.laid (t':=tk) (o:=.lst xs.reverse) (fun c o e=>hk c o (aI (aA e)) (ag _ e)) hsz ⟨by rw[rm];exact hz,acc'.toList,c',by rw[EC hacc];exact rv.reverse,hS⟩,rfl,q _ (I1.hok.fresh hsz)⟩
end
end L2
namespace L2
open PySem PySem.Spec PyProof.Rows Q
noncomputable def rSortA(K:ah):List V->Hp->VK->Prop:=fun xs H Q=>∃p ks,xs=[V.ref p]/\SqL K H p (ks.map V.str)/\ks.length<1000/\ks.Nodup/\∀l,H l=none->Q (.ref l) (upd H l (.lst (sortT ks)))
end L2
namespace Q
open PySem PySem.Spec PySem.W PyProof.Rows L2
noncomputable abbrev Tri:=Int×Str×Str
noncomputable def t3(x y:Tri):Bool:=decide (x.1<y.1)||(decide (x.1=y.1)&&(tlt x.2.1 y.2.1||(decide (x.2.1=y.2.1)&&tlt x.2.2 y.2.2)))
def DZ(H:Hp)(ys:List V)(ps:List Tri):Prop:=Paired (fun v k=>∃a,v=V.ref a/\H a=some (.tup [.int k.1,.str k.2.1,.str k.2.2])) ys ps
noncomputable def rSort3(K:ah):List V->Hp->VK->Prop:=fun xs H Q=>∃p ys ps,xs=[V.ref p]/\SqL K H p ys/\ps.length<=9000/\ps.Nodup/\DZ H ys ps/\∀l zs qs,H l=none->DZ H zs qs->qs.Perm ps->qs.Pairwise (fun a b=>t3 a b=true)->Q (.ref l) (upd H l (.lst zs))
end Q
set_option genInjectivity false
set_option genSizeOf false
namespace R
open PySem PySem.Spec PyProof.Rows L2
inductive Bf where
 |len|isinstance|all|list|tuple|set|min|max|int|lend|sortl|minl|maxl|sortt
 deriving DecidableEq
noncomputable def Bf.name:Bf->Str
 |.len=>"len" |.isinstance=>"isinstance" |.all=>"all" |.list=>"list" |.tuple=>"tuple" |.set=>"set" |.min=>"min" |.max=>"max" |.int=>"int" |.lend=>"len" |.sortl=>"sorted" |.minl=>"min" |.maxl=>"max" |.sortt=>"sorted"
noncomputable def Bf.val:Bf->Value
 |.len=>.builtin "len" |.isinstance=>.builtin "isinstance" |.all=>.builtin "all" |.list=>.type "list" |.tuple=>.type "tuple" |.set=>.type "set" |.min=>.builtin "min" |.max=>.builtin "max" |.int=>.type "int" |.lend=>.builtin "len" |.sortl=>.builtin "sorted" |.minl=>.builtin "min" |.maxl=>.builtin "max" |.sortt=>.builtin "sorted"
theorem Bf.boot:∀b:Bf,eJ b.name=some b.val
 |.len=>PySem.boot_len|.isinstance=>boot_isinstance|.all=>boot_all|.list=>kA|.tuple=>vJ
 |.set=>by decide+kernel|.min=>by decide+kernel|.max=>by decide+kernel|.int=>wy|.lend=>PySem.boot_len|.sortl=>by decide+kernel|.minl=>by decide+kernel|.maxl=>by decide+kernel|.sortt=>by decide+kernel
theorem Bf.plain:∀b:Bf,b.name≠"__name__"/\(b.name==("__debug__":Str))=false:=by
 intro b;cases b<;>exact⟨by decide+kernel,by decide+kernel⟩
inductive Ty where
 |int|bool|str|list|tuple|dict|valueError
 deriving DecidableEq
noncomputable def Ty.name:Ty->Str
 |.int=>"int" |.bool=>"bool" |.str=>"str" |.list=>"list" |.tuple=>"tuple" |.dict=>"dict" |.valueError=>"ValueError"
noncomputable def Ty.t:Ty->String
 |.int=>"int" |.bool=>"bool" |.str=>"str" |.list=>"list" |.tuple=>"tuple" |.dict=>"dict" |.valueError=>"ValueError"
theorem Ty.boot:∀b:Ty,eJ b.name=some (.type b.t)
 |.int=>wy|.bool=>PyProof.Rows.boot_bool|.str=>PyProof.Rows.boot_str|.list=>kA|.tuple=>vJ|.dict=>PyProof.Rows.boot_dict|.valueError=>by decide+kernel
theorem Ty.plain:∀b:Ty,b.name≠"__name__"/\(b.name==("__debug__":Str))=false:=by
 intro b;cases b<;>exact⟨by decide+kernel,by decide+kernel⟩
noncomputable def j8(K:ah):Operator->R2
 |.Add=>fun x y H Q=>(rI0 fun i j=>.int (i+j)) x y H Q\/(∃i j,x=.str i/\y=.str j/\i.length+j.length<=sizeLine/\Q (.str (i++j)) H)\/rCat x y H Q\/False
 |.Sub=>rI0 fun i j=>.int (i-j)
 |.Mult=>fun x y H Q=>(rI Cn fun i j=>.int (i*j)) x y H Q\/rRep x y H Q\/GS x y H Q
 |.Mod=>rI (fun _ j=>0<j) fun i j=>.int (i%j)
 |.FloorDiv=>rI CDiv fun i j=>.int (i/j)
 |.Pow=>rI Jj fun i j=>.int (i^j.toNat)
 |.RShift=>rI (fun _ j=>0<=j) fun i j=>.int (i/2^j.toNat)
 |.LShift=>rI Jj fun i j=>.int (i*2^j.toNat)
 |.BitAnd=>rI0 fun i j=>.int (iD i j)
 |.BitXor=>rI0 fun i j=>.int (jV i j)
 |_=>fun _ _ _ _=>False
noncomputable def gh(K:ah):CmpOp->R2
 |.Eq=>rEqD K
 |.NotEq=>rNeD K
 |.Lt=>rI0 fun i j=>.bl (decide (i<j))
 |.LtE=>rI0 fun i j=>.bl (decide (i<=j))
 |.Gt=>rI0 fun i j=>.bl (decide (j<i))
 |.GtE=>rI0 fun i j=>.bl (decide (j<=i))
 |.Is=>fun x y H Q=>y=.non/\Q (.bl (decide (x=.non))) H
 |.IsNot=>fun x y H Q=>y=.non/\Q (.bl (!decide (x=.non))) H
 |.In=>fun x y H Q=>((∃i j,x=.str i/\y=.str j/\Q (.bl (!(gH j i 0 j.length 1).isEmpty)) H)\/rInD K false x y H Q)\/rIn K false x y H Q
 |.NotIn=>fun x y H Q=>((∃i j,x=.str i/\y=.str j/\Q (.bl (!(!(gH j i 0 j.length 1).isEmpty))) H)\/rInD K true x y H Q)\/rIn K true x y H Q
noncomputable def rSlc(K:ah):V->Option Int->Option Int->Hp->VK->Prop:=fun x lo hi H Q=>rSlL K x lo hi H Q\/rSlS x lo hi H Q
noncomputable def rBf(K:ah):Bf->List V->Hp->VK->Prop
 |.len=>fun xs H Q=>(∃p ys,xs=[.ref p]/\(SqL K H p ys\/SqT K H p ys)/\Q (.int ys.length) H)\/(∃z:Str,xs=[.str z]/\z.length<=sizeLine/\Q (.int z.length) H)\/(∃a n,xs=[V.ref a]/\H a=some (_root_.Q.zD a n)/\Q (.int n) H)
 |.isinstance=>fun xs H Q=>(∃x T t b,xs=[x,.ty T]/\mi K H x t/\iB K t (.type T)=some b/\Q (.bl b) H)\/(∃x C t b,xs=[x,.ref C]/\mi K H x t/\iB K t (.ref C)=some b/\Q (.bl b) H)
 |.all=>fun xs H Q=>∃(p:Addr)(bs:List Bool),xs=[.ref p]/\SqL K H p (bs.map V.bl)/\Q (.bl (bs.all id)) H
 |.list=>fun xs H Q=>∃p ys,xs=[.ref p]/\(SqL K H p ys\/SqT K H p ys)/\∀l,H l=none->Q (.ref l) (upd H l (.lst ys))
 |.tuple=>fun xs H Q=>∃p ys,xs=[.ref p]/\((SqL K H p ys/\∀l,H l=none->Q (.ref l) (upd H l (.tup ys)))\/(SqT K H p ys/\Q (.ref p) H))
 |.set=>Q.rSet K
 |.min=>fun xs H Q=>∃i j,xs=[.int i,.int j]/\Q (.int (if j<i then j else i)) H
 |.max=>fun xs H Q=>∃i j,xs=[.int i,.int j]/\Q (.int (if j>i then j else i)) H
 |.int=>fun xs H Q=>(∃i,xs=[.int i]/\Q (.int i) H)\/∃k,xs=[.bl k]/\Q (.int (if k then 1 else 0)) H
 |.lend=>fun xs H Q=>∃a kvs,xs=[V.ref a]/\H a=some (.dT kvs)/\Q (.int kvs.length) H
 |.sortl=>Q.GR K
 |.sortt=>Q.GQ K
 |.minl=>Q.rMinL K
 |.maxl=>Q.rMaxL K
inductive Mm where
 |append|clear|reverse|pop|index|extend
 deriving DecidableEq
noncomputable def Mm.name:Mm->Str
 |.append=>"append" |.clear=>"clear" |.reverse=>"reverse" |.pop=>"pop" |.index=>"index" |.extend=>"extend"
noncomputable def Mm.id:Mm->String
 |.append=>"list.append" |.clear=>"list.clear" |.reverse=>"list.reverse" |.pop=>"list.pop" |.index=>"list.index" |.extend=>"list.extend"
noncomputable def rMm:Mm->V->List V->Hp->VK->Prop
 |.append=>C4
 |.clear=>GV
 |.reverse=>zK
 |.pop=>fun x xs H Q=>False\/GU x xs H Q
 |.index=>fun _ _ _ _=>False
 |.extend=>C3
noncomputable def baseOk:Expr->Bool
 |.Name .. =>true|.Subscript .. =>true
 |.Call f _ _ _=>match f with
  |.Attribute .. =>true
  |_=>false
 |_=>false
mutual
inductive CE where
 |var (i:Nat)
 |con (c:Const)
 |glo (x:Str)
 |ty (t:Ty)
 |bin (op:Operator) (a b:CE)
 |cmp (op:CmpOp) (a b:CE)
 |chain (op op':CmpOp) (a b c:CE)
 |not (a:CE)
 |and (a b:CE)
 |or (a b:CE)
 |ite (c a b:CE)
 |idx (a i:CE)
 |cut (a:CE) (lo hi:CO)
 |tup (es:CL)
 |lst (es:CL)
 |call (f:Str) (es:CL)
 |bfn (b:Bf) (es:CL)
 |meth1 (m:Mm) (o a:CE)
 |idxd (a i:CE)
 |dicT
 |setd (o a b:CE)
 |sortset (a:CE)
 |lrev (a:CE)
 |comp (own:List Str) (fr:List Nat) (tg:CG) (it:CI) (cond:CO) (elt:CE)
inductive CL where
 |nil
 |cons (e:CE) (es:CL)
inductive CP where
 |nil
 |cons (k v:CE) (r:CP)
inductive CO where
 |no
 |yes (e:CE)
inductive CG where
 |name (i:Nat)
 |tup (gs:CGs)
 |sub (o i:CE)
inductive CGs where
 |nil
 |cons (g:CG) (gs:CGs)
inductive CI where
 |seq (e:CE)
 |lseq (e:CE)
 |range1 (e:CE)
 |range2 (a b:CE)
 |enumt (e:CE)
end
noncomputable def CL.len:CL->Nat
 |.nil=>0
 |.cons _ r=>r.len+1
noncomputable def CGs.len:CGs->Nat
 |.nil=>0
 |.cons _ r=>r.len+1
mutual
inductive CS where
 |asg (g:CG) (e:CE)
 |asgc (i:Nat) (e:CE)
 |expr (e:CE)
 |iff (c:CE) (a b:CB)
 |whl (c:CE) (b:CB)
 |forr (g:CG) (it:CI) (b:CB)
 |ret (e:CE)
 |retN
 |pass|brk|cont
inductive CB where
 |nil
 |hole
 |cons (s:CS) (r:CB)
end
noncomputable def HY(sc:Scope)(x:Str):Bool:=sc.names.lookup x==some .local||sc.names.lookup x==some .cell||sc.names.lookup x==some .free
noncomputable def pB(sc:Scope)(x:Str):Bool:=sc.names.lookup x==some .globalImplicit
noncomputable def zW(x:Str):Bool:=(x==("__debug__":Str))==false&&(x==("__classdict__":Str))==false
noncomputable def okCon:Const->Bool
 |.none=>true|.bool _=>true|.int _=>true|.str _=>true|_=>false
noncomputable def cv:Const->V
 |.none=>.non|.bool b=>.bl b|.int i=>.int i|.str x=>.str x|_=>.non
noncomputable def namesOf(N own:List Str)(fr:List Nat):List Str:=own++fr.map fun j=>N.getD j ""
noncomputable def lB(own:List Str)(fr:List Nat)(σ:L2.St):L2.St:=own.map (fun _=>none)++fr.map fun j=>(σ[j]?).getD none
noncomputable def qr:Expr->Bool
 |.Slice .. =>true
 |_=>false
noncomputable def isSet:Expr->Bool
 |.Set .. =>true
 |_=>false
noncomputable def vc:Expr->Bool
 |.ListComp .. =>true|.SetComp .. =>true|.DictComp .. =>true
 |_=>false
noncomputable def pz:Expr->Bool
 |.Tuple .. =>true
 |_=>false
noncomputable def yn(sc sc':Scope)(N own:List Str)(fr:List Nat):Bool:=
 decide (sc'.kind=.function)&&sc'.names.all (fun y=>decide (y.2=.cell->sc'.names.lookup y.1=some .cell))&&sc'.names.all (fun y=>decide (y.2=.local->sc'.names.lookup y.1=some .local))&&
 sc'.names.all (fun y=>decide (y.2=.free->sc.names.lookup y.1=some .cell\/sc.names.lookup y.1=some .free))&&decide ((namesOf N own fr).Nodup)&&
 fr.all (fun j=>decide (j<N.length)&&sc'.names.lookup (N.getD j "")==some .free)&&own.all (fun x=>sc'.names.lookup x==some .local||sc'.names.lookup x==some .cell)
theorem dw{P:Prop}(h:false=true):P:=(ak h).elim
theorem an{a b:Bool}(h:(a&&b)=true):a=true/\b=true:=by rwa [aN]at h
theorem sV{a:Bool}(h:(!a)=true):a=false:=by simpa using h
theorem jh{a b c:Bool}(h:(a&&b&&c)=true):a=true/\b=true/\c=true:=let⟨h,z⟩:=an h;let⟨x,y⟩:=an h;⟨x,y,z⟩
theorem qO{a b c d:Bool}(h:(a&&b&&c&&d)=true):a=true/\b=true/\c=true/\d=true:=let⟨h,z⟩:=an h;let⟨x,y,w⟩:=jh h;⟨x,y,w,z⟩
theorem and5{a b c d e:Bool}(h:(a&&b&&c&&d&&e)=true):a=true/\b=true/\c=true/\d=true/\e=true:=let⟨h,z⟩:=an h;let⟨x,y,w,v⟩:=qO h;⟨x,y,w,v,z⟩
section
variable {e:Expr}{s:Stmt}
noncomputable def l1{α:Type}(l:List α)(f:α->Bool):Bool:=match l with
 |a::r=>r.isEmpty&&f a
 | []=>false
theorem kM{α:Type}{l:List α}{f:α->Bool}(h:l1 l f=true):∃a,l=[a]/\f a=true:=by
 cases l with
 |nil=>exact dw h
 |cons a r=>
  obtain⟨h1,h⟩:=an h;cases r with
  |nil=>exact⟨a,rfl,h⟩
  |cons=>exact dw h1
noncomputable def l2{α:Type}(l:List α)(f:α->α->Bool):Bool:=match l with
 |a::r=>l1 r (f a)
 | []=>false
theorem w6{α:Type}{l:List α}{f:α->α->Bool}(h:l2 l f=true):∃a b,l=[a,b]/\f a b=true:=by
 cases l with
 |nil=>exact dw h
 |cons a r=>
  obtain⟨b,rfl,h⟩:=kM h;exact⟨a,b,rfl,h⟩
noncomputable def dNm(e:Expr)(f:Str->Pos->Bool):Bool:=match e with
 |.Name x p=>f x p
 |_=>false
theorem lK{f}(h:dNm e f=true):∃x p,e=.Name x p/\f x p=true:=by cases e<;>first |exact⟨_,_,rfl,h⟩ |exact dw h
noncomputable def dCn(e:Expr)(f:Const->Bool):Bool:=match e with
 |.Constant c _ _=>f c
 |_=>false
theorem IL{f}(h:dCn e f=true):∃c j p,e=.Constant c j p/\f c=true:=by cases e<;>first |exact⟨_,_,_,rfl,h⟩ |exact dw h
noncomputable def dBi(e:Expr)(f:Expr->Operator->Expr->Bool):Bool:=match e with
 |.BinOp a op b _=>f a op b
 |_=>false
theorem dBi_of{f}(h:dBi e f=true):∃a op b p,e=.BinOp a op b p/\f a op b=true:=by cases e<;>first |exact⟨_,_,_,_,rfl,h⟩ |exact dw h
noncomputable def dUn(e:Expr)(f:UnaryOp->Expr->Bool):Bool:=match e with
 |.UnaryOp op a _=>f op a
 |_=>false
theorem IG{f}(h:dUn e f=true):∃op a p,e=.UnaryOp op a p/\f op a=true:=by cases e<;>first |exact⟨_,_,_,rfl,h⟩ |exact dw h
noncomputable def dCm(e:Expr)(f:Expr->List CmpOp->List Expr->Bool):Bool:=match e with
 |.Compare a os es _=>f a os es
 |_=>false
theorem Ca{f}(h:dCm e f=true):∃a os es p,e=.Compare a os es p/\f a os es=true:=by cases e<;>first |exact⟨_,_,_,_,rfl,h⟩ |exact dw h
noncomputable def dC1(e:Expr)(f:Expr->CmpOp->Expr->Bool):Bool:=dCm e fun a os es=>l1 os fun op=>l1 es fun b=> !isSet b&&f a op b
theorem IP{f}(h:dC1 e f=true):∃a op b p,e=.Compare a [op] [b] p/\isSet b=false/\f a op b=true:=by
 obtain⟨a,os,es,p,rfl,k⟩:=Ca h;obtain⟨op,rfl,l⟩:=kM k;obtain⟨b,rfl,m⟩:=kM l;obtain⟨h1,n⟩:=an m;exact⟨a,op,b,p,rfl,sV h1,n⟩
noncomputable def dBo(e:Expr)(f:BoolOp->Expr->Expr->Bool):Bool:=match e with
 |.BoolOp op es p=>match es with
  |a::r=>match r with
   |b::r=>match r with
    | []=>f op a b
    |c::r=>f op a (.BoolOp op (b::c::r) p)
   | []=>false
  | []=>false
 |_=>false
theorem rT{f}(h:dBo e f=true):∃op a x p,f op a x=true/\(e=.BoolOp op [a,x] p\/∃b c r,x=.BoolOp op (b::c::r) p/\e=.BoolOp op (a::b::c::r) p):=by
 cases e<;>first |exact dw h|skip
 rename_i op es p;cases es with
 |nil=>exact dw h
 |cons a r=>cases r with
  |nil=>exact dw h
  |cons b r=>cases r with
   |nil=>exact⟨op,a,b,p,h,.inl rfl⟩
   |cons c r=>exact⟨op,a,_,p,h,.inr ⟨b,c,r,rfl,rfl⟩⟩
noncomputable def dIf(e:Expr)(f:Expr->Expr->Expr->Bool):Bool:=match e with
 |.IfExp c a b _=>f c a b
 |_=>false
theorem dIf_of{f}(h:dIf e f=true):∃c a b p,e=.IfExp c a b p/\f c a b=true:=by cases e<;>first |exact⟨_,_,_,_,rfl,h⟩ |exact dw h
noncomputable def dSu(e:Expr)(f:Expr->Expr->Bool):Bool:=match e with
 |.Subscript a i _=>f a i
 |_=>false
theorem vk{f}(h:dSu e f=true):∃a i p,e=.Subscript a i p/\f a i=true:=by cases e<;>first |exact⟨_,_,_,rfl,h⟩ |exact dw h
noncomputable def dSl(e:Expr)(f:Option Expr->Option Expr->Option Expr->Bool):Bool:=match e with
 |.Slice a b c _=>f a b c
 |_=>false
theorem dSl_of{f}(h:dSl e f=true):∃a b c p,e=.Slice a b c p/\f a b c=true:=by cases e<;>first |exact⟨_,_,_,_,rfl,h⟩ |exact dw h
noncomputable def dTu(e:Expr)(f:List Expr->Bool):Bool:=match e with
 |.Tuple es _ _=>f es
 |_=>false
theorem IH{f}(h:dTu e f=true):∃es k p,e=.Tuple es k p/\f es=true:=by cases e<;>first |exact⟨_,_,_,rfl,h⟩ |exact dw h
noncomputable def dLi(e:Expr)(f:List Expr->Bool):Bool:=match e with
 |.List es _=>f es
 |_=>false
theorem dLi_of{f}(h:dLi e f=true):∃es p,e=.List es p/\f es=true:=by cases e<;>first |exact⟨_,_,rfl,h⟩ |exact dw h
noncomputable def dDi(e:Expr)(f:List (Option Expr)->List Expr->Bool):Bool:=match e with
 |.Dict ks vs _=>f ks vs
 |_=>false
theorem dDi_of{f}(h:dDi e f=true):∃ks vs p,e=.Dict ks vs p/\f ks vs=true:=by cases e<;>first |exact⟨_,_,_,rfl,h⟩ |exact dw h
noncomputable def dCa(e:Expr)(f:Expr->List Expr->Pos->Bool):Bool:=match e with
 |.Call g es ks p=>ks.isEmpty&&f g es p
 |_=>false
theorem IM{f}(h:dCa e f=true):∃g es p,e=.Call g es [] p/\f g es p=true:=by
 cases e<;>first |exact dw h|skip
 rename_i g es ks p;obtain⟨h1,h⟩:=an h;cases ks with
 |nil=>exact⟨g,es,p,rfl,h⟩
 |cons=>exact dw h1
noncomputable def dFn(e:Expr)(f:Str->List Expr->Bool):Bool:=dCa e fun g es _=>dNm g fun x _=>f x es
theorem kb{f}(h:dFn e f=true):∃x np es p,e=.Call (.Name x np) es [] p/\f x es=true:=by
 obtain⟨g,es,p,rfl,k⟩:=IM h;obtain⟨x,np,rfl,l⟩:=lK k;exact⟨x,np,es,p,rfl,l⟩
noncomputable def dAt(e:Expr)(f:Expr->Str->Pos->Bool):Bool:=match e with
 |.Attribute a x p=>f a x p
 |_=>false
theorem dAt_of{f}(h:dAt e f=true):∃a x p,e=.Attribute a x p/\f a x p=true:=by cases e<;>first |exact⟨_,_,_,rfl,h⟩ |exact dw h
noncomputable def dMt(m:Str)(e:Expr)(f:Expr->List Expr->Bool):Bool:=dCa e fun g es cp=>dAt g fun o m' ap=>decide (m=m')&&(ap.endLine==cp.line)&&f o es
theorem IJ{m:Str}{f}(h:dMt m e f=true):∃o ap es cp,e=.Call (.Attribute o m ap) es [] cp/\(ap.endLine==cp.line)=true/\f o es=true:=by
 obtain⟨g,es,cp,rfl,k⟩:=IM h;obtain⟨o,m',ap,rfl,l⟩:=dAt_of k;obtain⟨h1,h2,n⟩:=jh l;cases of_decide_eq_true h1;exact⟨o,ap,es,cp,rfl,h2,n⟩
noncomputable def dLc(e:Expr)(f:Expr->List Comprehension->Scope->Pos->Bool):Bool:=match e with
 |.ListComp a gs sc p=>f a gs sc p
 |_=>false
theorem B9{f}(h:dLc e f=true):∃a gs sc p,e=.ListComp a gs sc p/\f a gs sc p=true:=by cases e<;>first |exact⟨_,_,_,_,rfl,h⟩ |exact dw h
noncomputable def dJs(e:Expr)(f:List Expr->Bool):Bool:=match e with
 |.JoinedStr es _=>f es
 |_=>false
noncomputable def dFv(e:Expr)(f:Expr->Int->Option Expr->Bool):Bool:=match e with
 |.FormattedValue a c s _=>f a c s
 |_=>false
noncomputable def dAs(s:Stmt)(f:Expr->Expr->Pos->Bool):Bool:=match s with
 |.Assign ts e p=>l1 ts fun g=>f g e p
 |_=>false
theorem IQ{f}(h:dAs s f=true):∃g e p,s=.Assign [g] e p/\f g e p=true:=by
 cases s<;>first |exact dw h|skip
 obtain⟨g,rfl,h⟩:=kM h;exact⟨g,_,_,rfl,h⟩
noncomputable def dEx(s:Stmt)(f:Expr->Bool):Bool:=match s with
 |.Expr e _=>f e
 |_=>false
theorem dEx_of{f}(h:dEx s f=true):∃e p,s=.Expr e p/\f e=true:=by cases s<;>first |exact⟨_,_,rfl,h⟩ |exact dw h
noncomputable def dIs(s:Stmt)(f:Expr->List Stmt->List Stmt->Bool):Bool:=match s with
 |.If c a b _=>f c a b
 |_=>false
theorem dIs_of{f}(h:dIs s f=true):∃c a b p,s=.If c a b p/\f c a b=true:=by cases s<;>first |exact⟨_,_,_,_,rfl,h⟩ |exact dw h
noncomputable def dWh(s:Stmt)(f:Expr->List Stmt->Bool):Bool:=match s with
 |.While c a b _=>b.isEmpty&&f c a
 |_=>false
theorem dWh_of{f}(h:dWh s f=true):∃c a p,s=.While c a [] p/\f c a=true:=by
 cases s<;>first |exact dw h|skip
 rename_i c a b p;obtain⟨h1,h⟩:=an h;cases b with
 |nil=>exact⟨c,a,p,rfl,h⟩
 |cons=>exact dw h1
noncomputable def dFo(s:Stmt)(f:Expr->Expr->List Stmt->Bool):Bool:=match s with
 |.For g i a b _=>b.isEmpty&&f g i a
 |_=>false
theorem dFo_of{f}(h:dFo s f=true):∃g i a p,s=.For g i a [] p/\f g i a=true:=by
 cases s<;>first |exact dw h|skip
 rename_i g i a b p;obtain⟨h1,h⟩:=an h;cases b with
 |nil=>exact⟨g,i,a,p,rfl,h⟩
 |cons=>exact dw h1
noncomputable def dRt(s:Stmt)(f:Option Expr->Bool):Bool:=match s with
 |.Return e _=>f e
 |_=>false
theorem II{f}(h:dRt s f=true):∃e p,s=.Return e p/\f e=true:=by cases s<;>first |exact⟨_,_,rfl,h⟩ |exact dw h
noncomputable def dRa(s:Stmt)(f:Str->List Expr->Bool):Bool:=match s with
 |.Raise e c _=>match e with
  |some e=>c.isNone&&dFn e f
  |none=>false
 |_=>false
theorem dRa_of{f}(h:dRa s f=true):∃x np es cp p,s=.Raise (some (.Call (.Name x np) es [] cp)) none p/\f x es=true:=by
 cases s<;>first |exact dw h|skip
 rename_i e c p;cases e with
 |none=>exact dw h
 |some e=>
  obtain⟨h1,k⟩:=an h;obtain⟨x,np,es,cp,rfl,l⟩:=kb k;cases c with
  |none=>exact⟨x,np,es,cp,p,rfl,l⟩
  |some=>exact dw h1
noncomputable def dTr(s:Stmt)(f:List Stmt->Str->Str->List Stmt->Bool):Bool:=match s with
 |.Try b hs o r _=>o.isEmpty&&r.isEmpty&&l1 hs fun h=>match h with
  |.ExceptHandler t n ss _=>match t with
   |some t=>match n with
    |some n=>dNm t fun x _=>f b x n ss
    |none=>false
   |none=>false
 |_=>false
theorem dTr_of{f}(h:dTr s f=true):∃b x np n ss hp p,s=.Try b [.ExceptHandler (some (.Name x np)) (some n) ss hp] [] [] p/\f b x n ss=true:=by
 cases s<;>first |exact dw h|skip
 rename_i b hs o r p;obtain⟨h1,h2,k⟩:=jh h;obtain⟨⟨t,n,ss,hp⟩,rfl,l⟩:=kM k;cases o with
 |cons=>exact dw h1
 |nil=>cases r with
  |cons=>exact dw h2
  |nil=>cases t with
   |none=>exact dw l
   |some t=>cases n with
    |none=>exact dw l
    |some n=>
     obtain⟨x,np,rfl,m⟩:=lK l;exact⟨b,x,np,n,ss,hp,p,rfl,m⟩
end
noncomputable def u1{α:Type}(l:List α)(f:α->List α->Bool):Bool:=match l with
 |a::r=>f a r
 | []=>false
theorem zt{α:Type}{l:List α}{f:α->List α->Bool}(h:u1 l f=true):∃a r,l=a::r/\f a r=true:=by
 cases l with
 |nil=>exact dw h
 |cons a r=>exact⟨a,r,rfl,h⟩
noncomputable def om{α:Type}(o:Option α)(f:α->Bool):Bool:=match o with
 |some x=>f x
 |none=>false
theorem Hl{α:Type}{o:Option α}{f:α->Bool}(h:om o f=true):∃x,o=some x/\f x=true:=by
 cases o with
 |none=>exact dw h
 |some x=>exact⟨x,rfl,h⟩
theorem nil_of{α:Type}{l:List α}(h:l.isEmpty=true):l=[]:=List.isEmpty_iff.mp h
noncomputable def dFF(f g:Str)(sc:Scope)(e:Expr)(k:Expr->Bool):Bool:=dFn e fun f' es=>l1 es fun x=>dFn x fun g' es=>l1 es fun a=>decide (f'=f)&&decide (g'=g)&&pB sc f&&pB sc g&&k a
theorem IK{f g:Str}{k}(h:dFF f g sc e k=true):∃p a q r t,e=.Call (.Name f p) [.Call (.Name g q) [a] [] r] [] t/\pB sc f=true/\pB sc g=true/\k a=true:=by
 obtain⟨_,p,_,t,rfl,i⟩:=kb h;obtain⟨x,rfl,j⟩:=kM i;obtain⟨_,q,_,r,rfl,l⟩:=kb j;obtain⟨a,rfl,m⟩:=kM l;obtain⟨h1,h2,h3,h4,n⟩:=and5 m;cases of_decide_eq_true h1;cases of_decide_eq_true h2;exact⟨p,a,q,r,t,rfl,h3,h4,n⟩
noncomputable def isM1(e:Expr):Bool:=dUn e fun op c=>decide (op=.USub)&&dCn c fun k=>decide (k=.int 1)
noncomputable def mBase(e:Expr):Bool:=(dNm e fun _ _=>true)||(dFn e fun _ es=> !es.isEmpty)
mutual
noncomputable def dJ(sc:Scope)(N:List Str):CE->Expr->Bool
 |.var i,e=>dNm e fun x _=>N[i]? ==some x&&HY sc x&&zW x
 |.con c,e=>dCn e fun c'=>okCon c&&decide (c=c')
 |.glo x,e=>dNm e fun y _=>decide (x=y)&&pB sc x&&zW x
 |.ty t,e=>dNm e fun y _=>decide (t.name=y)&&pB sc y
 |.bin op a b,e=>dBi e fun a' op' b'=>decide (op=op')&&dJ sc N a a'&&dJ sc N b b'
 |.cmp op a b,e=>dC1 e fun a' op' b'=>decide (op=op')&&dJ sc N a a'&&dJ sc N b b'
 |.chain o1 o2 a b c,e=>dCm e fun a' os es=>l2 os fun p q=>l2 es fun b' c'=>decide (o1=p)&&decide (o2=q)&& !isSet c'&&(dJ sc N a a'&&dJ sc N b b'&&dJ sc N c c')
 |.not a,e=>dUn e fun op a'=>decide (op=.Not)&&dJ sc N a a'
 |.and a b,e=>dBo e fun op a' x=>decide (op=.And)&&dJ sc N a a'&&dJ sc N b x
 |.or a b,e=>dBo e fun op a' x=>decide (op=.Or)&&dJ sc N a a'&&dJ sc N b x
 |.ite c a b,e=>dIf e fun c' a' b'=>dJ sc N c c'&&dJ sc N a a'&&dJ sc N b b'
 |.idx a i,e=>dSu e fun a' i'=> !qr i'&&dJ sc N a a'&&dJ sc N i i'
 |.cut a lo hi,e=>dSu e fun a' s=>dSl s fun l u t=>t.isNone&&dJ sc N a a'&&(chkO sc N lo l&&chkO sc N hi u)
 |.tup es,e=>dTu e fun es'=>rU sc N es es'
 |.lst es,e=>dLi e fun es'=>rU sc N es es'
 |.call f es,e=>dFn e fun f' es'=>decide (f=f')&&pB sc f&&zW f&&rU sc N es es'
 |.bfn b es,e=>dFn e fun f' es'=>decide (b.name=f')&&pB sc f'&& !es'.isEmpty&&rU sc N es es'
 |.meth1 m o a,e=>dMt m.name e fun o' es=>l1 es fun a'=>baseOk o'&&dJ sc N o o'&&dJ sc N a a'
 |.idxd a i,e=>dSu e fun a' i'=> !qr i'&&dJ sc N a a'&&dJ sc N i i'
 |.dicT,e=>dDi e fun ks vs=>ks.isEmpty&&vs.isEmpty
 |.setd o a b,e=>dMt (bX "setdefault") e fun o' es=>l2 es fun a' b'=>baseOk o'&&dJ sc N o o'&&(dJ sc N a a'&&dJ sc N b b')
 |.sortset a,e=>dFF "sorted" "set" sc e (dJ sc N a)
 |.lrev a,e=>dFF "list" "reversed" sc e (dJ sc N a)
 |.comp own fr tg it cond elt,e=>dLc e fun elt' gs sc' _=>l1 gs fun g=>decide (g.is_async=0)&&yn sc sc' N own fr&& !isSet g.iter&&(chkI sc N it g.iter g.target&&wm sc' (namesOf N own fr) false tg g.target&&chkC sc' (namesOf N own fr) cond g.ifs&&dJ sc' (namesOf N own fr) elt elt')
noncomputable def rU(sc:Scope)(N:List Str):CL->List Expr->Bool
 |.nil,es=>es.isEmpty
 |.cons e r,es=>u1 es fun e' r'=>dJ sc N e e'&&rU sc N r r'
noncomputable def chkP(sc:Scope)(N:List Str):CP->List (Option Expr)->List Expr->Bool
 |.nil,ks,vs=>ks.isEmpty&&vs.isEmpty
 |.cons k v r,ks,vs=>u1 ks fun k' ks'=>u1 vs fun v' vs'=>om k' fun k'=>dJ sc N k k'&&dJ sc N v v'&&chkP sc N r ks' vs'
noncomputable def chkO(sc:Scope)(N:List Str):CO->Option Expr->Bool
 |.no,o=>o.isNone
 |.yes e,o=>om o (dJ sc N e)
noncomputable def chkC(sc:Scope)(N:List Str):CO->List Expr->Bool
 |.no,o=>o.isEmpty
 |.yes e,o=>l1 o (dJ sc N e)
noncomputable def wm(sc:Scope)(N:List Str)(all:Bool):CG->Expr->Bool
 |.name i,e=>dNm e fun x _=>N[i]? ==some x&&(sc.names.lookup x==some .local||sc.names.lookup x==some .cell)
 |.tup gs,e=>dTu e fun es=>vy sc N all gs es
 |.sub o i,e=>dSu e fun o' i'=> !qr i'&&dJ sc N o o'&&dJ sc N i i'
noncomputable def vy(sc:Scope)(N:List Str)(all:Bool):CGs->List Expr->Bool
 |.nil,es=>es.isEmpty
 |.cons g gs,es=>u1 es fun e' es'=>wm sc N all g e'&&vy sc N all gs es'
noncomputable def chkI(sc:Scope)(N:List Str):CI->Expr->Expr->Bool
 |.seq e,e',_=>dJ sc N e e'
 |.lseq e,e',_=>dJ sc N e e'
 |.range1 e,x,_=>dFn x fun f es=>l1 es fun e'=>decide (f="range")&&pB sc f&&dJ sc N e e'
 |.range2 a b,x,_=>dFn x fun f es=>l2 es fun a' b'=>decide (f="range")&&pB sc f&&dJ sc N a a'&&dJ sc N b b'
 |.enumt e,x,tg'=>dFn x fun f es=>l1 es fun e'=>decide (f="enumerate")&&pB sc f&&dJ sc N e e'&&pz tg'
end
noncomputable def isCe:CE->Bool
 |.comp .. =>true
 |_=>false
mutual
noncomputable def chkS(sc:Scope)(N:List Str):CS->Stmt->Bool
 |.asg g e,s=>dAs s fun g' e' _=>wm sc N true g g'&&dJ sc N e e'&& !vc e'&& !(pz g'&&pz e')
 |.asgc i e,s=>isCe e&&dAs s fun g e' _=>dNm g fun x p=>dLc e' fun a b c d=>N[i]? ==some x&&(sc.names.lookup x==some .local||sc.names.lookup x==some .cell)&&dJ sc N e (.ListComp a b c d)&&
   (sc.names.lookup x==some .cell||(decide (p.line=d.line)&& !(c.names.any fun y=>decide (y.1=x)&&(decide (y.2=.local)||decide (y.2=.cell)))))
 |.expr e,s=>dEx s fun e'=>dJ sc N e e'&& !vc e'
 |.iff c a b,s=>dIs s fun c' a' b'=>dJ sc N c c'&&vz sc N a a'&&vz sc N b b'
 |.whl c b,s=>dWh s fun c' b'=>dJ sc N c c'&&vz sc N b b'
 |.forr g it b,s=>dFo s fun g' it' b'=>wm sc N true g g'&&chkI sc N it it' g'&& !isSet it'&&vz sc N b b'
 |.ret e,s=>dRt s fun o=>om o (dJ sc N e)
 |.retN,s=>dRt s fun o=>o.isNone
 |.pass,s=>match s with
  |.Pass _=>true
  |_=>false
 |.brk,s=>match s with
  |.Break _=>true
  |_=>false
 |.cont,s=>match s with
  |.Continue _=>true
  |_=>false
noncomputable def vz(sc:Scope)(N:List Str):CB->List Stmt->Bool
 |.hole,_=>true
 |.nil,ss=>ss.isEmpty
 |.cons s r,ss=>u1 ss fun s' r'=>chkS sc N s s'&&vz sc N r r'
end
structure Gam where
 val:Str->Option V
 fn:Str->Nat->Option (Sp×List V)
 ini:Str->Nat->Option (Addr×Sp×List V)
 dic:Addr->Option (List (Key×V))
 mak:Str->Nat->Option (Addr×Sp×List V)
 mth:Str->Nat->Option (Addr×Sp×List V)
noncomputable def B2(K:ah)(tl:TE):TI:=fun σ H R=>tl σ H fun x H1=>(∃a,x=.ref a/\(∃xs,SqL K H1 a xs)/\R (Itl K a) H1)\/(∃a,x=.ref a/\(∃xs,SqT K H1 a xs)/\R (Itt K a) H1)\/(∃z,x=.str z/\R (Its z) H1)
noncomputable def Bn(K:ah)(t:TE):TT:=fun σ H Q=>t σ H fun x H1=>∃k,TruV K x H1 k/\Q k H1
mutual
noncomputable def wpE(G:Gam)(K:ah)(E:XS):CE->TE
 |.var i=>pT i
 |.con c=>tC (cv c)
 |.glo x=>fun σ H Q=>∃v,G.val x=some v/\Q v H
 |.ty t=>tC (.ty t.t)
 |.bin op a b=>tOp (j8 K op) (wpE G K E a) (wpE G K E b)
 |.cmp op a b=>tOp (gh K op) (wpE G K E a) (wpE G K E b)
 |.chain o1 o2 a b c=>ud (gh K o1) (gh K o2) (wpE G K E a) (wpE G K E b) (wpE G K E c)
 |.not a=>Ga (wpE G K E a)
 |.and a b=>Gf (wpE G K E a) (wpE G K E b)
 |.or a b=>tOrV (wpE G K E a) (wpE G K E b)
 |.ite c a b=>tIf (wpT G K E c) (wpE G K E a) (wpE G K E b)
 |.idx a i=>tOp (rIx K) (wpE G K E a) (wpE G K E i)
 |.cut a lo hi=>tSl (rSlc K) (wpE G K E a) (wpO G K E lo) (wpO G K E hi)
 |.tup es=>tTup (wpL G K E es)
 |.lst es=>tLst (wpL G K E es)
 |.call f es=>fun σ H Q=>∃sp dvs,G.fn f es.len=some (sp,dvs)/\zx sp dvs (E σ) (wpL G K E es) σ H Q
 |.bfn b es=>tCB (rBf K b) (wpL G K E es)
 |.meth1 m o a=>tBM K "list" (rMm m) (wpE G K E o) (kH (wpE G K E a) sT)
 |.idxd a i=>tOp (rIxD K) (wpE G K E a) (wpE G K E i)
 |.dicT=>Gd
 |.setd o a b=>tBM K "dict" C1 (wpE G K E o) (kH (wpE G K E a) (kH (wpE G K E b) sT))
 |.sortset a=>zv K (kH (wpE G K E a) sT)
 |.lrev a=>tLRev K (kH (wpE G K E a) sT)
 |.comp own fr tg it cond elt=>uc (wpI G K E it) (wpG G K N0 tg) (wpC G K N0 cond) (wpE G K N0 elt) (lB own fr)
noncomputable def wpT(G:Gam)(K:ah)(E:XS):CE->TT
 |.cmp op a b=>wD (tOp (gh K op) (wpE G K E a) (wpE G K E b))
 |.chain o1 o2 a b c=>wD (ud (gh K o1) (gh K o2) (wpE G K E a) (wpE G K E b) (wpE G K E c))
 |.not a=>tNot (wpT G K E a)
 |.and a b=>tAnd (wpT G K E a) (wpT G K E b)
 |.or a b=>tOr (wpT G K E a) (wpT G K E b)
 |.ite _ _ _=>fun _ _ _=>False
 |.var i=>Bn K (pT i)
 |.con c=>Bn K (tC (cv c))
 |.glo x=>Bn K (fun σ H Q=>∃v,G.val x=some v/\Q v H)
 |.idx a i=>Bn K (tOp (rIx K) (wpE G K E a) (wpE G K E i))
 |.call f es=>Bn K (fun σ H Q=>∃sp dvs,G.fn f es.len=some (sp,dvs)/\zx sp dvs (E σ) (wpL G K E es) σ H Q)
 |.bfn b es=>Bn K (tCB (rBf K b) (wpL G K E es))
 |_=>fun _ _ _=>False
noncomputable def wpL(G:Gam)(K:ah)(E:XS):CL->TA
 |.nil=>sT
 |.cons e es=>kH (wpE G K E e) (wpL G K E es)
noncomputable def wpP(G:Gam)(K:ah)(E:XS):CP->List (TE×TE)
 |.nil=>[]
 |.cons k v r=>(wpE G K E k,wpE G K E v)::wpP G K E r
noncomputable def wpO(G:Gam)(K:ah)(E:XS):CO->TO
 |.no=>xJ
 |.yes e=>F9 (wpE G K E e)
noncomputable def wpC(G:Gam)(K:ah)(E:XS):CO->TT
 |.no=>tYes
 |.yes e=>wpT G K E e
noncomputable def wpG(G:Gam)(K:ah)(E:XS):CG->TG
 |.name i=>lS i
 |.tup gs=>gTup K gs.len (wpGs G K E gs)
 |.sub o i=>gSub (wpE G K E o) (wpE G K E i) C2
noncomputable def wpGs(G:Gam)(K:ah)(E:XS):CGs->TGs
 |.nil=>gNil
 |.cons g gs=>Im (wpG G K E g) (wpGs G K E gs)
noncomputable def wpI(G:Gam)(K:ah)(E:XS):CI->TI
 |.seq e=>B2 K (wpE G K E e)
 |.lseq e=>Ig K (wpE G K E e)
 |.range1 e=>Ie (kH (wpE G K E e) sT)
 |.range2 a b=>Ic (kH (wpE G K E a) (kH (wpE G K E b) sT))
 |.enumt e=>B1 K (kH (wpE G K E e) sT)
end
mutual
noncomputable def wpS(G:Gam)(K:ah)(E:XS):CS->TS
 |.asg g e=>xK (wpE G K E e) (wpG G K E g)
 |.asgc i e=>xK (wpE G K E e) (lS i)
 |.expr e=>Gc (wpE G K E e)
 |.iff c a b=>tIfS (wpT G K E c) (wpB G K E a) (wpB G K E b)
 |.whl c b=>F7 (wpT G K E c) (wpB G K E b)
 |.forr g it b=>tFor (wpI G K E it) (wpG G K E g) (wpB G K E b)
 |.ret e=>tRet (wpE G K E e)
 |.retN=>F8
 |.pass=>zw
 |.brk=>Ge
 |.cont=>tCont
noncomputable def wpB(G:Gam)(K:ah)(E:XS):CB->TS
 |.nil=>zw
 |.hole=>fun _ _ _=>False
 |.cons s r=>vX (wpS G K E s) (wpB G K E r)
end
noncomputable abbrev Sat(G:Gam)(K:ah)(sp:Sp)(c:CB)(N:List Str):Prop:=∀vs H Q E,sp vs H Q E->wpB G K (fun _=>E) c {nx:=fun _ H'=>Q .non H',rt:=Q} (L2.start N vs) H
noncomputable def iW:List Str:=["len","isinstance","all","any","list","tuple","int","bool","str","dict","range","enumerate","sorted","set","min","max","ValueError","sum","zip","reversed"]
structure Ok(CX:CXT)(G:Gam)(E:XS)(sc:Scope)(N:List Str)(all:Bool)(X:Cx):Prop where
 names:X.N=N
 top:all=true->X.stack=X.env::X.outer/\X.env.frame=some X.env.locals/\X.ex=[]
 nd:N.Nodup
 loc:∀x,sc.names.lookup x=some .local->X.env.scope.names.lookup x=some .local
 cel:∀x,sc.names.lookup x=some .cell->X.env.scope.names.lookup x=some .cell
 fre:∀x,sc.names.lookup x=some .free->X.env.scope.names.lookup x=some .cell\/X.env.scope.names.lookup x=some .free
 glo:∀x,sc.names.lookup x=some .globalImplicit->X.env.scope.names.lookup x=some .globalImplicit
 all:all=true->∀x,X.fn x=true
 own:∀x,sc.names.lookup x=some .cell->X.fn x=true
 calm:X.calm=true
 hu:X.A.units+50<cLine
 val:∀x v,G.val x=some v->∃u,X.mg x=some u/\RelV v u
 fn:∀x n sp dvs,G.fn x n=some (sp,dvs)->∃f fd ps ds k,jH X.prog X.w X.K X.mg X.base CX k f fd ps sp/\jO k X.A/\X.mg x=some (.ref f)/\cN X.K (.ref f)=true/\Binds X.K fd ps ds/\bD dvs ds
 ini:∀x n C sp dvs,G.ini x n=some (C,sp,dvs)->∃f fd ps ds k,MkX X.K C f/\jH X.prog X.w X.K X.mg X.base CX k f fd ps sp/\jO (k+1) X.A/\X.mg x=some (.ref C)/\Binds X.K fd ps ds/\bD dvs ds
 dic:∀a kvs,G.dic a=some kvs->DkIn X.prog X.w X.K a kvs
 mak:∀x n C sp dvs,G.mak x n=some (C,sp,dvs)->∃f fd ps ds k,Mk X.K C f/\jH X.prog X.w X.K X.mg X.base CX k f fd ps sp/\jO (k+1) X.A/\X.mg x=some (.ref C)/\Binds X.K fd ps ds/\bD dvs ds
 mth:∀m n C sp dvs,G.mth m n=some (C,sp,dvs)->∃f fd ps ds k,Cls X.K C/\Meth X.K C m f/\jH X.prog X.w X.K X.mg X.base CX k f fd ps sp/\jO k X.A/\Binds X.K fd ps ds/\bD dvs ds
 blt:∀x∈iW,X.mg x=none
 px:PassesOwn (model X.prog X.w) X.A X.env X.xe
 pass:AS CX X E
 made:MadeS X E
 madeX:Jg X E
 cx:CX=CXx X.prog X.w
theorem Bf.mem:∀b:Bf,b.name∈iW:=by intro b;cases b<;>decide+kernel
theorem Ty.mem:∀b:Ty,b.name∈iW:=by intro b;cases b<;>decide+kernel
section
variable {CX:CXT}{G:Gam}{E:XS}{sc:Scope}{N:List Str}{all:Bool}{X:Cx}
theorem Ok.vis(o:Ok CX G E sc N all X)(h:HY sc x=true):Vis X.env.scope x:=by
 unfold HY at h;rw[cw,cw,beq_iff_eq,beq_iff_eq,beq_iff_eq]at h;rcases h with(h|h) |h
 ·exact .inl (o.loc x h)
 ·exact .inr (.inl (o.cel x h))
 ·rcases o.fre x h with q|q
  ·exact .inr (.inl q)
  ·exact .inr (.inr q)
theorem Ok.gl(o:Ok CX G E sc N all X)(h:pB sc x=true):Gl X x:=by
 unfold pB at h;rw[beq_iff_eq]at h;exact o.glo x h
theorem p8(h:zW x=true):(x==("__debug__":Str))=false/\(x==("__classdict__":Str))=false:=by
 unfold zW at h;rw[aN,beq_iff_eq,beq_iff_eq]at h;exact h
theorem rBin_ok:∀op,OpR X (fu op) (j8 X.K op)
 |.Add=>op_add.or (BJ.or (op_cat.or (r':=fun _ _ _ _=>False) fun _ _ _ _ _ _ _ _ _ _ _ _ h=>h.elim))
 |.Sub=>op_sub
 |.Mult=>op_mul.or (op_rep.or op_repS)
 |.Mod=>op_mod
 |.FloorDiv=>op_fdiv
 |.Pow=>op_pow
 |.RShift=>op_shr
 |.MatMult=>fun _ _ _ _ _ _ _ _ _ _ _ _ h=>h.elim
 |.Div=>fun _ _ _ _ _ _ _ _ _ _ _ _ h=>h.elim
 |.LShift=>op_shl
 |.BitOr=>fun _ _ _ _ _ _ _ _ _ _ _ _ h=>h.elim
 |.BitXor=>op_xor
 |.BitAnd=>op_and
theorem nL(hu:X.A.units+50<cLine):∀op,OpR X (cR op) (gh X.K op)
 |.Eq=>op_eqD (by omega)
 |.NotEq=>op_neD (by omega)
 |.Lt=>op_lt
 |.LtE=>op_le
 |.Gt=>op_gt
 |.GtE=>op_ge
 |.Is=>op_isN
 |.IsNot=>op_notN
 |.In=>(EL.or (op_inD (by omega))).or EM
 |.NotIn=>(yl.or (EK (by omega))).or ym
theorem rSlc_ok:SlR X (rSlc X.K):=sl_list.or sl_str
theorem rBf_ok(hc:X.calm=true)(hu:X.A.units+50<cLine):∀b,fz X (Bf.val b) (rBf X.K b)
 |.len=>yS.or (yR.or Q.wt)
 |.isinstance=>AG.or yT
 |.all=>IZ hc
 |.list=>yQ
 |.tuple=>wo
 |.set=>Q.Fj hc
 |.min=>rV hc
 |.max=>rW hc
 |.int=>Fn
 |.lend=>AF
 |.sortl=>Q.yP
 |.sortt=>Q.yO (by omega)
 |.minl=>Q.Fk hc (by omega)
 |.maxl=>Q.Fl hc (by omega)
theorem Mm.slot:∀m:Mm,Slot "list" m.name m.id
 |.append=>PySem.F.slot_list_append|.clear=>PySem.F.slot_list_clear|.reverse=>PySem.F.slot_list_reverse|.pop=>PySem.F.slot_list_pop|.index=>PySem.F.slot_list_index|.extend=>PySem.F.slot_list_extend
theorem Mm.ty:∀m:Mm,typeOf (.builtin m.id)=pure (.type "method_descriptor")
 |.append=>PySem.F.type_list_append|.clear=>PySem.F.type_list_clear|.reverse=>PySem.F.type_list_reverse|.pop=>PySem.F.type_list_pop|.index=>PySem.F.type_list_index|.extend=>PySem.F.type_list_extend
theorem rMm_ok:∀m:Mm,MtR X m.id (rMm m)
 |.append=>EY|.clear=>HA|.reverse=>BN|.pop=>MtR.or (r:=fun _ _ _ _=>False) (fun _ _ _ _ _ _ _ _ _ _ _ _ h=>h.elim) Hz|.index=>fun _ _ _ _ _ _ _ _ _ _ _ _ h=>h.elim|.extend=>EX
theorem DX(h:baseOk o=true)(nm:Str)(env:Env)(t:Sem Value):attributeBase o nm env t=t:=by
 cases o<;>first
  |rfl
  |exact dw h
  | (rename_i f es ks p;cases f<;>first
   |rfl
   |exact dw h)
theorem cz{c:CE}(h:dJ sc N c e=true)(es:List Expr)(env:Env):bZ (e::es) env=(false,eval e env)::bZ es env:=by
 cases e<;>first
  |rfl
  | (cases c<;>exact dw h)
theorem nT{c:CE}{r:CL}{es:List Expr}(h:rU sc N (.cons c r) es=true):∃e' r',es=e'::r'/\dJ sc N c e'=true/\rU sc N r r'=true:=
 let⟨e',r',a,k⟩:=zt h
 ⟨e',r',a,an k⟩
theorem qy{es:List Expr}(h:rU sc N .nil es=true):es=[]:=nil_of h
theorem vq:∀{l:CL}{es:List Expr},rU sc N l es=true->∀(env:Env)(pos:Pos),(backTo pos (bZ es env)).any (·.1)=false
 |.nil,es,h,env,pos=>by rw[qy h];rfl
 |.cons c r,es,h,env,pos=>by
  obtain⟨e',r',rfl,h1,h2⟩:=nT h;rw[cz h1];show(false||(backTo pos (bZ r' env)).any (·.1))=false;rw[vq h2];rfl
theorem stars{l:CL}{es:List Expr}(h:rU sc N l es=true)(hn:(!es.isEmpty)=true):∃e es',es=e::es'/\∀(env:Env)(pos:Pos),bZ (e::es') env=(false,eval e env)::bZ es' env/\(backTo pos (bZ es' env)).any (·.1)=false:=by
 cases l with
 |nil=>
  obtain rfl:=qy h;exact dw hn
 |cons c r=>
  obtain⟨e',r',rfl,h1,h2⟩:=nT h;exact⟨e',r',rfl,fun env pos=>⟨cz h1 _ _,vq h2 _ _⟩⟩
theorem yp(h:isSet e=false)(env:Env):∀x,jk e env x=pure x:=by
 intro x;cases e<;>first
  |rfl
  | (exact absurd h (by simp[isSet]))
theorem nP(h:isSet e=false)(op:CmpOp):Jn op e=false:=by
 cases e<;>first
  |rfl
  | (exact absurd h (by simp[isSet]))
theorem zM(h:qr e=false):D1 e:=by
 intro o i;cases e<;>first
  |rfl
  | (exact absurd h (by simp[qr]))
theorem yr(h:vc e=false)(t:Option Expr)(l:Nat)(env:Env):tU e t l env=pure false:=by
 cases e<;>first
  |rfl
  | (exact absurd h (by simp[vc]))
theorem pi_any{l:Expr}{tl:TE}(hl:PE X l tl):PI X tg l (B2 X.K tl):=by
 intro pins s σ H R I h;refine thn (hl pins s σ H _ I h) fun v s1 ⟨x,H1,I1,r1,q1⟩=>?_;have key:∀{tl':TE}{wi:TI},True:=fun{_ _}=>trivial;rcases q1 with q1|q1|q1
 ·obtain⟨a,e,⟨xs,hq⟩,q⟩:=q1
  subst e;cases r1;obtain⟨its,rv,p,hz⟩:=I1.list hq;refine nX p.isList ?_;refine⟨s1.heap.objs.size,[s1.heap.objs.size],_,_,H1,rfl,I1.kept (t':=s1.toks) fun b o e=>ag _ e,wB a _,⟨_,az _ rfl,rfl,rfl⟩,fun b hb=>?_,q⟩;have e:b=s1.heap.objs.size:=by simpa using hb
  subst e;exact I1.Aq (aB _) (I1.hok.fresh (aB _))
 ·obtain⟨a,e,⟨xs,hq⟩,q⟩:=q1
  subst e;cases r1;obtain⟨its,rv,p,hz⟩:=I1.tuple hq;refine iY (show s1.heap.IsTuple a its.toArray from p) ?_;refine⟨s1.heap.objs.size,[s1.heap.objs.size],_,_,H1,rfl,I1.kept (t':=s1.toks) fun b o e=>ag _ e,Bi a _,⟨_,az _ rfl,rfl,rfl⟩,fun b hb=>?_,q⟩;have e:b=s1.heap.objs.size:=by simpa using hb
  subst e;exact I1.Aq (aB _) (I1.hok.fresh (aB _))
 ·obtain⟨z,e,q⟩:=q1
  subst e;obtain⟨t,rfl⟩:=r1;refine wpAny_pyIter_strU ?_;refine⟨s1.heap.objs.size,[s1.heap.objs.size],_,_,H1,rfl,I1.kept (t':=s1.toks) fun b o e=>ag _ e,F4 z _ t,⟨_,az _ rfl,rfl,rfl⟩,fun b hb=>?_,q⟩;have e:b=s1.heap.objs.size:=by simpa using hb
  subst e;exact I1.Aq (aB _) (I1.hok.fresh (aB _))
end
set_option maxHeartbeats 4000000
section
variable {CX:CXT}{G:Gam}
structure nV(sc sc':Scope)(N own:List Str)(fr:List Nat):Prop where
 kind:sc'.kind=.function
 cellk:∀y∈sc'.names,y.2=.cell->sc'.names.lookup y.1=some .cell
 own1:∀y∈sc'.names,y.2=.local->sc'.names.lookup y.1=some .local
 free:∀y∈sc'.names,y.2=.free->sc.names.lookup y.1=some .cell\/sc.names.lookup y.1=some .free
 nd:(namesOf N own fr).Nodup
 fr:∀j∈fr,j<N.length/\sc'.names.lookup (N.getD j "")=some .free
 own2:∀x∈own,sc'.names.lookup x=some .local\/sc'.names.lookup x=some .cell
theorem uy{own:List Str}{fr:List Nat}(h:yn sc sc' N own fr=true):nV sc sc' N own fr:=by
 unfold yn at h;simp only[aN,bC,decide_eq_true_eq,beq_iff_eq,cw]at h;obtain⟨⟨⟨⟨⟨⟨h1,h2⟩,h3⟩,h4⟩,h5⟩,h6⟩,h7⟩:=h;exact⟨h1,h2,h3,h4,h5,h6,h7⟩
theorem nV.comp{E:XS}{own:List Str}{fr:List Nat}{all:Bool}(S:nV sc sc' N own fr)(o:Ok CX G E sc N all X):nW X (namesOf N own fr) sc':=
 ⟨S.kind,S.cellk,S.own1,fun y hy hf=>by
  rcases S.free y hy hf with q|q
  ·exact .inl (o.cel _ q)
  ·exact o.fre _ q⟩
theorem nV.mkOk{E:XS}{own:List Str}{fr:List Nat}{all:Bool}(S:nV sc sc' N own fr)(o:Ok CX G E sc N all X):MkOk X (namesOf N own fr) sc' (lB own fr):=by
 intro σ hl;refine⟨by simp[lB,namesOf],fun i x v h1 h2=>?_⟩;unfold lB at h2;unfold namesOf at h1;by_cases hi:i<own.length
 ·rw[cF (by simpa using hi),aq]at h2
  cases q:own[i]? with
  |none=>rw[q]at h2;cases h2
  |some z=>rw[q]at h2;cases h2
 ·rw[bS (by simpa using hi),aq,ai]at h2
  rw[bS (by simpa using hi),aq]at h1;cases q:fr[i-own.length]? with
  |none=>rw[q]at h2;cases h2
  |some j=>
   rw[q]at h1 h2;have hx:N.getD j ""=x:=aW h1;have hv:(σ[j]?).getD none=some v:=aW h2;obtain⟨hj,hf⟩:=S.fr j (aD q);refine⟨by rw[<-hx];exact hf,j,?_,?_⟩
   ·rw[o.names,<-hx,ae,aa hj];rfl
   ·cases w:σ[j]? with
    |none=>rw[w]at hv;cases hv
    |some z=>rw[w]at hv;exact congrArg some hv
noncomputable abbrev HX(CX:CXT):Prop:=∀o H s e s',CX o H s E0 e s'->False
theorem Ok.comp{E:XS}{own:List Str}{fr:List Nat}{all:Bool}(hCX:HX CX)(S:nV sc sc' N own fr)(o:Ok CX G E sc N all X)(C:Addr)(s₀:Shared)(H₀:Hp)(fp:List Addr):
  Ok CX G N0 sc' (namesOf N own fr) false (dI X (namesOf N own fr) sc' C s₀ H₀ fp) where
 names:=rfl
 nd:=S.nd
 loc:=fun x h=>lookup_relabel_local (env:=X.env) h
 cel:=fun x h=>fO (env:=X.env) h (by decide)
 own:=fun x h=>b9.mpr ⟨(x,.cell),bp h,by simp⟩
 fre:=fun x h=>(gm (env:=X.env) h).symm
 glo:=fun x h=>fO (env:=X.env) h (by decide)
 all:=fun h=>absurd h (by decide)
 calm:=o.calm
 hu:=o.hu
 val:=o.val
 fn:=o.fn
 ini:=o.ini
 dic:=o.dic
 mak:=o.mak
 mth:=o.mth
 blt:=o.blt
 px:=PassesOwn.never
 pass:=fun _ _ _ _ _ _ _ h=>(hCX _ _ _ _ _ h).elim
 made:=fun _ _ _ _ _ _ _ _ _ _ h=>h.elim
 madeX:=fun _ _ _ _ _ _ _ _ _ h=>h.elim
 cx:=o.cx
 top:=fun h=>absurd h (by decide)
theorem qb{all:Bool}{g:CG}(h:wm sc N all g e=true)(es:List Expr)(env:Env):gY (e::es) env=(false,assign e env)::gY es env:=by
 cases e<;>first
  |rfl
  | (cases g<;>exact dw h)
theorem vx{all:Bool}{g:CG}{r:CGs}{es:List Expr}(h:vy sc N all (.cons g r) es=true):∃e' r',es=e'::r'/\wm sc N all g e'=true/\vy sc N all r r'=true:=
 let⟨e',r',a,k⟩:=zt h
 ⟨e',r',a,an k⟩
theorem xi{all:Bool}{es:List Expr}(h:vy sc N all .nil es=true):es=[]:=nil_of h
theorem sF{all:Bool}:∀{gs:CGs}{es:List Expr},vy sc N all gs es=true->∀env,(gY es env).length=gs.len/\(gY es env).findIdx? (·.1)=none
 |.nil,es,h,env=>by rw[xi h];exact⟨rfl,rfl⟩
 |.cons g r,es,h,env=>by
  obtain⟨e',r',rfl,h1,h2⟩:=vx h;obtain⟨a,b⟩:=sF h2 env;rw[qb h1];refine⟨by rw[bB,a,CGs.len],?_⟩;rw[List.findIdx?_cons];simp[b]
end
section
variable {CX:CXT}{G:Gam}
noncomputable abbrev IHE(CX:CXT)(G:Gam)(c:CE):Prop:=∀(e:Expr){E:XS}{sc:Scope}{N:List Str}{all:Bool}{X:Cx},Ok CX G E sc N all X->dJ sc N c e=true->PE X e (wpE G X.K E c)
noncomputable abbrev IHT(CX:CXT)(G:Gam)(c:CE):Prop:=∀(e:Expr){E:XS}{sc:Scope}{N:List Str}{all:Bool}{X:Cx},Ok CX G E sc N all X->dJ sc N c e=true->PT X e (wpT G X.K E c)
noncomputable def isBo:Expr->Bool
 |.BoolOp .. =>true
 |_=>false
theorem isBo_of(h:isBo e=true):∃op es p,e=.BoolOp op es p:=by
 cases e<;>first
  |exact⟨_,_,_,rfl⟩
  |exact dw h
noncomputable abbrev IHW(CX:CXT)(G:Gam)(c:CE):Prop:=∀(e:Expr){E:XS}{sc:Scope}{N:List Str}{all:Bool}{X:Cx},Ok CX G E sc N all X->dJ sc N c e=true->isBo e=true->PW X e (wpT G X.K E c)
noncomputable abbrev IHL(CX:CXT)(G:Gam)(c:CL):Prop:=∀(es:List Expr){E:XS}{sc:Scope}{N:List Str}{all:Bool}{X:Cx},Ok CX G E sc N all X->rU sc N c es=true->PA X es (wpL G X.K E c)
noncomputable abbrev IHP(CX:CXT)(G:Gam)(c:CP):Prop:=∀(ks:List (Option Expr))(vs:List Expr){E:XS}{sc:Scope}{N:List Str}{all:Bool}{X:Cx},Ok CX G E sc N all X->chkP sc N c ks vs=true->∀pos,
  PPs X pos ks vs (wpP G X.K E c)/\ks.all (·.isSome)=true/\ks.length=vs.length/\(c≠.nil->ks≠[])
noncomputable abbrev IHO(CX:CXT)(G:Gam)(c:CO):Prop:=∀(e:Option Expr){E:XS}{sc:Scope}{N:List Str}{all:Bool}{X:Cx},Ok CX G E sc N all X->chkO sc N c e=true->PO X e (wpO G X.K E c)
noncomputable abbrev IHC(CX:CXT)(G:Gam)(c:CO):Prop:=∀(es:List Expr){E:XS}{sc:Scope}{N:List Str}{all:Bool}{X:Cx},Ok CX G E sc N all X->chkC sc N c es=true->PTs X es (wpC G X.K E c)
noncomputable abbrev IHG(CX:CXT)(G:Gam)(c:CG):Prop:=∀(e:Expr){E:XS}{sc:Scope}{N:List Str}{all:Bool}{X:Cx},Ok CX G E sc N all X->wm sc N all c e=true->PG X e (wpG G X.K E c)
noncomputable abbrev Ji(CX:CXT)(G:Gam)(c:CGs):Prop:=∀(es:List Expr){E:XS}{sc:Scope}{N:List Str}{all:Bool}{X:Cx},Ok CX G E sc N all X->vy sc N all c es=true->PGs X es (wpGs G X.K E c)
noncomputable abbrev IHI(CX:CXT)(G:Gam)(c:CI):Prop:=∀(e tg:Expr){E:XS}{sc:Scope}{N:List Str}{all:Bool}{X:Cx},Ok CX G E sc N all X->chkI sc N c e tg=true->PI X tg e (wpI G X.K E c)
theorem GD:IHE CX G (.var i):=by
  intro e E sc N all X o h;obtain⟨x,p,rfl,k⟩:=lK h;obtain⟨h1,h2,h3⟩:=jh k;obtain⟨d1,d2⟩:=p8 h3;exact pe_var (by rw[o.names];exact beq_iff_eq.mp h1) (o.vis h2) d1 d2
theorem GI{c:Const}:IHE CX G (.con c):=by
  intro e E sc N all X o h;obtain⟨c',j,p,rfl,k⟩:=IL h;obtain⟨h1,h2⟩:=an k;cases of_decide_eq_true h2;cases c with
  |none=>exact pe_non
  |bool b=>exact pe_bl
  |int i=>exact pe_int
  |str x=>exact pe_str
  |_=>exact dw h1
theorem GH:IHE CX G (.glo x):=by
  intro e E sc N all X o h;obtain⟨y,p,rfl,k⟩:=lK h;obtain⟨h1,h2,h3⟩:=jh k;cases of_decide_eq_true h1;intro pins s σ H Q I hw;obtain⟨v,hv,q⟩:=hw;obtain⟨u,hu,r⟩:=o.val _ _ hv;exact pe_glob (o.gl h2) hu r (p8 h3).1 pins s σ H Q I q
theorem sE_ty{t:Ty}:IHE CX G (.ty t):=by
  intro e E sc N all X o h;obtain⟨y,p,rfl,k⟩:=lK h;obtain⟨h1,h2⟩:=an k;cases of_decide_eq_true h1;exact pe_bltn (o.gl h2) (o.blt _ t.mem) t.boot rfl t.plain.1 t.plain.2
theorem sE_bin{op:Operator}{a b:CE}(ia:IHE CX G a)(ib:IHE CX G b):IHE CX G (.bin op a b):=by
  intro e E sc N all X o h;obtain⟨a',op',b',p,rfl,k⟩:=dBi_of h;obtain⟨h1,h2,h3⟩:=jh k;cases of_decide_eq_true h1;exact pe_op (rBin_ok op) (ia _ o h2) (ib _ o h3)
theorem sE_cmp{op:CmpOp}{a b:CE}(ia:IHE CX G a)(ib:IHE CX G b):IHE CX G (.cmp op a b):=by
  intro e E sc N all X o h;obtain⟨a',op',b',p,rfl,h0,k⟩:=IP h;obtain⟨h1,h2,h3⟩:=jh k;cases of_decide_eq_true h1;exact pe_cmpR (nL o.hu op) (ia _ o h2) (ib _ o h3) (nP h0 op)
theorem GJ{o1 o2:CmpOp}{a b c:CE}(ia:IHE CX G a)(ib:IHE CX G b)(ic:IHE CX G c):IHE CX G (.chain o1 o2 a b c):=by
  intro e E sc N all X o h;obtain⟨a',os,es,p,rfl,k⟩:=Ca h;obtain⟨p',q',rfl,l⟩:=w6 k;obtain⟨b',c',rfl,m⟩:=w6 l;obtain⟨h1,h2,h3,n⟩:=qO m;obtain⟨h4,h5,h6⟩:=jh n;cases of_decide_eq_true h1;cases of_decide_eq_true h2;exact He (nL o.hu o1) (nL o.hu o2) (ia _ o h4) (ib _ o h5) (ic _ o h6) (nP (sV h3) o2)
theorem sE_not{a:CE}(ia:IHE CX G a):IHE CX G (.not a):=by
  intro e E sc N all X o h;obtain⟨op',a',p,rfl,k⟩:=IG h;obtain⟨h1,h2⟩:=an k;cases of_decide_eq_true h1;exact pe_not (ia _ o h2)
theorem sE_and{a b:CE}(ia:IHE CX G a)(ib:IHE CX G b):IHE CX G (.and a b):=by
  intro e E sc N all X o h;obtain⟨op,a',x,p,k,m⟩:=rT h;obtain⟨h1,h2,h3⟩:=jh k;cases of_decide_eq_true h1;rcases m with rfl|⟨b',c',r,rfl,rfl⟩
  ·exact Hh (ia _ o h2) (Ha (ib _ o h3))
  ·exact Hh (ia _ o h2) (ib _ o h3)
theorem sE_or{a b:CE}(ia:IHE CX G a)(ib:IHE CX G b):IHE CX G (.or a b):=by
  intro e E sc N all X o h;obtain⟨op,a',x,p,k,m⟩:=rT h;obtain⟨h1,h2,h3⟩:=jh k;cases of_decide_eq_true h1;rcases m with rfl|⟨b',c',r,rfl,rfl⟩
  ·exact pe_or (ia _ o h2) (Ha (ib _ o h3))
  ·exact pe_or (ia _ o h2) (ib _ o h3)
theorem sE_ite{c a b:CE}(ic:IHT CX G c)(ia:IHE CX G a)(ib:IHE CX G b):IHE CX G (.ite c a b):=by
  intro e E sc N all X o h;obtain⟨c',a',b',p,rfl,k⟩:=dIf_of h;obtain⟨h1,h2,h3⟩:=jh k;exact Hb (ic _ o h1) (ia _ o h2) (ib _ o h3)
theorem GG{a i:CE}(ia:IHE CX G a)(ii:IHE CX G i):IHE CX G (.idx a i):=by
  intro e E sc N all X o h;obtain⟨a',i',p,rfl,k⟩:=vk h;obtain⟨h1,h2,h3⟩:=jh k;exact pe_ix ix_seq (ia _ o h2) (ii _ o h3) (zM (sV h1))
theorem sE_cut{a:CE}{lo hi:CO}(ia:IHE CX G a)(il:IHO CX G lo)(ih:IHO CX G hi):IHE CX G (.cut a lo hi):=by
  intro e E sc N all X o h;obtain⟨a',s,p,rfl,k⟩:=vk h;obtain⟨l,u,t,p',rfl,m⟩:=dSl_of k;obtain⟨h1,h2,n⟩:=jh m;obtain⟨h3,h4⟩:=an n;cases gC.mp h1;exact G9 rSlc_ok (ia _ o h2) (il _ o h3) (ih _ o h4)
theorem sE_tup{es:CL}(ie:IHL CX G es):IHE CX G (.tup es):=by
  intro e E sc N all X o h;obtain⟨es',j,p,rfl,k⟩:=IH h;exact pe_tup (ie _ o k)
theorem sE_lst{es:CL}(ie:IHL CX G es):IHE CX G (.lst es):=by
  intro e E sc N all X o h;obtain⟨es',p,rfl,k⟩:=dLi_of h;exact pe_lst (ie _ o k)
theorem CM{f:Str}{es:CL}(ie:IHL CX G es):IHE CX G (.call f es):=by
  intro e E sc N all X o h;obtain⟨f',np,es',p,rfl,k⟩:=kb h;obtain⟨h1,h2,h3,h4⟩:=qO k;cases of_decide_eq_true h1;intro pins s σ H Q I hw;obtain⟨sp,dvs,hf,hw⟩:=hw;obtain⟨fa,fd,ps,ds,k,F,hr,hm,hk,hb,hd⟩:=o.fn _ _ _ _ hf;cases es' with
  |nil=>
   cases es with
   |nil=>exact EH F hr (o.gl h2) hm hk hb hd o.pass (p8 h3).1 pins s σ H Q I hw
   |cons=>exact dw h4
  |cons e1 r1=>
   have hL:=ie _ o h4;obtain⟨_,_,e,hs⟩:=stars h4 rfl;cases e;exact Hf F hr (o.gl h2) hm hk hb hd o.pass hL (p8 h3).1 (hs _ p).1 (hs _ _).2 pins s σ H Q I hw
theorem Bf.kind:∀b:Bf,(∃n,b.val=.builtin n)\/∃n,b.val=.type n:=by intro b;cases b<;>first |exact .inl ⟨_,rfl⟩ |exact .inr ⟨_,rfl⟩
theorem pe_bf{b:Bf}{np:Pos}{es:List Expr}{t:TA}{l:CL}(hB:fz X b.val (rBf X.K b))(hg:Gl X b.name)(hm:X.mg b.name=none)(hL:PA X es t)(hn:(!es.isEmpty)=true)(h:rU sc N l es=true):PE X (.Call (.Name b.name np) es [] pos) (tCB (rBf X.K b) t):=by
 obtain⟨e,es',rfl,hs⟩:=stars h hn;have hv:=b.boot;rcases b.kind with⟨n,q⟩ |⟨n,q⟩
 ·rw[q]at hB hv
  exact Hg hB hg hm hv hL b.plain.1 b.plain.2 (hs _ pos).1 (hs _ _).2
 ·rw[q]at hB hv
  exact EG hB hg hm hv hL b.plain.1 b.plain.2 (hs _ pos).1 (hs _ _).2
theorem GK{b:Bf}{es:CL}(ie:IHL CX G es):IHE CX G (.bfn b es):=by
  intro e E sc N all X o h;obtain⟨f',np,es',p,rfl,k⟩:=kb h;obtain⟨h1,h2,h3,h4⟩:=qO k;cases of_decide_eq_true h1;exact pe_bf (rBf_ok o.calm o.hu b) (o.gl h2) (o.blt _ b.mem) (ie _ o h4) h3 h4
theorem GF{m:Mm}{b a:CE}(ib:IHE CX G b)(ia:IHE CX G a):IHE CX G (.meth1 m b a):=by
  intro e E sc N all X o h;obtain⟨o',ap,es,cp,rfl,h0,k⟩:=IJ h;obtain⟨a',rfl,l⟩:=kM k;obtain⟨h1,h2,h3⟩:=jh l;exact pe_bm PySem.F.plainAttrs_list m.slot m.ty (rMm_ok m) (ib _ o h2) (hV (ia _ o h3) lC (cz h3 _ _)) (DX h1 _ _ _) (by rw[cz h3];rfl) h0 (cz h3 _ _) rfl
theorem sE_idxd{a i:CE}(ia:IHE CX G a)(ii:IHE CX G i):IHE CX G (.idxd a i):=by
  intro e E sc N all X o h;obtain⟨a',i',p,rfl,k⟩:=vk h;obtain⟨h1,h2,h3⟩:=jh k;exact pe_ix (ix_dict (by have :=o.hu;omega)) (ia _ o h2) (ii _ o h3) (zM (sV h1))
theorem sE_dicT:IHE CX G .dicT:=by
  intro e E sc N all X o h;obtain⟨ks,vs,p,rfl,k⟩:=dDi_of h;obtain⟨h3,h4⟩:=an k;obtain rfl:=nil_of h3;obtain rfl:=nil_of h4;exact Hd
theorem sE_setd{b a c:CE}(ib:IHE CX G b)(ia:IHE CX G a)(ic:IHE CX G c):IHE CX G (.setd b a c):=by
  intro e E sc N all X o h;obtain⟨o',ap,es,cp,rfl,h0,k⟩:=IJ h;obtain⟨a',b',rfl,l⟩:=w6 k;obtain⟨h1,h2,m⟩:=jh l;obtain⟨h3,h4⟩:=an m;exact pe_bm PySem.F.plainAttrs_dict vI PySem.F.type_dict_setdefault (EW (by have :=o.hu;omega)) (ib _ o h2) (hV (ia _ o h3) (hV (ic _ o h4) lC (cz h4 _ _)) (cz h3 _ _)) (DX h1 _ _ _) (by rw[cz h3,cz h4];rfl) h0 (cz h3 _ _) (by rw[cz h4];rfl)
theorem Bv{a:CE}(ia:IHE CX G a):IHE CX G (.sortset a):=by
  intro e E sc N all X o h;obtain⟨p,a',q,r,t,rfl,h1,h2,h3⟩:=IK h;exact BD o.calm (o.gl h1) (o.blt _ (by decide+kernel)) (o.gl h2) (o.blt _ (by decide+kernel)) (hV (ia _ o h3) lC (cz h3 _ _)) (cz h3 _ _)
theorem sE_lrev{a:CE}(ia:IHE CX G a):IHE CX G (.lrev a):=by
  intro e E sc N all X o h;obtain⟨p,a',q,r,t,rfl,h1,h2,h3⟩:=IK h;exact pe_lrev o.calm (o.gl h1) (o.blt _ (by decide+kernel)) (o.gl h2) (o.blt _ (by decide+kernel)) (hV (ia _ o h3) lC (cz h3 _ _)) (cz h3 _ _)
theorem sE_comp(hCX:HX CX){own:List Str}{fr:List Nat}{tg:CG}{it:CI}{cond:CO}{elt:CE}(ii:IHI CX G it)(ig:IHG CX G tg)(ic:IHC CX G cond)(ie:IHE CX G elt):IHE CX G (.comp own fr tg it cond elt):=by
  intro e E sc N all X o h;obtain⟨elt',gs,sc',p,rfl,k⟩:=B9 h;obtain⟨⟨tg',it',ifs',y⟩,rfl,l⟩:=kM k;obtain⟨h1,h2,h3,m⟩:=qO l;obtain⟨h4,h5,h6,h7⟩:=qO m;cases of_decide_eq_true h1;have S:=uy h2;exact pe_comp (S.comp o) (S.mkOk o) o.calm (ii _ _ o h4)
   (fun C s₀ H₀ fp _=>⟨ig _ (o.comp hCX S C s₀ H₀ fp) h5,ic _ (o.comp hCX S C s₀ H₀ fp) h6,ie _ (o.comp hCX S C s₀ H₀ fp) h7⟩) (yp (sV h3) _)
theorem sT_cmp{op:CmpOp}{a b:CE}(ia:IHE CX G a)(ib:IHE CX G b):IHT CX G (.cmp op a b):=by
  intro e E sc N all X o h;obtain⟨a',op',b',p,rfl,h0,k⟩:=IP h;obtain⟨h1,h2,h3⟩:=jh k;cases of_decide_eq_true h1;exact pt_cmpR (nL o.hu op) (ia _ o h2) (ib _ o h3) (nP h0 op)
theorem Gz{o1 o2:CmpOp}{a b c:CE}(ia:IHE CX G a)(ib:IHE CX G b)(ic:IHE CX G c):IHT CX G (.chain o1 o2 a b c):=by
  intro e E sc N all X o h;obtain⟨a',os,es,p,rfl,k⟩:=Ca h;obtain⟨p',q',rfl,l⟩:=w6 k;obtain⟨b',c',rfl,m⟩:=w6 l;obtain⟨h1,h2,h3,n⟩:=qO m;obtain⟨h4,h5,h6⟩:=jh n;cases of_decide_eq_true h1;cases of_decide_eq_true h2;exact G0 (nL o.hu o1) (nL o.hu o2) (ia _ o h4) (ib _ o h5) (ic _ o h6) (nP (sV h3) o2)
theorem sT_not{a:CE}(ia:IHT CX G a):IHT CX G (.not a):=by
  intro e E sc N all X o h;obtain⟨op',a',p,rfl,k⟩:=IG h;obtain⟨h1,h2⟩:=an k;cases of_decide_eq_true h1;exact pt_not (ia _ o h2)
theorem sT_var:IHT CX G (.var i):=by
  intro e E sc N all X o h;have q:=GD e o h;obtain⟨x,p,rfl,k⟩:=lK h;exact kI q fun _=>rfl
theorem sT_con{c:Const}:IHT CX G (.con c):=by
  intro e E sc N all X o h;have q:=GI e o h;obtain⟨x,j,p,rfl,k⟩:=IL h;exact kI q fun _=>rfl
theorem sT_glo:IHT CX G (.glo x):=by
  intro e E sc N all X o h;have q:=GH e o h;obtain⟨x,p,rfl,k⟩:=lK h;exact kI q fun _=>rfl
theorem sT_idx{a i:CE}(ia:IHE CX G a)(ii:IHE CX G i):IHT CX G (.idx a i):=by
  intro e E sc N all X o h;have q:=GG ia ii e o h;obtain⟨x,y,p,rfl,k⟩:=vk h;exact kI q fun _=>rfl
theorem sT_call{f:Str}{es:CL}(ie:IHL CX G es):IHT CX G (.call f es):=by
  intro e E sc N all X o h;have q:=CM ie e o h;obtain⟨x,np,es,p,rfl,k⟩:=kb h;exact kI q fun _=>rfl
theorem sT_bfn{b:Bf}{es:CL}(ie:IHL CX G es):IHT CX G (.bfn b es):=by
  intro e E sc N all X o h;have q:=GK ie e o h;obtain⟨x,np,es,p,rfl,k⟩:=kb h;exact kI q fun _=>rfl
theorem Gy{a b:CE}(ia:IHT CX G a)(ib:IHT CX G b)(iw:IHW CX G b):IHW CX G (.and a b):=by
  intro e E sc N all X o h;obtain⟨op,a',x,p,k,m⟩:=rT h;obtain⟨h1,h2,h3⟩:=jh k;cases of_decide_eq_true h1;rcases m with rfl|⟨b',c',r,rfl,rfl⟩
  ·exact fun _=>GW (ia _ o h2) (pw_and1 (ib _ o h3))
  ·exact fun _=>GW (ia _ o h2) (iw _ o h3 rfl)
theorem sT_and{a b:CE}(iw:IHW CX G (.and a b)):IHT CX G (.and a b):=by
  intro e E sc N all X o h;obtain⟨op,a',x,p,k,m⟩:=rT h;exact(iw _ o h (by rcases m with rfl|⟨b',c',r,rfl,rfl⟩<;>rfl)).pt
theorem sW_or{a b:CE}(ia:IHT CX G a)(ib:IHT CX G b)(iw:IHW CX G b):IHW CX G (.or a b):=by
  intro e E sc N all X o h;obtain⟨op,a',x,p,k,m⟩:=rT h;obtain⟨h1,h2,h3⟩:=jh k;cases of_decide_eq_true h1;rcases m with rfl|⟨b',c',r,rfl,rfl⟩
  ·exact fun _=>pw_or (ia _ o h2) (pw_or1 (ib _ o h3))
  ·exact fun _=>pw_or (ia _ o h2) (iw _ o h3 rfl)
theorem sT_or{a b:CE}(iw:IHW CX G (.or a b)):IHT CX G (.or a b):=by
  intro e E sc N all X o h;obtain⟨op,a',x,p,k,m⟩:=rT h;exact(iw _ o h (by rcases m with rfl|⟨b',c',r,rfl,rfl⟩<;>rfl)).pt
theorem sL_nil:IHL CX G .nil:=by
  intro es E sc N all X o h;obtain rfl:=qy h;exact lC
theorem sL_cons{c:CE}{r:CL}(ic:IHE CX G c)(ir:IHL CX G r):IHL CX G (.cons c r):=by
  intro es E sc N all X o h;obtain⟨e',r',rfl,h1,h2⟩:=nT h;exact hV (ic _ o h1) (ir _ o h2) (cz h1 _ _)
theorem sP_nil:IHP CX G .nil:=by
  intro ks vs E sc N all X o h pos;obtain⟨h1,h2⟩:=an h;obtain rfl:=nil_of h1;obtain rfl:=nil_of h2;exact⟨pps_nil,rfl,rfl,fun z=>absurd rfl z⟩
theorem sP_cons{k v:CE}{r:CP}(ir:IHP CX G r)(ik:IHE CX G k)(iv:IHE CX G v):IHP CX G (.cons k v r):=by
  intro ks vs E sc N all X o h pos;obtain⟨k',ks',rfl,l⟩:=zt h;obtain⟨v',vs',rfl,m⟩:=zt l;obtain⟨k',rfl,n⟩:=Hl m;obtain⟨h1,h2,h3⟩:=jh n;obtain⟨p1,p2,p3,_⟩:=ir _ _ o h3 pos;exact⟨G5 (ik _ o h1) (iv _ o h2) p1,by simp[p2],by simp[p3],fun _=>by simp⟩
theorem sO_no:IHO CX G .no:=by
  intro e E sc N all X o h;obtain rfl:=gC.mp h;exact po_none
theorem sO_yes{c:CE}(ic:IHE CX G c):IHO CX G (.yes c):=by
  intro e E sc N all X o h;obtain⟨e',rfl,k⟩:=Hl h;exact po_some (ic _ o k)
theorem sC_no:IHC CX G .no:=by
  intro es E sc N all X o h;obtain rfl:=nil_of h;exact pts_nil
theorem sC_yes{c:CE}(ic:IHT CX G c):IHC CX G (.yes c):=by
  intro es E sc N all X o h;obtain⟨e',rfl,k⟩:=kM h;exact pts_one (ic _ o k)
theorem sG_name:IHG CX G (.name i):=by
  intro e E sc N all X o h;obtain⟨x,p,rfl,k⟩:=lK h;rw[aN,cw,beq_iff_eq,beq_iff_eq,beq_iff_eq]at k;obtain⟨h1,h2⟩:=k;refine C7 (by rw[o.names];exact o.nd) (by rw[o.names];exact h1) ?_ ?_
  ·rcases h2 with q|q
   ·exact .inl (o.loc x q)
   ·exact .inr (o.cel x q)
  ·rcases h2 with q|q
   ·exact .inr (o.loc x q)
   ·exact .inl (o.own x q)
theorem sG_tup{gs:CGs}(ig:Ji CX G gs):IHG CX G (.tup gs):=by
  intro e E sc N all X o h;obtain⟨es,j,p,rfl,k⟩:=IH h;obtain⟨a,b⟩:=sF k X.env;exact pg_tup o.calm (ig _ o k) a b
theorem sG_sub{b i:CE}(ib:IHE CX G b)(ii:IHE CX G i):IHG CX G (.sub b i):=by
  intro e E sc N all X o h;obtain⟨o',i',p,rfl,k⟩:=vk h;obtain⟨h1,h2,h3⟩:=jh k;refine pg_sub (ib _ o h2) (ii _ o h3) set_list fun v=>?_;cases i'<;>first
   |rfl
   |exact dw h1
theorem sGs_nil:Ji CX G .nil:=by
  intro es E sc N all X o h;obtain rfl:=xi h;exact pgs_nil
theorem GC{c:CG}{r:CGs}(ic:IHG CX G c)(ir:Ji CX G r):Ji CX G (.cons c r):=by
  intro es E sc N all X o h;obtain⟨e',r',rfl,h1,h2⟩:=vx h;exact G7 (ic _ o h1) (ir _ o h2) (by rw[qb h1];rfl)
theorem sI_seq{c:CE}(ic:IHE CX G c):IHI CX G (.seq c):=by
  intro e tg E sc N all X o h;exact pi_any (ic _ o h)
theorem sI_lseq{c:CE}(ic:IHE CX G c):IHI CX G (.lseq c):=by
  intro e tg E sc N all X o h;exact pi_list (ic _ o h)
theorem Ez{c:CE}(ic:IHE CX G c):IHI CX G (.range1 c):=by
  intro e tg E sc N all X o h;obtain⟨f,np,es,p,rfl,k⟩:=kb h;obtain⟨e',rfl,l⟩:=kM k;obtain⟨h1,h2,h3⟩:=jh l;cases of_decide_eq_true h1;exact EF (o.gl h2) (o.blt _ (by decide+kernel)) (hV (ic _ o h3) lC (cz h3 _ _)) (cz h3 _ _)
theorem Ey{a b:CE}(ia:IHE CX G a)(ib:IHE CX G b):IHI CX G (.range2 a b):=by
  intro e tg E sc N all X o h;obtain⟨f,np,es,p,rfl,k⟩:=kb h;obtain⟨a',b',rfl,l⟩:=w6 k;obtain⟨h1,h2,h3,h4⟩:=qO l;cases of_decide_eq_true h1;exact EE (o.gl h2) (o.blt _ (by decide+kernel)) (hV (ia _ o h3) (hV (ib _ o h4) lC (cz h4 _ _)) (cz h3 _ _)) (by rw[cz h3,cz h4];rfl) (cz h4 _ _)
theorem E7(h:pz e=true):∃es k p,e=.Tuple es k p:=by cases e<;>first |exact⟨_,_,_,rfl⟩ |exact dw h
theorem GB{c:CE}(ic:IHE CX G c):IHI CX G (.enumt c):=by
  intro e tg E sc N all X o h;obtain⟨f,np,es,p,rfl,k⟩:=kb h;obtain⟨e',rfl,l⟩:=kM k;obtain⟨h1,h2,h3,h4⟩:=qO l;cases of_decide_eq_true h1;obtain⟨es,j,p',rfl⟩:=E7 h4;exact G6 (o.gl h2) (o.blt _ (by decide+kernel)) (hV (ic _ o h3) lC (cz h3 _ _)) (cz h3 _ _)
mutual
theorem bH(hCX:HX CX):∀c:CE,IHE CX G c
 |.var i=>GD
 |.con c=>GI
 |.glo x=>GH
 |.ty t=>sE_ty
 |.bin op a b=>sE_bin (bH hCX a) (bH hCX b)
 |.cmp op a b=>sE_cmp (bH hCX a) (bH hCX b)
 |.chain o1 o2 a b c=>GJ (bH hCX a) (bH hCX b) (bH hCX c)
 |.not a=>sE_not (bH hCX a)
 |.and a b=>sE_and (bH hCX a) (bH hCX b)
 |.or a b=>sE_or (bH hCX a) (bH hCX b)
 |.ite c a b=>sE_ite (iE hCX c) (bH hCX a) (bH hCX b)
 |.idx a i=>GG (bH hCX a) (bH hCX i)
 |.cut a lo hi=>sE_cut (bH hCX a) (Gs hCX lo) (Gs hCX hi)
 |.tup es=>sE_tup (o8 hCX es)
 |.lst es=>sE_lst (o8 hCX es)
 |.call f es=>CM (o8 hCX es)
 |.bfn b es=>GK (o8 hCX es)
 |.meth1 m b a=>GF (bH hCX b) (bH hCX a)
 |.idxd a i=>sE_idxd (bH hCX a) (bH hCX i)
 |.dicT=>sE_dicT
 |.setd b a c=>sE_setd (bH hCX b) (bH hCX a) (bH hCX c)
 |.sortset a=>Bv (bH hCX a)
 |.lrev a=>sE_lrev (bH hCX a)
 |.comp own fr tg it cond elt=>sE_comp hCX (Br hCX it) (rF hCX tg) (Gu hCX cond) (bH hCX elt)
theorem iE(hCX:HX CX)(c:CE):IHT CX G c:=by
 cases c with
 |cmp op a b=>exact sT_cmp (bH hCX a) (bH hCX b)
 |chain p q a b c=>exact Gz (bH hCX a) (bH hCX b) (bH hCX c)
 |not a=>exact sT_not (iE hCX a)
 |and a b=>exact sT_and (Gy (iE hCX a) (iE hCX b) (xW hCX b))
 |or a b=>exact sT_or (sW_or (iE hCX a) (iE hCX b) (xW hCX b))
 |var i=>exact sT_var
 |con c=>exact sT_con
 |glo x=>exact sT_glo
 |idx a i=>exact sT_idx (bH hCX a) (bH hCX i)
 |call f es=>exact sT_call (o8 hCX es)
 |bfn b es=>exact sT_bfn (o8 hCX es)
 |_=>exact fun _ _ _ _ _ _ _ _ _ _ _ _ _ _ z=>z.elim
theorem xW(hCX:HX CX)(c:CE):IHW CX G c:=by
 cases c with
 |and a b=>exact Gy (iE hCX a) (iE hCX b) (xW hCX b)
 |or a b=>exact sW_or (iE hCX a) (iE hCX b) (xW hCX b)
 |_=>
  intro e E sc N all X o h hb;obtain⟨op,es,p,rfl⟩:=isBo_of hb;exact dw h
theorem o8(hCX:HX CX):∀c:CL,IHL CX G c
 |.nil=>sL_nil
 |.cons c r=>sL_cons (bH hCX c) (o8 hCX r)
theorem soundP(hCX:HX CX):∀c:CP,IHP CX G c
 |.nil=>sP_nil
 |.cons k v r=>sP_cons (soundP hCX r) (bH hCX k) (bH hCX v)
theorem Gs(hCX:HX CX):∀c:CO,IHO CX G c
 |.no=>sO_no
 |.yes c=>sO_yes (bH hCX c)
theorem Gu(hCX:HX CX):∀c:CO,IHC CX G c
 |.no=>sC_no
 |.yes c=>sC_yes (iE hCX c)
theorem rF(hCX:HX CX):∀c:CG,IHG CX G c
 |.name i=>sG_name
 |.tup gs=>sG_tup (CF hCX gs)
 |.sub ob i=>sG_sub (bH hCX ob) (bH hCX i)
theorem CF(hCX:HX CX):∀c:CGs,Ji CX G c
 |.nil=>sGs_nil
 |.cons c r=>GC (rF hCX c) (CF hCX r)
theorem Br(hCX:HX CX):∀c:CI,IHI CX G c
 |.seq c=>sI_seq (bH hCX c)
 |.lseq c=>sI_lseq (bH hCX c)
 |.range1 c=>Ez (bH hCX c)
 |.range2 a b=>Ey (bH hCX a) (bH hCX b)
 |.enumt c=>GB (bH hCX c)
end
end
section
variable {CX:CXT}{G:Gam}
theorem uP{all:Bool}{g:CG}(h:wm sc N all g tg=true)(hn:(pz tg&&pz e)=false)(env:Env):swappedStores [tg] e env=pure none:=by
 cases tg with
 |Tuple es k p=>
  cases e<;>first
   |rfl
   | (exact absurd hn (by simp[pz]))
 |List es p=>cases g<;>exact dw h
 |_=>rfl
theorem zy{a:Expr}{b:List Comprehension}{c:Scope}{d p:Pos}{l:Nat}{env:Env}(h:env.kindOf x≠some .local):tU (.ListComp a b c d) (some (.Name x p)) l env=pure false:=by
 show(pure (env.blockKind== .function&&env.kindOf x==some .local&&p.line==d.line&& !(c.names.any fun(n,k)=>n==x&&(k== .local||k== .cell))):Sem Bool)=pure false;have e:(env.kindOf x==some dU.local)=false:=by simpa using h
 rw[e,iU,cW,cW]
theorem Bp{a:Expr}{b:List Comprehension}{c:Scope}{d p:Pos}{l:Nat}{env:Env}(hk:env.scope.kind=.function)(h:env.kindOf x=some .local)(hl:p.line=d.line)
  (hn:(c.names.any fun y=>decide (y.1=x)&&(decide (y.2=.local)||decide (y.2=.cell)))=false):tU (.ListComp a b c d) (some (.Name x p)) l env=pure true:=by
 show(pure (env.blockKind== .function&&env.kindOf x==some .local&&p.line==d.line&& !(c.names.any fun(n,k)=>n==x&&(k== .local||k== .cell))):Sem Bool)=pure true;have e1:env.blockKind=.function:=by unfold Env.blockKind;rw[hk];rfl
 have e2:(c.names.any fun(n,k)=>n==x&&(k==dU.local||k==cO))=false:=by
  rw[<-hn];congr 1
 rw[e1,h,hl,e2];simp
theorem Cd{c:CE}(h:isCe c=true):∃own fr tg it cond elt,c=.comp own fr tg it cond elt:=by
 cases c with
 |comp own fr tg it cond elt=>exact⟨_,_,_,_,_,_,rfl⟩
 |_=>exact dw h
theorem Ht(h:vc e=false)(tg:Expr)(l:Nat)(env:Env):Jl [tg] e l env=pure false:=by
 unfold Jl;exact yr h _ _ _
structure OkL(G:Gam)(sc:Scope)(N:List Str)(X:Cx):Prop where
 names:X.N=N
 nd:N.Nodup
 loc:∀x,sc.names.lookup x=some .local->X.env.scope.names.lookup x=some .local
 cel:∀x,sc.names.lookup x=some .cell->X.env.scope.names.lookup x=some .cell
 fre:∀x,sc.names.lookup x=some .free->X.env.scope.names.lookup x=some .cell\/X.env.scope.names.lookup x=some .free
 glo:∀x,sc.names.lookup x=some .globalImplicit->X.env.scope.names.lookup x=some .globalImplicit
 all:∀x,X.fn x=true
 val:∀x v,G.val x=some v->∃u,X.mg x=some u/\RelV v u
 blt:∀x∈iW,X.mg x=none
mutual
theorem Gq(hCX:HX CX):∀(c:CS)(st:Stmt){E:XS}{sc:Scope}{N:List Str}{X:Cx},Ok CX G E sc N true X->(∀pins σ H s,Inv X pins σ H s->X.env.scope.kind=.function)->chkS sc N c st=true->PS X st (wpS G X.K E c)
 |.asg g e,st,E,sc,N,X,o,hk,h=>by
  obtain⟨g',e',p,rfl,k⟩:=IQ h;obtain⟨h1,h2,h3,h4⟩:=qO k;exact G3 (bH hCX e _ o h2) (rF hCX g _ o h1) (yr (sV h3) _ _ _) (uP h1 (sV h4) _) (by rw[qb h1];rfl)
 |.asgc i e,st,E,sc,N,X,o,hk,h=>by
  obtain⟨h0,h⟩:=an h;obtain⟨g',e',sp,rfl,k⟩:=IQ h;obtain⟨x,p,rfl,l⟩:=lK k;obtain⟨a,b,c,d,rfl,m⟩:=B9 l;obtain⟨h1,h2,h3,h4⟩:=qO m;rw[beq_iff_eq]at h1;rw[cw,beq_iff_eq,beq_iff_eq]at h2;rw[cw,beq_iff_eq]at h4;obtain⟨own,fr,tg,it,cond,elt,rfl⟩:=Cd h0;by_cases hl:X.env.scope.names.lookup x=some .local
  ·rcases h4 with q|q
   ·rw[o.cel x q]at hl;cases hl
   obtain⟨q1,q2⟩:=an q;obtain⟨elt',gs,sc',p',e1,r1⟩:=B9 h3;cases e1;obtain⟨⟨tg',it',ifs',y⟩,rfl,r2⟩:=kM r1;obtain⟨g0,g1,g2,r3⟩:=qO r2;obtain⟨g3,g4,g5,g6⟩:=qO r3;cases of_decide_eq_true g0;have S:=uy g1;intro pins s σ H D I hw;exact BA (S.comp o) (S.mkOk o) o.calm (Br hCX it _ _ o g3)
    (fun C s₀ H₀ fp _=>⟨rF hCX tg _ (o.comp hCX S C s₀ H₀ fp) g4,Gu hCX cond _ (o.comp hCX S C s₀ H₀ fp) g5,bH hCX elt _ (o.comp hCX S C s₀ H₀ fp) g6⟩)
    (by rw[o.names];exact o.nd) (by rw[o.names];exact h1) hl (Bp (hk pins σ H s I) hl (of_decide_eq_true q1) (sV q2)) (yp (sV g2) _) pins s σ H D I hw
  ·have hc:sc.names.lookup x=some .cell:=by
    rcases h2 with q|q
    ·exact absurd (o.loc x q) hl
    ·exact q
   exact ps_set (by rw[o.names];exact o.nd) (by rw[o.names];exact h1) (.inr (o.cel x hc)) (bH hCX _ _ o h3) (zy (by rw[show X.env.kindOf x=_ from o.cel x hc];decide)) (.inl (o.all rfl x))
 |.expr e,st,E,sc,N,X,o,hk,h=>by
  obtain⟨e',p,rfl,k⟩:=dEx_of h;obtain⟨h1,h2⟩:=an k;exact ps_expr (bH hCX e _ o h1) (yr (sV h2) _ _ _)
 |.iff c a b,st,E,sc,N,X,o,hk,h=>by
  obtain⟨c',a',b',p,rfl,k⟩:=dIs_of h;obtain⟨h1,h2,h3⟩:=jh k;exact ps_if (iE hCX c _ o h1) (o9 hCX a _ o hk h2) (o9 hCX b _ o hk h3)
 |.whl c b,st,E,sc,N,X,o,hk,h=>by
  obtain⟨c',b',p,rfl,k⟩:=dWh_of h;obtain⟨h1,h2⟩:=an k;exact G1 o.px (iE hCX c _ o h1) (o9 hCX b _ o hk h2)
 |.forr g it b,st,E,sc,N,X,o,hk,h=>by
  obtain⟨g',i',b',p,rfl,k⟩:=dFo_of h;obtain⟨h1,h2,h3,h4⟩:=qO k;exact ps_for o.px o.calm (Br hCX it _ _ o h2) (rF hCX g _ o h1) (o9 hCX b _ o hk h4) (yp (sV h3) _)
 |.ret e,st,E,sc,N,X,o,hk,h=>by
  obtain⟨r,p,rfl,k⟩:=II h;obtain⟨e',rfl,m⟩:=Hl k;exact ps_ret (bH hCX e _ o m)
 |.retN,st,E,sc,N,X,o,hk,h=>by
  obtain⟨r,p,rfl,k⟩:=II h;obtain rfl:=gC.mp k;exact ps_retN
 |.pass,st,E,sc,N,X,o,hk,h=>by
  cases st<;>first
   |exact ps_pass
   |exact dw h
 |.brk,st,E,sc,N,X,o,hk,h=>by
  cases st<;>first
   |exact G2
   |exact dw h
 |.cont,st,E,sc,N,X,o,hk,h=>by
  cases st<;>first
   |exact zL
   |exact dw h
theorem o9(hCX:HX CX):∀(c:CB)(st:List Stmt){E:XS}{sc:Scope}{N:List Str}{X:Cx},Ok CX G E sc N true X->(∀pins σ H s,Inv X pins σ H s->X.env.scope.kind=.function)->vz sc N c st=true->PSs X st (wpB G X.K E c)
 |.hole,_,_,_,_,_,_,_,_=>fun _ _ _ _ _ _ z=>z.elim
 |.nil,st,E,sc,N,X,o,hk,h=>by
  obtain rfl:=nil_of h;exact pss_nil
 |.cons s r,st,E,sc,N,X,o,hk,h=>by
  obtain⟨s',r',rfl,k⟩:=zt h;obtain⟨h1,h2⟩:=an k;exact uC (Gq hCX s _ o hk h1) (o9 hCX r _ o hk h2)
end
end
structure GOk(P:Program)(w:World)(K:ah)(mg:Str->Option Value)(base:Heap)(CX:CXT)(k:Nat)(G:Gam):Prop where
 val:∀x v,G.val x=some v->∃u,mg x=some u/\RelV v u
 fn:∀x n sp dvs,G.fn x n=some (sp,dvs)->∃f fd ps ds j,j<=k/\jH P w K mg base CX j f fd ps sp/\mg x=some (.ref f)/\cN K (.ref f)=true/\Binds K fd ps ds/\bD dvs ds
 ini:∀x n C sp dvs,G.ini x n=some (C,sp,dvs)->∃f fd ps ds j,j+1<=k/\MkX K C f/\jH P w K mg base CX j f fd ps sp/\mg x=some (.ref C)/\Binds K fd ps ds/\bD dvs ds
 dic:∀a kvs,G.dic a=some kvs->DkIn P w K a kvs
 mak:∀x n C sp dvs,G.mak x n=some (C,sp,dvs)->∃f fd ps ds j,j+1<=k/\Mk K C f/\jH P w K mg base CX j f fd ps sp/\mg x=some (.ref C)/\Binds K fd ps ds/\bD dvs ds
 mth:∀m n C sp dvs,G.mth m n=some (C,sp,dvs)->∃f fd ps ds j,j<=k/\Cls K C/\Meth K C m f/\jH P w K mg base CX j f fd ps sp/\Binds K fd ps ds/\bD dvs ds
 blt:∀x∈iW,mg x=none
noncomputable def qa(N ps:List Str)(sc:Scope):Bool:=
 decide (sc.kind=.function)&&decide (sc.isCoroutine=false)&&decide (sc.isGenerator=false)&&decide N.Nodup&&decide (N.take ps.length=ps)&&
 ps.all (fun x=>sc.names.lookup x==some .local||sc.names.lookup x==some .cell)&&sc.names.all (fun y=>decide (y.2≠.free))
theorem zX{ps:List Str}(h:qa N ps sc=true):tT N ps sc:=by
 unfold qa at h;simp only[aN,bC,decide_eq_true_eq,beq_iff_eq,cw]at h;obtain⟨⟨⟨⟨⟨⟨h1,h2⟩,h3⟩,h4⟩,h5⟩,h6⟩,h7⟩:=h;exact⟨h1,h2,h3,h4,h5,h6,h7⟩
section
variable {P:Program}{w:World}{K:ah}{mg:Str->Option Value}{base:Heap}
theorem Hm{ps:List Str}{G:Gam}{outer:List Env}{E:XK}(S:tT N ps sc)(g:GOk P w K mg base (CXx P w) k G)(hr:jO k (A.deeper (envOfC qual sc s.heap.objs.size f cdv))):Ok (CXx P w) G (fun _=>E) sc N true (yN (CXx P w) P w K mg base N qual sc f cdv A outer s H E):=
  {names:=rfl,top:=fun _=>⟨rfl,rfl,rfl⟩,nd:=S.nd,loc:=fun _ z=>z,cel:=fun _ z=>z,fre:=fun y z=>absurd rfl (S.nofree _ (bp z)),glo:=fun _ z=>z,all:=fun _ _=>rfl,own:=fun _ _=>rfl,calm:=rfl,
   hu:=by have :=hr.units;show _+50<cLine;exact tB (Nat.add_le_add_left (by decide) _) this
   val:=g.val
   fn:=fun y n sp' dvs e=>by
    obtain⟨f',fd',ps',ds',j,hj,F',hm,hk,hb,hv⟩:=g.fn y n sp' dvs e;exact⟨f',fd',ps',ds',j,F',hr.mono hj,hm,hk,hb,hv⟩
   ini:=fun y n C sp' dvs e=>by
    obtain⟨f',fd',ps',ds',j,hj,M,F',hm,hb,hv⟩:=g.ini y n C sp' dvs e;exact⟨f',fd',ps',ds',j,M,F',hr.mono hj,hm,hb,hv⟩
   dic:=g.dic
   mak:=fun y n C sp' dvs e=>by
    obtain⟨f',fd',ps',ds',j,hj,M,F',hm,hb,hv⟩:=g.mak y n C sp' dvs e;exact⟨f',fd',ps',ds',j,M,F',hr.mono hj,hm,hb,hv⟩
   mth:=fun y n C sp' dvs e=>by
    obtain⟨f',fd',ps',ds',j,hj,c,M,F',hb,hv⟩:=g.mth y n C sp' dvs e;exact⟨f',fd',ps',ds',j,c,M,F',hr.mono hj,hb,hv⟩
   blt:=g.blt,px:=PassesOwn.leaving,pass:=Fp,made:=Fq,madeX:=Cg,cx:=rfl}
theorem Ir{st:Stmt}{kV:Value}{an:Option Addr}{ps:List Str}{G:Gam}{sp:Sp}{code:CB}(lk:K.lookup f=some ⟨oc,od,.func (aF x qual (bj st) (aZ st) (aP st) dV kV doc pm an cdv ct),osl⟩)(hcd:ff K cdv qual=true)(hd:qa N ps (aP st)=true)(hc:vz (aP st) N code (aZ st)=true)
  (g:GOk P w K mg base (CXx P w) k G)(len:∀vs H Q E,sp vs H Q E->vs.length=ps.length)
  (h:∀vs H Q E,sp vs H Q E->wpB G K (fun _=>E) code {nx:=fun _ H'=>Q .non H',rt:=Q} (start N vs) H):jH P w K mg base (CXx P w) (k+1) f (aF x qual (bj st) (aZ st) (aP st) dV kV doc pm an cdv ct) ps sp:=by
 have S:=zX hd;refine fn_of lk hcd S len fun A outer s H vs Q E hr hsp=>?_;exact⟨_,o9 (fun _ _ _ _ _ z=>Fe z) code _ (Hm S g hr) (fun _ _ _ _ _=>S.kind) hc,h vs H Q E hsp⟩
theorem DF{st:Stmt}{fd:gy}{ps:List Str}{G:Gam}{sp:Sp}{code:CB}(F:Fun K x qual st f fd)(hd:qa N ps (aP st)=true)(hc:vz (aP st) N code (aZ st)=true)
  (g:GOk P w K mg base (CXx P w) k G)(len:∀vs H Q E,sp vs H Q E->vs.length=ps.length)
  (h:∀vs H Q E,sp vs H Q E->wpB G K (fun _=>E) code {nx:=fun _ H'=>Q .non H',rt:=Q} (start N vs) H):jH P w K mg base (CXx P w) (k+1) f fd ps sp:=by
 obtain⟨oc,od,kV,doc,pm,an,cdv,ct,osl,rfl,lk,hcd⟩:=F.ex;exact Ir lk hcd hd hc g len h
end
end R
namespace R
open PySem PySem.Spec PyProof.Rows L2
noncomputable def gam(vals:List (Str×V))(fns:List ((Str×Nat)×(Sp×List V)))(inis:List ((Str×Nat)×(Addr×Sp×List V)):=[]) (dics:List (Addr×List (Key×V)):=[]) (maks mths:List ((Str×Nat)×(Addr×Sp×List V)):=[]):Gam:=⟨fun x=>vals.lookup x,fun x n=>fns.lookup (x,n),fun x n=>inis.lookup (x,n),fun a=>dics.lookup a,fun x n=>maks.lookup (x,n),fun m n=>mths.lookup (m,n)⟩
theorem Ab{β:Type}{b:β}:∀{l:List (Addr×β)},l.lookup a=some b->(a,b)∈l
 | [],h=>nomatch h
 | (k,v)::l,h=>by
  rw[bf]at h;cases q:(a==k)with
  |true=>
   rw[q]at h;cases h;rw[beq_iff_eq.mp q];exact aG
  |false=>
   rw[q]at h;exact aM _ (Ab h)
section
variable {P:Program}{w:World}{K:ah}{mg:Str->Option Value}{base:Heap}{CX:CXT}
theorem GOk.start{vals:List (Str×V)}(hv:∀x v,(x,v)∈vals->∃u,mg x=some u/\RelV v u)(hb:∀x∈iW,mg x=none){dics:List (Addr×List (Key×V))}(hd:∀a kvs,(a,kvs)∈dics->DkIn P w K a kvs:=by intro a kvs h;exact nomatch h):GOk P w K mg base CX 0 (gam vals [] [] dics):=
 ⟨fun x v e=>hv x v (bp e),fun x n sp dvs e=>(nomatch e),fun x n C sp dvs e=>(nomatch e),fun a kvs e=>hd a kvs (Ab (show jt a dics=some kvs from e)),fun x n C sp dvs e=>(nomatch e),fun x n C sp dvs e=>(nomatch e),hb⟩
theorem GOk.add{vals:List (Str×V)}{fns:List ((Str×Nat)×(Sp×List V))}{fd:gy}{ps:List Str}{sp:Sp}{dvs:List V}{inis maks mths:List ((Str×Nat)×(Addr×Sp×List V))}{dics:List (Addr×List (Key×V))}(g:GOk P w K mg base CX k (gam vals fns inis dics maks mths))
  (F:jH P w K mg base CX (k+1) f fd ps sp)(hm:mg x=some (.ref f))(hk:cN K (.ref f)=true)(hb:Binds K fd ps ds)(hd:bD dvs ds):GOk P w K mg base CX (k+1) (gam vals (((x,n),(sp,dvs))::fns) inis dics maks mths):=by
 refine⟨g.val,fun y m sp' dvs' e=>?_,fun y m C sp' dvs' e=>?_,g.dic,fun y m C sp' dvs' e=>?_,fun y m C sp' dvs' e=>?_,g.blt⟩
 rotate_left
 rotate_left
 ·obtain⟨f',fd',ps',ds',j,hj,r⟩:=g.mak y m C sp' dvs' e
  exact⟨f',fd',ps',ds',j,eW hj,r⟩
 ·obtain⟨f',fd',ps',ds',j,hj,r⟩:=g.mth y m C sp' dvs' e
  exact⟨f',fd',ps',ds',j,eW hj,r⟩
 rotate_left
 ·obtain⟨f',fd',ps',ds',j,hj,r⟩:=g.ini y m C sp' dvs' e
  exact⟨f',fd',ps',ds',j,eW hj,r⟩
 have e':jt (y,m) (((x,n),(sp,dvs))::fns)=some (sp',dvs'):=e;rw[bf]at e';cases q:((y,m)==(x,n))with
 |true=>
  rw[q]at e';have e2:(y,m)=(x,n):=eq_of_beq q;cases e2;cases e';exact⟨f,fd,ps,ds,k+1,aB _,F,hm,hk,hb,hd⟩
 |false=>
  rw[q]at e';obtain⟨f',fd',ps',ds',j,hj,r⟩:=g.fn y m sp' dvs' e';exact⟨f',fd',ps',ds',j,eW hj,r⟩
end
section
variable {K:ah}{H:Hp}{Q:VK}{i j:Int}
theorem vE:j8 K .Add (.int i) (.int j) H Q↔Q (.int (i+j)) H:=by
 simp[j8,rI0,rCat]
theorem Gh:j8 K .Sub (.int i) (.int j) H Q↔Q (.int (i-j)) H:=by simp[j8,rI0]
theorem mul_ii:j8 K .Mult (.int i) (.int j) H Q↔Cn i j/\Q (.int (i*j)) H:=by simp[j8,rI,rRep,GS]
theorem hW:j8 K .Mod (.int i) (.int j) H Q↔0<j/\Q (.int (i%j)) H:=by simp[j8,rI]
theorem div_ii:j8 K .FloorDiv (.int i) (.int j) H Q↔CDiv i j/\Q (.int (i/j)) H:=by simp[j8,rI]
theorem pow_ii:j8 K .Pow (.int i) (.int j) H Q↔Jj i j/\Q (.int (i^j.toNat)) H:=by simp[j8,rI]
theorem add_ss{y:Str}:j8 K .Add (.str x) (.str y) H Q↔x.length+y.length<=sizeLine/\Q (.str (x++y)) H:=by simp[j8,rI0,rCat]
theorem Dp:gh K .Lt (.int i) (.int j) H Q↔Q (.bl (decide (i<j))) H:=by simp[gh,rI0]
theorem HH:gh K .LtE (.int i) (.int j) H Q↔Q (.bl (decide (i<=j))) H:=by simp[gh,rI0]
theorem Ij:gh K .Gt (.int i) (.int j) H Q↔Q (.bl (decide (j<i))) H:=by simp[gh,rI0]
theorem Il:gh K .GtE (.int i) (.int j) H Q↔Q (.bl (decide (j<=i))) H:=by simp[gh,rI0]
theorem C0{d:D}:Rep K H d (.int i)↔d=.int i:=by
 cases d<;>simp[Rep,eq_comm]
theorem kO:gh K .Eq (.int i) (.int j) H Q↔Q (.bl (decide (i=j))) H:=by
 simp only[gh,rEqD,C0];constructor
 ·rintro⟨_,_,rfl,rfl,_,q⟩;exact q
 ·intro q;exact⟨_,_,rfl,rfl,aX _,q⟩
theorem De:gh K .NotEq (.int i) (.int j) H Q↔Q (.bl (!decide (i=j))) H:=by
 simp only[gh,rNeD,C0];constructor
 ·rintro⟨_,_,rfl,rfl,_,q⟩;exact q
 ·intro q;exact⟨_,_,rfl,rfl,aX _,q⟩
theorem isnot_n{x:V}:gh K .IsNot x .non H Q↔Q (.bl (!decide (x=.non))) H:=by simp[gh]
theorem len_s:rBf K .len [.str z] H Q↔z.length<=sizeLine/\Q (.int z.length) H:=by simp[rBf]
theorem idx_s:rIx K (.str z) (.int i) H Q↔∃c,z.length<=sizeLine/\atI z.cps.toList i=some c/\Q (.str ⟨#[c]⟩) H:=by
 simp[rIx,rIxL,rIxT,rIxS]
theorem cut_s{lo hi:Option Int}:rSlc K (.str z) lo hi H Q↔z.length<=sizeLine/\Q (.str (vm z lo hi)) H:=by
 simp[rSlc,rSlL,rSlS]
end
structure sY(J:It)(n:Nat)(it:Nat->V->Hp->Prop)(Hc:Hp->Prop):Prop where
 go:∀i H,Hc H->i<n->J.go i H
 stop:∀i H,Hc H->n<=i->J.stop i H
 yld:∀i H x H',Hc H->i<n->J.yld i H x H'->it i x H'/\aL H H'
section
variable {K:ah}
theorem cX:sY (Itl K a) xs.length (fun i x _=>xs[i]? =some x) (fun H=>SqL K H a xs) where
 go:=fun i H h hi=>⟨xs,xs[i],h,by simp[hi]⟩
 stop:=fun i H h hi=>⟨xs,h,hi⟩
 yld:=fun i H x H' h hi y=>by
  obtain⟨e,y⟩:=y;subst e;exact⟨y xs h,aL.refl _⟩
theorem pW:sY (Itt K a) xs.length (fun i x _=>xs[i]? =some x) (fun H=>SqT K H a xs) where
 go:=fun i H h hi=>⟨xs,xs[i],h,by simp[hi]⟩
 stop:=fun i H h hi=>⟨xs,h,hi⟩
 yld:=fun i H x H' h hi y=>by
  obtain⟨e,y⟩:=y;subst e;exact⟨y xs h,aL.refl _⟩
theorem dv{lo:Int}:sY (Itr lo n) n (fun i x _=>x=.int (lo+i)) (fun _=>True) where
 go:=fun i H _ hi=>hi
 stop:=fun i H _ hi=>hi
 yld:=fun i H x H' _ hi y=>by
  obtain⟨e,y⟩:=y;subst e;exact⟨y,aL.refl _⟩
theorem seq_str:sY (Its z) z.length (fun i x _=>∃c,z.cps[i]? =some c/\x=.str ⟨#[c]⟩) (fun _=>True) where
 go:=fun i H _ hi=>hi
 stop:=fun i H _ hi=>hi
 yld:=fun i H x H' _ hi y=>by
  obtain⟨e,y⟩:=y;subst e;exact⟨y,aL.refl _⟩
theorem ax{p:Addr}{o:HO}(h:H p=none):aL H (upd H p o):=fun b u e=>by rw[bo (bO e h)];exact e
theorem jw{p:Addr}{o:HO}(h:upd H p o=H1)(hp:H p=none):aL H H1/\H1 p=some o:=by subst h;exact⟨ax hp,ao⟩
def ForB(J:It)(g:TG)(tb:TS)(D:Ends)(σ:L2.St)(H:Hp):Prop:=∃W:Nat->Nat->L2.St->Hp->Prop,(∃m,W 0 m σ H)/\∀i m σ H,W i m σ H->
 (J.stop i H/\D.nx σ H)\/(J.go i H/\∃N:L2.St->Hp->Prop,(∀σ' H',N σ' H'->∃m',m'<m/\W (i+1) m' σ' H')/\∀x H',J.yld i H x H'->g x σ H' fun σ2 H2=>tb {D with nx:=N,ct:=N,bk:=D.nx} σ2 H2)
def AU(J:It)(g:TG)(tc:TT)(te:TE)(τ0:L2.St)(H1:Hp)(Q:VK):Prop:=∃W:Nat->Nat->L2.St->List V->Hp->Prop,(∃m,W 0 m τ0 [] H1)/\
 ∀i m τ acc H2,W i m τ acc H2->(J.stop i H2/\∀l,H2 l=none->Q (.ref l) (upd H2 l (.lst acc)))\/(J.go i H2/\∃N:L2.St->List V->Hp->Prop,(∀τ' acc' H',N τ' acc' H'->∃m',m'<m/\W (i+1) m' τ' acc' H')/\
  ∀x H3,J.yld i H2 x H3->g x τ H3 fun τ4 H4=>tc τ4 H4 fun b H5=>if b=true then te τ4 H5 fun v H6=>acc.length<sizeLine/\N τ4 (acc++[v]) H6 else N τ4 acc H5)
theorem DD{J:It}{it:Nat->V->Hp->Prop}{Hc:Hp->Prop}{g:TG}{tb:TS}{D:Ends}(S:sY J n it Hc)(Pv:Nat->L2.St->Hp->Prop)(h0:Pv 0 σ H)(hl:∀i σ H,i<=n->Pv i σ H->Hc H)
  (hs:∀i x σ H H',i<n->Pv i σ H->it i x H'->aL H H'->g x σ H' fun σ2 H2=>tb {D with nx:=Pv (i+1),ct:=Pv (i+1),bk:=D.nx} σ2 H2) (hd:∀σ H,Pv n σ H->D.nx σ H):
  ForB J g tb D σ H:=by
 refine⟨fun i m σ H=>m=n-i/\i<=n/\Pv i σ H,⟨n,by simp,aX _,h0⟩,?_⟩;rintro i m σ H ⟨rfl,hi,p⟩;have q:=hl i σ H hi p;by_cases hlt:i<n
 ·refine .inr ⟨S.go i H q hlt,Pv (i+1),fun σ' H' p'=>⟨n-(i+1),by omega,rfl,hlt,p'⟩,fun x H' y=>?_⟩
  obtain⟨y1,y2⟩:=S.yld i H x H' q hlt y;exact hs i x σ H H' hlt p y1 y2
 ·have e:i=n:=by omega
  subst e;exact .inl ⟨S.stop i H q (aB _),hd σ H p⟩
theorem dH{J:It}{it:Nat->V->Hp->Prop}{Hc:Hp->Prop}{g:TG}{te:TE}{Q:VK}{τ0:L2.St}(S:sY J n it Hc)(hn:n<=sizeLine)(hc:∀H,aL H1 H->Hc H)
  (F:Nat->V->Hp->Prop)(Fm:∀i v H H',aL H H'->F i v H->F i v H')(T:L2.St->Prop)(hT:T τ0)
  (step:∀i x τ H3 (R:L2.St->V->Hp->Prop),i<n->T τ->aL H1 H3->it i x H3->(∀τ' v H6,T τ'->aL H3 H6->F i v H6->R τ' v H6)->g x τ H3 fun τ4 H4=>te τ4 H4 (R τ4))
  (fin:∀vs H2 l,vs.length=n->(∀(i:Nat) v,vs[i]? =some v->F i v H2)->aL H1 H2->H2 l=none->Q (.ref l) (upd H2 l (.lst vs))):
  AU J g tYes te τ0 H1 Q:=by
 refine⟨fun i m τ acc H2=>m=n-i/\i<=n/\T τ/\acc.length=i/\aL H1 H2/\∀(k:Nat) v,acc[k]? =some v->F k v H2,⟨n,by simp,aX _,hT,rfl,aL.refl _,fun k v e=>by simp at e⟩,?_⟩;rintro i m τ acc H2 ⟨rfl,hi,ht,hl,sm,hF⟩;have q:=hc H2 sm;by_cases hlt:i<n
 ·refine .inr ⟨S.go i H2 q hlt,fun τ' acc' H'=>T τ'/\acc'.length=i+1/\aL H1 H'/\∀(k:Nat) v,acc'[k]? =some v->F k v H',fun τ' acc' H' ⟨a,b,c,d⟩=>⟨n-(i+1),by omega,rfl,hlt,a,b,c,d⟩,fun x H3 y=>?_⟩
  obtain⟨y1,y2⟩:=S.yld i H2 x H3 q hlt y;refine step i x τ H3 (fun τ' v H6=>acc.length<sizeLine/\T τ'/\(acc++[v]).length=i+1/\aL H1 H6/\∀(k:Nat) v',(acc++[v])[k]? =some v'->F k v' H6) hlt ht (sm.trans y2) y1 fun τ' v H6 ht' s6 f6=>⟨by omega,ht',by simp[hl],(sm.trans y2).trans s6,fun k v' e=>?_⟩;by_cases hk:k<acc.length
  ·rw[cF hk]at e
   exact Fm k v' H2 H6 (y2.trans s6) (hF k v' e)
  ·rw[bS (by omega)]at e
   have hk0:k-acc.length=0:=by
    have :=(aC.mp e).1
    simp at this;omega
   rw[hk0]at e;have hk':k=i:=by omega
   simp at e;subst e;rw[hk'];exact f6
 ·have e:i=n:=by omega
  subst e;exact .inl ⟨S.stop i H2 q (aB _),fun l hl'=>fin acc H2 l hl hF sm hl'⟩
theorem cS{wi:TI}{g:TG}{tc:TT}{te:TE}{mk:L2.St->L2.St}{Q:VK}(h:wi σ H fun J H1=>AU J g tc te (mk σ) H1 Q):uc wi g tc te mk σ H Q:=h
theorem fQ{wi:TI}{g:TG}{tb:TS}{D:Ends}(h:wi σ H fun J H1=>ForB J g tb D σ H1):tFor wi g tb D σ H:=h
theorem AQ{R:It->Hp->Prop}(hv:σ[i]? =some (some (.str z)))(h:R (Its z) H):B2 K (pT i) σ H R:=⟨_,hv,.inr (.inr ⟨z,rfl,h⟩)⟩
theorem b7{R:It->Hp->Prop}(hv:σ[i]? =some (some (.ref a)))(hq:SqL K H a xs)(h:R (Itl K a) H):B2 K (pT i) σ H R:=⟨_,hv,.inl ⟨a,rfl,⟨xs,hq⟩,h⟩⟩
theorem j4{R:It->Hp->Prop}(hv:σ[i]? =some (some (.ref a)))(hq:SqT K H a xs)(h:R (Itt K a) H):B2 K (pT i) σ H R:=⟨_,hv,.inr (.inl ⟨a,rfl,⟨xs,hq⟩,h⟩)⟩
theorem bool_list{vs:List V}{b:Nat->Bool}(hl:vs.length=n)(h:∀(i:Nat) v,vs[i]? =some v->v=.bl (b i)):vs=((aw n).map b).map V.bl:=by
 apply bg
 ·simp[hl]
 ·intro i h1 h2
  have :=h i vs[i] (by simp[h1])
  simp[this]
theorem qP{α:Type}(l:List α)(d:α)(f:α->Bool):((aw l.length).map fun i=>f (l.getD i d)).all id=l.all f:=by
 rw[n9,bF];simp only[bC,aK,Function.comp,id];constructor
 ·intro h c hc
  obtain⟨i,hi,rfl⟩:=cE.mp hc;have :=h i hi;rw[ae,aa hi]at this;exact this
 ·intro h i hi
  have :=h _ (a9 hi)
  rw[ae,aa hi];exact this
theorem getD_some{α:Type}{l:List α}{d x:α}(h:l[i]? =some x):l.getD i d=x:=by
 rw[ae,h];rfl
theorem nR:∀ns:List Int,eP (ns.map D.int)=0
 | []=>rfl
 |n::ns=>by rw[bK,eP,nR ns];rfl
theorem pk(x y:Str):(x++y).length=x.length+y.length:=by
 show(x.cps++y.cps).size=_;rw[Array.size_append];rfl
end
def HasFn(K:ah)(x:Str)(st:Stmt):Prop:=∃(f:Addr)(oc:Value)(od an:Option Addr)(osl:Array (Option Value))(kV doc pm cdv ct:Value),d7 K bG x=some (some (.ref f))/\
 K.lookup f=some ⟨oc,od,.func (aF x x (bj st) (aZ st) (aP st) .none kV doc pm an cdv ct),osl⟩/\ff K cdv x=true/\cN K (.ref f)=true
theorem Ii{st:Stmt}{an:Option Addr}{kV:Value}(a:d7 K bG x=some (some (.ref f)))
  (l:K.lookup f=some ⟨oc,od,.func (aF x x (bj st) (aZ st) (aP st) .none kV doc pm an cdv ct),osl⟩)(c:ff K cdv x=true)(k:cN K (.ref f)=true):HasFn K x st:=
 ⟨f,oc,od,an,osl,kV,doc,pm,cdv,ct,a,l,c,k⟩
structure Def(K:ah)(mg:Str->Option Value)(x:Str)(st:Stmt):Prop where
 ex:∃f fd,Fun K x x st f fd/\mg x=some (.ref f)
theorem HasFn.def{st:Stmt}(X:K.In h)(Gm:h.Ns bG mg)(H:HasFn K x st):Def K mg x st:=by
 obtain⟨f,oc,od,an,osl,kV,doc,pm,cdv,ct,a,l,c,k⟩:=H;exact⟨f,_,B3 l c k,eQ X Gm a⟩
section
variable {P:Program}{w:World}{K:ah}{mg:Str->Option Value}{base:Heap}
theorem cL{vals:List (Str×V)}{fns:List ((Str×Nat)×(Sp×List V))}{st:Stmt}{ps:List Str}{sp:Sp}{code:CB}{inis maks mths:List ((Str×Nat)×(Addr×Sp×List V))}{dics:List (Addr×List (Key×V))}(g:GOk P w K mg base (CXx P w) k (gam vals fns inis dics maks mths))(d:Def K mg x st)
  (hc:(qa N ps (aP st)&&vz (aP st) N code (aZ st))=true)
  (hb:∀(kV doc pm:Value)(an:Option Addr)(cdv ct:Value)(us:List Value),us.length=ps.length->pK (aF x x (bj st) (aZ st) (aP st) .none kV doc pm an cdv ct) ⟨us,[]⟩=pure (ps.zip us))
  (len:∀vs H Q E,sp vs H Q E->vs.length=ps.length)
  (h:∀vs H Q E,sp vs H Q E->wpB (gam vals fns inis dics maks mths) K (fun _=>E) code {nx:=fun _ H'=>Q .non H',rt:=Q} (L2.start N vs) H):GOk P w K mg base (CXx P w) (k+1) (gam vals (((x,ps.length),(sp,[]))::fns) inis dics maks mths):=by
 rw[aN]at hc;obtain⟨f,fd,F,hm⟩:=d.ex;exact g.add (n:=ps.length) (DF F hc.1 hc.2 g len h) hm F.kp (F.binds hb) .nil
end
end R
variable {G:R.Gam}
set_option hygiene false in
local macro_rules | `(tactic| walk_at "wp") => `(tactic| simp only [_root_.R.wpB, _root_.R.wpS, _root_.R.wpE, _root_.R.wpT, _root_.R.wpL, _root_.R.wpO, _root_.R.wpC, _root_.R.wpG, _root_.R.wpGs, _root_.R.wpI, _root_.L2.vX, _root_.L2.tRet, _root_.L2.F8, _root_.L2.zw, _root_.L2.xK, _root_.L2.Gc, _root_.L2.tIfS, _root_.L2.Gf, _root_.L2.tOrV, _root_.L2.Ga, _root_.L2.tNot, _root_.L2.tAnd, _root_.L2.tOr, _root_.L2.wD, _root_.R.Bn, _root_.L2.tIf, _root_.L2.tCB, _root_.L2.kH, _root_.L2.sT, _root_.L2.pT, _root_.L2.tC, _root_.L2.tOp, _root_.L2.ud, _root_.L2.tTup, _root_.L2.tLst, _root_.L2.zx, _root_.L2.tBM, _root_.L2.tBM0, _root_.L2.tSl, _root_.L2.F9, _root_.L2.xJ, _root_.R.cv, _root_.L2.lS, _root_.L2.gSub, _root_.L2.gTup, _root_.L2.Im, _root_.L2.gNil, _root_.R.CGs.len, _root_.L2.Ie, _root_.L2.Ic, _root_.L2.Ig, _root_.L2.iEnum, _root_.List.getElem?_cons_zero, _root_.List.getElem?_cons_succ, _root_.Option.some.injEq, _root_.exists_eq_left', _root_.exists_eq_left, _root_.L2.V.bl.injEq, _root_.L2.V.int.injEq, _root_.L2.V.str.injEq, _root_.List.set_cons_zero, _root_.List.set_cons_succ, _root_.R.CL.len, _root_.R.Ty.t, _root_.R.vE, _root_.R.Gh, _root_.R.mul_ii, _root_.R.hW, _root_.R.div_ii, _root_.R.pow_ii, _root_.R.add_ss, _root_.R.Dp, _root_.R.HH, _root_.R.Ij, _root_.R.Il, _root_.R.kO, _root_.R.De, _root_.R.isnot_n, _root_.R.len_s, _root_.R.idx_s, _root_.R.cut_s, _root_.List.append_nil, _root_.R.lB, _root_.List.map_cons, _root_.List.map_nil, _root_.List.nil_append, _root_.List.cons_append])
namespace Cp
open PySem R
noncomputable def BF:List Str:=["thing"]
noncomputable def uS:List Str:=["thing"]
noncomputable def vB:CB:=
  (.cons (.ret (.and (.bfn .isinstance (.cons (.var 0) (.cons (.ty .int) .nil))) (.not (.bfn .isinstance (.cons (.var 0) (.cons (.ty .bool) .nil))))))
  .nil)
noncomputable def EI:List Str:=["thing"]
noncomputable def wX:List Str:=["thing"]
noncomputable def xj:CB:=
  (.cons (.iff (.not (.bfn .isinstance (.cons (.var 0) (.cons (.ty .str) .nil))))
  (.cons (.ret (.con (.bool false)))
  .nil)
  .nil)
  (.cons (.iff (.not (.chain .LtE .LtE (.con (.int 1)) (.bfn .len (.cons (.var 0) .nil)) (.glo "LONGEST_NAME")))
  (.cons (.ret (.con (.bool false)))
  .nil)
  .nil)
  (.cons (.ret (.bfn .all (.cons (.comp ["sign"] [] (.name 0) (.seq (.var 0)) .no (.cmp .In (.var 0) (.glo "LETTERS"))) .nil)))
  .nil)))
noncomputable def yj:List Str:=["thing"]
noncomputable def qk:List Str:=["thing"]
noncomputable def qH:CB:=
  (.cons (.ret (.and (.call "is_whole" (.cons (.var 0) .nil)) (.cmp .In (.var 0) (.tup (.cons (.con (.int 0)) (.cons (.con (.int 1)) .nil))))))
  .nil)
noncomputable def uH:List Str:=["thing"]
noncomputable def mJ:List Str:=["thing"]
noncomputable def nH:CB:=
  (.cons (.iff (.or (.not (.bfn .isinstance (.cons (.var 0) (.cons (.ty .tuple) .nil)))) (.cmp .Gt (.bfn .len (.cons (.var 0) .nil)) (.glo "MOST_PLACES")))
  (.cons (.ret (.con (.bool false)))
  .nil)
  .nil)
  (.cons (.ret (.bfn .all (.cons (.comp ["part"] [] (.name 0) (.seq (.var 0)) .no (.call "is_reading" (.cons (.var 0) .nil))) .nil)))
  .nil))
end Cp
set_option maxHeartbeats 1000000
namespace Cp
open PySem PySem.Spec PyProof.Rows L2 R
noncomputable def gu:Option HO->String
 |some (.lst _)=>"list"
 |some (.frz _ (.lst _))=>"list"
 |some (.tup _)=>"tuple"
 |some (.dK _)=>"dict"
 |some (.dT _)=>"dict"
 |_=>"?"
noncomputable def tyName(H:Hp):V->String
 |.non=>"NoneType"
 |.bl _=>"bool"
 |.int _=>"int"
 |.str _=>"str"
 |.ref a=>gu (H a)
 |_=>"?"
def Known(H:Hp)(x:V):Prop:=tyName H x≠"?"
theorem Known.same{x:V}(h:Known H x)(s:aL H H'):Known H' x/\tyName H' x=tyName H x:=by
 cases x with
 |ref a=>
  have h':gu (H a)≠"?":=h;show gu (H' a)≠"?"/\gu (H' a)=gu (H a);cases e:H a with
  |none=>rw[e]at h';exact absurd rfl h'
  |some o=>rw[s a o e];rw[e]at h';exact⟨h',rfl⟩
 |_=>exact⟨h,rfl⟩
theorem Known.ty{x:V}(h:Known H x):mi K H x (.type (tyName H x)):=by
 cases x with
 |non=>exact .non
 |bl b=>exact .bl b
 |int i=>exact .int i
 |str s=>exact .str s
 |ref a=>
  have h':gu (H a)≠"?":=h;show mi K H (.ref a) (.type (gu (H a)));cases e:H a with
  |none=>rw[e]at h';exact absurd rfl h'
  |some o=>
   rw[e]at h';cases o with
   |lst xs=>exact .lst e
   |tup xs=>exact .tup e
   |dK kvs=>exact .dK e
   |dT kvs=>exact .dT e
   |frz ob u=>
    cases u with
    |lst xs=>exact .frz e
    |_=>exact absurd rfl h'
   |_=>exact absurd rfl h'
 |_=>exact absurd rfl h
theorem Known.mem{x:V}(h:Known H x):tyName H x∈["NoneType","bool","int","str","list","tuple","dict"]:=by
 cases x with
 |ref a=>
  have h':gu (H a)≠"?":=h;show gu (H a)∈_;cases e:H a with
  |none=>rw[e]at h';exact absurd rfl h'
  |some o=>
   rw[e]at h';cases o with
   |lst xs=>simp[gu]
   |tup xs=>simp[gu]
   |dK kvs=>simp[gu]
   |dT kvs=>simp[gu]
   |frz ob u=>
    cases u with
    |lst xs=>simp[gu]
    |_=>exact absurd rfl h'
   |_=>exact absurd rfl h'
 |_=>first
  |exact absurd rfl h
  |simp[tyName]
noncomputable def ja(a b:String):Bool:=a==b||(a=="bool"&&b=="int")
theorem kit_ty(K:ah):∀(a:String)(t:Ty),a∈["NoneType","bool","int","str","list","tuple","dict"]->iB K (.type a) (.type t.t)=some (ja a t.t):=by
 intro a t h;simp only[aE,cJ,or_false]at h;rcases h with rfl|rfl|rfl|rfl|rfl|rfl|rfl<;>cases t<;>rfl
theorem isi{x:V}{Q:VK}(h:Known H x)(t:Ty)(q:Q (.bl (ja (tyName H x) t.t)) H):rBf K .isinstance [x,.ty t.t] H Q:=
 .inl ⟨x,t.t,_,_,rfl,h.ty,kit_ty K _ t h.mem,q⟩
theorem uZ{i:Int}:Known H (.int i):=by show "int"≠"?";decide
theorem kn_str:Known H (.str x):=by show "str"≠"?";decide
theorem yB(h:H a=some (.tup xs)):Known H (.ref a):=by show gu (H a)≠"?";rw[h];show "tuple"≠"?";decide
theorem HM(h:H a=some (.lst xs)):Known H (.ref a):=by show gu (H a)≠"?";rw[h];show "list"≠"?";decide
theorem dG{o:HO}(s:aL H H1)(h:H l=none):aL H (upd H1 l o):=fun b u e=>by rw[bo (bO e h)];exact s b u e
noncomputable def isWhole:V->Bool
 |.int _=>true
 |_=>false
noncomputable def cA:V->Bool
 |.int i=>i==0||i==1
 |_=>false
noncomputable def spB(f:V->Bool):Sp:=fun vs H Q _=>∃x,vs=[x]/\Known H x/\∀H',aL H H'->Q (.bl (f x)) H'
theorem sub_int{x:V}(h:Known H x):(ja (tyName H x) "int"&& !ja (tyName H x) "bool")=isWhole x:=by
 cases x with
 |ref a=>
  have h':gu (H a)≠"?":=h;show(ja (gu (H a)) "int"&& !ja (gu (H a)) "bool")=false;unfold gu;split <;>rfl
 |_=>rfl
theorem se:Sat G K (spB isWhole) vB uS:=by
 rintro vs H Q E ⟨x,rfl,hk,q⟩;unfold vB;change wpB G K _ _ _ [some x] H;walk_at "wp";refine isi hk .int ⟨_,rfl,?_⟩;have e:=sub_int hk;cases h1:ja (tyName H x) "int" with
 |false=>
  rw[h1,cW]at e;have q1:=q H (aL.refl H);rw[<-e]at q1;simpa[Ty.t,h1]using q1
 |true=>
  rw[h1,eB]at e;have q1:=q H (aL.refl H);rw[<-e]at q1;simp only[Ty.t,h1,if_true];exact isi hk .bool ⟨_,rfl,q1⟩
theorem vV(g1:G.fn "is_whole" 1=some (spB isWhole,[])):
  Sat G K (spB cA) qH qk:=by
 rintro vs H Q E ⟨x,rfl,hk,q⟩;unfold qH;change wpB G K _ _ _ [some x] H;walk_at "wp";refine⟨_,_,g1,x,rfl,hk,fun H1 s1=>⟨_,rfl,?_⟩⟩;cases x with
 |int i=>
  refine⟨by decide,fun p hp=>.inr ⟨p,_,rfl,.inr (SqT.of ao),rfl,rfl,?_⟩⟩;have q1:=q _ (s1.trans (ax (o:=.tup [.int 0,.int 1]) hp));have e:(if false=true then !inV (.int i) [.int 0,.int 1]else inV (.int i) [.int 0,.int 1])=cA (.int i):=by
   show((0:Int)==i||((1:Int)==i||false))=(i==0||i==1);rw[mf,Bool.beq_comm,Bool.beq_comm (a:=(1:Int))]
  rw[e];exact q1
 |_=>exact q H1 s1
noncomputable def lG(c:Nat):Bool:=decide (97<=c/\c<=122)
noncomputable def gK(z:Str):Bool:=decide (1<=z.length/\z.length<=8)&&z.cps.toList.all lG
noncomputable def isName:V->Bool
 |.str z=>gK z
 |_=>false
noncomputable def LETTERS:Str:="abcdefghijklmnopqrstuvwxyz"
theorem Af(c:Nat):decide (c∈LETTERS.cps.toList)=lG c:=by
 unfold lG;rw[show LETTERS.cps.toList=List.range' 97 26 by decide+kernel,decide_eq_decide,List.mem_range'_1];exact⟨fun h=>⟨h.1,Nat.le_of_lt_succ h.2⟩,fun h=>⟨h.1,Nat.lt_succ_of_le h.2⟩⟩
theorem B0{c:Nat}{Q:VK}(q:Q (.bl (lG c)) H):gh K .In (.str ⟨#[c]⟩) (.str LETTERS) H Q:=by
 refine .inl (.inl ⟨_,_,rfl,rfl,?_⟩);rw[StrLaws.found_one,Af];exact q
theorem BR:(20000:Nat)<=sizeLine:=by decide
noncomputable def spN:Sp:=fun vs H Q _=>∃x,vs=[x]/\Known H x/\(∀z,x=.str z->z.length<=20000)/\∀H',aL H H'->Q (.bl (isName x)) H'
theorem sub_str{x:V}(h:Known H x):ja (tyName H x) "str"=(match x with |.str _=>true|_=>false):=by
 cases x with
 |ref a=>
  show ja (gu (H a)) "str"=false;unfold gu;split <;>rfl
 |_=>rfl
theorem Be(v1:G.val "LETTERS"=some (.str LETTERS))(v2:G.val "LONGEST_NAME"=some (.int 8)):
  Sat G K spN xj wX:=by
 rintro vs H Q E ⟨x,rfl,hk,hz,q⟩;unfold xj;change wpB G K _ _ _ [some x] H;walk_at "wp";refine isi hk .str ⟨_,rfl,?_⟩;rw[show Ty.t .str="str" from rfl,sub_str hk];cases x with
 |str z=>
  have hz:=hz z rfl;have hl:z.length<=sizeLine:=aR hz BR;have all:∀R:VK,(∀H',aL H H'->R (.bl (z.cps.toList.all lG)) H')->uc (B2 K (pT 0)) (lS 0) tYes (tOp (gh K .In) (pT 0) fun σ H Q=>∃v,G.val "LETTERS"=some v/\Q v H) (lB ["sign"] []) [some (.str z)] H fun x H2=>rBf K .all [x] H2 R:=by
   intro R hR;refine cS (AQ rfl (dH seq_str hl (fun _ _=>trivial) (fun i v _=>v=.bl (lG (z.cps.toList.getD i 0))) (fun _ _ _ _ _ h=>h) (fun τ=>∃t,τ=[t]) ⟨none,rfl⟩ ?_ ?_))
   ·rintro i x τ H3 R hi ⟨t,rfl⟩ s3 ⟨c,hc,rfl⟩ k
    refine⟨_,rfl,_,v1,B0 (k _ _ _ ⟨_,rfl⟩ (aL.refl _) ?_)⟩;have :z.cps.toList[i]? =some c:=by simpa using hc
    rw[ae,this];rfl
   ·intro vs H2 l hvl hF s2 hl2
    have e:=bool_list hvl hF;subst e;refine⟨l,_,rfl,SqL.of ao,?_⟩;have e2:((aw z.length).map fun i=>lG (z.cps.toList.getD i 0)).all id=z.cps.toList.all lG:=by
     have :=qP z.cps.toList 0 lG
     rw[show z.cps.toList.length=z.length by simp[AW]]at this;exact this
    rw[e2];exact hR _ (s2.trans (ax hl2))
  simp only[fU,aQ,if_false,v2,jJ,exists_eq_left',exists_eq_left,V.bl.injEq,V.int.injEq,HH,len_s,hl,true_and];have q':∀H',aL H H'->Q (.bl (gK z)) H':=q;unfold gK at q';by_cases h1:1<=z.length
  ·by_cases h2:z.length<=8
   ·have e1:decide ((1:Int)<=z.length)=true:=decide_eq_true (by omega)
    have e2:decide ((z.length:Int)<=8)=true:=decide_eq_true (by omega);rw[decide_eq_true (And.intro h1 h2),eB]at q';simp only[e1,e2,if_true,fU,aQ,if_false];exact all Q q'
   ·have e1:decide ((1:Int)<=z.length)=true:=decide_eq_true (by omega)
    have e2:decide ((z.length:Int)<=8)=false:=decide_eq_false (by omega);rw[decide_eq_false (fun h=>h2 h.2),cW]at q';simp only[e1,e2,if_true,Bool.not_false];exact q' H (aL.refl H)
  ·have e1:decide ((1:Int)<=z.length)=false:=decide_eq_false (by omega)
   rw[decide_eq_false (fun h=>h1 h.1),cW]at q';simp only[e1,aQ,if_false,Bool.not_false,if_true];exact q' H (aL.refl H)
 |_=>exact q H (aL.refl H)
noncomputable def de:Option HO->Option (List V)
 |some (.tup xs)=>some xs
 |_=>none
theorem lH{o:Option HO}(h:de o=some xs):o=some (.tup xs):=by
 unfold de at h;split at h
 ·cases h;rfl
 ·cases h
theorem wF(o:Option HO):ja (gu o) "tuple"=(de o).isSome:=by
 unfold gu;split <;>first
  |rfl
  |skip
 unfold de;split <;>simp_all
 rfl
noncomputable def dg(H:Hp):V->Bool
 |.ref a=>match de (H a)with
  |some xs=>decide (xs.length<=60)&&xs.all cA
  |none=>false
 |_=>false
noncomputable def spR:Sp:=fun vs H Q _=>∃x,vs=[x]/\Known H x/\(∀a xs,x=.ref a->H a=some (.tup xs)->xs.length<=20000/\∀y∈xs,Known H y)/\∀H',aL H H'->Q (.bl (dg H x)) H'
theorem sS(g1:G.fn "is_reading" 1=some (spB cA,[]))(v1:G.val "MOST_PLACES"=some (.int 60)):
  Sat G K spR nH mJ:=by
 rintro vs H Q E ⟨x,rfl,hk,hx,q⟩;unfold nH;change wpB G K _ _ _ [some x] H;walk_at "wp";refine isi hk .tuple ⟨_,rfl,?_⟩;rw[show Ty.t .tuple="tuple" from rfl];cases x with
 |ref a=>
  show if(!ja (gu (H a)) "tuple")=true then _ else _
  rw[wF];have q0:∀H',aL H H'->Q (.bl (match de (H a)with |some xs=>decide (xs.length<=60)&&xs.all cA|none=>false)) H':=q;cases e0:de (H a)with
  |none=>
   rw[e0]at q0;exact q0 H (aL.refl H)
  |some xs=>
    rw[e0]at q0;have e:=lH e0;have q':∀H',aL H H'->Q (.bl (decide (xs.length<=60)&&xs.all cA)) H':=q0;obtain⟨hl,hy⟩:=hx a xs rfl e;have hl':xs.length<=sizeLine:=aR hl BR;simp only[gZ,fU,aQ,if_false];refine Or.inl ⟨a,xs,rfl,.inr (SqT.of e),_,v1,?_⟩;rw[Ij];refine⟨_,rfl,?_⟩;by_cases hle:xs.length<=60
    ·rw[decide_eq_true hle,eB]at q'
     have e1:decide ((60:Int)<xs.length)=false:=decide_eq_false (by omega);rw[e1];simp only[aQ,if_false];refine cS (j4 rfl (SqT.of e) (dH pW hl' (fun H1 s1=>s1.tup (SqT.of e)) (fun i v _=>v=.bl (cA (xs.getD i .non))) (fun _ _ _ _ _ h=>h) (fun τ=>∃t,τ=[t]) ⟨none,rfl⟩ ?_ ?_))
     ·rintro i y τ H3 R hi ⟨t,rfl⟩ s3 hy3 k
      have hym:y∈xs:=aD hy3;exact⟨_,_,g1,y,rfl,y,rfl,((hy y hym).same s3).1,fun H4 s4=>k _ _ _ ⟨_,rfl⟩ s4 (by rw[getD_some hy3])⟩
     ·intro vs H2 l hvl hF s2 hl2
      have e:=bool_list hvl hF;subst e;refine⟨l,_,rfl,SqL.of ao,?_⟩;rw[qP xs .non cA];exact q' _ (s2.trans (ax hl2))
    ·rw[decide_eq_false hle,cW]at q'
     have e1:decide ((60:Int)<xs.length)=true:=decide_eq_true (by omega);rw[e1];simpa using q' H (aL.refl H)
 |_=>exact q H (aL.refl H)
end Cp
namespace Cp
open PySem R
noncomputable def EJ:List Str:=["thing"]
noncomputable def wY:List Str:=["thing"]
noncomputable def xk:CB:=
  (.cons (.iff (.or (.not (.bfn .isinstance (.cons (.var 0) (.cons (.ty .tuple) .nil)))) (.cmp .NotEq (.bfn .len (.cons (.var 0) .nil)) (.con (.int 2))))
  (.cons (.ret (.con (.bool false)))
  .nil)
  .nil)
  (.cons (.ret (.and (.call "is_name" (.cons (.idx (.var 0) (.con (.int 0))) .nil)) (.call "are_readings" (.cons (.idx (.var 0) (.con (.int 1))) .nil))))
  .nil))
noncomputable def BG:List Str:=["thing"]
noncomputable def uT:List Str:=["thing","names","counts"]
noncomputable def vC:CB:=
  (.cons (.iff (.or (.not (.bfn .isinstance (.cons (.var 0) (.cons (.ty .list) .nil)))) (.cmp .Gt (.bfn .len (.cons (.var 0) .nil)) (.glo "MOST_COPIES")))
  (.cons (.ret (.con (.bool false)))
  .nil)
  .nil)
  (.cons (.iff (.not (.bfn .all (.cons (.comp ["part"] [] (.name 0) (.seq (.var 0)) .no (.call "is_copy" (.cons (.var 0) .nil))) .nil)))
  (.cons (.ret (.con (.bool false)))
  .nil)
  .nil)
  (.cons (.asgc 1 (.comp ["name","readings"] [] (.tup (.cons (.name 0) (.cons (.name 1) .nil))) (.seq (.var 0)) .no (.var 0)))
  (.cons (.asgc 2 (.comp ["name","readings"] [] (.tup (.cons (.name 0) (.cons (.name 1) .nil))) (.seq (.var 0)) .no (.bfn .len (.cons (.var 1) .nil))))
  (.cons (.ret (.and (.cmp .Eq (.bfn .len (.cons (.bfn .set (.cons (.var 1) .nil)) .nil)) (.bfn .len (.cons (.var 1) .nil))) (.cmp .LtE (.bfn .len (.cons (.bfn .set (.cons (.var 2) .nil)) .nil)) (.con (.int 1)))))
  .nil)))))
noncomputable def ye:List Str:=["table"]
noncomputable def qf:List Str:=["table"]
noncomputable def qA:CB:=
  (.cons (.iff (.not (.call "is_table" (.cons (.var 0) .nil)))
  .hole
  .nil)
  .nil)
noncomputable def v9:List Str:=["table"]
noncomputable def oy:List Str:=["table"]
noncomputable def oE:CB:=
  (.cons (.expr (.call "need_table" (.cons (.var 0) .nil)))
  (.cons (.iff (.cmp .Eq (.bfn .len (.cons (.var 0) .nil)) (.con (.int 0)))
  (.cons (.ret (.con (.int 0)))
  .nil)
  .nil)
  (.cons (.ret (.bfn .len (.cons (.idx (.idx (.var 0) (.con (.int 0))) (.con (.int 1))) .nil)))
  .nil)))
end Cp
namespace Cp
open PySem PySem.Spec PyProof.Rows L2 R
def Kn1(H:Hp)(x:V):Prop:=Known H x/\∀z,x=.str z->z.length<=20000
def Kn2(H:Hp)(x:V):Prop:=Kn1 H x/\∀a xs,x=.ref a->H a=some (.tup xs)->xs.length<=20000/\∀y∈xs,Kn1 H y
def Kn3(H:Hp)(x:V):Prop:=Kn1 H x/\∀a xs,x=.ref a->H a=some (.tup xs)->xs.length<=20000/\∀y∈xs,Kn2 H y
noncomputable def dZ:Option HO->Option (List V)
 |some (.lst xs)=>some xs
 |some (.frz _ (.lst xs))=>some xs
 |_=>none
def Kn4(H:Hp)(x:V):Prop:=Kn1 H x/\∀a xs,x=.ref a->dZ (H a)=some xs->xs.length<=20000/\∀y∈xs,Kn3 H y
theorem xB{o:HO}(s:aL H H')(k:H a≠none)(h:H' a=some o):H a=some o:=by
 cases e:H a with
 |none=>exact absurd e k
 |some u=>rw[s a u e]at h;exact h
theorem Known.some(k:Known H (.ref a)):H a≠none:=fun e=>by
 have k':gu (H a)≠"?":=k;rw[e]at k';exact k' rfl
theorem Kn1.same{x:V}(h:Kn1 H x)(s:aL H H'):Kn1 H' x:=⟨(h.1.same s).1,h.2⟩
theorem Kn2.same{x:V}(h:Kn2 H x)(s:aL H H'):Kn2 H' x:=⟨h.1.same s,fun a xs e hx=>by
 subst e;obtain⟨l,k⟩:=h.2 a xs rfl (xB s h.1.1.some hx);exact⟨l,fun y hy=>(k y hy).same s⟩⟩
theorem Kn3.same{x:V}(h:Kn3 H x)(s:aL H H'):Kn3 H' x:=⟨h.1.same s,fun a xs e hx=>by
 subst e;obtain⟨l,k⟩:=h.2 a xs rfl (xB s h.1.1.some hx);exact⟨l,fun y hy=>(k y hy).same s⟩⟩
theorem xC{x:V}(h:Known H x)(s:aL H H'):dg H' x=dg H x:=by
 cases x with
 |ref a=>
  show(match de (H' a)with |some xs=>_|none=>_)=(match de (H a)with |some xs=>_|none=>_);cases e:H a with
  |none=>exact absurd e h.some
  |some o=>rw[s a o e]
 |_=>rfl
noncomputable def cZ(H:Hp):V->Bool
 |.ref a=>match de (H a)with
  |some [n,r]=>isName n&&dg H r
  |_=>false
 |_=>false
theorem Ff{x:V}(h:Kn3 H x)(s:aL H H'):cZ H' x=cZ H x:=by
 cases x with
 |ref a=>
  show(match de (H' a)with |some [n,r]=>_|_=>_)=(match de (H a)with |some [n,r]=>_|_=>_);cases e:H a with
  |none=>exact absurd e h.1.1.some
  |some o=>
   rw[s a o e];cases o with
   |tup xs=>
    match xs with
    | []=>rfl
    | [_]=>rfl
    | [n,r]=>
     have k:=(h.2 a _ rfl e).2 r (by simp);show(isName n&&dg H' r)=(isName n&&dg H r);rw[xC k.1.1 s]
    |_::_::_::_=>rfl
   |_=>rfl
 |_=>rfl
noncomputable def spC:Sp:=fun vs H Q _=>∃x,vs=[x]/\Kn3 H x/\∀H',aL H H'->Q (.bl (cZ H x)) H'
theorem Bg(g1:G.fn "is_name" 1=some (spN,[]))(g2:G.fn "are_readings" 1=some (spR,[])):
  Sat G K spC xk wY:=by
 rintro vs H Q E ⟨x,rfl,hk,q⟩;unfold xk;change wpB G K _ _ _ [some x] H;walk_at "wp";refine isi hk.1.1 .tuple ⟨_,rfl,?_⟩;rw[show Ty.t .tuple="tuple" from rfl];cases x with
 |ref a=>
  show if(!ja (gu (H a)) "tuple")=true then _ else _
  rw[wF];have q0:∀H',aL H H'->Q (.bl (match de (H a)with |some [n,r]=>isName n&&dg H r|_=>false)) H':=q;cases e0:de (H a)with
  |none=>
   rw[e0]at q0;exact q0 H (aL.refl H)
  |some xs=>
   have e:=lH e0;rw[e0]at q0;obtain⟨hl,hy⟩:=hk.2 a xs rfl e;simp only[gZ,fU,aQ,if_false];refine Or.inl ⟨a,xs,rfl,.inr (SqT.of e),?_⟩;show gh K .NotEq (.int (xs.length:Int)) (.int 2) H _;rw[De];refine⟨_,rfl,?_⟩
   match xs,hl,hy,e,q0 with
   | [],_,_,_,q0=>exact q0 H (aL.refl H)
   | [_],_,_,_,q0=>exact q0 H (aL.refl H)
   |_::_::_::r,_,_,_,q0=>
    rw[if_pos (by simp;omega)];exact q0 H (aL.refl H)
   | [n,r],_,hy,e,q0=>
    rw[if_neg (by simp)];have kn:=hy n (by simp);have kr:=hy r (by simp);refine⟨_,_,g1,.inr (.inl ⟨a,[n,r],0,n,rfl,rfl,SqT.of e,rfl,n,rfl,kn.1.1,kn.1.2,fun H1 s1=>⟨_,rfl,?_⟩⟩)⟩;have q1:∀H',aL H H'->Q (.bl (isName n&&dg H r)) H':=q0;cases en:isName n with
    |false=>
     rw[en,cW]at q1;rw[if_neg ak];exact q1 H1 s1
    |true=>
     rw[en,eB]at q1;rw[if_pos rfl];have kr1:=kr.same s1;refine⟨_,_,g2,.inr (.inl ⟨a,[n,r],1,r,rfl,rfl,s1.tup (SqT.of e),rfl,r,rfl,kr1.1.1,fun b ys eb hb=>?_,fun H2 s2=>?_⟩)⟩
     ·obtain⟨l,k⟩:=kr1.2 b ys eb hb
      exact⟨l,fun y hy=>(k y hy).1⟩
     ·rw[xC kr.1.1 s1]
      exact q1 H2 (s1.trans s2)
 |_=>exact q H (aL.refl H)
theorem Ad{vs:List V}{f:V->V}(hl:vs.length=xs.length)(h:∀(i:Nat) v,vs[i]? =some v->v=f (xs.getD i .non)):vs=xs.map f:=by
 apply bg
 ·simp[hl]
 ·intro i h1 h2
  have h3:i<xs.length:=by omega
  have :=h i vs[i] (by simp[h1])
  rw[this,aY,ae,aa h3];rfl
theorem wW:∀(l:List Str),(l.map (eV:Str->Key)).Nodup↔l.Nodup
 | []=>by simp
 |x::l=>by
  rw[bK,bN,bN,wW l];have e:eV x∈l.map (eV:Str->Key)↔x∈l:=by
   constructor
   ·intro h
    obtain⟨y,hy,e⟩:=ay.mp h;injection e with e
    rw[<-e];exact hy
   ·exact fun h=>ay.mpr ⟨x,h,rfl⟩
  rw[e]
theorem kN(h:dZ (H a)=some xs):SqL K H a xs:=by
 unfold dZ at h;split at h
 ·rename_i e;cases h;exact .inl (.inl e)
 ·rename_i o _ e;cases h;exact .inl (.inr ⟨o,e⟩)
 ·cases h
theorem Gg(o:Option HO):ja (gu o) "list"=(dZ o).isSome:=by
 unfold gu;split <;>first
  |rfl
  |skip
 unfold dZ;split <;>simp_all
 rfl
noncomputable def aU(H:Hp):V->Str
 |.ref a=>match de (H a)with
  |some (.str z::_)=>z
  |_=>""
 |_=>""
noncomputable def cq(H:Hp):V->Nat
 |.ref a=>match de (H a)with
  |some [_,.ref b]=>(de (H b)).elim 0 lO
  |_=>0
 |_=>0
theorem gL{x:V}(h:cZ H x=true):∃a z b ys,x=.ref a/\H a=some (.tup [.str z,.ref b])/\H b=some (.tup ys)/\gK z=true/\ys.length<=60/\(∀y∈ys,cA y=true)/\aU H x=z/\cq H x=ys.length:=by
 cases x with
 |ref a=>
  have h':(match de (H a)with |some [n,r]=>isName n&&dg H r|_=>false)=true:=h;split at h'
  ·rename_i n r e
   rw[aN]at h';obtain⟨h1,h2⟩:=h';cases n with
   |str z=>
    cases r with
    |ref b=>
     have h3:(match de (H b)with |some xs=>decide (xs.length<=60)&&xs.all cA|none=>false)=true:=h2;split at h3
     ·rename_i ys eb
      rw[aN,decide_eq_true_eq,bC]at h3;refine⟨a,z,b,ys,rfl,lH e,lH eb,h1,h3.1,h3.2,?_,?_⟩
      ·show(match de (H a)with |some (.str z::_)=>z|_=>"")=z
       rw[e]
      ·show(match de (H a)with |some [_,.ref b]=>(de (H b)).elim 0 lO|_=>0)=ys.length
       rw[e];show(de (H b)).elim 0 lO=ys.length;rw[eb];rfl
     ·cases h3
    |_=>cases h2
   |_=>cases h1
  ·cases h'
 |_=>cases h
noncomputable def dB(H:Hp):V->Bool
 |.ref a=>match dZ (H a)with
  |some xs=>decide (xs.length<=40)&&(xs.all (cZ H)&&(decide ((xs.map (aU H)).Nodup)&&decide (∀y∈xs,∀z∈xs,cq H y=cq H z)))
  |none=>false
 |_=>false
noncomputable def spT:Sp:=fun vs H Q _=>∃x,vs=[x]/\Kn4 H x/\∀H',aL H H'->Q (.bl (dB H x)) H'
theorem zm(g1:G.fn "is_copy" 1=some (spC,[]))(v1:G.val "MOST_COPIES"=some (.int 40)):
  Sat G K spT vC uT:=by
 rintro vs H Q E ⟨x,rfl,hk,q⟩;unfold vC;change wpB G K _ _ _ [some x,none,none] H;walk_at "wp";refine isi hk.1.1 .list ⟨_,rfl,?_⟩;rw[show Ty.t .list="list" from rfl];cases x with
 |ref a=>
  show if(!ja (gu (H a)) "list")=true then _ else _
  rw[Gg];have q0:∀H',aL H H'->Q (.bl (match dZ (H a)with |some xs=>decide (xs.length<=40)&&(xs.all (cZ H)&&(decide ((xs.map (aU H)).Nodup)&&decide (∀y∈xs,∀z∈xs,cq H y=cq H z))) |none=>false)) H':=q;cases e0:dZ (H a)with
  |none=>
   rw[e0]at q0;exact q0 H (aL.refl H)
  |some xs=>
   rw[e0]at q0;obtain⟨hl,hy⟩:=hk.2 a xs rfl e0;have hl':xs.length<=sizeLine:=aR hl BR;simp only[gZ,fU,aQ,if_false];refine Or.inl ⟨a,xs,rfl,.inl (kN e0),_,v1,?_⟩;rw[Ij];refine⟨_,rfl,?_⟩;by_cases hle:xs.length<=40
   ·rw[decide_eq_false (by omega:¬(40:Int)<xs.length),if_neg ak]
    have qq:∀H',aL H H'->Q (.bl (xs.all (cZ H)&&(decide ((xs.map (aU H)).Nodup)&&decide (∀y∈xs,∀z∈xs,cq H y=cq H z)))) H':=fun H' s'=>by
     have z:Q (.bl (decide (xs.length<=40)&&(xs.all (cZ H)&&(decide ((xs.map (aU H)).Nodup)&&decide (∀y∈xs,∀z∈xs,cq H y=cq H z))))) H':=q0 H' s';rw[decide_eq_true hle,eB]at z;exact z
    have sq:∀{H1:Hp},aL H H1->SqL K H1 a xs:=fun s1=>s1.seq (kN e0);refine cS (b7 rfl (kN e0) (dH cX hl' (fun H1 s1=>sq s1) (fun i v _=>v=.bl (cZ H (xs.getD i .non))) (fun _ _ _ _ _ h=>h) (fun τ=>∃t,τ=[t]) ⟨none,rfl⟩ ?_ ?_))
    ·rintro i y τ H3 R hi ⟨t,rfl⟩ s3 hy3 k
     have ky:=hy y (aD hy3);exact⟨_,_,g1,y,rfl,y,rfl,ky.same s3,fun H4 s4=>k _ _ _ ⟨_,rfl⟩ s4 (by rw[getD_some hy3,Ff ky s3])⟩
    intro vs H2 l hvl hF s2 hl2;have e:=bool_list hvl hF;subst e;refine⟨l,_,rfl,SqL.of ao,_,rfl,?_⟩;rw[qP xs .non (cZ H)];have s3:aL H (upd H2 l (.lst (((aw xs.length).map fun i=>cZ H (xs.getD i .non)).map V.bl))):=s2.trans (ax hl2);generalize upd H2 l (.lst (((aw xs.length).map fun i=>cZ H (xs.getD i .non)).map V.bl))=H3 at s3;cases ea:xs.all (cZ H)with
    |false=>
     rw[ea,cW]at qq;rw[if_pos (by rfl)];exact qq H3 s3
    |true=>
     rw[ea,eB]at qq;rw[if_neg (by simp)];rw[bC]at ea;have sh:∀{i:Nat}{y:V},xs[i]? =some y->∃a z b ys,y=.ref a/\H a=some (.tup [.str z,.ref b])/\H b=some (.tup ys)/\aU H y=z/\cq H y=ys.length:=fun hy3=>by
      obtain⟨a,z,b,ys,h1,h2,h3,_,_,_,h7,h8⟩:=gL (ea _ (aD hy3));exact⟨a,z,b,ys,h1,h2,h3,h7,h8⟩
     refine cS (b7 rfl (sq s3) (dH cX hl' (fun H1 s1=>sq (s3.trans s1)) (fun i v _=>v=.str (aU H (xs.getD i .non))) (fun _ _ _ _ _ h=>h) (fun τ=>∃t u,τ=[t,u]) ⟨none,none,rfl⟩ ?_ ?_))
     ·rintro i y τ H4 R hi ⟨t,u,rfl⟩ s4 hy3 k
      obtain⟨b,z,c,ys,rfl,h1,h2,h3,h4⟩:=sh hy3;refine⟨b,_,rfl,(s3.trans s4).tup (SqT.of h1),rfl,_,_,rfl,_,_,rfl,rfl,_,rfl,k _ _ _ ⟨_,_,rfl⟩ (aL.refl _) ?_⟩;rw[getD_some hy3,h3]
     intro vs1 H4 l1 hvl1 hF1 s4 hl4;have e1:vs1=xs.map fun y=>V.str (aU H y):=Ad hvl1 hF1;subst e1;have s5:aL H (upd H4 l1 (.lst (xs.map fun y=>V.str (aU H y)))):=s3.trans (s4.trans (ax hl4));have n1:SqL K (upd H4 l1 (.lst (xs.map fun y=>V.str (aU H y)))) l1 (xs.map fun y=>V.str (aU H y)):=SqL.of ao;generalize upd H4 l1 (.lst (xs.map fun y=>V.str (aU H y)))=H5 at s5 n1;refine cS (b7 rfl (sq s5) (dH cX hl' (fun H1 s1=>sq (s5.trans s1)) (fun i v _=>v=.int (cq H (xs.getD i .non))) (fun _ _ _ _ _ h=>h) (fun τ=>∃t u,τ=[t,u]) ⟨none,none,rfl⟩ ?_ ?_))
     ·rintro i y τ H6 R hi ⟨t,u,rfl⟩ s6 hy3 k
      obtain⟨b,z,c,ys,rfl,h1,h2,h3,h4⟩:=sh hy3;refine⟨b,_,rfl,(s5.trans s6).tup (SqT.of h1),rfl,_,_,rfl,_,_,rfl,rfl,_,rfl,Or.inl ⟨c,ys,rfl,.inr ((s5.trans s6).tup (SqT.of h2)),k _ _ _ ⟨_,_,rfl⟩ (aL.refl _) ?_⟩⟩;rw[getD_some hy3,h4]
     intro vs2 H6 l2 hvl2 hF2 s6 hl6;have e2:vs2=xs.map fun y=>V.int (cq H y):=Ad hvl2 hF2;subst e2;have s7:aL H5 (upd H6 l2 (.lst (xs.map fun y=>V.int (cq H y)))):=s6.trans (ax hl6);have n2:SqL K (upd H6 l2 (.lst (xs.map fun y=>V.int (cq H y)))) l2 (xs.map fun y=>V.int (cq H y)):=SqL.of ao;generalize upd H6 l2 (.lst (xs.map fun y=>V.int (cq H y)))=H7 at s7 n2;have ek1:(xs.map fun y=>(eV (aU H y):Key)).map kV=xs.map fun y=>V.str (aU H y):=by rw[bq];rfl
     have ek2:(xs.map fun y=>(dE (cq H y:Int):Key)).map kV=xs.map fun y=>V.int (cq H y):=by rw[bq];rfl
     refine⟨l1,xs.map fun y=>(eV (aU H y):Key),rfl,by rw[ek1];exact s7.seq n1,by rw[ai];omega,fun c1 hc1=>?_⟩;refine .inr (.inr ⟨c1,_,rfl,ao,?_⟩);have s8:aL H7 (upd H7 c1 (_root_.Q.zD c1 (_root_.Q.met (xs.map fun y=>(eV (aU H y):Key))).length)):=ax hc1;generalize upd H7 c1 (_root_.Q.zD c1 (_root_.Q.met (xs.map fun y=>(eV (aU H y):Key))).length)=H8 at s8;refine Or.inl ⟨l1,_,rfl,.inl (s8.seq (s7.seq n1)),?_⟩;show gh K .Eq (.int ((_root_.Q.met (xs.map fun y=>(eV (aU H y):Key))).length:Int)) (.int ((xs.map fun y=>V.str (aU H y)).length:Int)) H8 _;rw[kO];refine⟨_,rfl,?_⟩;have hnd:decide (((_root_.Q.met (xs.map fun y=>(eV (aU H y):Key))).length:Int)=((xs.map fun y=>V.str (aU H y)).length:Int))=decide ((xs.map (aU H)).Nodup):=by
      rw[decide_eq_decide,ai];have hm:(xs.map fun y=>(eV (aU H y):Key)).Nodup↔(xs.map (aU H)).Nodup:=by
       have :(xs.map fun y=>(eV (aU H y):Key))=(xs.map (aU H)).map eV:=by rw[bq];rfl
       rw[this];exact wW _
      constructor
      ·intro z
       refine hm.mp (_root_.Q.yq ?_);rw[ai];exact Int.ofNat.inj z
      ·intro z
       rw[_root_.Q.EZ (hm.mpr z),ai]
     rw[hnd];have s9:aL H H8:=s5.trans (s7.trans s8);cases en:decide ((xs.map (aU H)).Nodup)with
     |false=>
      rw[en,cW]at qq;rw[if_neg ak];exact qq H8 s9
     |true=>
      rw[en,eB]at qq;rw[if_pos rfl];refine⟨l2,xs.map fun y=>(dE (cq H y:Int):Key),rfl,by rw[ek2];exact s8.seq n2,by rw[ai];omega,fun c2 hc2=>?_⟩;refine .inr (.inr ⟨c2,_,rfl,ao,?_⟩);show gh K .LtE (.int ((_root_.Q.met (xs.map fun y=>(dE (cq H y:Int):Key))).length:Int)) (.int 1) _ Q;rw[HH];have hone:decide (((_root_.Q.met (xs.map fun y=>(dE (cq H y:Int):Key))).length:Int)<=1)=decide (∀y∈xs,∀z∈xs,cq H y=cq H z):=by
       rw[decide_eq_decide];have h1:((_root_.Q.met (xs.map fun y=>(dE (cq H y:Int):Key))).length:Int)<=1↔(_root_.Q.met (xs.map fun y=>(dE (cq H y:Int):Key))).length<=1:=by omega
       rw[h1,_root_.Q.met_one];constructor
       ·intro z y hy1 y' hy2
        have :=z _ (ay.mpr ⟨y,hy1,rfl⟩) _ (ay.mpr ⟨y',hy2,rfl⟩)
        injection this with this;omega
       ·intro z k1 hk1 k2 hk2
        obtain⟨y,hy1,rfl⟩:=ay.mp hk1;obtain⟨y',hy2,rfl⟩:=ay.mp hk2;rw[z y hy1 y' hy2]
      rw[hone];exact qq _ (s9.trans (ax hc2))
   ·rw[decide_eq_true (by omega:(40:Int)<xs.length),if_pos rfl]
    have q1:Q (.bl (decide (xs.length<=40)&&(xs.all (cZ H)&&(decide ((xs.map (aU H)).Nodup)&&decide (∀y∈xs,∀z∈xs,cq H y=cq H z))))) H:=q0 H (aL.refl H);rw[decide_eq_false hle,cW]at q1;exact q1
 |_=>exact q H (aL.refl H)
noncomputable def xQ(C:Addr):Sp:=fun vs H Q E=>∃x,vs=[x]/\Kn4 H x/\(dB H x=true->∀H',aL H H'->Q .non H')/\(dB H x=false->False)
theorem vU(g1:G.fn "is_table" 1=some (spT,[])):
  Sat G K (xQ C) qA qf:=by
 rintro vs H Q E ⟨x,rfl,hk,q1,q2⟩;unfold qA;change wpB G K _ _ _ [some x] H;walk_at "wp";refine⟨_,_,g1,x,rfl,hk,fun H1 s1=>⟨_,rfl,?_⟩⟩;cases e:dB H x with
 |true=>
  rw[if_neg (by simp)];exact q1 e H1 s1
 |false=>
  rw[if_pos (by rfl)];exact q2 e
noncomputable def count(H:Hp):V->Nat
 |.ref a=>match dZ (H a)with
  |some (y::_)=>cq H y
  |_=>0
 |_=>0
theorem eG{x:V}(h:dB H x=true):∃a xs,x=.ref a/\dZ (H a)=some xs/\xs.length<=40/\(∀y∈xs,cZ H y=true)/\(xs.map (aU H)).Nodup/\∀y∈xs,cq H y=count H x:=by
 cases x with
 |ref a=>
  have h':(match dZ (H a)with |some xs=>decide (xs.length<=40)&&(xs.all (cZ H)&&(decide ((xs.map (aU H)).Nodup)&&decide (∀y∈xs,∀z∈xs,cq H y=cq H z))) |none=>false)=true:=h;split at h'
  ·rename_i xs e
   rw[aN,aN,aN,decide_eq_true_eq,decide_eq_true_eq,decide_eq_true_eq,bC]at h';obtain⟨h1,h2,h3,h4⟩:=h';refine⟨a,xs,rfl,e,h1,h2,h3,fun y hy=>?_⟩;show _=(match dZ (H a)with |some (y::_)=>cq H y|_=>0);rw[e];cases xs with
   |nil=>cases hy
   |cons z r=>exact h4 y hy z (.head _)
  ·cases h'
 |_=>cases h
noncomputable def tH(C:Addr):Sp:=fun vs H Q E=>∃x,vs=[x]/\Kn4 H x/\(dB H x=true->∀H',aL H H'->Q (.int (count H x)) H')/\(dB H x=false->False)
theorem t7(g1:G.fn "need_table" 1=some (xQ C,[])):
  Sat G K (tH C) oE oy:=by
 rintro vs H Q E ⟨x,rfl,hk,q1,q2⟩;unfold oE;change wpB G K _ _ _ [some x] H;walk_at "wp";refine⟨_,_,g1,x,rfl,hk,fun e H1 s1=>?_,q2⟩;obtain⟨a,xs,rfl,h1,h2,h3,h4,h5⟩:=eG e;have sq:SqL K H1 a xs:=s1.seq (kN h1);refine Or.inl ⟨a,xs,rfl,.inl sq,?_⟩;show gh K .Eq (.int (xs.length:Int)) (.int 0) H1 _;rw[kO];refine⟨_,rfl,?_⟩;cases xs with
 |nil=>
  rw[if_pos (by rfl)];have z:=q1 e H1 s1;have ec:count H (.ref a)=0:=by
   show(match dZ (H a)with |some (y::_)=>cq H y|_=>0)=0;rw[h1]
  rw[ec]at z;exact z
 |cons y r=>
  rw[if_neg (by simp;omega)];obtain⟨b,z,c,ys,rfl,k1,k2,_,_,_,_,k8⟩:=gL (h3 y (.head _));refine .inl ⟨a,_,0,.ref b,rfl,rfl,sq,cG (j:=0) rfl,?_⟩;refine .inr (.inl ⟨b,_,1,.ref c,rfl,rfl,s1.tup (SqT.of k1),rfl,?_⟩);refine Or.inl ⟨c,ys,rfl,.inr (s1.tup (SqT.of k2)),?_⟩;have w:=q1 e H1 s1;rw[<-h5 _ (.head _),k8]at w;exact w
noncomputable def isPlace(H:Hp)(x:V):V->Bool
 |.int i=>decide (0<=i/\i<count H x)
 |_=>false
noncomputable def rH(H:Hp):V->List V
 |.ref a=>match de (H a)with
  |some [_,.ref b]=>(de (H b)).getD []
  |_=>[]
 |_=>[]
noncomputable def at_(H:Hp)(i:Int)(y:V):V:=(rH H y).getD i.toNat .non
theorem jX{x:V}(h:cZ H x=true):∃a b,x=.ref a/\H a=some (.tup [.str (aU H x),.ref b])/\H b=some (.tup (rH H x))/\(rH H x).length=cq H x/\∀y∈rH H x,cA y=true:=by
 obtain⟨a,z,b,ys,rfl,h1,h2,_,_,h6,h7,h8⟩:=gL h;have e:rH H (.ref a)=ys:=by
  show(match de (H a)with |some [_,.ref b]=>(de (H b)).getD [] |_=>[])=ys;rw[h1];show(de (H b)).getD []=ys;rw[h2];rfl
 refine⟨a,b,rfl,by rw[h7];exact h1,by rw[e];exact h2,by rw[e,h8],by rw[e];exact h6⟩
theorem Ck{x:V}{i:Int}(h:cZ H y=true)(hc:cq H y=count H x)(hi:isPlace H x (.int i)=true):atI (rH H y) i=some (at_ H i y)/\cA (at_ H i y)=true:=by
 have hi':0<=i/\i<count H x:=of_decide_eq_true hi;obtain⟨a,b,_,_,_,h4,h5⟩:=jX h;have hlt:i.toNat<(rH H y).length:=by omega
 have e:(rH H y)[i.toNat]? =some (at_ H i y):=by
  unfold at_;rw[ae,aa hlt];rfl
 refine⟨?_,h5 _ (aD e)⟩;have :=cG (j:=i.toNat) e
 rwa [show((i.toNat:Nat):Int)=i by omega]at this
theorem gB{v:V}(h:cA v=true):v=.int 0\/v=.int 1:=by
 cases v with
 |int i=>
  have h':(i==0||i==1)=true:=h;rw[cw,beq_iff_eq,beq_iff_eq]at h';rcases h' with rfl|rfl
  ·exact .inl rfl
  ·exact .inr rfl
 |_=>cases h
theorem qx{J:It}{Hc:Hp->Prop}{g:TG}{tc:TT}{te:TE}{Q:VK}{τ0:L2.St}{α:Type}{ds:List α}(hl:xs.length=ds.length)(S:sY J xs.length (fun i x _=>xs[i]? =some x) Hc)(hn:xs.length<=sizeLine)(hc:∀H,aL H1 H->Hc H)
  (t:α->Bool)(f:V->α->V)(T:L2.St->Prop)(hT:T τ0)
  (step:∀(i:Nat) x a τ H3 (Rt:L2.St->V->Hp->Prop)(Rf:L2.St->Hp->Prop),xs[i]? =some x->ds[i]? =some a->T τ->aL H1 H3->(∀τ' H6,T τ'->aL H3 H6->t a=true->Rt τ' (f x a) H6)->(∀τ' H6,T τ'->aL H3 H6->t a=false->Rf τ' H6)->
   g x τ H3 fun τ4 H4=>tc τ4 H4 fun b H5=>if b=true then te τ4 H5 (Rt τ4)else Rf τ4 H5)
  (fin:∀H2 l,aL H1 H2->H2 l=none->Q (.ref l) (upd H2 l (.lst (((xs.zip ds).filter fun p=>t p.2).map fun p=>f p.1 p.2)))):AU J g tc te τ0 H1 Q:=by
 have zl:(xs.zip ds).length=xs.length:=by rw[List.length_zip];omega
 refine⟨fun i m τ acc H2=>m=xs.length-i/\i<=xs.length/\T τ/\acc=(((xs.zip ds).take i).filter fun p=>t p.2).map (fun p=>f p.1 p.2)/\aL H1 H2,⟨xs.length,by simp,aX _,hT,by simp,aL.refl _⟩,?_⟩;rintro i m τ acc H2 ⟨rfl,hi,ht,rfl,sm⟩;have q:=hc H2 sm;by_cases hlt:i<xs.length
 ·refine .inr ⟨S.go i H2 q hlt,fun τ' acc' H'=>T τ'/\acc'=(((xs.zip ds).take (i+1)).filter fun p=>t p.2).map (fun p=>f p.1 p.2)/\aL H1 H',fun τ' acc' H' ⟨a,b,c⟩=>⟨xs.length-(i+1),by omega,rfl,hlt,a,b,c⟩,fun x H3 y=>?_⟩
  obtain⟨y1,y2⟩:=S.yld i H2 x H3 q hlt y;have ha:ds[i]? =some ds[i]:=aa (by omega);have e:(xs.zip ds).take (i+1)=(xs.zip ds).take i++[(x,ds[i])]:=by
   rw[cB,(List.getElem?_zip_eq_some (z:=(x,ds[i]))).mpr ⟨y1,ha⟩];rfl
  have hlen:((((xs.zip ds).take i).filter fun p=>t p.2).map (fun p=>f p.1 p.2)).length<=i:=by
   rw[ai];refine aR (eK _ _) ?_;rw[c9];omega
  refine step i x _ τ H3 _ _ y1 ha ht (sm.trans y2) (fun τ' H6 h1 h2 h3=>⟨by omega,h1,?_,(sm.trans y2).trans h2⟩) (fun τ' H6 h1 h2 h3=>⟨h1,?_,(sm.trans y2).trans h2⟩)
  ·rw[e,kE,cQ]
   simp[h3]
  ·rw[e,kE,cQ]
   simp[h3]
 ·have e:i=xs.length:=by omega
  subst e;rw[<-zl,c7];exact .inl ⟨S.stop _ H2 q (by rw[zl];exact aB _),fun l hl'=>fin H2 l sm hl'⟩
theorem nS{J:It}{Hc:Hp->Prop}{g:TG}{tc:TT}{te:TE}{Q:VK}{τ0:L2.St}(S:sY J xs.length (fun i x _=>xs[i]? =some x) Hc)(hn:xs.length<=sizeLine)(hc:∀H,aL H1 H->Hc H)
  (t:V->Bool)(f:V->V)(T:L2.St->Prop)(hT:T τ0)
  (step:∀x τ H3 (Rt:L2.St->V->Hp->Prop)(Rf:L2.St->Hp->Prop),x∈xs->T τ->aL H1 H3->(∀τ' H6,T τ'->aL H3 H6->t x=true->Rt τ' (f x) H6)->(∀τ' H6,T τ'->aL H3 H6->t x=false->Rf τ' H6)->
   g x τ H3 fun τ4 H4=>tc τ4 H4 fun b H5=>if b=true then te τ4 H5 (Rt τ4)else Rf τ4 H5)
  (fin:∀H2 l,aL H1 H2->H2 l=none->Q (.ref l) (upd H2 l (.lst ((xs.filter t).map f)))):AU J g tc te τ0 H1 Q:=by
 refine qx rfl S hn hc t (fun _ a=>f a) T hT (fun i x a τ H3 Rt Rf e1 e2=>?_) fun H2 l s h=>?_
 ·rw[e1]at e2
  cases e2;exact step x τ H3 Rt Rf (aD e1)
 ·have z:=fin H2 l s h
  rw[<-vP (l₁:=xs) (l₂:=xs) (aB _),jK,bq]at z;exact z
end Cp
namespace Lt
open PySem R
noncomputable def wa:List Str:=["_law_script","_law_k"]
noncomputable def oz:List Str:=["_law_script","_law_k"]
noncomputable def oU:CB:=
  (.cons (.iff (.cmp .Lt (.var 1) (.bfn .len (.cons (.var 0) .nil)))
  (.cons (.ret (.idx (.var 0) (.var 1)))
  .nil)
  .nil)
  (.cons (.ret (.con (.int 0)))
  .nil))
end Lt
namespace Lt
open PySem PySem.Spec PyProof.Rows L2 R Cp
theorem vo{i j:Int}(h0:0<=j)(h1:j<18446744073709551616):Cn i j:=.inr ⟨by omega,by omega⟩
theorem DM{i j:Int}(h0:0<=i)(h1:i<18446744073709551616):Cn i j:=.inl ⟨by omega,by omega⟩
noncomputable def uv(K:ah):Sp:=fun vs H Q _=>∃(a:Addr)(ns:List Int)(k:Nat),vs=[.ref a,.int k]/\SqL K H a (ns.map V.int)/\Q (.int (ns.getD k 0)) H
theorem wp_cell:Sat G K (uv K) oU oz:=by
 rintro vs H Q E ⟨a,ns,k,rfl,hs,q⟩;unfold oU;change wpB G K _ _ _ [some (.ref a),some (.int k)] H;walk_at "wp";refine Or.inl ⟨a,_,rfl,.inl hs,?_⟩;show gh K .Lt (.int (k:Int)) (.int ((ns.map V.int).length:Int)) H _;rw[Dp,ai];refine⟨_,rfl,?_⟩;by_cases hk:k<ns.length
 ·rw[decide_eq_true (by omega:(k:Int)<(ns.length:Int)),if_pos rfl]
  refine .inl ⟨a,_,k,_,rfl,rfl,hs,cG (j:=k) (v:=.int (ns.getD k 0)) ?_,q⟩;rw[aq,aa hk,ae,aa hk];rfl
 ·rw[decide_eq_false (by omega:¬(k:Int)<(ns.length:Int)),if_neg ak]
  rw[ae,bL (by omega)]at q;exact q
theorem short(h:n<=40):n<=sizeLine:=aR h (by decide)
end Lt
namespace Q
open PySem PySem.Spec PySem.W PyProof.Rows L2
theorem zU(nd:ks.Nodup):(ord ks).Perm (aw ks.length):=by
 unfold ord;split
 ·exact dN _
 ·have P:=(eU (t9 nd) (by omega)).1
  have :=eE.mp P.perm
  simpa using this
theorem range_getD{α:Type}(d:α)(ys:List α):(aw ys.length).map (fun i=>ys.getD i d)=ys:=by
 apply bg
 ·simp
 ·intro i h1 h2
  simp[h2]
theorem fN{α:Type}(d:α){ys:List α}(nd:ks.Nodup)(hl:ks.length=ys.length):(sortBy d ks ys).Perm ys:=by
 unfold sortBy;have h:=(zU nd).map fun i=>ys.getD i d;rw[hl,range_getD]at h;exact h
theorem iI(nd:ks.Nodup):(sortBy ("":Str) ks ks).Pairwise fun a b=>tlt a b=true:=by
 unfold sortBy ord;split
 ·rename_i h
  rw[range_getD]
  match ks,h with
  | [],_=>exact .nil
  | [x],_=>simp
  |_::_::_,h=>simp at h;omega
 ·rename_i h
  obtain⟨P,U,_⟩:=eU (t9 nd) (by omega:1<=ks.length);rw[cT];intro i j hi hj hij;have hi':i<ks.length:=by simpa[P.size]using hi
  have hj':j<ks.length:=by simpa[P.size]using hj
  have u:=U i j hij hj';rw[aY,aY];have e:∀(k:Nat)(hk:k<(run (mN ks) (di ks.length)).toList.length),(run (mN ks) (di ks.length)).toList[k]=at' (run (mN ks) (di ks.length)) k:=fun k hk=>by
   have hk':k<(run (mN ks) (di ks.length)).size:=by simpa using hk
   simp[at',hk']
  rw[e,e];exact u
theorem Ek{y:Str}(a:tlt x y=true)(b:tlt y x=true):False:=by
 have c:=wC a b;unfold tlt at c;exact List.lt_irrefl _ (of_decide_eq_true c)
theorem j7:∀{l m:List Str},l.Perm m->l.Pairwise (fun a b=>tlt a b=true)->m.Pairwise (fun a b=>tlt a b=true)->l=m
 | [],m,p,_,_=>by rw[List.nil_perm.mp p]
 |x::l,[],p,_,_=>by simpa using p.length_eq
 |x::l,y::m,p,h1,h2=>by
  rw[kC]at h1 h2;have e:x=y:=by
   by_cases e:x=y
   ·exact e
   ·have hx:x∈m:=by
     have :=p.mem_iff.mp (aG (a:=x) (l:=l))
     rcases aE.mp this with z|z
     ·exact absurd z e
     ·exact z
    have hy:y∈l:=by
     have :=p.mem_iff.mpr (aG (a:=y) (l:=m))
     rcases aE.mp this with z|z
     ·exact absurd z.symm e
     ·exact z
    exact(Ek (h1.1 y hy) (h2.1 x hx)).elim
  subst e;rw[j7 (List.perm_cons x |>.mp p) h1.2 h2.2]
theorem sg{α:Type}(d:α)(f:α->Str)(p:α->Bool){ys:List α}(nd:(ys.map f).Nodup):((sortBy d (ys.map f) ys).filter p).map f=sortBy ("":Str) ((ys.filter p).map f) ((ys.filter p).map f):=by
 have nd2:((ys.filter p).map f).Nodup:=nd.sublist (jU.map _);refine j7 ?_ ?_ (iI nd2)
 ·exact(((fN d nd (by simp)).filter p).map f).trans (fN ("":Str) nd2 rfl).symm
 ·have h:((sortBy d (ys.map f) ys).map f).Pairwise fun a b=>tlt a b=true:=by
   have r:=iI nd;unfold sortBy at r⊢;rw[bq];have e:(ord (ys.map f)).map (f∘fun i=>ys.getD i d)=(ord (ys.map f)).map fun i=>(ys.map f).getD i ("":Str):=by
    apply bE
    intro i hi;have hi':i<ys.length:=by
     have :=(zU nd).mem_iff.mp hi
     simpa using this
    show f (ys.getD i d)=(ys.map f).getD i ("":Str);rw[ae,ae,aq,aa hi'];rfl
   rw[e];exact r
  exact h.sublist (jU.map _)
end Q
namespace Lt
open PySem PySem.Spec PyProof.Rows L2 R Cp
mutual
theorem mP:∀d:D,eqD d d=true
 |.non=>rfl
 |.bl b=>by cases b<;>rfl
 |.int i=>by show(i==i)=true;simp
 |.str x=>by show(x==x)=true;simp
 |.tup ds=>rR ds
 |.lst ds=>rR ds
theorem rR:∀ds:List D,lJ ds ds=true
 | []=>rfl
 |d::ds=>by show(eqD d d&&lJ ds ds)=true;rw[mP d,rR ds];rfl
end
theorem CW:∀zs:List V,(∀z∈zs,cA z=true)->∃ds,eI K H ds zs/\eP ds=0
 | [],_=>⟨[],rfl,rfl⟩
 |z::zs,h=>by
  obtain⟨ds,h1,h2⟩:=CW zs fun y hy=>h y (.tail _ hy);rcases gB (h z (.head _))with rfl|rfl
  ·exact⟨.int 0::ds,⟨_,_,rfl,rfl,h1⟩,by show max 0 (eP ds)=0;rw[h2];rfl⟩
  ·exact⟨.int 1::ds,⟨_,_,rfl,rfl,h1⟩,by show max 0 (eP ds)=0;rw[h2];rfl⟩
theorem si:∀ys:List V,(∀y∈ys,cZ H y=true)->∃ds,eI K H ds ys/\eP ds<=2
 | [],_=>⟨[],rfl,by decide⟩
 |y::ys,h=>by
  obtain⟨ds,h1,h2⟩:=si ys fun z hz=>h z (.tail _ hz);obtain⟨a,b,rfl,k1,k2,_,k4⟩:=jX (h y (.head _));obtain⟨es,g1,g2⟩:=CW (K:=K) (H:=H) _ k4;refine⟨.tup [.str (aU H (.ref a)),.tup es]::ds,⟨_,_,rfl,⟨a,_,rfl,SqT.of k1,_,_,rfl,rfl,_,_,rfl,⟨b,_,rfl,SqT.of k2,g1⟩,rfl⟩,h1⟩,?_⟩;show max (max 0 (max (eP es+1) 0)+1) (eP ds)<=2;rw[g2];omega
end Lt
namespace L2
open PySem PySem.Spec PyProof.Rows
section
variable {κ α:Type}[DecidableEq κ](kf:α->κ)(vf:α->V)
noncomputable def qu(acc:List (κ×V))(y:α):List (κ×V):=if(d0 acc (kf y)).isSome then acc else putK acc (kf y) (vf y)
noncomputable def fnd(ys:List α):List (κ×V):=ys.foldl (qu kf vf) []
theorem Io(acc:List (κ×V))(y:α)(k:κ):d0 (qu kf vf acc y) k=if(d0 acc k).isSome then d0 acc k else if k=kf y then some (vf y)else none:=by
 unfold qu;cases h:d0 acc (kf y)with
 |some v=>
  show d0 acc k=_;cases hk:d0 acc k with
  |some u=>rfl
  |none=>
   rw[if_neg (by simp),if_neg];intro e;rw[e,h]at hk;cases hk
 |none=>
  rw[if_neg (by simp),F3];by_cases e:k=kf y
  ·rw[if_pos e,e,h]
   simp
  ·rw[if_neg e]
   cases hk:d0 acc k<;>simp[e]
theorem fndS_nd{acc:List (κ×V)}(y:α)(h:(acc.map (·.1)).Nodup):((qu kf vf acc y).map (·.1)).Nodup:=by
 unfold qu;cases e:d0 acc (kf y)with
 |some v=>exact h
 |none=>rw[if_neg (by simp)];exact nd_putK _ h e
theorem Ip(acc:List (κ×V))(y:α):(qu kf vf acc y).length<=acc.length+1:=by
 unfold qu;split
 ·omega
 ·exact sA _ _ _
theorem Au:∀(ys:List α)(acc:List (κ×V)),(ys.foldl (qu kf vf) acc).length<=acc.length+ys.length
 | [],acc=>aB _
 |y::ys,acc=>by
  have :=Au ys (qu kf vf acc y)
  have :=Ip kf vf acc y
  simp only[dz,bB];omega
theorem DE:∀(ys:List α){acc:List (κ×V)},(acc.map (·.1)).Nodup->((ys.foldl (qu kf vf) acc).map (·.1)).Nodup
 | [],_,h=>h
 |y::ys,_,h=>DE ys (fndS_nd kf vf y h)
theorem As:∀(ys:List α)(acc:List (κ×V))(k:κ),d0 (ys.foldl (qu kf vf) acc) k=if(d0 acc k).isSome then d0 acc k else(ys.find? fun y=>decide (kf y=k)).map vf
 | [],acc,k=>by
  show d0 acc k=_;cases d0 acc k<;>rfl
 |y::ys,acc,k=>by
  rw[dz,As ys,Io];cases hk:d0 acc k with
  |some u=>simp
  |none=>
   simp only[FO,aQ,if_false];by_cases e:k=kf y
   ·rw[if_pos e,fM]
    simp[e]
   ·have e':¬kf y=k:=fun z=>e z.symm
    rw[if_neg e,fM];simp[e']
theorem yJ(ys:List α)(k:κ):d0 (fnd kf vf ys) k=(ys.find? fun y=>decide (kf y=k)).map vf:=by
 unfold fnd;rw[As];rfl
theorem fnd_nd(ys:List α):((fnd kf vf ys).map (·.1)).Nodup:=DE kf vf ys iR
theorem fnd_len(ys:List α):(fnd kf vf ys).length<=ys.length:=by
 have :=Au kf vf ys []
 rw[oq,vK]at this;exact this
theorem yK{ys:List α}{k:κ}:k∈(fnd kf vf ys).map (·.1)↔∃y∈ys,kf y=k:=by
 constructor
 ·intro h
  cases e:d0 (fnd kf vf ys) k with
  |none=>exact absurd h (zo e)
  |some v=>
   rw[yJ]at e;obtain⟨y,hy,_⟩:=mn.mp e;exact⟨y,AZ hy,by have :=List.find?_some hy;simpa using this⟩
 ·rintro⟨y,hy,e⟩
  cases h:d0 (fnd kf vf ys) k with
  |some v=>exact valV_in h
  |none=>
   rw[yJ,Ba,iA]at h;exact absurd e (by have :=h y hy;simpa using this)
theorem Hv:∀{l m:List κ},l.Nodup->(∀x∈l,x∈m)->l.length<=m.length
 | [],_,_,_=>aX _
 |a::l,m,h,hs=>by
  obtain⟨h1,h2⟩:=bN.mp h;have ha:=hs a (.head _);have :=Hv (l:=l) (m:=m.erase a) h2 fun x hx=>(pP (fun e:x=a=>h1 (by rw[<-e];exact hx))).mpr (hs x (.tail _ hx));rw[List.length_erase_of_mem ha]at this;have :=List.length_pos_of_mem ha;simp only[bB];omega
theorem fnd_all{ys:List α}{ks:List κ}(hk:ks.Nodup)(hs:∀y∈ys,kf y∈ks):(fnd kf vf ys).length<ks.length↔∃k∈ks,∀y∈ys,kf y≠k:=by
 have hsub:∀k∈(fnd kf vf ys).map (·.1),k∈ks:=fun k h=>by
  obtain⟨y,hy,e⟩:=(yK kf vf).mp h;rw[<-e];exact hs y hy
 have hnd:=fnd_nd kf vf ys;constructor
 ·intro hl
  apply aJ
  intro hno;have hall:∀k∈ks,k∈(fnd kf vf ys).map (·.1):=fun k hk=>by
   apply aJ
   intro hn;exact hno ⟨k,hk,fun y hy e=>hn ((yK kf vf).mpr ⟨y,hy,e⟩)⟩
  have :=Hv hk hall
  rw[ai]at this;omega
 ·rintro⟨k,hkm,hk2⟩
  have hn:k∉(fnd kf vf ys).map (·.1):=fun h=>by
   obtain⟨y,hy,e⟩:=(yK kf vf).mp h;exact hk2 y hy e
  have :(k::(fnd kf vf ys).map (·.1)).Nodup:=bN.mpr ⟨hn,hnd⟩;have :=Hv this (fun x hx=>by
   rcases aE.mp hx with rfl|hx
   ·exact hkm
   ·exact hsub x hx)
  rw[bB,ai]at this;omega
end
end L2
namespace Kc
open PySem R
noncomputable def rK:List Str:=["copies","one","other"]
noncomputable def kL:List Str:=["copies","one","other","found","name","readings"]
noncomputable def lg:CB:=
  (.cons (.asg (.name 3) (.dicT))
  (.cons (.forr (.tup (.cons (.name 4) (.cons (.name 5) .nil))) (.seq (.var 0))
  (.cons (.expr (.setd (.var 3) (.tup (.cons (.idx (.var 5) (.var 1)) (.cons (.idx (.var 5) (.var 2)) .nil))) (.var 4)))
  .nil))
  (.cons (.iff (.cmp .Lt (.bfn .lend (.cons (.var 3) .nil)) (.bfn .len (.cons (.glo "KINDS") .nil)))
  (.cons (.ret (.con .none))
  .nil)
  .nil)
  (.cons (.ret (.bfn .tuple (.cons (.comp ["kind"] [3] (.name 0) (.seq (.glo "KINDS")) .no (.idxd (.var 1) (.var 0))) .nil)))
  .nil))))
end Kc
namespace Kc
open PySem PySem.Spec PyProof.Rows L2 R Cp Lt
theorem fm{J:It}{it:Nat->V->Hp->Prop}{Hc:Hp->Prop}{g:TG}{tb:TS}{D:Ends}(S:sY J n it Hc)(Pv:Nat->L2.St->Hp->Prop)(h0:Pv 0 σ H)(hl:∀i σ H,i<=n->Pv i σ H->Hc H)
  (hs:∀i x σ H H' (D2:Ends),i<n->Pv i σ H->it i x H'->aL H H'->(∀σ2 H2,Pv (i+1) σ2 H2->D2.nx σ2 H2)->D2.rt=D.rt->g x σ H' fun σ2 H2=>tb D2 σ2 H2)(hd:∀σ H,Pv n σ H->D.nx σ H):ForB J g tb D σ H:=
 DD S Pv h0 hl (fun i x σ H H' a b c d=>hs i x σ H H' _ a b c d (fun _ _ h=>h) rfl) hd
theorem gJ(h:us.length=1):∃a,us=[a]:=by
 cases us with
 |nil=>exact nomatch h
 |cons a r=>exact⟨a,by rw[a8.mp (js h)]⟩
theorem gg(h:us.length=2):∃a b,us=[a,b]:=by
 cases us with
 |nil=>exact nomatch h
 |cons a r=>
  obtain⟨b,e⟩:=gJ (js h);exact⟨a,b,by rw[e]⟩
theorem my(h:us.length=3):∃a b c,us=[a,b,c]:=by
 cases us with
 |nil=>exact nomatch h
 |cons a r=>
  obtain⟨b,c,e⟩:=gg (js h);exact⟨a,b,c,by rw[e]⟩
theorem dX{α:Type}{F:α->Prop}{vs:List V}(h:∃a,F a)(k:∀a,F a->vs.length=n):vs.length=n:=let⟨a,f⟩:=h;k a f
theorem fG{P:Prop}{l vs:List V}(h:vs=l/\P)(e:l.length=n):vs.length=n:=by rw[h.1];exact e
noncomputable def num(H:Hp)(i:Int)(y:V):Int:=match at_ H i y with
 |.int n=>n
 |_=>0
noncomputable def KP:List (Int×Int):=[(0,0),(0,1),(1,0),(1,1)]
noncomputable def pq(k:Int×Int):List Key:=[.inl k.1,.inl k.2]
noncomputable def kf(H:Hp)(i j:Int)(y:V):List Key:=pq (num H i y,num H j y)
noncomputable def j9(H:Hp)(xs:List V)(i j:Int):Bool:=KP.all fun k=>xs.any fun y=>decide (num H i y=k.1/\num H j y=k.2)
noncomputable def firstOf(H:Hp)(xs:List V)(i j:Int)(k:Int×Int):V:=((xs.find? fun y=>decide (kf H i j y=pq k)).map fun y=>V.str (aU H y)).getD .non
def Kinds(K:ah)(kd:Addr):Prop:=∃a0 a1 a2 a3:Addr,∀H:Hp,SqT K H kd [.ref a0,.ref a1,.ref a2,.ref a3]/\SqT K H a0 [.int 0,.int 0]/\SqT K H a1 [.int 0,.int 1]/\SqT K H a2 [.int 1,.int 0]/\SqT K H a3 [.int 1,.int 1]
theorem Kinds.at(h:Kinds K kd):∃as:List V,as.length=4/\(∀H:Hp,SqT K H kd as)/\∀(H:Hp)(i:Nat) x,as[i]? =some x->∃(b:Addr)(k:Int×Int),x=.ref b/\KP[i]? =some k/\SqT K H b ((pq k).map kV):=by
 obtain⟨a0,a1,a2,a3,h⟩:=h;refine⟨[.ref a0,.ref a1,.ref a2,.ref a3],rfl,fun H=>(h H).1,fun H i x e=>?_⟩;obtain⟨_,h0,h1,h2,h3⟩:=h H
 match i,e with
 | 0,e=>cases e;exact⟨a0,_,rfl,rfl,h0⟩
 | 1,e=>cases e;exact⟨a1,_,rfl,rfl,h1⟩
 | 2,e=>cases e;exact⟨a2,_,rfl,rfl,h2⟩
 | 3,e=>cases e;exact⟨a3,_,rfl,rfl,h3⟩
 |n+4,e=>simp at e
theorem yo{x:V}{i:Int}(h:cZ H y=true)(hc:cq H y=count H x)(hi:isPlace H x (.int i)=true):at_ H i y=.int (num H i y)/\(num H i y=0\/num H i y=1):=by
 have :=(Ck h hc hi).2
 unfold num;rcases gB this with e|e
 ·rw[e];exact⟨rfl,.inl rfl⟩
 ·rw[e];exact⟨rfl,.inr rfl⟩
theorem HU{k l:Int×Int}(h:pq k=pq l):k=l:=by
 unfold pq at h;injection h with h1 h2
 injection h2 with h2 _;injection h1 with h1;injection h2 with h2;exact Prod.ext h1 h2
theorem HN:(KP.map pq).Nodup:=by decide+kernel
theorem kf_eq{i j:Int}{k:Int×Int}:kf H i j y=pq k↔(num H i y=k.1/\num H j y=k.2):=by
 constructor
 ·intro h
  have :=HU h
  rw[<-this];exact⟨rfl,rfl⟩
 ·rintro⟨h1,h2⟩
  unfold kf;rw[h1,h2]
theorem vg{i j:Int}(vf:V->V)(hs:∀y∈xs,kf H i j y∈KP.map pq):(fnd (kf H i j) vf xs).length<4↔j9 H xs i j=false:=by
 rw[show(4:Nat)=(KP.map pq).length from rfl,fnd_all (kf H i j) vf HN hs];unfold j9;rw[List.all_eq_false];constructor
 ·rintro⟨k,hk,h⟩
  obtain⟨p,hp,rfl⟩:=ay.mp hk;refine⟨p,hp,?_⟩;intro z;obtain⟨y,hy,e⟩:=b9.mp z;exact h y hy (kf_eq.mpr (of_decide_eq_true e))
 ·rintro⟨p,hp,h⟩
  refine⟨pq p,ay.mpr ⟨p,hp,rfl⟩,fun y hy e=>h ?_⟩;exact b9.mpr ⟨y,hy,decide_eq_true (kf_eq.mp e)⟩
theorem kf_in{x:V}{i j:Int}(h3:∀y∈xs,cZ H y=true)(h5:∀y∈xs,cq H y=count H x)(hi:isPlace H x (.int i)=true)(hj:isPlace H x (.int j)=true):∀y∈xs,kf H i j y∈KP.map pq:=by
 intro y hy;have ei:=(yo (h3 y hy) (h5 y hy) hi).2;have ej:=(yo (h3 y hy) (h5 y hy) hj).2;unfold kf;refine ay.mpr ⟨_,?_,rfl⟩;rcases ei with e|e<;>rcases ej with f|f<;>rw[e,f]<;>simp[KP]
noncomputable def xT:Sp:=fun vs H Q _=>∃a xs i j H0,vs=[.ref a,.int i,.int j]/\aL H0 H/\dB H0 (.ref a)=true/\dZ (H0 a)=some xs/\isPlace H0 (.ref a) (.int i)=true/\isPlace H0 (.ref a) (.int j)=true/\
 (j9 H0 xs i j=false->∀H',aL H H'->Q .non H')/\(j9 H0 xs i j=true->∀H' l,aL H H'->H l=none->H' l=some (.tup (KP.map (firstOf H0 xs i j)))->Q (.ref l) H')
theorem FY(v1:G.val "KINDS"=some (.ref kd))(hk:Kinds K kd):
  Sat G K xT lg kL:=by
 rintro vs H Q E ⟨a,xs,i,j,H0,rfl,s0,ht,hx,hi,hj,q1,q2⟩;unfold lg;change wpB G K _ _ _ [some (.ref a),some (.int i),some (.int j),none,none,none] H;walk_at "wp";intro d hd;obtain⟨a',xs',ea,h1,h2,h3,h4,h5⟩:=eG ht;cases ea;rw[hx]at h1;cases h1;obtain⟨as,hal,hka,hkb⟩:=hk.at;have sq:∀{H1:Hp},aL H0 H1->SqL K H1 a xs:=fun s1=>s1.seq (kN hx);have sd:aL H (upd H d (.dT [])):=ax hd;refine fQ (b7 rfl (sq (s0.trans sd)) (fm cX (fun k σ H'=>aL H H'/\H' d=some (.dT (fnd (kf H0 i j) (fun y=>V.str (aU H0 y)) (xs.take k)))/\∃u v,σ=[some (.ref a),some (.int i),some (.int j),some (.ref d),u,v])
  ⟨sd,ao,none,none,rfl⟩ (fun k σ H' _ p=>sq (s0.trans p.1)) ?_ ?_))
 ·rintro k y σ H1 H2 D2 hk1 ⟨s1,e1,u,v,rfl⟩ hy s2 hD _
  have hm:=aD hy;have ei:=yo (h3 y hm) (h5 y hm) hi;have ej:=yo (h3 y hm) (h5 y hm) hj;have gi:=(Ck (h3 y hm) (h5 y hm) hi).1;have gj:=(Ck (h3 y hm) (h5 y hm) hj).1;obtain⟨b,c,rfl,k1,k2,k3,k4⟩:=jX (h3 y hm);have s3:=s0.trans (s1.trans s2);refine⟨b,_,rfl,s3.tup (SqT.of k1),rfl,_,_,rfl,_,_,rfl,rfl,?_⟩;walk_at "wp";refine⟨.inr (.inr (.inl ⟨rfl,.inr ⟨_,s2 _ _ e1⟩⟩)),?_⟩;refine .inr (.inl ⟨c,_,i,_,rfl,rfl,s3.tup (SqT.of k2),gi,?_⟩);refine .inr (.inl ⟨c,_,j,_,rfl,rfl,s3.tup (SqT.of k2),gj,short (by simp),fun p hp=>?_⟩);have s4:aL H2 (upd H2 p (.tup [at_ H0 i (.ref b),at_ H0 j (.ref b)])):=ax hp;have hf:(fnd (kf H0 i j) (fun y=>V.str (aU H0 y)) (xs.take k)).length<=40:=aR (fnd_len _ _ _) (by rw[c9];omega);have et:xs.take (k+1)=xs.take k++[V.ref b]:=by rw[cB,hy];rfl
  have ef:fnd (kf H0 i j) (fun y=>V.str (aU H0 y)) (xs.take (k+1))=qu (kf H0 i j) (fun y=>V.str (aU H0 y)) (fnd (kf H0 i j) (fun y=>V.str (aU H0 y)) (xs.take k)) (.ref b):=by
   unfold fnd;rw[et,List.foldl_append];rfl
  refine⟨d,p,_,kf H0 i j (.ref b),_,rfl,rfl,s4 _ _ (s2 _ _ e1),?_,tB hf (by decide),fun z hz=>?_,fun hz=>?_⟩
  ·rw[ao,ei.1,ej.1]
   rfl
  ·refine hD _ _ ⟨s1.trans (s2.trans s4),?_,_,_,rfl⟩
   rw[ef];unfold qu;rw[hz];exact s4 _ _ (s2 _ _ e1)
  ·refine hD _ _ ⟨dG (s1.trans (s2.trans s4)) hd,?_,_,_,rfl⟩
   rw[ef];unfold qu;rw[hz];exact ao
 ·rintro σ H1 ⟨s1,e1,u,v,rfl⟩
  rw[c7]at e1;walk_at "wp";refine⟨d,_,rfl,e1,_,v1,Or.inl ⟨kd,as,rfl,.inr (hka _),?_⟩⟩;rw[hal];show gh K .Lt (.int _) (.int ((4:Nat):Int)) H1 _;rw[Dp];refine⟨_,rfl,?_⟩;have hfi:=vg (fun y=>V.str (aU H0 y)) (kf_in h3 h5 hi hj);cases hf:j9 H0 xs i j with
  |false=>
   have :=hfi.mpr hf
   rw[decide_eq_true (by omega),if_pos rfl];exact q1 hf H1 s1
  |true=>
   have hge:¬(fnd (kf H0 i j) (fun y=>V.str (aU H0 y)) xs).length<4:=fun z=>by rw[hfi.mp z]at hf;cases hf
   rw[decide_eq_false (by omega),if_neg ak];refine cS ⟨_,v1,.inr (.inl ⟨kd,rfl,⟨_,hka _⟩,?_⟩)⟩;refine dH pW (by rw[hal];exact short (by decide)) (fun H2 _=>hka H2) (fun n v _=>v=firstOf H0 xs i j (KP.getD n (0,0))) (fun _ _ _ _ _ h=>h) (fun τ=>∃t,τ=[t,some (.ref d)]) ⟨none,rfl⟩ ?_ ?_
   ·rintro n y τ H2 R hn ⟨t,rfl⟩ s2 hy k
    obtain⟨b,p,rfl,hp,hb⟩:=hkb H2 n y hy;walk_at "wp";have hall:xs.any (fun y=>decide (num H0 i y=p.1/\num H0 j y=p.2))=true:=by
     unfold j9 at hf;exact bC.mp hf p (aD hp)
    obtain⟨y0,hy0,e0⟩:=b9.mp hall;cases hfi:xs.find? (fun y=>decide (kf H0 i j y=pq p))with
    |none=>
     rw[iA]at hfi;exact absurd (decide_eq_true (kf_eq.mpr (of_decide_eq_true e0))) (hfi y0 hy0)
    |some y1=>
     refine⟨d,b,_,pq p,V.str (aU H0 y1),rfl,rfl,s2 _ _ e1,hb,?_,?_⟩
     ·rw[yJ,hfi]
      rfl
     ·refine k _ _ _ ⟨_,rfl⟩ (aL.refl _) ?_
      rw[getD_some hp];unfold firstOf;rw[hfi];rfl
   ·intro vs H2 l hvl hF s2 hl2
    have ev:vs=KP.map (firstOf H0 xs i j):=by
     rw[hal]at hvl;apply bg
     ·rw[hvl];rfl
     ·intro n m1 m2
      have :=hF n vs[n] (by simp[m1])
      rw[this,aY,ae,aa (by simpa using m2)];rfl
    subst ev;refine⟨l,_,rfl,.inl ⟨SqL.of ao,fun b hb=>?_⟩⟩;have s3:aL H (upd H2 l (.lst (KP.map (firstOf H0 xs i j)))):=s1.trans (s2.trans (ax hl2));exact q2 hf _ b (s3.trans (ax hb)) (s3.free hb) ao
end Kc
namespace K21
open PySem PySem.Spec PyProof.Rows L2 R Cp Lt Kc
def Dr(H:Hp)(nf:Nat->Str)(n:Nat)(ys:List V):Prop:=∀(i:Nat) y,ys[i]? =some y->∃b r zs,y=.ref b/\H b=some (.tup [.str (nf i),.ref r])/\H r=some (.tup zs)/\zs.length=n/\∀z∈zs,cA z=true
theorem qw(hnf:∀i,gK (nf i)=true)(d:Dr H nf n ys)(hn:n<=60)(e:ys[i]? =some y):cZ H y=true/\aU H y=nf i/\cq H y=n/\Kn3 H y:=by
 obtain⟨b,r,zs,rfl,h1,h2,h3,h4⟩:=d i y e;have ar:dg H (.ref r)=true:=by
  show(match de (H r)with |some xs=>decide (xs.length<=60)&&xs.all cA|none=>false)=true;rw[h2];show(decide (zs.length<=60)&&zs.all cA)=true;rw[decide_eq_true (by omega),eB,bC];exact h4
 have hl:(nf i).length<=20000:=by
  have :=hnf i
  unfold gK at this;rw[aN,decide_eq_true_eq]at this;omega
 refine⟨?_,?_,?_,⟨yB h1,fun z e=>nomatch e⟩,fun a xs e hx=>?_⟩
 ·show(match de (H b)with |some [n,r]=>isName n&&dg H r|_=>false)=true
  rw[h1];show(gK (nf i)&&dg H (.ref r))=true;rw[hnf,ar];rfl
 ·show(match de (H b)with |some (.str z::_)=>z|_=>("":Str))=_
  rw[h1];rfl
 ·show(match de (H b)with |some [_,.ref b]=>(de (H b)).elim 0 lO|_=>0)=n
  rw[h1];show(de (H r)).elim 0 lO=n;rw[h2];exact h3
 ·injection e with e
  subst e;rw[h1]at hx;cases hx;refine⟨by show 2<=20000;decide,fun y hy=>?_⟩;simp only[aE,cJ,or_false]at hy;rcases hy with rfl|rfl
  ·exact⟨⟨kn_str,fun z e=>by injection e with e;rw[<-e];exact hl⟩,fun a xs e=>nomatch e⟩
  ·refine⟨⟨yB h2,fun z e=>nomatch e⟩,fun a xs e hx=>?_⟩
   injection e with e;subst e;rw[h2]at hx;cases hx;refine⟨by omega,fun z hz=>?_⟩;rcases gB (h4 z hz)with rfl|rfl
   ·exact⟨uZ,fun z e=>nomatch e⟩
   ·exact⟨uZ,fun z e=>nomatch e⟩
theorem vj{t:Addr}(hnf:∀i,gK (nf i)=true)(hinj:∀i j,i<ys.length->j<ys.length->nf i=nf j->i=j)(ht:H t=some (.lst ys))(d:Dr H nf n ys)(hl:ys.length<=40)(hn:n<=60):Kn4 H (.ref t)/\dB H (.ref t)=true/\(∀y∈ys,cZ H y=true)/\∀y∈ys,cq H y=n:=by
 have at':∀y∈ys,∃i,ys[i]? =some y:=fun y hy=>bJ.mp hy;have cp:∀y∈ys,cZ H y=true:=fun y hy=>let⟨i,e⟩:=at' y hy;(qw hnf d hn e).1;have ct:∀y∈ys,cq H y=n:=fun y hy=>let⟨i,e⟩:=at' y hy;(qw hnf d hn e).2.2.1;refine⟨⟨⟨HM ht,fun z e=>nomatch e⟩,fun a xs e hx=>?_⟩,?_,cp,ct⟩
 ·injection e with e
  subst e;rw[ht]at hx;cases hx;exact⟨by omega,fun y hy=>let⟨i,e⟩:=at' y hy;(qw hnf d hn e).2.2.2⟩
 ·show(match dZ (H t)with |some xs=>decide (xs.length<=40)&&(xs.all (cZ H)&&(decide ((xs.map (aU H)).Nodup)&&decide (∀y∈xs,∀z∈xs,cq H y=cq H z))) |none=>false)=true
  rw[ht];show(decide (ys.length<=40)&&(ys.all (cZ H)&&(decide ((ys.map (aU H)).Nodup)&&decide (∀y∈ys,∀z∈ys,cq H y=cq H z))))=true;rw[decide_eq_true hl,eB,aN,aN,bC,decide_eq_true_eq,decide_eq_true_eq];refine⟨cp,?_,fun y hy z hz=>by rw[ct y hy,ct z hz]⟩;show List.Pairwise (fun a b=>a≠b) _;rw[cT];intro i j hi hj hij e;rw[ai]at hi hj;rw[aY,aY,(qw hnf d hn (aa hi)).2.1,(qw hnf d hn (aa hj)).2.1]at e;have :=hinj i j hi hj e;omega
theorem yD{vs:List V}(h:∀(i:Nat) v,vs[i]? =some v->∃m:Int,v=.int m):∃ns:List Int,vs=ns.map V.int:=by
 induction vs with
 |nil=>exact⟨[],rfl⟩
 |cons v vs ih=>
  obtain⟨m,rfl⟩:=h 0 v rfl;obtain⟨ns,rfl⟩:=ih fun i w e=>h (i+1) w (by simpa using e);exact⟨m::ns,rfl⟩
theorem IS(ns:List Int)(lo hi:Option Int):∃ms:List Int,pE (ns.map V.int) lo hi=ms.map V.int:=by
 refine yD fun i v e=>?_;have hm:=aD e;unfold pE at hm;obtain⟨m,_,rfl⟩:=ay.mp (List.mem_of_mem_drop (FP hm));exact⟨m,rfl⟩
end K21
namespace K22
open PySem PySem.Spec PyProof.Rows L2 R Cp Lt Kc K21
theorem z6{t p:Addr}{fs:List Int}(et:SqL K H t (fs.map V.int))(ep:H p=some (.lst [])):∃d d',Rep K H d (.ref t)/\Rep K H d' (.ref p)/\hgt d<=30/\eqD d d'=decide (fs=[]):=by
 refine⟨.lst (fs.map D.int),.lst [],⟨t,_,rfl,et,eI.ints fs⟩,⟨p,[],rfl,SqL.of ep,rfl⟩,by show eP (fs.map D.int)+1<=30;rw[nR];decide,?_⟩;cases fs with
 |nil=>rfl
 |cons x r=>
  rw[decide_eq_false (by simp)];rfl
end K22
namespace Lm
open PySem PySem.Spec PySem.W PyProof.Rows L2 Q
noncomputable abbrev Kp(h h':Heap):Prop:=∀b o,h.get? b=some o->h'.get? b=some o
section
variable {prog:Program}{w:World}{A:Around}{E:Value->Shared->Prop}{s:Shared}
theorem IY{Q:Value->Shared->Prop}{params:Arguments}{k:Value}{p1 p2 p3:Pos}{its:Array Value}
  (hf:s.heap.get? f=some (kla_obj "<lambda>" qual params (.Subscript (.Name x p1) (.Constant (.int 0) j p2) p3) scope [] pm c' ctv))(hc:s.heap.CodeRec (.ref c') qual)(hroom:A.depth<ji)(hnl:s.heap.NoLimit)
  (hb:∀v,pK (kla_fn "<lambda>" qual params (.Subscript (.Name x p1) (.Constant (.int 0) j p2) p3) scope [] pm (.ref c') ctv) ⟨[v],[]⟩=pure [(x,v)])
  (hx:scope.names.lookup x=some .local)(hd:(x==("__debug__":Str))=false)(hk:scope.kind=.function)(hcell:∀y∈scope.names,y.2≠.cell)(hco:scope.isCoroutine=false)(hgen:scope.isGenerator=false)
  (ht:IsTup s.heap b its)(h0:its[0]? =some k)(h:∀h' t',Kp s.heap h'->Q k {s with heap:=h',toks:=t'}):wpAny (model prog w) A (call (.ref f) [.ref b]) Q E s:=by
 refine wpAny_call (kla_callFunE hroom hf rfl hco hgen rfl hc ?_);rw[hb];refine aj (wpAny_newFunctionEnv hcell (fun y hy=>?_) (fun h₁ hns hsb=>⟨hnl.fresh _ hsb,?_⟩) hk)
 ·have e:y=(x,.ref b):=by simpa using hy
  rw[e];exact hx
 have hk₁:Kp s.heap h₁:=fun b o e=>hsb.extBut b o (aI (aA e)) (ag _ e);refine kla_codeExpr (Subscript_ (Fw (wpAny_loadName_local hk hx hns (v:=.ref b) (by simp) ?_) hd));refine wpAny_Constant_int ?_;have ht':IsTup h₁ b its:=by
  obtain⟨o,e,c⟩:=ht;exact⟨o,hk₁ _ _ e,c⟩
 have hsz:0<its.size:=by
  rcases Nat.eq_zero_or_pos its.size with z|z
  ·rw[Array.getElem?_eq_none (by omega)]at h0;cases h0
  ·exact z
 exact qS (x:=k) ht'.typeIs slot_tuple_getitem.lookup
  (getItem_tuple (j:=0) (Q:=fun r s'=>r=k/\_) ht' (by decide) (by decide) (by rw[tm (by decide) (by omega)];rfl) h0 ⟨rfl,h _ _ hk₁⟩) rfl
def Keys(prog:Program)(w:World)(A:Around)(f:Value)(vs:List Value)(ks:List Str)(h0:Heap):Prop:=
 ∀(i:Nat)(v:Value)(k:Str),vs[i]? =some v->ks[i]? =some k->∀(s1:Shared)(E:Value->Shared->Prop)(Q':Value->Shared->Prop),Kp h0 s1.heap->
  (∀t h' t',Kp s1.heap h'->Q' (.str k t) {s1 with heap:=h',toks:=t'})->wpAny (model prog w) A (call f [v]) Q' E s1
theorem strs_snoc{k:Str}{t:Tok}:∀{vs:List Value}{ks:List Str},zc vs ks->zc (vs++[.str k t]) (ks++[k])
 |_,_,.nil=>.cons k t .nil
 |_,_,.cons y u h=>.cons y u (strs_snoc h)
theorem CC{e e1:Nat}{st:SortSt}{P:dM->Shared->Prop}(hout:(arrOf st).map (·.2)=dR out)(hz:out.length<64)(hkz:kv.length<64)(hf:failedOf st=none)
  (hk:s.heap.get? kS=some (seqObj "list" kv.toArray e))(ha:s.heap.get? a=some (seqObj "list" #[] e1))(hne:kS≠a)
  (h:∀h' c,(∀b o,b≠a->b≠kS->s.heap.get? b=some o->h'.get? b=some o)->h'.get? a=some (seqObj "list" out.toArray c)->P (.done (.ret .none)) {s with heap:=h'}):
  wpAny (model prog w) A (ksk_tail a false e1 (.ref kS) st) P E s:=by
 have s1:=bI s.heap kS (aS fun _=>(#[]:Array Value));have ha1:(s.heap.update kS (aS fun _=>(#[]:Array Value))).get? a=some (seqObj "list" #[] e1):=(s1.2 a (bQ hne)).trans ha;have s2:=bI (s.heap.update kS (aS fun _=>(#[]:Array Value))) a (aS fun _=>dR out);obtain⟨c2,hc2⟩:∃c2,((s.heap.update kS (aS fun _=>(#[]:Array Value))).update a (aS fun _=>dR out)).get? a=some (seqObj "list" (dR out) c2):=⟨_,rg ha1 fun _=>dR out⟩;unfold ksk_tail;try dsimp only
 rw[hout];refine af (fA hk rfl ?_ (by rw[au];exact fI hkz) (aX _));refine af (km ?_);refine af (tp ha1 rfl ?_);refine af (fA ha1 rfl ?_ (aX _) (by simpa using CJ hz));rw[hf];simp only[bne_self_eq_false,aQ,if_false];exact aj (h _ c2 (fun b o h1 h2 q=>(s2.2 b h1).trans ((s1.2 b h2).trans q)) hc2)
theorem end_ok{e e1:Nat}{P:dM->Shared->Prop}(nd:ks.Nodup)(r:zc kv ks)(hl:ks.length=vs.length)(h64:vs.length<64)
  (hk:s.heap.get? kS=some (seqObj "list" kv.toArray e))(ha:s.heap.get? a=some (seqObj "list" #[] e1))(hne:kS≠a)
  (h:∀h' c,(∀b o,b≠a->b≠kS->s.heap.get? b=some o->h'.get? b=some o)->h'.get? a=some (seqObj "list" (fZ (mN ks) vs).toArray c)->P (.done (.ret .none)) {s with heap:=h'}):
  wpAny (model prog w) A (ksk_end a false vs.toArray e1 (.ref kS) (dR kv)) P E s:=by
 have hv:vs.toArray.size=vs.length:=by simp
 have hkl:=uf r;have hlen:kv.length=vs.length:=hkl.trans hl;unfold ksk_end;simp only[aQ,if_false];by_cases hn:vs.length<2
 ·have eo:fZ (mN ks) vs=vs:=if_pos hn
  rw[eo]at h;rw[if_pos (by rw[hv];exact hn),if_pos (by rw[hv];exact hn)];refine af (aj (af ?_));rw[StateT.run_pure];refine aj (CC (out:=vs) ?_ h64 (by omega) rfl hk ha hne h);show(kv.toArray.zip vs.toArray).map (·.2)=vs.toArray;apply Array.ext';simp[vP,hlen]
 ·have h2:2<=vs.length:=by omega
  have eo:fZ (mN ks) vs=(run (mN ks) (di vs.length)).toList.map fun i=>vs.getD i .none:=if_neg hn;rw[eo]at h;rw[if_neg (by rw[hv];exact hn),if_neg (by rw[hv];exact hn)];obtain⟨κ,hk1,hk2⟩:=Ft (prog:=prog) (w:=w) (A:=A) (h0:=s.heap) r (by omega) s (fun _ _ q=>q);have T:Tot (mN ks) vs.length:=by rw[<-hl];exact t9 nd
  obtain⟨P1,U1,O1⟩:=eU T (by omega:1<=vs.length);refine af (hk1 _ _ (af ?_));have key:=kat_run (prog:=prog) (w:=w) (A:=A) (E:=E) (κ:=κ) (ks:=kv) (vs:=vs) (s:=s)
   (Q:=fun st' s'=>s'=s/\arrOf st'=(run (mN ks) (di vs.length)).map (kas_item (kv.toArray.zip vs.toArray))/\failedOf st'=none)
   (G:=fun p s'=>s'=s/\p=run (mN ks) (di vs.length)) hlen h2 h64
   (fun p st' s' _ e1 e2 e3=>⟨e3.1,by rw[e1,e3.2],e2⟩)
   (wp_run (S:=fun s'=>s'=s) (fun i j C s' hi hj hij hs hC=>by
    subst hs;exact hk2 i j C (by omega) (by omega) hij (hC _ rfl)) _ _ O1 rfl fun s' hs=>⟨hs,rfl⟩)
  refine fW key ?_ fun _ _ z=>z;rintro⟨⟨⟩,st'⟩ s' ⟨rfl,har,hf⟩;exact CC (kat_snds hlen har) (by rw[ai,ck,P1.size];exact h64) (by omega) hf hk ha hne h
theorem Gw{f:Value}{P:dM->Shared->Prop}(nd:ks.Nodup)(hl:ks.length=vs.length)(ho:s.heap.get? a=some (seqObj "list" vs.toArray n))
  (k0:∀b o,h0.get? b=some o->s.heap.get? b=some o/\b≠a)(h64:vs.length<64)(ky:Keys prog w A f vs ks h0)
  (h:∀h' t' c,(∀b o,b≠a->s.heap.get? b=some o->h'.get? b=some o)->h'.get? a=some (seqObj "list" (fZ (mN ks) vs).toArray c)->P (.done (.ret .none)) {s with heap:=h',toks:=t'}):
  wpAny (model prog w) A (ksk_tree a f false) P E s:=by
 have hv:vs.toArray.size=vs.length:=by simp
 have ha0:a<s.heap.objs.size:=aA ho;have s1:=bI s.heap a (aS fun _=>(#[]:Array Value));obtain⟨e1,ho1⟩:∃e1,(s.heap.update a (aS fun _=>(#[]:Array Value))).get? a=some (seqObj "list" #[] e1):=⟨_,rg ho fun _=> #[]⟩;unfold ksk_tree;refine af (listItems_at ho rfl ?_);refine af (fA ho rfl ?_ (by rw[hv];exact fI h64) (aX _));refine af (tp ho1 rfl ?_);refine af (wpAny_newTuple ?_ (show vs.length<=_ from fI h64));refine af (oj ?_ (aX _));refine b8 ?_;have ha1:((s.heap.update a (aS fun _=>(#[]:Array Value))).push (seqObj "tuple" vs.toArray 0)).get? a=some (seqObj "list" #[] e1):=ag _ ho1;have kp1:∀b o,b≠a->s.heap.get? b=some o->((s.heap.update a (aS fun _=>(#[]:Array Value))).push (seqObj "tuple" vs.toArray 0)).get? b=some o:=fun b o hb q=>ag _ ((s1.2 b hb).trans q);have hsz:s.heap.objs.size<((s.heap.update a (aS fun _=>(#[]:Array Value))).push (seqObj "tuple" vs.toArray 0)).objs.size:=by rw[Fz,vR];omega
 show wpAny _ _ (ksk_rest a f false vs.toArray e1 (.ref ((s.heap.update a (aS fun _=>(#[]:Array Value))).push (seqObj "tuple" vs.toArray 0)).objs.size)) _ _
  {s with heap:=((s.heap.update a (aS fun _=>(#[]:Array Value))).push (seqObj "tuple" vs.toArray 0)).push (seqObj "list" #[] 0)}
 generalize(s.heap.update a (aS fun _=>(#[]:Array Value))).push (seqObj "tuple" vs.toArray 0)=h1 at ha1 kp1 hsz⊢;have hne:h1.objs.size≠a:=eA (gQ ha0 hsz);unfold ksk_rest;refine af (gV ?_)
 first
  |rw[List.forIn_toArray]
  | (rw[<-Jy];simp only[Jw])
  |rw[<-Jy]
 refine af (ksk_fold (fun i s'=>∃h2 t2 kv e,s'={s with heap:=h2,toks:=t2}/\zc kv (ks.take i)/\h2.get? h1.objs.size=some (seqObj "list" (dR kv) e)/\h2.get? a=some (seqObj "list" #[] e1)/\∀b o,b≠a->s.heap.get? b=some o->h2.get? b=some o)
  vs 0 _ ⟨_,s.toks,[],0,rfl,by rw[List.take_zero];exact .nil,az _ rfl,ag _ ha1,fun b o hb q=>ag _ (kp1 b o hb q)⟩ ?_ ?_)
 ·rintro j x s' hx ⟨h2,t2,kv,e,rfl,r,hk,ha,kp⟩
  rw[vK]at r;have hj:j<vs.length:=(aC.mp hx).1;have hkj:ks[j]? =some (ks[j]'(by omega)):=aa (by omega);have hkv:kv.length=j:=by rw[uf r,c9];omega
  refine af (vO (ky j x _ hx hkj _ _ _ (fun b o q=>kp b o (k0 b o q).2 (k0 b o q).1) fun t h3 t3 k3=>?_));have s3:=bI h3 h1.objs.size (aS (·.push (iy (ks[j]'(by omega)) t)));have ea:(dR kv).push (iy (ks[j]'(by omega)) t)=dR (kv++[iy (ks[j]'(by omega)) t]):=by simp
  obtain⟨c2,hc2⟩:∃c2,(h3.update h1.objs.size (aS (·.push (iy (ks[j]'(by omega)) t)))).get? h1.objs.size=some (seqObj "list" (dR (kv++[iy (ks[j]'(by omega)) t])) c2):=⟨_,by rw[<-ea];exact rg (k3 _ _ hk) (·.push _)⟩;try dsimp only
  refine af (fA (k3 _ _ hk) rfl ?_ (by rw[au];exact fI (by omega)) (aR (FI (Array.size_push ..)) (by rw[au];exact CJ (by omega))));refine aj ⟨rfl,_,t3,kv++[iy (ks[j]'(by omega)) t],c2,rfl,?_,hc2,(s3.2 a (bQ hne)).trans (k3 _ _ ha),fun b o hb q=>(s3.2 b (aI (gQ (aA q) hsz))).trans (k3 _ _ (kp b o hb q))⟩;rw[vK,cB,hkj];exact strs_snoc r
 ·rintro s' ⟨h2,t2,kv,e,rfl,r,hk,ha,kp⟩
  rw[vK,iP (by omega)]at r;try dsimp only
  refine af (listItems_at hk rfl ?_);exact end_ok nd r hl h64 hk ha hne fun h' c k q=>h h' t2 c (fun b o hb z=>k b o hb (aI (gQ (aA z) hsz)) (kp b o hb z)) q
theorem Bu{q:Addr}{Q:Value->Shared->Prop}(nd:ks.Nodup)(hlk:ks.length=vs.length)(hl:s.heap.IsList l vs.toArray)(h64:vs.length<64)(ky:Keys prog w A.in1.in1 (.ref q) vs ks s.heap)
  (h:∀h' t' c,Kp s.heap h'->h'.get? (s.heap.objs.size+1)=some (seqObj "list" (fZ (mN ks) vs).toArray c)->Q (.ref (s.heap.objs.size+1)) {s with heap:=h',toks:=t'}):
  wpAny (model prog w) A (call (.builtin "sorted") [.ref l] [(bX "key",.ref q)]) Q E s:=by
 refine call_function_entry_kw kind_sorted plain_sorted entry_sorted (ksk_s1 _ _) ?_;unfold Builtin.«sorted»;refine af (m:=checkCount "sorted" 1 1 _) (aj ?_);refine af (collect_list hl ?_ (by simpa using fI h64));refine af (oj ?_ (show vs.length<=_ from fI h64));have hz:((s.heap.push (seqObj "list" #[] 0)).update s.heap.objs.size (aS (·++vs.toArray))).objs.size=s.heap.objs.size+1:=by rw[vR,Fz]
 have kp:Kp s.heap ((s.heap.push (seqObj "list" #[] 0)).update s.heap.objs.size (aS (·++vs.toArray))):=fun b o e=>by
  have hb:=aA e;rw[aT _ _ (eA hb)];exact ag _ e
 have hg:(((s.heap.push (seqObj "list" #[] 0)).update s.heap.objs.size (aS (·++vs.toArray))).push (seqObj "list" vs.toArray 0)).get? (s.heap.objs.size+1)=some (seqObj "list" vs.toArray 0):=by
  rw[<-hz];exact az _ rfl
 show wpAny _ _ _ _ _ {s with heap:=((s.heap.push (seqObj "list" #[] 0)).update s.heap.objs.size (aS (·++vs.toArray))).push (seqObj "list" vs.toArray 0)};rw[hz];have kp2:Kp s.heap (((s.heap.push (seqObj "list" #[] 0)).update s.heap.objs.size (aS (·++vs.toArray))).push (seqObj "list" vs.toArray 0)):=fun b o e=>ag _ (kp b o e);generalize((s.heap.push (seqObj "list" #[] 0)).update s.heap.objs.size (aS (·++vs.toArray))).push (seqObj "list" vs.toArray 0)=h1 at hg kp2⊢;refine af (b8 (wpAny_call_entry_kw Fy ⟨_,hg,rfl⟩ Cq ?_ (ksk_l1 _ _)));show wpAny (model prog w) A.in1.in1 (Builtin.«list.sort» ⟨[.ref (s.heap.objs.size+1)],[(bX "key",.ref q)]⟩) _ _ _;rw[ksk_t1];exact Gw (s:={s with heap:=h1}) nd hlk hg (fun b o e=>⟨kp2 b o e,aI (bA (aA e))⟩) h64 ky fun h' t' c k z=>⟨_,rfl,aj ⟨_,rfl,h h' t' c (fun b o e=>k b o (aI (bA (aA e))) (kp2 b o e)) z⟩⟩
end
structure Tb where
 P:Addr
 pos:Pos
 q:Str
def Tab(T:Tb)(H:Hp):Prop:=H T.P=some (.tbl #[])\/∃c' oc u vs t,H T.P=some (.tbl #[rawInt T.pos.line,rawInt T.pos.col,.ref c'])/\H c'=some (.frz oc u)/\oc.data=.fields vs/\vs[1]? =some (.str T.q t)
structure Gr(T:Tb)(H H':Hp):Prop where
 keep:∀b o,b≠T.P->H b=some o->H' b=some o
 tab:Tab T H->Tab T H'
theorem Gr.refl(T:Tb)(H:Hp):Gr T H H:=⟨fun _ _ _ e=>e,fun t=>t⟩
theorem Gr.trans{T:Tb}(a:Gr T H H1)(b:Gr T H1 H2):Gr T H H2:=⟨fun c o n e=>b.keep c o n (a.keep c o n e),fun t=>b.tab (a.tab t)⟩
theorem Gr.of{T:Tb}(e:aL H H'):Gr T H H':=
 ⟨fun b o _ q=>e b o q,fun t=>by
  rcases t with t|⟨c',oc,u,vs,tk,h1,h2,h3,h4⟩
  ·exact .inl (e _ _ t)
  ·exact .inr ⟨c',oc,u,vs,tk,e _ _ h1,e _ _ h2,h3,h4⟩⟩
theorem Tab.ne{T:Tb}(t:Tab T H){o:HO}(e:H b=some o)(n:∀ps,o≠.tbl ps):b≠T.P:=by
 intro z;subst z;rcases t with t|⟨c',oc,u,vs,tk,h1,h2,h3,h4⟩
 ·rw[t]at e;exact n _ (aW e).symm
 ·rw[h1]at e;exact n _ (aW e).symm
section
variable {K:ah}{T:Tb}{H H':Hp}{a:Addr}{xs:List V}
theorem Gr.at(g:Gr T H H')(t:Tab T H){o:HO}(e:H a=some o)(n:∀ps,o≠.tbl ps):H' a=some o:=g.keep a o (t.ne e n) e
theorem Gr.lst(g:Gr T H H')(t:Tab T H)(e:H a=some (.lst xs)):H' a=some (.lst xs):=g.at t e fun _ z=>by cases z
theorem Gr.t8(g:Gr T H H')(t:Tab T H)(e:H a=some (.tup xs)):H' a=some (.tup xs):=g.at t e fun _ z=>by cases z
theorem Gr.frz(g:Gr T H H')(t:Tab T H){o:Obj}{u:HO}(e:H a=some (.frz o u)):H' a=some (.frz o u):=g.at t e fun _ z=>by cases z
theorem Gr.seq(g:Gr T H H')(t:Tab T H)(h:SqL K H a xs):SqL K H' a xs:=by
 rcases h with(h|⟨o,h⟩) |h
 ·exact .inl (.inl (g.lst t h))
 ·exact .inl (.inr ⟨o,g.frz t h⟩)
 ·exact .inr h
theorem Gr.tup(g:Gr T H H')(t:Tab T H)(h:SqT K H a xs):SqT K H' a xs:=by
 rcases h with(h|⟨o,h⟩) |h
 ·exact .inl (.inl (g.t8 t h))
 ·exact .inl (.inr ⟨o,g.frz t h⟩)
 ·exact .inr h
end
theorem un_tab{fs:List Addr}{p:Addr}{oc:Obj}{ps more:Array Value}(hok:HOk P w H h)(hx:∀b o,b≠p->h.get? b=some o->h'.get? b=some o)(hP:H p=some (.tbl ps))(hge:h.objs.size<=c')
  (hp':h'.get? p=some (tabObj (ps++more)))(hc:h'.get? c'=some oc):
  Un fs [] H (upd (upd H c' (.frz oc (.ext fun _=>True))) p (.tbl (ps++more))) h h'/\HOk P w (upd (upd H c' (.frz oc (.ext fun _=>True))) p (.tbl (ps++more))) h':=by
 have hn:H c'=none:=hok.fresh hge;have ne:c'≠p:=bQ (bO hP hn);have out:∀{b:Addr}{o:HO},H b=some o->b≠p->upd (upd H c' (.frz oc (.ext fun _=>True))) p (.tbl (ps++more)) b=some o:=fun{b o} e n=>by
  rw[bo n,bo (bO e hn)];exact e
 have nt:∀{b:Addr}{o:HO},H b=some o->(∀vs,o≠.tbl vs)->b≠p:=fun{b o} e n z=>by
  subst z;rw[hP]at e;exact n _ (aW e).symm
 refine⟨⟨fun b o e n _ _=>hx b o (fun z=>by rw[z,hP]at n;cases n) e,fun b o e n _ _=>⟨o.slots,hx b o (fun z=>by rw[z,hP]at n;cases n) e⟩,fun b o e n _=>?_,fun b o e _=>?_,fun b xs e=>out e (nt e fun _ z=>by cases z),
  fun b o u e=>out e (nt e fun _ z=>by cases z),fun b vs e=>?_⟩,fun b o e=>?_⟩
 ·have hb:b≠p:=fun z=>by rw[z,hP]at n;cases n
  rw[bo hb,bo (aI (aV (aA e) hge))];exact n
 ·by_cases hb:b=p
  ·exact⟨_,by rw[hb];exact hp'⟩
  ·exact⟨o,hx b o hb e⟩
 ·by_cases hb:b=p
  ·subst hb
   rw[hP]at e;cases e;exact⟨more,ao⟩
  ·exact⟨#[],by rw[out e hb];simp⟩
 ·by_cases hb:b=p
  ·subst hb
   rw[ao]at e;cases e;exact hp'
  ·rw[bo hb]at e
   by_cases hc2:b=c'
   ·subst hc2
    rw[ao]at e;cases e;exact⟨hc,trivial,⟨_,hc⟩,fun _ _ _ _=>trivial⟩
   ·rw[bo hc2]at e
    refine(hok b o e).oh (fun d v hd q=>hx d v ?_ q) (fun d q=>out q (nt q fun _ z=>by cases z)) fun d xs q=>out q (nt q fun _ z=>by cases z);rcases hd with z|z
    ·rw[z];exact hb
    ·exact nt z fun _ y=>by cases y
def BM(mg:Str->Option Value)(h:Heap):Prop:=∃bm ob,mg "__builtins__"=some (.ref bm)/\bm≠mm/\bm≠bG/\h.get? bm=some ob/\ob.cls=.type "module"/\ob.dict=some mm/\ob.data=.plain
noncomputable def rSortK(K:ah)(T:Tb):List V->Hp->VK->Prop:=fun xs H Q=>∃a ys ks,xs=[V.ref a]/\SqL K H a ys/\ks.length<64/\ks.Nodup/\nU H ys ks/\Tab T H/\
 ∀H2 l,Gr T H H2->H2 l=none->Q (.ref l) (upd H2 l (.lst (sortBy .non ks ys)))
noncomputable def ub(K:ah)(T:Tb)(te:TE):TE:=fun σ H Q=>kH te sT σ H fun xs H1=>rSortK K T xs H1 Q
structure Jh(env:Env)(params:Arguments)(x:Str)(body:Expr)(scope:Scope):Prop where
 cl:FE scope env=pure []
 df:defaultsOf params env=([],[])
 bd:∀(qual:Str)(pm ctv v:Value)(c':Addr),pK (kla_fn "<lambda>" qual params body scope [] pm (.ref c') ctv) ⟨[v],[]⟩=pure [(x,v)]
 lk:scope.names.lookup x=some .local
 dbg:(x==("__debug__":Str))=false
 kd:scope.kind=.function
 nc:∀y∈scope.names,y.2≠.cell
 co:scope.isCoroutine=false
 gn:scope.isGenerator=false
section
variable {X:Cx}{e:Expr}{te:TE}{T:Tb}{c:Addr}{p kp pos p1 p2 p3:Pos}{x:Str}{j:Nat}{params:Arguments}{scope:Scope}
theorem tO(O:Jh X.env params x (.Subscript (.Name x p1) (.Constant (.int 0) j p2) p3) scope)(ok:HOk X.prog X.w H s.heap)
  (hf:s.heap.get? f=some (kla_obj "<lambda>" qual params (.Subscript (.Name x p1) (.Constant (.int 0) j p2) p3) scope [] pm c' ctv))(hc:s.heap.CodeRec (.ref c') qual)(hroom:A.depth<ji)(hnl:s.heap.NoLimit):
  ∀{ys:List V}{ks:List Str}{vs:List Value},nU H ys ks->bD ys vs->Keys prog w A (.ref f) vs ks s.heap
 |_,_,_,.nil,.nil=>fun i v k h1=>by simp at h1
 |_,_,_,.cons y t,.cons r q=>by
  intro i v k h1 h2 s1 E Q' kp hq;cases i with
  |zero=>
   obtain⟨a,rest,rfl,ea⟩:=y;cases r;have e1:v=cD a:=by simpa using h1.symm
   subst e1;obtain⟨_,its,rv,o,g1,g2,n,g3⟩:=ok a _ ea;cases rv with
   |cons r0 _=>
    obtain⟨tk,rfl⟩:=r0;obtain rfl:=aW h2;exact IY (kp _ _ hf) (hc.keeps kp) hroom (hnl.keeps kp) (fun v=>O.bd _ _ _ v _) O.lk O.dbg O.kd O.nc O.co O.gn ⟨o,kp _ _ g1,g2,n,g3⟩ (by simp) fun h' t' k'=>hq tk h' t' k'
  |succ i=>exact tO O ok hf hc hroom hnl t q i v k (by simpa using h1) (by simpa using h2) s1 E Q' kp hq
theorem wJ{Q:VK}(O:Jh X.env params x (.Subscript (.Name x p1) (.Constant (.int 0) j p2) p3) scope)(I:Inv X pins σ H s)
  (hf:s.heap.get? f=some (kla_obj "<lambda>" T.q params (.Subscript (.Name x p1) (.Constant (.int 0) j p2) p3) scope [] pm c' ctv))(hc:s.heap.CodeRec (.ref c') T.q)(hroom:X.A.depth<ji)
  (hq:SqL X.K H a ys)(h64:ks.length<64)(nd:ks.Nodup)(hk:nU H ys ks)(q:∀l,H l=none->Q (.ref l) (upd H l (.lst (sortBy .non ks ys)))):
  wpAny (model X.prog X.w) X.A (call (.builtin "sorted") [.ref a] [(bX "key",.ref f)]) (EP X pins σ Q) X.xe s:=by
 obtain⟨its,r',pl,hz⟩:=I.list hq;have hl:ks.length=ys.length:=sf hk;have hlen:=r'.length;have hv:ks.length=its.length:=by omega
 refine Bu nd hv pl.isList (by omega) (tO (A:=X.A.in1.in1) O I.hok hf hc hroom I.nolimit hk r') fun h' t' cc k hc'=>?_;have hz2:(sortBy V.non ks ys).length<=sizeLine:=by
  unfold sortBy;rw[ai,ord_len ks nd];omega
 exact⟨.ref (s.heap.objs.size+1),_,I.laid (t':=t') k (eX _) (show dQ X.prog X.w _ _ _ (.lst (sortBy .non ks ys))from⟨hz2,_,cc,Hj nd hl r',hc'⟩),rfl,q _ (I.hok.fresh (eX _))⟩
theorem G8(he:PE X e te)(hs:bZ [e] X.env=(false,eval e X.env)::bZ [] X.env)(hg:Gl X "sorted")(hm:X.mg "sorted"=none)(hcode:X.env.code=.ref c)(hC:CodeHd X.base c T.P)(hq:X.env.qual++"<lambda>"=T.q)(hb:BM X.mg X.base)
  (O:Jh X.env params x (.Subscript (.Name x p1) (.Constant (.int 0) j p2) p3) scope)(hroom:X.A.depth<ji):
  PE X (.Call (.Name "sorted" p) [e] [⟨some (bX "key"),.Lambda params (.Subscript (.Name x p1) (.Constant (.int 0) j p2) p3) scope T.pos,kp⟩] pos) (ub X.K T te):=by
 intro pins s σ H Q I h;refine iZ (jy (u:=.builtin "sorted") I hg hm (by decide+kernel) ?_);refine callWith_kw (thn (hV he lC hs pos pins s σ H _ I h) fun us s1 ⟨vs,H1,I1,r,a,ys,ks,ev,sq,h64,nd,hk,tb,q⟩=>?_) (by rw[hs];rfl) (by rw[hs];rfl);subst ev;obtain⟨u,rfl,rx⟩:=vals1 r;cases rx;obtain⟨bm,ob,b1,b2,b0,b3,b4,b5,b6⟩:=hb;have hgs:s1.heap.Ns bG X.mg:=I1.mod.glob.keeps I1.bk;have hbP:bm≠T.P:=fun z=>by
  have n:=(I1.bs _ _ b3).2;rw[z]at n;rcases tb with t|⟨_,_,_,_,_,t,_⟩<;>(rw[t]at n;cases n)
 have hgP:bG≠T.P:=fun z=>by
  obtain⟨o,es,ep,g1,g2,_⟩:=I1.mod.glob;have n:=(I1.bs _ _ g1).2;rw[z]at n;rcases tb with t|⟨_,_,_,_,_,t,_⟩<;>(rw[t]at n;cases n)
 have hB:s1.heap.BuiltinsAt X.mg T.P:=⟨bm,ob,b1,b2,b0,hbP,I1.bk _ _ b3,b4,b5,b6⟩;refine kws_cons (kla_eval O.df ?_);rw[hq];rcases tb with t|⟨c',oc,u,vs,tk,t,hcT,hoc,hvs⟩
 ·refine kla_makeFunction (mg:=X.mg) O.cl I1.ok.glob hgs hcode (hC.keeps I1.bk) (ps:= #[]) (I1.hok _ _ t) True.intro rfl hgP hB fun c' ctv h' tk hx hge hlt hrec htb=>kws_nil ?_
  obtain⟨c2,oc,vs,t2,ec,hoc,hd,hv⟩:=hrec;cases ec;have hx':∀b o,b≠T.P->s1.heap.get? b=some o->(h'.push (kla_obj "<lambda>" T.q params (.Subscript (.Name x p1) (.Constant (.int 0) j p2) p3) scope [] ((X.mg "__name__").getD .none) c' ctv)).get? b=some o:=fun b o n e=>ag _ (hx b o n e);obtain⟨un,ok⟩:=un_tab (fs:=frs X.stack) I1.hok hx' t hge (ag _ htb) (ag _ hoc);have I2:=I1.call (g':=s1.gens) (t':=tk) (d':=s1.drawn) un ok I1.bare (fun b z=>absurd z (by simp));have tb1:Tab T H1:=.inl t;have gr:Gr T H1 (upd (upd H1 c' (.frz oc (.ext fun _=>True))) T.P (.tbl (#[]++ #[rawInt T.pos.line,rawInt T.pos.col,cD c']))):=by
   have hn:H1 c'=none:=I1.hok.fresh hge;refine⟨fun b o n e=>by rw[bo n,bo (bO e hn)];exact e,fun _=>.inr ⟨c',oc,.ext fun _=>True,vs,t2,?_,?_,hd,hv⟩⟩
   ·rw[ao];simp
   ·rw[bo (bQ (bO t hn)),ao]
  exact wJ O I2 (az _ rfl) ⟨c',oc,vs,t2,rfl,ag _ hoc,hd,hv⟩ hroom (gr.seq tb1 sq) h64 nd (Paired.mM hk fun v k ⟨b,rest,e1,e2⟩=>⟨b,rest,e1,gr.t8 tb1 e2⟩) (q _ · gr)
 ·refine kla_makeFunctionHit (mg:=X.mg) O.cl I1.ok.glob hgs hcode (hC.keeps I1.bk) (I1.hok _ _ t) (by simp[TriplesOk,rawInt]) (cv:=.ref c') (by simp[codeAmong,rawInt]) hB fun ctv h' tk hk' hsz=>kws_nil ?_
  have I2:=I1.call (H':=H1) (h':=h'.push (kla_obj "<lambda>" T.q params (.Subscript (.Name x p1) (.Constant (.int 0) j p2) p3) scope [] ((X.mg "__name__").getD .none) c' ctv)) (g':=s1.gens) (t':=tk) (d':=s1.drawn) (ch:=[])
   (Un.kept fun b o e=>ag _ (hk' b o e)) (I1.hok.kept fun b o e=>ag _ (hk' b o e)) I1.bare (fun b z=>absurd z (by simp))
  exact wJ O I2 (az _ rfl) ⟨c',oc,vs,_,rfl,ag _ (hk' _ _ (I1.hok _ _ hcT).1),hoc,hvs⟩ hroom sq h64 nd hk fun l hl=>q H1 l (Gr.refl _ _) hl
end
end Lm
namespace Lm
open PySem PySem.Spec PySem.W PyProof.Rows L2 Q R
noncomputable def qp(lx:Str)(p:Pos):Arguments:={posonlyargs:=[],args:=[⟨lx,none,p⟩],vararg:=none,kwonlyargs:=[],kw_defaults:=[],kwarg:=none,defaults:=[]}
noncomputable def isArg(lx:Str):List Arg->Bool
 |x::r=>r.isEmpty&&(x.annotation.isNone&&x.arg==lx)
 | []=>false
noncomputable def xa(lx:Str)(a:Arguments):Bool:=a.posonlyargs.isEmpty&&(a.vararg.isNone&&(a.kwonlyargs.isEmpty&&(a.kw_defaults.isEmpty&&(a.kwarg.isNone&&(a.defaults.isEmpty&&isArg lx a.args)))))
theorem i8{a b:Bool}(h:(a&&b)=true):a=true/\b=true:=by rwa [aN]at h
theorem emp{α:Type}{l:List α}(h:l.isEmpty=true):l=[]:=List.isEmpty_iff.mp h
theorem non{α:Type}{l:Option α}(h:l.isNone=true):l=none:=gC.mp h
theorem BU{a:Arguments}(h:xa lx a=true):∃p,a=qp lx p:=by
 obtain⟨po,ar,va,ko,kd,kw,df⟩:=a;obtain⟨h1,h⟩:=i8 h;obtain⟨h2,h⟩:=i8 h;obtain⟨h3,h⟩:=i8 h;obtain⟨h4,h⟩:=i8 h;obtain⟨h5,h⟩:=i8 h;obtain⟨h6,h⟩:=i8 h;cases ar with
 |nil=>exact(ak h).elim
 |cons x r=>
  obtain⟨h7,h⟩:=i8 h;obtain⟨h8,h9⟩:=i8 h;obtain⟨y,an,p⟩:=x;cases emp h1;cases non h2;cases emp h3;cases emp h4;cases non h5;cases emp h6;cases emp h7;cases non h8;cases eq_of_beq h9;exact⟨p,rfl⟩
noncomputable def pA(lx:Str)(sc:Scope):Bool:=decide (sc.names=[(lx,.local)])&&(decide (sc.kind=.function)&&(decide (sc.isCoroutine=false)&&(decide (sc.isGenerator=false)&&(lx==("__debug__":Str))==false)))
noncomputable def isNm(lx:Str):Expr->Bool
 |.Name x _=>x==lx
 |_=>false
theorem Dw(h:isNm lx e=true):∃p,e=.Name lx p:=by
 cases e with
 |Name x p=>cases eq_of_beq h;exact⟨p,rfl⟩
 |_=>exact(ak h).elim
noncomputable def isZero:Expr->Bool
 |.Constant c _ _=>decide (c=.int 0)
 |_=>false
theorem E6(h:isZero e=true):∃j p,e=.Constant (.int 0) j p:=by
 cases e with
 |Constant c j p=>cases of_decide_eq_true h;exact⟨j,p,rfl⟩
 |_=>exact(ak h).elim
noncomputable def Dx(lx:Str):Expr->Bool
 |.Subscript a b _=>isNm lx a&&isZero b
 |_=>false
theorem BY(h:Dx lx e=true):∃p1 j p2 p3,e=.Subscript (.Name lx p1) (.Constant (.int 0) j p2) p3:=by
 cases e with
 |Subscript a b p=>
  obtain⟨h1,h2⟩:=i8 h;obtain⟨p1,rfl⟩:=Dw h1;obtain⟨j,p2,rfl⟩:=E6 h2;exact⟨_,_,_,_,rfl⟩
 |_=>exact(ak h).elim
noncomputable def IV(lx:Str)(pos:Pos):Expr->Bool
 |.Lambda params body scope lp=>decide (lp=pos)&&(xa lx params&&(pA lx scope&&Dx lx body))
 |_=>false
theorem Fh(h:IV lx pos e=true):∃pa scope p1 j p2 p3,e=.Lambda (qp lx pa) (.Subscript (.Name lx p1) (.Constant (.int 0) j p2) p3) scope pos/\pA lx scope=true:=by
 cases e with
 |Lambda params body scope lp=>
  obtain⟨h1,h⟩:=i8 h;obtain⟨h2,h⟩:=i8 h;obtain⟨h3,h4⟩:=i8 h;cases of_decide_eq_true h1;obtain⟨pa,rfl⟩:=BU h2;obtain⟨p1,j,p2,p3,rfl⟩:=BY h4;exact⟨_,_,_,_,_,_,rfl,h3⟩
 |_=>exact(ak h).elim
noncomputable def chkKw(lx:Str)(pos:Pos):List Keyword->Bool
 |k::r=>r.isEmpty&&(decide (k.arg=some (bX "key"))&&IV lx pos k.value)
 | []=>false
noncomputable def IW(sc:Scope)(N:List Str)(ce:CE)(lx:Str)(pos:Pos):Expr->Bool
 |.Call f es ks _=>isNm "sorted" f&&(pB sc "sorted"&&(rU sc N (.cons ce .nil) es&&chkKw lx pos ks))
 |_=>false
noncomputable def chkTg(sc:Scope)(N:List Str)(i:Nat):List Expr->Bool
 |g::r=>r.isEmpty&&wm sc N true (.name i) g
 | []=>false
noncomputable def IX(sc:Scope)(N:List Str)(i:Nat)(ce:CE)(lx:Str)(pos:Pos):Stmt->Bool
 |.Assign ts v _=>chkTg sc N i ts&&IW sc N ce lx pos v
 |_=>false
theorem Fi{ce:CE}{s:Stmt}(h:IX sc N i ce lx pos s=true):∃g e pa scope p1 j p2 p3 p kp cp sp,s=.Assign [g] (.Call (.Name "sorted" p) [e] [⟨some (bX "key"),.Lambda (qp lx pa) (.Subscript (.Name lx p1) (.Constant (.int 0) j p2) p3) scope pos,kp⟩] cp) sp/\
  wm sc N true (.name i) g=true/\pB sc "sorted"=true/\dJ sc N ce e=true/\pA lx scope=true:=by
 cases s with
 |Assign ts v sp=>
  obtain⟨h1,h2⟩:=i8 h;cases ts with
  |nil=>exact(ak h1).elim
  |cons g r=>
   obtain⟨h3,h4⟩:=i8 h1;cases emp h3;cases v with
   |Call f es ks cp=>
    obtain⟨h5,h2⟩:=i8 h2;obtain⟨h6,h2⟩:=i8 h2;obtain⟨h7,h8⟩:=i8 h2;obtain⟨p,rfl⟩:=Dw h5;obtain⟨e,r',rfl,h9,h10⟩:=nT h7;cases qy h10;cases ks with
    |nil=>exact(ak h8).elim
    |cons k ks=>
     obtain⟨h11,h12⟩:=i8 h8;obtain⟨h13,h14⟩:=i8 h12;cases emp h11;obtain⟨ka,kv,kp⟩:=k;cases of_decide_eq_true h13;obtain⟨pa,scope,p1,j,p2,p3,e1,h15⟩:=Fh h14;cases e1;exact⟨_,_,_,_,_,_,_,_,_,_,_,_,rfl,h4,h6,h9,h15⟩
   |_=>exact(ak h2).elim
 |_=>exact(ak h).elim
noncomputable def chkK(sc:Scope)(N:List Str)(c1:CS)(i:Nat)(ce:CE)(lx:Str)(pos:Pos)(c2:CB):List Stmt->Bool
 |s1::r=>chkS sc N c1 s1&&rst r
 | []=>false
where rst:List Stmt->Bool
 |s2::rest=>IX sc N i ce lx pos s2&&vz sc N c2 rest
 | []=>false
section
variable {P:Program}{w:World}{K:ah}{mg:Str->Option Value}{base:Heap}
theorem Iq{st:Stmt}{fd:gy}{ps:List Str}{sp:Sp}{c1:CS}{ce:CE}{c2:CB}{T:Tb}(F:Fun K x qual st f fd)(hd:qa N ps (aP st)=true)
  (hc:chkK (aP st) N c1 i ce lx T.pos c2 (aZ st)=true)(hcd:fd.code=.ref c)(hC:CodeHd base c T.P)(hq:qual++".<locals>."++"<lambda>"=T.q)(hb:BM mg base)
  (hbd:∀(p:Pos)(body:Expr)(scope:Scope)(qual:Str)(pm ctv v:Value)(c':Addr),pK (kla_fn "<lambda>" qual (qp lx p) body scope [] pm (.ref c') ctv) ⟨[v],[]⟩=pure [(lx,v)])
  (g:GOk P w K mg base (CXx P w) k G)(len:∀vs H Q E,sp vs H Q E->vs.length=ps.length)
  (h:∀vs H Q E,sp vs H Q E->vX (wpS G K (fun _=>E) c1) (vX (xK (ub K T (wpE G K (fun _=>E) ce)) (lS i)) (wpB G K (fun _=>E) c2)) {nx:=fun _ H'=>Q .non H',rt:=Q} (start N vs) H):jH P w K mg base (CXx P w) (k+1) f fd ps sp:=by
 have S:=zX hd;obtain⟨oc,od,kV,doc,pm,an,cdv,ct,osl,rfl,lk,hcd'⟩:=F.ex;have ecd:cdv=.ref c:=hcd;subst ecd;refine fn_of lk hcd' S len fun A outer s H vs Q E hr hsp=>?_;have o:=Hm (outer:=outer) (E:=E) (H:=H) S g hr;refine⟨_,?_,h vs H Q E hsp⟩;generalize hB:aZ st=body at hc;cases body with
 |nil=>exact(ak hc).elim
 |cons s1 r=>
  obtain⟨h1,hc⟩:=i8 hc;cases r with
  |nil=>exact(ak hc).elim
  |cons s2 rest=>
  obtain⟨h2,h3⟩:=i8 hc;obtain⟨g',e,pa,scope,p1,j,p2,p3,p,kp,cp,sp',rfl,h4,h6,h7,h12⟩:=Fi h2;obtain⟨n1,h12⟩:=i8 h12;obtain⟨n2,h12⟩:=i8 h12;obtain⟨n3,h12⟩:=i8 h12;obtain⟨n4,n5⟩:=i8 h12;rw[decide_eq_true_eq]at n1 n2 n3 n4;have hG:=rF (CX:=CXx P w) (fun _ _ _ _ _ z=>Fe z) (.name i) _ o h4;refine uC (Gq (fun _ _ _ _ _ z=>Fe z) c1 s1 o (fun _ _ _ _ _=>S.kind) h1) (uC ?_ (o9 (fun _ _ _ _ _ z=>Fe z) c2 rest o (fun _ _ _ _ _=>S.kind) h3));refine G3 (G8 (c:=c) (T:=T) (bH (fun _ _ _ _ _ z=>Fe z) ce e o h7) (cz h7 [] _) (o.gl h6) (g.blt _ (by decide+kernel)) rfl hC hq hb ?_ ?_) hG (Ht rfl _ _ _) (uP h4 (iU _) _) (by rw[qb h4];rfl)
  ·refine⟨?_,rfl,fun qual pm ctv v c'=>hbd pa _ _ qual pm ctv v c',by rw[n1];simp,by simpa using n5,n2,?_,n3,n4⟩
   ·unfold FE
    rw[n1];rfl
   ·rw[n1]
    intro z hz;have :z=(lx,dU.local):=by simpa using hz
    rw[this];exact fun z=>by cases z
  ·exact hr.depth
end
noncomputable def jz(K:ah)(tabs:List Addr)(a:Addr)(vs:List Value)(ns:List Int):Hp:=fun b=>
 if b∈tabs then some (.tbl #[])else if b=a/\K.lookup a=none then some (.frz {cls:=.type "list",data:=.seq vs.toArray} (.lst (ns.map V.int)))else none
theorem E3{CX:CXT}{fd:gy}{sp:Sp}{s₁:Shared}(KX:K.In s₁.heap)
  (hns:s₁.heap.Ns bG mg)(hb:s₁.heap.Ns mm mb)(hbb:∀x:Str,x≠"__name__"->mb x=eJ x)(hlim:s₁.heap.NoLimit)(hg:s₁.gens= #[])(ha:s₁.heap.get? a=some {cls:=.type "list",data:=.seq vs.toArray})
  (hi:bW vs ns) (hl:ns.length<=sizeLine) (hr:jO k D4) (hT:∀p∈tabs,s₁.heap.get? p=some (tabObj #[])/\isCodeTable s₁.heap p/\K.lookup p=none)
  (F:∀base:Heap,K.In base->base.Ns bG mg->(∀b o,s₁.heap.get? b=some o->o.cls≠.none->o.cls≠.type "list"->base.get? b=some o)->jH P w K mg base CX k fa fd [x] sp)
  (hbind:∀(s:Shared)(u:Value),BindsTo s fd ⟨[u],[]⟩ [(x,u)])
  (hsp:∀H:Hp,(∀p∈tabs,H p=some (.tbl #[]))->SqL K H a (ns.map V.int)->sp [.ref a] H (fun v _=>v=.bl true) fun _ _ _=>False) (hCX:∀H e s',CX [] H s₁ (fun _ _ _=>False) e s'->False):
  iO (model P w) D4 (.call (.ref fa) ⟨[.ref a],[]⟩) (fun r s'=>r=.ok (.ret (.bool true))/\OldK s₁.heap s'.heap/\s'.os=s₁.os/\og s'.gens) s₁:=by
 have rv:=rB hi;have lenV:=hi.length;have cases3:∀b,(b∈tabs/\jz K tabs a vs ns b=some (.tbl #[]))\/(b=a/\K.lookup a=none/\jz K tabs a vs ns b=some (.frz {cls:=.type "list",data:=.seq vs.toArray} (.lst (ns.map V.int))))\/jz K tabs a vs ns b=none:=fun b=>by
  unfold jz;by_cases h1:b∈tabs
  ·exact .inl ⟨h1,if_pos h1⟩
  ·rw[if_neg h1]
   by_cases h2:b=a/\K.lookup a=none
   ·exact .inr (.inl ⟨h2.1,h2.2,if_pos h2⟩)
   ·exact .inr (.inr (if_neg h2))
 have tabH:∀p∈tabs,jz K tabs a vs ns p=some (.tbl #[]):=fun p hp=>if_pos hp;have haT:a∉tabs:=fun z=>by
  have :=(hT a z).1
  rw[ha]at this;cases this
 --what is neither a table nor a list is not tracked
 have untr:∀{b:Addr}{o:Obj},s₁.heap.get? b=some o->o.cls≠.none\/(∃es ep,o.data=.dict es ep)->o.cls≠.type "list"\/(∃es ep,o.data=.dict es ep)->jz K tabs a vs ns b=none:=fun{b o} e h1 h2=>by
  rcases cases3 b with⟨q,_⟩ |⟨rfl,_⟩ |q
  ·have :=(hT b q).1
   rw[e]at this;cases this;rcases h1 with z|⟨_,_,z⟩
   ·exact absurd rfl z
   ·cases z
  ·rw[ha]at e;cases e
   rcases h2 with z|⟨_,_,z⟩
   ·exact absurd rfl z
   ·cases z
  ·exact q
 have nsK:∀{b:Addr}{m:Str->Option Value},s₁.heap.Ns b m->(Al s₁.heap (jz K tabs a vs ns)).Ns b m:=fun{b m} ⟨o,es,ep,e,d,r⟩=>⟨o,es,ep,vd e (untr e (.inr ⟨_,_,d⟩) (.inr ⟨_,_,d⟩)),d,r⟩;have hKb:K.In (Al s₁.heap (jz K tabs a vs ns)):=fun b o e=>vd (KX b o e) (by
  rcases cases3 b with⟨q,_⟩ |⟨rfl,z,_⟩ |q
  ·rw[(hT b q).2.2]at e;cases e
  ·rw[z]at e;cases e
  ·exact q)
 have hok:HOk P w (jz K tabs a vs ns) s₁.heap:=fun b o e=>by
  rcases cases3 b with⟨q,z⟩ |⟨rfl,_,z⟩ |z
  ·rw[z]at e;cases e
   exact(hT b q).1
  ·rw[z]at e;cases e
   exact⟨ha,by rw[ai];exact hl,vs,_,rv,ha⟩
  ·rw[z]at e;cases e
 have hS:SqL K (jz K tabs a vs ns) a (ns.map V.int):=by
  cases hk:K.lookup a with
  |none=>
   refine .inl (.inr ⟨{cls:=.type "list",data:=.seq vs.toArray},?_⟩);unfold jz;rw[if_neg haT,if_pos ⟨rfl,hk⟩]
  |some o=>
   have e:=KX a o hk;rw[ha]at e;cases e;exact .inr ⟨_,vs.toArray,_,hk,rfl,rfl,rfl,by rw[au,lenV];exact hl,by simpa using rv⟩
 have hM:Mod K mg (Al s₁.heap (jz K tabs a vs ns)):=⟨hKb,nsK hns,⟨mb,nsK hb,hbb⟩,let⟨mc,h1,h2⟩:=hlim;⟨mc,nsK h1,h2⟩⟩;have e0:Env0 P w K mg (Al s₁.heap (jz K tabs a vs ns)) D4 [] s₁ (jz K tabs a vs ns):=⟨rfl,hM,fun b o e=>of_hidT e,FI (Fc _ _),trivial,fun b hb=>absurd (show b∈([]:List Addr)from hb) (by simp),hok,.of_eq hg⟩;have f0:=F _ hKb (nsK hns) fun b o e h1 h2=>vd e (untr e (.inl h1) (.inl h2));refine lN (f0.run D4 [] s₁ (jz K tabs a vs ns) ⟨[.ref a],[]⟩ [.ref a] [.ref a] _ _ hr e0 (hbind s₁ (.ref a)) (.cons rfl .nil) (hsp _ tabH hS)) fun r s' h=>?_;cases r with
 |error e=>exact(hCX _ e s' h).elim
 |ok fl=>
  cases fl with
  |next =>exact kz h
  |brk=>exact kz h
  |cont=>exact kz h
  |ret u=>
   obtain⟨v,H',os,bare,un,hok',r',q⟩:=h;have q':v=.bl true:=q;subst q';obtain rfl:u=zb true:=r';have kept:∀b o,s₁.heap.get? b=some o->b∉tabs->s'.heap.get? b=some o:=fun b o e nt=>by
    rcases cases3 b with⟨z,_⟩ |⟨rfl,_,z⟩ |z
    ·exact absurd z nt
    ·have z2:=un.frzs b _ _ z
     obtain⟨e2,_⟩:=hok' b _ z2;rw[ha]at e;cases e;exact e2
    ·exact un.keep b o e z (by intro z;exact absurd (show b∈([]:List Addr)from z) (by simp)) (by simp)
   have grown:∀b∈tabs,∃more,s'.heap.get? b=some (tabObj (#[]++more)):=fun b hb=>by
    obtain⟨more,z⟩:=un.tbls b _ (tabH b hb);exact⟨more,hok' b _ z⟩
   refine⟨rfl,⟨fun b o e=>?_,fun b o e=>?_⟩,os,bare⟩
   ·by_cases hb:b∈tabs
    ·obtain⟨e1,ct,_⟩:=hT b hb
     rw[e]at e1;cases e1;obtain⟨more,z⟩:=grown b hb;exact .inr (.inl ⟨ct,rfl,#[],more,rfl,z⟩)
    ·exact .inl (kept b o e hb)
   ·by_cases hb:b∈tabs
    ·obtain⟨more,z⟩:=grown b hb
     exact⟨_,z⟩
    ·exact⟨o,kept b o e hb⟩
theorem bm_of(hg:h.Ns bG mg)(hb:∃bm ob,mg "__builtins__"=some (.ref bm)/\bm≠mm/\h.get? bm=some ob/\ob.cls=.type "module"/\ob.dict=some mm/\ob.data=.plain):BM mg h:=by
 obtain⟨bm,ob,b1,b2,b3,b4,b5,b6⟩:=hb;refine⟨bm,ob,b1,b2,fun q=>?_,b3,b4,b5,b6⟩;obtain⟨o,es,ep,e,hd,_⟩:=hg;rw[q,e]at b3;cases b3;rw[hd]at b6;cases b6
theorem F1{l:PySem.W.OpenLaw}{q:Program}{XP:(Str->Option Value)->Heap->Prop}{YP:World->Heap->Prop}{d:DefRec}{K:Params->ah}{CX:CXT}{sp:ah->Sp}
  (hn:l.most=some n)(hn2:n<=sizeLine)(hdf:d.params.defaults=[])(hr:jO k D4)(hY:∀(w:World)(h:Heap),YP w h->(K w.params).In h)
  (hT:∀(w:World)(s₀:Shared)(mg mb:Str->Option Value)(h:Heap),Ground q loose [] XP w s₀ mg mb h->YP w h->∀p∈tabs,h.get? p=some (tabObj #[])/\isCodeTable h p/\(K w.params).lookup p=none)
  (F:∀(w:World)(mg:Str->Option Value)(fa:Addr)(h:Heap),(K w.params).In h->h.Ns bG mg->mg d.name=some (.ref fa)->
   ∃fd:gy,(∀(s:Shared)(u:Value),BindsTo s fd ⟨[u],[]⟩ [(x,u)])/\
    ∀base:Heap,(K w.params).In base->base.Ns bG mg->BM mg base->jH l.prog w (K w.params) mg base CX k fa fd [x] (sp (K w.params)))
  (hsp:∀(K:ah)(H:Hp)(a:Addr)(ns:List Int),ns.length<=n->(∀p∈tabs,H p=some (.tbl #[]))->SqL K H a (ns.map V.int)->sp K [.ref a] H (fun v _=>v=.bl true) fun _ _ _=>False)
  (hCX:∀(H:Hp)(s:Shared)(e:Value)(s':Shared),CX [] H s (fun _ _ _=>False) e s'->False):
  PySem.W.WalkO q loose XP YP l.row.toRowW d [] (fun f vs=>PySem.call f vs):=by
 refine Att.AO hn hdf fun w s₀ s₁ mg mb fa o pm cd doc a vs ns G Y ho hd hcd hmg hobj hints hlen hg=>?_;have KX:=hY w _ Y;obtain⟨fd,hb,hF⟩:=F w mg fa _ KX G.T.g hmg;have hbm:=bm_of G.T.g G.T.bmain;refine E3 KX G.T.g G.T.b G.T.builtins G.T.nolimit hg hobj hints (aR hlen hn2) hr (hT w s₀ mg mb _ G Y) (fun base k1 k2 k3=>hF base k1 k2 ?_) hb (fun H t S=>hsp _ H a ns hlen t S) fun H e s'=>hCX H s₁ e s';obtain⟨bm,ob,b1,b2,b0,b3,b4,b5,b6⟩:=hbm;exact⟨bm,ob,b1,b2,b0,k3 bm ob b3 (by rw[b4];nofun) (by rw[b4];decide),b4,b5,b6⟩
end Lm
namespace Cp
open PySem PySem.Spec PyProof.Rows L2 R Lm
noncomputable def pZ:List Str:=["table"]
noncomputable def jf:List Str:=["table","ordered"]
noncomputable def ki:CS:=.expr (.call "need_table" (.cons (.var 0) .nil))
noncomputable def kh:CB:=.cons (.ret (.comp ["name","readings"] [] (.tup (.cons (.name 0) (.cons (.name 1) .nil))) (.seq (.var 1)) .no (.tup (.cons (.var 0) (.cons (.bfn .tuple (.cons (.bfn .list (.cons (.var 1) .nil)) .nil)) .nil))))) .nil
theorem _root_.Lm.Gr.free{T:Tb}(g:Gr T H H')(t:Tab T H)(h:H' l=none):H l=none:=by
 cases e:H l with
 |none=>rfl
 |some o=>
  by_cases n:l=T.P
  ·rcases g.tab t with z|⟨_,_,_,_,_,z,_⟩
   ·rw[n,z]at h;cases h
   ·rw[n,z]at h;cases h
  ·rw[g.keep l o n e]at h;cases h
noncomputable def srt(H:Hp):V->List V
 |.ref a=>match dZ (H a)with
  |some ys=>_root_.Q.sortBy .non (ys.map (aU H)) ys
  |none=>[]
 |_=>[]
def Copied(H H':Hp)(us zs:List V):Prop:=zs.length=us.length/\∀(i:Nat) z,zs[i]? =some z->∃b r,z=.ref b/\H' b=some (.tup [.str (aU H (us.getD i .non)),.ref r])/\H' r=some (.tup (rH H (us.getD i .non)))
noncomputable def xR(C:Addr)(T:Tb):Sp:=fun vs H Q E=>∃x,vs=[x]/\Kn4 H x/\Tab T H/\(dB H x=true->∀H' l zs,Gr T H H'->H l=none->H' l=some (.lst zs)->Copied H H' (srt H x) zs->Q (.ref l) H')/\(dB H x=false->False)
theorem tk_of(s:aL H H'):∀{xs:List V},(∀y∈xs,cZ H y=true)->_root_.Q.nU H' xs (xs.map (aU H))
 | [],_=>.nil
 |y::xs,h=>by
  obtain⟨a,b,e,h1,_⟩:=jX (h y (.head _));exact .cons ⟨a,_,e,s _ _ h1⟩ (tk_of s fun z hz=>h z (.tail _ hz))
theorem vT{T:Tb}(g1:G.fn "need_table" 1=some (xQ C,[])):
  ∀vs H Q E,xR C T vs H Q E->vX (R.wpS G K (fun _=>E) ki) (vX (xK (ub K T (wpE G K (fun _=>E) (.var 0))) (lS 1)) (wpB G K (fun _=>E) kh)) {nx:=fun _ H'=>Q .non H',rt:=Q} (L2.start jf vs) H:=by
 rintro vs H Q E ⟨x,rfl,hk,tb,q1,q2⟩;unfold ki kh;change vX _ _ _ [some x,none] H;unfold ub;walk_at "wp";refine⟨_,_,g1,x,rfl,hk,fun e H1 s1=>?_,q2⟩;obtain⟨a,ys,rfl,h1,h2,h3,h4,h5⟩:=eG e;have tb1:Tab T H1:=(Gr.of s1).tab tb;refine⟨a,ys,ys.map (aU H),rfl,s1.seq (kN h1),by rw[ai];omega,h4,tk_of s1 h3,tb1,fun H2 l gr hl=>?_⟩;have eu:srt H (.ref a)=_root_.Q.sortBy V.non (ys.map (aU H)) ys:=by
  show(match dZ (H a)with |some ys=>_root_.Q.sortBy V.non (ys.map (aU H)) ys|none=>[])=_;rw[h1]
 have zp:(_root_.Q.sortBy V.non (ys.map (aU H)) ys).Perm ys:=_root_.Q.fN V.non h4 (by simp);have q0:=q1 e;rw[eu]at q0;generalize _root_.Q.sortBy V.non (ys.map (aU H)) ys=us at zp q0⊢;have gr0:Gr T H (upd H2 l (.lst us)):=(Gr.of s1).trans (gr.trans (Gr.of (ax hl)));have el:upd H2 l (.lst us) l=some (.lst us):=ao;generalize upd H2 l (.lst us)=H3 at gr0 el⊢;have hul:us.length<=40:=by rw[zp.length_eq];exact h2
 refine cS (b7 rfl (SqL.of el) (dH cX (aR hul (by decide)) (fun H4 s4=>SqL.of (s4 _ _ el)) (fun i v H'=>∃b r,v=V.ref b/\H' b=some (.tup [.str (aU H (us.getD i .non)),.ref r])/\H' r=some (.tup (rH H (us.getD i .non))))
  (fun i v H4 H5 s5 ⟨b,r,z1,z2,z3⟩=>⟨b,r,z1,s5 _ _ z2,s5 _ _ z3⟩) (fun τ=>∃t u,τ=[t,u]) ⟨none,none,rfl⟩ ?_ ?_))
 ·rintro j y τ H4 R hi ⟨t,u,rfl⟩ s4 hy k
  have hm:y∈ys:=zp.mem_iff.mp (aD hy);obtain⟨b,c,rfl,k1,k2,k3,k4⟩:=jX (h3 y hm);have f1:=s4 _ _ (gr0.t8 tb k1);have f2:=s4 _ _ (gr0.t8 tb k2);refine⟨b,_,rfl,SqT.of f1,rfl,_,_,rfl,_,_,rfl,rfl,?_⟩;walk_at "wp";refine⟨c,_,rfl,.inr (SqT.of f2),fun l1 hl1=>⟨l1,_,rfl,.inl ⟨SqL.of ao,fun r hr=>⟨aR (by simp :_<=2) (by decide),fun p hp=>k _ _ _ ⟨_,_,rfl⟩ ((ax hl1).trans ((ax hr).trans (ax hp))) ?_⟩⟩⟩⟩;rw[getD_some hy];exact⟨p,r,rfl,ao,by rw[bo (bO ao hp)];exact ao⟩
 ·intro vs H4 l2 hvl hF s4 hl2
  have gr4:Gr T H H4:=gr0.trans (Gr.of s4);have s5:aL H4 (upd H4 l2 (.lst vs)):=ax hl2;refine q0 _ l2 vs (gr4.trans (Gr.of s5)) (gr4.free tb hl2) ao ⟨hvl,fun i z hz=>?_⟩;obtain⟨b,r,z1,z2,z3⟩:=hF i z hz;exact⟨b,r,z1,s5 _ _ z2,s5 _ _ z3⟩
end Cp
namespace K22
open PySem R
noncomputable def p_clash:List Str:=["table"]
noncomputable def Dk:List Str:=["table","copies","count","one","other","names"]
noncomputable def xq:CB:=
  (.cons (.ret (.con .none))
  .nil)
noncomputable def xr:CB:=
  (.cons (.forr (.name 3) (.range1 (.var 2))
  (.cons (.forr (.name 4) (.range2 (.bin .Add (.var 3) (.con (.int 1))) (.var 2))
  (.cons (.asg (.name 5) (.call "first_of_kinds" (.cons (.var 1) (.cons (.var 3) (.cons (.var 4) .nil)))))
  (.cons (.iff (.cmp .IsNot (.var 5) (.con .none))
  (.cons (.ret (.tup (.cons (.var 3) (.cons (.var 4) (.cons (.var 5) .nil)))))
  .nil)
  .nil)
  .nil)))
  .nil))
  xq)
noncomputable def xu:CB:=
  (.cons (.asg (.name 2) (.call "place_count" (.cons (.var 1) .nil)))
  xr)
noncomputable def DU:CB:=
  (.cons (.asg (.name 1) (.call "table_list" (.cons (.var 0) .nil)))
  xu)
noncomputable def zO:List Str:=["_law_found"]
noncomputable def z8:List Str:=["_law_found"]
end K22
namespace K22
open PySem PySem.Spec PyProof.Rows L2 R Cp Lt Kc K21 Lm
noncomputable def cd(H:Hp)(y:V):Str×List V:=(aU H y,rH H y)
noncomputable def EN(i:Int)(p:Str×List V):Int:=match p.2.getD i.toNat .non with
 |.int n=>n
 |_=>0
noncomputable def isK(i j:Int)(k:Int×Int)(p:Str×List V):Bool:=decide (EN i p=k.1/\EN j p=k.2)
noncomputable def qt(rows:List (Str×List V))(i j:Int):Bool:=KP.all fun k=>rows.any (isK i j k)
noncomputable def Di(rows:List (Str×List V))(i j:Int)(k:Int×Int):Str:=((rows.find? (isK i j k)).map (·.1)).getD ""
theorem DC{i j:Int}:j9 H xs i j=qt (xs.map (cd H)) i j:=by
 unfold j9 qt;congr 1;funext k;rw[tZ];rfl
theorem Hw{i j:Int}(h:j9 H xs i j=true):KP.map (firstOf H xs i j)=(KP.map (Di (xs.map (cd H)) i j)).map V.str:=by
 rw[bq];refine bE fun k hk=>?_;have hall:xs.any (fun y=>decide (num H i y=k.1/\num H j y=k.2))=true:=by
  unfold j9 at h;exact bC.mp h k hk
 have ep:(fun y=>decide (kf H i j y=pq k))=(isK i j k)∘(cd H):=by
  funext y
  exact decide_eq_decide.mpr kf_eq
 show firstOf H xs i j k=V.str (Di (xs.map (cd H)) i j k);unfold firstOf Di;rw[ep,List.find?_map];obtain⟨y0,hy0,e0⟩:=b9.mp hall;cases hf:xs.find? ((isK i j k)∘(cd H))with
 |none=>
  rw[iA]at hf;exact absurd e0 (hf y0 hy0)
 |some y=>rfl
structure First(rows:List (Str×List V))(n i j:Nat):Prop where
 ij:i<j
 jn:j<n
 four:qt rows i j=true
 no:∀a b:Nat,a<b->b<n->(a<i\/a=i/\b<j)->qt rows a b=false
def NoC(rows:List (Str×List V))(n:Nat):Prop:=∀a b:Nat,a<b->b<n->qt rows a b=false
def Res(H:Hp)(rows:List (Str×List V))(n:Nat)(v:V):Prop:=(v=.non/\NoC rows n)\/∃(i j:Nat)(a l:Addr),v=.ref a/\First rows n i j/\H a=some (.tup [.int i,.int j,.ref l])/\H l=some (.tup ((KP.map (Di rows i j)).map V.str))
noncomputable def rowsOf(H:Hp)(x:V):List (Str×List V):=(srt H x).map (cd H)
theorem Bz{r:Addr}(h1:H b=some (.tup [.str z,.ref r]))(h2:H r=some (.tup zs)):cd H (.ref b)=(z,zs):=by
 have e1:aU H (.ref b)=z:=by
  show(match de (H b)with |some (.str z::_)=>z|_=>("":Str))=_;rw[h1];rfl
 have e2:rH H (.ref b)=zs:=by
  show(match de (H b)with |some [_,.ref b]=>(de (H b)).getD [] |_=>[])=zs;rw[h1];show(de (H r)).getD []=zs;rw[h2];rfl
 unfold cd;rw[e1,e2]
theorem tF{t:Addr}(h:dZ (H t)=some ys):srt H (.ref t)=_root_.Q.sortBy .non (ys.map (aU H)) ys:=by
 show(match dZ (H t)with |some ys=>_root_.Q.sortBy V.non (ys.map (aU H)) ys|none=>[])=_;rw[h]
theorem EV{x:V}(h:cZ H x=true):gK (aU H x)=true:=by
 obtain⟨_,_,_,_,_,_,_,h4,_,_,h7,_⟩:=gL h;rw[h7];exact h4
theorem vn{x:V}(e:dB H x=true)(el:H' l=some (.lst zs))(c:Copied H H' (srt H x) zs):
  Kn4 H' (.ref l)/\dB H' (.ref l)=true/\count H' (.ref l)=count H x/\zs.map (cd H')=rowsOf H x:=by
 obtain⟨a,ys,rfl,h1,h2,h3,h4,h5⟩:=eG e;have eu:=tF h1;have zp:(srt H (.ref a)).Perm ys:=by rw[eu];exact _root_.Q.fN V.non h4 (by simp)
 unfold rowsOf;generalize srt H (.ref a)=us at c zp⊢;have hul:us.length<=40:=by rw[zp.length_eq];exact h2
 have hu:∀u∈us,cZ H u=true/\cq H u=count H (.ref a):=fun u hm=>⟨h3 u (zp.mem_iff.mp hm),h5 u (zp.mem_iff.mp hm)⟩;have nd:(us.map (aU H)).Nodup:=(zp.map (aU H)).nodup_iff.mpr h4;have get:∀{i:Nat}{z:V},zs[i]? =some z->us[i]? =some (us.getD i .non)/\us.getD i .non∈us:=fun{i z} hz=>by
  have hi:i<us.length:=by
   have :=(aC.mp hz).1
   rw[<-c.1];exact this
  have e:us[i]? =some (us.getD i .non):=by rw[ae,aa hi];rfl
  exact⟨e,aD e⟩
 let nf:Nat->Str:=fun i=>if i<us.length then aU H (us.getD i .non)else "a"
 have hnf:∀i,gK (nf i)=true:=fun i=>by
  show gK (if i<us.length then aU H (us.getD i .non)else "a")=true;split
  ·rename_i hi
   have e:us[i]? =some (us.getD i .non):=by rw[ae,aa hi];rfl
   exact EV (hu _ (aD e)).1
  ·decide+kernel
 have dr:Dr H' nf (count H (.ref a)) zs:=fun i z hz=>by
  obtain⟨b,r,hb,h6,h7⟩:=c.2 i z hz;obtain⟨g1,g2⟩:=get hz;have hi:i<us.length:=(aC.mp g1).1;obtain⟨c1,c2⟩:=hu _ g2;obtain⟨_,_,_,_,_,k3,k4⟩:=jX c1;refine⟨b,r,_,hb,?_,h7,by rw[k3,c2],k4⟩;show H' b=some (.tup [.str (if i<us.length then aU H (us.getD i .non)else "a"),.ref r]);rw[if_pos hi];exact h6
 have hn60:ys=[]\/count H (.ref a)<=60:=by
  cases ys with
  |nil=>exact .inl rfl
  |cons y r=>
   right
   rw[<-h5 y (.head _)];obtain⟨_,_,_,_,_,_,_,_,h60,_,_,h8⟩:=gL (h3 y (.head _));rw[h8];exact h60
 have hinj:∀i j,i<zs.length->j<zs.length->nf i=nf j->i=j:=fun i j hi hj e=>by
  rw[c.1]at hi hj;have e':(if i<us.length then aU H (us.getD i .non)else "a")=(if j<us.length then aU H (us.getD j .non)else "a"):=e;rw[if_pos hi,if_pos hj]at e';have g:∀k (hk:k<us.length),(us.map (aU H))[k]'(by simpa using hk)=aU H (us.getD k .non):=fun k hk=>by
   rw[aY,ae,aa hk];rfl
  rw[<-g i hi,<-g j hj]at e';exact(dO nd).mp e'
 have hz0:zs=[]↔us=[]:=by
  rw[<-a8,c.1,a8]
 have map_eq:zs.map (cd H')=us.map (cd H):=by
  apply fY
  intro i;rw[aq,aq];cases hz:zs[i]? with
  |none=>
   have :us.length<=i:=by
    have :=A0.mp hz
    rw[c.1]at this;exact this
   rw[bL this];rfl
  |some z=>
   obtain⟨b,r,rfl,h6,h7⟩:=c.2 i z hz;rw[(get hz).1];show some (cd H' (.ref b))=some (cd H (us.getD i .non));rw[Bz h6 h7];rfl
 rcases hn60 with hy|hn60
 ·have hus:us=[]:=by rw[hy]at zp;exact List.perm_nil.mp zp
  have hzs:=hz0.mpr hus;subst hzs;have dr0:Dr H' nf 0 []:=fun i y e=>by simp at e
  obtain⟨t1,t2,_,_⟩:=vj hnf (fun i j hi=>absurd hi (by simp)) el dr0 (by simp) (by decide);refine⟨t1,t2,?_,map_eq⟩;have e1:count H' (.ref l)=0:=by
   show(match dZ (H' l)with |some (y::_)=>cq H' y|_=>0)=0;rw[el];rfl
  have e2:count H (.ref a)=0:=by
   show(match dZ (H a)with |some (y::_)=>cq H y|_=>0)=0;rw[h1,hy]
  rw[e1,e2]
 ·obtain⟨t1,t2,_,t4⟩:=vj hnf hinj el dr (by rw[c.1];exact hul) hn60
  refine⟨t1,t2,?_,map_eq⟩;cases zs with
  |nil=>
   have hus:=hz0.mp rfl;have hy:ys=[]:=by rw[hus]at zp;exact List.nil_perm.mp zp
   have e1:count H' (.ref l)=0:=by
    show(match dZ (H' l)with |some (y::_)=>cq H' y|_=>0)=0;rw[el];rfl
   have e2:count H (.ref a)=0:=by
    show(match dZ (H a)with |some (y::_)=>cq H y|_=>0)=0;rw[h1,hy]
   rw[e1,e2]
  |cons z r=>
   show(match dZ (H' l)with |some (y::_)=>cq H' y|_=>0)=_;rw[el];exact t4 z (.head _)
noncomputable def xU(C:Addr)(T:Tb):Sp:=fun vs H Q E=>∃x,vs=[x]/\Kn4 H x/\Tab T H/\(dB H x=true->∀H' v,Gr T H H'->Res H' (rowsOf H x) (count H x) v->Q v H')/\(dB H x=false->False)
theorem FZ{T:Tb}(g1:G.fn "table_list" 1=some (xR C T,[]))(g2:G.fn "place_count" 1=some (tH C,[]))(g3:G.fn "first_of_kinds" 3=some (xT,[])):
  Sat G K (xU C T) DU Dk:=by
 rintro vs H Q E ⟨x,rfl,hk,tb,q1,q2⟩;unfold DU xu;change wpB G K _ _ _ [some x,none,none,none,none,none] H;walk_at "wp";refine⟨_,_,g1,x,rfl,hk,tb,fun e H1 l zs gr hl el cpd=>?_,q2⟩;obtain⟨kn,tt,ct,rows⟩:=vn e el cpd;have qq:=q1 e;generalize rowsOf H x=rw0 at rows qq;generalize hn:count H x=n at ct qq;refine⟨_,_,g2,.ref l,rfl,kn,fun _ H2 s2=>?_,fun z=>by rw[tt]at z;cases z⟩;rw[ct];have hx:dZ (H1 l)=some zs:=by rw[el];rfl
 have pl:∀z:Nat,z<n->isPlace H1 (.ref l) (.int z)=true:=fun z hz=>decide_eq_true ⟨by omega,by omega⟩;have hn60:n<=60:=by
  obtain⟨a',xs',ea,f1,f2,f3,f4,f5⟩:=eG tt;cases ea;rw[hx]at f1;cases f1;rw[<-ct];cases zs with
  |nil=>
   show(match dZ (H1 l)with |some (y::_)=>cq H1 y|_=>0)<=60;rw[el];exact aX _
  |cons y r=>
   rw[<-f5 y (.head _)];obtain⟨_,_,_,_,_,_,_,_,h60,_,_,h8⟩:=gL (f3 y (.head _));rw[h8];exact h60
 unfold xr;walk_at "wp";refine fQ ?_;walk_at "wp";refine⟨(n:Int),rfl,by omega,by omega,?_⟩;refine fm dv (fun i σ H'=>aL H1 H'/\(∀a b:Nat,a<i->a<b->b<n->qt rw0 a b=false)/\∃u v w,σ=[some x,some (.ref l),some (.int n),u,v,w])
  ⟨s2,fun a b h=>absurd h (by omega),none,none,none,rfl⟩ (fun _ _ _ _ _=>trivial) ?_ ?_
 ·rintro i y σ H3 H4 D2 hi ⟨s3,no,u,v,w,rfl⟩ rfl s4 hD2 hr2
  have hi':i<n:=by omega
  walk_at "wp"
  simp only[eY];refine fQ ?_;walk_at "wp";refine⟨_,_,rfl,⟨by omega,by omega,by omega,by omega⟩,?_⟩;refine fm dv (fun m σ H'=>aL H1 H'/\(∀b:Nat,i<b->b<i+1+m->qt rw0 i b=false)/\∃v w,σ=[some x,some (.ref l),some (.int n),some (.int i),v,w])
   ⟨s3.trans s4,fun b h1 h2=>absurd h2 (by omega),_,_,rfl⟩ (fun _ _ _ _ _=>trivial) ?_ ?_
  ·rintro m y σ H5 H6 D3 hm ⟨s5,no2,v,w,rfl⟩ rfl s6 hD3 hr3
   have hj:i+1+m<n:=by omega
   have ej:(i:Int)+1+(m:Int)=((i+1+m:Nat):Int):=by omega
   walk_at "wp"
   rw[ej];generalize hjj:i+1+m=j at hj no2⊢;have s7:aL H1 H6:=s5.trans s6;refine⟨_,_,g3,l,zs,i,j,H1,rfl,s7,tt,hx,pl i hi',pl j hj,fun f H7 s8=>?_,fun f H7 p s8 hp ep=>?_⟩
   ·show if(!decide (V.non=V.non))=true then _ else _
    rw[if_neg (by simp)];refine hD3 _ _ ⟨s7.trans s8,fun b h1 h2=>?_,_,_,rfl⟩;by_cases hb:b=j
    ·rw[hb,<-rows,<-DC]
     exact f
    ·exact no2 b h1 (by omega)
   ·show if(!decide (V.ref p=V.non))=true then _ else _
    rw[if_pos (by simp)];refine⟨short (by simp),fun a ha=>?_⟩;rw[hr3,hr2];refine qq _ _ (gr.trans (Gr.of (s7.trans (s8.trans (ax ha))))) (.inr ⟨i,j,a,p,rfl,⟨by omega,hj,by rw[<-rows,<-DC];exact f,fun a' b' h1 h2 h3=>?_⟩,ao,?_⟩)
    ·rcases h3 with h3|⟨rfl,h3⟩
     ·exact no a' b' h3 h1 h2
     ·exact no2 b' h1 (by omega)
    ·rw[ax ha _ _ ep,Hw f,rows]
  ·rintro σ H5 ⟨s5,no2,v,w,rfl⟩
   refine hD2 _ _ ⟨s5,fun a b h1 h2 h3=>?_,_,_,_,rfl⟩;by_cases ha:a=i
   ·subst ha
    exact no2 b h2 (by omega)
   ·exact no a b (by omega) h2 h3
 ·rintro σ H3 ⟨s3,no,u,v,w,rfl⟩
  unfold xq;walk_at "wp";exact qq H3 .non (gr.trans (Gr.of s3)) (.inl ⟨rfl,fun a b h1 h2=>no a b (by simp;omega) h1 h2⟩)
theorem uV{α β:Type}{f:α->β}{ys:List α}(hf:∀a∈ys,∀b∈ys,f a=f b->a=b):∀{l m:List α},(∀a∈l,a∈ys)->(∀a∈m,a∈ys)->l.map f=m.map f->l=m
 | [],[],_,_,_=>rfl
 | [],_::_,_,_,e=>by simp at e
 |_::_,[],_,_,e=>by simp at e
 |a::l,b::m,h1,h2,e=>by
  rw[bK,bK]at e;injection e with e1 e2
  rw[hf a (h1 a (.head _)) b (h2 b (.head _)) e1,uV hf (fun x hx=>h1 x (.tail _ hx)) (fun x hx=>h2 x (.tail _ hx)) e2]
theorem ES{α β:Type}{f:α->β}{ys:List α}(nd:(ys.map f).Nodup):∀a∈ys,∀b∈ys,f a=f b->a=b:=fun a ha b hb e=>by
 obtain⟨i,hi,rfl⟩:=cE.mp ha;obtain⟨j,hj,rfl⟩:=cE.mp hb;have e':(ys.map f)[i]'(by simpa using hi)=(ys.map f)[j]'(by simpa using hj):=by rw[aY,aY];exact e
 have :=(dO nd).mp e'
 subst this;rfl
end K22
namespace Q
open PySem PySem.Spec PySem.W PyProof.Rows L2
theorem wV(nd:ns.Nodup):(BI ns).Perm (aw ns.length):=by
 unfold BI;split
 ·exact dN _
 ·have P:=(eU (totI nd) (by omega)).1
  have :=eE.mp P.perm
  simpa using this
end Q
namespace M3
open PySem
theorem and_nat(m n:Nat):iD (m:Int) (n:Int)=((m&&& n:Nat):Int):=by
 unfold iD;simp
theorem xor_bit{a b:Int}(ha:a=0\/a=1)(hb:b=0\/b=1):jV a b=if a=b then 0 else 1:=by
 rcases ha with rfl|rfl<;>rcases hb with rfl|rfl<;>decide
noncomputable def num:List Bool->Nat->Nat
 | [],n=>n
 |b::bs,n=>num bs (n*2+b.toNat)
theorem uN:∀(bs:List Bool)(b:Bool)(n:Nat),num (bs++[b]) n=num bs n*2+b.toNat
 | [],_,_=>rfl
 |c::bs,b,n=>uN bs b _
theorem Dd:∀(bs:List Bool)(i:Nat),(num bs.reverse 0).testBit i=(bs[i]?).getD false
 | [],i=>by simp[num]
 |b::bs,i=>by
  rw[iQ,uN];cases i with
  |zero=>
   rw[Nat.testBit_zero];cases b<;>simp <;>omega
  |succ i=>
   rw[Nat.testBit_succ];have e:(num bs.reverse 0*2+b.toNat)/2=num bs.reverse 0:=by
    have hb:b.toNat<=1:=by cases b<;>decide
    omega
   rw[e,Dd bs i];simp
theorem and_sub:m&&& n=n↔∀i,n.testBit i=true->m.testBit i=true:=by
 constructor
 ·intro h i hi
  rw[<-h,Nat.testBit_and]at hi;exact(aN _ _▸hi).1
 ·intro h
  apply qT
  intro i;rw[Nat.testBit_and];cases hn:n.testBit i with
  |true=>rw[h i hn];rfl
  |false=>simp
end M3
namespace M4
open Q
noncomputable def bl(f:Nat->Int)(n:Nat)(P:Nat->Bool):List Int:=(aw n).map fun p=>if P p=true then 1-f p else f p
theorem gO(f:Nat->Int)(n:Nat)(P:Nat->Bool):(bl f n P).length=n:=by simp[bl]
theorem gT{f:Nat->Int}{P Q:Nat->Bool}(h:bl f n P=bl f n Q)(hf:∀p,p<n->f p=0\/f p=1)(hp:p<n):P p=Q p:=by
 have e:(bl f n P)[p]? =(bl f n Q)[p]? :=by rw[h]
 simp[bl,hp]at e;rcases hf p hp with z|z<;>cases hP:P p<;>cases hQ:Q p<;>simp[hP,hQ,z]at e⊢
noncomputable def sub(grp:Nat->Nat)(g p:Nat):Bool:=decide (grp p&&& g=g)
noncomputable def above(grp:Nat->Nat)(g p:Nat):Bool:=decide (grp p&&& g=g/\grp p≠g)
variable {f:Nat->Int}{n:Nat}{grp:Nat->Nat}(hf:∀p,p<n->f p=0\/f p=1)
include hf
theorem AN(hp:p<n):bl f n (sub grp (grp p))≠bl f n fun _=>false:=fun h=>by
 have :=gT h hf hp
 simp[sub]at this
theorem AM(hp:p<n)(hq:q<n)(hne:grp p≠grp q):bl f n (sub grp (grp p))≠bl f n (sub grp (grp q)):=fun h=>by
 have a:=gT h hf hp;have b:=gT h hf hq;simp[sub]at a b;exact hne (by rw[<-b,Nat.and_comm,a])
theorem IT(hp:p<n)(hq:q<n)(h1:bl f n (sub grp (grp p))=bl f n (above grp (grp q)))(h2:bl f n (sub grp (grp q))=bl f n (above grp (grp p))):False:=by
 have a:=gT h1 hf hp;have b:=gT h2 hf hq;simp[sub,above]at a b;exact a.2 (by rw[<-b.1,Nat.and_comm,a.1])
theorem CK(hp:p<n):bl f n (above grp (grp p))≠bl f n (sub grp (grp p)):=fun h=>by
 have :=gT h hf hp
 simp[sub,above]at this
noncomputable def lo(a b:List Int):List Int:=if llt b a=true then b else a
noncomputable def hi(a b:List Int):List Int:=if llt a b=true then b else a
omit hf in
theorem lohi{a b c d:List Int}(h1:lo a b=lo c d)(h2:hi a b=hi c d)(nab:a≠b)(ncd:c≠d):(a=c/\b=d)\/(a=d/\b=c):=by
 have t1:=iK (bQ nab);have t2:=iK (bQ ncd);unfold lo at h1;unfold hi at h2;rw[t1,t2]at h1;cases x:llt a b<;>cases y:llt c d<;>rw[x,y]at h1 h2<;>simp only[Bool.not_false,fU,if_true,aQ,if_false]at h1 h2
 ·exact .inl ⟨h2,h1⟩
 ·exact .inr ⟨h2,h1⟩
 ·exact .inr ⟨h1,h2⟩
 ·exact .inl ⟨h1,h2⟩
theorem xv(hp:p<n)(hq:q<n)(hne:grp p≠grp q):
  lo (bl f n (above grp (grp p))) (bl f n (sub grp (grp p)))++hi (bl f n (above grp (grp p))) (bl f n (sub grp (grp p)))≠
  lo (bl f n (above grp (grp q))) (bl f n (sub grp (grp q)))++hi (bl f n (above grp (grp q))) (bl f n (sub grp (grp q))):=fun h=>by
 have len:∀P Q:Nat->Bool,(lo (bl f n P) (bl f n Q)).length=n:=fun P Q=>by unfold lo;split <;>exact gO _ _ _
 obtain⟨h1,h2⟩:=List.append_inj h ((len _ _).trans (len _ _).symm);rcases lohi h1 h2 (CK hf hp) (CK hf hq)with⟨_,z⟩ |⟨z1,z2⟩
 ·exact AM hf hp hq hne z
 ·exact IT hf hp hq z2 z1.symm
end M4
namespace Q
open L2
theorem Er(nd:ns.Nodup):∃qs:List Int,sortI ns=qs.map V.int/\qs.Perm ns:=by
 refine⟨(BI ns).map fun i=>ns.getD i 0,?_,?_⟩
 ·unfold sortI
  rw[bq];refine bE fun i hi=>?_;have hi':i<ns.length:=aK.mp ((wV nd).mem_iff.mp hi);show(ns.map V.int).getD i .non=V.int (ns.getD i 0);rw[ae,ae,aq,aa hi'];rfl
 ·have h:=(wV nd).map fun i=>ns.getD i 0
  rw[range_getD]at h;exact h
end Q
namespace M5
open M3 M4 Q L2
noncomputable def plc(n:Nat)(P:Nat->Bool):List Int:=((aw n).filter P).map fun p:Nat=>(p:Int)
theorem lF{P:Nat->Bool}(h:i<n):(i:Int)∈plc n P↔P i=true:=by
 unfold plc;rw[ay];constructor
 ·rintro⟨p,hp,e⟩
  have :p=i:=by omega
  rw[<-this];exact(bR.mp hp).2
 ·intro e
  exact⟨i,bR.mpr ⟨aK.mpr h,e⟩,rfl⟩
noncomputable def trn(zs:List Int)(ms:List Int):List Int:=(aw zs.length).map fun i:Nat=>if(i:Int)∈ms then 1-zs.getD i 0 else zs.getD i 0
theorem Ei{zs:List Int}{P:Nat->Bool}:trn zs (plc zs.length P)=bl (fun p=>zs.getD p 0) zs.length P:=by
 unfold trn bl;refine bE fun i hi=>?_;have hi:=aK.mp hi;by_cases h:P i=true
 ·rw[if_pos ((lF hi).mpr h),if_pos h]
 ·rw[if_neg (fun z=>h ((lF hi).mp z)),if_neg h]
theorem DW{f:Nat->Int}{P:Nat->Bool}(h:i<n):(bl f n P).getD i 0=if P i=true then 1-f i else f i:=by
 unfold bl;rw[ae,aq,bP h];rfl
theorem trn_bl{f:Nat->Int}{S E:Nat->Bool}(h:∀p,E p=true->S p=true):trn (bl f n S) (plc n E)=bl f n fun p=>S p&& !E p:=by
 unfold trn;rw[gO];refine bE fun i hi=>?_;have hi:=aK.mp hi;rw[DW hi];show _=if(S i&& !E i)=true then 1-f i else f i
 cases hE:E i with
 |true=>
  rw[if_pos ((lF hi).mpr hE),h i hE,if_pos rfl];show 1-(1-f i)=if(true&& !true)=true then _ else f i
  rw[if_neg (by simp)];omega
 |false=>
  rw[if_neg (fun z=>by rw[(lF hi).mp z]at hE;cases hE)];cases S i<;>rfl
theorem Iu(zs:List Int):bl (fun p=>zs.getD p 0) zs.length (fun _=>false)=zs:=by
 unfold bl;apply bg
 ·simp
 ·intro i h1 h2
  simp[h2]
noncomputable def own(grp:Nat->Nat)(g p:Nat):Bool:=decide (grp p=g)
theorem own_sub{grp:Nat->Nat}{g:Nat}(h:own grp g p=true):sub grp g p=true:=by
 have :grp p=g:=of_decide_eq_true h;refine decide_eq_true ?_;rw[this];exact FJ g
theorem Jd(grp:Nat->Nat)(g:Nat):(fun p=>sub grp g p&& !own grp g p)=above grp g:=by
 funext p
 unfold sub own above;by_cases h1:grp p&&& g=g<;>by_cases h2:grp p=g<;>simp[h1,h2]
noncomputable def nB(f:Nat->Int)(n:Nat)(grp:Nat->Nat)(q:Int):List Int:=bl f n (sub grp q.toNat)
noncomputable def nA(f:Nat->Int)(n:Nat)(grp:Nat->Nat)(q:Int):List Int:=bl f n (above grp q.toNat)
noncomputable def fh(f:Nat->Int)(n:Nat)(grp:Nat->Nat)(qs:List Int):List (List Int):=bl f n (fun _=>false)::qs.map (nB f n grp)
noncomputable def brK(f:Nat->Int)(n:Nat)(grp:Nat->Nat)(qs:List Int):List (List Int×List Int):=qs.map fun q=>(lo (nA f n grp q) (nB f n grp q),hi (nA f n grp q) (nB f n grp q))
def Grs(n:Nat)(grp:Nat->Nat)(qs:List Int):Prop:=qs.Nodup/\∀q∈qs,∃p,p<n/\q=(grp p:Int)
section
variable {f:Nat->Int}{n:Nat}{grp:Nat->Nat}{qs:List Int}(hf:∀p,p<n->f p=0\/f p=1)(hq:Grs n grp qs)
include hf hq
theorem HE{β:Type}{F:Int->β}(h:∀p q,p<n->q<n->grp p≠grp q->F (grp p:Int)≠F (grp q:Int)):(qs.map F).Nodup:=by
 refine cU.mpr ?_;have p:List.Pairwise (fun a b=>a≠b) qs:=hq.1;refine(lq.mp p).imp ?_;rintro a b ⟨ha,hb,hne⟩;obtain⟨x,hx,rfl⟩:=hq.2 a ha;obtain⟨y,hy,rfl⟩:=hq.2 b hb;exact h x y hx hy (fun e=>hne (by rw[e]))
theorem uO:(fh f n grp qs).Nodup:=by
 unfold fh;refine bN.mpr ⟨fun z=>?_,HE hf hq fun p q hp hq' hne=>?_⟩
 ·obtain⟨q,hq',e⟩:=ay.mp z
  obtain⟨p,hp,rfl⟩:=hq.2 q hq';exact AN hf hp (by unfold nB at e;rw[aH]at e;exact e)
 ·unfold nB
  rw[aH,aH];exact AM hf hp hq' hne
theorem Cf:((brK f n grp qs).map jM).Nodup:=by
 unfold brK;rw[bq];refine HE hf hq fun p q hp hq' hne=>?_;show lo (nA f n grp (grp p:Int)) (nB f n grp (grp p:Int))++hi (nA f n grp (grp p:Int)) (nB f n grp (grp p:Int))≠lo (nA f n grp (grp q:Int)) (nB f n grp (grp q:Int))++hi (nA f n grp (grp q:Int)) (nB f n grp (grp q:Int));unfold nA nB;rw[aH,aH];exact xv hf hp hq' hne
end
theorem ET{f:Nat->Int}{grp:Nat->Nat}:∀k∈fh f n grp qs,k.length=n:=fun k hk=>by
 rcases aE.mp hk with rfl|hk
 ·exact gO _ _ _
 ·obtain⟨q,_,rfl⟩:=ay.mp hk
  exact gO _ _ _
theorem lo_len{a b:List Int}(ha:a.length=n)(hb:b.length=n):(lo a b).length=n:=by unfold lo;split <;>assumption
theorem hi_len{a b:List Int}(ha:a.length=n)(hb:b.length=n):(hi a b).length=n:=by unfold hi;split <;>assumption
theorem brK_len{f:Nat->Int}{grp:Nat->Nat}:∀k∈brK f n grp qs,k.1.length=n/\k.2.length=n:=fun k hk=>by
 obtain⟨q,_,rfl⟩:=ay.mp hk;exact⟨lo_len (gO _ _ _) (gO _ _ _),hi_len (gO _ _ _) (gO _ _ _)⟩
theorem tQ{grp:Nat->Nat}(h:Grs n grp qs):qs.length<=n:=by
 have e:qs.length<=((aw n).map fun p:Nat=>(grp p:Int)).length:=by
  refine List.Nodup.length_le_of_subset h.1 fun q hq=>?_;obtain⟨p,hp,rfl⟩:=h.2 q hq;exact ay.mpr ⟨p,aK.mpr hp,rfl⟩
 simpa using e
end M5
namespace Mt
open Q M4
noncomputable def onp(par:Nat->Nat)(e:Nat):Nat->Nat->Bool
 | 0,_=>false
 |f+1,v=>if v=0 then false else decide (v=e)||onp par e f (par v)
noncomputable def on(par:Nat->Nat)(e v:Nat):Bool:=onp par e v v
section
variable {par:Nat->Nat}{e f:Nat}{N:Nat}(hp:∀v,1<=v->v<N->par v<v)
include hp
theorem uK:∀(k v:Nat),v<N->v<=k->onp par e k v=onp par e v v
 | 0,v,_,h=>by
  obtain rfl:v=0:=by omega
  rfl
 |k+1,v,hv,h=>by
  by_cases h0:v=0
  ·subst h0
   rfl
  ·obtain⟨u,rfl⟩:∃u,v=u+1:=⟨v-1,by omega⟩
   have hl:=hp (u+1) (by omega) hv;show(if u+1=0 then false else decide (u+1=e)||onp par e k (par (u+1)))=(if u+1=0 then false else decide (u+1=e)||onp par e u (par (u+1)));rw[uK k (par (u+1)) (by omega) (by omega),uK u (par (u+1)) (by omega) (by omega)]
theorem jb(h1:1<=v)(hv:v<N):on par e v=(decide (v=e)||on par e (par v)):=by
 obtain⟨u,rfl⟩:∃u,v=u+1:=⟨v-1,by omega⟩;have hl:=hp (u+1) (by omega) hv;show(if u+1=0 then false else decide (u+1=e)||onp par e u (par (u+1)))=_;rw[if_neg (by omega),uK hp u (par (u+1)) (by omega) (by omega)];rfl
theorem ou:∀(v:Nat),v<N->on par e v=true->e<=v/\1<=e:=fun v=>by
 induction v using jT with
 |ind v ih=>
  intro hv h;by_cases h0:v=0
  ·subst h0
   cases h
  ·rw[jb hp (by omega) hv,cw,decide_eq_true_eq]at h
   rcases h with h|h
   ·omega
   ·have hl:=hp v (by omega) hv
    have :=ih (par v) hl (by omega) h
    omega
theorem iJ(h1:1<=v)(hv:v<N):on par v v=true:=by
 rw[jb hp h1 hv];simp
theorem uM:∀(v:Nat),v<N->on par e v=true->on par f v=true->f<=e->on par f e=true:=fun v=>by
 induction v using jT with
 |ind v ih=>
  intro hv h1 h2 hle;by_cases h0:v=0
  ·subst h0
   cases h1
  ·by_cases he:v=e
   ·rw[<-he]
    exact h2
   ·have hl:=hp v (by omega) hv
    have h1':=h1;rw[jb hp (by omega) hv,decide_eq_false he,bM]at h1';have :=ou hp (par v) (by omega) h1';rw[jb hp (by omega) hv,decide_eq_false (by omega:¬v=f),bM]at h2;exact ih (par v) hl (by omega) h1' h2 hle
theorem uL:∀(v:Nat),v<N->on par e v=true->on par f e=true->on par f v=true:=fun v=>by
 induction v using jT with
 |ind v ih=>
  intro hv h1 h2;by_cases h0:v=0
  ·subst h0
   cases h1
  ·by_cases he:v=e
   ·rw[he]
    exact h2
   ·have hl:=hp v (by omega) hv
    rw[jb hp (by omega) hv,decide_eq_false he,bM]at h1;rw[jb hp (by omega) hv,ih (par v) hl (by omega) h1 h2,oa]
theorem Hr{a b c d:Nat}(ha:a<N)(hb:b<N)(hc:c<N)(h11:on par e a=true/\on par f a=true)(h10:on par e b=true/\on par f b=false)(h01:on par e c=false/\on par f c=true):False:=by
 by_cases h:f<=e
 ·have :=uL hp b hb h10.1 (uM hp a ha h11.1 h11.2 h)
  rw[h10.2]at this;cases this
 ·have :=uL hp c hc h01.2 (uM hp a ha h11.2 h11.1 (by omega))
  rw[h01.1]at this;cases this
end
noncomputable def rdv(f:Nat->Int)(own par:Nat->Nat)(v p:Nat):Int:=if on par (own p) v=true then 1-f p else f p
noncomputable def nd(f:Nat->Int)(own par:Nat->Nat)(n v:Nat):List Int:=(aw n).map (rdv f own par v)
theorem uQ{f:Nat->Int}{own par:Nat->Nat}:(nd f own par n v).length=n:=by simp[nd]
theorem dY{f:Nat->Int}{own par:Nat->Nat}(h:p<n):(nd f own par n v).getD p 0=rdv f own par v p:=by
 unfold nd;rw[ae,aq,bP h];rfl
theorem rdv_bit{f:Nat->Int}{own par:Nat->Nat}(hf:f p=0\/f p=1):rdv f own par v p=0\/rdv f own par v p=1:=by
 unfold rdv;split <;>omega
theorem GO{f:Nat->Int}{own par:Nat->Nat}:rdv f own par 0 p=f p:=by
 unfold rdv;rw[if_neg (by intro h;cases h)]
section
variable {f:Nat->Int}{own par:Nat->Nat}{n N:Nat}(hp:∀v,1<=v->v<N->par v<v)(hf:∀p,p<n->f p=0\/f p=1)
include hp hf
theorem GP(h1:1<=v)(hv:v<N)(hpn:p<n):(rdv f own par (par v) p+(if own p=v then 1 else 0))%2=rdv f own par v p:=by
 have hl:=hp v h1 hv;unfold rdv;rw[jb hp h1 hv];have hz:=hf p hpn;by_cases h:v=own p
 ·have :on par (own p) (par v)=false:=by
   cases q:on par (own p) (par v)with
   |false=>rfl
   |true=>
    have :=ou hp (par v) (by omega) q
    omega
  rw[this,decide_eq_true h,if_pos h.symm];simp only[Bool.true_or,if_true,aQ,if_false];omega
 ·rw[decide_eq_false h,if_neg (bQ h),bM]
  split <;>omega
theorem yb(hpn:p<n):on par (own p) v=decide (rdv f own par v p≠f p):=by
 have hz:=hf p hpn;unfold rdv;cases on par (own p) v with
 |true=>simp;omega
 |false=>simp
theorem Dh(hi:i<j)(hj:j<N)(ho:∃p,p<n/\own p=j):nd f own par n j≠nd f own par n i:=fun h=>by
 obtain⟨p,hpn,e⟩:=ho;have q:rdv f own par j p=rdv f own par i p:=by rw[<-dY (n:=n) hpn,h,dY hpn]
 have a:=yb (own:=own) (v:=j) hp hf hpn;have b:=yb (own:=own) (v:=i) hp hf hpn;rw[q,<-b,e,iJ hp (by omega) hj]at a;have :=ou hp i (by omega) a.symm;omega
end
end Mt
namespace K32
open PySem R
noncomputable def BH:List Str:=["copies","place"]
noncomputable def uU:List Str:=["copies","place","first","group","name","readings"]
noncomputable def qI:CB:=
  (.cons (.ret (.var 3))
  .nil)
noncomputable def qJ:CB:=
  (.cons (.forr (.tup (.cons (.name 4) (.cons (.name 5) .nil))) (.seq (.var 0))
  (.cons (.asg (.name 3) (.bin .Add (.bin .Mult (.var 3) (.con (.int 2))) (.bin .BitXor (.idx (.var 5) (.var 1)) (.var 2))))
  .nil))
  qI)
noncomputable def qK:CB:=
  (.cons (.asg (.name 3) (.con (.int 0)))
  qJ)
noncomputable def vD:CB:=
  (.cons (.asg (.name 2) (.idx (.idx (.idx (.var 0) (.con (.int 0))) (.con (.int 1))) (.var 1)))
  qK)
noncomputable def Hi:List Str:=["readings","places"]
noncomputable def z7:List Str:=["readings","places"]
noncomputable def AH:CB:=
  (.cons (.ret (.bfn .tuple (.cons (.comp ["place","reading"] [1] (.tup (.cons (.name 0) (.cons (.name 1) .nil))) (.enumt (.var 0)) .no (.ite (.cmp .In (.var 0) (.var 2)) (.bin .Sub (.con (.int 1)) (.var 1)) (.var 1))) .nil)))
  .nil)
noncomputable def p_grown:List Str:=["copies"]
noncomputable def Dj:List Str:=["copies","first","groups","nodes","branches","group","places","around","below","above"]
noncomputable def xl:CB:=
  (.cons (.ret (.tup (.cons (.bfn .sortl (.cons (.var 3) .nil)) (.cons (.bfn .sortt (.cons (.var 4) .nil)) .nil))))
  .nil)
noncomputable def nh:CB:=
  (.cons (.expr (.meth1 .append (.var 4) (.tup (.cons (.bfn .minl (.cons (.var 9) (.cons (.var 8) .nil))) (.cons (.bfn .maxl (.cons (.var 9) (.cons (.var 8) .nil))) (.cons (.bfn .tuple (.cons (.var 6) .nil)) .nil))))))
  .nil)
noncomputable def ni:CB:=
  (.cons (.expr (.meth1 .append (.var 3) (.var 8)))
  nh)
noncomputable def sO:CB:=
  (.cons (.asg (.name 9) (.call "turned" (.cons (.var 8) (.cons (.var 6) .nil))))
  ni)
noncomputable def nj:CB:=
  (.cons (.asg (.name 8) (.call "turned" (.cons (.var 1) (.cons (.var 7) .nil))))
  sO)
noncomputable def sP:CB:=
  (.cons (.asgc 7 (.comp ["place"] [5,2] (.name 0) (.range1 (.bfn .len (.cons (.var 1) .nil))) (.yes (.cmp .Eq (.bin .BitAnd (.idx (.var 2) (.var 0)) (.var 1)) (.var 1))) (.var 0)))
  nj)
noncomputable def nq:CB:=
  (.cons (.asgc 6 (.comp ["place"] [5,2] (.name 0) (.range1 (.bfn .len (.cons (.var 1) .nil))) (.yes (.cmp .Eq (.idx (.var 2) (.var 0)) (.var 1))) (.var 0)))
  sP)
noncomputable def xm:CB:=
  (.cons (.forr (.name 5) (.lseq (.sortset (.var 2)))
  (.cons (.iff (.cmp .Eq (.var 5) (.con (.int 0)))
  (.cons (.cont)
  .nil)
  .nil)
  nq))
  xl)
noncomputable def xn:CB:=
  (.cons (.asg (.name 4) (.lst .nil))
  xm)
noncomputable def xo:CB:=
  (.cons (.asg (.name 3) (.lst (.cons (.var 1) .nil)))
  xn)
noncomputable def xp:CB:=
  (.cons (.asgc 2 (.comp ["place"] [0] (.name 0) (.range1 (.bfn .len (.cons (.var 1) .nil))) .no (.call "group_at" (.cons (.var 1) (.cons (.var 0) .nil)))))
  xo)
noncomputable def DT:CB:=
  (.cons (.asg (.name 1) (.idx (.idx (.var 0) (.con (.int 0))) (.con (.int 1))))
  xp)
end K32
namespace K32
open PySem PySem.Spec PyProof.Rows L2 R Cp Lt Kc K21 K22 Lm M3 M4 M5
theorem dA(h:n<=63):n<=sizeLine:=aR h (by decide)
theorem uW(h:n<=63):n<sizeLine:=tB h (by decide)
theorem xor_ii{i j:Int}{Q:VK}:j8 K .BitXor (.int i) (.int j) H Q↔Q (.int (jV i j)) H:=by simp[j8,rI0]
theorem and_ii{i j:Int}{Q:VK}:j8 K .BitAnd (.int i) (.int j) H Q↔Q (.int (iD i j)) H:=by simp[j8,rI0]
theorem yF(a:Int)(l:List Int):inV (V.int a) (l.map V.int)=decide (a∈l):=by
 unfold inV;rw[tZ,bF,b9,decide_eq_true_eq];constructor
 ·rintro⟨x,hx,e⟩
  have :x=a:=by simpa[eqV]using e
  rw[<-this];exact hx
 ·intro h
  exact⟨a,h,by simp[eqV]⟩
theorem rQ(ms:List Int):(ms.map V.int).all oB=true:=by
 rw[bC];intro v hv;obtain⟨m,_,rfl⟩:=ay.mp hv;rfl
theorem wM:sY (Itet K a) xs.length (fun i x H=>∃p v,x=.ref p/\H p=some (.tup [.int i,v])/\xs[i]? =some v) (fun H=>SqT K H a xs) where
 go:=fun i H h hi=>⟨xs,xs[i],h,by simp[hi]⟩
 stop:=fun i H h hi=>⟨xs,h,hi⟩
 yld:=fun i H x H' h hi y=>by
  obtain⟨p,v,hp,e,ex,y⟩:=y;subst e ex;exact⟨⟨p,v,rfl,ao,y xs h⟩,ax hp⟩
theorem gE{zs:List Int}(h:i<zs.length):(zs.map V.int)[i]? =some (.int (zs.getD i 0)):=by
 rw[aq,aa h,ae,aa h];rfl
structure Cps(H:Hp)(c:Addr)(ys:List V)(n:Nat)(rows:List (List Int)):Prop where
 ec:H c=some (.lst ys)
 len:ys.length<=40
 rl:rows.length=ys.length
 n60:n<=60
 at_:∀(i:Nat) y,ys[i]? =some y->∃b z r,y=.ref b/\H b=some (.tup [.str z,.ref r])/\H r=some (.tup ((rows.getD i []).map V.int))
 rd:∀zs∈rows,zs.length=n/\∀x∈zs,x=0\/x=1
theorem Cps.same(d:Cps H c ys n rows)(s:aL H H'):Cps H' c ys n rows:=
 {d with ec:=s _ _ d.ec,at_:=fun i y e=>let⟨b,z,r,h1,h2,h3⟩:=d.at_ i y e;⟨b,z,r,h1,s _ _ h2,s _ _ h3⟩}
theorem Cps.row(d:Cps H c ys n rows)(hi:i<ys.length):(rows.getD i []).length=n/\∀p,p<n->(rows.getD i []).getD p 0=0\/(rows.getD i []).getD p 0=1:=by
 have hi':i<rows.length:=by rw[d.rl];exact hi
 have e:rows.getD i []=rows[i]:=by rw[ae,aa hi'];rfl
 obtain⟨h1,h2⟩:=d.rd rows[i] (a9 hi');rw[e];refine⟨h1,fun p hp=>h2 _ ?_⟩;rw[ae,aa (by omega)];exact a9 _
noncomputable def fr(rows:List (List Int))(p:Nat):Int:=(rows.getD 0 []).getD p 0
noncomputable def bt(rows:List (List Int))(p:Nat)(r:List Int):Bool:= !decide (r.getD p 0=fr rows p)
noncomputable def grp(rows:List (List Int))(p:Nat):Nat:=M3.num (rows.map (bt rows p)) 0
noncomputable def xS:Sp:=fun vs H Q _=>∃(c:Addr)(p:Nat)(ys:List V)(n:Nat)(rows:List (List Int)),vs=[.ref c,.int p]/\Cps H c ys n rows/\ys≠[]/\p<n/\∀H',aL H H'->Q (.int (grp rows p)) H'
theorem FX:Sat G K xS vD uU:=by
 rintro vs H Q E ⟨c,p,ys,n,rows,rfl,d,hy,hp,q⟩;unfold vD;change wpB G K _ _ _ [some (.ref c),some (.int p),none,none,none,none] H;walk_at "wp";have h0:0<ys.length:=gU.mpr hy;obtain⟨b,z,r,e1,e2,e3⟩:=d.at_ 0 ys[0] (aa h0);obtain⟨r1,r2⟩:=d.row h0;have g0:ys[0]? =some (.ref b):=by rw[aa h0,e1]
 refine .inl ⟨c,ys,0,_,rfl,rfl,SqL.of d.ec,cG (j:=0) g0,?_⟩;refine .inr (.inl ⟨b,_,1,_,rfl,rfl,SqT.of e2,rfl,?_⟩);refine .inr (.inl ⟨r,_,p,_,rfl,rfl,SqT.of e3,cG (gE (by omega)),?_⟩);unfold qK;walk_at "wp";unfold qJ;walk_at "wp";refine fQ (b7 rfl (SqL.of d.ec) (fm cX (fun k σ H'=>aL H H'/\∃u v,σ=[some (.ref c),some (.int p),some (.int (fr rows p)),some (.int (M3.num ((rows.take k).map (bt rows p)) 0:Nat)),u,v])
  ⟨aL.refl _,none,none,rfl⟩ (fun k σ H' _ s=>s.1.seq (SqL.of d.ec)) ?_ ?_))
 ·rintro k y σ H1 H2 D2 hk ⟨s1,u,v,rfl⟩ hy' s2 hD _
  obtain⟨b',z',r',rfl,f2,f3⟩:=d.at_ k y hy';have s3:=s1.trans s2;obtain⟨t1,t2⟩:=d.row hk;have hk':k<rows.length:=by rw[d.rl];exact hk
  refine⟨b',_,rfl,SqT.of (s3 _ _ f2),rfl,_,_,rfl,_,_,rfl,rfl,?_⟩;walk_at "wp";refine⟨vo (by decide) (by decide),.inr (.inl ⟨r',_,p,_,rfl,rfl,SqT.of (s3 _ _ f3),cG (gE (by omega)),?_⟩)⟩;refine xor_ii.mpr (vE.mpr ?_);rw[show jV ((rows.getD k []).getD p 0) (fr rows p)=if(rows.getD k []).getD p 0=(rows.getD 0 []).getD p 0 then 0 else 1 from xor_bit (t2 p hp) (r2 p hp)];have et:rows.take (k+1)=rows.take k++[rows.getD k []]:=by
   rw[cB,ae,aa hk'];rfl
  have eb:(if(rows.getD k []).getD p 0=(rows.getD 0 []).getD p 0 then(0:Int)else 1)=((bt rows p (rows.getD k [])).toNat:Int):=by
   unfold bt fr;by_cases h:(rows.getD k []).getD p 0=(rows.getD 0 []).getD p 0
   ·rw[if_pos h,decide_eq_true h];rfl
   ·rw[if_neg h,decide_eq_false h];rfl
  have e4:((M3.num ((rows.take k).map (bt rows p)) 0:Nat):Int)*2+((bt rows p (rows.getD k [])).toNat:Int)=((M3.num ((rows.take (k+1)).map (bt rows p)) 0:Nat):Int):=by
   rw[et,cQ,bK,j6,uN];push_cast;rfl
  rw[eb,e4];exact hD _ _ ⟨s3,_,_,rfl⟩
 ·rintro σ H1 ⟨s1,u,v,rfl⟩
  unfold qI;walk_at "wp";rw[<-d.rl,c7];exact q H1 s1
noncomputable def mD(K:ah):Sp:=fun vs H Q _=>∃(r b:Addr)(zs ms:List Int),vs=[.ref r,.ref b]/\SqT K H r (zs.map V.int)/\SqL K H b (ms.map V.int)/\zs.length<=60/\
 ∀(H':Hp)(p:Addr),aL H H'->H p=none->H' p=some (.tup ((trn zs ms).map V.int))->Q (.ref p) H'
theorem Ed:Sat G K (mD K) AH z7:=by
 rintro vs H Q E ⟨r,b,zs,ms,rfl,hr,hb,hl,q⟩;unfold AH;change wpB G K _ _ _ [some (.ref r),some (.ref b)] H;walk_at "wp";refine cS ⟨_,rfl,r,rfl,⟨_,hr⟩,?_⟩;refine dH wM (dA (by rw[ai];omega)) (fun H3 s3=>s3.tup hr) (fun i v _=>v=.int (if(i:Int)∈ms then 1-zs.getD i 0 else zs.getD i 0)) (fun _ _ _ _ _ h=>h) (fun τ=>∃u v,τ=[u,v,some (.ref b)]) ⟨none,none,rfl⟩ ?_ ?_
 ·rintro i x τ H3 R hi ⟨u,v,rfl⟩ s3 ⟨p,v,rfl,hp,hv⟩ k
  rw[ai]at hi;rw[gE hi]at hv;cases hv;refine⟨p,_,rfl,SqT.of hp,rfl,_,_,rfl,_,_,rfl,rfl,?_⟩;walk_at "wp";refine .inr ⟨b,_,rfl,.inl (s3.seq hb),rfl,rQ ms,_,rfl,?_⟩;show if inV (V.int (i:Int)) (ms.map V.int)=true then _ else _
  rw[yF];by_cases h:(i:Int)∈ms
  ·rw[decide_eq_true h,if_pos rfl]
   exact k _ _ _ ⟨_,_,rfl⟩ (aL.refl _) (by rw[if_pos h])
  ·rw[decide_eq_false h,if_neg ak]
   exact k _ _ _ ⟨_,_,rfl⟩ (aL.refl _) (by rw[if_neg h])
 ·intro vs H2 l hvl hF s2 hl2
  rw[ai]at hvl;have e:vs=(trn zs ms).map V.int:=by
   unfold trn;apply fY;intro i;rw[aq,aq];by_cases hi:i<vs.length
   ·rw[aa hi,bP (by omega),hF i _ (aa hi)]
    rfl
   ·rw[bL (by omega),bL (by rw[aO];omega)]
    rfl
  rw[e];exact⟨l,_,rfl,.inl ⟨SqL.of ao,fun p hp=>q _ p (s2.trans ((ax hl2).trans (ax hp))) ((s2.trans (ax hl2)).free hp) ao⟩⟩
theorem Ar{J:It}{it:Nat->V->Hp->Prop}{Hc:Hp->Prop}{g:TG}{tb:TS}{D:Ends}(S:sY J n it Hc)(Pv:Nat->L2.St->Hp->Prop)(h0:Pv 0 σ H)(hl:∀i σ H,i<=n->Pv i σ H->Hc H)
  (hs:∀i x σ H H' (D2:Ends),i<n->Pv i σ H->it i x H'->aL H H'->(∀σ2 H2,Pv (i+1) σ2 H2->D2.nx σ2 H2)->(∀σ2 H2,Pv (i+1) σ2 H2->D2.ct σ2 H2)->g x σ H' fun σ2 H2=>tb D2 σ2 H2)(hd:∀σ H,Pv n σ H->D.nx σ H):ForB J g tb D σ H:=
 DD S Pv h0 hl (fun i x σ H H' a b c d=>hs i x σ H H' _ a b c d (fun _ _ h=>h) (fun _ _ h=>h)) hd
theorem zE:sY (Itr 0 n) (nats n).length (fun i x _=>(nats n)[i]? =some x) (fun _=>True) where
 go:=fun i H h hi=>dv.go i H h (by simpa[nats]using hi)
 stop:=fun i H h hi=>dv.stop i H h (by simpa[nats]using hi)
 yld:=fun i H x H' h hi y=>by
  have hi':i<n:=by simpa[nats]using hi
  obtain⟨e,s⟩:=dv.yld i H x H' h hi' y;refine⟨?_,s⟩;subst e;unfold nats;rw[aq,bP hi',eY];rfl
theorem EU{t:V->Bool}{P:Nat->Bool}(h:∀p,p<n->t (.int p)=P p):((nats n).filter t).map id=(plc n P).map V.int:=by
 unfold nats plc;rw[dy,jK,bq];rw[show(aw n).filter (t∘fun i:Nat=>V.int (i:Int))=(aw n).filter P from lP fun p hp=>h p (aK.mp hp)];rfl
theorem Paired.snoc{α β:Type}{F:α->β->Prop}{a:α}{b:β}(h:F a b){l:List α}{m:List β}(p:Paired F l m):Paired F (l++[a]) (m++[b]):=by
 induction p with
 |nil=>exact .cons h .nil
 |cons x r ih=>exact .cons x ih
def Tk(H H':Hp):Prop:=∀a xs,H a=some (.tup xs)->H' a=some (.tup xs)
theorem Tk.of(s:aL H H'):Tk H H':=fun a _ e=>s a _ e
theorem rE(h:H a=some (.lst xs)):Tk H (upd H a (.lst ys)):=fun b _ e=>by
 rw[bo (fun z=>by rw[z,h]at e;cases e)];exact e
theorem dS(t:Tk H H')(h:_root_.Q.IntKeys H ys ps):_root_.Q.IntKeys H' ys ps:=Paired.mM h fun v k z=>by
 obtain⟨a,e,f⟩:=z;exact⟨a,e,t _ _ f⟩
def BrOf(f:Nat->Int)(n:Nat)(g:Nat->Nat)(H:Hp)(v:V)(q:Int):Prop:=∃a x y z,v=V.ref a/\H a=some (.tup [.ref x,.ref y,.ref z])/\H x=some (.tup ((lo (nA f n g q) (nB f n g q)).map V.int))/\H y=some (.tup ((hi (nA f n g q) (nB f n g q)).map V.int))/\H z=some (.tup ((plc n (own g q.toNat)).map V.int))
def lL(f:Nat->Int)(n:Nat)(g:Nat->Nat)(H:Hp)(bs:List V)(qs:List Int):Prop:=Paired (BrOf f n g H) bs qs
theorem lL.tk{f:Nat->Int}{g:Nat->Nat}(t:Tk H H'){bs:List V}(h:lL f n g H bs qs):lL f n g H' bs qs:=Paired.mM h fun v k w=>by
 obtain⟨a,x,y,z,e,e1,e2,e3,e4⟩:=w;exact⟨a,x,y,z,e,t _ _ e1,t _ _ e2,t _ _ e3,t _ _ e4⟩
theorem lL.two{f:Nat->Int}{g:Nat->Nat}{bs:List V}(h:lL f n g H bs qs):_root_.Q.iX H bs (brK f n g qs):=by
 unfold lL at h
 induction h with
 |nil=>exact .nil
 |cons x r ih=>
  obtain⟨a,x,y,z,e,e1,e2,e3,_⟩:=x;exact .cons ⟨a,x,y,_,e,e1,e2,e3⟩ ih
theorem eO{α β:Type}{F:α->β->Prop}{l:List α}{m:List β}(h:Paired F l m):m.length=l.length:=by
 induction h with
 |nil=>rfl
 |cons _ _ ih=>simp[ih]
noncomputable def gsI(rows:List (List Int))(n:Nat):List Int:=(aw n).map fun p:Nat=>(grp rows p:Int)
theorem yH:(gsI rows n).length=n:=by simp[gsI]
theorem Ik(h:p<n):(gsI rows n).getD p 0=(grp rows p:Int):=by
 unfold gsI;rw[ae,aq,bP h];rfl
noncomputable def dn(qs:List Int)(k:Nat):List Int:=(qs.take k).filter fun q=> !decide (q=0)
theorem dn_zero(h:qs[k]? =some 0):dn qs (k+1)=dn qs k:=by
 unfold dn;rw[cB,h,kE];simp
theorem DL{q:Int}(h:qs[k]? =some q)(qne:q≠0):dn qs (k+1)=dn qs k++[q]:=by
 unfold dn;rw[cB,h,kE];simp[qne]
theorem IE{g:Nat->Nat}(h:Grs n g qs):Grs n g (dn qs k):=by
 have s:(dn qs k).Sublist qs:=jU.trans (tX k qs);exact⟨h.1.sublist s,fun q hq=>h.2 q (s.subset hq)⟩
theorem ID{g:Nat->Nat}(h:Grs n g qs):(dn qs k).length<=n:=tQ (IE h)
structure Fx(H:Hp)(gl nd br so:Addr):Prop where
 fnd:H nd=none
 fbr:H br=none
 n1:nd≠br
 n2:nd≠gl
 n3:nd≠so
 n4:br≠gl
 n5:br≠so
structure Gx(rows:List (List Int))(n:Nat)(qs:List Int)(H:Hp)(gl nd br so:Addr)(ds:List Int)(ks bs:List V)(H':Hp):Prop where
 s:aL H H'
 eg:H' gl=some (.lst ((gsI rows n).map V.int))
 eo:H' so=some (.lst (qs.map V.int))
 en:H' nd=some (.lst ks)
 eb:H' br=some (.lst bs)
 nk:_root_.Q.IntKeys H' ks (fh (fr rows) n (grp rows) ds)
 bk:lL (fr rows) n (grp rows) H' bs ds
section
variable {rows:List (List Int)}{n:Nat}{qs:List Int}{H:Hp}{gl nd br so c r0:Addr}{ds:List Int}{ks bs:List V}{H':Hp}{G:Gam}{K:ah}{E:XS}{D:Ends}
theorem Gx.same(g:Gx rows n qs H gl nd br so ds ks bs H')(s:aL H' H2):Gx rows n qs H gl nd br so ds ks bs H2:=
 ⟨g.s.trans s,s _ _ g.eg,s _ _ g.eo,s _ _ g.en,s _ _ g.eb,dS (Tk.of s) g.nk,g.bk.tk (Tk.of s)⟩
theorem Gx.ksl(g:Gx rows n qs H gl nd br so ds ks bs H'):ks.length=ds.length+1:=by
 have :=eO g.nk
 simpa[fh]using this.symm
theorem Gx.bsl(g:Gx rows n qs H gl nd br so ds ks bs H'):bs.length=ds.length:=(eO g.bk).symm
def Gv(rows:List (List Int))(n:Nat)(qs:List Int)(H:Hp)(c r0 gl nd br so:Addr)(k:Nat)(σ:L2.St)(H':Hp):Prop:=
 (∃ks bs,Gx rows n qs H gl nd br so (dn qs k) ks bs H')/\∃u v w x y,σ=[some (.ref c),some (.ref r0),some (.ref gl),some (.ref nd),some (.ref br),u,v,w,x,y]
theorem BK{f:Nat->Int}{g:Nat->Nat}{q:Int}:fh f n g (ds++[q])=fh f n g ds++[nB f n g q]:=by simp[fh]
theorem pick{p:Prop}[Decidable p]{x y:Addr}{A B:List Int}(hx:H x=some (.tup (A.map V.int)))(hy:H y=some (.tup (B.map V.int))):∃z,(if p then V.ref y else V.ref x)=V.ref z/\H z=some (.tup ((if p then B else A).map V.int)):=by
 split
 ·exact⟨y,rfl,hy⟩
 ·exact⟨x,rfl,hx⟩
theorem xE(F:Fx H gl nd br so)(hn:n<=60)(hq:Grs n (grp rows) qs){q:Int}(hk:qs[k]? =some q)(h0:q≠0)(hD:∀σ2 H2,Gv rows n qs H c r0 gl nd br so (k+1) σ2 H2->D.nx σ2 H2)
  (s:aL H H')(eg:H' gl=some (.lst ((gsI rows n).map V.int)))(eo:H' so=some (.lst (qs.map V.int)))(en:H' nd=some (.lst ks))(er:H' br=some (.lst bs))(nk:_root_.Q.IntKeys H' ks (fh (fr rows) n (grp rows) (dn qs (k+1))))(bk:lL (fr rows) n (grp rows) H' bs (dn qs k))
  (ep:H' pl=some (.lst ((plc n (own (grp rows) q.toNat)).map V.int)))(eb:H' be=some (.tup ((nB (fr rows) n (grp rows) q).map V.int)))(ea:H' ab=some (.tup ((nA (fr rows) n (grp rows) q).map V.int))):
  wpB G K E nh D [some (.ref c),some (.ref r0),some (.ref gl),some (.ref nd),some (.ref br),some (.int q),some (.ref pl),some (.ref ar),some (.ref be),some (.ref ab)] H':=by
 have hdn:(dn qs k).length<=n:=ID hq;have hbl:=eO bk;unfold nh;walk_at "wp";have hlen:(nA (fr rows) n (grp rows) q).length=(nB (fr rows) n (grp rows) q).length:=(gO _ _ _).trans (gO _ _ _).symm;obtain⟨x,ex,hx⟩:=pick (p:=_root_.Q.llt (nB (fr rows) n (grp rows) q) (nA (fr rows) n (grp rows) q)=true) ea eb;obtain⟨y,ey,hy⟩:=pick (p:=_root_.Q.llt (nA (fr rows) n (grp rows) q) (nB (fr rows) n (grp rows) q)=true) ea eb;refine⟨.inl ⟨rfl,_,SqL.of er⟩,ab,be,_,_,rfl,SqT.of ea,SqT.of eb,hlen,ab,be,_,_,rfl,SqT.of ea,SqT.of eb,hlen,?_⟩;rw[ex,ey];refine⟨pl,_,rfl,.inl ⟨SqL.of ep,fun z hz=>⟨short (by simp),fun a ha=>?_⟩⟩⟩;have s1:aL H' (upd (upd H' z (.tup ((plc n (own (grp rows) q.toNat)).map V.int))) a (.tup [.ref x,.ref y,.ref z])):=(ax hz).trans (ax ha);have e1:upd (upd H' z (.tup ((plc n (own (grp rows) q.toNat)).map V.int))) a (.tup [.ref x,.ref y,.ref z]) a=some (.tup [.ref x,.ref y,.ref z]):=ao;have e2:upd (upd H' z (.tup ((plc n (own (grp rows) q.toNat)).map V.int))) a (.tup [.ref x,.ref y,.ref z]) z=some (.tup ((plc n (own (grp rows) q.toNat)).map V.int)):=ax ha _ _ ao;generalize upd (upd H' z (.tup ((plc n (own (grp rows) q.toNat)).map V.int))) a (.tup [.ref x,.ref y,.ref z])=H1 at s1 e1 e2⊢;have er1:=s1 _ _ er;refine⟨br,bs,_,rfl,rfl,er1,uW (by omega),hD _ _ ⟨⟨ks,bs++[.ref a],?_⟩,_,_,_,_,_,rfl⟩⟩;have t1:Tk H1 (upd H1 br (.lst (bs++[V.ref a]))):=rE er1;have t2:Tk H' (upd H1 br (.lst (bs++[V.ref a]))):=fun b xs e=>t1 b xs (s1 _ _ e);refine⟨dG (s.trans s1) F.fbr,?_,?_,?_,ao,dS t2 nk,?_⟩
 ·rw[bo (bQ F.n4)];exact s1 _ _ eg
 ·rw[bo (bQ F.n5)];exact s1 _ _ eo
 ·rw[bo F.n1];exact s1 _ _ en
 ·rw[DL hk h0]
  exact Paired.snoc ⟨a,x,y,z,rfl,t1 _ _ e1,t2 _ _ hx,t2 _ _ hy,t1 _ _ e2⟩ (bk.tk t2)
theorem xF(F:Fx H gl nd br so)(hn:n<=60)(hq:Grs n (grp rows) qs){q:Int}(hk:qs[k]? =some q)(h0:q≠0)(hD:∀σ2 H2,Gv rows n qs H c r0 gl nd br so (k+1) σ2 H2->D.nx σ2 H2)
  (g:Gx rows n qs H gl nd br so (dn qs k) ks bs H')(np:pl≠nd)(ep:H' pl=some (.lst ((plc n (own (grp rows) q.toNat)).map V.int)))(eb:H' be=some (.tup ((nB (fr rows) n (grp rows) q).map V.int)))(ea:H' ab=some (.tup ((nA (fr rows) n (grp rows) q).map V.int))):
  wpB G K E ni D [some (.ref c),some (.ref r0),some (.ref gl),some (.ref nd),some (.ref br),some (.int q),some (.ref pl),some (.ref ar),some (.ref be),some (.ref ab)] H':=by
 have hdn:(dn qs k).length<=n:=ID hq;have hkl:=g.ksl;unfold ni;walk_at "wp";refine⟨.inl ⟨rfl,_,SqL.of g.en⟩,nd,ks,_,rfl,rfl,g.en,uW (by omega),?_⟩;have t1:Tk H' (upd H' nd (.lst (ks++[V.ref be]))):=rE g.en;refine xE F hn hq hk h0 hD (dG g.s F.fnd) ?_ ?_ ao ?_ ?_ (g.bk.tk t1) ?_ (t1 _ _ eb) (t1 _ _ ea)
 ·rw[bo (bQ F.n2)];exact g.eg
 ·rw[bo (bQ F.n3)];exact g.eo
 ·rw[bo (bQ F.n1)];exact g.eb
 ·rw[DL hk h0,BK]
  exact Paired.snoc ⟨be,rfl,t1 _ _ eb⟩ (dS t1 g.nk)
 ·rw[bo np];exact ep
theorem sD{P:Nat->Bool}{q:Int}{Q:VK}{tc:TT}(eg:H1 gl=some (.lst ((gsI rows n).map V.int)))(hn:n<=60)
  (step:∀(p:Nat)(u:Option V)(H3:Hp)(R:Bool->Hp->Prop),p<n->aL H1 H3->R (P p) H3->tc [some (.int p),some (.int q),some (.ref gl)] H3 R)
  (fin:∀H2 l,aL H1 H2->H2 l=none->Q (.ref l) (upd H2 l (.lst ((plc n P).map V.int)))):
  AU (Itr 0 n) (lS 0) tc (pT 0) [none,some (.int q),some (.ref gl)] H1 Q:=by
 refine nS (xs:=nats n) zE (dA (by unfold nats;simp;omega)) (fun _ _=>trivial) (fun v=>match v with |.int i=>P i.toNat|_=>false) id (fun τ=>∃u,τ=[u,some (.int q),some (.ref gl)]) ⟨none,rfl⟩ ?_ ?_
 ·rintro x τ H3 Rt Rf hx ⟨u,rfl⟩ s3 kt kf
  unfold nats at hx;obtain⟨p,hp,rfl⟩:=ay.mp hx;have hp:=aK.mp hp;refine step p u H3 _ hp s3 ?_;have e:P ((p:Int)).toNat=P p:=by rw[aH]
  cases h:P p with
  |true=>
   rw[if_pos rfl];exact⟨_,rfl,kt _ _ ⟨_,rfl⟩ (aL.refl _) (e.trans h)⟩
  |false=>
   rw[if_neg ak];exact kf _ _ ⟨_,rfl⟩ (aL.refl _) (e.trans h)
 ·intro H2 l s2 hl
  rw[EU (P:=P) fun p hp=>by show P ((p:Int)).toNat=P p;rw[aH]];exact fin H2 l s2 hl
theorem xG(g2:G.fn "turned" 2=some (mD K,[]))(F:Fx H gl nd br so)(hn:n<=60)(hl:(rows.getD 0 []).length=n)(hr:H r0=some (.tup ((rows.getD 0 []).map V.int)))(hq:Grs n (grp rows) qs){q:Int}(hk:qs[k]? =some q)(h0:q≠0)(hD:∀σ2 H2,Gv rows n qs H c r0 gl nd br so (k+1) σ2 H2->D.nx σ2 H2){x y:Option V}
  (g:Gx rows n qs H gl nd br so (dn qs k) ks bs H')(np:pl≠nd)(ep:H' pl=some (.lst ((plc n (own (grp rows) q.toNat)).map V.int)))(er:H' ar=some (.lst ((plc n (M4.sub (grp rows) q.toNat)).map V.int))):
  wpB G K E nj D [some (.ref c),some (.ref r0),some (.ref gl),some (.ref nd),some (.ref br),some (.int q),some (.ref pl),some (.ref ar),x,y] H':=by
 unfold nj;walk_at "wp";refine⟨_,_,g2,r0,ar,_,_,rfl,SqT.of (g.s _ _ hr),SqL.of er,by omega,fun H1 be s1 _ eb=>?_⟩;have e1:trn (rows.getD 0 []) (plc n (M4.sub (grp rows) q.toNat))=nB (fr rows) n (grp rows) q:=by
  rw[<-hl];exact Ei
 rw[e1]at eb;unfold sO;walk_at "wp";refine⟨_,_,g2,be,pl,_,_,rfl,SqT.of eb,SqL.of (s1 _ _ ep),by unfold nB;rw[gO];exact hn,fun H2 ab s2 _ ea=>?_⟩;have e2:trn (nB (fr rows) n (grp rows) q) (plc n (own (grp rows) q.toNat))=nA (fr rows) n (grp rows) q:=by
  unfold nB nA;rw[trn_bl fun p=>own_sub,Jd]
 rw[e2]at ea;exact xF F hn hq hk h0 hD (g.same (s1.trans s2)) np (s2 _ _ (s1 _ _ ep)) (s2 _ _ eb) ea
theorem xH(g2:G.fn "turned" 2=some (mD K,[]))(F:Fx H gl nd br so)(hn:n<=60)(hl:(rows.getD 0 []).length=n)(hr:H r0=some (.tup ((rows.getD 0 []).map V.int)))(hq:Grs n (grp rows) qs){q:Int}(hk:qs[k]? =some q)(h0:q≠0)(hD:∀σ2 H2,Gv rows n qs H c r0 gl nd br so (k+1) σ2 H2->D.nx σ2 H2){v w x y:Option V}
  (g:Gx rows n qs H gl nd br so (dn qs k) ks bs H'):
  wpB G K E nq D [some (.ref c),some (.ref r0),some (.ref gl),some (.ref nd),some (.ref br),some (.int q),v,w,x,y] H':=by
 obtain⟨p0,hp0,eq0⟩:=hq.2 q (aD hk);have hqt:q=(q.toNat:Int):=by rw[eq0,aH]
 have lenr:((rows.getD 0 []).map V.int).length=n:=by rw[ai];exact hl
 unfold nq;walk_at "wp";refine cS ?_;walk_at "wp";refine Or.inl ⟨r0,_,rfl,.inr (SqT.of (g.s _ _ hr)),_,rfl,by omega,by omega,?_⟩;rw[lenr,aH];refine sD (rows:=rows) (P:=own (grp rows) q.toNat) g.eg hn ?_ ?_
 ·intro p u H3 R hp s3 hR
  walk_at "wp"
  refine .inl ⟨gl,_,p,_,rfl,rfl,SqL.of (s3 _ _ g.eg),cG (gE (by rw[yH];exact hp)),?_⟩;rw[Ik hp];refine kO.mpr ?_;refine⟨_,rfl,?_⟩;have e:decide ((grp rows p:Int)=q)=own (grp rows) q.toNat p:=by
   unfold M5.own;rw[hqt,aH];exact decide_eq_decide.mpr (by omega)
  rw[e];exact hR
 intro H1 pl s1 hpl;have s2:aL H' (upd H1 pl (.lst ((plc n (own (grp rows) q.toNat)).map V.int))):=s1.trans (ax hpl);have ep:upd H1 pl (.lst ((plc n (own (grp rows) q.toNat)).map V.int)) pl=some (.lst ((plc n (own (grp rows) q.toNat)).map V.int)):=ao;have np:pl≠nd:=fun z=>by rw[z,s1 _ _ g.en]at hpl;cases hpl
 have g:=g.same s2;generalize upd H1 pl (.lst ((plc n (own (grp rows) q.toNat)).map V.int))=H2 at ep g⊢;unfold sP;walk_at "wp";refine cS ?_;walk_at "wp";refine Or.inl ⟨r0,_,rfl,.inr (SqT.of (g.s _ _ hr)),_,rfl,by omega,by omega,?_⟩;rw[lenr,aH];refine sD (rows:=rows) (P:=M4.sub (grp rows) q.toNat) g.eg hn ?_ ?_
 ·intro p u H3 R hp s3 hR
  walk_at "wp"
  refine .inl ⟨gl,_,p,_,rfl,rfl,SqL.of (s3 _ _ g.eg),cG (gE (by rw[yH];exact hp)),?_⟩;rw[Ik hp];refine and_ii.mpr (kO.mpr ⟨_,rfl,?_⟩);have e:decide (iD (grp rows p:Int) q=q)=M4.sub (grp rows) q.toNat p:=by
   unfold M4.sub;rw[hqt,and_nat,aH];exact decide_eq_decide.mpr (by omega)
  rw[e];exact hR
 intro H3 ar s3 har;exact xG g2 F hn hl hr hq hk h0 hD (g.same (s3.trans (ax har))) np ((s3.trans (ax har)) _ _ ep) ao
end
def r6(rows:List (List Int))(n:Nat)(H:Hp)(H':Hp)(p:Addr):Prop:=∃(nl bl:Addr)(ks bs:List V)(qs:List Int),H' p=some (.tup [.ref nl,.ref bl])/\H nl=none/\H bl=none/\nl≠bl/\Grs n (grp rows) qs/\0∉qs/\(∀p,p<n->grp rows p≠0->(grp rows p:Int)∈qs)/\
 _root_.Q.IntKeys H' ks (fh (fr rows) n (grp rows) qs)/\lL (fr rows) n (grp rows) H' bs qs/\H' nl=some (.lst (_root_.Q.cg .non (fh (fr rows) n (grp rows) qs) ks))/\H' bl=some (.lst (_root_.Q.cg .non ((brK (fr rows) n (grp rows) qs).map _root_.Q.jM) bs))
noncomputable def uo:Sp:=fun vs H Q _=>∃(c:Addr)(ys:List V)(n:Nat)(rows:List (List Int)),vs=[.ref c]/\Cps H c ys n rows/\ys≠[]/\∀H' p,aL H H'->H p=none->r6 rows n H H' p->Q (.ref p) H'
theorem Ef(g1:G.fn "group_at" 2=some (xS,[]))(g2:G.fn "turned" 2=some (mD K,[])):Sat G K uo DT Dj:=by
 rintro vs H Q E ⟨c,ys,n,rows,rfl,d,hy,q⟩;unfold DT;change wpB G K _ _ _ [some (.ref c),none,none,none,none,none,none,none,none,none] H;walk_at "wp";have h0:0<ys.length:=gU.mpr hy;obtain⟨b,z,r0,e1,e2,e3⟩:=d.at_ 0 ys[0] (aa h0);obtain⟨hl,hf⟩:=d.row h0;have hf:∀p,p<n->fr rows p=0\/fr rows p=1:=hf;have hn:=d.n60;have lenr:((rows.getD 0 []).map V.int).length=n:=by rw[ai];exact hl
 have g0:ys[0]? =some (.ref b):=by rw[aa h0,e1]
 refine .inl ⟨c,ys,0,_,rfl,rfl,SqL.of d.ec,cG (j:=0) g0,?_⟩;refine .inr (.inl ⟨b,_,1,_,rfl,rfl,SqT.of e2,rfl,?_⟩);unfold xp;walk_at "wp";refine cS ?_;walk_at "wp";refine Or.inl ⟨r0,_,rfl,.inr (SqT.of e3),_,rfl,by omega,by omega,?_⟩;rw[lenr,aH];refine dH dv (dA (by omega)) (fun _ _=>trivial) (fun i v _=>v=.int (grp rows i)) (fun _ _ _ _ _ h=>h) (fun τ=>∃u,τ=[u,some (.ref c)]) ⟨none,rfl⟩ ?_ ?_
 ·rintro i x τ H3 R hi ⟨u,rfl⟩ s3 rfl k
  walk_at "wp"
  simp only[eY];exact⟨_,_,g1,c,i,ys,n,rows,rfl,d.same s3,hy,by omega,fun H4 s4=>k _ _ _ ⟨_,rfl⟩ s4 rfl⟩
 intro vs H1 gl hvl hF s1 hgl;have ev:vs=(gsI rows n).map V.int:=by
  unfold gsI;apply fY;intro i;rw[aq,aq];by_cases hi:i<vs.length
  ·rw[aa hi,bP (by omega),hF i _ (aa hi)]
   rfl
  ·rw[bL (by omega),bL (by rw[aO];omega)]
   rfl
 rw[ev];have s2:aL H (upd H1 gl (.lst ((gsI rows n).map V.int))):=s1.trans (ax hgl);have eg:upd H1 gl (.lst ((gsI rows n).map V.int)) gl=some (.lst ((gsI rows n).map V.int)):=ao;generalize upd H1 gl (.lst ((gsI rows n).map V.int))=H2 at s2 eg⊢;unfold xo;walk_at "wp";refine⟨short (by simp),fun nd hnd=>?_⟩;have s3:aL H2 (upd H2 nd (.lst [.ref r0])):=ax hnd;have en:upd H2 nd (.lst [.ref r0]) nd=some (.lst [.ref r0]):=ao;have n2:nd≠gl:=fun z=>by rw[z,eg]at hnd;cases hnd
 have fnd:H nd=none:=s2.free hnd;generalize upd H2 nd (.lst [.ref r0])=H3 at s3 en⊢;unfold xn;walk_at "wp";refine⟨short (by simp),fun br hbr=>?_⟩;have s4:aL H3 (upd H3 br (.lst [])):=ax hbr;have eb:upd H3 br (.lst []) br=some (.lst []):=ao;have n1:nd≠br:=fun z=>by rw[<-z,en]at hbr;cases hbr
 have n4:br≠gl:=fun z=>by rw[z,s3 _ _ eg]at hbr;cases hbr
 have fbr:H br=none:=(s2.trans s3).free hbr;have en:=s4 _ _ en;have eg:=s4 _ _ (s3 _ _ eg);have s5:=s2.trans (s3.trans s4);generalize upd H3 br (.lst [])=H4 at s5 eb en eg⊢;unfold xm;walk_at "wp";refine fQ ?_;walk_at "wp";refine⟨_,rfl,gl,gsI rows n,rfl,SqL.of eg,by rw[yH];omega,fun ms so nd' mem hso=>?_⟩;obtain⟨qs,eq,pm⟩:=_root_.Q.Er nd';have hq:Grs n (grp rows) qs:=⟨pm.nodup_iff.mpr nd',fun q hq=>by
  have h:=(mem q).mp (pm.mem_iff.mp hq);unfold gsI at h;obtain⟨p,hp,e⟩:=ay.mp h;exact⟨p,aK.mp hp,e.symm⟩⟩
 rw[eq];have s6:aL H4 (upd H4 so (.lst (qs.map V.int))):=ax hso;have eo:upd H4 so (.lst (qs.map V.int)) so=some (.lst (qs.map V.int)):=ao;have n3:nd≠so:=fun z=>by rw[<-z,en]at hso;cases hso
 have n5:br≠so:=fun z=>by rw[<-z,eb]at hso;cases hso
 have F:Fx H gl nd br so:=⟨fnd,fbr,n1,n2,n3,n4,n5⟩;generalize upd H4 so (.lst (qs.map V.int))=H5 at s6 eo⊢;have gx:Gx rows n qs H gl nd br so (dn qs 0) [.ref r0] [] H5:=by
  refine⟨s5.trans s6,s6 _ _ eg,eo,s6 _ _ en,s6 _ _ eb,?_,.nil⟩;refine .cons ⟨r0,rfl,?_⟩ .nil;have ef:bl (fr rows) n (fun _=>false)=rows.getD 0 []:=by rw[<-hl];exact Iu _
  rw[ef];exact(s5.trans s6) _ _ e3
 refine⟨so,rfl,⟨_,SqL.of eo⟩,Ar (cX (xs:=qs.map V.int)) (Gv rows n qs H c r0 gl nd br so) ⟨⟨_,_,gx⟩,_,_,_,_,_,rfl⟩ (fun k σ H' _ g=>?_) ?_ ?_⟩
 ·obtain⟨⟨ks,bs,g⟩,_⟩:=g
  exact SqL.of g.eo
 ·rintro k x σ H6 H7 D2 hk ⟨⟨ks,bs,g⟩,u,v,w,x',y,rfl⟩ hx s7 hD hC
  have g:=g.same s7;rw[ai]at hk;have hk':qs[k]? =some qs[k]:=aa hk;rw[aq,hk']at hx;cases hx;generalize qs[k]=q at hk';walk_at "wp";by_cases h0:q=0
  ·rw[decide_eq_true h0,if_pos rfl]
   refine hC _ _ ⟨⟨ks,bs,?_⟩,_,_,_,_,_,rfl⟩;rw[dn_zero (by rw[hk',h0])];exact g
  ·rw[decide_eq_false h0,if_neg ak]
   exact xH g2 F hn hl e3 hq hk' h0 hD g
 ·rintro σ H6 ⟨⟨ks,bs,g⟩,u,v,w,x',y,rfl⟩
  rw[ai]at g;have gq:Grs n (grp rows) (dn qs qs.length):=IE hq;have edn:dn qs qs.length=qs.filter fun q=> !decide (q=0):=by unfold dn;rw[c7]
  have z0:(0:Int)∉dn qs qs.length:=fun z=>by
   rw[edn]at z;simpa using(bR.mp z).2
  have all:∀p,p<n->grp rows p≠0->(grp rows p:Int)∈dn qs qs.length:=fun p hp h=>by
   rw[edn];refine bR.mpr ⟨pm.mem_iff.mpr ((mem _).mpr ?_),?_⟩
   ·unfold gsI
    exact ay.mpr ⟨p,aK.mpr hp,rfl⟩
   ·have :¬((grp rows p:Int)=0):=by omega
    rw[decide_eq_false this];rfl
  generalize dn qs qs.length=ds at g gq z0 all;have hds:ds.length<=n:=tQ gq;have hkl:=g.ksl;have hbl:=g.bsl;have nkl:=eO g.nk;have bkl:=eO g.bk.two;unfold xl;walk_at "wp";refine⟨nd,ks,_,n,rfl,SqL.of g.en,by omega,uO hf gq,ET,g.nk,fun nl hnl=>?_⟩;have t1:aL H6 (upd H6 nl (.lst (_root_.Q.cg .non (fh (fr rows) n (grp rows) ds) ks))):=ax hnl;have enl:upd H6 nl (.lst (_root_.Q.cg .non (fh (fr rows) n (grp rows) ds) ks)) nl=some (.lst (_root_.Q.cg .non (fh (fr rows) n (grp rows) ds) ks)):=ao;have g':=g.same t1;generalize upd H6 nl (.lst (_root_.Q.cg .non (fh (fr rows) n (grp rows) ds) ks))=H7 at t1 enl g'⊢;refine⟨br,bs,_,n,rfl,SqL.of g'.eb,by omega,Cf hf gq,brK_len,g'.bk.two,fun bl hbl2=>⟨short (by simp),fun p hp=>?_⟩⟩;have t2:=ax (o:=.lst (_root_.Q.cg .non ((brK (fr rows) n (grp rows) ds).map _root_.Q.jM) bs)) hbl2;have t3:=ax (o:=.tup [.ref nl,.ref bl]) hp;have g2:=g'.same (t2.trans t3);refine q _ p g2.s (((g'.s).trans t2).free hp) ⟨nl,bl,ks,bs,ds,ao,g.s.free hnl,g'.s.free hbl2,fun z=>by(rw[<-z,enl]at hbl2;cases hbl2),gq,z0,all,g2.nk,g2.bk,(t2.trans t3) _ _ enl,t3 _ _ ao⟩
end K32
namespace Bt
open PySem R
noncomputable def zP:List Str:=["_law_cell","_law_k"]
noncomputable def sk:List Str:=["_law_cell","_law_k"]
noncomputable def sI:CB:=
  (.cons (.ret (.bin .Mod (.bin .Mult (.bin .Add (.bin .Mod (.bin .FloorDiv (.var 0) (.con (.int 7))) (.bin .Pow (.con (.int 10)) (.con (.int 30)))) (.con (.int 1))) (.bin .Add (.con (.int 48271)) (.bin .Mult (.bin .Mult (.con (.int 7919)) (.var 1)) (.var 1)))) (.con (.int 2147483629))))
  .nil)
noncomputable def yg:List Str:=["_law_many","_law_seed","_law_left","_law_free"]
noncomputable def qh:List Str:=["_law_many","_law_seed","_law_left","_law_free","_law_some","_law_edge","_law_rows","_law_place","_law_rank","_law_owners_here","_law_at"]
noncomputable def jD:CB:=
  (.cons (.ret (.tup (.cons (.var 9) (.cons (.var 2) .nil))))
  .nil)
noncomputable def iG:CB:=
  (.cons (.expr (.meth1 .append (.var 9) (.meth1 .pop (.var 4) (.var 10))))
  .nil)
noncomputable def jE:CB:=
  (.cons (.asg (.name 2) (.bin .FloorDiv (.var 2) (.bfn .len (.cons (.var 4) .nil))))
  .nil)
noncomputable def kX:CB:=
  (.cons (.iff (.cmp .GtE (.var 2) (.bfn .len (.cons (.var 4) .nil)))
  (.cons (.asg (.name 10) (.bin .Mod (.var 2) (.bfn .len (.cons (.var 4) .nil))))
  jE)
  .nil)
  iG)
noncomputable def kY:CB:=
  (.cons (.asg (.name 10) (.bin .Mod (.bin .FloorDiv (.var 1) (.con (.int 16))) (.bfn .len (.cons (.var 4) .nil))))
  kX)
noncomputable def mV:CB:=
  (.cons (.whl (.cmp .NotEq (.var 4) (.lst .nil))
  (.cons (.asg (.name 1) (.bin .Mod (.bin .Add (.bin .Mult (.var 1) (.con (.int 48271))) (.con (.int 11))) (.con (.int 2147483647))))
  kY))
  jD)
noncomputable def jF:CB:=
  (.cons (.asg (.name 9) (.lst .nil))
  mV)
noncomputable def mW:CB:=
  (.cons (.iff (.not (.var 3))
  (.cons (.ret (.tup (.cons (.comp ["_law_row"] [] (.name 0) (.lseq (.bfn .sortl (.cons (.var 6) .nil))) .no (.idx (.var 0) (.con (.int 2)))) (.cons (.var 2) .nil))))
  .nil)
  .nil)
  jF)
noncomputable def kZ:CB:=
  (.cons (.expr (.meth1 .append (.var 6) (.tup (.cons (.var 8) (.cons (.var 7) (.cons (.idx (.var 4) (.var 7)) .nil))))))
  .nil)
noncomputable def mX:CB:=
  (.cons (.forr (.name 7) (.range1 (.bfn .len (.cons (.var 4) .nil)))
  (.cons (.asg (.name 8) (.bin .Mod (.bin .Mult (.bin .Add (.var 1) (.con (.int 1))) (.bin .Add (.bin .Add (.bin .Mult (.bin .Mult (.con (.int 31)) (.var 7)) (.var 7)) (.bin .Mult (.con (.int 17)) (.var 7))) (.con (.int 7)))) (.con (.int 10007))))
  kZ))
  mW)
noncomputable def mY:CB:=
  (.cons (.asg (.name 6) (.lst .nil))
  mX)
noncomputable def mZ:CB:=
  (.cons (.forr (.name 5) (.range1 (.bfn .len (.cons (.var 0) .nil)))
  (.cons (.asg (.name 4) (.bin .Add (.var 4) (.bin .Mult (.lst (.cons (.var 5) .nil)) (.idx (.var 0) (.var 5)))))
  .nil))
  mY)
noncomputable def qC:CB:=
  (.cons (.asg (.name 4) (.lst .nil))
  mZ)
noncomputable def zQ:List Str:=["_law_script","_law_start"]
noncomputable def sr:List Str:=["_law_script","_law_start","_law_parents","_law_many","_law_cells","_law_room","_law_k","_law_drawn","_law_more"]
noncomputable def oJ:CB:=
  (.cons (.ret (.tup (.cons (.var 2) (.cons (.var 3) .nil))))
  .nil)
noncomputable def lV:CB:=
  (.cons (.expr (.meth1 .append (.var 3) (.bin .Add (.con (.int 1)) (.var 8))))
  .nil)
noncomputable def lW:CB:=
  (.cons (.asg (.name 5) (.bin .Sub (.var 5) (.var 8)))
  lV)
noncomputable def lX:CB:=
  (.cons (.asg (.name 8) (.bfn .min (.cons (.var 5) (.cons (.idx (.lst (.cons (.con (.int 0)) (.cons (.con (.int 0)) (.cons (.con (.int 1)) (.cons (.con (.int 2)) .nil))))) (.bin .Mod (.bin .FloorDiv (.var 7) (.con (.int 31))) (.con (.int 4)))) .nil))))
  lW)
noncomputable def lY:CB:=
  (.cons (.expr (.meth1 .append (.var 2) (.bin .Mod (.var 7) (.bfn .len (.cons (.var 2) .nil)))))
  lX)
noncomputable def oK:CB:=
  (.cons (.forr (.name 6) (.range1 (.bfn .len (.cons (.var 4) .nil)))
  (.cons (.asg (.name 7) (.call "_law_mixed" (.cons (.idx (.var 4) (.var 6)) (.cons (.bin .Add (.var 6) (.var 1)) .nil))))
  lY))
  oJ)
noncomputable def oM:CB:=
  (.cons (.asg (.name 5) (.bin .Sub (.con (.int 54)) (.bfn .len (.cons (.var 4) .nil))))
  oK)
noncomputable def oN:CB:=
  (.cons (.asg (.name 4) (.cut (.var 0) (.yes (.var 1)) (.yes (.bin .Add (.var 1) (.con (.int 30))))))
  oM)
noncomputable def oO:CB:=
  (.cons (.asg (.name 3) (.lst (.cons (.bin .Mod (.bin .FloorDiv (.call "_law_cell_at" (.cons (.var 0) (.cons (.con (.int 0)) .nil))) (.con (.int 7))) (.con (.int 7))) .nil)))
  oN)
noncomputable def sJ:CB:=
  (.cons (.asg (.name 2) (.lst (.cons (.con (.int 0)) .nil)))
  oO)
end Bt
namespace Bt
open PySem PySem.Spec PyProof.Rows L2 R Cp Lt Kc
noncomputable def mx(c k:Int):Int:=(c/7%10^Int.toNat 30+1)*(48271+7919*k*k)%2147483629
theorem mx_nn(c k:Int):0<=mx c k:=cy _ (by decide)
noncomputable def zB:Sp:=fun vs H Q _=>∃c k:Int,vs=[.int c,.int k]/\0<=k/\k<=100/\Q (.int (mx c k)) H
theorem wp_mix:Sat G K zB sI sk:=by
 rintro vs H Q E ⟨c,k,rfl,hk0,hk1,q⟩;unfold sI;change wpB G K _ _ _ [some (.int c),some (.int k)] H;walk_at "wp";have hkk:0<=7919*k*k/\7919*k*k<=79190000:=by
  have h1:0<=k*k:=Int.mul_nonneg hk0 hk0;have h2:k*k<=100*100:=Int.mul_le_mul hk1 hk1 hk0 (by decide);rw[Int.mul_assoc];omega
 exact⟨⟨by decide,by decide⟩,⟨by decide,by decide,by decide⟩,by decide,DM (by decide) (by decide),vo hk0 (by omega),vo (by omega) (by omega),by decide,q⟩
noncomputable def iN(ks:List Nat):List V:=ks.map fun k:Nat=>V.int (k:Int)
theorem oA{ks:List Nat}(h:i<ks.length):(iN ks)[i]? =some (.int (ks.getD i 0:Nat)):=by
 unfold iN;rw[aq,aa h,ae,aa h];rfl
theorem cK{ks:List Nat}:(iN ks).length=ks.length:=by simp[iN]
theorem tP{ks:List Nat}:iN (ks++[k])=iN ks++[V.int (k:Int)]:=by simp[iN]
structure Gp(ps ms:List Nat):Prop where
 len:ms.length=ps.length
 n31:ps.length<=31
 one:1<=ps.length
 par:∀v,1<=v->v<ps.length->ps.getD v 0<v
 m0:∀v,1<=v->v<ms.length->1<=ms.getD v 0
 sum:ms.sum<=60
noncomputable def ur(K:ah):Sp:=fun vs H Q _=>∃(a:Addr)(ns:List Int)(st:Nat),vs=[.ref a,.int st]/\SqL K H a (ns.map V.int)/\ns.length<=63/\st<=10/\
 ∀(H':Hp)(p pa pm:Addr)(ps ms:List Nat),aL H H'->H' p=some (.tup [.ref pa,.ref pm])->H' pa=some (.lst (iN ps))->H' pm=some (.lst (iN ms))->Gp ps ms->Q (.ref p) H'
theorem getD_snoc{ks:List Nat}:(ks++[k]).getD i 0=if i<ks.length then ks.getD i 0 else if i=ks.length then k else 0:=by
 rw[ae,ae];by_cases h:i<ks.length
 ·rw[if_pos h,cF h]
 ·rw[if_neg h,bS (by omega)]
  by_cases h2:i=ks.length
  ·rw[if_pos h2,h2]
   simp
  ·rw[if_neg h2,bL (by simp;omega)]
   rfl
structure Gb(H:Hp)(pa pm:Addr)(k L room:Nat)(ps ms:List Nat)(H':Hp):Prop where
 s:aL H H'
 ea:H' pa=some (.lst (iN ps))
 em:H' pm=some (.lst (iN ms))
 pl:ps.length=k+1
 ml:ms.length=k+1
 par:∀v,1<=v->v<ps.length->ps.getD v 0<v
 m0:∀v,1<=v->v<ms.length->1<=ms.getD v 0
 sum:ms.sum+room+(L-k)<=60
theorem Eg(g0:G.fn "_law_cell_at" 2=some (uv K,[]))(g1:G.fn "_law_mixed" 2=some (zB,[])):
  Sat G K (ur K) sJ sr:=by
 rintro vs H Q E ⟨a,ns,st,rfl,ha,hn,hst,q⟩;unfold sJ;change wpB G K _ _ _ [some (.ref a),some (.int st),none,none,none,none,none,none,none] H;walk_at "wp";refine⟨short (by simp),fun pa hpa=>?_⟩;have s1:aL H (upd H pa (.lst [.int 0])):=ax hpa;have ea:upd H pa (.lst [.int 0]) pa=some (.lst (iN [0])):=ao;generalize upd H pa (.lst [.int 0])=H1 at s1 ea⊢;unfold oO;walk_at "wp";refine⟨_,_,g0,a,ns,0,rfl,s1.seq ha,?_⟩;generalize ns.getD 0 0=c;refine div_ii.mpr ⟨⟨by decide,by decide⟩,hW.mpr ⟨by decide,short (by show 1<=40;decide),fun pm hpm=>?_⟩⟩;obtain⟨m0,hm0⟩:=bY (cy (c/7) (by decide:(7:Int)≠0));have hm6:m0<=6:=by
  have :=bU (c/7) (by decide:(0:Int)<7)
  omega
 rw[hm0];have s2:aL H1 (upd H1 pm (.lst [.int m0])):=ax hpm;have em:upd H1 pm (.lst [.int m0]) pm=some (.lst (iN [m0])):=ao;have nam:pa≠pm:=fun z=>by rw[<-z,ea]at hpm;cases hpm
 have fpm:H pm=none:=s1.free hpm;generalize upd H1 pm (.lst [.int m0])=H2 at s2 em⊢;unfold oN;walk_at "wp";obtain⟨cs,ec⟩:=K21.IS ns (some (st:Int)) (some ((st:Int)+30));refine .inl ⟨a,_,rfl,(s1.trans s2).seq ha,fun l hl=>?_⟩;rw[ec];have hcl:cs.length<=30:=by
  have e:(pE (ns.map V.int) (some (st:Int)) (some ((st:Int)+30))).length=cs.length:=by rw[ec,ai]
  rw[<-e];unfold pE;rw[c9,show(some ((st:Int)+30))=some ((st+30:Nat):Int) by simp,HT.pX,HT.pX];omega
 have s3:aL H2 (upd H2 l (.lst (cs.map V.int))):=ax hl;have el:upd H2 l (.lst (cs.map V.int)) l=some (.lst (cs.map V.int)):=ao;have nal:pa≠l:=fun z=>by rw[<-z,s2 _ _ ea]at hl;cases hl
 have nml:pm≠l:=fun z=>by rw[<-z,em]at hl;cases hl
 have fl:H l=none:=(s1.trans s2).free hl;generalize upd H2 l (.lst (cs.map V.int))=H3 at s3 el⊢;unfold oM;walk_at "wp";refine Or.inl ⟨l,_,rfl,.inl (SqL.of el),?_⟩;rw[ai];walk_at "wp";unfold oK;walk_at "wp";refine fQ ?_;walk_at "wp";refine Or.inl ⟨l,_,rfl,.inl (SqL.of el),_,rfl,by rw[ai];omega,by rw[ai];omega,?_⟩;rw[ai,aH];refine fm dv (fun k σ H'=>∃(room:Nat)(ps ms:List Nat),Gb H pa pm k cs.length room ps ms H'/\H' l=some (.lst (cs.map V.int))/\∃u v w,σ=[some (.ref a),some (.int st),some (.ref pa),some (.ref pm),some (.ref l),some (.int room),u,v,w])
  ⟨54-cs.length,[0],[m0],⟨s1.trans (s2.trans s3),s3 _ _ (s2 _ _ ea),s3 _ _ em,rfl,rfl,fun v h1 h2=>by simp at h2;omega,fun v h1 h2=>by simp at h2;omega,by simp;omega⟩,el,none,none,none,by rw[show((54-cs.length:Nat):Int)=54-(cs.length:Int) by omega]⟩ (fun _ _ _ _ _=>trivial) ?_ ?_
 ·rintro k x σ H4 H5 D2 hk ⟨room,ps,ms,g,el4,u,v,w,rfl⟩ rfl s5 hD _
  have el5:=s5 _ _ el4;have ea5:=s5 _ _ g.ea;have em5:=s5 _ _ g.em;have sH:=g.s.trans s5;walk_at "wp";simp only[eY];have hcv:(cs.map V.int)[k]? =some (.int (cs.getD k 0)):=K32.gE hk;refine⟨_,_,g1,.inl ⟨l,_,k,_,rfl,rfl,SqL.of el5,cG hcv,?_⟩⟩;walk_at "wp";refine⟨_,_,rfl,by omega,by omega,?_⟩;generalize cs.getD k 0=cc;have hd:=mx_nn cc ((k:Int)+(st:Int));generalize mx cc ((k:Int)+(st:Int))=d at hd;have hpl:=g.pl;have hml:=g.ml;unfold lY;walk_at "wp";refine⟨.inl ⟨rfl,_,SqL.of ea5⟩,Or.inl ⟨pa,_,rfl,.inl (SqL.of ea5),?_⟩⟩;rw[cK];refine hW.mpr ⟨by omega,?_⟩;obtain⟨z,hz⟩:=bY (cy d (by omega:(ps.length:Int)≠0));have hzl:z<ps.length:=by
   have :=bU d (by omega:(0:Int)<(ps.length:Int))
   omega
  rw[hz];refine⟨pa,_,_,rfl,rfl,ea5,K32.uW (by rw[cK];omega),?_⟩;rw[<-tP];have ea6:upd H5 pa (.lst (iN (ps++[z]))) pa=some (.lst (iN (ps++[z]))):=ao;have em6:upd H5 pa (.lst (iN (ps++[z]))) pm=some (.lst (iN ms)):=by rw[bo (bQ nam)];exact em5
  have el6:upd H5 pa (.lst (iN (ps++[z]))) l=some (.lst (cs.map V.int)):=by rw[bo (bQ nal)];exact el5
  have s6:aL H (upd H5 pa (.lst (iN (ps++[z])))):=dG sH hpa;generalize upd H5 pa (.lst (iN (ps++[z])))=H6 at ea6 em6 el6 s6⊢;unfold lX;walk_at "wp";refine⟨short (by show 4<=40;decide),fun b hb=>?_⟩;have s7:aL H6 (upd H6 b (.lst [.int 0,.int 0,.int 1,.int 2])):=ax hb;have eb:upd H6 b (.lst [.int 0,.int 0,.int 1,.int 2]) b=some (.lst (iN [0,0,1,2])):=ao;generalize upd H6 b (.lst [.int 0,.int 0,.int 1,.int 2])=H7 at s7 eb⊢;obtain⟨y,hy⟩:=bY (cy (d/31) (by decide:(4:Int)≠0));have hy4:y<4:=by
   have :=bU (d/31) (by decide:(0:Int)<4)
   omega
  refine⟨⟨by decide,by decide⟩,by decide,?_⟩;rw[hy];refine .inl ⟨b,_,y,_,rfl,rfl,SqL.of eb,cG (oA (by simp;omega)),?_⟩;have hw:[0,0,1,2].getD y 0<=2:=by
   have :y=0\/y=1\/y=2\/y=3:=by omega
   rcases this with rfl|rfl|rfl|rfl<;>decide
  generalize[0,0,1,2].getD y 0=more at hw;refine⟨_,_,rfl,?_⟩;obtain⟨mo,hmo,hmr⟩:∃mo:Nat,(if(more:Int)<(room:Int)then(more:Int)else(room:Int))=(mo:Int)/\mo<=room:=by
   split
   ·exact⟨more,rfl,by omega⟩
   ·exact⟨room,rfl,aB _⟩
  rw[hmo];unfold lW;walk_at "wp";unfold lV;walk_at "wp";refine⟨.inl ⟨rfl,_,SqL.of (s7 _ _ em6)⟩,pm,_,_,rfl,rfl,s7 _ _ em6,K32.uW (by rw[cK];omega),?_⟩;rw[show(1:Int)+(mo:Int)=((1+mo:Nat):Int) by omega,<-tP,show(room:Int)-(mo:Int)=((room-mo:Nat):Int) by omega];have hsum:=g.sum;refine hD _ _ ⟨room-mo,ps++[z],ms++[1+mo],⟨dG (s6.trans s7) fpm,?_,ao,by simp[hpl],by simp[hml],fun v h1 h2=>?_,fun v h1 h2=>?_,?_⟩,?_,_,_,_,rfl⟩
  ·rw[bo nam];exact s7 _ _ ea6
  ·rw[getD_snoc]
   split
   ·exact g.par v h1 (by assumption)
   ·split
    ·omega
    ·omega
  ·rw[getD_snoc]
   split
   ·exact g.m0 v h1 (by assumption)
   ·rw[ba,dF]at h2
    rw[if_pos (by omega)];omega
  ·rw[List.sum_append]
   simp;omega
  ·rw[bo (bQ nml)];exact s7 _ _ el6
 ·rintro σ H4 ⟨room,ps,ms,g,el4,u,v,w,rfl⟩
  unfold oJ;walk_at "wp";have hpl:=g.pl;have hml:=g.ml;have hsum:=g.sum;refine⟨short (by simp),fun p hp=>q _ p pa pm ps ms (g.s.trans (ax hp)) ao (ax hp _ _ g.ea) (ax hp _ _ g.em) ⟨by omega,by omega,by omega,g.par,g.m0,by omega⟩⟩
noncomputable def i7(ms:List Nat)(k:Nat):List Nat:=(aw k).flatMap fun e=>bh (ms.getD e 0) e
theorem mO(ms:List Nat)(k:Nat):i7 ms (k+1)=i7 ms k++bh (ms.getD k 0) k:=by
 unfold i7;rw[oo,rq];simp
theorem pC(ms:List Nat):∀k,k<=ms.length->(i7 ms k).length=(ms.take k).sum
 | 0,_=>rfl
 |k+1,h=>by
  rw[mO,ba,pC ms k (by omega),i9,cB,List.sum_append,ae];cases ms[k]? <;>simp
theorem mz:∀(ms:List Nat)(k:Nat),(ms.take k).sum<=ms.sum
 | [],k=>by simp
 |m::ms,0=>by simp
 |m::ms,k+1=>by
  rw[List.take_succ_cons,List.sum_cons,List.sum_cons];have :=mz ms k;omega
theorem rep_iN(e m:Nat):(bh m [V.int (e:Int)]).flatten=iN (bh m e):=by
 unfold iN;rw[List.map_replicate]
 induction m with
 |zero=>rfl
 |succ m ih=>rw[du,iS,ih,du];rfl
theorem iN_app(a b:List Nat):iN (a++b)=iN a++iN b:=by simp[iN]
theorem iN_ints(ks:List Nat):iN ks=(ks.map fun k:Nat=>(k:Int)).map V.int:=by unfold iN;rw[bq];rfl
theorem nil_iN{t p:Addr}{fs:List Nat}(et:H t=some (.lst (iN fs)))(ep:H p=some (.lst [])):∃d d',Rep K H d (.ref t)/\Rep K H d' (.ref p)/\hgt d<=30/\eqD d d'=decide (fs=[]):=by
 rw[iN_ints]at et;obtain⟨d,d',r1,r2,r3,r4⟩:=K22.z6 (K:=K) (SqL.of et) ep;refine⟨d,d',r1,r2,r3,?_⟩;rw[r4];exact decide_eq_decide.mpr (by simp)
theorem sE:∀(l:List Nat)(z:Nat)(h:z<l.length),(l[z]::l.eraseIdx z).Perm l
 | [],_,h=>absurd h (c5 _)
 |a::l,0,_=>dN _
 |a::l,z+1,h=>by
  have h':z<l.length:=by simpa using h
  exact(vM a l[z] (l.eraseIdx z)).trans ((sE l z h').cons a)
noncomputable def um:Sp:=fun vs H Q _=>∃(pm:Addr)(seed left:Int)(free:Bool)(ms:List Nat),vs=[.ref pm,.int seed,.int left,.bl free]/\H pm=some (.lst (iN ms))/\ms.length<=31/\ms.sum<=60/\0<=seed/\seed<=10007/\
 ∀(H':Hp)(p l:Addr)(os:List Nat)(left':Int),aL H H'->H' p=some (.tup [.ref l,.int left'])->H l=none->H' l=some (.lst (iN os))->os.Perm (i7 ms ms.length)->Q (.ref p) H'
section
variable {G:Gam}{K:ah}{E:XS}{D:Ends}
theorem FV{Q:VK}(hr:D.rt=Q){pm so:Addr}{F:List Nat}{seed left:Int}{ss:List Nat}{a b r c e f:Option V}(s1:aL H H1)(fso:H so=none)(es:H1 so=some (.lst (iN ss)))(hl:ss.length<=60)
  (q:∀(H':Hp)(p l:Addr)(os:List Nat)(left':Int),aL H H'->H' p=some (.tup [.ref l,.int left'])->H l=none->H' l=some (.lst (iN os))->os.Perm ss->Q (.ref p) H'):
  wpB G K E jF D [some (.ref pm),some (.int seed),some (.int left),a,some (.ref so),b,r,c,e,f,none] H1:=by
 unfold jF;walk_at "wp";refine⟨short (by simp),fun l hl2=>?_⟩;have s2:aL H1 (upd H1 l (.lst [])):=ax hl2;have el:upd H1 l (.lst []) l=some (.lst (iN [])):=ao;have nls:so≠l:=fun z=>by rw[<-z,es]at hl2;cases hl2
 have fl:H l=none:=s1.free hl2;have es:=s2 _ _ es;generalize upd H1 l (.lst [])=H2 at s2 el es⊢;unfold mV;walk_at "wp";refine⟨fun m σ H'=>∃(ss' os:List Nat)(seed left:Int)(u:Option V),m=ss'.length/\aL H H'/\H' so=some (.lst (iN ss'))/\H' l=some (.lst (iN os))/\(os++ss').Perm ss/\σ=[some (.ref pm),some (.int seed),some (.int left),a,some (.ref so),b,r,c,e,some (.ref l),u],
  ⟨_,ss,[],seed,left,none,rfl,s1.trans s2,es,el,dN _,rfl⟩,?_⟩
 rintro m σ H3 ⟨ss',os,seed,left,u,rfl,s3,es,el,pmm,rfl⟩;have hlen:os.length+ss'.length=ss.length:=by
  have :=pmm.length_eq
  simpa using this
 walk_at "wp"
 refine⟨short (by simp),fun p0 hp0=>?_⟩;have s4:aL H3 (upd H3 p0 (.lst [])):=ax hp0;have e0:upd H3 p0 (.lst []) p0=some (.lst []):=ao;have es:=s4 _ _ es;have el:=s4 _ _ el;have s5:=s3.trans s4;generalize upd H3 p0 (.lst [])=H4 at e0 es el s5⊢;obtain⟨d,d',r1,r2,r3,r4⟩:=nil_iN (K:=K) es e0;refine⟨d,d',r1,r2,r3,_,rfl,?_⟩;rw[r4];by_cases hz:ss'=[]
 ·rw[decide_eq_true hz,if_neg (by simp)]
  unfold jD;walk_at "wp";refine⟨short (by simp),fun p hp=>?_⟩;rw[hr];rw[hz,iu]at pmm;exact q _ p l os left (s5.trans (ax hp)) ao fl (ax hp _ _ el) pmm
 ·rw[decide_eq_false hz,if_pos (by simp)]
  have hpos:0<ss'.length:=gU.mpr hz;have hpi:(0:Int)<(ss'.length:Int):=by omega
  refine⟨fun σ' H'=>∃(ss2 os:List Nat)(seed left:Int)(u:Option V),ss2.length<ss'.length/\aL H H'/\H' so=some (.lst (iN ss2))/\H' l=some (.lst (iN os))/\(os++ss2).Perm ss/\σ'=[some (.ref pm),some (.int seed),some (.int left),a,some (.ref so),b,r,c,e,some (.ref l),u],
   fun σ' H' ⟨ss2,os,seed,left,u,h1,h2,h3,h4,h5,h6⟩=>⟨_,h1,ss2,os,seed,left,u,rfl,h2,h3,h4,h5,h6⟩,?_⟩
  refine⟨vo (by decide) (by decide),by decide,?_⟩;generalize(seed*48271+11)%2147483647=sd
  --the drawn place,whichever way
  have fin:∀(at_ lf:Int),0<=at_->at_<(ss'.length:Int)->wpB G K E iG {nx:=fun σ' H'=>∃(ss2 os:List Nat)(seed left:Int)(u:Option V),ss2.length<ss'.length/\aL H H'/\H' so=some (.lst (iN ss2))/\H' l=some (.lst (iN os))/\(os++ss2).Perm ss/\σ'=[some (.ref pm),some (.int seed),some (.int left),a,some (.ref so),b,r,c,e,some (.ref l),u],rt:=D.rt,bk:=wpB G K E jD D,ct:=fun σ' H'=>∃(ss2 os:List Nat)(seed left:Int)(u:Option V),ss2.length<ss'.length/\aL H H'/\H' so=some (.lst (iN ss2))/\H' l=some (.lst (iN os))/\(os++ss2).Perm ss/\σ'=[some (.ref pm),some (.int seed),some (.int left),a,some (.ref so),b,r,c,e,some (.ref l),u]}
    [some (.ref pm),some (.int sd),some (.int lf),a,some (.ref so),b,r,c,e,some (.ref l),some (.int at_)] H4:=by
   intro at_ lf h0 h1;obtain⟨z,rfl⟩:=bY h0;have hzl:z<ss'.length:=by omega
   unfold iG;walk_at "wp";refine⟨.inl ⟨rfl,_,SqL.of el⟩,.inl ⟨rfl,_,SqL.of es⟩,.inr ⟨so,_,z,z,_,rfl,rfl,es,by omega,by omega,?_,oA hzl,?_⟩⟩
   ·rw[cK,tm (by omega) (by omega)]
    simp
   have ee:(iN ss').eraseIdx z=iN (ss'.eraseIdx z):=by
    unfold iN;rw[vL,vL,cQ,List.map_take,List.map_drop]
   rw[ee];have el6:upd H4 so (.lst (iN (ss'.eraseIdx z))) l=some (.lst (iN os)):=by rw[bo (bQ nls)];exact el
   refine⟨l,iN os,_,rfl,rfl,el6,K32.uW (by rw[cK];omega),?_⟩;have ez:ss'.getD z 0=ss'[z]:=by rw[ae,aa hzl];rfl
   rw[ez,<-tP];refine⟨ss'.eraseIdx z,os++[ss'[z]],_,_,_,?_,dG (dG s5 fso) fl,?_,ao,?_,rfl⟩
   ·rw[kD hzl];omega
   ·rw[bo nls];exact ao
   ·rw[lQ]
    exact((sE ss' z hzl).append_left os).trans pmm
  unfold kY;walk_at "wp";refine⟨⟨by decide,by decide⟩,Or.inl ⟨so,_,rfl,.inl (SqL.of es),?_⟩⟩;rw[cK];refine hW.mpr ⟨hpi,?_⟩;unfold kX;walk_at "wp";refine Or.inl ⟨so,_,rfl,.inl (SqL.of es),?_⟩;rw[cK];refine Il.mpr ⟨_,rfl,?_⟩;by_cases hge:(ss'.length:Int)<=left
  ·rw[decide_eq_true hge,if_pos rfl]
   refine Or.inl ⟨so,_,rfl,.inl (SqL.of es),?_⟩;rw[cK];refine hW.mpr ⟨hpi,?_⟩;unfold jE;walk_at "wp";refine Or.inl ⟨so,_,rfl,.inl (SqL.of es),?_⟩;rw[cK];refine div_ii.mpr ⟨⟨hpi,by omega⟩,?_⟩;exact fin _ _ (cy _ (by omega)) (bU _ hpi)
  ·rw[decide_eq_false hge,if_neg ak]
   exact fin _ _ (cy _ (by omega)) (bU _ hpi)
noncomputable def i3(rk:Nat->Int)(ss:List Nat)(k:Nat):List (List Int):=(aw k).map fun j:Nat=>[rk j,(j:Int),(ss.getD j 0:Nat)]
theorem CT(rk:Nat->Int)(ss:List Nat)(k:Nat):(i3 rk ss k).Nodup:=by
 unfold i3;refine cU.mpr (mq.imp ?_);intro a b hne e;injection e with _ e
 injection e with e _;exact hne (by omega)
theorem EB(rk:Nat->Int)(ss:List Nat)(k:Nat):i3 rk ss (k+1)=i3 rk ss k++[[rk k,(k:Int),(ss.getD k 0:Nat)]]:=by
 unfold i3;rw[oo,cQ];rfl
noncomputable def rank(seed:Int)(j:Nat):Int:=(seed+1)*(31*(j:Int)*(j:Int)+17*(j:Int)+7)%10007
theorem Eo{rk:Nat->Int}{ss:List Nat}(h:_root_.Q.IntKeys H ys (i3 rk ss ss.length)):∃os:List Nat,os.Perm ss/\os.length=ss.length/\(_root_.Q.cg V.non (i3 rk ss ss.length) ys).length=os.length/\∀(i:Nat) v,(_root_.Q.cg V.non (i3 rk ss ss.length) ys)[i]? =some v->∃a x y,v=.ref a/\H a=some (.tup [x,y,.int (os.getD i 0:Nat)]):=by
 have hl:=K32.eO h;have hk:(i3 rk ss ss.length).length=ss.length:=by simp[i3]
 have pm:=_root_.Q.kJ (CT rk ss ss.length);rw[hk]at pm;refine⟨(_root_.Q.uI (i3 rk ss ss.length)).map fun i=>ss.getD i 0,?_,by rw[ai,pm.length_eq,aO],by unfold _root_.Q.cg;rw[ai,ai],fun i v e=>?_⟩
 ·have h:=pm.map fun i=>ss.getD i 0
  rw[_root_.Q.range_getD]at h;exact h
 ·unfold _root_.Q.cg at e
  rw[aq]at e;obtain⟨j,ej,rfl⟩:=mn.mp e;have hj:j<ss.length:=aK.mp (pm.mem_iff.mp (aD ej));have at_:∀{ys:List V}{ks:List (List Int)},_root_.Q.IntKeys H ys ks->∀j,j<ks.length->∃a,ys.getD j .non=V.ref a/\H a=some (.tup ((ks.getD j []).map V.int)):=by
   intro ys ks h
   induction h with
   |nil=>intro j hj;exact absurd hj (c5 _)
   |cons r t ih=>
    intro j hj;cases j with
    |zero=>obtain⟨a,e,f⟩:=r;exact⟨a,e,f⟩
    |succ j=>exact ih j (by simpa using hj)
  obtain⟨a,ea,eb⟩:=at_ h j (by omega);have ek:(i3 rk ss ss.length).getD j []=[rk j,(j:Int),(ss.getD j 0:Nat)]:=by
   unfold i3;rw[ae,aq,bP hj];rfl
  rw[ek]at eb;have eo:((_root_.Q.uI (i3 rk ss ss.length)).map fun i=>ss.getD i 0).getD i 0=ss.getD j 0:=by
   rw[ae,aq,ej];rfl
  rw[eo];exact⟨a,_,_,ea,eb⟩
theorem Ee:Sat G K um qC qh:=by
 rintro vs H Q E ⟨pm,seed,left,free,ms,rfl,em,hml,hsum,hs0,hs1,q⟩;unfold qC;change wpB G K _ _ _ [some (.ref pm),some (.int seed),some (.int left),some (.bl free),none,none,none,none,none,none,none] H;walk_at "wp";refine⟨short (by simp),fun l0 hl0=>?_⟩;unfold mZ;walk_at "wp";refine fQ ?_;walk_at "wp";have s0:aL H (upd H l0 (.lst [])):=ax hl0;have e0:upd H l0 (.lst []) l0=some (.lst (iN [])):=ao;generalize upd H l0 (.lst [])=H0 at s0 e0⊢;refine Or.inl ⟨pm,_,rfl,.inl (SqL.of (s0 _ _ em)),_,rfl,by rw[cK];omega,by rw[cK];omega,?_⟩;rw[cK,aH];have hlen:∀k,k<=ms.length->(i7 ms k).length<=60:=fun k hk=>by
  rw[pC ms k hk];exact aR (mz ms k) hsum
 refine fm dv (fun k σ H'=>aL H H'/\∃so u,H so=none/\H' so=some (.lst (iN (i7 ms k)))/\σ=[some (.ref pm),some (.int seed),some (.int left),some (.bl free),some (.ref so),u,none,none,none,none,none])
  ⟨s0,l0,none,hl0,e0,rfl⟩ (fun _ _ _ _ _=>trivial) ?_ ?_
 ·rintro k x σ H1 H2 D2 hk ⟨s1,so,u,fso,es,rfl⟩ rfl s2 hD _
  have es:=s2 _ _ es;have s1:=s1.trans s2;walk_at "wp";simp only[eY];refine⟨short (by simp),fun b hb=>?_⟩;generalize hX:upd H2 b _=H3;obtain⟨s3,eb⟩:=jw hX hb;clear hX;refine .inl ⟨pm,_,k,_,rfl,rfl,SqL.of (s3 _ _ (s1 _ _ em)),cG (oA hk),?_⟩;have hm60:(i7 ms k).length+ms.getD k 0<=60:=by
   have :=hlen (k+1) hk
   rw[mO,ba,i9]at this;exact this
  refine .inr (.inl ⟨b,_,_,rfl,rfl,eb,by omega,by omega,K32.dA (by rw[aH,dF,Nat.one_mul];omega),fun c hc=>?_⟩);rw[aH,rep_iN];generalize hX:upd H3 c _=H4;obtain⟨s4,ec⟩:=jw hX hc;clear hX;refine .inr (.inr (.inl ⟨so,c,_,_,rfl,rfl,s4 _ _ (s3 _ _ es),ec,K32.dA (by rw[cK,cK,i9];omega),fun d hd=>?_⟩));rw[<-iN_app,<-mO];have s5:=s1.trans (s3.trans s4);exact hD _ _ ⟨s5.trans (ax hd),d,_,s5.free hd,ao,rfl⟩
 rintro σ H1 ⟨s1,so,u,fso,es,rfl⟩;have hL:=hlen ms.length (aB _);generalize i7 ms ms.length=ss at q es hL;unfold mY;walk_at "wp";refine⟨short (by simp),fun ro hro=>?_⟩;have s2:aL H1 (upd H1 ro (.lst [])):=ax hro;have er:upd H1 ro (.lst []) ro=some (.lst []):=ao;have nsr:so≠ro:=fun z=>by rw[<-z,es]at hro;cases hro
 have fro:H ro=none:=s1.free hro;have es:=s2 _ _ es;have s1:=s1.trans s2;generalize upd H1 ro (.lst [])=H2 at er es s1⊢;unfold mX;walk_at "wp";refine fQ ?_;walk_at "wp";refine Or.inl ⟨so,_,rfl,.inl (SqL.of es),_,rfl,by rw[cK];omega,by rw[cK];omega,?_⟩;rw[cK,aH];refine fm dv (fun k σ H'=>aL H H'/\H' so=some (.lst (iN ss))/\∃ys x y,H' ro=some (.lst ys)/\_root_.Q.IntKeys H' ys (i3 (rank seed) ss k)/\σ=[some (.ref pm),some (.int seed),some (.int left),some (.bl free),some (.ref so),u,some (.ref ro),x,y,none,none])
  ⟨s1,es,[],none,none,er,.nil,rfl⟩ (fun _ _ _ _ _=>trivial) ?_ ?_
 ·rintro k x σ H3 H4 D2 hk ⟨s3,es,ys,x',y',er,ik,rfl⟩ rfl s4 hD _
  have es:=s4 _ _ es;have er:=s4 _ _ er;have ik:=K32.dS (K32.Tk.of s4) ik;have s3:=s3.trans s4;have hyl:=K32.eO ik;rw[show(i3 (rank seed) ss k).length=k by simp[i3]]at hyl;walk_at "wp";simp only[eY];have hkk:0<=31*(k:Int)*(k:Int)/\31*(k:Int)*(k:Int)<=111600:=by
   have h1:0<=(k:Int)*(k:Int):=Int.mul_nonneg (by omega) (by omega);have h2:(k:Int)*(k:Int)<=60*60:=Int.mul_le_mul (by omega) (by omega) (by omega) (by decide);rw[Int.mul_assoc];omega
  refine⟨DM (by decide) (by decide),vo (by omega) (by omega),DM (by decide) (by decide),DM (by omega) (by omega),by decide,?_⟩;rw[show(seed+1)*(31*(k:Int)*(k:Int)+17*(k:Int)+7)%10007=rank seed k from rfl];unfold kZ;walk_at "wp";refine⟨.inl ⟨rfl,_,SqL.of er⟩,.inl ⟨so,_,k,_,rfl,rfl,SqL.of es,cG (oA hk),short (by simp),fun p hp=>?_⟩⟩;generalize hX:upd H4 p _=H5;obtain⟨s5,ep⟩:=jw hX hp;clear hX;have er5:=s5 _ _ er;refine⟨ro,ys,_,rfl,rfl,er5,K32.uW (by omega),?_⟩;have tk:K32.Tk H5 (upd H5 ro (.lst (ys++[.ref p]))):=K32.rE er5;refine hD _ _ ⟨dG (s3.trans s5) fro,?_,_,_,_,ao,?_,rfl⟩
  ·rw[bo nsr];exact s5 _ _ es
  ·rw[EB]
   exact K32.Paired.snoc ⟨p,rfl,tk _ _ ep⟩ (K32.dS tk (K32.dS (K32.Tk.of s5) ik))
 rintro σ H3 ⟨s3,es,ys,x',y',er,ik,rfl⟩;have hyl:=K32.eO ik;rw[show(i3 (rank seed) ss ss.length).length=ss.length by simp[i3]]at hyl;unfold mW;walk_at "wp";refine⟨free,rfl,?_⟩;cases free with
 |true=>
  rw[if_neg (by simp)];exact FV (F:=ss) rfl s3 fso es hL q
 |false=>
  rw[if_pos (by simp)];refine cS ?_;walk_at "wp";refine⟨ro,ys,_,3,rfl,SqL.of er,by simp[i3];omega,CT _ _ _,fun k hk=>?_,ik,fun so2 hso2=>?_⟩
  ·unfold i3 at hk
   obtain⟨j,_,rfl⟩:=ay.mp hk;rfl
  obtain⟨os,pmo,hol,hsl,hat⟩:=Eo ik;have s4:=ax (o:=.lst (_root_.Q.cg V.non (i3 (rank seed) ss ss.length) ys)) hso2;have e4:upd H3 so2 (.lst (_root_.Q.cg V.non (i3 (rank seed) ss ss.length) ys)) so2=some (.lst (_root_.Q.cg V.non (i3 (rank seed) ss ss.length) ys)):=ao;generalize _root_.Q.cg V.non (i3 (rank seed) ss ss.length) ys=zs at s4 e4 hsl hat⊢;generalize upd H3 so2 (.lst zs)=H4 at s4 e4⊢;refine⟨so2,rfl,⟨_,SqL.of e4⟩,dH (cX (xs:=zs)) (K32.dA (by omega)) (fun H5 s5=>s5.seq (SqL.of e4)) (fun i v _=>v=.int (os.getD i 0:Nat)) (fun _ _ _ _ _ h=>h) (fun τ=>∃u,τ=[u]) ⟨none,rfl⟩ ?_ ?_⟩
  ·rintro i v τ H5 R hi ⟨u,rfl⟩ s5 hv kk
   obtain⟨a,x,y,rfl,ea⟩:=hat i v hv;walk_at "wp";exact .inr (.inl ⟨a,_,2,_,rfl,rfl,SqT.of (s5 _ _ (s4 _ _ ea)),rfl,kk _ _ _ ⟨_,rfl⟩ (aL.refl _) rfl⟩)
  ·intro vs H5 l hvl hF s5 hl
   have ev:vs=iN os:=by
    unfold iN;apply fY;intro i;rw[aq];by_cases hi:i<vs.length
    ·rw[aa hi,hF i _ (aa hi),aa (by omega),ae,aa (by omega)]
     rfl
    ·rw[bL (by omega),bL (by omega)]
     rfl
   rw[ev];refine⟨short (by simp),fun p hp=>?_⟩;have s6:=s3.trans (s4.trans s5);exact q _ p l os left (s6.trans ((ax hl).trans (ax hp))) ao (s6.free hl) (ax hp _ _ ao) pmo
end
end Bt
namespace Bt
open PySem R
noncomputable def mF:List Str:=["_law_parents","_law_owners_here","_law_seed","_law_bits","_law_free"]
noncomputable def gS:List Str:=["_law_parents","_law_owners_here","_law_seed","_law_bits","_law_free","_law_first","_law_place","_law_nodes_here","_law_edge","_law_above"]
noncomputable def oF:CB:=
  (.cons (.ret (.var 7))
  .nil)
noncomputable def lU:CB:=
  (.cons (.expr (.meth1 .append (.var 7) (.bfn .tuple (.cons (.comp ["_law_k"] [9,8,1] (.name 0) (.range1 (.bfn .len (.cons (.var 1) .nil))) .no (.bin .Mod (.bin .Add (.idx (.var 1) (.var 0)) (.bfn .int (.cons (.cmp .Eq (.idx (.var 3) (.var 0)) (.var 2)) .nil))) (.con (.int 2)))) .nil))))
  .nil)
noncomputable def oG:CB:=
  (.cons (.forr (.name 8) (.range2 (.con (.int 1)) (.bfn .len (.cons (.var 0) .nil)))
  (.cons (.asg (.name 9) (.idx (.var 7) (.idx (.var 0) (.var 8))))
  lU))
  oF)
noncomputable def oH:CB:=
  (.cons (.asg (.name 7) (.lst (.cons (.bfn .tuple (.cons (.var 5) .nil)) .nil)))
  oG)
noncomputable def gF:CB:=
  (.cons (.asg (.name 3) (.bin .FloorDiv (.var 3) (.con (.int 2))))
  .nil)
noncomputable def oI:CB:=
  (.cons (.forr (.name 6) (.range1 (.bfn .len (.cons (.var 1) .nil)))
  (.cons (.expr (.meth1 .append (.var 5) (.bin .Mod (.idx (.lst (.cons (.bin .FloorDiv (.var 2) (.bin .Add (.var 6) (.con (.int 1)))) (.cons (.var 3) .nil))) (.bfn .int (.cons (.and (.var 4) (.cmp .Gt (.var 3) (.con (.int 1)))) .nil))) (.con (.int 2)))))
  gF))
  oH)
noncomputable def m3:CB:=
  (.cons (.asg (.name 5) (.lst .nil))
  oI)
noncomputable def BE:List Str:=["_law_k","_law_seed"]
noncomputable def uR:List Str:=["_law_k","_law_seed","_law_place","_law_word"]
noncomputable def qD:CB:=
  (.cons (.ret (.bin .Add (.bin .Add (.var 3) (.idx (.con (.str "xy")) (.bin .FloorDiv (.var 0) (.con (.int 25))))) (.cut (.con (.str "mmm")) (.yes (.var 2)) .no)))
  .nil)
noncomputable def qE:CB:=
  (.cons (.asg (.name 3) (.bin .Add (.cut (.con (.str "mmm")) .no (.yes (.var 2))) (.idx (.con (.str "abcdefghijklnopqrstuvwxyz")) (.bin .Mod (.bin .Add (.bin .Mult (.var 0) (.con (.int 7))) (.var 1)) (.con (.int 25))))))
  qD)
noncomputable def vA:CB:=
  (.cons (.asg (.name 2) (.bin .Mod (.var 1) (.con (.int 4))))
  qE)
end Bt
namespace Bt
open PySem PySem.Spec PyProof.Rows L2 R Cp Lt Kc
noncomputable def LB:Str:="abcdefghijklnopqrstuvwxyz"
noncomputable def nmT(pl a b:Nat):Str:=((vm "mmm" none (some (pl:Int))++(⟨#[LB.cps.toList.getD a 0]⟩:Str))++(⟨#[(bX "xy").cps.toList.getD b 0]⟩:Str))++vm "mmm" (some (pl:Int)) none
theorem nmT_ok:∀(pl:Fin 4)(a:Fin 25)(b:Fin 2),gK (nmT pl a b)=true:=by decide+kernel
theorem nmT_inj:∀(pl:Fin 4)(a:Fin 25)(b:Fin 2)(a':Fin 25)(b':Fin 2),nmT pl a b=nmT pl a' b'->a=a'/\b=b':=by decide+kernel
noncomputable def nmB(seed:Int)(k:Nat):Str:=nmT (seed%4).toNat (((k:Int)*7+seed)%25).toNat (k/25)
theorem lE{m:Int}(n:Nat)(h:0<n):∃z:Nat,m%(n:Int)=(z:Int)/\z<n:=by
 obtain⟨z,hz⟩:=bY (cy m (by omega:(n:Int)≠0));have :=bU m (by omega:(0:Int)<(n:Int));exact⟨z,hz,by omega⟩
theorem nmB_ok{seed:Int}(h:k<50):gK (nmB seed k)=true:=by
 obtain⟨p,hp,hp4⟩:=lE (m:=seed) 4 (by decide);obtain⟨a,ha,ha25⟩:=lE (m:=(k:Int)*7+seed) 25 (by decide);unfold nmB;rw[show(4:Int)=((4:Nat):Int)from rfl,show(25:Int)=((25:Nat):Int)from rfl,hp,ha];exact nmT_ok ⟨p,hp4⟩ ⟨a,ha25⟩ ⟨k/25,by omega⟩
theorem nmB_inj{seed:Int}(hi:i<50)(hj:j<50)(h:nmB seed i=nmB seed j):i=j:=by
 obtain⟨p,hp,hp4⟩:=lE (m:=seed) 4 (by decide);obtain⟨a,ha,ha25⟩:=lE (m:=(i:Int)*7+seed) 25 (by decide);obtain⟨b,hb,hb25⟩:=lE (m:=(j:Int)*7+seed) 25 (by decide);unfold nmB at h;rw[show(4:Int)=((4:Nat):Int)from rfl,show(25:Int)=((25:Nat):Int)from rfl,hp,ha,hb]at h;obtain⟨h1,h2⟩:=nmT_inj ⟨p,hp4⟩ ⟨a,ha25⟩ ⟨i/25,by omega⟩ ⟨b,hb25⟩ ⟨j/25,by omega⟩ h;have h1:a=b:=congrArg Fin.val h1;have h2:i/25=j/25:=congrArg Fin.val h2;have ha':((i:Int)*7+seed)%25=(a:Int):=ha;have hb':((j:Int)*7+seed)%25=(b:Int):=hb;omega
noncomputable def spNm:Sp:=fun vs H Q _=>∃(k:Nat)(seed:Int),vs=[.int k,.int seed]/\k<50/\Q (.str (nmB seed k)) H
theorem lb_len:LB.cps.toList.length=25:=by decide+kernel
theorem lb_len':LB.length<=sizeLine:=by decide+kernel
theorem cut3:∀pl:Fin 4,(vm "mmm" none (some (pl.val:Int))).length<=3/\(vm "mmm" (some (pl.val:Int)) none).length<=3:=by decide+kernel
theorem zV(c:Nat):(⟨#[c]⟩:Str).length=1:=rfl
theorem wp_nm:Sat G K spNm vA uR:=by
 rintro vs H Q E ⟨k,seed,rfl,hk,q⟩;unfold vA;change wpB G K _ _ _ [some (.int k),some (.int seed),none,none] H;walk_at "wp";refine⟨by decide,?_⟩;obtain⟨p,hp,hp4⟩:=lE (m:=seed) 4 (by decide);obtain⟨a,ha,ha25⟩:=lE (m:=(k:Int)*7+seed) 25 (by decide);have hp:seed%4=(p:Int):=hp;have ha:((k:Int)*7+seed)%25=(a:Int):=ha;unfold nmB at q;rw[hp,ha,aH,aH]at q;rw[hp];obtain⟨c1,c2⟩:=cut3 ⟨p,hp4⟩;have c1:(vm (bX "mmm") none (some (p:Int))).length<=3:=c1;have c2:(vm (bX "mmm") (some (p:Int)) none).length<=3:=c2;unfold qE;walk_at "wp";refine⟨by decide+kernel,vo (by decide) (by decide),by decide,?_⟩;rw[ha];have hat:LB.cps.toList[a]? =some (LB.cps.toList.getD a 0):=by
  rw[ae,aa (by rw[lb_len];omega)];rfl
 refine⟨_,lb_len',cG hat,?_⟩;refine⟨short (by rw[zV];omega),?_⟩;unfold qD;walk_at "wp";refine⟨⟨by decide,by decide⟩,?_⟩;have hb:(k:Int)/25=((k/25:Nat):Int):=by omega
 have hxy:(bX "xy").cps.toList[k/25]? =some ((bX "xy").cps.toList.getD (k/25) 0):=by
  have h2:(bX "xy").cps.toList.length=2:=by decide+kernel
  rw[ae,aa (by rw[h2];omega)];rfl
 rw[hb];refine⟨_,by decide+kernel,cG hxy,short (by rw[pk,zV,zV];omega),by decide+kernel,short (by rw[pk,pk,zV,zV];omega),?_⟩;exact q
end Bt
namespace Bt
open PySem PySem.Spec PyProof.Rows L2 R Cp Lt Kc Mt
noncomputable abbrev fn(ks:List Nat):Nat->Nat:=fun i=>ks.getD i 0
noncomputable def tG:Sp:=fun vs H Q _=>∃(pa lo:Addr)(seed bits:Int)(free:Bool)(ps os:List Nat),vs=[.ref pa,.ref lo,.int seed,.int bits,.bl free]/\H pa=some (.lst (iN ps))/\H lo=some (.lst (iN os))/\1<=ps.length/\ps.length<=31/\os.length<=60/\(∀v,1<=v->v<ps.length->ps.getD v 0<v)/\
 ∀(H':Hp)(nl:Addr)(ys:List V)(f:Nat->Int),aL H H'->H nl=none->H' nl=some (.lst ys)->(∀p,p<os.length->f p=0\/f p=1)->_root_.Q.IntKeys H' ys ((aw ps.length).map (nd f (fn os) (fn ps) os.length))->Q (.ref nl) H'
section
variable {G:Gam}{K:ah}
theorem nd_zero{fs:List Int}{own par:Nat->Nat}:nd (fun p=>fs.getD p 0) own par fs.length 0=fs:=by
 unfold nd;apply bg
 ·simp
 ·intro i h1 h2
  rw[aY,eF,GO,ae,aa h2];rfl
theorem FW:Sat G K tG m3 gS:=by
 rintro vs H Q E ⟨pa,lo,seed,bits,free,ps,os,rfl,ea,eo,hp1,hp31,ho60,hpar,q⟩;unfold m3;change wpB G K _ _ _ [some (.ref pa),some (.ref lo),some (.int seed),some (.int bits),some (.bl free),none,none,none,none,none] H;walk_at "wp";refine⟨short (by simp),fun fi hfi=>?_⟩;have s1:aL H (upd H fi (.lst [])):=ax hfi;have ef:upd H fi (.lst []) fi=some (.lst (([]:List Int).map V.int)):=ao;generalize upd H fi (.lst [])=H1 at s1 ef⊢;unfold oI;walk_at "wp";refine fQ ?_;walk_at "wp";refine Or.inl ⟨lo,_,rfl,.inl (SqL.of (s1 _ _ eo)),_,rfl,by rw[cK];omega,by rw[cK];omega,?_⟩;rw[cK,aH];refine fm dv (fun k σ H'=>aL H H'/\∃(fs:List Int)(bits:Int)(u:Option V),H' fi=some (.lst (fs.map V.int))/\fs.length=k/\(∀x∈fs,x=0\/x=1)/\σ=[some (.ref pa),some (.ref lo),some (.int seed),some (.int bits),some (.bl free),some (.ref fi),u,none,none,none])
  ⟨s1,[],bits,none,ef,rfl,(fun x hx=>by cases hx),rfl⟩ (fun _ _ _ _ _=>trivial) ?_ ?_
 ·rintro k x σ H2 H3 D2 hk ⟨s2,fs,bits,u,ef,hfl,hf01,rfl⟩ rfl s3 hD _
  have ef:=s3 _ _ ef;have s2:=s2.trans s3;walk_at "wp";simp only[eY];refine⟨.inl ⟨rfl,_,SqL.of ef⟩,⟨by omega,by omega⟩,short (by simp),fun b hb=>?_⟩;generalize hX:upd H3 b _=H4;obtain⟨s4,eb⟩:=jw hX hb;clear hX;have s5:=s2.trans s4;have ef4:=s4 _ _ ef;have last:∀z:Int,rMm .append (V.ref fi) [V.int (z%2)] H4 fun _ H1=>wpB G K (fun _=>E) gF D2 [some (.ref pa),some (.ref lo),some (.int seed),some (.int bits),some (.bl free),some (.ref fi),some (.int k),none,none,none] H1:=fun z=>by
   refine⟨fi,_,_,rfl,rfl,ef4,K32.uW (by rw[ai];omega),?_⟩;rw[show fs.map V.int++[V.int (z%2)]=(fs++[z%2]).map V.int by simp];unfold gF;walk_at "wp";refine⟨⟨by decide,by decide⟩,hD _ _ ⟨dG s5 hfi,fs++[z%2],_,_,ao,by simp[hfl],fun x hx=>?_,rfl⟩⟩;rcases cP.mp hx with hx|hx
   ·exact hf01 x hx
   ·rw[a6.mp hx]
    omega
  have key:∀bb:Bool,rBf K .int [V.bl bb] H4 (fun y H2=>rIx K (V.ref b) y H2 fun x H1=>j8 K Operator.Mod x (V.int 2) H1 fun x H1=>rMm .append (V.ref fi) [x] H1 fun _ H1=>wpB G K (fun _=>E) gF D2 [some (.ref pa),some (.ref lo),some (.int seed),some (.int bits),some (.bl free),some (.ref fi),some (.int k),none,none,none] H1):=fun bb=>by
   cases bb with
   |true=>exact .inr ⟨true,rfl,.inl ⟨b,_,1,_,rfl,rfl,SqL.of eb,rfl,hW.mpr ⟨by decide,last _⟩⟩⟩
   |false=>exact .inr ⟨false,rfl,.inl ⟨b,_,0,_,rfl,rfl,SqL.of eb,rfl,hW.mpr ⟨by decide,last _⟩⟩⟩
  split
  ·exact key _
  ·exact key _
 rintro σ H2 ⟨s2,fs,bits,u,ef,hfl,hf01,rfl⟩;have hf:∀p,p<os.length->fs.getD p 0=0\/fs.getD p 0=1:=fun p hp=>by
  rw[ae,aa (by omega)];exact hf01 _ (a9 _)
 unfold oH;walk_at "wp";refine⟨fi,_,rfl,.inl ⟨SqL.of ef,fun r0 hr0=>⟨short (by simp),fun nl hnl=>?_⟩⟩⟩;have s3:aL H2 (upd (upd H2 r0 (.tup (fs.map V.int))) nl (.lst [.ref r0])):=(ax hr0).trans (ax hnl);have er0:upd (upd H2 r0 (.tup (fs.map V.int))) nl (.lst [.ref r0]) r0=some (.tup (fs.map V.int)):=ax hnl _ _ ao;have enl:upd (upd H2 r0 (.tup (fs.map V.int))) nl (.lst [.ref r0]) nl=some (.lst [.ref r0]):=ao;have fnl:H nl=none:=(s2.trans (ax hr0)).free hnl;have s4:=s2.trans s3;generalize upd (upd H2 r0 (.tup (fs.map V.int))) nl (.lst [.ref r0])=H3 at er0 enl s4⊢;have hz:nd (fun p=>fs.getD p 0) (fn os) (fn ps) os.length 0=fs:=by rw[<-hfl];exact nd_zero
 unfold oG;walk_at "wp";refine fQ ?_;walk_at "wp";refine Or.inl ⟨pa,_,rfl,.inl (SqL.of (s4 _ _ ea)),?_⟩;rw[cK];refine⟨_,_,rfl,⟨by omega,by omega,by omega,by omega⟩,?_⟩;refine fm dv (fun m σ H'=>aL H H'/\∃(ys:List V)(x y:Option V),H' nl=some (.lst ys)/\_root_.Q.IntKeys H' ys ((aw (m+1)).map (nd (fun p=>fs.getD p 0) (fn os) (fn ps) os.length))/\σ=[some (.ref pa),some (.ref lo),some (.int seed),some (.int bits),some (.bl free),some (.ref fi),u,some (.ref nl),x,y])
  ⟨s4,[.ref r0],none,none,enl,.cons ⟨r0,rfl,by rw[hz];exact er0⟩ .nil,rfl⟩ (fun _ _ _ _ _=>trivial) ?_ ?_
 ·rintro m x σ H4 H5 D2 hm ⟨s5,ys,x',y',enl,ik,rfl⟩ rfl s6 hD _
  have enl:=s6 _ _ enl;have ik:=K32.dS (K32.Tk.of s6) ik;have s5:=s5.trans s6;have hyl:=K32.eO ik;rw[ai,aO]at hyl;have hv:m+1<ps.length:=by omega
  have ev:(1:Int)+(m:Int)=((m+1:Nat):Int):=by omega
  rw[ev];generalize hvv:m+1=v at *;have hpv:=hpar v (by omega) hv;walk_at "wp";refine .inl ⟨pa,_,v,_,rfl,rfl,SqL.of (s5 _ _ ea),cG (oA hv),?_⟩
  --the parent's readings
  have at_:∀{ys:List V}{ks:List (List Int)},_root_.Q.IntKeys H5 ys ks->∀j,j<ks.length->∃a,ys[j]? =some (V.ref a)/\H5 a=some (.tup ((ks.getD j []).map V.int)):=by
   intro ys ks h
   induction h with
   |nil=>intro j hj;exact absurd hj (c5 _)
   |cons r t ih=>
    intro j hj;cases j with
    |zero=>obtain⟨a,rfl,f⟩:=r;exact⟨a,rfl,f⟩
    |succ j=>exact ih j (by simpa using hj)
  obtain⟨ra,era,era2⟩:=at_ ik (ps.getD v 0) (by rw[ai,aO];omega);have ek:((aw v).map (nd (fun p=>fs.getD p 0) (fn os) (fn ps) os.length)).getD (ps.getD v 0) []=nd (fun p=>fs.getD p 0) (fn os) (fn ps) os.length (ps.getD v 0):=by
   rw[ae,aq,bP hpv];rfl
  rw[ek]at era2;refine .inl ⟨nl,_,ps.getD v 0,_,rfl,rfl,SqL.of enl,cG era,?_⟩;unfold lU;walk_at "wp";refine⟨.inl ⟨rfl,_,SqL.of enl⟩,?_⟩;refine cS ?_;walk_at "wp";refine Or.inl ⟨lo,_,rfl,.inl (SqL.of (s5 _ _ eo)),_,rfl,by rw[cK];omega,by rw[cK];omega,?_⟩;rw[cK,aH];refine dH dv (K32.dA (by omega)) (fun _ _=>trivial) (fun p w _=>w=.int (rdv (fun p=>fs.getD p 0) (fn os) (fn ps) v p)) (fun _ _ _ _ _ h=>h) (fun τ=>∃u,τ=[u,some (.ref ra),some (.int v),some (.ref lo)]) ⟨none,rfl⟩ ?_ ?_
  ·rintro p x τ H6 R hp ⟨u,rfl⟩ s7 rfl kk
   walk_at "wp"
   simp only[eY];refine .inr (.inl ⟨ra,_,p,_,rfl,rfl,SqT.of (s7 _ _ era2),cG (K32.gE (by rw[uQ];exact hp)),?_⟩);rw[dY hp];refine .inl ⟨lo,_,p,_,rfl,rfl,SqL.of (s7 _ _ (s5 _ _ eo)),cG (oA hp),?_⟩;refine kO.mpr (.inr ⟨_,rfl,?_⟩);refine vE.mpr (hW.mpr ⟨by decide,kk _ _ _ ⟨_,rfl⟩ (aL.refl _) ?_⟩);have e:=GP (f:=fun p=>fs.getD p 0) (own:=fn os) (par:=fn ps) (n:=os.length) (N:=ps.length) hpar hf (v:=v) (p:=p) (by omega) hv hp;rw[<-e];by_cases h:os.getD p 0=v
   ·rw[decide_eq_true (by omega:((os.getD p 0:Nat):Int)=(v:Int)),if_pos rfl,if_pos h]
   ·rw[decide_eq_false (by omega:¬((os.getD p 0:Nat):Int)=(v:Int)),if_neg ak,if_neg h]
  ·intro vs H6 l hvl hF s7 hl
   have e:vs=(nd (fun p=>fs.getD p 0) (fn os) (fn ps) os.length v).map V.int:=by
    unfold nd;apply fY;intro i;rw[aq,aq];by_cases hi:i<vs.length
    ·rw[aa hi,bP (by omega),hF i _ (aa hi)]
     rfl
    ·rw[bL (by omega),bL (by rw[aO];omega)]
     rfl
   rw[e];refine⟨l,_,rfl,.inl ⟨SqL.of ao,fun r hr=>?_⟩⟩;have s8:=s7.trans ((ax (o:=.lst ((nd (fun p=>fs.getD p 0) (fn os) (fn ps) os.length v).map V.int)) hl).trans (ax (o:=.tup ((nd (fun p=>fs.getD p 0) (fn os) (fn ps) os.length v).map V.int)) hr));have er:upd (upd H6 l (.lst ((nd (fun p=>fs.getD p 0) (fn os) (fn ps) os.length v).map V.int))) r (.tup ((nd (fun p=>fs.getD p 0) (fn os) (fn ps) os.length v).map V.int)) r=some (.tup ((nd (fun p=>fs.getD p 0) (fn os) (fn ps) os.length v).map V.int)):=ao;generalize upd (upd H6 l (.lst ((nd (fun p=>fs.getD p 0) (fn os) (fn ps) os.length v).map V.int))) r (.tup ((nd (fun p=>fs.getD p 0) (fn os) (fn ps) os.length v).map V.int))=H7 at s8 er⊢;have enl7:=s8 _ _ enl;refine⟨nl,ys,_,rfl,rfl,enl7,K32.uW (by omega),?_⟩;have tk:K32.Tk H7 (upd H7 nl (.lst (ys++[.ref r]))):=K32.rE enl7;refine hD _ _ ⟨dG (s5.trans s8) fnl,_,_,_,ao,?_,rfl⟩;rw[oo,cQ];exact K32.Paired.snoc ⟨r,rfl,tk _ _ er⟩ (K32.dS tk (K32.dS (K32.Tk.of s8) ik))
 rintro σ H4 ⟨s5,ys,x',y',enl,ik,rfl⟩;unfold oF;walk_at "wp";refine q H4 nl ys (fun p=>fs.getD p 0) s5 fnl enl hf ?_;have e:((ps.length:Int)-1).toNat+1=ps.length:=by omega
 rw[e]at ik;exact ik
end
end Bt
namespace Bm
open Mt
section
variable {par:Nat->Nat}{N:Nat}(hp:∀v,1<=v->v<N->par v<v)
noncomputable def kids(par:Nat->Nat)(N v:Nat):List Nat:=(aw N).filter fun u=>decide (1<=u/\par u=v)
theorem d8{u:Nat}:u∈kids par N v↔u<N/\1<=u/\par u=v:=by
 unfold kids;rw[bR,aK,decide_eq_true_eq]
theorem tN:(kids par N v).Nodup:=mq.sublist jU
theorem other{l:List Nat}(nd:l.Nodup)(h:2<=l.length)(x:Nat):∃u∈l,u≠x:=by
 match l,nd,h with
 |a::b::r,nd,_=>
  by_cases e:a=x
  ·refine⟨b,by simp,fun z=>?_⟩
   rw[bN]at nd;exact nd.1 (by rw[e,<-z];simp)
  ·exact⟨a,by simp,e⟩
theorem third{l:List Nat}(nd:l.Nodup)(h:3<=l.length)(x y:Nat):∃u∈l,u≠x/\u≠y:=by
 match l,nd,h with
 |a::b::c::r,nd,_=>
  simp only[bN,aE,not_or]at nd;obtain⟨⟨ab,ac,_⟩,⟨bc,_⟩,_⟩:=nd;apply aJ;intro hn;have hs:∀u∈a::b::c::r,u=x\/u=y:=fun u hu=>by
   apply aJ
   intro k;exact hn ⟨u,hu,fun e=>k (.inl e),fun e=>k (.inr e)⟩
  have ha:=hs a (by simp);have hb:=hs b (by simp);have hc:=hs c (by simp);omega
noncomputable def near(par:Nat->Nat)(N v:Nat):Nat:=(kids par N v).length+if v=0 then 0 else 1
include hp
theorem lD{u e:Nat}(hu:u<N)(h1:1<=u):on par e u=(decide (u=e)||on par e (par u)):=jb hp h1 hu
def Und(par:Nat->Nat)(c g:Nat):Prop:=(c=0/\1<=g)\/(on par c g=true/\g≠c)
theorem Cv{c u g:Nat}(hu:u<N)(h1:1<=u)(e:par u=c)(hg:g<N)(h:on par u g=true):Und par c g:=by
 by_cases c0:c=0
 ·exact .inl ⟨c0,by have :=ou hp g hg h;omega⟩
 ·have hl:=hp u h1 hu
  rw[e]at hl;have h2:on par c u=true:=by
   rw[lD hp hu h1,e,iJ hp (by omega) (by omega),oa]
  have :=ou hp g hg h
  exact .inr ⟨uL hp g hg h h2,by omega⟩
theorem down{cp:Nat->Prop}(lost:∀v,v<N->¬cp v->3<=near par N v){e g:Nat}(hg:g<N):∀(k c:Nat),N-c<=k->c<N->¬Und par c g->∃d,d<N/\cp d/\on par e d=on par e c/\on par g d=on par g c:=by
 intro k
 induction k with
 |zero=>intro c h hc;omega
 |succ k ih=>
  intro c h hc hn;by_cases hcp:cp c
  ·exact⟨c,hc,hcp,rfl,rfl⟩
  ·have hl:=lost c hc hcp
   have h2:2<=(kids par N c).length:=by
    unfold near at hl;split at hl<;>omega
   obtain⟨u,hu,hne⟩:=other tN h2 e;obtain⟨u1,u2,u3⟩:=d8.mp hu;have hlt:=hp u u2 u1;have hug:u≠g:=fun z=>hn (Cv hp u1 u2 u3 hg (by rw[<-z];exact iJ hp u2 u1));obtain⟨d,d1,d2,d3,d4⟩:=ih u (by omega) u1 fun z=>by
    rcases z with⟨z,_⟩ |⟨z,_⟩
    ·omega
    ·exact hn (Cv hp u1 u2 u3 hg z)
   refine⟨d,d1,d2,?_,?_⟩
   ·rw[d3,lD hp u1 u2,decide_eq_false hne,bM,u3]
   ·rw[d4,lD hp u1 u2,decide_eq_false hug,bM,u3]
theorem toward{e:Nat}(he:e<N)(hv:v<N):Und par v e->∃u,u∈kids par N v/\on par u e=true:=by
 induction e using jT with
 |ind e ih=>
  intro h;have e1:1<=e:=by
   rcases h with⟨_,h⟩ |⟨h,_⟩
   ·exact h
   ·have :=ou hp e he h;omega
  have hl:=hp e e1 he;by_cases c:par e=v
  ·exact⟨e,d8.mpr ⟨he,e1,c⟩,iJ hp e1 he⟩
  ·have h':Und par v (par e):=by
    rcases h with⟨h0,_⟩ |⟨h,hne⟩
    ·exact .inl ⟨h0,by omega⟩
    ·rw[jb hp e1 he,decide_eq_false hne,bM]at h
     exact .inr ⟨h,c⟩
   obtain⟨u,hu,ho⟩:=ih (par e) hl (by omega) h';exact⟨u,hu,by rw[jb hp e1 he,ho,oa]⟩
theorem nQ{u w e:Nat}(he:e<N)(hu:u∈kids par N v)(hw:w∈kids par N v)(h1:on par u e=true)(h2:on par w e=true):u=w:=by
 obtain⟨a1,a2,a3⟩:=d8.mp hu;obtain⟨b1,b2,b3⟩:=d8.mp hw;have key:∀{x y:Nat},x<N->1<=x->par x=v->y<N->1<=y->par y=v->on par x e=true->on par y e=true->x<=y->x=y:=fun{x y} c1 c2 c3 d1 d2 d3 k1 k2 le=>by
  apply aJ
  intro hne;have :=uM hp e he k2 k1 le;rw[jb hp d2 d1,decide_eq_false (fun z=>hne z.symm),bM,d3]at this;have h3:=hp x c2 c1;have :=ou hp v (by omega) this;omega
 rcases Nat.le_total u w with h|h
 ·exact key a1 a2 a3 b1 b2 b3 h1 h2 h
 ·exact(key b1 b2 b3 a1 a2 a3 h2 h1 h).symm
theorem there{cp:Nat->Prop}(lost:∀v,v<N->¬cp v->3<=near par N v){e g:Nat}(hv:v<N)(he:e<N)(hg:g<N):∃d,d<N/\cp d/\on par e d=on par e v/\on par g d=on par g v:=by
 by_cases hcp:cp v
 ·exact⟨v,hv,hcp,rfl,rfl⟩
 have hl:=lost v hv hcp;refine(qV (Und par v g)).elim (fun ug=>?_) (fun ug=>down hp lost hg _ v (aB _) hv ug);refine(qV (Und par v e)).elim (fun ue=>?_) (fun ue=>let⟨d,d1,d2,d3,d4⟩:=down hp lost (e:=g) he _ v (aB _) hv ue;⟨d,d1,d2,d4,d3⟩);obtain⟨c1,k1,o1⟩:=toward hp he hv ue;obtain⟨c2,k2,o2⟩:=toward hp hg hv ug;obtain⟨a1,a2,a3⟩:=d8.mp k1;obtain⟨b1,b2,b3⟩:=d8.mp k2;have step:∀u,u∈kids par N v->u≠e->u≠g->¬Und par u g->∃d,d<N/\cp d/\on par e d=on par e v/\on par g d=on par g v:=fun u hu n1 n2 h=>by
  obtain⟨u1,u2,u3⟩:=d8.mp hu;obtain⟨d,d1,d2,d3,d4⟩:=down hp lost hg _ u (aB _) u1 h;refine⟨d,d1,d2,?_,?_⟩
  ·rw[d3,lD hp u1 u2,decide_eq_false n1,bM,u3]
  ·rw[d4,lD hp u1 u2,decide_eq_false n2,bM,u3]
 have nu:∀{u},u∈kids par N v->u≠c2->¬Und par u g:=fun{u} hu hne z=>by
  rcases z with⟨z,_⟩ |⟨z,_⟩
  ·have :=(d8.mp hu).2.1
   omega
  ·exact hne (nQ hp hg hu k2 z o2)
 have nk:∀{u x},u∈kids par N v->x<N->(∀c,c∈kids par N v->on par c x=true->u≠c)->u≠x:=fun{u x} hu hx h z=>h u hu (by rw[<-z];exact iJ hp (d8.mp hu).2.1 (d8.mp hu).1) rfl;by_cases t3:∃u∈kids par N v,u≠c1/\u≠c2
 ·obtain⟨u,hu,n1,n2⟩:=t3
  exact step u hu (fun z=>n1 (nQ hp he hu k1 (by rw[<-z];exact iJ hp (d8.mp hu).2.1 (d8.mp hu).1) o1)) (fun z=>n2 (nQ hp hg hu k2 (by rw[<-z];exact iJ hp (d8.mp hu).2.1 (d8.mp hu).1) o2)) (nu hu n2)
 have le2:(kids par N v).length<=2:=fB fun h=>t3 (third tN h c1 c2);have v0:v≠0:=fun z=>by
  unfold near at hl;rw[if_pos z]at hl;omega
 have ge2:2<=(kids par N v).length:=by
  unfold near at hl;rw[if_neg v0]at hl;omega
 have c12:c1≠c2:=fun z=>by
  obtain⟨u,hu,hne⟩:=other tN ge2 c1;exact t3 ⟨u,hu,hne,z▸hne⟩
 refine(qV (c1=e)).elim (fun ec=>?_) (fun ec=>?_)
 rotate_left
 ·exact step c1 k1 ec (fun z=>c12 (nQ hp hg k1 k2 (by rw[<-z];exact iJ hp a2 a1) o2)) (nu k1 c12)
 refine(qV (c2=g)).elim (fun gc=>?_) (fun gc=>?_)
 rotate_left
 ·obtain⟨d,d1,d2,d3,d4⟩:=down hp lost (e:=g) he _ c2 (aB _) b1 (fun z=>by
   rcases z with⟨z,_⟩ |⟨z,_⟩
   ·omega
   ·exact c12 (nQ hp he k1 k2 o1 z))
  refine⟨d,d1,d2,?_,?_⟩
  ·rw[d4,lD hp b1 b2,decide_eq_false (fun z=>c12 (nQ hp he k1 k2 o1 (by rw[<-z];exact iJ hp b2 b1))),bM,b3]
  ·rw[d3,lD hp b1 b2,decide_eq_false gc,bM,b3]
 have hv1:1<=v:=by omega
 have hw:=hp v hv1 hv;have h1:=hp c1 a2 a1;have h2:=hp c2 b2 b1;have we:on par e v=on par e (par v):=by rw[jb hp hv1 hv,decide_eq_false (by omega),bM]
 have wg:on par g v=on par g (par v):=by rw[jb hp hv1 hv,decide_eq_false (by omega),bM]
 by_cases hcw:cp (par v)
 ·exact⟨par v,by omega,hcw,we.symm,wg.symm⟩
 have hlw:=lost (par v) (by omega) hcw;have kw:2<=(kids par N (par v)).length:=by
  unfold near at hlw;split at hlw<;>omega
 obtain⟨u,hu,hne⟩:=other tN kw v;obtain⟨u1,u2,u3⟩:=d8.mp hu;have h3:=hp u u2 u1;have off:∀{x},x<N->1<=x->par x=v->on par u x=false/\u≠x:=fun{x} x1 x2 x3=>by
  have hux:u≠x:=fun z=>by rw[<-z,u3]at x3;omega
  refine⟨?_,hux⟩;rw[jb hp x2 x1,decide_eq_false (fun z=>hux z.symm),bM,x3,jb hp hv1 hv,decide_eq_false (fun z=>hne z.symm),bM];cases q:on par u (par v)with
  |false=>rfl
  |true=>have :=ou hp _ (by omega) q;omega
 obtain⟨f1,f2⟩:=off a1 a2 a3;obtain⟨f3,f4⟩:=off b1 b2 b3;rw[ec]at f1 f2;rw[gc]at f3 f4;obtain⟨d,d1,d2,d3,d4⟩:=down hp lost (e:=e) hg _ u (aB _) u1 (fun z=>by
  rcases z with⟨z,_⟩ |⟨z,_⟩
  ·omega
  ·rw[f3]at z;cases z)
 refine⟨d,d1,d2,?_,?_⟩
 ·rw[d3,lD hp u1 u2,decide_eq_false f2,bM,u3,we]
 ·rw[d4,lD hp u1 u2,decide_eq_false f4,bM,u3,wg]
end
end Bm
namespace Bt
open PySem R
noncomputable def yh:List Str:=["_law_parents","_law_nodes_here","_law_seed","_law_left","_law_free"]
noncomputable def qi:List Str:=["_law_parents","_law_nodes_here","_law_seed","_law_left","_law_free","_law_table","_law_number","_law_lost","_law_like","_law_near"]
noncomputable def m4:CB:=
  (.cons (.ret (.var 5))
  .nil)
noncomputable def k6:CB:=
  (.cons (.expr (.meth1 .append (.var 5) (.tup (.cons (.call "_law_name" (.cons (.bfn .len (.cons (.var 5) .nil)) (.cons (.var 2) .nil))) (.cons (.idx (.var 1) (.var 6)) .nil)))))
  .nil)
noncomputable def k7:CB:=
  (.cons (.iff (.and (.cmp .Eq (.var 8) (.con (.int 0))) (.cmp .Lt (.bfn .len (.cons (.var 5) .nil)) (.bin .Add (.bin .Sub (.con (.int 40)) (.bfn .len (.cons (.var 1) .nil))) (.var 6))))
  k6
  .nil)
  .nil)
noncomputable def iH:CB:=
  (.cons (.expr (.meth1 .append (.var 5) (.tup (.cons (.call "_law_name" (.cons (.bfn .len (.cons (.var 5) .nil)) (.cons (.var 2) .nil))) (.cons (.idx (.var 1) (.var 6)) .nil)))))
  k7)
noncomputable def k9:CB:=
  (.cons (.iff (.and (.cmp .Gt (.var 9) (.con (.int 2))) (.cmp .Eq (.var 7) (.con (.int 0))))
  (.cons (.cont)
  .nil)
  .nil)
  iH)
noncomputable def fV:CB:=
  (.cons (.asg (.name 9) (.bin .Add (.bfn .len (.cons (.comp ["_law_one"] [6] (.name 0) (.seq (.cut (.var 0) (.yes (.con (.int 1))) .no)) (.yes (.cmp .Eq (.var 0) (.var 1))) (.var 0)) .nil)) (.bfn .int (.cons (.cmp .Gt (.var 6) (.con (.int 0))) .nil))))
  k9)
noncomputable def jG:CB:=
  (.cons (.asg (.name 3) (.bin .FloorDiv (.var 3) (.con (.int 10))))
  .nil)
noncomputable def gM:CB:=
  (.cons (.asg (.name 8) (.bin .Mod (.bin .FloorDiv (.var 3) (.con (.int 2))) (.con (.int 5))))
  jG)
noncomputable def la:CB:=
  (.cons (.iff (.and (.var 4) (.cmp .GtE (.var 3) (.con (.int 10))))
  (.cons (.asg (.name 7) (.bin .Mod (.var 3) (.con (.int 2))))
  gM)
  .nil)
  fV)
noncomputable def lb:CB:=
  (.cons (.asg (.name 8) (.bin .Mod (.bin .FloorDiv (.var 2) (.bin .Add (.var 6) (.con (.int 5)))) (.con (.int 5))))
  la)
noncomputable def m5:CB:=
  (.cons (.forr (.name 6) (.range1 (.bfn .len (.cons (.var 1) .nil)))
  (.cons (.asg (.name 7) (.bin .Mod (.bin .FloorDiv (.var 2) (.bin .Add (.var 6) (.con (.int 3)))) (.con (.int 2))))
  lb))
  m4)
noncomputable def qF:CB:=
  (.cons (.asg (.name 5) (.lst .nil))
  m5)
noncomputable def zS:List Str:=["_law_script","_law_start"]
noncomputable def sx:List Str:=["_law_script","_law_start","_law_parents","_law_many","_law_free","_law_seed","_law_owners_here","_law_left","_law_cell","_law_nodes_here","_law_branches","_law_edge","_law_pair","_law_places","_law_table","_law_at"]
noncomputable def m6:CB:=
  (.cons (.ret (.tup (.cons (.bin .Add (.cut (.var 14) (.yes (.var 15)) .no) (.cut (.var 14) .no (.yes (.var 15)))) (.cons (.bfn .sortl (.cons (.var 9) .nil)) (.cons (.bfn .sortt (.cons (.var 10) .nil)) .nil)))))
  .nil)
noncomputable def m8:CB:=
  (.cons (.asg (.name 15) (.bin .Mod (.bin .FloorDiv (.var 5) (.con (.int 11))) (.bfn .len (.cons (.var 14) .nil))))
  m6)
noncomputable def oV:CB:=
  (.cons (.asg (.name 14) (.call "_law_copies" (.cons (.var 2) (.cons (.var 9) (.cons (.var 5) (.cons (.var 7) (.cons (.var 4) .nil)))))))
  m8)
noncomputable def lZ:CB:=
  (.cons (.expr (.meth1 .append (.var 10) (.tup (.cons (.idx (.var 12) (.con (.int 0))) (.cons (.idx (.var 12) (.con (.int 1))) (.cons (.bfn .tuple (.cons (.var 13) .nil)) .nil))))))
  .nil)
noncomputable def l6:CB:=
  (.cons (.asgc 13 (.comp ["_law_place"] [11,6] (.name 0) (.range1 (.bfn .len (.cons (.var 6) .nil))) (.yes (.cmp .Eq (.idx (.var 2) (.var 0)) (.var 1))) (.var 0)))
  lZ)
noncomputable def oW:CB:=
  (.cons (.forr (.name 11) (.range2 (.con (.int 1)) (.bfn .len (.cons (.var 2) .nil)))
  (.cons (.asg (.name 12) (.bfn .sortl (.cons (.lst (.cons (.idx (.var 9) (.var 11)) (.cons (.idx (.var 9) (.idx (.var 2) (.var 11))) .nil))) .nil)))
  l6))
  oV)
noncomputable def oX:CB:=
  (.cons (.asg (.name 10) (.lst .nil))
  oW)
noncomputable def oY:CB:=
  (.cons (.asg (.name 9) (.call "_law_nodes" (.cons (.var 2) (.cons (.var 6) (.cons (.call "_law_mixed" (.cons (.var 8) (.cons (.con (.int 2)) .nil))) (.cons (.bin .FloorDiv (.var 8) (.con (.int 7))) (.cons (.var 4) .nil)))))))
  oX)
noncomputable def oZ:CB:=
  (.cons (.asg (.name 8) (.call "_law_cell_at" (.cons (.var 0) (.cons (.con (.int 1)) .nil))))
  oY)
noncomputable def o4:CB:=
  (.cons (.asg (.tup (.cons (.name 6) (.cons (.name 7) .nil))) (.call "_law_owners" (.cons (.var 3) (.cons (.bin .Mod (.var 5) (.con (.int 10007))) (.cons (.bin .FloorDiv (.call "_law_cell_at" (.cons (.var 0) (.cons (.con (.int 0)) .nil))) (.con (.int 98))) (.cons (.var 4) .nil))))))
  oZ)
noncomputable def o5:CB:=
  (.cons (.asg (.name 5) (.call "_law_mixed" (.cons (.call "_law_cell_at" (.cons (.var 0) (.cons (.con (.int 0)) .nil))) (.cons (.con (.int 1)) .nil))))
  o4)
noncomputable def o6:CB:=
  (.cons (.asg (.name 4) (.cmp .Eq (.bin .Mod (.call "_law_cell_at" (.cons (.var 0) (.cons (.con (.int 0)) .nil))) (.con (.int 2))) (.con (.int 1))))
  o5)
noncomputable def sM:CB:=
  (.cons (.asg (.tup (.cons (.name 2) (.cons (.name 3) .nil))) (.call "_law_grown" (.cons (.var 0) (.cons (.var 1) .nil))))
  o6)
end Bt
namespace Bt
open PySem PySem.Spec PyProof.Rows L2 R Cp Lt Kc Mt
structure Cb(H:Hp)(seed:Int)(ys:List V)(N:Nat)(vv:List Nat)(cs:List V):Prop where
 len:cs.length=vv.length
 at_:∀(i:Nat) c,cs[i]? =some c->∃b,c=.ref b/\H b=some (.tup [.str (nmB seed i),ys.getD (vv.getD i 0) .non])
 lt:∀v∈vv,v<N
theorem Cb.tk{seed:Int}{N:Nat}{vv:List Nat}(d:Cb H seed ys N vv cs)(t:K32.Tk H H'):Cb H' seed ys N vv cs:=
 {d with at_:=fun i c e=>let⟨b,h1,h2⟩:=d.at_ i c e;⟨b,h1,t _ _ h2⟩}
theorem Cb.snoc{seed:Int}{N:Nat}{vv:List Nat}(d:Cb H seed ys N vv cs)(hb:H b=some (.tup [.str (nmB seed cs.length),ys.getD v .non]))(hv:v<N):Cb H seed ys N (vv++[v]) (cs++[.ref b]):=by
 refine⟨by simp[d.len],fun i c e=>?_,fun w hw=>?_⟩
 ·rw[getD_snoc]
  by_cases hi:i<cs.length
  ·rw[cF hi]at e
   rw[if_pos (by rw[<-d.len];exact hi)];exact d.at_ i c e
  ·rw[bS (by omega)]at e
   have hi2:i=cs.length:=by
    have :=(aC.mp e).1
    simp at this;omega
   subst hi2;rw[d.len,if_neg (dk _),if_pos rfl];simp at e;subst e;rw[<-d.len];exact⟨b,rfl,hb⟩
 ·rcases cP.mp hw with hw|hw
  ·exact d.lt w hw
  ·rw[a6.mp hw];exact hv
noncomputable def uu:Sp:=fun vs H Q _=>∃(pa nl:Addr)(seed left:Int)(free:Bool)(ps:List Nat)(ys:List V),vs=[.ref pa,.ref nl,.int seed,.int left,.bl free]/\H pa=some (.lst (iN ps))/\H nl=some (.lst ys)/\ys.length=ps.length/\1<=ps.length/\ps.length<=31/\(∀v,1<=v->v<ps.length->ps.getD v 0<v)/\
 ∀(H':Hp)(t:Addr)(cs:List V)(vv:List Nat),aL H H'->H t=none->H' t=some (.lst cs)->cs.length<=40->cs≠[]->Cb H' seed ys ps.length vv cs->(∀v,v<ps.length->Bm.near (fn ps) ps.length v<=2->v∈vv)->Q (.ref t) H'
noncomputable abbrev putE:CE:=.meth1 .append (.var 5) (.tup (.cons (.call "_law_name" (.cons (.bfn .len (.cons (.var 5) .nil)) (.cons (.var 2) .nil))) (.cons (.idx (.var 1) (.var 6)) .nil)))
section
variable {G:Gam}{K:ah}{E:XS}
theorem GY(g:G.fn "_law_name" 2=some (spNm,[])){t:Addr}{seed:Int}{vv:List Nat}{N:Nat}{a d e f x y:Option V}{Q:VK}(ft:H t=none)(s:aL H H1)(et:H1 t=some (.lst cs))(en:H1 nl=some (.lst ys))(hi:i<ys.length)(hN:ys.length=N)(hl:cs.length<40)(cb:Cb H1 seed ys N vv cs)
  (q:∀H2 b,aL H H2->H2 t=some (.lst (cs++[.ref b]))->H2 nl=some (.lst ys)->Cb H2 seed ys N (vv++[i]) (cs++[.ref b])->Q .non H2)(ntn:t≠nl):
  wpE G K E putE [a,some (.ref nl),some (.int seed),d,e,some (.ref t),some (.int i),f,x,y] H1 Q:=by
 walk_at "wp"
 refine⟨.inl ⟨rfl,_,SqL.of et⟩,_,_,g,Or.inl ⟨t,cs,rfl,.inl (SqL.of et),?_⟩⟩;refine⟨cs.length,seed,rfl,by omega,?_⟩;have hy:ys[i]? =some (ys.getD i .non):=by rw[ae,aa hi];rfl
 refine .inl ⟨nl,ys,i,_,rfl,rfl,SqL.of en,cG hy,short (by simp),fun b hb=>?_⟩;generalize hX:upd H1 b _=H2;obtain⟨s2,eb⟩:=jw hX hb;clear hX;have et2:=s2 _ _ et;refine⟨t,cs,_,rfl,rfl,et2,K32.uW (by omega),?_⟩;have tk:K32.Tk H2 (upd H2 t (.lst (cs++[.ref b]))):=K32.rE et2;refine q _ b (dG (s.trans s2) ft) ao ?_ ((cb.tk (K32.Tk.of s2)).tk tk |>.snoc (tk _ _ eb) (by omega));rw[bo (bQ ntn)];exact s2 _ _ en
theorem HQ{ps:List Nat}(h1:1<=ps.length):((iN (ps.drop 1)).filter fun v=>match v with |.int j=>decide (j=(i:Int)) |_=>false).length=(Bm.kids (fn ps) ps.length i).length:=by
 have e1:iN (ps.drop 1)=(aw (ps.length-1)).map fun m=>V.int ((ps.getD (m+1) 0:Nat):Int):=by
  unfold iN;apply bg
  ·simp
  ·intro j a b
   simp only[ai,da]at a;simp only[aY,List.getElem_drop,eF];rw[ae,aa (by omega)];congr 2;simp only[Option.getD_some];congr 1;omega
 have e2:aw ps.length=0::(aw (ps.length-1)).map Nat.succ:=by
  conv =>lhs;rw[show ps.length=(ps.length-1)+1 by omega]
  exact D7
 unfold Bm.kids;rw[e1,e2,jd,if_neg (by simp),jK,jK,ai,ai];congr 1;refine lP fun m _=>?_;show decide (((ps.getD (m+1) 0:Nat):Int)=(i:Int))=decide (1<=m.succ/\fn ps m.succ=i);rw[bF,decide_eq_true_eq,decide_eq_true_eq];constructor
 ·intro h;exact⟨by omega,by show ps.getD (m+1) 0=i;omega⟩
 ·rintro⟨_,h⟩
  have h:ps.getD (m+1) 0=i:=h;omega
theorem Eh(g:G.fn "_law_name" 2=some (spNm,[])):Sat G K uu qF qi:=by
 rintro vs H Q E ⟨pa,nl,seed,left,free,ps,ys,rfl,ea,en,hyl,hp1,hp31,hpar,q⟩;unfold qF;change wpB G K _ _ _ [some (.ref pa),some (.ref nl),some (.int seed),some (.int left),some (.bl free),none,none,none,none,none] H;walk_at "wp";refine⟨short (by simp),fun t ht=>?_⟩;have s1:aL H (upd H t (.lst [])):=ax ht;have et:upd H t (.lst []) t=some (.lst []):=ao;have ntn:t≠nl:=fun z=>by rw[z,en]at ht;cases ht
 generalize upd H t (.lst [])=H1 at s1 et⊢;unfold m5;walk_at "wp";refine fQ ?_;walk_at "wp";refine Or.inl ⟨nl,_,rfl,.inl (SqL.of (s1 _ _ en)),_,rfl,by omega,by omega,?_⟩;rw[hyl,aH];refine K32.Ar dv (fun i σ H'=>aL H H'/\∃(cs:List V)(vv:List Nat)(left:Int)(u x y z:Option V),H' t=some (.lst cs)/\Cb H' seed ys ps.length vv cs/\cs.length+ps.length<=40+i/\(i=ps.length->cs≠[])/\(∀v,v<i->Bm.near (fn ps) ps.length v<=2->v∈vv)/\σ=[some (.ref pa),some (.ref nl),some (.int seed),some (.int left),some (.bl free),some (.ref t),u,x,y,z])
  ⟨s1,[],[],left,none,none,none,none,et,⟨rfl,fun i c e=>by simp at e,fun v hv=>by cases hv⟩,by simp;omega,(fun h=>by omega),(fun v hv=>absurd hv (c5 _)),rfl⟩ (fun _ _ _ _ _=>trivial) ?_ ?_
 ·rintro i x σ H2 H3 D2 hi ⟨s2,cs,vv,left,u,x',y',z',et,cb,hc40,_,hvv,rfl⟩ rfl s3 hD hC
  have et:=s3 _ _ et;have cb:=cb.tk (K32.Tk.of s3);have s2:=s2.trans s3;have en3:=s2 _ _ en
  --the last rows,whatever was drawn
  have rest:∀(lf ls lk:Int),wpB G K (fun _=>E) fV D2 [some (.ref pa),some (.ref nl),some (.int seed),some (.int lf),some (.bl free),some (.ref t),some (.int i),some (.int ls),some (.int lk),z'] H3:=by
   intro lf ls lk;unfold fV;walk_at "wp";have ec:pE (iN ps) (some 1) none=iN (ps.drop 1):=by
    unfold pE iN;rw[HT.uA,show HT.sIx (ps.map fun k:Nat=>V.int (k:Int)).length 0 (some 1)=min 1 (ps.map fun k:Nat=>V.int (k:Int)).length from HT.pX _ _ 1,ai,show min 1 ps.length=1 by omega,iP (by simp),List.map_drop]
   refine cS ⟨_,rfl,_,rfl,.inl ⟨pa,_,rfl,SqL.of (s2 _ _ ea),fun l hl=>.inl ⟨l,rfl,⟨_,SqL.of ao⟩,?_⟩⟩⟩;rw[ec];generalize hX:upd H3 l _=H4;obtain⟨s4,el⟩:=jw hX hl;clear hX;refine nS (cX (xs:=iN (ps.drop 1))) (K32.dA (by rw[cK,da];omega)) (fun H5 s5=>s5.seq (SqL.of el)) (fun v=>match v with |.int j=>decide (j=(i:Int)) |_=>false) id (fun τ=>∃u,τ=[u,some (.int i)]) ⟨none,rfl⟩ ?_ ?_
   ·rintro y τ H5 Rt Rf hy ⟨u,rfl⟩ s5 kt kf
    unfold iN at hy;obtain⟨j,_,rfl⟩:=ay.mp hy;walk_at "wp";by_cases h:(j:Int)=(i:Int)
    ·rw[decide_eq_true h,if_pos rfl]
     exact kt _ _ ⟨_,rfl⟩ (aL.refl _) (decide_eq_true h)
    ·rw[decide_eq_false h,if_neg ak]
     exact kf _ _ ⟨_,rfl⟩ (aL.refl _) (decide_eq_false h)
   intro H5 l2 s5 hl2;have hcnt:((iN (ps.drop 1)).filter fun v=>match v with |.int j=>decide (j=(i:Int)) |_=>false).length<=30/\(i+1=ps.length->((iN (ps.drop 1)).filter fun v=>match v with |.int j=>decide (j=(i:Int)) |_=>false)=[])/\((iN (ps.drop 1)).filter fun v=>match v with |.int j=>decide (j=(i:Int)) |_=>false).length=(Bm.kids (fn ps) ps.length i).length:=by
    refine⟨?_,?_,HQ hp1⟩
    ·refine aR (eK _ _) ?_
     rw[cK,da];omega
    ·intro hN
     rw[n8];intro v hv;unfold iN at hv;obtain⟨j,hj,rfl⟩:=ay.mp hv;obtain⟨m,hm,rfl⟩:=cE.mp hj;rw[da]at hm;have :=hpar (1+m) (by omega) (by omega);rw[List.getElem_drop];rw[ae,aa (by omega)]at this;have this:ps[1+m]<1+m:=this;show ¬decide (((ps[1+m]:Nat):Int)=(i:Int))=true;rw[decide_eq_true_eq];omega
   rw[dy];generalize((iN (ps.drop 1)).filter fun v=>match v with |.int j=>decide (j=(i:Int)) |_=>false)=fl at hcnt;have s6:=s5.trans (ax (o:=.lst fl) hl2);have el2:upd H5 l2 (.lst fl) l2=some (.lst fl):=ao;have et6:=s6 _ _ (s4 _ _ et);have cb6:=(cb.tk (K32.Tk.of s4)).tk (K32.Tk.of s6);have s7:=s2.trans (s4.trans s6);generalize upd H5 l2 (.lst fl)=H6 at el2 et6 cb6 s7⊢;refine Or.inl ⟨l2,_,rfl,.inl (SqL.of el2),?_⟩;refine .inr ⟨_,rfl,vE.mpr ?_⟩;unfold k9;walk_at "wp";have en6:=s7 _ _ en
   --a copy is put
   have put:wpB G K (fun _=>E) iH D2 [some (.ref pa),some (.ref nl),some (.int seed),some (.int lf),some (.bl free),some (.ref t),some (.int i),some (.int ls),some (.int lk),some (.int ((fl.length:Int)+if decide (0<(i:Int))=true then 1 else 0))] H6:=by
    unfold iH;refine GY (N:=ps.length) (vv:=vv) g ht s7 et6 en6 (by omega) hyl (by omega) cb6 (fun H7 b s8 et7 en7 cb7=>?_) ntn;unfold k7;walk_at "wp";have put1:∀v,v<i+1->Bm.near (fn ps) ps.length v<=2->v∈vv++[i]:=fun v hv hn=>by
     rcases Ct.mp hv with h|h
     ·exact eS _ (hvv v h hn)
     ·rw[h];simp
    have done:D2.nx [some (.ref pa),some (.ref nl),some (.int seed),some (.int lf),some (.bl free),some (.ref t),some (.int i),some (.int ls),some (.int lk),some (.int ((fl.length:Int)+if decide (0<(i:Int))=true then 1 else 0))] H7:=hD _ _ ⟨s8,_,_,_,_,_,_,_,et7,cb7,by simp;omega,(fun _=>by simp),put1,rfl⟩;by_cases h0:lk=0
    ·rw[decide_eq_true h0,if_pos rfl]
     refine Or.inl ⟨t,_,rfl,.inl (SqL.of et7),Or.inl ⟨nl,ys,rfl,.inl (SqL.of en7),?_⟩⟩;refine Gh.mpr (vE.mpr (Dp.mpr ⟨_,rfl,?_⟩));by_cases hlt:(((cs++[V.ref b]).length:Nat):Int)<40-(ys.length:Int)+(i:Int)
     ·rw[decide_eq_true hlt,if_pos rfl]
      have hl7:(cs++[V.ref b]).length=cs.length+1:=by simp
      unfold k6;refine GY (N:=ps.length) (vv:=vv++[i]) (cs:=cs++[V.ref b]) g ht s8 et7 en7 (show i<ys.length by omega) hyl (by omega) cb7 (fun H8 b2 s9 et8 en8 cb8=>?_) ntn;exact hD _ _ ⟨s9,_,_,_,_,_,_,_,et8,cb8,by simp at hlt⊢;omega,(fun _=>by simp),(fun v hv hn=>eS _ (put1 v hv hn)),rfl⟩
     ·rw[decide_eq_false hlt,if_neg ak]
      exact done
    ·rw[decide_eq_false h0,if_neg ak]
     exact done
   by_cases h2:2<(fl.length:Int)+if decide (0<(i:Int))=true then 1 else 0
   ·rw[decide_eq_true h2,if_pos rfl]
    by_cases hls:ls=0
    ·rw[decide_eq_true hls,if_pos rfl]
     refine hC _ _ ⟨s7,cs,vv,_,_,_,_,_,et6,cb6,by omega,(fun hN=>?_),(fun v hv hn=>?_),rfl⟩
     ·rw[hcnt.2.1 hN]at h2
      exfalso
      split at h2<;>simp at h2
     ·rcases Ct.mp hv with h|h
      ·exact hvv v h hn
      ·exfalso
       rw[h]at hn;unfold Bm.near at hn;rw[<-hcnt.2.2]at hn;by_cases h0:i=0
       ·rw[if_pos h0]at hn
        rw[if_neg (by simp;omega)]at h2;omega
       ·rw[if_neg h0]at hn
        rw[if_pos (by simp;omega)]at h2;omega
    ·rw[decide_eq_false hls,if_neg ak]
     exact put
   ·rw[decide_eq_false h2,if_neg ak]
    exact put
  walk_at "wp"
  simp only[eY];refine⟨⟨by omega,by omega⟩,by decide,?_⟩;unfold lb;walk_at "wp";refine⟨⟨by omega,by omega⟩,by decide,?_⟩;unfold la;walk_at "wp";refine⟨free,rfl,?_⟩;have more:wpB G K (fun _=>E) gM {nx:=wpB G K (fun _=>E) fV D2,rt:=D2.rt,bk:=D2.bk,ct:=D2.ct} [some (.ref pa),some (.ref nl),some (.int seed),some (.int left),some (.bl free),some (.ref t),some (.int i),some (.int (left%2)),some (.int (seed/((i:Int)+5)%5)),z'] H3:=by
   unfold gM;walk_at "wp";refine⟨⟨by decide,by decide⟩,by decide,?_⟩;unfold jG;walk_at "wp";exact⟨⟨by decide,by decide⟩,rest _ _ _⟩
  cases free with
  |true=>
   rw[if_pos rfl];split
   ·exact⟨by decide,more⟩
   ·exact rest _ _ _
  |false=>
   rw[if_neg ak,if_neg ak];exact rest _ _ _
 ·rintro σ H2 ⟨s2,cs,vv,left,u,x',y',z',et,cb,hc40,hne,hvv,rfl⟩
  unfold m4;walk_at "wp";exact q H2 t cs vv s2 ht et (by omega) (hne rfl) cb hvv
end
end Bt
namespace K32
open PySem R
noncomputable def p_tree:List Str:=["table"]
noncomputable def Hx:List Str:=["table","copies"]
noncomputable def AI:CB:=
  (.cons (.ret (.call "grown" (.cons (.var 1) .nil)))
  .nil)
noncomputable def AJ:CB:=
  (.cons (.iff (.cmp .Eq (.bfn .len (.cons (.var 1) .nil)) (.con (.int 0)))
  (.cons (.ret (.tup (.cons (.lst .nil) (.cons (.lst .nil) .nil))))
  .nil)
  .nil)
  AI)
noncomputable def AK:CB:=
  (.cons (.expr (.call "refuse_clash" (.cons (.var 1) .nil)))
  AJ)
noncomputable def I0:CB:=
  (.cons (.asg (.name 1) (.call "table_list" (.cons (.var 0) .nil)))
  AK)
end K32
namespace K32
open PySem PySem.Spec PyProof.Rows L2 R Cp Lt Kc K21 K22 Lm M5
theorem zC{x:V}(e:dB H x=true)(el:H' l=some (.lst zs))(hr:zs.map (cd H')=rowsOf H x)(tt:dB H' (.ref l)=true):rowsOf H' (.ref l)=rowsOf H x/\srt H' (.ref l)=zs:=by
 have hz:dZ (H' l)=some zs:=by rw[el];rfl
 obtain⟨l',zs',ez,z1,z2,z3,z4,z5⟩:=eG tt;cases ez;rw[hz]at z1;cases z1;obtain⟨a,ys,rfl,h1,h2,h3,h4,h5⟩:=eG e;have ft:∀l:List V,l.filter (fun _=>true)=l:=fun l=>List.filter_eq_self.mpr fun _ _=>rfl;have r1:(_root_.Q.sortBy V.non (ys.map (aU H)) ys).map (aU H)=_root_.Q.sortBy ("":Str) (ys.map (aU H)) (ys.map (aU H)):=by
  have :=_root_.Q.sg V.non (aU H) (fun _=>true) h4
  rwa [ft,ft]at this
 have r2:(_root_.Q.sortBy V.non (zs.map (aU H')) zs).map (aU H')=_root_.Q.sortBy ("":Str) (zs.map (aU H')) (zs.map (aU H')):=by
  have :=_root_.Q.sg V.non (aU H') (fun _=>true) z4
  rwa [ft,ft]at this
 have en:zs.map (aU H')=_root_.Q.sortBy ("":Str) (ys.map (aU H)) (ys.map (aU H)):=by
  rw[<-r1,<-tF h1];have :=congrArg (List.map Prod.fst) hr;unfold rowsOf at this;rw[bq,bq]at this;exact this
 have p2:=_root_.Q.fN V.non z4 (ys:=zs) (by simp);have e2:_root_.Q.sortBy V.non (zs.map (aU H')) zs=zs:=by
  refine uV (ES z4) (fun a ha=>p2.mem_iff.mp ha) (fun a ha=>ha) ?_;rw[r2];refine _root_.Q.j7 (_root_.Q.fN ("":Str) z4 rfl) (_root_.Q.iI z4) ?_;rw[en];exact _root_.Q.iI h4
 have e3:srt H' (.ref l)=zs:=by rw[tF hz,e2]
 refine⟨?_,e3⟩;show(srt H' (.ref l)).map (cd H')=_;rw[e3];exact hr
noncomputable def intOf:V->Int
 |.int i=>i
 |_=>0
theorem rO(h:∀z∈zs,cA z=true):(zs.map intOf).map V.int=zs/\∀x∈zs.map intOf,x=0\/x=1:=by
 constructor
 ·rw[bq]
  conv =>rhs;rw[<-dy zs]
  refine bE fun z hz=>?_;rcases gB (h z hz)with e|e<;>rw[e]<;>rfl
 ·intro x hx
  obtain⟨z,hz,rfl⟩:=ay.mp hx;rcases gB (h z hz)with e|e<;>rw[e]
  ·exact .inl rfl
  ·exact .inr rfl
noncomputable def rI(R:List (Str×List V)):List (List Int):=R.map fun p=>p.2.map intOf
theorem cps_of(el:H l=some (.lst zs))(tt:dB H (.ref l)=true):Cps H l zs (count H (.ref l)) (rI (zs.map (cd H))):=by
 have hz:dZ (H l)=some zs:=by rw[el];rfl
 obtain⟨l',zs',ez,z1,z2,z3,z4,z5⟩:=eG tt;cases ez;rw[hz]at z1;cases z1;refine⟨el,z2,by simp[rI],?_,fun i y e=>?_,fun r hr=>?_⟩
 ·cases zs with
  |nil=>
   show(match dZ (H l)with |some (y::_)=>cq H y|_=>0)<=60;rw[hz];exact aX _
  |cons y r=>
   rw[<-z5 y (.head _)];obtain⟨_,_,_,_,_,_,_,_,h60,_,_,h8⟩:=gL (z3 y (.head _));rw[h8];exact h60
 ·obtain⟨b,r,rfl,k1,k2,k3,k4⟩:=jX (z3 y (aD e))
  refine⟨b,_,r,rfl,k1,?_⟩;have er:(rI (zs.map (cd H))).getD i []=(rH H (.ref b)).map intOf:=by
   unfold rI;rw[ae,aq,aq,e];rfl
  rw[er,(rO k4).1];exact k2
 ·obtain⟨p,hp,rfl⟩:=ay.mp hr
  obtain⟨y,hy,rfl⟩:=ay.mp hp;obtain⟨b,r,rfl,k1,k2,k3,k4⟩:=jX (z3 y hy);refine⟨?_,(rO k4).2⟩;rw[ai,<-z5 _ hy];exact k3
theorem gr_free{T:Tb}{p:Addr}(g:Gr T H H')(t:Tab T H')(h:H' p=none):H p=none:=by
 cases e:H p with
 |none=>rfl
 |some o=>
  have hp:p≠T.P:=fun z=>by
   rw[z]at h;rcases t with t|⟨_,_,_,_,_,t,_⟩<;>(rw[h]at t;cases t)
  rw[g.keep p o hp e]at h;cases h
theorem Cps.gr{T:Tb}(d:Cps H c ys n rows)(g:Gr T H H')(tt:Tab T H):Cps H' c ys n rows:=
 {d with ec:=g.lst tt d.ec,at_:=fun i y e=>let⟨b,z,r,h1,h2,h3⟩:=d.at_ i y e;⟨b,z,r,h1,g.t8 tt h2,g.t8 tt h3⟩}
theorem r6.old{H0:Hp}{p:Addr}(g:r6 rows n H H' p)(f:∀p,H p=none->H0 p=none):r6 rows n H0 H' p:=by
 obtain⟨nl,bl,ks,bs,qs,h1,h2,h3,h4⟩:=g;exact⟨nl,bl,ks,bs,qs,h1,f _ h2,f _ h3,h4⟩
def TreeK(R:List (Str×List V))(n:Nat)(H H':Hp)(p:Addr):Prop:=
 (R=[]/\∃a b,H' p=some (.tup [.ref a,.ref b])/\H a=none/\H b=none/\a≠b/\H' a=some (.lst [])/\H' b=some (.lst []))\/(R≠[]/\r6 (rI R) n H H' p)
end K32
namespace K02
open PySem PySem.Spec PyProof.Rows L2 R Cp Lt Lm
noncomputable def rdD:V->D
 |.int i=>.int i
 |_=>.non
theorem isi_tup{Q:VK}(h:H l=some (.tup xs))(q:Q (.bl true) H):rBf K .isinstance [.ref l,.ty (Ty.t .tuple)] H Q:=by
 refine isi (yB h) .tuple ?_;have e:ja (tyName H (.ref l)) (Ty.t .tuple)=true:=by show ja (gu (H l)) "tuple"=true;rw[h];rfl
 rw[e];exact q
end K02
namespace K82
open PySem PySem.Spec PyProof.Rows L2 R Cp Lt Lm K02
noncomputable abbrev Row:=Str×List V
end K82
namespace K24
open PySem PySem.Spec PyProof.Rows L2 R Cp Lt Kc K21 K22 Lm
theorem vg{rows:List (Str×List V)}{i j:Int}:qt rows i j=true↔∀u v:Int,(u=0\/u=1)->(v=0\/v=1)->∃r∈rows,EN i r=u/\EN j r=v:=by
 unfold qt;rw[bC];constructor
 ·intro h u v hu hv
  have hm:(u,v)∈KP:=by
   unfold KP;rcases hu with rfl|rfl<;>rcases hv with rfl|rfl<;>simp
  obtain⟨r,hr,e⟩:=b9.mp (h (u,v) hm);exact⟨r,hr,of_decide_eq_true e⟩
 ·intro h k hk
  have hu:(k.1=0\/k.1=1)/\(k.2=0\/k.2=1):=by
   unfold KP at hk;simp only[aE,cJ,or_false]at hk;rcases hk with rfl|rfl|rfl|rfl<;>simp
  obtain⟨r,hr,e⟩:=h k.1 k.2 hu.1 hu.2;exact b9.mpr ⟨r,hr,decide_eq_true e⟩
end K24
namespace K84
open PySem PySem.Spec PyProof.Rows L2 R Cp Lt Kc K21 K22 K24 Lm
theorem tK{α:Type}[DecidableEq α]:∀{l m:List α},l.Nodup->m.Nodup->(∀x,x∈l↔x∈m)->l.Perm m
 | [],m,_,_,h=>by
  cases m with
  |nil=>exact .nil
  |cons x m=>exact nomatch(h x).mpr (.head _)
 |x::l,m,h1,h2,h=>by
  have hx:=(h x).mp (.head _);refine .trans (.cons x (tK (bN.mp h1).2 (h2.erase x) fun y=>?_)) (pO hx).symm;rw[h2.mem_erase_iff];constructor
  ·intro hy
   exact⟨fun e=>(bN.mp h1).1 (e▸hy),(h y).mp (.tail _ hy)⟩
  ·rintro⟨hne,hy⟩
   rcases aE.mp ((h y).mpr hy)with e|e
   ·exact absurd e hne
   ·exact e
end K84
namespace M6
def Ok(n:Nat)(v:List Int):Prop:=v.length=n/\∀x∈v,x=0\/x=1
theorem Ok.at{v:List Int}(h:Ok n v)(i:Nat):v.getD i 0=0\/v.getD i 0=1:=by
 rw[ae];cases e:v[i]? with
 |none=>exact .inl rfl
 |some x=>exact h.2 x (aD e)
def Mis(vs:List (List Int))(i j:Nat):Prop:=∃a b:Int,(a=0\/a=1)/\(b=0\/b=1)/\∀v∈vs,¬(v.getD i 0=a/\v.getD j 0=b)
theorem Mis.sub{vs ws:List (List Int)}(h:Mis vs i j)(s:∀w∈ws,w∈vs):Mis ws i j:=let⟨a,b,ha,hb,k⟩:=h;⟨a,b,ha,hb,fun w hw=>k w (s w hw)⟩
theorem Mis.flip{vs:List (List Int)}(h:Mis vs i j):Mis vs j i:=let⟨a,b,ha,hb,k⟩:=h;⟨b,a,hb,ha,fun w hw ⟨x,y⟩=>k w hw ⟨y,x⟩⟩
end M6
namespace K83
open PySem PySem.Spec PyProof.Rows L2 R Cp Lt Kc K84 Lm
theorem gI{α β:Type}{F:α->β->Prop}{l:List α}{m:List β}(p:Paired F l m):l.length=m.length:=by
 induction p with
 |nil=>rfl
 |cons _ _ ih=>rw[bB,bB,ih]
theorem wO{α β:Type}{F:α->β->Prop}{l:List α}{m:List β}(p:Paired F l m):∀{i:Nat}{a:α},l[i]? =some a->∃b,m[i]? =some b/\F a b:=by
 induction p with
 |nil=>intro i a h;cases h
 |cons h _ ih=>
  intro i a e;cases i with
  |zero=>cases e;exact⟨_,rfl,h⟩
  |succ i=>exact ih e
theorem vals_eq{ws:List V}{g:Nat->V}(hl:ws.length=n)(h:∀(i:Nat) v,ws[i]? =some v->v=g i):ws=(aw n).map g:=by
 apply fY
 intro i;cases e:ws[i]? with
 |none=>rw[aq,bL (by rw[aO];have :=A0.mp e;omega)];rfl
 |some v=>
  have :=(aC.mp e).1
  rw[aq,bP (by omega),h i v e];rfl
end K83
namespace K83
open PySem R
noncomputable def uE:List Str:=["table"]
noncomputable def mG:List Str:=["table","found"]
noncomputable def mT:CB:=
  (.cons (.asg (.name 1) (.call "clash" (.cons (.var 0) .nil)))
  (.cons (.iff (.cmp .IsNot (.var 1) (.con .none)) .hole .nil)
  .nil))
end K83
namespace K83
open PySem PySem.Spec PyProof.Rows L2 R Cp Lt Lm K02 K82
theorem pU(nd:ps.Nodup):(_root_.Q.cg [] ps ps).Pairwise fun a b=>_root_.Q.llt a b=true:=by
 unfold _root_.Q.cg _root_.Q.uI;split
 ·rename_i h
  rw[_root_.Q.range_getD]
  match ps,h with
  | [],_=>exact .nil
  | [x],_=>simp
  |_::_::_,h=>simp at h;omega
 ·rename_i h
  obtain⟨P,U,_⟩:=_root_.Q.eU (_root_.Q.Ej nd) (by omega:1<=ps.length);rw[cT];intro i j hi hj hij;have hj':j<ps.length:=by simpa[P.size]using hj
  have u:=U i j hij hj';rw[aY,aY];have e:∀(k:Nat)(hk:k<(_root_.Q.run (_root_.Q.ltL ps) (i2 ps.length)).toList.length),(_root_.Q.run (_root_.Q.ltL ps) (i2 ps.length)).toList[k]=_root_.Q.at' (_root_.Q.run (_root_.Q.ltL ps) (i2 ps.length)) k:=fun k hk=>by
   have hk':k<(_root_.Q.run (_root_.Q.ltL ps) (i2 ps.length)).size:=by simpa using hk
   simp[_root_.Q.at',hk']
  rw[e,e];exact u
theorem tM(nd:ps.Nodup)(h:i∈_root_.Q.uI ps):i<ps.length:=aK.mp ((_root_.Q.kJ nd).mem_iff.mp h)
theorem jv{α:Type}(d:α){ys:List α}(nd:ps.Nodup)(hl:ps.length=ys.length):(_root_.Q.cg d ps ys).Perm ys:=by
 unfold _root_.Q.cg;have h:=(_root_.Q.kJ nd).map fun i=>ys.getD i d;rw[hl,_root_.Q.range_getD]at h;exact h
theorem llt_no{a b:List Int}(h:_root_.Q.llt a b=true)(k:_root_.Q.llt b a=true):a=b:=by
 have c:=_root_.Q.rM h k;have :∀x:List Int,_root_.Q.llt x x=false:=fun x=>by
  induction x with
  |nil=>rfl
  |cons a x ih=>simp[_root_.Q.llt,ih]
 rw[this]at c;cases c
theorem Ep{α:Type}(d:α)(F:α->List Int){ys:List α}(nd:(ys.map F).Nodup):(_root_.Q.cg d (ys.map F) ys).map F=_root_.Q.cg [] (ys.map F) (ys.map F):=by
 unfold _root_.Q.cg;rw[bq];refine bE fun i hi=>?_;have :=tM nd hi;rw[ai]at this;show F (ys.getD i d)=_;rw[ae,ae,aq,aa this];rfl
theorem nK{α:Type}(d:α)(F:α->List Int){ys zs:List α}(nd:(ys.map F).Nodup)(p:ys.Perm zs):_root_.Q.cg d (ys.map F) ys=_root_.Q.cg d (zs.map F) zs:=by
 have nd2:=(p.map F).nodup_iff.mp nd;have pw:∀{ys:List α},(ys.map F).Nodup->(_root_.Q.cg d (ys.map F) ys).Pairwise fun a b=>_root_.Q.llt (F a) (F b)=true:=fun{ys} nd=>by
  have h:=pU nd;rw[<-Ep d F nd]at h;exact cU.mp h
 have p1:=jv d (ys:=ys) nd (by simp);have p2:=jv d (ys:=zs) nd2 (by simp);refine List.Perm.eq_of_pairwise (fun a b ha hb h k=>?_) (pw nd) (pw nd2) (p1.trans (p.trans p2.symm));have e:=llt_no h k;have ha':=p1.mem_iff.mp ha;have hb':=p.mem_iff.mpr (p2.mem_iff.mp hb);obtain⟨i,hi,rfl⟩:=cE.mp ha';obtain⟨j,hj,rfl⟩:=cE.mp hb';have :(ys.map F)[i]'(by simpa using hi)=(ys.map F)[j]'(by simpa using hj):=by rw[aY,aY];exact e
 have :=(dO nd).mp this
 subst this;rfl
theorem C5{α:Type}{F:V->α->Prop}{ks:List α}{d:α}(nd:ps.Nodup)(hl:ps.length=ys.length)(p:Paired F ys ks):Paired F (_root_.Q.cg .non ps ys) (_root_.Q.cg d ps ks):=by
 unfold _root_.Q.cg;have key:∀{is:List Nat},(∀i∈is,i<ys.length)->Paired F (is.map fun i=>ys.getD i .non) (is.map fun i=>ks.getD i d):=fun{is} h=>by
  induction is with
  |nil=>exact .nil
  |cons i is ih=>
   have hi:=h i aG;obtain⟨b,e,f⟩:=wO p (aa hi);refine .cons ?_ (ih fun j hj=>h j (aM _ hj));show F (ys.getD i .non) (ks.getD i d);rw[ae,ae,aa hi,e];exact f
 exact key fun i hi=>by rw[<-hl];exact tM nd hi
def GrQ(rows:List (List Int))(n:Nat)(qs:List Int):Prop:=M5.Grs n (K32.grp rows) qs/\0∉qs/\∀p,p<n->K32.grp rows p≠0->(K32.grp rows p:Int)∈qs
theorem GrQ.perm{ps:List Int}(a:GrQ rows n qs)(b:GrQ rows n ps):qs.Perm ps:=by
 have s:∀{qs ps:List Int},GrQ rows n qs->GrQ rows n ps->∀x∈qs,x∈ps:=fun{qs ps} a b x hx=>by
  obtain⟨p,hp,rfl⟩:=a.1.2 x hx;exact b.2.2 p hp fun z=>a.2.1 (by rw[z]at hx;exact hx)
 exact K84.tK a.1.1 b.1.1 fun x=>⟨s a b x,s b a x⟩
noncomputable def nd1(k:List Int):L2.D:=.tup (k.map .int)
noncomputable def brF(rows:List (List Int))(n:Nat)(q:Int):List Int:=_root_.Q.jM (M4.lo (M5.nA (K32.fr rows) n (K32.grp rows) q) (M5.nB (K32.fr rows) n (K32.grp rows) q),M4.hi (M5.nA (K32.fr rows) n (K32.grp rows) q) (M5.nB (K32.fr rows) n (K32.grp rows) q))
noncomputable def br1(rows:List (List Int))(n:Nat)(q:Int):L2.D:=.tup [nd1 (M4.lo (M5.nA (K32.fr rows) n (K32.grp rows) q) (M5.nB (K32.fr rows) n (K32.grp rows) q)),nd1 (M4.hi (M5.nA (K32.fr rows) n (K32.grp rows) q) (M5.nB (K32.fr rows) n (K32.grp rows) q)),nd1 (M5.plc n (M5.own (K32.grp rows) q.toNat))]
noncomputable def gD(rows:List (List Int))(n:Nat)(qs:List Int):L2.D:=
 .tup [.lst ((_root_.Q.cg [] (M5.fh (K32.fr rows) n (K32.grp rows) qs) (M5.fh (K32.fr rows) n (K32.grp rows) qs)).map nd1),.lst ((_root_.Q.cg 0 (qs.map (brF rows n)) qs).map (br1 rows n))]
noncomputable def qs0(rows:List (List Int))(n:Nat):List Int:=Classical.epsilon (GrQ rows n)
theorem CY{α:Type}{F:V->α->Prop}{g:α->L2.D}(f:∀v a,F v a->Rep K H (g a) v){ks:List α}(p:Paired F ys ks):eI K H (ks.map g) ys:=by
 induction p with
 |nil=>rfl
 |cons h _ ih=>exact⟨_,_,rfl,f _ _ h,ih⟩
theorem x9{k:List Int}(h:H a=some (.tup (k.map V.int))):Rep K H (nd1 k) (.ref a):=⟨a,_,rfl,SqT.of h,eI.ints k⟩
theorem Fd{p:Addr}(hf:∀p,p<n->K32.fr rows p=0\/K32.fr rows p=1)(g:K32.r6 rows n H H' p):Rep K H' (gD rows n (qs0 rows n)) (.ref p):=by
 obtain⟨nl,bl,ks,bs,qs,ep,_,_,_,h1,h2,h3,ik,bk,en,eb⟩:=g;have q:GrQ rows n qs:=⟨h1,h2,h3⟩;have q0:GrQ rows n (qs0 rows n):=zg (p:=GrQ rows n) ⟨qs,q⟩;have pm:=q.perm q0;have ndn:=M5.uO hf h1;have ndb:=M5.Cf hf h1;have e1:(M5.brK (K32.fr rows) n (K32.grp rows) qs).map _root_.Q.jM=qs.map (brF rows n):=by unfold M5.brK;rw[bq];rfl
 rw[e1]at ndb eb;have s1:_root_.Q.cg [] (M5.fh (K32.fr rows) n (K32.grp rows) qs) (M5.fh (K32.fr rows) n (K32.grp rows) qs)=_root_.Q.cg [] (M5.fh (K32.fr rows) n (K32.grp rows) (qs0 rows n)) (M5.fh (K32.fr rows) n (K32.grp rows) (qs0 rows n)):=by
  have :=nK [] id (ys:=M5.fh (K32.fr rows) n (K32.grp rows) qs) (zs:=M5.fh (K32.fr rows) n (K32.grp rows) (qs0 rows n)) (by rw[dy];exact ndn) (.cons _ (pm.map _))
  rwa [dy,dy]at this
 have s2:=nK (0:Int) (brF rows n) ndb pm;refine⟨p,_,rfl,SqT.of ep,_,_,rfl,⟨nl,_,rfl,SqL.of en,?_⟩,_,_,rfl,⟨bl,_,rfl,SqL.of eb,?_⟩,rfl⟩
 ·rw[<-s1]
  exact CY (fun v a ⟨x,e,h⟩=>by subst e;exact x9 h) (C5 ndn (gI ik).symm ik)
 ·rw[<-s2]
  refine CY (fun v q' ⟨a,x,y,z,e,e0,e1,e2,e3⟩=>?_) (C5 (d:=(0:Int)) ndb (by rw[ai];exact(gI bk).symm) bk);subst e;exact⟨a,_,rfl,SqT.of e0,_,_,rfl,x9 e1,_,_,rfl,x9 e2,_,_,rfl,x9 e3,rfl⟩
noncomputable def tD(n:Nat)(R:List K82.Row):L2.D:=if R=[]then .tup [.lst [],.lst []]else gD (K32.rI R) n (qs0 (K32.rI R) n)
theorem zu{R:List K82.Row}{p:Addr}(hr:∀l∈R,l.2.length=n/\∀y∈l.2,cA y=true)(hm:R≠[]->m=n)(t:K32.TreeK R m H H' p):Rep K H' (tD n R) (.ref p):=by
 unfold tD;rcases t with⟨h,a,b,ep,_,_,_,ea,eb⟩ |⟨h,g⟩
 ·rw[if_pos h]
  exact⟨p,_,rfl,SqT.of ep,_,_,rfl,⟨a,_,rfl,SqL.of ea,rfl⟩,_,_,rfl,⟨b,_,rfl,SqL.of eb,rfl⟩,rfl⟩
 ·rw[if_neg h]
  rw[hm h]at g;refine Fd (fun q hq=>?_) g;cases R with
  |nil=>exact absurd rfl h
  |cons l R=>
   obtain⟨h1,h2⟩:=hr l aG;have :=M6.Ok.at (n:=(l.2.map K32.intOf).length) ⟨rfl,(K32.rO h2).2⟩ q;exact this
section
variable {G:Gam}{K:ah}{C CS:Addr}{T:Tb}
noncomputable def Gk(T:Tb):Sp:=fun vs H Q _=>∃x,vs=[x]/\Kn4 H x/\Tab T H/\dB H x=true/\K22.NoC (K22.rowsOf H x) (count H x)/\∀H',Gr T H H'->Q .non H'
theorem wp_ref(g1:G.fn "clash" 1=some (K22.xU C T,[])):Sat G K (Gk T) mT mG:=by
 rintro vs H Q E ⟨x,rfl,hk,tb,e,nc,q⟩;unfold mT;change wpB G K _ _ _ [some x,none] H;walk_at "wp";refine⟨_,_,g1,x,rfl,hk,tb,fun _ H1 v gr rs=>?_,fun z=>by rw[e]at z;cases z⟩;rcases rs with⟨rfl,hc⟩ |⟨i,j,a,l,rfl,fi,ea,el⟩
 ·rw[if_neg (by simp)]
  exact q H1 gr
 ·have :=nc i j fi.ij fi.jn
  rw[fi.four]at this;cases this
noncomputable def xP(T:Tb):Sp:=fun vs H Q _=>∃x,vs=[x]/\Kn4 H x/\Tab T H/\dB H x=true/\K22.NoC (K22.rowsOf H x) (count H x)/\∀H' p,Gr T H H'->H p=none->K32.TreeK (K22.rowsOf H x) (count H x) H H' p->Q (.ref p) H'
theorem wp_tree(g1:G.fn "table_list" 1=some (xR C T,[]))(g2:G.fn "refuse_clash" 1=some (Gk T,[]))(g3:G.fn "grown" 1=some (K32.uo,[])):
  Sat G K (xP T) K32.I0 K32.Hx:=by
 rintro vs H Q E ⟨x,rfl,hk,tb,e,qc,qn⟩;unfold K32.I0;change wpB G K _ _ _ [some x,none] H;walk_at "wp";refine⟨_,_,g1,x,rfl,hk,tb,fun _ H1 l zs gr hl el cpd=>?_,fun z=>by rw[e]at z;cases z⟩;obtain⟨kn,tt,ct,rows⟩:=K22.vn e el cpd;obtain⟨ro,_⟩:=K32.zC e el rows tt;have cps:=K32.cps_of el tt;rw[ct,rows]at cps;have hlen:zs.length=(K22.rowsOf H x).length:=by rw[<-rows,ai]
 have tb1:=gr.tab tb;generalize K22.rowsOf H x=R at qn qc ro cps hlen;generalize count H x=n at qn qc ct cps;unfold K32.AK;walk_at "wp";refine⟨_,_,g2,.ref l,rfl,kn,tb1,tt,by rw[ro,ct];exact qc,fun H2 gr2=>?_⟩;have cps:=cps.gr gr2 tb1;have tb2:=gr2.tab tb1;have fre:∀p,H2 p=none->H p=none:=fun p=>K32.gr_free (gr.trans gr2) tb2;unfold K32.AJ;walk_at "wp";refine Or.inl ⟨l,zs,rfl,.inl (SqL.of cps.ec),?_⟩;refine kO.mpr ⟨_,rfl,?_⟩;by_cases hz:zs=[]
 ·have hR:R=[]:=a8.mp (by rw[<-hlen,hz];rfl)
  rw[hz,if_pos (by simp)];refine⟨short (by simp),fun a ha=>⟨short (by simp),fun b hb=>⟨short (by simp),fun p hp=>?_⟩⟩⟩;have s1:=ax (o:=.lst []) ha;have s2:=ax (o:=.lst []) hb;have s3:=ax (o:=.tup [.ref a,.ref b]) hp;refine qn _ p ((gr.trans gr2).trans (Gr.of (s1.trans (s2.trans s3)))) (fre _ ((s1.trans s2).free hp)) (.inl ⟨hR,a,b,ao,fre _ ha,fre _ (s1.free hb),fun z=>?_,(s2.trans s3) _ _ ao,s3 _ _ ao⟩);rw[<-z,ao]at hb;cases hb
 ·rw[if_neg (fun z=>hz (a8.mp (by have :=of_decide_eq_true z;omega)))]
  unfold K32.AI;walk_at "wp";refine⟨_,_,g3,l,zs,n,K32.rI R,rfl,cps,hz,fun H3 p s3 hp gk=>?_⟩;exact qn H3 p ((gr.trans gr2).trans (Gr.of s3)) (fre _ hp) (.inr ⟨fun z=>hz (a8.mp (by rw[hlen,z];rfl)),gk.old fre⟩)
end
end K83
namespace Bt
open PySem PySem.Spec PyProof.Rows L2 R Cp Lt Kc Mt K21 K22
structure Blt(H:Hp)(t:Addr)(cs:List V)(nf:Nat->Str)(vf:Nat->Nat)(f:Nat->Int)(ps os:List Nat):Prop where
 et:H t=some (.lst cs)
 l1:1<=cs.length
 l40:cs.length<=40
 ok:∀i,gK (nf i)=true
 inj:∀i j,i<cs.length->j<cs.length->nf i=nf j->i=j
 at_:∀(i:Nat) c,cs[i]? =some c->vf i<ps.length/\∃b r,c=.ref b/\H b=some (.tup [.str (nf i),.ref r])/\H r=some (.tup ((nd f (fn os) (fn ps) os.length (vf i)).map V.int))
 n60:os.length<=60
 bit:∀p,p<os.length->f p=0\/f p=1
 par:∀v,1<=v->v<ps.length->ps.getD v 0<v
theorem sort2{α:Type}{d:α}{a b:List Int}(h:a≠b)(x y:α):∃u v c e,_root_.Q.cg d [a,b] [x,y]=[u,v]/\((u=x/\v=y/\c=a/\e=b)\/(u=y/\v=x/\c=b/\e=a))/\_root_.Q.llt c e=true:=by
 have nd:[a,b].Nodup:=by simp[h]
 obtain⟨P,U,_⟩:=_root_.Q.eU (_root_.Q.Ej nd) (by simp);have P2:=eE.mp P.perm;have hs:=P.size;have u01:=U 0 1 (by decide) (by simp);unfold _root_.Q.cg _root_.Q.uI;rw[if_neg (by simp)];generalize _root_.Q.run (_root_.Q.ltL [a,b]) (i2 [a,b].length)=p at *;obtain⟨l⟩:=p;have hl:l.length=2:=by simpa using hs
 obtain⟨i,j,rfl⟩:∃i j,l=[i,j]:=by
  match l,hl with
  | [i,j],_=>exact⟨i,j,rfl⟩
 have hm:∀k,(k=i\/k=j)↔k<2:=fun k=>by simpa using P2.mem_iff (a:=k)
 have hu:_root_.Q.ltL [a,b] i j=true:=u01;have h0:=(hm 0).mpr (by decide);have h1:=(hm 1).mpr (by decide);have hij:(i=0/\j=1)\/(i=1/\j=0):=by omega
 rcases hij with⟨rfl,rfl⟩ |⟨rfl,rfl⟩
 ·exact⟨x,y,a,b,rfl,.inl ⟨rfl,rfl,rfl,rfl⟩,hu⟩
 ·exact⟨y,x,b,a,rfl,.inr ⟨rfl,rfl,rfl,rfl⟩,hu⟩
def ends(g:Nat->List Int)(par:Nat->Nat)(e:Nat)(c:List Int×List Int):Prop:=(c=(g e,g (par e))\/c=(g (par e),g e))/\_root_.Q.llt c.1 c.2=true
theorem ends_nd{g:Nat->List Int}{par:Nat->Nat}{N:Nat}{ks:List (List Int×List Int)}(hg:∀i j,i<N->j<N->g i=g j->i=j)(hl:∀v,(g v).length=m)(hp:∀v,1<=v->v<N->par v<v)(hk:∀i c,ks[i]? =some c->i+1<N/\ends g par (i+1) c):(ks.map _root_.Q.jM).Nodup/\∀k∈ks,k.1.length=m/\k.2.length=m:=by
 have len:∀k∈ks,k.1.length=m/\k.2.length=m:=fun k h=>by
  obtain⟨i,e⟩:=bJ.mp h;rcases(hk i k e).2.1 with rfl|rfl<;>exact⟨hl _,hl _⟩
 refine⟨?_,len⟩;refine cT.mpr fun i j hi hj hij e=>?_;simp only[ai]at hi hj;simp only[aY]at e;have li:=len _ (a9 hi);have lj:=len _ (a9 hj);obtain⟨hi2,ei,_⟩:=hk i _ (aa hi);obtain⟨hj2,ej,_⟩:=hk j _ (aa hj);have pi:=hp (i+1) (by omega) hi2;have pj:=hp (j+1) (by omega) hj2;obtain⟨e1,e2⟩:=List.append_inj (show ks[i].1++ks[i].2=ks[j].1++ks[j].2 from e) (li.1.trans lj.1.symm);rcases ei with ei|ei<;>rcases ej with ej|ej<;>rw[ei,ej]at e1 e2
 ·have :=hg _ _ hi2 hj2 e1
  omega
 ·have :=hg _ _ hi2 (by omega) e1
  have :=hg _ _ (by omega) hj2 e2
  omega
 ·have :=hg _ _ (by omega) hj2 e1
  have :=hg _ _ hi2 (by omega) e2
  omega
 ·have :=hg _ _ hi2 hj2 e2
  omega
noncomputable abbrev gN(f:Nat->Int)(ps os:List Nat)(v:Nat):List Int:=nd f (fn os) (fn ps) os.length v
noncomputable abbrev nds(f:Nat->Int)(ps os:List Nat):List (List Int):=(aw ps.length).map (gN f ps os)
noncomputable def pls(os:List Nat)(e:Nat):List V:=(nats os.length).filter fun o=>match o with |.int i=>decide (((os.getD i.toNat 0:Nat):Int)=((e:Nat):Int)) |_=>false
def BrV(H:Hp)(f:Nat->Int)(ps os:List Nat)(z:V)(e:Nat):Prop:=∃b r1 r2 r3 x y,z=V.ref b/\H b=some (.tup [.ref r1,.ref r2,.ref r3])/\H r1=some (.tup (x.map V.int))/\H r2=some (.tup (y.map V.int))/\((x=gN f ps os e/\y=gN f ps os (ps.getD e 0))\/(x=gN f ps os (ps.getD e 0)/\y=gN f ps os e))/\H r3=some (.tup (pls os e))
theorem BrV.tk{f:Nat->Int}{ps os:List Nat}{z:V}{e:Nat}(h:BrV H f ps os z e)(t:K32.Tk H H'):BrV H' f ps os z e:=by
 obtain⟨b,r1,r2,r3,x,y,e1,h1,h2,h3,h4,h5⟩:=h;exact⟨b,r1,r2,r3,x,y,e1,t _ _ h1,t _ _ h2,t _ _ h3,h4,t _ _ h5⟩
structure Bx(H:Hp)(bs:List V)(m:Nat)(vf:Nat->Nat)(f:Nat->Int)(ps os:List Nat):Prop where
 ow:∀p,p<os.length->fn os p<ps.length
 has:∀v,1<=v->v<ps.length->∃p,p<os.length/\fn os p=v
 cp:∀v,v<ps.length->Bm.near (fn ps) ps.length v<=2->∃i,i<m/\vf i=v
 br:∀z∈bs,∃e,1<=e/\e<ps.length/\BrV H f ps os z e
 all:∀e,1<=e->e<ps.length->∃z∈bs,BrV H f ps os z e
 bl:bs.length<=30
noncomputable def xV(K:ah):Sp:=fun vs H Q _=>∃(a:Addr)(ns:List Int)(st:Nat),vs=[.ref a,.int st]/\SqL K H a (ns.map V.int)/\ns.length<=63/\st<=10/\
 ∀(H':Hp)(p t nl br:Addr)(cs ys bs:List V)(nf:Nat->Str)(vf:Nat->Nat)(f:Nat->Int)(ps os:List Nat),aL H H'->H' p=some (.tup [.ref t,.ref nl,.ref br])->Blt H' t cs nf vf f ps os->1<=ps.length->ps.length<=31->(nds f ps os).Nodup->_root_.Q.IntKeys H' ys (nds f ps os)->H' nl=some (.lst (_root_.Q.cg .non (nds f ps os) ys))->H' br=some (.lst bs)->Bx H' bs cs.length vf f ps os->Q (.ref p) H'
theorem own_of{ms os:List Nat}(h:os.Perm (i7 ms ms.length))(hv:v<ms.length)(h1:1<=ms.getD v 0):∃p,p<os.length/\fn os p=v:=by
 have hm:v∈os:=by
  rw[h.mem_iff];unfold i7;rw[jc];exact⟨v,aK.mpr hv,List.mem_replicate.mpr ⟨by omega,rfl⟩⟩
 obtain⟨p,hp,e⟩:=cE.mp hm;exact⟨p,hp,by show os.getD p 0=v;rw[ae,aa hp];exact e⟩
theorem rot(hk:k<cs.length)(hi:i<cs.length):(cs.drop k++cs.take k)[i]? =cs[(i+k)%cs.length]? :=by
 by_cases h:i<cs.length-k
 ·rw[cF (by rw[da];exact h),iz,eD (by omega),Nat.add_comm]
 ·rw[bS (by rw[da];omega),da,List.getElem?_take,if_pos (by omega),Nat.mod_eq_sub_mod (by omega),eD (by omega)]
  congr 1
  omega
theorem Dy{ks:List (List Int)}(h:_root_.Q.IntKeys H ys ks):∀j,j<ks.length->∃a,ys[j]? =some (V.ref a)/\H a=some (.tup ((ks.getD j []).map V.int)):=by
 unfold _root_.Q.IntKeys at h
 induction h with
 |nil=>intro j hj;exact absurd hj (c5 _)
 |cons r t ih=>
  intro j hj;cases j with
  |zero=>obtain⟨a,rfl,f⟩:=r;exact⟨a,rfl,f⟩
  |succ j=>exact ih j (by simpa using hj)
theorem two_nd{a b:List Int}(h:a≠b):[a,b].Nodup:=by simp[h]
theorem BL{f:Nat->Int}{ps os:List Nat}(h:j<ps.length):(nds f ps os).getD j []=gN f ps os j:=by
 rw[ae,aq,bP h];rfl
section
variable {G:Gam}{K:ah}
theorem F0(g0:G.fn "_law_cell_at" 2=some (uv K,[]))(g1:G.fn "_law_mixed" 2=some (zB,[]))(g2:G.fn "_law_grown" 2=some (ur K,[]))(g3:G.fn "_law_owners" 4=some (um,[]))(g4:G.fn "_law_nodes" 5=some (tG,[]))(g5:G.fn "_law_copies" 5=some (uu,[])):
  Sat G K (xV K) sM sx:=by
 rintro vs H Q E ⟨a,ns,st,rfl,ha,hn,hst,q⟩;unfold sM;change wpB G K _ _ _ [some (.ref a),some (.int st),none,none,none,none,none,none,none,none,none,none,none,none,none,none] H;walk_at "wp";refine⟨_,_,g2,a,ns,st,rfl,ha,hn,hst,fun H1 p pa pm ps ms s1 ep ea em gp=>?_⟩;refine⟨p,_,rfl,SqT.of ep,rfl,_,_,rfl,_,_,rfl,rfl,?_⟩;unfold o6;walk_at "wp";refine⟨_,_,g0,a,ns,0,rfl,s1.seq ha,?_⟩;generalize ns.getD 0 0=c0;refine hW.mpr ⟨by decide,kO.mpr ?_⟩;generalize decide (c0%2=1)=free;unfold o5;walk_at "wp";refine⟨_,_,g1,_,_,g0,a,ns,0,rfl,s1.seq ha,?_⟩;generalize ns.getD 0 0=c0;refine⟨c0,1,rfl,by decide,by decide,?_⟩;generalize mx c0 1=seed;unfold o4;walk_at "wp";refine⟨_,_,g3,by decide,_,_,g0,a,ns,0,rfl,s1.seq ha,?_⟩;generalize ns.getD 0 0=c0;refine div_ii.mpr ⟨⟨by decide,by decide⟩,?_⟩;have hn31:=gp.n31;have hn1:=gp.one;have hml:=gp.len;refine⟨pm,seed%10007,c0/98,free,ms,rfl,em,by omega,gp.sum,cy _ (by decide),Int.le_of_lt (bU _ (by decide)),fun H2 p2 lo os left s2 ep2 flo eo hpm=>?_⟩;refine⟨p2,_,rfl,SqT.of ep2,rfl,_,_,rfl,_,_,rfl,rfl,?_⟩;have s12:=s1.trans s2;have ho60:os.length<=60:=by
  rw[hpm.length_eq,pC ms _ (aB _)];exact aR (mz ms _) gp.sum
 unfold oZ;walk_at "wp";refine⟨_,_,g0,a,ns,1,rfl,s12.seq ha,?_⟩;generalize ns.getD 1 0=c1;unfold oY;walk_at "wp";refine⟨_,_,g4,_,_,g1,c1,2,rfl,by decide,by decide,?_⟩;generalize mx c1 2=sd2;refine⟨⟨by decide,by decide⟩,?_⟩;refine⟨pa,lo,sd2,c1/7,free,ps,os,rfl,s2 _ _ ea,eo,hn1,hn31,ho60,gp.par,fun H3 nl ys f s3 fnl enl hf ik=>?_⟩;have s13:=s12.trans s3;have ea3:=s3 _ _ (s2 _ _ ea);have eo3:=s3 _ _ eo;have hyl:=K32.eO ik;rw[ai,aO]at hyl;have own:∀v,1<=v->v<ps.length->∃p,p<os.length/\fn os p=v:=fun v h1 hv=>own_of hpm (by omega) (gp.m0 v h1 (by omega));have ginj:∀i j,i<ps.length->j<ps.length->gN f ps os i=gN f ps os j->i=j:=fun i j hi hj e=>by
  rcases Nat.lt_trichotomy i j with h|h|h
  ·exact absurd e.symm (Dh (N:=ps.length) gp.par hf h hj (own j (by omega) hj))
  ·exact h
  ·exact absurd e (Dh (N:=ps.length) gp.par hf h hi (own i (by omega) hi))
 have ndn:(nds f ps os).Nodup:=by
  refine cT.mpr fun i j hi hj hij e=>?_;simp only[ai,aO]at hi hj;simp only[aY,eF]at e;have :=ginj i j hi hj e;omega
 unfold oX;walk_at "wp";refine⟨short (by simp),fun br hbr=>?_⟩;generalize hX:upd H3 br _=H4;obtain⟨s4,ebr⟩:=jw hX hbr;clear hX;unfold oW;walk_at "wp";refine fQ ?_;walk_at "wp";refine Or.inl ⟨pa,_,rfl,.inl (SqL.of (s4 _ _ ea3)),?_⟩;rw[cK];refine⟨_,_,rfl,⟨by omega,by omega,by omega,by omega⟩,?_⟩;refine fm dv (fun m σ H'=>aL H3 H'/\∃(bs:List V)(ks:List (List Int×List Int))(x y z:Option V),H' br=some (.lst bs)/\ks.length=m/\_root_.Q.iX H' bs ks/\(∀i c,ks[i]? =some c->i+1<ps.length/\ends (gN f ps os) (fn ps) (i+1) c)/\(∀(j:Nat) z,bs[j]? =some z->BrV H' f ps os z (j+1))/\σ=[some (.ref a),some (.int st),some (.ref pa),some (.ref pm),some (.bl free),some (.int seed),some (.ref lo),some (.int left),some (.int c1),some (.ref nl),some (.ref br),x,y,z,none,none])
  ⟨s4,[],[],none,none,none,ebr,rfl,.nil,(fun i c e=>by cases e),(fun j z e=>by cases e),rfl⟩ (fun _ _ _ _ _=>trivial) ?_ ?_
 ·rintro m x σ H5 H6 D2 hm ⟨s5,bs,ks,x',y',z',ebr,hks,tk,he,hbv,rfl⟩ rfl s6 hD _
  have ebr:=s6 _ _ ebr;have s5:=s5.trans s6;have hv:m+1<ps.length:=by omega
  have hpv:=gp.par (m+1) (by omega) hv;have ik6:=K32.dS (K32.Tk.of s5) ik;obtain⟨r1,e1,f1⟩:=Dy ik6 (m+1) (by rw[ai,aO];exact hv);obtain⟨r2,e2,f2⟩:=Dy ik6 (ps.getD (m+1) 0) (by rw[ai,aO];omega);rw[BL hv]at f1;rw[BL (by omega)]at f2;have ev:(1:Int)+(m:Int)=((m+1:Nat):Int):=by omega
  rw[ev];generalize hvv:m+1=v at *;walk_at "wp";refine .inl ⟨nl,_,v,_,rfl,rfl,SqL.of (s5 _ _ enl),cG e1,?_⟩;refine .inl ⟨pa,_,v,_,rfl,rfl,SqL.of (s5 _ _ ea3),cG (oA hv),?_⟩;refine .inl ⟨nl,_,ps.getD v 0,_,rfl,rfl,SqL.of (s5 _ _ enl),cG e2,?_⟩;refine⟨short (by simp),fun l hl=>?_⟩;have hne:gN f ps os v≠gN f ps os (ps.getD v 0):=fun e=>by
   have :=ginj _ _ hv (by omega) e
   omega
  refine⟨l,_,[gN f ps os v,gN f ps os (ps.getD v 0)],os.length,rfl,SqL.of ao,by simp,two_nd hne,?_,.cons ⟨r1,rfl,ax hl _ _ f1⟩ (.cons ⟨r2,rfl,ax hl _ _ f2⟩ .nil),fun l2 hl2=>?_⟩
  ·intro k hk
   simp at hk;rcases hk with rfl|rfl<;>exact uQ
  obtain⟨u,u2,c,e,es,huv,hlt⟩:=sort2 (d:=V.non) hne (V.ref r1) (V.ref r2);rw[es];have s7:aL H6 (upd (upd H6 l (.lst [.ref r1,.ref r2])) l2 (.lst [u,u2])):=(ax hl).trans (ax hl2);have el2:upd (upd H6 l (.lst [.ref r1,.ref r2])) l2 (.lst [u,u2]) l2=some (.lst [u,u2]):=ao;generalize upd (upd H6 l (.lst [.ref r1,.ref r2])) l2 (.lst [u,u2])=H7 at s7 el2⊢;have s57:=s5.trans s7;unfold l6;walk_at "wp";refine cS ?_;walk_at "wp";refine Or.inl ⟨lo,_,rfl,.inl (SqL.of (s57 _ _ eo3)),_,rfl,by rw[cK];omega,by rw[cK];omega,?_⟩;rw[cK,aH];refine nS (xs:=nats os.length) K32.zE (K32.dA (by unfold nats;simp;omega)) (fun _ _=>trivial) (fun o=>match o with |.int i=>decide (((os.getD i.toNat 0:Nat):Int)=((v:Nat):Int)) |_=>false) id (fun τ=>∃u,τ=[u,some (.int ((v:Nat):Int)),some (.ref lo)]) ⟨none,rfl⟩ ?_ ?_
  ·rintro x τ H8 Rt Rf hx ⟨u,rfl⟩ s8 kt kf
   unfold nats at hx;obtain⟨i,hi,rfl⟩:=ay.mp hx;have hi:=aK.mp hi;walk_at "wp";refine .inl ⟨lo,_,i,_,rfl,rfl,SqL.of (s8 _ _ (s57 _ _ eo3)),cG (oA hi),?_⟩;refine kO.mpr ⟨_,rfl,?_⟩;by_cases h:((os.getD i 0:Nat):Int)=((v:Nat):Int)
   ·rw[decide_eq_true h,if_pos rfl]
    exact kt _ _ ⟨_,rfl⟩ (aL.refl _) (decide_eq_true h)
   ·rw[decide_eq_false h,if_neg ak]
    exact kf _ _ ⟨_,rfl⟩ (aL.refl _) (decide_eq_false h)
  intro H8 l3 s8 hl3;rw[dy];have hfl:((nats os.length).filter fun o=>match o with |.int i=>decide (((os.getD i.toNat 0:Nat):Int)=((v:Nat):Int)) |_=>false).length<=60:=by
   refine aR (eK _ _) ?_;unfold nats;rw[ai,aO];exact ho60
  generalize hpl:((nats os.length).filter fun o=>match o with |.int i=>decide (((os.getD i.toNat 0:Nat):Int)=((v:Nat):Int)) |_=>false)=pl at hfl⊢;have s9:aL H7 (upd H8 l3 (.lst pl)):=s8.trans (ax hl3);have el3:upd H8 l3 (.lst pl) l3=some (.lst pl):=ao;generalize upd H8 l3 (.lst pl)=H9 at s9 el3⊢;have s59:=s57.trans s9;unfold lZ;walk_at "wp";have ebr9:=s9 _ _ (s7 _ _ ebr);have el29:=s9 _ _ el2;refine⟨.inl ⟨rfl,_,SqL.of ebr9⟩,?_⟩;refine .inl ⟨l2,_,0,_,rfl,rfl,SqL.of el29,rfl,?_⟩;refine .inl ⟨l2,_,1,_,rfl,rfl,SqL.of el29,rfl,?_⟩;refine⟨l3,_,rfl,.inl ⟨SqL.of el3,fun z hz=>⟨short (by simp),fun w hw=>?_⟩⟩⟩;have s10:aL H9 (upd (upd H9 z (.tup pl)) w (.tup [u,u2,.ref z])):=(ax hz).trans (ax hw);have ew:upd (upd H9 z (.tup pl)) w (.tup [u,u2,.ref z]) w=some (.tup [u,u2,.ref z]):=ao;have ezz:upd (upd H9 z (.tup pl)) w (.tup [u,u2,.ref z]) z=some (.tup pl):=by rw[bo (bO ao hw)];exact ao
  generalize upd (upd H9 z (.tup pl)) w (.tup [u,u2,.ref z])=H10 at s10 ew ezz⊢;have ebr10:=s10 _ _ ebr9;have hbl:=_root_.Q.lz tk;have t69:K32.Tk H6 H10:=K32.Tk.of (s7.trans (s9.trans s10));have t10:K32.Tk H10 (upd H10 br (.lst (bs++[.ref w]))):=K32.rE ebr10;refine⟨br,_,_,rfl,rfl,ebr10,K32.uW (by omega),?_⟩;refine hD _ _ ⟨dG (s59.trans s10) hbr,bs++[.ref w],ks++[(c,e)],_,_,_,ao,by simp[hks,hvv],?_,?_,?_,rfl⟩
  ·have g1:=t10 _ _ (t69 _ _ f1)
   have g2:=t10 _ _ (t69 _ _ f2);refine K32.Paired.snoc ?_ (Paired.mM tk ?_)
   ·rcases huv with⟨rfl,rfl,rfl,rfl⟩ |⟨rfl,rfl,rfl,rfl⟩
    ·exact⟨w,r1,r2,_,rfl,t10 _ _ ew,g1,g2⟩
    ·exact⟨w,r2,r1,_,rfl,t10 _ _ ew,g2,g1⟩
   ·rintro y k ⟨a',x1,x2,rs,h1,h2,h3,h4⟩
    have t:K32.Tk H5 _:=fun b o h=>t10 b o (t69 b o (s6 _ _ h));exact⟨a',x1,x2,rs,h1,t _ _ h2,t _ _ h3,t _ _ h4⟩
  ·intro i k hik
   by_cases hi:i<ks.length
   ·rw[cF hi]at hik
    exact he i k hik
   ·have hi2:=(aC.mp hik).1
    rw[ba,dF]at hi2;obtain rfl:i=m:=by omega
    rw[bS (by omega),hks,Nat.sub_self]at hik;cases hik;rw[hvv];refine⟨hv,?_,hlt⟩;rcases huv with⟨_,_,rfl,rfl⟩ |⟨_,_,rfl,rfl⟩
    ·exact .inl rfl
    ·exact .inr rfl
  ·intro j y hj
   have t:K32.Tk H5 (upd H10 br (.lst (bs++[.ref w]))):=fun b o h=>t10 b o (t69 b o (s6 _ _ h));by_cases hjl:j<bs.length
   ·rw[cF hjl]at hj
    exact(hbv j y hj).tk t
   ·have hj2:=(aC.mp hj).1
    rw[ba,dF]at hj2;obtain rfl:j=m:=by omega
    rw[bS (by omega),show j-bs.length=0 by omega]at hj;cases hj;rw[hvv];have g1:=t10 _ _ (t69 _ _ f1);have g2:=t10 _ _ (t69 _ _ f2);have g3:upd H10 br (.lst (bs++[.ref w])) z=some (.tup (pls os v)):=by
     unfold pls;rw[hpl];exact t10 _ _ ezz
    rcases huv with⟨rfl,rfl,rfl,rfl⟩ |⟨rfl,rfl,rfl,rfl⟩
    ·exact⟨w,r1,r2,z,_,_,rfl,t10 _ _ ew,g1,g2,.inl ⟨rfl,rfl⟩,g3⟩
    ·exact⟨w,r2,r1,z,_,_,rfl,t10 _ _ ew,g2,g1,.inr ⟨rfl,rfl⟩,g3⟩
 ·rintro σ H5 ⟨s5,bs,ks,x',y',z',ebr,hks,tk,he,hbv,rfl⟩
  unfold oV;walk_at "wp";refine⟨_,_,g5,pa,nl,seed,left,free,ps,ys,rfl,s5 _ _ ea3,s5 _ _ enl,by omega,hn1,hn31,gp.par,fun H6 t cs vv s6 ft et hc40 hcn cb hvn=>?_⟩;have ebr6:=s6 _ _ ebr;have s36:=s5.trans s6;have hc1:1<=cs.length:=by
   cases cs with
   |nil=>exact absurd rfl hcn
   |cons _ _=>simp
  unfold m8;walk_at "wp";refine⟨⟨by decide,by decide⟩,Or.inl ⟨t,_,rfl,.inl (SqL.of et),hW.mpr ⟨by omega,?_⟩⟩⟩;obtain⟨k,hk⟩:=bY (cy (seed/11) (show((cs.length:Nat):Int)≠0 by omega));have hkl:k<cs.length:=by
   have :=bU (seed/11) (show(0:Int)<((cs.length:Nat):Int) by omega)
   omega
  rw[hk];unfold m6;walk_at "wp";have e1:pE cs (some (k:Int)) none=cs.drop k:=by
   unfold pE;rw[HT.uA,HT.pX,Nat.min_eq_left (by omega),iP (by rw[da];omega)]
  have e2:pE cs none (some (k:Int))=cs.take k:=by
   unfold pE;rw[HT.uA,HT.pX,Nat.min_eq_left (by omega),List.drop_zero,FH]
  refine .inl ⟨t,cs,rfl,SqL.of et,fun p1 hp1=>?_⟩;rw[e1];generalize hX:upd H6 p1 _=H7;obtain⟨s7,ep1⟩:=jw hX hp1;clear hX;refine .inl ⟨t,cs,rfl,SqL.of (s7 _ _ et),fun p2 hp2=>?_⟩;rw[e2];generalize hX:upd H7 p2 _=H8;obtain⟨s8,ep2⟩:=jw hX hp2;clear hX;have hlen:(cs.drop k).length+(cs.take k).length=cs.length:=by rw[da,c9];omega
  refine .inr (.inr (.inl ⟨p1,p2,_,_,rfl,rfl,s8 _ _ ep1,ep2,K32.dA (by omega),fun p3 hp3=>?_⟩));generalize hX:upd H8 p3 _=H9;obtain⟨s9,ep3⟩:=jw hX hp3;clear hX;have s69:aL H6 H9:=s7.trans (s8.trans s9);have s39:=s36.trans s69;have ik9:=K32.dS (K32.Tk.of s39) ik;refine⟨nl,ys,nds f ps os,os.length,rfl,SqL.of (s39 _ _ enl),by simp;omega,ndn,fun k hk=>?_,ik9,fun q1 hq1=>?_⟩
  ·obtain⟨v,_,rfl⟩:=ay.mp hk
   exact uQ
  generalize hX:upd H9 q1 _=H10;obtain⟨s10,eq1⟩:=jw hX hq1;clear hX;have s510:aL H5 H10:=s6.trans (s69.trans s10);have tk10:_root_.Q.iX H10 bs ks:=Paired.mM tk fun y c ⟨a',x1,x2,rs,h1,h2,h3,h4⟩=>⟨a',x1,x2,rs,h1,s510 _ _ h2,s510 _ _ h3,s510 _ _ h4⟩;obtain⟨kn,kl⟩:=ends_nd (m:=os.length) ginj (fun v=>uQ) gp.par he;refine⟨br,bs,ks,os.length,rfl,SqL.of (s510 _ _ ebr),by omega,kn,kl,tk10,fun q2 hq2=>⟨short (by simp),fun w hw=>?_⟩⟩;have s11:=(ax (o:=.lst (_root_.Q.cg .non (ks.map _root_.Q.jM) bs)) hq2).trans (ax (o:=.tup [.ref p3,.ref q1,.ref q2]) hw);have s912:=s10.trans s11;have s612:=s69.trans s912;have s312:=s36.trans s612;refine q _ w p3 q1 q2 (cs.drop k++cs.take k) ys _ (fun i=>nmB seed ((i+k)%cs.length)) (fun i=>vv.getD ((i+k)%cs.length) 0) f ps os (s13.trans s312) ao ?_ hn1 hn31 ndn (K32.dS (K32.Tk.of s312) ik) (s11 _ _ eq1) (ax hw _ _ ao) ?_
  rotate_left
  ·have hbl:=_root_.Q.lz tk
   have pm:(_root_.Q.cg V.non (ks.map _root_.Q.jM) bs).Perm bs:=K83.jv _ kn (by rw[ai];exact hbl);have tk5:=K32.Tk.of (s510.trans s11);refine⟨fun p hp=>?_,own,fun v hv hn=>?_,fun z hz=>?_,fun e e1 e2=>?_,?_⟩
   ·have hm:os.getD p 0∈os:=by rw[ae,aa hp];exact a9 hp
    rw[hpm.mem_iff]at hm;unfold i7 at hm;obtain⟨e,he',hm⟩:=jc.mp hm;have :=aK.mp he';have :=(List.mem_replicate.mp hm).2;show os.getD p 0<ps.length;omega
   ·obtain⟨j,hj,ej⟩:=cE.mp (hvn v hv hn)
    have hjl:j<cs.length:=by rw[cb.len];exact hj
    refine⟨(j+(cs.length-k))%cs.length,by rw[ba,hlen];exact AY _ (by omega),?_⟩;have em:((j+(cs.length-k))%cs.length+k)%cs.length=j:=by
     by_cases h:k<=j
     ·rw[show j+(cs.length-k)=(j-k)+cs.length by omega,Nat.add_mod_right,eD (show j-k<cs.length by omega),Nat.sub_add_cancel h,eD hjl]
     ·rw[eD (show j+(cs.length-k)<cs.length by omega),show j+(cs.length-k)+k=j+cs.length by omega,Nat.add_mod_right,eD hjl]
    show vv.getD (((j+(cs.length-k))%cs.length+k)%cs.length) 0=v;rw[em,ae,aa hj];exact ej
   ·obtain⟨j,hj⟩:=bJ.mp (pm.mem_iff.mp hz)
    have :=(aC.mp hj).1
    exact⟨j+1,by omega,by omega,(hbv j z hj).tk tk5⟩
   ·have hj:e-1<bs.length:=by omega
    have h:=hbv (e-1) _ (aa hj);rw[show e-1+1=e by omega]at h;exact⟨_,pm.mem_iff.mpr (a9 hj),h.tk tk5⟩
   ·rw[pm.length_eq]
    omega
  have hcl:(cs.drop k++cs.take k).length=cs.length:=by rw[ba,hlen]
  have md:∀i,(i+k)%cs.length<cs.length:=fun i=>AY _ (by omega);refine⟨s912 _ _ ep3,by omega,by omega,fun i=>nmB_ok (aV (md i) (by omega)),fun i j hi hj e=>?_,fun i c hc=>?_,ho60,hf,gp.par⟩
  ·have e:=nmB_inj (aV (md i) (by omega)) (aV (md j) (by omega)) e
   rw[hcl]at hi hj;have r:∀i,i<cs.length->(i+k)%cs.length=if i+k<cs.length then i+k else i+k-cs.length:=fun i hi=>by
    by_cases h:i+k<cs.length
    ·rw[if_pos h,eD h]
    ·rw[if_neg h,Nat.mod_eq_sub_mod (by omega),eD (by omega)]
   rw[r i hi,r j hj]at e;split at e<;>split at e<;>omega
  ·have hi:=(aC.mp hc).1
   rw[hcl]at hi;rw[rot hkl hi]at hc;obtain⟨b,rfl,hb⟩:=cb.at_ _ c hc;have hvm:vv.getD ((i+k)%cs.length) 0<ps.length:=by
    have hlt:(i+k)%cs.length<vv.length:=by rw[<-cb.len];exact md i
    rw[ae,aa hlt];exact cb.lt _ (a9 hlt)
   obtain⟨r,er,fr⟩:=Dy ik _ (show vv.getD ((i+k)%cs.length) 0<(nds f ps os).length by rw[ai,aO];exact hvm);rw[ae (l:=ys),er]at hb;rw[BL hvm]at fr;exact⟨hvm,b,r,rfl,s612 _ _ hb,s312 _ _ fr⟩
end
end Bt
namespace M7
open K32
def Fits(rows:List (List Int))(n:Nat)(v:List Int):Prop:=M6.Ok n v/\∀i j,i<n->j<n->∃r∈rows,r.getD i 0=v.getD i 0/\r.getD j 0=v.getD j 0
theorem Fits.sub{rows':List (List Int)}{v:List Int}(h:Fits rows n v)(s:∀r∈rows,r∈rows'):Fits rows' n v:=⟨h.1,fun i j hi hj=>let⟨r,hr,e⟩:=h.2 i j hi hj;⟨r,s r hr,e⟩⟩
section
variable {rows:List (List Int)}{n:Nat}
theorem kj:bt rows p r=true↔r.getD p 0≠fr rows p:=by
 unfold bt;simp
theorem nJ(p i:Nat):(grp rows p).testBit i=((rows.reverse[i]?).map (bt rows p)).getD false:=by
 unfold grp;have :=M3.Dd (rows.map (bt rows p)).reverse i;rw[List.reverse_reverse]at this;rw[this,<-mr,aq]
theorem gsub:grp rows p&&& grp rows q=grp rows q↔∀r∈rows,bt rows q r=true->bt rows p r=true:=by
 rw[M3.and_sub];constructor
 ·intro h r hr hq
  obtain⟨i,hi⟩:=bJ.mp (c8.mpr hr);have :=h i;rw[nJ,nJ,hi]at this;exact this hq
 ·intro h i
  rw[nJ,nJ];cases e:rows.reverse[i]? with
  |none=>exact id
  |some r=>exact h r (c8.mp (aD e))
theorem geq:grp rows p=grp rows q↔∀r∈rows,bt rows p r=bt rows q r:=by
 constructor
 ·intro h r hr
  have a:=gsub.mp (show grp rows p&&& grp rows q=grp rows q by rw[h,FJ]) r hr;have b:=gsub.mp (show grp rows q&&& grp rows p=grp rows p by rw[h,FJ]) r hr;exact bF.mpr ⟨b,a⟩
 ·intro h
  apply qT
  intro i;rw[nJ,nJ];cases e:rows.reverse[i]? with
  |none=>rfl
  |some r=>exact h r (c8.mp (aD e))
theorem gnz:grp rows p≠0↔∃r∈rows,bt rows p r=true:=by
 constructor
 ·intro h
  apply aJ
  intro hn;apply h;apply qT;intro i;rw[nJ,Nat.zero_testBit];cases e:rows.reverse[i]? with
  |none=>rfl
  |some r=>
   cases b:bt rows p r with
   |false=>exact b
   |true=>exact absurd ⟨r,c8.mp (aD e),b⟩ hn
 ·rintro⟨r,hr,h⟩ z
  obtain⟨i,hi⟩:=bJ.mp (c8.mpr hr);have :=nJ (rows:=rows) p i;rw[hi,z,Nat.zero_testBit]at this;rw[show((some r).map (bt rows p)).getD false=bt rows p r from rfl,h]at this;cases this
end
theorem AA{α:Type}{p q:α->Bool}:∀{l:List α},(∀r∈l,q r=true->p r=true)->∀{x:α},x∈l->p x=true->q x=false->l.countP q<l.countP p
 |a::l,h,x,hx,hp,hq=>by
  rw[List.countP_cons,List.countP_cons];have ha:=h a aG;have ht:∀r∈l,q r=true->p r=true:=fun r hr=>h r (aM _ hr);rcases aE.mp hx with rfl|hx
  ·have :=List.countP_mono_left ht
   rw[hp,hq,if_pos rfl,if_neg (by decide)];omega
  ·have :=AA ht hx hp hq
   cases e:q a with
   |true=>rw[ha e];omega
   |false=>rw[if_neg (by decide)];omega
structure Tbl(rows:List (List Int))(n:Nat):Prop where
 ok:∀r∈rows,M6.Ok n r
 ne:rows≠[]
 mis:∀i j,i<j->j<n->M6.Mis rows i j
section
variable {rows:List (List Int)}{n:Nat}
theorem Tbl.first(t:Tbl rows n):rows.getD 0 []∈rows:=by
 cases rows with
 |nil=>exact absurd rfl t.ne
 |cons a r=>exact aG
theorem Tbl.f01(t:Tbl rows n)(p:Nat):fr rows p=0\/fr rows p=1:=(t.ok _ t.first).at p
theorem Tbl.mis'(t:Tbl rows n)(h:i≠j)(hi:i<n)(hj:j<n):M6.Mis rows i j:=by
 rcases Nat.lt_or_gt_of_ne h with h|h
 ·exact t.mis i j h hj
 ·exact(t.mis j i h hi).flip
theorem neq{x f:Int}(hx:x=0\/x=1)(hf:f=0\/f=1):x≠f↔x=1-f:=by
 rcases hx with rfl|rfl<;>rcases hf with rfl|rfl<;>decide
theorem Tbl.turn(t:Tbl rows n)(hr:r∈rows):bt rows p r=true↔r.getD p 0=1-fr rows p:=by
 rw[kj];exact neq ((t.ok r hr).at p) (t.f01 p)
theorem Tbl.oh(t:Tbl rows n):bt rows p r=false↔r.getD p 0=fr rows p:=by
 unfold bt;simp
theorem two{x y z:Int}(hx:x=0\/x=1)(hy:y=0\/y=1)(hz:z=0\/z=1)(h:x≠y):x=z\/y=z:=by
 rcases hx with rfl|rfl<;>rcases hy with rfl|rfl<;>rcases hz with rfl|rfl<;>first |exact absurd rfl h|decide
theorem two1{x z:Int}(hx:x=0\/x=1)(hz:z=0\/z=1):x=z\/1-x=z:=by
 rcases hx with rfl|rfl<;>rcases hz with rfl|rfl<;>decide
theorem eqb{x y f:Int}(hx:x=0\/x=1)(hy:y=0\/y=1)(hf:f=0\/f=1):x=y↔(x≠f↔y≠f):=by
 rcases hx with rfl|rfl<;>rcases hy with rfl|rfl<;>rcases hf with rfl|rfl<;>decide
theorem Tbl.nest(t:Tbl rows n)(hp:p<n)(hq:q<n)(hr:r∈rows)(b1:bt rows p r=true)(b2:bt rows q r=true):(∀r∈rows,bt rows p r=true->bt rows q r=true)\/∀r∈rows,bt rows q r=true->bt rows p r=true:=by
 by_cases hpq:p=q
 ·exact .inl fun r _ h=>hpq▸h
 apply aJ
 intro h;rw[not_or]at h;obtain⟨r1,h1⟩:=fT.mp h.1;obtain⟨r2,h2⟩:=fT.mp h.2;have h1:r1∈rows/\bt rows p r1=true/\¬bt rows q r1=true:=by
  apply aJ;intro z;apply h1;intro a b
  apply aJ;intro c;exact z ⟨a,b,c⟩
 have h2:r2∈rows/\bt rows q r2=true/\¬bt rows p r2=true:=by
  apply aJ;intro z;apply h2;intro a b
  apply aJ;intro c;exact z ⟨a,b,c⟩
 obtain⟨a,b,ha,hb,k⟩:=t.mis' hpq hp hq;have f1:=t.f01 p;have f2:=t.f01 q;have e0:=k _ t.first;have e3:=k _ hr;have e1:=k _ h1.1;have e2:=k _ h2.1;rw[(t.turn hr).mp b1,(t.turn hr).mp b2]at e3;rw[(t.turn h1.1).mp h1.2.1,t.oh.mp (iT.mpr h1.2.2)]at e1;rw[(t.turn h2.1).mp h2.2.1,t.oh.mp (iT.mpr h2.2.2)]at e2;rcases two1 f1 ha with x|x<;>rcases two1 f2 hb with y|y
 ·exact e0 ⟨x,y⟩
 ·exact e2 ⟨x,y⟩
 ·exact e1 ⟨x,y⟩
 ·exact e3 ⟨x,y⟩
theorem gT{f:Nat->Int}{P:Nat->Bool}(h:i<n):(M4.bl f n P).getD i 0=if P i=true then 1-f i else f i:=M5.DW h
theorem DH{u v:List Int}(hu:u.length=n)(hv:v.length=n)(h:∀i,i<n->u.getD i 0=v.getD i 0):u=v:=by
 apply bg (hu.trans hv.symm)
 intro i h1 h2;have :=h i (by omega)
 rwa [ae,ae,aa h1,aa h2]at this
theorem DV(t:Tbl rows n)(P:Nat->Bool):M6.Ok n (M4.bl (fr rows) n P):=⟨M4.gO _ _ _,fun x hx=>by
 obtain⟨i,_,rfl⟩:=ay.mp hx;have :=t.f01 i;split <;>omega⟩
noncomputable def below(rows:List (List Int))(n p:Nat):List Int:=M4.bl (fr rows) n (M4.sub (grp rows) (grp rows p))
theorem hU:M4.sub (grp rows) (grp rows p) q=true↔∀r∈rows,bt rows p r=true->bt rows q r=true:=by
 unfold M4.sub;rw[decide_eq_true_eq];exact gsub
theorem B5(t:Tbl rows n)(hz:grp rows p≠0):Fits rows n (below rows n p):=by
 refine⟨DV t _,fun i j hi hj=>?_⟩;unfold below;rw[gT hi,gT hj];have pick:∀{i j:Nat},M4.sub (grp rows) (grp rows p) i=true->M4.sub (grp rows) (grp rows p) j=false->∃r∈rows,r.getD i 0=1-fr rows i/\r.getD j 0=fr rows j:=fun{i j} a b=>by
  have b:¬∀r∈rows,bt rows p r=true->bt rows j r=true:=fun z=>by rw[hU.mpr z]at b;cases b
  obtain⟨r,h⟩:=fT.mp b;have h:r∈rows/\bt rows p r=true/\¬bt rows j r=true:=by
   apply aJ;intro z;apply h;intro a b
   apply aJ;intro c;exact z ⟨a,b,c⟩
  exact⟨r,h.1,(t.turn h.1).mp (hU.mp a r h.1 h.2.1),t.oh.mp (iT.mpr h.2.2)⟩
 cases a:M4.sub (grp rows) (grp rows p) i with
 |true=>
  cases b:M4.sub (grp rows) (grp rows p) j with
  |true=>
   obtain⟨r,hr,h⟩:=gnz.mp hz;exact⟨r,hr,(t.turn hr).mp (hU.mp a r hr h),(t.turn hr).mp (hU.mp b r hr h)⟩
  |false=>exact pick a b
 |false=>
  cases b:M4.sub (grp rows) (grp rows p) j with
  |true=>
   obtain⟨r,hr,h1,h2⟩:=pick b a;exact⟨r,hr,h2,h1⟩
  |false=>exact⟨_,t.first,rfl,rfl⟩
theorem B4(t:Tbl rows n):Fits rows n (M4.bl (fr rows) n fun _=>false):=by
 refine⟨DV t _,fun i j hi hj=>⟨_,t.first,?_⟩⟩;rw[gT hi,gT hj];exact⟨rfl,rfl⟩
theorem C8(t:Tbl rows n){v:List Int}(h:Fits rows n v):v=M4.bl (fr rows) n (fun _=>false)\/∃p,p<n/\grp rows p≠0/\v=below rows n p:=by
 by_cases hS:∀p,p<n->v.getD p 0=fr rows p
 ·left
  exact DH h.1.1 (M4.gO _ _ _) fun i hi=>by rw[gT hi];exact hS i hi
 ·right
  have ex:∃m p,p<n/\v.getD p 0≠fr rows p/\rows.countP (bt rows p)=m:=by
   obtain⟨p,hp⟩:=fT.mp hS;obtain⟨hp,hv⟩:=qU.mp hp;exact⟨_,p,hp,hv,rfl⟩
  obtain⟨m,⟨p,hp,hv,hm⟩,hmin⟩:∃m,(∃p,p<n/\v.getD p 0≠fr rows p/\rows.countP (bt rows p)=m)/\∀k,k<m->¬∃p,p<n/\v.getD p 0≠fr rows p/\rows.countP (bt rows p)=k:=by
   obtain⟨m,hm⟩:=ex
   induction m using jT with
   |_ m ih=>
    by_cases hk:∃k,k<m/\∃p,p<n/\v.getD p 0≠fr rows p/\rows.countP (bt rows p)=k
    ·obtain⟨k,hk,h⟩:=hk
     exact ih k hk h
    ·exact⟨m,hm,fun k hkm hkk=>hk ⟨k,hkm,hkk⟩⟩
  have v01:=fun i=>h.1.at i;have tv:∀{r:List Int}{i:Nat},r∈rows->r.getD i 0=v.getD i 0->v.getD i 0≠fr rows i->bt rows i r=true:=fun hr e hne=>kj.mpr (by rw[e];exact hne);refine⟨p,hp,gnz.mpr ?_,?_⟩
  ·obtain⟨r,hr,e,_⟩:=h.2 p p hp hp
   exact⟨r,hr,tv hr e hv⟩
  ·refine DH h.1.1 (M4.gO _ _ _) fun q hq=>?_
   unfold below;rw[gT hq];by_cases hqv:v.getD q 0=fr rows q
   ·rw[if_neg,hqv]
    rw[hU];intro hs;obtain⟨r,hr,e1,e2⟩:=h.2 p q hp hq;exact kj.mp (hs r hr (tv hr e1 hv)) (e2.trans hqv)
   ·rw[if_pos,(neq (v01 q) (t.f01 q)).mp hqv]
    rw[hU];obtain⟨r,hr,e1,e2⟩:=h.2 p q hp hq;rcases t.nest hp hq hr (tv hr e1 hv) (tv hr e2 hqv)with hs|hs
    ·exact hs
    ·intro r1 hr1 b1
     cases b:bt rows q r1 with
     |true=>rfl
     |false=>
      exfalso
      refine hmin _ ?_ ⟨q,hq,hqv,rfl⟩;rw[<-hm];exact AA hs hr1 b1 b
def Cls(rows:List (List Int))(p q:Nat):Prop:=∀r∈rows,∀s∈rows,r.getD p 0=s.getD p 0↔r.getD q 0=s.getD q 0
theorem Tbl.cls(t:Tbl rows n):grp rows p=grp rows q↔Cls rows p q:=by
 rw[geq];constructor
 ·intro h r hr s hs
  have a:=h r hr;have b:=h s hs;rw[bF,kj,kj]at a b;rw[eqb ((t.ok r hr).at p) ((t.ok s hs).at p) (t.f01 p),eqb ((t.ok r hr).at q) ((t.ok s hs).at q) (t.f01 q),a,b]
 ·intro h r hr
  rw[bF,kj,kj];exact not_congr (h r hr _ t.first)
structure End(rows:List (List Int))(n p:Nat)(v:List Int):Prop where
 ok:M6.Ok n v
 own:∀q,q<n->Cls rows p q->∃r∈rows,r.getD p 0=v.getD p 0/\r.getD q 0=v.getD q 0
 off:∀q,q<n->¬Cls rows p q->∃r∈rows,∃s∈rows,r.getD p 0≠s.getD p 0/\r.getD q 0=v.getD q 0/\s.getD q 0=v.getD q 0
theorem End.one(t:Tbl rows n)(hp:p<n){v w:List Int}(a:End rows n p v)(b:End rows n p w)(e:v.getD p 0=w.getD p 0):v=w:=by
 refine DH a.ok.1 b.ok.1 fun q hq=>?_;by_cases c:Cls rows p q
 ·obtain⟨r,hr,e1,e2⟩:=a.own q hq c
  obtain⟨s,hs,e3,e4⟩:=b.own q hq c;rw[<-e2,<-e4];exact(c r hr s hs).mp (by rw[e1,e3,e])
 ·apply aJ
  intro hne;have hpq:p≠q:=fun z=>c (by rw[z];exact fun _ _ _ _=>Iff.rfl);obtain⟨r,hr,s,hs,e1,e2,e3⟩:=a.off q hq c;obtain⟨r',hr',s',hs',e1',e2',e3'⟩:=b.off q hq c;obtain⟨x,y,hx,hy,k⟩:=t.mis' hpq hp hq;have k1:=k r hr;have k2:=k s hs;have k3:=k r' hr';have k4:=k s' hs';have a1:=(t.ok r hr).at p;have a2:=(t.ok s hs).at p;have a3:=(t.ok r' hr').at p;have a4:=(t.ok s' hs').at p;have b1:=a.ok.at q;have b2:=b.ok.at q;rw[e2]at k1;rw[e3]at k2;rw[e2']at k3;rw[e3']at k4;have h1:=two a1 a2 hx e1;have h2:=two a3 a4 hx e1';have h3:=two b1 b2 hy hne;rcases h3 with h3|h3
  ·rcases h1 with h|h
   ·exact k1 ⟨h,h3⟩
   ·exact k2 ⟨h,h3⟩
  ·rcases h2 with h|h
   ·exact k3 ⟨h,h3⟩
   ·exact k4 ⟨h,h3⟩
noncomputable def gP(rows:List (List Int))(n p:Nat):List Int:=M4.bl (fr rows) n (M4.above (grp rows) (grp rows p))
theorem rX:M4.above (grp rows) (grp rows p) q=true↔M4.sub (grp rows) (grp rows p) q=true/\grp rows q≠grp rows p:=by
 unfold M4.above M4.sub;rw[decide_eq_true_eq,decide_eq_true_eq]
theorem sub_self:M4.sub (grp rows) (grp rows p) p=true:=hU.mpr fun _ _ h=>h
theorem tS(hp:p<n):(below rows n p).getD p 0=1-fr rows p:=by
 unfold below;rw[gT hp,if_pos sub_self]
theorem yZ(hp:p<n):(gP rows n p).getD p 0=fr rows p:=by
 unfold gP;rw[gT hp,if_neg fun h=>(rX.mp h).2 rfl]
theorem Ay(t:Tbl rows n)(hz:grp rows p≠0)(c:¬Cls rows p q):∃r∈rows,∃s∈rows,r.getD p 0≠s.getD p 0/\(r.getD q 0=if M4.sub (grp rows) (grp rows p) q=true then 1-fr rows q else fr rows q)/\s.getD q 0=if M4.sub (grp rows) (grp rows p) q=true then 1-fr rows q else fr rows q:=by
 have miss:∀{a b:Nat},(¬∀r∈rows,bt rows a r=true->bt rows b r=true)->∃r∈rows,bt rows a r=true/\bt rows b r=false:=fun{a b} h=>by
  obtain⟨r,h⟩:=fT.mp h;obtain⟨h1,h⟩:=qU.mp h;obtain⟨h2,h⟩:=qU.mp h;exact⟨r,h1,h2,iT.mpr h⟩
 have f01:=t.f01 p;cases a:M4.sub (grp rows) (grp rows p) q with
 |true=>
  obtain⟨r,hr,h⟩:=gnz.mp hz;have hs:¬∀r∈rows,bt rows q r=true->bt rows p r=true:=fun z=>c (t.cls.mp (geq.mpr fun r hr=>bF.mpr ⟨hU.mp a r hr,z r hr⟩));obtain⟨s,hs,h1,h2⟩:=miss hs;rw[if_pos rfl];exact⟨r,hr,s,hs,by rw[(t.turn hr).mp h,t.oh.mp h2];omega,(t.turn hr).mp (hU.mp a r hr h),(t.turn hs).mp h1⟩
 |false=>
  obtain⟨r,hr,h1,h2⟩:=miss fun z=>by rw[hU.mpr z]at a;cases a
  rw[if_neg (by decide)];exact⟨r,hr,_,t.first,by rw[(t.turn hr).mp h1];show _≠fr rows p;omega,t.oh.mp h2,rfl⟩
theorem jq(t:Tbl rows n)(hp:p<n)(hz:grp rows p≠0):End rows n p (below rows n p):=by
 refine⟨DV t _,fun q hq c=>?_,fun q hq c=>?_⟩
 ·obtain⟨r,hr,h⟩:=gnz.mp hz
  have e:=geq.mp (t.cls.mpr c);refine⟨r,hr,?_,?_⟩
  ·rw[tS hp];exact(t.turn hr).mp h
  ·unfold below
   rw[gT hq,if_pos (hU.mpr fun s hs b=>by rw[<-e s hs];exact b)];exact(t.turn hr).mp (by rw[<-e r hr];exact h)
 ·have :=Ay t hz c
  unfold below;rw[gT hq];exact this
theorem mQ(t:Tbl rows n)(hp:p<n)(hz:grp rows p≠0):End rows n p (gP rows n p):=by
 refine⟨DV t _,fun q hq c=>⟨_,t.first,?_,?_⟩,fun q hq c=>?_⟩
 ·rw[yZ hp];rfl
 ·unfold gP
  rw[gT hq,if_neg fun h=>(rX.mp h).2 (t.cls.mpr c).symm];rfl
 ·have :=Ay t hz c
  unfold gP;rw[gT hq];have e:(M4.above (grp rows) (grp rows p) q=true)↔(M4.sub (grp rows) (grp rows p) q=true):=by
   rw[rX];exact⟨fun h=>h.1,fun h=>⟨h,fun z=>c (t.cls.mp z.symm)⟩⟩
  simp only[e];exact this
theorem tR(t:Tbl rows n)(hp:p<n):gP rows n p≠below rows n p:=fun h=>by
 have a:=yZ (rows:=rows) hp;have b:=tS (rows:=rows) hp;have :=t.f01 p;rw[h,b]at a;omega
theorem Dq{a b:List Int}(h:a≠b):M4.lo a b=M4.lo b a:=by
 unfold M4.lo;rw[Q.iK h];cases Q.llt b a<;>rfl
theorem Dz{a b:List Int}(h:a≠b):M4.hi a b=M4.hi b a:=by
 unfold M4.hi;rw[Q.iK h];cases Q.llt b a<;>rfl
theorem IA(t:Tbl rows n)(hp:p<n)(hz:grp rows p≠0){u v:List Int}(hu:End rows n p u)(hv:End rows n p v)(hne:u≠v):M4.lo (gP rows n p) (below rows n p)=M4.lo u v/\M4.hi (gP rows n p) (below rows n p)=M4.hi u v:=by
 have a:=mQ t hp hz;have b:=jq t hp hz;have a1:=yZ (rows:=rows) hp;have b1:=tS (rows:=rows) hp;have f:=t.f01 p;have u1:=hu.ok.at p;have v1:=hv.ok.at p;have n1:u.getD p 0≠v.getD p 0:=fun z=>hne (hu.one t hp hv z);by_cases e:u.getD p 0=fr rows p
 ·have x:=hu.one t hp a (by rw[a1];exact e)
  have y:=hv.one t hp b (by rw[b1];exact(neq v1 f).mp fun z=>n1 (e.trans z.symm));rw[x,y];exact⟨rfl,rfl⟩
 ·have x:=hu.one t hp b (by rw[b1];exact(neq u1 f).mp e)
  have y:=hv.one t hp a (by rw[a1];exact(two u1 v1 f n1).resolve_left e);rw[x,y];exact⟨Dq (tR t hp),Dz (tR t hp)⟩
end
end M7
namespace M8
open K32 M7 K83
theorem ex_grq(rows:List (List Int))(n:Nat):∃qs,GrQ rows n qs:=by
 induction n with
 |zero=>exact⟨[],⟨iR,fun _ h=>by cases h⟩,by simp,fun p hp=>by omega⟩
 |succ n ih=>
  obtain⟨qs,⟨nd,h1⟩,h2,h3⟩:=ih;by_cases c:grp rows n=0\/(grp rows n:Int)∈qs
  ·refine⟨qs,⟨nd,fun q hq=>let⟨p,hp,e⟩:=h1 q hq;⟨p,by omega,e⟩⟩,h2,fun p hp hz=>?_⟩
   by_cases e:p=n
   ·rw[e]at hz⊢
    rcases c with c|c
    ·exact absurd c hz
    ·exact c
   ·exact h3 p (by omega) hz
  ·rw[not_or]at c
   refine⟨qs++[(grp rows n:Int)],⟨dm.mpr ⟨nd,by simp,fun a ha b hb e=>c.2 (by rw[a6.mp hb]at e;rw[<-e];exact ha)⟩,fun q hq=>?_⟩,fun z=>?_,fun p hp hz=>?_⟩
   ·rcases cP.mp hq with hq|hq
    ·obtain⟨p,hp,e⟩:=h1 q hq
     exact⟨p,by omega,e⟩
    ·exact⟨n,by omega,a6.mp hq⟩
   ·rcases cP.mp z with z|z
    ·exact h2 z
    ·have :=a6.mp z
     omega
   ·by_cases e:p=n
    ·rw[e];simp
    ·exact eS _ (h3 p (by omega) hz)
theorem pd(rows:List (List Int))(n:Nat):GrQ rows n (qs0 rows n):=zg (ex_grq rows n)
noncomputable def nds(rows:List (List Int))(n:Nat):List (List Int):=M5.fh (fr rows) n (grp rows) (qs0 rows n)
noncomputable abbrev Tri:=List Int×List Int×List Int
noncomputable def tri(rows:List (List Int))(n p:Nat):Tri:=(M4.lo (gP rows n p) (below rows n p),M4.hi (gP rows n p) (below rows n p),M5.plc n (M5.own (grp rows) (grp rows p)))
noncomputable def triQ(rows:List (List Int))(n:Nat)(q:Int):Tri:=(M4.lo (M5.nA (fr rows) n (grp rows) q) (M5.nB (fr rows) n (grp rows) q),M4.hi (M5.nA (fr rows) n (grp rows) q) (M5.nB (fr rows) n (grp rows) q),M5.plc n (M5.own (grp rows) q.toNat))
theorem Cz(rows:List (List Int))(n p:Nat):triQ rows n (grp rows p:Int)=tri rows n p:=rfl
noncomputable def trs(rows:List (List Int))(n:Nat):List Tri:=(qs0 rows n).map (triQ rows n)
noncomputable def key(x:Tri):List Int:=_root_.Q.jM (x.1,x.2.1)
noncomputable def triD(x:Tri):L2.D:=.tup [nd1 x.1,nd1 x.2.1,nd1 x.2.2]
noncomputable def mC(xs:List (List Int)):List (List Int):=_root_.Q.cg [] xs xs
noncomputable def xO(xs:List Tri):List Tri:=_root_.Q.cg ([],[],[]) (xs.map key) xs
theorem vY{α β:Type}(d:α)(e:β)(g:α->β){ys:List α}(nd:ps.Nodup)(hl:ps.length=ys.length):(_root_.Q.cg d ps ys).map g=_root_.Q.cg e ps (ys.map g):=by
 unfold _root_.Q.cg;rw[bq];refine bE fun i hi=>?_;have :=tM nd hi;show g (ys.getD i d)=_;rw[ae,ae,aq,aa (by omega)];rfl
section
variable {rows rows2:List (List Int)}{n:Nat}
theorem fw(t:Tbl rows n){v:List Int}:v∈nds rows n↔Fits rows n v:=by
 have q:=pd rows n;unfold nds M5.fh;rw[aE];constructor
 ·rintro(rfl|h)
  ·exact B4 t
  ·obtain⟨x,hx,rfl⟩:=ay.mp h
   obtain⟨p,hp,rfl⟩:=q.1.2 x hx;exact B5 t (p:=p) fun z=>q.2.1 (by rw[z]at hx;exact hx)
 ·intro h
  rcases C8 t h with h|⟨p,hp,hz,h⟩
  ·exact .inl h
  ·exact .inr (ay.mpr ⟨_,q.2.2 p hp hz,h.symm⟩)
theorem lA(t:Tbl rows n){x:Tri}:x∈trs rows n↔∃p,p<n/\grp rows p≠0/\x=tri rows n p:=by
 have q:=pd rows n;unfold trs;rw[ay];constructor
 ·rintro⟨y,hy,rfl⟩
  obtain⟨p,hp,rfl⟩:=q.1.2 y hy;exact⟨p,hp,fun z=>q.2.1 (by rw[z]at hy;exact hy),rfl⟩
 ·rintro⟨p,hp,hz,rfl⟩
  exact⟨_,q.2.2 p hp hz,rfl⟩
theorem jx(t:Tbl rows n):(nds rows n).Nodup:=M5.uO (fun p _=>t.f01 p) (pd rows n).1
theorem rD(t:Tbl rows n):((trs rows n).map key).Nodup:=by
 have :=M5.Cf (fun p _=>t.f01 p) (pd rows n).1
 unfold M5.brK at this;rw[bq]at this;unfold trs;rw[bq];exact this
theorem gD_is(t:Tbl rows n):gD rows n (qs0 rows n)=.tup [.lst ((mC (nds rows n)).map nd1),.lst ((xO (trs rows n)).map triD)]:=by
 unfold gD xO;have nd:=rD t;have e:(trs rows n).map key=(qs0 rows n).map (brF rows n):=by unfold trs;rw[bq];rfl
 rw[e]at nd⊢;have :=vY (0:Int) (([],[],[]):Tri) (triQ rows n) (ys:=qs0 rows n) nd (by simp);unfold trs;rw[<-this,bq];rfl
structure Iso(rows rows2:List (List Int))(n:Nat)(φ:List Int->List Int)(o oi:Nat->Nat):Prop where
 t:Tbl rows n
 t2:Tbl rows2 n
 lt:∀j,j<n->o j<n
 lti:∀p,p<n->oi p<n
 l1:∀j,j<n->oi (o j)=j
 l2:∀p,p<n->o (oi p)=p
 fit:∀v,Fits rows n v->Fits rows2 n (φ v)
 tif:∀w,Fits rows2 n w->∃v,Fits rows n v/\w=φ v
 inj:∀u v,M6.Ok n u->M6.Ok n v->φ u=φ v->u=v
 ed:∀j v,j<n->End rows n (o j) v->End rows2 n j (φ v)
 cls:∀i j,i<n->j<n->(Cls rows2 i j↔Cls rows (o i) (o j))
 nz:∀j,j<n->(grp rows2 j≠0↔grp rows (o j)≠0)
noncomputable def psi(n:Nat)(φ:List Int->List Int)(o:Nat->Nat)(x:Tri):Tri:=(M4.lo (φ x.1) (φ x.2.1),M4.hi (φ x.1) (φ x.2.1),M5.plc n fun i=>decide ((o i:Int)∈x.2.2))
variable {φ:List Int->List Int}{o oi:Nat->Nat}
theorem Iso.nodes(I:Iso rows rows2 n φ o oi):((nds rows n).map φ).Perm (nds rows2 n):=by
 refine K84.tK ?_ (jx I.t2) fun w=>?_
 ·refine cU.mpr ?_
  have nd:(nds rows n).Pairwise (fun a b=>a≠b):=jx I.t;refine(lq.mp nd).imp ?_;rintro a b ⟨ha,hb,hab⟩ e;exact hab (I.inj a b ((fw I.t).mp ha).1 ((fw I.t).mp hb).1 e)
 ·rw[fw I.t2,ay]
  constructor
  ·rintro⟨v,hv,rfl⟩
   exact I.fit v ((fw I.t).mp hv)
  ·intro h
   obtain⟨v,hv,rfl⟩:=I.tif w h;exact⟨v,(fw I.t).mpr hv,rfl⟩
theorem HD{P:Nat->Bool}{x:Int}(h:x∈M5.plc n P):∃i,i<n/\P i=true/\x=(i:Int):=by
 obtain⟨i,hi,rfl⟩:=ay.mp h;have :=bR.mp hi;exact⟨i,aK.mp this.1,this.2,rfl⟩
theorem wQ{P P':Nat->Bool}(h:∀i,i<n->P i=P' i):M5.plc n P=M5.plc n P':=by
 unfold M5.plc;rw[lP fun i hi=>h i (aK.mp hi)]
theorem Iso.tri(I:Iso rows rows2 n φ o oi)(hj:j<n)(hz:grp rows (o j)≠0):M8.tri rows2 n j=psi n φ o (M8.tri rows n (o j)):=by
 have hp:=I.lt j hj;have hz2:=(I.nz j hj).mpr hz;have a:=mQ I.t hp hz;have b:=jq I.t hp hz;have ne:=tR I.t (rows:=rows) hp;have ne2:φ (gP rows n (o j))≠φ (below rows n (o j)):=fun e=>ne (I.inj _ _ a.ok b.ok e);have c:=IA I.t2 hj hz2 (I.ed j _ hj a) (I.ed j _ hj b) ne2;have d:M4.lo (φ (M4.lo (gP rows n (o j)) (below rows n (o j)))) (φ (M4.hi (gP rows n (o j)) (below rows n (o j))))=M4.lo (φ (gP rows n (o j))) (φ (below rows n (o j)))/\M4.hi (φ (M4.lo (gP rows n (o j)) (below rows n (o j)))) (φ (M4.hi (gP rows n (o j)) (below rows n (o j))))=M4.hi (φ (gP rows n (o j))) (φ (below rows n (o j))):=by
  unfold M4.lo M4.hi;rw[_root_.Q.iK ne];cases _root_.Q.llt (below rows n (o j)) (gP rows n (o j))with
  |false=>exact⟨rfl,rfl⟩
  |true=>exact⟨Dq (bQ ne2),Dz (bQ ne2)⟩
 unfold psi M8.tri;refine Prod.ext (c.1.trans d.1.symm) (Prod.ext (c.2.trans d.2.symm) (wQ fun i hi=>?_));rw[bF,decide_eq_true_eq,M5.lF (I.lt i hi)];unfold M5.own;rw[decide_eq_true_eq,decide_eq_true_eq,I.t2.cls,I.t.cls];exact I.cls i j hi hj
theorem Iso.tris(I:Iso rows rows2 n φ o oi):((trs rows n).map (psi n φ o)).Perm (trs rows2 n):=by
 have nd2:(trs rows2 n).Nodup:=by
  have :=rD I.t2
  exact(cU.mp this).imp fun h e=>h (by rw[e])
 refine K84.tK ?_ nd2 fun x=>?_
 ·unfold trs
  rw[bq];refine cU.mpr ?_;have q:=pd rows n;have nd:(qs0 rows n).Pairwise (fun a b=>a≠b):=q.1.1;refine(lq.mp nd).imp ?_;rintro a b ⟨ha,hb,hab⟩ e;obtain⟨p,hp,rfl⟩:=q.1.2 a ha;obtain⟨p',hp',rfl⟩:=q.1.2 b hb;have z1:grp rows p≠0:=fun z=>q.2.1 (by rw[z]at ha;exact ha);have z2:grp rows p'≠0:=fun z=>q.2.1 (by rw[z]at hb;exact hb);have e:psi n φ o (M8.tri rows n p)=psi n φ o (M8.tri rows n p'):=e;have j1:=I.lti p hp;have j2:=I.lti p' hp';have t1:=I.tri j1 (by rw[I.l2 p hp];exact z1);have t2:=I.tri j2 (by rw[I.l2 p' hp'];exact z2);rw[I.l2 p hp]at t1;rw[I.l2 p' hp']at t2;have e2:M8.tri rows2 n (oi p)=M8.tri rows2 n (oi p'):=by rw[t1,t2,e]
  have g2:grp rows2 (oi p)=grp rows2 (oi p'):=by
   apply aJ
   intro hne;have :=M4.xv (f:=fr rows2) (n:=n) (grp:=grp rows2) (fun p _=>I.t2.f01 p) j1 j2 hne;apply this;show M4.lo (gP rows2 n (oi p)) (below rows2 n (oi p))++M4.hi (gP rows2 n (oi p)) (below rows2 n (oi p))=M4.lo (gP rows2 n (oi p')) (below rows2 n (oi p'))++M4.hi (gP rows2 n (oi p')) (below rows2 n (oi p'));rw[show M4.lo (gP rows2 n (oi p)) (below rows2 n (oi p))=M4.lo (gP rows2 n (oi p')) (below rows2 n (oi p'))from congrArg Prod.fst e2,show M4.hi (gP rows2 n (oi p)) (below rows2 n (oi p))=M4.hi (gP rows2 n (oi p')) (below rows2 n (oi p'))from congrArg (fun x:Tri=>x.2.1) e2]
  have c:=(I.cls _ _ j1 j2).mp (I.t2.cls.mp g2);rw[I.l2 p hp,I.l2 p' hp']at c;exact hab (by rw[I.t.cls.mpr c])
 ·rw[lA I.t2,ay]
  constructor
  ·rintro⟨y,hy,rfl⟩
   obtain⟨p,hp,hz,rfl⟩:=(lA I.t).mp hy;have j1:=I.lti p hp;refine⟨oi p,j1,(I.nz _ j1).mpr (by rw[I.l2 p hp];exact hz),?_⟩;rw[I.tri j1 (by rw[I.l2 p hp];exact hz),I.l2 p hp]
  ·rintro⟨j,hj,hz,rfl⟩
   have hz':=(I.nz j hj).mp hz;exact⟨_,(lA I.t).mpr ⟨o j,I.lt j hj,hz',rfl⟩,(I.tri hj hz').symm⟩
end
end M8
namespace M9
open K32 M7 M8
section
variable {rows rows2:List (List Int)}{n:Nat}
theorem mw(t:Tbl rows n):grp rows p≠0↔∃r∈rows,∃s∈rows,r.getD p 0≠s.getD p 0:=by
 rw[gnz];constructor
 ·rintro⟨r,hr,h⟩
  exact⟨r,hr,_,t.first,kj.mp h⟩
 ·rintro⟨r,hr,s,hs,h⟩
  by_cases e:r.getD p 0=fr rows p
  ·exact⟨s,hs,kj.mpr fun z=>h (e.trans z.symm)⟩
  ·exact⟨r,hr,kj.mpr e⟩
theorem HW(t:Tbl rows n)(t2:Tbl rows2 n)(h:∀r,r∈rows↔r∈rows2):Iso rows rows2 n id id id where
 t:=t
 t2:=t2
 lt:=fun _ h=>h
 lti:=fun _ h=>h
 l1:=fun _ _=>rfl
 l2:=fun _ _=>rfl
 fit:=fun v f=>f.sub fun r hr=>(h r).mp hr
 tif:=fun w f=>⟨w,f.sub fun r hr=>(h r).mpr hr,rfl⟩
 inj:=fun _ _ _ _ e=>e
 ed:=fun j v hj e=>⟨e.ok,fun q hq c=>by
  obtain⟨r,hr,x⟩:=e.own q hq fun r hr s hs=>c r ((h r).mp hr) s ((h s).mp hs);exact⟨r,(h r).mp hr,x⟩,fun q hq c=>by
  obtain⟨r,hr,s,hs,x⟩:=e.off q hq fun z=>c fun r hr s hs=>z r ((h r).mpr hr) s ((h s).mpr hs);exact⟨r,(h r).mp hr,s,(h s).mp hs,x⟩⟩
 cls:=fun i j _ _=>⟨fun c r hr s hs=>c r ((h r).mp hr) s ((h s).mp hs),fun c r hr s hs=>c r ((h r).mpr hr) s ((h s).mpr hs)⟩
 nz:=fun j _=>by
  rw[mw t,mw t2];exact⟨fun⟨r,hr,s,hs,x⟩=>⟨r,(h r).mpr hr,s,(h s).mpr hs,x⟩,fun⟨r,hr,s,hs,x⟩=>⟨r,(h r).mp hr,s,(h s).mp hs,x⟩⟩
end
end M9
namespace M9
open K32 K83 M7 M8 L2
noncomputable def trD(rows:List (List Int))(n:Nat):L2.D:=.tup [.lst ((mC (nds rows n)).map nd1),.lst ((xO (trs rows n)).map triD)]
theorem wH{xs ys:List (List Int)}(nd:xs.Nodup)(p:xs.Perm ys):mC xs=mC ys:=by
 have :=nK [] id (ys:=xs) (zs:=ys) (by rw[dy];exact nd) p
 rwa [dy,dy]at this
theorem Em{xs ys:List Tri}(nd:(xs.map key).Nodup)(p:xs.Perm ys):xO xs=xO ys:=nK _ key nd p
theorem mB{xs:List (List Int)}(nd:xs.Nodup):(mC xs).Perm xs:=jv [] nd rfl
theorem uj{xs:List Tri}(nd:(xs.map key).Nodup):(xO xs).Perm xs:=jv _ nd (by simp)
theorem lo_lo{a b:List Int}:M4.lo (M4.lo a b) (M4.hi a b)=M4.lo a b/\M4.hi (M4.lo a b) (M4.hi a b)=M4.hi a b:=by
 by_cases h:a=b
 ·subst h
  unfold M4.lo M4.hi;split <;>simp_all
 ·have t:=_root_.Q.iK h
  cases c:_root_.Q.llt b a with
  |true=>
   rw[c]at t;have c1:M4.lo a b=b:=if_pos c;have c2:M4.hi a b=a:=if_neg (by rw[t];decide);rw[c1,c2];exact⟨if_neg (by rw[t];decide),if_pos c⟩
  |false=>
   rw[c]at t;have c1:M4.lo a b=a:=if_neg (by rw[c];decide);have c2:M4.hi a b=b:=if_pos t;rw[c1,c2];exact⟨c1,c2⟩
theorem psi_id{a b:List Int}{P:Nat->Bool}:psi n id id (M4.lo a b,M4.hi a b,M5.plc n P)=(M4.lo a b,M4.hi a b,M5.plc n P):=by
 unfold psi;dsimp only[id];rw[lo_lo.1,lo_lo.2];refine Prod.ext rfl (Prod.ext rfl ?_);refine wQ fun i hi=>?_;rw[bF,decide_eq_true_eq];constructor
 ·intro h
  obtain⟨j,_,hP,e⟩:=HD h;rw[show i=j by omega];exact hP
 ·intro h
  unfold M5.plc;exact ay.mpr ⟨i,bR.mpr ⟨aK.mpr hi,h⟩,rfl⟩
theorem F6(t:Tbl rows n)(t2:Tbl rows2 n)(h:∀r,r∈rows↔r∈rows2):trD rows n=trD rows2 n:=by
 have I:=HW t t2 h;have pn:=I.nodes;rw[dy]at pn;have pt:=I.tris;have e:(trs rows n).map (psi n id id)=trs rows n:=by
  conv =>rhs;rw[<-dy (trs rows n)]
  refine bE fun x hx=>?_;obtain⟨p,_,_,rfl⟩:=(lA t).mp hx;exact psi_id
 rw[e]at pt;unfold trD;rw[wH (jx t) pn,Em (rD t) pt]
theorem yt(rows:List (List Int))(n:Nat):(nds rows n).length<=n+1:=by
 have :=M5.tQ (pd rows n).1
 unfold nds M5.fh;simp;omega
theorem trs_len(rows:List (List Int))(n:Nat):(trs rows n).length<=n:=by
 have :=M5.tQ (pd rows n).1
 unfold trs;simp;omega
end M9
namespace K34
open PySem PySem.Spec PyProof.Rows L2 R Cp Lt Kc K21 K22 Lm M5 K32 K24
structure Tn(H:Hp)(t:Addr)(nf:Nat->Str)(n:Nat)(ys:List V)(rows:List (List Int)):Prop where
 et:H t=some (.lst ys)
 ln:rows.length=ys.length
 row:∀(i:Nat) y,ys[i]? =some y->∃b r,y=.ref b/\H b=some (.tup [.str (nf i),.ref r])/\H r=some (.tup ((rows.getD i []).map V.int))
 ok:∀i,gK (nf i)=true
 inj:∀i j,i<ys.length->j<ys.length->nf i=nf j->i=j
 len:ys.length<=40
 n10:n<=60
 rd:∀r∈rows,M6.Ok n r
 mis:∀i j,i<j->j<n->M6.Mis rows i j
section
variable {H H':Hp}{t:Addr}{nf:Nat->Str}{n:Nat}{ys:List V}{rows:List (List Int)}{T:Tb}
theorem Tn.get(d:Tn H t nf n ys rows)(h:i<ys.length):rows.getD i []∈rows:=by
 rw[ae,aa (by rw[d.ln];exact h)];exact a9 _
theorem Tn.gr(d:Tn H t nf n ys rows)(g:Gr T H H')(tt:Tab T H):Tn H' t nf n ys rows:=
 {d with et:=g.lst tt d.et,row:=fun i y e=>let⟨b,r,h1,h2,h3⟩:=d.row i y e;⟨b,r,h1,g.t8 tt h2,g.t8 tt h3⟩}
theorem Tn.same(d:Tn H t nf n ys rows)(s:aL H H'):Tn H' t nf n ys rows:=
 {d with et:=s _ _ d.et,row:=fun i y e=>let⟨b,r,h1,h2,h3⟩:=d.row i y e;⟨b,r,h1,s _ _ h2,s _ _ h3⟩}
theorem Tn.dr(d:Tn H t nf n ys rows):Dr H nf n ys:=fun i y e=>by
 obtain⟨b,r,h1,h2,h3⟩:=d.row i y e;have o:=d.rd _ (d.get (aC.mp e).1);refine⟨b,r,_,h1,h2,h3,by rw[ai];exact o.1,fun z hz=>?_⟩;obtain⟨x,hx,rfl⟩:=ay.mp hz;rcases o.2 x hx with rfl|rfl<;>rfl
theorem Tn.tab(d:Tn H t nf n ys rows):Kn4 H (.ref t)/\dB H (.ref t)=true/\(∀y∈ys,cZ H y=true)/\∀y∈ys,cq H y=n:=
 vj d.ok d.inj d.et d.dr (by have :=d.len;omega) (by have :=d.n10;omega)
theorem Tn.count(d:Tn H t nf n ys rows)(h:ys≠[]):Cp.count H (.ref t)=n:=by
 show(match dZ (H t)with |some (y::_)=>cq H y|_=>0)=n;rw[d.et];cases ys with
 |nil=>exact absurd rfl h
 |cons y r=>exact d.tab.2.2.2 y (.head _)
theorem Tn.perm(d:Tn H t nf n ys rows):(rowsOf H (.ref t)).Perm (ys.map (cd H)):=by
 have nd:(ys.map (aU H)).Nodup:=by
  obtain⟨a,xs,e,h1,h2,h3,h4,h5⟩:=eG d.tab.2.1;cases e;rw[show dZ (H t)=some ys by rw[d.et];rfl]at h1;cases h1;exact h4
 unfold rowsOf;rw[tF (show dZ (H t)=some ys by rw[d.et];rfl)];exact(_root_.Q.fN V.non nd (by simp)).map (cd H)
theorem Tn.cds(d:Tn H t nf n ys rows)(x:Str×List V):x∈ys.map (cd H)↔∃i,i<ys.length/\x=(nf i,(rows.getD i []).map V.int):=by
 constructor
 ·intro h
  obtain⟨y,hy,rfl⟩:=ay.mp h;obtain⟨i,e⟩:=bJ.mp hy;obtain⟨b,r,rfl,h2,h3⟩:=d.row i y e;exact⟨i,(aC.mp e).1,Bz h2 h3⟩
 ·rintro⟨i,hi,rfl⟩
  have e:=aa hi;obtain⟨b,r,e1,h2,h3⟩:=d.row i _ e;refine ay.mpr ⟨ys[i],a9 hi,?_⟩;rw[e1];exact Bz h2 h3
theorem Ah(z:List Int):(z.map V.int).map intOf=z:=by
 rw[bq]
 conv =>rhs;rw[<-dy z]
 rfl
theorem Tn.mem(d:Tn H t nf n ys rows)(r:List Int):r∈K32.rI (rowsOf H (.ref t))↔r∈rows:=by
 unfold K32.rI;rw[(d.perm.map _).mem_iff];constructor
 ·intro h
  obtain⟨x,hx,rfl⟩:=ay.mp h;obtain⟨i,hi,rfl⟩:=(d.cds x).mp hx;rw[Ah];exact d.get hi
 ·intro h
  obtain⟨i,hi,rfl⟩:=cE.mp h;refine ay.mpr ⟨(nf i,(rows.getD i []).map V.int),(d.cds _).mpr ⟨i,by rw[<-d.ln];exact hi,rfl⟩,?_⟩;rw[Ah,ae,aa hi];rfl
theorem Tn.tbl(d:Tn H t nf n ys rows)(h:ys≠[]):M7.Tbl rows n:=⟨d.rd,fun z=>h (a8.mp (by rw[<-d.ln,z];rfl)),d.mis⟩
theorem Dc{r:Str×List V}{z:List Int}(e:r.2=z.map V.int)(i:Nat)(h:i<z.length):EN i r=z.getD i 0:=by
 unfold EN;rw[e,aH,ae,aq,ae,aa h];rfl
theorem Tn.noc(d:Tn H t nf n ys rows):NoC (rowsOf H (.ref t)) (Cp.count H (.ref t)):=fun a b hab hb=>by
 rw[iT];intro z;rw[K24.vg]at z;have mem:∀r∈rowsOf H (.ref t),∃q∈rows,r.2=q.map V.int:=fun r hr=>by
  obtain⟨i,hi,rfl⟩:=(d.cds r).mp (d.perm.mem_iff.mp hr);exact⟨_,d.get hi,rfl⟩
 have hy:ys≠[]:=fun e=>by
  obtain⟨r,hr,_⟩:=z 0 0 (.inl rfl) (.inl rfl);obtain⟨q,hq,_⟩:=mem r hr;have :=d.ln;rw[e]at this;rw[a8.mp this]at hq;cases hq
 rw[d.count hy]at hb;obtain⟨u,v,hu,hv,k⟩:=d.mis a b hab hb;obtain⟨r,hr,e1,e2⟩:=z u v hu hv;obtain⟨q,hq,e⟩:=mem r hr;have o:=d.rd q hq;rw[Dc e a (by rw[o.1];omega)]at e1;rw[Dc e b (by rw[o.1];omega)]at e2;exact k q hq ⟨e1,e2⟩
theorem tree_n{Q:VK}{E:XS}(d:Tn H t nf n ys rows)(tb:Tab T H)(q:∀H' p,Gr T H H'->(∃xs,H' p=some (.tup xs))->Rep K H' (if ys=[]then .tup [.lst [],.lst []]else M9.trD rows n) (.ref p)->Q (.ref p) H')(s:L2.St):K83.xP T [.ref t] H Q (E s):=by
 refine⟨_,rfl,d.tab.1,tb,d.tab.2.1,d.noc,fun H' p gr fp tk=>q H' p gr (by
  rcases tk with⟨_,a,b,ep,_⟩ |⟨_,nl,bl,ks,bs,qs,ep,_⟩
  ·exact⟨_,ep⟩
  ·exact⟨_,ep⟩) ?_⟩
 have h0:rowsOf H (.ref t)=[]↔ys=[]:=by
  have :=d.perm.length_eq
  rw[ai]at this;rw[<-a8,this,a8]
 by_cases hy:ys=[]
 ·rw[if_pos hy]
  have :=K83.zu (K:=K) (n:=0) (fun l hl=>by rw[h0.mpr hy]at hl;cases hl) (fun h=>absurd (h0.mpr hy) h) tk
  unfold K83.tD at this
  rwa [if_pos (h0.mpr hy)]at this
 ·rw[if_neg hy]
  have tl:=d.tbl hy;have tl2:M7.Tbl (K32.rI (rowsOf H (.ref t))) n:=⟨fun r hr=>tl.ok r ((d.mem r).mp hr),fun z=>?_,fun i j a b=>(tl.mis i j a b).sub fun r hr=>(d.mem r).mp hr⟩
  ·have :=K83.zu (K:=K) (n:=n) (fun l hl=>?_) (fun _=>d.count hy) tk
   ·unfold K83.tD at this
    rw[if_neg (fun z=>hy (h0.mp z)),M8.gD_is tl2]at this;rw[<-M9.F6 tl2 tl d.mem];exact this
   ·obtain⟨i,hi,rfl⟩:=(d.cds l).mp (d.perm.mem_iff.mp hl)
    have o:=d.rd _ (d.get hi);refine⟨by rw[ai];exact o.1,fun y hy=>?_⟩;obtain⟨x,hx,rfl⟩:=ay.mp hy;rcases o.2 x hx with rfl|rfl<;>rfl
  ·unfold K32.rI at z
   exact hy (h0.mp (List.map_eq_nil_iff.mp z))
end
end K34
namespace K34
open PySem PySem.Spec PyProof.Rows L2 R Cp Lt Kc K21 K22 Lm M5 K32
theorem G4{α β:Type}{F:α->β->Prop}:∀{l:List α}{m:List β},l.length=m.length->(∀(j:Nat) a b,l[j]? =some a->m[j]? =some b->F a b)->Paired F l m
 | [],[],_,_=>.nil
 |a::l,b::m,h,f=>.cons (f 0 a b rfl rfl) (G4 (js h) fun j x y e1 e2=>f (j+1) x y (by simpa using e1) (by simpa using e2))
theorem wN:∀{ks:List Int}{ys:List V},eI K H (ks.map L2.D.int) ys->ys=ks.map V.int
 | [],ys,h=>h
 |k::ks,ys,h=>by
  obtain⟨x,r,rfl,h1,h2⟩:=h;obtain rfl:x=.int k:=h1;rw[wN h2];rfl
theorem yu{k:List Int}{v:V}(h:Rep K H (K83.nd1 k) v):∃a,v=.ref a/\SqT K H a (k.map V.int):=by
 obtain⟨a,xs,rfl,hq,rs⟩:=h;rw[wN rs]at hq;exact⟨a,rfl,hq⟩
end K34
namespace K75
open PySem R
noncomputable def yi:List Str:=["thing","count"]
noncomputable def qj:List Str:=["thing","count"]
noncomputable def m9:CB:=
  (.cons (.ret (.call "is_reading" (.cons (.idx (.var 0) (.con (.int 1))) .nil)))
  .nil)
noncomputable def ng:CB:=
  (.cons (.iff (.or (.not (.call "is_whole" (.cons (.idx (.var 0) (.con (.int 0))) .nil))) (.not (.chain .LtE .Lt (.con (.int 0)) (.idx (.var 0) (.con (.int 0))) (.var 1))))
  (.cons (.ret (.con (.bool false)))
  .nil)
  .nil)
  m9)
noncomputable def qG:CB:=
  (.cons (.iff (.or (.not (.bfn .isinstance (.cons (.var 0) (.cons (.ty .tuple) .nil)))) (.cmp .NotEq (.bfn .len (.cons (.var 0) .nil)) (.con (.int 2))))
  (.cons (.ret (.con (.bool false)))
  .nil)
  .nil)
  ng)
noncomputable def uG:List Str:=["thing","count"]
noncomputable def mI:List Str:=["thing","count"]
noncomputable def lh:CB:=
  (.cons (.ret (.cmp .Eq (.bfn .len (.cons (.bfn .set (.cons (.comp ["place","elder"] [] (.tup (.cons (.name 0) (.cons (.name 1) .nil))) (.seq (.var 0)) .no (.var 0)) .nil)) .nil)) (.bfn .len (.cons (.var 0) .nil))))
  .nil)
noncomputable def ll:CB:=
  (.cons (.iff (.not (.bfn .all (.cons (.comp ["part"] [1] (.name 0) (.seq (.var 0)) .no (.call "is_telling" (.cons (.var 0) (.cons (.var 1) .nil)))) .nil)))
  (.cons (.ret (.con (.bool false)))
  .nil)
  .nil)
  lh)
noncomputable def nG:CB:=
  (.cons (.iff (.not (.bfn .isinstance (.cons (.var 0) (.cons (.ty .list) .nil))))
  (.cons (.ret (.con (.bool false)))
  .nil)
  .nil)
  ll)
noncomputable def sU:List Str:=["table","tellings"]
noncomputable def lR:List Str:=["table","tellings","count"]
noncomputable def jY:CB:=
  (.cons (.iff (.not (.call "are_tellings" (.cons (.var 1) (.cons (.var 2) .nil))))
  .hole
  .nil)
  .nil)
noncomputable def jZ:CB:=
  (.cons (.iff (.cmp .Eq (.bfn .len (.cons (.var 0) .nil)) (.con (.int 0)))
  .hole
  .nil)
  jY)
noncomputable def lT:CB:=
  (.cons (.asg (.name 2) (.call "place_count" (.cons (.var 0) .nil)))
  jZ)
noncomputable def zN:List Str:=["nodes","tellings"]
noncomputable def sj:List Str:=["nodes","tellings"]
noncomputable def sG:CB:=
  (.cons (.ret (.comp ["node"] [1] (.name 0) (.seq (.var 0)) (.yes (.bfn .all (.cons (.comp ["place","elder"] [0] (.tup (.cons (.name 0) (.cons (.name 1) .nil))) (.seq (.var 1)) .no (.cmp .Eq (.idx (.var 2) (.var 0)) (.var 1))) .nil))) (.var 0)))
  .nil)
noncomputable def yd:List Str:=["nodes","tellings"]
noncomputable def qe:List Str:=["nodes","tellings","found"]
noncomputable def mR:CB:=
  (.cons (.ret (.var 2))
  .nil)
noncomputable def mS:CB:=
  (.cons (.iff (.cmp .Eq (.bfn .len (.cons (.var 2) .nil)) (.con (.int 0)))
  .hole
  .nil)
  mR)
noncomputable def qz:CB:=
  (.cons (.asg (.name 2) (.call "that_read" (.cons (.var 0) (.cons (.var 1) .nil))))
  mS)
noncomputable def rJ:List Str:=["branches","nodes","tellings"]
noncomputable def kK:List Str:=["branches","nodes","tellings","told","found","one","other","places"]
noncomputable def jA:CB:=
  (.cons (.ret (.var 4))
  .nil)
noncomputable def jB:CB:=
  (.cons (.forr (.tup (.cons (.name 5) (.cons (.name 6) (.cons (.name 7) .nil)))) (.seq (.var 0))
  (.cons (.iff (.or (.cmp .In (.var 5) (.var 1)) (.cmp .In (.var 6) (.var 1)))
  (.cons (.expr (.meth1 .extend (.var 4) (.comp ["place"] [3] (.name 0) (.seq (.var 7)) (.yes (.cmp .NotIn (.var 0) (.var 1))) (.var 0))))
  .nil)
  .nil)
  .nil))
  jA)
noncomputable def jC:CB:=
  (.cons (.asg (.name 4) (.lst .nil))
  jB)
noncomputable def kP:CB:=
  (.cons (.asgc 3 (.comp ["place","elder"] [] (.tup (.cons (.name 0) (.cons (.name 1) .nil))) (.seq (.var 2)) .no (.var 0)))
  jC)
noncomputable def yk:List Str:=["table","tellings"]
noncomputable def ql:List Str:=["table","tellings","whole","nodes","unknown"]
noncomputable def nr:CB:=
  (.cons (.ret (.bfn .tuple (.cons (.comp ["place","reading"] [4] (.tup (.cons (.name 0) (.cons (.name 1) .nil))) (.enumt (.idx (.var 3) (.con (.int 0)))) .no (.ite (.cmp .In (.var 0) (.var 2)) (.con .none) (.var 1))) .nil)))
  .nil)
noncomputable def ny:CB:=
  (.cons (.asg (.name 4) (.call "unknown_places" (.cons (.idx (.var 2) (.con (.int 1))) (.cons (.var 3) (.cons (.var 1) .nil)))))
  nr)
noncomputable def nC:CB:=
  (.cons (.asg (.name 3) (.call "told_nodes" (.cons (.idx (.var 2) (.con (.int 0))) (.cons (.var 1) .nil))))
  ny)
noncomputable def nF:CB:=
  (.cons (.asg (.name 2) (.call "tree" (.cons (.var 0) .nil)))
  nC)
noncomputable def qL:CB:=
  (.cons (.expr (.call "need_tellings" (.cons (.var 0) (.cons (.var 1) .nil))))
  nF)
end K75
namespace K75
open PySem PySem.Spec PyProof.Rows L2 R Cp Lt Kc K21 K22 Lm M5 K32 K34
def TgV(H:Hp)(z:V)(q:Nat×Int):Prop:=∃a,z=V.ref a/\H a=some (.tup [.int q.1,.int q.2])
structure Tls(H:Hp)(l:Addr)(zs:List V)(ts:List (Nat×Int)):Prop where
 hl:H l=some (.lst zs)
 pr:Paired (TgV H) zs ts
theorem Tls.same(d:Tls H l zs ts)(s:aL H H'):Tls H' l zs ts:=⟨s _ _ d.hl,Paired.mM d.pr fun _ _ ⟨a,e,h⟩=>⟨a,e,s _ _ h⟩⟩
theorem Tls.gr{T:Tb}(d:Tls H l zs ts)(g:Gr T H H')(tt:Tab T H):Tls H' l zs ts:=⟨g.lst tt d.hl,Paired.mM d.pr fun _ _ ⟨a,e,h⟩=>⟨a,e,g.t8 tt h⟩⟩
structure Vt(n:Nat)(ts:List (Nat×Int)):Prop where
 ok:∀q∈ts,q.1<n/\(q.2=0\/q.2=1)
 nd:(ts.map (·.1)).Nodup
theorem Vt.len(v:Vt n ts):ts.length<=n:=by
 have :=L2.qd v.nd (m:=aw n) fun x hx=>by
  obtain⟨q,hq,rfl⟩:=ay.mp hx;exact aK.mpr (v.ok q hq).1
 rw[ai,aO]at this;exact this
theorem i4{α β:Type}{P:α->β->Prop}{xs:List α}{ys:List β}(h:Paired P xs ys){x:α}(e:xs[i]? =some x):∃y,ys[i]? =some y/\P x y:=K83.wO h e
noncomputable def spTg:Sp:=fun vs H Q _=>∃(a:Addr)(n p:Nat)(e:Int),vs=[.ref a,.int n]/\H a=some (.tup [.int p,.int e])/\p<n/\(e=0\/e=1)/\∀H',aL H H'->Q (.bl true) H'
theorem wp_tg(g1:G.fn "is_whole" 1=some (spB isWhole,[]))(g2:G.fn "is_reading" 1=some (spB cA,[])):Sat G K spTg qG qj:=by
 rintro vs H Q E ⟨a,n,p,e,rfl,ha,hp,he,q⟩;unfold qG;change wpB G K _ _ _ [some (.ref a),some (.int n)] H;walk_at "wp";refine isi (yB ha) .tuple ⟨_,rfl,?_⟩;rw[show tyName H (.ref a)="tuple" by show gu (H a)=_;rw[ha];rfl,if_neg (by decide)];refine .inl ⟨a,_,rfl,.inr (SqT.of ha),De.mpr ⟨_,rfl,?_⟩⟩;rw[if_neg (by simp)];unfold ng;walk_at "wp";refine⟨_,_,g1,.inr (.inl ⟨a,_,0,_,rfl,rfl,SqT.of ha,rfl,.int p,rfl,uZ,fun H1 s1=>⟨_,rfl,?_⟩⟩)⟩;rw[show(!isWhole (.int p))=false from rfl,if_neg (by decide)];refine .inr (.inl ⟨a,_,0,_,rfl,rfl,SqT.of (s1 _ _ ha),rfl,?_⟩);walk_at "wp";rw[if_pos (decide_eq_true (by omega:(0:Int)<=p)),if_neg (by rw[decide_eq_true (by omega:(p:Int)<n)];decide)];unfold m9;walk_at "wp";refine⟨_,_,g2,.inr (.inl ⟨a,_,1,_,rfl,rfl,SqT.of (s1 _ _ ha),rfl,.int e,rfl,uZ,fun H2 s2=>?_⟩)⟩;rw[show cA (.int e)=true by rcases he with rfl|rfl<;>rfl];exact q _ (s1.trans s2)
theorem yv{ks:List Key}(nd:ks.Nodup):(_root_.Q.met ks).length=ks.length:=by
 have a:=_root_.Q.BP ks;have b:=L2.qd nd (m:=_root_.Q.met ks) fun x hx=>_root_.Q.jW.mpr hx;omega
noncomputable def spAt:Sp:=fun vs H Q _=>∃(l:Addr)(n:Nat)(zs:List V)(ts:List (Nat×Int)),vs=[.ref l,.int n]/\Tls H l zs ts/\Vt n ts/\n<=60/\∀H',aL H H'->Q (.bl true) H'
theorem wp_at(g1:G.fn "is_telling" 2=some (spTg,[])):Sat G K spAt nG mI:=by
 rintro vs H Q E ⟨l,n,zs,ts,rfl,d,v,n60,q⟩;have zl:zs.length=ts.length:=K83.gI d.pr;have tl:=v.len;unfold nG;change wpB G K _ _ _ [some (.ref l),some (.int n)] H;walk_at "wp";refine isi (HM d.hl) .list ⟨_,rfl,?_⟩;rw[show tyName H (.ref l)="list" by show gu (H l)=_;rw[d.hl];rfl,if_neg (by decide)];unfold ll;walk_at "wp";refine cS (b7 rfl (SqL.of d.hl) (dH cX (dA (by omega)) (fun H1 s1=>SqL.of (s1 _ _ d.hl)) (fun i v _=>v=.bl true) (fun _ _ _ _ _ h=>h) (fun τ=>∃u,τ=[u,some (.int n)]) ⟨none,rfl⟩ ?_ ?_))
 ·rintro i x τ H3 R hi ⟨u,rfl⟩ s3 hx k
  obtain⟨q',hq,a,rfl,ha⟩:=i4 d.pr hx;obtain⟨o1,o2⟩:=v.ok q' (aD hq);walk_at "wp";exact⟨_,_,g1,a,n,q'.1,q'.2,rfl,s3 _ _ ha,o1,o2,fun H4 s4=>k _ _ _ ⟨_,rfl⟩ s4 rfl⟩
 intro vs H2 l2 hvl hF s2 hl2;have e:vs=((aw zs.length).map fun _=>true).map V.bl:=by rw[<-hvl];exact bool_list rfl hF
 subst e;refine⟨l2,_,rfl,SqL.of ao,_,rfl,?_⟩;rw[show(((aw zs.length).map fun _=>true).all id)=true by rw[n9];simp,if_neg (by decide)];have s3:=s2.trans (ax (o:=.lst (((aw zs.length).map fun _=>true).map V.bl)) hl2);generalize upd H2 l2 (.lst (((aw zs.length).map fun _=>true).map V.bl))=H3 at s3;unfold lh;walk_at "wp";refine cS (b7 rfl (SqL.of (s3 _ _ d.hl)) (dH cX (dA (by omega)) (fun H1 s1=>SqL.of (s1 _ _ (s3 _ _ d.hl))) (fun i v _=>v=.int (((ts.map (·.1)).getD i 0:Nat):Int)) (fun _ _ _ _ _ h=>h) (fun τ=>∃u w,τ=[u,w]) ⟨none,none,rfl⟩ ?_ ?_))
 ·rintro i x τ H4 R hi ⟨u,w,rfl⟩ s4 hx k
  obtain⟨q',hq,a,rfl,ha⟩:=i4 d.pr hx;refine⟨a,_,rfl,SqT.of ((s3.trans s4) _ _ ha),rfl,_,_,rfl,_,_,rfl,rfl,_,rfl,k _ _ _ ⟨_,_,rfl⟩ (aL.refl _) ?_⟩;rw[ae,aq,hq];rfl
 intro vs H4 l4 hvl4 hF4 s4 hl4;have e4:vs=(ts.map fun q=>(dE (q.1:Int):Key)).map kV:=by
  rw[bq];apply bg
  ·rw[hvl4,ai,zl]
  ·intro i h1 h2
   rw[hF4 i _ (aa h1),aY,ae,aq,aa (by rw[ai]at h2;exact h2)];rfl
 subst e4;refine⟨l4,_,rfl,SqL.of ao,by rw[ai];omega,fun c hc=>?_⟩;have s5:=s3.trans (s4.trans (ax (o:=.lst ((ts.map fun q=>(dE (q.1:Int):Key)).map kV)) hl4));generalize upd H4 l4 (.lst ((ts.map fun q=>(dE (q.1:Int):Key)).map kV))=H5 at s5 hc;refine .inr (.inr ⟨c,_,rfl,ao,?_⟩);have s6:=s5.trans (ax (o:=_root_.Q.zD c (_root_.Q.met (ts.map fun q=>(dE (q.1:Int):Key))).length) hc);have hl6:=s6 _ _ d.hl;refine .inl ⟨l,_,rfl,.inl (SqL.of hl6),kO.mpr ?_⟩;have em:=yv (ks:=ts.map fun q=>(dE (q.1:Int):Key)) (by
  have :=v.nd
  rw[zj,cU]at this⊢;exact this.imp fun h z=>h (Int.ofNat.inj (dE.inj z)))
 rw[ai]at em;rw[em]at s6⊢;rw[zl,decide_eq_true rfl];exact q _ s6
noncomputable def spNt(K:ah):Sp:=fun vs H Q _=>∃(t l:Addr)(nf:Nat->Str)(n:Nat)(ys zs:List V)(rows:List (List Int))(ts:List (Nat×Int)),vs=[.ref t,.ref l]/\Tn H t nf n ys rows/\ys≠[]/\Tls H l zs ts/\Vt n ts/\∀H',aL H H'->Q .non H'
theorem wp_nt(g1:G.fn "place_count" 1=some (tH C,[]))(g2:G.fn "are_tellings" 2=some (spAt,[])):Sat G K (spNt K) lT lR:=by
 rintro vs H Q E ⟨t,l,nf,n,ys,zs,rows,ts,rfl,d,ne,tl,v,q⟩;have n10:=d.n10;unfold lT;change wpB G K _ _ _ [some (.ref t),some (.ref l),none] H;walk_at "wp";refine⟨_,_,g1,.ref t,rfl,d.tab.1,fun _ H1 s1=>?_,fun z=>by(rw[d.tab.2.1]at z;cases z)⟩;rw[d.count ne];unfold jZ;walk_at "wp";refine .inl ⟨t,_,rfl,.inl (SqL.of (s1 _ _ d.et)),kO.mpr ⟨_,rfl,?_⟩⟩;rw[if_neg (by simpa using fun z=>ne (a8.mp z))];unfold jY;walk_at "wp";refine⟨_,_,g2,l,n,zs,ts,rfl,tl.same s1,v,by omega,fun H2 s2=>⟨_,rfl,?_⟩⟩;rw[if_neg (by decide)];exact q _ (s1.trans s2)
def NdV(K:ah)(H:Hp)(v:V)(k:List Int):Prop:=∃b,v=V.ref b/\SqT K H b (k.map V.int)
theorem NdV.same{v:V}{k:List Int}(h:NdV K H v k)(s:aL H H'):NdV K H' v k:=let⟨b,e,q⟩:=h;⟨b,e,s.tup q⟩
noncomputable def rdT(ts:List (Nat×Int))(v:List Int):Bool:=ts.all fun q=>decide (v.getD q.1 0=q.2)
theorem tE{α:Type}{P:V->α->Prop}(t:α->Bool):∀{xs:List V}{ds:List α},Paired P xs ds->Paired P (((xs.zip ds).filter fun p=>t p.2).map fun p=>p.1) (ds.filter t)
 |_,_,.nil=>.nil
 |x::xs,d::ds,.cons h r=>by
  have ih:=tE t r;rw[kB,jd,jd];cases c:t d with
  |true=>exact .cons h ih
  |false=>exact ih
noncomputable def Gj(K:ah):Sp:=fun vs H Q _=>∃(a l:Addr)(n:Nat)(us zs:List V)(ns:List (List Int))(ts:List (Nat×Int)),vs=[.ref a,.ref l]/\SqL K H a us/\Paired (NdV K H) us ns/\(∀v∈ns,v.length=n)/\ns.length<=61/\n<=60/\Tls H l zs ts/\Vt n ts/\
 ∀H' l' ws,aL H H'->H l'=none->H' l'=some (.lst ws)->Paired (NdV K H') ws (ns.filter (rdT ts))->Q (.ref l') H'
theorem wp_thr:Sat G K (Gj K) sG sj:=by
 rintro vs H Q E ⟨a,l,n,us,zs,ns,ts,rfl,ha,pn,hv,n40,n60,d,v,q⟩;have ul:us.length=ns.length:=K83.gI pn;have zl:zs.length=ts.length:=K83.gI d.pr;have tl:=v.len;unfold sG;change wpB G K _ _ _ [some (.ref a),some (.ref l)] H;walk_at "wp";refine cS (b7 rfl ha (qx ul cX (dA (by omega)) (fun H1 s1=>s1.seq ha) (rdT ts) (fun x _=>x) (fun τ=>∃u,τ=[u,some (.ref l)]) ⟨none,rfl⟩ ?_ ?_))
 ·rintro i x k τ H3 Rt Rf hx hk ⟨u,rfl⟩ s3 kt kf
  obtain⟨k',hk',b,rfl,hb⟩:=i4 pn hx;rw[hk]at hk';cases hk';have kl:=hv k (aD hk);walk_at "wp";refine cS (b7 rfl (SqL.of (s3 _ _ d.hl)) (dH cX (dA (by omega)) (fun H1 s1=>SqL.of (s1 _ _ (s3 _ _ d.hl))) (fun i v _=>v=.bl (decide (k.getD (ts.getD i (0,0)).1 0=(ts.getD i (0,0)).2))) (fun _ _ _ _ _ h=>h) (fun τ=>∃u w,τ=[u,w,some (.ref b)]) ⟨none,none,rfl⟩ ?_ ?_))
  ·rintro j z τ H4 R hj ⟨u',w,rfl⟩ s4 hz kk
   obtain⟨q',hq,c,rfl,hc⟩:=i4 d.pr hz;obtain⟨o1,o2⟩:=v.ok q' (aD hq);have s34:=s3.trans s4;refine⟨c,_,rfl,SqT.of (s34 _ _ hc),rfl,_,_,rfl,_,_,rfl,rfl,?_⟩;walk_at "wp";refine .inr (.inl ⟨b,_,_,_,rfl,rfl,s34.tup hb,cG (gE (by rw[kl];exact o1)),kO.mpr (kk _ _ _ ⟨_,_,rfl⟩ (aL.refl _) ?_)⟩);rw[getD_some hq]
  ·intro bs H4 l4 hbl hF s4 hl4
   have e:=bool_list hbl hF;subst e;refine⟨l4,_,rfl,SqL.of ao,_,rfl,?_⟩;have er:(((aw zs.length).map fun i=>decide (k.getD (ts.getD i (0,0)).1 0=(ts.getD i (0,0)).2)).all id)=rdT ts k:=by
    unfold rdT;rw[zl,<-qP ts (0,0) fun q:Nat×Int=>decide (k.getD q.1 0=q.2)]
   rw[er];have s5:=s4.trans (ax (o:=.lst (((aw zs.length).map fun i=>decide (k.getD (ts.getD i (0,0)).1 0=(ts.getD i (0,0)).2)).map V.bl)) hl4);cases c:rdT ts k with
   |true=>rw[if_pos rfl];exact kt _ _ ⟨_,rfl⟩ s5 c
   |false=>rw[if_neg (by decide)];exact kf _ _ ⟨_,rfl⟩ s5 c
 ·intro H2 l2 s2 hl2
  have s3:=s2.trans (ax (o:=.lst (((us.zip ns).filter fun p=>rdT ts p.2).map fun p=>p.1)) hl2);exact q _ l2 _ s3 (s2.free hl2) ao (tE (rdT ts) (Paired.mM pn fun _ _ h=>h.same s3))
noncomputable def spTn(K:ah):Sp:=fun vs H Q _=>∃(a l:Addr)(n:Nat)(us zs:List V)(ns:List (List Int))(ts:List (Nat×Int)),vs=[.ref a,.ref l]/\SqL K H a us/\Paired (NdV K H) us ns/\(∀v∈ns,v.length=n)/\ns.length<=61/\n<=60/\Tls H l zs ts/\Vt n ts/\ns.filter (rdT ts)≠[]/\
 ∀H' l' ws,aL H H'->H l'=none->H' l'=some (.lst ws)->Paired (NdV K H') ws (ns.filter (rdT ts))->Q (.ref l') H'
theorem wp_tn(g1:G.fn "that_read" 2=some (Gj K,[])):Sat G K (spTn K) qz qe:=by
 rintro vs H Q E ⟨a,l,n,us,zs,ns,ts,rfl,ha,pn,hv,n40,n60,d,v,ne,q⟩;unfold qz;change wpB G K _ _ _ [some (.ref a),some (.ref l),none] H;walk_at "wp";refine⟨_,_,g1,a,l,n,us,zs,ns,ts,rfl,ha,pn,hv,n40,n60,d,v,fun H1 l1 ws s1 n1 h1 p1=>?_⟩;unfold mS;walk_at "wp";have wl:=K83.gI p1;refine .inl ⟨l1,_,rfl,.inl (SqL.of h1),kO.mpr ⟨_,rfl,?_⟩⟩;rw[if_neg (by rw[wl];exact fun z=>ne (a8.mp (by have :=of_decide_eq_true z;omega)))];unfold mR;walk_at "wp";exact q _ _ _ s1 n1 h1 p1
theorem xf:∀u v:List Int,lJ (u.map L2.D.int) (v.map .int)=decide (u=v)
 | [],[]=>rfl
 | [],_::_=>rfl
 |_::_,[]=>rfl
 |a::u,b::v=>by
  show(eqD (.int a) (.int b)&&lJ (u.map L2.D.int) (v.map .int))=_;rw[xf u v];have e:eqD (.int a) (.int b)=decide (a=b):=by
   show(a==b)=_;rw[bF,beq_iff_eq,decide_eq_true_eq]
  rw[e,bF,aN,decide_eq_true_eq,decide_eq_true_eq,decide_eq_true_eq,FR]
theorem B6(u v:List Int):eqD (K83.nd1 u) (K83.nd1 v)=decide (u=v):=xf u v
theorem Df:∀{us:List V}{ns:List (List Int)},Paired (NdV K H) us ns->eI K H (ns.map K83.nd1) us/\us.all isRef=true
 |_,_,.nil=>⟨rfl,rfl⟩
 |_,_,.cons ⟨b,e,h⟩ r=>by
  obtain⟨h1,h2⟩:=Df r;subst e;exact⟨⟨_,_,rfl,⟨b,_,rfl,h,eI.ints _⟩,h1⟩,h2⟩
theorem Am:∀ns:List (List Int),eP (ns.map K83.nd1)<=1
 | []=>aX _
 |v::ns=>by
  have :=Am ns
  have h1:hgt (K83.nd1 v)=1:=by show eP (v.map L2.D.int)+1=1;rw[nR]
  show max (hgt (K83.nd1 v)) (eP (ns.map K83.nd1))<=1;omega
theorem any_nd(ns:List (List Int))(v:List Int):((ns.map K83.nd1).any fun d=>eqD d (K83.nd1 v))=decide (v∈ns):=by
 rw[tZ,bF,b9,decide_eq_true_eq];constructor
 ·rintro⟨x,hx,e⟩
  have :x=v:=by
   have e:eqD (K83.nd1 x) (K83.nd1 v)=true:=e;rw[B6]at e;exact of_decide_eq_true e
  exact this▸hx
 ·intro h
  refine⟨v,h,?_⟩;show eqD (K83.nd1 v) (K83.nd1 v)=true;rw[B6,decide_eq_true rfl]
theorem yE{p:Addr}{us:List V}{ns:List (List Int)}{v:List Int}{x:V}{Q:VK}(h1:SqL K H p us)(h2:Paired (NdV K H) us ns)(h3:NdV K H x v)(q:Q (.bl (decide (v∈ns))) H):gh K .In x (.ref p) H Q:=by
 obtain⟨r1,r2⟩:=Df h2;obtain⟨b,rfl,hb⟩:=h3;refine .inl (.inr ⟨p,us,_,K83.nd1 v,rfl,h1,r2,⟨b,_,rfl,hb,eI.ints _⟩,r1,aR (Am ns) (by decide),?_⟩);rw[if_neg ak,any_nd];exact q
def TrV(K:ah)(H:Hp)(v:V)(x:M8.Tri):Prop:=∃c p q r,v=V.ref c/\SqT K H c [.ref p,.ref q,.ref r]/\SqT K H p (x.1.map V.int)/\SqT K H q (x.2.1.map V.int)/\SqT K H r (x.2.2.map V.int)
noncomputable def unB(ns:List (List Int))(ts:List (Nat×Int))(x:M8.Tri):List Int:=if x.1∈ns\/x.2.1∈ns then x.2.2.filter fun p=>decide (p∉ts.map fun q=>(q.1:Int))else[]
noncomputable def spUp(K:ah):Sp:=fun vs H Q _=>∃(b a l:Addr)(bs us zs:List V)(xs:List M8.Tri)(ns:List (List Int))(ts:List (Nat×Int)),vs=[.ref b,.ref a,.ref l]/\SqL K H b bs/\Paired (TrV K H) bs xs/\xs.length<=60/\(∀x∈xs,x.2.2.length<=60)/\SqL K H a us/\Paired (NdV K H) us ns/\Tls H l zs ts/\ts.length<=60/\
 ∀H' f,aL H H'->H f=none->H' f=some (.lst ((xs.flatMap (unB ns ts)).map V.int))->Q (.ref f) H'
theorem Av{α:Type}{g:α->List Int}:∀{xs:List α},(∀x∈xs,(g x).length<=m)->(xs.flatMap g).length<=xs.length*m
 | [],_=>aX _
 |x::xs,h=>by
  have h1:=h x aG;have h2:=Av (xs:=xs) fun y hy=>h y (aM _ hy);rw[tY,ba,bB,FG];omega
theorem Cw(ns:List (List Int))(ts:List (Nat×Int))(x:M8.Tri):(unB ns ts x).length<=x.2.2.length:=by
 unfold unB;split
 ·exact eK _ _
 ·exact aX _
theorem wp_up:Sat G K (spUp K) kP kK:=by
 rintro vs H Q E ⟨b,a,l,bs,us,zs,xs,ns,ts,rfl,hb,pb,x40,p40,ha,pn,d,t40,q⟩;have zl:zs.length=ts.length:=K83.gI d.pr;have bl:bs.length=xs.length:=K83.gI pb;unfold kP;change wpB G K _ _ _ [some (.ref b),some (.ref a),some (.ref l),none,none,none,none,none] H;walk_at "wp";refine cS (b7 rfl (SqL.of d.hl) (dH cX (dA (by omega)) (fun H1 s1=>SqL.of (s1 _ _ d.hl)) (fun i v _=>v=.int (((ts.map (·.1)).getD i 0:Nat):Int)) (fun _ _ _ _ _ h=>h) (fun τ=>∃u w,τ=[u,w]) ⟨none,none,rfl⟩ ?_ ?_))
 ·rintro i x τ H4 R hi ⟨u,w,rfl⟩ s4 hx k
  obtain⟨q',hq,c,rfl,hc⟩:=i4 d.pr hx;refine⟨c,_,rfl,SqT.of (s4 _ _ hc),rfl,_,_,rfl,_,_,rfl,rfl,_,rfl,k _ _ _ ⟨_,_,rfl⟩ (aL.refl _) ?_⟩;rw[ae,aq,hq];rfl
 intro vs H1 tl hvl hF s1 htl;have e4:vs=(ts.map fun q=>(q.1:Int)).map V.int:=by
  rw[bq];apply bg
  ·rw[hvl,ai,zl]
  ·intro i h1 h2
   rw[hF i _ (aa h1),aY,ae,aq,aa (by rw[ai]at h2;exact h2)];rfl
 subst e4;have s2:=s1.trans (ax (o:=.lst ((ts.map fun q=>(q.1:Int)).map V.int)) htl);have et:upd H1 tl (.lst ((ts.map fun q=>(q.1:Int)).map V.int)) tl=some (.lst ((ts.map fun q=>(q.1:Int)).map V.int)):=ao;generalize upd H1 tl (.lst ((ts.map fun q=>(q.1:Int)).map V.int))=H2 at s2 et;unfold jC;walk_at "wp";refine⟨aX _,fun f hf=>?_⟩;have s3:=ax (o:=.lst []) hf;have n0:H f=none:=s2.free hf;unfold jB;walk_at "wp";refine fQ (b7 rfl ((s2.trans s3).seq hb) (fm cX (fun i σ H'=>aL H2 H'/\H' f=some (.lst (((xs.take i).flatMap (unB ns ts)).map V.int))/\∃u v w,σ=[some (.ref b),some (.ref a),some (.ref l),some (.ref tl),some (.ref f),u,v,w])
  ⟨s3,ao,_,_,_,rfl⟩ (fun i σ H' _ s=>(s2.trans s.1).seq hb) ?_ ?_))
 ·rintro i y σ H3 H4 D2 hi ⟨s4,hf4,u,v,w,rfl⟩ hy s5 hD _
  obtain⟨x,hx,c,p,q',r,rfl,hc,hp,hq,hr⟩:=i4 pb hy;have hx40:=p40 x (aD hx);have s6:=s2.trans (s4.trans s5);have hf5:=s5 _ _ hf4;have ex:xs.take (i+1)=xs.take i++[x]:=by rw[cB,hx];rfl
  refine⟨c,_,rfl,s6.tup hc,rfl,_,_,rfl,_,_,rfl,_,_,rfl,rfl,?_⟩;have pn6:=Paired.mM pn fun _ _ h=>h.same s6;have no:¬(x.1∈ns\/x.2.1∈ns)->D2.nx [some (.ref b),some (.ref a),some (.ref l),some (.ref tl),some (.ref f),some (.ref p),some (.ref q'),some (.ref r)] H4:=fun z=>by
   refine hD _ _ ⟨s4.trans s5,?_,_,_,_,rfl⟩;rw[ex,rq,tY,List.flatMap_nil,iu,show unB ns ts x=[]from if_neg z,iu];exact hf5
  have yes:x.1∈ns\/x.2.1∈ns->tyV K "list" (V.ref f) H4/\uc (B2 K (pT 7)) (lS 0) (wD (tOp (gh K .NotIn) (pT 0) (pT 1))) (pT 0) (lB ["place"] [3]) [some (.ref b),some (.ref a),some (.ref l),some (.ref tl),some (.ref f),some (.ref p),some (.ref q'),some (.ref r)] H4 fun x H1=>rMm .extend (.ref f) [x] H1 fun x H1=>D2.nx [some (.ref b),some (.ref a),some (.ref l),some (.ref tl),some (.ref f),some (.ref p),some (.ref q'),some (.ref r)] H1:=fun z=>by
   refine⟨.inl ⟨rfl,_,SqL.of hf5⟩,?_⟩;refine cS (j4 rfl (s6.tup hr) (qx (ds:=x.2.2) (by rw[ai]) pW (dA (by rw[ai];omega)) (fun H1 s1=>s1.tup (s6.tup hr)) (fun m=>decide (m∉ts.map fun q=>(q.1:Int))) (fun _ m=>.int m) (fun τ=>∃u,τ=[u,some (.ref tl)]) ⟨none,rfl⟩ ?_ ?_))
   ·rintro j y m τ H5 Rt Rf hy hm ⟨u',rfl⟩ s7 kt kf
    rw[aq,hm]at hy;cases hy;walk_at "wp";refine .inr ⟨tl,_,rfl,.inl (SqL.of (s7 _ _ ((s4.trans s5) _ _ et))),rfl,rQ _,_,rfl,?_⟩;rw[if_pos rfl,yF];by_cases c:m∈ts.map fun q=>(q.1:Int)
    ·rw[if_neg (by rw[decide_eq_true c];decide)]
     exact kf _ _ ⟨_,rfl⟩ (aL.refl _) (by simpa using c)
    ·rw[if_pos (by rw[decide_eq_false c];rfl)]
     exact kt _ _ ⟨_,rfl⟩ (aL.refl _) (by simpa using c)
   ·intro H5 l5 s7 hl5
    have e5:(((x.2.2.map V.int).zip x.2.2).filter fun p=>decide (p.2∉ts.map fun q=>(q.1:Int))).map (fun p=>V.int p.2)=(unB ns ts x).map V.int:=by
     unfold unB;rw[if_pos z];generalize x.2.2=L
     induction L with
     |nil=>rfl
     |cons m L ih=>
      rw[bK,kB,jd,jd];by_cases c:m∈ts.map fun q=>(q.1:Int)
      ·rw[if_neg (by simpa using c),if_neg (by simpa using c)]
       exact ih
      ·rw[if_pos (by simpa using c),if_pos (by simpa using c),bK,bK,ih]
    have hnf:f≠l5:=bO (s7 _ _ hf5) hl5;have hfl:((xs.take i).flatMap (unB ns ts)).length<=3600:=by
     have :=Av (m:=60) (g:=unB ns ts) (xs:=xs.take i) fun y hy=>aR (Cw ns ts y) (p40 y (FP hy))
     rw[c9]at this;have :min i xs.length*60<=60*60:=Nat.mul_le_mul (by omega) (aB _);omega
    have hul:=Cw ns ts x;rw[e5];refine⟨f,l5,_,_,rfl,rfl,by rw[bo hnf];exact s7 _ _ hf5,ao,?_,?_⟩
    ·rw[ai,ai]
     exact aR (by omega:_<=4000) (by decide)
    ·refine hD _ _ ⟨dG (dG ((s4.trans s5).trans s7) (((s4.trans s5).trans s7).free hl5)) hf,?_,_,_,_,rfl⟩
     rw[ao,ex,rq,tY,List.flatMap_nil,iu,cQ]
  walk_at "wp"
  refine yE (s6.seq ha) pn6 ⟨p,rfl,s6.tup hp⟩ ⟨_,rfl,?_⟩;by_cases c1:x.1∈ns
  ·rw[if_pos (decide_eq_true c1),if_pos trivial]
   exact yes (.inl c1)
  ·rw[if_neg (by simpa using c1)]
   refine yE (s6.seq ha) pn6 ⟨q',rfl,s6.tup hq⟩ ⟨_,rfl,?_⟩;by_cases c2:x.2.1∈ns
   ·rw[if_pos (decide_eq_true c2)]
    exact yes (.inr c2)
   ·rw[if_neg (by simpa using c2)]
    exact no fun z=>z.elim c1 c2
 ·rintro σ H3 ⟨s4,hf4,u,v,w,rfl⟩
  unfold jA;walk_at "wp";rw[bl,c7]at hf4;exact q _ _ (s2.trans s4) n0 hf4
noncomputable def stn(rows:List (List Int))(n:Nat)(ts:List (Nat×Int)):List (List Int):=(M8.mC (M8.nds rows n)).filter (rdT ts)
noncomputable def unk(rows:List (List Int))(n:Nat)(ts:List (Nat×Int)):List Int:=(M8.xO (M8.trs rows n)).flatMap (unB (stn rows n ts) ts)
noncomputable def knw(rows:List (List Int))(n:Nat)(ts:List (Nat×Int)):List V:=(aw n).map fun p:Nat=>if(p:Int)∈unk rows n ts then .non else .int (((stn rows n ts).headD []).getD p 0)
theorem zI:∀{ns:List (List Int)}{us:List V},eI K H (ns.map K83.nd1) us->Paired (NdV K H) us ns
 | [],us,h=>by
  obtain rfl:us=[]:=h;exact .nil
 |v::ns,us,h=>by
  obtain⟨x,r,rfl,h1,h2⟩:=h;exact .cons (yu h1) (zI h2)
theorem zH:∀{xs:List M8.Tri}{us:List V},eI K H (xs.map M8.triD) us->Paired (TrV K H) us xs
 | [],us,h=>by
  obtain rfl:us=[]:=h;exact .nil
 |v::xs,us,h=>by
  obtain⟨x,r,rfl,⟨c,cs,rfl,hc,_,_,rfl,h1,_,_,rfl,h2,_,_,rfl,h3,rfl⟩,h4⟩:=h;obtain⟨p,rfl,hp⟩:=yu h1;obtain⟨q,rfl,hq⟩:=yu h2;obtain⟨r',rfl,hr⟩:=yu h3;exact .cons ⟨c,p,q,r',rfl,hc,hp,hq,hr⟩ (zH h4)
theorem plc_len(n:Nat)(P:Nat->Bool):(M5.plc n P).length<=n:=by
 unfold M5.plc;rw[ai];exact aR (eK _ _) (by rw[aO];exact aB _)
theorem CD(t:M7.Tbl rows n){v:List Int}(h:v∈stn rows n ts):M7.Fits rows n v/\rdT ts v=true:=by
 obtain⟨h1,h2⟩:=bR.mp h;exact⟨(M8.fw t).mp ((M9.mB (M8.jx t)).mem_iff.mp h1),h2⟩
noncomputable def spFr(K:ah)(T:Tb):Sp:=fun vs H Q _=>∃(t l:Addr)(nf:Nat->Str)(n:Nat)(ys zs:List V)(rows:List (List Int))(ts:List (Nat×Int)),vs=[.ref t,.ref l]/\Tn H t nf n ys rows/\ys≠[]/\Tab T H/\Tls H l zs ts/\Vt n ts/\stn rows n ts≠[]/\
 ∀H' p,Gr T H H'->H' p=some (.tup (knw rows n ts))->Q (.ref p) H'
theorem wp_fr{T:Tb}(g1:G.fn "need_tellings" 2=some (spNt K,[]))(g2:G.fn "tree" 1=some (K83.xP T,[]))(g3:G.fn "told_nodes" 2=some (spTn K,[]))(g4:G.fn "unknown_places" 3=some (spUp K,[])):
  Sat G K (spFr K T) qL ql:=by
 rintro vs H Q E ⟨t,l,nf,n,ys,zs,rows,ts,rfl,d,ne,tb,tl,v,ns,q⟩;have n10:=d.n10;have tbl:=d.tbl ne;unfold qL;change wpB G K _ _ _ [some (.ref t),some (.ref l),none,none,none] H;walk_at "wp";refine⟨_,_,g1,t,l,nf,n,ys,zs,rows,ts,rfl,d,ne,tl,v,fun H1 s1=>?_⟩;have d1:=d.same s1;have tb1:=(Gr.of (T:=T) s1).tab tb;have tl1:=tl.same s1;unfold nF;walk_at "wp";refine⟨_,_,g2,tree_n (K:=K) (E:=fun _=>E) d1 tb1 (fun H2 p gr _ rp=>?_) []⟩;rw[if_neg ne]at rp;unfold M9.trD at rp;obtain⟨_,_,e,hp,_,_,rfl,⟨nl,nys,rfl,hnl,rn⟩,_,_,rfl,⟨bl,bys,rfl,hbl,rb⟩,rfl⟩:=rp;cases e;have pn:=zI rn;have pb:=zH rb;have pmn:=M9.mB (M8.jx tbl);have pmt:=M9.uj (M8.rD tbl);have nlen:(M8.mC (M8.nds rows n)).length<=61:=by
  have :=M9.yt rows n
  rw[pmn.length_eq];omega
 have tlen:(M8.xO (M8.trs rows n)).length<=60:=by
  have :=M9.trs_len rows n
  rw[pmt.length_eq];omega
 have tl2:=tl1.gr gr tb1;unfold nC;walk_at "wp";refine⟨_,_,g3,.inr (.inl ⟨p,_,0,_,rfl,rfl,hp,rfl,nl,l,n,nys,zs,_,ts,rfl,hnl,pn,(fun u hu=>((M8.fw tbl).mp (pmn.mem_iff.mp hu)).1.1),by omega,by omega,tl2,v,ns,fun H3 l1 ws s3 n1 h1 pw=>?_⟩)⟩;have vl:=v.len;unfold ny;walk_at "wp";refine⟨_,_,g4,.inr (.inl ⟨p,_,1,_,rfl,rfl,s3.tup hp,rfl,bl,l1,l,bys,ws,zs,_,_,ts,rfl,s3.seq hbl,(Paired.mM pb fun _ _ ⟨c,p,q,r,e,h1,h2,h3,h4⟩=>⟨c,p,q,r,e,s3.tup h1,s3.tup h2,s3.tup h3,s3.tup h4⟩),by omega,(fun x hx=>?_),SqL.of h1,pw,tl2.same s3,by omega,fun H4 f s4 n4 h4=>?_⟩)⟩
 ·obtain⟨j,_,_,rfl⟩:=(M8.lA tbl).mp (pmt.mem_iff.mp hx)
  exact aR (plc_len _ _) (by omega)
 have h4:H4 f=some (.lst ((unk rows n ts).map V.int)):=h4;have gr4:Gr T H H4:=(Gr.of (T:=T) s1).trans (gr.trans (Gr.of (s3.trans s4)));have h14:=s4 _ _ h1;obtain⟨v0,hv0⟩:∃v0,(stn rows n ts)[0]? =some v0:=by
  cases c:stn rows n ts with
  |nil=>exact absurd c ns
  |cons a r=>exact⟨a,rfl⟩
 have wl:0<ws.length:=by
  rw[K83.gI pw];exact(aC.mp hv0).1
 obtain⟨v1,hv1,b0,eb,hb⟩:=i4 pw (aa wl);have ev:v1=v0:=aW (hv1.symm.trans hv0);subst ev;have lv:v1.length=n:=(CD tbl (aD hv0)).1.1.1;have hd0:(stn rows n ts).headD []=v1:=by
  cases c:stn rows n ts with
  |nil=>exact absurd c ns
  |cons a r=>rw[c]at hv0;cases hv0;rfl
 unfold nr;walk_at "wp";refine cS ?_;simp only[B1];walk_at "wp";refine .inl ⟨l1,_,0,_,rfl,rfl,SqL.of h14,(cG (j:=0) (by rw[aa wl,eb]):atI ws ((0:Nat):Int)=_),?_⟩;refine⟨b0,rfl,⟨_,s4.tup hb⟩,?_⟩;refine dH wM (dA (by rw[ai];omega)) (fun H5 s5=>s5.tup (s4.tup hb)) (fun i w _=>w=if(i:Int)∈unk rows n ts then .non else .int (v1.getD i 0)) (fun _ _ _ _ _ h=>h) (fun τ=>∃u w,τ=[u,w,some (.ref f)]) ⟨none,none,rfl⟩ ?_ ?_
 ·rintro i x τ H5 R hi ⟨u,w,rfl⟩ s5 ⟨c,y,rfl,hc,hy⟩ k
  rw[ai]at hi;rw[gE hi]at hy;cases hy;refine⟨c,_,rfl,SqT.of hc,rfl,_,_,rfl,_,_,rfl,rfl,?_⟩;walk_at "wp";refine .inr ⟨f,_,rfl,.inl (SqL.of (s5 _ _ h4)),rfl,rQ _,_,rfl,?_⟩;rw[if_neg ak,yF];by_cases z:(i:Int)∈unk rows n ts
  ·rw[if_pos (decide_eq_true z)]
   exact k _ _ _ ⟨_,_,rfl⟩ (aL.refl _) (if_pos z).symm
  ·rw[if_neg (by exact fun y=>z (of_decide_eq_true y))]
   exact k _ _ _ ⟨_,_,rfl⟩ (aL.refl _) (if_neg z).symm
 ·intro us H5 l5 hul hF s5 hl5
  have e:us=knw rows n ts:=by
   unfold knw;rw[hd0];exact K83.vals_eq (by rw[hul,ai,lv]) hF
  subst e;refine⟨l5,_,rfl,.inl ⟨SqL.of ao,fun p5 hp5=>?_⟩⟩;exact q _ p5 (gr4.trans (Gr.of ((s5.trans (ax hl5)).trans (ax hp5)))) ao
section
variable {rows:List (List Int)}{n:Nat}{ts:List (Nat×Int)}
theorem yw(t:M7.Tbl rows n){v:List Int}:v∈stn rows n ts↔M7.Fits rows n v/\rdT ts v=true:=by
 unfold stn;rw[bR,(M9.mB (M8.jx t)).mem_iff,M8.fw t]
theorem Cu(t:M7.Tbl rows n)(hp:p<n):(p:Int)∈unk rows n ts->p∉ts.map (·.1):=by
 intro h z;unfold unk at h;obtain⟨x,_,hx⟩:=jc.mp h;unfold unB at hx;split at hx
 ·obtain⟨_,h2⟩:=bR.mp hx
  obtain⟨q,hq,e⟩:=ay.mp z;exact of_decide_eq_true h2 (ay.mpr ⟨q,hq,by rw[e]⟩)
 ·cases hx
theorem HL(h:p<n):(knw rows n ts).getD p .non=if(p:Int)∈unk rows n ts then .non else .int (((stn rows n ts).headD []).getD p 0):=by
 unfold knw;rw[ae,aq,bP h];rfl
end
end K75
namespace K76
open PySem PySem.Spec PyProof.Rows L2 R Cp Lt Kc K21 K22 Lm M5 K32 K34 K75
section
variable {rows:List (List Int)}{n:Nat}{ts ts':List (Nat×Int)}
theorem rd_at{w:List Int}(h:rdT ts w=true){q:Nat×Int}(hq:q∈ts):w.getD q.1 0=q.2:=of_decide_eq_true (bC.mp h q hq)
theorem head_mem{α:Type}{d:α}{l:List α}(h:l≠[]):l.headD d∈l:=by
 cases l with
 |nil=>exact absurd rfl h
 |cons a r=>exact aG
theorem HJ(t:M7.Tbl rows n)(ne:stn rows n ts≠[]){q:Nat×Int}(hq:q∈ts)(hp:q.1<n):(knw rows n ts).getD q.1 .non=.int q.2:=by
 rw[HL hp,if_neg fun z=>Cu t hp z (ay.mpr ⟨q,hq,rfl⟩),rd_at ((yw t).mp (head_mem (d:=[]) ne)).2 hq]
end
end K76
namespace K74
open PySem PySem.Spec PyProof.Rows L2 R Cp Lt Kc K21 K22 Lm M5 K32 K34 K75 K76
section
variable {rows left:List (List Int)}{n:Nat}{ts:List (Nat×Int)}
theorem lo_hi{a b:List Int}:(M4.lo a b=a\/M4.lo a b=b)/\(M4.hi a b=a\/M4.hi a b=b):=by
 unfold M4.lo M4.hi;constructor<;>split <;>first |exact .inl rfl|exact .inr rfl
theorem pS(t:M7.Tbl rows n)(hp:p<n):(p:Int)∈unk rows n ts↔p∉ts.map (·.1)/\grp rows p≠0/\∃x∈K75.stn rows n ts,M7.End rows n p x:=by
 constructor
 ·intro h
  refine⟨Cu t hp h,?_⟩;unfold unk at h;obtain⟨x,hx,hm⟩:=jc.mp h;obtain⟨j,hj,hz,rfl⟩:=(M8.lA t).mp ((M9.uj (M8.rD t)).mem_iff.mp hx);unfold unB at hm;split at hm
  ·rename_i c
   obtain⟨h1,_⟩:=bR.mp hm;have e:grp rows p=grp rows j:=of_decide_eq_true ((M5.lF hp).mp h1);have e2:M8.tri rows n j=M8.tri rows n p:=by rw[<-M8.Cz,<-M8.Cz,e]
   rw[e2]at c;have hz:grp rows p≠0:=by rw[e];exact hz
   have ends:∀v,v=M7.gP rows n p\/v=M7.below rows n p->M7.End rows n p v:=fun v h=>by
    rcases h with rfl|rfl
    ·exact M7.mQ t hp hz
    ·exact M7.jq t hp hz
   refine⟨hz,?_⟩;rcases c with c|c
   ·exact⟨_,c,ends _ lo_hi.1⟩
   ·exact⟨_,c,ends _ lo_hi.2⟩
  ·cases hm
 ·rintro⟨ht,hz,x,hx,he⟩
  unfold unk;have hm:M8.tri rows n p∈M8.xO (M8.trs rows n):=(M9.uj (M8.rD t)).mem_iff.mpr ((M8.lA t).mpr ⟨p,hp,hz,rfl⟩);refine jc.mpr ⟨_,hm,?_⟩;have hxe:x=M7.gP rows n p\/x=M7.below rows n p:=by
   have a:=M7.yZ (rows:=rows) hp;have b:=M7.tS (rows:=rows) hp;have f:=t.f01 p;rcases he.ok.at p with z|z<;>rcases f with g|g
   ·exact .inl (M7.End.one t hp he (M7.mQ t hp hz) (by rw[z,a,g]))
   ·exact .inr (M7.End.one t hp he (M7.jq t hp hz) (by rw[z,b,g];rfl))
   ·exact .inr (M7.End.one t hp he (M7.jq t hp hz) (by rw[z,b,g];rfl))
   ·exact .inl (M7.End.one t hp he (M7.mQ t hp hz) (by rw[z,a,g]))
  have hc:(M8.tri rows n p).1∈K75.stn rows n ts\/(M8.tri rows n p).2.1∈K75.stn rows n ts:=by
   have tr:=_root_.Q.iK (M7.tR t hp);unfold M8.tri M4.lo M4.hi;dsimp only;cases c:_root_.Q.llt (M7.below rows n p) (M7.gP rows n p)with
   |true=>
    rw[c]at tr;have tr:_root_.Q.llt (M7.gP rows n p) (M7.below rows n p)=false:=tr;rw[tr,if_pos rfl,if_neg (by decide)];rcases hxe with e|e
    ·exact .inr (e▸hx)
    ·exact .inl (e▸hx)
   |false=>
    rw[c]at tr;have tr:_root_.Q.llt (M7.gP rows n p) (M7.below rows n p)=true:=tr;rw[tr,if_neg (by decide),if_pos rfl];rcases hxe with e|e
    ·exact .inl (e▸hx)
    ·exact .inr (e▸hx)
  unfold unB;rw[if_pos hc];refine bR.mpr ⟨(M5.lF hp).mpr (by unfold M5.own;simp),decide_eq_true fun z=>?_⟩;obtain⟨q,hq,e⟩:=ay.mp z;exact ht (ay.mpr ⟨q,hq,by omega⟩)
theorem CU:∀{l m:List (List Int)},l.Pairwise (fun a b=>_root_.Q.llt a b=true)->m.Pairwise (fun a b=>_root_.Q.llt a b=true)->(∀v,v∈l↔v∈m)->l=m
 | [],[],_,_,_=>rfl
 | [],b::m,_,_,h=>nomatch(h b).mpr aG
 |a::l,[],_,_,h=>nomatch(h a).mp aG
 |a::l,b::m,hl,hm,h=>by
  obtain⟨l1,l2⟩:=kC.mp hl;obtain⟨m1,m2⟩:=kC.mp hm;have e:a=b:=by
   apply aJ
   intro ne;have h1:=m1 a ((aE.mp ((h a).mp aG)).resolve_left ne);have h2:=l1 b ((aE.mp ((h b).mpr aG)).resolve_left fun z=>ne z.symm);rw[_root_.Q.iK ne,h1]at h2;cases h2
  subst e;have out:∀{k:List (List Int)},(∀v∈k,_root_.Q.llt a v=true)->∀v∈k,v≠a:=fun{k} g v hv z=>by
   have :=g v hv
   rw[z,_root_.Q.uY]at this;cases this
  rw[CU l2 m2 fun v=>⟨fun hv=>(aE.mp ((h v).mp (aM _ hv))).resolve_left (out l1 v hv),fun hv=>(aE.mp ((h v).mpr (aM _ hv))).resolve_left (out m1 v hv)⟩]
theorem zA(t:M7.Tbl rows n):(K75.stn rows n ts).Pairwise fun a b=>_root_.Q.llt a b=true:=(K83.pU (M8.jx t)).filter _
end
end K74
namespace Bm
open Mt
structure Bk(f:Nat->Int)(own par:Nat->Nat)(n N:Nat)(rows:List (List Int)):Prop where
 hp:∀v,1<=v->v<N->par v<v
 hf:∀p,p<n->f p=0\/f p=1
 ow:∀p,p<n->own p<N
 has:∀e,1<=e->e<N->∃p,p<n/\own p=e
 row:∀r∈rows,∃v,v<N/\r=nd f own par n v
 cp:∀v,v<N->near par N v<=2->nd f own par n v∈rows
 tb:M7.Tbl rows n
section
variable {f:Nat->Int}{own par:Nat->Nat}{n N:Nat}{rows:List (List Int)}
theorem pY{u:Nat}(h:on par (own p) u=on par (own p) v):rdv f own par u p=rdv f own par v p:=by
 unfold rdv;rw[h]
theorem nd_ok(hf:∀p,p<n->f p=0\/f p=1)(v:Nat):M6.Ok n (nd f own par n v):=⟨uQ,fun x hx=>by
 unfold nd at hx;obtain⟨p,hp,rfl⟩:=ay.mp hx;exact rdv_bit (hf p (aK.mp hp))⟩
theorem Bk.fits(b:Bk f own par n N rows)(hv:v<N):M7.Fits rows n (nd f own par n v):=by
 refine⟨nd_ok b.hf v,fun i j hi hj=>?_⟩;obtain⟨d,d1,d2,d3,d4⟩:=there b.hp (cp:=fun v=>nd f own par n v∈rows) (fun v hv h=>by
  apply aJ
  intro k;exact h (b.cp v hv (by omega))) hv (b.ow i hi) (b.ow j hj)
 exact⟨_,d2,by rw[dY hi,dY hi];exact pY d3,by rw[dY hj,dY hj];exact pY d4⟩
theorem Bk.B8(b:Bk f own par n N rows)(hp:p<n)(h1:1<=own p):rdv f own par (own p) p≠rdv f own par (par (own p)) p:=fun z=>by
 have h2:=b.ow p hp;have h3:=b.hp _ h1 h2;have e1:=yb (own:=own) (v:=own p) b.hp b.hf hp;have e2:=yb (own:=own) (v:=par (own p)) b.hp b.hf hp;rw[z,<-e2,iJ b.hp h1 h2]at e1;have :=ou b.hp _ (by omega) e1.symm;omega
theorem Bk.same(b:Bk f own par n N rows)(hp:p<n)(h1:1<=own p)(h:own q≠own p):rdv f own par (own p) q=rdv f own par (par (own p)) q:=
 pY (by rw[jb b.hp h1 (b.ow p hp),decide_eq_false (fun z=>h z.symm),bM])
theorem Bk.cls(b:Bk f own par n N rows)(hp:p<n)(hq:q<n)(h:own q=own p):M7.Cls rows p q:=by
 intro r hr s hs;obtain⟨u,hu,rfl⟩:=b.row r hr;obtain⟨v,hv,rfl⟩:=b.row s hs;rw[dY hp,dY hp,dY hq,dY hq];have fp:=b.hf p hp;have fq:=b.hf q hq;unfold rdv;rw[h];cases on par (own p) u<;>cases on par (own p) v<;>simp <;>omega
theorem Bk.ends(b:Bk f own par n N rows)(hp:p<n)(h1:1<=own p):M7.End rows n p (nd f own par n (own p))/\M7.End rows n p (nd f own par n (par (own p))):=by
 have h2:=b.ow p hp;have h3:=b.hp _ h1 h2;have fa:=b.fits h2;have fb:=b.fits (show par (own p)<N by omega);have df:=b.B8 hp h1;have off:∀q,q<n->¬M7.Cls rows p q->∃r∈rows,∃s∈rows,r.getD p 0≠s.getD p 0/\r.getD q 0=rdv f own par (own p) q/\s.getD q 0=rdv f own par (own p) q/\rdv f own par (own p) q=rdv f own par (par (own p)) q:=fun q hq c=>by
  have hne:own q≠own p:=fun z=>c (b.cls hp hq z);have sm:=b.same hp h1 hne;obtain⟨r,hr,r1,r2⟩:=fa.2 p q hp hq;obtain⟨s,hs,s1,s2⟩:=fb.2 p q hp hq;rw[dY hp]at r1 s1;rw[dY hq]at r2 s2;exact⟨r,hr,s,hs,by rw[r1,s1];exact df,r2,by rw[s2,sm],sm⟩
 refine⟨⟨fa.1,fun q hq _=>fa.2 p q hp hq,fun q hq c=>?_⟩,⟨fb.1,fun q hq _=>fb.2 p q hp hq,fun q hq c=>?_⟩⟩
 ·obtain⟨r,hr,s,hs,a1,a2,a3,_⟩:=off q hq c
  exact⟨r,hr,s,hs,a1,by rw[dY hq];exact a2,by rw[dY hq];exact a3⟩
 ·obtain⟨r,hr,s,hs,a1,a2,a3,a4⟩:=off q hq c
  exact⟨r,hr,s,hs,a1,by rw[dY hq,<-a4];exact a2,by rw[dY hq,<-a4];exact a3⟩
theorem Bk.DK(b:Bk f own par n N rows)(hp:p<n)(h1:1<=own p){x:List Int}:M7.End rows n p x↔x=nd f own par n (own p)\/x=nd f own par n (par (own p)):=by
 obtain⟨ea,eb⟩:=b.ends hp h1;constructor
 ·intro h
  have df:=b.B8 hp h1;have hx:=h.ok.at p;have ha:=ea.ok.at p;have hb:=eb.ok.at p;rw[dY hp]at ha hb;by_cases c:x.getD p 0=rdv f own par (own p) p
  ·exact .inl (M7.End.one b.tb hp h ea (by rw[dY hp];exact c))
  ·exact .inr (M7.End.one b.tb hp h eb (by rw[dY hp];omega))
 ·rintro(rfl|rfl)
  ·exact ea
  ·exact eb
theorem Bk.torn(b:Bk f own par n N rows)(hp:p<n):K32.grp rows p≠0↔1<=own p:=by
 rw[M9.mw b.tb];constructor
 ·rintro⟨r,hr,s,hs,hne⟩
  obtain⟨u,hu,rfl⟩:=b.row r hr;obtain⟨v,hv,rfl⟩:=b.row s hs;rw[dY hp,dY hp]at hne;apply Nat.one_le_iff_ne_zero.mpr;intro z;apply hne;have o0:∀w,w<N->on par (own p) w=false:=fun w hw=>by
   cases q:on par (own p) w with
   |false=>rfl
   |true=>have :=ou b.hp w hw q;omega
  exact pY (by rw[o0 u hu,o0 v hv])
 ·intro h1
  have h2:=b.ow p hp;have h3:=b.hp _ h1 h2;obtain⟨r,hr,r1,_⟩:=(b.fits h2).2 p p hp hp;obtain⟨s,hs,s1,_⟩:=(b.fits (show par (own p)<N by omega)).2 p p hp hp;rw[dY hp]at r1 s1;exact⟨r,hr,s,hs,by rw[r1,s1];exact b.B8 hp h1⟩
theorem Bk.mem(b:Bk f own par n N rows){v:List Int}:M7.Fits rows n v↔∃k,k<N/\v=nd f own par n k:=by
 constructor
 ·intro h
  rcases M7.C8 b.tb h with e|⟨p,hp,hz,e⟩
  ·have e2:M4.bl (K32.fr rows) n (fun _=>false)=rows.getD 0 []:=M7.DH (M4.gO _ _ _) (b.tb.ok _ b.tb.first).1 fun i hi=>by
    rw[M7.gT hi,if_neg ak];rfl
   rw[e2]at e;obtain⟨k,hk,e3⟩:=b.row _ b.tb.first;exact⟨k,hk,e.trans e3⟩
  ·have h1:=(b.torn hp).mp hz
   have h2:=b.ow p hp;have h3:=b.hp _ h1 h2;rcases(b.DK hp h1).mp (M7.jq b.tb hp hz)with e4|e4
   ·exact⟨own p,h2,e.trans e4⟩
   ·exact⟨par (own p),by omega,e.trans e4⟩
 ·rintro⟨k,hk,rfl⟩
  exact b.fits hk
theorem Bk.inj(b:Bk f own par n N rows)(hi:i<N)(hj:j<N)(e:nd f own par n i=nd f own par n j):i=j:=by
 apply aJ
 intro hne;rcases Nat.lt_or_gt_of_ne hne with h|h
 ·exact Dh b.hp b.hf h hj (b.has j (by omega) hj) e.symm
 ·exact Dh b.hp b.hf h hi (b.has i (by omega) hi) e
noncomputable def nodes(f:Nat->Int)(own par:Nat->Nat)(n N:Nat):List (List Int):=(aw N).map (nd f own par n)
theorem Bk.Hs(b:Bk f own par n N rows):(nodes f own par n N).Nodup:=by
 unfold nodes;rw[zj,cU];refine cT.mpr fun i j hi hj hij z=>?_;rw[aO]at hi hj;rw[eF,eF]at z;exact absurd (b.inj hi hj z) (by omega)
theorem Bk.perm(b:Bk f own par n N rows):(M8.nds rows n).Perm (nodes f own par n N):=by
 refine(List.perm_ext_iff_of_nodup (M8.jx b.tb) b.Hs).mpr fun v=>?_;rw[M8.fw b.tb,b.mem];unfold nodes;rw[ay];constructor
 ·rintro⟨k,hk,e⟩
  exact⟨k,aK.mpr hk,e.symm⟩
 ·rintro⟨k,hk,e⟩
  exact⟨k,aK.mp hk,e.symm⟩
theorem Bk.sorted(b:Bk f own par n N rows):M8.mC (M8.nds rows n)=M8.mC (nodes f own par n N):=M9.wH (M8.jx b.tb) b.perm
theorem Bk.unk(b:Bk f own par n N rows)(hp:p<n):(p:Int)∈K75.unk rows n ts↔p∉ts.map (·.1)/\1<=own p/\(nd f own par n (own p)∈K75.stn rows n ts\/nd f own par n (par (own p))∈K75.stn rows n ts):=by
 rw[K74.pS b.tb hp,b.torn hp];constructor
 ·rintro⟨h1,h2,x,hx,he⟩
  refine⟨h1,h2,?_⟩;rcases(b.DK hp h2).mp he with rfl|rfl
  ·exact .inl hx
  ·exact .inr hx
 ·rintro⟨h1,h2,h⟩
  obtain⟨ea,eb⟩:=b.ends hp h2;rcases h with h|h
  ·exact⟨h1,h2,_,h,ea⟩
  ·exact⟨h1,h2,_,h,eb⟩
end
end Bm
namespace Bt
open PySem PySem.Spec PyProof.Rows L2 R Cp Lt Kc Mt K21 K22 Lm
section
variable {H:Hp}{t:Addr}{cs bs:List V}{nf:Nat->Str}{vf:Nat->Nat}{f:Nat->Int}{ps os:List Nat}
noncomputable def rws(m:Nat)(vf:Nat->Nat)(f:Nat->Int)(ps os:List Nat):List (List Int):=(aw m).map fun i=>gN f ps os (vf i)
theorem rws_at(h:i<m):(rws m vf f ps os).getD i []=gN f ps os (vf i):=by
 unfold rws;rw[ae,aq,bP h];rfl
theorem Blt.vlt(B:Blt H t cs nf vf f ps os)(h:i<cs.length):vf i<ps.length:=(B.at_ i _ (aa h)).1
theorem Blt.row(B:Blt H t cs nf vf f ps os)(h:r∈rws cs.length vf f ps os):∃v,v<ps.length/\r=nd f (fn os) (fn ps) os.length v:=by
 unfold rws at h;obtain⟨i,hi,rfl⟩:=ay.mp h;exact⟨vf i,B.vlt (aK.mp hi),rfl⟩
theorem AL{a b:Bool}{x:Int}(hx:x=0\/x=1)(h:(if a=true then 1-x else x)=if b=true then 1-x else x):a=b:=by
 rcases hx with rfl|rfl<;>cases a<;>cases b<;>first |rfl| (revert h;decide)
theorem Blt.mis(B:Blt H t cs nf vf f ps os)(hij:i<j)(hj:j<os.length):M6.Mis (rws cs.length vf f ps os) i j:=by
 have fi:=B.bit i (by omega);have fj:=B.bit j hj;have get:∀{p v:Nat},p<os.length->(nd f (fn os) (fn ps) os.length v).getD p 0=if on (fn ps) (fn os p) v=true then 1-f p else f p:=fun{p v} hp=>by rw[dY hp];rfl
 apply aJ
 intro hn;have ex:∀a b:Bool,∃v,v<ps.length/\on (fn ps) (fn os i) v=a/\on (fn ps) (fn os j) v=b:=fun a b=>by
  apply aJ
  intro k;refine hn ⟨if a=true then 1-f i else f i,if b=true then 1-f j else f j,by split <;>omega,by split <;>omega,fun r hr ⟨h1,h2⟩=>?_⟩;obtain⟨v,hv,rfl⟩:=B.row hr;rw[get (by omega)]at h1;rw[get hj]at h2;refine k ⟨v,hv,?_,?_⟩
  ·exact AL fi h1
  ·exact AL fj h2
 obtain⟨u,hu,u1,u2⟩:=ex true true;obtain⟨v,hv,v1,v2⟩:=ex true false;obtain⟨w,hw,w1,w2⟩:=ex false true;exact Hr (d:=0) B.par hu hv hw ⟨u1,u2⟩ ⟨v1,v2⟩ ⟨w1,w2⟩
theorem Blt.tn(B:Blt H t cs nf vf f ps os):K34.Tn H t nf os.length cs (rws cs.length vf f ps os) where
 et:=B.et
 ln:=by unfold rws;rw[ai,aO]
 row:=fun i y e=>by
  obtain⟨_,b,r,h1,h2,h3⟩:=B.at_ i y e;exact⟨b,r,h1,h2,by rw[rws_at (aC.mp e).1];exact h3⟩
 ok:=B.ok
 inj:=B.inj
 len:=B.l40
 n10:=B.n60
 rd:=fun r hr=>by
  obtain⟨v,_,rfl⟩:=B.row hr;exact Bm.nd_ok B.bit v
 mis:=fun i j hij hj=>B.mis hij hj
theorem Blt.ne(B:Blt H t cs nf vf f ps os):cs≠[]:=fun z=>by have :=B.l1;rw[z]at this;simp at this
theorem Blt.bk(B:Blt H t cs nf vf f ps os)(x:Bx H bs cs.length vf f ps os):Bm.Bk f (fn os) (fn ps) os.length ps.length (rws cs.length vf f ps os) where
 hp:=B.par
 hf:=B.bit
 ow:=x.ow
 has:=x.has
 row:=fun r hr=>B.row hr
 cp:=fun v hv hn=>by
  obtain⟨i,hi,e⟩:=x.cp v hv hn;unfold rws;exact ay.mpr ⟨i,aK.mpr hi,by rw[e]⟩
 tb:=B.tn.tbl B.ne
end
end Bt
namespace K74
open PySem PySem.Spec PyProof.Rows L2 R Cp Lt Kc K21 K22 Lm M5 K32 K34 K75 K76
section
variable {H H2:Hp}{t l:Addr}{nf:Nat->Str}{n:Nat}{ys:List V}{rows:List (List Int)}{ts:List (Nat×Int)}
theorem getD_map{α β:Type}{f:α->β}{l:List α}{d:α}{e:β}(h:k<l.length):(l.map f).getD k e=f (l.getD k d):=by
 rw[ae,aq,aa h,ae,aa h];rfl
theorem Tn_pick(d:Tn H t nf n ys rows)(s:aL H H2){ix:List Nat}(hi:∀i∈ix,i<ys.length)(nd:ix.Nodup)(el:H2 l=some (.lst (ix.map fun i=>ys.getD i .non))):Tn H2 l (fun k=>nf (ix.getD k 0)) n (ix.map fun i=>ys.getD i .non) (ix.map fun i=>rows.getD i []) where
 et:=el
 ln:=by rw[ai,ai]
 row:=fun k y e=>by
  rw[aq]at e;cases c:ix[k]? with
  |none=>rw[c]at e;cases e
  |some i=>
   rw[c]at e;cases e;have hk:k<ix.length:=(aC.mp c).1;have hiy:=hi i (aD c);obtain⟨b,r,e1,e2,e3⟩:=d.row i _ (aa hiy);refine⟨b,r,?_,?_,?_⟩
   ·show ys.getD i .non=_
    rw[ae,aa hiy,e1];rfl
   ·rw[s _ _ e2,getD_some c]
   ·rw[s _ _ e3,getD_map (d:=0) hk,getD_some c]
 ok:=fun i=>d.ok _
 inj:=fun i j h1 h2 e=>by
  rw[ai]at h1 h2;have m:∀k,k<ix.length->ix.getD k 0∈ix:=fun k hk=>by rw[ae,aa hk];exact a9 hk
  have :=d.inj _ _ (hi _ (m i h1)) (hi _ (m j h2)) e
  rw[ae,aa h1,ae,aa h2]at this;exact(dO nd).mp this
 len:=by
  rw[ai];have :=L2.qd nd (m:=aw ys.length) fun i h=>aK.mpr (hi i h);rw[aO]at this;exact aR this d.len
 n10:=d.n10
 rd:=fun r hr=>by
  obtain⟨i,h,rfl⟩:=ay.mp hr;exact d.rd _ (d.get (hi i h))
 mis:=fun i j h1 h2=>(d.mis i j h1 h2).sub fun r hr=>by
  obtain⟨k,h,rfl⟩:=ay.mp hr;exact d.get (hi k h)
theorem ui(t:M7.Tbl rows n)(t2:M7.Tbl rows2 n)(h:∀r,r∈rows↔r∈rows2):stn rows n ts=stn rows2 n ts:=
 CU (zA t) (zA t2) fun v=>by
  rw[yw t,yw t2];exact⟨fun⟨a,b⟩=>⟨a.sub fun r hr=>(h r).mp hr,b⟩,fun⟨a,b⟩=>⟨a.sub fun r hr=>(h r).mpr hr,b⟩⟩
theorem End_sub(h:∀r,r∈rows↔r∈rows2){v:List Int}(e:M7.End rows n p v):M7.End rows2 n p v:=by
 have cl:∀{q:Nat},M7.Cls rows2 p q->M7.Cls rows p q:=fun c a ha b hb=>c a ((h a).mp ha) b ((h b).mp hb);refine⟨e.ok,fun q hq c=>?_,fun q hq c=>?_⟩
 ·obtain⟨r,hr,x⟩:=e.own q hq (cl c)
  exact⟨r,(h r).mp hr,x⟩
 ·obtain⟨r,hr,s,hs,x⟩:=e.off q hq fun z=>c fun a ha b hb=>z a ((h a).mpr ha) b ((h b).mpr hb)
  exact⟨r,(h r).mp hr,s,(h s).mp hs,x⟩
theorem zr(t:M7.Tbl rows n)(t2:M7.Tbl rows2 n)(h:∀r,r∈rows↔r∈rows2)(hp:p<n)(u:(p:Int)∈unk rows n ts):(p:Int)∈unk rows2 n ts:=by
 obtain⟨a,b,x,hx,e⟩:=(pS t hp).mp u;obtain⟨r,hr,s,hs,ne⟩:=(M9.mw t).mp b;exact(pS t2 hp).mpr ⟨a,(M9.mw t2).mpr ⟨r,(h r).mp hr,s,(h s).mp hs,ne⟩,x,by rw[<-ui t t2 h];exact hx,End_sub h e⟩
theorem HK(t:M7.Tbl rows n)(t2:M7.Tbl rows2 n)(h:∀r,r∈rows↔r∈rows2):knw rows n ts=knw rows2 n ts:=by
 unfold knw;refine bE fun p hp=>?_;have hp:=aK.mp hp;have i:((p:Int)∈unk rows n ts)↔(p:Int)∈unk rows2 n ts:=⟨zr t t2 h hp,zr t2 t (fun r=>(h r).symm) hp⟩;simp only[i,ui t t2 h]
end
end K74
namespace K62
open PySem R
noncomputable def uF:List Str:=["_law_nodes_here","_law_cell","_law_many"]
noncomputable def mH:List Str:=["_law_nodes_here","_law_cell","_law_many","_law_node","_law_left","_law_drawn","_law_places","_law_k","_law_place"]
noncomputable def kQ:CB:=
  (.cons (.ret (.comp ["_law_place"] [3] (.name 0) (.seq (.var 6)) .no (.tup (.cons (.var 0) (.cons (.idx (.var 1) (.var 0)) .nil)))))
  .nil)
noncomputable def fS:CB:=
  (.cons (.iff (.cmp .NotIn (.var 8) (.var 6))
  (.cons (.expr (.meth1 .append (.var 6) (.var 8)))
  .nil)
  .nil)
  .nil)
noncomputable def hZ:CB:=
  (.cons (.asg (.name 4) (.bin .FloorDiv (.var 4) (.bfn .len (.cons (.var 3) .nil))))
  .nil)
noncomputable def iV:CB:=
  (.cons (.iff (.and (.cmp .Eq (.bin .Mod (.var 2) (.con (.int 2))) (.con (.int 1))) (.cmp .GtE (.var 4) (.bfn .len (.cons (.var 3) .nil))))
  (.cons (.asg (.name 8) (.bin .Mod (.var 4) (.bfn .len (.cons (.var 3) .nil))))
  hZ)
  .nil)
  fS)
noncomputable def kR:CB:=
  (.cons (.forr (.name 7) (.range1 (.var 2))
  (.cons (.iff (.cmp .NotEq (.var 3) (.tup .nil))
  (.cons (.asg (.name 8) (.bin .Mod (.bin .Add (.bin .FloorDiv (.var 5) (.con (.int 20))) (.bin .Mult (.var 7) (.bin .Add (.con (.int 1)) (.bin .Mod (.bin .FloorDiv (.var 5) (.con (.int 1300))) (.con (.int 7)))))) (.bfn .len (.cons (.var 3) .nil))))
  iV)
  .nil)
  .nil))
  kQ)
noncomputable def kT:CB:=
  (.cons (.asg (.name 6) (.lst .nil))
  kR)
noncomputable def kU:CB:=
  (.cons (.asg (.name 5) (.call "_law_mixed" (.cons (.var 1) (.cons (.con (.int 3)) .nil))))
  kT)
noncomputable def kW:CB:=
  (.cons (.asg (.name 4) (.bin .FloorDiv (.var 1) (.bfn .len (.cons (.var 0) .nil))))
  kU)
noncomputable def mU:CB:=
  (.cons (.asg (.name 3) (.idx (.var 0) (.bin .Mod (.var 1) (.bfn .len (.cons (.var 0) .nil)))))
  kW)
noncomputable def zT:List Str:=["_law_node","_law_tellings_here"]
noncomputable def sy:List Str:=["_law_node","_law_tellings_here"]
noncomputable def sN:CB:=
  (.cons (.ret (.cmp .Eq (.comp ["_law_one"] [0] (.name 0) (.seq (.var 1)) (.yes (.cmp .NotEq (.idx (.var 1) (.idx (.var 0) (.con (.int 0)))) (.idx (.var 0) (.con (.int 1))))) (.var 0)) (.lst .nil)))
  .nil)
noncomputable def yf:List Str:=["_law_nodes_here","_law_tellings_here"]
noncomputable def qg:List Str:=["_law_nodes_here","_law_tellings_here"]
noncomputable def qB:CB:=
  (.cons (.ret (.comp ["_law_node"] [1] (.name 0) (.seq (.var 0)) (.yes (.call "_law_bears" (.cons (.var 0) (.cons (.var 1) .nil)))) (.var 0)))
  .nil)
end K62
namespace K62
open PySem PySem.Spec PyProof.Rows L2 R Cp Lt Kc K21 K22 Lm K32 K34 K75
section
variable {G:Gam}{K:ah}
theorem getD_at{xs:List Int}(h:i<xs.length):(xs.map V.int)[i]? =some (.int (xs.getD i 0)):=by
 rw[aq,ae,aa h];rfl
noncomputable def mF:List Str:=Bt.mF
noncomputable def gS:List Str:=["_law_parents","_law_owners_here","_law_seed","_law_bits","_law_free","_law_first_here","_law_place","_law_nodes_here","_law_edge","_law_above"]
theorem wp_nds:∀vs H Q E,Bt.tG vs H Q E->wpB G K (fun _=>E) Bt.m3 {nx:=fun _ H'=>Q .non H',rt:=Q} (L2.start gS vs) H:=fun vs H Q E h=>by
 rw[show L2.start gS vs=L2.start Bt.gS vs from rfl];exact Bt.FW vs H Q E h
noncomputable def spBr(K:ah):Sp:=fun vs H Q _=>∃(x:V)(v:List Int)(l:Addr)(zs:List V)(ts:List (Nat×Int)),vs=[x,.ref l]/\NdV K H x v/\Tls H l zs ts/\Vt v.length ts/\ts.length<=60/\∀H',aL H H'->Q (.bl (rdT ts v)) H'
theorem x8:∀{zs:List V}{ts:List (Nat×Int)},Paired (TgV H) zs ts->eI K H (ts.map fun q=>L2.D.tup [.int q.1,.int q.2]) zs
 |_,_,.nil=>rfl
 |_,_,.cons ⟨a,e,h⟩ t=>⟨_,_,rfl,by rw[e];exact⟨a,_,rfl,SqT.of h,_,_,rfl,rfl,_,_,rfl,rfl,rfl⟩,x8 t⟩
theorem yG:∀ts:List (Nat×Int),eP (ts.map fun q=>L2.D.tup [.int q.1,.int q.2])<=1
 | []=>aX _
 |q::ts=>by
  have :=yG ts
  show max (hgt (L2.D.tup [.int q.1,.int q.2])) (eP (ts.map fun q=>L2.D.tup [.int q.1,.int q.2]))<=1;have :hgt (L2.D.tup [.int q.1,.int q.2])<=1:=by simp[hgt,eP]
  omega
theorem eqD_nil{α:Type}(g:α->L2.D)(l:List α):eqD (.lst (l.map g)) (.lst [])=decide (l=[]):=by
 cases l with
 |nil=>rfl
 |cons a l=>rfl
theorem inV_iN(p:Nat)(pl:List Nat):inV (.int p) (Bt.iN pl)=decide (p∈pl):=by
 unfold inV Bt.iN;rw[tZ,bF,b9,decide_eq_true_eq];constructor
 ·rintro⟨x,hx,h⟩
  have h:((x:Int)==(p:Int))=true:=h;have :(x:Int)=(p:Int):=by simpa using h
  have :x=p:=by omega
  exact this▸hx
 ·intro h
  exact⟨p,h,by show((p:Int)==(p:Int))=true;simp⟩
theorem flat_iN(pl:List Nat):(Bt.iN pl).all oB=true:=by
 unfold Bt.iN;rw[n9,bC];exact fun _ _=>rfl
theorem wp_br:Sat G K (spBr K) sN sy:=by
 rintro vs H Q E ⟨x,v,l,zs,ts,rfl,⟨b,rfl,hb⟩,d,vt,t60,q⟩;have zl:zs.length=ts.length:=K83.gI d.pr;unfold sN;change wpB G K _ _ _ [some (.ref b),some (.ref l)] H;walk_at "wp";refine cS (b7 rfl (SqL.of d.hl) (qx (ds:=ts) zl cX (dA (by omega)) (fun H1 s1=>SqL.of (s1 _ _ d.hl)) (fun q=>decide (v.getD q.1 0≠q.2)) (fun x _=>x) (fun τ=>∃u,τ=[u,some (.ref b)]) ⟨none,rfl⟩ ?_ ?_))
 ·rintro i x q' τ H3 Rt Rf hx hq ⟨u,rfl⟩ s3 kt kf
  obtain⟨q2,hq2,a,rfl,ha⟩:=i4 d.pr hx;rw[hq]at hq2;cases hq2;have hm:=aD hq;have ha:=s3 _ _ ha;walk_at "wp";refine .inr (.inl ⟨a,_,0,_,rfl,rfl,SqT.of ha,rfl,?_⟩);refine .inr (.inl ⟨b,_,q'.1,_,rfl,rfl,s3.tup hb,cG (getD_at (vt.ok q' hm).1),?_⟩);refine .inr (.inl ⟨a,_,1,_,rfl,rfl,SqT.of ha,rfl,De.mpr ⟨_,rfl,?_⟩⟩);by_cases c:v.getD q'.1 0=q'.2
  ·rw[if_neg (by simpa using c)]
   exact kf _ _ ⟨_,rfl⟩ (aL.refl _) (by simpa using c)
  ·rw[if_pos (by simpa using c)]
   exact kt _ _ ⟨_,rfl⟩ (aL.refl _) (by simpa using c)
 ·intro H2 l2 s2 hl2
  have pf:=tE (P:=TgV H) (fun q=>decide (v.getD q.1 0≠q.2)) d.pr;have el:upd H2 l2 (.lst (((zs.zip ts).filter fun p=>decide (v.getD p.2.1 0≠p.2.2)).map fun p=>p.1)) l2=some (.lst (((zs.zip ts).filter fun p=>decide (v.getD p.2.1 0≠p.2.2)).map fun p=>p.1)):=ao;have s3:=s2.trans (ax (o:=.lst (((zs.zip ts).filter fun p=>decide (v.getD p.2.1 0≠p.2.2)).map fun p=>p.1)) hl2);generalize upd H2 l2 (.lst (((zs.zip ts).filter fun p=>decide (v.getD p.2.1 0≠p.2.2)).map fun p=>p.1))=H3 at s3 el⊢;generalize((zs.zip ts).filter fun p=>decide (v.getD p.2.1 0≠p.2.2)).map (fun p=>p.1)=fs at pf el;refine⟨short (by simp),fun p hp=>?_⟩;have s4:=s3.trans (ax (o:=.lst []) hp);have pf4:=Paired.mM pf (G:=TgV (upd H3 p (.lst []))) fun _ _ ⟨a,e,h⟩=>⟨a,e,s4 _ _ h⟩;refine⟨.lst ((ts.filter fun q=>decide (v.getD q.1 0≠q.2)).map fun q=>L2.D.tup [.int q.1,.int q.2]),.lst [],⟨l2,_,rfl,SqL.of (ax hp _ _ el),x8 pf4⟩,⟨p,[],rfl,SqL.of ao,rfl⟩,?_,?_⟩
  ·show eP _+1<=30
   have :=yG (ts.filter fun q=>decide (v.getD q.1 0≠q.2))
   omega
  ·rw[eqD_nil]
   have e:decide (ts.filter (fun q=>decide (v.getD q.1 0≠q.2))=[])=rdT ts v:=by
    unfold rdT;rw[bF,decide_eq_true_eq,n8,bC];constructor
    ·intro h q hq
     have :=h q hq
     simpa using this
    ·intro h q hq
     have :=h q hq
     simpa using this
   rw[e];exact q _ s4
noncomputable def spSd(K:ah):Sp:=fun vs H Q _=>∃(nl l:Addr)(n:Nat)(ws zs:List V)(ns:List (List Int))(ts:List (Nat×Int)),vs=[.ref nl,.ref l]/\SqL K H nl ws/\Paired (NdV K H) ws ns/\(∀v∈ns,v.length=n)/\ns.length<=61/\Tls H l zs ts/\Vt n ts/\n<=60/\
 ∀H' l' us,aL H H'->H l'=none->H' l'=some (.lst us)->Paired (NdV K H') us (ns.filter (rdT ts))->Q (.ref l') H'
theorem wp_sd(g1:G.fn "_law_bears" 2=some (spBr K,[])):Sat G K (spSd K) qB qg:=by
 rintro vs H Q E ⟨nl,l,n,ws,zs,ns,ts,rfl,hw,pn,hv,n61,d,vt,n60,q⟩;have wl:ws.length=ns.length:=K83.gI pn;have tl:=vt.len;unfold qB;change wpB G K _ _ _ [some (.ref nl),some (.ref l)] H;walk_at "wp";refine cS (b7 rfl hw (qx (ds:=ns) wl cX (dA (by omega)) (fun H1 s1=>s1.seq hw) (rdT ts) (fun x _=>x) (fun τ=>∃u,τ=[u,some (.ref l)]) ⟨none,rfl⟩ ?_ ?_))
 ·rintro i x v τ H3 Rt Rf hx hvv ⟨u,rfl⟩ s3 kt kf
  obtain⟨v2,hv2,nv⟩:=i4 pn hx;rw[hvv]at hv2;cases hv2;walk_at "wp";refine⟨_,_,g1,x,v,l,zs,ts,rfl,nv.same s3,d.same s3,by rw[hv v (aD hvv)];exact vt,by omega,fun H4 s4=>⟨_,rfl,?_⟩⟩;cases c:rdT ts v with
  |true=>rw[if_pos rfl];exact kt _ _ ⟨_,rfl⟩ s4 c
  |false=>rw[if_neg ak];exact kf _ _ ⟨_,rfl⟩ s4 c
 ·intro H2 l2 s2 hl2
  have s3:=s2.trans (ax (o:=.lst (((ws.zip ns).filter fun p=>rdT ts p.2).map fun p=>p.1)) hl2);exact q _ l2 _ s3 (s2.free hl2) ao (Paired.mM (tE (P:=NdV K H) (rdT ts) pn) fun _ _ h=>h.same s3)
noncomputable def spTl(K:ah):Sp:=fun vs H Q _=>∃(nl:Addr)(c:Int)(m n:Nat)(ws:List V)(ns:List (List Int)),vs=[.ref nl,.int c,.int m]/\SqL K H nl ws/\Paired (NdV K H) ws ns/\ns≠[]/\ns.length<=61/\(∀v∈ns,M6.Ok n v)/\n<=60/\m<=7/\
 ∀H' l zs ts v,aL H H'->H l=none->Tls H' l zs ts->Vt n ts->v∈ns->rdT ts v=true->Q (.ref l) H'
theorem wp_tl(g1:G.fn "_law_mixed" 2=some (Bt.zB,[])):Sat G K (spTl K) mU mH:=by
 rintro vs H Q E ⟨nl,c,m,n,ws,ns,rfl,hw,pn,ne,n61,hok,n60,m7,q⟩;have wl:ws.length=ns.length:=K83.gI pn;have nl0:0<ns.length:=gU.mpr ne;unfold mU;change wpB G K _ _ _ [some (.ref nl),some (.int c),some (.int m),none,none,none,none,none,none] H;walk_at "wp";refine .inl ⟨nl,ws,rfl,.inl hw,hW.mpr ⟨by omega,?_⟩⟩;have i0:0<=c%(ws.length:Int):=cy _ (by omega);have i1:c%(ws.length:Int)<(ws.length:Int):=bU _ (by omega);obtain⟨z,hz⟩:=bY i0;rw[hz]at i1⊢;have hzl:z<ws.length:=by omega
 obtain⟨v,hv,b,eb,hb⟩:=i4 pn (aa hzl);have hvm:=aD hv;have okv:=hok v hvm;have vl:=okv.1;refine .inl ⟨nl,ws,z,_,rfl,rfl,hw,cG (aa hzl),?_⟩;rw[eb];unfold kW;walk_at "wp";refine .inl ⟨nl,ws,rfl,.inl hw,div_ii.mpr ⟨⟨by omega,by omega⟩,?_⟩⟩;generalize c/(ws.length:Int)=left;unfold kU;walk_at "wp";refine⟨_,_,g1,c,3,rfl,by decide,by decide,?_⟩;have dr0:=Bt.mx_nn c 3;generalize Bt.mx c 3=dr at dr0⊢;unfold kT;walk_at "wp";refine⟨short (by simp),fun lp hlp=>?_⟩;have s1:=ax (o:=.lst []) hlp;have e1:upd H lp (.lst []) lp=some (.lst []):=ao;generalize upd H lp (.lst [])=H1 at s1 e1⊢;unfold kR;walk_at "wp";refine fQ ?_;walk_at "wp";refine⟨(m:Int),rfl,by omega,by omega,?_⟩;rw[aH];refine fm dv (fun i σ H'=>aL H H'/\∃(pl:List Nat)(left:Int)(x y:Option V),H' lp=some (.lst (Bt.iN pl))/\pl.length<=i/\pl.Nodup/\(∀p∈pl,p<n)/\σ=[some (.ref nl),some (.int c),some (.int m),some (.ref b),some (.int left),some (.int dr),some (.ref lp),x,y])
  ⟨s1,[],left,none,none,e1,aB _,.nil,(fun p hp=>nomatch hp),rfl⟩ (fun _ _ _ _ _=>trivial) ?_ ?_
 ·rintro i x σ H2 H3 D2 hi ⟨s2,pl,left,x',y',ep,pll,nd,plt,rfl⟩ rfl s3 hD _
  have ep:=s3 _ _ ep;have s03:=s2.trans s3;have hb3:=s03.tup hb
  --the last row
  have put:∀(H4:Hp),aL H3 H4->∀(lf:Int)(p:Nat),p<n->wpB G K (fun _=>E) fS D2 [some (.ref nl),some (.int c),some (.int m),some (.ref b),some (.int lf),some (.int dr),some (.ref lp),some (.int (i:Int)),some (.int (p:Int))] H4:=fun H4 s4 lf p hp=>by
   have ep:=s4 _ _ ep;have s03:=s03.trans s4;unfold fS;walk_at "wp";refine .inr ⟨lp,Bt.iN pl,rfl,.inl (SqL.of ep),rfl,flat_iN pl,_,rfl,?_⟩;rw[if_pos rfl,inV_iN];by_cases cp:p∈pl
   ·rw[decide_eq_true cp,if_neg (by decide)]
    exact hD _ _ ⟨s03,pl,_,_,_,ep,by omega,nd,plt,rfl⟩
   ·rw[decide_eq_false cp,if_pos (by decide)]
    refine⟨.inl ⟨rfl,_,SqL.of ep⟩,lp,_,_,rfl,rfl,ep,K32.uW (by rw[Bt.cK];omega),hD _ _ ⟨dG s03 hlp,pl++[p],_,_,_,by rw[Bt.tP];exact ao,by simp;omega,?_,fun x hx=>?_,rfl⟩⟩
    ·rw[dm]
     exact⟨nd,by simp,fun a ha b hb=>by rw[a6.mp hb];exact fun z=>cp (z▸ha)⟩
    ·rcases cP.mp hx with h|h
     ·exact plt x h
     ·rw[a6.mp h];exact hp
  walk_at "wp"
  simp only[eY];refine⟨aX _,fun p0 hp0=>?_⟩;have s4:=ax (o:=.tup []) hp0;have e0:upd H3 p0 (.tup []) p0=some (.tup []):=ao;generalize upd H3 p0 (.tup [])=H4 at s4 e0⊢;have hb4:=s4.tup hb3;refine⟨K83.nd1 v,K83.nd1 [],⟨b,_,rfl,hb4,eI.ints _⟩,⟨p0,_,rfl,SqT.of e0,rfl⟩,?_,_,rfl,?_⟩
  ·show eP (v.map L2.D.int)+1<=30
   rw[nR];decide
  rw[B6];by_cases cv:v=[]
  ·rw[decide_eq_true cv,if_neg (by decide)]
   exact hD _ _ ⟨s03.trans s4,pl,_,_,_,s4 _ _ ep,by omega,nd,plt,rfl⟩
  ·rw[decide_eq_false cv,if_pos (by decide)]
   have n0:0<n:=by rw[<-vl];exact gU.mpr cv
   have vml:(v.map V.int).length=n:=by rw[ai,vl]
   have j0:0<=dr/1300%7:=cy _ (by decide);have j1:dr/1300%7<7:=bU _ (by decide);refine⟨⟨by decide,by decide⟩,⟨by decide,by decide⟩,by decide,vo (by omega) (by omega),.inl ⟨b,_,rfl,.inr hb4,hW.mpr ⟨by omega,?_⟩⟩⟩;rw[vml];have w0:0<=(dr/20+(i:Int)*(1+dr/1300%7))%(n:Int):=cy _ (by omega);have w1:(dr/20+(i:Int)*(1+dr/1300%7))%(n:Int)<(n:Int):=bU _ (by omega);obtain⟨p,hp⟩:=bY w0;rw[hp]at w1⊢;unfold iV;walk_at "wp";refine⟨by decide,?_⟩;by_cases cm:(m:Int)%2=1
   ·rw[if_pos (decide_eq_true cm)]
    refine .inl ⟨b,_,rfl,.inr hb4,Il.mpr ⟨_,rfl,?_⟩⟩;rw[vml];by_cases cl:(n:Int)<=left
    ·rw[if_pos (decide_eq_true cl)]
     refine .inl ⟨b,_,rfl,.inr hb4,hW.mpr ⟨by omega,?_⟩⟩;rw[vml];have y0:0<=left%(n:Int):=cy _ (by omega);have y1:left%(n:Int)<(n:Int):=bU _ (by omega);obtain⟨p',hp'⟩:=bY y0;rw[hp']at y1⊢;unfold hZ;walk_at "wp";refine .inl ⟨b,_,rfl,.inr hb4,div_ii.mpr ⟨⟨by omega,by omega⟩,?_⟩⟩;exact put H4 s4 _ p' (by omega)
    ·rw[if_neg (by simpa using cl)]
     exact put H4 s4 _ p (by omega)
   ·rw[if_neg (by simpa using cm),if_neg ak]
    exact put H4 s4 _ p (by omega)
 ·rintro σ H2 ⟨s2,pl,left,x',y',ep,pll,nd,plt,rfl⟩
  unfold kQ;walk_at "wp";have hb2:=s2.tup hb;refine cS (b7 rfl (SqL.of ep) (dH cX (dA (by rw[Bt.cK];omega)) (fun H3 s3=>SqL.of (s3 _ _ ep)) (fun i w H'=>∃a,w=V.ref a/\H' a=some (.tup [.int (pl.getD i 0:Nat),.int (v.getD (pl.getD i 0) 0)])) (fun i w H3 H4 s4 ⟨a,e,h⟩=>⟨a,e,s4 _ _ h⟩) (fun τ=>∃u,τ=[u,some (.ref b)]) ⟨none,rfl⟩ ?_ ?_))
  ·rintro i x τ H3 R hi ⟨u,rfl⟩ s3 hx k
   rw[Bt.cK]at hi;rw[Bt.oA hi]at hx;cases hx;have hpm:pl.getD i 0∈pl:=by rw[ae,aa hi];exact a9 hi
   have hpn:=plt _ hpm;walk_at "wp";refine .inr (.inl ⟨b,_,(pl.getD i 0:Nat),_,rfl,rfl,s3.tup hb2,cG (getD_at (by omega)),short (by simp),fun a ha=>k _ _ _ ⟨_,rfl⟩ (ax ha) ⟨a,rfl,ao⟩⟩)
  ·intro vs H3 l hvl hF s3 hl
   rw[Bt.cK]at hvl;have s4:=s3.trans (ax (o:=.lst vs) hl);refine q _ l vs (pl.map fun p=>(p,v.getD p 0)) v (s2.trans s4) ((s2.trans s3).free hl) ⟨ao,G4 (by rw[ai];exact hvl) fun j z w e1 e2=>?_⟩ ⟨fun w hw=>?_,?_⟩ hvm ?_
   ·obtain⟨a,e,h⟩:=hF j z e1
    have hj:j<pl.length:=by rw[<-hvl];exact(aC.mp e1).1
    rw[aq,aa hj]at e2;cases e2;rw[ae,aa hj]at h;exact⟨a,e,ax hl _ _ h⟩
   ·obtain⟨p,hp,rfl⟩:=ay.mp hw
    exact⟨plt p hp,okv.at p⟩
   ·rw[bq]
    have e:((fun x:Nat×Int=>x.1)∘fun p=>(p,v.getD p 0))=id:=rfl;rw[e,dy];exact nd
   ·unfold rdT
    rw[n9,bC];exact fun p _=>decide_eq_true rfl
end
end K62
namespace K62
open PySem R
noncomputable def zR:List Str:=["_law_nodes_here","_law_branches","_law_tellings_here"]
noncomputable def sv:List Str:=["_law_nodes_here","_law_branches","_law_tellings_here","_law_found","_law_readings","_law_one","_law_other","_law_places","_law_place","_law_elder"]
noncomputable def oP:CB:=
  (.cons (.ret (.bfn .tuple (.cons (.var 4) .nil)))
  .nil)
noncomputable def oQ:CB:=
  (.cons (.forr (.tup (.cons (.name 8) (.cons (.name 9) .nil))) (.seq (.var 2))
  (.cons (.asg (.sub (.var 4) (.var 8)) (.var 9))
  .nil))
  oP)
noncomputable def oR:CB:=
  (.cons (.forr (.tup (.cons (.name 5) (.cons (.name 6) (.cons (.name 7) .nil)))) (.seq (.var 1))
  (.cons (.forr (.name 8) (.seq (.var 7))
  (.cons (.iff (.or (.cmp .In (.var 5) (.var 3)) (.cmp .In (.var 6) (.var 3)))
  (.cons (.asg (.sub (.var 4) (.var 8)) (.con .none))
  .nil)
  .nil)
  .nil))
  .nil))
  oQ)
noncomputable def oS:CB:=
  (.cons (.asg (.name 4) (.bfn .list (.cons (.idx (.var 3) (.con (.int 0))) .nil)))
  oR)
noncomputable def sL:CB:=
  (.cons (.asg (.name 3) (.call "_law_stands" (.cons (.var 0) (.cons (.var 2) .nil))))
  oS)
end K62
namespace K62
open PySem PySem.Spec PyProof.Rows L2 R Cp Lt Kc K21 K22 Lm K32 K34 K75
theorem setv{F G:Nat->V}(hp:p<n)(h2:∀q,q≠p->G q=F q):((aw n).map F).set p (G p)=(aw n).map G:=by
 apply bg
 ·simp
 ·intro i h1 h3
  rw[List.length_set,ai,aO]at h1;rw[List.getElem_set,aY,aY,eF];split
  ·rename_i e;rw[e]
  ·rename_i e;rw[h2 i (fun z=>e z.symm)]
theorem setW{F G:Nat->V}{x:V}{Q:Hp->Prop}(el:H l=some (.lst ((aw n).map F)))(hp:p<n)(h1:G p=x)(h2:∀q,q≠p->G q=F q)(q:Q (upd H l (.lst ((aw n).map G)))):C2 (.ref l) (.int (p:Int)) x H Q:=by
 refine⟨l,_,p,p,rfl,rfl,el,?_,?_⟩
 ·rw[ai,aO]
  unfold ixN;simp;omega
 ·rw[<-h1,setv hp h2]
  exact q
theorem BB(os:List Nat)(e:Nat):Bt.pls os e=Bt.iN ((aw os.length).filter fun i=>decide (os.getD i 0=e)):=by
 unfold Bt.pls nats Bt.iN;rw[jK];congr 1;refine lP fun i _=>?_;show decide (((os.getD ((i:Int)).toNat 0:Nat):Int)=((e:Nat):Int))=decide (os.getD i 0=e);rw[aH,bF,decide_eq_true_eq,decide_eq_true_eq];omega
noncomputable def plN(os:List Nat)(e:Nat):List Nat:=(aw os.length).filter fun i=>decide (os.getD i 0=e)
theorem qo{os:List Nat}{e:Nat}:p∈plN os e↔p<os.length/\os.getD p 0=e:=by
 unfold plN;rw[bR,aK,decide_eq_true_eq]
theorem choose{α β:Type}{P:α->β->Prop}:∀{l:List α},(∀z∈l,∃e,P z e)->∃es,Paired P l es
 | [],_=>⟨[],.nil⟩
 |a::l,h=>by
  obtain⟨e,he⟩:=h a (.head _);obtain⟨es,hs⟩:=choose fun z hz=>h z (.tail _ hz);exact⟨e::es,.cons he hs⟩
theorem brv_one{f:Nat->Int}{ps os:List Nat}{z:V}{e e':Nat}(h:Bt.BrV H f ps os z e)(h':Bt.BrV H f ps os z e')(hs:∃p,p<os.length/\os.getD p 0=e):e=e':=by
 obtain⟨b,r1,r2,r3,x,y,e1,h1,_,_,_,h5⟩:=h;obtain⟨b',r1',r2',r3',x',y',e1',h1',_,_,_,h5'⟩:=h';subst e1;cases e1';rw[h1]at h1';cases h1';rw[h5]at h5';have e2:Bt.pls os e=Bt.pls os e':=by
  have :=aW h5'
  injection this
 obtain⟨p,hp,ep⟩:=hs;have hm:V.int (p:Int)∈Bt.pls os e:=by
  rw[BB];exact ay.mpr ⟨p,qo.mpr ⟨hp,ep⟩,rfl⟩
 rw[e2,BB]at hm;obtain⟨p',hp',e3⟩:=ay.mp hm;have :p'=p:=by
  injection e3 with e3;omega
 subst this;exact ep.symm.trans (qo.mp hp').2
noncomputable def tl(ts:List (Nat×Int))(p:Nat):Option Int:=(ts.find? fun q=>decide (q.1=p)).map (·.2)
noncomputable def pv(base:Nat->V)(ts:List (Nat×Int))(p:Nat):V:=match tl ts p with |some e=>.int e|none=>base p
theorem CA(h:p∉ts.map (·.1)):tl ts p=none:=by
 unfold tl;rw[iA.mpr fun q hq z=>h (ay.mpr ⟨q,hq,of_decide_eq_true z⟩)];rfl
theorem tl_some(h:p∈ts.map (·.1)):∃q∈ts,q.1=p/\tl ts p=some q.2:=by
 unfold tl;cases c:ts.find? (fun q=>decide (q.1=p))with
 |none=>
  obtain⟨q,hq,e⟩:=ay.mp h;exact absurd (decide_eq_true e) (iA.mp c q hq)
 |some q=>exact⟨q,AZ c,by have :=List.find?_some c;simpa using this,rfl⟩
theorem pv_snoc{base:Nat->V}{q:Nat×Int}(h:q.1∉ts.map (·.1)):pv base (ts++[q]) q.1=.int q.2/\∀p,p≠q.1->pv base (ts++[q]) p=pv base ts p:=by
 constructor
 ·unfold pv tl
  rw[List.find?_append];have :=CA h;unfold tl at this;rw[Ba.mp this];simp
 ·intro p hp
  unfold pv tl;rw[List.find?_append,fM,decide_eq_false (fun z=>hp z.symm),List.find?_nil,Option.or_none]
noncomputable def lI(S:List (List Int))(f:Nat->Int)(ps os:List Nat)(e:Nat):Bool:=decide (Bt.gN f ps os e∈S)||decide (Bt.gN f ps os (ps.getD e 0)∈S)
noncomputable def fv(v:List Int)(D:Nat->Bool)(p:Nat):V:=if D p=true then .non else .int (v.getD p 0)
theorem Ap{v:List Int}{D D':Nat->Bool}(h:D p=D' p):fv v D p=fv v D' p:=by unfold fv;rw[h]
theorem fv_t{v:List Int}{D:Nat->Bool}(h:D p=true):fv v D p=.non:=by unfold fv;rw[h];rfl
theorem fv_f{v:List Int}{D:Nat->Bool}(h:¬D p=true):fv v D p=.int (v.getD p 0):=by unfold fv;rw[if_neg h]
section
variable {G:Gam}{K:ah}
theorem wp_fi_3{E:XS}{D:Ends}{H4:Hp}{br lf lr r1 r2 r3:Addr}{us:List V}{S:List (List Int)}{f:Nat->Int}{ps os:List Nat}{e:Nat}{v x y:List Int}{D0:Nat->Bool}{u8 u9:Option V}(nlr:H1 lr=none)(s4:aL H1 H4)(e4:H4 lr=some (.lst ((aw os.length).map (fv v D0))))(elf:H1 lf=some (.lst us))(pu:Paired (NdV K H1) us S)
  (n60:os.length<=60)(h1:H1 r1=some (.tup (x.map V.int)))(h2:H1 r2=some (.tup (y.map V.int)))(h3:H1 r3=some (.tup (Bt.pls os e)))(hxy:(x=Bt.gN f ps os e/\y=Bt.gN f ps os (ps.getD e 0))\/(x=Bt.gN f ps os (ps.getD e 0)/\y=Bt.gN f ps os e))
  (hD:∀H' v8,aL H1 H'->H' lr=some (.lst ((aw os.length).map (fv v fun p=>D0 p||(decide (p∈plN os e)&&lI S f ps os e))))->D.nx [some (.ref nl),some (.ref br),some (.ref l),some (.ref lf),some (.ref lr),some (.ref r1),some (.ref r2),some (.ref r3),v8,u9] H'):
  R.wpS G K E (.forr (.name 8) (.seq (.var 7))
  (.cons (.iff (.or (.cmp .In (.var 5) (.var 3)) (.cmp .In (.var 6) (.var 3)))
  (.cons (.asg (.sub (.var 4) (.var 8)) (.con .none))
  .nil)
  .nil)
  .nil)) D [some (.ref nl),some (.ref br),some (.ref l),some (.ref lf),some (.ref lr),some (.ref r1),some (.ref r2),some (.ref r3),u8,u9] H4:=by
 have hl:(plN os e).length<=60:=by
  unfold plN;refine aR (eK _ _) ?_;rw[aO];exact n60
 rw[BB]at h3;change H1 r3=some (.tup (Bt.iN (plN os e)))at h3;walk_at "wp";refine fQ (j4 rfl (SqT.of (s4 _ _ h3)) ?_);refine fm (pW (xs:=Bt.iN (plN os e))) (fun j σ H'=>aL H1 H'/\H' lr=some (.lst ((aw os.length).map (fv v fun p=>D0 p||(decide (p∈(plN os e).take j)&&lI S f ps os e))))/\∃v8,σ=[some (.ref nl),some (.ref br),some (.ref l),some (.ref lf),some (.ref lr),some (.ref r1),some (.ref r2),some (.ref r3),v8,u9])
  ⟨s4,by simpa using e4,u8,rfl⟩ (fun _ _ _ _ h=>SqT.of (h.1 _ _ h3)) ?_ ?_
 ·rintro j z σ H5 H6 D2 hj ⟨s5,e5,v8,rfl⟩ hz s6 hD2 _
  rw[Bt.cK]at hj;rw[Bt.oA hj]at hz;cases hz;have s06:=s5.trans s6;have e6:=s6 _ _ e5;have pj:(plN os e).getD j 0∈plN os e:=by rw[ae,aa hj];exact a9 hj
  have plt:=(qo.mp pj).1;have et:(plN os e).take (j+1)=(plN os e).take j++[(plN os e).getD j 0]:=by rw[cB,ae,aa hj];rfl
  have mt:∀p,p∈(plN os e).take (j+1)↔p∈(plN os e).take j\/p=(plN os e).getD j 0:=fun p=>by rw[et,cP,a6]
  generalize(plN os e).getD j 0=p0 at plt et mt⊢;have no:lI S f ps os e=false->D2.nx [some (.ref nl),some (.ref br),some (.ref l),some (.ref lf),some (.ref lr),some (.ref r1),some (.ref r2),some (.ref r3),some (.int (p0:Int)),u9] H6:=fun c=>by
   refine hD2 _ _ ⟨s06,?_,_,rfl⟩;rw[e6];simp only[c,iU,mf]
  have yes:lI S f ps os e=true->C2 (.ref lr) (.int (p0:Int)) .non H6 fun H3=>D2.nx [some (.ref nl),some (.ref br),some (.ref l),some (.ref lf),some (.ref lr),some (.ref r1),some (.ref r2),some (.ref r3),some (.int (p0:Int)),u9] H3:=fun c=>by
   refine setW (G:=fv v fun p=>D0 p||(decide (p∈(plN os e).take (j+1))&&lI S f ps os e)) e6 plt ?_ ?_ ?_
   ·refine fv_t ?_
    show(D0 p0||(decide (p0∈(plN os e).take (j+1))&&lI S f ps os e))=true;rw[c,Bool.and_true,decide_eq_true ((mt p0).mpr (.inr rfl)),oa]
   ·intro p hp
    have :decide (p∈(plN os e).take (j+1))=decide (p∈(plN os e).take j):=by
     rw[bF,decide_eq_true_eq,decide_eq_true_eq,mt];exact⟨fun z=>z.resolve_right hp,.inl⟩
    exact Ap (by show(D0 p||(decide (p∈(plN os e).take (j+1))&&_))=_;rw[this])
   ·exact hD2 _ _ ⟨dG s06 nlr,ao,_,rfl⟩
  have pu6:Paired (NdV K H6) us S:=Paired.mM pu fun _ _ h=>h.same s06;walk_at "wp";refine yE (SqL.of (s06 _ _ elf)) pu6 ⟨r1,rfl,SqT.of (s06 _ _ h1)⟩ ⟨_,rfl,?_⟩;have hh:lI S f ps os e=(decide (x∈S)||decide (y∈S)):=by
   unfold lI;rcases hxy with⟨rfl,rfl⟩ |⟨rfl,rfl⟩
   ·rfl
   ·rw[Bool.or_comm]
  by_cases c1:x∈S
  ·rw[decide_eq_true c1,if_pos rfl]
   have c:lI S f ps os e=true:=by rw[hh,decide_eq_true c1];rfl
   first |exact yes c| (rw[if_pos trivial];exact yes c)
  ·rw[decide_eq_false c1,if_neg ak]
   refine yE (SqL.of (s06 _ _ elf)) pu6 ⟨r2,rfl,SqT.of (s06 _ _ h2)⟩ ⟨_,rfl,?_⟩;by_cases c2:y∈S
   ·rw[decide_eq_true c2,if_pos rfl]
    exact yes (by rw[hh,decide_eq_true c2,oa])
   ·rw[decide_eq_false c2,if_neg ak]
    exact no (by rw[hh,decide_eq_false c1,decide_eq_false c2];rfl)
 ·rintro σ H5 ⟨s5,e5,v8,rfl⟩
  rw[Bt.cK,c7]at e5;exact hD _ _ s5 e5
noncomputable def spFi(K:ah):Sp:=fun vs H Q _=>∃(nl br l:Addr)(ws zs bs:List V)(m:Nat)(vf:Nat->Nat)(f:Nat->Int)(ps os:List Nat)(ts:List (Nat×Int)),vs=[.ref nl,.ref br,.ref l]/\SqL K H nl ws/\Paired (NdV K H) ws (M8.mC (M8.nds (Bt.rws m vf f ps os) os.length))/\H br=some (.lst bs)/\Bt.Bx H bs m vf f ps os/\Bm.Bk f (Bt.fn os) (Bt.fn ps) os.length ps.length (Bt.rws m vf f ps os)/\Tls H l zs ts/\Vt os.length ts/\stn (Bt.rws m vf f ps os) os.length ts≠[]/\os.length<=60/\
 ∀H' p,aL H H'->H' p=some (.tup (knw (Bt.rws m vf f ps os) os.length ts))->Q (.ref p) H'
theorem wp_fi(g1:G.fn "_law_stands" 2=some (spSd K,[])):Sat G K (spFi K) sL sv:=by
 rintro vs H Q E ⟨nl,br,l,ws,zs,bs,m,vf,f,ps,os,ts,rfl,hw,pn,hbr,bx,bk,d,vt,sne,n60,q⟩;generalize hrows:Bt.rws m vf f ps os=rows at pn bk sne q;have tb:=bk.tb;have mem:=M9.mB (M8.jx tb);have nlen:(M8.mC (M8.nds rows os.length)).length<=61:=by
  have :=M9.yt rows os.length
  rw[mem.length_eq];omega
 have tln:=vt.len;have zl:zs.length=ts.length:=K83.gI d.pr;unfold sL;change wpB G K _ _ _ [some (.ref nl),some (.ref br),some (.ref l),none,none,none,none,none,none,none] H;walk_at "wp";refine⟨_,_,g1,nl,l,os.length,ws,zs,_,ts,rfl,hw,pn,(fun v hv=>((M8.fw tb).mp (mem.mem_iff.mp hv)).1.1),nlen,d,vt,n60,fun H1 lf us s1 nlf elf pu=>?_⟩;have pu:Paired (NdV K H1) us (stn rows os.length ts):=pu;obtain⟨v0,hv0⟩:∃v0,(stn rows os.length ts)[0]? =some v0:=by
  cases c:stn rows os.length ts with
  |nil=>exact absurd c sne
  |cons a r=>exact⟨a,rfl⟩
 have hd0:(stn rows os.length ts).headD []=v0:=by
  cases c:stn rows os.length ts with
  |nil=>exact absurd c sne
  |cons a r=>rw[c]at hv0;cases hv0;rfl
 have v0l:v0.length=os.length:=(CD tb (aD hv0)).1.1.1;have ul:0<us.length:=by rw[K83.gI pu];exact(aC.mp hv0).1
 obtain⟨v1,hv1,b0,eb,hb0⟩:=i4 pu (aa ul);obtain rfl:v1=v0:=aW (hv1.symm.trans hv0);unfold oS;walk_at "wp";refine .inl ⟨lf,us,0,_,rfl,rfl,SqL.of elf,cG (j:=0) (aa ul),?_⟩;rw[eb];refine⟨b0,_,rfl,.inr hb0,fun lr hlr=>?_⟩;have er0:v1.map V.int=(aw os.length).map fun p=>V.int (v1.getD p 0):=by
  apply bg
  ·simp[v0l]
  ·intro i h1 h2
   rw[ai]at h1;rw[aY,aY,eF,ae,aa h1];rfl
 have s2:aL H1 (upd H1 lr (.lst (v1.map V.int))):=ax hlr;have e2:upd H1 lr (.lst (v1.map V.int)) lr=some (.lst (v1.map V.int)):=ao;rw[er0]at s2 e2⊢;generalize upd H1 lr (.lst ((aw os.length).map fun p=>V.int (v1.getD p 0)))=H2 at s2 e2⊢;have nlr:H lr=none:=s1.free hlr;obtain⟨es,pe⟩:=choose (P:=fun z e=>1<=e/\e<ps.length/\Bt.BrV H f ps os z e) bx.br;have esl:bs.length=es.length:=K83.gI pe;have bl:=bx.bl;have hbr1:=s1 _ _ hbr;have own_in:∀p,p<os.length->(os.getD p 0∈es↔1<=os.getD p 0):=fun p hp=>by
  constructor
  ·intro h
   obtain⟨j,hj⟩:=bJ.mp h;obtain⟨z,_,h1,_⟩:=K83.wO (F:=fun e z=>1<=e/\e<ps.length/\Bt.BrV H f ps os z e) (G4 esl.symm fun j a b e1 e2=>by
    obtain⟨e',h1,h2⟩:=K83.wO pe e2;rw[e1]at h1;cases h1;exact h2) hj
   exact h1
  ·intro h
   obtain⟨z,hz,hb⟩:=bx.all _ h (bx.ow p hp);obtain⟨j,hj⟩:=bJ.mp hz;obtain⟨e',h1,_,_,h2⟩:=K83.wO pe hj;rw[brv_one hb h2 ⟨p,hp,rfl⟩];exact aD h1
 generalize hS:stn rows os.length ts=S at pu hv0 hd0 hv1 sne;unfold oR;walk_at "wp";refine fQ (b7 rfl (SqL.of (s2 _ _ hbr1)) ?_);refine fm (cX (xs:=bs)) (fun i σ H'=>aL H1 H'/\H' lr=some (.lst ((aw os.length).map (fv v1 fun p=>decide (os.getD p 0∈es.take i)&&lI S f ps os (os.getD p 0))))/\∃u5 u6 u7 u8 u9,σ=[some (.ref nl),some (.ref br),some (.ref l),some (.ref lf),some (.ref lr),u5,u6,u7,u8,u9])
  ⟨s2,by rw[e2];simp[fv],none,none,none,none,none,rfl⟩ (fun _ _ _ _ h=>SqL.of (h.1 _ _ hbr1)) ?_ ?_
 ·rintro i z σ H3 H4 D2 hi ⟨s3,e3,u5,u6,u7,u8,u9,rfl⟩ hz s4 hD2 _
  have s14:=s3.trans s4;obtain⟨e,he,e1,eN,b,r1,r2,r3,x,y,rfl,h0,h1,h2,hxy,h3⟩:=K83.wO pe hz;walk_at "wp";refine⟨b,_,rfl,SqT.of (s14 _ _ (s1 _ _ h0)),rfl,_,_,rfl,_,_,rfl,_,_,rfl,rfl,?_⟩;refine wp_fi_3 (G:=G) (E:=fun _=>E) (D0:=fun p=>decide (os.getD p 0∈es.take i)&&lI S f ps os (os.getD p 0)) hlr s14 (s4 _ _ e3) elf pu n60 (s1 _ _ h1) (s1 _ _ h2) (s1 _ _ h3) hxy fun H' v8 s' e'=>?_;refine hD2 _ _ ⟨s',?_,_,_,_,_,_,rfl⟩;rw[e'];have et:es.take (i+1)=es.take i++[e]:=by rw[cB,he];rfl
  congr 2
  refine bE fun p hp=>?_;have hp:=aK.mp hp;have :(decide (os.getD p 0∈es.take i)&&lI S f ps os (os.getD p 0)||(decide (p∈plN os e)&&lI S f ps os e))=(decide (os.getD p 0∈es.take (i+1))&&lI S f ps os (os.getD p 0)):=by
   by_cases c:os.getD p 0=e
   ·rw[decide_eq_true (qo.mpr ⟨hp,c⟩),c,et,decide_eq_true (show e∈es.take i++[e] by simp)]
    cases decide (e∈es.take i)<;>cases lI S f ps os e<;>rfl
   ·rw[decide_eq_false (fun z=>c (qo.mp z).2),cW,mf]
    congr 1
    rw[bF,decide_eq_true_eq,decide_eq_true_eq,et,cP,a6];exact⟨.inl,fun z=>z.resolve_right c⟩
  exact Ap this
 ·rintro σ H3 ⟨s3,e3,u5,u6,u7,u8,u9,rfl⟩
  rw[esl,c7]at e3;have d1:=d.same s1;unfold oQ;walk_at "wp";generalize hbase:fv v1 (fun p=>decide (os.getD p 0∈es)&&lI S f ps os (os.getD p 0))=base at e3;refine fQ (b7 rfl (SqL.of (s3 _ _ d1.hl)) ?_);refine fm (cX (xs:=zs)) (fun i σ H'=>aL H1 H'/\H' lr=some (.lst ((aw os.length).map (pv base (ts.take i))))/\∃u5 u6 u7 u8 u9,σ=[some (.ref nl),some (.ref br),some (.ref l),some (.ref lf),some (.ref lr),u5,u6,u7,u8,u9])
   ⟨s3,by rw[e3];rfl,_,_,_,_,_,rfl⟩ (fun _ _ _ _ h=>SqL.of (h.1 _ _ d1.hl)) ?_ ?_
  ·rintro i z σ H4 H5 D2 hi ⟨s4,e4,u5,u6,u7,u8,u9,rfl⟩ hz s5 hD2 _
   have s15:=s4.trans s5;obtain⟨t,ht,a,rfl,ha⟩:=i4 d1.pr hz;have hn:=(vt.ok t (aD ht)).1;have et:ts.take (i+1)=ts.take i++[t]:=by rw[cB,ht];rfl
   have nin:t.1∉(ts.take i).map (·.1):=fun z=>by
    have hnd:=vt.nd;rw[<-List.take_append_drop (i+1) ts,et,cQ,cQ]at hnd;have :=(dm.mp (dm.mp hnd).1).2.2;exact this t.1 z t.1 (by simp) rfl
   obtain⟨p1,p2⟩:=pv_snoc (base:=base) nin;walk_at "wp";refine⟨a,_,rfl,SqT.of (s15 _ _ ha),rfl,_,_,rfl,_,_,rfl,rfl,?_⟩;refine setW (G:=pv base (ts.take i++[t])) (s5 _ _ e4) hn p1 p2 (hD2 _ _ ⟨dG s15 hlr,by rw[et];exact ao,_,_,_,_,_,rfl⟩)
  ·rintro σ H4 ⟨s4,e4,u5,u6,u7,u8,u9,rfl⟩
   rw[zl,c7]at e4;unfold oP;walk_at "wp";refine⟨lr,_,rfl,.inl ⟨SqL.of e4,fun r hr=>?_⟩⟩;refine q _ r (s1.trans (s4.trans (ax hr))) ?_;rw[ao];congr 2;unfold knw;refine bE fun p hp=>?_;have hp:=aK.mp hp;have kw:=HL (rows:=rows) (ts:=ts) hp;by_cases ct:p∈ts.map (·.1)
   ·obtain⟨t,ht,e1,e2⟩:=tl_some ct
    have kt:=K76.HJ (n:=os.length) tb (by rw[hS];exact sne) ht (by rw[e1];exact hp);rw[e1,kw]at kt;rw[kt];unfold pv;rw[e2]
   ·unfold pv
    rw[CA ct,<-hbase];have u:=bk.unk (ts:=ts) hp;rw[hS]at u;rw[hS,hd0];by_cases cu:(p:Int)∈unk rows os.length ts
    ·obtain⟨_,h1,h2⟩:=u.mp cu
     rw[if_pos cu];refine fv_t ?_;show(decide (os.getD p 0∈es)&&lI S f ps os (os.getD p 0))=true;rw[decide_eq_true ((own_in p hp).mpr h1),eB];unfold lI;rw[cw,decide_eq_true_eq,decide_eq_true_eq];exact h2
    ·rw[if_neg cu]
     refine fv_f fun z=>?_;rw[aN,decide_eq_true_eq]at z;apply cu;refine u.mpr ⟨ct,(own_in p hp).mp z.1,?_⟩;have :=z.2;unfold lI at this;rw[cw,decide_eq_true_eq,decide_eq_true_eq]at this;exact this
end
end K62
namespace K62
open PySem R
noncomputable def p_law:List Str:=["_law_script"]
noncomputable def Hy:List Str:=["_law_script","_law_table","_law_nodes_here","_law_branches","_law_tellings_here","_law_handed","_law_found"]
noncomputable def DN:CB:=
  (.cons (.ret (.and (.cmp .Eq (.var 5) (.lst (.cons (.var 1) (.cons (.var 4) .nil)))) (.cmp .Eq (.call "first_read" (.cons (.lrev (.var 1)) (.cons (.lrev (.var 4)) .nil))) (.var 6))))
  .nil)
noncomputable def DO:CB:=
  (.cons (.iff (.cmp .NotEq (.comp ["_law_one"] [] (.name 0) (.seq (.var 6)) (.yes (.and (.cmp .IsNot (.var 0) (.con .none)) (.not (.call "_law_whole" (.cons (.var 0) .nil))))) (.var 0)) (.lst .nil))
  (.cons (.ret (.con (.bool false)))
  .nil)
  .nil)
  DN)
noncomputable def DP:CB:=
  (.cons (.iff (.or (.not (.bfn .isinstance (.cons (.var 6) (.cons (.ty .tuple) .nil)))) (.cmp .NotEq (.var 6) (.call "_law_first" (.cons (.var 2) (.cons (.var 3) (.cons (.var 4) .nil))))))
  (.cons (.ret (.con (.bool false)))
  .nil)
  .nil)
  DO)
noncomputable def DQ:CB:=
  (.cons (.asg (.name 6) (.call "first_read" (.cons (.idx (.var 5) (.con (.int 0))) (.cons (.idx (.var 5) (.con (.int 1))) .nil))))
  DP)
noncomputable def DR:CB:=
  (.cons (.asg (.name 5) (.lst (.cons (.bfn .list (.cons (.var 1) .nil)) (.cons (.bfn .list (.cons (.var 4) .nil)) .nil))))
  DQ)
noncomputable def DS:CB:=
  (.cons (.asg (.name 4) (.call "_law_tellings" (.cons (.var 2) (.cons (.call "_law_cell_at" (.cons (.var 0) (.cons (.con (.int 3)) .nil))) (.cons (.bin .Mod (.call "_law_cell_at" (.cons (.var 0) (.cons (.con (.int 2)) .nil))) (.con (.int 7))) .nil)))))
  DR)
noncomputable def Ja:CB:=
  (.cons (.asg (.tup (.cons (.name 1) (.cons (.name 2) (.cons (.name 3) .nil)))) (.call "_law_built" (.cons (.var 0) (.cons (.con (.int 4)) .nil))))
  DS)
end K62
namespace K62
open PySem PySem.Spec PyProof.Rows L2 R Cp Lt Kc K21 K22 Lm K32 K34 K75
theorem En{ks:List (List Int)}(nd:ks.Nodup)(h:_root_.Q.IntKeys H ys ks):Paired (NdV K H) (_root_.Q.cg .non ks ys) (M8.mC ks):=by
 unfold M8.mC _root_.Q.cg;have lt:∀i∈_root_.Q.uI ks,i<ks.length:=fun i hi=>K83.tM nd hi;generalize _root_.Q.uI ks=o at lt
 induction o with
 |nil=>exact .nil
 |cons i o ih=>
  obtain⟨a,e,f⟩:=Bt.Dy h i (lt i (.head _));refine .cons ⟨a,?_,SqT.of f⟩ (ih fun j hj=>lt j (.tail _ hj));show ys.getD i V.non=V.ref a;rw[ae,e];rfl
theorem CZ:∀{ks:List V},(∀k∈ks,k=.non\/∃i:Int,k=.int i)->eI K H (ks.map K02.rdD) ks/\eP (ks.map K02.rdD)=0
 | [],_=>⟨rfl,rfl⟩
 |k::ks,h=>by
  have i:eI K H (ks.map K02.rdD) ks/\eP (ks.map K02.rdD)=0:=CZ fun z hz=>h z (.tail _ hz);obtain⟨a,b⟩:=i;rcases h k (.head _)with rfl|⟨i,rfl⟩
  ·exact⟨⟨_,_,rfl,rfl,a⟩,by show max 0 (eP (ks.map K02.rdD))=0;rw[b];rfl⟩
  ·exact⟨⟨_,_,rfl,rfl,a⟩,by show max 0 (eP (ks.map K02.rdD))=0;rw[b];rfl⟩
theorem BV:∀k∈knw rows n ts,k=.non\/∃i:Int,k=.int i:=fun k hk=>by
 unfold knw at hk;obtain⟨p,_,rfl⟩:=ay.mp hk;split
 ·exact .inl rfl
 ·exact .inr ⟨_,rfl⟩
theorem IU{ks:List V}(h:∀k∈ks,k=.non\/∃i:Int,k=.int i)(ha:H a=some (.tup ks))(hb:H b=some (.tup ks)){Q:VK}:(Q (.bl true) H->gh K .Eq (.ref a) (.ref b) H Q)/\(Q (.bl false) H->gh K .NotEq (.ref a) (.ref b) H Q):=by
 obtain⟨r1,r2⟩:=CZ (K:=K) (H:=H) h;have hg:hgt (.tup (ks.map K02.rdD))<=30:=by show eP (ks.map K02.rdD)+1<=30;rw[r2];decide
 constructor
 ·intro q
  refine⟨.tup (ks.map K02.rdD),.tup (ks.map K02.rdD),⟨a,_,rfl,SqT.of ha,r1⟩,⟨b,_,rfl,SqT.of hb,r1⟩,hg,?_⟩;rw[mP];exact q
 ·intro q
  refine⟨.tup (ks.map K02.rdD),.tup (ks.map K02.rdD),⟨a,_,rfl,SqT.of ha,r1⟩,⟨b,_,rfl,SqT.of hb,r1⟩,hg,?_⟩;rw[mP];exact q
theorem pr_rev{α β:Type}{F:α->β->Prop}{l:List α}{m:List β}(p:Paired F l m):Paired F l.reverse m.reverse:=by
 induction p with
 |nil=>exact .nil
 |cons h t ih=>
  rw[iQ,iQ];exact K32.Paired.snoc h ih
theorem rdT_rev(ts:List (Nat×Int)):rdT ts.reverse=rdT ts:=by
 funext v
 unfold rdT;rw[List.all_reverse]
theorem xM(rows:List (List Int))(n:Nat)(ts:List (Nat×Int)):stn rows n ts.reverse=stn rows n ts:=by
 unfold stn;rw[rdT_rev]
theorem knw_rev(t:M7.Tbl rows n):knw rows n ts.reverse=knw rows n ts:=by
 unfold knw;refine bE fun p hp=>?_;have hp:=aK.mp hp;have e:(p:Int)∈unk rows n ts.reverse↔(p:Int)∈unk rows n ts:=by
  rw[K74.pS t hp,K74.pS t hp,xM];simp only[mr,c8]
 rw[xM];by_cases c:(p:Int)∈unk rows n ts
 ·rw[if_pos c,if_pos (e.mpr c)]
 ·rw[if_neg c,if_neg fun z=>c (e.mp z)]
theorem Hu{α:Type}{l:List α}(h:l.Nodup):l.reverse.Nodup:=(List.reverse_perm l).nodup_iff.mpr h
theorem Vt_rev(v:Vt n ts):Vt n ts.reverse:=⟨fun q hq=>v.ok q (c8.mp hq),by rw[mr];exact Hu v.nd⟩
theorem CV(cs:List V):((aw cs.length).reverse.map fun i=>cs.getD i V.non)=cs.reverse:=by
 rw[mr];congr 1;apply bg
 ·simp
 ·intro i h1 h2
  simp[h2]
section
variable {G:Gam}{K:ah}{T:Tb}
theorem tn_rev{t:Addr}(d:Tn H t nf n cs rows)(s:aL H H2)(el:H2 l=some (.lst cs.reverse)):∃nf2 rows2,Tn H2 l nf2 n cs.reverse rows2/\∀r,r∈rows↔r∈rows2:=by
 rw[<-CV]at el;have h:=K74.Tn_pick d s (ix:=(aw cs.length).reverse) (fun i hi=>aK.mp (c8.mp hi)) (Hu mq) el;rw[CV]at h;refine⟨_,_,h,fun r=>?_⟩;constructor
 ·intro hr
  obtain⟨i,hi⟩:=bJ.mp hr;have hil:=(aC.mp hi).1;exact ay.mpr ⟨i,c8.mpr (aK.mpr (by rw[<-d.ln];exact hil)),by rw[ae,hi];rfl⟩
 ·intro hr
  obtain⟨i,hi,rfl⟩:=ay.mp hr;exact d.get (aK.mp (c8.mp hi))
structure G62(G:Gam)(K:ah)(T:Tb):Prop where
 gc:G.fn "_law_cell_at" 2=some (uv K,[])
 gb:G.fn "_law_built" 2=some (Bt.xV K,[])
 gt:G.fn "_law_tellings" 3=some (spTl K,[])
 gf:G.fn "first_read" 2=some (spFr K T,[])
 gi:G.fn "_law_first" 3=some (spFi K,[])
 gw:G.fn "_law_whole" 1=some (spB isWhole,[])
noncomputable def Gn(K:ah)(T:Tb):Sp:=fun vs H Q _=>∃(a:Addr)(ns:List Int),vs=[.ref a]/\SqL K H a (ns.map V.int)/\ns.length<=63/\Tab T H/\∀H',Q (.bl true) H'
theorem wp_law(g:G62 G K T):Sat G K (Gn K T) Ja Hy:=by
 rintro vs H Q E ⟨a,ns,rfl,ha,h63,tb,qq⟩;unfold Ja;change wpB G K _ _ _ [some (.ref a),none,none,none,none,none,none] H;walk_at "wp";refine⟨_,_,g.gb,a,ns,4,rfl,ha,h63,by decide,fun H1 p t nl br cs ys bs nf vf f ps os s1 ep B n1 n31 ndn ik enl ebr bx=>?_⟩;refine⟨p,_,rfl,SqT.of ep,rfl,_,_,rfl,_,_,rfl,_,_,rfl,rfl,?_⟩;have bk:=B.bk bx;have tn:=B.tn;have ne:=B.ne;have tbl:=bk.tb;have ol:=B.n60;have pn:Paired (NdV K H1) (_root_.Q.cg .non (Bt.nds f ps os) ys) (M8.mC (M8.nds (Bt.rws cs.length vf f ps os) os.length)):=by
  rw[bk.sorted];exact En ndn ik
 generalize hrows:Bt.rws cs.length vf f ps os=rows at bk tn tbl pn;generalize _root_.Q.cg .non (Bt.nds f ps os) ys=ws at enl pn;have mem:=M9.mB (M8.jx tbl);have nlen:(M8.mC (M8.nds rows os.length)).length<=61:=by
  have :=M9.yt rows os.length
  rw[mem.length_eq];omega
 have nne:M8.mC (M8.nds rows os.length)≠[]:=fun z=>by
  have h:=mem.mem_iff.mpr ((M8.fw tbl).mpr (bk.fits (show 0<ps.length by omega)));rw[z]at h;cases h
 unfold DS;walk_at "wp";refine⟨_,_,g.gt,_,_,g.gc,a,ns,3,rfl,s1.seq ha,_,_,g.gc,a,ns,2,rfl,s1.seq ha,hW.mpr ⟨by decide,?_⟩⟩;have i0:0<=ns.getD 2 0%7:=cy _ (by decide);have i1:ns.getD 2 0%7<7:=bU _ (by decide);obtain⟨m,hm⟩:=bY i0;rw[hm]at i1⊢;refine⟨nl,_,m,os.length,ws,_,rfl,SqL.of enl,pn,nne,nlen,(fun v hv=>((M8.fw tbl).mp (mem.mem_iff.mp hv)).1),ol,by omega,fun H2 l zs ts v s2 nl2 d vt hv hr=>?_⟩;have sne:stn rows os.length ts≠[]:=fun z=>by
  have h:v∈stn rows os.length ts:=bR.mpr ⟨hv,hr⟩;rw[z]at h;cases h
 have s12:=s1.trans s2;unfold DR;walk_at "wp";refine⟨t,cs,rfl,.inl (SqL.of (s2 _ _ B.et)),fun hT hhT=>⟨l,zs,rfl,.inl (SqL.of (ax hhT _ _ d.hl)),fun hL hhL=>⟨short (by simp),fun hO hhO=>?_⟩⟩⟩;have s3:=ax (o:=.lst cs) hhT;have f3:upd H2 hT (.lst cs) hT=some (.lst cs):=ao;generalize upd H2 hT (.lst cs)=H3 at s3 f3 hhL hhO⊢;have s4:=ax (o:=.lst zs) hhL;have f4:upd H3 hL (.lst zs) hL=some (.lst zs):=ao;generalize upd H3 hL (.lst zs)=H4 at s4 f4 hhO⊢;have s5:=ax (o:=.lst [V.ref hT,V.ref hL]) hhO;have f5:upd H4 hO (.lst [V.ref hT,V.ref hL]) hO=some (.lst [V.ref hT,V.ref hL]):=ao;generalize upd H4 hO (.lst [V.ref hT,V.ref hL])=H5 at s5 f5⊢;have s25:=s3.trans (s4.trans s5);have s15:=s2.trans s25;have tn5:=tn.same s15;have d5:=d.same s25;have eT:=(s4.trans s5) _ _ f3;have eL:=s5 _ _ f4;have tnT:Tn H5 hT nf os.length cs rows:={tn5 with et:=eT};have dL:Tls H5 hL zs ts:=⟨eL,d5.pr⟩;have tb5:=(Gr.of (T:=T) (s1.trans s15)).tab tb;unfold DQ;walk_at "wp";refine⟨_,_,g.gf,.inl ⟨hO,_,0,_,rfl,rfl,SqL.of f5,rfl,.inl ⟨hO,_,1,_,rfl,rfl,SqL.of f5,rfl,hT,hL,nf,os.length,cs,zs,rows,ts,rfl,tnT,ne,tb5,dL,vt,sne,fun H6 p6 gr6 h6=>?_⟩⟩⟩;have tb6:=gr6.tab tb5;unfold DP;walk_at "wp";refine K02.isi_tup h6 ⟨true,rfl,?_⟩;rw[if_neg (by decide)];have gr16:Gr T H1 H6:=(Gr.of s15).trans gr6;have tb1:=(Gr.of (T:=T) s1).tab tb;have tk16:K32.Tk H1 H6:=fun a xs e=>gr16.t8 tb1 e;have bx6:Bt.Bx H6 bs cs.length vf f ps os:={bx with br:=fun z hz=>let⟨e,h1,h2,h3⟩:=bx.br z hz;⟨e,h1,h2,h3.tk tk16⟩,all:=fun e h1 h2=>let⟨z,hz,h3⟩:=bx.all e h1 h2;⟨z,hz,h3.tk tk16⟩};have pn6:Paired (NdV K H6) ws (M8.mC (M8.nds (Bt.rws cs.length vf f ps os) os.length)):=by rw[hrows];exact Paired.mM pn fun _ _ ⟨b,e,h⟩=>⟨b,e,gr16.tup tb1 h⟩
 have d6:=d5.gr gr6 tb5;refine⟨_,_,g.gi,nl,br,l,ws,zs,bs,cs.length,vf,f,ps,os,ts,rfl,SqL.of (gr16.lst tb1 enl),pn6,gr16.lst tb1 ebr,bx6,by rw[hrows];exact bk,d6,vt,by rw[hrows];exact sne,ol,fun H7 p7 s7 h7=>?_⟩;rw[hrows]at h7;have h67:=s7 _ _ h6;refine(IU BV h67 h7).2 ⟨false,rfl,?_⟩;rw[if_neg ak];have kl:(knw rows os.length ts).length=os.length:=by unfold knw;rw[ai,aO]
 unfold DO;walk_at "wp";refine cS (j4 rfl (SqT.of h67) (nS (xs:=knw rows os.length ts) pW (dA (by omega)) (fun H8 s8=>SqT.of (s8 _ _ h67)) (fun _=>false) id (fun τ=>∃u,τ=[u]) ⟨none,rfl⟩ ?_ ?_))
 ·rintro x τ H8 Rt Rf hx ⟨u,rfl⟩ s8 kt kf
  rcases BV x hx with rfl|⟨i,rfl⟩
  ·walk_at "wp"
   rw[if_neg (by decide),if_neg ak];exact kf _ _ ⟨_,rfl⟩ (aL.refl _) rfl
  ·walk_at "wp"
   rw[if_pos (by simp)];refine⟨_,_,g.gw,.int i,rfl,uZ,fun H9 s9=>⟨true,rfl,?_⟩⟩;rw[if_neg (by decide)];exact kf _ _ ⟨_,rfl⟩ s9 rfl
 ·intro H8 l8 s8 hl8
  rw[n8.mpr (fun _ _ z=>ak z),j6];refine⟨aX _,fun p9 hp9=>?_⟩;have s9:=ax (o:=.lst []) hl8;have f9:upd H8 l8 (.lst []) l8=some (.lst []):=ao;generalize upd H8 l8 (.lst [])=H9 at s9 f9 hp9⊢;have s10:=ax (o:=.lst []) hp9;have f10:upd H9 p9 (.lst []) p9=some (.lst []):=ao;generalize upd H9 p9 (.lst [])=H10 at s10 f10⊢;refine⟨.lst [],.lst [],⟨l8,[],rfl,SqL.of (s10 _ _ f9),rfl⟩,⟨p9,[],rfl,SqL.of f10,rfl⟩,by decide,_,rfl,?_⟩;rw[mP,if_neg (by decide)];have s710:=s8.trans (s9.trans s10);have gr510:Gr T H5 H10:=gr6.trans (Gr.of (s7.trans s710));have tn10:=tn5.gr gr510 tb5;have d10:=d5.gr gr510 tb5;have eT10:=gr510.lst tb5 eT;have eL10:=gr510.lst tb5 eL;have f510:=gr510.lst tb5 f5;have h610:=s710 _ _ h67;have tb10:=gr510.tab tb5;unfold DN;walk_at "wp";refine⟨short (by simp),fun p11 hp11=>?_⟩;have s11:=ax (o:=.lst [V.ref t,V.ref l]) hp11;have f11:upd H10 p11 (.lst [V.ref t,V.ref l]) p11=some (.lst [V.ref t,V.ref l]):=ao;generalize upd H10 p11 (.lst [V.ref t,V.ref l])=H11 at s11 f11⊢;have tn11:=tn10.same s11;have d11:=d10.same s11;obtain⟨ds,r1,r2⟩:=si (K:=K) (H:=H11) cs tn11.tab.2.2.1;have rt:=x8 (K:=K) d11.pr;have ht:=yG ts;have dat:∀{x a b:Addr},H11 x=some (.lst [V.ref a,V.ref b])->H11 a=some (.lst cs)->H11 b=some (.lst zs)->Rep K H11 (.lst [.lst ds,.lst (ts.map fun q=>L2.D.tup [.int q.1,.int q.2])]) (.ref x):=fun{x a b} hx ha hb=>⟨x,_,rfl,SqL.of hx,_,_,rfl,⟨a,_,rfl,SqL.of ha,r1⟩,_,_,rfl,⟨b,_,rfl,SqL.of hb,rt⟩,rfl⟩;refine⟨_,_,dat (s11 _ _ f510) (s11 _ _ eT10) (s11 _ _ eL10),dat f11 tn11.et d11.hl,?_,?_⟩
  ·show max (eP ds+1) (max (eP _+1) 0)+1<=30
   omega
  rw[mP];refine⟨true,rfl,?_⟩;rw[if_pos rfl];refine⟨_,_,g.gf,_,rfl,t,cs,rfl,SqL.of tn11.et,fun t2 ht2=>⟨_,rfl,l,zs,rfl,SqL.of (ax ht2 _ _ d11.hl),fun l2 hl2=>?_⟩⟩;have s12':=ax (o:=.lst cs.reverse) ht2;have f12:upd H11 t2 (.lst cs.reverse) t2=some (.lst cs.reverse):=ao;generalize upd H11 t2 (.lst cs.reverse)=H12 at s12' f12 hl2⊢;have s13:=ax (o:=.lst zs.reverse) hl2;have f13:upd H12 l2 (.lst zs.reverse) l2=some (.lst zs.reverse):=ao;generalize upd H12 l2 (.lst zs.reverse)=H13 at s13 f13⊢;have s1113:=s12'.trans s13;obtain⟨nf2,rows2,tn2,same⟩:=tn_rev tn11 s1113 (s13 _ _ f12);have ne2:cs.reverse≠[]:=fun z=>ne (List.reverse_eq_nil_iff.mp z);have tbl2:=tn2.tbl ne2;have d13:Tls H13 l2 zs.reverse ts.reverse:=⟨f13,pr_rev (d11.same s1113).pr⟩;have tb13:=(Gr.of (T:=T) (s11.trans s1113)).tab tb10;refine⟨t2,l2,nf2,os.length,cs.reverse,zs.reverse,rows2,ts.reverse,rfl,tn2,ne2,tb13,d13,Vt_rev vt,?_,fun H14 p14 gr14 h14=>?_⟩
  ·rw[xM,<-K74.ui tbl tbl2 same]
   exact sne
  ·rw[knw_rev tbl2,<-K74.HK tbl tbl2 same]at h14
   have h614:=gr14.t8 tb13 ((s11.trans s1113) _ _ h610);exact(IU BV h14 h614).1 (qq _)
end
end K62
set_option maxHeartbeats 0
namespace K62
open PySem PySem.Spec PySem.Calls PyProof.Rows L2 R Cp Lt Lm
theorem DB(h:us.length=4):∃a b c d,us=[a,b,c,d]:=by
 cases us with
 |nil=>exact nomatch h
 |cons a r=>
  obtain⟨b,c,d,e⟩:=Kc.my (js h);exact⟨a,b,c,d,by rw[e]⟩
theorem fP{α β γ δ:Type}{P:α->β->γ->δ->Prop}{q:Prop}(h:∃a b c d,P a b c d)(k:∀a b c d,P a b c d->q):q:=let⟨a,b,c,d,e⟩:=h;k a b c d e
theorem DG(h:us.length=5):∃a b c d e,us=[a,b,c,d,e]:=by
 cases us with
 |nil=>exact nomatch h
 |cons a r=>
  obtain⟨b,c,d,e,f⟩:=DB (js h);exact⟨a,b,c,d,e,by rw[f]⟩
noncomputable def HI(st:Stmt):Pos:=match aZ st with
 |_::.Assign _ (.Call _ _ [⟨_,.Lambda _ _ _ p,_⟩] _) _::_=>p
 |_=>⟨0,0,0,0⟩
noncomputable def tb(p:Addr):Tb:=⟨p,HI (top 18),"table_list.<locals>.<lambda>"⟩
theorem tl_ok:(qa jf pZ (aP (top 18))&&chkK (aP (top 18)) jf ki 1 (.var 0) "copy" (HI (top 18)) kh (aZ (top 18)))=true:=by decide+kernel
theorem tl_q:("table_list":Str)++".<locals>."++"<lambda>"="table_list.<locals>.<lambda>":=by decide+kernel
noncomputable def vals(C kd:Addr):List (Str×V):=[("LETTERS",.str LETTERS),("LONGEST_NAME",.int 8),("MOST_PLACES",.int 60),("MOST_COPIES",.int 40),("NoTable",.ref C),("KINDS",.ref kd)]
theorem tL{i j:Int}{t u:Tok}(l:K.lookup a=some ⟨.type "tuple",od,.seq #[.int i t,.int j u] n,sl⟩)(H:Hp):SqT K H a [.int i,.int j]:=
 .inr ⟨_,_,_,l,rfl,rfl,by show 2<=sizeLine;decide,.cons ⟨t,rfl⟩ (.cons ⟨u,rfl⟩ .nil)⟩
theorem HP{a0 a1 a2 a3:Addr}{n0 n1 n2 n3:Nat}{s1:Array (Option Value)}{t0 t1 t2 t3 u0 u1 u2 u3:Tok}(l:K.lookup kd=some ⟨.type "tuple",od,.seq #[.ref a0,.ref a1,.ref a2,.ref a3] n,sl⟩)
  (l0:K.lookup a0=some ⟨.type "tuple",o0,.seq #[.int 0 t0,.int 0 u0] n0,s0⟩)(l1:K.lookup a1=some ⟨.type "tuple",o1,.seq #[.int 0 t1,.int 1 u1] n1,s1⟩)(l2:K.lookup a2=some ⟨.type "tuple",o2,.seq #[.int 1 t2,.int 0 u2] n2,s2⟩)(l3:K.lookup a3=some ⟨.type "tuple",o3,.seq #[.int 1 t3,.int 1 u3] n3,s3⟩):Kc.Kinds K kd:=
 ⟨a0,a1,a2,a3,fun H=>⟨.inr ⟨_,_,_,l,rfl,rfl,by show 4<=sizeLine;decide,.cons rfl (.cons rfl (.cons rfl (.cons rfl .nil)))⟩,tL l0 H,tL l1 H,tL l2 H,tL l3 H⟩⟩
def y6(K:ah)(x:Str)(st:Stmt)(c p:Addr):Prop:=∃(f:Addr)(oc:Value)(od an:Option Addr)(osl:Array (Option Value))(kV doc pm ct:Value),d7 K bG x=some (some (.ref f))/\
 K.lookup f=some ⟨oc,od,.func (aF x x (bj st) (aZ st) (aP st) .none kV doc pm an (.ref c) ct),osl⟩/\ff K (.ref c) x=true/\cN K (.ref f)=true/\Ju K c p=true
theorem xb{st:Stmt}{p:Addr}{an:Option Addr}{kV:Value}(a:d7 K bG x=some (some (.ref f)))
  (l:K.lookup f=some ⟨oc,od,.func (aF x x (bj st) (aZ st) (aP st) .none kV doc pm an (.ref c) ct),osl⟩)(k:ff K (.ref c) x=true)(q:cN K (.ref f)=true)(h:Ju K c p=true):∃c,y6 K x st c p:=
 ⟨c,f,oc,od,an,osl,kV,doc,pm,ct,a,l,k,q,h⟩
theorem add_fnK{vals:List (Str×V)}{fns:List ((Str×Nat)×(Sp×List V))}{st:Stmt}{ps:List Str}{sp:Sp}{c1:CS}{ce:R.CE}{c2:CB}{T:Tb}{inis:List ((Str×Nat)×(Addr×Sp×List V))}{dics:List (Addr×List (Key×V))}
  (g:GOk P w K mg base (CXx P w) k (gam vals fns inis dics))(X:K.In h)(Xb:K.In base)(Gm:h.Ns bG mg)(d:y6 K x st c T.P)(hc:(qa N ps (aP st)&&chkK (aP st) N c1 i ce lx T.pos c2 (aZ st))=true)(hq:x++".<locals>."++"<lambda>"=T.q)(hb:BM mg base)
  (hbd:∀(p:Pos)(body:Expr)(scope:Scope)(qual:Str)(pm ctv v:Value)(c':Addr),pK (PySem.W.kla_fn "<lambda>" qual (qp lx p) body scope [] pm (.ref c') ctv) ⟨[v],[]⟩=pure [(lx,v)])
  (hba:∀(kV doc pm:Value)(an:Option Addr)(cdv ct:Value)(us:List Value),us.length=ps.length->pK (aF x x (bj st) (aZ st) (aP st) .none kV doc pm an cdv ct) ⟨us,[]⟩=pure (ps.zip us))(len:∀vs H Q E,sp vs H Q E->vs.length=ps.length)
  (hw:∀vs H Q E,sp vs H Q E->vX (R.wpS (gam vals fns inis dics) K (fun _=>E) c1) (vX (xK (ub K T (wpE (gam vals fns inis dics) K (fun _=>E) ce)) (lS i)) (wpB (gam vals fns inis dics) K (fun _=>E) c2)) {nx:=fun _ H'=>Q .non H',rt:=Q} (L2.start N vs) H):
  GOk P w K mg base (CXx P w) (k+1) (gam vals (((x,ps.length),(sp,[]))::fns) inis dics):=by
 rw[aN]at hc;obtain⟨f,oc,od,an,osl,kV,doc,pm,ct,a,l,q1,q2,q3⟩:=d;have F:=B3 l q1 q2;exact g.add (n:=ps.length) (Iq F hc.1 hc.2 rfl (D6 Xb q3) hq hb hbd g len hw) (eQ X Gm a) q2 (F.binds hba) .nil
theorem all_mk{p:Addr}(X:K.In h)(Gm:h.Ns bG mg)(hfa:mg "law"=some (.ref fa)){t1 t2 t3 t4:Tok}
  (v1:d7 K bG "LETTERS"=some (some (.str LETTERS t1)))(v2:d7 K bG "LONGEST_NAME"=some (some (.int 8 t2)))(v3:d7 K bG "MOST_PLACES"=some (some (.int 60 t3)))(v4:d7 K bG "MOST_COPIES"=some (some (.int 40 t4)))(v5:d7 K bG "NoTable"=some (some (.ref C)))(v6:d7 K bG "KINDS"=some (some (.ref kd)))
  (kd0:Kc.Kinds K kd)(bl:∀x∈iW,d7 K bG x=some none)
  (h11:HasFn K "is_whole" (top 11))(h12:HasFn K "is_name" (top 12))(h13:HasFn K "is_reading" (top 13))(h14:HasFn K "are_readings" (top 14))(h15:HasFn K "is_copy" (top 15))(h16:HasFn K "is_table" (top 16))(h17:HasFn K "need_table" (top 17))(h19:HasFn K "place_count" (top 19))(h22:HasFn K "first_of_kinds" (top 22))(h23:HasFn K "clash" (top 23))(h24:HasFn K "refuse_clash" (top 24))(h26:HasFn K "group_at" (top 26))(h27:HasFn K "turned" (top 27))(h28:HasFn K "grown" (top 28))(h29:HasFn K "tree" (top 29))(h31:HasFn K "is_telling" (top 31))(h32:HasFn K "are_tellings" (top 32))(h33:HasFn K "need_tellings" (top 33))(h34:HasFn K "that_read" (top 34))(h36:HasFn K "told_nodes" (top 36))(h37:HasFn K "unknown_places" (top 37))(h38:HasFn K "first_read" (top 38))(h40:HasFn K "_law_cell_at" (top 40))(h41:HasFn K "_law_whole" (top 41))(h42:HasFn K "_law_mixed" (top 42))(h43:HasFn K "_law_owners" (top 43))(h44:HasFn K "_law_grown" (top 44))(h45:HasFn K "_law_nodes" (top 45))(h46:HasFn K "_law_name" (top 46))(h47:HasFn K "_law_copies" (top 47))(h48:HasFn K "_law_built" (top 48))(h49:HasFn K "_law_tellings" (top 49))(h50:HasFn K "_law_bears" (top 50))(h51:HasFn K "_law_stands" (top 51))(h52:HasFn K "_law_first" (top 52))(h18:∃c,y6 K "table_list" (top 18) c p)(h53:HasFn K "law" (top 53)):
  ∃fd:gy,(∀(s:Shared)(v:Value),BindsTo s fd ⟨[v],[]⟩ [("_law_script",v)])/\∀base:Heap,K.In base->base.Ns bG mg->BM mg base->jH P w K mg base CX0 37 fa fd ["_law_script"] (fun vs H Q _=>Gn K (tb p) vs H Q E0):=by
 obtain⟨f,oc',od,an,osl,kV,doc,pm,cdv,ct,a,l,c,k⟩:=id h53;have e:=hfa.symm.trans (eQ X Gm a);cases e;obtain⟨cc,h18⟩:=h18;refine⟨aF "law" "law" (bj (top 53)) (aZ (top 53)) (aP (top 53)) .none kV doc pm an cdv ct,fun s v=>.of_eq rfl,fun base Xb _ bm=>?_⟩;have hv:∀x v,(x,v)∈vals C kd->∃u,mg x=some u/\RelV v u:=by
  intro x v hm;simp only[vals,aE,cJ,or_false,Prod.mk.injEq]at hm;rcases hm with⟨rfl,rfl⟩ |⟨rfl,rfl⟩ |⟨rfl,rfl⟩ |⟨rfl,rfl⟩ |⟨rfl,rfl⟩ |⟨rfl,rfl⟩
  ·exact⟨_,eQ X Gm v1,t1,rfl⟩
  ·exact⟨_,eQ X Gm v2,t2,rfl⟩
  ·exact⟨_,eQ X Gm v3,t3,rfl⟩
  ·exact⟨_,eQ X Gm v4,t4,rfl⟩
  ·exact⟨_,eQ X Gm v5,rfl⟩
  ·exact⟨_,eQ X Gm v6,rfl⟩
 have g0:GOk P w K mg base (CXx P w) 0 (gam (vals C kd) []):=GOk.start hv fun x hx=>PySem.W.mg_none_of X Gm (bl x hx);have g1:=cL (N:=Cp.uS) (ps:=Cp.BF) g0 (h11.def X Gm) (by decide+kernel) (fun _ _ _ _ _ _ us hl=>by obtain⟨_,rfl⟩:=Kc.gJ hl;rfl) (sp:=spB isWhole) (fun vs H Q E h=>Kc.dX h fun _ h=>Kc.fG h rfl) se;have g2:=cL (N:=Cp.wX) (ps:=Cp.EI) g1 (h12.def X Gm) (by decide+kernel) (fun _ _ _ _ _ _ us hl=>by obtain⟨_,rfl⟩:=Kc.gJ hl;rfl) (sp:=spN) (fun vs H Q E h=>Kc.dX h fun _ h=>Kc.fG h rfl) (Be (by kernel_rfl) (by kernel_rfl));have g3:=cL (N:=Cp.qk) (ps:=Cp.yj) g2 (h13.def X Gm) (by decide+kernel) (fun _ _ _ _ _ _ us hl=>by obtain⟨_,rfl⟩:=Kc.gJ hl;rfl) (sp:=spB cA) (fun vs H Q E h=>Kc.dX h fun _ h=>Kc.fG h rfl) (vV (by kernel_rfl));have g4:=cL (N:=Cp.mJ) (ps:=Cp.uH) g3 (h14.def X Gm) (by decide+kernel) (fun _ _ _ _ _ _ us hl=>by obtain⟨_,rfl⟩:=Kc.gJ hl;rfl) (sp:=spR) (fun vs H Q E h=>Kc.dX h fun _ h=>Kc.fG h rfl) (sS (by kernel_rfl) (by kernel_rfl));have g5:=cL (N:=Cp.wY) (ps:=Cp.EJ) g4 (h15.def X Gm) (by decide+kernel) (fun _ _ _ _ _ _ us hl=>by obtain⟨_,rfl⟩:=Kc.gJ hl;rfl) (sp:=spC) (fun vs H Q E h=>Kc.dX h fun _ h=>Kc.fG h rfl) (Bg (by kernel_rfl) (by kernel_rfl));have g6:=cL (N:=Cp.uT) (ps:=Cp.BG) g5 (h16.def X Gm) (by decide+kernel) (fun _ _ _ _ _ _ us hl=>by obtain⟨_,rfl⟩:=Kc.gJ hl;rfl) (sp:=Cp.spT) (fun vs H Q E h=>Kc.dX h fun _ h=>Kc.fG h rfl) (zm (by kernel_rfl) (by kernel_rfl));have g7:=cL (N:=Cp.qf) (ps:=Cp.ye) g6 (h17.def X Gm) (by decide+kernel) (fun _ _ _ _ _ _ us hl=>by obtain⟨_,rfl⟩:=Kc.gJ hl;rfl) (sp:=xQ C) (fun vs H Q E h=>Kc.dX h fun _ h=>Kc.fG h rfl) (vU (by kernel_rfl));have g8:=add_fnK (T:=tb p) (N:=jf) (ps:=pZ) (lx:="copy") g7 X Xb Gm h18 tl_ok tl_q bm (fun _ _ _ _ _ _ _ _=>rfl) (fun _ _ _ _ _ _ us hl=>by obtain⟨_,rfl⟩:=Kc.gJ hl;rfl) (sp:=xR C (tb p)) (fun vs H Q E h=>Kc.dX h fun _ h=>Kc.fG h rfl) (vT (C:=C) (by kernel_rfl));have g9:=cL (N:=Cp.oy) (ps:=Cp.v9) g8 (h19.def X Gm) (by decide+kernel) (fun _ _ _ _ _ _ us hl=>by obtain⟨_,rfl⟩:=Kc.gJ hl;rfl) (sp:=tH C) (fun vs H Q E h=>Kc.dX h fun _ h=>Kc.fG h rfl) (t7 (C:=C) (by kernel_rfl));have g10:=cL (N:=Kc.kL) (ps:=Kc.rK) g9 (h22.def X Gm) (by decide+kernel) (fun _ _ _ _ _ _ us hl=>by obtain⟨_,_,_,rfl⟩:=Kc.my hl;rfl) (sp:=Kc.xT) (fun vs H Q E h=>fP h fun _ _ _ _ h=>Kc.dX h fun _ h=>Kc.fG h rfl) (Kc.FY (by kernel_rfl) kd0);have g11:=cL (N:=K22.Dk) (ps:=K22.p_clash) g10 (h23.def X Gm) (by decide+kernel) (fun _ _ _ _ _ _ us hl=>by obtain⟨_,rfl⟩:=Kc.gJ hl;rfl) (sp:=K22.xU C (tb p)) (fun vs H Q E h=>Kc.dX h fun _ h=>Kc.fG h rfl) (K22.FZ (C:=C) (T:=tb p) (by kernel_rfl) (by kernel_rfl) (by kernel_rfl));have g12:=cL (N:=K83.mG) (ps:=K83.uE) g11 (h24.def X Gm) (by decide+kernel) (fun _ _ _ _ _ _ us hl=>by obtain⟨_,rfl⟩:=Kc.gJ hl;rfl) (sp:=K83.Gk (tb p)) (fun vs H Q E h=>Kc.dX h fun _ h=>Kc.fG h rfl) (K83.wp_ref (C:=C) (T:=tb p) (by kernel_rfl));have g13:=cL (N:=K32.uU) (ps:=K32.BH) g12 (h26.def X Gm) (by decide+kernel) (fun _ _ _ _ _ _ us hl=>by obtain⟨_,_,rfl⟩:=Kc.gg hl;rfl) (sp:=K32.xS) (fun vs H Q E h=>fP h fun _ _ _ _ h=>Kc.dX h fun _ h=>Kc.fG h rfl) K32.FX;have g14:=cL (N:=K32.z7) (ps:=K32.Hi) g13 (h27.def X Gm) (by decide+kernel) (fun _ _ _ _ _ _ us hl=>by obtain⟨_,_,rfl⟩:=Kc.gg hl;rfl) (sp:=K32.mD K) (fun vs H Q E h=>fP h fun _ _ _ _ h=>Kc.fG h rfl) K32.Ed;have g15:=cL (N:=K32.Dj) (ps:=K32.p_grown) g14 (h28.def X Gm) (by decide+kernel) (fun _ _ _ _ _ _ us hl=>by obtain⟨_,rfl⟩:=Kc.gJ hl;rfl) (sp:=K32.uo) (fun vs H Q E h=>fP h fun _ _ _ _ h=>Kc.fG h rfl) (K32.Ef (by kernel_rfl) (by kernel_rfl));have g16:=cL (N:=K32.Hx) (ps:=K32.p_tree) g15 (h29.def X Gm) (by decide+kernel) (fun _ _ _ _ _ _ us hl=>by obtain⟨_,rfl⟩:=Kc.gJ hl;rfl) (sp:=K83.xP (tb p)) (fun vs H Q E h=>Kc.dX h fun _ h=>Kc.fG h rfl) (K83.wp_tree (C:=C) (T:=tb p) (by kernel_rfl) (by kernel_rfl) (by kernel_rfl));have g17:=cL (N:=K75.qj) (ps:=K75.yi) g16 (h31.def X Gm) (by decide+kernel) (fun _ _ _ _ _ _ us hl=>by obtain⟨_,_,rfl⟩:=Kc.gg hl;rfl) (sp:=K75.spTg) (fun vs H Q E h=>fP h fun _ _ _ _ h=>Kc.fG h rfl) (K75.wp_tg (by kernel_rfl) (by kernel_rfl));have g18:=cL (N:=K75.mI) (ps:=K75.uG) g17 (h32.def X Gm) (by decide+kernel) (fun _ _ _ _ _ _ us hl=>by obtain⟨_,_,rfl⟩:=Kc.gg hl;rfl) (sp:=K75.spAt) (fun vs H Q E h=>fP h fun _ _ _ _ h=>Kc.fG h rfl) (K75.wp_at (by kernel_rfl));have g19:=cL (N:=K75.lR) (ps:=K75.sU) g18 (h33.def X Gm) (by decide+kernel) (fun _ _ _ _ _ _ us hl=>by obtain⟨_,_,rfl⟩:=Kc.gg hl;rfl) (sp:=K75.spNt K) (fun vs H Q E h=>fP h fun _ _ _ _ h=>fP h fun _ _ _ _ h=>Kc.fG h rfl) (K75.wp_nt (C:=C) (by kernel_rfl) (by kernel_rfl));have g20:=cL (N:=K75.sj) (ps:=K75.zN) g19 (h34.def X Gm) (by decide+kernel) (fun _ _ _ _ _ _ us hl=>by obtain⟨_,_,rfl⟩:=Kc.gg hl;rfl) (sp:=K75.Gj K) (fun vs H Q E h=>fP h fun _ _ _ _ h=>Kc.dX h fun _ h=>Kc.dX h fun _ h=>Kc.dX h fun _ h=>Kc.fG h rfl) K75.wp_thr;have g21:=cL (N:=K75.qe) (ps:=K75.yd) g20 (h36.def X Gm) (by decide+kernel) (fun _ _ _ _ _ _ us hl=>by obtain⟨_,_,rfl⟩:=Kc.gg hl;rfl) (sp:=K75.spTn K) (fun vs H Q E h=>fP h fun _ _ _ _ h=>Kc.dX h fun _ h=>Kc.dX h fun _ h=>Kc.dX h fun _ h=>Kc.fG h rfl) (K75.wp_tn (by kernel_rfl));have g22:=cL (N:=K75.kK) (ps:=K75.rJ) g21 (h37.def X Gm) (by decide+kernel) (fun _ _ _ _ _ _ us hl=>by obtain⟨_,_,_,rfl⟩:=Kc.my hl;rfl) (sp:=K75.spUp K) (fun vs H Q E h=>fP h fun _ _ _ _ h=>fP h fun _ _ _ _ h=>Kc.dX h fun _ h=>Kc.fG h rfl) K75.wp_up;have g23:=cL (N:=K75.ql) (ps:=K75.yk) g22 (h38.def X Gm) (by decide+kernel) (fun _ _ _ _ _ _ us hl=>by obtain⟨_,_,rfl⟩:=Kc.gg hl;rfl) (sp:=K75.spFr K (tb p)) (fun vs H Q E h=>fP h fun _ _ _ _ h=>fP h fun _ _ _ _ h=>Kc.fG h rfl) (K75.wp_fr (T:=tb p) (by kernel_rfl) (by kernel_rfl) (by kernel_rfl) (by kernel_rfl));have g24:=cL (N:=Lt.oz) (ps:=Lt.wa) g23 (h40.def X Gm) (by decide+kernel) (fun _ _ _ _ _ _ us hl=>by obtain⟨_,_,rfl⟩:=Kc.gg hl;rfl) (sp:=Lt.uv K) (fun vs H Q E h=>Kc.dX h fun _ h=>Kc.dX h fun _ h=>Kc.dX h fun _ h=>Kc.fG h rfl) Lt.wp_cell;have g25:=cL (N:=K22.z8) (ps:=K22.zO) g24 (h41.def X Gm) (by decide+kernel) (fun _ _ _ _ _ _ us hl=>by obtain⟨_,rfl⟩:=Kc.gJ hl;rfl) (sp:=spB isWhole) (fun vs H Q E h=>Kc.dX h fun _ h=>Kc.fG h rfl) se;have g26:=cL (N:=Bt.sk) (ps:=Bt.zP) g25 (h42.def X Gm) (by decide+kernel) (fun _ _ _ _ _ _ us hl=>by obtain⟨_,_,rfl⟩:=Kc.gg hl;rfl) (sp:=Bt.zB) (fun vs H Q E h=>Kc.dX h fun _ h=>Kc.dX h fun _ h=>Kc.fG h rfl) Bt.wp_mix;have g27:=cL (N:=Bt.qh) (ps:=Bt.yg) g26 (h43.def X Gm) (by decide+kernel) (fun _ _ _ _ _ _ us hl=>by obtain⟨_,_,_,_,rfl⟩:=DB hl;rfl) (sp:=Bt.um) (fun vs H Q E h=>fP h fun _ _ _ _ h=>Kc.dX h fun _ h=>Kc.fG h rfl) Bt.Ee;have g28:=cL (N:=Bt.sr) (ps:=Bt.zQ) g27 (h44.def X Gm) (by decide+kernel) (fun _ _ _ _ _ _ us hl=>by obtain⟨_,_,rfl⟩:=Kc.gg hl;rfl) (sp:=Bt.ur K) (fun vs H Q E h=>Kc.dX h fun _ h=>Kc.dX h fun _ h=>Kc.dX h fun _ h=>Kc.fG h rfl) (Bt.Eg (by kernel_rfl) (by kernel_rfl));have g29:=cL (N:=K62.gS) (ps:=K62.mF) g28 (h45.def X Gm) (by decide+kernel) (fun _ _ _ _ _ _ us hl=>by obtain⟨_,_,_,_,_,rfl⟩:=DG hl;rfl) (sp:=Bt.tG) (fun vs H Q E h=>fP h fun _ _ _ _ h=>Kc.dX h fun _ h=>Kc.dX h fun _ h=>Kc.dX h fun _ h=>Kc.fG h rfl) K62.wp_nds;have g30:=cL (N:=Bt.uR) (ps:=Bt.BE) g29 (h46.def X Gm) (by decide+kernel) (fun _ _ _ _ _ _ us hl=>by obtain⟨_,_,rfl⟩:=Kc.gg hl;rfl) (sp:=Bt.spNm) (fun vs H Q E h=>Kc.dX h fun _ h=>Kc.dX h fun _ h=>Kc.fG h rfl) Bt.wp_nm;have g31:=cL (N:=Bt.qi) (ps:=Bt.yh) g30 (h47.def X Gm) (by decide+kernel) (fun _ _ _ _ _ _ us hl=>by obtain⟨_,_,_,_,_,rfl⟩:=DG hl;rfl) (sp:=Bt.uu) (fun vs H Q E h=>fP h fun _ _ _ _ h=>Kc.dX h fun _ h=>Kc.dX h fun _ h=>Kc.dX h fun _ h=>Kc.fG h rfl) (Bt.Eh (by kernel_rfl));have g32:=cL (N:=Bt.sx) (ps:=Bt.zS) g31 (h48.def X Gm) (by decide+kernel) (fun _ _ _ _ _ _ us hl=>by obtain⟨_,_,rfl⟩:=Kc.gg hl;rfl) (sp:=Bt.xV K) (fun vs H Q E h=>Kc.dX h fun _ h=>Kc.dX h fun _ h=>Kc.dX h fun _ h=>Kc.fG h rfl) (Bt.F0 (by kernel_rfl) (by kernel_rfl) (by kernel_rfl) (by kernel_rfl) (by kernel_rfl) (by kernel_rfl));have g33:=cL (N:=K62.mH) (ps:=K62.uF) g32 (h49.def X Gm) (by decide+kernel) (fun _ _ _ _ _ _ us hl=>by obtain⟨_,_,_,rfl⟩:=Kc.my hl;rfl) (sp:=K62.spTl K) (fun vs H Q E h=>fP h fun _ _ _ _ h=>Kc.dX h fun _ h=>Kc.dX h fun _ h=>Kc.fG h rfl) (K62.wp_tl (by kernel_rfl));have g34:=cL (N:=K62.sy) (ps:=K62.zT) g33 (h50.def X Gm) (by decide+kernel) (fun _ _ _ _ _ _ us hl=>by obtain⟨_,_,rfl⟩:=Kc.gg hl;rfl) (sp:=K62.spBr K) (fun vs H Q E h=>fP h fun _ _ _ _ h=>Kc.dX h fun _ h=>Kc.fG h rfl) K62.wp_br;have g35:=cL (N:=K62.qg) (ps:=K62.yf) g34 (h51.def X Gm) (by decide+kernel) (fun _ _ _ _ _ _ us hl=>by obtain⟨_,_,rfl⟩:=Kc.gg hl;rfl) (sp:=K62.spSd K) (fun vs H Q E h=>fP h fun _ _ _ _ h=>Kc.dX h fun _ h=>Kc.dX h fun _ h=>Kc.dX h fun _ h=>Kc.fG h rfl) (K62.wp_sd (by kernel_rfl));have g36:=cL (N:=K62.sv) (ps:=K62.zR) g35 (h52.def X Gm) (by decide+kernel) (fun _ _ _ _ _ _ us hl=>by obtain⟨_,_,_,rfl⟩:=Kc.my hl;rfl) (sp:=K62.spFi K) (fun vs H Q E h=>fP h fun _ _ _ _ h=>fP h fun _ _ _ _ h=>fP h fun _ _ _ _ h=>Kc.fG h rfl) (K62.wp_fi (by kernel_rfl));have hk:(qa K62.Hy K62.p_law (aP (top 53))&&vz (aP (top 53)) K62.Hy K62.Ja (aZ (top 53)))=true:=by decide+kernel
 rw[aN]at hk;exact jH.calm (DF (B3 l c k) hk.1 hk.2 g36 (fun vs H Q E h=>Kc.dX h fun _ h=>Kc.dX h fun _ h=>Kc.fG h rfl) (wp_law (T:=tb p) ⟨(by kernel_rfl),(by kernel_rfl),(by kernel_rfl),(by kernel_rfl),(by kernel_rfl),(by kernel_rfl)⟩))
end K62
open PySem PySem.W PyProof.Rows
set_option maxRecDepth 100000 in
set_option maxHeartbeats 0 in
theorem PySem.Challenge.cw_copykin_k62_first_read_holds : PySem.Challenge.rw_copykin_k62_first_read.Holds := by
 w_on;o_law
 refine PySem.W.holds_open (q:=K62.vw) (loose:=K62.loo) (Xt:=K62.xt)
  (XP:=PySem.W.XL K62.vw []) (Yf:=A8 (jR K62.An K62.Ao (fun _=>by kernel_rfl) [134])) (Ya:=A7 (jR K62.An K62.Ao (fun _=>by kernel_rfl) [134]))
  (YP:=PySem.W.Hook.says (jR K62.An K62.Ao (fun _=>by kernel_rfl) [134])) (N:=4750) (fun w=>K62.both (K62.leftA w) (K62.leftB w)) (PySem.W.Hook.of _) (PySem.W.Hook.keeps _)
  (fun s e=>PySem.W.xl_of s (FU.mp e).1) PySem.W.XL.keeps
  (by rfl) (by rfl) (by rfl)
  (fun s e=>PySem.W.recFacts_of (FU.mp e).2) rfl (by assumption) (by decide+kernel)
  ⟨rfl,rfl,rfl,rfl,rfl,by decide+kernel⟩ ?hw ?hc
 (case hw=>w_witness2)
 k_fill
 refine Lm.F1 (l:=PySem.Challenge.rw_copykin_k62_first_read) (n:=63) (k:=37) (x:="_law_script") (CX:=L2.CX0) (sp:=fun K=>fun vs H Q _=>K62.Gn K (K62.tb 134) vs H Q L2.E0) (tabs:=[134]) rfl (by decide) rfl ⟨rfl,by decide,by decide⟩ (fun w h Y=>Jt Y) ?T ?F (fun K H a ns hl ht hS=>⟨a,ns,rfl,hS,hl,.inl (ht 134 (a6.mpr rfl)),fun _=>rfl⟩) (fun _ _ _ _ z=>z)
 case T=>
  intro w s₀ mg mb h G Y p hp;obtain rfl:=a6.mp hp;have KX:=Jt Y;have T:=PySem.W.km_tabs_of Y 134 (a6.mpr rfl);have F:∃c,K62.y6 (L2.KOf KX) "table_list" (K62.top 18) c 134:=by
   dsimp only[L2.KOf];refine' K62.xb ?ta ?tl ?tk ?tq ?th;(case ta=>k_is);(case tl=>k_is);(case tk=>k_is);(case tq=>k_is);(case th=>first |k_is|kernel_rfl)
  obtain⟨c,_,_,_,_,_,_,_,_,_,_,_,_,_,q⟩:=F;exact⟨T,((D6 KX q).tab T).isCodeTable,by kernel_rfl⟩
 case F=>
  intro w mg fa h KX G hmg;refine' K62.all_mk (p:=134) KX G hmg ?v1 ?v2 ?v3 ?v4 ?v5 ?v6 ?kd0 ?bl ?h11 ?h12 ?h13 ?h14 ?h15 ?h16 ?h17 ?h19 ?h22 ?h23 ?h24 ?h26 ?h27 ?h28 ?h29 ?h31 ?h32 ?h33 ?h34 ?h36 ?h37 ?h38 ?h40 ?h41 ?h42 ?h43 ?h44 ?h45 ?h46 ?h47 ?h48 ?h49 ?h50 ?h51 ?h52 ?h18 ?h53
  (case v1=>k_is);(case v2=>k_is);(case v3=>k_is);(case v4=>k_is);(case v5=>k_is);(case v6=>k_is)
  (case kd0=>refine' K62.HP ?l ?l0 ?l1 ?l2 ?l3;(case l=>k_is);(case l0=>k_is);(case l1=>k_is);(case l2=>k_is);(case l3=>k_is))
  (case bl=>
   intro x hx;simp only[R.iW,aE,cJ,or_false]at hx;rcases hx with rfl|rfl|rfl|rfl|rfl|rfl|rfl|rfl|rfl|rfl|rfl|rfl|rfl|rfl|rfl|rfl|rfl|rfl|rfl|rfl<;>k_is)
  (case h18=>refine' K62.xb ?ua ?ul ?uk ?uq ?uh;(case ua=>k_is);(case ul=>k_is);(case uk=>k_is);(case uq=>k_is);(case uh=>first |k_is|kernel_rfl))
  all_goals(refine' R.Ii ?a ?l ?c ?k;(case a=>k_is);(case l=>k_is);(case c=>k_is);(case k=>k_is))
