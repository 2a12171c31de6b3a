import PyProof.Rows.All
import Wide.All
import OpenK.AllK
import Wide.FinOn
import Lean
import PyProof.EqAt
import PyProof.EqKinds
import PyProof.TupleCall
import PyProof.NeKinds
import PySem.Challenge.RW_copykin_k31_tree_of_copies
local macro_rules|`(command|abbrev $d:declId $s:optDeclSig $v:declVal)=>`(command|noncomputable def $d:declId $s:optDeclSig $v:declVal)
open Array renaming length_toList → aT, getElem?_eq_getElem → bT, getElem?_toList → bU, getD_eq_getD_getElem? → cq, getElem?_eq_some_iff → cR, size_map → fu, getElem?_setIfInBounds → gC, perm_iff_toList_perm → gU, mem_toList_iff → jJ, forIn_toList → k6, replicate → nQ, getElem?_map → rN, getElem?_eq_none → C8, getD → J7, ext' → J8
open Bool renaming false_ne_true → aA, and_eq_true → aL, false_eq_true → aN, or_eq_true → dS, false_and → d5, true_and → eL, eq_iff_iff → eY, not_true → fm, eq_false_iff → fK, and_false → gm, and_eq_true_iff → pH
open Classical renaming byContradiction → aq, not_forall → gJ, not_imp → qH, epsilon_spec → zj, not_not → Es
open False renaming elim → kY
open ForInStep renaming yield → iu
open Int renaming toNat_natCast → ba, emod_nonneg → bY, emod_lt_of_pos → cC, eq_ofNat_of_zero_le → cE, zero_add → eP, ofNat_lt → nZ, fdiv_eq_ediv_of_nonneg → Be
open Lean.Name renaming str → cJ, anonymous → Bv
open List renaming getElem?_eq_getElem → ae, getD_eq_getElem?_getD → af, length_map → ak, mem_cons_self → au, mem_cons_of_mem → av, getElem?_map → ax, range → ay, size_toArray → aD, mem_map → aF, mem_of_getElem? → aG, mem_singleton → aH, mem_cons → aI, mem_range → aJ, getElem?_eq_some_iff → aM, mem_append → aU, mem_filter → aV, map_cons → bh, mem_append_right → bo, map_map → bq, nodup_cons → bw, length_eq_zero_iff → bx, length_cons → bz, length_range → bC, length_append → bE, mem_iff_getElem? → bG, lookup_cons → bH, all_eq_true → bK, getElem?_range → bP, replicate → cb, pairwise_map → cj, getElem_mem → ck, length_take → cy, map_congr_left → cF, any_eq_true → cI, getElem?_eq_none → cO, getElem_map → cS, getElem?_append_right → cT, ext_getElem → cU, mem_iff_getElem → cX, map_append → dc, take_add_one → dh, nodup_append → di, not_mem_nil → dF, foldl_cons → dR, filter_sublist → d8, getElem?_append_left → eB, take_length → eI, toArray → eK, filter_cons_of_pos → eV, filter_cons_of_neg → eW, take_of_length_le → fk, getElem_inj → fo, pairwise_iff_getElem → fC, map_id → fJ, replicate_succ → gc, length_pos_iff → gd, pairwise_singleton → gh, nodup_nil → gV, length → gW, getElem?_take_of_lt → iH, find?_cons → iT, getElem?_drop → iW, append_assoc → jf, nodup_range → jw, mem_reverse → jx, mem_erase_of_ne → jO, mem_append_left → jP, lookup → jQ, mem_map_of_mem → ki, filterMap_cons → kj, map_nil → kG, zip_cons_cons → k9, perm_ext_iff_of_nodup → la, find?_eq_none → lb, filter_append → lg, flatten_cons → l7, ext_getElem? → l8, length_drop → my, pairwise_lt_range → nP, length_nil → nY, length_singleton → oO, length_filter_le → oP, getElem?_toArray → oQ, perm_cons_erase → pD, pairwise_append → pE, mem_of_mem_take → pF, toList_toArray → qL, mem_filterMap → sv, lookup_append → sx, take_sublist → tj, reverse_cons → tm, eraseIdx_eq_take_drop_succ → vk, map_snd_zip → vv, cons_append → vz, of_mem_zip → xq, nil_append → xr, append_nil → xu, length_eraseIdx_of_lt → zq, forIn_nil → zr, drop_zero → zt, mem_of_find?_eq_some → Bb, getElem?_eq_none_iff → Bc, exists_mem_of_ne_nil → Bd, nil_perm → Br, length_erase_of_mem → Bs, any_cons → Bt, all_cons → Bu, getElem?_cons_succ → C6, length_pos_of_mem → Ep, getElem?_set_self → Er, take_append_drop → F7, getElem?_set_ne → Gc, filter_eq_self → J5, countP_eq_zero → J6
open List.Pairwise renaming and_mem → gf, nil → jR, imp_of_mem → j8
open List.Perm renaming refl → fh, eq_of_pairwise → ip, swap → j7
open List.cons renaming injEq → sP
open Nat renaming le_refl → aC, ne_of_lt → aO, zero_le → aW, le_trans → bf, lt_of_lt_of_le → bA, lt_succ_of_lt → bF, lt_of_le_of_lt → dB, lt_succ_self → dI, lt_irrefl → dO, le_succ → eR, ne_of_gt → fO, lt_trans → fP, le_succ_of_le → fQ, not_lt_zero → gI, le_of_not_lt → iB, le_of_lt → iC, le_add_right → jH, mod_lt → lK, le_of_eq → nX, strongRecOn → oN, eq_of_testBit_eq → qG, zero_add → vh, min_eq_left → zh, le_antisymm → zi, not_lt → A9, max_le → Ba, sub_zero → F4, sub_self → F5, and_self → F6
open Nat.succ renaming inj → mq
open Ne renaming symm → bO
open Option renaming isSome_iff_exists → fI, isNone_iff_eq_none → hV, isSome_some → iG, map_some → jN, getD_none → tf, map_eq_some_iff → Bq, isSome_none → Gb
open Option.some renaming inj → aX, injEq → j9
open PyProof.Rows renaming IntsAre → cD, callWith_type1 → cH, slot_tuple_getitem → dg, listUpdate_at → gv, callWith_builtin1 → iV, boot_list → k7, AllBare → nR, subscriptTail_builtinR → qF, get?_update_seq → qJ, entry_list_sort → qK, slot_list_sort → sI, seqEpoch_at → sM, boot_tuple → vg, tupleItemsOf_ → vo, size_push' → vX, boot_int → vZ, plain_sorted → y8, entry_sorted → zc, StrsAre → ze, kind_sorted → Bk, sortedHeap → FR, args_list_sort → F0, subscriptTail → JU, sortedAll_old → JV
open PyProof.Rows.F renaming plain_set_update_loop → cK, entry_set_update_loop → eH
open PySem renaming wpAny_bind → aa, wpAny_pure → aj, SetTable → aQ, mem_of_lookup → bI, wpAny_newObj_type → bL, wpAny_holding → bQ, mainGlobals → bX, starEach → cf, wpAny_call_entry → cA, IsTupleKey → cG, cellsFrom → cW, wpAny_setState_of → cY, wpAny_callSpecial?_slot → dE, wpAny_truthy_bool → dQ, compareOp → dU, codeAny_builtin → dW, wpAny_setField_rec → dY, Fin → eG, NameKind → eO, wpAny_field → fz, plainId_quiet → fA, wpAny_seqItems → fE, assignEach → fF, bootBuiltins → fZ, binaryOp → gb, wpAny_mono → gu, scanBound → gB, wpAny_rule → gL, wpAny_Call_Name_kw → gM, sysModules → gN, FuncData → gT, strIterType → iF, wpAny_askSetting → iR, GenState → i7, codeAny → je, wpAny_pyIter_tuple → jk, pickOrder → jl, wpAny_typeOf → jC, recursionLimit → jD, foldedSetIterable → jF, Value → jG, call_meets → kg, wpAny_newList → kF, sliceBounds → kX, wpAny_passesOwn → lJ, wpAny_richCompare_same_room → lZ, codeAny_mono → l5, seqItems? → mo, builtinsNs → mx, wpAny_storeSet_of → nI, wpAny_pyIter_list → nJ, wpAny_of_eq → nK, wpAny_letGo → nL, fits_of_scanBound → nN, atKey_none_of_get → nO, wpAny_standAt → nV, wpAny_isInstance → pb, wpAny_forIn_list → pd, wpAny_eqBool_int → pf, tupleKind → ph, relayAll → pk, noteFrame → pq, bindArgs → pA, letOwnedTupleGo → qI, wpAny_tryCatch → sG, wpAny_setField → sH, sizeLine_eq → sJ, setField → sL, firstArgMember → sN, swapsWith → sZ, wpAny_attempt → vn, wpAny_eqBool_tuple → vW, setAddHashed → y6, getItem → zb, Addr → zg, seqIndex_of → Bj, Str → Bp, wpAny_updateSeq → C2, wpAny_specialOf → C3, Shared → C5, callerA → Ek, wpAny_Name → FQ, setsByText → FT, raiseNew → FU, isSubtype_type → FV, entryFor → FW, dictSetDefault → FX, closureFor → FY, checkCount → FZ, swapsWithSole → JT, behindInMarks → JW, attributeBase → JX
open PySem.Around renaming under_plainId → cV
open PySem.AutoSeq1 renaming wpAny_loadPart' → lq
open PySem.Builtin renaming bitAnd → iZ, bitXor → km
open PySem.Builtin.Builtins renaming bindParams → fS
open PySem.Builtin.List renaming listTooLong → gQ, listTouch → lj, listLengthHint → rL, listExtendWith → rM
open PySem.Builtin.Range renaming rangeSize → tE
open PySem.Builtin.Slice renaming slicePlaces → gE, sliceAdjust → jI, sliceApplied → rK
open PySem.Builtin.SmallTypes renaming nextOf → eU
open PySem.Builtin.Str renaming occurrences → ix, strSliceIndices → sy
open PySem.Builtin.Tuple renaming tupleExact → gO, tupleItemsOf → rH, tupleIsExact → rJ
open PySem.Calls renaming call_function_entry → iv, spliced_cons → kZ, Name_function_global → zk, callWith_builtin → C7
open PySem.EntryCells renaming newEntry → Bi
open PySem.F renaming slot_tuple_iterator_next → iD, slot_tuple_lt → pG, slot_dict_setdefault → vd, plainAttrs_list → zo, args_tuple_iterator_next_1 → Bh, entry_tuple_iterator_next → Bx
open PySem.Heap renaming get?_push_of_some → ai, get?_push_size → az, lt_size → aB, get?_update_other → bu, size_push → bV, get?_update_self → cP, SameBut → cZ, size_update → vA, MadeExcOf → zu, get?_none_of_le → Gd
open PySem.Heap.SameBut renaming update → bM, refl → Bg
open PySem.IsL renaming update → F3
open PySem.Moved renaming trans → vt
open PySem.NameKind renaming free → cB, cell → dj
open PySem.Obj renaming mapSeq → bp, putSet → hZ, mapFields → iS, data_mapFields → iY, isFreed_of_fields → pC, data_mapDictKeys → J4
open PySem.Paired renaming length → iE
open PySem.PyData renaming keyHash → aE
open PySem.SeqAt.EqAt renaming str_int → Bl, int_str → Bm
open PySem.SetTable renaming insertAt → bN, below → cw, grown → fj, advance → gP, fits → pB, turns → vp, Probe → vq, slot → xo, fill → xp, has → zm, sameMemory → C4, orStandIn → Em, tooFull → F8, relaid → JZ
open PySem.SetTable.below renaming go → zf
open PySem.SetTable.probe renaming go → dA
open PySem.Str renaming ofString → cQ, length → A7
open PySem.Value renaming ref → aZ, none → bW, int → hU, str → iU, type → rF, isInt_shape → sO, bool → zd
open PySem.W renaming Frag → ao, fnOf → aS, keepIn → cN, kas_sort → dH, kia_one → dN, nsIn → eZ, mg_of → fG, codeIn → fR, kitOne → iX, kas_descPart → jE, kmHook → kh, kas_sort → l6, findIn → nW, methodObj → rG, instObj → vc, lookIn → vY, kas_rev → za, cellsFrom_some → A8, codeHd_of_K → Eo, callWith_K → F1, kitx_list → F9, kitx_dict → Ga, plainGet → J0, openEnds → J1, km_in_of → J2, codeHdIn → J3
open PySem.W.Hook renaming val → Bn, obs → Bo
open PySem.W.KasT renaming ret → tw
open PySem.Walks renaming list → JY
open PySem.pickOrder renaming go → y9
open Sum renaming inl → fB, inr → fN
set_option compiler.extract_closed false
set_option bootstrap.genMatcherCode false
set_option Elab.async false
set_option linter.all false
set_option maxRecDepth 100000
set_option maxHeartbeats 0
variable {es es' al:Array (Int×jG)}{am s0 s2 s3:Array (Option jG)}{ac items:Array jG}{led:Bool}{ps rows ws:List (List Int)}{pins pins':List (zg×PySem.Obj)}{gs hs ms ns qs r v:List Int}{aw ch fp tabs:List zg}{N ks loose:List Bp}{args bmB ds ad its' kv out us vs:List jG}{ep i j k m n p q t':Nat}{nf:Nat->Bp}{d func o0 o1 o2 o3 od:Option zg}{C I L S T a ab ar bB b be c c' dx f fa bv it kS kd l pl sl:zg}{A:PySem.Around}{e tg:PySem.Expr}{Qf:eG->C5->Prop}{base h h' h0 h1:PySem.Heap}{np p' pos pos' pp:PySem.Pos}{P prog:PySem.Program}{sc sc' scope:PySem.Scope}{s s':C5}{lx qual x z:Bp}{mA mb mg:Bp->Option jG}{ag ct bn dV ah oc pm u vl vu:jG}{E QQ Q₁:jG->C5->Prop}{K:ao}{w:PySem.World}
namespace L2
open PySem
abbrev cg(s:Stmt):Arguments:=match s with
 |.FunctionDef _ a _ _ _ _ _ _ _ _=>a
 |_=>{posonlyargs:=[],args:=[],vararg:=none,kwonlyargs:=[],kw_defaults:=[],kwarg:=none,defaults:=[]}
abbrev bJ(s:Stmt):List Stmt:=match s with
 |.FunctionDef _ _ b _ _ _ _ _ _ _=>b
 |_=>[]
abbrev bc(s:Stmt):Scope:=match s with
 |.FunctionDef _ _ _ _ _ _ sc _ _ _=>sc
 |_=>{kind:=.function,names:=[],isGenerator:=false,isCoroutine:=false}
end L2
namespace K31
open PySem PySem.Spec PySem.Calls PyProof.Rows
abbrev top(i:Nat):Stmt:=PySem.Challenge.pw_copykin_k31_tree_of_copies.main.body.getD i (.Pass ⟨0,0,0,0⟩)
abbrev vw:Program:=
 {PySem.Challenge.pw_copykin_k31_tree_of_copies with main:={PySem.Challenge.pw_copykin_k31_tree_of_copies.main with body:=[top 1,top 2,top 3,top 5,top 6,top 7,top 8,top 9,top 10,top 11,top 12,top 13,top 14,top 15,top 16,top 17,top 19,top 20,top 21,top 22,top 24,top 25,top 26,top 27,top 29,top 30,top 31,top 32,top 33,top 34,top 35,top 36,top 37,top 38,top 39]}}
abbrev loo:List Str:=[]
abbrev xt(s:Shared):Bool:=PySem.W.xlAt vw [] s&&PySem.W.recOk [] s
abbrev lhsA(p q:Program)(l:List Str)(w:World):=(J1 treeTable p w 3198).map (PySem.W.openSeen q l (importedModules p.main.body) (fun s=>PySem.W.xlAt q [] s&&PySem.W.recOk [] s) true)
abbrev seen{α:Type _}(_:α):Bool:=true
def laidA:(seen lhsA)=true:=by k_qdec
def left0(w:World):lhsA PySem.Challenge.pw_copykin_k31_tree_of_copies vw loo w=some (PySem.W.openGood vw loo):=by
 have _:=laidA;rw[PySem.W.Fast.te4099856316065890748]
 kernel_rfl
def leftA(w:World):(J1 treeTable PySem.Challenge.pw_copykin_k31_tree_of_copies w 3198).map (PySem.W.openSeen vw loo (importedModules PySem.Challenge.pw_copykin_k31_tree_of_copies.main.body) xt true)=some (PySem.W.openGood vw loo):=left0 w
def both{c d e:Type}{o:Option c}{f:c->d}{g:c->e}{a:d}{b:e}(h:o.map f=some a)(k:o.map g=some b):(o.map fun s=>(f s,g s))=some (a,b):=by
 cases o with
 |none=>cases h
 |some x=>injection h with h;injection k with k;rw[<-h,<-k];rfl
end K31
namespace K31
open PySem PySem.Spec PySem.Calls PyProof.Rows L2
set_option hygiene false in
local macro_rules
 | `(#v[$x:str,$t,$r])=>`(⟨aE P $x,.str $x $t,.ref $r⟩)
 | `(#v[252])=>`(.str "copykin.tables" 252)
 | `(#v[321])=>`(.str "copykin.clashes" 321)
 | `(#v[358])=>`(.str "copykin.trees" 358)
 | `(#v[392])=>`(.str "law_copykin_k31_tree_of_copies" 392)
 | `(#v[$c:num,$x,$t,$e,$f,$l,$k,$a,$b,$d,$u,$v,$g:num,$i,$m,$z])=>`((nat_lit $c,⟨.type "code",none,(.fields #[.str $x $t,.str $x $e,.str "/claim/cut.py" $f,.int $l 0,.int $k 0,.int 0 0,.int 0 0,.int 3 0,.ref $a,.bool true,.int 181 0,.ref $b,.none,.none,.none,.ref $d,.int $u 0,.int $l 0,.str "/claim/cut.py" $v]),#[]⟩)::(nat_lit $g,⟨.type "function",none,(.func (aS $x $x (cg (top $i)) (bJ (top $i)) (bc (top $i)) .none .none .none $m none (.ref $c) .none)),#[]⟩)::$z)
 | `(#v[$c:num,$x,$t,$e,$f,$l,$k,$a,$b,$d,$u,$v,$g:num,$i,$m,$o,$p,$z])=>`((nat_lit $c,⟨.type "code",none,(.fields #[.str $x $t,.str $x $e,.str "/claim/cut.py" $f,.int $l 0,.int $k 0,.int 0 0,.int 0 0,.int 3 0,.ref $a,.bool true,.int 181 0,.ref $b,.none,.ref $o,.ref $p,.ref $d,.int $u 0,.int $l 0,.str "/claim/cut.py" $v]),#[]⟩)::(nat_lit $g,⟨.type "function",none,(.func (aS $x $x (cg (top $i)) (bJ (top $i)) (bc (top $i)) .none .none .none $m none (.ref $c) .none)),#[]⟩)::$z)
abbrev Ax(P:PySem.Params):ao:=
 (nat_lit 2,⟨.none,none,(.dict #[] 0),#[]⟩)::
 (nat_lit 3,⟨.type "dict",none,(.dict #[⟨aE P "__name__",.str "__name__" 165,.str "law_copykin_k31_tree_of_copies" 392⟩,⟨aE P "__doc__",.str "__doc__" 166,.none⟩,⟨aE P "__package__",.str "__package__" 167,.none⟩,⟨aE P "__loader__",.str "__loader__" 168,.builtin "__main__.__loader__#opaque"⟩,⟨aE P "__spec__",.str "__spec__" 169,.none⟩,#v["__annotations__",170,6],#v["__builtins__",171,4],⟨aE P "__file__",.str "__file__" 173,.str "/claim/cut.py" 172⟩,⟨aE P "__cached__",.str "__cached__" 174,.none⟩,#v["KinError",206,24],#v["Clash",235,44],#v["NoTable",251,56],⟨aE P "LETTERS",.str "LETTERS" 255,.str "abcdefghijklmnopqrstuvwxyz" 254⟩,⟨aE P "LONGEST_NAME",.str "LONGEST_NAME" 257,.int 8 256⟩,⟨aE P "MOST_PLACES",.str "MOST_PLACES" 259,.int 60 258⟩,⟨aE P "MOST_COPIES",.str "MOST_COPIES" 261,.int 40 260⟩,#v["is_whole",268,65],#v["is_name",274,70],#v["is_reading",281,77],#v["are_readings",287,82],#v["is_copy",294,89],#v["is_table",300,94],#v["need_table",307,101],#v["table_list",313,106],#v["place_count",320,113],#v["KINDS",331,118],#v["first_of_kinds",337,123],#v["clash",349,130],#v["refuse_clash",357,137],#v["group_at",371,144],#v["turned",377,149],#v["grown",383,154],#v["tree",391,161],#v["_law_cell_at",401,168],#v["_law_whole",408,175],#v["_law_draw",418,182],#v["_law_names",433,189],#v["_law_otherwise",439,194],#v["_law_grown",445,199],#v["_law_held",456,206],#v["_law_pruned",462,211],#v["_law_numbers",470,218],#v["_law_kinds",479,225],#v["law",485,230]] 44),#[]⟩)::
 (nat_lit 23,⟨.type "dict",none,(.dict #[⟨aE P "__module__",.str "__module__" 196,.str "copykin.errors" 187⟩,⟨aE P "__firstlineno__",.str "__firstlineno__" 200,.int 2 199⟩,#v["__static_attributes__",201,22],#v["__weakref__",203,25],⟨aE P "__doc__",.str "__doc__" 204,.none⟩] 3),#[]⟩)::
 (nat_lit 24,⟨.type "type",none,(.cls {name:="KinError",bases:=[.type "ValueError"],mro:=[.ref 24,.type "ValueError",.type "Exception",.type "BaseException",.type "object"],ns:=23,qualname:="KinError",hasDict:=true,slotNames:=[],subclasses:=[.ref 44,.ref 56],abstract:=false,collection:=none,hasDel:=false}),#[(some (.ref 15)),none,(some (.str "KinError" 189)),(some (.str "KinError" 197)),(some (.builtin "ValueError.__new__")),(some (.bool true))]⟩)::
 (nat_lit 55,⟨.type "dict",none,(.dict #[⟨aE P "__module__",.str "__module__" 243,.str "copykin.errors" 187⟩,⟨aE P "__firstlineno__",.str "__firstlineno__" 247,.int 11 246⟩,#v["__static_attributes__",248,54],⟨aE P "__doc__",.str "__doc__" 249,.none⟩] 2),#[]⟩)::
 (nat_lit 56,⟨.type "type",none,(.cls {name:="NoTable",bases:=[.ref 24],mro:=[.ref 56,.ref 24,.type "ValueError",.type "Exception",.type "BaseException",.type "object"],ns:=55,qualname:="NoTable",hasDict:=true,slotNames:=[],subclasses:=[],abstract:=false,collection:=none,hasDel:=false}),#[(some (.ref 47)),none,(some (.str "NoTable" 236)),(some (.str "NoTable" 244)),(some (.builtin "ValueError.__new__")),(some (.bool true))]⟩)::
 #v[64,"is_whole",262,263,264,18,1,59,60,63,266,267,65,9,#v[252],61,62,
 #v[69,"is_name",269,270,271,20,1,66,67,68,272,273,70,10,#v[252],
 #v[76,"is_reading",275,276,277,26,1,71,72,75,279,280,77,11,#v[252],73,74,
 #v[81,"are_readings",282,283,284,28,1,78,79,80,285,286,82,12,#v[252],
 #v[88,"is_copy",288,289,290,32,1,83,84,87,292,293,89,13,#v[252],85,86,
 #v[93,"is_table",295,296,297,36,1,90,91,92,298,299,94,14,#v[252],
 #v[100,"need_table",301,302,303,44,1,95,96,99,305,306,101,15,#v[252],97,98,
 #v[105,"table_list",308,309,310,47,1,102,103,104,311,312,106,16,#v[252],
 #v[112,"place_count",314,315,316,51,1,107,108,111,318,319,113,17,#v[252],109,110,
 (nat_lit 114,⟨.type "tuple",none,(.seq #[.int 0 323,.int 0 324] 0),#[]⟩)::
 (nat_lit 115,⟨.type "tuple",none,(.seq #[.int 0 325,.int 1 326] 0),#[]⟩)::
 (nat_lit 116,⟨.type "tuple",none,(.seq #[.int 1 327,.int 0 328] 0),#[]⟩)::
 (nat_lit 117,⟨.type "tuple",none,(.seq #[.int 1 329,.int 1 330] 0),#[]⟩)::
 (nat_lit 118,⟨.type "tuple",none,(.seq #[.ref 114,.ref 115,.ref 116,.ref 117] 0),#[]⟩)::
 #v[122,"first_of_kinds",332,333,334,58,3,119,120,121,335,336,123,20,#v[321],
 #v[129,"clash",338,339,340,65,1,124,125,128,347,348,130,21,#v[321],126,127,
 #v[136,"refuse_clash",350,351,352,74,1,131,132,135,355,356,137,22,#v[321],133,134,
 #v[143,"group_at",360,361,362,79,2,138,139,142,369,370,144,24,#v[358],140,141,
 #v[148,"turned",372,373,374,85,2,145,146,147,375,376,149,25,#v[358],
 #v[153,"grown",378,379,380,87,1,150,151,152,381,382,154,26,#v[358],
 #v[160,"tree",384,385,386,102,1,155,156,159,389,390,161,27,#v[358],157,158,
 #v[167,"_law_cell_at",394,395,396,109,2,162,163,166,399,400,168,29,#v[392],164,165,
 #v[174,"_law_whole",402,403,404,113,1,169,170,173,406,407,175,30,#v[392],171,172,
 #v[181,"_law_draw",409,410,411,115,2,176,177,180,416,417,182,31,#v[392],178,179,
 #v[188,"_law_names",419,420,421,121,2,183,184,187,431,432,189,32,#v[392],185,186,
 #v[193,"_law_otherwise",434,435,436,132,2,190,191,192,437,438,194,33,#v[392],
 #v[198,"_law_grown",440,441,442,134,2,195,196,197,443,444,199,34,#v[392],
 #v[205,"_law_held",446,447,448,152,2,200,201,204,454,455,206,35,#v[392],202,203,
 #v[210,"_law_pruned",457,458,459,161,3,207,208,209,460,461,211,36,#v[392],
 #v[217,"_law_numbers",463,464,465,179,1,212,213,216,468,469,218,37,#v[392],214,215,
 #v[224,"_law_kinds",471,472,473,186,1,219,220,223,477,478,225,38,#v[392],221,222,
 #v[229,"law",480,481,482,200,1,226,227,228,483,484,230,39,#v[392],
 []]]]]]]]]]]]]]]]]]]]]]]]]]]]
abbrev Ay:List Addr:=[2,3,23,24,55,56,64,65,69,70,76,77,81,82,88,89,93,94,100,101,105,106,112,113,114,115,116,117,118,122,123,129,130,136,137,143,144,148,149,153,154,160,161,167,168,174,175,181,182,188,189,193,194,198,199,205,206,210,211,217,218,224,225,229,230]
abbrev lhsB(p:Program)(k:PySem.W.Hook)(w:World):=(J1 treeTable p w 3198).map (Bo k)
abbrev rhsB(k:PySem.W.Hook)(w:World):=some (Bn k w)
def laidB:(seen lhsB&&seen rhsB)=true:=by k_qdec
def leftB(w:World):lhsB PySem.Challenge.pw_copykin_k31_tree_of_copies (kh K31.Ax K31.Ay (fun _=>by kernel_rfl) [103]) w=rhsB (kh K31.Ax K31.Ay (fun _=>by kernel_rfl) [103]) w:=by
 have _:=laidB;rw[PySem.W.Fast.te12016330046641867200]
 kernel_rfl
end K31
namespace L2
open PySem PySem.Spec PyProof.Rows
noncomputable abbrev Key:=Sum Int Str
abbrev uF:Key->Value->Bool
 |.inl k,v=>Value.isInt k v
 |.inr x,v=>Value.isStrOf x v
abbrev keyH(w:World):Key->Int
 |.inl k=>hashInt k
 |.inr x=>hashStr w x
def fw:∀{k:Key}{v:Value},uF k v=true->(∃i t,k=fB i/\v=hU i t)\/(∃x t,k=fN x/\v=iU x t)
 |.inl i,v,h=>by obtain⟨t,e⟩:=sO (k:=i) (v:=v) h;exact .inl ⟨i,t,rfl,e⟩
 |.inr x,v,h=>by obtain⟨t,e⟩:=Value.isStrOf_shape (x:=x) (v:=v) h;exact .inr ⟨x,t,rfl,e⟩
def Fi(i:Int)(t:Tok):uF (.inl i) (.int i t)=true:=by simp[uF,Value.isInt]
def Fh(x:Str)(t:Tok):uF (.inr x) (.str x t)=true:=by simp[uF,Value.isStrOf]
def key_ll(a b:Int):decide ((fB a:Key)=fB b)=(a==b):=by
 by_cases e:a=b;·subst e;simp
 ·have h:¬(fB a:Key)=fB b:=fun q=>e (fB.inj q);rw[decide_eq_false h];exact(beq_eq_false_iff_ne.mpr e).symm
def key_rr(a b:Str):decide ((fN a:Key)=fN b)=decide (a=b):=by
 by_cases e:a=b;·subst e;simp
 ·have h:¬(fN a:Key)=fN b:=fun q=>e (fN.inj q);rw[decide_eq_false h,decide_eq_false e]
def key_lr(a:Int)(b:Str):decide ((fB a:Key)=fN b)=false:=decide_eq_false (fun q=>nomatch q)
def key_rl(a:Str)(b:Int):decide ((fN a:Key)=fB b)=false:=decide_eq_false (fun q=>nomatch q)
abbrev bg(prog:Program)(w:World):PySem.KeyKind prog w Key where
 is:=uF
 hash:=keyH w
 inj:=fun v a b f d=>by
  rcases fw f with⟨i,t,rfl,rfl⟩ |⟨x,t,rfl,rfl⟩
  ·rcases fw d with⟨j,u,rfl,e⟩ |⟨y,u,rfl,e⟩;·injection e with e1 _;rw[e1]
   ·exact nomatch e
  ·rcases fw d with⟨j,u,rfl,e⟩ |⟨y,u,rfl,e⟩;·exact nomatch e
   ·injection e with e1 _;rw[e1]
 byValue:=fun k v h=>by rcases fw h with⟨i,t,rfl,rfl⟩ |⟨x,t,rfl,rfl⟩<;>rfl
 pyHash:=fun c h=>by
  rcases fw c with⟨i,t,rfl,rfl⟩ |⟨x,t,rfl,rfl⟩;·exact wpAny_pyHash_int h
  ·exact wpAny_pyHash_str h
 eqBool:=fun g c h=>by
  rcases fw g with⟨i,t,rfl,rfl⟩ |⟨x,t,rfl,rfl⟩
  ·rcases fw c with⟨j,u,rfl,rfl⟩ |⟨y,u,rfl,rfl⟩;·rw[key_ll]at h;exact pf h
   ·rw[key_lr]at h;exact Bm i t y u _ _ _ _ h
  ·rcases fw c with⟨j,u,rfl,rfl⟩ |⟨y,u,rfl,rfl⟩;·rw[key_rl]at h;exact Bl x t j u _ _ _ _ h
   ·rw[key_rr]at h;exact wpAny_eqBool_str h
 «strs»:=fun k x t v h=>by
  rcases fw h with⟨i,u,rfl,e⟩ |⟨y,u,rfl,e⟩;·exact nomatch e
  ·injection e with e1 _
   subst e1;cases v<;>rfl
theorem uB(prog:Program)(w:World)(k:Key)(v:Value):(bg prog w).is k v=uF k v:=rfl
def mJ(prog:Program)(w:World)(i:Int)(t:Tok):(bg prog w).is (.inl i) (.int i t)=true:=Fi i t
def Ag(prog:Program)(w:World)(x:Str)(t:Tok):(bg prog w).is (.inr x) (.str x t)=true:=Fh x t
inductive V where
 |non|bl (b:Bool) |int (i:Int) |str (x:Str) |byt (b:Array UInt8) |flt (b:UInt64) |ref (a:Addr) |ty (n:String)
 deriving DecidableEq
abbrev RelV:V->Value->Prop
 |.non,u=>u=bW
 |.bl b,u=>u=zd b
 |.int i,u=>∃t,u=hU i t
 |.str x,u=>∃t,u=iU x t
 |.byt b,u=>∃t,u=Value.bytes b t
 |.flt b,u=>∃t,u=Value.float b t
 |.ref a,u=>u=aZ a
 |.ty n,u=>u=rF n
noncomputable abbrev bZ:List V->List Value->Prop:=Paired RelV
theorem bZ.length{xs:List V}(r:bZ xs us):xs.length=us.length:=iE r
theorem bZ.get:∀{xs:List V}{us:List Value}{i:Nat}{x:V},bZ xs us->xs[i]? =some x->∃u,us[i]? =some u/\RelV x u
 |_,_,_,_,.nil,e=>by simp at e
 |_,_,0,_,.cons r _,e=>by simp at e;subst e;exact⟨_,rfl,r⟩
 |_,_,i+1,x,.cons _ t,e=>by obtain⟨u,a,b⟩:=bZ.get (i:=i) (x:=x) t (by simpa using e);exact⟨u,by simpa using a,b⟩
theorem bZ.append:∀{xs ys:List V}{us ws:List Value},bZ xs us->bZ ys ws->bZ (xs++ys) (us++ws)
 |_,_,_,_,.nil,s=>s
 |_,_,_,_,.cons r t,s=>.cons r (bZ.append t s)
theorem bZ.take:∀{xs:List V}{us:List Value}(n:Nat),bZ xs us->bZ (xs.take n) (us.take n)
 |_,_,0,_=>.nil
 |_,_,_+1,.nil=>.nil
 |_,_,n+1,.cons r t=>.cons r (bZ.take n t)
theorem bZ.drop:∀{xs:List V}{us:List Value}(n:Nat),bZ xs us->bZ (xs.drop n) (us.drop n)
 |_,_,0,r=>r
 |_,_,_+1,.nil=>.nil
 |_,_,n+1,.cons _ t=>bZ.drop n t
abbrev vV:Option V->Option Value->Prop
 |some v,some u=>RelV v u
 |none,none=>True
 |_,_=>False
abbrev KV{κ:Type}:List (κ×V)->List (κ×Value)->Prop:=Paired fun(p:κ×V)(q:κ×Value)=>p.1=q.1/\RelV p.2 q.2
abbrev kV:Key->V
 |.inl i=>.int i
 |.inr x=>.str x
inductive HO where
 |lst (xs:List V)
 |tup (xs:List V)
 |dK (kvs:List (Key×V)) |dT (kvs:List (List Key×V))
 |set (S:Int->Bool) (n:Nat)
 |ins (C dx:Addr) (fs:List (Str×V))
 |own (x:Addr)
 |xd (fs:List (Str×V))
 |met (f x:Addr)
 |rng (lo hi:Int)
 |frz (o:Obj) (u:HO)
 |tbl (ps:Array Value)
 |ext (φ:Heap->Prop)
noncomputable abbrev Hp:=Addr->Option HO
abbrev upd(H:Hp)(a:Addr)(o:HO):Hp:=fun b=>if b=a then some o else H b
def aK{H:Hp}{o:HO}:upd H a o a=some o:=by unfold upd;rw[if_pos rfl]
def bD{H:Hp}{o:HO}(h:b≠a):upd H a o b=H b:=by unfold upd;rw[if_neg h]
def Dz{H:Hp}{o u:HO}(h:H a=some o)(h':H b=some u)(d:o≠u):a≠b:=by intro e;subst e;rw[h]at h';exact d (aX h')
def da{H:Hp}{o:HO}(h:H a=some o)(h':H b=none):a≠b:=by intro e;subst e;rw[h]at h';cases h'
section
variable(P:Program)(w:World)
abbrev d7(H:Hp)(h:Heap)(a:Addr):HO->Prop
 |.lst xs=>xs.length<=sizeLine/\∃(ad:List Value)(n:Nat),bZ xs ad/\h.get? a=some {cls:=.type "list",data:=.seq ad.toArray n}
 |.tup xs=>xs.length<=sizeLine/\∃ad:List Value,bZ xs ad/\IsTup h a ad.toArray
 |.dK kvs=>kvs.length<=sizeLine/\(a==gN)=false/\∃vs,KV kvs vs/\h.DictOf (bg P w) a vs
 |.dT kvs=>kvs.length<=sizeLine/\(a==gN)=false/\∃xs:List (List Key×Addr×Value),
   Paired (fun(p:List Key×V)(q:List Key×Addr×Value)=>p.1=q.1/\H q.2.1=some (.tup (p.1.map kV))/\RelV p.2 q.2.2) kvs xs/\
   ∃o es ep,h.get? a=some o/\o.ExactDict/\o.data=.dict es ep/\es.toList=xs.map (entryOfKey (ph (bg P w)))/\(xs.map (·.1)).Nodup
 |.set S n=>h.SetOf (intKind P w) a S n
 |.ins C dx fs=>H dx=some (.own a)/\fs.length<=1000/\dx≠a/\h.get? a=some (vc C dx)/\
   ∃mA,h.Ns1 dx mA/\(∀f,vV (fs.lookup f) (mA f))/\PySem.Within mA (fs.map (·.1))
 |.own _=>∃o,h.get? a=some o
 |.xd fs=>∃mA,h.Ns1 a mA/\∀f,vV (fs.lookup f) (mA f)
 |.rng lo hi=>∃t u v,h.get? a=some {cls:=.type "range",data:=.fields #[.int lo t,.int hi u,.int 1 v]}
 |.frz o u=>h.get? a=some o/\d7 H h a u
 |.tbl ps=>h.get? a=some {cls:=.none,data:=.fields ps}
 |.met f x=>h.get? a=some (rG (.ref f) (.ref x))
 |.ext φ=>φ h/\(∃o,h.get? a=some o)/\∀h1 h2:Heap,φ h1->(∀o,h1.get? a=some o->h2.get? a=some o)->φ h2
def HOk(H:Hp)(h:Heap):Prop:=∀a o,H a=some o->d7 P w H h a o
end
section
variable {H H':Hp}{a:Addr}{o:HO}
theorem d7.lt(x:d7 P w H h a o):a<h.objs.size:=by
 cases o with
 |lst xs=>obtain⟨_,_,_,_,e⟩:=x;exact aB e
 |tup xs=>obtain⟨_,_,_,p⟩:=x;exact p.lt
 |dK kvs=>obtain⟨_,_,_,_,o,_,_,e,_⟩:=x;exact aB e
 |dT kvs=>obtain⟨_,_,_,_,o,_,_,e,_⟩:=x;exact aB e
 |set S n=>obtain⟨o,_,_,_,e,_⟩:=x;exact aB e
 |ins C dx fs=>obtain⟨_,_,_,e,_⟩:=x;exact aB e
 |own y=>obtain⟨_,e⟩:=x;exact aB e
 |xd fs=>obtain⟨_,⟨_,_,_,e,_⟩,_⟩:=x;exact aB e
 |rng lo hi=>obtain⟨_,_,_,e⟩:=x;exact aB e
 |frz ob u=>obtain⟨e,_⟩:=x;exact aB e
 |tbl ps=>exact aB (show h.get? a=some _ from x)
 |met f y=>exact aB (show h.get? a=some _ from x)
 |ext φ=>obtain⟨_,⟨_,e⟩,_⟩:=x;exact aB e
theorem Paired.uD{e g:Type}{F G:e->g->Prop}:∀{c:List e}{d:List g},Paired F c d->(∀a b,F a b->G a b)->Paired G c d
 |_,_,.nil,_=>.nil
 |_,_,.cons r t,f=>.cons (f _ _ r) (Paired.uD t f)
def d7.lM(x:d7 P w H h a o)(k:∀b u,(b=a\/H b=some (.own a))->h.get? b=some u->h'.get? b=some u)
  (D:∀b,H b=some (.own a)->H' b=some (.own a))(E:∀b xs,H b=some (.tup xs)->H' b=some (.tup xs)):d7 P w H' h' a o:=by
 induction o with
 |lst xs=>obtain⟨z,l,n,r,e⟩:=x;exact⟨z,l,n,r,k _ _ (.inl rfl) e⟩
 |tup xs=>obtain⟨z,l,r,g,e,c⟩:=x;exact⟨z,l,r,g,k _ _ (.inl rfl) e,c⟩
 |dK kvs=>obtain⟨z,y,F,r,g,j,i,e,c⟩:=x;exact⟨z,y,F,r,g,j,i,k _ _ (.inl rfl) e,c⟩
 |dT kvs=>obtain⟨z,y,xs,r,g,j,i,e,c⟩:=x;exact⟨z,y,xs,Paired.uD r fun p q z=>⟨z.1,E _ _ z.2.1,z.2.2⟩,g,j,i,k _ _ (.inl rfl) e,c⟩
 |set S n=>obtain⟨g,j,i,t,e,c⟩:=x;exact⟨g,j,i,t,k _ _ (.inl rfl) e,c⟩
 |ins C dx fs=>obtain⟨d,z,ne,e,m,⟨s,j,i,B,c⟩,r⟩:=x;exact⟨D _ d,z,ne,k _ _ (.inl rfl) e,m,⟨s,j,i,k _ _ (.inr d) B,c⟩,r⟩
 |own y=>obtain⟨g,e⟩:=x;exact⟨g,k _ _ (.inl rfl) e⟩
 |xd fs=>obtain⟨m,⟨s,j,i,e,c⟩,r⟩:=x;exact⟨m,⟨s,j,i,k _ _ (.inl rfl) e,c⟩,r⟩
 |rng lo hi=>obtain⟨t,u,v,e⟩:=x;exact⟨t,u,v,k _ _ (.inl rfl) e⟩
 |frz g u ih=>obtain⟨e,q⟩:=x;exact⟨k _ _ (.inl rfl) e,ih q⟩
 |tbl ps=>have e:h.get? a=some {cls:=.none,data:=.fields ps}:=x;show h'.get? a=some {cls:=.none,data:=.fields ps};exact k a _ (.inl rfl) e
 |met f y=>have e:h.get? a=some (rG (.ref f) (.ref y)):=x;show h'.get? a=some (rG (.ref f) (.ref y));exact k a _ (.inl rfl) e
 |ext φ=>obtain⟨p,⟨o,e⟩,A⟩:=x;exact⟨A _ _ p fun o q=>k _ _ (.inl rfl) q,⟨o,k _ _ (.inl rfl) e⟩,A⟩
theorem HOk.lt(x:HOk P w H h)(e:H a=some o):a<h.objs.size:=(x a o e).lt
def HOk.fresh(x:HOk P w H h)(e:h.objs.size<=a):H a=none:=by
 cases q:H a with
 |none=>rfl
 |some u=>exact absurd (bA (x.lt q) e) (dO _)
def HOk.kept(x:HOk P w H h)(k:∀b u,h.get? b=some u->h'.get? b=some u):HOk P w H h':=fun a o e=>
 (x a o e).lM (fun b u _ q=>k b u q) (fun _ q=>q) fun _ _ q=>q
def HOk.laid(x:HOk P w H h)(k:∀b u,h.get? b=some u->h'.get? b=some u)(f:h.objs.size<=a)(new:d7 P w (upd H a o) h' a o):HOk P w (upd H a o) h':=fun b u e=>by
 have d:=x.fresh f;by_cases hb:b=a;·subst hb;rw[aK]at e;cases e;exact new
 ·rw[bD hb]at e;exact(x b u e).lM (fun c v _ q=>k c v q) (fun c q=>by rw[bD (da q d)];exact q) fun c g q=>by rw[bD (da q d)];exact q
end
def Rd(H:Hp)(a:Addr)(u:HO):Prop:=H a=some u\/∃o,H a=some (.frz o u)
def Rd.ok{H:Hp}{u:HO}(r:Rd H a u)(x:HOk P w H h):d7 P w H h a u:=by
 rcases r with r|⟨o,r⟩;·exact x a u r
 ·obtain⟨_,q⟩:=x a _ r;exact q
abbrev Mut:Option HO->Prop
 |some (.lst _)=>True
 |some (.dK _)=>True
 |some (.dT _)=>True
 |some (.set _ _)=>True
 |some (.ins _ _ _)=>True
 |some (.ext _)=>True
 |_=>False
section
variable {H:Hp}{x e:Addr}{o':HO}
def HOk.write(ok:HOk P w H h)(a:Mut (H x))(f:e=x\/H e=some (.own x))(k:∀b u,b≠e->h.get? b=some u->h'.get? b=some u)(j:∃u,h'.get? e=some u)
  (new:d7 P w (upd H x o') h' x o'):HOk P w (upd H x o') h':=fun b u q=>by
 have g:∀c y,H c=some (.own y)->c≠x:=fun c y r z=>by subst z;rw[r]at a;exact a
 have m:∀c d,H c=some (.tup d)->c≠x:=fun c d r z=>by subst z;rw[r]at a;exact a
 by_cases hb:b=x;·subst hb;rw[aK]at q;cases q;exact new
 ·rw[bD hb]at q;by_cases hbe:b=e
  ·have i:H b=some (.own x):=by
    rcases f with z|z;·exact absurd (hbe.trans z) hb
    ·rw[hbe];exact z
   rw[q]at i;cases i;obtain⟨v,l⟩:=j;exact⟨v,by rw[hbe];exact l⟩
  ·refine(ok b u q).lM (fun c v hc r=>k c v ?_ r) (fun c r=>by rw[bD (g c b r)];exact r) fun c d r=>by rw[bD (m c d r)];exact r
   rcases hc with rfl|hc;·exact hbe
   ·rintro rfl;rcases f with z|z;·exact g c b hc z
    ·rw[hc]at z;cases z;exact hb rfl
end
structure Un(fs ex:List Addr)(H H':Hp)(h h':Heap):Prop where
 keep:∀b o,h.get? b=some o->H b=none->b∉fs->b∉ex->h'.get? b=some o
 slot:∀b o,h.get? b=some o->H b=none->b∈fs->b∉ex->∃sl,h'.get? b=some {o with slots:=sl}
 free:∀b o,h.get? b=some o->H b=none->b∉ex->H' b=none
 there:∀b o,h.get? b=some o->b∉ex->∃o',h'.get? b=some o'
 tups:∀b xs,H b=some (.tup xs)->H' b=some (.tup xs)
 frzs:∀b o u,H b=some (.frz o u)->H' b=some (.frz o u)
 tbls:∀b ps,H b=some (.tbl ps)->∃more,H' b=some (.tbl (ps++more))
section
variable {fs fs' ex ex':List Addr}{H H1 H2:Hp}{h2:Heap}{a x e:Addr}{o:HO}
def Un.any(u:Un fs ex H H1 h h1){ob:Obj}(q:h.get? b=some ob)(n:H b=none)(a:b∉ex):∃sl,h1.get? b=some {ob with slots:=sl}:=by
 by_cases hb:b∈fs;·exact u.slot b ob q n hb a
 ·exact⟨ob.slots,u.keep b ob q n hb a⟩
def Un.kept(k:∀b u,h.get? b=some u->h'.get? b=some u):Un fs ex H H h h':=
 ⟨fun b a q _ _ _=>k b a q,fun b a q _ _ _=>⟨a.slots,k b a q⟩,fun _ _ _ n _=>n,fun b a q _=>⟨a,k b a q⟩,fun _ _ q=>q,fun _ _ _ q=>q,fun _ c q=>⟨#[],by rw[q];simp⟩⟩
def Un.refl:Un fs ex H H h h:=Un.kept fun _ _ q=>q
def Un.laid(k:∀b u,h.get? b=some u->h'.get? b=some u)(d:h.objs.size<=a)(c:H a=none):Un fs ex H (upd H a o) h h' where
 keep:=fun b u q _ _ _=>k b u q
 slot:=fun b u q _ _ _=>⟨u.slots,k b u q⟩
 free:=fun b u q n _=>by rw[bD (aO (bA (aB q) d))];exact n
 there:=fun b u q _=>⟨u,k b u q⟩
 tups:=fun b e q=>by rw[bD (da q c)];exact q
 frzs:=fun b u e q=>by rw[bD (da q c)];exact q
 tbls:=fun b f q=>⟨#[],by rw[bD (da q c),q];simp⟩
def Un.write(a:Mut (H x))(g:e=x\/H e=some (.own x))(k:∀b u,b≠e->h.get? b=some u->h'.get? b=some u)(i:∃u,h'.get? e=some u):Un fs ex H (upd H x o) h h':=by
 have f:∀b,H b=none->b≠x:=fun b n z=>by subst z;rw[n]at a;exact a
 have d:∀b,H b=none->b≠e:=fun b n z=>by
  subst z;rcases g with r|r;·exact f b n r
  ·rw[n]at r;cases r
 have c:∀b u,H b=some u->¬Mut (some u)->b≠x:=fun b u q nm z=>by subst z;rw[q]at a;exact nm a
 refine⟨fun b u q n _ _=>k b u (d b n) q,fun b u q n _ _=>⟨u.slots,k b u (d b n) q⟩,fun b u q n _=>by rw[bD (f b n)];exact n,fun b u q _=>?_,
  fun b j q=>by rw[bD (c b _ q fun z=>z)];exact q,fun b u j q=>by rw[bD (c b _ q fun z=>z)];exact q,fun b l q=>⟨#[],by rw[bD (c b _ q fun z=>z),q];simp⟩⟩
 by_cases hbe:b=e;·subst hbe;exact i
 ·exact⟨u,k b u hbe q⟩
end
abbrev trk(h:Heap)(H:Hp):List Addr:=(ay h.objs.size).filter fun a=>(H a).isSome
abbrev Aw(h:Heap)(H:Hp):Heap:=PySem.W.hideAll h (trk h H)
def Fq(h:Heap)(H:Hp):(Aw h H).objs.size=h.objs.size:=PySem.W.hideAll_size _ _
def uI{H:Hp}{o:Obj}(e:h.get? b=some o)(n:H b=none):(Aw h H).get? b=some o:=
 PySem.W.hideAll_get _ e fun a=>by have q:(H b).isSome=true:=(aV.mp a).2;rw[n]at q;simp at q
def of_hidT{H:Hp}{o:Obj}(e:(Aw h H).get? b=some o):h.get? b=some o/\H b=none:=by
 have a:h.get? b=some o:=PySem.W.of_hideAll (trk h H) e;refine⟨a,?_⟩;cases q:H b with
 |none=>rfl
 |some x=>have c:b∈trk h H:=aV.mpr ⟨aJ.mpr (aB a),by simp[q]⟩;have z:(Aw h H).get? b=none:=PySem.W.hideAll_none (trk h H) c;rw[z]at e;cases e
structure Mod(K:ao)(mg:Str->Option Value)(base:Heap):Prop where
 kin:K.In base
 glob:base.Ns bX mg
 blt:∃mb,base.Ns mx mb/\∀x:Str,x≠"__name__"->mb x=fZ x
 nolimit:base.NoLimit
structure Cx where
 prog:Program
 w:World
 K:ao
 mg:Str->Option Value
 base:Heap
 A:Around
 N:List Str
 s₀:Shared
 H₀:Hp
 env:Env
 outer:List Env
 stack:List Env
 ex:List Addr
 fn:Str->Bool
 calm:Bool
 pn:List (Addr×Obj)
 xe:Value->Shared->Prop
abbrev frs(l:List Env):List Addr:=l.filterMap (·.frame)
noncomputable abbrev Cx.fs(X:Cx):List Addr:=frs X.outer
def Vis(sc:Scope)(x:Str):Prop:=sc.names.lookup x=some .local\/sc.names.lookup x=some .cell\/sc.names.lookup x=some .free
def Loc(sc:Scope)(x:Str):Prop:=sc.names.lookup x=some .local\/sc.names.lookup x=some .cell
def Look(env:Env)(h:Heap)(m:Str->Option Value)(x:Str)(u:Value):Prop:=
 (env.kindOf x=some .local/\m x=some u)\/((env.kindOf x=some .cell\/env.kindOf x=some .free)/\∃c,env.cells.lookup x=some c/\h.IsCell c (some u))
structure Cx.Ok(X:Cx):Prop where
 mod:Mod X.K X.mg X.base
 kind:X.env.scope.kind=.function
 glob:X.env.globals=bX
 blt:X.env.builtins=mx
 above:X.s₀.heap.objs.size<=X.env.locals
 inj:∀x y c,X.env.cells.lookup x=some c->X.env.cells.lookup y=some c->x=y
 has:∀x,(X.env.kindOf x=some .cell\/X.env.kindOf x=some .free)->∃c,X.env.cells.lookup x=some c
 cab:∀x c,X.fn x=true->X.env.cells.lookup x=some c->X.s₀.heap.objs.size<=c
 hd:X.calm=true->X.A.handled=none
 frames:X.A.frames=some X.stack
 stk:X.stack=X.outer\/(X.stack=X.env::X.outer/\X.env.frame=some X.env.locals)
 exf:∀b∈X.ex,b≠X.env.locals/\∀x c,X.env.cells.lookup x=some c->c≠b
 bs:∀b o,X.base.get? b=some o->X.s₀.heap.get? b=some o/\X.H₀ b=none
 bsz:X.base.objs.size<=X.s₀.heap.objs.size
 noex:∀b o,X.base.get? b=some o->b∉X.ex
 exfs:∀b∈X.ex,b∉X.fs
 yB:X.s₀.heap.FunFrames X.base X.outer
 frf:∀b∈X.fs,X.H₀ b=none
structure Inv(X:Cx)(pins:List (Addr×Obj))(σ:List (Option V))(H:Hp)(s:Shared):Prop where
 ok:X.Ok
 os:s.os=X.s₀.os
 bare:nR s.gens
 base:Un X.fs X.ex X.H₀ H X.s₀.heap s.heap
 loc:∃m,s.heap.Ns X.env.locals m/\∀(i:Nat)(x:Str)(v:V),X.N[i]? =some x->σ[i]? =some (some v)->Vis X.env.scope x->∃u,RelV v u/\Look X.env s.heap m x u
 cell:∀x c,X.env.cells.lookup x=some c->∃v,s.heap.IsCell c v
 free:H X.env.locals=none
 freeC:∀x c,X.env.cells.lookup x=some c->H c=none
 pin:∀p∈X.pn++pins,s.heap.get? p.1=some p.2/\H p.1=none/\p.1≠X.env.locals/\p.1∉X.fs/\∀v,p.2.data≠.cell v
 hok:HOk X.prog X.w H s.heap
 len:σ.length=X.N.length
section
variable {X:Cx}{pins:List (Addr×Obj)}{σ:List (Option V)}{H H':Hp}{s:Shared}
def Cx.Ok.nofr(ok:X.Ok){o:Obj}(e:X.base.get? b=some o):b∉X.fs:=fun a=>by have :=(ok.yB.mem a).1;rw[e]at this;cases this
theorem Inv.bs(I:Inv X pins σ H s):∀b o,X.base.get? b=some o->s.heap.get? b=some o/\H b=none:=fun b o e=>
 ⟨I.base.keep b o (I.ok.bs b o e).1 (I.ok.bs b o e).2 (I.ok.nofr e) (I.ok.noex b o e),I.base.free b o (I.ok.bs b o e).1 (I.ok.bs b o e).2 (I.ok.noex b o e)⟩
def Inv.bk(I:Inv X pins σ H s):∀b o,X.base.get? b=some o->s.heap.get? b=some o:=fun b o e=>(I.bs b o e).1
theorem Inv.mod(I:Inv X pins σ H s):Mod X.K X.mg X.base:=I.ok.mod
def Inv.kIn(I:Inv X pins σ H s):X.K.In s.heap:=I.ok.mod.kin.keeps I.bk
theorem Inv.nolimit(I:Inv X pins σ H s):s.heap.NoLimit:=I.ok.mod.nolimit.keeps I.bk
theorem Inv.lt(I:Inv X pins σ H s):X.env.locals<s.heap.objs.size:=let⟨_,hn,_⟩:=I.loc;hn.lt
def Inv.sz(I:Inv X pins σ H s):X.s₀.heap.objs.size<=s.heap.objs.size:=bf I.ok.above (iC I.lt)
def Inv.nofs(I:Inv X pins σ H s)(h:s.heap.objs.size<=a):a∉X.fs:=fun b=>by obtain⟨_,o,c,_⟩:=I.ok.yB.mem b;exact absurd (bA (aB c) (bf I.sz h)) (dO _)
def Inv.cne(I:Inv X pins σ H s):∀x c,X.env.cells.lookup x=some c->c≠X.env.locals:=fun x c e z=>by obtain⟨v,o,b,a⟩:=I.cell x c e;obtain⟨m,⟨i,h,g,f,d,_⟩,_⟩:=I.loc;rw[z,f]at b;cases b;rw[d]at a;cases a
theorem Inv.yB(I:Inv X pins σ H s):s.heap.FunFrames X.base X.outer:=by
 have all:∀(l:List Env),(∀b∈frs l,b∈X.fs)->X.s₀.heap.FunFrames X.base l->s.heap.FunFrames X.base l:=by
  intro l
  induction l with
  |nil=>intro _ _;trivial
  |cons env r ih=>intro d h;obtain⟨g,⟨L,o,hf,i,j,f⟩,k⟩:=h;have a:L∈X.fs:=d L (by unfold frs;rw[kj,hf];exact au);obtain⟨m,e⟩:=I.base.slot L o j (I.ok.frf L a) a fun z=>I.ok.exfs L z a;exact⟨g,⟨L,_,hf,i,e,f⟩,ih (fun b c=>d b (by unfold frs;rw[kj,hf];exact av _ c)) k⟩
 exact all X.outer (fun _ c=>c) I.ok.yB
theorem Inv.stack(I:Inv X pins σ H s):s.heap.FunFrames X.base X.stack:=by
 rcases I.ok.stk with e|⟨e,hf⟩;·rw[e];exact I.yB
 ·rw[e];obtain⟨m,a,_⟩:=I.loc;refine .cons (by rw[I.ok.kind];decide) hf a ?_ I.yB;exact Gd (bf I.ok.bsz I.ok.above)
def Inv.BJ(I:Inv X pins σ H s):∀b∈frs X.stack,b∈X.env.locals::X.fs:=fun b a=>by
 rcases I.ok.stk with e|⟨e,hf⟩;·rw[e]at a;exact av _ a
 ·rw[e]at a;unfold frs at a;rw[kj,hf]at a;exact a
def Inv.xG(I:Inv X pins σ H s):∀b∈frs X.stack,H b=none:=fun b hb=>by
 rcases aI.mp (I.BJ b hb)with e|hb;·rw[e];exact I.free
 ·obtain⟨_,o,a,_⟩:=I.ok.yB.mem hb;exact I.base.free b o a (I.ok.frf b hb) fun z=>I.ok.exfs b z hb
def Inv.step{g':Array i7}{d':Drawn}(I:Inv X pins σ H s)
  (t:∀b∈ch,(b∈X.ex\/X.s₀.heap.objs.size<=b)/\b≠X.env.locals/\(∀x c,X.env.cells.lookup x=some c->c≠b)/\∀p∈X.pn++pins,p.1≠b)
  (keep:∀b o,b≠X.env.locals->b∉X.fs->b∉ch->s.heap.get? b=some o->H b=none->h'.get? b=some o)
  (slot:∀b o,b≠X.env.locals->b∈X.fs->b∉ch->s.heap.get? b=some o->H b=none->∃sl,h'.get? b=some {o with slots:=sl}) (free:∀b o,b∉ch->s.heap.get? b=some o->H b=none->H' b=none)
  (there:∀b o,b∉ch->s.heap.get? b=some o->∃o',h'.get? b=some o')
  (R:∀b xs,H b=some (.tup xs)->H' b=some (.tup xs)) (F:∀b o u,H b=some (.frz o u)->H' b=some (.frz o u)) (Q:∀b ps,H b=some (.tbl ps)->∃more,H' b=some (.tbl (ps++more)))
  (O:∀m,s.heap.Ns X.env.locals m->h'.Ns X.env.locals m) (L:HOk X.prog X.w H' h') (G:nR g'):
  Inv X pins σ H' {s with heap:=h',gens:=g',drawn:=d',toks:=t'}:=by
 have neL:∀b o,X.s₀.heap.get? b=some o->b≠X.env.locals:=fun b o e=>aO (bA (aB e) I.ok.above);have y:∀b o,X.s₀.heap.get? b=some o->b∉X.ex->b∉ch:=fun b o e a g=>by
  rcases(t b g).1 with z|z;·exact a z
  ·exact absurd (bA (aB e) z) (dO _)
 have B:∀x c,X.env.cells.lookup x=some c->∀v,s.heap.IsCell c v->h'.IsCell c v:=fun x c e v ⟨o,h,A⟩=>by
  have w:c∉ch:=fun z=>(t c z).2.2.1 x c e rfl;by_cases hc:c∈X.fs;·obtain⟨sl,q⟩:=slot c o (I.cne x c e) hc w h (I.freeC x c e);exact⟨_,q,A⟩
  ·exact⟨o,keep c o (I.cne x c e) hc w h (I.freeC x c e),A⟩
 refine⟨I.ok,I.os,G,⟨fun b o e n g a=>?_,fun b o e n g a=>?_,fun b o e n a=>?_,fun b o e a=>?_,fun b xs e=>R b xs (I.base.tups b xs e),fun b o xs e=>F b o xs (I.base.frzs b o xs e),fun b ps e=>?_⟩,?_,fun x c e=>?_,?_,fun x c e=>?_,fun p C=>?_,L,I.len⟩;·exact keep b o (neL b o e) g (y b o e a) (I.base.keep b o e n g a) (I.base.free b o e n a)
 ·obtain⟨sl,f⟩:=I.base.slot b o e n g a;obtain⟨P,j⟩:=slot b _ (neL b o e) g (y b o e a) f (I.base.free b o e n a);exact⟨P,j⟩
 ·obtain⟨o',f⟩:=I.base.there b o e a;exact free b o' (y b o e a) f (I.base.free b o e n a)
 ·obtain⟨o',f⟩:=I.base.there b o e a;exact there b o' (y b o e a) f
 ·obtain⟨M,f⟩:=I.base.tbls b ps e;obtain⟨N,j⟩:=Q b _ f;exact⟨M++N,by rw[j,Array.append_assoc]⟩
 ·obtain⟨m,K,J⟩:=I.loc;refine⟨m,O m K,fun i x v f j E=>?_⟩;obtain⟨u,r,l⟩:=J i x v f j E;refine⟨u,r,?_⟩;rcases l with l|⟨k,c,e,z⟩;·exact .inl l
  ·exact .inr ⟨k,c,e,B x c e _ z⟩
 ·obtain⟨v,z⟩:=I.cell x c e;exact⟨v,B x c e v z⟩
 ·obtain⟨m,⟨o,_,_,h,_⟩,_⟩:=I.loc;exact free _ o (fun z=>(t _ z).2.1 rfl) h I.free
 ·obtain⟨v,o,h,A⟩:=I.cell x c e;exact free c o (fun z=>(t c z).2.2.1 x c e rfl) h (I.freeC x c e)
 ·obtain⟨e,n,ne,D,d⟩:=I.pin p C;have w:p.1∉ch:=fun z=>(t p.1 z).2.2.2 p C rfl;exact⟨keep p.1 p.2 ne D w e n,free p.1 p.2 w e n,ne,D,d⟩
def Inv.un(I:Inv X pins σ H s)(u:Un X.fs [] H H' s.heap h')(j:HOk X.prog X.w H' h'):Inv X pins σ H' {s with heap:=h',toks:=t'}:=by obtain⟨m,⟨o,p,l,c,r⟩,_⟩:=id I.loc;obtain⟨v,h⟩:=u.any c I.free (by simp);exact I.step (g':=s.gens) (d':=s.drawn) (ch:=[]) (fun _ z=>nomatch z) (fun b o _ a _ e n=>u.keep b o e n a (by simp)) (fun b o _ a _ e n=>u.slot b o e n a (by simp)) (fun b o _ e n=>u.free b o e n (by simp)) (fun b o _ e=>u.there b o e (by simp)) u.tups u.frzs u.tbls (fun q i=>by obtain⟨t,g,f,d,k⟩:=i;rw[c]at d;cases d;exact⟨_,g,f,h,k⟩) j I.bare
def Inv.call{g':Array i7}{d':Drawn}(I:Inv X pins σ H s)(u:Un (frs X.stack) ch H H' s.heap h')(t:HOk X.prog X.w H' h')(l:nR g')
  (f:∀b∈ch,(b∈X.ex\/X.s₀.heap.objs.size<=b)/\b≠X.env.locals/\(∀x c,X.env.cells.lookup x=some c->c≠b)/\∀p∈X.pn++pins,p.1≠b):
  Inv X pins σ H' {s with heap:=h',gens:=g',drawn:=d',toks:=t'}:=by
 obtain⟨m,⟨o,y,w,g,r⟩,_⟩:=id I.loc;obtain⟨C,d⟩:=u.any g I.free fun z=>(f _ z).2.1 rfl;exact I.step (ch:=ch) f (fun b o d k a e n=>u.keep b o e n (fun z=>(aI.mp (I.BJ b z)).elim d k) a) (fun b o _ _ a e n=>u.any e n a) (fun b o a e n=>u.free b o e n a) (fun b o a e=>u.there b o e a) u.tups u.frzs u.tbls (fun A q=>by obtain⟨B,j,i,h,v⟩:=q;rw[g]at h;cases h;exact⟨_,j,i,d,v⟩) t l
def Inv.turned(I:Inv X pins σ H s)(k:∀b o,b≠it->s.heap.get? b=some o->h'.get? b=some o)(y:H it=none)(d:it≠X.env.locals)
  (i:it∈X.ex\/X.s₀.heap.objs.size<=it)(j:∀x c,X.env.cells.lookup x=some c->c≠it)(l:∀p∈X.pn++pins,p.1≠it):Inv X pins σ H {s with heap:=h',toks:=t'}:=by
 have f:∀b u,H b=some u->b≠it:=fun b u e z=>by rw[z,y]at e;cases e
 refine I.step (g':=s.gens) (d':=s.drawn) (ch:=[it]) (fun b t=>?_) (fun b o _ _ a e _=>k b o (fun z=>a (by simp[z])) e) (fun b o _ _ a e _=>⟨o.slots,k b o (fun z=>a (by simp[z])) e⟩) (fun _ _ _ _ n=>n)
  (fun b o a e=>⟨o,k b o (fun z=>a (by simp[z])) e⟩) (fun _ _ e=>e) (fun _ _ _ e=>e) (fun b B e=>⟨#[],by rw[e];simp⟩) (fun m w=>?_) (fun b u e=>?_) I.bare
 ·have e:b=it:=by simpa using t
  subst e;exact⟨i,d,j,l⟩
 ·obtain⟨o,h,g,A,r⟩:=w;exact⟨o,h,g,k _ o (bO d) A,r⟩
 ·refine(I.hok b u e).lM (fun c v a q=>k c v ?_ q) (fun _ q=>q) fun _ _ q=>q;rcases a with z|z;·rw[z];exact f b u e
  ·exact f c _ z
def Inv.tok(I:Inv X pins σ H s)(t:Nat):Inv X pins σ H {s with toks:=t}:=I.un (h':=s.heap) (t':=t) Un.refl I.hok
theorem Inv.kept(I:Inv X pins σ H s)(k:∀b u,s.heap.get? b=some u->h'.get? b=some u):Inv X pins σ H {s with heap:=h',toks:=t'}:=I.un (Un.kept k) (I.hok.kept k)
theorem Inv.laid{o:HO}(I:Inv X pins σ H s)(k:∀b u,s.heap.get? b=some u->h'.get? b=some u)(c:s.heap.objs.size<=a)(new:d7 X.prog X.w (upd H a o) h' a o):
  Inv X pins σ (upd H a o) {s with heap:=h',toks:=t'}:=I.un (Un.laid k c (I.hok.fresh c)) (I.hok.laid k c new)
theorem Inv.write{x e:Addr}{o:HO}(I:Inv X pins σ H s)(d:Mut (H x))(a:e=x\/H e=some (.own x))(k:∀b u,b≠e->s.heap.get? b=some u->h'.get? b=some u)(c:∃u,h'.get? e=some u)
  (new:d7 X.prog X.w (upd H x o) h' x o):Inv X pins σ (upd H x o) {s with heap:=h',toks:=t'}:=I.un (Un.write d a k c) (I.hok.write d a k c new)
def Inv.ya(I:Inv X pins σ H s)(h:∀p∈pins',s.heap.get? p.1=some p.2/\H p.1=none/\p.1≠X.env.locals/\p.1∉X.fs/\∀v,p.2.data≠.cell v):Inv X pins' σ H s:=
 ⟨I.ok,I.os,I.bare,I.base,I.loc,I.cell,I.free,I.freeC,fun p a=>(aU.mp a).elim (fun z=>I.pin p (jP _ z)) (h p),I.hok,I.len⟩
def Ad(e:N.Nodup)(a:N[i]? =some x)(b:N[j]? =some x):i=j:=by obtain⟨f,c⟩:=aM.mp a;obtain⟨g,d⟩:=aM.mp b;exact(fo e).mp (c.trans d.symm)
def EC{a1:Model}{v:V}{Q:Unit->Shared->Prop}(I:Inv X pins σ H s)(R:X.N.Nodup)(hi:X.N[i]? =some x)(l:Loc X.env.scope x)(r:RelV v u)
  (h:∀s',Inv X pins (σ.set i (some v)) H s'->(∃a,cZ a s.heap s'.heap/\(a=X.env.locals\/X.env.cells.lookup x=some a))->Q () s')(hf:X.fn x=true\/X.env.scope.names.lookup x=some .local:=by first |exact .inl rfl|exact .inr rfl|assumption):wpAny a1 A (storeName X.env x u) Q E s:=by
 obtain⟨a6,G,W⟩:=id I.loc;have a2:(X.env.scope.kind== .class||(X.env.scope.kind== .module&&X.env.locals != X.env.globals))=false:=by rw[I.ok.kind];rfl
 have U:i<σ.length:=by rw[I.len];exact(aM.mp hi).1
 have cne:=I.cne;have a0:∀{a:Addr}{w:Heap},(∃o,s.heap.get? a=some o/\H a=none)->cZ a s.heap w->HOk X.prog X.w H w:=fun{a w} ha f b ob e=>by
  obtain⟨_,_,T⟩:=ha;refine(I.hok b ob e).lM (fun c C hc q=>(f.2 c ?_).trans q) (fun _ q=>q) fun _ _ q=>q;rintro rfl;rcases hc with rfl|hc;·rw[T]at e;cases e
  ·rw[T]at hc;cases hc
 rcases l with hk|hk
 ·refine wpAny_storeName_local hk G (fun w a3 f=>?_) a2;obtain⟨oL,_,_,a4,_⟩:=id G;refine h _ ⟨I.ok,I.os,I.bare,⟨fun b o e n t l=>?_,fun b o e n t l=>?_,I.base.free,fun b o e l=>?_,I.base.tups,I.base.frzs,I.base.tbls⟩,⟨_,a3,fun j y P g m D=>?_⟩,fun y c e=>?_,I.free,I.freeC,fun p J=>?_,a0 ⟨oL,a4,I.free⟩ f,by simpa using I.len⟩ ⟨_,f,.inl rfl⟩;·exact(f.2 b (aO (bA (aB e) I.ok.above))).trans (I.base.keep b o e n t l)
  ·obtain⟨N,g⟩:=I.base.slot b o e n t l;exact⟨N,(f.2 b (aO (bA (aB e) I.ok.above))).trans g⟩
  ·obtain⟨L,g⟩:=I.base.there b o e l;exact⟨L,(f.2 b (aO (bA (aB e) I.ok.above))).trans g⟩
  ·by_cases hj:j=i;·subst hj;rw[hi]at g;cases g;rw[Er U]at m;cases m;exact⟨u,r,.inl ⟨hk,by simp⟩⟩
   ·rw[Gc (bO hj)]at m;obtain⟨O,M,q⟩:=W j y P g m D;refine⟨O,M,?_⟩;rcases q with⟨k,e⟩ |⟨k,c,e,z⟩;·refine .inl ⟨k,?_⟩;have :y≠x:=fun e=>hj (Ad R g (e▸hi));simp[this,e]
    ·exact .inr ⟨k,c,e,z.sameBut f (cne y c e)⟩
  ·obtain⟨C,z⟩:=I.cell y c e;exact⟨C,z.sameBut f (cne y c e)⟩
  ·obtain⟨e,n,ne,K,d⟩:=I.pin p J;exact⟨(f.2 p.1 ne).trans e,n,ne,K,d⟩
 ·have F:X.fn x=true:=by
   rcases hf with z|z;·exact z
   ·rw[z]at hk;cases hk
  obtain⟨c,hc⟩:=I.ok.has x (.inl hk);obtain⟨C,z⟩:=I.cell x c hc;refine wpAny_storeName_cell I.ok.kind hk hc z (fun w S f=>?_);obtain⟨Z,Y,a5⟩:=id z;refine h {s with heap:=w} ⟨I.ok,I.os,I.bare,⟨fun b o e n t l=>?_,fun b o e n t l=>?_,I.base.free,fun b o e l=>?_,I.base.tups,I.base.frzs,I.base.tbls⟩,⟨a6,G.sameBut f (bO (cne x c hc)),fun j y P g m D=>?_⟩,fun y B e=>?_,I.free,I.freeC,fun p J=>?_,a0 ⟨Z,Y,I.freeC x c hc⟩ f,by simpa using I.len⟩ ⟨c,f,.inr hc⟩;·exact(f.2 b (aO (bA (aB e) (I.ok.cab x c F hc)))).trans (I.base.keep b o e n t l)
  ·obtain⟨N,g⟩:=I.base.slot b o e n t l;exact⟨N,(f.2 b (aO (bA (aB e) (I.ok.cab x c F hc)))).trans g⟩
  ·obtain⟨L,g⟩:=I.base.there b o e l;exact⟨L,(f.2 b (aO (bA (aB e) (I.ok.cab x c F hc)))).trans g⟩
  ·by_cases hj:j=i;·subst hj;rw[hi]at g;cases g;rw[Er U]at m;cases m;exact⟨u,r,.inr ⟨.inl hk,c,hc,S⟩⟩
   ·rw[Gc (bO hj)]at m;obtain⟨O,M,q⟩:=W j y P g m D;refine⟨O,M,?_⟩;rcases q with q|⟨k,B,e,z'⟩;·exact .inl q
    ·refine .inr ⟨k,B,e,z'.sameBut f ?_⟩;rintro rfl;exact hj (Ad R g (I.ok.inj _ _ _ e hc▸hi))
  ·by_cases hcc:B=c;·subst hcc;exact⟨_,S⟩
   ·obtain⟨w2,z2⟩:=I.cell y B e;exact⟨w2,z2.sameBut f hcc⟩
  ·obtain⟨e,n,ne,K,d⟩:=I.pin p J;refine⟨(f.2 p.1 ?_).trans e,n,ne,K,d⟩;intro q;rw[q,Y]at e;have q':Z=p.2:=aX e;exact d C (by rw[<-q'];exact a5)
def zH{M:Model}{v:V}{Q:Unit->Shared->Prop}(I:Inv X pins σ H s)(b:X.N.Nodup)(hi:X.N[i]? =some x)(c:Loc X.env.scope x)(r:RelV v u)
  (h:∀s',Inv X pins (σ.set i (some v)) H s'->Q () s')(hf:X.fn x=true\/X.env.scope.names.lookup x=some .local:=by first |exact .inl rfl|exact .inr rfl|assumption):wpAny M A (storeName X.env x u) Q E s:=
 EC I b hi c r (fun s' a _=>h s' a) hf
def Inv.call'(I:Inv X pins σ H s)(f:s'.os=s.os)(u:Un (frs X.stack) ch H H' s.heap s'.heap)(g:HOk X.prog X.w H' s'.heap)(d:nR s'.gens)
  (a:∀b∈ch,(b∈X.ex\/X.s₀.heap.objs.size<=b)/\b≠X.env.locals/\(∀x c,X.env.cells.lookup x=some c->c≠b)/\∀p∈X.pn++pins,p.1≠b):Inv X pins σ H' s':=by
 obtain⟨i,g',d',t',h⟩:=s';have e:h=s.os:=f;subst e;exact I.call (g':=g') (t':=t') (d':=d') u g d a
end
noncomputable abbrev XK:=Value->Option Addr->Hp->Prop
noncomputable abbrev St:=List (Option V)
noncomputable abbrev VK:=V->Hp->Prop
noncomputable abbrev TE:=St->Hp->VK->Prop
noncomputable abbrev TT:=St->Hp->(Bool->Hp->Prop)->Prop
noncomputable abbrev TA:=St->Hp->(List V->Hp->Prop)->Prop
structure Ends where
 nx:St->Hp->Prop
 rt:VK
 bk:St->Hp->Prop:=fun _ _=>False
 ct:St->Hp->Prop:=fun _ _=>False
noncomputable abbrev TS:=Ends->St->Hp->Prop
def EP(X:Cx)(pins:List (Addr×Obj))(σ:St)(Q:VK)(u:Value)(s':Shared):Prop:=∃v H',Inv X pins σ H' s'/\RelV v u/\Q v H'
def TP(X:Cx)(pins:List (Addr×Obj))(σ:St)(Q:Bool->Hp->Prop)(b:Bool)(s':Shared):Prop:=∃H',Inv X pins σ H' s'/\Q b H'
def AP(X:Cx)(pins:List (Addr×Obj))(σ:St)(Q:List V->Hp->Prop)(us:List Value)(s':Shared):Prop:=∃vs H',Inv X pins σ H' s'/\bZ vs us/\Q vs H'
def SP(X:Cx)(pins:List (Addr×Obj))(D:Ends)(f:Flow)(s':Shared):Prop:=
 match f with
 |.next=>∃a H',Inv X pins a H' s'/\D.nx a H'
 |.brk=>∃a H',Inv X pins a H' s'/\D.bk a H'
 |.cont=>∃a H',Inv X pins a H' s'/\D.ct a H'
 |.ret u=>∃v a H',Inv X pins a H' s'/\RelV v u/\D.rt v H'
def PE(X:Cx)(e:Expr)(t:TE):Prop:=
 ∀(pins:List (Addr×Obj))(s:Shared)(σ:St)(H:Hp)(Q:VK),Inv X pins σ H s->t σ H Q->wpAny (model X.prog X.w) X.A (eval e X.env) (EP X pins σ Q) X.xe s
def PT(X:Cx)(e:Expr)(t:TT):Prop:=
 ∀(pins:List (Addr×Obj))(s:Shared)(σ:St)(H:Hp)(Q:Bool->Hp->Prop),Inv X pins σ H s->t σ H Q->wpAny (model X.prog X.w) X.A (isTrue e X.env (eval e X.env)) (TP X pins σ Q) X.xe s
def PW(X:Cx)(e:Expr)(t:TT):Prop:=
 ∀(a:Sem Value)(pins:List (Addr×Obj))(s:Shared)(σ:St)(H:Hp)(Q:Bool->Hp->Prop),Inv X pins σ H s->t σ H Q->wpAny (model X.prog X.w) X.A (isTrue e X.env a) (TP X pins σ Q) X.xe s
def PW.pt{X:Cx}{t:TT}(h:PW X e t):PT X e t:=h _
def PA(X:Cx)(es:List Expr)(t:TA):Prop:=
 ∀(pos:Pos)(pins:List (Addr×Obj))(s:Shared)(σ:St)(H:Hp)(Q:List V->Hp->Prop),Inv X pins σ H s->t σ H Q->wpAny (model X.prog X.w) X.A (spliced (backTo pos (cf es X.env))) (AP X pins σ Q) X.xe s
def PS(X:Cx)(st:Stmt)(t:TS):Prop:=
 ∀(pins:List (Addr×Obj))(s:Shared)(σ:St)(H:Hp)(D:Ends),Inv X pins σ H s->t D σ H->wpAny (model X.prog X.w) X.A (exec st X.env) (SP X pins D) X.xe s
def PSs(X:Cx)(st:List Stmt)(t:TS):Prop:=
 ∀(pins:List (Addr×Obj))(s:Shared)(σ:St)(H:Hp)(D:Ends),Inv X pins σ H s->t D σ H->wpAny (model X.prog X.w) X.A (execs st X.env) (SP X pins D) X.xe s
def thn{c:Type}{t:Sem c}{Q b:c->Shared->Prop}{M:Model}(h:wpAny M A t Q E s)(d:∀a s,Q a s->b a s):wpAny M A t b E s:=gu h d fun _ _ x=>x
section
variable {X:Cx}
def pL(i:Nat):TE:=fun σ H Q=>∃v,σ[i]? =some (some v)/\Q v H
def tC(v:V):TE:=fun _ H Q=>Q v H
def pe_var(g:X.N[i]? =some x)(p:Vis X.env.scope x)(b:(x==("__debug__":Str))=false:=by decide) (j:(x==("__classdict__":Str))=false:=by decide):PE X (.Name x pos) (pL i):=by
 intro q s t H Q I h;obtain⟨v,e,h⟩:=h;obtain⟨m,o,k⟩:=I.loc;obtain⟨u,r,l⟩:=k i x v g e p;have a:EP X q t Q u s:=⟨v,H,I,r,h⟩;rcases l with⟨hk,n⟩ |⟨hk,c,d,f⟩;·exact FQ (wpAny_loadName_local I.ok.kind hk o n a) b
 ·rcases hk with hk|hk;·exact FQ (wpAny_loadName_cell I.ok.kind hk d f a) b
  ·exact FQ (wpAny_loadName_free I.ok.kind hk d f a j) b
def pe_int{i j pos}:PE X (.Constant (.int i) j pos) (tC (.int i)):=fun _ _ _ H _ I h=>wpAny_Constant_int ⟨.int i,H,I.tok _,⟨_,rfl⟩,h⟩
def pe_bl{b j pos}:PE X (.Constant (.bool b) j pos) (tC (.bl b)):=fun _ _ _ H _ I h=>Constant_bool ⟨.bl b,H,I,rfl,h⟩
def pe_non{j pos}:PE X (.Constant .none j pos) (tC .non):=fun _ _ _ H _ I h=>Constant_none ⟨.non,H,I,rfl,h⟩
def pe_str{x j pos}:PE X (.Constant (.str x) j pos) (tC (.str x)):=fun _ _ _ H _ I h=>Calls.Constant_str ⟨.str x,H,I.tok _,⟨_,rfl⟩,h⟩
def Gl(X:Cx)(x:Str):Prop:=X.env.kindOf x=some .globalImplicit
def sV{d:St}{H:Hp}{Q:Value->Shared->Prop}(I:Inv X pins d H s)(b:Gl X x)(c:X.mg x=some u)(h:Q u s)
  (a:(x==("__debug__":Str))=false:=by decide):wpAny (model X.prog X.w) X.A (eval (.Name x pos) X.env) Q E s:=
 zk I.ok.kind b (Calls.loadGlobal_global (by rw[I.ok.glob];exact I.mod.glob.keeps I.bk) c h) a
def i5{i:St}{H:Hp}{Q:Value->Shared->Prop}(I:Inv X pins i H s)(d:Gl X x)(e:X.mg x=none)(g:fZ x=some u)(h:Q u s)
  (f:x≠"__name__":=by decide) (c:(x==("__debug__":Str))=false:=by decide):wpAny (model X.prog X.w) X.A (eval (.Name x pos) X.env) Q E s:=by
 obtain⟨j,a,b⟩:=I.mod.blt;exact zk I.ok.kind d (Calls.loadGlobal_builtin (by rw[I.ok.glob];exact I.mod.glob.keeps I.bk) e (by rw[I.ok.blt];exact a.keeps I.bk) ((b x f).trans g) h) c
def pe_glob{v:V}(b:Gl X x)(c:X.mg x=some u)(r:RelV v u)(a:(x==("__debug__":Str))=false:=by decide):PE X (.Name x pos) (tC v):=
 fun _ _ _ H _ I h=>sV I b c ⟨v,H,I,r,h⟩ a
def pe_bltn{v:V}(b:Gl X x)(c:X.mg x=none)(e:fZ x=some u)(r:RelV v u)(d:x≠"__name__":=by decide) (a:(x==("__debug__":Str))=false:=by decide):PE X (.Name x pos) (tC v):=
 fun _ _ _ H _ I h=>i5 I b c e ⟨v,H,I,r,h⟩ d a
variable {a b:Expr}{ta tb:TE}
variable {tA tB':TT}{rest:List Expr}
def tAnd(t u:TT):TT:=fun σ H Q=>t σ H fun c H1=>if c=true then u σ H1 Q else Q false H1
def tOr(t u:TT):TT:=fun σ H Q=>t σ H fun c H1=>if c=true then Q true H1 else u σ H1 Q
def tNot(t:TT):TT:=fun σ H Q=>t σ H fun c H1=>Q (!c) H1
def pw_and1(b:PT X a tA):PW X (.BoolOp .And [a] pos) tA:=by
 intro i d s f H Q I h;refine isTrue_and (thn (b d s f H Q I h) fun c g e=>?_);cases c with
 |true=>exact isTrue_and_nil e
 |false=>exact e
def pw_or1(b:PT X a tA):PW X (.BoolOp .Or [a] pos) tA:=by
 intro i d s f H Q I h;refine isTrue_or (thn (b d s f H Q I h) fun c g e=>?_);cases c with
 |false=>exact isTrue_or_nil e
 |true=>exact e
def Hv(j:PT X a tA)(k:PW X (.BoolOp .And (b::rest) pos) tB'):PW X (.BoolOp .And (a::b::rest) pos) (tAnd tA tB'):=by
 intro m f s i H Q I h;refine isTrue_and (thn (j f s i H _ I h) fun c l ⟨d,e,g⟩=>?_);cases c with
 |true=>exact k m f l i d Q e g
 |false=>exact⟨d,e,g⟩
def pw_or(j:PT X a tA)(k:PW X (.BoolOp .Or (b::rest) pos) tB'):PW X (.BoolOp .Or (a::b::rest) pos) (tOr tA tB'):=by
 intro m f s i H Q I h;refine isTrue_or (thn (j f s i H _ I h) fun c l ⟨d,e,g⟩=>?_);cases c with
 |true=>exact⟨d,e,g⟩
 |false=>exact k m f l i d Q e g
def pt_not(d:PT X a tA):PT X (.UnaryOp .Not a pos) (tNot tA):=by intro e s f H Q I h;exact isTrue_not (d e s f H (fun c b=>Q (!c) b) I h)
def GP(ta tb:TE):TE:=fun σ H Q=>ta σ H fun x H1=>∃c,x=.bl c/\if c=true then tb σ H1 Q else Q (.bl false) H1
def tOrV(ta tb:TE):TE:=fun σ H Q=>ta σ H fun x H1=>∃c,x=.bl c/\if c=true then Q (.bl true) H1 else tb σ H1 Q
def GK(ta:TE):TE:=fun σ H Q=>ta σ H fun x H1=>∃c,x=.bl c/\Q (.bl (!c)) H1
def HJ{op}{t:TE}(h:PE X a t):PE X (.BoolOp op [a] pos) t:=fun c s d H Q I b=>BoolOp_one (h c s d H Q I b)
def HQ(j:PE X a ta)(k:PE X (.BoolOp .And (b::rest) pos) tb):PE X (.BoolOp .And (a::b::rest) pos) (GP ta tb):=by
 intro g s i H Q I h;refine BoolOp_and (thn (j g s i H _ I h) fun v m ⟨x,e,f,l,d⟩=>?_);obtain⟨c,rfl,d⟩:=d;cases l;refine dQ ?_;cases c with
 |true=>exact k g m i e Q f d
 |false=>exact⟨.bl false,e,f,rfl,d⟩
def pe_or(j:PE X a ta)(k:PE X (.BoolOp .Or (b::rest) pos) tb):PE X (.BoolOp .Or (a::b::rest) pos) (tOrV ta tb):=by
 intro g s i H Q I h;refine BoolOp_or (thn (j g s i H _ I h) fun v m ⟨x,e,f,l,d⟩=>?_);obtain⟨c,rfl,d⟩:=d;cases l;refine dQ ?_;cases c with
 |false=>exact k g m i e Q f d
 |true=>exact⟨.bl true,e,f,rfl,d⟩
def pe_not(f:PE X a ta):PE X (.UnaryOp .Not a pos) (GK ta):=by intro g s j H Q I h;refine UnaryOp_ (thn (f g s j H _ I h) fun v k ⟨x,d,e,i,b⟩=>?_);obtain⟨c,rfl,b⟩:=b;cases i;exact not_of (dQ ⟨.bl (!c),d,e,rfl,b⟩)
def tIf(t:TT)(ta tb:TE):TE:=fun σ H Q=>t σ H fun c H1=>if c=true then ta σ H1 Q else tb σ H1 Q
def HK{c:Expr}(n:PT X c tA)(l:PE X a ta)(m:PE X b tb):PE X (.IfExp c a b pos) (tIf tA ta tb):=by
 intro e s f H Q I h;refine wpAny_IfExp (thn (n e s f H _ I h) fun d k ⟨g,i,j⟩=>?_);cases d with
 |true=>exact l e k f g Q i j
 |false=>exact m e k f g Q i j
end
def SqL(K:ao)(H:Hp)(a:Addr)(xs:List V):Prop:=
 Rd H a (.lst xs)\/
  ∃(o:Obj)(ad:Array Value)(n:Nat),K.lookup a=some o/\o.cls=.type "list"/\o.dict=none/\o.data=.seq ad n/\ad.size<=sizeLine/\bZ xs ad.toList
def SqT(K:ao)(H:Hp)(a:Addr)(xs:List V):Prop:=
 Rd H a (.tup xs)\/
  ∃(o:Obj)(ad:Array Value)(n:Nat),K.lookup a=some o/\o.cls=.type "tuple"/\o.data=.seq ad n/\ad.size<=sizeLine/\bZ xs ad.toList
abbrev absV:Value->Option V
 |.none=>some .non
 |.bool b=>some (.bl b)
 |.int i _=>some (.int i)
 |.str x _=>some (.str x)
 |.bytes b _=>some (.byt b)
 |.float b _=>some (.flt b)
 |.ref a=>some (.ref a)
 |.type n=>some (.ty n)
 |_=>none
def RelV.abs{x:V}(r:RelV x u):absV u=some x:=by
 cases x with
 |non=>cases r;rfl
 |bl _=>cases r;rfl
 |int _=>obtain⟨t,rfl⟩:=r;rfl
 |str _=>obtain⟨t,rfl⟩:=r;rfl
 |byt _=>obtain⟨t,rfl⟩:=r;rfl
 |flt _=>obtain⟨t,rfl⟩:=r;rfl
 |ref _=>cases r;rfl
 |ty _=>cases r;rfl
def RelV.inj{x y:V}(r:RelV x u)(q:RelV y u):x=y:=aX (r.abs.symm.trans q.abs)
theorem bZ.inj{xs ys:List V}(h:bZ xs us):bZ ys us->xs=ys:=by
 induction h generalizing ys with
 |nil=>intro k;cases k;rfl
 |cons r k ih=>
  intro w;cases w with
  |cons r' w'=>rw[r.inj r',ih w']
section
variable {X:Cx}{pins:List (Addr×Obj)}{σ:St}{H:Hp}{s:Shared}{a:Addr}{xs ys:List V}
def SqL.of(h:H a=some (.lst xs)):SqL K H a xs:=.inl (.inl h)
def SqT.of(h:H a=some (.tup xs)):SqT K H a xs:=.inl (.inl h)
def Inv.list(I:Inv X pins σ H s)(h:SqL X.K H a xs):∃ad:List Value,bZ xs ad/\PlainL s.heap a ad.toArray/\xs.length<=sizeLine:=by
 rcases h with h|⟨o,ad,n,d,b,c,f,g,r⟩;·obtain⟨z,ad,n,r,e⟩:=h.ok I.hok;exact⟨ad,r,⟨_,n,e,rfl,rfl,rfl⟩,z⟩
 ·refine⟨ad.toList,r,⟨o,n,I.kIn a o d,b,c,by simpa using f⟩,?_⟩;have e:=r.length;simp only[aT]at e;lia
def Inv.tuple(I:Inv X pins σ H s)(h:SqT X.K H a xs):∃ad:List Value,bZ xs ad/\IsTup s.heap a ad.toArray/\xs.length<=sizeLine:=by
 rcases h with h|⟨o,ad,n,c,b,d,f,r⟩;·obtain⟨z,ad,r,p⟩:=h.ok I.hok;exact⟨ad,r,p,z⟩
 ·refine⟨ad.toList,r,⟨o,I.kIn a o c,b,n,by simpa using d⟩,?_⟩;have e:=r.length;simp only[aT]at e;lia
def Inv.Am(I:Inv X pins σ H s)(h:SqL X.K H a xs)(h':SqL X.K H a ys):xs=ys:=by
 obtain⟨f,r,⟨o,n,e,_,_,d⟩,_⟩:=I.list h;obtain⟨g,i,⟨k,j,c,_,_,b⟩,_⟩:=I.list h';rw[e]at c;cases c;rw[d]at b;injection b with d1 _
 have :f=g:=by simpa using congrArg Array.toList d1
 subst this;exact r.inj i
def Inv.qN(I:Inv X pins σ H s)(h:SqT X.K H a xs)(h':SqT X.K H a ys):xs=ys:=by
 obtain⟨f,r,⟨o,e,_,n,d⟩,_⟩:=I.tuple h;obtain⟨g,i,⟨k,c,_,j,b⟩,_⟩:=I.tuple h';rw[e]at c;cases c;rw[d]at b;injection b with d1 _
 have :f=g:=by simpa using congrArg Array.toList d1
 subst this;exact r.inj i
end
section
variable {X:Cx}{st:Stmt}{rest:List Stmt}{t u:TS}{te:TE}
def tL:TS:=fun D σ H=>D.nx σ H
def vG(t u:TS):TS:=fun D σ H=>t {D with nx:=u D} σ H
def pss_nil:PSs X [] tL:=fun _ _ a H _ I h=>wpAny_execs_nil ⟨a,H,I,h⟩
def ub(d:PS X st t)(e:PSs X rest u):PSs X (st::rest) (vG t u):=by
 intro a s i H D I h;refine wpAny_execs_cons (thn (d a s i H {D with nx:=u D} I h) fun f g q=>?_);cases f with
 |next =>obtain⟨j,b,c,q⟩:=q;exact e a g j b D c q
 |ret v=>exact q
 |brk=>exact q
 |cont=>exact q
def GO:TS:=fun D σ H=>D.bk σ H
def tCont:TS:=fun D σ H=>D.ct σ H
def ps_pass:PS X (.Pass pos) tL:=fun _ _ a H _ I h=>wpAny_Pass ⟨a,H,I,h⟩
def Hz:PS X (.Break pos) GO:=fun _ _ a H _ I h=>wpAny_Break ⟨a,H,I,h⟩
def zU:PS X (.Continue pos) tCont:=fun _ _ a H _ I h=>wpAny_Continue ⟨a,H,I,h⟩
def Inv.quiet{a:St}{H:Hp}(I:Inv X pins a H s):interactive X.env=false:=by simp[interactive,I.ok.kind]
def GL(te:TE):TS:=fun D σ H=>te σ H fun _ H1=>D.nx σ H1
def ps_expr(d:PE X e te)(hs:sZ e none pos.line X.env=pure false:=by rfl):PS X (.Expr e pos) (GL te):=by intro f s a H D I h;exact wpAny_Expr_any (thn (d f s a H _ I h) fun v j ⟨x,b,c,i,g⟩=>⟨a,b,c,g⟩) I.quiet hs
def tRet(te:TE):TS:=fun D σ H=>te σ H D.rt
def ps_ret(d:PE X e te):PS X (.Return (some e) pos) (tRet te):=by intro f s a H D I h;exact wpAny_Return_some (thn (d f s a H _ I h) fun v j ⟨x,b,c,i,g⟩=>⟨x,a,b,c,i,g⟩)
def GI:TS:=fun D _ H=>D.rt .non H
def ps_retN:PS X (.Return none pos) GI:=fun _ _ a H _ I h=>wpAny_Return_none ⟨.non,a,H,I,rfl,h⟩
def tIfS(c:TT)(t u:TS):TS:=fun D σ H=>c σ H fun b H1=>if b=true then t D σ H1 else u D σ H1
def ps_if{c:Expr}{a b:List Stmt}{l:TT}(o:PT X c l)(m:PSs X a t)(n:PSs X b u):PS X (.If c a b pos) (tIfS l t u):=by
 intro e s f H D I h;refine wpAny_If (thn (o e s f H _ I h) fun d k ⟨g,i,j⟩=>?_);cases d with
 |true=>exact m e k f g D i j
 |false=>exact n e k f g D i j
end
noncomputable abbrev TG:=V->St->Hp->(St->Hp->Prop)->Prop
noncomputable abbrev TGs:=List V->St->Hp->(St->Hp->Prop)->Prop
def PG(X:Cx)(b:Expr)(t:TG):Prop:=
 ∀(pins:List (Addr×Obj))(s:Shared)(σ:St)(H:Hp)(v:V)(u:Value)(Q:St->Hp->Prop),Inv X pins σ H s->RelV v u->t v σ H Q->
  wpAny (model X.prog X.w) X.A (assign b X.env u) (fun _ s'=>∃a H',Inv X pins a H' s'/\Q a H') X.xe s
def PGs(X:Cx)(ts:List Expr)(t:TGs):Prop:=
 ∀(pins:List (Addr×Obj))(s:Shared)(σ:St)(H:Hp)(vs:List V)(us:List Value)(Q:St->Hp->Prop),Inv X pins σ H s->bZ vs us->t vs σ H Q->
  wpAny (model X.prog X.w) X.A (assignInOrder ((fF ts X.env).map (·.2)) us) (fun _ s'=>∃a H',Inv X pins a H' s'/\Q a H') X.xe s
section
variable {X:Cx}
def me(i:Nat):TG:=fun v σ H Q=>Q (σ.set i (some v)) H
def Dt(b:X.N.Nodup)(hi:X.N[i]? =some x)(c:Loc X.env.scope x)(hf:X.fn x=true\/X.env.scope.names.lookup x=some .local:=by first |exact .inl rfl|exact .inr rfl|assumption):PG X (.Name x pos) (me i):=by intro d s f H v u Q I r h;exact wpAny_assign_Name (zH I b hi c r (fun e a=>⟨_,H,a,h⟩) hf)
def gNil:TGs:=fun vs σ H Q=>vs=[]/\Q σ H
def Jd(t:TG)(u:TGs):TGs:=fun vs σ H Q=>∃v r,vs=v::r/\t v σ H fun a H'=>u r a H' Q
def pgs_nil:PGs X [] gNil:=by intro b s a H d c Q I r h;obtain⟨e,h⟩:=h;subst e;cases r;exact assignInOrder_nil ⟨a,H,I,h⟩
def HE{a:List Expr}{t:TG}{u:TGs}(g:PG X e t)(i:PGs X a u)
  (hs:(fF (e::a) X.env).map (·.2)=assign e X.env::(fF a X.env).map (·.2):=by rfl):PGs X (e::a) (Jd t u):=by
 intro b s l H p n Q I r h;obtain⟨v,o,f,h⟩:=h;subst f;cases r with
 |cons r rr=>rw[hs];refine assignInOrder_cons (thn (g b s l H _ _ _ I r h) fun _ k ⟨m,c,d,j⟩=>?_);exact i b k m c _ _ Q d rr j
def gTup(K:ao)(n:Nat)(t:TGs):TG:=fun v σ H Q=>∃a xs,v=.ref a/\SqT K H a xs/\xs.length=n/\t xs σ H Q
def pg_tup{c:List Expr}{t:TGs}(p:X.calm=true)(h:PGs X c t)
  (w:(fF c X.env).length=n:=by rfl) (x:(fF c X.env).findIdx? (·.1)=none:=by rfl):PG X (.Tuple c k pos) (gTup X.K n t):=by
 intro f s i H v u Q I r d;obtain⟨a,A,l,hq,q,d⟩:=d;subst l;cases r;obtain⟨C,g,y,B⟩:=I.tuple hq;refine assign_Tuple_tuple (I.ok.hd p) y (by simp[w,<-q,g.length]) x fun m z=>?_;have j:Inv X f i H {s with heap:=m}:=I.kept (t':=s.toks) fun b o e=>z b o (aO (aB e)) e;exact h f _ i H A _ Q j (by simpa using g) d
def xF(te:TE)(g:TG):TS:=fun D σ H=>te σ H fun x H1=>g x σ H1 D.nx
def HA{b:TE}{g:TG}(j:PE X e b)(k:PG X tg g)(hs:JT [tg] e pos.line X.env=pure false:=by rfl) (l:swappedStores [tg] e X.env=pure none:=by rfl)
  (i:(fF [tg] X.env).map (·.2)=[assign tg X.env]:=by rfl):PS X (.Assign [tg] e pos) (xF b g):=by
 intro a s c H D I h;refine wpAny_Assign_stores (thn (j a s c H _ I h) fun v o ⟨x,d,f,n,m⟩=>?_) hs l;rw[i];exact thn (k a o c d x v _ f n m) fun _ p q=>q
def ps_set{a:TE}(f:X.N.Nodup)(hi:X.N[i]? =some x)(j:Loc X.env.scope x)(g:PE X e a)(hs:sZ e (some (.Name x pos')) pos.line X.env=pure false:=by rfl) (hf:X.fn x=true\/X.env.scope.names.lookup x=some .local:=by first |exact .inl rfl|exact .inr rfl|assumption):
  PS X (.Assign [.Name x pos'] e pos) (xF a (me i)):=by
 intro k s n H D I h;refine wpAny_Assign_Name (thn (g k s n H _ I h) fun v o ⟨y,b,c,m,l⟩=>?_) hs;exact zH c f hi j m (fun p d=>⟨_,b,d,l⟩) hf
end
structure It where
 go:Nat->Hp->Prop
 yld:Nat->Hp->V->Hp->Prop
 stop:Nat->Hp->Prop
def m5(X:Cx)(pins:List (Addr×Obj))(H:Hp)(b:Addr):Prop:=
 H b=none/\b≠X.env.locals/\b∉X.fs/\(b∈X.ex\/X.s₀.heap.objs.size<=b)/\(∀x c,X.env.cells.lookup x=some c->c≠b)/\∀p∈X.pn++pins,p.1≠b
def Inv.yC{X:Cx}{g:St}{H H':Hp}(I:Inv X pins g H s)(a:s.heap.objs.size<=b)(d:H' b=none):m5 X pins H' b:=by
 refine⟨d,fO (bA I.lt a),I.nofs a,.inr (bf I.sz a),fun x c e z=>?_,fun p f z=>?_⟩;·obtain⟨v,q⟩:=I.cell x c e;exact absurd (bA q.lt (by rw[z];exact a)) (dO _)
 ·exact absurd (bA (aB (I.pin p f).1) (by rw[z];exact a)) (dO _)
structure Turn(P:Program)(w:World)(K:ao)(tg:Expr)(J:It)(fp:List Addr)(it:Addr)(tn:Nat->Heap->Prop):Prop where
 mem:it∈fp
 obj:∀i h,tn i h->∀b∈fp,∃o,h.get? b=some o/\∀v,o.data≠.cell v
 keep:∀i h h',tn i h->(∀b∈fp,∀o,h.get? b=some o->h'.get? b=some o)->tn i h'
 item:∀(X:Cx),X.prog=P->X.w=w->X.K=K->X.calm=true->∀(i:Nat)(pins:List (Addr×Obj))(s:Shared)(σ:St)(H:Hp)(E:Value->Shared->Prop),Inv X pins σ H s->(∀b∈fp,m5 X pins H b)->tn i s.heap->J.go i H->
  wpAny (model P w) X.A (pyNext (.ref it)) (fun r s1=>∃u,r=some u/\
   wpAny (model P w) X.A (qI tg (.ref it) u) (fun _ s2=>∃x H',Inv X pins σ H' s2/\RelV x u/\J.yld i H x H'/\tn (i+1) s2.heap/\∀b∈fp,H' b=none) E s1) E s
 done:∀(X:Cx),X.prog=P->X.w=w->X.K=K->X.calm=true->∀(i:Nat)(pins:List (Addr×Obj))(s:Shared)(σ:St)(H:Hp)(E:Value->Shared->Prop),Inv X pins σ H s->(∀b∈fp,m5 X pins H b)->tn i s.heap->J.stop i H->
  wpAny (model P w) X.A (pyNext (.ref it)) (fun r s1=>r=none/\Inv X pins σ H s1) E s
 self:∀(A:Around)(i:Nat)(s:Shared)(Q:Value->Shared->Prop)(E:Value->Shared->Prop),tn i s.heap->Q (.ref it) s->wpAny (model P w) A (pyIter (.ref it)) Q E s
noncomputable abbrev TI:=St->Hp->(It->Hp->Prop)->Prop
def PIE(X:Cx)(pins:List (Addr×Obj))(σ:St)(tg:Expr)(R:It->Hp->Prop)(c:Value)(s2:Shared):Prop:=
 ∃(it:Addr)(fp:List Addr)(a:Nat->Heap->Prop)(J:It)(H':Hp),c=.ref it/\Inv X pins σ H' s2/\Turn X.prog X.w X.K tg J fp it a/\a 0 s2.heap/\(∀b∈fp,m5 X pins H' b)/\R J H'
def PI(X:Cx)(tg iter:Expr)(wi:TI):Prop:=
 ∀(pins:List (Addr×Obj))(s:Shared)(σ:St)(H:Hp)(R:It->Hp->Prop),Inv X pins σ H s->wi σ H R->
  wpAny (model X.prog X.w) X.A (eval iter X.env) (fun v a=>wpAny (model X.prog X.w) X.A (pyIter v) (PIE X pins σ tg R) X.xe a) X.xe s
def DQ{M:Model}{o:Obj}{n:String}{vs:Array Value}{Q:Unit->Shared->Prop}(e:s.heap.get? it=some o)(b:o.cls=.type n)(c:o.data=.fields vs)
  (d:["enumerate","zip","dict_itemiterator","dict_reverseitemiterator","odict_iterator","itertools.zip_longest","itertools.pairwise"].contains n=false)(a:Q () s):wpAny M A (qI tg (.ref it) u) Q E s:=by
 unfold qI;cases tg<;>first
  |exact aj a
  | (cases u<;>first
    |exact aj a
    | (refine aa (wpAny_load e ?_)
       rw[b,c];show wpAny M A (if(["enumerate","zip","dict_itemiterator","dict_reverseitemiterator","odict_iterator","itertools.zip_longest","itertools.pairwise"].contains n&&vs[0]? ==some (rawInt _))=true then _ else _) Q E s;rw[if_neg (by intro h;rw[d,d5]at h;cases h)];exact aj a))
abbrev Itl(K:ao)(a:Addr):It:=
 ⟨fun i H=>∃xs x,SqL K H a xs/\xs[i]? =some x,fun i H x H'=>H'=H/\∀xs,SqL K H a xs->xs[i]? =some x,fun i H=>∃xs,SqL K H a xs/\xs.length<=i⟩
abbrev Itt(K:ao)(a:Addr):It:=
 ⟨fun i H=>∃xs x,SqT K H a xs/\xs[i]? =some x,fun i H x H'=>H'=H/\∀xs,SqT K H a xs->xs[i]? =some x,fun i H=>∃xs,SqT K H a xs/\xs.length<=i⟩
abbrev Itr(lo:Int)(n:Nat):It:=⟨fun i _=>i<n,fun i H x H'=>H'=H/\x=.int (lo+i),fun i _=>n<=i⟩
def v8(a j:Addr):Turn P w K tg (Itl K a) [j] j (fun i h=>h.IsListIter j a i) where
 mem:=by simp
 obj:=fun i h f b g=>by
  have e:b=j:=by simpa using g
  subst e;obtain⟨o,e,c,d⟩:=f;exact⟨o,e,fun v z=>by rw[d]at z;cases z⟩
 keep:=fun i h l f k=>f.at fun o e=>k j (by simp) o e
 item:=by intro X A C y G i J s M H E I hf f B;subst A C y;obtain⟨Y,x,hq,D⟩:=B;obtain⟨U,F,p,T⟩:=I.list hq;obtain⟨u,R,V⟩:=F.get D;obtain⟨m,n,Q,q,r,t⟩:=hf j (by simp);refine wpAny_pyNext_list_item f p.isList (x:=u) (by simpa using R) fun l L W=>?_;have N:Inv X J M H {s with heap:=l}:=I.turned (t':=s.toks) (fun b o g e=>(W.2 b g).trans e) m n q r t;obtain⟨o,e,c,d⟩:=id L;exact⟨u,rfl,DQ (s:={s with heap:=l}) e c d (by decide) ⟨x,H,N,V,⟨rfl,fun ys S=>by rw[I.Am S hq];exact D⟩,L,fun b g=>(hf b g).1⟩⟩
 done:=by intro X A C y G i J s M H E I hf f B;subst A C y;obtain⟨Y,hq,D⟩:=B;obtain⟨U,F,p,T⟩:=I.list hq;obtain⟨m,n,Q,q,r,t⟩:=hf j (by simp);have Z:=F.length;exact wpAny_pyNext_list_end (I.ok.hd G) f p.isList (by simp;lia) fun l O=>⟨rfl,I.turned (t':=s.toks) (fun b o g e=>O b o g e) m n q r t⟩
 self:=fun _ _ _ _ _ f h=>wpAny_pyIter_listiter f h
def BE(a j:Addr):Turn P w K tg (Itt K a) [j] j (fun i h=>h.IsTupleIter j a i) where
 mem:=by simp
 obj:=fun i h f b g=>by
  have e:b=j:=by simpa using g
  subst e;obtain⟨o,e,c,d⟩:=f;exact⟨o,e,fun v z=>by rw[d]at z;cases z⟩
 keep:=fun i h l f k=>f.at fun o e=>k j (by simp) o e
 item:=by intro X A C y J i L s N H E I hf f B;subst A C y;obtain⟨Y,x,hq,D⟩:=B;obtain⟨F,G,p,U⟩:=I.tuple hq;obtain⟨u,S,V⟩:=G.get D;obtain⟨m,n,R,q,r,t⟩:=hf j (by simp);refine wpAny_pyNext_tuple_item f (show s.heap.IsTuple a F.toArray from p) (x:=u) (by simpa using S) fun l M W=>?_;have O:Inv X L N H {s with heap:=l}:=I.turned (t':=s.toks) (fun b o g e=>(W.2 b g).trans e) m n q r t;obtain⟨o,e,c,d⟩:=id M;exact⟨u,rfl,DQ (s:={s with heap:=l}) e c d (by decide) ⟨x,H,O,V,⟨rfl,fun ys T=>by rw[I.qN T hq];exact D⟩,M,fun b g=>(hf b g).1⟩⟩
 done:=by intro X A C y J i L s N H E I hf f B;subst A C y;obtain⟨Y,hq,D⟩:=B;obtain⟨F,G,p,U⟩:=I.tuple hq;obtain⟨m,n,R,q,r,t⟩:=hf j (by simp);have Z:=G.length;exact wpAny_pyNext_tuple_end (I.ok.hd J) f (show s.heap.IsTuple a F.toArray from p) (by simp;lia) fun l Q=>⟨rfl,I.turned (t':=s.toks) (fun b o g e=>Q b o g e) m n q r t⟩
 self:=fun _ _ _ _ _ f h=>wpAny_pyIter_tupleiter f h
def BF(c:Addr)(lo:Int)(n:Nat):Turn P w K tg (Itr lo n) [c] c (fun i h=>IsRangeIter h c (lo+(i:Nat)*1) ((n:Int)-(i:Nat)) 1) where
 mem:=by simp
 obj:=fun i h a b d=>by
  have e:b=c:=by simpa using d
  subst e;exact⟨_,a,fun v z=>by have M:Data.fields _=Data.cell v:=z;cases M⟩
 keep:=fun i h f a k=>k c (by simp) _ a
 item:=by intro X r y q u i A s C H E I hf a x;subst r y q;obtain⟨g,j,G,l,m,p⟩:=hf c (by simp);have W:=Walks.range (prog:=X.prog) (w:=X.w) (I.ok.hd u) c lo 1 n;refine W.item i s _ _ x a fun v f tk J B L=>?_;obtain⟨t,rfl⟩:=J;have D:Inv X A C H {s with heap:=f,toks:=tk}:=I.turned (fun b o d e=>L b o (by simpa using d) e) g j l m p;refine⟨_,rfl,DQ (s:={s with heap:=f,toks:=tk}) (n:="range_iterator") B rfl rfl (by decide) ⟨.int (lo+i),H,D,⟨t,?_⟩,⟨rfl,rfl⟩,B,fun b d=>(hf b d).1⟩⟩;rw[Int.mul_one]
 done:=by intro X r y q u i A s C H E I hf a x;subst r y q;obtain⟨g,j,G,l,m,p⟩:=hf c (by simp);exact wpAny_pyNext_range_end (I.ok.hd u) a (by have :n<=i:=x;lia) fun f F=>⟨rfl,I.turned (t':=s.toks) (fun b o d e=>F b o d e) g j l m p⟩
 self:=fun _ _ _ _ _ a h=>wpAny_pyIter_rangeiter a h
section
variable {X:Cx}
def IX(K:ao)(tl:TE):TI:=fun σ H R=>tl σ H fun x H1=>∃a,x=.ref a/\(∃xs,SqL K H1 a xs)/\R (Itl K a) H1
def pi_list{l:Expr}{f:TE}(j:PE X l f):PI X tg l (IX X.K f):=by
 intro k s r H R I h;refine thn (j k s r H _ I h) fun v d ⟨x,g,c,n,m⟩=>?_;obtain⟨a,e,⟨y,hq⟩,q⟩:=m;subst e;cases n;obtain⟨u,w,p,t⟩:=c.list hq;refine nJ p.isList ?_;refine⟨d.heap.objs.size,[d.heap.objs.size],_,_,g,rfl,c.kept (t':=d.toks) fun b o e=>ai _ e,v8 a _,⟨_,az _ rfl,rfl,rfl⟩,fun b i=>?_,q⟩;have e:b=d.heap.objs.size:=by simpa using i
 subst e;exact c.yC (aC _) (c.hok.fresh (aC _))
def zR{c:St}{H:Hp}{R:It->Hp->Prop}{lo hi:Int}{t u v:Tok}{tk:Nat}(I:Inv X pins c H s)(g: -(2^62)<=lo)(h:lo<2^62)(i: -(2^62)<=hi)(j:hi<2^62)
  (q:R (Itr lo (hi-lo).toNat) H):wpAny (model X.prog X.w) X.A (pyIter (.ref s.heap.objs.size)) (PIE X pins c tg R) E {s with heap:=s.heap.push {cls:=.type "range",data:=.fields #[.int lo t,.int hi u,.int 1 v]},toks:=tk}:=by
 refine wpAny_pyIter_range (IsRange.new ..) (small_one g h i j) ?_;have a:Inv X pins c H {s with heap:=s.heap.push {cls:=.type "range",data:=.fields #[.int lo t,.int hi u,.int 1 v]},toks:=tk}:=I.kept fun b o e=>ai _ e;refine⟨(s.heap.push {cls:=.type "range",data:=.fields #[.int lo t,.int hi u,.int 1 v]}).objs.size,[(s.heap.push {cls:=.type "range",data:=.fields #[.int lo t,.int hi u,.int 1 v]}).objs.size],_,_,H,rfl,
  a.kept (t':=tk) fun b o e=>ai _ e,BF _ lo (hi-lo).toNat,?_,fun b k=>?_,q⟩
 ·have d:lo+((0:Nat):Int)*1=lo:=by simp
  have f:(((hi-lo).toNat:Nat):Int)-((0:Nat):Int)=tE lo hi 1:=by rw[rangeSize_one];split <;>lia
  show IsRangeIter _ _ (lo+((0:Nat):Int)*1) ((((hi-lo).toNat:Nat):Int)-((0:Nat):Int)) 1;rw[d,f];exact az _ rfl
 ·have e:b=(s.heap.push {cls:=.type "range",data:=.fields #[.int lo t,.int hi u,.int 1 v]}).objs.size:=by simpa using k
  subst e;exact a.yC (aC _) (a.hok.fresh (aC _))
def IW(ta:TA):TI:=fun σ H R=>ta σ H fun vs H1=>∃j:Int,vs=[.int j]∧-(2^62)<=j/\j<2^62/\R (Itr 0 j.toNat) H1
def IV(ta:TA):TI:=fun σ H R=>ta σ H fun vs H1=>∃i j:Int,vs=[.int i,.int j]/\(-(2^62)<=i/\i<2^62∧-(2^62)<=j/\j<2^62)/\R (Itr i (j-i).toNat) H1
def EU{a:Expr}{c:TA}{p:Pos}(g:Gl X "range")(i:X.mg "range"=none)(f:PA X [a] c)(hs:cf [a] X.env=[(false,eval a X.env)]:=by rfl):PI X tg (.Call (.Name "range" p) [a] [] pos) (IW c):=by
 intro k s n H R I h;refine Call_ (i5 I g i boot_range (cH (thn (f pos k s n H _ I h) fun v u ⟨w,o,d,m,b⟩=>?_) hs rfl));obtain⟨j,e,b,l,q⟩:=b;subst e;cases m with
 |cons r rr=>cases rr;obtain⟨t,rfl⟩:=r;exact call_range_1 (zR d (by lia) (by lia) b l (by simpa using q))
def ET{a b:Expr}{f:TA}{p:Pos}(l:Gl X "range")(m:X.mg "range"=none)(k:PA X [a,b] f)(hs:cf [a,b] X.env=[(false,eval a X.env),(false,eval b X.env)]:=by rfl) (d:cf [b] X.env=[(false,eval b X.env)]:=by rfl):
  PI X tg (.Call (.Name "range" p) [a,b] [] pos) (IV f):=by
 intro n s x H R I h;refine Call_ (i5 I l m boot_range (cH (thn (k pos n s x H _ I h) fun B z ⟨C,y,g,w,c⟩=>?_) (by rw[hs,d]) (by rw[d];rfl)));obtain⟨i,j,e,⟨c,o,u,v⟩,q⟩:=c;subst e;cases w with
 |cons r rr=>
  cases rr with
  |cons r' rr=>cases rr;obtain⟨t,rfl⟩:=r;obtain⟨A,rfl⟩:=r';exact call_range_2 (zR g c o u v q)
def tFor(wi:TI)(g:TG)(tb:TS):TS:=fun D σ H=>wi σ H fun J H1=>∃W:Nat->Nat->St->Hp->Prop,(∃m,W 0 m σ H1)/\∀i m σ H,W i m σ H->
 (J.stop i H/\D.nx σ H)\/(J.go i H/\∃N:St->Hp->Prop,(∀b H',N b H'->∃a,a<m/\W (i+1) a b H')/\∀x H',J.yld i H x H'->g x σ H' fun c H2=>tb {D with nx:=N,ct:=N,bk:=D.nx} c H2)
abbrev jo(fp:List Addr)(h:Heap):List (Addr×Obj):=fp.filterMap fun b=>(h.get? b).map fun o=>(b,o)
def i3{o:Obj}(a:b∈fp)(e:h.get? b=some o):(b,o)∈jo fp h:=sv.mpr ⟨b,a,by rw[e];rfl⟩
def qY{p:Addr×Obj}(d:p∈jo fp h):p.1∈fp/\h.get? p.1=some p.2:=by
 obtain⟨b,c,e⟩:=sv.mp d;cases q:h.get? b with
 |none=>rw[q]at e;cases e
 |some o=>rw[q]at e;have a:(b,o)=p:=aX e;subst a;exact⟨c,q⟩
def Inv.pinned{f:St}{H:Hp}(I:Inv X pins f H s)(hf:∀b∈fp,m5 X pins H b)(j:∀b∈fp,∃o,s.heap.get? b=some o/\∀v,o.data≠.cell v):Inv X (pins++jo fp s.heap) f H s:=
 I.ya fun p k=>(aU.mp k).elim (fun z=>I.pin p (bo _ z)) fun z=>by obtain⟨c,e⟩:=qY z;obtain⟨g,h,i,_⟩:=hf p.1 c;obtain⟨o,a,d⟩:=j p.1 c;rw[e]at a;cases a;exact⟨e,g,h,i,d⟩
def Inv.iI{c:List (Addr×Obj)}{a:St}{H:Hp}(I:Inv X (pins++c) a H s):Inv X pins a H s:=I.ya fun p b=>I.pin p (bo _ (jP _ b))
def ps_for{iter:Expr}{C:List Stmt}{O:TI}{g:TG}{tb:TS}(p:PassesOwn (model X.prog X.w) X.A X.env X.xe)(G:X.calm=true)(hi:PI X tg iter O)(hg:PG X tg g)(d:PSs X C tb)
  (hs:∀x,jF iter X.env x=pure x:=by intro _;rfl):PS X (.For tg iter C [] pos) (tFor O g tb):=by
 intro k a5 P H D I a3;refine wpAny_For (thn (hi k a5 P H _ I a3) fun a9 s1 h1=>thn h1 fun b3 s2 h2=>?_) hs;obtain⟨it,l,N,b1,Q,e,S,T,a6,E,W,⟨m0,w0⟩,turn⟩:=h2;subst e
 --what stays true of the iterator's objects through the loop
 have y:∀{h:Hp},(∀b∈l,h b=none)->∀b∈l,m5 X k h b:=fun hn b d=>⟨hn b d,(E b d).2⟩;refine codeAny_forLoop_any (fun n J=>∃i r h,Inv X k r h J/\N i J.heap/\(∀b∈l,h b=none)/\W i n r h) ?_ m0 ⟨0,P,Q,S,a6,fun b d=>(E b d).1,w0⟩;rintro n K ⟨i,s,t,A,M,F,w3⟩;rcases turn i n s t w3 with⟨a7,qn⟩ |⟨go,a0,hN,step⟩;·refine lJ p (thn (T.done X rfl rfl rfl G i k K s t X.xe A (y F) M a7) fun a4 s4 ⟨u,U⟩=>?_);subst u;exact wpAny_execs_nil ⟨s,t,U,qn⟩
 ·refine lJ p (thn (T.item X rfl rfl rfl G i k K s t X.xe A (y F) M go) fun a4 s4 ⟨a8,u,h4⟩=>?_);subst u;refine lJ p (thn h4 fun _ L ⟨x,z,V,r5,y5,w,a2⟩=>?_);have Y:=V.pinned (y a2) (T.obj _ _ w);refine lJ p (thn (hg _ L s z x a8 _ Y r5 (step x z y5)) fun _ s6 ⟨b0,R,Z,q6⟩=>?_);refine lJ p (thn (d _ s6 b0 R _ Z q6) fun a1 v j=>?_);have B:∀{f:St}{a:Hp},Inv X (k++jo l L.heap) f a v->a0 f a->∃m,m<n/\∃i r h,Inv X k r h v/\N i v.heap/\(∀b∈l,h b=none)/\W i m r h:=fun{f a} c q=>by obtain⟨m',hm,w7⟩:=hN f a q;refine⟨m',hm,i+1,f,a,c.iI,T.keep _ _ _ w fun b d o e=>(c.pin (b,o) (bo _ (bo _ (i3 d e)))).1,fun b d=>?_,w7⟩;obtain⟨o,e,b2⟩:=T.obj _ _ w b d;exact(c.pin (b,o) (bo _ (bo _ (i3 d e)))).2.1
  cases a1 with
  |next =>obtain⟨f,a,c,q⟩:=j;exact B c q
  |cont=>obtain⟨f,a,c,q⟩:=j;exact B c q
  |brk=>obtain⟨f,a,c,j⟩:=j;exact⟨f,a,c.iI,j⟩
  |ret a9=>obtain⟨x7,f,a,c,r7,j⟩:=j;exact⟨x7,f,a,c.iI,r7,j⟩
end
noncomputable abbrev R2:=V->V->Hp->VK->Prop
def OpR(X:Cx)(f:Value->Value->Sem Value)(r:R2):Prop:=
 ∀(pins:List (Addr×Obj))(s:Shared)(σ:St)(H:Hp)(x y:V)(v u:Value)(Q:VK),Inv X pins σ H s->RelV x v->RelV y u->r x y H Q->
  wpAny (model X.prog X.w) X.A (f v u) (EP X pins σ Q) X.xe s
def gp(X:Cx)(f:Value)(r:List V->Hp->VK->Prop):Prop:=
 ∀(pins:List (Addr×Obj))(s:Shared)(σ:St)(H:Hp)(xs:List V)(us:List Value)(Q:VK),Inv X pins σ H s->bZ xs us->r xs H Q->
  wpAny (model X.prog X.w) X.A (call f us) (EP X pins σ Q) X.xe s
def TruR(X:Cx)(r:V->Hp->(Bool->Hp->Prop)->Prop):Prop:=
 ∀(pins:List (Addr×Obj))(s:Shared)(σ:St)(H:Hp)(x:V)(v:Value)(Q:Bool->Hp->Prop),Inv X pins σ H s->RelV x v->r x H Q->
  wpAny (model X.prog X.w) X.A (truthy v) (TP X pins σ Q) X.xe s
def tOp(r:R2)(ta tb:TE):TE:=fun σ H Q=>ta σ H fun x H1=>tb σ H1 fun y H2=>r x y H2 Q
def rI(C:Int->Int->Prop)(g:Int->Int->V):R2:=fun x y H Q=>∃i j,x=.int i/\y=.int j/\C i j/\Q (g i j) H
def rI0(g:Int->Int->V):R2:=fun x y H Q=>∃i j,x=.int i/\y=.int j/\Q (g i j) H
section
variable {X:Cx}{a b c:Expr}{ta tb tc:TE}
def binT(g:PE X a ta)(i:PE X b tb){c:St}{H:Hp}{R:V->V->Hp->Prop}(I:Inv X pins c H s)
  (h:ta c H fun x H1=>tb c H1 fun y H2=>R x y H2){Q:Value->Shared->Prop}{f:Value->Value->Sem Value}
  (hf:∀v u s2 x y H2,Inv X pins c H2 s2->RelV x v->RelV y u->R x y H2->wpAny (model X.prog X.w) X.A (f v u) Q X.xe s2):
  wpAny (model X.prog X.w) X.A (eval a X.env) (fun v o=>wpAny (model X.prog X.w) X.A (eval b X.env) (fun u p=>wpAny (model X.prog X.w) X.A (f v u) Q X.xe p) X.xe o) X.xe s:=by
 refine thn (g pins s c H _ I h) fun v n ⟨x,H1,d,l,j⟩=>?_;refine thn (i pins n c H1 _ d j) fun u s2 ⟨y,H2,e,m,k⟩=>?_;exact hf v u s2 x y H2 e l m k
def pe_op{op:Operator}{r:R2}(g:OpR X (gb op) r)(e:PE X a ta)(f:PE X b tb):PE X (.BinOp a op b pos) (tOp r ta tb):=by intro i s m H Q I h;exact wpAny_BinOp (binT e f I h fun v u l x y c d j k q=>g i l m c x y v u Q d j k q)
def opI{f:Value->Value->Sem Value}{C:Int->Int->Prop}{g:Int->Int->Int}
  (b:∀(i j:Int)(t u:Tok)(s:Shared)(Q:Value->Shared->Prop)(E:Value->Shared->Prop),C i j->Q (.int (g i j) s.toks) {s with toks:=s.toks+1}->wpAny (model X.prog X.w) X.A (f (.int i t) (.int j u)) Q E s):
  OpR X f (rI C fun i j=>.int (g i j)):=by
 intro k s l H x y v u Q I c d h;obtain⟨i,j,rfl,rfl,a,q⟩:=h;obtain⟨t,rfl⟩:=c;obtain⟨e,rfl⟩:=d;exact b i j t e s _ _ a ⟨.int (g i j),H,I.tok _,⟨_,rfl⟩,q⟩
def opI0{f:Value->Value->Sem Value}{g:Int->Int->Int}
  (a:∀(i j:Int)(t u:Tok)(s:Shared)(Q:Value->Shared->Prop)(E:Value->Shared->Prop),Q (.int (g i j) s.toks) {s with toks:=s.toks+1}->wpAny (model X.prog X.w) X.A (f (.int i t) (.int j u)) Q E s):
  OpR X f (rI0 fun i j=>.int (g i j)):=by
 intro e s k H x y v u Q I b c h;obtain⟨i,j,rfl,rfl,q⟩:=h;obtain⟨t,rfl⟩:=b;obtain⟨d,rfl⟩:=c;exact a i j t d s _ _ ⟨.int (g i j),H,I.tok _,⟨_,rfl⟩,q⟩
def opB0{f:Value->Value->Sem Value}{g:Int->Int->Bool}
  (a:∀(i j:Int)(t u:Tok)(s:Shared)(Q:Value->Shared->Prop)(E:Value->Shared->Prop),Q (.bool (g i j)) s->wpAny (model X.prog X.w) X.A (f (.int i t) (.int j u)) Q E s):
  OpR X f (rI0 fun i j=>.bl (g i j)):=by
 intro e s k H x y v u Q I b c h;obtain⟨i,j,rfl,rfl,q⟩:=h;obtain⟨t,rfl⟩:=b;obtain⟨d,rfl⟩:=c;exact a i j t d s _ _ ⟨.bl (g i j),H,I,rfl,q⟩
def JS(i j:Int):Prop:=0<j/\j<1073741824
def FO(i j:Int):Prop:=0<=j/\j<=1000000/\i.natAbs<2^64
def C1(i j:Int):Prop:=(-(2^64)<i/\i<2^64)\/(-(2^64)<j/\j<2^64)
def C1.ok{i j:Int}(h:C1 i j):IntMulOk i j:=by
 rcases h with⟨a,b⟩ |⟨a,b⟩;·exact .of_left (intBits_le_64 a b)
 ·exact .of_right (intBits_le_64 a b)
def BD(k:Nat):(0:Int)<=2^k:=by rw[two_pow_cast];exact Int.natCast_nonneg _
def op_add:OpR X (gb .Add) (rI0 fun i j=>.int (i+j)):=opI0 fun _ _ _ _ _ _ _ q=>add_int q
def op_sub:OpR X (gb .Sub) (rI0 fun i j=>.int (i-j)):=opI0 fun _ _ _ _ _ _ _ q=>sub_int q
def op_mul:OpR X (gb .Mult) (rI C1 fun i j=>.int (i*j)):=opI fun _ _ _ _ _ _ _ a q=>mul_int q a.ok
def op_fdiv:OpR X (gb .FloorDiv) (rI JS fun i j=>.int (i/j)):=opI fun i j _ _ _ _ _ a q=>by have b:(0:Int)<j:=a.1;have c:j<1073741824:=a.2;exact floordiv_int (by lia) (by rw[Be i (by lia)];exact q) (.inl (PyProof.noPylong_small (by lia)))
def op_mod:OpR X (gb .Mod) (rI (fun _ j=>0<j) fun i j=>.int (i%j)):=opI fun i j _ _ _ _ _ a q=>by have b:(0:Int)<j:=a;exact mod_int' (by lia) (by rw[Int.fmod_eq_emod_of_nonneg i (by lia)];exact q)
def op_pow:OpR X (gb .Pow) (rI FO fun i j=>.int (i^j.toNat)):=opI fun _ _ _ _ _ _ _ a q=>pow_int_small a.1 a.2.1 a.2.2 q
def op_shl:OpR X (gb .LShift) (rI FO fun i j=>.int (i*2^j.toNat)):=opI fun _ _ _ _ _ _ _ a q=>lshift_int_small a.1 a.2.1 a.2.2 q
def op_shr:OpR X (gb .RShift) (rI (fun _ j=>0<=j) fun i j=>.int (i/2^j.toNat)):=opI fun i j _ _ _ _ _ a q=>
 rshift_int a (by rw[Be i (BD _)];exact q)
def op_and:OpR X (gb .BitAnd) (rI0 fun i j=>.int (iZ i j)):=opI0 fun _ _ _ _ _ _ _ q=>and_int q
def op_xor:OpR X (gb .BitXor) (rI0 fun i j=>.int (km i j)):=opI0 fun _ _ _ _ _ _ _ q=>xor_int q
end
section
variable {X:Cx}{a b c:Expr}{ta tb tc:TE}
def uM{b:St}{H:Hp}{Q:VK}{k a:Bool}(I:Inv X pins b H s)(q:Q (.bl k) H)(e:k=a):EP X pins b Q (.bool a) s:=by subst e;exact⟨.bl k,H,I,rfl,q⟩
def op_lt:OpR X (dU .Lt) (rI0 fun i j=>.bl (decide (i<j))):=opB0 fun _ _ _ _ _ _ _ q=>lt_int q
def op_le:OpR X (dU .LtE) (rI0 fun i j=>.bl (decide (i<=j))):=opB0 fun _ _ _ _ _ _ _ q=>le_int q
def op_gt:OpR X (dU .Gt) (rI0 fun i j=>.bl (decide (j<i))):=opB0 fun _ _ _ _ _ _ _ q=>gt_int q
def op_ge:OpR X (dU .GtE) (rI0 fun i j=>.bl (decide (j<=i))):=opB0 fun _ _ _ _ _ _ _ q=>ge_int q
def E1:OpR X (dU .In) (fun x y H Q=>∃i j,x=.str i/\y=.str j/\Q (.bl (!(ix j i 0 j.length 1).isEmpty)) H):=by intro c s e H x y v u Q I a b h;obtain⟨i,j,rfl,rfl,q⟩:=h;obtain⟨t,rfl⟩:=a;obtain⟨d,rfl⟩:=b;exact in_str (uM I q rfl)
def op_isN:OpR X (dU .Is) (fun x y H Q=>y=.non/\Q (.bl (decide (x=.non))) H):=by
 intro c s d H x y v u Q I a b h;obtain⟨rfl,q⟩:=h;cases b;refine is_none_gen (uM I q ?_);cases x<;>first
  | (cases a;rfl)
  | (obtain⟨t,rfl⟩:=a;rfl)
def op_notN:OpR X (dU .IsNot) (fun x y H Q=>y=.non/\Q (.bl (!decide (x=.non))) H):=by
 intro c s d H x y v u Q I a b h;obtain⟨rfl,q⟩:=h;cases b;refine isnot_none_gen (uM I q ?_);cases x<;>first
  | (cases a;rfl)
  | (obtain⟨t,rfl⟩:=a;rfl)
def OpR.or{f:Value->Value->Sem Value}{r r':R2}(h:OpR X f r)(h':OpR X f r'):OpR X f (fun x y H Q=>r x y H Q\/r' x y H Q):=by
 intro a s d H x y v u Q I b c q;rcases q with q|q;·exact h a s d H x y v u Q I b c q
 ·exact h' a s d H x y v u Q I b c q
def pe_cmpR{op:CmpOp}{r:R2}(i:OpR X (dU op) r)(e:PE X a ta)(f:PE X b tb)(g:JW op b=false):PE X (.Compare a [op] [b] pos) (tOp r ta tb):=by intro j s n H Q I h;exact wpAny_Compare1 (binT e f I h fun v u m x y c d k l q=>i j m n c x y v u Q d k l q) g
def zD(t:TE):TT:=fun σ H Q=>t σ H fun x H'=>∃k,x=.bl k/\Q k H'
def pt_cmpR{op:CmpOp}{r:R2}(t:OpR X (dU op) r)(o:PE X a ta)(p:PE X b tb)(q:JW op b=false):PT X (.Compare a [op] [b] pos) (zD (tOp r ta tb)):=by
 intro d s f H Q I h;refine wpAny_isTrue_Compare1 (thn (o d s f H _ I h) fun v F ⟨x,g,l,C,w⟩=>thn (p d F f g _ l w) fun u G ⟨y,i,m,D,A⟩=>
  thn (t d G f i x y v u _ m C D A) fun c J ⟨z,j,n,E,k,e,B⟩=>?_) q
 subst e;cases E;exact dQ ⟨j,n,B⟩
def tN(r r':R2)(ta tb tc:TE):TE:=fun σ H Q=>ta σ H fun x H1=>tb σ H1 fun y H2=>r x y H2 fun z a=>∃k,z=.bl k/\
 (if k=true then tc σ a fun c b=>r' y c b Q else Q (.bl false) a)
def HM{op i:CmpOp}{r r':R2}(F:OpR X (dU op) r)(G:OpR X (dU i) r')(B:PE X a ta)(C:PE X b tb)(D:PE X c tc)
  (E:lastMarks [op,i] [b,c]=false:=by with_unfolding_all rfl):PE X (.Compare a [op,i] [b,c] pos) (tN r r' ta tb tc):=by
 intro f s g H Q I h;refine Compare_chain (thn (B f s g H _ I h) fun v P ⟨x,o,t,M,J⟩=>chain_link (thn (C f P g o _ t J) fun u R ⟨y,p,w,n,K⟩=>
  thn (F f R g p x y v u _ w M n K) fun d S ⟨z,j,l,N,k,e,m⟩=>?_)) E
 subst e;cases N;refine dQ ?_;cases k with
 |false=>exact ite_ff ⟨.bl false,j,l,rfl,m⟩
 |true=>exact ite_tt (chain_last (thn (D f S g j _ l m) fun U T ⟨V,q,A,O,L⟩=>G f T g q y V u U Q A n O L))
def Hx{op g:CmpOp}{r r':R2}(J:OpR X (dU op) r)(K:OpR X (dU g) r')(D:PE X a ta)(E:PE X b tb)(F:PE X c tc)
  (G:lastMarks [op,g] [b,c]=false:=by with_unfolding_all rfl):PT X (.Compare a [op,g] [b,c] pos) (zD (tN r r' ta tb tc)):=by
 intro d s f H a0 I h;refine isTrue_chain (thn (D d s f H _ I h) fun v U ⟨x,n,t,Q,M⟩=>test_link (thn (E d U f n _ t M) fun u V ⟨y,o,w,m,N⟩=>
  thn (J d V f o x y v u _ w Q m N) fun a1 W ⟨a2,i,j,R,k,e,l⟩=>?_)) G
 subst e;cases R;refine dQ ?_;cases k with
 |false=>obtain⟨k',B,L⟩:=l;cases B;exact ite_ff ⟨i,j,L⟩
 |true=>refine ite_tt (test_last (thn (F d W f i _ j l) fun Z Y ⟨z',p,z,S,O⟩=>thn (K d Y f p y z' u Z _ z m S O) fun d' s5 ⟨z2,q,A,T,k2,C,P⟩=>?_));subst C;cases T;exact dQ ⟨q,A,P⟩
def TruV(K:ao)(x:V)(H:Hp)(k:Bool):Prop:=
 match x with
 |.non=>k=false
 |.bl b=>k=b
 |.int i=>k=(i != 0)
 |.str y=>y.length<=sizeLine/\k=((y.length:Int) != 0)
 |.byt y=>y.size<=sizeLine/\k=((y.size:Int) != 0)
 |.ref p=>(∃xs,SqL K H p xs/\k= !xs.isEmpty)\/(∃xs,SqT K H p xs/\k= !xs.isEmpty)\/∃kvs,H p=some (.dK kvs)/\k= !kvs.isEmpty
 |_=>False
def Cq{κ:Type}{a:List (κ×V)}{vs:List (κ×Value)}(r:KV a vs):(!vs.isEmpty)= !a.isEmpty:=by cases r<;>rfl
def uH{xs:List V}(r:bZ xs ad):(!ad.toArray.isEmpty)= !xs.isEmpty:=by cases r<;>simp
def rf:(sizeLine:Nat)<2^63:=by rw[sJ];decide
def tru_ok:TruR X (fun x H Q=>∃k,TruV X.K x H k/\Q k H):=by
 intro C s D H x v Q I f h;obtain⟨k,e,q⟩:=h;have A:=rf;have B:sizeLine=16777216:=sJ;cases x with
 |non=>cases f;have a:k=false:=e;subst a;exact truthy_none ⟨H,I,q⟩
 |bl b=>cases f;have a:k=b:=e;subst a;exact dQ ⟨H,I,q⟩
 |int i=>obtain⟨t,rfl⟩:=f;have a:k=(i != 0):=e;subst a;exact PySem.P.truthy_int ⟨H,I,q⟩
 |str y=>obtain⟨t,rfl⟩:=f;obtain⟨w,a⟩:y.length<=sizeLine/\k=((y.length:Int) != 0):=e;subst a;exact PySem.P.truthy_str (by lia) ⟨H,I.tok _,q⟩
 |byt y=>obtain⟨t,rfl⟩:=f;obtain⟨w,a⟩:y.size<=sizeLine/\k=((y.size:Int) != 0):=e;subst a;exact PySem.W.truthy_bytes (by lia) ⟨H,I.tok _,q⟩
 |ref p=>
  cases f;have a:(∃c,SqL X.K H p c/\k= !c.isEmpty)\/(∃c,SqT X.K H p c/\k= !c.isEmpty)\/∃d,H p=some (.dK d)/\k= !d.isEmpty:=e;rcases a with⟨c,g,a⟩ |⟨c,g,a⟩ |⟨d,g,a⟩;·subst a;obtain⟨z,r,l,o⟩:=I.list g;have n:=r.length;exact wpAny_truthy_list l.isList (by simp only[aD];lia) ⟨H,I.tok _,by rw[uH r];exact q⟩
  ·subst a;obtain⟨z,r,l,o⟩:=I.tuple g;have n:=r.length;exact truthy_tuple l (by simp only[aD];lia) ⟨H,I.tok _,by rw[uH r];exact q⟩
  ·subst a;obtain⟨o,u,j,r,m⟩:d.length<=sizeLine/\(p==gN)=false/\∃j,KV d j/\s.heap.DictOf (bg X.prog X.w) p j:=I.hok p _ g;have n:d.length=j.length:=iE r;exact wpAny_truthy_dict u m (by lia) ⟨H,I.tok _,by rw[Cq r];exact q⟩
 |_=>exact(show False from e).elim
def lu(f:PE X a ta)(g:∀c,isTrue a X.env c=(do let v<-c;standAt a.pos;holding [v] (truthy v))):
  PT X a (fun σ H Q=>ta σ H fun x H'=>∃k,TruV X.K x H' k/\Q k H'):=by
 intro b s σ H Q I h;exact isTrue_plain (thn (f b s σ H _ I h) fun v l ⟨x,d,e,j,i⟩=>tru_ok b l σ d x v Q e j i) (g _)
def B7:OpR X (gb .Add) (fun x y H Q=>∃i j,x=.str i/\y=.str j/\i.length+j.length<=sizeLine/\Q (.str (i++j)) H):=by intro e s f H x y v u Q I b c h;obtain⟨i,j,rfl,rfl,a,q⟩:=h;obtain⟨t,rfl⟩:=b;obtain⟨d,rfl⟩:=c;exact add_str (fun d tk=>⟨.str (i++j),H,I.tok _,⟨_,rfl⟩,q⟩) a
def vals1{x:V}(r:bZ [x] us):∃u,us=[u]/\RelV x u:=by
 cases r with
 |cons r1 r2=>cases r2;exact⟨_,rfl,r1⟩
def vals2{x y:V}(r:bZ [x,y] us):∃u a,us=[u,a]/\RelV x u/\RelV y a:=by
 cases r with
 |cons r1 r2=>
  cases r2 with
  |cons r3 r4=>cases r4;exact⟨_,_,rfl,r1,r3⟩
def FI:gp X (.type "int") (fun xs H Q=>(∃i,xs=[.int i]/\Q (.int i) H)\/∃k,xs=[.bl k]/\Q (.int (if k then 1 else 0)) H):=by
 intro b s d H xs c Q I r h;rcases h with⟨i,rfl,q⟩ |⟨k,rfl,q⟩;·obtain⟨u,rfl,t,rfl⟩:=vals1 r;exact call_int_int ⟨.int i,H,I,⟨_,rfl⟩,q⟩
 ·obtain⟨u,rfl,a⟩:=vals1 r;cases a;exact call_int_bool ⟨.int (if k then 1 else 0),H,I.tok _,⟨_,rfl⟩,q⟩
end
structure ObjM(h:Heap)(x dx C:Addr)(mA:Str->Option Value):Prop where
 obj:h.get? x=some (vc C dx)
 ns:h.Ns1 dx mA
 ne:dx≠x
def Fe(n:h.Ns1 dx mA):∃od,h.get? dx=some od/\∀name,vY name od=some (mA name):=by
 obtain⟨o,b,l,j,d,f,_,i⟩:=n;refine⟨o,j,fun name=>?_⟩;have e:=i name;unfold nsFind findBy at e;rw[<-Array.find?_toList]at e;unfold vY;rw[d];dsimp only;split;·rename_i y q;rw[q]at e;exact congrArg some e
 ·rename_i q;rw[q]at e;have a:b.toList.any (·.refKey)=false:=by rw[List.any_eq_false];intro y k;obtain⟨z,t,g⟩:=f y (jJ.mp k);simp[DictEntry.refKey,g]
  have c:¬b.toList.any (·.refKey)=true:=by rw[a];exact aA
  rw[if_neg c];exact congrArg some e
def ObjM.look{x:Addr}(I:ObjM h x dx C mA):∃od,PySem.W.InstAt h x (vc C dx) C (some od)/\∀name,vY name od=some (mA name):=
 let⟨od,ho,hl⟩:=Fe I.ns
 ⟨od,⟨I.obj,rfl,rfl,ho⟩,hl⟩
def vV.some_of{v:V}{o:Option Value}(r:vV (some v) o):∃u,o=some u/\RelV v u:=by
 cases o with
 |none=>exact(show False from r).elim
 |some u=>exact⟨u,rfl,r⟩
section
variable {H H':Hp}{a C dx:Addr}{fs fs':List (Str×V)}
def lT(b:HOk P w H h)(e:H a=some (.ins C dx fs)):∃mA,ObjM h a dx C mA/\(∀f,vV (fs.lookup f) (mA f))/\PySem.Within mA (fs.map (·.1))/\fs.length<=1000/\H dx=some (.own a):=by obtain⟨d,z,ne,c,mA,n,r,q⟩:=(show d7 P w H h a (.ins C dx fs)from b a _ e);exact⟨mA,⟨c,n,ne⟩,r,q,z,d⟩
end
structure Cls(K:ao)(C:Addr):Prop where
 pg:J0 K C Str.empty=true
 hd:PySem.W.hasDictIn K C=true
 po:PySem.W.plainOver K C=true
 sa:nW K (.ref C) "__setattr__"=some (some (.builtin "object.__setattr__"))
def Cls.get(c:Cls K C)(f:Str):J0 K C f=true:=c.pg
structure Meth(K:ao)(C:Addr)(m:Str)(f:Addr):Prop where
 at_:nW K (.ref C) m=some (some (.ref f))
 fn:PySem.W.isFn K (.ref f)=true
 kp:cN K (.ref f)=true
section
variable {X:Cx}{pins:List (Addr×Obj)}{σ:St}{H:Hp}{s:Shared}{E:Value->Shared->Prop}{Q:Value->Shared->Prop}{c:Value}{b:Bool}
inductive mr (K:ao) (H:Hp):V->Value->Prop where
 |non:mr K H .non (.type "NoneType")
 |bl (x:Bool):mr K H (.bl x) (.type "bool")
 |int (i:Int):mr K H (.int i) (.type "int")
 |str (x:Str):mr K H (.str x) (.type "str")
 |flt (x:UInt64):mr K H (.flt x) (.type "float")
 |lst {a:Addr} {xs:List V} (e:H a=some (.lst xs)):mr K H (.ref a) (.type "list")
 |frz {a:Addr} {o:Obj} {xs:List V} (e:H a=some (.frz o (.lst xs))):mr K H (.ref a) (.type "list")
 |tup {a:Addr} {xs:List V} (e:H a=some (.tup xs)):mr K H (.ref a) (.type "tuple")
 |dK {a:Addr} {kvs:List (Key×V)} (e:H a=some (.dK kvs)):mr K H (.ref a) (.type "dict")
 |dT {a:Addr} {kvs:List (List Key×V)} (e:H a=some (.dT kvs)):mr K H (.ref a) (.type "dict")
 |ins {a C dx:Addr} {fs:List (Str×V)} (e:H a=some (.ins C dx fs)) (cl:Cls K C) (ha:nW K (.ref C) "__class__"=some (some (.builtin "object.__class__")))
   (hn:PySem.W.specialIn K (.builtin "object.__class__") "__get__"=some (some (.builtin "getset_descriptor.__get__"))) (htk:PySem.W.takesIn K (.builtin "object.__class__")=some true)
   (hm:PySem.W.mroIn K C (.type "object")=some true):mr K H (.ref a) (.ref C)
def wG{x:V}{t:Value}(I:Inv X pins σ H s)(d:RelV x u)(ty:mr X.K H x t)(e:iX X.K t c=some b)(h:∀tk,Q (.bool b) {s with toks:=tk}):
  wpAny (model X.prog X.w) A (call (.builtin "isinstance") [u,c]) Q E s:=by
 cases ty with
 |non=>cases(show u=bW from d);exact dN PySem.W.kitx_none I.kIn True.intro e (fun z=>nomatch z) h
 |bl y=>cases(show u=zd y from d);exact dN PySem.W.kitx_bool I.kIn True.intro e (fun z=>nomatch z) h
 |int i=>obtain⟨t,q⟩:=(show ∃t,u=hU i t from d);cases q;exact dN PySem.W.kitx_int I.kIn True.intro e (fun z=>nomatch z) h
 |str y=>obtain⟨t,q⟩:=(show ∃t,u=iU y t from d);cases q;exact dN PySem.W.kitx_str I.kIn True.intro e (fun z=>nomatch z) h
 |flt y=>obtain⟨t,q⟩:=(show ∃t,u=Value.float y t from d);cases q;exact dN PySem.W.kitx_float I.kIn True.intro e (fun z=>nomatch z) h
 | @lst a g ea=>cases(show u=aZ a from d);obtain⟨_,_,n,_,f⟩:=(show d7 X.prog X.w H s.heap a (.lst g)from I.hok a _ ea);exact dN F9 I.kIn ⟨_,f,rfl⟩ e (fun z=>nomatch z) h
 | @frz a ob g ea=>cases(show u=aZ a from d);obtain⟨_,_,_,n,_,f⟩:=(show d7 X.prog X.w H s.heap a (.frz ob (.lst g))from I.hok a _ ea);exact dN F9 I.kIn ⟨_,f,rfl⟩ e (fun z=>nomatch z) h
 | @tup a g ea=>cases(show u=aZ a from d);obtain⟨_,_,_,p⟩:=(show d7 X.prog X.w H s.heap a (.tup g)from I.hok a _ ea);obtain⟨o,f,j,_⟩:=p;exact dN PySem.W.kitx_tuple I.kIn ⟨o,f,j⟩ e (fun z=>nomatch z) h
 | @dK a kvs ea=>cases(show u=aZ a from d);obtain⟨_,_,v,_,p⟩:=(show d7 X.prog X.w H s.heap a (.dK kvs)from I.hok a _ ea);obtain⟨o,l,k,f,j,_⟩:=p;exact dN Ga I.kIn ⟨o,f,j.1⟩ e (fun z=>nomatch z) h
 | @dT a kvs ea=>cases(show u=aZ a from d);obtain⟨_,_,g,_,o,l,k,f,j,_⟩:=(show d7 X.prog X.w H s.heap a (.dT kvs)from I.hok a _ ea);exact dN Ga I.kIn ⟨o,f,j.1⟩ e (fun z=>nomatch z) h
 | @ins a C dx fs ea cl ha hn htk hm=>cases(show u=aZ a from d);obtain⟨m,O,_⟩:=lT I.hok ea;obtain⟨r,J,_⟩:=O.look;exact dN (PySem.W.kitx_own (cl.get _) cl.hd ha hn htk hm) I.kIn J e (fun z=>nomatch z) h
end
structure ke(k:Nat)(A:Around):Prop where
 hd:A.handled=none
 dp:A.depth+3*k+5<jD
 un:A.units+16*k+200<cLine
def ke.mono(r:ke k A)(h:j<=k):ke j A:=⟨r.hd,by have :=r.dp;lia,by have :=r.un;lia⟩
theorem ke.deeper(r:ke (k+1) A)(env:Env):ke k (A.deeper env):=
 ⟨r.hd,by have :=r.dp;show A.depth+1+3*k+5<_;lia,by have :=r.un;show A.units+3+16*k+200<_;lia⟩
theorem ke.depth(r:ke k A):A.depth<jD:=by have :=r.dp;lia
theorem ke.units(r:ke k A):A.units+64<cLine:=by have :=r.un;lia
def qO:TA:=fun _ H Q=>Q [] H
def kq(ta:TE)(a:TA):TA:=fun σ H Q=>ta σ H fun x H1=>a σ H1 fun xs H2=>Q (x::xs) H2
section
variable {X:Cx}{es:List Expr}{te:TE}{t:TA}
def kI:PA X [] qO:=fun _ _ _ _ H Q I h=>Calls.spliced_nil ⟨[],H,I,.nil,h⟩
def iq(j:PE X e te)(k:PA X es t)(hs:cf (e::es) X.env=(false,eval e X.env)::cf es X.env:=by rfl):PA X (e::es) (kq te t):=by intro b a s c H Q I h;rw[hs];show wpAny _ _ (spliced ((false,eval e X.env)::backTo b (cf es X.env))) _ _ s;refine kZ (thn (j a s c H _ I h) fun u p ⟨x,d,g,n,l⟩=>?_);exact thn (k b a p c d _ g l) fun v r ⟨q,f,i,o,m⟩=>⟨x::q,f,i,.cons n o,m⟩
def tTup(t:TA):TE:=fun σ H Q=>t σ H fun xs H1=>xs.length<=sizeLine/\∀p,H1 p=none->Q (.ref p) (upd H1 p (.tup xs))
def tLst(t:TA):TE:=fun σ H Q=>t σ H fun xs H1=>xs.length<=sizeLine/\∀p,H1 p=none->Q (.ref p) (upd H1 p (.lst xs))
def pe_tup{x1}(h:PA X es t):PE X (.Tuple es x1 pos) (tTup t):=by intro f s j H Q I hq;refine wpAny_Tuple_spliced (thn (h pos f s j H _ I hq) fun g a ⟨i,c,d,r,z,q⟩=>⟨by rw[<-r.length];exact z,?_⟩);have hf:c a.heap.objs.size=none:=d.hok.fresh (aC _);refine⟨.ref a.heap.objs.size,upd c a.heap.objs.size (.tup i),d.laid (t':=a.toks) (fun b u e=>ai _ e) (aC _) ?_,rfl,q _ hf⟩;exact⟨z,g,r,⟨_,az _ rfl,rfl,_,rfl⟩⟩
def pe_lst(h:PA X es t):PE X (.List es pos) (tLst t):=by intro f s j H Q I hq;refine wpAny_List_spliced (thn (h pos f s j H _ I hq) fun g a ⟨i,c,d,r,z,q⟩=>⟨by rw[<-r.length];exact z,?_⟩);have hf:c a.heap.objs.size=none:=d.hok.fresh (aC _);refine⟨.ref a.heap.objs.size,upd c a.heap.objs.size (.lst i),d.laid (t':=a.toks) (fun b u e=>ai _ e) (aC _) ?_,rfl,q _ hf⟩;exact⟨z,g,0,r,az _ rfl⟩
end
noncomputable abbrev Sp:=List V->Hp->VK->XK->Prop
noncomputable abbrev CXT:=List Env->Hp->Shared->XK->Value->Shared->Prop
structure Env0(P:Program)(w:World)(K:ao)(mg:Str->Option Value)(base:Heap)(A:Around)(outer:List Env)(s:Shared)(H:Hp):Prop where
 frames:A.frames=some outer
 mod:Mod K mg base
 bs:∀b o,base.get? b=some o->s.heap.get? b=some o/\H b=none
 bsz:base.objs.size<=s.heap.objs.size
 yB:s.heap.FunFrames base outer
 frf:∀b∈frs outer,H b=none
 hok:HOk P w H s.heap
 bare:nR s.gens
def CE(outer:List Env)(P:Program)(w:World)(H:Hp)(s:Shared)(Q:VK)(u:Value)(s':Shared):Prop:=
 ∃v H',s'.os=s.os/\nR s'.gens/\Un (frs outer) [] H H' s.heap s'.heap/\HOk P w H' s'.heap/\RelV v u/\Q v H'
def CR(CX:CXT)(outer:List Env)(P:Program)(w:World)(H:Hp)(s:Shared)(Q:VK)(E:XK)(r:Result)(s':Shared):Prop:=
 match r with
 |.ok (.ret u)=>CE outer P w H s Q u s'
 |.ok _=>False
 |.error e=>CX outer H s E e s'
structure j6(P:Program)(w:World)(K:ao)(mg:Str->Option Value)(base:Heap)(CX:CXT)(k:Nat)(f:Addr)(fd:gT)(ps:List Str)(sp:Sp):Prop where
 len:∀vs H Q E,sp vs H Q E->vs.length=ps.length
 run:∀(A:Around)(outer:List Env)(s:Shared)(H:Hp)(args:Args)(us:List Value)(vs:List V)(Q:VK)(E:XK),ke k A->Env0 P w K mg base A outer s H->BindsTo s fd args (ps.zip us)->bZ vs us->sp vs H Q E->
  je (model P w) A (.call (.ref f) args) (CR CX outer P w H s Q E) s
section
variable {X:Cx}{pins:List (Addr×Obj)}{σ:St}{H:Hp}{s s':Shared}
def Inv.env0(I:Inv X pins σ H s):Env0 X.prog X.w X.K X.mg X.base X.A X.stack s H:=
 ⟨I.ok.frames,I.ok.mod,I.bs,bf I.ok.bsz I.sz,I.stack,I.xG,I.hok,I.bare⟩
def Inv.after{Q:VK}(I:Inv X pins σ H s)(h:CE X.stack X.prog X.w H s Q u s'):EP X pins σ Q u s':=by obtain⟨v,a,i,c,un,f,r,q⟩:=h;obtain⟨e,g,d,t,j⟩:=s';obtain rfl:j=s.os:=i;exact⟨v,a,I.call (h':=e) (g':=g) (d':=d) (t':=t) (ch:=[]) un f c (fun b z=>absurd z (by simp)),r,q⟩
end
def zF(sp:Sp)(dvs:List V)(E:XK)(t:TA):TE:=fun σ H Q=>t σ H fun vs H1=>sp (vs++dvs) H1 Q E
def Binds(K:ao)(fd:gT)(ps:List Str)(ds:List Value):Prop:=
 ∀(s:Shared)(us:List Value),K.In s.heap->(us++ds).length=ps.length->BindsTo s fd ⟨us,[]⟩ (ps.zip (us++ds))
def Binds.all{a:gT}{ps:List Str}(h:∀us:List Value,us.length=ps.length->pA a ⟨us,[]⟩=pure (ps.zip us)):Binds K a ps []:=fun s us _ b=>by rw[xu]at b⊢;exact .of_eq (h us b)
section
variable {X:Cx}{CX:CXT}{f C:Addr}{fd:gT}{ps:List Str}{sp:Sp}{dvs:List V}{ds:List Value}{E:XK}{x m:Str}{p apos:Pos}{o:Expr}{es:List Expr}{ta:TE}{t:TA}
structure Mk(K:ao)(C f:Addr):Prop where
 makes:PySem.W.makesIn K C=true
 init:nW K (.ref C) "__init__"=some (some (.ref f))
 fn:PySem.W.isFn K (.ref f)=true
 kp:cN K (.ref C)=true
end
structure sY(N P:List Str)(sc:Scope):Prop where
 kind:sc.kind=.function
 co:sc.isCoroutine=false
 gen:sc.isGenerator=false
 nd:N.Nodup
 pre:N.take P.length=P
 par:∀x∈P,sc.names.lookup x=some .local\/sc.names.lookup x=some .cell
 nofree:∀y∈sc.names,y.2≠.free
theorem xf{b:Str->Option eO}:∀{binds:List (Str×Value)}{m:Str->Option Value},(∀v,(x,v)∉binds)->bindL b binds m x=m x
 | [],_,_=>rfl
 | (n,v)::r,m,h=>by
  unfold bindL;rw[xf fun w a=>h w (av _ a)];split
  ·have :x≠n:=by rintro rfl;exact h v au
   simp[this]
  ·rfl
theorem xh{b:Str->Option eO}:∀{binds:List (Str×Value)}{m:Str->Option Value},(∀v,(x,v)∉binds)->bindC b binds m x=m x
 | [],_,_=>rfl
 | (n,v)::r,m,h=>by
  unfold bindC;rw[xh fun w a=>h w (av _ a)];split;·rfl
  ·have :x≠n:=by rintro rfl;exact h v au
   simp[this]
theorem xg{a:Str->Option eO}{v:Value}:∀{P:List Str}{vs:List Value}{i:Nat}{m:Str->Option Value},P.Nodup->P[i]? =some x->vs[i]? =some v->a x=some .local->
  bindL a (P.zip vs) m x=some v
 | [],_,_,_,_,h,_,_=>by simp at h
 |_::_,[],_,_,_,_,h,_=>by simp at h
 |p::P,w::vs,0,m,nd,h1,h2,hk=>by simp at h1 h2;subst h1;subst h2;show bindL a ((p,w)::P.zip vs) m p=_;unfold bindL;rw[xf fun v b=>(bw.mp nd).1 (xq b).1,if_pos hk];simp
 |p::P,w::vs,i+1,m,nd,h1,h2,hk=>by show bindL a ((p,w)::P.zip vs) m x=_;unfold bindL;exact xg (i:=i) (bw.mp nd).2 (by simpa using h1) (by simpa using h2) hk
theorem xi{a:Str->Option eO}{v:Value}:∀{P:List Str}{vs:List Value}{i:Nat}{m:Str->Option Value},P.Nodup->P[i]? =some x->vs[i]? =some v->a x≠some .local->
  bindC a (P.zip vs) m x=some v
 | [],_,_,_,_,h,_,_=>by simp at h
 |_::_,[],_,_,_,_,h,_=>by simp at h
 |p::P,w::vs,0,m,nd,h1,h2,hk=>by simp at h1 h2;subst h1;subst h2;show bindC a ((p,w)::P.zip vs) m p=_;unfold bindC;rw[xh fun v b=>(bw.mp nd).1 (xq b).1,if_neg hk];simp
 |p::P,w::vs,i+1,m,nd,h1,h2,hk=>by show bindC a ((p,w)::P.zip vs) m x=_;unfold bindC;exact xi (i:=i) (bw.mp nd).2 (by simpa using h1) (by simpa using h2) hk
abbrev start(N:List Str)(vs:List V):St:=vs.map some++cb (N.length-vs.length) none
abbrev yJ(CX:CXT)(P:Program)(w:World)(K:ao)(mg:Str->Option Value)(base:Heap)(N:List Str)(qual:Str)(scope:Scope)(f:Addr)(cd:Value)(A:Around)(outer:List Env)(s:Shared)(H:Hp)(E:XK):Cx where
 prog:=P
 w:=w
 K:=K
 mg:=mg
 base:=base
 A:=A.deeper (envOfC qual scope s.heap.objs.size f cd)
 N:=N
 s₀:=s
 H₀:=H
 env:=envOfC qual scope s.heap.objs.size f cd
 outer:=outer
 stack:=envOfC qual scope s.heap.objs.size f cd::outer
 ex:=[]
 calm:=true
 fn:=fun _=>true
 pn:=[]
 xe:=fun e s'=>wpAny (model P w) (A.deeper (envOfC qual scope s.heap.objs.size f cd)) (leaving (envOfC qual scope s.heap.objs.size f cd) e) (fun _ a=>CX outer H s E e a) (fun b a=>CX outer H s E b a) s'
def AL(h:sc.names.lookup x=some .cell):∃c,(cW n sc.names []).lookup x=some c:=by have q:=A8 sc.names n [] (.inl h);exact fI.mp q
def Fo{CX:CXT}{ps:List Str}{cd:Value}{outer:List Env}{C:Shared}{H:Hp}{E:XK}{vs:List V}
  (S:sY N ps scope)(F:A.handled=none)(g:Env0 P w K mg base A outer s H)(J:vs.length=ps.length)(r:bZ vs us)
  (x:InCallC s s.heap.objs.size (bindL (envOfC qual scope s.heap.objs.size f cd).kindOf (ps.zip us) fun _=>none) (cW (s.heap.objs.size+1) scope.names []) (bindC (envOfC qual scope s.heap.objs.size f cd).kindOf (ps.zip us) fun _=>none) C):
  Inv (yJ CX P w K mg base N qual scope f cd A outer s H E) [] (start N vs) H C:=by
 have L:ps.length<=N.length:=by have :=congrArg gW S.pre;rw[cy]at this;lia
 obtain⟨l,tk,rfl,o⟩:=x.done;have m:∀b:Addr,b∉(yJ CX P w K mg base N qual scope f cd A outer s H E).ex:=fun b z=>absurd (show b∈([]:List Addr)from z) (by simp);refine⟨⟨g.mod,S.kind,rfl,rfl,aC _,fun y z c l d=>?_,fun y hy=>?_,fun y c _ h=>?_,fun _=>F,Around.frames_deeper g.frames,.inr ⟨rfl,rfl⟩,fun b z=>absurd z (m b),g.bs,g.bsz,fun b _ _=>m b,fun b z=>absurd z (m b),g.yB,g.frf⟩,
  rfl,g.bare,Un.kept o,⟨_,x.toInCall.ns,fun i y v l d I=>?_⟩,fun y c h=>⟨_,x.cell y c h⟩,g.hok.fresh (aC _),fun y c h=>?_,fun p j=>absurd (show p∈([]:List (Addr×Obj))from j) (by simp),g.hok.kept o,?_⟩
 ·exact name_of_addr x.apart (bI l) (bI d)
 ·have hy:scope.names.lookup y=some .cell\/scope.names.lookup y=some .free:=hy;rcases hy with hy|hy;·exact AL hy
  ·exact absurd rfl (S.nofree _ (bI hy))
 ·exact iC (x.above y c (bI h))
 ·have hi:i<vs.length:=by
   unfold start at d;by_cases hi:i<vs.length;·exact hi
   ·rw[cT (by simpa using hi)]at d;rw[List.getElem?_replicate]at d;split at d<;>cases d
  have D:vs[i]? =some v:=by
   unfold start at d;rw[eB (by simpa using hi),ax]at d;cases e:vs[i]? with
   |none=>rw[e]at d;cases d
   |some a=>rw[e]at d;cases d;rfl
  obtain⟨u,t,G⟩:=r.get D;have j:ps[i]? =some y:=by rw[<-S.pre,iH (by lia)];exact l
  have B:ps.Nodup:=by rw[<-S.pre];exact S.nd.sublist (tj _ _)
  refine⟨u,G,?_⟩;rcases S.par y (aG j)with k|k;·exact .inl ⟨k,xg B j t k⟩
  ·obtain⟨c,e⟩:=AL (n:=s.heap.objs.size+1) k;refine .inr ⟨.inl k,c,e,?_⟩;have q:=x.cell y c e;rw[xi B j t (by show scope.names.lookup y≠_;rw[k];decide)]at q;exact q
 ·exact g.hok.fresh (iC (x.above y c (bI h)))
 ·unfold start;show _=N.length;rw[bE,ak,List.length_replicate];lia
def fn_of{CX:CXT}{name:Str}{B:Arguments}{h:List Stmt}{kV:Value}{an:Option Addr}
  {ps:List Str}{sp:Sp}(X:K.lookup f=some ⟨oc,od,.func (aS name qual B h scope dV kV ah pm an ag ct),am⟩)(L:fR K ag qual=true)(S:sY N ps scope)
  (len:∀vs H Q E,sp vs H Q E->vs.length=ps.length)
  (G:∀(A:Around)(c:List Env)(s:Shared)(H:Hp)(vs:List V)(Q:VK)(E:XK),ke k (A.deeper (envOfC qual scope s.heap.objs.size f ag))->sp vs H Q E->
   ∃t,PSs (yJ CX P w K mg base N qual scope f ag A c s H E) h t/\t {nx:=fun _ H'=>Q .non H',rt:=Q} (start N vs) H):
  j6 P w K mg base CX (k+1) f (aS name qual B h scope dV kV ah pm an ag ct) ps sp:=by
 refine⟨len,fun A c s H Z Y vs Q E i d F r z=>?_⟩;have R:=len _ _ _ _ z;have m:K.In s.heap:=d.mod.kin.keeps fun b o e=>(d.bs b o e).1;have W:s.heap.NoLimit:=d.mod.nolimit.keeps fun b o e=>(d.bs b o e).1;have O:∀y∈ps.zip Y,scope.names.lookup y.1=some .local\/(scope.names.lookup y.1=some .cell/\((cW (s.heap.objs.size+1) scope.names []).lookup y.1).isSome=true):=fun⟨n,v⟩ U=>by
  rcases S.par n (xq U).1 with q|q;·exact .inl q
  ·exact .inr ⟨q,A8 _ _ _ (.inl q)⟩
 refine codeAny_call_function i.depth (m _ _ X) rfl S.co S.gen rfl (PySem.W.codeRec_of m L) (F _ _ _ _ ?_);refine wpAny_newFunctionEnv_cells S.kind O fun a0 M C x=>?_;subst M;refine⟨W.keeps x.toInCall.keep,codeAny_func ?_⟩;obtain⟨t,T,hq⟩:=G A c s H vs Q E (i.deeper _) z;have I:Inv (yJ CX P w K mg base N qual scope f ag A c s H E) [] (start N vs) H C:=Fo S i.hd d R r x;refine gu (T [] C (start N vs) H _ I hq) (fun D l a=>?_) fun e l a=>a;have p:∀{g:St}{H':Hp}{v:V}{u:Value},Inv (yJ CX P w K mg base N qual scope f ag A c s H E) [] g H' l->RelV v u->Q v H'->CE c P w H s Q u l:=
  fun{g H' v u} J j q=>⟨v,H',J.os,J.bare,J.base,J.hok,j,q⟩
 cases D with
 |ret u=>obtain⟨v,g,H',J,j,q⟩:=a;exact p J j q
 |next =>obtain⟨g,H',J,q⟩:=a;exact p (v:=V.non) (u:=bW) J rfl q
 |brk=>obtain⟨_,_,_,q⟩:=a;exact kY q
 |cont=>obtain⟨_,_,_,q⟩:=a;exact kY q
section
variable {X:Cx}{x:Str}{p:Pos}{es:List Expr}{t:TA}{id T:String}{r:List V->Hp->VK->Prop}
def tCB(r:List V->Hp->VK->Prop)(t:TA):TE:=fun σ H Q=>t σ H fun vs H1=>r vs H1 Q
def HP(g:gp X (.builtin id) r)(k:Gl X x)(l:X.mg x=none)(o:fZ x=some (.builtin id))(f:PA X (e::es) t)(m:x≠"__name__":=by decide) (i:(x==("__debug__":Str))=false:=by decide)
  (j:cf (e::es) X.env=(false,eval e X.env)::cf es X.env:=by rfl) (n:(backTo pos (cf es X.env)).any (·.1)=false:=by rfl):PE X (.Call (.Name x p) (e::es) [] pos) (tCB r t):=by
 intro a s b H Q I h;refine gM (i5 I k l o ?_ m i);exact iV (thn (f pos a s b H _ I h) fun w v ⟨y,c,d,u,q⟩=>g a v b c y w Q d u q) j n
def EV(g:gp X (.type T) r)(k:Gl X x)(l:X.mg x=none)(o:fZ x=some (.type T))(f:PA X (e::es) t)(m:x≠"__name__":=by decide) (i:(x==("__debug__":Str))=false:=by decide)
  (j:cf (e::es) X.env=(false,eval e X.env)::cf es X.env:=by rfl) (n:(backTo pos (cf es X.env)).any (·.1)=false:=by rfl):PE X (.Call (.Name x p) (e::es) [] pos) (tCB r t):=by
 intro a s b H Q I h;refine gM (i5 I k l o ?_ m i);exact cH (thn (f pos a s b H _ I h) fun w v ⟨y,c,d,u,q⟩=>g a v b c y w Q d u q) j n
end
end L2
variable {X:L2.Cx}{H H' H0 H1 H2:L2.Hp}{σ τ0:L2.St}{y:L2.V}{ls ts xs ys zs:List L2.V}
namespace HT
open PySem PyProof.Rows
section
open PySem.SeqAt
open PySem.AutoSeq1 (wpAny_loadPart')
open PySem.MeetsSeq PySem.MeetsSeq2 PySem.MeetsSeq3
end
section
variable {E:Value->Shared->Prop}{s:Shared}
abbrev sIx(n d:Nat):Option Int->Nat
 |none=>d
 |some v=>if v<0 then(v+(n:Int)).toNat else min v.toNat n
theorem tV(n d:Nat):sIx n d none=d:=rfl
def pO(n d k:Nat):sIx n d (some (k:Int))=min k n:=by show(if(k:Int)<0 then((k:Int)+(n:Int)).toNat else min (k:Int).toNat n)=min k n;rw[if_neg (by lia),ba]
def BR(n d:Nat)(a:d<=n)(o:Option Int):sIx n d o<=n:=by
 cases o with
 |none=>exact a
 |some v=>
  show(if v<0 then(v+(n:Int)).toNat else min v.toNat n)<=n;by_cases hv:v<0;·rw[if_pos hv];lia
  ·rw[if_neg hv];exact Nat.min_le_right _ _
def yM(v:Int)(n d:Nat):(if v<0 then max (v+(n:Int)) 0 else min v (n:Int))=((sIx n d (some v):Nat):Int):=by
 show(if v<0 then max (v+(n:Int)) 0 else min v (n:Int))=(((if v<0 then(v+(n:Int)).toNat else min v.toNat n):Nat):Int);by_cases hv:v<0;·simp only[if_pos hv];lia
 ·simp only[if_neg hv];lia
def CZ(lo hi:Option Int)(n:Nat):jI lo hi 1 (n:Int)=(((sIx n 0 lo:Nat):Int),((sIx n n hi:Nat):Int)):=by
 have a:¬((1:Int)<0):=by lia
 unfold jI;simp only[a,if_false];refine Prod.ext ?_ ?_
 ·cases lo with
  |none=>rfl
  |some v=>exact yM v n 0
 ·cases hi with
  |none=>rfl
  |some v=>exact yM v n n
def B0(i j:Nat):gE (i:Int) (j:Int) 1=j-i:=by
 unfold gE;have a:(1:Int)>0:=by lia
 simp only[a,if_true,Int.ediv_one];split <;>lia
def tS{v:Value}{o:Option Int}{Q:Option Int->Shared->Prop}(p:IsPart v o)(h:Q o s):wpAny (model prog w) A (Builtin.Slice.slicePartIndex v) Q E s:=by
 cases p with
 |none=>exact slicePart_none h
 |int i t=>exact slicePart_int h
def lr{lo hi:Option Int}{Q:Int×Int×Nat->Shared->Prop}(hs:s.heap.IsSliceOf sl vl vu .none)(c:IsPart vl lo)(d:IsPart vu hi)
  (h:Q (((sIx n 0 lo:Nat):Int),1,sIx n n hi-sIx n 0 lo) s):wpAny (model prog w) A (rK (.ref sl) (pure (n:Int))) Q E s:=by
 obtain⟨f,b,e,a⟩:=id hs;unfold rK Builtin.Slice.sliceFields;refine aa (aa (fz b a (x:=vl) rfl (aa (fz b a (x:=vu) rfl (aa (fz b a (x:=.none) rfl (aj ?_)))))));refine aa (slicePart_none ?_);show wpAny _ _ (if((1:Int)==0)=true then _ else _) _ _ s;rw[if_neg (by decide)];refine aa (tS c (aa (tS d (aa (aj ?_)))));show wpAny _ _ (match jI lo hi 1 (n:Int)with | (lo,hi)=>pure (lo,(1:Int),gE lo hi 1)) _ _ s;rw[CZ lo hi n];show wpAny _ _ (pure (((sIx n 0 lo:Nat):Int),(1:Int),gE ((sIx n 0 lo:Nat):Int) ((sIx n n hi:Nat):Int) 1)) _ _ s;rw[B0];exact aj h
def HC(xs:Array Value)(i k:Nat):((ay k).filterMap fun(m:Nat)=>xs[((i:Int)+(m:Int)*1).toNat]?).toArray=((xs.toList.drop i).take k).toArray:=by
 have e:(fun(m:Nat)=>xs[((i:Int)+(m:Int)*1).toNat]?)=fun m=>xs[i+m]? :=by
  funext m
  have :((i:Int)+(m:Int)*1).toNat=i+m:=by lia
  rw[this]
 rw[e];have :=pick_run xs i k;rw[List.filterMap_map]at this;have a:((fun x=>xs[x]?)∘fun x=>i+x)=fun m=>xs[i+m]? :=rfl;rw[a]at this;rw[this]
def p7{t:Addr}{lo hi:Option Int}{Q:Value->Shared->Prop}(a:IsTup s.heap t items)(hs:s.heap.IsSliceOf sl vl vu .none)(j:IsPart vl lo)(k:IsPart vu hi)
  (g:¬(sIx items.size 0 lo=0/\sIx items.size items.size hi=items.size))
  (h:Q (.ref s.heap.objs.size) {s with heap:=s.heap.push {cls:=.type "tuple",data:=.seq ((items.toList.drop (sIx items.size 0 lo)).take (sIx items.size items.size hi-sIx items.size 0 lo)).toArray}})
  (o:items.size<=sizeLine):wpAny (model prog w) A (zb (.ref t) (.ref sl)) Q E s:=by
 have b:sizeOk (.seq ((items.toList.drop (sIx items.size 0 lo)).take (sIx items.size items.size hi-sIx items.size 0 lo)).toArray):=by show((items.toList.drop (sIx items.size 0 lo)).take (sIx items.size items.size hi-sIx items.size 0 lo)).toArray.size<=sizeLine;rw[aD,cy,my,aT];lia
 have n:sIx items.size items.size hi<=items.size:=BR _ _ (aC _) hi;obtain⟨i,f,d,l⟩:=id hs;have c:s.TypeIs (.ref sl) "slice":=⟨i,f,d⟩;unfold zb;try with_reducible refine bQ ?_
 first |refine aa (aj ?_) |skip
 refine aa (wpAny_sequenceKey a.typeIs (by decide) ?_);refine aa (dE (name:=cQ "__getitem__") a.typeIs dg
  (cA dg a.typeIs entry_tuple_getitem ?_ (args_tuple_getitem _ _)))
 show wpAny _ _ (rH (.ref t)>>=_) _ _ s;refine aa (vo a ?_);refine aa (jC c ?_);rw[if_pos (by decide)];refine aa (lr hs j k ?_);have e:¬((((sIx items.size 0 lo:Nat):Int)==0&&(1:Int)==1&&(sIx items.size items.size hi-sIx items.size 0 lo)==items.size)=true):=by intro q;rw[aL,aL]at q;have p:((sIx items.size 0 lo:Nat):Int)=0:=eq_of_beq q.1.1;have r:sIx items.size items.size hi-sIx items.size 0 lo=items.size:=eq_of_beq q.2;exact g ⟨by lia,by lia⟩
 show wpAny _ _ (if(((sIx items.size 0 lo:Nat):Int)==0&&(1:Int)==1&&(sIx items.size items.size hi-sIx items.size 0 lo)==items.size)=true then _ else _) _ _ s;rw[if_neg e,HC]
 first
  |exact aa (m:=gO _) (bL (aj ⟨_,rfl,aj h⟩) b)
  |exact aa (m:=gO _) (bL (aa (aj (aj ⟨_,rfl,aj h⟩))) b)
  |exact aa (aa (m:=gO _) (bL (aj (aj ⟨_,rfl,aj h⟩)) b))
  |exact aa (aa (m:=gO _) (bL (aj ⟨_,rfl,aj h⟩) b))
end
end HT
namespace L2
open PySem PySem.Spec PyProof.Rows
noncomputable abbrev TO:=St->Hp->(Option Int->Hp->Prop)->Prop
def PO(X:Cx)(e:Option Expr)(t:TO):Prop:=
 ∀(pins:List (Addr×Obj))(s:Shared)(σ:St)(H:Hp)(Q:Option Int->Hp->Prop),Inv X pins σ H s->t σ H Q->
  wpAny (model X.prog X.w) X.A (evalPart e X.env) (fun u s'=>∃o H',Inv X pins σ H' s'/\IsPart u o/\Q o H') X.xe s
def xE:TO:=fun _ H Q=>Q none H
def GJ(t:TE):TO:=fun σ H Q=>t σ H fun x H1=>∃i,x=.int i/\Q (some i) H1
def intsAre_of:∀{us:List Value},bZ (ns.map V.int) us->cD us ns:=by
 induction ns with
 |nil=>intro us r;rw[kG]at r;cases r;exact .nil
 |cons n ns ih=>
  intro us r;rw[bh]at r;cases r with
  |cons r1 r2=>obtain⟨t,e⟩:=r1;subst e;exact .cons n t (ih r2)
section
variable {te:TE}{lo hi:Option Expr}{tl th:TO}{p2:Pos}
def po_none:PO X none xE:=by intro a s b H Q I h;rw[evalPart_none];exact aj ⟨none,H,I,.none,h⟩
def po_some(h:PE X e te):PO X (some e) (GJ te):=by intro d s j H Q I c;rw[evalPart_some];refine thn (h d s j H _ I c) fun u k ⟨x,a,b,g,f⟩=>?_;obtain⟨i,rfl,q⟩:=f;obtain⟨t,rfl⟩:=g;exact⟨some i,a,b,.int i t,q⟩
def SlR(X:Cx)(r:V->Option Int->Option Int->Hp->VK->Prop):Prop:=
 ∀(pins:List (Addr×Obj))(s:Shared)(σ:St)(H:Hp)(x:V)(v vl vu:Value)(lo hi:Option Int)(sl:Addr)(Q:VK),Inv X pins σ H s->RelV x v->s.heap.IsSliceOf sl vl vu .none->IsPart vl lo->IsPart vu hi->r x lo hi H Q->
  ∃T id,typeLookup (.type T) "__getitem__"=pure (some (.builtin id))/\s.TypeIs v T/\wpAny (model X.prog X.w) X.A (zb v (.ref sl)) (EP X pins σ Q) X.xe s
def SlR.or{r r':V->Option Int->Option Int->Hp->VK->Prop}(h:SlR X r)(h':SlR X r'):SlR X (fun x lo hi H Q=>r x lo hi H Q\/r' x lo hi H Q):=by
 intro b s j H x v g i lo hi f Q I e a c d q;rcases q with q|q;·exact h b s j H x v g i lo hi f Q I e a c d q
 ·exact h' b s j H x v g i lo hi f Q I e a c d q
def tSl(r:V->Option Int->Option Int->Hp->VK->Prop)(te:TE)(tl th:TO):TE:=fun σ H Q=>te σ H fun x H1=>tl σ H1 fun l H2=>th σ H2 fun u a=>r x l u a Q
def HI{r:V->Option Int->Option Int->Hp->VK->Prop}(z:SlR X r)(t:PE X e te)(y:PO X lo tl)(B:PO X hi th):PE X (.Subscript e (.Slice lo hi none p2) pos) (tSl r te tl th):=by intro c s d H Q I h;refine Subscript_ (thn (t c s d H _ I h) fun v K ⟨x,i,k,J,E⟩=>?_);refine wpAny_Slice (thn (y c K d i _ k E) fun f L ⟨l,j,m,C,F⟩=>thn (B c L d j _ m F) fun vu a ⟨u,g,n,D,G⟩=>?_);rw[evalPart_none];refine aj ?_;have o:Inv X c d g {a with heap:=a.heap.push {cls:=.type "slice",data:=.fields #[f,vu,.none]}}:=n.kept (t':=a.toks) fun b M q=>ai _ q;obtain⟨T,id,p,A,w⟩:=z c {a with heap:=a.heap.push {cls:=.type "slice",data:=.fields #[f,vu,.none]}} d g x v f vu l u a.heap.objs.size Q o J (Heap.IsSliceOf.new ..) C D G;show wpAny (model X.prog X.w) X.A (JU e (.Slice lo hi none p2) v (.ref a.heap.objs.size)) (EP X c d Q) X.xe {a with heap:=a.heap.push {cls:=.type "slice",data:=.fields #[f,vu,.none]}};exact tail_any (ops:=[.ref a.heap.objs.size,v]) A p w (by with_unfolding_all rfl)
abbrev o5(xs:List V)(lo hi:Option Int):List V:=(xs.drop (HT.sIx xs.length 0 lo)).take (HT.sIx xs.length xs.length hi-HT.sIx xs.length 0 lo)
def rW(xs:List V)(lo hi:Option Int):(o5 xs lo hi).length<=xs.length:=by unfold o5;rw[cy,my];lia
def rSlT(K:ao):V->Option Int->Option Int->Hp->VK->Prop:=fun x lo hi H Q=>∃a xs,x=.ref a/\SqT K H a xs/\
 ¬(HT.sIx xs.length 0 lo=0/\HT.sIx xs.length xs.length hi=xs.length)/\∀p,H p=none->Q (.ref p) (upd H p (.tup (o5 xs lo hi)))
def sl_tup:SlR X (rSlT X.K):=by
 intro t s z H x v w y lo hi u Q I n g l m h;obtain⟨a,c,rfl,j,i,q⟩:=h;cases n;obtain⟨k,r,e,f⟩:=I.tuple j;have d:k.toArray.size=c.length:=by rw[aD];exact r.length.symm
 refine⟨"tuple",_,dg.lookup,e.typeIs,?_⟩;refine HT.p7 e g l m (by rw[d];exact i) ?_ (by rw[d];exact f);rw[d];refine⟨.ref s.heap.objs.size,_,I.laid (t':=s.toks) (o:=.tup (o5 c lo hi)) (fun b p q=>ai _ q) (aC _) ?_,rfl,q _ (I.hok.fresh (aC _))⟩;exact⟨bf (rW c lo hi) f,_,(r.drop (HT.sIx c.length 0 lo)).take (HT.sIx c.length c.length hi-HT.sIx c.length 0 lo),IsTup.new _ _⟩
end
abbrev ixN(n:Nat)(i:Int):Option Nat:=if 0<=i then(if i<n then some i.toNat else none)else if -(n:Int)<=i then some (i+n).toNat else none
abbrev atI{α:Type}(xs:List α)(i:Int):Option α:=(ixN xs.length i).bind fun j=>xs[j]?
def ixN_seq{i:Int}(h:ixN n i=some j):seqIndex? i n=some j/\j<n∧-(n:Int)<=i/\i<n:=by
 unfold ixN at h;by_cases h0:0<=i
 ·rw[if_pos h0]at h;by_cases h1:i<n;·rw[if_pos h1]at h;have e:i.toNat=j:=aX h;exact⟨by rw[Bj h0 h1,e],by lia,by lia,h1⟩
  ·rw[if_neg h1]at h;cases h
 ·rw[if_neg h0]at h;by_cases h1: -(n:Int)<=i;·rw[if_pos h1]at h;have e:(i+n).toNat=j:=aX h;exact⟨by rw[seqIndex_neg (by lia) h1,e],by lia,h1,by lia⟩
  ·rw[if_neg h1]at h;cases h
def yX{a:Type}{xs:List a}{i:Int}{v:a}(h:atI xs i=some v):∃j,seqIndex? i xs.length=some j/\xs[j]? =some v/\j<xs.length∧-(xs.length:Int)<=i/\i<xs.length:=by
 unfold atI at h;cases e:ixN xs.length i with
 |none=>rw[e]at h;cases h
 |some j=>rw[e]at h;obtain⟨b,c,d,f⟩:=ixN_seq e;exact⟨j,b,h,c,d,f⟩
def bS{a:Type}{xs:List a}{v:a}(h:xs[j]? =some v):atI xs (j:Int)=some v:=by
 have b:j<xs.length:=(aM.mp h).1;have e:ixN xs.length (j:Int)=some j:=by unfold ixN;rw[if_pos (by lia),if_pos (by lia)];simp
 unfold atI;rw[e];exact h
def Ej(b:Expr):Prop:=∀o i,subscripted b false o i=operate [o,i] (zb o i)
def IxR(X:Cx)(r:R2):Prop:=
 ∀(b a:Expr)(pins:List (Addr×Obj))(s:Shared)(σ:St)(H:Hp)(x y:V)(v u:Value)(Q:VK),Inv X pins σ H s->RelV x v->RelV y u->r x y H Q->
  subscripted a false v u=operate [v,u] (zb v u)->wpAny (model X.prog X.w) X.A (JU b a v u) (EP X pins σ Q) X.xe s
def MtR(X:Cx)(id:String)(r:V->List V->Hp->VK->Prop):Prop:=
 ∀(pins:List (Addr×Obj))(s:Shared)(σ:St)(H:Hp)(x:V)(xs:List V)(v:Value)(us:List Value)(Q:VK),Inv X pins σ H s->RelV x v->bZ xs us->r x xs H Q->
  wpAny (model X.prog X.w) X.A (call (.builtin id) (v::us)) (EP X pins σ Q) X.xe s
section
variable {a b:Expr}{ta tb:TE}
def IxR.or{r r':R2}(h:IxR X r)(h':IxR X r'):IxR X (fun x y H Q=>r x y H Q\/r' x y H Q):=by
 intro f e b s g H x y v u Q I c d q a;rcases q with q|q;·exact h f e b s g H x y v u Q I c d q a
 ·exact h' f e b s g H x y v u Q I c d q a
def MtR.or{id:String}{r r':V->List V->Hp->VK->Prop}(h:MtR X id r)(h':MtR X id r'):MtR X id (fun x xs H Q=>r x xs H Q\/r' x xs H Q):=by
 intro a s e H x xs v d Q I c b q;rcases q with q|q;·exact h a s e H x xs v d Q I c b q
 ·exact h' a s e H x xs v d Q I c b q
def pe_ix{r:R2}(g:IxR X r)(e:PE X a ta)(f:PE X b tb)(hs:Ej b):PE X (.Subscript a b pos) (tOp r ta tb):=by intro i s m H Q I h;exact Subscript_ (binT e f I h fun v u l x y c d j k q=>g a b i l m c x y v u Q d j k q (hs _ _))
def rIxL(K:ao):R2:=fun x y H Q=>∃p xs i v,x=.ref p/\y=.int i/\SqL K H p xs/\atI xs i=some v/\Q v H
def rIxT(K:ao):R2:=fun x y H Q=>∃p xs i v,x=.ref p/\y=.int i/\SqT K H p xs/\atI xs i=some v/\Q v H
def rIxS:R2:=fun x y H Q=>∃z i c,x=.str z/\y=.int i/\z.length<=sizeLine/\atI z.cps.toList i=some c/\Q (.str ⟨#[c]⟩) H
def ix_list:IxR X (rIxL X.K):=by
 intro M L g s k H x y v u Q I D E h f;obtain⟨p,N,i,z,rfl,rfl,hq,o,q⟩:=h;cases D;obtain⟨t,rfl⟩:=E;obtain⟨B,r,c,K⟩:=I.list hq;obtain⟨j,a,l,G,m,n⟩:=yX o;obtain⟨w,d,C⟩:=r.get l;have A:=r.length;have J:=rf;have e:EP X g k Q w s:=⟨z,H,I,C,q⟩;by_cases h0:0<=i
 ·have b:i.toNat=j:=by rw[Bj h0 n]at a;exact aX a
  exact item_listR c.isList h0 (by lia) (by rw[b];simpa using d) e f
 ·have b:(i+(B.toArray.size:Int)).toNat=j:=by rw[seqIndex_neg (by lia) m]at a;rw[aD,<-A];exact aX a
  exact qF (x:=w) c.isList.typeIs slot_list_getitem.lookup
   (wpAny_getItem_list_neg (Q:=fun r F=>r=w/\EP X g k Q r F) c.isList (by lia) (by rw[aD]<;>lia) (by lia) (by rw[b];simpa using d) ⟨rfl,e⟩) f
def ix_tup:IxR X (rIxT X.K):=by
 intro L K a s c H x y v u Q I o A h m;obtain⟨p,M,i,z,rfl,rfl,hq,k,q⟩:=h;cases o;obtain⟨t,rfl⟩:=A;obtain⟨J,r,b,G⟩:=I.tuple hq;obtain⟨j,f,g,C,D,E⟩:=yX k;obtain⟨w,d,n⟩:=r.get g;have l:=r.length;have F:=rf;have e:EP X a c Q w s:=⟨z,H,I,n,q⟩;exact qF (x:=w) b.typeIs slot_tuple_getitem.lookup
  (getItem_tuple (j:=j) (Q:=fun r B=>r=w/\EP X a c Q r B) b (by lia) (by lia) (by rw[aD,<-l];exact f) (by simpa using d) ⟨rfl,e⟩) m
def ix_str:IxR X rIxS:=by
 intro D B A s E H x y v u Q I n o h m;obtain⟨z,i,c,rfl,rfl,w,k,q⟩:=h;obtain⟨t,rfl⟩:=n;obtain⟨C,rfl⟩:=o;obtain⟨j,a,e,p,f,g⟩:=yX k;have l:z.cps.toList.length=z.length:=by simp[A7]
 rw[l]at a f g;have r:=rf;exact tail_any (typeIs_str s z t) slot_str_getitem.lookup (getItem_str (c:=c) (by have b:decide (i< -(2^63:Int))=false:=decide_eq_false (by lia);have d:decide (i≥ 2^63)=false:=decide_eq_false (by lia);rw[b,d,Bool.or_false]) (by rw[a];simpa using e) ⟨.str ⟨#[c]⟩,H,I.tok _,⟨_,rfl⟩,q⟩) m
def rIx(K:ao):R2:=fun x y H Q=>rIxL K x y H Q\/rIxT K x y H Q\/rIxS x y H Q
def ix_seq:IxR X (rIx X.K):=ix_list.or (ix_tup.or ix_str)
def xT(lo hi:Option Int)(n:Nat):(kX lo hi none n).1=((HT.sIx n 0 lo:Nat):Int)/\(kX lo hi none n).2.1=((HT.sIx n n hi:Nat):Int)/\(kX lo hi none n).2.2=1:=by
 refine⟨?_,?_,rfl⟩
 ·cases lo with
  |none=>simp[kX,HT.sIx]
  |some i=>
   simp only[kX,HT.sIx,tf,show(1:Int)>0 by decide,if_true];by_cases h:i<0;·simp only[h,if_true]<;>lia
   ·simp only[h,if_false]<;>lia
 ·cases hi with
  |none=>simp[kX,HT.sIx]
  |some i=>
   simp only[kX,HT.sIx,tf,show(1:Int)>0 by decide,if_true];by_cases h:i<0;·simp only[h,if_true]<;>lia
   ·simp only[h,if_false]<;>lia
def vJ(a:List Value)(lo hi:Option Int):slicePick a.toArray lo hi none=((a.drop (HT.sIx a.length 0 lo)).take (HT.sIx a.length a.length hi-HT.sIx a.length 0 lo)).toArray:=by obtain⟨b,c,d⟩:=xT lo hi a.toArray.size;unfold slicePick;rw[b,c,d];simp only[sliceRange_one,pick_run,aD]<;>rfl
def rSlL(K:ao):V->Option Int->Option Int->Hp->VK->Prop:=fun x lo hi H Q=>∃a xs,x=.ref a/\SqL K H a xs/\∀p,H p=none->Q (.ref p) (upd H p (.lst (o5 xs lo hi)))
def sl_list:SlR X (rSlL X.K):=by intro p s y H x v u w lo hi t Q I l f j k h;obtain⟨a,c,rfl,g,q⟩:=h;cases l;obtain⟨m,r,d,i⟩:=I.list g;have e:=r.length;refine⟨"list",_,slot_list_getitem.lookup,d.isList.typeIs,?_⟩;refine wpAny_getItem_list_slice d.isList f j k .none (by simp) ?_ (by rw[aD]<;>lia);rw[vJ,<-e];refine⟨.ref s.heap.objs.size,_,I.laid (t':=s.toks) (o:=.lst (o5 c lo hi)) (fun b n q=>ai _ q) (aC _) ?_,rfl,q _ (I.hok.fresh (aC _))⟩;exact⟨bf (rW c lo hi) i,_,0,(r.drop (HT.sIx c.length 0 lo)).take (HT.sIx c.length c.length hi-HT.sIx c.length 0 lo),az _ rfl⟩
abbrev qe:V->Bool
 |.non=>true
 |.bl _=>true
 |.int _=>true
 |.str _=>true
 |_=>false
abbrev eqV:V->V->Bool
 |.non,.non=>true
 |.bl a,.bl b=>a==b
 |.bl a,.int b=>(if a then 1 else 0)==b
 |.int a,.bl b=>a==(if b then 1 else 0)
 |.int a,.int b=>a==b
 |.str a,.str b=>a==b
 |_,_=>false
def gH{x:V}{v:Value}(f:RelV y u)(c:RelV x v)(g:qe y=true)(e:qe x=true):SeqAt.EqAt A s u v (eqV y x):=by
 cases y with
 |non=>
  cases f;cases x with
  |non=>cases c;exact SeqAt.EqAt.same _
  |bl b=>cases c;exact SeqAt.EqAt.none_bool b
  |int b=>obtain⟨t,rfl⟩:=c;exact SeqAt.EqAt.none_int b t
  |str b=>obtain⟨t,rfl⟩:=c;exact SeqAt.EqAt.none_str b t
  |_=>exact absurd (show false=true from e) aA
 |bl a=>
  cases f;cases x with
  |non=>cases c;exact SeqAt.EqAt.bool_none a
  |bl b=>cases c;exact SeqAt.EqAt.bool_bool a b
  |int b=>obtain⟨t,rfl⟩:=c;exact SeqAt.EqAt.bool_int a b t
  |str b=>obtain⟨t,rfl⟩:=c;exact SeqAt.EqAt.bool_str a b t
  |_=>exact absurd (show false=true from e) aA
 |int a=>
  obtain⟨d,rfl⟩:=f;cases x with
  |non=>cases c;exact SeqAt.EqAt.int_none a d
  |bl b=>cases c;exact SeqAt.EqAt.int_bool a d b
  |int b=>obtain⟨t,rfl⟩:=c;exact SeqAt.EqAt.int_int a d b t
  |str b=>obtain⟨t,rfl⟩:=c;exact Bm a d b t
  |_=>exact absurd (show false=true from e) aA
 |str a=>
  obtain⟨d,rfl⟩:=f;cases x with
  |non=>cases c;exact SeqAt.EqAt.str_none a d
  |bl b=>cases c;exact SeqAt.EqAt.str_bool a d b
  |int b=>obtain⟨t,rfl⟩:=c;exact Bl a d b t
  |str b=>obtain⟨t,rfl⟩:=c;exact SeqAt.EqAt.str_str a d b t
  |_=>exact absurd (show false=true from e) aA
 |_=>exact absurd (show false=true from g) aA
abbrev eqU(x:V)(u:Value):Bool:=match u with
 |.none=>eqV .non x
 |.bool b=>eqV (.bl b) x
 |.int i _=>eqV (.int i) x
 |.str z _=>eqV (.str z) x
 |_=>false
def Jl{x:V}(r:RelV y u)(f:qe y=true):eqU x u=eqV y x:=by
 cases y with
 |non=>cases r;rfl
 |bl b=>cases r;rfl
 |int i=>obtain⟨t,rfl⟩:=r;rfl
 |str z=>obtain⟨t,rfl⟩:=r;rfl
 |_=>exact absurd (show false=true from f) aA
theorem qC{x:V}:∀{xs:List V}{us:List Value},bZ xs us->xs.all qe=true->us.any (eqU x)=xs.any fun y=>eqV y x
 |_,_,.nil,_=>rfl
 |y::xs,u::us,.cons r t,f=>by rw[Bu,aL]at f;rw[Bt,Bt,Jl r f.1,qC t f.2]
theorem mK{x:V}{v:Value}(b:RelV x v)(a:qe x=true):∀{xs:List V}{us:List Value},bZ xs us->xs.all qe=true->∀u∈us,SeqAt.EqAt A s u v (eqU x u)
 |_,_,.nil,_=>fun u hu=>by cases hu
 |y::xs,u::us,.cons r t,f=>fun c hu=>by
  rw[Bu,aL]at f;rcases aI.mp hu with rfl|hu;·rw[Jl r f.1];exact gH r b f.1 a
  ·exact mK b a t f.2 c hu
abbrev inV(x:V)(xs:List V):Bool:=xs.any fun y=>eqV y x
def rIn(K:ao)(a:Bool):R2:=fun x y H Q=>∃p xs,y=.ref p/\(SqL K H p xs\/SqT K H p xs)/\qe x=true/\xs.all qe=true/\Q (.bl (if a then !inV x xs else inV x xs)) H
def E2:OpR X (dU .In) (rIn X.K false):=by
 intro i s k H x y v u Q I e g h;obtain⟨p,j,rfl,hq,d,fs,q⟩:=h;cases g;rcases hq with hq|hq;·obtain⟨a,r,c,f⟩:=I.list hq;refine SeqAt.in_listAt (eqU x) c.isList (fun w b=>mK e d r fs w (by simpa using b)) ⟨.bl _,H,I,rfl,?_⟩;rw[show a.toArray.any (eqU x)=a.any (eqU x) by simp,qC r fs];exact q
 ·obtain⟨a,r,c,f⟩:=I.tuple hq;refine SeqAt.in_tupleAt (eqU x) c (fun w b=>mK e d r fs w (by simpa using b)) ⟨.bl _,H,I,rfl,?_⟩;rw[show a.toArray.any (eqU x)=a.any (eqU x) by simp,qC r fs];exact q
def yg:OpR X (dU .NotIn) (rIn X.K true):=by
 intro i s k H x y v u Q I e g h;obtain⟨p,j,rfl,hq,d,fs,q⟩:=h;cases g;rcases hq with hq|hq;·obtain⟨a,r,c,f⟩:=I.list hq;refine SeqAt.notIn_listAt (eqU x) c.isList (fun w b=>mK e d r fs w (by simpa using b)) ⟨.bl _,H,I,rfl,?_⟩;rw[show a.toArray.any (eqU x)=a.any (eqU x) by simp,qC r fs];exact q
 ·obtain⟨a,r,c,f⟩:=I.tuple hq;refine SeqAt.notIn_tupleAt (eqU x) c (fun w b=>mK e d r fs w (by simpa using b)) ⟨.bl _,H,I,rfl,?_⟩;rw[show a.toArray.any (eqU x)=a.any (eqU x) by simp,qC r fs];exact q
def yf:OpR X (dU .NotIn) (fun x y H Q=>∃i j,x=.str i/\y=.str j/\Q (.bl (!(!(ix j i 0 j.length 1).isEmpty))) H):=by intro c s e H x y v u Q I a b h;obtain⟨i,j,rfl,rfl,q⟩:=h;obtain⟨t,rfl⟩:=a;obtain⟨d,rfl⟩:=b;exact notIn_str ⟨.bl _,H,I,rfl,q⟩
def yS:gp X (.builtin "len") (fun xs H Q=>∃p ys,xs=[.ref p]/\(SqL X.K H p ys\/SqT X.K H p ys)/\Q (.int ys.length) H):=by
 intro i s k H xs j Q I r h;obtain⟨p,ys,rfl,hq,q⟩:=h;obtain⟨u,rfl,f⟩:=vals1 r;cases f;have g:=rf;rcases hq with hq|hq;·obtain⟨e,c,b,d⟩:=I.list hq;have a:=c.length;exact Calls.call_len_list b.isList (by simp only[aD]<;>lia) ⟨.int ys.length,H,I.tok _,⟨s.toks+1,by rw[aD,a]⟩,q⟩
 ·obtain⟨e,c,b,d⟩:=I.tuple hq;have a:=c.length;exact len_tuple b (by simp only[aD]<;>lia) ⟨.int ys.length,H,I.tok _,⟨s.toks+1,by rw[aD,a]⟩,q⟩
def yR:gp X (.builtin "len") (fun xs H Q=>∃z,xs=[.str z]/\z.length<=sizeLine/\Q (.int z.length) H):=by intro c s e H xs d Q I r h;obtain⟨z,rfl,b,q⟩:=h;obtain⟨u,rfl,t,rfl⟩:=vals1 r;have a:=rf;exact len_str (by lia) ⟨.int z.length,H,I.tok _,⟨_,rfl⟩,q⟩
def gp.or{f:Value}{r r':List V->Hp->VK->Prop}(h:gp X f r)(h':gp X f r'):gp X f (fun xs H Q=>r xs H Q\/r' xs H Q):=by
 intro a s d H xs c Q I b q;rcases q with q|q;·exact h a s d H xs c Q I b q
 ·exact h' a s d H xs c Q I b q
def yQ:gp X (.type "list") (fun xs H Q=>∃p ys,xs=[.ref p]/\(SqL X.K H p ys\/SqT X.K H p ys)/\∀l,H l=none->Q (.ref l) (upd H l (.lst ys))):=by
 intro y s A H xs B Q I r h;obtain⟨p,ys,rfl,hq,q⟩:=h;obtain⟨u,rfl,z⟩:=vals1 r;cases z;have v:∀(c:List Value),bZ ys c->ys.length<=sizeLine->∀(a:Heap)(d:Nat),(∀b w,s.heap.get? b=some w->a.get? b=some w)->
   a.get? s.heap.objs.size=some {cls:=.type "list",dict:=none,data:=.seq c.toArray d,slots:= #[]}->EP X y A Q (.ref s.heap.objs.size) {s with heap:=a}:=fun c f g a d i e=>
  ⟨.ref s.heap.objs.size,_,I.laid (t':=s.toks) i (aC _) (show d7 X.prog X.w _ a _ (.lst ys)from⟨g,c,d,f,e⟩),rfl,q _ (I.hok.fresh (aC _))⟩
 rcases hq with hq|hq;·obtain⟨c,f,t,g⟩:=I.list hq;have x:=f.length;obtain⟨o,m,j,n,k⟩:=t.isList;exact call_list_seq p (.inl rfl) m j k (fun a d i e=>v c f g a d i e) (by simp only[aD]<;>lia)
 ·obtain⟨c,f,t,g⟩:=I.tuple hq;have x:=f.length;obtain⟨o,m,j,n,k⟩:=t;exact call_list_seq p (.inr rfl) m j k (fun a d i e=>v c f g a d i e) (by simp only[aD]<;>lia)
def vT:gp X (.type "tuple") (fun xs H Q=>∃p ys,xs=[.ref p]/\((SqL X.K H p ys/\∀l,H l=none->Q (.ref l) (upd H l (.tup ys)))\/(SqT X.K H p ys/\Q (.ref p) H))):=by
 intro j s k H xs w Q I r h;obtain⟨p,ys,rfl,h⟩:=h;obtain⟨u,rfl,t⟩:=vals1 r;cases t;rcases h with⟨hq,q⟩ |⟨hq,q⟩
 ·obtain⟨c,f,d,i⟩:=I.list hq;have v:=f.length;refine call_tuple_list d.isList (fun a n=>?_) (by simp only[aD]<;>lia);have g:Inv X j k H {s with heap:=a}:=I.kept (t':=s.toks) n;have m:Inv X j k (upd H a.objs.size (.tup ys)) {s with heap:=a.push {cls:=.type "tuple",data:=.seq c.toArray}}:=
   g.laid (t':=s.toks) (fun b o e=>ai _ e) (aC _) (show d7 X.prog X.w _ _ _ (.tup ys)from⟨i,c,f,IsTup.new _ _⟩)
  exact⟨.ref a.objs.size,_,m,rfl,q _ (g.hok.fresh (aC _))⟩
 ·obtain⟨c,f,d,i⟩:=I.tuple hq;exact call_tuple_same d ⟨.ref p,H,I,rfl,q⟩
def tyV(K:ao)(T:String)(x:V)(H:Hp):Prop:=match x with
 |.str _=>T="str"
 |.int _=>T="int"
 |.ref p=>(T="list"/\∃xs,SqL K H p xs)\/(T="tuple"/\∃o,K.lookup p=some o/\o.cls=.type "tuple"/\o.dict=none)\/
   (T="dict"/\((∃kvs,H p=some (.dK kvs))\/∃kvs,H p=some (.dT kvs)))\/(T="set"/\∃S n,H p=some (.set S n))
 |_=>False
def Gy{T:String}{x:V}{v:Value}(I:Inv X pins σ H s)(r:RelV x v)(ty:tyV X.K T x H):
  s.TypeIs v T/\∀a,v=.ref a->∃h,s.heap.get? a=some h/\h.dict=none:=by
 cases x with
 |str z=>obtain⟨t,rfl⟩:=r;cases(show T="str" from ty);exact⟨typeIs_str s z t,fun _ e=>nomatch e⟩
 |int i=>obtain⟨t,rfl⟩:=r;cases(show T="int" from ty);exact⟨typeIs_int s i t,fun _ e=>nomatch e⟩
 |ref p=>
  cases r;rcases ty with⟨rfl,q,hq⟩ |⟨rfl,o,b,k,g⟩ |⟨rfl,b⟩ |⟨rfl,S,n,b⟩;·obtain⟨m,_,j,_⟩:=I.list hq;refine⟨j.isList.typeIs,fun a e=>?_⟩;cases e;obtain⟨o,n,e,c,g,_⟩:=j;exact⟨o,e,g⟩
  ·refine⟨⟨o,I.kIn p o b,k⟩,fun a e=>?_⟩;cases e;exact⟨o,I.kIn _ o b,g⟩
  ·have z:∃o,s.heap.get? p=some o/\o.ExactDict:=by
    rcases b with⟨l,b⟩ |⟨l,b⟩;·obtain⟨_,_,_,_,o,_,_,e,d,_⟩:=I.hok p _ b;exact⟨o,e,d⟩
    ·obtain⟨_,_,_,_,o,_,_,e,d,_⟩:=I.hok p _ b;exact⟨o,e,d⟩
   obtain⟨o,e,d⟩:=z;refine⟨⟨o,e,d.1⟩,fun a f=>?_⟩;cases f;exact⟨o,e,d.2.1⟩
  ·obtain⟨o,_,_,_,e,d,_⟩:=I.hok p _ b;refine⟨⟨o,e,d.1⟩,fun a f=>?_⟩;cases f;exact⟨o,e,d.2.1⟩
 |_=>exact kY ty
def tBM0(K:ao)(T:String)(r:V->List V->Hp->VK->Prop)(to:TE):TE:=fun σ H Q=>to σ H fun x H1=>tyV K T x H1/\r x [] H1 Q
def tBM(K:ao)(T:String)(r:V->List V->Hp->VK->Prop)(to:TE)(t:TA):TE:=fun σ H Q=>to σ H fun x H1=>tyV K T x H1/\t σ H1 fun xs H2=>r x xs H2 Q
variable {o:Expr}{es:List Expr}{to:TE}{t:TA}{name:Str}{apos cpos:Pos}{T id:String}{r:V->List V->Hp->VK->Prop}
def pe_bm0(n:PlainAttrs T)(slot:Slot T name id)(m:typeOf (.builtin id)=pure (.type "method_descriptor"))(k:MtR X id r)(l:PE X o to)
  (i:JX o name X.env (eval o X.env)=eval o X.env:=by rfl) (j:(apos.endLine==cpos.line)=true:=by rfl):PE X (.Call (.Attribute o name apos) [] [] cpos) (tBM0 X.K T r to):=by
 intro b s d H Q I h;refine wpAny_Call_method0_late i j (thn (l b s d H _ I h) fun v q ⟨x,e,a,c,ty,p⟩=>?_);obtain⟨f,g⟩:=Gy a c ty;exact⟨T,id,n,slot,m,f,g,C7 rfl (PySem.evalArgs_none (k b q d e x [] v [] Q a c .nil p))⟩
def pe_bm(A:PlainAttrs T)(slot:Slot T name id)(z:typeOf (.builtin id)=pure (.type "method_descriptor"))(u:MtR X id r)(w:PE X o to)(m:PA X (e::es) t)
  (n:JX o name X.env (eval o X.env)=eval o X.env:=by rfl)
  (p:((backTo cpos (cf (e::es) X.env)).all (fun x=> !x.1)&&(backToKw cpos (keywordEach [] X.env)).all (fun x=>x.1.isSome)
   &&decide ((e::es).length+([]:List Keyword).length+(if([]:List Keyword).isEmpty then 0 else 1)<30))=true:=by rfl)
  (q:(apos.endLine==cpos.line)=true:=by rfl) (hs:cf (e::es) X.env=(false,eval e X.env)::cf es X.env:=by rfl) (y:(backTo cpos (cf es X.env)).any (·.1)=false:=by rfl):
  PE X (.Call (.Attribute o name apos) (e::es) [] cpos) (tBM X.K T r to t):=by
 intro a s b H Q I h;refine wpAny_Call_method_late n p q rfl (thn (w a s b H _ I h) fun v E ⟨x,g,c,f,ty,B⟩=>?_);obtain⟨k,l⟩:=Gy c f ty;refine⟨T,id,A,slot,z,k,l,?_⟩;have d:=m cpos a E b g _ c B;rw[hs]at d⊢;refine C7 (by show(false||(backTo cpos (cf es X.env)).any (·.1))=false;rw[y]<;>rfl) (Calls.evalArgs_plain ?_);exact thn d fun G F ⟨J,i,j,D,C⟩=>u a F b i x J v G Q j f D C
end
def MtM(X:Cx)(id:String)(r:V->List V->Hp->VK->Prop):Prop:=
 ∀(pins:List (Addr×Obj))(s:Shared)(σ:St)(H:Hp)(x:V)(xs:List V)(v:Value)(us:List Value)(Q:VK),Inv X pins σ H s->RelV x v->bZ xs us->r x xs H Q->
  wpAny (model X.prog X.w) X.A (call (.builtin id) (v::us)) (EP X pins σ Q) X.xe s
def bZ.one{x:V}(h:bZ [x] us):∃u,us=[u]/\RelV x u:=by
 cases h with
 |cons r k=>cases k with
  |nil=>exact⟨_,rfl,r⟩
def bZ.two{x:V}(h:bZ [x,y] us):∃u v,us=[u,v]/\RelV x u/\RelV y v:=by
 cases h with
 |cons r k=>obtain⟨v,e,q⟩:=bZ.one k;exact⟨_,v,by rw[e],r,q⟩
def bZ.zero:∀{us:List Value},bZ [] us->us=[]
 |_,.nil=>rfl
theorem bZ.eraseIdx:∀{xs:List V}{us:List Value}(i:Nat),bZ xs us->bZ (xs.eraseIdx i) (us.eraseIdx i)
 |_,_,_,.nil=>.nil
 |_,_,0,.cons _ t=>t
 |_,_,i+1,.cons r t=>.cons r (bZ.eraseIdx i t)
theorem bZ.reverse(h:bZ xs us):bZ xs.reverse us.reverse:=by
 induction h with
 |nil=>exact .nil
 |cons r t ih=>rw[tm,tm];exact bZ.append ih (.cons r .nil)
theorem bZ.rep(h:bZ xs us):∀k:Nat,bZ (cb k xs).flatten (cb k us).flatten
 | 0=>.nil
 |k+1=>by rw[gc,gc,l7,l7];exact bZ.append h (bZ.rep h k)
theorem wC{a:Type}:∀(l:List a)(i:Nat),(l.eraseIdx i).length<=l.length
 | [],_=>aC _
 |_::_,0=>eR _
 |_::r,i+1=>Nat.succ_le_succ (wC r i)
theorem foldl_rep(a:List Value):∀(k:Nat)(ac:List Value),
  List.foldl (fun c d=>c++d) ac.toArray (cb k a.toArray)=(ac++(cb k a).flatten).toArray
 | 0,ac=>by simp
 |k+1,ac=>by
  have e:ac.toArray++a.toArray=(ac++a).toArray:=by simp
  have b:(ac++a)++(cb k a).flatten=ac++(cb (k+1) a).flatten:=by rw[gc,l7,jf]
  rw[<-b,<-foldl_rep a k (ac++a),<-e,gc,dR]
section
variable {pins:List (Addr×Obj)}{s:Shared}{l b:Addr}
def Inv.Iy{f:Array Value->Array Value}(I:Inv X pins σ H s)(a:H l=some (.lst xs))
  (e:s.heap.get? l=some {cls:=.type "list",data:=.seq ad.toArray n}) (hf:f ad.toArray=its'.toArray) (d:bZ ys its') (hz:ys.length<=sizeLine):
  Inv X pins σ (upd H l (.lst ys)) {s with heap:=s.heap.update l (bp f),toks:=t'}:=by
 have q:=F3 e f;rw[hf]at q;refine I.write (x:=l) (e:=l) (by rw[a];exact trivial) (.inl rfl) (fun g u b c=>(bu s.heap (bp f) (bO b)).trans c) ⟨_,q⟩ ?_;exact⟨hz,its',_,d,q⟩
def Inv.lnew(I:Inv X pins σ H s)(a:bZ ys ad)(hz:ys.length<=sizeLine):
  Inv X pins σ (upd H s.heap.objs.size (.lst ys)) {s with heap:=s.heap.push {cls:=.type "list",data:=.seq ad.toArray},toks:=t'}:=
 I.laid (fun _ _ q=>ai _ q) (aC _) ⟨hz,ad,0,a,az _ rfl⟩
theorem Inv.fresh(I:Inv X pins σ H s):H s.heap.objs.size=none:=I.hok.fresh (aC _)
def Inv.yp(I:Inv X pins σ H s)(a:H l=some (.lst xs)):xs.length<=sizeLine/\∃(ad:List Value)(n:Nat),bZ xs ad/\xs.length=ad.length/\s.heap.get? l=some {cls:=.type "list",data:=.seq ad.toArray n}:=by obtain⟨z,ad,n,r,e⟩:=I.hok l _ a;exact⟨z,ad,n,r,r.length,e⟩
def Ac(h:n<=sizeLine):gQ n=false:=by unfold gQ;exact decide_eq_false (by lia)
end
section
def x8:V->List V->Hp->VK->Prop:=fun x vs H Q=>∃l xs y,x=.ref l/\vs=[y]/\H l=some (.lst xs)/\xs.length<sizeLine/\Q .non (upd H l (.lst (xs++[y])))
def Fc:MtM X "list.append" x8:=by intro j s p H x m v k Q I f d h;obtain⟨l,o,y,rfl,rfl,a,i,q⟩:=h;cases f;obtain⟨u,rfl,c⟩:=d.one;obtain⟨z,b,n,r,g,e⟩:=I.yp a;refine kg F.slot_list_append ⟨_,e,rfl⟩ F.entry_list_append (F.args_list_append_2 _ _) (PySem.list_append l b.toArray n u (by rw[aD];lia)) ⟨e,?_⟩;refine⟨.non,_,I.Iy (its':=b++[u]) a e (by simp) (r.append (.cons c .nil)) ?_,rfl,q⟩;rw[bE,oO];lia
def Dq:V->List V->Hp->VK->Prop:=fun x vs H Q=>∃l b xs zs,x=.ref l/\vs=[.ref b]/\H l=some (.lst xs)/\H b=some (.lst zs)/\xs.length+zs.length<=sizeLine/\Q .non (upd H l (.lst (xs++zs)))
def Fb:MtM X "list.extend" Dq:=by
 intro B s K H x D v C Q I t p h;obtain⟨l,b,E,J,rfl,rfl,d,g,A,q⟩:=h;cases t;obtain⟨u,rfl,o⟩:=p.one;cases o;obtain⟨z,a,n,r,w,e⟩:=I.yp d;obtain⟨G,c,k,m,y,f⟩:=I.yp g;have j:a.toArray.size+c.toArray.size<=sizeLine:=by rw[aD,aD];lia
 have i:¬(!a.toArray.isEmpty&&gQ (a.toArray.size+c.toArray.size))=true:=by rw[Ac j,gm];exact aA
 refine kg F.slot_list_extend ⟨_,e,rfl⟩ F.entry_list_extend (F.args_list_extend_2 _ _)
  (AutoSeq1.list_extend_list_list_0 l a.toArray n b c.toArray k i (by rw[aD];lia) (by lia)) ⟨e,f,?_⟩
 refine⟨.non,_,I.Iy (its':=a++c) d e (by simp) (r.append m) ?_,rfl,q⟩;rw[bE];lia
def Hs:V->List V->Hp->VK->Prop:=fun x vs H Q=>∃l xs i k y,x=.ref l/\vs=[.int i]/\H l=some (.lst xs)∧-(2^63)<=i/\i<2^63/\seqIndex? i xs.length=some k/\xs[k]? =some y/\Q y (upd H l (.lst (xs.eraseIdx k)))
def Il:MtM X "list.pop" Hs:=by
 intro D s J H x G v E Q I B p h;obtain⟨l,C,i,k,y,rfl,rfl,b,c,d,f,m,q⟩:=h;cases B;obtain⟨u,rfl,o⟩:=p.one;obtain⟨t,rfl⟩:=o;obtain⟨z,a,n,r,g,e⟩:=I.yp b;obtain⟨w,j,A⟩:=r.get m;refine kg F.slot_list_pop ⟨_,e,rfl⟩ F.entry_list_pop (F.args_list_pop_2 _ _)
  (MeetsSeq.list_pop_at l a.toArray n i t k w (fitsIndex_both c d) (by rw[aD,<-g];exact f) (by rw[<-bU];exact j) (by rw[aD];lia)) ⟨e,?_⟩
 refine⟨y,_,I.Iy (its':=a.eraseIdx k) b e ?_ (r.eraseIdx k) ?_,A,q⟩;·show a.toArray.eraseIdxIfInBounds k=(a.eraseIdx k).toArray;rw[List.eraseIdxIfInBounds_toArray]
 ·have :=wC C k;lia
def zT:V->List V->Hp->VK->Prop:=fun x vs H Q=>∃l xs,x=.ref l/\vs=[]/\H l=some (.lst xs)/\Q .non (upd H l (.lst xs.reverse))
def B9:MtM X "list.reverse" zT:=by intro i s o H x k v j Q I f d h;obtain⟨l,m,rfl,rfl,a,q⟩:=h;cases f;have c:=d.zero;subst c;obtain⟨z,b,n,r,g,e⟩:=I.yp a;refine kg F.slot_list_reverse ⟨_,e,rfl⟩ F.entry_list_reverse (F.args_list_reverse_1 _) (AutoSeq1.list_reverse_list_0 l b.toArray n (by rw[aD];lia)) ⟨e,?_⟩;refine⟨.non,_,I.Iy (its':=b.reverse) a e (by simp) r.reverse ?_,rfl,q⟩;rw[List.length_reverse];lia
def Hu:V->List V->Hp->VK->Prop:=fun x vs H Q=>∃l xs,x=.ref l/\vs=[]/\H l=some (.lst xs)/\Q .non (upd H l (.lst []))
def Im:MtM X "list.clear" Hu:=by intro i s o H x k v j Q I f d h;obtain⟨l,m,rfl,rfl,a,q⟩:=h;cases f;have b:=d.zero;subst b;obtain⟨z,c,n,r,g,e⟩:=I.yp a;refine kg F.slot_list_clear ⟨_,e,rfl⟩ F.entry_list_clear (F.args_list_clear_1 _) (AutoSeq1.list_clear_list_0 l c.toArray n (by rw[aD];lia)) ⟨e,?_⟩;exact⟨.non,_,I.Iy (its':=[]) (ys:=[]) a e rfl .nil (aW _),rfl,q⟩
def rCat:R2:=fun x y H Q=>∃l b xs zs,x=.ref l/\y=.ref b/\H l=some (.lst xs)/\H b=some (.lst zs)/\xs.length+zs.length<=sizeLine/\∀p,H p=none->Q (.ref p) (upd H p (.lst (xs++zs)))
def op_cat:OpR X (gb .Add) rCat:=by
 intro A s E H x y v u Q I k m h;obtain⟨l,b,B,D,rfl,rfl,i,g,t,q⟩:=h;cases k;cases m;obtain⟨z,a,n,r,o,e⟩:=I.yp i;obtain⟨C,c,w,j,p,d⟩:=I.yp g;refine PySem.P.add_list e d ?_ (by rw[aD,aD];lia);have f:a.toArray++c.toArray=(a++c).toArray:=by simp
 rw[f];exact⟨.ref _,_,I.lnew (t':=s.toks) (r.append j) (by rw[bE];lia),rfl,q _ I.fresh⟩
def rRep:R2:=fun x y H Q=>∃l k xs,x=.ref l/\y=.int k/\H l=some (.lst xs)∧-(2^63)<=k/\k<2^63/\xs.length*k.toNat<=sizeLine/\
 ∀p,H p=none->Q (.ref p) (upd H p (.lst (cb k.toNat xs).flatten))
def len_rep{a:Type}(xs:List a)(k:Nat):(cb k xs).flatten.length=k*xs.length:=by
 induction k with
 |zero=>simp
 |succ k ih=>rw[gc,l7,bE,ih,Nat.succ_mul,Nat.add_comm]
def op_rep:OpR X (gb .Mult) rRep:=by
 intro K s M H x y v u Q I E G h;obtain⟨l,k,L,rfl,rfl,o,i,j,f,q⟩:=h;cases E;obtain⟨t,rfl⟩:=G;obtain⟨z,b,n,r,A,e⟩:=I.yp o;have B:b.toArray.size*k.toNat<=sizeLine:=by rw[aD,<-A];exact f
 have p:¬b.toArray.size*k.toNat>(2^63-1)/8:=by
  have :(sizeLine:Nat)<=(2^63-1)/8:=by decide
  lia
 have w:¬(!Builtin.List.listFitsIndex k)=true:=by rw[fitsIndex_both i j];exact aA
 have C:¬gQ (b.toArray.size*k.toNat)=true:=by rw[Ac B];exact aA
 have D:List.foldl (fun c d=>c++d) #[] (cb (if b.toArray.isEmpty=true then 0 else k.toNat) b.toArray)=(cb k.toNat b).flatten.toArray:=by
  have g:∀m:Nat,List.foldl (fun c d=>c++d) #[] (cb m b.toArray)=(cb m b).flatten.toArray:=fun m=>by have :=foldl_rep b m [];rw[xr]at this;exact this
  rw[g];cases b with
  |nil=>simp
  |cons a r'=>rw[if_neg (by simp)]
 refine wpAny_binaryOp_repeat_ref (T:="list") (U:="int") (by decide) ⟨_,e,rfl⟩ (fun J=>typeIs_int J k t) noFill_list_mul F.fills_int_mul F.slot_int_rmul repeat_list F.slot_int_index.lookup
  (kg F.slot_int_rmul (typeIs_int s k t) F.entry_int_rmul (F.args_int_rmul_2 _ _) (int___rmul___int_list k t l b.toArray n)
   ⟨e,rfl,⟨_,e,rfl⟩,kg F.slot_list_mul ⟨_,e,rfl⟩ F.entry_list_mul (F.args_list_mul_2 _ _) (AutoListH.list___mul___list_int_3 l b.toArray n k t w p C) ⟨e,?_⟩⟩)
 rw[D];exact⟨.ref _,_,I.lnew (t':=s.toks) (r.rep k.toNat) (by rw[len_rep,Nat.mul_comm];exact f),rfl,q _ I.fresh⟩
end
section
variable {κ:Type}[DecidableEq κ]
abbrev fq(kvs:List (κ×V))(k:κ):Option V:=(kvs.find? fun kv=>decide (kv.1=k)).map (·.2)
abbrev putK(kvs:List (κ×V))(k:κ)(v:V):List (κ×V):=
 if(kvs.any fun kv=>decide (kv.1=k))=true then kvs.map (fun kv=>if kv.1=k then(kv.1,v)else kv)else kvs++[(k,v)]
def gX{p:κ×V}{r:List (κ×V)}{k:κ}(e:p.1=k):fq (p::r) k=some p.2:=by simp[fq,iT,e]
def gY{p:κ×V}{r:List (κ×V)}{k:κ}(e:¬p.1=k):fq (p::r) k=fq r k:=by simp[fq,iT,e]
theorem jS(k:κ):∀kvs:List (κ×V),(kvs.any fun kv=>decide (kv.1=k))=(fq kvs k).isSome
 | []=>rfl
 |p::r=>by
  rw[Bt];by_cases e:p.1=k;·simp only[gX e,decide_eq_true e,Bool.true_or,iG]
  ·rw[gY e,decide_eq_false e,Bool.false_or];exact jS k r
theorem zy(k j:κ)(y:V):∀kvs:List (κ×V),fq (kvs.map fun kv=>if kv.1=k then(kv.1,y)else kv) j=(fq kvs j).map fun x=>if j=k then y else x
 | []=>rfl
 |p::r=>by
  have a:=zy k j y r;rw[bh];by_cases h:p.1=k
  ·rw[if_pos h];by_cases e:p.1=j;·rw[gX (p:=(p.1,y)) e,gX e,jN,if_pos (e.symm.trans h)]
   ·rw[gY (p:=(p.1,y)) e,gY e,a]
  ·rw[if_neg h];by_cases e:p.1=j;·rw[gX (p:=p) e,gX e,jN,if_neg (fun z=>h (e.trans z))]
   ·rw[gY (p:=p) e,gY e,a]
theorem v7(k j:κ)(y:V):∀kvs:List (κ×V),fq kvs k=none->fq (kvs++[(k,y)]) j=if j=k then some y else fq kvs j
 | [],_=>by
  by_cases e:k=j;·rw[if_pos e.symm];exact gX (p:=(k,y)) e
  ·rw[if_neg (fun z=>e z.symm)];exact gY (p:=(k,y)) e
 |p::r,hn=>by
  rw[vz];have a:¬p.1=k:=fun z=>by rw[gX z]at hn;cases hn
  rw[gY a]at hn;have b:=v7 k j y r hn;by_cases e:p.1=j;·rw[gX e,gX e,if_neg (fun z=>a (e.trans z))]
  ·rw[gY e,gY e,b]
def Gs(b:List (κ×V))(k j:κ)(y:V):fq (putK b k y) j=if j=k then some y else fq b j:=by
 unfold putK;by_cases a:(b.any fun d=>decide (d.1=k))=true
 ·rw[if_pos a,zy];rw[jS]at a;by_cases e:j=k;·obtain⟨x,c⟩:=fI.mp a;rw[if_pos e,e,c,jN,if_pos rfl]
  ·rw[if_neg e];cases fq b j with
   |none=>rfl
   |some x=>rw[jN,if_neg e]
 ·rw[if_neg a];refine v7 k j y b ?_;rw[jS]at a;cases q:fq b k with
  |none=>rfl
  |some x=>rw[q]at a;exact(a rfl).elim
def rT(a:List (κ×V))(k:κ)(v:V):(putK a k v).length<=a.length+1:=by
 unfold putK;split;·rw[ak];lia
 ·rw[bE,bz,nY];lia
def Hw{a:List (κ×V)}{k:κ}(v:V)(h:fq a k=none):putK a k v=a++[(k,v)]:=by unfold putK;rw[jS,h];exact if_neg (by decide)
def vV.Fl{o:Option V}{u:Option Value}(r:vV o u):o.isSome=u.isSome:=by
 cases o with
 |none=>cases u with
  |none=>rfl
  |some _=>exact(show False from r).elim
 |some _=>cases u with
  |none=>exact(show False from r).elim
  |some _=>rfl
end
def IH{k:Key}(r:RelV (kV k) u):(bg P w).is k u=true:=by
 cases k with
 |inl i=>obtain⟨t,e⟩:=(show ∃t,u=hU i t from r);subst e;exact mJ P w i t
 |inr x=>obtain⟨t,e⟩:=(show ∃t,u=iU x t from r);subst e;exact Ag P w x t
theorem rg:∀{ks:List Key}{us:List Value},bZ (ks.map kV) us->ItemsAre (bg P w) ks us
 | [],_,r=>by rw[kG]at r;cases r;exact .nil
 |k::ks,_,r=>by
  rw[bh]at r;cases r with
  |cons h t=>exact .cons (IH h) (rg t)
noncomputable abbrev KT(H:Hp):List (List Key×V)->List (List Key×Addr×Value)->Prop:=Paired fun p q=>p.1=q.1/\H q.2.1=some (.tup (p.1.map kV))/\RelV p.2 q.2.2
def KT.val{d:List (List Key×V)}{xs:List (List Key×Addr×Value)}(r:KT H d xs)(k:List Key):vV (fq d k) ((atKey xs k).map (·.2)):=by
 induction r with
 |nil=>exact True.intro
 | @cons p q ps qs h t ih=>
  obtain⟨c,_,f⟩:=h;by_cases e:p.1=k
  ·have a:q.1=k:=c.symm.trans e;have b:atKey (q::qs) k=some q.2:=by simp[atKey,iT,a]
   rw[gX e,b];exact f
  ·have a:¬q.1=k:=fun z=>e (c.trans z);have b:atKey (q::qs) k=atKey qs k:=by simp[atKey,iT,a]
   rw[gY e,b];exact ih
def KT.repl{c:List (List Key×V)}{xs:List (List Key×Addr×Value)}(r:KT H c xs)(k:List Key)(f:RelV y u):
  KT H (c.map fun kv=>if kv.1=k then(kv.1,y)else kv) (xs.map (putAt k u)):=by
 induction r with
 |nil=>exact .nil
 | @cons p q ps qs h t ih=>
  rw[bh,bh];refine .cons ?_ ih;obtain⟨a,b,d⟩:=h;unfold putAt;by_cases e:p.1=k;·rw[if_pos e,if_pos (a.symm.trans e)];exact⟨a,b,f⟩
  ·rw[if_neg e,if_neg (fun z=>e (a.trans z))];exact⟨a,b,d⟩
def KT.put{a:List (List Key×V)}{xs:List (List Key×Addr×Value)}(r:KT H a xs)(k:List Key)(d:H b=some (.tup (k.map kV)))(c:RelV y u):
  KT H (putK a k y) (storedH xs k b u):=by
 have e:(a.any fun f=>decide (f.1=k))=(atKey xs k).isSome:=by rw[jS,(r.val k).Fl,Option.isSome_map]
 unfold putK storedH;rw[e];by_cases q:(atKey xs k).isSome=true;·rw[if_pos q,if_pos q];exact r.repl k c
 ·rw[if_neg q,if_neg q];exact Paired.snoc r ⟨rfl,d,c⟩
def KT.keeps{a:List (List Key×V)}{xs:List (List Key×Addr×Value)}(r:KT H a xs)(c:∀b ys,H b=some (.tup ys)->H' b=some (.tup ys)):KT H' a xs:=
 Paired.uD r fun _ _ z=>⟨z.1,c _ _ z.2.1,z.2.2⟩
section
variable {a:Addr}
def rd_of{u:HO}(ok:HOk P w H h)(e:Rd H a u):d7 P w H h a u:=e.ok ok
def Cm{ks:List Key}(ok:HOk P w H h)(e:H a=some (.tup (ks.map kV))):(ph (bg P w)).is h ks a:=by obtain⟨_,f,r,o,b,c,n,d⟩:=(show d7 P w H h a (.tup (ks.map kV))from ok a _ e);exact⟨o,f.toArray,n,b,c,d,by simpa using rg r⟩
def dt_rd{b:List (List Key×V)}(ok:HOk P w H h)(e:Rd H a (.dT b)):b.length<=sizeLine/\(a==gN)=false/\
  ∃xs,KT H b xs/\h.DictOfH (ph (bg P w)) a xs:=by
 obtain⟨z,y,xs,r,o,d,c,f,g,i,j,k⟩:=(show d7 P w H h a (.dT b)from rd_of ok e);refine⟨z,y,xs,r,o,d,c,f,g,i,j,fun x hx=>?_,k⟩;have all:∀{l:List (List Key×V)}{m:List (List Key×Addr×Value)},KT H l m->∀x∈m,(ph (bg P w)).is h x.1 x.2.1:=by
  intro l m q
  induction q with
  |nil=>intro x hx;exact nomatch hx
  | @cons p q ps qs hq t ih=>
   intro x hx;rcases aI.mp hx with e|hx;·subst e;exact Cm ok (by rw[<-hq.1];exact hq.2.1)
   ·exact ih x hx
 exact all r x hx
def Jm{b:List (List Key×V)}(ok:HOk P w H h)(e:H a=some (.dT b)):b.length<=sizeLine/\(a==gN)=false/\
  ∃xs,KT H b xs/\h.DictOfH (ph (bg P w)) a xs:=dt_rd ok (.inl e)
end
section
variable {pins:List (Addr×Obj)}{s:Shared}{a:Addr}{v:V}{u r:Value}{o:Option V}{E:Value->Shared->Prop}
def Inv.big(I:Inv X pins σ H s):gN<s.heap.objs.size:=by have h:bX<s.heap.objs.size:=(I.mod.glob.keeps I.bk).lt;exact fP (by decide) h
def d_write{c:HO}(I:Inv X pins σ H s)(g:Mut (H a))(hs:cZ a s.heap h')(f:∃q,h'.get? a=some q)(new:d7 X.prog X.w (upd H a c) h' a c):
  Inv X pins σ (upd H a c) {s with heap:=h',toks:=t'}:=
 I.write (x:=a) (e:=a) g (.inl rfl) (fun b q d z=>(hs.2 b d).trans z) f new
end
def Jn(h:Heap)(a:gN<h.objs.size):d7 P w H (h.push {cls:=.type "dict",data:=.dict #[]}) h.objs.size (.dT []):=
 ⟨aW _,beq_eq_false_iff_ne.mpr (bO (aO a)),[],.nil,_,#[],0,az _ rfl,⟨rfl,rfl,rfl⟩,rfl,rfl,gV⟩
def GN:TE:=fun _ H Q=>∀p,H p=none->Q (.ref p) (upd H p (.dT []))
section
def HL:PE X (.Dict [] [] pos) GN:=fun b s c H Q I h=>
 wpAny_Dict_empty ⟨.ref s.heap.objs.size,_,I.laid (a:=s.heap.objs.size) (o:=.dT []) (t':=s.toks) (fun _ _ q=>ai _ q) (aC _) (Jn s.heap I.big),rfl,h _ (I.hok.fresh (aC _))⟩
end
end L2
namespace Att
open PySem PySem.W PySem.Calls PyProof.Rows
def sE{P:Params}:∀(ns:List Int)(vs:List Value),WellAll P h vs (ns.map WData.int)->cD vs ns:=by
 intro ns
 induction ns with
 |nil=>intro vs w;rw[kG]at w;cases w;exact .nil
 |cons n ns ih=>
  intro vs w;rw[bh]at w;cases w with
  |cons a b=>cases a;exact .cons _ _ (ih _ b)
def EM{l:OpenLaw}(m:l.most=some n){P:Params}{args:List WData}{vals:List Value}
  (f:l.row.toRowW.claim.pre args=true)(p:WellAll P h vals args):
  ∃a vs ns,vals=[aZ a]/\args=[WData.list (ns.map WData.int)]/\h.get? a=some {cls:=.type "list",data:=.seq vs.toArray}/\cD vs ns/\ns.length<=n:=by
 have o:WShape.hasAll [] args [.list .int]=true:=(pre_splitW f).1;have e:l.pre.holds [] {args:=args}=true:=(pre_splitW f).2;obtain⟨d,r,rfl,g,i⟩:=hasAllW_cons o;obtain rfl:=hasAllW_nil i;obtain⟨t,rfl,j⟩:=hasW_list g;obtain⟨ns,rfl⟩:=items_int j;have k:ns.length<=n:=by
  unfold OpenLaw.pre at e;have b:(WTm.not (.lt (.lit (.int (n:Int))) (.len (.arg 0)))).holds [] {args:=[.list (ns.map .int)]}=true:=by have b:=(holds_andW e).1;rw[m]at b;exact b
  have c:=condW_of b (w_not (w_lt w_lit (w_len_list (w_arg rfl))));rw[ak]at c;refine iB fun q=>?_;have s:(n:Int)<((ns.length:Nat):Int):=by lia
  first
   | (rw[decide_eq_true s]at c;exact absurd c (by decide))
   | (simp at c;lia)
 cases p with
 |cons w1 w2=>
  cases w2;cases w1 with
  |list ho hall=>exact⟨_,_,ns,rfl,rfl,ho,sE ns _ hall,k⟩
def ES(l:OpenLaw)(args:List WData):l.row.toRowW.claim.post args (.bool true) args=true:=
 postW_of (r:=l.row.toRowW) (X:=(true==true))
  (show WShape.has [] (.bool true) .bool=true by first |rfl|decide|simp[WShape.has,WShape.arms,WShape.armsAll])
  (show(WTm.eq .res (.lit (.bool true))).value [] {args:=args,res:=some (.bool true),after:=args}=some (.bool (true==true))from w_eq_bool (w_res rfl) w_lit) rfl
def A2{l:OpenLaw}{q:Program}{XP:(Str->Option Value)->Heap->Prop}{YP:World->Heap->Prop}{d:DefRec}
  (y:l.most=some n)(p:d.params.defaults=[])
  (call:∀(w:World)(c b:Shared)(mg mb:Str->Option Value)(fa:Addr)(o:Obj)(pm cd ah:Value)(a:Addr)(vs:List Value)(ns:List Int),
   Ground q loose [] XP w c mg mb b.heap->YP w b.heap->
   b.heap.get? fa=some o->o.data=.func (docDef d.name d.params d.body d.scope pm cd ah)->b.heap.CodeRec cd d.name->mg d.name=some (.ref fa)->
   b.heap.get? a=some {cls:=.type "list",data:=.seq vs.toArray}->cD vs ns->ns.length<=n->b.gens= #[]->
   je (model l.prog w) Ek (.call (.ref fa) ⟨[.ref a],[]⟩) (fun r s'=>r=.ok (.ret (.bool true))/\OldK b.heap s'.heap/\s'.os=b.os/\nR s'.gens) b):
  WalkO q loose XP YP l.row.toRowW d [] (fun f vs=>PySem.call f vs):=by
 intro w c b mg mb G Y fa o pm cd ah g kV z m k e x s D vals E B F I C H;obtain rfl:g=.none:=Dflts.none e p;obtain rfl:kV=.none:=Dflts.noKw e;obtain⟨a,vs,ns,rfl,rfl,A,t,u⟩:=EM y B C;refine enter_call (l5 (call w c b mg mb fa o pm cd ah a vs ns G Y z (fd_plain m) k x A t u s) fun r s' hq=>?_);obtain⟨rfl,h,i,j⟩:=hq;exact⟨.inl ⟨.bool true,.bool true,[],rfl,fun _=>rfl,.bool true,ES l _,fun _=>⟨jR,fun _ v=>(nomatch v)⟩⟩,h,i,j⟩
end Att
namespace L2
open PySem PySem.Spec PyProof.Rows
theorem qM:∀{vs:List Value}{ns:List Int},cD vs ns->bZ (ns.map V.int) vs
 |_,_,.nil=>.nil
 |_,_,.cons n t h=>.cons ⟨t,rfl⟩ (qM h)
noncomputable abbrev KOf{K:ao}{h:Heap}(_:K.In h):ao:=K
noncomputable abbrev CX0:CXT:=fun _ _ _ _ _ _=>False
noncomputable abbrev E0:XK:=fun _ _ _=>False
structure Fun(K:ao)(x qual:Str)(st:Stmt)(f:Addr)(fd:gT):Prop where
 ex:∃(oc:Value)(od:Option Addr)(kV ah pm:Value)(an:Option Addr)(ag ct:Value)(am:Array (Option Value)),
  fd=aS x qual (cg st) (bJ st) (bc st) .none kV ah pm an ag ct/\K.lookup f=some ⟨oc,od,.func fd,am⟩/\fR K ag qual=true
 kp:cN K (.ref f)=true
section
variable {mg:Str->Option Value}
def Fun.binds{st:Stmt}{a:gT}{ps:List Str}(F:Fun K x qual st f a)
  (h:∀(kV ah pm:Value)(an:Option Addr)(ag ct:Value)(us:List Value),us.length=ps.length->pA (aS x qual (cg st) (bJ st) (bc st) .none kV ah pm an ag ct) ⟨us,[]⟩=pure (ps.zip us)):Binds K a ps []:=by
 obtain⟨d,e,kV,ah,pm,an,ag,ct,g,rfl,c,b⟩:=F.ex;exact .all (h kV ah pm an ag ct)
def Cs{st:Stmt}{an:Option Addr}{kV:Value}(l:K.lookup f=some ⟨oc,od,.func (aS x qual (cg st) (bJ st) (bc st) .none kV ah pm an ag ct),am⟩)
  (c:fR K ag qual=true)(k:cN K (.ref f)=true):Fun K x qual st f (aS x qual (cg st) (bJ st) (bc st) .none kV ah pm an ag ct):=⟨⟨oc,od,kV,ah,pm,an,ag,ct,am,rfl,l,c⟩,k⟩
end
def aR(H H':Hp):Prop:=∀b o,H b=some o->H' b=some o
def aR.refl(H:Hp):aR H H:=fun _ _ h=>h
def aR.trans(a:aR H H1)(b:aR H1 H2):aR H H2:=fun c o h=>b c o (a c o h)
def aR.free(e:aR H H')(h:H' l=Option.none):H l=Option.none:=by
 cases q:H l with
 |none=>rfl
 |some o=>rw[e l o q]at h;cases h
def aR.seq(e:aR H H')(h:SqL K H a xs):SqL K H' a xs:=by
 rcases h with(h|⟨o,h⟩) |h;·exact .inl (.inl (e _ _ h))
 ·exact .inl (.inr ⟨o,e _ _ h⟩)
 ·exact .inr h
section
variable {κ:Type}[DecidableEq κ]
def zx{a:List (κ×V)}{k:κ}(h:fq a k=none):¬k∈a.map (·.1):=by intro m;obtain⟨p,b,e⟩:=aF.mp m;have q:(a.any fun c=>decide (c.1=k))=true:=cI.mpr ⟨p,b,decide_eq_true e⟩;rw[jS,h]at q;exact absurd q (by simp)
def valV_in{a:List (κ×V)}{k:κ}{v:V}(h:fq a k=some v):k∈a.map (·.1):=by
 have q:(a.any fun c=>decide (c.1=k))=true:=by rw[jS,h];all_goals rfl
 obtain⟨p,b,e⟩:=cI.mp q;exact aF.mpr ⟨p,b,of_decide_eq_true e⟩
theorem DA:∀{l:List κ}{k:κ},l.Nodup->¬k∈l->(l++[k]).Nodup
 | [],k,_,_=>by simp
 |a::r,k,h,hk=>by
  obtain⟨b,c⟩:=bw.mp h;show(a::(r++[k])).Nodup;refine bw.mpr ⟨fun m=>?_,DA c fun m=>hk (aI.mpr (Or.inr m))⟩;rcases aU.mp m with q|q;·exact b q
  ·exact hk (aI.mpr (Or.inl (aH.mp q).symm))
def nd_putK{a:List (κ×V)}{k:κ}(v:V)(b:(a.map (·.1)).Nodup)(h:fq a k=none):((putK a k v).map (·.1)).Nodup:=by rw[Hw v h,dc];exact DA b (zx h)
end
abbrev fW(cells:List (Str×Addr)):List (Str×eO)->List (Str×Addr)->List (Str×Addr)
 | [],ac=>ac
 | (n,k)::r,ac=>fW cells r (if k=.free then(n,(cells.lookup n).getD 0)::ac else ac)
theorem o6{env:Env}{f:Str×eO->List (Str×Addr)->Sem (ForInStep (List (Str×Addr)))}
  (hf:∀n k a c,k=.free->env.cells.lookup n=some c->f (n,k) a=pure (.yield ((n,c)::a)))(b:∀n k a,k≠.free->f (n,k) a=pure (.yield a)):
  ∀(g:List (Str×eO))(ac:List (Str×Addr)),(∀y∈g,y.2=.free->∃c,env.cells.lookup y.1=some c)->forIn g ac f=(pure (fW env.cells g ac):Sem _)
 | [],ac,_=>rfl
 | (n,k)::r,ac,h=>by
  rw[List.forIn_cons];by_cases e:k=.free;·obtain⟨c,i⟩:=h (n,k) au e;rw[hf n k ac c e i];show forIn r ((n,c)::ac) f=_;rw[o6 hf b r _ fun y d=>h y (av _ d)];simp[fW,e,i]
  ·rw[b n k ac e];show forIn r ac f=_;rw[o6 hf b r _ fun y d=>h y (av _ d)];simp[fW,e]
def vR{env:Env}(h:∀y∈scope.names,y.2=.free->∃c,env.cells.lookup y.1=some c):FY scope env=pure (fW env.cells scope.names []):=by
 have q:=o6 (env:=env) (f:=fun x b=>match x with | (name,kind)=>if(kind==cB)=true then(do let a<-cellOf env name;pure (iu ((name,a)::b)))else pure (iu b))
  (fun n k a c e g=>by
   subst e;simp only[cellOf,g];rfl) (fun n k a e=>by
   have d:(k==cB)=false:=by simpa using e
   simp only[d,aN,if_false]) scope.names [] h
 unfold FY;show(forIn scope.names [] _>>=fun r=>pure r)=_;exact(congrArg (·>>=fun r=>pure r) q).trans rfl
theorem kM{cells:List (Str×Addr)}:∀(a:List (Str×eO))(ac:List (Str×Addr))(x:Str)(c:Addr),(fW cells a ac).lookup x=some c->
  ((x,cB)∈a/\c=(cells.lookup x).getD 0)\/ac.lookup x=some c
 | [],ac,x,c,h=>.inr h
 | (n,k)::r,ac,x,c,h=>by
  rcases kM r _ x c h with⟨q,e⟩ |q;·exact .inl ⟨av _ q,e⟩
  ·by_cases e:k=.free
   ·rw[if_pos e,bH]at q;cases hx:x==n with
    |true=>
     rw[hx]at q;have b:x=n:=by simpa using hx
     subst b;subst e;exact .inl ⟨au,(aX q).symm⟩
    |false=>rw[hx]at q;exact .inr q
   ·rw[if_neg e]at q;exact .inr q
theorem uR{cells:List (Str×Addr)}:∀(a:List (Str×eO))(ac:List (Str×Addr))(x:Str),(ac.lookup x).isSome=true->((fW cells a ac).lookup x).isSome=true
 | [],ac,x,h=>h
 | (n,k)::r,ac,x,h=>by
  refine uR r _ x ?_;split;·rw[bH];cases x==n<;>simp_all
  ·exact h
theorem o7{cells:List (Str×Addr)}:∀(a:List (Str×eO))(ac:List (Str×Addr))(x:Str),(x,cB)∈a->((fW cells a ac).lookup x).isSome=true
 | [],ac,x,h=>by simp at h
 | (n,k)::r,ac,x,h=>by
  rcases aI.mp h with q|q;·cases q;refine uR r _ n ?_;simp[bH]
  ·exact o7 r _ x q
theorem gA:∀(a:List (Str×eO))(n:Nat)(ac:List (Str×Addr)),cW n a ac=cW n a []++ac
 | [],_,_=>rfl
 | (x,k)::r,n,ac=>by
  unfold cW;split;·rw[gA r (n+1) ((x,n)::ac),gA r (n+1) [(x,n)],jf];rfl
  ·exact gA r n ac
theorem kO:∀(a:List (Str×eO))(n:Nat)(ac:List (Str×Addr))(x:Str),(ac.lookup x).isSome=true->((cW n a ac).lookup x).isSome=true
 | [],_,_,_,h=>h
 | (y,k)::r,n,ac,x,h=>by
  unfold cW;split;·refine kO r _ _ x ?_;rw[bH];cases x==y<;>simp_all
  ·exact kO r _ _ x h
theorem jd:∀(a:List (Str×eO))(n:Nat)(ac:List (Str×Addr))(x:Str),(x,dj)∈a->((cW n a ac).lookup x).isSome=true
 | [],_,_,_,h=>nomatch h
 | (y,k)::r,n,ac,x,h=>by
  unfold cW;rcases aI.mp h with q|q;·cases q;rw[if_pos (by rfl)];refine kO r _ _ _ ?_;simp[bH]
  ·split;·exact jd r _ _ x q
   ·exact jd r _ _ x q
theorem kN:∀(a:List (Str×eO))(n:Nat)(ac:List (Str×Addr))(x:Str)(c:Addr),(x,c)∈cW n a ac->(x,dj)∈a\/(x,c)∈ac
 | [],_,_,_,_,h=>.inr h
 | (y,k)::r,n,ac,x,c,h=>by
  unfold cW at h;split at h
  ·rename_i hk;rcases kN r _ _ x c h with q|q;·exact .inl (av _ q)
   ·rcases aI.mp q with e|e
    ·cases e;have :k=.cell:=by simpa using hk
     subst this;exact .inl au
    ·exact .inr e
  ·rcases kN r _ _ x c h with q|q;·exact .inl (av _ q)
   ·exact .inr q
def Cw{M:Model}{c:Addr}{cl:List (Str×Addr)}{b:Value}{outer:Env}{a:Addr}{Q:Env->Shared->Prop}
  (h:Q (newEnv scope s.heap.objs.size c (cW (s.heap.objs.size+1) scope.names cl) qual func b (some outer) a) {s with heap:=pushCells (s.heap.push {cls:=.type "dict",data:=.dict #[]}) scope.names}):
  wpAny M A (newFunctionEnv scope c cl [] qual func b (some outer) a) Q E s:=by
 simp only[newFunctionEnv,iG,if_true];refine aa (wpAny_alloc ?_);refine aa (wpAny_layCells _ (fun name kind d=>by cases hkc:kind==dj<;>simp[hkc]) _ _ _ _ ?_);rw[show({s with heap:=s.heap.push {cls:=.type "dict",data:=.dict #[]}}:Shared).heap.objs.size=s.heap.objs.size+1 from bV ..];rw[zr];exact aa (aj (aj h))
structure nH(X:Cx)(N':List Str)(sc:Scope):Prop where
 kind:sc.kind=.function
 cellk:∀y∈sc.names,y.2=.cell->sc.names.lookup y.1=some .cell
 own:∀y∈sc.names,y.2=.local->sc.names.lookup y.1=some .local
 free:∀y∈sc.names,y.2=.free->X.env.kindOf y.1=some .cell\/X.env.kindOf y.1=some .free
abbrev eF(X:Cx)(N':List Str)(sc:Scope)(C:Addr)(s₀:Shared)(H₀:Hp)(fp:List Addr):Cx:=
 {X with N:=N',s₀:=s₀,H₀:=H₀,env:=compEnvC sc (cW (C+1) sc.names (fW X.env.cells sc.names [])) C X.env,outer:=X.stack,stack:=X.stack,ex:=fp,fn:=fun x=>sc.names.any fun y=>decide (y.1=x)&&decide (y.2=.cell),pn:=[],xe:=fun _ _=>False}
theorem mF{env:Env}:∀{a:List (Str×eO)}{x:Str}{k:eO},
  (a.map fun(n,k)=>if(k==cB&&env.scope.kind== .function&&env.kindOf n==some .cell)then(n,dj)else(n,k)).lookup x=some k->
  a.lookup x=some k\/(a.lookup x=some .free/\k=.cell)
 | [],_,_,h=>by simp at h
 | (n,k)::r,x,k',h=>by
  have b:= @mF env r x k';rw[bh]at h;change jQ x ((if(k==cB&&env.scope.kind== .function&&env.kindOf n==some .cell)=true then(n,dj)else(n,k))::_)=_ at h;cases hx:x==n with
  |true=>
   by_cases hc:(k==cB&&env.scope.kind== .function&&env.kindOf n==some .cell)=true
   ·rw[if_pos hc]at h;simp only[bH,hx]at h⊢;have :k=.free:=by have :=hc;simp only[aL]at this;simpa using this.1.1
    subst this;exact .inr ⟨rfl,(aX h).symm⟩
   ·rw[if_neg hc]at h;simp only[bH,hx]at h⊢;exact .inl h
  |false=>
   have e:jQ x (r.map fun(n,k)=>if(k==cB&&env.scope.kind== .function&&env.kindOf n==some .cell)then(n,dj)else(n,k))=some k':=by split at h<;>simpa only[bH,hx]using h
   simp only[bH,hx];exact b e
theorem gR{env:Env}:∀{a:List (Str×eO)}{x:Str},a.lookup x=some .free->
  (a.map fun(n,k)=>if(k==cB&&env.scope.kind== .function&&env.kindOf n==some .cell)then(n,dj)else(n,k)).lookup x=some .free\/
  (a.map fun(n,k)=>if(k==cB&&env.scope.kind== .function&&env.kindOf n==some .cell)then(n,dj)else(n,k)).lookup x=some .cell
 | [],_,h=>by simp at h
 | (n,k)::r,x,h=>by
  have b:= @gR env r x;rw[bh];change jQ x ((if(k==cB&&env.scope.kind== .function&&env.kindOf n==some .cell)=true then(n,dj)else(n,k))::_)=_\/jQ x ((if(k==cB&&env.scope.kind== .function&&env.kindOf n==some .cell)=true then(n,dj)else(n,k))::_)=_;cases hx:x==n with
  |true=>
   simp only[bH,hx]at h;cases h;by_cases hc:(cB==cB&&env.scope.kind== .function&&env.kindOf n==some .cell)=true;·rw[if_pos hc];right;simp only[bH,hx]
   ·rw[if_neg hc];left;simp only[bH,hx]
  |false=>simp only[bH,hx]at h;split <;>simpa only[bH,hx]using b h
theorem gG{env:Env}:∀{a:List (Str×eO)}{x:Str}{k:Option eO},a.lookup x=k->k≠some .free->
  (a.map fun(n,k)=>if(k==cB&&env.scope.kind== .function&&env.kindOf n==some .cell)then(n,dj)else(n,k)).lookup x=k
 | [],_,_,h,_=>by simpa using h
 | (n,k)::r,x,k',h,hf=>by
  have d:= @gG env r x k';rw[bh];change jQ x ((if(k==cB&&env.scope.kind== .function&&env.kindOf n==some .cell)=true then(n,dj)else(n,k))::_)=_;cases hx:x==n with
  |true=>
   simp only[bH,hx]at h;have c:k≠.free:=fun e=>hf (by rw[<-h,e]);have b:(k==cB)=false:=by simpa using c
   rw[if_neg (by rw[b];simp)];simp only[bH,hx];exact h
  |false=>simp only[bH,hx]at h;split <;>simpa only[bH,hx]using d h hf
def wF{cl:List (Str×Addr)}{env:Env}{k:eO}(h:(compEnvC sc cl C env).kindOf x=some k):sc.names.lookup x=some k\/(sc.names.lookup x=some .free/\k=.cell):=mF (env:=env) h
def CH{R:Result->Shared->Prop}{f d iter:Expr}{g:List Expr}{b e:Value}{env:Env}(I:Nat->Shared->Prop)
  (turn:∀n s,I n s->wpAny (model prog w) A (pyNext b) (fun r i=>match r with
   |none=>R (.ok .next) i
   |some v=>wpAny (model prog w) A (qI d b v) (fun _ o=>wpAny (model prog w) A (assign d env v) (fun _ p=>
     wpAny (model prog w) A (forIn g true fun c r=>if r=true then do let ok<-isTrue c env (eval c env);pure (iu ok)else pure (iu r)) (fun ok j=>
      if ok=true then wpAny (model prog w) A (eval f env) (fun x q=>
       wpAny (model prog w) A (call (.builtin "list.append") [e,x]) (fun _ t=>∃m,m<n/\I m t) (fun _ _=>False) q) (fun _ _=>False) j
      else ∃m,m<n/\I m j) (fun _ _=>False) p) (fun _ _=>False) o) (fun _ _=>False) i) (fun _ _=>False) s)
  (n:Nat) (h:I n s):
  je (model prog w) A (.compLoop (.ListComp f [⟨d,iter,g,0⟩] scope pos) 0 b e env) R s:=by
 refine codeAny_loop rfl I (fun n s u=>?_) n h;show wpAny _ A ((compTurn (.ListComp f [⟨d,iter,g,0⟩] scope pos) 0 b e env).onRaise (fun x=>do pq x env;theTreesLotGoes x)) _ _ s;refine wpAny_noted ?_;rw[compTurn_list];refine aa (nV (aa (gu (turn n s u) (fun r i k=>?_) fun _ _ a=>a.elim)));cases r with
 |none=>exact aj k
 |some v=>
  refine aa (gu k (fun _ o y=>?_) fun _ _ a=>a.elim);refine aa (gu y (fun _ p z=>aa (gu z (fun ok j l=>?_) fun _ _ a=>a.elim)) fun _ _ a=>a.elim);cases ok with
  |false=>exact aj ⟨rfl,l⟩
  |true=>exact aa (aa (gu l (fun x q B=>aa (gu B (fun _ t C=>aj (aj ⟨rfl,C⟩)) fun _ _ a=>a.elim)) fun _ _ a=>a.elim))
def PTs(X:Cx)(ifs:List Expr)(t:TT):Prop:=
 ∀(pins:List (Addr×Obj))(s:Shared)(σ:St)(H:Hp)(Q:Bool->Hp->Prop),Inv X pins σ H s->t σ H Q->
  wpAny (model X.prog X.w) X.A (forIn ifs true fun c r=>if r=true then do let ok<-isTrue c X.env (eval c X.env);pure (iu ok)else pure (iu r)) (TP X pins σ Q) X.xe s
def GH:TT:=fun _ H Q=>Q true H
def pts_nil:PTs X [] GH:=by intro a s b H Q I h;rw[zr];exact aj ⟨H,I,h⟩
def pts_one{c:Expr}{t:TT}(h:PT X c t):PTs X [c] t:=by intro d s f H Q I a;rw[List.forIn_cons];simp only[if_true];refine aa (aa (thn (h d s f H Q I a) fun b e q=>?_));refine aj ?_;show wpAny _ _ (forIn ([]:List Expr) b _) _ _ e;rw[zr];exact aj q
def tM(wi:TI)(g:TG)(tc:TT)(te:TE)(mk:St->St):TE:=fun σ H Q=>wi σ H fun J H1=>∃W:Nat->Nat->St->List V->Hp->Prop,(∃m,W 0 m (mk σ) [] H1)/\
 ∀i m h ac H2,W i m h ac H2->(J.stop i H2/\∀l,H2 l=none->Q (.ref l) (upd H2 l (.lst ac)))\/(J.go i H2/\∃N:St->List V->Hp->Prop,(∀j e H',N j e H'->∃f,f<m/\W (i+1) f j e H')/\
  ∀x c,J.yld i H2 x c->g x h c fun a k=>tc a k fun b d=>if b=true then te a d fun v n=>ac.length<sizeLine/\N a (ac++[v]) n else N a ac d)
def Inv.track{o:HO}(I:Inv X pins σ H s)(hf:m5 X pins H a)(new:d7 X.prog X.w (upd H a o) s.heap a o):Inv X pins σ (upd H a o) s:=by
 obtain⟨g,h,r,i,j,k⟩:=hf;have :=I.step (g':=s.gens) (d':=s.drawn) (t':=s.toks) (h':=s.heap) (H':=upd H a o) (ch:=[a]) (fun b d=>by
   have e:b=a:=by simpa using d
   subst e;exact⟨i,h,j,k⟩)
  (fun b f _ _ _ q _=>q) (fun b f _ _ _ q _=>⟨f.slots,q⟩) (fun b f d q n=>by rw[bD (fun z=>d (by simp[z]))];exact n) (fun b f _ q=>⟨f,q⟩)
  (fun b p q=>by rw[bD (da q g)];exact q) (fun b f u q=>by rw[bD (da q g)];exact q) (fun b t q=>⟨#[],by rw[bD (da q g),q];simp⟩)
  (fun m l=>l) (fun b u q=>by
   by_cases d:b=a;·subst d;rw[aK]at q;cases q;exact new
   ·rw[bD d]at q;exact(I.hok b u q).lM (fun c v _ e=>e) (fun c e=>by rw[bD (da e g)];exact e) fun c p e=>by rw[bD (da e g)];exact e) I.bare
 exact this
def CY{Q:Value->Shared->Prop}(I:Inv X pins σ H s)(hf:m5 X pins H a)
  (e:s.heap.get? a=some {cls:=.type "list",data:=.seq ad.toArray n}) (hz:ad.length<sizeLine)
  (h:∀h' m,Inv X pins σ H {s with heap:=h'}->h'.get? a=some {cls:=.type "list",data:=.seq (ad++[u]).toArray m}->(∀b o,b≠a->s.heap.get? b=some o->h'.get? b=some o)->Q .none {s with heap:=h'}):
  wpAny (model X.prog X.w) X.A (call (.builtin "list.append") [.ref a,u]) Q E s:=by
 refine kg F.slot_list_append ⟨_,e,rfl⟩ F.entry_list_append (F.args_list_append_2 _ _) (PySem.list_append a ad.toArray n u (by rw[aD];lia)) ⟨e,?_⟩;have q:=F3 e (·.push u);have c:ad.toArray.push u=(ad++[u]).toArray:=by simp
 rw[c]at q;have k:∀b o,b≠a->s.heap.get? b=some o->(s.heap.update a (bp (·.push u))).get? b=some o:=fun b o l z=>(bu s.heap _ (bO l)).trans z;obtain⟨d,f,p,g,i,j⟩:=hf;exact h _ _ (I.turned (t':=s.toks) k d f g i j) q k
section
variable {N':List Str}{elt iter:Expr}{ifs:List Expr}{wi:TI}{g:TG}{tc:TT}{te:TE}{mk:St->St}
def MkOk(X:Cx)(N':List Str)(sc:Scope)(mk:St->St):Prop:=
 ∀σ:St,σ.length=X.N.length->(mk σ).length=N'.length/\∀(i:Nat)(x:Str)(v:V),N'[i]? =some x->(mk σ)[i]? =some (some v)->sc.names.lookup x=some .free/\∃j:Nat,X.N[j]? =some x/\σ[j]? =some (some v)
def wQ{Q:VK}{use:Option (Value->Sem Unit)}(S:nH X N' sc)(hm:MkOk X N' sc mk)(hc:X.calm=true)
  (hi:PI X tg iter wi)
  (a:∀C a5 a2 fp,(eF X N' sc C a5 a2 fp).Ok->PG (eF X N' sc C a5 a2 fp) tg g/\PTs (eF X N' sc C a5 a2 fp) ifs tc/\PE (eF X N' sc C a5 a2 fp) elt te)
  (hs:∀x,jF iter X.env x=pure x)(I:Inv X pins σ H s)(a8:tM wi g tc te mk σ H Q)
  (e9:∀(l C:Addr)(H':Hp)(s':Shared)(m:Str->Option Value),Inv X pins σ H' s'->s'.heap.Ns C m->m5 X pins H' C->(∃o,s'.heap.get? C=some o/\∀v,o.data≠.cell v)->Q (.ref l) H'->compPost (model X.prog X.w) X.A X.xe use QQ (.ref l) C (.ok .next) s'):
  wpAny (model X.prog X.w) X.A (comprehension (.ListComp elt [⟨tg,iter,ifs,0⟩] sc pos) sc X.env (firstIterPos [⟨tg,iter,ifs,0⟩] pos) (newList []) false (eval iter X.env) use) QQ X.xe s:=by
 have c5:∀y∈sc.names,y.2=.free->∃c,X.env.cells.lookup y.1=some c:=fun y hy hf=>I.ok.has _ (S.free y hy hf);refine wpAny_comprehension_free (use:=use) rfl hs (vR c5) S.kind S.own ?_;refine thn (hi pins s σ H _ I a8) fun v s1 Y=>thn Y fun h9 s2 Z=>?_;obtain⟨it,fp,tn,J,d,e,D,T,d4,V,e4,⟨m0,w0⟩,turn⟩:=Z;subst e
 --the list
 refine bL ?_;have f6:d s2.heap.objs.size=none:=D.fresh;have fD:m5 X pins d s2.heap.objs.size:=D.yC (aC _) f6;have c0:(s2.heap.push {cls:=.type "list",dict:=none,data:=.seq ([]:List Value).toArray}).get? s2.heap.objs.size=some {cls:=.type "list",data:=.seq ([]:List Value).toArray 0}:=az _ rfl;have h:Inv X pins σ d {s2 with heap:=s2.heap.push {cls:=.type "list",dict:=none,data:=.seq ([]:List Value).toArray}}:=D.kept (t':=s2.toks) fun b o e=>ai _ e
 --the block's frame
 refine Cw ?_;dsimp only;have b4:(s2.heap.push {cls:=.type "list",dict:=none,data:=.seq ([]:List Value).toArray}).objs.size=s2.heap.objs.size+1:=bV ..;have c3:s2.heap.objs.size≠(s2.heap.push {cls:=.type "list",dict:=none,data:=.seq ([]:List Value).toArray}).objs.size:=by rw[b4];exact aO (dI _)
 have O:∀b o,s2.heap.get? b=some o->(s2.heap.push {cls:=.type "list",dict:=none,data:=.seq ([]:List Value).toArray}).get? b=some o:=fun b o e=>ai _ e;generalize hH3:s2.heap.push {cls:=.type "list",dict:=none,data:=.seq ([]:List Value).toArray}=P3 at h b4 c0 c3 O⊢;generalize hD:s2.heap.objs.size=D0 at *;have c6:(pushCells (P3.push {cls:=.type "dict",data:=.dict #[]}) sc.names).Ns P3.objs.size (fun _=>none):=(Heap.Ns.new P3 (.type "dict")).keeps (pushCells_keeps _ _);have P:∀b o,P3.get? b=some o->(pushCells (P3.push {cls:=.type "dict",data:=.dict #[]}) sc.names).get? b=some o:=fun b o e=>pushCells_keeps _ _ b o (ai _ e);have R:=cellsFrom_ok sc.names (P3.push {cls:=.type "dict",data:=.dict #[]}) (P3.objs.size+1) [] ⟨fun _ _ hm=>(nomatch hm),jR⟩ (by rw[bV];exact aC _);rw[bV]at R;generalize pushCells (P3.push {cls:=.type "dict",data:=.dict #[]}) sc.names=h4 at c6 P R⊢
 --the context
 have c2:∀b∈fp,b<D0:=fun b a=>by obtain⟨o,e,_⟩:=T.obj _ _ d4 b a;rw[<-hD];exact aB e
 have a9:D0<P3.objs.size:=by rw[b4];exact dI _
 have t:∀x c,(fW X.env.cells sc.names []).lookup x=some c->X.env.cells.lookup x=some c/\(x,cB)∈sc.names:=fun x c e=>by
  rcases kM _ _ x c e with⟨q,e'⟩ |q;·obtain⟨M,a0⟩:=c5 _ q rfl;have f1:X.env.cells.lookup x=some M:=a0;rw[f1]at e'⊢;exact⟨by rw[e'];rfl,q⟩
  ·simp at q
 have b9:∀x c,(fW X.env.cells sc.names []).lookup x=some c->c<P3.objs.size:=fun x c e=>by obtain⟨v,o,f,_⟩:=h.cell x c (t x c e).1;exact aB f
 have N:∀x c,(cW (P3.objs.size+1) sc.names (fW X.env.cells sc.names [])).lookup x=some c->((x,c)∈cW (P3.objs.size+1) sc.names []/\P3.objs.size+1<=c/\h4.IsCell c none)\/(fW X.env.cells sc.names []).lookup x=some c:=fun x c e=>by
  rw[gA,sx]at e;cases f:(cW (P3.objs.size+1) sc.names []).lookup x with
  |none=>rw[f]at e;exact .inr e
  |some M=>rw[f]at e;cases e;have m:=bI f;exact .inl ⟨m,(R.empty x c m).2,(R.empty x c m).1⟩
 have b8:∀x,sc.names.lookup x=some .free->(cW (P3.objs.size+1) sc.names (fW X.env.cells sc.names [])).lookup x=(fW X.env.cells sc.names []).lookup x:=fun x hf=>by
  rw[gA,sx];cases f:(cW (P3.objs.size+1) sc.names []).lookup x with
  |none=>rfl
  |some M=>
   rcases kN _ _ _ _ _ (bI f)with q|q;·have :=S.cellk _ q rfl;rw[hf]at this;cases this
   ·cases q
 have E:∀b∈D0::fp,m5 X pins d b/\b<P3.objs.size:=fun b a=>by
  rcases aI.mp a with z|z;·rw[z];exact⟨fD,a9⟩
  ·exact⟨V b z,fP (c2 b z) a9⟩
 have ok:(eF X N' sc P3.objs.size {s2 with heap:=P3} d (D0::fp)).Ok:=by
  refine⟨I.ok.mod,S.kind,I.ok.glob,I.ok.blt,aC _,fun x y c Y Z=>?_,fun x hx=>?_,fun x c z=>?_,fun z=>I.ok.hd z,I.ok.frames,.inl rfl,fun b a=>⟨?_,fun x c e=>?_⟩,h.bs,bf I.ok.bsz h.sz,fun b o e a=>?_,fun b a z=>?_,h.stack,h.xG⟩
  ·rcases N x c Y with⟨m1,l1,_⟩ |q1<;>rcases N y c Z with⟨m2,l2,_⟩ |q2;·exact PySem.name_of_addr R.apart m1 m2
   ·exact absurd l1 (Nat.not_le.mpr (bF (b9 y c q2)))
   ·exact absurd l2 (Nat.not_le.mpr (bF (b9 x c q1)))
   ·exact I.ok.inj x y c (t x c q1).1 (t y c q2).1
  ·have q:sc.names.lookup x=some .free\/sc.names.lookup x=some .cell:=by
    rcases hx with hx|hx
    ·rcases wF hx with q|q;·exact .inr q
     ·exact .inl q.1
    ·rcases wF hx with q|q;·exact .inl q
     ·exact .inl q.1
   rcases q with q|q;·have Y:=fI.mp (o7 (cells:=X.env.cells) _ [] _ (bI q));show ∃c,(cW (P3.objs.size+1) sc.names (fW X.env.cells sc.names [])).lookup x=some c;rw[b8 x q];exact Y
   ·exact fI.mp (jd _ _ _ _ (bI q))
  ·have z:(sc.names.any fun y=>decide (y.1=x)&&decide (y.2=dj))=true:=z;obtain⟨y,hy,e⟩:=cI.mp z;rw[aL,decide_eq_true_eq,decide_eq_true_eq]at e;intro hc;rcases N x c hc with⟨_,l1,_⟩ |q1;·show P3.objs.size<=c;lia
   ·have hk:=S.cellk y hy e.2;rw[e.1]at hk;rcases kM _ _ x c q1 with⟨q,_⟩ |q
    ·have Z:(cW (P3.objs.size+1) sc.names []).lookup x≠none:=fun a8=>by have :=jd sc.names (P3.objs.size+1) [] x (bI hk);rw[a8]at this;cases this
     have a0:(cW (P3.objs.size+1) sc.names (fW X.env.cells sc.names [])).lookup x=some c:=hc;rw[gA,sx]at a0;cases f:(cW (P3.objs.size+1) sc.names []).lookup x with
     |none=>exact absurd f Z
     |some M=>rw[f]at a0;cases a0;have :=(R.empty x c (bI f)).2;show P3.objs.size<=c;lia
    ·cases q
  ·exact aO (E b a).2
  ·rcases N x c e with⟨_,l1,_⟩ |q1;·have :=(E b a).2;exact fun z=>by subst z;lia
   ·exact(E b a).1.2.2.2.2.1 x c (t x c q1).1
  ·rcases(E b a).1.2.2.2.1 with z|z;·exact I.ok.noex b o e z
   ·exact absurd (bA (aB e) (bf I.ok.bsz z)) (dO _)
  ·rcases aI.mp (D.BJ b z)with q|q;·exact(E b a).1.2.1 q
   ·exact(E b a).1.2.2.1 q
 obtain⟨pg,pt,pe⟩:=a _ _ _ _ ok;have I4:Inv (eF X N' sc P3.objs.size {s2 with heap:=P3} d (D0::fp)) [] (mk σ) d {s2 with heap:=h4}:=by
  obtain⟨ml,f7⟩:=hm σ I.len;have c9:∀x c v,X.env.cells.lookup x=some c->P3.IsCell c v->h4.IsCell c v:=fun x c v e ⟨o,f,hd⟩=>⟨o,P c o f,hd⟩;refine⟨ok,rfl,D.bare,Un.kept P,⟨_,c6,fun i x v e1 e2 e3=>?_⟩,fun x c e=>?_,h.hok.fresh (aC _),fun x c e=>?_,fun p G=>absurd (show p∈([]:List (Addr×Obj))from G) (by simp),h.hok.kept P,ml⟩
  ·obtain⟨hf,f8,hj,hv⟩:=f7 i x v e1 e2;obtain⟨m,F,hl⟩:=h.loc;have kx:=S.free (x,.free) (bI hf) rfl;obtain⟨u,b3,l⟩:=hl f8 x v hj hv (by
    rcases kx with q|q;·exact .inr (.inl q)
    ·exact .inr (.inr q))
   refine⟨u,b3,.inr ⟨?_,?_⟩⟩
   ·rcases gR (env:=X.env) hf with q|q;·exact .inr q
    ·exact .inl q
   ·rcases l with⟨q,_⟩ |⟨_,c,c4,f5⟩;·have c8:X.env.kindOf x=some .cell\/X.env.kindOf x=some .free:=kx;rw[q]at c8;rcases c8 with z|z<;>cases z
    ·obtain⟨M,q⟩:=fI.mp (o7 (cells:=X.env.cells) _ [] _ (bI hf));have :=(t x M q).1;rw[c4]at this;cases this;exact⟨c,by show(cW (P3.objs.size+1) sc.names (fW X.env.cells sc.names [])).lookup x=some c;rw[b8 x hf];exact q,c9 x c _ c4 f5⟩
  ·rcases N x c e with⟨_,_,hv⟩ |q1;·exact⟨none,hv⟩
   ·obtain⟨v,hv⟩:=h.cell x c (t x c q1).1;exact⟨v,c9 x c v (t x c q1).1 hv⟩
  ·rcases N x c e with⟨_,l1,_⟩ |q1;·exact h.hok.fresh (by show P3.objs.size<=c;lia)
   ·exact h.freeC x c (t x c q1).1
 have d5:tn 0 h4:=T.keep _ _ _ d4 fun b a o e=>P b o (O b o e);have f4:∀{H':Hp}{b:Addr},b∈D0::fp->H' b=none->m5 (eF X N' sc P3.objs.size {s2 with heap:=P3} d (D0::fp)) [] H' b:=fun{H' b} a F=>
  ⟨F,(ok.exf b a).1,ok.exfs b a,.inl a,(ok.exf b a).2,fun p G=>absurd (show p∈([]:List (Addr×Obj))from G) (by simp)⟩
 have a3:∀{b:Addr},b∈fp->b∈D0::fp:=fun a=>av _ a;have nD:∀b∈fp,b≠D0:=fun b a=>aO (c2 b a)
 --the b2
 have b2:je (model X.prog X.w) X.A (.compLoop (.ListComp elt [⟨tg,iter,ifs,0⟩] sc pos) 0 (.ref it) (.ref D0) (compEnvC sc (cW (P3.objs.size+1) sc.names (fW X.env.cells sc.names [])) P3.objs.size X.env))
   (compPost (model X.prog X.w) X.A X.xe use QQ (.ref D0) P3.objs.size) {s2 with heap:=h4}:=by
  refine CH (fun n s'=>∃i A j H' k f9,Inv (eF X N' sc P3.objs.size {s2 with heap:=P3} d (D0::fp)) [] A H' s'/\tn i s'.heap/\(∀b∈D0::fp,H' b=none)/\bZ j k/\j.length<=sizeLine/\
    s'.heap.get? D0=some {cls:=.type "list",data:=.seq k.toArray f9}/\e4 i n A j H') ?_ m0
   ⟨0,mk σ,[],_,[],0,I4,d5,fun b a=>(E b a).1.1,.nil,aW _,P _ _ c0,w0⟩
  rintro n r ⟨i,A,j,B,k,kk,I5,d8,W,a6,c7,e5,w5⟩;have b6:Inv (eF X N' sc P3.objs.size {s2 with heap:=P3} d (D0::fp)) ([]++jo [D0] r.heap) A B r:=by
   refine I5.pinned (fun b a=>?_) (fun b a=>?_)
   ·have z:b=D0:=by simpa using a
    rw[z];exact f4 au (W D0 au)
   ·have z:b=D0:=by simpa using a
    rw[z];exact⟨_,e5,fun v z=>by cases z⟩
  obtain q|⟨go,NN,hN,step⟩:=turn i n A j B w5
  ·obtain⟨h3,q⟩:=q;refine thn (T.done (eF X N' sc P3.objs.size {s2 with heap:=P3} d (D0::fp)) rfl rfl rfl hc i _ r A B (fun _ _=>False) b6 (fun b a=>?_) d8 h3) fun b3 K ⟨hr,b7⟩=>?_
   ·obtain⟨g0,g1,g2,g3,g4,_⟩:=f4 (a3 a) (W b (a3 a));refine⟨g0,g1,g2,g3,g4,fun p G=>?_⟩;have b1:p∈jo [D0] r.heap:=by simpa[eF]using G
    obtain⟨z,_⟩:=qY b1;have z':p.1=D0:=by simpa using z
    rw[z'];exact(nD b a).symm
   subst hr;have L:=b7.iI;have e6:K.heap.get? D0=some {cls:=.type "list",data:=.seq k.toArray kk}:=(b7.pin (D0,_) (bo _ (bo _ (i3 (by simp) e5)))).1
   --back in the context around
   have un:Un (frs X.stack) fp d B s2.heap K.heap:=by
    have u:=L.base;have nb:∀b o,s2.heap.get? b=some o->b∉fp->b∉D0::fp:=fun b o e a z=>by
     rcases aI.mp z with z|z;·exact absurd (aB e) (by rw[z,hD];exact dO _)
     ·exact a z
    exact⟨fun b o e n a hx=>u.keep b o (O b o e) n a (nb b o e hx),fun b o e n a hx=>u.slot b o (O b o e) n a (nb b o e hx),fun b o e n hx=>u.free b o (O b o e) n (nb b o e hx),fun b o e hx=>u.there b o (O b o e) (nb b o e hx),u.tups,u.frzs,u.tbls⟩
   have I7:Inv X pins σ B K:=by obtain⟨hh,g6,d6,t6,g8⟩:=K;have eo:g8=s2.os:=L.os;subst eo;exact D.call (h':=hh) (g':=g6) (d':=d6) (t':=t6) (ch:=fp) un L.hok L.bare fun b a=>⟨(V b a).2.2.2.1,(V b a).2.1,(V b a).2.2.2.2.1,(V b a).2.2.2.2.2⟩
   have e8:m5 X pins B D0:=⟨W D0 au,fD.2⟩;have I8:=I7.track (o:=.lst j) e8 (show d7 X.prog X.w _ K.heap D0 (.lst j)from⟨c7,k,kk,a6,e6⟩);obtain⟨m,F,_⟩:=id L.loc;refine e9 _ P3.objs.size _ K m I8 F (D.yC (by rw[hD];exact iC a9) (by rw[bD (bO c3)];exact L.free)) ?_ (q D0 (W D0 au));obtain⟨o,es,ep,f,hd,_⟩:=F;exact⟨o,f,fun v z=>by rw[hd]at z;cases z⟩
  ·skip
   have c1:∀{H':Hp}{b:Addr},b∈fp->H' b=none->m5 (eF X N' sc P3.objs.size {s2 with heap:=P3} d (D0::fp)) ([]++jo [D0] r.heap) H' b:=fun{H' b} a F=>by
    obtain⟨g0,g1,g2,g3,g4,_⟩:=f4 (H':=H') (a3 a) F;refine⟨g0,g1,g2,g3,g4,fun p G=>?_⟩;have b1:p∈jo [D0] r.heap:=by simpa[eF]using G
    obtain⟨z,_⟩:=qY b1;have z':p.1=D0:=by simpa using z
    rw[z'];exact(nD b a).symm
   refine thn (T.item (eF X N' sc P3.objs.size {s2 with heap:=P3} d (D0::fp)) rfl rfl rfl hc i _ r A B (fun _ _=>False) b6 (fun b a=>c1 a (W b (a3 a))) d8 go) fun b3 K ⟨u,hr,h6⟩=>?_;subst hr;refine thn h6 fun _ s7 ⟨x,H7,I7,r7,y7,a4,f0⟩=>?_;have e0:=I7.pinned (fun b a=>c1 a (f0 b a)) (T.obj _ _ a4);refine thn (pg _ s7 A H7 x u _ e0 r7 (step x H7 y7)) fun _ s8 ⟨U,H8,I8,q8⟩=>?_;refine thn (pt _ s8 U H8 _ I8 q8) fun b s9 ⟨H9,I9,q9⟩=>?_;have d0:∀{a1:St}{H':Hp}{s':Shared},Inv (eF X N' sc P3.objs.size {s2 with heap:=P3} d (D0::fp)) ([]++jo [D0] r.heap++jo fp s7.heap) a1 H' s'->s'.heap.get? D0=some {cls:=.type "list",data:=.seq k.toArray kk}/\H' D0=none:=fun{a1 H' s'} J=>by have :=J.pin (D0,_) (bo _ (jP _ (bo _ (i3 (by simp) e5))));exact⟨this.1,this.2.1⟩
   have d3:∀{a1:St}{H':Hp}{s':Shared},Inv (eF X N' sc P3.objs.size {s2 with heap:=P3} d (D0::fp)) ([]++jo [D0] r.heap++jo fp s7.heap) a1 H' s'->(∀b∈fp,∀o,s7.heap.get? b=some o->s'.heap.get? b=some o)/\(∀b∈fp,H' b=none):=fun{a1 H' s'} J=>by refine⟨fun b a o e=>(J.pin (b,o) (bo _ (bo _ (i3 a e)))).1,fun b a=>?_⟩;obtain⟨o,e,h5⟩:=T.obj _ _ a4 b a;exact(J.pin (b,o) (bo _ (bo _ (i3 a e)))).2.1
   cases b with
   |false=>
    rw[if_neg (by decide)]at q9⊢;obtain⟨m',b0,w7⟩:=hN U j H9 q9;obtain⟨d1,d2⟩:=d0 I9;obtain⟨p1,p2⟩:=d3 I9;refine⟨m',b0,i+1,U,j,H9,k,kk,I9.iI.iI,T.keep _ _ _ a4 p1,fun b a=>?_,a6,c7,d1,w7⟩;rcases aI.mp a with z|z;·rw[z];exact d2
    ·exact p2 b z
   |true=>
    rw[if_pos rfl]at q9⊢;refine thn (pe _ s9 U H9 _ I9 q9) fun y i0 ⟨z,b5,a7,h0,g9⟩=>?_;obtain⟨h8,g7⟩:=g9;obtain⟨m',b0,w7⟩:=hN U _ b5 g7;obtain⟨d1,d2⟩:=d0 a7;obtain⟨p1,p2⟩:=d3 a7;have h7:k.length=j.length:=a6.length.symm;refine CY (X:=eF X N' sc P3.objs.size {s2 with heap:=P3} d (D0::fp)) a7.iI.iI (f4 au d2) d1 (by lia) fun h' n' d9 e7 g5=>?_;refine⟨m',b0,i+1,U,j++[z],b5,k++[y],n',d9,T.keep _ _ _ a4 fun b a o e=>g5 b o (nD b a) (p1 b a o e),fun b a=>?_,a6.append (.cons h0 .nil),?_,e7,w7⟩
    ·rcases aI.mp a with w|w;·rw[w];exact d2
     ·exact p2 b w
    ·rw[bE,oO];lia
 exact codeAny_compStart_list b2 (T.self _ 0 _ _ _ d5 b2)
def pe_comp(S:nH X N' sc)(r:MkOk X N' sc mk)(p:X.calm=true)(hi:PI X tg iter wi)
  (f:∀C d c fp,(eF X N' sc C d c fp).Ok->PG (eF X N' sc C d c fp) tg g/\PTs (eF X N' sc C d c fp) ifs tc/\PE (eF X N' sc C d c fp) elt te)
  (hs:∀x,jF iter X.env x=pure x:=by intro _;rfl):PE X (.ListComp elt [⟨tg,iter,ifs,0⟩] sc pos) (tM wi g tc te mk):=by
 intro v s w H Q I h;rw[eval_ListComp];refine wQ (use:=none) S r p hi f hs I h fun l C i s' m j t a y q=>⟨m,t,fun n u=>?_⟩;have k:Inv X v w i {s' with heap:=n,toks:=s'.toks}:=j.turned (fun b o f e=>u.extBut b o f e) a.1 a.2.1 a.2.2.2.1 a.2.2.2.2.1 a.2.2.2.2.2;exact⟨.ref l,i,k,rfl,q⟩
def BY{A:Pos}(S:nH X N' sc)(Q:MkOk X N' sc mk)(P:X.calm=true)(hi:PI X tg iter wi)
  (n:∀C k f fp,(eF X N' sc C k f fp).Ok->PG (eF X N' sc C k f fp) tg g/\PTs (eF X N' sc C k f fp) ifs tc/\PE (eF X N' sc C k f fp) elt te)
  (O:X.N.Nodup)(Y:X.N[i]? =some x)(w:X.env.scope.names.lookup x=some .local)
  (W:sZ (.ListComp elt [⟨tg,iter,ifs,0⟩] sc pos) (some (.Name x pos')) A.line X.env=pure true)
  (hs:∀x,jF iter X.env x=pure x:=by intro _;rfl):PS X (.Assign [.Name x pos'] (.ListComp elt [⟨tg,iter,ifs,0⟩] sc pos) A) (xF (tM wi g tc te mk) (me i)):=by
 intro j a1 B a2 D I h;rw[exec_Assign_Name_used _ _ _ _ W];refine aa (nV (aa ?_));show wpAny _ X.A (do let _<-comprehension (.ListComp elt [⟨tg,iter,ifs,0⟩] sc pos) sc X.env (firstIterPos [⟨tg,iter,ifs,0⟩] pos) (newList []) false (eval iter X.env) (some (assign (.Name x pos') X.env))) _ _ a1;refine aa (thn (wQ (use:=some (assign (.Name x pos') X.env)) (QQ:=fun _ c=>SP X j D .next c) S Q P hi n hs I h fun l C r c m t R a N q=>?_) fun _ c hq=>aj (aj hq));obtain⟨d,v,H⟩:=id N;have F:Inv X (j++[(C,d)]) B r c:=t.ya fun p U=>(aU.mp U).elim (fun z=>t.pin p (bo _ z)) fun z=>by
  have e:p=(C,d):=by simpa using z
  subst e;exact⟨v,a.1,a.2.1,a.2.2.1,H⟩
 show wpAny _ X.A (assign (.Name x pos') X.env (.ref l)) _ _ c;refine thn (Dt (i:=i) O Y (.inl w) (.inr w) (j++[(C,d)]) c B r (.ref l) (.ref l) D.nx F rfl q) fun _ s2 ⟨E,s,u,q2⟩=>?_;obtain⟨J,Z,_,_,_⟩:=u.pin (C,d) (bo _ (bo _ (by simp)));have T:s2.heap.Ns C m:=by
  obtain⟨o,L,K,y,a0⟩:=R;have :o=d:=by rw[v]at y;exact(aX y).symm
  subst this;exact⟨o,L,K,J,a0⟩
 refine⟨m,T,fun M V=>?_⟩;have G:Inv X j E s {s2 with heap:=M,toks:=s2.toks}:=u.iI.turned (fun b o n e=>V.extBut b o n e) Z a.2.1 a.2.2.2.1 a.2.2.2.2.1 a.2.2.2.2.2;exact⟨E,s,G,q2⟩
end
section
def AO:gp X (.builtin "isinstance") (fun xs H Q=>∃x T t b,xs=[x,.ty T]/\mr X.K H x t/\iX X.K t (.type T)=some b/\Q (.bl b) H):=by intro g s j H xs i Q I f h;obtain⟨x,T,t,b,rfl,ty,e,q⟩:=h;obtain⟨u,c,rfl,d,a⟩:=f.two;cases a;exact wG I d ty e fun tk=>⟨.bl b,H,I.tok tk,rfl,q⟩
def yT:gp X (.builtin "isinstance") (fun xs H Q=>∃x C t b,xs=[x,.ref C]/\mr X.K H x t/\iX X.K t (.ref C)=some b/\Q (.bl b) H):=by intro g s j H xs i Q I f h;obtain⟨x,T,t,b,rfl,ty,e,q⟩:=h;obtain⟨u,c,rfl,d,a⟩:=f.two;cases a;exact wG I d ty e fun tk=>⟨.bl b,H,I.tok tk,rfl,q⟩
def GA{bs:List Bool}(r:bZ (bs.map V.bl) ad):TruthOf prog w A (fun i v=>ad.toArray[i]? =some v) (fun i=>bs.getD i false):=by
 intro i v s Q E c h;have hi:ad[i]? =some v:=by simpa using c
 have e:v=.bool (bs.getD i false):=by
  have d:=r.length;rw[ak]at d;have a:i<bs.length:=by have :=(aM.mp hi).1;lia
  obtain⟨u,b,f⟩:=bZ.get (i:=i) (x:=.bl bs[i]) r (by simp[a]);rw[hi]at b;cases b;have g:v=zd bs[i]:=f;rw[g,af,ae a];rfl
 rw[e];exact dQ h
def range_all(bs:List Bool):(ay bs.length).all (fun i=>bs.getD i false)=bs.all id:=by
 have :bs=(ay bs.length).map fun i=>bs.getD i false:=by
  apply cU;·simp
  ·intro i a c;simp[a]
 rw[eY];simp only[bK,aJ];constructor;·intro h x b;obtain⟨i,hi,rfl⟩:=cX.mp b;have :=h i hi;simpa[hi]using this
 ·intro h i hi;have :=h bs[i] (ck hi);simpa[hi]using this
def JF(d:X.calm=true):gp X (.builtin "all") (fun xs H Q=>∃(p:Addr)(bs:List Bool),xs=[.ref p]/\SqL X.K H p (bs.map V.bl)/\Q (.bl (bs.all id)) H):=by
 intro w s y H xs x Q I m h;obtain⟨p,bs,rfl,hq,q⟩:=h;obtain⟨u,rfl,l⟩:=m.one;cases l;obtain⟨c,r,a,v⟩:=I.list hq;have f:c.toArray.size=bs.length:=by rw[aD,<-r.length,ak]
 have g:p≠s.heap.objs.size:=by obtain⟨o,n,j,_⟩:=id a;exact aO (aB j)
 refine call_all_walk (nJ a.isList ⟨s.heap.objs.size,_,_,_,_,_,fun i=>bs.getD i false,rfl,JY (A:=X.A.in1) (I.ok.hd d) _ p g c.toArray,⟨⟨_,az _ rfl,rfl,rfl⟩,a.isList.at fun o e=>ai _ e⟩,GA r,fun t tk k=>?_⟩);rw[f,range_all];exact⟨.bl (bs.all id),H,I.kept (t':=tk) fun b o e=>k b o (by simpa using aO (aB e)) (ai _ e),rfl,q⟩
abbrev CF(x:Str)(lo hi:Option Int):Str:=⟨((x.cps.toList.drop (HT.sIx x.length 0 lo)).take (HT.sIx x.length x.length hi-HT.sIx x.length 0 lo)).toArray⟩
def sIx_eq(n d:Nat)(i:Int):(max 0 (min (if i<0 then i+(n:Int)else i) (n:Int)))=((HT.sIx n d (some i):Nat):Int):=by have :=HT.yM i n d;rw[<-this];split <;>lia
def strIx(lo hi:Option Int)(n:Nat):sy lo hi 1 n=(ay (HT.sIx n n hi-HT.sIx n 0 lo)).map fun k=>HT.sIx n 0 lo+k:=by
 have key:∀a b:Nat,sliceRange (a:Int) (b:Int) 1=(ay (b-a)).map fun k=>a+k:=by
  intro a b;unfold sliceRange;have e:(if(1:Int)>0 then(if(a:Int)<b then((b:Int)-a+1-1)/1 else 0)else(if(a:Int)>b then((a:Int)-b-1-1)/(-1)else 0)).toNat=b-a:=by rw[if_pos (by decide)];split <;>lia
  simp only[e];apply cF;intro k j;lia
 have f:∀(o:Option Int)(d:Nat),(match o with |none=>(d:Int) |some i=>max 0 (min (if i<0 then i+(n:Int)else i) (n:Int)))=((HT.sIx n d o:Nat):Int):=by
  intro o d;cases o with
  |none=>rfl
  |some i=>exact sIx_eq n d i
 have c:=f lo 0;have g:=f hi n;unfold sy;simp only[show(1:Int)>0 by decide,if_true];have h:((0:Nat):Int)=0:=rfl;rw[h]at c;rw[<-key,<-c,<-g];cases lo<;>cases hi<;>rfl
def pickN(xs:Array Nat)(i:Nat):∀k,((ay k).map fun m=>i+m).filterMap (xs[·]?)=(xs.toList.drop i).take k:=by
 intro k
 induction k with
 |zero=>simp
 |succ k ih=>
  rw[List.range_succ,dc,List.filterMap_append,ih];by_cases h:i+k<xs.size;·rw[List.take_succ,iW];simp[h]
  ·rw[List.take_succ,iW];simp[h]
def EH(x:Str)(lo hi:Option Int):Txt.slice x lo hi=CF x lo hi:=by
 have c:HT.sIx x.length 0 lo<=x.length:=HT.BR _ _ (aW _) lo;have d:HT.sIx x.length x.length hi<=x.length:=HT.BR _ _ (aC _) hi;unfold Txt.slice CF;rw[strIx];split
 ·rename_i h;rw[aL,beq_iff_eq,beq_iff_eq,ak,bC]at h;have a:HT.sIx x.length 0 lo=0:=by lia
  have b:HT.sIx x.length x.length hi=x.length:=by lia
  rw[a,b];have :x.cps.toList.length=x.length:=by simp[A7]
  rw[zt,F4,<-this,eI]
 ·rw[pickN]
def rU{v:Value}{o:Option Int}(p:IsPart v o):∃l:Option (Int×Tok),v=partValue l/\o=l.map (·.1):=by
 cases p with
 |none=>exact⟨none,rfl,rfl⟩
 |int i t=>exact⟨some (i,t),rfl,rfl⟩
def rSlS:V->Option Int->Option Int->Hp->VK->Prop:=fun x lo hi H Q=>∃z,x=.str z/\z.length<=sizeLine/\Q (.str (CF z lo hi)) H
def sl_str:SlR X rSlS:=by intro i s o H x v m n lo hi j Q I f a c d h;obtain⟨z,rfl,b,q⟩:=h;obtain⟨t,rfl⟩:=f;obtain⟨l,rfl,rfl⟩:=rU c;obtain⟨u,rfl,rfl⟩:=rU d;refine⟨"str",_,F.slot_str_getitem.lookup,typeIs_str _ _ _,?_⟩;refine wpAny_getItem_str_slice (l:=l) (u:=u) (st:=none) a rfl (post_val_or_str ⟨bf (Txt.slice_le z _ _) b,fun g k=>?_⟩);have e:=EH z (l.map (·.1)) (u.map (·.1));unfold Txt.slice at e;refine⟨.str (CF z (l.map (·.1)) (u.map (·.1))),H,I.tok k,⟨g,?_⟩,q⟩;rw[<-e];rfl
abbrev Its(x:Str):It:=⟨fun i _=>i<x.length,fun i H v H'=>H'=H/\∃c,x.cps[i]? =some c/\v=.str ⟨#[c]⟩,fun i _=>x.length<=i⟩
end
def wc(a:Addr)(x:Str)(t:Tok)(A:Around)(b:A.handled=none):
  Walks prog w A a [a] [a] x.cps.size (SignAt x) (fun i h=>h.IsStrIter a (iF x) x t i):=by
 unfold iF;cases ha:x.cps.all (·<128);·simp only[aN,if_false];exact Walks.strWide b a x t
 ·simp only[if_true];exact Walks.strAscii b a x t
def Gz(x:Str)(f:Addr)(t:Tok):Turn P w K tg (Its x) [f] f (fun i h=>h.IsStrIter f (iF x) x t i) where
 mem:=by simp
 obj:=fun i h j b a=>by
  have e:b=f:=by simpa using a
  subst e;obtain⟨o,e,c,d⟩:=j;exact⟨o,e,fun v z=>by rw[d]at z;cases z⟩
 keep:=fun i h l j k=>let⟨o,ho,r⟩:=j;⟨o,k f (by simp) o ho,r⟩
 item:=by intro X G L F C i O s S H E I hf j J;subst G L F;obtain⟨m,p,U,q,y,B⟩:=hf f (by simp);have W:=wc (prog:=X.prog) (w:=X.w) f x t X.A (I.ok.hd C);refine W.item i s _ _ J j fun v l tk Z R M=>?_;obtain⟨c,u,V,rfl⟩:=Z;have T:Inv X O S H {s with heap:=l,toks:=tk}:=I.turned (fun b o a e=>M b o (by simpa using a) e) m p q y B;obtain⟨o,e,cl,d⟩:=id R;refine⟨_,rfl,DQ (s:={s with heap:=l,toks:=tk}) (n:=iF x) e cl d ?_ ⟨.str ⟨#[c]⟩,H,T,⟨u,rfl⟩,⟨rfl,c,V,rfl⟩,R,fun b a=>(hf b a).1⟩⟩;unfold iF;split <;>decide
 done:=by
  intro X G L F C i O s S H E I hf j J;subst G L F;obtain⟨m,p,U,q,y,B⟩:=hf f (by simp);have Y:x.length<=i:=J;by_cases hi:i=x.cps.size;·subst hi;have W:=wc (prog:=X.prog) (w:=X.w) f x t X.A (I.ok.hd C);exact W.done s _ _ j fun l tk M=>⟨rfl,I.turned (fun b o a e=>M b o (by simpa using a) e) m p q y B⟩
  ·have N:x.cps[i]? =none:=by rw[Array.getElem?_eq_none_iff];exact Y
   have g:s.heap.IsStrIter f (iF x) x t i:=j;unfold iF at g;cases ha:x.cps.all (·<128);·rw[ha]at g;exact wpAny_pyNext_wide_end (I.ok.hd C) g N fun l D=>⟨rfl,I.turned (t':=s.toks) (fun b o a e=>D b o a e) m p q y B⟩
   ·rw[ha]at g;exact wpAny_pyNext_ascii_end (I.ok.hd C) g N fun l D=>⟨rfl,I.turned (t':=s.toks) (fun b o a e=>D b o a e) m p q y B⟩
 self:=fun A i s Q E j h=>by
  have g:s.heap.IsStrIter f (iF x) x t i:=j;unfold iF at g;cases ha:x.cps.all (·<128);·rw[ha]at g;exact wpAny_pyIter_striter_wide g h
  ·rw[ha]at g;exact wpAny_pyIter_striter_ascii g h
def Inv.turnedL(I:Inv X pins σ H s)(k:∀b o,b∉ch->s.heap.get? b=some o->h'.get? b=some o)(hf:∀b∈ch,m5 X pins H b):Inv X pins σ H {s with heap:=h'}:=by
 have g:∀b u,H b=some u->b∉ch:=fun b u e z=>by rw[(hf b z).1]at e;cases e
 refine I.step (g':=s.gens) (d':=s.drawn) (ch:=ch) (fun b v=>?_) (fun b o _ _ a e _=>k b o a e) (fun b o _ _ a e _=>⟨o.slots,k b o a e⟩) (fun _ _ _ _ n=>n)
  (fun b o a e=>⟨o,k b o a e⟩) (fun _ _ e=>e) (fun _ _ _ e=>e) (fun b B e=>⟨#[],by rw[e];simp⟩) (fun m x=>?_) (fun b u e=>?_) I.bare
 ·obtain⟨y,j,A,l,p,t⟩:=hf b v;exact⟨l,j,p,t⟩
 ·obtain⟨o,i,h,q,r⟩:=x;exact⟨o,i,h,k _ o (fun a=>(hf _ a).2.1 rfl) q,r⟩
 ·refine(I.hok b u e).lM (fun d o w c=>k d o (fun f=>?_) c) (fun d c=>c) fun d C c=>c;rcases w with zz|zz;·rw[zz]at f;exact g b u e f
  ·exact g d _ zz f
def Inv.newL{o:HO}(I:Inv X pins σ H s)(k:∀b o,b∉ch->s.heap.get? b=some o->h'.get? b=some o)(hf:∀b∈ch,m5 X pins H b)
  (new:d7 X.prog X.w (upd H s.heap.objs.size o) h' s.heap.objs.size o):Inv X pins σ (upd H s.heap.objs.size o) {s with heap:=h',toks:=t'}:=
 ((I.turnedL k hf).tok t').track (I.yC (aC _) (I.hok.fresh (aC _))) new
abbrev IteG(a:Hp->List V->Prop):It:=
 ⟨fun i H=>∃xs x,a H xs/\xs[i]? =some x,fun i H v H'=>∃p x,H p=none/\H'=upd H p (.tup [.int i,x])/\v=.ref p/\∀xs,a H xs->xs[i]? =some x,fun i H=>∃xs,a H xs/\xs.length<=i⟩
structure En(a it:Addr)(Sq:ao->Hp->List V->Prop)(S:Nat->Heap->Prop):Prop where
 obj:∀i h,S i h->∃o,h.get? it=some o/\∀v,o.data≠.cell v
 kp:∀i h h',S i h->(∀o,h.get? it=some o->h'.get? it=some o)->S i h'
 one:∀{X:Cx}{pins:List (Addr×Obj)}{σ:St}{H:Hp}{s:Shared}{xs ys:List V},Inv X pins σ H s->Sq X.K H xs->Sq X.K H ys->xs=ys
 src:∀{X:Cx}{pins:List (Addr×Obj)}{σ:St}{H:Hp}{s:Shared}{xs:List V}{i:Nat},Inv X pins σ H s->X.A.in1.handled=none->Sq X.K H xs->S i s.heap->∃(us:List Value)(R:Heap->Prop),bZ xs us/\R s.heap/\
  (∀e o,s.heap.get? e=some o->o.cls=.type "enumerate"->e≠a)/\Draws X.prog X.w X.A.in1 it [it,a] us.toArray.size (fun i v=>us.toArray[i]? =some v) (fun i h=>S i h/\R h)/\
  (us.toArray.size<=i->∀(Q:Value->Shared->Prop)(E:Value->Shared->Prop),(∀h' z,Heap.ExtBut it s.heap h'->(∃o,h'.get? z=some o/\o.cls=.type "StopIteration")->E (.ref z) {s with heap:=h'})->wpAny (model X.prog X.w) X.A.in1 (eU (.ref it)) Q E s)
def BG{es:List Expr}{kk:Nat}{L:ao->Hp->List V->Prop}{S:Nat->Heap->Prop}{e:Addr}(N:En a it L S)(t:e≠it):Turn P w K (.Tuple es kk pp) (IteG (L K)) [e,it] e (fun i h=>(∃old,IsEnum h e it i old)/\S i h) where
 mem:=by simp
 obj:=fun i h d b f=>by
  obtain⟨⟨old,c⟩,hs⟩:=d;have p:b=e\/b=it:=by simpa using f
  rcases p with rfl|rfl;·exact⟨_,c,fun b6 z=>by cases z⟩
  ·exact N.obj i h hs
 keep:=fun i h l d k=>by obtain⟨⟨old,c⟩,g⟩:=d;exact⟨⟨old,k e (by simp) _ c⟩,N.kp i h l g fun o q=>k it (by simp) o q⟩
 item:=by
  intro X n v m j i C s J H E I hf d r;subst n v m;obtain⟨xs,x,hq,A⟩:=r;obtain⟨⟨old,c⟩,g⟩:=d;obtain⟨B,a0,G,O,W,D,_⟩:=N.src I (I.ok.hd j) hq g;obtain⟨b3,U,ru⟩:=G.get A;obtain⟨f0,f1,f2,f3,f4,f5⟩:=hf e (by simp);have a8:i<B.toArray.size:=by simpa using(aM.mp U).1
  have a9:it<s.heap.objs.size:=by obtain⟨o,q,_⟩:=N.obj i _ g;exact aB q
  refine wpAny_pyNext_enum_itemD D c ⟨g,O⟩ a8 t (by simp[t,W e _ c rfl]) fun y l tk hy u b0 ht b5 kp=>?_;have a2:y=b3:=by
   have :B[i]? =some y:=by simpa using hy
   rw[U]at this;exact(aX this).symm
  subst a2;have hp:H s.heap.objs.size=none:=I.hok.fresh (aC _);have Y:Inv X C J (upd H s.heap.objs.size (.tup [.int i,x])) {s with heap:=l,toks:=tk+1}:=
   I.newL (ch:=[e,it]) (fun a1 o j q=>kp a1 o (fun z=>j (by simp[z])) (fun z=>j (by simp[z])) q) hf ⟨by show 2<=sizeLine;decide,[.int i tk,y],.cons ⟨tk,rfl⟩ (.cons ru .nil),⟨_,ht,rfl,_,rfl⟩⟩
  have M:(upd H s.heap.objs.size (.tup [.int i,x])) e=none:=by rw[bD (aO (aB c))];exact f0
  refine⟨_,rfl,wpAny_letOwnedTupleGo_enum (s:={s with heap:=l,toks:=tk+1}) u fun a4 a7 R=>?_⟩;have Z:Inv X C J (upd H s.heap.objs.size (.tup [.int i,x])) {s with heap:=a4,toks:=tk+1}:=Y.turned (t':=tk+1) (fun b o f q=>R.extBut b o f q) M f1 f3 f4 f5;refine⟨.ref s.heap.objs.size,_,Z,rfl,⟨_,x,hp,rfl,rfl,fun ys b2=>by rw[N.one I b2 hq];exact A⟩,⟨⟨y,?_⟩,N.kp _ _ _ b0.1 fun o q=>R.extBut it o (bO t) q⟩,fun b f=>?_⟩
  ·have :((i:Int)+1)=((i+1:Nat):Int):=by push_cast;rfl
   rw[<-this];exact a7
  ·have p:b=e\/b=it:=by simpa using f
   rcases p with rfl|rfl;·exact M
   ·rw[bD (aO a9)];exact(hf _ (by simp)).1
 done:=by
  intro X n v m j i C s J H E I hf d r;subst n v m;obtain⟨xs,hq,A⟩:=r;obtain⟨⟨old,c⟩,g⟩:=d;obtain⟨B,a0,G,O,W,D,a3⟩:=N.src I (I.ok.hd j) hq g;obtain⟨g0,g1,g2,g3,g4,g5⟩:=hf it (by simp);have Q:s.TypeIs (.ref e) "enumerate":=⟨_,c,rfl⟩;have b4:=G.length;unfold pyNext;refine aa (vn (dE (name:=cQ "__next__") Q F.slot_enumerate_next
   (cA F.slot_enumerate_next Q F.entry_enumerate_next ?_ (F.args_enumerate_next_1 _))))
  show wpAny _ _ (field (.ref e) 2>>=_) _ _ _;refine aa (fz c rfl (x:=.ref it) rfl ?_);refine aa (a3 (by simp;lia) _ _ fun l z a6 b1=>?_);obtain⟨o,u,a5⟩:=b1;refine aa (pb (T:="StopIteration") (b:=true) ⟨o,u,a5⟩ isSubtype_stop ?_);exact aj ⟨rfl,I.turned (t':=s.toks) (fun b o f q=>a6 b o f q) g0 g1 g3 g4 g5⟩
 self:=fun _ _ _ _ _ d h=>by obtain⟨⟨old,c⟩,_⟩:=d;exact wpAny_pyIter_enum c h
def Inv.enum{g:List Expr}{l:Nat}{c:ao->Hp->List V->Prop}{S:Nat->Heap->Prop}{R:It->Hp->Prop}{Q:Value->Shared->Prop}(I:Inv X pins σ H s)(N:En a s.heap.objs.size c S)
  (e:IsEnum h' (s.heap.objs.size+1) s.heap.objs.size 0 .none)(j:S 0 h')(m:∀b o,s.heap.get? b=some o->h'.get? b=some o)(q:R (IteG (c X.K)) H)
  (k:∀(it:Addr)(fp:List Addr)(f:Nat->Heap->Prop)(J:It),Inv X pins σ H {s with heap:=h'}->Turn X.prog X.w X.K (.Tuple g l pp) J fp it f->f 0 h'->(∀b∈fp,m5 X pins H b)->R J H->Q (.ref it) {s with heap:=h'}):
  wpAny (model X.prog X.w) X.A (pyIter (.ref (s.heap.objs.size+1))) Q E {s with heap:=h'}:=by
 refine wpAny_pyIter_enum (s:={s with heap:=h'}) e ?_;refine k _ [s.heap.objs.size+1,s.heap.objs.size] _ _ (I.kept (t':=s.toks) m) (BG N (Nat.succ_ne_self _)) ⟨⟨_,e⟩,j⟩ (fun b h=>?_) q;have i:b=s.heap.objs.size+1\/b=s.heap.objs.size:=by simpa using h
 have d:s.heap.objs.size<=b:=by
  rcases i with z|z;·rw[z];exact eR _
  ·rw[z];exact aC _
 exact I.yC d (I.hok.fresh d)
inductive D where
 |non|bl (b:Bool) |int (i:Int) |str (x:Str) |tup (ds:List D) |lst (ds:List D)
 deriving Inhabited
mutual
noncomputable def Rep(K:ao)(H:Hp):D->V->Prop
 |.non,v=>v=.non
 |.bl b,v=>v=.bl b
 |.int i,v=>v=.int i
 |.str x,v=>v=.str x
 |.tup ds,v=>∃a xs,v=.ref a/\SqT K H a xs/\fY K H ds xs
 |.lst ds,v=>∃a xs,v=.ref a/\SqL K H a xs/\fY K H ds xs
noncomputable def fY(K:ao)(H:Hp):List D->List V->Prop
 | [],xs=>xs=[]
 |d::ds,xs=>∃x r,xs=x::r/\Rep K H d x/\fY K H ds r
end
def aR.tup{K:ao}{H H':Hp}{a:Addr}{xs:List V}(e:aR H H')(h:SqT K H a xs):SqT K H' a xs:=by
 rcases h with(h|⟨o,h⟩) |h;·exact .inl (.inl (e _ _ h))
 ·exact .inl (.inr ⟨o,e _ _ h⟩)
 ·exact .inr h
mutual
theorem Rep.same(e:aR H H'):∀{d:D}{v:V},Rep K H d v->Rep K H' d v
 |.non,_,h=>h
 |.bl _,_,h=>h
 |.int _,_,h=>h
 |.str _,_,h=>h
 |.tup ds,_,h=>by obtain⟨a,g,b,c,f⟩:=h;exact⟨a,g,b,e.tup c,fY.same e f⟩
 |.lst ds,_,h=>by obtain⟨a,g,b,c,f⟩:=h;exact⟨a,g,b,e.seq c,fY.same e f⟩
theorem fY.same(e:aR H H'):∀{ds:List D}{xs:List V},fY K H ds xs->fY K H' ds xs
 | [],_,h=>h
 |d::ds,_,h=>by obtain⟨x,r,a,b,c⟩:=h;exact⟨x,r,a,Rep.same e b,fY.same e c⟩
end
theorem fY.length:∀{ds:List D}{xs:List V},fY K H ds xs->xs.length=ds.length
 | [],_,h=>by rw[show _=[]from h];rfl
 |d::ds,_,h=>by obtain⟨x,r,rfl,_,a⟩:=h;rw[bz,bz,fY.length a]
theorem fY.at:∀{ds:List D}{xs:List V}{i:Nat}{d:D},fY K H ds xs->ds[i]? =some d->∃x,xs[i]? =some x/\Rep K H d x
 | [],_,i,d,h,e=>by simp at e
 |d::ds,_,0,d',h,e=>by obtain⟨y,r,rfl,a,b⟩:=h;simp at e;subst e;exact⟨y,rfl,a⟩
 |d::ds,_,i+1,d',h,e=>by obtain⟨y,r,rfl,a,b⟩:=h;obtain⟨x,c,f⟩:=fY.at (i:=i) b (by simpa using e);exact⟨x,by simpa using c,f⟩
theorem fY.ints:∀(ns:List Int),fY K H (ns.map D.int) (ns.map V.int)
 | []=>rfl
 |n::ns=>⟨_,_,rfl,rfl,fY.ints ns⟩
mutual
noncomputable def eqD:D->D->Bool
 |.non,.non=>true
 |.bl a,.bl b=>a==b
 |.bl a,.int b=>(if a then 1 else 0)==b
 |.int a,.bl b=>a==(if b then 1 else 0)
 |.int a,.int b=>a==b
 |.str a,.str b=>a==b
 |.tup a,.tup b=>nU a b
 |.lst a,.lst b=>nU a b
 |_,_=>false
noncomputable def nU:List D->List D->Bool
 | [],[]=>true
 |a::as,b::bs=>eqD a b&&nU as bs
 |_,_=>false
end
mutual
noncomputable def hgt:D->Nat
 |.tup ds=>gK ds+1
 |.lst ds=>gK ds+1
 |_=>0
noncomputable def gK:List D->Nat
 | []=>0
 |d::ds=>max (hgt d) (gK ds)
end
theorem rj:∀{ds:List D}{i:Nat}{d:D},ds[i]? =some d->hgt d<=gK ds
 | [],i,d,e=>by simp at e
 |d::ds,0,d',e=>by simp at e;subst e;simp only[gK];lia
 |d::ds,i+1,d',e=>by have :=rj (i:=i) (ds:=ds) (d:=d') (by simpa using e);simp only[gK];lia
theorem AF:∀(c bs:List D)(e:Nat->Bool),c.length=bs.length->(∀(i:Nat) a b,c[i]? =some a->bs[i]? =some b->e i=eqD a b)->(ay c.length).all e=nU c bs
 | [],[],e,_,_=>rfl
 |a::c,b::bs,e,hl,h=>by rw[bz,List.range_succ_eq_map,Bu,List.all_map];have d:=h 0 a b rfl rfl;have j:=AF c bs (fun i=>e (i+1)) (by simpa using hl) fun i x y f g=>h (i+1) x y (by simpa using f) (by simpa using g);rw[d];show(eqD a b&&(ay c.length).all (fun i=>e (i+1)))=_;rw[j];rfl
 | [],b::bs,e,hl,_=>by simp at hl
 |a::c,[],e,hl,_=>by simp at hl
theorem qg:∀(c bs:List D),c.length≠bs.length->nU c bs=false
 | [],[],h=>absurd rfl h
 |a::c,b::bs,h=>by show(eqD a b&&nU c bs)=false;rw[qg c bs (by simpa using h),gm]
 | [],b::bs,_=>rfl
 |a::c,[],_=>rfl
mutual
theorem uN:∀d:D,eqD d d=true
 |.non=>rfl
 |.bl b=>beq_self_eq_true b
 |.int i=>beq_self_eq_true i
 |.str x=>beq_self_eq_true x
 |.tup ds=>rn ds
 |.lst ds=>rn ds
theorem rn:∀ds:List D,nU ds ds=true
 | []=>rfl
 |d::ds=>pH.mpr ⟨uN d,rn ds⟩
end
section
variable {pins:List (Addr×Obj)}{s:Shared}
mutual
theorem Inv.x5(I:Inv X pins σ H s):∀{d c:D}{v:V},Rep X.K H d v->Rep X.K H c v->d=c
 |.non,c,v,h,h'=>by cases(show v=V.non from h);cases c<;>first | (obtain⟨_,_,z,_⟩:=h';cases z;done) |rfl| (cases h';done)
 |.bl b,c,v,h,h'=>by cases(show v=V.bl b from h);cases c<;>first | (obtain⟨_,_,z,_⟩:=h';cases z;done) | (cases h';rfl) | (cases h';done)
 |.int b,c,v,h,h'=>by cases(show v=V.int b from h);cases c<;>first | (obtain⟨_,_,z,_⟩:=h';cases z;done) | (cases h';rfl) | (cases h';done)
 |.str b,c,v,h,h'=>by cases(show v=V.str b from h);cases c<;>first | (obtain⟨_,_,z,_⟩:=h';cases z;done) | (cases h';rfl) | (cases h';done)
 |.tup ds,c,v,h,h'=>by
  obtain⟨a,w,rfl,j,p⟩:=h;cases c with
  |tup ds'=>obtain⟨b,q,e,f,k⟩:=h';cases e;have :=I.qN j f;subst this;rw[Inv.tW I p k]
  |lst ds'=>obtain⟨b,q,e,f,k⟩:=h';cases e;obtain⟨r,_,⟨o,m,l,_⟩,_⟩:=I.tuple j;obtain⟨t,_,⟨u,n,i,g,_⟩,_⟩:=I.list f;rw[m]at i;cases i;rw[l]at g;exact absurd g (by decide+kernel)
  |_=>cases h'
 |.lst ds,c,v,h,h'=>by
  obtain⟨a,w,rfl,j,p⟩:=h;cases c with
  |lst ds'=>obtain⟨b,q,e,f,k⟩:=h';cases e;have :=I.Am j f;subst this;rw[Inv.tW I p k]
  |tup ds'=>obtain⟨b,q,e,f,k⟩:=h';cases e;obtain⟨r,_,⟨o,n,m,l,_⟩,_⟩:=I.list j;obtain⟨t,_,⟨u,i,g,_⟩,_⟩:=I.tuple f;rw[m]at i;cases i;rw[l]at g;exact absurd g (by decide+kernel)
  |_=>cases h'
theorem Inv.tW(I:Inv X pins σ H s):∀{ds a:List D}{xs:List V},fY X.K H ds xs->fY X.K H a xs->ds=a
 | [],[],_,_,_=>rfl
 | [],d::ds,xs,h,h'=>by obtain⟨x,r,e,_⟩:=h';rw[show xs=[]from h]at e;cases e
 |d::ds,[],xs,h,h'=>by obtain⟨x,r,e,_⟩:=h;rw[show xs=[]from h']at e;cases e
 |d::ds,d'::a,xs,h,h'=>by obtain⟨x,r,rfl,b,f⟩:=h;obtain⟨y,i,e,c,g⟩:=h';cases e;rw[Inv.x5 I b c,Inv.tW I f g]
end
open PySem.SeqAt
abbrev eqJ(ds a:List D)(j:Nat):Bool:=match ds[j]?,a[j]? with |some d,some d'=>eqD d d'|_,_=>false
def yG{ds a:List D}(b:ds.length=a.length):(ay ds.length).all (eqJ ds a)=nU ds a:=AF ds a _ b fun i x y c d=>by simp only[eqJ,c,d]
def DW{ds a:List D}:((ay (min ds.length a.length)).all (eqJ ds a)&&ds.length==a.length)=nU ds a:=by
 by_cases hl:ds.length=a.length;·rw[<-hl,Nat.min_self,beq_self_eq_true,Bool.and_true,yG hl]
 ·rw[qg ds a hl,beq_eq_false_iff_ne.mpr hl,gm]
def yF{ds a:List D}(q:∀(i:Nat)(d b:D)(x y:V)(u f:Value),ds[i]? =some d->a[i]? =some b->Rep X.K H d x->Rep X.K H b y->RelV x u->RelV y f->EqAt A.in1 s u f (eqD d b))(k:fY X.K H ds xs)(l:fY X.K H a ys)(r:bZ xs ad)(r':bZ ys its'):ad.toArray.size=ds.length/\its'.toArray.size=a.length/\∀j (g:j<ad.toArray.size)(h:j<its'.toArray.size),EqAt A.in1 s ad.toArray[j] its'.toArray[j] (eqJ ds a j):=by
 have l1:=k.length;have l2:=l.length;have E:=r.length;have F:=r'.length;refine⟨by simp;lia,by simp;lia,fun j g h=>?_⟩;have o:j<ad.length:=by simpa using g
 have p:j<its'.length:=by simpa using h
 have c:ds[j]? =some ds[j]:=ae (by lia);have e:a[j]? =some a[j]:=ae (by lia);unfold eqJ;rw[c,e];obtain⟨x,t,B⟩:=k.at c;obtain⟨y,v,C⟩:=l.at e;obtain⟨u,m,w⟩:=r.get t;obtain⟨f,n,z⟩:=r'.get v;rw[ae o]at m;rw[ae p]at n;cases m;cases n;exact q j _ _ x y _ _ c e B C w z
def Inv.rcTup(I:Inv X pins σ H s)(A:Around){ds g:List D}(o:∀(i:Nat)(d c:D)(x y:V)(u h:Value),ds[i]? =some d->g[i]? =some c->Rep X.K H d x->Rep X.K H c y->RelV x u->RelV y h->EqAt A.in1 s u h (eqD d c))(k:SqT X.K H a xs)(m:fY X.K H ds xs)(l:SqT X.K H b ys)(n:fY X.K H g ys)(q:A.units<cLine):RcAt A s (.ref a) (.ref b) (nU ds g):=by
 obtain⟨w,r,p,_⟩:=I.tuple k;obtain⟨z,v,t,_⟩:=I.tuple l;obtain⟨e,j,f⟩:=yF o m n r v;have key:=RcAt.tuples p t (A:=A) q f
 rwa [e,j,DW]at key
def Inv.rcLst(I:Inv X pins σ H s)(A:Around){ds c:List D}(t:∀(i:Nat)(d g:D)(x y:V)(u l:Value),ds[i]? =some d->c[i]? =some g->Rep X.K H d x->Rep X.K H g y->RelV x u->RelV y l->EqAt A.in1 s u l (eqD d g))(m:SqL X.K H a xs)(o:fY X.K H ds xs)(n:SqL X.K H b ys)(q:fY X.K H c ys)(j:A.units<cLine):RcAt A s (.ref a) (.ref b) (nU ds c):=by
 obtain⟨w,r,p,_⟩:=I.list m;obtain⟨z,v,k,_⟩:=I.list n;obtain⟨e,h,f⟩:=yF t o q r v;by_cases hl:ds.length=c.length
 ·have key:=RcAt.lists p.isList k.isList (A:=A) (by rw[e,h,hl]) j f
  rwa [e,yG hl]at key
 ·have key:=RcAt.lists_lengths p.isList k.isList (A:=A) (by rw[e,h];exact bne_iff_ne.mpr hl) j
  rwa [qg ds c hl]
def Inv.shp(I:Inv X pins σ H s){d:D}{v:V}(h:Rep X.K H d v)(r:RelV v u):(d=.non/\v=.non/\u=.none)\/(∃x,d=.bl x/\v=.bl x/\u=.bool x)\/(∃x t,d=.int x/\v=.int x/\u=.int x t)\/(∃x t,d=.str x/\v=.str x/\u=.str x t)\/(∃ds a xs ad,d=.tup ds/\v=.ref a/\u=.ref a/\SqT X.K H a xs/\fY X.K H ds xs/\IsTup s.heap a ad)\/∃ds a xs ad,d=.lst ds/\v=.ref a/\u=.ref a/\SqL X.K H a xs/\fY X.K H ds xs/\s.heap.IsList a ad:=by
 cases d with
 |non=>cases(show v=_ from h);cases r;exact .inl ⟨rfl,rfl,rfl⟩
 |bl x=>cases(show v=_ from h);cases r;exact .inr (.inl ⟨x,rfl,rfl,rfl⟩)
 |int x=>cases(show v=_ from h);obtain⟨t,rfl⟩:=r;exact .inr (.inr (.inl ⟨x,t,rfl,rfl,rfl⟩))
 |str x=>cases(show v=_ from h);obtain⟨t,rfl⟩:=r;exact .inr (.inr (.inr (.inl ⟨x,t,rfl,rfl,rfl⟩)))
 |tup ds=>obtain⟨a,xs,rfl,b,c⟩:=id h;cases r;obtain⟨ad,_,p,_⟩:=I.tuple b;exact .inr (.inr (.inr (.inr (.inl ⟨ds,a,xs,_,rfl,rfl,rfl,b,c,p⟩))))
 |lst ds=>obtain⟨a,xs,rfl,b,c⟩:=id h;cases r;obtain⟨ad,_,p,_⟩:=I.list b;exact .inr (.inr (.inr (.inr (.inr ⟨ds,a,xs,_,rfl,rfl,rfl,b,c,p.isList⟩))))
def Inv.eqAt1(I:Inv X pins σ H s)(A:Around)(O:∀(m:Nat)(ds k:List D)(i:Nat)(d f:D)(x y:V)(u j:Value),n=m+1->gK ds<=m->ds[i]? =some d->k[i]? =some f->Rep X.K H d x->Rep X.K H f y->RelV x u->RelV y j->EqAt A.in1 s u j (eqD d f)):
  ∀(d f:D)(v N:V)(u j:Value),Rep X.K H d v->Rep X.K H f N->RelV v u->RelV N j->hgt d<=n->A.units+n+1<cLine->EqAt A s u j (eqD d f):=by
 intro d f v N u j h B r c o T;obtain⟨rfl,rfl,rfl⟩ |⟨_,rfl,rfl,rfl⟩ |⟨_,t,rfl,rfl,rfl⟩ |⟨_,t,rfl,rfl,rfl⟩ |⟨ds,a,R,P,rfl,rfl,rfl,C,F,p⟩ |⟨ds,a,R,P,rfl,rfl,rfl,C,F,p⟩:=I.shp h r<;>obtain⟨rfl,rfl,rfl⟩ |⟨_,rfl,rfl,rfl⟩ |⟨_,l,rfl,rfl,rfl⟩ |⟨_,l,rfl,rfl,rfl⟩ |⟨k,b,S,Q,rfl,rfl,rfl,E,G,g⟩ |⟨k,b,S,Q,rfl,rfl,rfl,E,G,g⟩:=I.shp B c
 ·exact gH r c rfl rfl
 ·exact gH r c rfl rfl
 ·exact gH r c rfl rfl
 ·exact gH r c rfl rfl
 ·exact EqAt.none_tuple g (by lia)
 ·exact EqAt.none_list g (by lia)
 ·exact gH r c rfl rfl
 ·exact gH r c rfl rfl
 ·exact gH r c rfl rfl
 ·exact gH r c rfl rfl
 ·exact EqAt.bool_tuple _ g (by lia)
 ·exact EqAt.bool_list _ g (by lia)
 ·exact gH r c rfl rfl
 ·exact gH r c rfl rfl
 ·exact gH r c rfl rfl
 ·exact gH r c rfl rfl
 ·exact EqAt.int_tuple _ t g (by lia)
 ·exact EqAt.int_list _ t g (by lia)
 ·exact gH r c rfl rfl
 ·exact gH r c rfl rfl
 ·exact gH r c rfl rfl
 ·exact gH r c rfl rfl
 ·exact EqAt.str_tuple _ t g (by lia)
 ·exact EqAt.str_list _ t g (by lia)
 ·exact EqAt.tuple_none p (by lia)
 ·exact EqAt.tuple_bool _ p (by lia)
 ·exact EqAt.tuple_int _ l p (by lia)
 ·exact EqAt.tuple_str _ l p (by lia)
 ·have o:gK ds+1<=_:=o;by_cases z:a=b;·subst z;have e:=I.x5 h B;rw[<-e,uN];exact EqAt.same _
  ·exact EqAt.of_refs z (Inv.rcTup I A (fun i d f x y u j q w L M J K=>O (n-1) ds k i d f x y u j (by lia) (by lia) q w L M J K) C F E G (by lia))
 ·exact EqAt.tuple_list p g (by lia)
 ·exact EqAt.list_none p (by lia)
 ·exact EqAt.list_bool _ p (by lia)
 ·exact EqAt.list_int _ l p (by lia)
 ·exact EqAt.list_str _ l p (by lia)
 ·exact EqAt.list_tuple p g (by lia)
 ·have o:gK ds+1<=_:=o;by_cases z:a=b;·subst z;have e:=I.x5 h B;rw[<-e,uN];exact EqAt.same _
  ·exact EqAt.of_refs z (Inv.rcLst I A (fun i d f x y u j q w L M J K=>O (n-1) ds k i d f x y u j (by lia) (by lia) q w L M J K) C F E G (by lia))
def Inv.DX(I:Inv X pins σ H s):∀(n:Nat)(A:Around)(d a:D)(v c:V)(u b:Value),Rep X.K H d v->Rep X.K H a c->RelV v u->RelV c b->hgt d<=n->A.units+n+1<cLine->EqAt A s u b (eqD d a):=by
 intro n
 induction n with
 |zero=>exact fun A d a v c u b h e r j f g=>Inv.eqAt1 I A (fun m l o i d a x y u b k _ _ _ _ _ _ _=>absurd k (by lia)) d a v c u b h e r j f g
 |succ n ih=>exact fun A d a v c u b h e r j f g=>Inv.eqAt1 I A (fun m l o i d a x y u b k C p B w z q t=>ih A.in1 d a x y u b w z q t (by have :=rj p;lia) (by show A.units+1+n+1<cLine;lia)) d a v c u b h e r j f g
end
end L2
namespace L2
open PySem PySem.Spec PyProof.Rows PySem.SeqAt
section
variable {pins:List (Addr×Obj)}{s:Shared}
def Inv.neTup(I:Inv X pins σ H s)(A:Around){ds g:List D}(o:∀(i:Nat)(d c:D)(x y:V)(u h:Value),ds[i]? =some d->g[i]? =some c->Rep X.K H d x->Rep X.K H c y->RelV x u->RelV y h->EqAt A.in1 s u h (eqD d c))(k:SqT X.K H a xs)(m:fY X.K H ds xs)(l:SqT X.K H b ys)(n:fY X.K H g ys)(q:A.units<cLine):RcNeAt A s (.ref a) (.ref b) (!nU ds g):=by
 obtain⟨w,r,p,_⟩:=I.tuple k;obtain⟨z,v,t,_⟩:=I.tuple l;obtain⟨e,j,f⟩:=yF o m n r v;have key:=RcNeAt.tuples p t (A:=A) q f
 rwa [e,j,DW]at key
def Inv.neLst(I:Inv X pins σ H s)(A:Around){ds c:List D}(t:∀(i:Nat)(d g:D)(x y:V)(u l:Value),ds[i]? =some d->c[i]? =some g->Rep X.K H d x->Rep X.K H g y->RelV x u->RelV y l->EqAt A.in1 s u l (eqD d g))(m:SqL X.K H a xs)(o:fY X.K H ds xs)(n:SqL X.K H b ys)(q:fY X.K H c ys)(j:A.units<cLine):RcNeAt A s (.ref a) (.ref b) (!nU ds c):=by
 obtain⟨w,r,p,_⟩:=I.list m;obtain⟨z,v,k,_⟩:=I.list n;obtain⟨e,h,f⟩:=yF t o q r v;by_cases hl:ds.length=c.length
 ·have key:=RcNeAt.lists p.isList k.isList (A:=A) (by rw[e,h,hl]) j f
  rwa [e,yG hl]at key
 ·have key:=RcNeAt.lists_lengths p.isList k.isList (A:=A) (by rw[e,h];exact bne_iff_ne.mpr hl) j
  rwa [qg ds c hl]
def Inv.rcD(I:Inv X pins σ H s)(A:Around)(d d':D)(v C:V)(u f:Value)(h:Rep X.K H d v)(h':Rep X.K H d' C)(r:RelV v u)(r':RelV C f)(B:A.units+hgt d+1<cLine):RcAt A s u f (eqD d d'):=by
 obtain⟨rfl,rfl,rfl⟩ |⟨_,rfl,rfl,rfl⟩ |⟨_,t,rfl,rfl,rfl⟩ |⟨_,t,rfl,rfl,rfl⟩ |⟨g,a,K,G,rfl,rfl,rfl,k,m,p⟩ |⟨g,a,K,G,rfl,rfl,rfl,k,m,p⟩:=I.shp h r<;>obtain⟨rfl,rfl,rfl⟩ |⟨_,rfl,rfl,rfl⟩ |⟨_,c,rfl,rfl,rfl⟩ |⟨_,c,rfl,rfl,rfl⟩ |⟨E,b,L,J,rfl,rfl,rfl,l,n,e⟩ |⟨E,b,L,J,rfl,rfl,rfl,l,n,e⟩:=I.shp h' r'
 ·exact RcAt.none_none
 ·exact RcAt.none_bool _
 ·exact RcAt.none_int _ c
 ·exact RcAt.none_str _ c
 ·exact RcAt.none_tuple e (by lia)
 ·exact RcAt.none_list e (by lia)
 ·exact RcAt.bool_none _
 ·exact RcAt.bool_bool _ _
 ·exact RcAt.bool_int _ _ c
 ·exact RcAt.bool_str _ _ c
 ·exact RcAt.bool_tuple _ e (by lia)
 ·exact RcAt.bool_list _ e (by lia)
 ·exact RcAt.int_none _ t
 ·exact RcAt.int_bool _ t _
 ·exact RcAt.int_int _ t _ c
 ·exact RcAt.int_str _ t _ c
 ·exact RcAt.int_tuple _ t e (by lia)
 ·exact RcAt.int_list _ t e (by lia)
 ·exact RcAt.str_none _ t
 ·exact RcAt.str_bool _ t _
 ·exact RcAt.str_int _ t _ c
 ·exact RcAt.str_str _ t _ c
 ·exact RcAt.str_tuple _ t e (by lia)
 ·exact RcAt.str_list _ t e (by lia)
 ·exact RcAt.tuple_none p (by lia)
 ·exact RcAt.tuple_bool _ p (by lia)
 ·exact RcAt.tuple_int _ c p (by lia)
 ·exact RcAt.tuple_str _ c p (by lia)
 ·exact Inv.rcTup I A (fun i d d' x y u f j F w z o q=>Inv.DX I (gK g) A.in1 d d' x y u f w z o q (rj j) (by rw[hgt]at B;show A.units+1+gK g+1<cLine;lia)) k m l n (by lia)
 ·exact RcAt.tuple_list p e (by lia)
 ·exact RcAt.list_none p (by lia)
 ·exact RcAt.list_bool _ p (by lia)
 ·exact RcAt.list_int _ c p (by lia)
 ·exact RcAt.list_str _ c p (by lia)
 ·exact RcAt.list_tuple p e (by lia)
 ·exact Inv.rcLst I A (fun i d d' x y u f j F w z o q=>Inv.DX I (gK g) A.in1 d d' x y u f w z o q (rj j) (by rw[hgt]at B;show A.units+1+gK g+1<cLine;lia)) k m l n (by lia)
def Inv.rcNeD(I:Inv X pins σ H s)(A:Around)(d d':D)(v C:V)(u f:Value)(h:Rep X.K H d v)(h':Rep X.K H d' C)(r:RelV v u)(r':RelV C f)(B:A.units+hgt d+1<cLine):RcNeAt A s u f (!eqD d d'):=by
 obtain⟨rfl,rfl,rfl⟩ |⟨_,rfl,rfl,rfl⟩ |⟨_,t,rfl,rfl,rfl⟩ |⟨_,t,rfl,rfl,rfl⟩ |⟨g,a,K,G,rfl,rfl,rfl,k,m,p⟩ |⟨g,a,K,G,rfl,rfl,rfl,k,m,p⟩:=I.shp h r<;>obtain⟨rfl,rfl,rfl⟩ |⟨_,rfl,rfl,rfl⟩ |⟨_,c,rfl,rfl,rfl⟩ |⟨_,c,rfl,rfl,rfl⟩ |⟨E,b,L,J,rfl,rfl,rfl,l,n,e⟩ |⟨E,b,L,J,rfl,rfl,rfl,l,n,e⟩:=I.shp h' r'
 ·exact RcNeAt.none_none
 ·exact RcNeAt.none_bool _
 ·exact RcNeAt.none_int _ c
 ·exact RcNeAt.none_str _ c
 ·exact RcNeAt.none_tuple e (by lia)
 ·exact RcNeAt.none_list e (by lia)
 ·exact RcNeAt.bool_none _
 ·exact RcNeAt.bool_bool _ _
 ·exact RcNeAt.bool_int _ _ c
 ·exact RcNeAt.bool_str _ _ c
 ·exact RcNeAt.bool_tuple _ e (by lia)
 ·exact RcNeAt.bool_list _ e (by lia)
 ·exact RcNeAt.int_none _ t
 ·exact RcNeAt.int_bool _ t _
 ·exact RcNeAt.int_int _ t _ c
 ·exact RcNeAt.int_str _ t _ c
 ·exact RcNeAt.int_tuple _ t e (by lia)
 ·exact RcNeAt.int_list _ t e (by lia)
 ·exact RcNeAt.str_none _ t
 ·exact RcNeAt.str_bool _ t _
 ·exact RcNeAt.str_int _ t _ c
 ·exact RcNeAt.str_str _ t _ c
 ·exact RcNeAt.str_tuple _ t e (by lia)
 ·exact RcNeAt.str_list _ t e (by lia)
 ·exact RcNeAt.tuple_none p (by lia)
 ·exact RcNeAt.tuple_bool _ p (by lia)
 ·exact RcNeAt.tuple_int _ c p (by lia)
 ·exact RcNeAt.tuple_str _ c p (by lia)
 ·exact Inv.neTup I A (fun i d d' x y u f j F w z o q=>Inv.DX I (gK g) A.in1 d d' x y u f w z o q (rj j) (by rw[hgt]at B;show A.units+1+gK g+1<cLine;lia)) k m l n (by lia)
 ·exact RcNeAt.tuple_list p e (by lia)
 ·exact RcNeAt.list_none p (by lia)
 ·exact RcNeAt.list_bool _ p (by lia)
 ·exact RcNeAt.list_int _ c p (by lia)
 ·exact RcNeAt.list_str _ c p (by lia)
 ·exact RcNeAt.list_tuple p e (by lia)
 ·exact Inv.neLst I A (fun i d d' x y u f j F w z o q=>Inv.DX I (gK g) A.in1 d d' x y u f w z o q (rj j) (by rw[hgt]at B;show A.units+1+gK g+1<cLine;lia)) k m l n (by lia)
def rEqD(K:ao):R2:=fun x y H Q=>∃d a,Rep K H d x/\Rep K H a y/\hgt d<=30/\Q (.bl (eqD d a)) H
def rNeD(K:ao):R2:=fun x y H Q=>∃d a,Rep K H d x/\Rep K H a y/\hgt d<=30/\Q (.bl (!eqD d a)) H
def op_eqD(i:X.A.units+40<cLine):OpR X (dU .Eq) (rEqD X.K):=by intro j s k H x y v u Q I e f h;obtain⟨d,a,b,c,g,q⟩:=h;exact I.rcD X.A d a x y v u b c e f (by lia) _ _ _ _ (uM I q rfl)
def op_neD(i:X.A.units+40<cLine):OpR X (dU .NotEq) (rNeD X.K):=by intro j s k H x y v u Q I e f h;obtain⟨d,a,b,c,g,q⟩:=h;exact I.rcNeD X.A d a x y v u b c e f (by lia) _ _ _ _ (uM I q rfl)
end
end L2
namespace Q
open PySem PySem.W PyProof.Rows
abbrev run{α:Type}(lt:Nat->Nat->Bool):KasT α->α
 |.ret a=>a
 |.ask i j k=>run lt (k (lt i j))
theorem run_bind{b c:Type}(lt:Nat->Nat->Bool)(f:b->KasT c):∀t:KasT b,run lt (t.bind f)=run lt (f (run lt t))
 |.ret a=>rfl
 |.ask i j k=>run_bind lt f (k (lt i j))
abbrev okT{α:Type}(lt:Nat->Nat->Bool)(n:Nat):KasT α->Prop
 |.ret _=>True
 |.ask i j k=>(i<n/\j<n/\i≠j)/\okT lt n (k (lt i j))
theorem nr{b c:Type}{lt:Nat->Nat->Bool}{f:b->KasT c}:∀{t:KasT b},okT lt n t->okT lt n (f (run lt t))->okT lt n (t.bind f)
 |.ret a,_,h=>h
 |.ask i j k,h,h'=>⟨h.1,nr h.2 h'⟩
structure Tot(lt:Nat->Nat->Bool)(n:Nat):Prop where
 tri:∀i j,i<n->j<n->i≠j->lt i j= !lt j i
 tr:∀i j k,i<n->j<n->k<n->lt i j=true->lt j k=true->lt i k=true
noncomputable abbrev at'(p:Array Nat)(i:Nat):Nat:=p.getD i 0
def Eh(p:Array Nat)(i:Nat):at' p i=(p[i]?).getD 0:=by simp[at',cq]
structure Pm(p:Array Nat)(n:Nat):Prop where
 perm:p.Perm (ay n).toArray
theorem Pm.size{p:Array Nat}(h:Pm p n):p.size=n:=by rw[h.perm.size_eq];simp
def Pm.lt{p:Array Nat}(h:Pm p n)(hi:i<n):at' p i<n:=by
 have a:i<p.size:=by rw[h.size];exact hi
 have e:at' p i=p[i]:=by simp[at',a]
 have m:p[i]∈(ay n).toArray:=h.perm.mem_iff.mp (Array.getElem_mem a);rw[e];simpa using m
def Pm.inj{p:Array Nat}(h:Pm p n)(hi:i<n)(f:j<n)(e:at' p i=at' p j):i=j:=by
 have a:i<p.size:=by rw[h.size];exact hi
 have b:j<p.size:=by rw[h.size];exact f
 have nd:p.toList.Nodup:=by
  have q:p.toList.Perm (ay n):=by simpa using gU.mp h.perm
  exact q.nodup_iff.mpr jw
 have c:at' p i=p.toList[i]'(by simpa using a):=by simp[at',a]
 have d:at' p j=p.toList[j]'(by simpa using b):=by simp[at',b]
 rw[c,d]at e;exact(fo nd).mp e
def JK{p:Array Nat}(a:j<=p.size)(k:Nat):at' (za p i j) k=if i<=k/\k<j then at' p (i+j-1-k)else at' p k:=by rw[Eh];unfold za;rw[getElem?_mirror_all a];split <;>rw[Eh]
def JL{p:Array Nat}{a d:Nat}(hs:a<p.size)(b:d<=a)(k:Nat):at' (bubble p a d) k=if k=a-d then at' p a else if a-d<k/\k<=a then at' p (k-1)else at' p k:=by
 rw[Eh,getElem?_bubble hs d b];split;·simp[at',hs]
 ·split <;>rw[Eh]
def Pm.rev{p:Array Nat}(h:Pm p n):Pm (za p i j) n:=⟨(mirror_perm _ _ _ _).trans h.perm⟩
def Pm.bub{p:Array Nat}(h:Pm p n):Pm (bubble p i j) n:=⟨(bubble_perm _ _ _).trans h.perm⟩
def Up(lt:Nat->Nat->Bool)(p:Array Nat)(m:Nat):Prop:=∀i j,i<j->j<m->lt (at' p i) (at' p j)=true
def Dn(lt:Nat->Nat->Bool)(p:Array Nat)(m:Nat):Prop:=∀i j,i<j->j<m->lt (at' p j) (at' p i)=true
section
variable {lt:Nat->Nat->Bool}{N:Nat}{p:Array Nat}
theorem Tot.flip(T:Tot lt N)(P:Pm p N)(hi:i<N)(a:j<N)(n:i≠j)(h:lt (at' p i) (at' p j)=false):lt (at' p j) (at' p i)=true:=by have q:=T.tri _ _ (P.lt hi) (P.lt a) fun e=>n (P.inj hi a e);rw[h]at q;simpa using q.symm
theorem Pm.ask{p:Array Nat}(P:Pm p N)(hi:i<N)(a:j<N)(n:i≠j):at' p i<N/\at' p j<N/\at' p i≠at' p j:=⟨P.lt hi,P.lt a,fun e=>n (P.inj hi a e)⟩
theorem Up.succ(T:Tot lt N)(P:Pm p N)(c:1<=n)(b:n<N)(u:Up lt p n)(h:lt (at' p (n-1)) (at' p n)=true):Up lt p (n+1):=by
 intro i j a d;by_cases e:j=n
 ·subst e;by_cases e2:i=j-1;·subst e2;exact h
  ·exact T.tr _ _ _ (P.lt (by lia)) (P.lt (by lia)) (P.lt b) (u i (j-1) (by lia) (by lia)) h
 ·exact u i j a (by lia)
theorem Dn.succ(T:Tot lt N)(P:Pm p N)(c:1<=n)(b:n<N)(u:Dn lt p n)(h:lt (at' p n) (at' p (n-1))=true):Dn lt p (n+1):=by
 intro i j a d;by_cases e:j=n
 ·subst e;by_cases e2:i=j-1;·subst e2;exact h
  ·exact T.tr _ _ _ (P.lt b) (P.lt (by lia)) (P.lt (by lia)) h (u i (j-1) (by lia) (by lia))
 ·exact u i j a (by lia)
theorem xZ(T:Tot lt N)(P:Pm p N):∀(f n:Nat),1<=n->n+f<=N->Up lt p n->∃m,run lt (kas_asc p f n)=m/\n<=m/\m<=n+f/\Up lt p m/\(m=n+f\/lt (at' p m) (at' p (m-1))=true)/\okT lt N (kas_asc p f n)
 | 0,n,h1,h2,u=>⟨n,rfl,aC _,aC _,u,.inl rfl,trivial⟩
 |f+1,n,h1,h2,u=>by
  unfold kas_asc;have a:=P.ask (i:=n) (j:=n-1) (by lia) (by lia) (by lia);simp only[run,okT];by_cases c:lt (at' p n) (at' p (n-1))=true;·rw[if_pos c];exact⟨n,rfl,aC _,by lia,u,.inr c,a,trivial⟩
  ·rw[if_neg c];have h:lt (at' p n) (at' p (n-1))=false:=by simpa using c
   obtain⟨m,e,k,l,b,d,g⟩:=xZ T P f (n+1) (by lia) (by lia) (u.succ T P h1 (by lia) (T.flip P (by lia) (by lia) (by lia) h));refine⟨m,e,by lia,by lia,b,?_,a,g⟩;rcases d with z|z;·exact .inl (by lia)
   ·exact .inr z
theorem zO(T:Tot lt N)(P:Pm p N):∀(f n:Nat),1<=n->n+f<=N->Dn lt p n->∃m,run lt (kas_desc f p n 0)=(p,m,0)/\n<=m/\m<=n+f/\Dn lt p m/\okT lt N (kas_desc f p n 0)
 | 0,n,h1,h2,u=>⟨n,rfl,aC _,aC _,u,trivial⟩
 |f+1,n,h1,h2,u=>by
  unfold kas_desc;have a:=P.ask (i:=n) (j:=n-1) (by lia) (by lia) (by lia);have k:=P.ask (i:=n-1) (j:=n) (by lia) (by lia) (by lia);simp only[run,okT];by_cases c:lt (at' p n) (at' p (n-1))=true;·rw[if_pos c,if_neg (dO 0)];obtain⟨m,e,l,o,b,g⟩:=zO T P f (n+1) (by lia) (by lia) (u.succ T P h1 (by lia) c);exact⟨m,e,by lia,by lia,b,a,g⟩
  ·rw[if_neg c];have h:lt (at' p n) (at' p (n-1))=false:=by simpa using c
   have d:=T.flip P (by lia) (by lia) (by lia) h;simp only[run,okT];rw[if_pos d];exact⟨n,rfl,aC _,by lia,u,a,k,trivial⟩
theorem Hk(T:Tot lt N)(P:Pm p N)(d:1<=n)(a:n<=N)(u:Dn lt p n):∃m p',run lt (kas_tail3 n N p)=(m,p')/\1<=m/\m<=N/\Up lt p' m/\Pm p' N/\okT lt N (kas_tail3 n N p):=by
 have g:Up lt (za p 0 n) n:=by intro i j l f;rw[JK (by rw[P.size];exact a),JK (by rw[P.size];exact a),if_pos ⟨aW _,by lia⟩,if_pos ⟨aW _,f⟩];exact u _ _ (by lia) (by lia)
 obtain⟨m,e,h,k,b,_,c⟩:=xZ T P.rev (N-n) n d (by lia) g;unfold kas_tail3;refine⟨m,za p 0 n,?_,by lia,by lia,b,P.rev,nr c trivial⟩;rw[run_bind,e];rfl
def xY(T:Tot lt N)(P:Pm p N)(q:n+1<=N)(u:Dn lt p (n+1)):∃m p',run lt (jE n N p)=(m,p')/\1<=m/\m<=N/\Up lt p' m/\Pm p' N/\okT lt N (jE n N p):=by
 obtain⟨m,e,l,o,a,b⟩:=zO T P (N-(n+1)) (n+1) (by lia) (by lia) u;obtain⟨j,k,c,d,f,g,h,i⟩:=Hk T P (by lia) (by lia) a;unfold jE;refine⟨j,k,?_,d,f,g,h,nr b ?_⟩;·rw[run_bind,e];exact c
 ·rw[e];exact i
theorem ER(T:Tot lt N)(P:Pm p N)(w:1<=N):∃m p',run lt (kas_count N p)=(m,p')/\1<=m/\m<=N/\Up lt p' m/\Pm p' N/\okT lt N (kas_count N p):=by
 obtain⟨m,e,f,v,b,g,h⟩:=xZ T P (N-1) 1 (aC _) (by lia) (fun i j s t=>by lia);have u:∃a p',run lt (if(m==N)=true then tw (m,p)else if m>1 then KasT.ask (p.getD 0 0) (p.getD (m-1) 0) fun c=>if c=true then tw (m,p)else jE m N (za p 0 m)else jE m N p)=(a,p')/\1<=a/\a<=N/\Up lt p' a/\Pm p' N/\
   okT lt N (if(m==N)=true then tw (m,p)else if m>1 then KasT.ask (p.getD 0 0) (p.getD (m-1) 0) fun c=>if c=true then tw (m,p)else jE m N (za p 0 m)else jE m N p):=by
  by_cases c:m=N;·rw[if_pos (by simpa using c)];exact⟨m,p,rfl,f,by lia,b,P,trivial⟩
  ·rw[if_neg (by simpa using c)];by_cases d:m>1;·rw[if_pos d];simp only[run,okT];rw[if_pos (b 0 (m-1) (by lia) (by lia))];exact⟨m,p,rfl,f,by lia,b,P,P.ask (by lia) (by lia) (by lia),trivial⟩
   ·rw[if_neg d];obtain rfl:m=1:=by lia
    rcases g with z|z;·lia
    ·exact xY T P (by lia) fun i j s t=>by
      obtain rfl:j=1:=by lia
      obtain rfl:i=0:=by lia
      exact z
 obtain⟨a,p',k,l,n,o,q,r⟩:=u;unfold kas_count;refine⟨a,p',?_,l,n,o,q,nr h ?_⟩;·rw[run_bind,e];exact k
 ·rw[e];exact r
theorem qS(T:Tot lt N)(P:Pm p N)(g:k<N)(u:Up lt p k):∀(f l r:Nat),l<=r->r<=k->r-l<=f->(∀i,i<l->lt (at' p i) (at' p k)=true)->(∀i,r<=i->i<k->lt (at' p k) (at' p i)=true)->
  ∃q,run lt (kas_place p k f l r)=q/\q<=k/\(∀i,i<q->lt (at' p i) (at' p k)=true)/\(∀i,q<=i->i<k->lt (at' p k) (at' p i)=true)/\okT lt N (kas_place p k f l r)
 | 0,l,r,h1,h2,h3,a,b=>⟨l,rfl,by lia,a,fun i hi=>b i (by lia),trivial⟩
 |f+1,l,r,h1,h2,h3,a,b=>by
  unfold kas_place;by_cases c:l≥ r;·rw[if_pos c];exact⟨l,rfl,by lia,a,fun i hi=>b i (by lia),trivial⟩
  ·rw[if_neg c];have v:=P.ask (i:=k) (j:=(l+r)/2) g (by lia) (by lia);simp only[run,okT];by_cases d:lt (at' p k) (at' p ((l+r)/2))=true
   ·rw[if_pos d];have key:=qS T P g u f l ((l+r)/2) (by lia) (by lia) (by lia) a fun i hi w=>?_;obtain⟨q,h,m,n,o,s⟩:=key;exact⟨q,h,m,n,o,v,s⟩;by_cases e:i=(l+r)/2;·rw[e];exact d
    ·exact T.tr _ _ _ (P.lt g) (P.lt (by lia)) (P.lt (by lia)) d (u _ _ (by lia) w)
   ·rw[if_neg d];have t:=T.flip P g (by lia:(l+r)/2<N) (by lia) (by simpa using d);have key:=qS T P g u f ((l+r)/2+1) r (by lia) h2 (by lia) (fun i hi=>?_) b;obtain⟨q,h,m,n,o,s⟩:=key;exact⟨q,h,m,n,o,v,s⟩;by_cases e:i=(l+r)/2;·rw[e];exact t
    ·exact T.tr _ _ _ (P.lt (by lia)) (P.lt (by lia)) (P.lt g) (u _ _ (by lia) (by lia)) t
end
theorem Di{lt:Nat->Nat->Bool}{N:Nat}(T:Tot lt N):∀(f k:Nat)(p:Array Nat),Pm p N->k+f=N->Up lt p k->∃p',run lt (kas_bin f p k)=p'/\Up lt p' N/\Pm p' N/\okT lt N (kas_bin f p k)
 | 0,k,p,P,h,u=>⟨p,rfl,by rw[<-h];exact u,P,trivial⟩
 |f+1,k,p,P,h,u=>by
  have c:k<N:=by lia
  obtain⟨q,e,hq,a,b,l⟩:=qS T P c u k 0 k (aW _) (aC _) (by lia) (fun i hi=>absurd hi (gI _)) fun i s t=>by lia
  have key:=Di T f (k+1) (bubble p k (k-q)) P.bub (by lia) fun i j v w=>?_;obtain⟨p',m,n,o,r⟩:=key;unfold kas_bin;refine⟨p',?_,n,o,nr l ?_⟩;·rw[run_bind,e];exact m
  ·rw[e];exact r
  have d:k<p.size:=by rw[P.size];exact c
  rw[JL d (by lia),JL d (by lia)];have g:k-(k-q)=q:=by lia
  rw[g];by_cases c1:i=q;·rw[if_pos c1,if_neg (by lia),if_pos (by lia)];exact b _ (by lia) (by lia)
  ·rw[if_neg c1];by_cases c2:j=q;·rw[if_pos c2,if_neg (by lia)];exact a i (by lia)
   ·rw[if_neg c2];by_cases c3:q<i;·rw[if_pos (by lia),if_pos (by lia)];exact u _ _ (by lia) (by lia)
    ·rw[if_neg (by lia)];by_cases c4:q<j;·rw[if_pos (by lia)];exact u _ _ (by lia) (by lia)
     ·rw[if_neg (by lia)];exact u _ _ (by lia) (by lia)
def fL{lt:Nat->Nat->Bool}{N:Nat}(T:Tot lt N)(p:1<=N):Pm (run lt (dH N)) N/\Up lt (run lt (dH N)) N/\okT lt N (dH N):=by
 have g:Pm (eK (ay N)) N:=⟨Array.Perm.refl _⟩;obtain⟨m,a,e,s,t,d,f,h⟩:=ER T g p;have q:max m 1=m:=by lia
 have r:∃b,run lt (if m<N then kas_bin (N-max m 1) a (max m 1)else tw a)=b/\Up lt b N/\Pm b N/\okT lt N (if m<N then kas_bin (N-max m 1) a (max m 1)else tw a):=by
  rw[q];by_cases c:m<N;·rw[if_pos c];exact Di T (N-m) m a f (by lia) d
  ·rw[if_neg c];have n:m=N:=by lia
   exact⟨a,rfl,by rw[<-n];exact d,f,trivial⟩
 obtain⟨b,i,j,k,l⟩:=r;have o:run lt (dH N)=b:=by unfold dH;rw[run_bind,e];exact i
 rw[o];refine⟨k,j,?_⟩;unfold dH;refine nr h ?_;rw[e];exact l
theorem wp_run{lt:Nat->Nat->Bool}{N:Nat}{S:Shared->Prop}{b:Nat->Nat->(Bool->Shared->Prop)->Shared->Prop}{c:Type}{G:c->Shared->Prop}
  (h:∀i j C s,i<N->j<N->i≠j->S s->(∀s',S s'->C (lt i j) s')->b i j C s):
  ∀(t:KasT c)(s:Shared),okT lt N t->S s->(∀s',S s'->G (run lt t) s')->t.kasWp b G s
 |.ret a,s,_,hs,g=>g s hs
 |.ask i j k,s,ok,hs,g=>h i j _ s ok.1.1 ok.1.2.1 ok.1.2.2 hs fun s' d=>wp_run h (k (lt i j)) s' ok.2 d g
end Q
namespace L2
open PySem PySem.Spec PyProof.Rows
structure Fly(h₀ h:Heap)(H:Hp)(pn:List (Addr×Obj))(a:Addr)(c:Value)(d:Option Addr):Prop where
 ex:∃T oe vs oT ts,h.get? a=some oe/\oe.cls=c/\oe.dict=d/\oe.data=.fields vs/\vs[1]? =some (.ref T)/\T≠a/\h.get? T=some oT/\oT.data=.fields ts/\ts[3]? =some .none/\h₀.get? T=none/\H T=none/\∀p∈pn,p.1≠T
 new:h₀.get? a=none
 un:H a=none
 pins:∀p∈pn,p.1≠a
def CXx(P:Program)(w:World):CXT:=fun b H s E e s'=>
 ∃a c d H',e=.ref a/\s'.os=s.os/\nR s'.gens/\Un (frs b) [] H H' s.heap s'.heap/\HOk P w H' s'.heap/\Fly s.heap s'.heap H' [] a c d/\E c d H'
section
variable {pins:List (Addr×Obj)}{s:Shared}
def Inv.xC(I:Inv X pins σ H s)(k:∀b o,b≠it->s.heap.get? b=some o->h'.get? b=some o)(M:H it=none)(J:it≠X.env.locals)
  (F:X.s₀.heap.get? it=none)(t:∀x c,X.env.cells.lookup x=some c->c≠it)(G:∀p∈X.pn++pins,p.1≠it):Inv X pins σ H {s with heap:=h',toks:=t'}:=by
 have h:∀b o,X.s₀.heap.get? b=some o->b≠it:=fun b o e z=>by rw[z,F]at e;cases e
 have y:∀b u,H b=some u->b≠it:=fun b u e z=>by rw[z,M]at e;cases e
 refine⟨I.ok,I.os,I.bare,⟨fun b o e n g a=>k b o (h b o e) (I.base.keep b o e n g a),fun b o e n g a=>?_,I.base.free,fun b o e a=>?_,I.base.tups,I.base.frzs,I.base.tbls⟩,?_,fun x c e=>?_,I.free,I.freeC,fun p w=>?_,fun b u e=>?_,I.len⟩;·obtain⟨S,q⟩:=I.base.slot b o e n g a;exact⟨S,k _ _ (h b o e) q⟩
 ·obtain⟨Q,q⟩:=I.base.there b o e a;exact⟨Q,k _ _ (h b o e) q⟩
 ·obtain⟨m,⟨o,E,D,N,r⟩,L⟩:=I.loc;refine⟨m,⟨o,E,D,k _ _ (bO J) N,r⟩,fun i x v A B C=>?_⟩;obtain⟨u,R,l⟩:=L i x v A B C;refine⟨u,R,?_⟩;rcases l with l|⟨O,c,e,j,q,f⟩;·exact .inl l
  ·exact .inr ⟨O,c,e,j,k _ _ (t x c e) q,f⟩
 ·obtain⟨v,j,q,f⟩:=I.cell x c e;exact⟨v,j,k _ _ (t x c e) q,f⟩
 ·obtain⟨e,n,ne,P,d⟩:=I.pin p w;exact⟨k _ _ (G p w) e,n,ne,P,d⟩
 ·refine(I.hok b u e).lM (fun c v K q=>k c v ?_ q) (fun _ q=>q) fun _ _ q=>q;rcases K with z|z;·rw[z];exact y b u e
  ·exact y c _ z
def Inv.BW(I:Inv X pins σ H s){o:Obj}{vs:Array Value}(e:s.heap.get? a=some o)(f:o.data=.fields vs):a≠X.env.locals/\∀x c,X.env.cells.lookup x=some c->c≠a:=by
 refine⟨fun z=>?_,fun x c g z=>?_⟩;·obtain⟨m,⟨h,j,i,d,b,_⟩,_⟩:=I.loc;rw[<-z,e]at d;cases d;rw[f]at b;cases b
 ·obtain⟨v,h,d,b⟩:=I.cell x c g;rw[z,e]at d;cases d;rw[f]at b;cases b
def d7.has{o:HO}(x:d7 P w H h a o):∃b,h.get? a=some b:=by
 cases o with
 |lst xs=>obtain⟨_,_,_,_,e⟩:=x;exact⟨_,e⟩
 |tup xs=>obtain⟨_,_,_,_,e,_⟩:=x;exact⟨_,e⟩
 |dK kvs=>obtain⟨_,_,_,_,o,_,_,e,_⟩:=x;exact⟨_,e⟩
 |dT kvs=>obtain⟨_,_,_,_,o,_,_,e,_⟩:=x;exact⟨_,e⟩
 |set S n=>obtain⟨o,_,_,_,e,_⟩:=x;exact⟨_,e⟩
 |ins C dx fs=>obtain⟨_,_,_,e,_⟩:=x;exact⟨_,e⟩
 |own y=>exact x
 |xd fs=>obtain⟨_,⟨_,_,_,e,_⟩,_⟩:=x;exact⟨_,e⟩
 |rng lo hi=>obtain⟨_,_,_,e⟩:=x;exact⟨_,e⟩
 |frz b u=>obtain⟨e,_⟩:=x;exact⟨_,e⟩
 |tbl ps=>exact⟨_,x⟩
 |met f y=>exact⟨_,x⟩
 |ext φ=>exact x.2.1
section
variable {M:Model}{E:Value->Shared->Prop}{Q:Unit->Shared->Prop}
def enter{g:Obj}{vs:Array Value}{head:Value}{more:Bool}(I:Inv X pins σ H s)(u:X.stack=X.env::X.outer)(hf:X.env.frame=some X.env.locals)
  (A:s.heap.get? a=some g)(m:g.data=.fields vs)(S:1<vs.size)(h0:X.s₀.heap.get? a=none)(C:H a=none)(O:∀p∈X.pn++pins,p.1≠a)
  (h:∀s2,Inv X pins σ H s2->Fly X.s₀.heap s2.heap H (X.pn++pins) a g.cls g.dict->Q () s2):
  wpAny M X.A (do let f<-frameOf X.env;let l<-entryPlaceOf X.env.locals more;let b<-Bi head f .none (rawInt X.env.locals) .none l;sL (.ref a) 1 b)
   (fun _ s'=>wpAny M X.A (setFlight (.ref a) none) Q E s') E s:=by
 have a2:X.A.frames=some (X.env::X.outer):=by rw[<-u];exact I.ok.frames
 have L:s.heap.FunFrames X.base (X.env::X.outer):=by rw[<-u];exact I.stack
 have nofr:∀b∈frs X.stack,H b=none:=I.xG;refine aa (wpAny_frameOf_fun a2 L hf fun d R=>?_);have k:Heap.SlotsOnly (frs X.stack) s.heap d:=by rw[u];exact R
 have a1:a∉frs X.stack:=fun r=>by rw[u]at r;obtain⟨_,o,N,a3⟩:=L.mem r;rw[A]at N;cases N;exact a3 vs m
 have u1:Un (frs X.stack) [] H H s.heap d:=
  ⟨fun b o e _ j _=>(k.2.1 b j).trans e,fun b o e _ _ _=>k.2.2 b o e,fun _ _ _ n _=>n,fun b o e _=>let⟨sl,q⟩:=k.2.2 b o e;⟨_,q⟩,fun _ _ q=>q,fun _ _ _ q=>q,fun _ ps q=>⟨#[],by rw[q];simp⟩⟩
 have k1:HOk X.prog X.w H d:=fun b b0 e=>by
  refine(I.hok b b0 e).lM (fun c b2 hc q=>(k.2.1 c fun r=>?_).trans q) (fun _ q=>q) fun _ _ q=>q;have n:=nofr c r;rcases hc with z|z;·rw[z,e]at n;cases n
  ·rw[z]at n;cases n
 have V:Inv X pins σ H {s with heap:=d}:=I.call (g':=s.gens) (t':=s.toks) (d':=s.drawn) (ch:=[]) u1 k1 I.bare fun _ z=>nomatch z;have G:d.get? a=some g:=(k.2.1 a a1).trans A;refine aa (wpAny_entryPlaceOf fun i a5=>?_);unfold Bi newFields;refine aa (bL ?_ (a5.sizeOk5 _ _ _ _ _));generalize hob:({cls:=.type "traceback",dict:=none,data:=.fields ([head,.ref X.env.locals,.none,rawInt X.env.locals,.none]++(if i.isEmpty then cb 6 bW else i)).toArray}:Obj)=ob;have t:ob.data=.fields ([head,.ref X.env.locals,.none,rawInt X.env.locals,.none]++(if i.isEmpty then cb 6 bW else i)).toArray:=by rw[<-hob]
 have a4:ob.isFreed=false:=by rw[<-hob];rfl
 have W:Inv X pins σ H {s with heap:=d.push ob}:=V.kept (t':=s.toks) fun b o e=>ai _ e;have J:(d.push ob).get? a=some g:=ai _ G;have a0:(d.push ob).get? d.objs.size=some ob:=az _ a4;have w:d.objs.size≠a:=fO (aB G);have y:=iY m (·.setIfInBounds 1 (aZ d.objs.size));refine sH J m S ?_;obtain⟨a6,a7⟩:=I.BW A m;have B:Inv X pins σ H {s with heap:=(d.push ob).update a (iS (·.setIfInBounds 1 (.ref d.objs.size)))}:=
  W.xC (t':=s.toks) (fun b o j e=>by rw[bu _ _ (bO j)];exact e) C a6 h0 a7 O
 have K:=cP (iS (·.setIfInBounds 1 (aZ d.objs.size))) J (pC y);have v:((d.push ob).update a (iS (·.setIfInBounds 1 (aZ d.objs.size)))).get? d.objs.size=some ob:=by rw[bu _ _ (bO w)];exact a0
 have T:3<([head,.ref X.env.locals,.none,rawInt X.env.locals,.none]++(if i.isEmpty then cb 6 bW else i)).toArray.size:=by simp only[aD,bE,bz,nY];lia
 have U:(vs.setIfInBounds 1 (aZ d.objs.size))[1]? =some (.ref d.objs.size):=by simp[S]
 refine wpAny_setFlight_none K y U v t T ?_;have x:s.heap.objs.size<=d.objs.size:=nX R.1.symm;have D:X.s₀.heap.get? d.objs.size=none:=Gd (bf I.sz x);have F:H d.objs.size=none:=I.hok.fresh x;obtain⟨a8,a9⟩:=B.BW v t;have P:∀p∈X.pn++pins,p.1≠d.objs.size:=fun p hq z=>by have q:=aB (I.pin p hq).1;exact absurd (bA (z▸q) x) (dO _)
 have Y:=B.xC (t':=s.toks) (h':=((d.push ob).update a (iS (·.setIfInBounds 1 (.ref d.objs.size)))).update d.objs.size (iS (·.setIfInBounds 3 .none)))
  (fun b o j e=>by rw[bu _ _ (bO j)];exact e) F a8 D a9 P
 refine h _ Y ⟨⟨d.objs.size,_,_,_,_,?_,Obj.cls_mapFields _ _,?_,y,U,w,cP _ v (pC (iY t _)),iY t _,?_,D,F,P⟩,h0,C,O⟩;·show(Heap.update _ _ _).get? a=_;rw[bu _ _ w];exact K
 ·obtain⟨c',d',Z,b1⟩:=g;cases Z<;>rfl
 ·rw[Array.getElem?_setIfInBounds_self_of_lt T]
def Ia{c:Value}(I:Inv X pins σ H s)(l:X.stack=X.env::X.outer)(hf:X.env.frame=some X.env.locals)(k:X.ex=[])(b:zu s.heap h' a c args)
  (h:∀s2,Inv X pins σ H s2->Fly X.s₀.heap s2.heap H (X.pn++pins) a c none->Q () s2):
  wpAny M X.A (pq (.ref a) X.env) (fun _ s'=>wpAny M X.A (setFlight (.ref a) none) Q E s') E {s with heap:=h'}:=by
 obtain⟨t,d,_,_⟩:=b.there;have f:Inv X pins σ H {s with heap:=h'}:=I.kept (t':=s.toks) b.keeps;have i:H a=none:=by
  cases q:H a with
  |none=>rfl
  |some o=>obtain⟨n,e⟩:=(I.hok a o q).has;rw[b.new]at e;cases e
 unfold pq;simp only[hf];refine aa (fz (x:=.none) d rfl (by rfl) ?_);rw[if_neg (show ¬(bW != bW)=true by simp)];have g:X.s₀.heap.get? a=none:=by
  cases q:X.s₀.heap.get? a with
  |none=>rfl
  |some o=>obtain⟨m,e⟩:=I.base.there a o q (by rw[k];simp);rw[b.new]at e;cases e
 exact enter f l hf d rfl (by simp) g i (fun p j z=>by have :=(I.pin p j).1;rw[z,b.new]at this;cases this) h
def Ib{c:Value}(I:Inv X pins σ H s)(R:X.stack=X.env::X.outer)(hf:X.env.frame=some X.env.locals)(L:X.ex=[])(J:s'.os=s.os)(G:nR s'.gens)(u:Un (frs X.stack) [] H H' s.heap s'.heap)(ok:HOk X.prog X.w H' s'.heap)
  (F:Fly s.heap s'.heap H' [] a c d)(h:∀s2,Inv X pins σ H' s2->Fly X.s₀.heap s2.heap H' (X.pn++pins) a c d->Q () s2):
  wpAny M X.A (pq (.ref a) X.env) (fun _ s'=>wpAny M X.A (setFlight (.ref a) none) Q E s') E s':=by
 obtain⟨⟨T,N,W,U,V,r,rfl,rfl,m,k,B,f,g,l,t,y,_⟩,v,A,_⟩:=F;have i:Inv X pins σ H' s':=I.call' (ch:=[]) J u ok G fun _ z=>nomatch z;have j:∀b,s.heap.get? b=none->X.s₀.heap.get? b=none:=fun b n=>by
  cases q:X.s₀.heap.get? b with
  |none=>rfl
  |some o=>obtain⟨S,e⟩:=I.base.there b o q (by rw[L];simp);rw[n]at e;cases e
 have w:∀b,s.heap.get? b=none->∀p∈X.pn++pins,p.1≠b:=fun b n p K z=>by have :=(I.pin p K).1;rw[z,n]at this;cases this
 unfold pq;simp only[hf];refine aa (fz r m k ?_);rw[if_pos (show(aZ T != bW)=true by simp)];refine aa (fz f g l ?_);rw[if_neg (show ¬(bW==rawInt X.env.locals)=true by simp[rawInt])];refine aa (sH f g (cR.mp l).1 ?_);obtain⟨O,P⟩:=i.BW f g;have x:=i.xC (t':=s'.toks) (h':=s'.heap.update T (iS (·.setIfInBounds 3 .none))) (fun b o C e=>by rw[bu _ _ (bO C)];exact e) y O (j T t) P (w T t);have D:(s'.heap.update T (iS (·.setIfInBounds 3 .none))).get? a=some N:=by rw[bu _ _ B];exact r
 exact enter x R hf D m (cR.mp k).1 (j a v) A (w a v) h
end
end
end L2
namespace L2
open PySem PySem.Spec PySem.W PyProof.Rows
@[reducible]def bmV:List Value:=[.type "ValueError",.type "Exception",.type "BaseException",.type "object"]
section
def exc_obj{newId:String}(b:K.In h)(q:excIn K C bmB newId=true):
  ∃nm y N bs a hd z sub ab g i t u v w x d,h.get? C=some (excClassObj nm y C N bs a hd z sub ab g i t u v w x newId)/\h.Ns N d/\d "__init__"=none/\OwnTail h bmB a:=by
 unfold excIn at q;split at q
 case h_2=>cases q
 rename_i od cd sl ho;split at q
 case h_2=>cases q
 rename_i C' a j0 j1 j2 j3 n j5 hm hs;rw[aL,aL,aL,aL,aL,beq_iff_eq,beq_iff_eq,beq_iff_eq]at q;obtain⟨⟨⟨⟨⟨j,k⟩,l⟩,m⟩,c⟩,o⟩:=q;subst j;subst k;obtain⟨A,D,f,E,F,G,H,I,J,B,e⟩:=cd;have p:f=.ref C'::a:=hm;have r:e=false:=by simpa using l
 have s:sl= #[j0,j1,j2,j3,some (.builtin n),j5]:=by
  apply J8
  exact hs
 subst p;subst r;subst s;exact⟨_,_,_,_,_,_,_,_,_,_,_,_,_,_,_,_,_,b _ _ ho,.of_isNs (isNs_of_in b c),nsMap_none_of_in b c o,tail_of_in b m⟩
def Hy{b:List Expr}{t:TA}{g:Pos}{E:St->XK}(A:Gl X x)(G:X.mg x=some (.ref C))(B:keepIn X.K (.ref C)=true)(hq:excIn X.K C bmV "ValueError.__new__"=true)(o:PA X (e::b) t)(w:X.calm=true)(y:(x==("__debug__":Str))=false)
  (L:cf (e::b) X.env=(false,eval e X.env)::cf b X.env)(K:(backTo g (cf b X.env)).any (·.1)=false)
  (O:∀pins σ H s a c args h',Inv X pins σ H s->zu s.heap h' a c args->E σ c none H->X.xe (.ref a) {s with heap:=h'}):
  PS X (.Raise (some (.Call (.Name x np) (e::b) [] g)) none pos) (fun D σ H=>t σ H fun vs H1=>vs.length<=sizeLine/\E σ (.ref C) none H1):=by
 intro pins s σ H D I h;obtain⟨nm,l,N,bs,bm,k,sn,sub,ab,col,dd,k0,k1,k2,k3,k5,S,m,n,J,T⟩:=exc_obj (bmB:=bmV) I.mod.kin hq;have p:bm.contains (.type "BaseException")=true:=T.hasType (by decide+kernel);rw[arm_exec_Raise];show wpAny _ _ (do standAt pos;raiseStmt X.env (some (do let v<-eval (.Call (.Name x np) (e::b) [] g) X.env;standAt pos;pure v)) none) _ _ s;refine aa (nV (wpAny_raiseStmt_made_sub (C:=C) (nm:=nm) (q:=l) (N:=N) (bs:=bs) (bm:=bm) (hdct:=k) (sn:=sn) (sub:=sub) (ab:=ab) (col:=col) (dd:=dd) (k0:=k0) (k1:=k1) (k2:=k2) (k3:=k3) (k5:=k5) (newId:="ValueError.__new__") p (I.ok.hd w) (aa (gu (Q:=fun v d=>∃a u,v=.ref a/\d.heap.get? C=some (excClassObj nm l C N bs bm k sn sub ab col dd k0 k1 k2 k3 k5 "ValueError.__new__")/\d.heap.get? a=some {cls:=.ref C,data:=.fields #[.ref u,.none,.none,.none,.bool false,.none]}/\X.xe (.ref a) d) (E:=X.xe) ?_ (fun v d z=>aa (nV (aj z))) fun _ _ z=>z))));refine gM (sV I A G ?_ y);refine F1 (h₀:=X.base) I.ok.mod.kin B (thn (o g pins s σ H _ I h) fun V d ⟨vs,H1,f,r,F,q⟩=>⟨f.kIn,?_⟩) L K;have j:=f.bk _ _ m;obtain⟨R,P,dr,tk,U⟩:=d;refine wpAny_call_exc_subT (hrest:=by rw[xr,<-r.length];exact F) PySem.F.excBase_ValueError (T.keeps f.bk) j (n.keeps f.bk) J fun h' a i=>?_;obtain⟨u,M,_,_⟩:=i.there;exact⟨a,u,rfl,i.keeps _ _ j,M,O pins σ H1 _ a _ _ h' f i q⟩
end
abbrev Cx.re(X:Cx)(A:Around)(calm:Bool)(pn:List (Addr×Obj))(xe:Value->Shared->Prop):Cx:={X with A:=A,calm:=calm,pn:=pn,xe:=xe}
abbrev Ends.drop(D:Ends)(i:Nat):Ends:={nx:=fun σ H=>D.nx (σ.set i none) H,rt:=D.rt,bk:=fun σ H=>D.bk (σ.set i none) H,ct:=fun σ H=>D.ct (σ.set i none) H}
section
variable {pins:List (Addr×Obj)}{s:Shared}{x n:Str}{C:Addr}{b₀:Stmt}{suite:List Stmt}{hpos:Pos}{ts:TS}{D:Ends}
structure TryOk(X:Cx)(x n:Str)(C:Addr)(i:Nat)(suite:List Stmt)(ts:TS):Prop where
 nd:X.N.Nodup
 at_:X.N[i]? =some n
 loc:X.env.scope.names.lookup n=some .local
 gl:Gl X x
 mg:X.mg x=some (.ref C)
 db:(x==("__debug__":Str))=false
 stk:X.stack=X.env::X.outer
 fr:X.env.frame=some X.env.locals
 ex:X.ex=[]
 su:∀(pins:List (Addr×Obj))(a:Addr),PSs (X.re (X.A.mark (some (.ref a))) false (X.pn++pins) (fun _ _=>False)) suite ts
end
noncomputable abbrev XS:=St->XK
noncomputable abbrev N0:XS:=fun _=>E0
def A6(CX:CXT)(X:Cx)(E:XS):Prop:=∀(pins:List (Addr×Obj))(σ:St)(H:Hp)(s:Shared)(e:Value)(s':Shared),Inv X pins σ H s->CX X.stack H s (E σ) e s'->X.xe e s'
def MadeS(X:Cx)(E:XS):Prop:=∀(pins:List (Addr×Obj))(σ:St)(H:Hp)(s:Shared)(a:Addr)(c:Value)(args:List Value)(h':Heap),Inv X pins σ H s->zu s.heap h' a c args->E σ c none H->X.xe (.ref a) {s with heap:=h'}
section
variable {CX:CXT}{f:Addr}{fd:gT}{ps:List Str}{sp:Sp}{dvs:List V}{ds:List Value}{E:XS}{x:Str}{p:Pos}{es:List Expr}{t:TA}
def Dh{Q:VK}{vs:List V}(F:j6 X.prog X.w X.K X.mg X.base CX k f fd ps sp)(g:ke k X.A)(b:Binds X.K fd ps ds)(c:bZ dvs ds)(i:A6 CX X E)
  (I:Inv X pins σ H s)(r:bZ vs us)(h:sp (vs++dvs) H Q (E σ)):wpAny (model X.prog X.w) X.A (call (.ref f) us) (EP X pins σ Q) X.xe s:=by
 have a:bZ (vs++dvs) (us++ds):=r.append c;have d:(us++ds).length=ps.length:=a.length.symm.trans (F.len _ _ _ _ h);refine wpAny_call (l5 (F.run X.A X.stack s H ⟨us,[]⟩ (us++ds) (vs++dvs) Q (E σ) g I.env0 (b s us I.kIn d) a h) fun r j hq=>?_);cases r with
 |error e=>exact i pins σ H s e j I hq
 |ok fl=>cases fl<;>first |exact I.after hq|exact kY hq
def HN(F:j6 X.prog X.w X.K X.mg X.base CX k f fd ps sp)(o:ke k X.A)(j:Gl X x)(m:X.mg x=some (.ref f))(l:cN X.K (.ref f)=true)(c:Binds X.K fd ps ds)(d:bZ dvs ds)(u:A6 CX X E)
  (b:PA X (e::es) t)(g:(x==("__debug__":Str))=false)(i:cf (e::es) X.env=(false,eval e X.env)::cf es X.env)(n:(backTo pos (cf es X.env)).any (·.1)=false):
  PE X (.Call (.Name x p) (e::es) [] pos) (fun σ H Q=>zF sp dvs (E σ) t σ H Q):=by
 intro v s σ H Q I h;refine gM (sV I j m ?_ g);exact F1 (h₀:=X.base) I.ok.mod.kin l (thn (b pos v s σ H _ I h) fun z y ⟨A,w,a,r,q⟩=>⟨a.kIn,Dh F o c d u a r q⟩) i n
def EW(F:j6 X.prog X.w X.K X.mg X.base CX k f fd ps sp)(i:ke k X.A)(d:Gl X x)(g:X.mg x=some (.ref f))(e:cN X.K (.ref f)=true)(a:Binds X.K fd ps ds)(b:bZ dvs ds)(j:A6 CX X E)
  (c:(x==("__debug__":Str))=false):PE X (.Call (.Name x p) [] [] pos) (fun σ H Q=>zF sp dvs (E σ) qO σ H Q):=by
 intro l s σ H Q I h;refine gM (sV I d g ?_ c);exact PySem.W.callWith_K0 I.kIn e (Dh (us:=[]) F i a b j I .nil h)
end
section
variable {mg:Str->Option Value}
def FJ{cd:Value}{outer:List Env}{E:XK}:
  A6 (CXx P w) (yJ (CXx P w) P w K mg base N qual scope f cd A outer s H E) (fun _=>E):=by
 intro R W Q U e S I h;obtain⟨a,c,d,i,rfl,D,C,u,G,F,q⟩:=h;show wpAny _ _ (leaving _ _) _ _ _;unfold leaving;refine aa (Ib I rfl rfl rfl D C u G F fun V b g=>?_);obtain⟨⟨T,L,O,J,M,l,o,p,r,t,v,x,y,B,m,n,_⟩,j,k,_⟩:=g;exact⟨a,c,d,i,rfl,b.os,b.bare,b.base,b.hok,⟨⟨T,L,O,J,M,l,o,p,r,t,v,x,y,B,m,n,fun _ z=>nomatch z⟩,j,k,fun _ z=>nomatch z⟩,q⟩
def FK{cd:Value}{outer:List Env}{E:XK}:
  MadeS (yJ (CXx P w) P w K mg base N qual scope f cd A outer s H E) (fun _=>E):=by
 intro G M e J a c D F I v q;show wpAny _ _ (leaving _ _) _ _ _;unfold leaving;refine aa (Ia I rfl rfl rfl v fun L b d=>?_);obtain⟨⟨T,y,C,x,B,i,l,m,n,o,p,r,t,u,j,k,_⟩,g,h,_⟩:=d;exact⟨a,c,none,e,rfl,b.os,b.bare,b.base,b.hok,⟨⟨T,y,C,x,B,i,l,m,n,o,p,r,t,u,j,k,fun _ z=>nomatch z⟩,g,h,fun _ z=>nomatch z⟩,q⟩
def Fv{o:List Env}{e:Value}(h:CXx P w o H s E0 e s'):False:=by obtain⟨_,_,_,_,_,_,_,_,_,_,q⟩:=h;exact q
def j6.calm{a:gT}{ps:List Str}{sp:Sp}(F:j6 P w K mg base (CXx P w) k f a ps sp):j6 P w K mg base CX0 k f a ps (fun vs H Q _=>sp vs H Q E0):=
 ⟨fun vs H Q E h=>F.len vs H Q E0 h,fun A l s H b m vs Q E g d c j i=>l5 (F.run A l s H b m vs Q E0 g d c j i) fun r n q=>by
  cases r with
  |error e=>exact Fv q
  |ok fl=>cases fl<;>exact q⟩
end
end L2
namespace Q
open PySem PySem.Spec PySem.W PyProof.Rows L2
abbrev fT(lt:Nat->Nat->Bool)(vs:List Value):List Value:=if vs.length<2 then vs else(run lt (dH vs.length)).toList.map fun i=>vs.getD i .none
def FP(prog:Program)(w:World)(A:Around)(lt:Nat->Nat->Bool)(vs:List Value)(h0:Heap):Prop:=
 ∀a:Shared,(∀b o,h0.get? b=some o->a.heap.get? b=some o)->
  ∃κ,(∀(c:SortKind->Shared->Prop)(d:Value->Shared->Prop),c κ a->wpAny (model prog w) A (keyKind' vs.toArray) c d a)/\
   ∀i j (C:Bool->Shared->Prop),i<vs.length->j<vs.length->i≠j->C (lt i j) a->kas_ask prog w A κ vs i j C a
section
variable {E:Value->Shared->Prop}{s:Shared}{lt:Nat->Nat->Bool}{vs:List Value}
def fH(h:n<64):n<=sizeLine:=by rw[sJ];lia
def Dd(h:n<64):n<=sizeLine+1:=fQ (fH h)
def xS{P:eG->Shared->Prop}(T:Tot lt vs.length)(r:s.heap.get? a=some (seqObj "list" vs.toArray n))(k0:∀b o,h0.get? b=some o->s.heap.get? b=some o/\b≠a)(g:vs.length<64)
  (ask:2<=vs.length->FP prog w A lt vs h0)(h:P (.done (.ret .none)) {s with heap:=FR s.heap a vs (fT lt vs).toArray}):wpAny (model prog w) A (Builtin.«list.sort» ⟨[.ref a],[]⟩) P E s:=by
 have f:vs.toArray.size=vs.length:=by simp
 obtain⟨c,v⟩:∃c,(s.heap.update a (bp fun _=> #[])).get? a=some (seqObj "list" #[] c):=⟨_,qJ r _⟩;have l:(((s.heap.update a (bp fun _=> #[])).push (seqObj "tuple" vs.toArray 0)).push (seqObj "list" #[] 0)).get? a=some (seqObj "list" #[] c):=ai _ (ai _ v);have keep:∀b o,h0.get? b=some o->(((s.heap.update a (bp fun _=> #[])).push (seqObj "tuple" vs.toArray 0)).push (seqObj "list" #[] 0)).get? b=some o:=fun b o e=>
  ai _ (ai _ ((bu _ _ (bO (k0 b o e).2)).trans (k0 b o e).1))
 rw[list_sort_plain];refine aa (listItems_at r rfl (aa (gv r rfl ?_ (by rw[f];exact fH g) (aW _))));refine aa (sM v rfl (aa (wpAny_newTuple ?_ (show vs.length<=_ from fH g))));refine aa (kF (bQ ?_) (aW _));by_cases hn:vs.length<2
 ·have e:fT lt vs=vs:=if_pos hn;rw[e]at h;dsimp only;rw[if_pos (by rw[f];exact hn),if_pos (by rw[f];exact hn)];refine aa (aj (aa ?_));rw[StateT.run_pure];refine aj (aa (sM l rfl (aa (gv l rfl ?_ (aW _) ?_))))
  ·have q:(arrOf (SortSt.mk' general' (vs.toArray.zip vs.toArray) #[] 7 none)).map (·.2)=vs.toArray:=by show(vs.toArray.zip vs.toArray).map (·.2)=vs.toArray;apply J8;simp[vv]
   rw[q];have k:failedOf ((),SortSt.mk' general' (vs.toArray.zip vs.toArray) #[] 7 none).snd=none:=rfl;rw[k];simp only[bne_self_eq_false,aN,if_false];exact aj h
  ·show((vs.toArray.zip vs.toArray).map (·.2)).size<=_;rw[fu,Array.size_zip,f,Nat.min_self];exact fQ (fH g)
 ·have u:2<=vs.length:=by lia
  have e:fT lt vs=(run lt (dH vs.length)).toList.map fun i=>vs.getD i .none:=if_neg hn;rw[e]at h;dsimp only;rw[if_neg (by rw[f];exact hn),if_neg (by rw[f];exact hn)];obtain⟨κ,J,K⟩:=ask u {s with heap:=((s.heap.update a (bp fun _=> #[])).push (seqObj "tuple" vs.toArray 0)).push (seqObj "list" #[] 0)} keep;obtain⟨y,N,x⟩:=fL T (by lia:1<=vs.length);refine aa (J _ _ (aa ?_));have key:=kat_run (prog:=prog) (w:=w) (A:=A) (E:=E) (κ:=κ) (ks:=vs) (vs:=vs) (s:={s with heap:=((s.heap.update a (bp fun _=> #[])).push (seqObj "tuple" vs.toArray 0)).push (seqObj "list" #[] 0)})
   (Q:=fun m d=>d={s with heap:=((s.heap.update a (bp fun _=> #[])).push (seqObj "tuple" vs.toArray 0)).push (seqObj "list" #[] 0)}/\arrOf m=(run lt (dH vs.length)).map (kas_item (vs.toArray.zip vs.toArray))/\failedOf m=none)
   (G:=fun p d=>d={s with heap:=((s.heap.update a (bp fun _=> #[])).push (seqObj "tuple" vs.toArray 0)).push (seqObj "list" #[] 0)}/\p=run lt (dH vs.length)) rfl u g
   (fun p m d _ B q k=>⟨k.1,by rw[B,k.2],q⟩)
   (wp_run (S:=fun d=>d={s with heap:=((s.heap.update a (bp fun _=> #[])).push (seqObj "tuple" vs.toArray 0)).push (seqObj "list" #[] 0)}) (fun i j C d hi I H t D=>by subst t;exact K i j C hi I H (D _ rfl)) _ _ x rfl fun d t=>⟨t,rfl⟩)
  refine gu key ?_ fun _ _ z=>z;rintro⟨⟨⟩,m⟩ d ⟨rfl,F,hf⟩;have M:=kat_snds (ks:=vs) (vs:=vs) rfl F;dsimp only;rw[M,hf];have L:(eK ((run lt (dH vs.length)).toList.map fun i=>vs.getD i bW)).size<=sizeLine+1:=by rw[aD,ak,aT,y.size];exact fQ (fH g)
  refine aa (sM l rfl (aa (gv l rfl ?_ (aW _) L)));simp only[bne_self_eq_false,aN,if_false];exact aj h
def qR{Q:Value->Shared->Prop}(T:Tot lt vs.length)(g:s.heap.IsList l vs.toArray)(a:vs.length<64)(ask:2<=vs.length->FP prog w A.in1.in1 lt vs s.heap)
  (h:Q (.ref (s.heap.objs.size+1)) {s with heap:=sortedAll s.heap vs (fT lt vs).toArray}):wpAny (model prog w) A (call (.builtin "sorted") [.ref l]) Q E s:=by
 refine iv Bk y8 zc (args_sorted1 _) ?_;unfold Builtin.«sorted»;refine aa (m:=FZ "sorted" 1 1 _) (aj (aa (collect_list g (aa (kF ?_ (show vs.length<=_ from fH a))) (fH a))));generalize hH:(s.heap.push (seqObj "list" #[] 0)).update s.heap.objs.size (bp (·++vs.toArray))=h1;have d:h1.objs.size=s.heap.objs.size+1:=by rw[<-hH,vA,vX]
 have i:∀b o,s.heap.get? b=some o->h1.get? b=some o:=fun b o e=>by have f:=aB e;rw[<-hH,bu _ _ (fO f)];exact ai _ e
 have c:(h1.push (seqObj "list" vs.toArray 0)).get? (s.heap.objs.size+1)=some (seqObj "list" vs.toArray 0):=by rw[<-d];exact az _ rfl
 have hq:sortedAll s.heap vs (fT lt vs).toArray=FR (h1.push (seqObj "list" vs.toArray 0)) (s.heap.objs.size+1) vs (fT lt vs).toArray:=by rw[<-hH];rfl
 rw[hq]at h;show wpAny _ _ _ _ _ {s with heap:=h1.push (seqObj "list" vs.toArray 0)};rw[d];refine aa (bQ (cA sI ⟨_,c,rfl⟩ qK (xS T c (fun b o e=>⟨ai _ (i b o e),aO (bF (aB e))⟩) a ask ⟨_,rfl,?_⟩) (F0 _)));exact aj ⟨_,rfl,h⟩
end
abbrev tlt(x y:Str):Bool:=decide (x.cps.toList<y.cps.toList)
abbrev mL(ks:List Str)(i j:Nat):Bool:=tlt (ks.getD i "") (ks.getD j "")
abbrev ord(ks:List Str):List Nat:=if ks.length<2 then ay ks.length else(run (mL ks) (dH ks.length)).toList
abbrev sortBy{α:Type}(d:α)(ks:List Str)(ys:List α):List α:=(ord ks).map fun i=>ys.getD i d
def str_ext{y:Str}(h:x.cps.toList=y.cps.toList):x=y:=by obtain⟨a⟩:=x;obtain⟨b⟩:=y;have :a=b:=Array.toList_inj.mp h;rw[this]
def v9{y:Str}(a:tlt x y=true)(b:tlt y z=true):tlt x z=true:=by unfold tlt at *;rw[decide_eq_true_eq]at *;exact List.lt_trans a b
def tlt_tri{y:Str}(h:x≠y):tlt x y= !tlt y x:=by
 unfold tlt;by_cases c:x.cps.toList<y.cps.toList;·have d:¬y.cps.toList<x.cps.toList:=fun z=>List.lt_irrefl _ (List.lt_trans c z);rw[decide_eq_true c,decide_eq_false d];rfl
 ·by_cases d:y.cps.toList<x.cps.toList;·rw[decide_eq_false c,decide_eq_true d];rfl
  ·exact absurd (str_ext (List.le_antisymm (List.not_lt.mp d) (List.not_lt.mp c))) h
def tJ(nd:ks.Nodup):Tot (mL ks) ks.length where
 tri:=fun i j hi c h=>tlt_tri fun e=>h (by rw[af,af,ae hi,ae c]at e;exact(fo nd).mp e)
 tr:=fun i j k _ _ _ a b=>v9 a b
def ord_len(ks:List Str)(nd:ks.Nodup):(ord ks).length=ks.length:=by
 unfold ord;split;·simp
 ·rw[aT,(fL (tJ nd) (by lia)).1.size]
theorem HU(nd:ks.Nodup)(f:ks.length=ys.length)(r:bZ ys vs):bZ (sortBy .non ks ys) (fT (mL ks) vs):=by
 have o:=r.length;have e:vs.length=ks.length:=by lia
 unfold fT sortBy ord;rw[e];by_cases c:ks.length<2
 ·rw[if_pos c,if_pos c];have a:(ay ks.length).map (fun i=>ys.getD i V.non)=ys:=by
   rw[f];apply cU;·simp
   ·intro i n b;simp[b]
  rw[a];exact r
 ·rw[if_neg c,if_neg c];have P:=(fL (tJ nd) (by lia)).1;have all:∀l:List Nat,(∀i∈l,i<ks.length)->bZ (l.map fun i=>ys.getD i V.non) (l.map fun i=>vs.getD i bW):=by
   intro l
   induction l with
   |nil=>exact fun _=>.nil
   |cons i l ih=>
    intro h;have hi:i<ys.length:=by have :=h i (.head _);lia
    obtain⟨u,g,k⟩:=r.get (ae hi);refine .cons ?_ (ih fun j d=>h j (.tail _ d));show L2.RelV (ys.getD i V.non) (vs.getD i bW);rw[af,ae hi,af,g];exact k
  refine all _ fun i hi=>?_;have m:i∈(ay ks.length).toArray:=P.perm.mem_iff.mp (jJ.mp hi);simpa using m
def GR(r:ze vs ks)(hi:i<ks.length):∃t,vs.getD i .none=.str (ks.getD i "") t:=by
 induction r generalizing i with
 |nil=>exact absurd hi (gI _)
 |cons y t h ih=>
  cases i with
  |zero=>exact⟨t,rfl⟩
  |succ i=>exact ih (by simpa using hi)
def tO(r:ze vs ks):vs.length=ks.length:=by
 induction r with
 |nil=>rfl
 |cons y t h ih=>simp[ih]
section
def FL(r:ze vs ks)(d:2<=vs.length):FP prog w A (mL ks) vs h0:=by
 intro g _;refine⟨oneType',fun f e q=>?_,fun i j C hi a _ q=>?_⟩
 ·match vs,r,d with
  |v1::v2::rest,r,_=>rw[keyKind_strs r];exact aj q
 ·rw[tO r]at hi a;obtain⟨t,b⟩:=GR r hi;obtain⟨u,c⟩:=GR r a;unfold kas_ask;rw[b,c,keyLt'_oneType];exact oneLt_str q
end
def qD(H:Hp)(ys:List V)(ks:List Str):Prop:=Paired (fun v k=>∃a rest,v=V.ref a/\H a=some (.tup (V.str k::rest))) ys ks
theorem rP:∀{ys:List V}{ks:List Str},qD H ys ks->ks.length=ys.length
 |_,_,.nil=>rfl
 |_,_,.cons _ t=>by simp[rP t]
set_option maxHeartbeats 3200000
abbrev has(ac:List Key)(k:Key):Bool:=ac.any fun x=>decide (x=k)
def jB{a:List Key}{k:Key}:has a k=true↔k∈a:=by
 unfold has;rw[cI];constructor;·rintro⟨x,h,e⟩;rw[<-of_decide_eq_true e];exact h
 ·exact fun h=>⟨k,h,decide_eq_true rfl⟩
abbrev more(ac:List Key)(k:Key):List Key:=if has ac k=true then ac else ac++[k]
abbrev met(ks:List Key):List Key:=ks.foldl more []
def Ip(ks:List Key)(k:Key):met (ks++[k])=more (met ks) k:=by unfold met;rw[List.foldl_append];rfl
def Ah{a:List Key}{k j:Key}:j∈more a k↔j∈a\/j=k:=by
 unfold more;split
 ·rename_i h;constructor;·exact .inl
  ·rintro(z|rfl);·exact z
   ·exact jB.mp h
 ·simp
def pY(a:List Key)(k:Key):(more a k).length=if has a k=true then a.length else a.length+1:=by unfold more;split <;>simp
def Ir(ks:List Key):(met ks).length<=ks.length:=by
 unfold met;have g:∀(l a:List Key),(l.foldl more a).length<=a.length+l.length:=by
  intro l
  induction l with
  |nil=>intro a;simp
  |cons k l ih=>intro a;have c:=ih (more a k);have b:=pY a k;rw[dR,bz];split at b<;>lia
 simpa using g ks []
def lR{ks:List Key}{k:Key}:k∈met ks↔k∈ks:=by
 unfold met;have g:∀(l a:List Key),k∈l.foldl more a↔k∈a\/k∈l:=by
  intro l
  induction l with
  |nil=>intro a;simp
  |cons j l ih=>intro a;rw[dR,ih,Ah,aI,or_assoc]
 simpa using g ks []
def Fd{ks:List Key}(h:ks.Nodup):met ks=ks:=by
 unfold met;have g:∀(l a:List Key),(a++l).Nodup->l.foldl more a=a++l:=by
  intro l
  induction l with
  |nil=>intro a _;simp
  |cons k l ih=>intro a b;have c:k∉a:=fun z=>(di.mp b).2.2 k z k (.head _) rfl;have e:more a k=a++[k]:=if_neg fun z=>c (jB.mp z);rw[dR,e,ih (a++[k]) (by simpa using b)];simp
 simpa using g ks [] (by simpa using h)
def E5(ks:List Key):(met ks).Nodup:=by
 unfold met;have g:∀(l d:List Key),d.Nodup->(l.foldl more d).Nodup:=by
  intro l
  induction l with
  |nil=>intro d h;exact h
  |cons k l ih=>
   intro d h;rw[dR];refine ih _ ?_;unfold more;split;·exact h
   ·rename_i c;refine di.mpr ⟨h,by simp,fun a i b j e=>c ?_⟩;have f:b=k:=by simpa using j
    rw[<-f,<-e];exact jB.mpr i
 exact g ks [] gV
def ym{ks:List Key}(h:(met ks).length=ks.length):ks.Nodup:=by
 have s:∀(l d:List Key),(l.foldl more d).length<=d.length+l.length:=by
  intro l
  induction l with
  |nil=>intro d;simp
  |cons k l ih=>intro d;have m:=ih (more d k);have f:=pY d k;rw[dR,bz];split at f<;>lia
 have g:∀(l d:List Key),d.Nodup->(l.foldl more d).length=d.length+l.length->(d++l).Nodup:=by
  intro l
  induction l with
  |nil=>intro d h _;simpa using h
  |cons k l ih=>
   intro d q e;rw[dR,bz]at e;have m:=s l (more d k);have f:=pY d k;by_cases c:has d k=true;·rw[if_pos c]at f;lia
   ·rw[if_neg c]at f;have j:more d k=d++[k]:=if_neg c;rw[j]at e;have p:k∉d:=fun z=>c (jB.mpr z);have r:(d++[k]).Nodup:=di.mpr ⟨q,by simp,fun a n b o e=>p (by
     have i:b=k:=by simpa using o
     rw[<-i,<-e];exact n)⟩
    have :=ih (d++[k]) r (by rw[bE,oO];lia);simpa using this
 simpa using g ks [] gV (by simpa[met]using h)
def met_one{ks:List Key}:(met ks).length<=1↔∀a∈ks,∀b∈ks,a=b:=by
 constructor
 ·intro h a f b g;have c:=lR.mpr f;have d:=lR.mpr g
  match e:met ks,h with
  | [],_=>rw[e]at c;cases c
  | [x],_=>rw[e]at c d;rw[aH.mp c,aH.mp d]
 ·intro h
  match e:met ks with
  | []=>simp
  | [x]=>simp
  |x::y::r=>have n:=E5 ks;rw[e]at n;have i:x∈ks:=lR.mp (by rw[e];exact .head _);have j:y∈ks:=lR.mp (by rw[e];exact .tail _ (.head _));have :=h x i y j;rw[this]at n;simp at n
noncomputable abbrev jq(led:Bool):Obj:={cls:=.type "set",dict:=none,data:=.set #[] 0 (.fresh 0 0 led)}
abbrev EK(a:Addr)(n:Nat):HO:=.ext fun h=>∃o es ep t,h.get? a=some o/\o.ExactSet/\o.data=.set es ep t/\es.size<gB/\t.fits es.size=true/\es.size=n
theorem yv:∀{ks:List Key}{us:List Value},bZ (ks.map kV) us->∀(i:Nat)(v:Value),us[i]? =some v->∃k,ks[i]? =some k/\RelV (kV k) v
 | [],_,.nil,i,v,e=>by simp at e
 |k::ks,_,.cons r t,0,v,e=>by simp at e;subst e;exact⟨k,rfl,r⟩
 |k::ks,_,.cons r t,i+1,v,e=>yv t i v (by simpa using e)
def rSet(K:ao):List V->Hp->VK->Prop:=fun xs H Q=>∃p ks,xs=[V.ref p]/\SqL K H p (ks.map kV)/\ks.length<4000/\∀a,H a=none->Q (.ref a) (upd H a (EK a (met ks).length))
def vU:gp X (.builtin "len") (fun xs H Q=>∃a n,xs=[V.ref a]/\H a=some (EK a n)/\Q (.int n) H):=by intro k s m H xs l Q I r h;obtain⟨a,n,rfl,e,q⟩:=h;obtain⟨u,rfl,i⟩:=vals1 r;cases i;obtain⟨⟨o,b,j,t,g,f,d,c,hf,rfl⟩,_⟩:=I.hok a _ e;refine call_len_set g f d hf (by have :b.size<4096:=c;lia) ?_;exact⟨.int b.size,H,I.tok _,⟨_,rfl⟩,q⟩
end Q
namespace L2
open PySem PySem.Spec PyProof.Rows
section
theorem wL(a b:Array Nat):∀k:Nat,((cb k a).foldl (·++·) b).size=b.size+k*a.size
 | 0=>by simp
 |k+1=>by rw[gc,dR,wL a (b++a) k,Array.size_append,Nat.succ_mul];lia
def Hr:R2:=fun x y H Q=>∃(z:Str)(n:Int),x=.str z/\y=.int n/\2<=n/\n<=1000/\1<=z.length/\z.length<=1000/\Q (.str ⟨(cb n.toNat z.cps).foldl (·++·) #[]⟩) H
theorem op_repS:OpR X (gb .Mult) Hr:=by
 intro m s p H x y v u Q I f g h;obtain⟨z,n,rfl,rfl,i,j,k,d,q⟩:=h;obtain⟨t,rfl⟩:=f;obtain⟨o,rfl⟩:=g;have b:¬n<1:=by lia
 have c:(n==1||z.length==0)=false:=by rw[Bool.or_eq_false_iff];exact⟨by simp;lia,by simp;lia⟩
 have a:z.length*n.toNat<=1000*1000:=Nat.mul_le_mul d (by lia);have e:((n.toNat:Nat):Int)=n:=by lia
 have l:(z.length:Int)*n<=1000*1000:=by rw[<-e,<-Int.natCast_mul];exact Int.ofNat_le.mpr a
 refine P.mul_str (by rw[decide_eq_false (by lia),decide_eq_false (by lia)];rfl) (fun _ _=>?_) (fun _ _=>?_) ?_;·exact Int.not_lt.mpr (Int.le_ediv_of_mul_le (by lia) (by lia))
 ·exact decide_eq_false (A9.mpr (bf a (by decide)))
 ·rw[if_neg b,if_neg (by rw[c];exact aA)];refine⟨?_,.str _,H,I.tok _,⟨_,rfl⟩,q⟩;show((cb n.toNat z.cps).foldl (·++·) #[]).size<=_;rw[wL];exact bf (by rw[Nat.mul_comm];simpa[A7]using a) (by decide:1000*1000<=sizeLine)
end
end L2
set_option maxHeartbeats 1000000
namespace HT
open PySem PySem.Spec PyProof.Rows
section
variable {K:Type}[DecidableEq K]{knd:HeapKind prog w K}{s:Shared}{E:Value->Shared->Prop}
def setDef{d:Addr}{xs:List (K×Addr×Value)}{k:K}{v:Value}{Q:Value->Shared->Prop}(n:knd.room A)(h:knd.is s.heap k a)(B:s.heap.DictOfH knd d xs)
  (r:∀u,(atKey xs k).map (·.2)=some u->Q u {s with toks:=s.toks+knd.draws k})
  (t:atKey xs k=none->∀h',h'.DictOfH knd d (storedH xs k a v)->cZ d s.heap h'->Q v {s with heap:=h',toks:=s.toks+knd.draws k})
  (G:xs.length<=sizeLine):wpAny (model prog w) A (FX d (.ref a) v) Q E s:=by
 obtain⟨o,F,q,c,z,b,g,l,i⟩:=B;unfold FX;refine bQ ?_;refine aa (knd.pyHash n h ?_);refine aa (wpAny_dictFind_heap (s:={s with toks:=s.toks+knd.draws k}) n h c b g l i ?_ ?_)
 ·intro f;have C:k∉xs.map (·.1):=not_mem_keys_of_get f;refine aa (gL (aa (wpAny_updateDictKeys (hz:=by have e:=size_of_entries g;lia) (s:={s with toks:=s.toks+knd.draws k}) c b (aj (t (nO f) _ ⟨_,_,q+1,cP _ c (Obj.isFreed_of_dict (J4 b _)),
   z.mapDictKeys _,J4 b _,?_,?_,?_⟩ (bM ..))))))
  ·rw[storedH_new (nO f)];simp[g,entryOfKey]
  ·rw[storedH_new (nO f)];intro x hx;rcases aU.mp hx with hx|hx;·exact knd.keeps (l x hx) c b (bM ..)
   ·rw[aH.mp hx];exact knd.keeps h c b (bM ..)
  ·rw[storedH_new (nO f),dc,di];refine⟨i,by simp,fun x hx y D e=>?_⟩;have :y=k:=by simpa using D
   exact C (by rw[<-this,<-e];exact hx)
 ·intro j p m;refine aa (wpAny_dictEntries (s:={s with toks:=s.toks+knd.draws k}) c b ?_);rw[entry_at g j,m];exact aa (gL (aj (r _ (by rw[atKey_of_get i m];rfl))))
variable(knd) in
def yo(d a:Addr)(g:(d==gN)=false)(b:Value):
  MeetsIn prog w (Builtin.«dict.setdefault» ⟨[.ref d,.ref a,b],[]⟩) (fun A R s=>knd.room A.in1/\∃k xs,knd.is s.heap k a/\s.heap.DictOfH knd d xs/\xs.length<=sizeLine/\
   (∀u,(atKey xs k).map (·.2)=some u->R (.ok (.ret u)) {s with toks:=s.toks+knd.draws k})/\
   (atKey xs k=none->∀h',h'.DictOfH knd d (storedH xs k a b)->cZ d s.heap h'->R (.ok (.ret b)) {s with heap:=h',toks:=s.toks+knd.draws k})):=
 .of_wp fun A R s ⟨m,k,xs,h,c,o,e,f⟩=>by unfold Builtin.«dict.setdefault»;refine aa ?_;unfold Builtin.Dict.keyAndDefault;refine aa (wpAny_notOrdered_dict c.typeIs ?_);show wpAny _ _ (pure (d,aZ a,some b)) _ _ s;refine aj ?_;show wpAny _ _ (if(d==gN)=true then _ else(FX d (.ref a) b>>=_)) _ _ s;rw[if_neg (by rw[g];exact aA)];exact aa (setDef m h c (fun v n=>aj ⟨v,rfl,e v n⟩) (fun j h' i l=>aj ⟨b,rfl,f j h' i l⟩) o)
end
end HT
namespace L2
open PySem PySem.Spec PyProof.Rows
section
variable {pins:List (Addr×Obj)}{s:Shared}{a b:Addr}{v:V}{r:Value}{E:Value->Shared->Prop}{kvs:List (List Key×V)}{k:List Key}
def Jr{Q:Value->Shared->Prop}(K:A.units+1<cLine)(I:Inv X pins σ H s)(e:H a=some (.dT kvs))(i:H b=some (.tup (k.map kV)))(O:RelV v r)(S:kvs.length<sizeLine)
  (C:∀x g s',fq kvs k=some x->Inv X pins σ H s'->RelV x g->Q g s')(D:fq kvs k=none->∀s',Inv X pins σ (upd H a (.dT (putK kvs k v))) s'->Q r s'):
  wpAny (model X.prog X.w) A (call (.builtin "dict.setdefault") [.ref a,.ref b,r]) Q E s:=by
 obtain⟨z,l,m,f,h⟩:=Jm I.hok e;have N:m.length<=sizeLine:=by rw[<-iE f];exact z
 have F:(putK kvs k v).length<=sizeLine:=by have :=rT kvs k v;lia
 have d:=f.val k;refine call_meetsIn vd h.typeIs PySem.F.entry_dict_setdefault (PySem.F.args_dict_setdefault_3 _ _ _) (HT.yo (ph (bg X.prog X.w)) a b l r) ⟨tupleKind_room_in1 K,k,m,Cm I.hok i,h,N,fun u L=>?_,fun G R n J=>?_⟩
 ·rw[L]at d;cases hv:fq kvs k with
  |none=>rw[hv]at d;exact absurd d (by intro z;cases z)
  |some x=>rw[hv]at d;obtain⟨g,M,P⟩:=vV.some_of d;cases M;exact C x _ _ hv (I.tok _) P
 ·rw[G]at d;refine D (by
   cases hv:fq kvs k with
   |none=>rfl
   |some x=>rw[hv]at d;exact absurd d (by intro z;cases z)) _ ?_
  obtain⟨q,p,o,hq,t,w,y,_,B⟩:=n;refine d_write I (by rw[e];exact True.intro) J ⟨q,hq⟩ ⟨F,l,_,(f.put k i O).keeps fun c T j=>?_,q,p,o,hq,t,w,y,B⟩;rw[bD (Dz j e (fun z=>nomatch z))];exact j
end
section
theorem Ab:∀{ns:List Int}{ad:List Value},bZ (ns.map V.int) ad->(∀v∈ad,∃a t,v=hU a t)/\numsOf ad=ns
 | [],_,.nil=>⟨fun _ h=>(nomatch h),rfl⟩
 |n::ns,_,.cons r t=>by
  obtain⟨tk,rfl⟩:=r;obtain⟨b,c⟩:=Ab t;refine⟨fun v hv=>?_,by rw[numsOf,c]⟩;rcases aI.mp hv with rfl|hv;·exact⟨_,_,rfl⟩
  ·exact b v hv
def ints_rep(r:bZ (ns.map V.int) ad):∃xs:Array (Int×Tok),ad.toArray=intItems xs/\preSum (numAt xs) xs.size=ns.sum:=by obtain⟨a,b⟩:=Ab r;obtain⟨xs,e⟩:=AllInts.items (vs:=ad.toArray) fun v c=>a v (by simpa using c);refine⟨xs,e,?_⟩;rw[preSum_eq,fk (by simp),<-nums_intItems,<-e,b]
def JD(d:X.calm=true):gp X (.builtin "sum") (fun xs H Q=>∃(p:Addr)(ns:List Int),xs=[.ref p]/\SqL X.K H p (ns.map V.int)/\Q (.int ns.sum) H):=by intro m s t H xs n Q I i h;obtain⟨p,ns,rfl,hq,q⟩:=h;obtain⟨u,rfl,g⟩:=i.one;cases g;obtain⟨l,r,f,k⟩:=I.list hq;obtain⟨o,b,c⟩:=ints_rep r;have a:=f.isList;rw[b]at a;refine sum_intListG (I.ok.hd d) a fun j tk t' e=>?_;rw[c];exact⟨.int ns.sum,H,I.kept (t':=tk) e,⟨_,rfl⟩,q⟩
def Ff{K:Type}[DecidableEq K]{knd:HeapKind prog w K}{d:Addr}{xs:List (K×Addr×Value)}{Q:Value->Shared->Prop}(c:(d==gN)=false)(a:s.heap.DictOfH knd d xs)(l:(xs.length:Int)<2^63)
  (h:Q (.int xs.length (s.toks+1)) {s with toks:=s.toks+1+1}):wpAny (model prog w) A (call (.builtin "len") [.ref d]) Q E s:=by
 have i:MeetsIn prog w (Builtin.«dict.__len__» ⟨[.ref d],[]⟩) (fun _ R s=>∃xs,s.heap.DictOfH knd d xs/\R (.ok (.ret (.int xs.length s.toks))) {s with toks:=s.toks+1}):=
  .of_wp fun A R s ⟨xs,a,h⟩=>by obtain⟨o,b,j,g,k,e,f,_⟩:=a;show wpAny _ _ (dictSize d>>=_) _ _ s;unfold dictSize;refine aa (aa (wpAny_dictEntries g e (aj ?_)));show wpAny _ _ (Builtin.Dict.pendingCount d>>=_) _ _ s;refine aa (wpAny_pendingCount_other c ?_);refine wpAny_ret_mkInt ?_;have :b.size=xs.length:=size_of_entries f;rw[Nat.add_zero,this];exact h
 refine iv kind_len plain_len entry_len (args_len1 _) ?_;unfold Builtin.«len»;refine aa (m:=oneArg "len" _) (aj ?_);refine aa (m:=callSpecial? (.ref d) (cQ "__len__")) (dE (name:=cQ "__len__") a.typeIs F.slot_dict_len
  (call_meetsIn F.slot_dict_len a.typeIs F.entry_dict_len (F.args_dict_len_1 _) i ⟨xs,a,?_⟩))
 show wpAny _ _ _ _ _ {s with toks:=s.toks+1};refine aa (bQ (aj ?_));refine aa (nL ?_);show wpAny _ _ (if((xs.length:Nat):Int)<0 then _ else _) _ _ _;rw[if_neg (by lia)];show wpAny _ _ (if((xs.length:Nat):Int)≥ 2^63 then _ else _) _ _ _;rw[if_neg (by lia)];exact aa (wpAny_mkInt (aj ⟨_,rfl,h⟩))
def AN:gp X (.builtin "len") (fun xs H Q=>∃a kvs,xs=[V.ref a]/\H a=some (.dT kvs)/\Q (.int kvs.length) H):=by intro g s k H xs i Q I r h;obtain⟨a,kvs,rfl,e,q⟩:=h;obtain⟨u,rfl,f⟩:=vals1 r;cases f;obtain⟨z,d,j,b,c⟩:=Jm I.hok e;refine Ff d c (by rw[<-iE b];rw[sJ]at z;lia) ?_;rw[<-iE b];exact⟨.int kvs.length,H,I.tok _,⟨_,rfl⟩,q⟩
def key_seq{ks:List Key}(I:Inv X pins σ H s)(h:SqT X.K H b (ks.map kV)):(ph (bg X.prog X.w)).is s.heap ks b:=by obtain⟨e,r,⟨o,a,c,n,d⟩,_⟩:=I.tuple h;exact⟨o,e.toArray,n,a,c,d,by simpa using rg r⟩
def rIxD(K:ao):R2:=fun x y H Q=>∃a b kvs k v,x=.ref a/\y=.ref b/\H a=some (.dT kvs)/\SqT K H b (k.map kV)/\fq kvs k=some v/\Q v H
def ix_dict(w:X.A.units+1<cLine):IxR X (rIxD X.K):=by
 intro K J g s j H x y v u Q I F G h t;obtain⟨a,b,N,k,z,rfl,rfl,e,l,A,q⟩:=h;cases F;cases G;obtain⟨_,M,L,D,d⟩:=Jm I.hok e;have f:s.TypeIs (.ref a) "dict":=d.typeIs;unfold JU;refine aa ?_;rw[getitemInPython_of_ne f.not_modules];refine aa (C3 f PySem.F.slot_dict_getitem.lookup ?_);have c:wpAny (model X.prog X.w) X.A (subscripted J false (.ref a) (.ref b)) (fun r i=>wpAny (model X.prog X.w) X.A (letTemporaryGo K (.ref a) r>>=fun _=>pure r) (EP X g j Q) X.xe i) X.xe s:=by rw[t];obtain⟨O,B,E⟩:=vV.some_of (v:=z) (o:=(atKey L k).map (·.2)) (by rw[<-A];exact D.val k);obtain⟨p,m,n⟩:=Bq.mp B;refine wpAny_operating (gu (wpAny_getItem_heap (Q:=EP X g j Q) (tupleKind_room_in1 w) (key_seq I l) d m ?_) (fun r i C=>aa (wpAny_letTemporaryGo (aj C))) fun _ _ x=>x);rw[n];exact⟨z,H,I.tok _,E,q⟩
 first
  |exact aj (aa c)
  |exact aa (aj (aa c))
  |exact aa c
def Dp:V->List V->Hp->VK->Prop:=fun x xs H Q=>∃a b kvs k v,x=.ref a/\xs=[.ref b,v]/\H a=some (.dT kvs)/\H b=some (.tup (k.map kV))/\kvs.length<sizeLine/\
 (∀z,fq kvs k=some z->Q z H)/\(fq kvs k=none->Q v (upd H a (.dT (putK kvs k v))))
def E9(j:X.A.units+1<cLine):MtR X "dict.setdefault" Dp:=by intro A s F H x E v B Q I q p h;obtain⟨a,b,w,k,y,rfl,rfl,e,f,g,m,n⟩:=h;cases q;obtain⟨u,C,rfl,o,d⟩:=vals2 p;cases o;exact Jr j I e f d g (fun z D t l c r=>⟨z,H,c,r,m z l⟩) fun i t c=>⟨y,_,c,d,n i⟩
end
section
open Classical in
open Classical in
end
end L2
namespace Q
open PySem PySem.Spec PySem.W PyProof.Rows L2
abbrev ltI(ns:List Int)(i j:Nat):Bool:=decide (ns.getD i 0<ns.getD j 0)
abbrev pR(ns:List Int):List Nat:=if ns.length<2 then ay ns.length else(run (ltI ns) (dH ns.length)).toList
abbrev sortI(ns:List Int):List V:=(pR ns).map fun i=>(ns.map V.int).getD i .non
def EA(nd:ns.Nodup):Tot (ltI ns) ns.length where
 tri:=fun i j hi c h=>by
  have f:ns.getD i 0≠ns.getD j 0:=fun e=>by rw[af,af,ae hi,ae c]at e;exact h ((fo nd).mp e)
  unfold ltI;by_cases a:ns.getD i 0<ns.getD j 0;·rw[decide_eq_true a,decide_eq_false (by lia)];rfl
  ·rw[decide_eq_false a,decide_eq_true (by lia)];rfl
 tr:=fun i j k hi c d a b=>by unfold ltI at a b⊢;have a:=of_decide_eq_true a;have b:=of_decide_eq_true b;exact decide_eq_true (by lia)
def z9(nd:ns.Nodup):(pR ns).length=ns.length:=by
 unfold pR;split;·simp
 ·rw[aT,(fL (EA nd) (by lia)).1.size]
theorem outI(nd:ns.Nodup)(r:bZ (ns.map V.int) vs):bZ (sortI ns) (fT (ltI ns) vs):=by
 have g:=r.length;rw[ak]at g;have e:vs.length=ns.length:=by lia
 unfold fT sortI pR;rw[e];by_cases c:ns.length<2
 ·rw[if_pos c,if_pos c];have a:(ay ns.length).map (fun i=>(ns.map V.int).getD i V.non)=ns.map V.int:=by
   apply cU;·simp
   ·intro i o b;have d:i<ns.length:=by simpa using b
    simp[d]
  rw[a];exact r
 ·rw[if_neg c,if_neg c];have P:=(fL (EA nd) (by lia)).1;have all:∀l:List Nat,(∀i∈l,i<ns.length)->bZ (l.map fun i=>(ns.map V.int).getD i V.non) (l.map fun i=>vs.getD i bW):=by
   intro l
   induction l with
   |nil=>exact fun _=>.nil
   |cons i l ih=>
    intro h;have hi:i<(ns.map V.int).length:=by rw[ak];exact h i (.head _)
    obtain⟨u,k,n⟩:=r.get (ae hi);refine .cons ?_ (ih fun j f=>h j (.tail _ f));show L2.RelV ((ns.map V.int).getD i V.non) (vs.getD i bW);rw[af,ae hi,af,k];exact n
  refine all _ fun i hi=>?_;have m:i∈(ay ns.length).toArray:=P.perm.mem_iff.mp (jJ.mp hi);simpa using m
def int_at(r:cD vs ns)(hi:i<ns.length):∃t,vs.getD i .none=.int (ns.getD i 0) t:=by
 induction r generalizing i with
 |nil=>exact absurd hi (gI _)
 |cons y t h ih=>
  cases i with
  |zero=>exact⟨t,rfl⟩
  |succ i=>exact ih (by simpa using hi)
def IP(r:cD vs ns):vs.length=ns.length:=by
 induction r with
 |nil=>rfl
 |cons y t h ih=>simp[ih]
def xk(r:cD vs ns)(d:2<=vs.length):FP prog w A (ltI ns) vs h0:=by
 intro g _;refine⟨oneType',fun f e q=>?_,fun i j C hi a _ q=>?_⟩
 ·match vs,r,d with
  |v1::v2::rest,r,_=>rw[keyKind_ints r];exact aj q
 ·rw[IP r]at hi a;obtain⟨t,b⟩:=int_at r hi;obtain⟨u,c⟩:=int_at r a;unfold kas_ask;rw[b,c,keyLt'_oneType];exact oneLt_int q
def Ho(K:ao):List V->Hp->VK->Prop:=fun xs H Q=>∃p ns,xs=[V.ref p]/\SqL K H p (ns.map V.int)/\ns.length<64/\ns.Nodup/\∀l,H l=none->Q (.ref l) (upd H l (.lst (sortI ns)))
def yP:gp X (.builtin "sorted") (Ho X.K):=by
 intro w s z H y x Q I r h;obtain⟨p,a,rfl,hq,i,nd,q⟩:=h;obtain⟨u,rfl,t⟩:=vals1 r;cases t;obtain⟨d,f,n,v⟩:=I.list hq;have k:=f.length;rw[ak]at k;have l:d.length=a.length:=by lia
 refine qR (lt:=ltI a) (vs:=d) (by rw[l];exact EA nd) n.isList (by lia) (fun g=>xk (intsAre_of f) g) ?_;obtain⟨c,j⟩:=sortedAll_at s.heap d (fT (ltI a) d).toArray;have m:(sortI a).length<=sizeLine:=by unfold sortI;rw[ak,z9 nd];exact fH i
 exact⟨.ref (s.heap.objs.size+1),_,I.laid (t':=s.toks) (fun b o e=>JV e) (eR _) (show d7 X.prog X.w _ _ _ (.lst (sortI a))from⟨m,_,c,outI nd f,j⟩),rfl,q _ (I.hok.fresh (eR _))⟩
end Q
namespace L2
open PySem PySem.Spec PyProof.Rows
section
abbrev nats(n:Nat):List V:=(ay n).map fun i:Nat=>V.int (i:Int)
def BC:∀(n:Nat)(ac:Array Value),ItemsOf (fun i v=>∃t,v=hU (0+i*1) t) ac n->bZ (nats n) ac.toList:=by
 intro n ac h;have key:∀(l:List Value)(k:Nat),(∀(j:Nat) v,l[j]? =some v->∃t,v=hU ((k+j:Nat):Int) t)->bZ ((List.range' k l.length).map fun i:Nat=>V.int (i:Int)) l:=by
  intro l
  induction l with
  |nil=>exact fun _ _=>.nil
  |cons v l ih=>intro k a;obtain⟨t,e⟩:=a 0 v rfl;refine .cons ⟨t,by rw[e];simp⟩ ?_;refine ih (k+1) fun j w f=>?_;obtain⟨g,b⟩:=a (j+1) w (by simpa using f);exact⟨g,by rw[b];congr 2;lia⟩
 have c:ac.toList.length=n:=by rw[aT];exact h.1
 have :=key ac.toList 0 fun j v d=>by obtain⟨t,e⟩:=h.2 j v (by rw[<-bU];exact d);exact⟨t,by rw[e];congr 1;lia⟩
 rw[c,<-List.range_eq_range']at this;exact this
def tLRng(ta:TA):TE:=fun σ H Q=>ta σ H fun vs H1=>∃n:Nat,vs=[.int n]/\n<=1000/\∀p,H1 p=none->Q (.ref p) (upd H1 p (.lst (nats n)))
def pe_lrng{a:Expr}{f:TA}{p:Pos}(k:X.calm=true)(l:Gl X "range")(w:X.mg "range"=none)(m:Gl X "list")(x:X.mg "list"=none)(j:PA X [a] f)(hs:cf [a] X.env=[(false,eval a X.env)]:=by rfl):
  PE X (.Call (.Name "list" p) [.Call (.Name "range" p') [a] [] pos'] [] pos) (tLRng f):=by
 intro A s D H Q I h;refine Call_ (i5 I m x k7 (cH (kZ ?_) rfl rfl));refine Call_ (i5 I l w boot_range (cH (thn (j pos' A s D H _ I h) fun K J ⟨L,E,c,C,B⟩=>?_) hs rfl));obtain⟨n,e,G,q⟩:=B;subst e;cases C with
 |cons r rr=>
  cases rr;obtain⟨t,rfl⟩:=r;refine call_range_1 ?_;refine aj ?_;have y:tE 0 (n:Int) 1=(n:Int):=by rw[rangeSize_one];split <;>lia
  refine call_list_range (n:=n) (c.ok.hd k) (IsRange.new ..) (small_one (by decide) (by decide) (by lia) (by lia)) y (by lia) fun F tk d g v i u=>?_;have z:=BC n d u;refine⟨.ref _,_,c.laid (t':=tk) (o:=.lst (nats n)) (fun b o e=>v b o (ai _ e)) ?_ ⟨?_,d.toList,g,z,i⟩,rfl,q _ (c.hok.fresh ?_)⟩;·simp[Heap.push]
  ·unfold nats;rw[ak,bC,sJ];lia
  ·simp[Heap.push]
end
end L2
namespace D8
open PySem PySem.Spec PySem.W PyProof.Rows L2
noncomputable abbrev four:List (Int×Int):=[(0,0),(0,1),(1,0),(1,1)]
section
variable {E:Value->Shared->Prop}{s:Shared}
def mM{o:Obj}{es ep t}{ks:List Key}(x:cG (bg prog w) h ks a)(i:h.get? S=some o)(f:o.data=.set es ep t)(hs:cZ S h h'):cG (bg prog w) h' ks a:=by
 obtain⟨d,j,n,c,e,b,hi⟩:=x;have g:a≠S:=by rintro rfl;obtain rfl:d=o:=aX (c.symm.trans i);rw[f]at b;exact nomatch b
 exact⟨d,j,n,(hs.2 a g).trans c,e,b,hi⟩
def map_ins(a:Array (Int×Value))(p:Nat)(h:Int)(v:Value):(bN a p (h,v)).map (·.1)=bN (a.map (·.1)) p h:=by unfold bN;simp
def G4(a:Array (Int×Value))(p:Nat)(x:Int×Value):(bN a p x).size=a.size+1:=by unfold bN;simp;lia
end
section
variable {R:Result->Shared->Prop}{I:Addr}{fp wr:List Addr}{G:Array i7->Array i7->Prop}{P:Nat->Value->Prop}{St:Nat->Shared->Prop}
def mO{ks:List Key}(k:∀o,h.get? a=some o->h'.get? a=some o):cG (bg prog w) h ks a->cG (bg prog w) h' ks a
 |⟨o,items,n,ho,rest⟩=>⟨o,items,n,k o ho,rest⟩
end
end D8
namespace L2
open PySem PySem.Spec PyProof.Rows
def DkIn(P:Program)(w:World)(K:ao)(a:Addr)(kvs:List (Key×V)):Prop:=
 (a==gN)=false/\∃vs,KV kvs vs/\∀h,K.In h->h.DictOf (bg P w) a vs
end L2
namespace PySem
section
variable {E:Value->Shared->Prop}{s:Shared}
def HZ{j t:Addr}{xs:Array Value}{v:Value}{Q:Value->Shared->Prop}(c:s.heap.IsTupleIter j t k)(g:s.heap.IsTuple t xs)(h:xs[k]? =some v)
  (q:∀h',h'.IsTupleIter j t (k+1)->cZ j s.heap h'->Q v {s with heap:=h'}):wpAny (model prog w) A (eU (.ref j)) Q E s:=by
 obtain⟨o,b,d,a⟩:=id c;obtain⟨p,e,_,n,f⟩:=g;unfold eU;refine aa (dE (name:=cQ "__next__") c.typeIs iD (cA iD c.typeIs Bx ?_ (Bh _)));show wpAny _ _ (field (.ref j) 0>>=_) _ _ s;refine aa (fz b a (x:=.ref t) rfl ?_);show wpAny _ _ (if(aZ t==bW)=true then _ else _) _ _ s;rw[if_neg (fun z:(aZ t==bW)=true=>absurd z aA)];show wpAny _ _ (field (.ref j) 1>>=_) _ _ s;refine aa (fz b a (x:=.int k 0) rfl ?_);show wpAny _ _ (mo (.ref t)>>=_) _ _ s;refine aa (fE e f ?_);simp only[ba,h];refine aa (sH b a (by simp) (aj ⟨v,rfl,aj (q _ ?_ (bM ..))⟩));exact⟨_,cP _ b (pC (iY a _)),(Obj.cls_mapFields ..).trans d,by rw[iY a];simp[rawInt]⟩
def Dw{j t:Addr}{xs:Array Value}{Q:Value->Shared->Prop}(f:A.handled=none)(d:s.heap.IsTupleIter j t k)(i:s.heap.IsTuple t xs)(l:xs[k]? =none)
  (q:∀h' e,Heap.ExtBut j s.heap h'->(∃o,h'.get? e=some o/\o.cls=.type "StopIteration")->E (.ref e) {s with heap:=h'}):wpAny (model prog w) A (eU (.ref j)) Q E s:=by
 obtain⟨o,b,r,c⟩:=id d;obtain⟨p,g,_,n,h⟩:=i;unfold eU;refine aa (dE (name:=cQ "__next__") d.typeIs iD (cA iD d.typeIs Bx ?_ (Bh _)));show wpAny _ _ (field (.ref j) 0>>=_) _ _ s;refine aa (fz b c (x:=.ref t) rfl ?_);show wpAny _ _ (if(aZ t==bW)=true then _ else _) _ _ s;rw[if_neg (fun z:(aZ t==bW)=true=>absurd z aA)];show wpAny _ _ (field (.ref j) 1>>=_) _ _ s;refine aa (fz b c (x:=.int k 0) rfl ?_);show wpAny _ _ (mo (.ref t)>>=_) _ _ s;refine aa (fE g h ?_);simp only[ba,l];refine aa (gL (aa (sH b c (by simp) ?_)));show wpAny _ _ (newExc (.type "StopIteration") []>>=_) _ _ _;refine aa ?_;simp only[newExc,newTuple];refine aa (bL ?_ (by size_fits));refine aa (m:=sN _ _) (nK (a:=bW) (by first |rfl| (simp only[sN];rfl)) ?_);refine bL ?_ (by size_fits);simp only[FU];refine aa (wpAny_handled ?_);first |rw[show A.in1.handled=none from f] |rw[f]
 refine aa (aj (wpAny_throw ?_));exact q _ _ (((bM ..).extBut.push _).push _) ⟨_,az _ rfl,rfl⟩
end
end PySem
namespace L2
open PySem PySem.Spec PyProof.Rows
def tup_ne{g:Array Value}{o:Obj}(f:h.IsTuple a g)(b:h.get? c=some o)(d:o.cls≠.type "tuple"):a≠c:=by obtain⟨i,e,k,_⟩:=f;rintro rfl;rw[e]at b;cases b;exact d k
end L2
namespace PySem
open Sem (wp)
local macro_rules | `(term| «the numeral») => return Lean.mkIdent (cJ (cJ (cJ (Lean.Name.num (cJ (cJ (cJ (cJ (cJ Bv "_private") "PySem") "Builtin") "Int") "W0All") 0) "PySem") "Builtin") "readNumeral")
local macro_rules | `(term| «a value») => return Lean.mkIdent (cJ (cJ (cJ (cJ (Lean.Name.num (cJ (cJ (cJ (cJ (cJ Bv "_private") "PySem") "Builtin") "Int") "W0All") 0) "PySem") "Builtin") "Numeral") "value")
end PySem
namespace L2
open PySem PySem.Spec PyProof.Rows
inductive Fig:Str->Int->Prop
 |one {a:Nat} (h:a<10):Fig ⟨#[48+a]⟩ (a:Nat)
 |two {a b:Nat} (ha:a<10) (hb:b<10):Fig ⟨#[48+a,48+b]⟩ (10*a+b:Nat)
end L2
namespace Q
open PySem PySem.Spec PySem.W PyProof.Rows L2
abbrev llt:List Int->List Int->Bool
 | [],[]=>false
 | [],_::_=>true
 |_::_,[]=>false
 |a::x,b::y=>decide (a<b)||(decide (a=b)&&llt x y)
theorem qZ:∀{x y z:List Int},llt x y=true->llt y z=true->llt x z=true
 | [],[],_,h,_=>nomatch h
 | [],_::_,[],_,h=>nomatch h
 | [],_::_,_::_,_,_=>rfl
 |_::_,[],_,h,_=>nomatch h
 |_::_,_::_,[],_,h=>nomatch h
 |a::x,b::y,c::z,h,k=>by
  simp only[llt,dS,aL,decide_eq_true_eq]at h k⊢;rcases h with h|⟨rfl,h⟩
  ·rcases k with k|⟨rfl,k⟩;·exact .inl (by lia)
   ·exact .inl h
  ·rcases k with k|⟨rfl,k⟩;·exact .inl k
   ·exact .inr ⟨rfl,qZ h k⟩
theorem iM:∀{x y:List Int},x≠y->llt x y= !llt y x
 | [],[],h=>absurd rfl h
 | [],_::_,_=>rfl
 |_::_,[],_=>rfl
 |a::x,b::y,h=>by
  by_cases e:a=b;·subst e;have :=iM (x:=x) (y:=y) fun z=>h (by rw[z]);simp[llt,this]
  ·by_cases c:a<b
   ·have :¬b<a:=by lia
    simp[llt,c,this,e,bO e]
   ·have :b<a:=by lia
    simp[llt,c,this,e,bO e]
abbrev ltL(ps:List (List Int))(i j:Nat):Bool:=llt (ps.getD i []) (ps.getD j [])
abbrev EZ(ps:List (List Int)):List Nat:=if ps.length<2 then ay ps.length else(run (ltL ps) (dH ps.length)).toList
abbrev dk{α:Type}(d:α)(ps:List (List Int))(ys:List α):List α:=(EZ ps).map fun i=>ys.getD i d
def neL(nd:ps.Nodup)(hi:i<ps.length)(a:j<ps.length)(h:i≠j):ps.getD i []≠ps.getD j []:=fun e=>by rw[af,af,ae hi,ae a]at e;exact h ((fo nd).mp e)
def Ez(nd:ps.Nodup):Tot (ltL ps) ps.length where
 tri:=fun i j hi c h=>iM (neL nd hi c h)
 tr:=fun i j k _ _ _ a b=>qZ a b
theorem lA(nd:ps.Nodup):(EZ ps).Perm (ay ps.length):=by
 unfold EZ;split;·exact fh _
 ·have P:=(fL (Ez nd) (by lia)).1;have :=gU.mp P.perm;simpa using this
theorem qW(nd:ps.Nodup)(f:ps.length=ys.length)(r:bZ ys vs):bZ (dk .non ps ys) (fT (ltL ps) vs):=by
 have o:=r.length;have e:vs.length=ps.length:=by lia
 unfold fT dk EZ;rw[e];by_cases c:ps.length<2
 ·rw[if_pos c,if_pos c];have a:(ay ps.length).map (fun i=>ys.getD i V.non)=ys:=by
   rw[f];apply cU;·simp
   ·intro i n b;simp[b]
  rw[a];exact r
 ·rw[if_neg c,if_neg c];have P:=(fL (Ez nd) (by lia)).1;have all:∀l:List Nat,(∀i∈l,i<ps.length)->bZ (l.map fun i=>ys.getD i V.non) (l.map fun i=>vs.getD i bW):=by
   intro l
   induction l with
   |nil=>exact fun _=>.nil
   |cons i l ih=>
    intro h;have hi:i<ys.length:=by have :=h i (.head _);lia
    obtain⟨u,g,k⟩:=r.get (ae hi);refine .cons ?_ (ih fun j d=>h j (.tail _ d));show L2.RelV (ys.getD i V.non) (vs.getD i bW);rw[af,ae hi,af,g];exact k
  refine all _ fun i hi=>?_;have m:i∈(ay ps.length).toArray:=P.perm.mem_iff.mp (jJ.mp hi);simpa using m
def j4(h:Heap)(vs:List Value)(ps:List (List Int)):Prop:=Paired (fun v k=>∃a o ad n,v=.ref a/\h.get? a=some o/\o.cls=.type "tuple"/\o.data=.seq ad n/\cD ad.toList k) vs ps
def jb(r:j4 h vs ps)(hi:i<vs.length):∃a o ad n,vs.getD i .none=.ref a/\h.get? a=some o/\o.data=.seq ad n/\cD ad.toList (ps.getD i []):=by
 unfold j4 at r
 induction r generalizing i with
 |nil=>exact absurd hi (gI _)
 |cons y t ih=>
  cases i with
  |zero=>obtain⟨a,o,ad,n,b,c,f,d,e⟩:=y;exact⟨a,o,ad,n,b,c,d,e⟩
  |succ i=>exact ih (by simpa using hi)
def IQ(s:∀b o,h.get? b=some o->h1.get? b=some o)(r:j4 h vs ps)(e:∀k∈ps,k≠[]):∃fs,KatTups h1 vs fs/\fs.length=vs.length/\∀v∈fs,∃x t,v=hU x t:=by
 unfold j4 at r
 induction r with
 |nil=>exact⟨[],.nil,rfl,fun v hv=>nomatch hv⟩
 | @cons v k vs ps y t ih=>
  obtain⟨fs,f,g,i⟩:=ih fun k c=>e k (av _ c);obtain⟨a,o,q,n,rfl,j,m,p,d⟩:=y;have c:=e k au;obtain⟨l⟩:=q;cases l with
  |nil=>cases d;exact absurd rfl c
  |cons u l=>
   cases d with
   |cons x t h=>
    refine⟨_::fs,.cons (s _ _ j) m p rfl f,by simp[g],fun v hv=>?_⟩;rcases aI.mp hv with rfl|hv;·exact⟨_,_,rfl⟩
    ·exact i v hv
def Iz{b j:Bool}{C:Bool->Shared->Prop}{xs ys:List Value}{x y:List Int}(i:Nat)(g:cD xs x)(d:cD ys y)(f:x.length=y.length)(h:x≠y)(q:C (llt x y) s):KatLex prog w A b j C (xs.zip ys) (i+1) s:=by
 induction g generalizing ys y i with
 |nil=>cases d with
  |nil=>exact absurd rfl h
  |cons=>simp at f
 |cons a t g ih=>cases d with
  |nil=>simp at f
  |cons c u d=>
   refine kat_cons (pf ?_);by_cases e:a=c;·subst e;rw[show(a==a)=true by simp];refine kat_yes (ih (i+1) d (by simpa using f) (fun z=>h (by rw[z])) ?_);simp[llt]at q;exact q
   ·rw[show(a==c)=false by simpa using e];refine kat_no ?_;rw[show(b&&(i+1==0))=false by simp];refine kat_one _ _ (lt_int ?_);simp[llt,e]at q;exact q
theorem qA(nd:ps.Nodup)(f:vs.length=ps.length)(r:j4 h0 vs ps)(V:2<=vs.length)(g:∀k∈ps,k.length=m):FP prog w A (ltL ps) vs h0:=by
 have l:m≠0:=fun z=>by
  have e:∀i,i<ps.length->ps.getD i []=[]:=fun i hi=>by rw[af,ae hi];exact bx.mp ((g _ (ck hi)).trans z)
  exact neL nd (i:=0) (j:=1) (by lia) (by lia) (by decide) ((e 0 (by lia)).trans (e 1 (by lia)).symm)
 intro Y p;refine⟨tuples' true,fun S R q=>?_,fun i j C hi h L q=>?_⟩;·obtain⟨fs,s,U,B⟩:=IQ p r fun k M z=>l (by rw[<-g k M,z];rfl);refine kat_kind (T:=.type "int") s (by lia) (fun v O=>?_) rfl q;obtain⟨x,t,rfl⟩:=B v O;exact Looks.of_pure rfl
 ·obtain⟨a,o,P,n,D,E,F,G⟩:=jb r hi;obtain⟨b,X,Q,W,H,I,J,K⟩:=jb r h;have N:=neL nd (f▸hi) (f▸h) L;have l1:(ps.getD i []).length=m:=by rw[af,ae (f▸hi)];exact g _ (ck _)
  have l2:(ps.getD j []).length=m:=by rw[af,ae (f▸h)];exact g _ (ck _)
  unfold kas_ask;unfold ltL at q;rw[D,H];generalize ps.getD i []=x at *;generalize ps.getD j []=y at *;refine kat_lt (p _ _ E) F (p _ _ I) J ?_;generalize P.toList=xs at *;generalize Q.toList=ys at *;cases G with
  |nil=>exact absurd l1.symm l
  | @cons c t xs x hx=>
   cases K with
   |nil=>exact absurd l2.symm l
   | @cons d u ys y hy=>
    refine kat_cons (pf ?_);by_cases e:c=d;·subst e;rw[show(c==c)=true by simp];refine kat_yes (Iz 0 hx hy (by simp at l1 l2;lia) (fun z=>N (by rw[z])) ?_);simp[llt]at q;exact q
    ·rw[show(c==d)=false by simpa using e];refine kat_no (oneLt_int ?_);simp[llt,e]at q;exact q
def IntKeys(H:Hp)(ys:List V)(ps:List (List Int)):Prop:=Paired (fun v k=>∃a,v=V.ref a/\H a=some (.tup (k.map V.int))) ys ps
def As(h:IntKeys H ys ps):ps.length=ys.length:=by
 unfold IntKeys at h
 induction h with
 |nil=>rfl
 |cons _ _ ih=>simp[ih]
def p5(ok:HOk P w H h)(k:IntKeys H ys ps):bZ ys vs->j4 h vs ps:=by
 unfold IntKeys at k
 induction k generalizing vs with
 |nil=>intro z;cases z;exact .nil
 |cons y t ih=>
  intro z;cases z with
  |cons r q=>obtain⟨a,rfl,e⟩:=y;cases r;obtain⟨_,f,g,o,b,c,n,d⟩:=ok a _ e;exact .cons ⟨a,o,f.toArray,n,rfl,b,c,d,by simpa using intsAre_of g⟩ (ih q)
def Hn(K:ao):List V->Hp->VK->Prop:=fun xs H Q=>∃p ys ps m,xs=[V.ref p]/\SqL K H p ys/\ps.length<64/\ps.Nodup/\(∀k∈ps,k.length=m)/\IntKeys H ys ps/\∀l,H l=none->Q (.ref l) (upd H l (.lst (dk .non ps ys)))
def yO:gp X (.builtin "sorted") (Hn X.K):=by
 intro B s E H D C Q I r h;obtain⟨p,g,a,m,rfl,hq,y,nd,t,i,q⟩:=h;obtain⟨u,rfl,x⟩:=vals1 r;cases x;obtain⟨d,f,w,A⟩:=I.list hq;have n:a.length=g.length:=As i;have z:=f.length;have j:d.length=a.length:=by lia
 refine qR (lt:=ltL a) (vs:=d) (by rw[j];exact Ez nd) w.isList (by lia) (fun k=>qA nd j (p5 I.hok i f) k t) ?_;obtain⟨c,l⟩:=sortedAll_at s.heap d (fT (ltL a) d).toArray;have v:(dk V.non a g).length<=sizeLine:=by unfold dk;rw[ak,(lA nd).length_eq,bC];lia
 exact⟨.ref (s.heap.objs.size+1),_,I.laid (t':=s.toks) (fun b o e=>JV e) (eR _) (show d7 X.prog X.w _ _ _ (.lst (dk .non a g))from⟨v,_,c,qW nd n f,l⟩),rfl,q _ (I.hok.fresh (eR _))⟩
theorem Al:∀x:List Int,llt x x=false
 | []=>rfl
 |a::x=>by simp[llt,Al x]
def DJ{B:Builtin}{op:CmpOp}{f:List Int->List Int->Bool}(H:(B=Builtin.«tuple.__lt__»/\op=.Lt/\f=llt)\/(B=Builtin.«tuple.__gt__»/\op=.Gt/\f=fun a b=>llt b a)){p q:Addr}{a b:List Int}{P:eG->Shared->Prop}(M:IsTup s.heap p us.toArray)(J:IsTup s.heap q vs.toArray)
  (C:cD us a)(D:cD vs b)(I:a.length=b.length)
  (h:P (.done (.ret (.bool (f a b)))) s):wpAny (model prog w) A (B ⟨[.ref p,.ref q],[]⟩) P E s:=by
 have⟨g,ci,fc⟩:∃g:Int->Int->Bool,(∀{m n:Int}{t u:Nat}{s:Shared}{Q:Value->Shared->Prop},Q (.bool (g m n)) s->wpAny (model prog w) A (dU op (.int m t) (.int n u)) Q E s)/\∀{m n:Int}{x y:List Int},m≠n->f (m::x) (n::y)=g m n:=by
  rcases H with⟨_,rfl,rfl⟩ |⟨_,rfl,rfl⟩;·exact⟨fun m n=>decide (m<n),fun q=>lt_int q,fun c=>by simp[llt,c]⟩
  ·exact⟨fun m n=>decide (n<m),fun q=>PyProof.Rows.gt_int q,fun c=>by simp[llt,bO c]⟩
 rcases H with⟨rfl,rfl,hf⟩ |⟨rfl,rfl,hf⟩
 all_goals
  show wpAny _ _ (isInstance (.ref q) (.type "tuple")>>=_) _ _ s;refine aa (pb J.typeIs isSubtype_tuple_tuple ?_);simp only[fm,aN,if_false];refine aa (vo M ?_);refine aa (vo J ?_);refine aa ?_;show wpAny _ _ (forIn (us.zip vs) _ _) _ _ s;refine pd _ (fun K r G=>r.1=none/\G=s/\∃k l o v,K=List.zip k l/\k.length=l.length/\cD k o/\cD l v/\f a b=f o v) _ ?_ ?_ _ _ ⟨rfl,rfl,us,vs,a,b,rfl,by rw[C.length,D.length,I],C,D,rfl⟩
  ·rintro x K ⟨r,_⟩ G ⟨F,rfl,k,l,o,v,e,j,i,d,z⟩;obtain rfl:r=none:=F;cases i with
   |nil=>cases e
   |cons m t i=>
    cases d with
    |nil=>cases j
    |cons n u d=>
     rw[k9]at e;cases e;dsimp only;refine aa (pf ?_);by_cases c:m=n;·rw[show(m==n)=true by simpa using c];simp only[fm,aN,if_false];refine aj ⟨rfl,rfl,_,_,_,_,rfl,by simpa using j,i,d,?_⟩;rw[z];simp[hf,llt,c]
     ·rw[show(m==n)=false by simpa using c];simp only[Bool.not_false,if_true];rw[z,fc c]at h;refine aa (gL (aa (ci (aa (aj (aj ?_))))));exact aj h
  ·rintro⟨r,_⟩ G ⟨F,rfl,k,l,o,v,e,j,i,d,z⟩;obtain rfl:r=none:=F;dsimp only;have L:f a b=false:=by
    rw[z];cases i with
    |nil=>cases d with
     |nil=>rw[hf];rfl
     |cons n u d=>cases j
    |cons m t i=>cases d with
     |nil=>cases j
     |cons n u d=>rw[k9]at e;cases e
   rw[L]at h;have N:us.toArray.size=vs.toArray.size:=by rw[aD,aD,C.length,D.length,I]
   rw[N];simp only[Builtin.Tuple.tupleCompareSizes,dO,decide_false];exact aj h
def DF{p q:Addr}{a b:List Int}{P:eG->Shared->Prop}(f:IsTup s.heap p us.toArray)(g:IsTup s.heap q vs.toArray)
  (c:cD us a)(d:cD vs b)(e:a.length=b.length)
  (h:P (.done (.ret (.bool (llt a b)))) s):wpAny (model prog w) A (Builtin.«tuple.__lt__» ⟨[.ref p,.ref q],[]⟩) P E s:=DJ (.inl ⟨rfl,rfl,rfl⟩) f g c d e h
def gt_tree{p q:Addr}{a b:List Int}{P:eG->Shared->Prop}(g:IsTup s.heap p us.toArray)(i:IsTup s.heap q vs.toArray)
  (c:cD us a)(d:cD vs b)(e:a.length=b.length)
  (h:P (.done (.ret (.bool (llt b a)))) s):wpAny (model prog w) A (Builtin.«tuple.__gt__» ⟨[.ref p,.ref q],[]⟩) P E s:=DJ (f:=fun a b=>llt b a) (.inr ⟨rfl,rfl,rfl⟩) g i c d e h
section
variable {I:Addr}{fp wr:List Addr}{G:Array i7->Array i7->Prop}{P:Nat->Value->Prop}{St:Nat->Shared->Prop}{R:Result->Shared->Prop}
def Io{N:String}{B:Builtin}{op:CmpOp}(m:FW table N=some B)(k:plainId N=true)(n:(N="min.loop"/\B=Builtin.«min.loop»/\op=.Lt)\/(N="max.loop"/\B=Builtin.«max.loop»/\op=.Gt))(W:WalksS prog w A.in1 I fp wr G 2 P St)(q:S∉fp){v0 v1:Value}(h0:∀v,P 0 v->v=v0)(M:∀v,P 1 v->v=v1){c:Nat}{bt:Bool}(U:St 0 s)
  (J:s.heap.get? S=some {cls:=.type "list",dict:=none,data:=.seq #[] c,slots:= #[]})
  (T:∀(s':Shared)(Q:Value->Shared->Prop)(E:Value->Shared->Prop),Moved (S::wr) G s s'->Q (.bool bt) s'->wpAny (model prog w) A.in1 (richCompare op v1 v0) Q E s')
  (O:∀s',Moved (S::wr) G s s'->R (.ok (.ret (if bt=true then v1 else v0))) s'):je (model prog w) A (.builtin N ⟨[.ref I,.none,.ref S],[]⟩) R s:=by
 have r:S∉wr:=fun h=>q (W.sub _ h);have H:∀b∈wr,b∈S::wr:=fun b f=>av _ f;have nm:(toString "min"++toString ".loop":String)="min.loop":=by decide
 have C:(toString "max"++toString ".loop":String)="max.loop":=by decide
 have D:∀{b:Addr},b∉S::wr->S≠b:=fun f h=>f (by rw[h];exact au)
 --the u turn
 have u:∀(a:Shared)(x:Value)(d:Nat),St 2 a->a.heap.get? S=some {cls:=.type "list",dict:=none,data:=.seq #[x,x] d,slots:= #[]}->Moved (S::wr) G s a->x=(if bt=true then v1 else v0)->
   je (model prog w) A (.builtin N ⟨[.ref I,.none,.ref S],[]⟩) R a:=by
  intro a x d F g y L;refine dW m ?_;rw[cV k _];rcases n with⟨rfl,rfl,rfl⟩ |⟨rfl,rfl,rfl⟩
  all_goals
   show wpAny _ A.in1 (mo (.ref S)>>=_) _ _ a;refine aa (fE g rfl ?_);show wpAny _ A.in1 (tryCatch (pyNext (.ref I)) _>>=_) _ _ a;refine aa (sG (W.done a _ _ F fun s' j=>?_));have i:=j.heap S _ r g;show wpAny _ A.in1 (updateSeq S (fun _=> #[])>>=_) _ _ _;refine aa (C2 i rfl (aa (nL (aj ?_))));rw[L];exact O _ (vt W.gtrans y ((j.mono H).then_heap (tk:=s'.toks) (aC _) fun b o f e=>(bu _ _ (D f)).trans e))
 --the K
 have K:∀(a:Shared)(d:Nat),St 1 a->a.heap.get? S=some {cls:=.type "list",dict:=none,data:=.seq #[v0,v0] d,slots:= #[]}->Moved (S::wr) G s a->
   je (model prog w) A (.builtin N ⟨[.ref I,.none,.ref S],[]⟩) R a:=by
  intro a d F g y;refine dW m ?_;rw[cV k _];rcases n with⟨rfl,rfl,rfl⟩ |⟨rfl,rfl,rfl⟩
  all_goals
   show wpAny _ A.in1 (mo (.ref S)>>=_) _ _ a;refine aa (fE g rfl ?_);show wpAny _ A.in1 (tryCatch (pyNext (.ref I)) _>>=_) _ _ a;refine aa (sG (W.item 1 a _ _ (by decide) F fun v s' p l j=>?_));obtain rfl:=M v p;have i:=j.heap S _ r g;have z:=vt W.gtrans y (j.mono H);show wpAny _ A.in1 (tryCatch (holding [v,v] (richCompare _ v v0>>=_)) _>>=_) _ _ _;refine aa (sG (bQ (aa (T _ _ _ z ?_))));refine aa (bQ (dQ ?_));refine aa (nL (aj ?_));cases f:bt with
   |true=>
    simp only[if_true];refine aa (C2 i rfl (aa (nL ?_)))
    first |rw[nm] |rw[C]
    refine aj ⟨fA k _,u _ v _ (W.frame _ s' _ s'.toks l (aC _) fun b t o e=>?_) (cP _ i rfl) (z.then_heap (aC _) fun b o f e=>(bu _ _ (D f)).trans e) (by rw[f];rfl)⟩;exact(bu _ _ (fun h:S=b=>q (by rw[h];exact t))).trans e
   |false=>
    simp only[aN,if_false];refine aa (nL ?_)
    first |rw[nm] |rw[C]
    exact aj ⟨fA k _,u _ v0 _ l i z (by rw[f];rfl)⟩
 refine dW m ?_;rw[cV k _];rcases n with⟨rfl,rfl,rfl⟩ |⟨rfl,rfl,rfl⟩
 all_goals
  show wpAny _ A.in1 (mo (.ref S)>>=_) _ _ s;refine aa (fE J rfl ?_);show wpAny _ A.in1 (tryCatch (pyNext (.ref I)) _>>=_) _ _ s;refine aa (sG (W.item 0 s _ _ (by decide) U fun v s' p l j=>?_));obtain rfl:=h0 v p;have i:=j.heap S _ r J;show wpAny _ A.in1 (updateSeq S (fun _=> #[v,v])>>=_) _ _ _;refine aa (C2 i rfl ?_)
  first |rw[nm] |rw[C]
  refine aj ⟨fA k _,K _ _ (W.frame _ s' _ s'.toks l (aC _) fun b t o e=>?_) (cP _ i rfl) ((j.mono H).then_heap (aC _) fun b o f e=>(bu _ _ (D f)).trans e)⟩;exact(bu _ _ (fun h:S=b=>q (by rw[h];exact t))).trans e
def mm_go{N:String}{B:Builtin}{op:CmpOp}(k:FW table N=some B)(L:plainId N=true)(t:(N="min.loop"/\B=Builtin.«min.loop»/\op=.Lt)\/(N="max.loop"/\B=Builtin.«max.loop»/\op=.Gt))(y:A.handled=none){p q:Addr}{bt:Bool}
  (x:∀(s':Shared)(Q:Value->Shared->Prop)(E:Value->Shared->Prop),(∀c o,s.heap.get? c=some o->s'.heap.get? c=some o)->Q (.bool bt) s'->wpAny (model prog w) A.in1 (richCompare op (.ref q) (.ref p)) Q E s')
  (h:∀h' tk,(∀c o,s.heap.get? c=some o->h'.get? c=some o)->R (.ok (.ret (if bt=true then .ref q else .ref p))) {s with heap:=h',toks:=tk}) (l:n=s.heap.objs.size+1) (j:m=s.heap.objs.size+2):
  je (model prog w) A (.builtin N ⟨[.ref n,.none,.ref m],[]⟩) R {s with heap:=((s.heap.push {cls:=.type "tuple",data:=.seq #[.ref p,.ref q]}).push {cls:=.type "tuple_iterator",data:=.fields #[.ref s.heap.objs.size,.int 0 0]}).push {cls:=.type "list",data:=.seq #[]}}:=by
 have u:(s.heap.push {cls:=.type "tuple",data:=.seq #[.ref p,.ref q]}).IsTuple s.heap.objs.size #[.ref p,.ref q]:=⟨_,az _ rfl,rfl,0,rfl⟩;have C:(s.heap.push {cls:=.type "tuple",data:=.seq #[.ref p,.ref q]}).objs.size=s.heap.objs.size+1:=bV ..;have D:∀o d:Obj,((s.heap.push o).push d).objs.size=s.heap.objs.size+2:=fun o d=>by rw[bV,bV]
 rw[l,j];have old:∀{G:Array i7->Array i7->Prop}{F H I:Obj}{s':Shared},Moved [s.heap.objs.size+2,s.heap.objs.size+1] G {s with heap:=((s.heap.push F).push H).push I} s'->∀c o,s.heap.get? c=some o->s'.heap.get? c=some o:=fun a c o e=>by have z:=aB e;refine a.heap c o (fun b=>?_) (ai _ (ai _ (ai _ e)));simp only[aI,dF,or_false]at b;rcases b with e|e<;>exact absurd z (by rw[e];exact A9.mpr (jH _ _))
 refine Io k L t (v0:=.ref p) (v1:=.ref q) (bt:=bt) ((Walks.tuple (A:=A.in1) y _ s.heap.objs.size (aO (dI _)) #[.ref p,.ref q]).toS) (by simp) (fun v e=>by simpa using e.symm) (fun v e=>by simpa using e.symm) ⟨⟨_,ai _ (C▸az _ rfl),rfl,rfl⟩,(u.push _).push _⟩ (D _ _▸az _ rfl) (fun s' g f a=>x s' g f (old a)) fun s' a=>?_;have J:=old a;obtain⟨h',r,i,M,K⟩:=s';obtain rfl:r=s.gens:=a.gens;obtain rfl:i=s.drawn:=a.drawn;obtain rfl:K=s.os:=a.os;exact h h' M J
def FF{p q:Addr}{a b:List Int}{Q:Value->Shared->Prop}(j:A.handled=none)(l:A.units+1<cLine)(m:IsTup s.heap p us.toArray)(n:IsTup s.heap q vs.toArray)(g:cD us a)(i:cD vs b)(k:a.length=b.length)
  (h:∀h' tk,(∀c o,s.heap.get? c=some o->h'.get? c=some o)->Q (if llt b a=true then .ref q else .ref p) {s with heap:=h',toks:=tk}):
  wpAny (model prog w) A (call (.builtin "min") [.ref p,.ref q]) Q E s:=by
 refine call_function_tree F.kind_min F.plain_min F.entry_min (F.args_min2 _ _) ?_;show wpAny _ A.in1 (fS "min" ["key","default"] 0 ⟨[],[]⟩>>=_) _ _ s;refine aa (nK (show fS "min" ["key","default"] 0 ⟨[],[]⟩=pure [none,none]from rfl) ?_);show wpAny _ A.in1 (newTuple [.ref p,.ref q]>>=_) _ _ s;refine aa (bL (aa (jk ⟨_,az _ rfl,rfl,0,rfl⟩ (aa (bL ?_)))));rw[show(toString "min"++toString ".loop":String)="min.loop" by decide];refine aj ⟨fA F.plain_min_loop _,mm_go F.entry_min_loop F.plain_min_loop (.inl ⟨rfl,rfl,rfl⟩) j (fun v u t old r=>?_) h (bV ..) ((bV ..).trans (congrArg (·+1) (bV ..)))⟩;have f:=m.keeps old;have d:=n.keeps old;exact lZ (op:=.Lt) d.typeIs f.typeIs pG (cA pG d.typeIs F.entry_tuple_lt (DF d f i g k.symm ⟨_,rfl,(fun e=>nomatch e),r⟩) (F.args_tuple_lt_2 _ _)) l
def FH{p q:Addr}{a b:List Int}{Q:Value->Shared->Prop}(j:A.handled=none)(l:A.units+1<cLine)(m:IsTup s.heap p us.toArray)(n:IsTup s.heap q vs.toArray)(g:cD us a)(i:cD vs b)(k:a.length=b.length)
  (h:∀h' tk,(∀c o,s.heap.get? c=some o->h'.get? c=some o)->Q (if llt a b=true then .ref q else .ref p) {s with heap:=h',toks:=tk}):
  wpAny (model prog w) A (call (.builtin "max") [.ref p,.ref q]) Q E s:=by
 refine call_function_tree F.kind_max F.plain_max F.entry_max (F.args_max2 _ _) ?_;show wpAny _ A.in1 (fS "max" ["key","default"] 0 ⟨[],[]⟩>>=_) _ _ s;refine aa (nK (show fS "max" ["key","default"] 0 ⟨[],[]⟩=pure [none,none]from rfl) ?_);show wpAny _ A.in1 (newTuple [.ref p,.ref q]>>=_) _ _ s;refine aa (bL (aa (jk ⟨_,az _ rfl,rfl,0,rfl⟩ (aa (bL ?_)))));rw[show(toString "max"++toString ".loop":String)="max.loop" by decide];refine aj ⟨fA F.plain_max_loop _,mm_go F.entry_max_loop F.plain_max_loop (.inr ⟨rfl,rfl,rfl⟩) j (fun v u t old r=>?_) h (bV ..) ((bV ..).trans (congrArg (·+1) (bV ..)))⟩;have f:=m.keeps old;have d:=n.keeps old;exact lZ (op:=.Gt) d.typeIs f.typeIs F.slot_tuple_gt (cA F.slot_tuple_gt d.typeIs F.entry_tuple_gt (gt_tree d f i g k.symm ⟨_,rfl,(fun e=>nomatch e),r⟩) (F.args_tuple_gt_2 _ _)) l
end
def rMinL(K:ao):List V->Hp->VK->Prop:=fun xs H Q=>∃(p q:Addr)(a b:List Int),xs=[V.ref p,V.ref q]/\SqT K H p (a.map V.int)/\SqT K H q (b.map V.int)/\a.length=b.length/\Q (if llt b a=true then .ref q else .ref p) H
def rMaxL(K:ao):List V->Hp->VK->Prop:=fun xs H Q=>∃(p q:Addr)(a b:List Int),xs=[V.ref p,V.ref q]/\SqT K H p (a.map V.int)/\SqT K H q (b.map V.int)/\a.length=b.length/\Q (if llt a b=true then .ref q else .ref p) H
def FE(e:X.calm=true)(g:X.A.units+1<cLine):gp X (.builtin "min") (rMinL X.K):=by intro x s B H A y Q I r h;obtain⟨p,q,a,b,rfl,c,d,f,hq⟩:=h;obtain⟨u,z,rfl,l,m⟩:=vals2 r;cases l;cases m;obtain⟨v,n,i,_⟩:=I.tuple c;obtain⟨w,o,j,_⟩:=I.tuple d;refine _root_.Q.FF (I.ok.hd e) g i j (intsAre_of n) (intsAre_of o) f fun t tk k=>⟨_,H,I.kept k,?_,hq⟩;split <;>rfl
def FG(e:X.calm=true)(g:X.A.units+1<cLine):gp X (.builtin "max") (rMaxL X.K):=by intro x s B H A y Q I r h;obtain⟨p,q,a,b,rfl,c,d,f,hq⟩:=h;obtain⟨u,z,rfl,l,m⟩:=vals2 r;cases l;cases m;obtain⟨v,n,i,_⟩:=I.tuple c;obtain⟨w,o,j,_⟩:=I.tuple d;refine _root_.Q.FH (I.ok.hd e) g i j (intsAre_of n) (intsAre_of o) f fun t tk k=>⟨_,H,I.kept k,?_,hq⟩;split <;>rfl
abbrev kP(k:List Int×List Int):List Int:=k.1++k.2
theorem DI:∀{a c:List Int}(b d:List Int),a.length=c.length->llt (a++b) (c++d)=(llt a c||(decide (a=c)&&llt b d))
 | [],[],b,d,_=>by simp[llt]
 |x::a,y::c,b,d,h=>by
  have e:=DI (a:=a) (c:=c) b d (by simpa using h);simp only[vz,llt,e];by_cases e1:x=y;·subst e1;simp
  ·simp[e1]
def P2(h:Heap)(v:Value)(k:List Int×List Int):Prop:=∃a o ad n x y rest us ws,v=.ref a/\h.get? a=some o/\o.cls=.type "tuple"/\o.data=.seq ad n/\ad.toList=.ref x::.ref y::rest/\IsTup h x (us:List Value).toArray/\IsTup h y (ws:List Value).toArray/\cD us k.1/\cD ws k.2
def P2s(h:Heap)(vs:List Value)(ps:List (List Int×List Int)):Prop:=Paired (P2 h) vs ps
def p2_at{ps:List (List Int×List Int)}(r:P2s h vs ps)(hi:i<vs.length):P2 h (vs.getD i .none) (ps.getD i ([],[])):=by
 unfold P2s at r
 induction r generalizing i with
 |nil=>exact absurd hi (gI _)
 |cons y t ih=>
  cases i with
  |zero=>exact y
  |succ i=>exact ih (by simpa using hi)
def p2_kat(c:∀b o,h.get? b=some o->h1.get? b=some o){ps:List (List Int×List Int)}(r:P2s h vs ps):∃fs,KatTups h1 vs fs/\fs.length=vs.length/\∀v∈fs,∃x o,v=aZ x/\h1.get? x=some o/\o.cls=.type "tuple":=by
 unfold P2s at r
 induction r with
 |nil=>exact⟨[],.nil,rfl,fun v hv=>nomatch hv⟩
 | @cons v k vs ps y t ih=>
  obtain⟨fs,d,e,f⟩:=ih;obtain⟨a,o,s,n,x,y,u,w,z,rfl,i,j,l,m,⟨q,p,g,_⟩,_⟩:=y;refine⟨.ref x::fs,.cons (c _ _ i) j l (by rw[<-bU,m];rfl) d,by simp[e],fun v hv=>?_⟩;rcases aI.mp hv with rfl|hv;·exact⟨x,q,rfl,c _ _ p,g⟩
  ·exact f v hv
section
variable {E:Value->Shared->Prop}{s:Shared}
def lS{k:List Int}(r:cD us k):ItemsAre (bg prog w) (k.map .inl) us:=by
 induction r with
 |nil=>exact .nil
 |cons n t r ih=>exact .cons (mJ _ _ _ _) ih
def C9{x:Addr}{k:List Int}(t:IsTup h x us.toArray)(r:cD us k):cG (bg prog w) h (k.map .inl) x:=by obtain⟨o,c,a,n,b⟩:=t;exact⟨o,us.toArray,n,c,a,b,lS r⟩
def inl_inj{a c:List Int}:decide (a.map (fB:Int->Key)=c.map fB)=decide (a=c):=by
 refine decide_eq_decide.mpr ⟨fun h=>?_,fun h=>by rw[h]⟩
 induction a generalizing c with
 |nil=>cases c with
  |nil=>rfl
  |cons=>cases h
 |cons x a ih=>cases c with
  |nil=>cases h
  |cons y c=>simp only[bh,sP,fB.injEq]at h;rw[h.1,ih h.2]
def DV{x y:Addr}{b:List Value}{a c:List Int}{Q:Bool->Shared->Prop}(f:A.units<cLine)(g:IsTup s.heap x us.toArray)(i:IsTup s.heap y b.toArray)(d:cD us a)(e:cD b c)(h:Q (decide (a=c)) s):wpAny (model prog w) A (eqBool (.ref x) (.ref y)) Q E s:=by rw[<-inl_inj]at h;exact vW (knd:=bg prog w) f (C9 g d) (C9 i e) h
def DE{x y:Addr}{f:List Value}{a c:List Int}{Q:Bool->Shared->Prop}(k:A.units<cLine)(b:IsTup s.heap x us.toArray)(d:IsTup s.heap y f.toArray)(g:cD us a)(i:cD f c)(j:a.length=c.length)(h:Q (llt a c) s):wpAny (model prog w) A (oneLt' false (.ref x) (.ref y)) Q E s:=
 kat_one _ _ (lZ (op:=.Lt) b.typeIs d.typeIs pG (cA pG b.typeIs F.entry_tuple_lt (DF b d g i j ⟨_,rfl,(fun e=>nomatch e),h⟩) (F.args_tuple_lt_2 _ _)) k)
end
def AM{ps:List (List Int×List Int)}(i:Nat):(ps.map kP).getD i []=kP (ps.getD i ([],[])):=by rw[af,af,ax];cases ps[i]? <;>rfl
def asks_p2{ps:List (List Int×List Int)}(f:A.units<cLine)(nd:(ps.map kP).Nodup)(I:vs.length=ps.length)(r:P2s h0 vs ps)(h2:2<=vs.length)(J:∀k∈ps,k.1.length=m/\k.2.length=m):FP prog w A (ltL (ps.map kP)) vs h0:=by
 intro s1 d;refine⟨tuples' false,fun Y X q=>?_,fun i j C hi H V q=>?_⟩;·obtain⟨fs,K,a2,L⟩:=p2_kat d r;refine kat_kind (T:=.type "tuple") K (by lia) (fun v W=>?_) rfl q;obtain⟨x,o,rfl,g,h⟩:=L v W;intro A Q E a8 k q;exact jC ⟨o,k _ _ g,h⟩ q
 ·obtain⟨a,o,a0,a5,x,b1,a6,us,ws,g,h,e3,M,N,s,t,u,y⟩:=p2_at r hi;obtain⟨Z,o',a4,n',x',y',a7,a9,b0,O,P,f3,R,S,B,D,F,G⟩:=p2_at r H;have l:=neL nd (i:=i) (j:=j) (by rw[ak];lia) (by rw[ak];lia) V;have l1:(ps.getD i ([],[])).1.length=m/\(ps.getD i ([],[])).2.length=m:=by rw[af,ae (I▸hi)];exact J _ (ck _)
  have l2:(ps.getD j ([],[])).1.length=m/\(ps.getD j ([],[])).2.length=m:=by rw[af,ae (I▸H)];exact J _ (ck _)
  unfold kas_ask;unfold ltL at q;rw[AM,AM]at q l;rw[g,O];generalize ps.getD i ([],[])=k at *;generalize ps.getD j ([],[])=k' at *;obtain⟨b,c⟩:=k;obtain⟨n,p⟩:=k';unfold kP at q l;rw[DI _ _ (l1.1.trans l2.1.symm)]at q;refine kat_lt (d _ _ h) M (d _ _ P) R ?_;rw[N,S];refine kat_cons (DV f (s.keeps d) (B.keeps d) u F ?_);by_cases e:b=n;·subst e;rw[show decide (b=b)=true by simp];have U:c≠p:=fun z=>l (by rw[z]);refine kat_yes (kat_cons (DV f (t.keeps d) (D.keeps d) y G ?_));dsimp only;rw[show decide (c=p)=false by simpa using U];refine kat_no (DE f (t.keeps d) (D.keeps d) y G (l1.2.trans l2.2.symm) ?_);simp[Al]at q;exact q
  ·rw[show decide (b=n)=false by simpa using e];refine kat_no (DE f (s.keeps d) (B.keeps d) u F (l1.1.trans l2.1.symm) ?_);simp[e]at q;exact q
def jZ(H:Hp)(ys:List V)(ps:List (List Int×List Int)):Prop:=Paired (fun v k=>∃a x y rest,v=V.ref a/\H a=some (.tup (.ref x::.ref y::rest))/\H x=some (.tup (k.1.map V.int))/\H y=some (.tup (k.2.map V.int))) ys ps
def xD{ps:List (List Int×List Int)}(h:jZ H ys ps):ps.length=ys.length:=by
 unfold jZ at h
 induction h with
 |nil=>rfl
 |cons _ _ ih=>simp[ih]
def p2_of(ok:HOk P w H h){ps:List (List Int×List Int)}(k:jZ H ys ps):bZ ys vs->P2s h vs ps:=by
 unfold jZ at k
 induction k generalizing vs with
 |nil=>intro z;cases z;exact .nil
 |cons y t ih=>
  intro z;cases z with
  |cons r q=>
   obtain⟨a,x,z,A,rfl,e,g,i⟩:=y;cases r;obtain⟨_,v,b,o,c,d,n,f⟩:=ok a _ e;obtain⟨_,s,j,m⟩:=ok x _ g;obtain⟨_,u,l,p⟩:=ok z _ i;cases b with
   |cons r1 b=>cases b with
    |cons r2 b=>cases r1;cases r2;exact .cons ⟨a,o,_,n,x,z,_,s,u,rfl,c,d,f,rfl,m,p,intsAre_of j,intsAre_of l⟩ (ih q)
def Hm(K:ao):List V->Hp->VK->Prop:=fun xs H Q=>∃(p:Addr)(ys:List V)(ps:List (List Int×List Int))(m:Nat),xs=[V.ref p]/\SqL K H p ys/\ps.length<64/\(ps.map kP).Nodup/\(∀k∈ps,k.1.length=m/\k.2.length=m)/\jZ H ys ps/\∀l,H l=none->Q (.ref l) (upd H l (.lst (dk .non (ps.map kP) ys)))
def yN(v:X.A.units+2<cLine):gp X (.builtin "sorted") (Hm X.K):=by
 intro D s G H F E Q I r h;obtain⟨p,f,a,m,rfl,hq,A,nd,t,i,q⟩:=h;obtain⟨u,rfl,z⟩:=vals1 r;cases z;obtain⟨d,g,y,C⟩:=I.list hq;have n:a.length=f.length:=xD i;have l:(a.map kP).length=f.length:=by rw[ak];exact n
 have B:=g.length;have w:d.length=(a.map kP).length:=by lia
 refine qR (lt:=ltL (a.map kP)) (vs:=d) (by rw[w];exact Ez nd) y.isList (by lia) (fun j=>asks_p2 v nd (by lia) (p2_of I.hok i g) j t) ?_;obtain⟨c,k⟩:=sortedAll_at s.heap d (fT (ltL (a.map kP)) d).toArray;have x:(dk V.non (a.map kP) f).length<=sizeLine:=by unfold dk;rw[ak,(lA nd).length_eq,bC];lia
 exact⟨.ref (s.heap.objs.size+1),_,I.laid (t':=s.toks) (fun b o e=>JV e) (eR _) (show d7 X.prog X.w _ _ _ (.lst (dk .non (a.map kP) f))from⟨x,_,c,qW nd l g,k⟩),rfl,q _ (I.hok.fresh (eR _))⟩
end Q
namespace PySem
noncomputable abbrev eT1(h:Heap)(t:Addr):Heap:=h.push {cls:=.type "tuple_iterator",data:=.fields #[.ref t,.int 0 0]}
noncomputable abbrev eT2(h:Heap)(t:Addr):Heap:=(eT1 h t).push {cls:=.type "enumerate",data:=.fields #[.none,.bool false,.ref h.objs.size,rawInt 0,.none,.none]}
def Aj(t:Addr)(xs:Array Value)(n:Nat)(c:Option Addr)(i:Array (Option Value)):
  Meets (Builtin.«enumerate.__new__» ⟨[.type "enumerate",.ref t],[]⟩) (fun _ R s=>s.heap.get? t=some {cls:=.type "tuple",dict:=c,data:=.seq xs n,slots:=i}/\R (.ok (.ret (.ref (eT1 s.heap t).objs.size))) {s with heap:=eT2 s.heap t}):=
 .of_wp fun k w A R s h=>by
  obtain⟨e,g,d,tk,f⟩:=s;obtain⟨a,h⟩:=h;have j:=sub_enumerate;have b:Heap.IsTuple (Shared.heap ⟨e,g,d,tk,f⟩) t xs:=⟨_,a,rfl,n,rfl⟩
  wp_walk using lq a
  refine wpAny_stack_any fun l=>aj ?_;split;·rename_i cc _ _ _ _ _;generalize(cc==rF "enumerate")=bb;cases bb<;>(wp_walk using lq a,jk b;exact⟨_,rfl,h⟩)
  ·wp_walk using lq a,jk b
   exact⟨_,rfl,h⟩
section
variable {E:Value->Shared->Prop}{s:Shared}
def CN{t:Addr}{xs:Array Value}{Q:Value->Shared->Prop}(i:s.heap.IsTuple t xs)
  (q:∀h',IsEnum h' (s.heap.objs.size+1) s.heap.objs.size 0 .none->h'.IsTupleIter s.heap.objs.size t 0->(∀c o,s.heap.get? c=some o->h'.get? c=some o)->Q (.ref (s.heap.objs.size+1)) {s with heap:=h'}):
  wpAny (model prog w) A (call (.type "enumerate") [.ref t]) Q E s:=by
 obtain⟨⟨c,b,d,k⟩,e,f,n,g⟩:=i;obtain rfl:c=rF "tuple":=f;obtain rfl:d=Data.seq xs n:=g;have l:(eT1 s.heap t).objs.size=s.heap.objs.size+1:=bV ..;have a:(eT2 s.heap t).get? (eT1 s.heap t).objs.size=some _:=az _ rfl;have h:(eT2 s.heap t).get? s.heap.objs.size=some _:=ai _ (az _ rfl);refine callType_new F.called_enumerate (by decide) (F.typeCall_enumerate_1 _) (F.newCall_enumerate_1 _) (fun j=>F.args_object_init_2 j _) F.entry_enumerate_new (Aj t xs n b k) ⟨e,?_⟩;show _/\_;rw[l]at a⊢;exact⟨⟨_,a,rfl⟩,q _ a ⟨_,h,rfl,rfl⟩ fun c o x=>ai _ (ai _ x)⟩
end
def drawsT(l:A.handled=none)(j t:Addr)(n:t≠j)(xs:Array Value):
  Draws prog w A j [j,t] xs.size (fun i v=>xs[i]? =some v) (fun i h=>h.IsTupleIter j t i/\h.IsTuple t xs) where
 live:=fun _ _ a=>by obtain⟨⟨o,b,_⟩,_⟩:=a;exact⟨o,b⟩
 frame:=fun _ _ _ a c=>by obtain⟨⟨o,b,r⟩,⟨e,p,q⟩⟩:=a;exact⟨⟨o,c j (by simp) o b,r⟩,⟨e,c t (by simp) e p,q⟩⟩
 item:=fun i s Q E hi a k=>HZ a.1 a.2 (v:=xs[i]) (by simp[hi]) fun f m d=>k _ f s.toks (by simp[hi]) ⟨m,a.2.extBut d.extBut n⟩ d
 done:=fun s Q E a g=>Dw l a.1 a.2 (by simp) g
end PySem
namespace L2
open PySem PySem.Spec PyProof.Rows
noncomputable abbrev Itet(K:ao)(a:Addr):It:=IteG fun H xs=>SqT K H a xs
def en_tup(a f:Addr):En a f (fun K H xs=>SqT K H a xs) (fun i h=>h.IsTupleIter f a i) where
 obj:=fun i h j=>by obtain⟨o,p,c,d⟩:=j;exact⟨o,p,fun v z=>by rw[d]at z;cases z⟩
 kp:=fun i h l j k=>by obtain⟨o,u,r⟩:=j;exact⟨o,k o u,r⟩
 one:=fun I h l=>I.qN h l
 src:=fun{X _ _ _ s xs i} I m hq n=>by
  obtain⟨g,y,b,A⟩:=I.tuple hq;have b:s.heap.IsTuple a g.toArray:=b;have t:a≠f:=by obtain⟨B,w,x,_⟩:=id n;exact tup_ne b w (by rw[x];decide+kernel)
  exact⟨g,fun h=>h.IsTuple a g.toArray,y,b,fun e o q c=>bO (tup_ne b q (by rw[c];decide+kernel)),drawsT m f a t g.toArray,fun h Q E k=>Dw m n b (C8 h) k⟩
section
variable {es:List Expr}{kk:Nat}
def IY(K:ao)(t:TA):TI:=fun σ H R=>t σ H fun vs H1=>∃a,vs=[.ref a]/\(∃xs,SqT K H1 a xs)/\R (Itet K a) H1
def HD{l:Expr}{t:TA}{p:Pos}(k:Gl X "enumerate")(n:X.mg "enumerate"=none)(i:PA X [l] t)(hs:cf [l] X.env=[(false,eval l X.env)]:=by rfl):
  PI X (.Tuple es kk pp) (.Call (.Name "enumerate" p) [l] [] pos) (IY X.K t):=by
 intro w s D H R I h;refine Call_ (i5 I k n boot_enumerate (cH (thn (i pos w s D H _ I h) fun K B ⟨L,d,c,y,x⟩=>?_) hs rfl));obtain⟨a,rfl,⟨M,hq⟩,q⟩:=x;obtain⟨u,rfl,A⟩:=y.one;cases A;obtain⟨r,G,b,F⟩:=c.tuple hq;have b:B.heap.IsTuple a r.toArray:=b;exact CN b fun E j m v=>c.enum (en_tup a _) j m v q fun o g C J e t z f q=>⟨o,g,C,J,d,rfl,e,t,z,f,q⟩
end
end L2
namespace L2
open PySem PySem.Spec PySem.W PyProof.Rows
abbrev isTT:Value->Bool
 |.type t=>decide (t="type")
 |_=>false
abbrev dCl(o:Option Obj)(k:ClassData->Array (Option Value)->Bool):Bool:=match o with
 |some o=>isTT o.cls&&(match o.data with
  |.cls cd=>k cd o.slots
  |_=>false)
 |none=>false
abbrev dMr(l:List Value)(k:Addr->List Value->Bool):Bool:=match l with
 |.ref c::bm=>k c bm
 |_=>false
abbrev dBn(o:Option Value)(k:String->Bool):Bool:=match o with
 |some (.builtin n)=>k n
 |_=>false
abbrev excInI(K:ao)(C f:Addr)(bmB:List Value)(newId:String):Bool:=dCl (K.lookup C) fun cd sl=>dMr cd.mro fun a b=>decide (sl.toList.length=6)&&dBn (sl.toList.getD 4 none) fun n=>
 a==C&&n==newId&& !cd.hasDel&&tailIn K bmB b&&nsOkIn K cd.ns&&nsIn K cd.ns "__init__"==some (some (.ref f))
structure MkX(K:ao)(C f:Addr):Prop where
 ex:excInI K C f bmV "ValueError.__new__"=true
 fn:∃o,K.lookup f=some o/\o.cls=.type "function"
 kp:keepIn K (.ref C)=true
end L2
namespace L2
open PySem PySem.Spec PySem.W PyProof.Rows PySem.Builtin PySem.Builtin.ObjectAttr
abbrev overX:List Value->Bool
 |.ref _::r=>overX r
 |l=>l==bmV
section
variable {E:Value->Shared->Prop}{s:Shared}{e C:Addr}{name:Str}{v:Value}{vs:Array Value}{Q:Unit->Shared->Prop}
structure StX(K:ao)(C:Addr)(name:Str):Prop where
 hs:findIn K (.ref C) "__setattr__"=some (some (.builtin "object.__setattr__"))
 hp:(clsIn K C).any (fun cd=>overX cd.mro)=true
 ht:takerIn K C name=some none
 hd:(clsIn K C).any (·.hasDict)=true
noncomputable abbrev exObj(C:Addr)(d:Option Addr)(vs:Array Value):Obj:={cls:=.ref C,dict:=d,data:=.fields vs}
end
end L2
namespace L2
open PySem PySem.Spec PySem.W PyProof.Rows
structure BsX(K:ao)(B:Addr):Prop where
 ga:specialIn K (.ref B) "__getattribute__"=some (some (.builtin "type.__getattribute__"))
 rd:readsIn K B (.type "type")=true
 fd:findCls K (.ref B) (.type "type") "__init__"=some (.val (.builtin "ValueError.__init__"))
section
variable {pins:List (Addr×Obj)}{s:Shared}
structure NewX(X:Cx)(pins:List (Addr×Obj))(H:Hp)(s:Shared)(a C:Addr)(d:Option Addr):Prop where
 at_:∃x0,s.heap.get? a=some (exObj C d #[.ref x0,.none,.none,.none,.bool false,.none])
 new:X.s₀.heap.get? a=none
 un:H a=none
 pins:∀p∈X.pn++pins,p.1≠a
def E4{M:Model}{Q:Unit->Shared->Prop}(I:Inv X pins σ H s)(c:X.stack=X.env::X.outer)(hf:X.env.frame=some X.env.locals)(n:NewX X pins H s a C d)
  (h:∀s2,Inv X pins σ H s2->Fly X.s₀.heap s2.heap H (X.pn++pins) a (.ref C) d->Q () s2):
  wpAny M X.A (pq (.ref a) X.env) (fun _ s'=>wpAny M X.A (setFlight (.ref a) none) Q E s') E s:=by
 obtain⟨e,b⟩:=n.at_;unfold pq;simp only[hf];refine aa (fz (x:=.none) b rfl (by rfl) ?_);rw[if_neg (show ¬(bW != bW)=true by simp)];exact enter I c hf b rfl (by simp) n.new n.un n.pins h
def JQ(X:Cx)(E:XS):Prop:=∀(pins:List (Addr×Obj))(σ:St)(H:Hp)(s:Shared)(a C:Addr)(d:Option Addr),Inv X pins σ H s->NewX X pins H s a C d->E σ (.ref C) d H->X.xe (.ref a) s
def CP{cd:Value}{outer:List Env}{E:XK}:
  JQ (yJ (CXx P w) P w K mg base N qual scope f cd A outer s H E) (fun _=>E):=by
 intro F L e G a C d I n q;show wpAny _ _ (leaving _ _) _ _ _;unfold leaving;refine aa (E4 I rfl rfl n fun J b c=>?_);obtain⟨⟨T,y,D,x,B,i,l,m,o,p,r,t,u,v,j,k,_⟩,g,h,_⟩:=c;exact⟨a,.ref C,d,e,rfl,b.os,b.bare,b.base,b.hok,⟨⟨T,y,D,x,B,i,l,m,o,p,r,t,u,v,j,k,fun _ z=>nomatch z⟩,g,h,fun _ z=>nomatch z⟩,q⟩
end
end L2
namespace HT
open PySem PyProof.Rows
section
variable {E:Value->Shared->Prop}{s:Shared}
def p9{t:Addr}{lo hi:Option Int}{Q:Value->Shared->Prop}(a:IsTup s.heap t items)(hs:s.heap.IsSliceOf sl vl vu .none)(i:IsPart vl lo)(j:IsPart vu hi)
  (b:sIx items.size 0 lo=0)(c:sIx items.size items.size hi=items.size)(h:Q (.ref t) s):wpAny (model prog w) A (zb (.ref t) (.ref sl)) Q E s:=by
 obtain⟨g,f,e,k⟩:=id hs;have d:s.TypeIs (.ref sl) "slice":=⟨g,f,e⟩;unfold zb;try with_reducible refine bQ ?_
 first |refine aa (aj ?_) |skip
 refine aa (wpAny_sequenceKey a.typeIs (by decide) ?_);refine aa (dE (name:=cQ "__getitem__") a.typeIs dg
  (cA dg a.typeIs entry_tuple_getitem ?_ (args_tuple_getitem _ _)))
 show wpAny _ _ (rH (.ref t)>>=_) _ _ s;refine aa (vo a ?_);refine aa (jC d ?_);rw[if_pos (by decide)];refine aa (lr hs i j ?_);show wpAny _ _ (if(((sIx items.size 0 lo:Nat):Int)==0&&(1:Int)==1&&(sIx items.size items.size hi-sIx items.size 0 lo)==items.size)=true then _ else _) _ _ s;rw[if_pos (by rw[b,c];simp)];refine aa (m:=rJ (.ref t)) ?_;unfold rJ;refine aa (jC a.typeIs (aj ?_));rw[if_pos (by decide)];exact aa (gL (aj ⟨_,rfl,aj h⟩))
end
end HT
namespace L2
open PySem PySem.Spec PySem.W PyProof.Rows
def rSlW(K:ao):V->Option Int->Option Int->Hp->VK->Prop:=fun x lo hi H Q=>∃a xs,x=.ref a/\SqT K H a xs/\HT.sIx xs.length 0 lo=0/\HT.sIx xs.length xs.length hi=xs.length/\Q (.ref a) H
def sl_tupW:SlR X (rSlW X.K):=by
 intro o s w H x v t u lo hi p Q I l f j k h;obtain⟨a,m,rfl,g,d,e,q⟩:=h;cases l;obtain⟨i,r,c,n⟩:=I.tuple g;have b:i.toArray.size=m.length:=by rw[aD];exact r.length.symm
 refine⟨"tuple",_,dg.lookup,c.typeIs,?_⟩;exact HT.p9 c f j k (by rw[b];exact d) (by rw[b];exact e) ⟨.ref a,H,I,rfl,q⟩
end L2
namespace Q
open PySem
def rD(xs:Array Nat):Prop:=xs.toList.Pairwise (·<·)
structure Parts(xs:Array Nat)(j p:Nat):Prop where
 le:p<=xs.size
 lo:∀i x,i<p->xs[i]? =some x->x<j
 hi:∀i x,p<=i->xs[i]? =some x->j<=x
def sS{xs:Array Nat}(h:rD xs){x y:Nat}(e:i<k)(f:xs[i]? =some x)(j:xs[k]? =some y):x<y:=by
 have g:xs.toList[i]? =some x:=by simpa using f
 have l:xs.toList[k]? =some y:=by simpa using j
 obtain⟨c,a⟩:=aM.mp g;obtain⟨d,b⟩:=aM.mp l;have :=fC.mp h i k c d e;rw[a,b]at this;exact this
theorem uJ{xs:Array Nat}(h:rD xs)(j:Nat):∀(fuel lo hi:Nat),hi-lo<=fuel->lo<=hi->hi<=xs.size->(∀i x,i<lo->xs[i]? =some x->x<j)->(∀i x,hi<=i->xs[i]? =some x->j<=x)->Parts xs j (zf xs j fuel lo hi)
 | 0,lo,hi,hf,hl,hs,a,b=>by
  have e:lo=hi:=by lia
  subst e;exact⟨hs,a,b⟩
 |fuel+1,lo,hi,hf,hl,hs,a,b=>by
  unfold zf;by_cases c:lo<hi
  ·rw[if_pos c];have g:(lo+hi)/2<xs.size:=by lia
   have f:xs[(lo+hi)/2]? =some xs[(lo+hi)/2]:=by simp[g]
   have l:xs.getD ((lo+hi)/2) j=xs[(lo+hi)/2]:=by simp[J7,g]
   simp only[l];by_cases d:xs[(lo+hi)/2]<j
   ·rw[if_pos d];refine uJ h j fuel _ hi (by lia) (by lia) hs (fun i x m e=>?_) b;by_cases k:i=(lo+hi)/2;·subst k;rw[f]at e;cases e;exact d
    ·exact fP (sS h (by lia) e f) d
   ·rw[if_neg d];refine uJ h j fuel lo _ (by lia) (by lia) (by lia) a fun i x m e=>?_;by_cases k:i=(lo+hi)/2;·subst k;rw[f]at e;cases e;lia
    ·have :=sS h (by lia:(lo+hi)/2<i) f e;lia
  ·rw[if_neg c];have e:lo=hi:=by lia
   subst e;exact⟨hs,a,b⟩
def ji{xs:Array Nat}(h:rD xs)(j:Nat):Parts xs j (cw xs j):=
 uJ h j xs.size 0 xs.size (by lia) (aW _) (aC _) (fun i x hi _=>absurd hi (gI _)) fun i x hi e=>by have :=(cR.mp e).1;lia
def jg{a:Type}(xs:Array a)(p:Nat)(x:a):(bN xs p x).toList=xs.toList.take p++x::xs.toList.drop p:=by unfold bN;simp;exact fk (by simp)
theorem zQ{xs:Array Nat}(h:rD xs)(d:∀i:Nat,xs[i]? ≠some j):rD (bN xs (cw xs j) j):=by
 have P:=ji h j;unfold rD;rw[jg];have sub:=h;unfold rD at sub;rw[pE];refine⟨sub.sublist (tj _ _),List.pairwise_cons.mpr ⟨fun y hy=>?_,sub.sublist (List.drop_sublist _ _)⟩,fun x f y hy=>?_⟩
 ·obtain⟨i,hi⟩:=bG.mp hy;rw[iW]at hi;have e:xs[cw xs j+i]? =some y:=by simpa using hi
  have :=P.hi _ _ (jH _ _) e;have ne:y≠j:=fun z=>d _ (z▸e);lia
 ·obtain⟨i,hi⟩:=bG.mp f;have a:i<cw xs j:=by have :=(aM.mp hi).1;rw[cy]at this;lia
  rw[iH a]at hi;have e:xs[i]? =some x:=by simpa using hi
  have g:=P.lo _ _ a e;rcases aI.mp hy with rfl|hy;·exact g
  ·obtain⟨k,b⟩:=bG.mp hy;rw[iW]at b;have c:xs[cw xs j+k]? =some y:=by simpa using b
   have :=P.hi _ _ (jH _ _) c;lia
theorem CT{xs:Array Nat}(h:rD xs){x:Nat}(e:xs[i]? =some x):cw xs (x+1)=i+1:=by
 have P:=ji h (x+1);have hi:=(cR.mp e).1;apply zi
 ·apply iB
  intro c;have f:i+1<xs.size:=bA c P.le;have d:xs[i+1]? =some xs[i+1]:=by simp[f]
  have a:=P.lo _ _ c d;have b:=sS h (dI i) e d;lia
 ·apply iB
  intro c;have :=P.hi i x (by lia) e;lia
theorem CQ{xs:Array Nat}(h:rD xs):cw xs 0=0:=by have P:=ji h 0;apply zi _ (aW _);apply iB;intro c;have a:0<xs.size:=bA c P.le;have :=P.lo 0 xs[0] c (by simp[a]);lia
theorem rA{xs:Array Nat}(h:rD xs){x:Nat}(e:xs[i]? =some x):cw xs x=i:=by
 have P:=ji h x;apply zi
 ·apply iB
  intro c;exact dO _ (P.lo i x c e)
 ·apply iB
  intro c;have f:cw xs x<xs.size:=fP c (cR.mp e).1;have d:xs[cw xs x]? =some xs[cw xs x]:=by simp[f]
  have a:=P.hi _ _ (aC _) d;have b:=sS h c d e;lia
def BU(n:Nat):rD (Array.range n):=by unfold rD;rw[Array.toList_range];exact nP
structure iA(t:aQ):Prop where
 up:rD t.place
 no:t.dummies= #[]
def De{t:aQ}(T:iA t)(j:Nat):t.slot j≠.dummy:=by
 unfold xo;simp only[T.no];split;·simp
 ·split;·rename_i h;exact absurd h (by simp[zm])
  ·simp
def jK{t:aQ}(T:iA t)(h:t.slot j=.empty):∀i:Nat,t.place[i]? ≠some j:=fun i e=>by have :=rA T.up e;unfold xo at h;simp only[this,e,beq_self_eq_true,if_true]at h;cases h
def oM(t:aQ)(p:vq):(t.advance p).dummy=p.dummy:=by unfold gP;split <;>rfl
theorem uc{t:aQ}(T:iA t){f:Nat->Int}{h:Int}{d:Option Nat}:∀(fuel:Nat)(p:vq),p.dummy=none->dA t f h fuel p=some (.empty j d)->t.slot j=.empty/\d=none
 | 0,p,_,e=>by simp[dA]at e
 |fuel+1,p,hp,e=>by
  unfold dA at e;cases hs:t.slot p.j with
  |empty=>rw[hs]at e;simp only[j9,aQ.Met.empty.injEq]at e;exact⟨by rw[<-e.1];exact hs,by rw[<-e.2];exact hp⟩
  |dummy=>exact absurd hs (De T _)
  |live i=>
   rw[hs]at e;simp only at e;split at e;·cases e
   ·exact uc T fuel _ (by rw[oM];exact hp) e
def vP{t:aQ}(T:iA t){h:Int}{b:Bool}(e:t.freeSlot h=some (j,b)):(∀i:Nat,t.place[i]? ≠some j)/\b=false:=by
 unfold aQ.freeSlot at e;split at e;·rename_i j' d hm;unfold aQ.probe at hm;obtain⟨a,c⟩:=uc T _ _ (by rfl) hm;subst c;simp only[tf,Gb,j9,Prod.mk.injEq]at e;obtain⟨rfl,rfl⟩:=e;exact⟨jK T a,rfl⟩
 ·cases e
def jy(t:aQ)(n:Nat):iA (t.standIn n):=⟨BU n,rfl⟩
def tZ{t:aQ}(T:iA t)(a:∀i:Nat,t.place[i]? ≠some j):iA (t.put j).1:=by refine⟨zQ T.up a,?_⟩;show(if zm t.dummies j=true then _ else t.dummies)= #[];rw[T.no];simp[zm]
def ui{t:aQ}(T:iA t)(n:Nat):iA (t.orStandIn n):=by
 unfold Em;split;·exact T
 ·exact jy t n
def Ao{t:aQ}(T:iA t)(a:Array (Int×Value))(h:Int)(x:Value):iA (layNew t a h x).2.1/\(layNew t a h x).2.2.1=false:=by
 unfold layNew;split;·rename_i j b e;obtain⟨c,d⟩:=vP T e;subst d;exact⟨ui (tZ T c) _,rfl⟩
 ·exact⟨jy t _,rfl⟩
def nC{mask finger moves:Nat}{plain:Bool}{f:Array Int}{t:aQ}{g:Array Nat}(h:aQ.laid mask finger moves led plain f=some (t,g)):iA t/\t.led=led/\t.plain=plain:=by
 unfold aQ.laid at h;cases e:aQ.layClean mask f with
 |none=>rw[e]at h;cases h
 |some owner=>
  rw[e]at h;have i:some (({mask,place:=(((ay (mask+1)).filterMap fun j=>(owner.getD j none).map (j,·)).map (·.1)).toArray,dummies:= #[],finger,led,moves,plain}:aQ),(((ay (mask+1)).filterMap fun j=>(owner.getD j none).map (j,·)).map (·.2)).toArray)=some (t,g):=h;have k:=(Prod.mk.inj (aX i)).1;subst k;refine⟨⟨?_,rfl⟩,rfl,rfl⟩;show((((ay (mask+1)).filterMap fun j=>(owner.getD j none).map (j,·)).map (·.1)).toArray).toList.Pairwise (·<·);rw[qL,cj,List.pairwise_filterMap];refine nP.imp fun{a b} l x c y d=>?_;cases ha:owner.getD a none with
  |none=>rw[ha]at c;cases c
  |some u=>
   cases hb:owner.getD b none with
   |none=>rw[hb]at d;cases d
   |some v=>rw[ha]at c;rw[hb]at d;cases c;cases d;exact l
def vK(t:aQ)(a:Array (Int×Value))(b:Nat):iA (pk t a b).2.1:=by
 unfold pk;split
 ·rename_i t' order e;simp only;split;·unfold JZ at e;exact(nC e).1
  ·exact jy t _
 ·exact jy t _
theorem put_led(t:aQ)(j:Nat):(t.put j).1.led=t.led:=rfl
def vO(t:aQ)(n:Nat):(t.orStandIn n).led=t.led:=by unfold Em;split <;>rfl
def Cf(t:aQ)(a:Array (Int×Value))(h:Int)(x:Value):(layNew t a h x).2.1.led=t.led:=by
 unfold layNew;split;·exact(vO _ _).trans (put_led _ _)
 ·rfl
def x6(t:aQ)(a:Array (Int×Value))(b:Nat):(pk t a b).2.1.led=t.led:=by
 unfold pk;split
 ·rename_i t' order e;simp only;split;·unfold JZ at e;exact(nC e).2.1
  ·rfl
 ·rfl
section
variable {K:Type}[DecidableEq K]{knd:KeyKind prog w K}{E:Value->Shared->Prop}{s:Shared}
def qE(knd:KeyKind prog w K)(h:Heap)(a:Addr)(S:K->Bool)(n:Nat)(led:Bool):Prop:=
 ∃o es ep t,h.get? a=some o/\o.ExactSet/\o.data=.set es ep t/\ElemsOf knd es.toList/\(∀k,S k=true↔∃e∈es.toList,knd.is k e.2=true)/\es.size<gB/\t.fits es.size=true/\es.size=n/\iA t/\t.led=led
def qE.of{S:K->Bool}(x:qE knd h a S n led):h.SetOf knd a S n:=by obtain⟨o,l,k,t,b,c,d,e,f,g,i,j,_⟩:=x;exact⟨o,l,k,t,b,c,d,e,f,g,i,j⟩
def tT{o:Obj}{t:aQ}(l:h.get? a=some o)(i:o.ExactSet)(j:o.data=.set es ep t){t':aQ}{b:K->Bool}(d:ElemsOf knd es'.toList)(f:∀k,b k=true↔∃e∈es'.toList,knd.is k e.2=true)(c:es'.size<gB)(hf:t'.fits es'.size=true)(m:iA t'):
  qE knd (h.update a (hZ es' t')) a b es'.size t'.led:=by
 have g:=(SetOf_store (knd:=knd) l i j d f c hf).1;exact⟨_,es',ep+1,t',g,i,rfl,d,f,c,hf,rfl,m,rfl⟩
def A5{g:Bool->Sem Unit}(H:∀(b:Bool)(D:Shared)(y:Unit->Shared->Prop),y () D->wpAny (model prog w) A (g b) y E D){o:Obj}{t:aQ}(r:s.heap.get? a=some o)(v:o.ExactSet)(l:o.data=.set es ep t)
  {c:aQ}{z:K->Bool}(n:ElemsOf knd al.toList)(p:∀i,z i=true↔∃e∈al.toList,knd.is i e.2=true)(f:al.size<gB)(hf:c.fits al.size=true)(I:iA c){J:Bool}{R:Option Bool->Shared->Prop}
  (h:∀h',cZ a s.heap h'->qE knd h' a z al.size c.led->R (some true) {s with heap:=h'}):
  wpAny (model prog w) A (do
    storeSet a al c
    if(!J&&c.tooFull)=true then do
      g (pk c al (fj al.size)).2.2
      storeSet a (pk c al (fj al.size)).1 (pk c al (fj al.size)).2.1
      pure (some true)
     else pure (some true)) R E s:=by
 refine aa (nI r l ?_ (nN f));have B:=(SetOf_store (knd:=knd) r v l n p f hf).1;have L:=tT (knd:=knd) r v l n p f hf I;have C:=bM s.heap a (hZ al c);split
 ·have d:=relayAll_perm c al (fj al.size);have u:=relayAll_fits c al (fj al.size);have k:=vK c al (fj al.size);have j:=x6 c al (fj al.size);generalize pk c al (fj al.size)=Rl at d u k j⊢;obtain⟨G,t3,M⟩:=Rl;dsimp only at d u k j⊢;have x:G.size=al.size:=by rw[<-aT,d.length_eq,aT]
  refine aa (H _ _ _ (aa (nI B rfl ?_ (nN (by rw[x];exact f)))));have F:=tT (knd:=knd) B v rfl (n.perm d) (fun i=>(p i).trans ⟨fun⟨e,m,q⟩=>⟨e,d.mem_iff.mpr m,q⟩,fun⟨e,m,q⟩=>⟨e,d.mem_iff.mp m,q⟩⟩) (by rw[x];exact f) u k;rw[x,j]at F;exact aj (h _ (C.trans (bM _ a _)) F)
 ·exact aj (h _ C L)
def BZ{t:aQ}(T:iA t):iA {t with plain:=false}:=⟨T.up,T.no⟩
def addX{S:K->Bool}{k:K}{x:Value}{Q:Bool->Shared->Prop}(G:knd.is k x=true)(I:x.scannable=true)(W:qE knd s.heap a S n led)(P:n+1<gB)
  (h:∀h',cZ a s.heap h'->qE knd h' a (fun c=>S c||decide (c=k)) (if S k then n else n+1) led->Q (!S k) {s with heap:=h'}):
  wpAny (model prog w) A (y6 a x (knd.hash k)) Q E s:=by
 obtain⟨o,d,V,t,v,J,r,C,D,O,hf,H,R,B⟩:=W;have a1:d.size+1<gB:=by rw[H];exact P
 unfold y6 setAddHashedIn;refine bQ (aa (cY v r hf ?_));dsimp only;rw[byScan_of I O C];simp only[↓reduceIte];unfold setAddByScan;refine aa ?_;refine aa (gL (aa (wpAny_setScan_of G v r hf C ?_)));cases hr:List.findIdx? (fun e=>knd.is k e.2) d.toList with
 |some j=>
  dsimp only;obtain⟨X,f,_⟩:=List.findIdx?_eq_some_iff_getElem.mp hr;have m:S k=true:=(D k).mpr ⟨d.toList[j],ck X,f⟩;refine aj (aj ?_);have :=h s.heap (Bg a s.heap) ⟨o,d,V,t,v,J,r,C,fun c=>by rw[dS,decide_eq_true_eq,<-D c];exact⟨fun q=>q.elim id (fun e=>e▸m),.inl⟩,O,hf,by rw[m];exact H,R,B⟩
  rw[m]at this;exact this
 |none=>
  dsimp only;have m:S k=false:=by
   cases q:S k with
   |false=>rfl
   |true=>obtain⟨e,F,Z⟩:=(D k).mp q;have :=List.findIdx?_eq_none_iff.mp hr e F;rw[Z]at this;cases this
  have Y:∀(b:Bool){z:Shared}{g:Unit->Shared->Prop},g () z->wpAny (model prog w) A (match b with |true=>rule "set.scan.the-table-gave-way" |false=>pure ()) g E z:=fun b z g q=>by cases b<;>first |exact aj q|exact gL q
  have f:=layNew_perm t d (knd.hash k) x;have u:=layNew_fits t d (knd.hash k) x;have p:=(Ao R d (knd.hash k) x).1;have l:=Cf t d (knd.hash k) x;generalize layNew t d (knd.hash k) x=L at f u p l⊢;obtain⟨i,t1,wd,a0⟩:=L;dsimp only at f u p l⊢;rw[Array.toList_push]at f;have l1:ElemsOf knd i.toList:=(C.push G I).perm f;have F:∀c,(S c||decide (c=k))=true↔∃e∈i.toList,knd.is c e.2=true:=mem_push_iff G D f;have T:i.size=n+1:=by rw[<-aT,f.length_eq,bE,aT,H];rfl
  have M:i.size<gB:=by rw[T];exact P
  refine aa (Y _ ?_);have N:∀h',cZ a s.heap h'->qE knd h' a (fun c=>S c||decide (c=k)) i.size led->Q true {s with heap:=h'}:=fun h' y x=>by have :=h h' y;rw[m]at this;rw[T]at x;exact this x
  split
  ·refine aa ?_;rw[hashByValue_scannable 8 I];refine aj (A5 ?_ v J r l1 F M ?_ ?_ ?_);·intro b z g q;cases b<;>first |exact aj q|exact gL q
   ·split;·exact u
    ·exact aQ.fits_plain_off u
   ·split;·exact p
    ·exact BZ p
   ·intro h' y x;refine aj (N h' y ?_);split at x;·rw[l,B]at x;exact x
    ·have U:({t1 with plain:=false}:aQ).led=led:=l.trans B;rw[U]at x;exact x
  ·refine aa (aj ?_);simp only[↓reduceIte];refine A5 ?_ v J r l1 F M u p ?_;·intro b z g q;cases b<;>first |exact aj q|exact gL q
   ·intro h' y x;rw[l,B]at x;exact aj (N h' y x)
end
end Q
namespace TB
open PySem PySem.SetTable Q
abbrev sq(t:aQ)(h:Int):Nat->Probe
 | 0=>t.probeStart h
 |k+1=>t.advance (sq t h k)
theorem zI(t:aQ)(h:Int):∀k,(sq t h k).dummy=none
 | 0=>rfl
 |k+1=>(oM t _).trans (zI t h k)
def JM{t t':aQ}(e:t.mask=t'.mask)(p:Probe):t.advance p=t'.advance p:=by unfold gP;rw[e]
theorem ku{t t':aQ}(e:t.mask=t'.mask)(h:Int):∀k,sq t h k=sq t' h k
 | 0=>by show t.probeStart h=t'.probeStart h;unfold aQ.probeStart;rw[e]
 |k+1=>by show t.advance _=t'.advance _;rw[ku e h k,JM e]
abbrev lp(mask:Nat)(h:Int):Nat->Nat×Nat
 | 0=>(bits h%(mask+1),bits h)
 |k+1=>leap mask (lp mask h k).1 (lp mask h k).2
abbrev head(mask:Nat)(x:Nat×Nat):Probe:={j:=x.1,more:=runEnd mask x.1-x.1,i:=x.1,perturb:=x.2,dummy:=none}
abbrev iter(t:aQ):Nat->Probe->Probe
 | 0,p=>p
 |k+1,p=>iter t k (t.advance p)
theorem uG(t:aQ):∀(m:Nat)(p:Probe),p.more=m->p.dummy=none->iter t (m+1) p=head t.mask (leap t.mask p.i p.perturb)
 | 0,p,hm,hd=>by show t.advance p=_;unfold gP;rw[hm];simp only[dO,gt_iff_lt,if_false];obtain⟨j,more,i,a,d⟩:=p;cases hd;rfl
 |m+1,p,hm,hd=>by
  show iter t (m+1) (t.advance p)=_;have e:t.advance p={p with j:=p.j+1,more:=m}:=by unfold gP;rw[hm,if_pos (by lia)];rfl
  rw[e];exact uG t m {p with j:=p.j+1,more:=m} rfl hd
theorem xH(t:aQ)(h:Int)(k:Nat):∀m,sq t h (k+m)=iter t m (sq t h k):=by
 intro m
 induction m generalizing k with
 |zero=>rfl
 |succ m ih=>rw[show k+(m+1)=(k+1)+m from by lia,ih (k+1)];rfl
def run_le(mask i:Nat):runEnd mask i-i<=9:=by unfold runEnd;split <;>lia
theorem heads(t:aQ)(h:Int):∀L,∃k,k<=10*L/\sq t h k=head t.mask (lp t.mask h L)
 | 0=>⟨0,aC _,rfl⟩
 |L+1=>by obtain⟨k,a,e⟩:=heads t h L;have b:=run_le t.mask (lp t.mask h L).1;refine⟨k+((runEnd t.mask (lp t.mask h L).1-(lp t.mask h L).1)+1),by lia,?_⟩;rw[xH,e];exact uG t _ _ rfl rfl
theorem DG(mask:Nat)(h:Int):∀L,(lp mask h L).2=bits h/32^L
 | 0=>by simp[lp]
 |L+1=>by show(lp mask h L).2/32=_;rw[DG mask h L,Nat.div_div_eq_div_mul,Nat.pow_succ]
def bits_lt(h:Int):bits h<2^64:=by unfold bits;have a:=bY h (show(2^64:Int)≠0 by decide);have b:=cC h (show(0:Int)<2^64 by decide);lia
def pert0(mask:Nat)(h:Int){L:Nat}(a:13<=L):(lp mask h L).2=0:=by
 rw[DG];apply Nat.div_eq_of_lt;have :=bits_lt h;have b:32^13<=32^L:=Nat.pow_le_pow_right (by decide) a;have c:(2:Nat)^64<=32^13:=by decide
 lia
abbrev orb(mask:Nat):Nat->Nat->Nat
 | 0,i=>i
 |r+1,i=>(orb mask r i*5+1)%(mask+1)
theorem Ca(mask:Nat)(h:Int):∀r,(lp mask h (13+r)).1=orb mask r (lp mask h 13).1
 | 0=>rfl
 |r+1=>by show((lp mask h (13+r)).1*5+1+(lp mask h (13+r)).2/32)%(mask+1)=_;rw[Ca mask h r,pert0 mask h (by lia)];rfl
def orb7:∀i<8,∀j<8,∃r,r<=7/\orb 7 r i=j:=by decide+kernel
def orb31:((ay 32).all fun i=>(ay 32).all fun j=>(ay 32).any fun r=>orb 31 r i==j)=true:=by decide+kernel
def lp_lt(mask:Nat)(h:Int):∀L,(lp mask h L).1<mask+1
 | 0=>lK _ (by lia)
 |_+1=>lK _ (by lia)
def cover{t:aQ}(hm:t.mask=7\/t.mask=31)(h:Int)(b:j<=t.mask):∃k,k<=10*(13+t.mask)/\(sq t h k).j=j:=by
 have a:=lp_lt t.mask h 13;obtain⟨r,c,e⟩:∃r,r<=t.mask/\orb t.mask r (lp t.mask h 13).1=j:=by
  rcases hm with hm|hm;·rw[hm]at a b⊢;exact orb7 _ a _ (by lia)
  ·rw[hm]at a b⊢;have :=bK.mp (bK.mp orb31 _ (aJ.mpr a)) j (aJ.mpr (by lia));obtain⟨r,c,e⟩:=cI.mp this;have :=aJ.mp c;exact⟨r,by lia,eq_of_beq e⟩
 obtain⟨k,f,d⟩:=heads t h (13+r);refine⟨k,by lia,?_⟩;rw[d];show(lp t.mask h (13+r)).1=j;rw[Ca,e]
def jT{t:aQ}(T:iA t)(j:Nat):(t.slot j=.empty/\∀i:Nat,t.place[i]? ≠some j)\/∃i,t.slot j=.live i/\t.place[i]? =some j:=by
 cases e:t.slot j with
 |empty=>exact .inl ⟨rfl,jK T e⟩
 |dummy=>exact absurd e (De T j)
 |live i=>
  refine .inr ⟨i,rfl,?_⟩;unfold xo at e;simp only at e;split at e;·rename_i h;cases e;exact eq_of_beq h
  ·split at e<;>cases e
def EG{t:aQ}(T:iA t)(h:t.place[i]? =some j):t.slot j=.live i:=by
 rcases jT T j with⟨_,n⟩ |⟨d,e,c⟩;·exact absurd h (n i)
 ·rw[e];have a:=rA T.1 h;have b:=rA T.1 c;rw[<-a,<-b]
theorem lB{c:Type}[DecidableEq c]:∀{xs ys:List c},xs.Nodup->(∀x∈xs,x∈ys)->xs.length<=ys.length
 | [],_,_,_=>aW _
 |x::xs,ys,nd,h=>by
  have a:=h x au;have :=lB (xs:=xs) (ys:=ys.erase x) (bw.mp nd).2 fun y b=>by have d:y≠x:=fun z=>(bw.mp nd).1 (by rw[<-z];exact b);exact(jO d).mpr (h y (av _ b))
  rw[Bs a]at this;have :=Ep a;rw[bz];lia
def Ft{t:aQ}(T:iA t)(h:t.place.size<=t.mask):∃j,j<=t.mask/\t.slot j=.empty:=by
 apply aq
 intro b;have :(ay (t.mask+1)).length<=t.place.toList.length:=lB jw fun j a=>by
  rcases jT T j with⟨e,_⟩ |⟨i,_,e⟩;·exact absurd ⟨j,by have :=aJ.mp a;lia,e⟩ b
  ·exact aG (by rw[bU];exact e)
 rw[bC,aT]at this;lia
def Cv{t:aQ}(T:iA t)(i:t.mask=7\/t.mask=31)(hs:t.place.size<=t.mask)(h:Int):∃N,N<=10*(13+t.mask)/\t.slot (sq t h N).j=.empty/\∀k,k<N->t.slot (sq t h k).j≠.empty:=by
 obtain⟨j,f,e⟩:=Ft T hs;obtain⟨k,g,d⟩:=cover i h f;rw[<-d]at e;clear d f
 induction k using oN with
 |_ k ih=>
  by_cases hc:∃a,a<k/\t.slot (sq t h a).j=.empty;·obtain⟨a,b,c⟩:=hc;exact ih a b c (by lia)
  ·exact⟨k,g,e,fun a b c=>hc ⟨a,b,c⟩⟩
theorem Az{t:aQ}(T:iA t){f:Nat->Int}{h:Int}{N:Nat}(g:t.slot (sq t h N).j=.empty)(j:∀k,k<N->t.slot (sq t h k).j≠.empty):∀(fuel k:Nat),k<=N->N-k<fuel->
  ∃c,k<=c/\c<=N/\(∀d,k<=d->d<c->∃i,t.slot (sq t h d).j=.live i/\f i≠h)/\((c=N/\dA t f h fuel (sq t h k)=some (.empty (sq t h N).j none))\/∃i,t.slot (sq t h c).j=.live i/\f i=h/\c<N/\dA t f h fuel (sq t h k)=some (.candidate (sq t h c).j i (sq t h (c+1))))
 | 0,k,_,hf=>by lia
 |fuel+1,k,hk,hf=>by
  rcases jT T (sq t h k).j with⟨e,_⟩ |⟨i,e,_⟩
  ·have :k=N:=by
    apply aq
    intro z;exact j k (by lia) e
   subst this;refine⟨k,aC _,aC _,fun d a b=>by lia,.inl ⟨rfl,?_⟩⟩;unfold dA;rw[e];show some (Met.empty (sq t h k).j (sq t h k).dummy)=_;rw[zI]
  ·have p:k<N:=by
    rcases Nat.lt_or_eq_of_le hk with z|z;·exact z
    ·rw[z,g]at e;cases e
   by_cases hfi:f i=h;·refine⟨k,aC _,hk,fun d a b=>by lia,.inr ⟨i,e,hfi,p,?_⟩⟩;unfold dA;rw[e];show(if(f i==h)=true then _ else _)=_;rw[if_pos (beq_iff_eq.mpr hfi)];rfl
   ·obtain⟨c,q,l,m,n⟩:=Az T g j fuel (k+1) (by lia) (by lia);have step:dA t f h (fuel+1) (sq t h k)=dA t f h fuel (sq t h (k+1)):=by
     conv =>lhs;unfold dA
     rw[e];show(if(f i==h)=true then _ else _)=_;rw[if_neg (fun z=>hfi (beq_iff_eq.mp z))];rfl
    refine⟨c,by lia,l,fun d r o=>?_,?_⟩
    ·by_cases z:d=k;·rw[z];exact⟨i,e,hfi⟩
     ·exact m d (by lia) o
    ·rw[step];exact n
structure Tb(t:aQ)(hs:Array Int):Prop where
 ti:iA t
 sz:t.place.size=hs.size
 mm:t.mask=7\/t.mask=31
 fl:t.place.size<=t.mask
 rc:∀(i:Nat) h,hs[i]? =some h->∃k,t.place[i]? =some (sq t h k).j/\∀k',k'<k->t.slot (sq t h k').j≠.empty
def lT{a:Type}(xs:Array a)(c:p<=xs.size)(x:a)(i:Nat):(insertAt xs p x)[i]? =if i<p then xs[i]? else if i=p then some x else xs[i-1]? :=by
 rw[<-bU,jg,List.getElem?_append];have b:(xs.toList.take p).length=p:=by rw[cy,aT];lia
 rw[b];by_cases c1:i<p;·rw[if_pos c1,if_pos c1,iH c1,bU]
 ·rw[if_neg c1,if_neg c1];by_cases c2:i=p;·rw[if_pos c2,c2,F5];rfl
  ·rw[if_neg c2,show i-p=(i-p-1)+1 from by lia,C6,iW,bU,show p+(i-p-1)=i-1 from by lia]
def m9{t:aQ}(T:iA t)(j:Nat):(t.put j).1.place=insertAt t.place (below t.place j) j/\(t.put j).1.mask=t.mask:=⟨rfl,rfl⟩
def JJ{t:aQ}(T:iA t)(j:Nat):below t.place j<=t.place.size:=(ji T.1 j).1
theorem Tb.put{t:aQ}{hs:Array Int}(b:Tb t hs){h:Int}{N:Nat}(p:t.slot (sq t h N).j=.empty)(q:∀k,k<N->t.slot (sq t h k).j≠.empty)(hf:t.place.size+1<=t.mask):
  Tb (t.put (sq t h N).j).1 (insertAt hs (below t.place (sq t h N).j) h):=by
 have s:=jK b.ti p;have m:=tZ b.ti s;have c:=JJ b.ti (sq t h N).j;have e:(t.put (sq t h N).j).1.mask=t.mask:=rfl;have o:(t.put (sq t h N).j).1.place.size=t.place.size+1:=by show(insertAt t.place _ _).size=_;rw[<-aT,jg];simp;lia
 have full:∀d,t.slot d≠.empty\/d=(sq t h N).j->(t.put (sq t h N).j).1.slot d≠.empty:=fun d l z=>by
  have fr:=jK m z;rcases l with l|rfl
  ·rcases jT b.ti d with⟨w,_⟩ |⟨i,_,w⟩;·exact l w
   ·by_cases hi:i<below t.place (sq t h N).j;·exact fr i (by rw[(m9 b.ti _).1,lT _ c,if_pos hi];exact w)
    ·exact fr (i+1) (by rw[(m9 b.ti _).1,lT _ c,if_neg (by lia),if_neg (by lia)];exact w)
  ·exact fr _ (by rw[(m9 b.ti _).1,lT _ c,if_neg (dO _),if_pos rfl])
 have r:below t.place (sq t h N).j<=hs.size:=by rw[<-b.sz];exact c
 refine⟨m,?_,b.mm,by rw[o];exact hf,fun i n hi=>?_⟩;·rw[o,b.sz,<-aT,<-aT,jg];simp;lia
 ·rw[lT _ r]at hi;rw[(m9 b.ti _).1,lT _ c];by_cases c1:i<below t.place (sq t h N).j;·rw[if_pos c1]at hi⊢;obtain⟨k,g,j⟩:=b.rc i n hi;refine⟨k,by rw[ku e];exact g,fun f a=>?_⟩;rw[ku e];exact full _ (.inl (j f a))
  ·rw[if_neg c1]at hi⊢;by_cases c2:i=below t.place (sq t h N).j;·rw[if_pos c2]at hi⊢;cases hi;refine⟨N,by rw[ku e],fun f a=>?_⟩;rw[ku e];exact full _ (.inl (q f a))
   ·rw[if_neg c2]at hi⊢;obtain⟨k,g,j⟩:=b.rc _ n hi;refine⟨k,by rw[ku e];exact g,fun f a=>?_⟩;rw[ku e];exact full _ (.inl (j f a))
theorem DL(t:aQ):∀(m:Nat)(p:Probe),m<=p.more->iter t m p={p with j:=p.j+m,more:=p.more-m}
 | 0,p,_=>rfl
 |m+1,p,h=>by
  show iter t m (t.advance p)=_;have e:t.advance p={p with j:=p.j+1,more:=p.more-1}:=by unfold gP;rw[if_pos (by lia)]
  rw[e,DL t m _ (by show m<=p.more-1;lia)];show({p with j:=p.j+1+m,more:=p.more-1-m}:Probe)=_;congr 1<;>lia
def tk(owner:Array (Option Nat))(j:Nat):Prop:=(owner.getD j (some 0)).isSome=true
def not_tk{owner:Array (Option Nat)}(h:¬tk owner j):owner[j]? =some none:=by
 unfold tk at h;rw[cq]at h;cases e:owner[j]? with
 |none=>rw[e]at h;exact absurd rfl h
 |some x=>
  cases x with
  |none=>rfl
  |some y=>rw[e]at h;exact absurd rfl h
theorem wK{t:aQ}{owner:Array (Option Nat)}{h:Int}{p:Nat}(s:¬tk owner (lp t.mask h p).1):∀(d g L b:Nat),L+d=p->d<g->sq t h b=head t.mask (lp t.mask h L)->(∀a,a<b->tk owner (sq t h a).j)->
  ∃k,layClean.free t.mask owner g (lp t.mask h L).1 (lp t.mask h L).2=some (sq t h k).j/\¬tk owner (sq t h k).j/\∀a,a<k->tk owner (sq t h a).j
 |d,0,_,_,_,hf,_,_=>by lia
 |d,g+1,L,b,hd,hf,hk,hb=>by
  have o:∀m,m<=runEnd t.mask (lp t.mask h L).1-(lp t.mask h L).1->(sq t h (b+m)).j=(lp t.mask h L).1+m:=fun m i=>by rw[xH,hk,DL t m _ i];rfl
  unfold layClean.free;cases e:(ay (runEnd t.mask (lp t.mask h L).1+1-(lp t.mask h L).1)).find? fun k=>(owner.getD ((lp t.mask h L).1+k) (some 0)).isNone with
  |some m=>
   have i:=aJ.mp (Bb e);have B:(lp t.mask h L).1<=runEnd t.mask (lp t.mask h L).1:=by unfold runEnd;split <;>lia
   have u:=o m (by lia);refine⟨b+m,by rw[u],?_,fun a v=>?_⟩
   ·rw[u];unfold tk;have :=List.find?_some e;cases z:owner.getD ((lp t.mask h L).1+m) (some 0)with
    |none=>simp
    |some y=>rw[z]at this;cases this
   ·by_cases c:a<b;·exact hb a c
    ·obtain⟨q,rfl⟩:∃q,a=b+q:=⟨a-b,by lia⟩;rw[o q (by lia)];unfold tk;cases z:(owner.getD ((lp t.mask h L).1+q) (some 0)).isSome with
     |true=>rfl
     |false=>
      exfalso
      have C:=List.find?_eq_some_iff_append.mp e;obtain⟨_,f,bs,j,w⟩:=C;have x:q∈f:=by
       have n:(ay (runEnd t.mask (lp t.mask h L).1+1-(lp t.mask h L).1))[q]? =some q:=bP (by lia);have A:(ay (runEnd t.mask (lp t.mask h L).1+1-(lp t.mask h L).1))[m]? =some m:=bP i;rw[j]at n A;have D:f.length=m:=by
        have l:(f++m::bs)[f.length]? =some m:=by rw[cT (aC _),F5];rfl
        rw[<-j]at l;have r:f.length<(ay (runEnd t.mask (lp t.mask h L).1+1-(lp t.mask h L).1)).length:=by rw[j];simp
        rw[bC]at r;rw[bP r]at l;cases l;rfl
       rw[eB (by lia)]at n;exact aG n
      have :=w q x;cases z2:owner.getD ((lp t.mask h L).1+q) (some 0)with
      |none=>rw[z2]at this;cases this
      |some y=>rw[z2]at z;cases z
  |none=>
   have all:∀m,m<=runEnd t.mask (lp t.mask h L).1-(lp t.mask h L).1->tk owner ((lp t.mask h L).1+m):=fun m i=>by
    have B:(lp t.mask h L).1<=runEnd t.mask (lp t.mask h L).1:=by unfold runEnd;split <;>lia
    have :=lb.mp e m (aJ.mpr (by lia));unfold tk;cases z:owner.getD ((lp t.mask h L).1+m) (some 0)with
    |none=>rw[z]at this;exact absurd rfl this
    |some y=>rfl
   cases d with
   |zero=>
    exfalso
    have :=all 0 (aW _);rw[Nat.add_zero]at this hd;rw[hd]at this;exact s this
   |succ d=>
    refine wK s d g (L+1) (b+((runEnd t.mask (lp t.mask h L).1-(lp t.mask h L).1)+1)) (by lia) (by lia) ?_ fun a v=>?_;·rw[xH,hk];exact uG t _ _ rfl rfl
    ·by_cases c:a<b;·exact hb a c
     ·obtain⟨q,rfl⟩:∃q,a=b+q:=⟨a-b,by lia⟩;rw[o q (by lia)];exact all q (by lia)
structure Ow(t:aQ)(hs:List Int)(owner:Array (Option Nat))(m:Nat):Prop where
 sz:owner.size=t.mask+1
 lt:∀(j i:Nat),owner[j]? =some (some i)->i<m
 one:∀(j j' i:Nat),owner[j]? =some (some i)->owner[j']? =some (some i)->j=j'
 rc:∀(i:Nat) h,i<m->hs[i]? =some h->∃k,owner[(sq t h k).j]? =some (some i)/\∀k',k'<k->tk owner (sq t h k').j
def sq_le(t:aQ)(h:Int)(k:Nat):(sq t h k).j+(sq t h k).more<=t.mask:=by
 induction k with
 |zero=>show bits h%(t.mask+1)+(runEnd t.mask (bits h%(t.mask+1))-bits h%(t.mask+1))<=t.mask;have :=lK (bits h) (show t.mask+1>0 by lia);unfold runEnd;split <;>lia
 |succ k ih=>
  show(t.advance (sq t h k)).j+(t.advance (sq t h k)).more<=t.mask;unfold gP;split;·show(sq t h k).j+1+((sq t h k).more-1)<=t.mask;lia
  ·show(leap t.mask (sq t h k).i (sq t h k).perturb).1+(runEnd t.mask (leap t.mask (sq t h k).i (sq t h k).perturb).1-(leap t.mask (sq t h k).i (sq t h k).perturb).1)<=t.mask;have :(leap t.mask (sq t h k).i (sq t h k).perturb).1<t.mask+1:=lK _ (by lia);unfold runEnd;split <;>lia
def Je{t:aQ}(hm:t.mask=7\/t.mask=31){owner:Array (Option Nat)}(o:Ow t hs owner m)(B:m<=t.mask)(h:Int):
  ∃k,layClean.free t.mask owner (turns t.mask) (bits h%(t.mask+1)) (bits h)=some (sq t h k).j/\¬tk owner (sq t h k).j/\∀p,p<k->tk owner (sq t h p).j:=by
 obtain⟨j,c,hf⟩:∃j,j<=t.mask/\¬tk owner j:=by
  apply aq
  intro w;have all:∀j,j<=t.mask->∃i,owner[j]? =some (some i):=fun j c=>by
   have :tk owner j:=by
    apply aq
    intro z;exact w ⟨j,c,z⟩
   have s:j<owner.size:=by rw[o.sz];lia
   unfold tk at this;rw[cq,bT s]at this;rw[bT s];cases e:owner[j]with
   |none=>rw[e]at this;cases this
   |some i=>exact⟨i,rfl⟩
  have g:∀j:Nat,∃i,j<=t.mask->owner[j]? =some (some i):=fun j=>by
   by_cases c:j<=t.mask;·obtain⟨i,h⟩:=all j c;exact⟨i,fun _=>h⟩
   ·exact⟨0,fun z=>absurd z c⟩
  obtain⟨f,hf⟩:=Classical.axiomOfChoice g;have nd:((ay (t.mask+1)).map f).Nodup:=by refine cj.mpr ?_;refine(gf.mp (show(ay (t.mask+1)).Pairwise (fun a b=>a≠b)from jw)).imp ?_;rintro a b ⟨n,d,u⟩ e;have n:=hf a (by have :=aJ.mp n;lia);have d:=hf b (by have :=aJ.mp d;lia);rw[<-e]at d;exact u (o.one a b _ n d)
  have :=lB nd (ys:=ay m) fun x y=>by obtain⟨j,c,rfl⟩:=aF.mp y;exact aJ.mpr (o.lt j _ (hf j (by have :=aJ.mp c;lia)))
  rw[ak,bC,bC]at this;lia
 obtain⟨r,q,e⟩:∃r,r<=t.mask/\orb t.mask r (lp t.mask h 13).1=j:=by
  have l:=lp_lt t.mask h 13;rcases hm with hm|hm;·rw[hm]at l c⊢;exact orb7 _ l _ (by lia)
  ·rw[hm]at l c⊢;have :=bK.mp (bK.mp orb31 _ (aJ.mpr l)) j (aJ.mpr (by lia));obtain⟨r,q,e⟩:=cI.mp this;have :=aJ.mp q;exact⟨r,by lia,eq_of_beq e⟩
 have v:¬tk owner (lp t.mask h (13+r)).1:=by rw[Ca,e];exact hf
 exact wK v (13+r) (turns t.mask) 0 0 (by lia) (by unfold turns;lia) rfl fun p A=>by lia
def GG{owner:Array (Option Nat)}{x:Nat}(h:tk owner x):tk (owner.setIfInBounds j (some m)) x:=by
 unfold tk at h⊢;rw[cq]at h⊢;rw[gC];split;·split <;>rfl
 ·exact h
def Ow.step{t:aQ}{owner:Array (Option Nat)}(o:Ow t hs owner m){h:Int}(v:hs[m]? =some h)(hf:¬tk owner (sq t h k).j)(s:∀d,d<k->tk owner (sq t h d).j):Ow t hs (owner.setIfInBounds (sq t h k).j (some m)) (m+1):=by
 have u:(sq t h k).j<owner.size:=by rw[o.sz];have :=sq_le t h k;lia
 have w:=not_tk hf;have at':∀(x i:Nat),(owner.setIfInBounds (sq t h k).j (some m))[x]? =some (some i)->(x=(sq t h k).j/\i=m)\/owner[x]? =some (some i):=fun x i e=>by
  rw[gC]at e;split at e;·rename_i hx;cases e;exact .inl ⟨hx.symm,rfl⟩
  ·exact .inr e
 have old:∀(x i:Nat),owner[x]? =some (some i)->(owner.setIfInBounds (sq t h k).j (some m))[x]? =some (some i):=fun x i e=>by rw[gC,if_neg (fun z=>by rw[<-z,w]at e;cases e)];exact e
 refine⟨by rw[Array.size_setIfInBounds];exact o.sz,fun x i e=>?_,fun x j i e e'=>?_,fun i r hi f=>?_⟩
 ·rcases at' x i e with⟨_,rfl⟩ |e;·exact dI _
  ·exact bF (o.lt x i e)
 ·rcases at' x i e with⟨a,b⟩ |e
  ·rcases at' j i e' with⟨l,_⟩ |e';·rw[a,l]
   ·have :=o.lt _ _ e';lia
  ·rcases at' j i e' with⟨_,y⟩ |e';·have :=o.lt _ _ e;lia
   ·exact o.one x j i e e'
 ·by_cases c:i=m;·subst c;rw[v]at f;cases f;refine⟨k,?_,fun d g=>GG (s d g)⟩;rw[gC,if_pos rfl,if_pos u]
  ·obtain⟨q,n,p⟩:=o.rc i r (by lia) f;exact⟨q,old _ _ n,fun d g=>GG (p d g)⟩
theorem AK{t:aQ}(d:t.mask=7\/t.mask=31)(n:hs.length<=t.mask):∀(l b:List Int)(a:Array (Option Nat)),b++l=hs->Ow t hs a b.length->
  ∃c,l.foldl (fun ac h=>(do let(a,k)<-ac;let j<-layClean.free t.mask a (turns t.mask) (bits h%(t.mask+1)) (bits h);pure (a.setIfInBounds j (some k),k+1):Option (Array (Option Nat)×Nat))) (some (a,b.length))=some (c,hs.length)/\Ow t hs c hs.length
 | [],b,a,e,o=>by rw[xu]at e;subst e;exact⟨a,rfl,o⟩
 |h::l,b,a,e,o=>by
  have p:hs[b.length]? =some h:=by rw[<-e,cT (aC _),F5];rfl
  have s:b.length<hs.length:=by rw[<-e];simp
  obtain⟨k,f,g,i⟩:=Je d o (by lia) h;have q:=o.step p g i;obtain⟨c,m,r⟩:=AK d n l (b++[h]) (a.setIfInBounds (sq t h k).j (some b.length)) (by rw[jf];exact e) (by rw[bE];exact q);refine⟨c,?_,r⟩;rw[dR];have :(do let(a,k)<-(some (a,b.length):Option (Array (Option Nat)×Nat));let j<-layClean.free t.mask a (turns t.mask) (bits h%(t.mask+1)) (bits h);pure (a.setIfInBounds j (some k),k+1):Option (Array (Option Nat)×Nat))=some (a.setIfInBounds (sq t h k).j (some b.length),(b++[h]).length):=by show(do let j<-layClean.free t.mask a (turns t.mask) (bits h%(t.mask+1)) (bits h);pure (a.setIfInBounds j (some b.length),b.length+1):Option (Array (Option Nat)×Nat))=_;rw[f,bE];rfl
  rw[this];exact m
def JA{t:aQ}(d:t.mask=7\/t.mask=31){hs:Array Int}(c:hs.size<=t.mask):∃a,layClean t.mask hs=some a/\Ow t hs.toList a hs.size:=by
 have f:Ow t hs.toList (nQ (t.mask+1) none) 0:=by
  have b:∀(j i:Nat),(nQ (t.mask+1) (none:Option Nat))[j]? ≠some (some i):=fun j i e=>by rw[Array.getElem?_replicate]at e;split at e<;>cases e
  exact⟨by simp,fun j i e=>absurd e (b j i),fun j g i e=>absurd e (b j i),fun i h hi=>by lia⟩
 obtain⟨a,e,o⟩:=AK d (hs:=hs.toList) (by rw[aT];exact c) hs.toList [] _ rfl f;refine⟨a,?_,by rw[aT]at o;exact o⟩;unfold layClean;rw[<-Array.foldl_toList];rw[show((some (nQ (t.mask+1) none,0)):Option (Array (Option Nat)×Nat))=some (nQ (t.mask+1) none,([]:List Int).length)from rfl]
 erw [e]
 rfl
abbrev liv(mask:Nat)(owner:Array (Option Nat)):List (Nat×Nat):=(ay (mask+1)).filterMap fun j=>(owner.getD j none).map (j,·)
def ny{mask:Nat}{owner:Array (Option Nat)}(d:owner.size=mask+1):(j,i)∈liv mask owner↔owner[j]? =some (some i):=by
 unfold liv;rw[sv];constructor
 ·rintro⟨x,a,e⟩;have a:=aJ.mp a;rw[cq,bT (by lia)]at e;cases c:owner[x]with
  |none=>rw[c]at e;cases e
  |some y=>rw[c]at e;cases e;rw[bT (by lia),c]
 ·intro e;have b:j<owner.size:=(cR.mp e).1;refine⟨j,aJ.mpr (by lia),?_⟩;rw[cq,e];rfl
def laid_ok{mask:Nat}(s:mask=7\/mask=31){finger moves:Nat}{plain:Bool}{hs:Array Int}(p:hs.size<=mask):
  ∃t' l,laid mask finger moves led plain hs=some (t',l)/\t'.mask=mask/\Tb t' (l.map fun i=>hs.getD i 0)/\l.toList.Perm (ay hs.size):=by
 obtain⟨a,e,o⟩:=JA (t:={mask,place:= #[],dummies:= #[],finger,led,moves,plain}) s p;have e:layClean mask hs=some a:=e;have d:a.size=mask+1:=o.sz;have m:laid mask finger moves led plain hs=some ({mask,place:=((liv mask a).map (·.1)).toArray,dummies:= #[],finger,led,moves,plain},((liv mask a).map (·.2)).toArray):=by unfold laid;rw[e];rfl
 have T:=(nC m).1;have H:((liv mask a).map (·.1)).Pairwise (·<·):=T.1;have I:=cj.mp H;have G:((liv mask a).map (·.2)).Nodup:=by refine cj.mpr ?_;refine(gf.mp I).imp ?_;rintro⟨j,i⟩ ⟨j',i'⟩ ⟨ha,hb,hlt⟩ (hi:i=i');subst hi;have :=o.one j j' i ((ny d).mp ha) ((ny d).mp hb);exact absurd this (aO hlt)
 have v:((liv mask a).map (·.2)).Perm (ay hs.size):=by
  refine(la G jw).mpr fun i=>?_;rw[aF,aJ];constructor;·rintro⟨⟨j,i⟩,h,rfl⟩;exact o.lt j i ((ny d).mp h)
  ·intro hi;obtain⟨k,g,_⟩:=o.rc i hs[i] hi (by rw[bU,bT hi]);exact⟨(_,i),(ny d).mpr g,rfl⟩
 have w:∀h k,sq {mask,place:=((liv mask a).map (·.1)).toArray,dummies:= #[],finger,led,moves,plain} h k=sq {mask,place:= #[],dummies:= #[],finger,led,moves,plain} h k:=fun h k=>ku (t:={mask,place:=((liv mask a).map (·.1)).toArray,dummies:= #[],finger,led,moves,plain}) (t':={mask,place:= #[],dummies:= #[],finger,led,moves,plain}) rfl h k;refine⟨_,_,m,rfl,⟨T,?_,s,?_,fun q h hq=>?_⟩,v⟩;·simp
 ·have :=v.length_eq;rw[ak,bC]at this;show(((liv mask a).map (·.1)).toArray).size<=mask;simp[this];exact p
 ·rw[rN,oQ,ax]at hq;cases c:(liv mask a)[q]? with
  |none=>rw[c]at hq;cases hq
  |some x=>
   obtain⟨j,i⟩:=x;rw[c]at hq;have u:=(ny d).mp (aG c);have hi:=o.lt j i u;have B:hs.getD i 0=h:=by cases hq;rfl
   obtain⟨k,g,A⟩:=o.rc i h hi (by rw[bU,bT hi,<-B,cq,bT hi];rfl);have C:=o.one _ _ _ u g;refine⟨k,?_,fun b D z=>?_⟩;·show(((liv mask a).map (·.1)).toArray)[q]? =_;rw[oQ,ax,c,w];show some j=_;rw[C]
   ·have f:=A b D;have n:(sq {mask,place:= #[],dummies:= #[],finger,led,moves,plain} h b).j<a.size:=by rw[d];have :=sq_le {mask,place:= #[],dummies:= #[],finger,led,moves,plain} h b;have :(sq {mask,place:= #[],dummies:= #[],finger,led,moves,plain} h b).j+(sq {mask,place:= #[],dummies:= #[],finger,led,moves,plain} h b).more<=mask:=this;lia
    unfold tk at f;rw[cq,bT n]at f;cases c2:a[(sq {mask,place:= #[],dummies:= #[],finger,led,moves,plain} h b).j]with
    |none=>rw[c2]at f;cases f
    |some y=>have E:=(ny d).mpr (show a[(sq {mask,place:= #[],dummies:= #[],finger,led,moves,plain} h b).j]? =some (some y) by rw[bT n,c2]);obtain⟨r,F⟩:=bG.mp E;refine jK T z r ?_;show(((liv mask a).map (·.1)).toArray)[r]? =_;rw[oQ,ax,F,w];rfl
end TB
namespace TB
open PySem PySem.Spec PySem.W PyProof.Rows L2 Q
noncomputable abbrev ky(q:List Int):List Key:=q.map fB
section
variable {E:Value->Shared->Prop}{s:Shared}
abbrev hq(prog:Program)(w:World)(q:List Int):Int:=tupleKeyHash (bg prog w) (ky q)
def lS{q:List Int}(h:ItemsAre (bg prog w) (ky q) vs):∀v∈vs,∃i t,v=hU i t:=by
 induction q generalizing vs with
 |nil=>cases h;intro v hv;cases hv
 |cons k q ih=>
  cases h with
  |cons a h=>
   intro v hv;rcases aI.mp hv with rfl|hv;·rw[uB]at a;obtain⟨t,e⟩:=sO (k:=k) a;exact⟨k,t,e⟩
   ·exact ih h v hv
def byVal{q:List Int}{Q:Bool->Shared->Prop}(e:cG (bg prog w) s.heap (ky q) a)(h:Q true s):wpAny (model prog w) A (hashByValue 8 (.ref a)) Q E s:=by
 have g:=e.typeIs;obtain⟨o,p,n,k,_,j,hi⟩:=e;have m:=lS hi;unfold hashByValue;refine aa (C3 g F.slot_tuple_hash.lookup ?_);show wpAny _ _ (mo (.ref a)>>=_) _ _ s;refine aa (fE k j ?_);show wpAny _ _ (forIn p _ _>>=_) _ _ s;rw[<-k6];refine aa ?_;refine pd _ (fun f r c=>r.1=none/\c=s/\∀v∈f,∃i t,v=hU i t) _ ?_ ?_ _ _ ⟨rfl,rfl,m⟩;·rintro v f r c ⟨b,rfl,d⟩;obtain⟨i,t,rfl⟩:=d v au;exact aa (aj (aj ⟨rfl,rfl,fun u l=>d u (av _ l)⟩))
 ·rintro⟨x,y⟩ c ⟨b,rfl,_⟩;simp only at b;subst b;exact aj h
def HS{q:List Int}{Q:Bool->Shared->Prop}(e:cG (bg prog w) s.heap (ky q) a)(h:Q false s):wpAny (model prog w) A (ofAClassStatement 8 (.ref a)) Q E s:=by
 have g:=e.typeIs;obtain⟨o,p,n,k,_,j,hi⟩:=e;have m:=lS hi;unfold ofAClassStatement;refine aa (jC g ?_);show wpAny _ _ (pure true>>=_) _ _ s;refine aa (aj ?_);show wpAny _ _ (mo (.ref a)>>=_) _ _ s;refine aa (fE k j ?_);show wpAny _ _ (forIn p _ _>>=_) _ _ s;rw[<-k6];refine aa ?_;refine pd _ (fun f r c=>r.1=none/\c=s/\∀v∈f,∃i t,v=hU i t) _ ?_ ?_ _ _ ⟨rfl,rfl,m⟩;·rintro v f r c ⟨b,rfl,d⟩;obtain⟨i,t,rfl⟩:=d v au;exact aa (aj (aj ⟨rfl,rfl,fun u l=>d u (av _ l)⟩))
 ·rintro⟨x,y⟩ c ⟨b,rfl,_⟩;simp only at b;subst b;exact aj h
def unseen{q:List Int}{Q:Bool->Shared->Prop}(g:cG (bg prog w) s.heap (ky q) a)(l:List Value)(m:∀v∈l,∃r b,v=.ref b/\cG (bg prog w) s.heap (ky r) b)(h:Q false s):
  wpAny (model prog w) A (searchCouldBeSeen (.ref a) l) Q E s:=by
 unfold searchCouldBeSeen;refine aa ?_;refine pd _ (fun e r c=>r.1=none/\c=s/\∀v∈e,∃r b,v=.ref b/\cG (bg prog w) s.heap (ky r) b) _ ?_ ?_ _ _ ⟨rfl,rfl,m⟩
 ·rintro v e r c ⟨d,rfl,f⟩;obtain⟨k,b,rfl,i⟩:=f v au;have j:∀u∈e,∃r b,u=.ref b/\cG (bg prog w) c.heap (ky r) b:=fun u n=>f u (av _ n);dsimp only;split;·exact aj ⟨rfl,rfl,j⟩
  ·refine aa (wpAny_eqIsQuiet_tuple g ?_);simp only[fm,aN,if_false];refine aa (wpAny_eqIsQuiet_tuple i ?_);simp only[fm,aN,if_false];refine aa (HS g ?_);simp only[aN,if_false];refine aa (HS i ?_);simp only[aN,if_false];exact aj ⟨rfl,rfl,j⟩
 ·rintro⟨o,p⟩ c ⟨d,rfl,_⟩;simp only at d;subst d;exact aj h
structure mw(prog:Program)(w:World)(T:Addr->Prop)(h:Heap)(S:Addr)(kb:List (List Int×Addr))(o:Obj)(es:Array (Int×Value))(ep:Nat)(t:aQ):Prop where
 ho:h.get? S=some o
 ex:o.ExactSet
 hd:o.data=.set es ep t
 tb:Tb t (es.map (·.1))
 pl:t.plain=true
 dm:t.dummies= #[]
 es_:es.toList=kb.map fun x=>(hq prog w x.1,aZ x.2)
 nd:(kb.map (·.1)).Nodup
 tu:∀x∈kb,cG (bg prog w) h (ky x.1) x.2/\T x.2
 lo:t.mask=7->kb.length<=4
theorem mw.fits{T:Addr->Prop}{c:List (List Int×Addr)}{o:Obj}{t:aQ}(x:mw prog w T h S c o es ep t):t.fits es.size=true:=by have a:=x.tb.sz;have b:=x.tb.fl;rw[fu]at a;unfold pB xp;rw[x.dm,a];simp;lia
theorem mw.at{T:Addr->Prop}{b:List (List Int×Addr)}{o:Obj}{t:aQ}(x:mw prog w T h S b o es ep t){e:Int×Value}(a:es[i]? =some e):∃y,b[i]? =some y/\e=(hq prog w y.1,.ref y.2):=by
 rw[<-bU,x.es_,ax]at a;cases c:b[i]? with
 |none=>rw[c]at a;cases a
 |some y=>rw[c]at a;cases a;exact⟨y,rfl,rfl⟩
def ID{p q:List Int}(h:ky p=ky q):p=q:=by
 induction p generalizing q with
 |nil=>cases q with
  |nil=>rfl
  |cons=>cases h
 |cons a p ih=>cases q with
  |nil=>cases h
  |cons b q=>injection h with h1 h2;injection h1 with h1;rw[h1,ih h2]
abbrev sh(es:Array (Int×Value))(i:Nat):Int:=(es[i]?.map fun e:Int×Value=>e.1).getD 0
def search{T:Addr->Prop}{C:List (List Int×Addr)}{o:Obj}{t:aQ}{q:List Int}{Q:SetFound->Shared->Prop}(I:A.units<cLine)(x:mw prog w T s.heap S C o es ep t)(M:cG (bg prog w) s.heap (ky q) a){N:Nat}(L:t.slot (sq t (hq prog w q) N).j=.empty)(hb:∀k,k<N->t.slot (sq t (hq prog w q) k).j≠.empty)(b5:N<=10*(13+t.mask))
  (P:q∈C.map (·.1)->Q (.there none) s)(h2:q∉C.map (·.1)->Q (.free (sq t (hq prog w q) N).j false) s):
  ∀(m k B:Nat)(st:Option vq),N-k=m->k<=N->m<B->st.getD (t.probeStart (hq prog w q))=sq t (hq prog w q) k->(∀d,d<k->∀i y,t.slot (sq t (hq prog w q) d).j=.live i->C[i]? =some y->y.1≠q)->
   wpAny (model prog w) A (setSearchFrom S (.ref a) (hq prog w q) true B st) Q E s:=by
 intro m
 induction m using oN with
 |_ m ih=>
  intro k B st hm a7 hf b2 b0;obtain⟨B,rfl⟩:∃f,B=f+1:=⟨B-1,by lia⟩;unfold setSearchFrom;refine aa (cY x.ho x.hd x.fits ?_);dsimp only;have a6:t.gaveWay=false:=by unfold aQ.gaveWay;rcases x.tb.mm with e|e<;>rw[e]<;>rfl
  rw[a6];simp only[aN,if_false];rw[b2];generalize hpp:aQ.probe t _ (hq prog w q) _=mt;have H:t.probe (sh es) (hq prog w q) (sq t (hq prog w q) k)=mt:=hpp;have b3:N-k<10*vp t.mask:=by unfold vp;lia
  obtain⟨g,a1,a2,Y,Z⟩:=Az x.tb.ti (f:=sh es) L hb (10*vp t.mask) k a7 b3;have W:∀{j i:Nat},t.slot j=.live i->∃y,C[i]? =some y/\es[i]? =some (hq prog w y.1,.ref y.2):=fun{j i} e=>by
   rcases jT x.tb.ti j with⟨z,_⟩ |⟨n,z,hp⟩;·rw[z]at e;cases e
   ·rw[z]at e;cases e;have hi:i<es.size:=by have :=(cR.mp hp).1;rw[x.tb.sz,fu]at this;exact this
    obtain⟨y,p,e⟩:=x.at (bT hi);exact⟨y,p,by rw[bT hi,e]⟩
  have a0:∀{i:Nat}{y:List Int×Addr},es[i]? =some (hq prog w y.1,aZ y.2)->sh es i=hq prog w y.1:=fun{i y} e=>by unfold sh;rw[e];rfl
  have seen:∀d,d<g->∀i y,t.slot (sq t (hq prog w q) d).j=.live i->C[i]? =some y->y.1≠q:=fun d D i y e p z=>by
   by_cases c:d<k;·exact b0 d c i y e p z
   ·obtain⟨n,h,ne⟩:=Y d (by lia) D;rw[e]at h;cases h;obtain⟨r,l,G⟩:=W e;rw[p]at l;cases l;exact ne (by rw[a0 G,z])
  rcases Z with⟨rfl,J⟩ |⟨i,e,b6,b7,J⟩
  ·have K:t.probe (sh es) (hq prog w q) (sq t (hq prog w q) k)=some (.empty (sq t (hq prog w q) g).j none):=J;rw[K]at H;subst H;dsimp only;refine aj (h2 fun b1=>?_);obtain⟨y,p,rfl⟩:=aF.mp b1;obtain⟨i,hi⟩:=bG.mp p;have a5:(es.map (·.1))[i]? =some (hq prog w y.1):=by rw[rN,<-bU,x.es_,ax,hi];rfl
   obtain⟨V,p1,p2⟩:=x.tb.rc i _ a5;have F:=EG x.tb.ti p1;rcases Nat.lt_or_ge V g with c|c;·exact seen V c i y F hi rfl
   ·rcases Nat.lt_or_eq_of_le c with c|c;·exact p2 g c L
    ·rw[<-c,L]at F;cases F
  ·have K:t.probe (sh es) (hq prog w q) (sq t (hq prog w q) k)=some (.candidate (sq t (hq prog w q) g).j i (sq t (hq prog w q) (g+1))):=J;rw[K]at H;subst H;dsimp only;obtain⟨y,p,G⟩:=W e;have O:y∈C:=aG p;have ty:=(x.tu y O).1;have a9:∀v∈(Array.filter (fun z:Int×Value=>z.fst==hq prog w q) es).toList.map (fun z:Int×Value=>z.snd),∃b4 b,v=.ref b/\cG (bg prog w) s.heap (ky b4) b:=fun v hv=>by
    obtain⟨z,R,rfl⟩:=aF.mp hv;have U:z∈es.toList:=by rw[Array.toList_filter]at R;exact(aV.mp R).1
    rw[x.es_]at U;obtain⟨u,I,rfl⟩:=aF.mp U;exact⟨u.1,u.2,rfl,(x.tu u I).1⟩
   have X:∀d,d<g+1->∀n r,t.slot (sq t (hq prog w q) d).j=.live n->C[n]? =some r->y.1≠q->r.1≠q:=fun d D n r h l a8=>by
    by_cases c:d=g;·rw[c,e]at h;cases h;rw[p]at l;cases l;exact a8
    ·exact seen d (by lia) n r h l
   rw[G];dsimp only;by_cases F:(!t.led)=true
   ·rw[if_pos F];refine aa (unseen M _ a9 ?_);simp only[aN,if_false];refine aa (bQ (vW I ty M (aa (cY x.ho x.hd x.fits ?_))));by_cases hyq:y.1=q;·rw[decide_eq_true (show ky y.1=ky q by rw[hyq])];exact aj (P (aF.mpr ⟨y,O,hyq⟩))
    ·rw[decide_eq_false (fun z:ky y.1=ky q=>hyq (ID z))];simp only[gm,aN,if_false];rw[show t.sameMemory t.moves t.mask=some true from by unfold C4;simp];dsimp only;simp only[if_true];rw[e];dsimp only;rw[G];dsimp only;refine aa (wpAny_isSame_ref_self (aa (aj ?_)));simp only[if_true];exact ih (N-(g+1)) (by lia) (g+1) B (some _) rfl (by lia) (by lia) rfl fun d D n r h l=>X d D n r h l hyq
   ·rw[if_neg F];refine aa (bQ (vW I ty M (aa (cY x.ho x.hd x.fits ?_))));by_cases hyq:y.1=q;·rw[decide_eq_true (show ky y.1=ky q by rw[hyq])];exact aj (P (aF.mpr ⟨y,O,hyq⟩))
    ·rw[decide_eq_false (fun z:ky y.1=ky q=>hyq (ID z))];simp only[gm,aN,if_false];rw[show t.sameMemory t.moves t.mask=some true from by unfold C4;simp];dsimp only;simp only[if_true];rw[e];dsimp only;rw[G];dsimp only;refine aa (wpAny_isSame_ref_self (aa (aj ?_)));simp only[if_true];exact ih (N-(g+1)) (by lia) (g+1) B (some _) rfl (by lia) (by lia) rfl fun d D n r h l=>X d D n r h l hyq
theorem mw.size{T:Addr->Prop}{b:List (List Int×Addr)}{o:Obj}{t:aQ}(x:mw prog w T h S b o es ep t):es.size=b.length/\t.place.size=b.length:=by
 have a:es.size=b.length:=by rw[<-aT,x.es_,ak]
 exact⟨a,by rw[x.tb.sz,fu,a]⟩
def zS{a:Type}(d:a)(ys:List a):(ay ys.length).map (fun i=>ys.getD i d)=ys:=by
 apply cU;·simp
 ·intro i c b;simp[b]
theorem mM{o:Obj}{es ep t}{ks:List Key}(x:cG (bg prog w) h ks a)(c:h.get? S=some o)(b:o.data=.set es ep t)(hs:cZ S h h'):cG (bg prog w) h' ks a:=D8.mM x c b hs
def relay{T:Addr->Prop}{c:List (List Int×Addr)}{o:Obj}{t:aQ}{Q:Unit->Shared->Prop}(f:s.heap.get? S=some o)(K:o.ExactSet)(e:o.data=.set es ep t)(tb:Tb t (es.map (·.1)))(P:t.plain=true)(F:t.dummies= #[])(n:es.toList=c.map fun x=>(hq prog w x.1,aZ x.2))(nd:(c.map (·.1)).Nodup)(U:∀x∈c,cG (bg prog w) s.heap (ky x.1) x.2/\T x.2)(v:c.length=5)
  (h:∀h' D o' es' J t',D.Perm c->t'.led=t.led->cZ S s.heap h'->mw prog w T h' S D o' es' J t'->Q () {s with heap:=h'}):wpAny (model prog w) A (setRelay S 20) Q E s:=by
 have g:es.size=5:=by rw[<-aT,n,ak,v]
 have hf:t.fits es.size=true:=by have a:=tb.sz;have b:=tb.fl;rw[fu]at a;unfold pB xp;rw[F,a];simp;lia
 unfold setRelay;refine aa (cY f e hf ?_);dsimp only;rw[if_neg (by decide+kernel)];obtain⟨t',d,r,I,R,k⟩:=laid_ok (mask:=31) (.inr rfl) (finger:=t.finger) (moves:=t.movedTo 31) (led:=t.led) (plain:=t.plain) (hs:=es.map (·.1)) (by rw[fu,g];decide);have N:t.relaid (es.map (·.1)) 20=some (t',d):=r;rw[N];have q:=nC r;rw[fu,g]at k;have y:∀i∈d.toList,i<5:=fun i hi=>aJ.mp (k.mem_iff.mp hi);have m:(d.filterMap (es[·]?)).toList=d.toList.map fun i=>(hq prog w (c.getD i ([],0)).1,aZ (c.getD i ([],0)).2):=by
  rw[Array.toList_filterMap];have :∀l:List Nat,(∀i∈l,i<5)->l.filterMap (es[·]?)=l.map fun i=>(hq prog w (c.getD i ([],0)).1,aZ (c.getD i ([],0)).2):=fun l B=>by
   induction l with
   |nil=>rfl
   |cons i l ih=>
    have hi:=B i au;have G:es[i]? =some (hq prog w (c.getD i ([],0)).1,aZ (c.getD i ([],0)).2):=by rw[<-bU,n,ax,af,ae (by lia)];rfl
    rw[kj,G,bh,ih fun j M=>B j (av _ M)]
  exact this _ y
 have u:(d.filterMap (es[·]?)).size=es.size:=by rw[<-aT,m,ak,k.length_eq,g];rfl
 have p:(d.toList.map fun i=>c.getD i ([],0)).Perm c:=by have :=k.map fun i=>c.getD i ([],0);rw[<-v,zS]at this;exact this
 refine aa (nK (a:=(d.filterMap (es[·]?),t')) ?_ ?_);·show(ite ((_ != _)=true) _ _)=_;rw[if_neg (by rw[u];simp)]
 dsimp only;refine nI f e ?_ (by rw[u,g];decide);have L:(s.heap.update S (hZ (d.filterMap (es[·]?)) t')).get? S=some {o with data:=.set (d.filterMap (es[·]?)) (ep+1) t'}:=by have :=cP (hZ (d.filterMap (es[·]?)) t') f (by rw[putSet_of _ _ e];rfl);rw[putSet_of _ _ e]at this;exact this
 have C:=bM s.heap S (hZ (d.filterMap (es[·]?)) t');refine h _ (d.toList.map fun i=>c.getD i ([],0)) _ _ (ep+1) t' p q.2.1 C ⟨L,K,rfl,?_,by rw[q.2.2];exact P,q.1.2,by rw[m,bq];rfl,(p.map _).nodup_iff.mpr nd,fun x O=>?_,fun z=>by rw[I]at z;cases z⟩
 ·have H:(d.filterMap (es[·]?)).map (·.1)=d.map fun i=>(es.map (·.1)).getD i 0:=by
   apply Array.toList_inj.mp
   rw[Array.toList_map,m,Array.toList_map,bq];refine cF fun i hi=>?_;have hi:=y i hi;show hq prog w (c.getD i ([],0)).1=_;rw[cq,rN,<-bU,n,ax,af,ae (by lia)];rfl
  rw[H];exact R
 ·have :=U x (p.mem_iff.mp O);exact⟨mM this.1 f e C,this.2⟩
def addT{T:Addr->Prop}{c:List (List Int×Addr)}{o:Obj}{t:aQ}{q:List Int}{Q:Bool->Shared->Prop}(hu:A.units<cLine)(x:mw prog w T s.heap S c o es ep t)(m:cG (bg prog w) s.heap (ky q) a)(U:T a)(R:c.length+1<=18)
  (h:∀b h' d o' es' l t',(∀r,r∈d.map (·.1)↔r∈c.map (·.1)\/r=q)->d.length<=c.length+1->t'.led=t.led->cZ S s.heap h'->mw prog w T h' S d o' es' l t'->Q b {s with heap:=h'}):wpAny (model prog w) A (y6 S (.ref a) (hq prog w q)) Q E s:=by
 obtain⟨P,z2⟩:=x.size;obtain⟨N,n1,u,O⟩:=Cv x.tb.ti x.tb.mm x.tb.fl (hq prog w q);unfold y6 setAddHashedIn;refine bQ (aa (cY x.ho x.hd x.fits ?_));dsimp only;rw[show byScan (.ref a) es=false from rfl];simp only[aN,if_false];refine aa ?_;unfold setSearch;have a3:10*(13+t.mask)<=440:=by rcases x.tb.mm with e|e<;>rw[e]<;>decide
 refine search hu x m u O n1 (fun n=>?_) (fun n=>?_) N 0 100000 none (by lia) (aW _) (by lia) rfl (fun k' a2=>by lia);·dsimp only;exact aj (h false s.heap c o es ep t (fun r=>⟨.inl,fun z=>z.elim id fun e=>by rw[e];exact n⟩) (by lia) rfl (Bg _ _) x)
 ·dsimp only;refine aa (cY x.ho x.hd x.fits ?_);dsimp only;have nj:=jK x.tb.ti u;have k:=tZ x.tb.ti nj;have Z:t.place.size+1<=t.mask:=by
   rw[z2];rcases x.tb.mm with e|e;·have :=x.lo e;lia
   ·lia
  have a1:=x.tb.put u O Z;have Y:(t.put (sq t (hq prog w q) N).j).1.plain=true:=x.pl;rw[Y];simp only[if_true];refine aa (byVal m ?_);simp only[if_true];have X:(t.put (sq t (hq prog w q) N).j).2=cw t.place (sq t (hq prog w q) N).j:=rfl;rw[X];generalize hpp:cw t.place (sq t (hq prog w q) N).j=p at *;generalize htt:(t.put (sq t (hq prog w q) N).j).1=t1 at *;have W:t1.mask=t.mask:=by rw[<-htt];rfl
  have I:t1.led=t.led:=by rw[<-htt];rfl
  have L:(bN es p (hq prog w q,aZ a)).size=c.length+1:=by rw[D8.G4,P]
  refine aa (nI x.ho x.hd ?_ (by rw[L];exact bf R (by decide)));have H:(s.heap.update S (hZ (bN es p (hq prog w q,aZ a)) t1)).get? S=some {o with data:=.set (bN es p (hq prog w q,aZ a)) (ep+1) t1}:=by have :=cP (hZ (bN es p (hq prog w q,aZ a)) t1) x.ho (by rw[putSet_of _ _ x.hd];rfl);rw[putSet_of _ _ x.hd]at this;exact this
  have i:=bM s.heap S (hZ (bN es p (hq prog w q,aZ a)) t1);have F:(bN es p (hq prog w q,aZ a)).toList=(c.take p++(q,a)::c.drop p).map fun x=>(hq prog w x.1,aZ x.2):=by rw[jg,x.es_,dc,bh,List.map_take,List.map_drop]
  have g:(c.take p++(q,a)::c.drop p).Perm ((q,a)::c):=by have :=List.perm_middle (a:=(q,a)) (l₁:=c.take p) (l₂:=c.drop p);rw[F7]at this;exact this
  have K:((c.take p++(q,a)::c.drop p).map (·.1)).Nodup:=(g.map _).nodup_iff.mpr (bw.mpr ⟨n,x.nd⟩);have M:∀y∈c.take p++(q,a)::c.drop p,cG (bg prog w) (s.heap.update S (hZ (bN es p (hq prog w q,aZ a)) t1)) (ky y.1) y.2/\T y.2:=fun y hy=>by
   rcases aI.mp (g.mem_iff.mp hy)with rfl|hy;·exact⟨mM m x.ho x.hd i,U⟩
   ·exact⟨mM (x.tu y hy).1 x.ho x.hd i,(x.tu y hy).2⟩
  have J:∀{d:List (List Int×Addr)},d.Perm (c.take p++(q,a)::c.drop p)->∀r,r∈d.map (·.1)↔r∈c.map (·.1)\/r=q:=fun{d} j r=>by rw[((j.trans g).map (·.1)).mem_iff,bh,aI];exact⟨fun z=>z.elim .inr .inl,fun z=>z.elim .inr .inl⟩
  have v:Tb t1 ((bN es p (hq prog w q,aZ a)).map (·.1)):=by rw[D8.map_ins];exact a1
  have G:t1.fill=c.length+1:=by unfold xp;rw[k.2,v.sz,fu,L];rfl
  have f:(c.take p++(q,a)::c.drop p).length=c.length+1:=g.length_eq;by_cases full:t1.tooFull=true
  ·have B:(c.length+1)*5≥ t.mask*3:=by unfold F8 at full;rw[G,W]at full;exact of_decide_eq_true full
   have D:t.mask=7:=by
    rcases x.tb.mm with e|e;·exact e
    ·rw[e]at B;lia
   have C:c.length+1=5:=by have :=x.lo D;rw[D]at B;lia
   rw[full];simp only[Bool.not_false,eL,if_true];rw[show fj (es.size+1)=20 from by rw[P,C];rfl];refine aa (relay (T:=T) (s:={s with heap:=s.heap.update S (hZ (bN es p (hq prog w q,aZ a)) t1)}) H x.ex rfl v (by rw[<-htt];exact x.pl) k.2 F K M (by rw[f,C]) fun h' d o' es' l t' j V a0 x'=>?_);refine aj (h true h' d o' es' l t' (J j) (nX (j.length_eq.trans f)) (by rw[V,I]) (i.trans a0) x')
  ·rw[fK.mpr full];simp only[Bool.not_false,gm,aN,if_false];refine aj (h true _ (c.take p++(q,a)::c.drop p) _ _ (ep+1) t1 (J (.refl _)) (nX f) I i ⟨H,x.ex,rfl,v,by rw[<-htt];exact x.pl,k.2,F,K,M,fun e=>?_⟩);rw[f];apply aq;intro z;apply full;unfold F8;rw[G,e];exact decide_eq_true (by lia)
end
end TB
set_option maxHeartbeats 3200000
namespace Q
open PySem PySem.Spec PySem.W PyProof.Rows L2
section
variable {R:Result->Shared->Prop}{I:Addr}{fp wr:List Addr}{G:Array i7->Array i7->Prop}{P:Nat->Value->Prop}{St:Nat->Shared->Prop}
theorem wk(W:WalksS prog w A.in1 I fp wr G n P St)(S:Addr)(h:S∉fp)(ks:List Key)(r:ks.length=n)(y:∀i v,P i v->∃k,ks[i]? =some k/\RelV (kV k) v)(d:n+1<gB):
  ∀(m i:Nat)(s:Shared),n-i=m->i<=n->St i s->qE (bg prog w) s.heap S (has (met (ks.take i))) (met (ks.take i)).length led->
   (∀s',Moved (S::wr) G s s'->qE (bg prog w) s'.heap S (has (met ks)) (met ks).length led->R (.ok (.ret .none)) s')->
   je (model prog w) A (.builtin "set.update.loop" ⟨[.ref S,.ref I],[]⟩) R s
 | 0,i,s,hm,hi,st,hS,hR=>by
  obtain rfl:i=n:=by lia
  rw[<-r,eI]at hS;refine dW eH ?_;rw[cV cK _];show wpAny _ A.in1 (pyNext (.ref I)>>=_) _ _ s;refine aa (W.done s _ _ st fun s' g=>?_);obtain⟨o,c,a,t,f,p⟩:=hS;exact aj (hR s' (g.mono fun b d=>av _ d) ⟨o,c,a,t,g.heap S _ (fun z=>h (W.sub _ z)) f,p⟩)
 |m+1,i,s,hm,hi,st,hS,hR=>by
  have q:i<n:=by lia
  refine dW eH ?_;rw[cV cK _];show wpAny _ A.in1 (pyNext (.ref I)>>=_) _ _ s;refine aa (W.item i s _ _ q st fun v s' D a0 g=>?_);obtain⟨k,O,l⟩:=y i v D;have E:qE (bg prog w) s'.heap S (has (met (ks.take i))) (met (ks.take i)).length led:=by obtain⟨o,c,a,t,f,p⟩:=hS;exact⟨o,c,a,t,g.heap S _ (fun z=>h (W.sub _ z)) f,p⟩
  have V:v.scannable=true:=by
   cases k with
   |inl j=>obtain⟨t,rfl⟩:=l;rfl
   |inr x=>obtain⟨t,rfl⟩:=l;rfl
  show wpAny _ A.in1 (holding [v] (setAdd S v)>>=_) _ _ s';refine aa (bQ ?_);unfold setAdd;refine bQ (aa ((bg prog w).pyHash (k:=k) (IH l) ?_));have Q:=Ir (ks.take i);rw[cy]at Q;refine addX (knd:=bg prog w) (led:=led) (s:={s' with toks:=s'.toks+1}) (IH l) V E (by lia) fun C u F=>?_;have B:ks.take (i+1)=ks.take i++[k]:=by rw[dh,O];rfl
  have H:qE (bg prog w) C S (has (met (ks.take (i+1)))) (met (ks.take (i+1))).length led:=by rw[B,Ip];obtain⟨o,c,a,t,f,N,L,M,T,K,hf,U,X⟩:=F;refine⟨o,c,a,t,f,N,L,M,fun j=>?_,K,hf,by rw[pY];exact U,X⟩;rw[<-T j,jB,Ah,dS,jB,decide_eq_true_eq]
  refine aj ⟨fA cK _,wk W S h ks r y d m (i+1) _ (by lia) q (W.frame _ s' _ _ a0 (eR _) fun b hq o e=>?_) H fun Z Y J=>?_⟩;·rw[u.2 b (fun z:b=S=>h (by rw[<-z];exact hq))];exact e
  ·refine hR Z (vt W.gtrans ((g.mono fun b d=>av _ d).then_heap (eR _) fun b o hq e=>?_) Y) J;rw[u.2 b (fun z:b=S=>hq (by rw[z];exact au))];exact e
end
section
variable {E:Value->Shared->Prop}{s:Shared}
def Fz(a:Value)(h:Q₁ (.ref s.heap.objs.size) {s with heap:=s.heap.push (jq (!w.params.followText "set-order"))}):je (model prog w) A (.call (.builtin "set.__new__") ⟨[.type "set",a],[]⟩) (wants Q₁ E) s:=by refine codeAny_of_tree ?_;show wpAny _ A.in1 (do checkBuiltinCall "set.__new__" ⟨[.type "set",a],[]⟩;again (.builtin "set.__new__" ⟨[.type "set",a],[]⟩)) _ _ s;refine aa (nK (F.newCall_set_1 a) (aj ⟨fA F.plain_set_new _,dW F.entry_set_new ?_⟩));rw[cV F.plain_set_new _];unfold Builtin.«set.__new__» Builtin.Frozenset.newClass;have c:=sub_set_self;obtain⟨b,g,d,tk,e⟩:=s;dsimp only;wp_walk;refine iR (aj ?_);dsimp only;simp only[newObj];exact aa (wpAny_alloc (aj (aj h)))
def wo{P:Bool->Heap->Prop}{Q:Value->Shared->Prop}(D:s.heap.IsList l items)
  (I:∀(led:Bool)(R:Result->Shared->Prop),(∀s',Moved (s.heap.objs.size::[(s.heap.push (jq led)).objs.size]) (fun a b=>b=a) {s with heap:=(s.heap.push (jq led)).push {cls:=.type "list_iterator",data:=.fields #[.ref l,.int 0 0]}} s'->P led s'.heap->R (.ok (.ret .none)) s')->je (model prog w) A.in1.in1 (.builtin "set.update.loop" ⟨[.ref s.heap.objs.size,.ref (s.heap.push (jq led)).objs.size],[]⟩) R {s with heap:=(s.heap.push (jq led)).push {cls:=.type "list_iterator",data:=.fields #[.ref l,.int 0 0]}})
  (h:∀(h':Heap)(tk:Nat),P (!w.params.followText "set-order") h'->(∀b o,b<s.heap.objs.size->s.heap.get? b=some o->h'.get? b=some o)->Q (.ref s.heap.objs.size) {s with heap:=h',toks:=tk}):
  wpAny (model prog w) A (call (.type "set") [.ref l]) Q E s:=by
 have d:=F.called_set;obtain⟨c,tl,a1⟩:=d.mro;have W:=d.made;have X:=d.sub;have Y:=d.notType;have Z:=d.canCreate;have f5:=F.typeCall_set_1 (.ref l);refine wpAny_call (codeAny_of_tree ?_);show wpAny _ _ (callAny (.type "set") _) _ _ _;refine aj ⟨Code.quiet_builtin _ (by decide+kernel),dW F.entry_type_call ?_⟩;rw[Around.under_plain (weight_type_call_type "set" [.ref l] []) rfl];repeat(any_goals (first |assumption|wp_step))
 refine l5 (Fz (.ref l) (E:=E) (Q₁:=fun obj n=>∃led:Bool,led=(!w.params.followText "set-order")/\obj=.ref s.heap.objs.size/\n={s with heap:=s.heap.push (jq led)}) ⟨_,rfl,rfl,rfl⟩) fun r n f=>?_;rcases r with e|fl;·exact f
 rcases fl with _|_|_|obj;·exact f.elim
 ·exact f.elim
 ·exact f.elim
 obtain⟨led,H,rfl,rfl⟩:=f;rw[<-H]at h;have u:(s.heap.push (jq led)).get? s.heap.objs.size=some (jq led):=az _ rfl;have x:Shared.TypeIs {s with heap:=s.heap.push (jq led)} (.ref s.heap.objs.size) "set":=⟨_,u,rfl⟩;have f6:=d.init.lookup;have f7:=d.init.bind (.ref s.heap.objs.size);repeat(any_goals (first |assumption|wp_step))
 refine l5 (codeAny_call_builtin (R:=wants (fun r p=>r=.none/\∃h' tk,p={s with heap:=h',toks:=tk}/\P led h'/\
  (∀b o,b<s.heap.objs.size->s.heap.get? b=some o->h'.get? b=some o)) E) d.init.plain F.entry_set_init (check_set_init_1 x ?_)) fun U p g=>?_
 ·obtain⟨O,m,y,k,B⟩:=D;obtain⟨L,M,N,T⟩:=O;obtain rfl:L=.type "list":=y;obtain rfl:N=.seq items k:=B;have J:(s.heap.push (jq led)).get? l=some {cls:=.type "list",dict:=M,data:=.seq items k,slots:=T}:=ai _ m;have g1:=F.sub_list_set;have g2:=F.sub_list_frozenset;have g3:(rF "list"==rF "dict")=false:=by decide
  have G:(s.heap.push (jq led)).IsList l items:=⟨_,J,rfl,k,rfl⟩;unfold Builtin.«set.__init__» noKeywords Builtin.Frozenset.updateFrom;generalize hPI:pyIter=PI
  wp_walk
  subst hPI;refine nJ G (aa (wpAny_runValue ?_));have a0:l<s.heap.objs.size:=aB m;have K:(s.heap.push (jq led)).objs.size=s.heap.objs.size+1:=bV _ _;refine I led _ fun s' i j=>?_
  ·obtain⟨h',t,q,V,S⟩:=s';obtain rfl:t=s.gens:=i.gens;obtain rfl:q=s.drawn:=i.drawn;obtain rfl:S=s.os:=i.os;show wpAny _ _ _ _ _ _;refine aj ?_;show wpAny _ _ (ret bW) _ _ _;refine aj ⟨rfl,h',V,rfl,j,fun b o hq e=>i.heap b o (fun z=>?_) (ai _ (ai _ e))⟩;rcases aI.mp z with z|z;·exact aO hq z
   ·exact aO (bF hq) ((aH.mp z).trans K)
 ·rcases U with e|fl2;·exact g
  rcases fl2 with _|_|_|v;·exact g.elim
  ·exact g.elim
  ·exact g.elim
  obtain⟨rfl,h',tk,rfl,j,C⟩:=g;repeat(any_goals (first |assumption|wp_step))
  exact h _ _ j C
def wm{ks:List Key}{Q:Value->Shared->Prop}(p:A.handled=none)(a:s.heap.IsList l items)(q:ks.length=items.size)
  (u:∀(i:Nat)(v:Value),items[i]? =some v->∃k,ks[i]? =some k/\RelV (kV k) v)(m:items.size+1<gB)
  (h:∀(h':Heap)(tk:Nat),qE (bg prog w) h' s.heap.objs.size (has (met ks)) (met ks).length (!w.params.followText "set-order")->(∀b o,b<s.heap.objs.size->s.heap.get? b=some o->h'.get? b=some o)->Q (.ref s.heap.objs.size) {s with heap:=h',toks:=tk}):
  wpAny (model prog w) A (call (.type "set") [.ref l]) Q E s:=by
 have c:l<s.heap.objs.size:=let⟨_,e,_⟩:=a;aB e;refine wo (P:=fun led h=>qE (bg prog w) h s.heap.objs.size (has (met ks)) (met ks).length led) a (fun led R g=>?_) h;have f:A.in1.in1.in1.handled=none:=by simp[p]
 have d:(s.heap.push (jq led)).objs.size=s.heap.objs.size+1:=bV _ _;have r:l≠(s.heap.push (jq led)).objs.size:=by rw[d];exact aO (bF c)
 have t:s.heap.objs.size∉[(s.heap.push (jq led)).objs.size,l]:=by
  rw[d];intro z;rcases aI.mp z with z|z;·exact aO (dI _) z
  ·exact fO c (aH.mp z)
 have j:(s.heap.push (jq led)).get? s.heap.objs.size=some (jq led):=az _ rfl;refine wk (led:=led) ((JY f _ l r items).toS) s.heap.objs.size t ks q u m (items.size-0) 0 _ (by lia) (aW _) ⟨⟨_,az _ rfl,rfl,rfl⟩,(a.push _).push _⟩ ?_ g;exact⟨jq led,#[],0,_,ai _ j,⟨rfl,rfl,rfl⟩,rfl,fun e n=>by simp at n,fun k=>by simp[met,has],by decide,by rfl,rfl,⟨jR,rfl⟩,rfl⟩
end
def FD(m:X.calm=true):gp X (.type "set") (rSet X.K):=by intro M s P H O N Q I r h;obtain⟨p,ks,rfl,hq,K,q⟩:=h;obtain⟨u,rfl,C⟩:=vals1 r;cases C;obtain⟨L,g,A,_⟩:=I.list hq;have f:=g.length;rw[ak]at f;refine wm (ks:=ks) (I.ok.hd m) A.isList (by rw[aD];exact f) (fun i v e=>yv g i v (by simpa using e)) (by rw[aD,<-f];unfold gB;lia) fun D tk j y=>?_;refine⟨.ref s.heap.objs.size,_,I.laid (t':=tk) (fun b o e=>y b o (aB e) e) (aC _) (show d7 X.prog X.w _ _ _ (EK _ (met ks).length)from ?_),rfl,q _ (I.hok.fresh (aC _))⟩;obtain⟨o,d,c,t,a,w,n,G,J,l,hf,x⟩:=j.of;refine⟨⟨o,d,c,t,a,w,n,l,hf,x⟩,⟨o,a⟩,fun E F z k=>?_⟩;obtain⟨o,d,c,t,a,B⟩:=z;exact⟨o,d,c,t,k o a,B⟩
end Q
set_option maxHeartbeats 1000000
namespace Q
open PySem
theorem i6{c:Type}:∀{l:List c}{i:Nat}(h:i<l.length),(l[i]::l.eraseIdx i).Perm l
 |a::l,0,_=>fh _
 |a::l,i+1,h=>by
  have hi:i<l.length:=by simpa using h
  have b:=i6 hi;show(l[i]::a::l.eraseIdx i).Perm (a::l);exact(j7 _ _ _).trans (b.cons a)
theorem Ds{c:Type}(next :Nat->Nat):∀(fuel k:Nat)(b:List c)(out:Array c),b.length<=fuel->(y9 next fuel k b out).toList.Perm (out.toList++b)
 | 0,k,b,out,h=>by have e:b=[]:=bx.mp (by lia);subst e;simp[y9]
 |fuel+1,k,b,out,h=>by
  unfold y9;cases b with
  |nil=>simp
  |cons a l=>
   have hi:next k%(a::l).length<(a::l).length:=lK _ (by simp)
   rw[ae hi];dsimp only;refine(Ds next fuel (k+1) _ _ (by rw[zq hi];simp at h⊢;lia)).trans ?_;rw[Array.toList_push,jf];exact List.Perm.append_left _ (i6 hi)
def ng{a:Type}(next :Nat->Nat)(xs:Array a):(jl next xs).toList.Perm xs.toList:=by unfold jl;exact(Ds next xs.size 0 xs.toList #[] (by simp)).trans (by simp)
section
variable {M:Model}{E:Value->Shared->Prop}
def vE{a:Source}{Q:Nat->Shared->Prop}(h:n≠0)(q:∀i d,i<n->Q i {s with drawn:=d}):wpAny M A (choose a n) Q E s:=fun c p b=>by unfold choose;rw[Sem.wp_choose];exact⟨h,q _ _ (lK _ (Nat.pos_of_ne_zero h))⟩
theorem wO{b:Type}:∀(n:Nat)(xs:List b)(s:Shared)(Q:List b->Shared->Prop),xs.length<=n->(∀ys d,ys.Perm xs->Q ys {s with drawn:=d})->wpAny M A (drawOrder n xs) Q E s
 | 0,xs,s,Q,h,q=>by have e:xs=[]:=bx.mp (by lia);subst e;unfold drawOrder;exact aj (q [] s.drawn (fh _))
 |n+1,[],s,Q,h,q=>by unfold drawOrder;exact aj (q [] s.drawn (fh _))
 |n+1,a::l,s,Q,h,q=>by unfold drawOrder;refine aa (vE (by simp) fun i d hi=>?_);rw[ae hi];dsimp only;refine aa (wO n _ _ _ (by rw[zq hi];simp at h⊢;lia) fun ys c f=>aj ?_);exact q _ c ((f.cons _).trans (i6 hi))
end
end Q
set_option maxHeartbeats 3200000
namespace Q
open PySem PySem.Spec PySem.W PyProof.Rows L2
def fU:Slot "set_iterator" "__next__" "set_iterator.__next__":=
 .of (owner:="set_iterator") (n:="__next__") (by rw[typeLookup_type,builtinLookup_eq_fast];kernel_rfl) (by decide+kernel) (by decide+kernel) (by decide+kernel) (by first |exact .inl (by decide+kernel) |exact .inr (by decide+kernel)) (by rw[FV];kernel_rfl)
def oj:FW table "set_iterator.__next__"=some Builtin.«set_iterator.__next__»:=entryFor_of_tree (by kernel_rfl)
def qB(a:Value):argsOk "set_iterator.__next__" ⟨[a],[]⟩:=by unfold argsOk;kernel_rfl
def sF:FW table "set.__iter__"=some Builtin.«frozenset.__iter__»:=entryFor_alias (id':="frozenset.__iter__") (by kernel_rfl) rfl (by decide+kernel) (by kernel_rfl)
noncomputable abbrev siO(S:Addr)(first :Value)(i n ep:Nat):Obj:={cls:=.type "set_iterator",dict:=none,data:=.fields #[first,.int i 0,.ref S,.int n 0,.int ep 0],slots:= #[]}
section
variable {E:Value->Shared->Prop}{s:Shared}
abbrev ja(es:Array (Int×Value))(t:aQ):Bool:= !t.plain&&es.size>1
def pI{o:Obj}{t:aQ}{Q:Bool->Shared->Prop}(c:s.heap.get? a=some o)(b:o.data=.set es ep t)(hf:t.fits es.size=true)(h:Q (!w.params.followText "set-order"&&ja es t) s):
  wpAny (model prog w) A (setDrawn a) Q E s:=by
 unfold setDrawn FT;refine aa (cY c b hf ?_);dsimp only;refine aa (aa (iR (aj (aj ?_))));exact h
def IJ{o:Obj}{t:aQ}{Q:Value->Shared->Prop}(b:s.heap.get? S=some o)(h:o.cls=.type "set")(a:o.data=.set es ep t)(hf:t.fits es.size=true)(l:es.size<gB)
  (f:(!w.params.followText "set-order"&&ja es t)=false->Q (.ref s.heap.objs.size) {s with heap:=s.heap.push (siO S (.int 0 0) 0 es.size ep)})
  (g:(!w.params.followText "set-order"&&ja es t)=true->∀(ps:List Nat)(d:Drawn),ps.Perm (ay es.size)->Q (.ref (s.heap.objs.size+1)) {s with drawn:=d,heap:=(s.heap.push {cls:=.type "tuple",data:=.seq (ps.map fun(i:Nat)=>rawInt i).toArray}).push (siO S (.ref s.heap.objs.size) 0 es.size ep)}):
  wpAny (model prog w) A (pyIter (.ref S)) Q E s:=by
 have c:s.TypeIs (.ref S) "set":=⟨o,b,h⟩;refine wpAny_pyIter_slot c F.slot_set_iter (cA F.slot_set_iter c sF ?_ (F.args_set_iter_1 _));unfold Builtin.«frozenset.__iter__» Builtin.Frozenset.slot0 Builtin.Frozenset.sizeOf
 wp_walk
 have j:(t.place.size != es.size||decide (t.fill>t.mask))=false:=by simp only[pB,aL,beq_iff_eq,decide_eq_true_eq]at hf;simp[hf.1,A9.mpr hf.2]
 rw[a];dsimp only;rw[if_neg (by rw[j];decide)];refine aj (aj (aj ?_));refine aa (pI b a hf ?_);dsimp only;cases hb:(!w.params.followText "set-order"&&ja es t)with
 |false=>rw[if_neg (by decide)];refine aa (aj (aa (wpAny_setEpoch_of b a hf ?_)));refine aa (bL (aj ⟨_,rfl,"set_iterator",_,⟨_,az _ rfl,rfl⟩,fU.lookup,f hb⟩))
 |true=>rw[if_pos rfl];refine aa (wO _ _ _ _ (by simp) fun ps d e=>?_);refine aa (bL ?_ (by show(ps.map fun(i:Nat)=>rawInt i).toArray.size<=sizeLine;rw[aD,ak,e.length_eq,bC];exact nN l));have k:(s.heap.push {cls:=.type "tuple",data:=.seq (ps.map fun(i:Nat)=>rawInt i).toArray}).get? S=some o:=ai _ b;refine aa (wpAny_setEpoch_of (s:={s with drawn:=d,heap:=s.heap.push {cls:=.type "tuple",data:=.seq (ps.map fun(i:Nat)=>rawInt i).toArray}}) k a hf ?_);have m:(s.heap.push {cls:=.type "tuple",data:=.seq (ps.map fun(i:Nat)=>rawInt i).toArray}).objs.size=s.heap.objs.size+1:=bV ..;refine aa (bL (aj ⟨_,rfl,"set_iterator",_,⟨_,az _ rfl,rfl⟩,fU.lookup,?_⟩));have :=g hb ps d e;rw[<-m]at this;exact this
end
section
variable {E:Value->Shared->Prop}{s:Shared}
structure kE(h:Heap)(S:Addr)(es:Array (Int×Value))(ep:Nat)(t:aQ):Prop where
 ob:∃o,h.get? S=some o/\o.cls=.type "set"/\o.data=.set es ep t
 fit:t.fits es.size=true
def jL{first :Value}{t:aQ}{Q:eG->Shared->Prop}(hi:s.heap.get? I=some (siO S first i es.size ep))(hs:kE s.heap S es ep t)
  (h:wpAny (model prog w) A (match first with
   |.int slot _=>do
    match<-setNext S slot.toNat i ep with
    |some (x,next)=>do
     sL (.ref I) 0 (rawInt next)
     sL (.ref I) 1 (rawInt ((i:Int)+1))
     ret x
    |none=>do
     sL (.ref I) 2 .none
     FU (<-newExc (.type "StopIteration") [])
   |_=>do
    let some places<-mo first |unsupported "internal:set_iterator"
    match places[i]? with
    |some (.int place _)=>do
     let x<-setNextDrawn S place.toNat ep
     sL (.ref I) 1 (rawInt ((i:Int)+1))
     ret x
    |some _=>unsupported "internal:set_iterator"
    |none=>do
     sL (.ref I) 0 (rawInt 0)
     sL (.ref I) 2 .none
     FU (<-newExc (.type "StopIteration") [])) Q E s):
  wpAny (model prog w) A (Builtin.«set_iterator.__next__» ⟨[.ref I],[]⟩) Q E s:=by
 obtain⟨⟨o,b,c,a⟩,hf⟩:=hs;unfold Builtin.«set_iterator.__next__»;show wpAny _ _ (fieldsOf (.ref I)>>=_) _ _ _;refine aa (wpAny_fieldsOf hi rfl ?_);dsimp only;refine aa (wpAny_setEntries_of b a hf ?_);rw[if_neg (by simp)];exact h
def nxA{t:aQ}{o:Obj}{Q:Option (Value×Nat)->Shared->Prop}(c:w.params.followText "set-order"=true)(b:s.heap.get? S=some o)(a:o.data=.set es ep t)(hf:t.fits es.size=true)
  (q:Q ((jl (w.params.setOrder S ep) es)[i]?.map fun e=>(e.2,k)) s):wpAny (model prog w) A (setNext S k i ep) Q E s:=by
 unfold setNext FT;refine aa (cY b a hf ?_);dsimp only;refine aa (aa (iR (aj ?_)));dsimp only;rw[show(model prog w).w.params.followText "set-order"=true from c];simp only[if_true,bne_self_eq_false,aN,if_false];refine aa ?_;unfold setWalk FT;refine aa (cY b a hf ?_);dsimp only;refine aa (aa (iR (aj ?_)));dsimp only;rw[show(model prog w).w.params.followText "set-order"=true from c];simp only[if_true];exact aa (iR (aj (aj q)))
def nxB{t:aQ}{o:Obj}{Q:Option (Value×Nat)->Shared->Prop}(h:w.params.followText "set-order"=false)(e:ja es t=false)(f:t.led=true)(g:s.heap.get? S=some o)(d:o.data=.set es ep t)(hf:t.fits es.size=true)(b:cw t.place k=i)
  (l:∀x j,es[i]? =some x->t.place[i]? =some j->Q (some (x.2,j+1)) s)(m:es[i]? =none->Q none s):wpAny (model prog w) A (setNext S k n ep) Q E s:=by
 unfold setNext FT;refine aa (cY g d hf ?_);dsimp only;refine aa (aa (iR (aj ?_)));dsimp only;rw[show(model prog w).w.params.followText "set-order"=false from h];simp only[aN,if_false];rw[if_neg (fun z=>by have c:ja es t=true:=z;rw[e]at c;cases c)];refine aa (show wpAny _ _ (if(!t.led&& !es.isEmpty)=true then unsupported "set:maker-not-led" else pure ()) _ _ _ from ?_);rw[if_neg (by rw[f];simp)];refine aj (aj ?_);cases hx:es[i]? with
 |none=>simp only[b,hx];exact m hx
 |some x=>
  have q:t.place.size=es.size:=by simp only[pB,aL,beq_iff_eq]at hf;exact hf.1
  have p:i<es.size:=(cR.mp hx).1;have a:t.place[i]? =some (t.place[i]'(by lia)):=by simp[show i<t.place.size by lia]
  simp only[b,hx,a];exact l x _ hx a
def nextA{t:aQ}{x:Int×Value}{Q:eG->Shared->Prop}(g:w.params.followText "set-order"=true)(hi:s.heap.get? I=some (siO S (.int k 0) i es.size ep))(hs:kE s.heap S es ep t)
  (j:(jl (w.params.setOrder S ep) es)[i]? =some x)(h:∀h',h'.get? I=some (siO S (.int k 0) (i+1) es.size ep)->cZ I s.heap h'->Q (.done (.ret x.2)) {s with heap:=h'}):
  wpAny (model prog w) A (Builtin.«set_iterator.__next__» ⟨[.ref I],[]⟩) Q E s:=by
 refine jL hi hs ?_;obtain⟨⟨o,f,n,e⟩,hf⟩:=hs;refine aa (nxA g f e hf ?_);rw[j,jN];dsimp only;refine aa (dY hi (by simp) fun d a l=>?_);have a:d.get? I=some (siO S (.int k 0) i es.size ep):=a;refine aa (dY a (by simp) fun c b m=>?_);have b:c.get? I=some (siO S (.int k 0) (i+1) es.size ep):=b;exact aj (h c b (l.trans m))
def nextB{t:aQ}{x:Int×Value}{Q:eG->Shared->Prop}(r:w.params.followText "set-order"=false)(m:ja es t=false)(p:t.led=true)(hi:s.heap.get? I=some (siO S (.int k 0) i es.size ep))(hs:kE s.heap S es ep t)
  (n:cw t.place k=i)(e:es[i]? =some x)(h:∀h' j,t.place[i]? =some j->h'.get? I=some (siO S (.int (j+1:Nat) 0) (i+1) es.size ep)->cZ I s.heap h'->Q (.done (.ret x.2)) {s with heap:=h'}):
  wpAny (model prog w) A (Builtin.«set_iterator.__next__» ⟨[.ref I],[]⟩) Q E s:=by
 refine jL hi hs ?_;obtain⟨⟨o,q,B,l⟩,hf⟩:=hs;refine aa (nxB r m p q l hf n (fun y j c f=>?_) fun z=>by rw[e]at z;cases z);rw[e]at c;cases c;dsimp only;refine aa (dY hi (by simp) fun g a u=>?_);have a:g.get? I=some (siO S (.int (j+1:Nat) 0) i es.size ep):=a;refine aa (dY a (by simp) fun d b v=>?_);have b:d.get? I=some (siO S (.int (j+1:Nat) 0) (i+1) es.size ep):=b;exact aj (h d _ f b (u.trans v))
def nextC{tk:Tok}{t:aQ}{ps:Array Value}{c:Obj}{x:Int×Value}{Q:eG->Shared->Prop}(hi:s.heap.get? I=some (siO S (.ref T) i es.size ep))(hs:kE s.heap S es ep t)
  (d:s.heap.get? T=some c)(e:c.data=.seq ps m)(j:ps[i]? =some (.int p tk))(k:es[p]? =some x)(h:∀h',h'.get? I=some (siO S (.ref T) (i+1) es.size ep)->cZ I s.heap h'->Q (.done (.ret x.2)) {s with heap:=h'}):
  wpAny (model prog w) A (Builtin.«set_iterator.__next__» ⟨[.ref I],[]⟩) Q E s:=by
 refine jL hi hs ?_;obtain⟨⟨o,g,n,f⟩,hf⟩:=hs;dsimp only;refine aa (fE d e ?_);simp only[j,ba];refine aa ?_;unfold setNextDrawn;refine aa (cY g f hf ?_);simp only[bne_self_eq_false,aN,if_false,k];refine aj ?_;refine aa (dY hi (by simp) fun b a l=>?_);have a:b.get? I=some (siO S (.ref T) (i+1) es.size ep):=a;exact aj (h b a l)
end
section
variable {E:Value->Shared->Prop}{s:Shared}
def oS{d:Type}{Q:d->Shared->Prop}(b:A.handled=none)(h:∀h' e,(∀c o,s.heap.get? c=some o->h'.get? c=some o)->(∃o,h'.get? e=some o/\o.cls=.type "StopIteration")->E (.ref e) {s with heap:=h'}):
  wpAny (model prog w) A (newExc (.type "StopIteration") []>>=fun x=>FU x) Q E s:=by
 refine aa ?_;simp only[newExc,newTuple];refine aa (bL ?_ (by size_fits));refine aa (m:=sN _ _) (nK (a:=bW) (by first |rfl| (simp only[sN];rfl)) ?_);refine bL ?_ (by size_fits);simp only[FU];refine aa (wpAny_handled ?_);rw[b];refine aa (aj (wpAny_throw ?_));exact h _ _ (fun c o e=>ai _ (ai _ e)) ⟨_,az _ rfl,rfl⟩
def Ends(E:Value->Shared->Prop)(I:Addr)(s:Shared):Prop:=∀h' e,(∀c o,c≠I->s.heap.get? c=some o->h'.get? c=some o)->(∃o,h'.get? e=some o/\o.cls=.type "StopIteration")->E (.ref e) {s with heap:=h'}
def endA{t:aQ}{Q:eG->Shared->Prop}(i:A.handled=none)(l:w.params.followText "set-order"=true)(hi:s.heap.get? I=some (siO S (.int k 0) es.size es.size ep))(hs:kE s.heap S es ep t)(h:Ends E I s):
  wpAny (model prog w) A (Builtin.«set_iterator.__next__» ⟨[.ref I],[]⟩) Q E s:=by
 have m:(jl (w.params.setOrder S ep) es)[es.size]? =none:=by have :=(ng (w.params.setOrder S ep) es).length_eq;simp at this⊢;lia
 refine jL hi hs ?_;obtain⟨⟨o,j,u,f⟩,hf⟩:=hs;refine aa (nxA l j f hf ?_);rw[m,Option.map_none];dsimp only;refine aa (dY hi (by simp) fun d r p=>?_);exact oS (s:={s with heap:=d}) i fun b e n g=>h b e (fun c o a q=>n c o (p.extBut c o a q)) g
def endB{t:aQ}{Q:eG->Shared->Prop}(m:A.handled=none)(u:w.params.followText "set-order"=false)(i:ja es t=false)(p:t.led=true)(hi:s.heap.get? I=some (siO S (.int k 0) es.size es.size ep))(hs:kE s.heap S es ep t)
  (n:cw t.place k=es.size)(h:Ends E I s):wpAny (model prog w) A (Builtin.«set_iterator.__next__» ⟨[.ref I],[]⟩) Q E s:=by
 refine jL hi hs ?_;obtain⟨⟨o,r,C,g⟩,hf⟩:=hs;refine aa (nxB u i p r g hf n (fun y j b B=>by simp at b) fun _=>?_);dsimp only;refine aa (dY hi (by simp) fun f z x=>?_);exact oS (s:={s with heap:=f}) m fun d e v l=>h d e (fun c o a q=>v c o (x.extBut c o a q)) l
def endC{t:aQ}{ps:Array Value}{d:Obj}{Q:eG->Shared->Prop}(n:A.handled=none)(hi:s.heap.get? I=some (siO S (.ref T) es.size es.size ep))(hs:kE s.heap S es ep t)(j:s.heap.get? T=some d)(k:d.data=.seq ps m)(y:ps.size=es.size)(h:Ends E I s):
  wpAny (model prog w) A (Builtin.«set_iterator.__next__» ⟨[.ref I],[]⟩) Q E s:=by
 refine jL hi hs ?_;dsimp only;refine aa (fE j k ?_);have p:ps[es.size]? =none:=by simp;lia
 simp only[p];refine aa (dY hi (by simp) fun g a u=>?_);have a:g.get? I=some (siO S (.int 0 0) es.size es.size ep):=a;refine aa (dY a (by simp) fun i x v=>?_);exact oS (s:={s with heap:=i}) n fun f e r l=>h f e (fun c o b q=>r c o (v.extBut c o b (u.extBut c o b q))) l
end
def pN:Slot "set_iterator" "__iter__" "set_iterator.__iter__":=
 .of (owner:="set_iterator") (n:="__iter__") (by rw[typeLookup_type,builtinLookup_eq_fast];kernel_rfl) (by decide+kernel) (by decide+kernel) (by decide+kernel) (by first |exact .inl (by decide+kernel) |exact .inr (by decide+kernel)) (by rw[FV];kernel_rfl)
def vQ:FW table "set_iterator.__iter__"=some Builtin.«dict_keyiterator.__iter__»:=
 entryFor_alias (id':="dict_keyiterator.__iter__") (by kernel_rfl) (by first |rfl|decide+kernel) (by decide+kernel) (by kernel_rfl)
def yY(a:Value):argsOk "set_iterator.__iter__" ⟨[a],[]⟩:=by unfold argsOk;kernel_rfl
section
variable {E:Value->Shared->Prop}{s:Shared}
def xV{Q:Option Value->Shared->Prop}(b:s.TypeIs (.ref I) "set_iterator")(h:∀(a:eG->Shared->Prop)(c:Value->Shared->Prop),(∀v h',Q (some v) {s with heap:=h'}->a (.done (.ret v)) {s with heap:=h'})->wpAny (model prog w) A.in1 (Builtin.«set_iterator.__next__» ⟨[.ref I],[]⟩) a c s):
  wpAny (model prog w) A (pyNext (.ref I)) Q E s:=by
 unfold pyNext;exact aa (vn (dE (name:=cQ "__next__") b fU (cA fU b oj (h _ _ fun v h' q=>⟨_,rfl,aj q⟩) (qB _))))
def xW{Q:Option Value->Shared->Prop}(d:s.TypeIs (.ref I) "set_iterator")(h:∀(f:eG->Shared->Prop)(a:Value->Shared->Prop),(∀h' e,(∀c o,c≠I->s.heap.get? c=some o->h'.get? c=some o)->(∃o,h'.get? e=some o/\o.cls=.type "StopIteration")->a (.ref e) {s with heap:=h'})->wpAny (model prog w) A.in1 (Builtin.«set_iterator.__next__» ⟨[.ref I],[]⟩) f a s)
  (q:∀h',(∀c o,c≠I->s.heap.get? c=some o->h'.get? c=some o)->Q none {s with heap:=h'}):wpAny (model prog w) A (pyNext (.ref I)) Q E s:=by
 unfold pyNext;refine aa (vn (dE (name:=cQ "__next__") d fU (cA fU d oj (h _ _ fun h' e k j=>?_) (qB _))));obtain⟨o,g,i⟩:=j;exact aa (pb (T:="StopIteration") (b:=true) ⟨o,g,i⟩ isSubtype_stop (aj (q _ k)))
def xU{Q:Value->Shared->Prop}(a:s.TypeIs (.ref I) "set_iterator")(h:Q (.ref I) s):wpAny (model prog w) A (pyIter (.ref I)) Q E s:=by refine wpAny_pyIter_slot a pN (cA pN a vQ ?_ (yY _));show wpAny _ _ (ret (.ref I)) _ _ s;exact aj ⟨_,rfl,"set_iterator",_,a,fU.lookup,h⟩
end
def kE.at{t:aQ}(x:kE h S es ep t)(k:∀o,h.get? S=some o->h'.get? S=some o):kE h' S es ep t:=let⟨⟨o,a,b,c⟩,f⟩:=x;⟨⟨o,k o a,b,c⟩,f⟩
def walkA(y:A.handled=none)(l:w.params.followText "set-order"=true)(ne:S≠I)(a:Array (Int×Value))(c:Nat)(t:aQ):
  Walks prog w A I [I,S] [I] a.size (fun i v=>((jl (w.params.setOrder S c) a).toList.map (·.2))[i]? =some v) (fun i h=>kE h S a c t/\∃k:Nat,h.get? I=some (siO S (.int k 0) i a.size c)) where
 sub:=fun b d=>by simp at d⊢;exact .inl d
 frame:=fun i h f ⟨x,k,e⟩ g=>⟨x.at fun o q=>g S (by simp) o q,k,g I (by simp) _ e⟩
 item:=fun i s Q E hi ⟨x,k,e⟩ j=>by
  have B:=(ng (w.params.setOrder S c) a).length_eq;simp only[aT]at B;have m:(jl (w.params.setOrder S c) a)[i]? =some ((jl (w.params.setOrder S c) a)[i]'(by lia)):=by simp[show i<(jl (w.params.setOrder S c) a).size by lia]
  refine xV ⟨_,e,rfl⟩ fun r p q=>nextA l e x m fun f u n=>q _ f ?_;exact j _ f s.toks (by simp[m]) ⟨x.at fun o z=>n.extBut S o ne z,k,u⟩ fun b o d z=>n.extBut b o (by simpa using d) z
 done:=fun s Q E ⟨x,k,e⟩ j=>xW ⟨_,e,rfl⟩ (fun r p q=>endA (by simp[y]) l e x q) fun f g=>j f s.toks fun b o d z=>g b o (by simpa using d) z
 self:=fun i s Q E ⟨x,k,e⟩ q=>xU ⟨_,e,rfl⟩ q
def walkB(G:A.handled=none)(r:w.params.followText "set-order"=false)(ne:S≠I)(a:Array (Int×Value))(m:Nat)(t:aQ)(n:ja a t=false)(p:t.led=true)(F:iA t):
  Walks prog w A I [I,S] [I] a.size (fun i v=>(a.toList.map (·.2))[i]? =some v) (fun i h=>kE h S a m t/\∃k:Nat,cw t.place k=i/\h.get? I=some (siO S (.int k 0) i a.size m)) where
 sub:=fun b c=>by simp at c⊢;exact .inl c
 frame:=fun i h f ⟨x,k,d,e⟩ g=>⟨x.at fun o q=>g S (by simp) o q,k,d,g I (by simp) _ e⟩
 item:=fun i s Q E hi ⟨x,k,d,e⟩ l=>by
  have u:a[i]? =some a[i]:=by simp[hi]
  refine xV ⟨_,e,rfl⟩ fun C B q=>nextB r n p e x d u fun f j H D y=>q _ f ?_;exact l _ f s.toks (by simp[u]) ⟨x.at fun o z=>y.extBut S o ne z,j+1,CT F.up H,D⟩ fun b o c z=>y.extBut b o (by simpa using c) z
 done:=fun s Q E ⟨x,k,d,e⟩ l=>xW ⟨_,e,rfl⟩ (fun C B q=>endB (by simp[G]) r n p e x d q) fun f g=>l f s.toks fun b o c z=>g b o (by simpa using c) z
 self:=fun i s Q E ⟨x,k,d,e⟩ q=>xU ⟨_,e,rfl⟩ q
def walkC(C:A.handled=none)(ne:S≠I)(F:T≠I)(a:Array (Int×Value))(m:Nat)(t:aQ)(ps:List Nat)(k:ps.Perm (ay a.size)):
  Walks prog w A I [I,S,T] [I] a.size (fun i v=>(ps.map fun p=>(a.getD p (0,.none)).2)[i]? =some v) (fun i h=>kE h S a m t/\h.get? T=some {cls:=.type "tuple",data:=.seq (ps.map fun(i:Nat)=>rawInt i).toArray}/\h.get? I=some (siO S (.ref T) i a.size m)) where
 sub:=fun b c=>by simp at c⊢;exact .inl c
 frame:=fun i h d ⟨x,z,e⟩ f=>⟨x.at fun o q=>f S (by simp) o q,f T (by simp) _ z,f I (by simp) _ e⟩
 item:=fun i s Q E hi ⟨x,z,e⟩ g=>by
  have G:ps.length=a.size:=by rw[k.length_eq,bC]
  have j:i<ps.length:=by lia
  have n:ps[i]<a.size:=aJ.mp (k.mem_iff.mp (ck j));have D:a[ps[i]]? =some a[ps[i]]:=by simp[n]
  refine xV ⟨_,e,rfl⟩ fun u r q=>nextC (p:=ps[i]) (tk:=0) e x z rfl (by simp[j,rawInt]) D fun d B l=>q _ d ?_;exact g _ d s.toks (by simp[j,n,J7]) ⟨x.at fun o y=>l.extBut S o ne y,l.extBut T _ F z,B⟩ fun b o c y=>l.extBut b o (by simpa using c) y
 done:=fun s Q E ⟨x,z,e⟩ g=>xW ⟨_,e,rfl⟩ (fun u r q=>endC (by simp[C]) e x z rfl (by simp[k.length_eq]) q) fun d f=>g d s.toks fun b o c y=>f b o (by simpa using c) y
 self:=fun i s Q E ⟨x,z,e⟩ q=>xU ⟨_,e,rfl⟩ q
end Q
namespace Q
open PySem PySem.Spec PySem.W PyProof.Rows L2
section
variable {E:Value->Shared->Prop}{s:Shared}
def ite_yes{a:Type}{M:Model}{b:Bool}{x y:Sem a}{Q:a->Shared->Prop}(c:b=true)(h:wpAny M A x Q E s):wpAny M A (if b=true then x else y) Q E s:=by rw[if_pos c];exact h
def Av{Q:Bool->Shared->Prop}(a:s.TypeIs (.ref S) "set")(h:Q false s):wpAny (model prog w) A (rL (.ref S)) Q E s:=by
 unfold rL;refine aa (C3 a F.slot_set_len.lookup ?_);generalize hid:("set.__len__":String)=id0
 (fail_if_success (clear hid id0))
 wp_delta
 rw[show splitId id0=some ("set","__len__")from by subst hid;decide+kernel];subst hid;refine aa (pb (b:=true) a (by rw[FV];kernel_rfl) ?_);rw[if_neg (by decide)];refine ite_yes (by decide+kernel) (aa (jC a ?_));exact aj h
noncomputable abbrev jr(ac:Array Value)(c:Nat):Obj:={cls:=.type "list",dict:=none,data:=.seq ac c,slots:= #[]}
def touch{c:Nat}{Q:Unit->Shared->Prop}(f:s.heap.get? L=some (jr ac c))(hz:ac.size<=5000)(h:∀h' c',h'.get? L=some (jr ac c')->cZ L s.heap h'->Q () {s with heap:=h'}):wpAny (model prog w) A (lj (.ref L)) Q E s:=by have g:ac.size<=sizeLine:=bf hz (by decide);unfold lj;refine aa (gv f rfl ?_ g (by simp;lia));have a:∃e,(s.heap.update L (bp fun x=>x.push bW)).get? L=some (jr (ac.push .none) e):=⟨_,by rw[cP _ f rfl];rfl⟩;obtain⟨e,a⟩:=a;refine gv (s:={s with heap:=s.heap.update L (bp fun x=>x.push bW)}) a rfl ?_ (by simp;exact bf (by lia:ac.size+1<=5001) (by decide)) (by simp;lia);have d:∃b,((s.heap.update L (bp fun x=>x.push bW)).update L (bp fun x=>x.pop)).get? L=some (jr ac b):=⟨_,by rw[cP _ a rfl];simp[bp];rfl⟩;obtain⟨b,d⟩:=d;exact h _ b d ((bM ..).trans (bM ..))
def uE{k:List Addr}{P:Nat->Value->Prop}{St:Nat->Heap->Prop}{i:Value}{c:Nat}{R:Result->Shared->Prop}(hq:∀c' s',c'.quiet=true/\je (model prog w) A c' R s'->Qf (.again c') s')(W:Walks prog w A.in1 I fp k n P St)(u:n<=sizeLine)(g:L∉fp)(q:s.heap.get? L=some (jr #[] c))(st:St 0 s.heap)
  (h:∀s' ac c',(∀b o,b∉L::k->s.heap.get? b=some o->s'.heap.get? b=some o)->s'.gens=s.gens->s'.drawn=s.drawn->s'.os=s.os->s'.heap.get? L=some (jr ac c')->ItemsOf P ac n->R (.ok (.ret i)) s'):
  wpAny (model prog w) A.in1 (do
   rule "list.extend.makes-room"
   let f<-lj (.ref L)
   (fun(f:Unit)=>again (Code.builtin "list.extend.loop" {pos:=[aZ L,aZ I,i]})) f) Qf E s:=by
 refine aa (gL (aa (touch q (by simp) fun p x m j=>?_)));have v:=W.frame 0 s.heap p st fun b a o e=>j.extBut b o (fun z=>g (z▸a)) e;refine aj (hq _ _ ⟨fA F.plain_extend_loop _,codeAny_extend_loopS W.toS u _ g _ n 0 _ _ _ rfl (aW _) v m (ItemsOf.nil P) fun s' l c' d r t=>?_⟩);exact h s' l c' (fun b o a e=>d.heap b o a (j.extBut b o (fun z=>a (by rw[z];exact au)) e)) d.gens d.drawn d.os r t
end
def Cn(h:ItemsOf (fun i v=>vs[i]? =some v) ac vs.length):ac.toList=vs:=by
 obtain⟨c,d⟩:=h;apply cU;·simpa using c
 ·intro i a b;have :vs[i]? =some ac[i]:=d i ac[i] (by simp);rw[ae b]at this;simpa using(aX this).symm
def es_map(c:Array (Int×Value)):((ay c.size).map fun p=>(c.getD p (0,.none)).2)=c.toList.map (·.2):=by
 apply cU;·simp
 ·intro i a b;have hi:i<c.size:=by simpa using a
  simp[hi,J7]
section
variable {E:Value->Shared->Prop}{s:Shared}
def rX{o:Obj}{t:aQ}{Q:List Value->Shared->Prop}(I:A.handled=none)(N:s.heap.get? S=some o)(n:o.cls=.type "set")(H:o.data=.set es ep t)(hf:t.fits es.size=true)(P:es.size<gB)(M:iA t)(Y:w.params.followText "set-order"=false->t.led=true)
  (U:∀(vs:List Value) s',vs.Perm (es.toList.map (·.2))->(∀b o,s.heap.get? b=some o->s'.heap.get? b=some o)->s'.gens=s.gens->s'.os=s.os->s.heap.objs.size<s'.heap.objs.size->Q vs s'):wpAny (model prog w) A (collect (.ref S)) Q E s:=by
 have m:S<s.heap.objs.size:=aB N;have K:es.size<=sizeLine:=nN P;unfold collect;refine aa (wpAny_runValue (dW F.entry_proto_collect ?_));rw[cV F.plain_proto_collect _];show wpAny _ A.in1 (newList []>>=fun a1=>again (.builtin "list.__iadd__" ⟨[a1,.ref S],[]⟩)) _ _ s;refine aa (bL ?_);refine aj ⟨fA F.plain_list_iadd _,dW F.entry_list_iadd ?_⟩;rw[cV F.plain_list_iadd _];have G:(s.heap.push (jr #[] 0)).get? s.heap.objs.size=some (jr #[] 0):=az _ rfl;have u:(s.heap.push (jr #[] 0)).get? S=some o:=ai _ N;have x:(s.heap.push (jr #[] 0)).objs.size=s.heap.objs.size+1:=bV ..;have V:Shared.TypeIs {s with heap:=s.heap.push (jr #[] 0)} (.ref S) "set":=⟨o,u,n⟩;show wpAny _ A.in1 (rM (.ref s.heap.objs.size) (.ref S) (.ref s.heap.objs.size)) _ _ {s with heap:=s.heap.push (jr #[] 0)};unfold rM;refine aa (jC V ?_);rw[if_neg (by simp[Builtin.List.listSameRef];exact fO m)];have D:∀(vs:List Value)(s':Shared)(c:Array Value)(a:Nat),vs.length=es.size->vs.Perm (es.toList.map (·.2))->(∀b o,s.heap.get? b=some o->s'.heap.get? b=some o)->s'.gens=s.gens->s'.os=s.os->s'.heap.get? s.heap.objs.size=some (jr c a)->ItemsOf (fun i a3=>vs[i]? =some a3) c es.size->
   wpAny (model prog w) A (load s.heap.objs.size>>=fun a4=>match a4.data with |.seq xs _=>pure xs.toList|_=>unsupported "internal:collect") Q E s':=fun vs s' c a r v j l B e g=>by
  refine aa (wpAny_load e ?_);rw[<-r]at g;have :=Cn g;exact aj (by rw[this];exact U vs s' v j l B (aB e))
 refine aa (IJ u n H hf P (fun J=>?_) fun J f d v=>?_)
 ·rw[x];refine aa (bQ (Av ⟨o,ai _ u,n⟩ ?_));refine ite_yes (by decide+kernel) ?_;have z:((s.heap.push (jr #[] 0)).push (siO S (.int 0 0) 0 es.size ep)).get? (s.heap.objs.size+1)=some (siO S (.int 0 0) 0 es.size ep):=by rw[<-x];exact az _ rfl
  have L:kE ((s.heap.push (jr #[] 0)).push (siO S (.int 0 0) 0 es.size ep)) S es ep t:=⟨⟨o,ai _ u,n,H⟩,hf⟩;have C:s.heap.objs.size∉[s.heap.objs.size+1,S]:=by simp only[aI,dF,or_false,not_or];exact⟨aO (dI _),fO m⟩
  have R:∀(s':Shared),(∀b o,b∉s.heap.objs.size::[s.heap.objs.size+1]->((s.heap.push (jr #[] 0)).push (siO S (.int 0 0) 0 es.size ep)).get? b=some o->s'.heap.get? b=some o)->∀b o,s.heap.get? b=some o->s'.heap.get? b=some o:=fun s' k b o e=>by have p:=aB e;refine k b o ?_ (ai _ (ai _ e));simp only[aI,dF,or_false,not_or];exact⟨aO p,aO (bF p)⟩
  cases hw:w.params.followText "set-order" with
  |true=>
   have r:((jl (w.params.setOrder S ep) es).toList.map (·.2)).length=es.size:=by have :=(ng (w.params.setOrder S ep) es).length_eq;simpa using this
   refine uE (s:={s with heap:=(s.heap.push (jr #[] 0)).push (siO S (.int 0 0) 0 es.size ep)}) (fun a s' h=>h) (walkA (A:=A.in1) (by simp[I]) hw (aO (bF m)) es ep t) K C (ai _ G) ⟨L,0,z⟩ fun s' c a j l B y e g=>?_;exact D _ s' c a r ((ng (w.params.setOrder S ep) es).map _) (R s' j) l y e g
  |false=>
   have X:ja es t=false:=by rw[hw]at J;simpa using J
   refine uE (s:={s with heap:=(s.heap.push (jr #[] 0)).push (siO S (.int 0 0) 0 es.size ep)}) (fun a s' h=>h) (walkB (A:=A.in1) (by simp[I]) hw (aO (bF m)) es ep t X (Y hw) M) K C (ai _ G) ⟨L,0,CQ M.up,z⟩ fun s' c a j l B y e g=>?_;exact D _ s' c a (by simp) (fh _) (R s' j) l y e g
 ·rw[x];have Z:((s.heap.push (jr #[] 0)).push {cls:=.type "tuple",data:=.seq (f.map fun(i:Nat)=>rawInt i).toArray}).objs.size=s.heap.objs.size+1+1:=by rw[bV,x]
  have W:((s.heap.push (jr #[] 0)).push {cls:=.type "tuple",data:=.seq (f.map fun(i:Nat)=>rawInt i).toArray}).get? (s.heap.objs.size+1)=some {cls:=.type "tuple",data:=.seq (f.map fun(i:Nat)=>rawInt i).toArray}:=by rw[<-x];exact az _ rfl
  have O:((s.heap.push (jr #[] 0)).push {cls:=.type "tuple",data:=.seq (f.map fun(i:Nat)=>rawInt i).toArray}).get? S=some o:=ai _ u;have T:((s.heap.push (jr #[] 0)).push {cls:=.type "tuple",data:=.seq (f.map fun(i:Nat)=>rawInt i).toArray}).get? s.heap.objs.size=some (jr #[] 0):=ai _ G;have a0:∀b o,s.heap.get? b=some o->((s.heap.push (jr #[] 0)).push {cls:=.type "tuple",data:=.seq (f.map fun(i:Nat)=>rawInt i).toArray}).get? b=some o:=fun b o e=>ai _ (ai _ e);generalize(s.heap.push (jr #[] 0)).push {cls:=.type "tuple",data:=.seq (f.map fun(i:Nat)=>rawInt i).toArray}=h2 at *;refine aa (bQ (Av ⟨o,ai _ O,n⟩ ?_));refine ite_yes (by decide+kernel) ?_;have z:(h2.push (siO S (.ref (s.heap.objs.size+1)) 0 es.size ep)).get? (s.heap.objs.size+1+1)=some (siO S (.ref (s.heap.objs.size+1)) 0 es.size ep):=by rw[<-Z];exact az _ rfl
  have C:s.heap.objs.size∉[s.heap.objs.size+1+1,S,s.heap.objs.size+1]:=by simp only[aI,dF,or_false,not_or];exact⟨aO (bF (dI _)),fO m,aO (dI _)⟩
  have r:(f.map fun a2=>(es.getD a2 (0,.none)).2).length=es.size:=by rw[ak,v.length_eq,bC]
  refine uE (s:={s with drawn:=d,heap:=h2.push (siO S (.ref (s.heap.objs.size+1)) 0 es.size ep)}) (fun a s' h=>h) (walkC (A:=A.in1) (by simp[I]) (aO (bF (bF m))) (aO (dI _)) es ep t f v) K C (ai _ T)
   ⟨⟨⟨o,ai _ O,n,H⟩,hf⟩,ai _ W,z⟩ fun s' c a j l B y e g=>?_
  refine D _ s' c a r ((v.map _).trans (by rw[es_map])) (fun b o q=>?_) l y e g;have p:=aB q;refine j b o ?_ (ai _ (a0 b o q));simp only[aI,dF,or_false,not_or];exact⟨aO p,aO (bF (bF p))⟩
end
def Fp{xs:List Value}(p:vs.Perm xs):∀{ks:List Int},cD xs ks->∃ms:List Int,ms.Perm ks/\cD vs ms:=by
 induction p with
 |nil=>intro ks h;exact⟨ks,fh _,h⟩
 |cons x p ih=>
  intro ks h;cases h with
  |cons k t h=>obtain⟨ms,a,b⟩:=ih h;exact⟨k::ms,a.cons k,.cons k t b⟩
 |swap x y l=>
  intro ks h;cases h with
  |cons k t h=>cases h with
   |cons k' t' h=>exact⟨k'::k::_,j7 _ _ _,.cons k' t' (.cons k t h)⟩
 |trans p q ih1 ih2=>intro ks h;obtain⟨ms,a,b⟩:=ih2 h;obtain⟨e,c,d⟩:=ih1 b;exact⟨e,c.trans a,d⟩
section
variable {E:Value->Shared->Prop}{s:Shared}
def BP{o:Obj}{t:aQ}{ks:List Int}{Q:Value->Shared->Prop}(v:A.handled=none)(B:s.heap.get? S=some o)(q:o.cls=.type "set")(u:o.data=.set es ep t)(hf:t.fits es.size=true)(n:es.size<64)(p:iA t)(z:w.params.followText "set-order"=false->t.led=true)
  (x:cD (es.toList.map (·.2)) ks)(nd:ks.Nodup)
  (h:∀(ms:List Int)(vs:List Value)(s':Shared)(l:Addr)(c:Nat),ms.Perm ks->cD vs ms->(∀b o,s.heap.get? b=some o->s'.heap.get? b=some o)->s'.gens=s.gens->s'.os=s.os->s.heap.objs.size<=l->s'.heap.get? l=some (seqObj "list" (fT (ltI ms) vs).toArray c)->Q (.ref l) s'):
  wpAny (model prog w) A (call (.builtin "sorted") [.ref S]) Q E s:=by
 refine iv Bk y8 zc (args_sorted1 _) ?_;unfold Builtin.«sorted»;refine aa (m:=FZ "sorted" 1 1 _) (aj (aa (rX (by simp[v]) B q u hf (fP n (by decide)) p z fun vs s' d H D F G=>aa (kF ?_ ?_))))
 ·obtain⟨ms,j,f⟩:=Fp d x;have y:vs.length=ms.length:=f.length;have C:vs.length<64:=by have :=d.length_eq;simp at this;lia
  have a:(s'.heap.push (seqObj "list" vs.toArray 0)).get? s'.heap.objs.size=some (seqObj "list" vs.toArray 0):=az _ rfl;have I:ms.Nodup:=j.nodup_iff.mpr nd;show wpAny _ _ _ _ _ {s' with heap:=s'.heap.push (seqObj "list" vs.toArray 0)};refine aa (bQ (cA sI ⟨_,a,rfl⟩ qK (xS (lt:=ltI ms) (h0:=s'.heap) (by rw[y];exact EA I) a (fun b o e=>⟨ai _ e,aO (aB e)⟩) C (fun k=>xk f k) ⟨_,rfl,?_⟩) (F0 _)));refine aj ⟨_,rfl,?_⟩;obtain⟨c,r⟩:=sortedHeap_at (out:=(fT (ltI ms) vs).toArray) a;refine h ms vs _ _ c j f (fun b o e=>?_) D F (iC G) r;have g:=H b o e;have i:=aB g;show(FR (s'.heap.push (seqObj "list" vs.toArray 0)) s'.heap.objs.size vs (fT (ltI ms) vs).toArray).get? b=some o;rw[sortedHeap_old (aO i) (by rw[vX];exact bF i)];exact ai _ g
 ·have :=d.length_eq;simp at this;exact bf (by lia:vs.length<=64) (by decide)
end
def Iq(ks:List Key):(met ks).Nodup:=by
 unfold met;have g:∀(l d:List Key),d.Nodup->(l.foldl more d).Nodup:=by
  intro l
  induction l with
  |nil=>exact fun _ h=>h
  |cons k l ih=>
   intro d h;refine ih _ ?_;unfold more;split;·exact h
   ·rename_i c;refine di.mpr ⟨h,by simp,fun a f b e=>?_⟩;rw[aH]at e;subst e;intro z;subst z;exact c (jB.mpr f)
 exact g ks [] gV
theorem wq{c:Type}[DecidableEq c]:∀{m l:List c},m.Nodup->(∀x∈m,x∈l)->l.length=m.length->l.Perm m
 | [],l,_,_,h=>by rw[nY]at h;rw[List.eq_nil_of_length_eq_zero h]
 |a::m,l,nd,hs,h=>by have d:a∈l:=hs a au;have p:=pD d;rw[bw]at nd;have e:=p.length_eq;rw[bz]at e h;have q:=wq (m:=m) (l:=l.erase a) nd.2 (fun x b=>(jO (fun z:x=a=>nd.1 (by rw[<-z];exact b))).mpr (hs x (av _ b))) (by lia);exact p.trans (q.cons a)
section
def sX{k:Int}{v:Value}(h:(bg prog w).is (.inl k) v=true):∃t,v=.int k t:=by rw[uB]at h;exact sO (k:=k) (v:=v) h
def sW{l:List (Int×Value)}(h:ElemsOf (bg prog w) l)(hi:∀e∈l,∀k,(bg prog w).is k e.2=true->∃n:Int,k=.inl n):∃ms:List Int,cD (l.map (·.2)) ms:=by
 induction l with
 |nil=>exact⟨[],.nil⟩
 |cons e l ih=>obtain⟨ms,r⟩:=ih h.tail fun b d=>hi b (av _ d);obtain⟨⟨k,a,_⟩,_⟩:=h.head;obtain⟨n,rfl⟩:=hi e au k a;obtain⟨t,c⟩:=sX a;refine⟨n::ms,?_⟩;rw[bh,c];exact .cons n t r
def IM:∀{vs:List Value}{ms:List Int},cD vs ms->∀n,n∈ms↔∃v∈vs,(bg prog w).is (.inl n) v=true:=by
 intro vs ms r
 induction r with
 |nil=>simp
 |cons k t r ih=>
  intro n;rw[aI,ih n];constructor
  ·rintro(rfl|⟨v,hv,e⟩);·exact⟨_,au,mJ _ _ _ _⟩
   ·exact⟨v,av _ hv,e⟩
  ·rintro⟨v,hv,e⟩;rcases aI.mp hv with rfl|hv;·obtain⟨b,a⟩:=sX e;cases a;exact .inl rfl
   ·exact .inr ⟨v,hv,e⟩
def EJ(x:qE (bg prog w) h a (has (met (ns.map .inl))) (met (ns.map .inl)).length led):
  ∃o es ep t ms,h.get? a=some o/\o.cls=.type "set"/\o.data=.set es ep t/\t.fits es.size=true/\es.size<=ns.length/\iA t/\t.led=led/\cD (es.toList.map (·.2)) ms/\ms.Nodup/\∀n,n∈ms↔n∈ns:=by
 obtain⟨o,es,ep,t,A,f,m,s,g,C,hf,d,l,j⟩:=x;have u:=Ir (ns.map (fB:Int->Key));rw[ak]at u;have inl:∀e∈es.toList,∀k,(bg prog w).is k e.2=true->∃n:Int,n∈ns/\k=.inl n:=fun e b k c=>by have :=lR.mp (jB.mp ((g k).mpr ⟨e,b,c⟩));obtain⟨n,d,rfl⟩:=aF.mp this;exact⟨n,d,rfl⟩
 obtain⟨ms,r⟩:=sW s fun e b k c=>let⟨n,_,e⟩:=inl e b k c;⟨n,e⟩;have mem:∀n,n∈ms↔n∈ns:=fun n=>by
  rw[IM (prog:=prog) (w:=w) r n];constructor;·rintro⟨v,B,e⟩;obtain⟨i,q,rfl⟩:=aF.mp B;obtain⟨D,y,z⟩:=inl i q _ e;cases z;exact y
  ·intro h;obtain⟨e,b,c⟩:=(g (.inl n)).mp (jB.mpr (lR.mpr (ki h)));exact⟨e.2,ki b,c⟩
 have len:ms.length=es.size:=by have :=r.length;simp at this;lia
 have p:(ms.map (fB:Int->Key)).Perm (met (ns.map .inl)):=wq (Iq _) (fun x f=>by obtain⟨n,d,rfl⟩:=aF.mp (lR.mp f);exact ki ((mem n).mpr d)) (by rw[ak];lia)
 have nd:(ms.map (fB:Int->Key)).Nodup:=p.nodup_iff.mpr (Iq _);exact⟨o,es,ep,t,ms,A,f.1,m,hf,by lia,l,j,r,(cj.mp nd).imp fun h z=>h (congrArg _ z),mem⟩
end
end Q
namespace L2
open PySem PySem.Spec PyProof.Rows Q
section
def Inv.same{a:List (Option V)}(I:Inv X pins a H s)(e:s'.heap=s.heap)(f:s'.gens=s.gens)(i:s'.os=s.os):Inv X pins a H s':=by obtain⟨h,g,d,t,o⟩:=s;obtain⟨c,b,k,l,j⟩:=s';obtain rfl:c=h:=e;obtain rfl:b=g:=f;obtain rfl:j=o:=i;exact⟨I.ok,I.os,I.bare,I.base,I.loc,I.cell,I.free,I.freeC,I.pin,I.hok,I.len⟩
theorem lB{c:Type}[DecidableEq c]:∀{l m:List c},l.Nodup->(∀x∈l,x∈m)->l.length<=m.length
 | [],_,_,_=>aW _
 |a::l,m,nd,h=>by rw[bw]at nd;have d:=h a au;have p:=(pD d).length_eq;have :=lB (m:=m.erase a) nd.2 fun x b=>(jO fun z:x=a=>nd.1 (z▸b)).mpr (h x (av _ b));rw[bz]at p⊢;lia
def Few(ns:List Int):Prop:=ns.length<1000/\∃ms:List Int,ms.length<64/\∀x∈ns,x∈ms
def Few.of(h:ns.length<64):Few ns:=⟨by lia,ns,h,fun _ h=>h⟩
def zE(K:ao)(ta:TA):TE:=fun σ H Q=>ta σ H fun vs H1=>∃(p:Addr)(ns:List Int),vs=[V.ref p]/\SqL K H1 p (ns.map V.int)/\Few ns/\
 ∀(ms:List Int) l,ms.Nodup->(∀x,x∈ms↔x∈ns)->H1 l=none->Q (.ref l) (upd H1 l (.lst (sortI ms)))
def qz:fZ "sorted"=some (.builtin "sorted"):=by decide+kernel
def xb:fZ "set"=some (.type "set"):=by decide+kernel
def B1{a:Expr}{B:TA}{p:Pos}(u:X.calm=true)(J:Gl X "sorted")(M:X.mg "sorted"=none)(K:Gl X "set")(N:X.mg "set"=none)(F:PA X [a] B)(hs:cf [a] X.env=[(false,eval a X.env)]:=by rfl):
  PE X (.Call (.Name "sorted" p) [.Call (.Name "set" p') [a] [] pos'] [] pos) (zE X.K B):=by
 intro a0 s σ H a7 I h;refine Call_ (i5 I J M qz (iV (kZ ?_) rfl rfl));refine Call_ (i5 I K N xb (cH (thn (F pos' a0 s σ H _ I h) fun us s1 ⟨vs,H1,d,r1,q1⟩=>?_) hs rfl));obtain⟨pl,y,e,hq,⟨a8,mm,a9,O⟩,a4⟩:=q1;subst e;obtain⟨b3,rfl,rx⟩:=vals1 r1;cases rx;obtain⟨R,z,a3,_⟩:=d.list hq;have j:=z.length;rw[ak]at j;have r2:bZ ((y.map (fB:Int->Key)).map kV) R:=by rw[bq];exact z
 refine wm (ks:=y.map .inl) (d.ok.hd u) a3.isList (by rw[aD,ak];exact j) (fun i a5 e=>yv r2 i a5 (by simpa using e)) (by rw[aD,<-j];unfold gB;lia) fun h' tk D Y=>?_;obtain⟨o,q,ep,t,ms,w,m,G,hf,b2,E,C,r,nd,mem⟩:=EJ D;have b0:q.size<64:=by have g:=r.length;simp at g;have :=lB nd fun x m=>O x ((mem x).mp m);lia
 refine aj ?_;refine BP (s:={s1 with heap:=h',toks:=tk}) (d.ok.hd u) w m G hf (by lia) E (fun a6=>by rw[C,a6];rfl) r nd fun f vs A l c k P Z S T U V=>?_;have n:f.Nodup:=k.nodup_iff.mpr nd;have b1:f.length=q.size:=by have a1:=k.length_eq;have g:=r.length;simp at g;lia
 have W:∀b o,s1.heap.get? b=some o->A.heap.get? b=some o:=fun b o e=>Z b o (Y b o (aB e) e);have L:s1.heap.objs.size<h'.objs.size:=aB w;have v:s1.heap.objs.size<=l:=bf (iC L) U;have Q:(sortI f).length<=sizeLine:=by unfold sortI;rw[ak,z9 n];exact fH (by lia)
 exact⟨.ref l,_,(d.laid (h':=A.heap) (t':=s1.toks) W v (show d7 X.prog X.w _ _ _ (.lst (sortI f))from⟨Q,_,c,outI n (qM P),V⟩)).same rfl S T,rfl,a4 _ _ n (fun x=>(k.mem_iff).trans (mem x)) (d.hok.fresh v)⟩
end
end L2
namespace TB
open PySem PySem.Spec PySem.W PyProof.Rows L2 Q
section
variable {R:Result->Shared->Prop}{I:Addr}{fp wr:List Addr}{G:Array i7->Array i7->Prop}{P:Nat->Value->Prop}{St:Nat->Shared->Prop}
def mw.keep{T:Addr->Prop}{c:List (List Int×Addr)}{o:Obj}{t:aQ}(k:∀b o,(b=S\/T b)->h.get? b=some o->h'.get? b=some o)(x:mw prog w T h S c o es ep t):mw prog w T h' S c o es ep t:=
 ⟨k S o (.inl rfl) x.ho,x.ex,x.hd,x.tb,x.pl,x.dm,x.es_,x.nd,fun y a=>⟨D8.mO (fun o d=>k y.2 o (.inr (x.tu y a).2) d) (x.tu y a).1,(x.tu y a).2⟩,x.lo⟩
def IG{T:Addr->Prop}{b:List (List Int×Addr)}{o:Obj}{t:aQ}{a:List (List Int)}(c:a.length<=17)(d:∀q∈ps,q∈a)(x:mw prog w T h S b o es ep t)(k:∀r,r∈b.map (·.1)↔r∈ps.take i):b.length<=17:=by have :=x.nd.length_le_of_subset (l₂:=a) fun r e=>d r (pF ((k r).mp e));rw[ak]at this;exact bf this c
theorem loopT(W:WalksS prog w A.in1 I fp wr G n P St)(F:A.in1.units<cLine)(S:Addr)(k:S∉fp)(ps:List (List Int))(c:List Addr)(O:ps.length=n)(l:List (List Int))(y:l.length<=17)(D:∀q∈ps,q∈l)(a2:c.length=ps.length)(V:∀i v,P i v->∃a q,c[i]? =some a/\ps[i]? =some q/\v=.ref a)(hf:∀a∈c,a∉fp):
  ∀(m i:Nat)(s:Shared)(f:List (List Int×Addr))(o:Obj)(es:Array (Int×Value))(ep:Nat)(t:aQ),n-i=m->i<=n->St i s->(∀r,r∈f.map (·.1)↔r∈ps.take i)->t.led=led->mw prog w (·∈c) s.heap S f o es ep t->(∀(i:Nat) a q,c[i]? =some a->ps[i]? =some q->cG (bg prog w) s.heap (ky q) a)->
   (∀s' g o' es' x t',Moved (S::wr) G s s'->g.length<=17->(∀r,r∈g.map (·.1)↔r∈ps)->t'.led=led->mw prog w (·∈c) s'.heap S g o' es' x t'->R (.ok (.ret .none)) s')->
   je (model prog w) A (.builtin "set.update.loop" ⟨[.ref S,.ref I],[]⟩) R s
 | 0,i,s,f,o,es,ep,t,hm,hi,st,hks,hle,hS,hT,hR=>by
  have M:=IG y D hS hks;obtain rfl:i=n:=by lia
  rw[<-O,eI]at hks;refine dW eH ?_;rw[cV cK _];show wpAny _ A.in1 (pyNext (.ref I)>>=_) _ _ s;refine aa (W.done s _ _ st fun s' h=>?_);refine aj (hR s' f o es ep t (h.mono fun b hb=>av _ hb) M hks hle (hS.keep fun b o hb e=>h.heap b o (fun z=>?_) e));rcases hb with rfl|hb;·exact k (W.sub _ z)
  ·exact hf b hb (W.sub _ z)
 |m+1,i,s,f,o,es,ep,t,hm,hi,st,hks,hle,hS,hT,hR=>by
  have M:=IG y D hS hks;have N:i<n:=by lia
  refine dW eH ?_;rw[cV cK _];show wpAny _ A.in1 (pyNext (.ref I)>>=_) _ _ s;refine aa (W.item i s _ _ N st fun v s' hP b3 h=>?_);obtain⟨a,q,H,U,rfl⟩:=V i v hP;have X:∀b o,(b=S\/b∈c)->s.heap.get? b=some o->s'.heap.get? b=some o:=fun b o hb e=>h.heap b o (fun z=>by
   rcases hb with rfl|hb;·exact k (W.sub _ z)
   ·exact hf b hb (W.sub _ z)) e
  have B:=hS.keep X;have a3:a∈c:=aG H;have C:∀(i:Nat) a q,c[i]? =some a->ps[i]? =some q->cG (bg prog w) s'.heap (ky q) a:=fun i a q d u=>D8.mO (fun o e=>X a o (.inr (aG d)) e) (hT i a q d u);have L:=C i a q H U;show wpAny _ A.in1 (holding [aZ a] (setAdd S (.ref a))>>=_) _ _ s';refine aa (bQ ?_);unfold setAdd;refine bQ (aa (wpAny_pyHash_tuple F L ?_));refine addT (T:=(·∈c)) (q:=q) (s:={s' with toks:=s'.toks+((ky q).length+1)}) F B L a3 (by lia) fun b h' g o' es' x t' a5 b6 a7 E a0=>?_;have et:ps.take (i+1)=ps.take i++[q]:=by rw[dh,U];rfl
  have nS:∀b∈c,b≠S:=fun b hb e=>by
   obtain⟨j,K⟩:=bG.mp hb;cases hjq:ps[j]? with
   |some r=>obtain⟨o',b7,n',Q,hc,J,b5⟩:=C j b r K hjq;rw[e]at Q;obtain rfl:o'=o:=aX (Q.symm.trans B.ho);rw[B.hd]at J;exact nomatch J
   |none=>have h1:=Bc.mp hjq;have h2:=(aM.mp K).1;lia
  refine aj ⟨fA cK _,loopT W F S k ps c O l y D a2 V hf m (i+1) _ g o' es' x t' (by lia) N (W.frame _ s' _ _ b3 (jH _ _) fun b hq o e=>?_) (fun r=>?_) (a7.trans hle) a0 (fun j p q' d u=>?_) fun b2 a9 b1 Z Y b4 b0 a8 a4 a6 a1=>?_⟩;·rw[E.2 b (fun z:b=S=>k (by rw[<-z];exact hq))];exact e
  ·rw[a5,hks,et,aU,aH]
  ·refine D8.mO (fun o e=>?_) (C j p q' d u);rw[E.2 p (nS p (aG d))];exact e
  ·refine hR b2 a9 b1 Z Y b4 (vt W.gtrans ((h.mono fun b hb=>av _ hb).then_heap (jH _ _) fun b o hq e=>?_) b0) a8 a4 a6 a1;rw[E.2 b (fun z:b=S=>hq (by rw[z];exact au))];exact e
end
section
variable {E:Value->Shared->Prop}{s:Shared}
def EI{d:List Addr}{Q:Value->Shared->Prop}(Y:A.handled=none)(hu:A.units+5<cLine)(p:s.heap.IsList l items)(k:List (List Int))(L:k.length<=17)(U:∀q∈ps,q∈k)(g:d.length=ps.length)(B:items.toList=d.map aZ)
  (x:∀(i:Nat) a q,d[i]? =some a->ps[i]? =some q->cG (bg prog w) s.heap (ky q) a)
  (h:∀(h':Heap)(tk:Nat) c o es ep t,c.length<=18->(∀r,r∈c.map (·.1)↔r∈ps)->t.led=(!w.params.followText "set-order")->mw prog w (·∈d) h' s.heap.objs.size c o es ep t->(∀b o,b<s.heap.objs.size->s.heap.get? b=some o->h'.get? b=some o)->Q (.ref s.heap.objs.size) {s with heap:=h',toks:=tk}):
  wpAny (model prog w) A (call (.type "set") [.ref l]) Q E s:=by
 obtain⟨ol,F,W,_⟩:=id p;have D:l<s.heap.objs.size:=aB F;have a1:ps.length=items.size:=by rw[<-g,<-aT,B,ak]
 refine wo (P:=fun led h'=>∃c o es ep t,c.length<=18/\(∀r,r∈c.map (·.1)↔r∈ps)/\t.led=led/\mw prog w (·∈d) h' s.heap.objs.size c o es ep t) p (fun led a6 R=>?_) fun h' tk ⟨c,o,es,ep,t,K,M,m,N⟩ O=>h h' tk c o es ep t K M m N O;have m:A.in1.in1.in1.handled=none:=by simp[Y]
 have v:(s.heap.push (jq led)).objs.size=s.heap.objs.size+1:=bV _ _;have a2:l≠(s.heap.push (jq led)).objs.size:=by rw[v];exact aO (bF D)
 have a3:s.heap.objs.size∉[(s.heap.push (jq led)).objs.size,l]:=by
  rw[v];intro z;rcases aI.mp z with z|z;·exact aO (dI _) z
  ·exact fO D (aH.mp z)
 have X:∀a∈d,a∉[(s.heap.push (jq led)).objs.size,l]:=fun a V z=>by
  obtain⟨j,C⟩:=bG.mp V;have n:j<ps.length:=by rw[<-g];exact(aM.mp C).1
  obtain⟨o,a8,a9,u,y,_⟩:=x j a _ C (ae n);rcases aI.mp z with z|z;·exact absurd (aB u) (by rw[z,v];exact A9.mpr (eR _))
  ·rw[aH.mp z,F]at u;rw[<-aX u,W]at y;exact absurd y (by decide)
 have S:(s.heap.push (jq led)).get? s.heap.objs.size=some (jq led):=az _ rfl;refine loopT (led:=led) ((JY m _ l a2 items).toS) (show A.units+1+1+1<cLine by lia) s.heap.objs.size a3 ps d a1 k L U g (fun i a5 hv=>?_) X (items.size-0) 0 _ [] (jq led) #[] 0 (aQ.fresh 0 0 led) (by lia) (aW _) ⟨⟨_,az _ rfl,rfl,rfl⟩,(p.push _).push _⟩ (fun r=>by simp) rfl ⟨ai _ S,⟨rfl,rfl,rfl⟩,rfl,⟨⟨jR,rfl⟩,(by rw[fu];rfl),.inl rfl,aW _,fun i h hp=>(by simp at hp)⟩,rfl,rfl,rfl,gV,fun b0 hx=>(by cases hx),fun _=>aW _⟩ (fun i a q G H=>D8.mO (fun o e=>ai _ (ai _ e)) (x i a q G H)) fun s' a4 o' J I t' mv a7 Z a0 T=>R s' mv ⟨a4,o',J,I,t',by lia,Z,a0,T⟩;have f:items.toList[i]? =some a5:=by simpa using hv
 rw[B,ax]at f;cases ea:d[i]? with
 |none=>rw[ea]at f;exact nomatch f
 |some a=>
  rw[ea]at f;have n:i<ps.length:=by rw[<-g];exact(aM.mp ea).1
  exact⟨a,_,rfl,ae n,(aX f).symm⟩
end
def HG{d h:Type}{f:d->h}{vs:List h}{l:List d}(p:vs.Perm (l.map f)):∃c:List d,vs=c.map f/\c.Perm l:=by
 have g:∀{u v:List h},u.Perm v->∀l:List d,v=l.map f->∃c:List d,u=c.map f/\c.Perm l:=by
  intro u v p
  induction p with
  |nil=>intro l e;exact⟨l,e,.refl _⟩
  |cons x p ih=>
   intro l e;cases l with
   |nil=>cases e
   |cons y l=>simp only[bh,sP]at e;obtain⟨c,a,b⟩:=ih l e.2;exact⟨y::c,by rw[bh,<-e.1,a],b.cons y⟩
  |swap x y u=>
   intro l e
   match l,e with
   |a::b::l,e=>simp only[bh,sP]at e;exact⟨b::a::l,by rw[bh,bh,<-e.1,<-e.2.1,e.2.2],j7 _ _ _⟩
  |trans p q ih1 ih2=>intro l e;obtain⟨l1,a,b⟩:=ih2 l e;obtain⟨l2,i,j⟩:=ih1 l1 a;exact⟨l2,i,j.trans b⟩
 exact g p l rfl
section
variable {E:Value->Shared->Prop}{s:Shared}
def rV(k:∀b o,h.get? b=some o->h'.get? b=some o)(r:j4 h vs ps):j4 h' vs ps:=by
 unfold j4 at *
 induction r with
 |nil=>exact .nil
 |cons y t ih=>obtain⟨a,o,f,n,c,d,e⟩:=y;exact .cons ⟨a,o,f,n,c,k _ _ d,e⟩ ih
def zJ{o:Obj}{t:aQ}{Q:Value->Shared->Prop}(H:A.handled=none)(L:s.heap.get? S=some o)(D:o.cls=.type "set")(G:o.data=.set es ep t)(hf:t.fits es.size=true)(B:es.size<64)(C:iA t)(J:w.params.followText "set-order"=false->t.led=true)
  {g:List (List Int×Addr)}(j:es.toList.map (·.2)=g.map fun x=>aZ x.2)(nd:(g.map (·.1)).Nodup)(K:∀x∈g,x.1.length=m)(hi:∀d:List (List Int×Addr),d.Perm g->j4 s.heap (d.map fun x=>aZ x.2) (d.map (·.1)))
  (h:∀(d:List (List Int×Addr))(s':Shared)(l:Addr)(c:Nat),d.Perm g->(∀b o,s.heap.get? b=some o->s'.heap.get? b=some o)->s'.gens=s.gens->s'.os=s.os->s.heap.objs.size<=l->s'.heap.get? l=some (seqObj "list" (fT (ltL (d.map (·.1))) (d.map fun x=>aZ x.2)).toArray c)->Q (.ref l) s'):
  wpAny (model prog w) A (call (.builtin "sorted") [.ref S]) Q E s:=by
 refine iv Bk y8 zc (args_sorted1 _) ?_;unfold Builtin.«sorted»;refine aa (m:=FZ "sorted" 1 1 _) (aj (aa (rX (by simp[H]) L D G hf (fP B (by decide)) C J fun f s' p v O P R=>aa (kF ?_ ?_))))
 ·rw[j]at p;obtain⟨d,e,i⟩:=HG p;subst e;have u:(d.map fun x:List Int×Addr=>aZ x.2).length=(d.map (·.1)).length:=by simp
  have M:(d.map fun x:List Int×Addr=>aZ x.2).length<64:=by have a:=congrArg gW j;have b:=i.length_eq;simp at a⊢;lia
  generalize hvs:(d.map fun x:List Int×Addr=>aZ x.2)=f at *;have n:(s'.heap.push (seqObj "list" f.toArray 0)).get? s'.heap.objs.size=some (seqObj "list" f.toArray 0):=az _ rfl;have y:(d.map (·.1)).Nodup:=(i.map _).nodup_iff.mpr nd;have I:j4 s'.heap f (d.map (·.1)):=by rw[<-hvs];exact rV v (hi d i)
  show wpAny _ _ _ _ _ {s' with heap:=s'.heap.push (seqObj "list" f.toArray 0)};refine aa (bQ (cA sI ⟨_,n,rfl⟩ qK (xS (lt:=ltL (d.map (·.1))) (h0:=s'.heap) (by rw[u];exact Ez y) n (fun b o e=>⟨ai _ e,aO (aB e)⟩) M (fun z=>qA y u I z (m:=m) (fun k j=>?_)) ⟨_,rfl,?_⟩) (F0 _)));·obtain⟨x,N,rfl⟩:=aF.mp j;exact K x (i.mem_iff.mp N)
  refine aj ⟨_,rfl,?_⟩;obtain⟨c,F⟩:=sortedHeap_at (out:=(fT (ltL (d.map (·.1))) f).toArray) n;refine h d _ _ c i (fun b o e=>?_) O P (iC R) (by rw[hvs];exact F);have q:=v b o e;have r:=aB q;show(FR (s'.heap.push (seqObj "list" f.toArray 0)) s'.heap.objs.size f (fT (ltL (d.map (·.1))) f).toArray).get? b=some o;rw[sortedHeap_old (aO r) (by rw[vX];exact bF r)];exact ai _ q
 ·have :=p.length_eq;simp at this;exact bf (by lia:f.length<=64) (by decide)
end
end TB
namespace L2
open PySem PySem.Spec PyProof.Rows Q
section
def wa(K:ao)(ta:TA):TE:=fun σ H Q=>ta σ H fun vs H1=>∃(p:Addr)(ys:List V)(ps:List (List Int))(m:Nat),vs=[V.ref p]/\SqL K H1 p ys/\ps.length<=60/\(∃W:List (List Int),W.length<=17/\∀q∈ps,q∈W)/\(∀k∈ps,k.length=m)/\IntKeys H1 ys ps/\
 ∀(zs:List V)(qs:List (List Int)) l,qs.Nodup->(∀x,x∈qs↔x∈ps)->IntKeys H1 zs qs->H1 l=none->Q (.ref l) (upd H1 l (.lst (dk .non qs zs)))
def ik_refs(h:IntKeys H ys ps):∃c:List Addr,ys=c.map V.ref/\c.length=ps.length/\∀(i:Nat) a q,c[i]? =some a->ps[i]? =some q->H a=some (.tup (q.map V.int)):=by
 unfold Q.IntKeys at h
 induction h with
 |nil=>exact⟨[],rfl,rfl,fun i a q e=>by simp at e⟩
 |cons y t ih=>
  obtain⟨a,rfl,e⟩:=y;obtain⟨c,rfl,j,g⟩:=ih;refine⟨a::c,rfl,by simp[j],fun i b q d f=>?_⟩;cases i with
  |zero=>simp at d f;rw[<-d,<-f];exact e
  |succ i=>simp at d f;exact g i b q d f
def Gq:∀{b:List Addr}{ad:List Value},bZ (b.map V.ref) ad->ad=b.map aZ:=by
 intro b
 induction b with
 |nil=>intro ad r;cases r;rfl
 |cons a b ih=>
  intro ad r;cases r with
  |cons r0 r=>cases r0;rw[ih r];rfl
theorem qT:∀(a:List (List Int×Addr)),bZ (a.map fun x=>V.ref x.2) (a.map fun x=>aZ x.2)
 | []=>.nil
 |x::a=>.cons rfl (qT a)
theorem IT:∀{a:List (List Int×Addr)},(∀x∈a,H x.2=some (.tup (x.1.map V.int)))->IntKeys H (a.map fun x=>V.ref x.2) (a.map (·.1))
 | [],_=>.nil
 |x::a,h=>.cons ⟨x.2,rfl,h x au⟩ (IT fun y b=>h y (av _ b))
def tk_inj{p q:List Int}(x:cG (bg prog w) h (TB.ky p) a)(y:cG (bg prog w) h (TB.ky q) a):p=q:=by
 obtain⟨o,u,n,j,r,g,hi⟩:=x;obtain⟨m,v,z,l,s,f,i⟩:=y;obtain rfl:o=m:=aX (j.symm.trans l);rw[g]at f;cases f;have :∀{p q:List Int}{d:List Value},ItemsAre (bg prog w) (TB.ky p) d->ItemsAre (bg prog w) (TB.ky q) d->p=q:=by
  intro p
  induction p with
  |nil=>intro q d c b;cases c;cases q with
   |nil=>rfl
   |cons k q=>cases b
  |cons k p ih=>
   intro q d c b;cases c with
   |cons e1 c=>
    cases q with
    |nil=>cases b
    |cons k' q=>
     cases b with
     |cons e2 b=>obtain⟨t,rfl⟩:=sX e1;obtain⟨A,e⟩:=sX e2;cases e;rw[ih c b]
 exact this hi i
def zW{a:Expr}{M:TA}{p:Pos}(F:X.calm=true)(hu:X.A.units+50<cLine)(W:Gl X "sorted")(hm:X.mg "sorted"=none)(Y:Gl X "set")(a3:X.mg "set"=none)(T:PA X [a] M)(hs:cf [a] X.env=[(false,eval a X.env)]:=by rfl):
  PE X (.Call (.Name "sorted" p) [.Call (.Name "set" p') [a] [] pos'] [] pos) (wa X.K M):=by
 intro a7 s σ H b0 I h;refine Call_ (i5 I W hm qz (iV (kZ ?_) rfl rfl));refine Call_ (i5 I Y a3 xb (cH (thn (T pos' a7 s σ H _ I h) fun us s1 ⟨vs,N,g,r1,q1⟩=>?_) hs rfl));obtain⟨pl,ys,K,m,e,hq,b1,⟨O,R,S⟩,a1,Z,q⟩:=q1;subst e;obtain⟨b5,rfl,rx⟩:=vals1 r1;cases rx;obtain⟨P,rfl,E,C⟩:=ik_refs Z;obtain⟨b4,r',a8,_⟩:=g.list hq;obtain rfl:=Gq r';have D:∀(i:Nat) a q,P[i]? =some a->K[i]? =some q->cG (bg X.prog X.w) s1.heap (TB.ky q) a:=fun i a q Q r=>Cm (ks:=TB.ky q) g.hok (by have :=C i a q Q r;rw[bq];exact this)
 refine TB.EI (g.ok.hd F) (by lia) a8.isList O R S E (by simp) D fun h' tk y o B ep t b2 J u d z=>?_;refine aj ?_;have G:∀x∈y,N x.2=some (.tup (x.1.map V.int)):=fun x k=>by
  obtain⟨k1,U⟩:=d.tu x k;obtain⟨j,v⟩:=bG.mp U;have a0:j<K.length:=by rw[<-E];exact(aM.mp v).1
  have r:=ae a0;have w:=D8.mO (fun o e=>z x.2 o (aB e) e) (D j x.2 _ v r);rw[tk_inj k1 w];exact C j x.2 _ v r
 have a4:B.toList.map (·.2)=y.map fun x=>aZ x.2:=by rw[d.es_,bq];rfl
 have b3:B.size=y.length:=by rw[<-aT,d.es_,ak]
 refine TB.zJ (s:={s1 with heap:=h',toks:=tk}) (g.ok.hd F) d.ho d.ex.1 d.hd d.fits (by lia) d.tb.ti (fun a9=>by rw[u,a9];rfl) a4 d.nd (m:=m) (fun x k=>a1 _ ((J _).mp (ki k))) (fun f n=>?_) fun f L l c n a6 w k3 k4 k5=>?_;·exact TB.rV (fun b o e=>z b o (aB e) e) (p5 g.hok (IT fun x k=>G x (n.mem_iff.mp k)) (qT f))
 have A:(f.map (·.1)).Nodup:=(n.map _).nodup_iff.mpr d.nd;have kk:∀b o,s1.heap.get? b=some o->L.heap.get? b=some o:=fun b o e=>a6 b o (z b o (aB e) e);have a2:s1.heap.objs.size<h'.objs.size:=aB d.ho;have u:s1.heap.objs.size<=l:=bf (iC a2) k4;have a5:(dk V.non (f.map (·.1)) (f.map fun x=>V.ref x.2)).length<=sizeLine:=by unfold dk;rw[ak,(lA A).length_eq,bC,ak,n.length_eq];exact fH (by lia)
 exact⟨.ref l,_,(g.laid (h':=L.heap) (t':=s1.toks) kk u (show d7 X.prog X.w _ _ _ (.lst (dk .non (f.map (·.1)) (f.map fun x=>V.ref x.2)))from⟨a5,_,c,qW A (by simp) (qT f),k5⟩)).same rfl w k3,rfl,q _ _ _ A (fun x=>((n.map _).mem_iff).trans (J x)) (IT fun x k=>G x (n.mem_iff.mp k)) (g.hok.fresh u)⟩
end
end L2
set_option maxHeartbeats 1000000
namespace L2
open PySem PySem.Spec PyProof.Rows
section
def gLst(K:ao)(n:Nat)(t:TGs):TG:=fun v σ H Q=>∃a xs,v=.ref a/\SqL K H a xs/\xs.length=n/\t xs σ H Q
def pg_lst{c:List Expr}{t:TGs}(p:X.calm=true)(h:PGs X c t)
  (w:(fF c X.env).length=n:=by rfl) (x:(fF c X.env).findIdx? (·.1)=none:=by rfl):PG X (.Tuple c k pos) (gLst X.K n t):=by
 intro f s i H v u Q I r d;obtain⟨a,B,l,hq,q,d⟩:=d;subst l;cases r;obtain⟨A,g,y,C⟩:=I.list hq;rw[assign_Tuple];refine aa (nV ?_);unfold unpack;rw[show(fF c X.env).length=A.toArray.size by simp[w,<-q,g.length],x];refine aa (bQ (PySem.W.kun_itemsOf (I.ok.hd p) y.isList fun m z=>?_));have j:Inv X f i H {s with heap:=m}:=I.kept (t':=s.toks) fun b o e=>z b o (aO (aB e)) e;exact h f _ i H B _ Q j (by simpa using g) d
end
end L2
namespace Q
open PySem PySem.Spec PySem.W PyProof.Rows L2
section
variable {E:Value->Shared->Prop}{s:Shared}{lt:Nat->Nat->Bool}{vs:List Value}
open Classical in
end
end Q
set_option maxHeartbeats 3200000
namespace L2
open PySem PySem.Spec PyProof.Rows Q
set_option maxHeartbeats 1000000
end L2
namespace Q
open PySem PySem.Spec PySem.W PyProof.Rows L2
noncomputable abbrev Tri:=Int×Str×Str
abbrev t3(x y:Tri):Bool:=decide (x.1<y.1)||(decide (x.1=y.1)&&(tlt x.2.1 y.2.1||(decide (x.2.1=y.2.1)&&tlt x.2.2 y.2.2)))
end Q
set_option genInjectivity false
set_option genSizeOf false
namespace R
open PySem PySem.Spec PyProof.Rows L2
inductive Bf where
 |len|isinstance|all|list|tuple|set|sum|int|lend|sorti|sortl|minl|maxl|sortt
 deriving DecidableEq
abbrev Bf.name:Bf->Str
 |.len=>"len" |.isinstance=>"isinstance" |.all=>"all" |.list=>"list" |.tuple=>"tuple" |.set=>"set" |.sum=>"sum" |.int=>"int" |.lend=>"len" |.sorti=>"sorted" |.sortl=>"sorted" |.minl=>"min" |.maxl=>"max" |.sortt=>"sorted"
abbrev Bf.val:Bf->Value
 |.len=>.builtin "len" |.isinstance=>.builtin "isinstance" |.all=>.builtin "all" |.list=>.type "list" |.tuple=>.type "tuple" |.set=>.type "set" |.sum=>.builtin "sum" |.int=>.type "int" |.lend=>.builtin "len" |.sorti=>.builtin "sorted" |.sortl=>.builtin "sorted" |.minl=>.builtin "min" |.maxl=>.builtin "max" |.sortt=>.builtin "sorted"
def Bf.boot:∀b:Bf,fZ b.name=some b.val
 |.len=>PySem.boot_len|.isinstance=>boot_isinstance|.all=>boot_all|.list=>k7|.tuple=>vg
 |.set=>by decide+kernel|.sum=>by decide+kernel|.int=>vZ|.lend=>PySem.boot_len|.sorti=>by decide+kernel|.sortl=>by decide+kernel|.minl=>by decide+kernel|.maxl=>by decide+kernel|.sortt=>by decide+kernel
def Bf.plain:∀b:Bf,b.name≠"__name__"/\(b.name==("__debug__":Str))=false:=by intro b;cases b<;>exact⟨by decide+kernel,by decide+kernel⟩
inductive Ty where
 |int|bool|str|list|tuple|dict|valueError
 deriving DecidableEq
abbrev Ty.name:Ty->Str
 |.int=>"int" |.bool=>"bool" |.str=>"str" |.list=>"list" |.tuple=>"tuple" |.dict=>"dict" |.valueError=>"ValueError"
abbrev Ty.t:Ty->String
 |.int=>"int" |.bool=>"bool" |.str=>"str" |.list=>"list" |.tuple=>"tuple" |.dict=>"dict" |.valueError=>"ValueError"
def Ty.boot:∀b:Ty,fZ b.name=some (.type b.t)
 |.int=>vZ|.bool=>PyProof.Rows.boot_bool|.str=>PyProof.Rows.boot_str|.list=>k7|.tuple=>vg|.dict=>PyProof.Rows.boot_dict|.valueError=>by decide+kernel
def Ty.plain:∀b:Ty,b.name≠"__name__"/\(b.name==("__debug__":Str))=false:=by intro b;cases b<;>exact⟨by decide+kernel,by decide+kernel⟩
abbrev nT(K:ao):Operator->R2
 |.Add=>fun x y H Q=>(rI0 fun i j=>.int (i+j)) x y H Q\/(∃i j,x=.str i/\y=.str j/\i.length+j.length<=sizeLine/\Q (.str (i++j)) H)\/rCat x y H Q\/False
 |.Sub=>rI0 fun i j=>.int (i-j)
 |.Mult=>fun x y H Q=>(rI C1 fun i j=>.int (i*j)) x y H Q\/rRep x y H Q\/Hr x y H Q
 |.Mod=>rI (fun _ j=>0<j) fun i j=>.int (i%j)
 |.FloorDiv=>rI JS fun i j=>.int (i/j)
 |.Pow=>rI FO fun i j=>.int (i^j.toNat)
 |.RShift=>rI (fun _ j=>0<=j) fun i j=>.int (i/2^j.toNat)
 |.LShift=>rI FO fun i j=>.int (i*2^j.toNat)
 |.BitAnd=>rI0 fun i j=>.int (iZ i j)
 |.BitXor=>rI0 fun i j=>.int (km i j)
 |_=>fun _ _ _ _=>False
abbrev iK(K:ao):CmpOp->R2
 |.Eq=>rEqD K
 |.NotEq=>rNeD K
 |.Lt=>rI0 fun i j=>.bl (decide (i<j))
 |.LtE=>rI0 fun i j=>.bl (decide (i<=j))
 |.Gt=>rI0 fun i j=>.bl (decide (j<i))
 |.GtE=>rI0 fun i j=>.bl (decide (j<=i))
 |.Is=>fun x y H Q=>y=.non/\Q (.bl (decide (x=.non))) H
 |.IsNot=>fun x y H Q=>y=.non/\Q (.bl (!decide (x=.non))) H
 |.In=>fun x y H Q=>((∃i j,x=.str i/\y=.str j/\Q (.bl (!(ix j i 0 j.length 1).isEmpty)) H))\/rIn K false x y H Q
 |.NotIn=>fun x y H Q=>((∃i j,x=.str i/\y=.str j/\Q (.bl (!(!(ix j i 0 j.length 1).isEmpty))) H))\/rIn K true x y H Q
def Hq(K:ao):V->Option Int->Option Int->Hp->VK->Prop:=fun x lo hi H Q=>rSlL K x lo hi H Q\/rSlT K x lo hi H Q\/rSlS x lo hi H Q\/rSlW K x lo hi H Q
abbrev rBf(K:ao):Bf->List V->Hp->VK->Prop
 |.len=>fun xs H Q=>(∃p ys,xs=[.ref p]/\(SqL K H p ys\/SqT K H p ys)/\Q (.int ys.length) H)\/(∃z:Str,xs=[.str z]/\z.length<=sizeLine/\Q (.int z.length) H)\/(∃a n,xs=[V.ref a]/\H a=some (_root_.Q.EK a n)/\Q (.int n) H)
 |.isinstance=>fun xs H Q=>(∃x T t b,xs=[x,.ty T]/\mr K H x t/\iX K t (.type T)=some b/\Q (.bl b) H)\/(∃x C t b,xs=[x,.ref C]/\mr K H x t/\iX K t (.ref C)=some b/\Q (.bl b) H)
 |.all=>fun xs H Q=>∃(p:Addr)(bs:List Bool),xs=[.ref p]/\SqL K H p (bs.map V.bl)/\Q (.bl (bs.all id)) H
 |.list=>fun xs H Q=>∃p ys,xs=[.ref p]/\(SqL K H p ys\/SqT K H p ys)/\∀l,H l=none->Q (.ref l) (upd H l (.lst ys))
 |.tuple=>fun xs H Q=>∃p ys,xs=[.ref p]/\((SqL K H p ys/\∀l,H l=none->Q (.ref l) (upd H l (.tup ys)))\/(SqT K H p ys/\Q (.ref p) H))
 |.set=>Q.rSet K
 |.sum=>fun xs H Q=>∃(p:Addr)(ns:List Int),xs=[.ref p]/\SqL K H p (ns.map V.int)/\Q (.int ns.sum) H
 |.int=>fun xs H Q=>(∃i,xs=[.int i]/\Q (.int i) H)\/∃k,xs=[.bl k]/\Q (.int (if k then 1 else 0)) H
 |.lend=>fun xs H Q=>∃a kvs,xs=[V.ref a]/\H a=some (.dT kvs)/\Q (.int kvs.length) H
 |.sorti=>Q.Ho K
 |.sortl=>Q.Hn K
 |.sortt=>Q.Hm K
 |.minl=>Q.rMinL K
 |.maxl=>Q.rMaxL K
inductive Mm where
 |append|clear|reverse|pop|index|extend
 deriving DecidableEq
abbrev Mm.name:Mm->Str
 |.append=>"append" |.clear=>"clear" |.reverse=>"reverse" |.pop=>"pop" |.index=>"index" |.extend=>"extend"
abbrev Mm.id:Mm->String
 |.append=>"list.append" |.clear=>"list.clear" |.reverse=>"list.reverse" |.pop=>"list.pop" |.index=>"list.index" |.extend=>"list.extend"
abbrev rMm:Mm->V->List V->Hp->VK->Prop
 |.append=>x8
 |.clear=>Hu
 |.reverse=>zT
 |.pop=>fun x xs H Q=>False\/Hs x xs H Q
 |.index=>fun _ _ _ _=>False
 |.extend=>Dq
abbrev baseOk:Expr->Bool
 |.Name .. =>true|.Subscript .. =>true
 |.Call f _ _ _=>match f with
  |.Attribute .. =>true
  |_=>false
 |_=>false
mutual
inductive CE where
 |var (i:Nat)
 |con (c:Const)
 |glo (x:Str)
 |ty (t:Ty)
 |bin (op:Operator) (a b:CE)
 |cmp (op:CmpOp) (a b:CE)
 |chain (op op':CmpOp) (a b c:CE)
 |not (a:CE)
 |and (a b:CE)
 |or (a b:CE)
 |ite (c a b:CE)
 |idx (a i:CE)
 |cut (a:CE) (lo hi:CO)
 |tup (es:CL)
 |lst (es:CL)
 |call (f:Str) (es:CL)
 |bfn (b:Bf) (es:CL)
 |meth0 (m:Mm) (o:CE)
 |meth1 (m:Mm) (o a:CE)
 |idxd (a i:CE)
 |dicT
 |setd (o a b:CE)
 |lrng (a:CE)
 |sortset (a:CE)
 |ssetl (a:CE)
 |comp (own:List Str) (fr:List Nat) (tg:CG) (it:CI) (cond:CO) (elt:CE)
inductive CL where
 |nil
 |cons (e:CE) (es:CL)
inductive CO where
 |no
 |yes (e:CE)
inductive CG where
 |name (i:Nat)
 |tup (gs:CGs)
 |ltup (gs:CGs)
inductive CGs where
 |nil
 |cons (g:CG) (gs:CGs)
inductive CI where
 |seq (e:CE)
 |lseq (e:CE)
 |range1 (e:CE)
 |range2 (a b:CE)
 |enumt (e:CE)
end
abbrev CL.len:CL->Nat
 |.nil=>0
 |.cons _ r=>r.len+1
abbrev CGs.len:CGs->Nat
 |.nil=>0
 |.cons _ r=>r.len+1
mutual
inductive CS where
 |asg (g:CG) (e:CE)
 |asgc (i:Nat) (e:CE)
 |expr (e:CE)
 |iff (c:CE) (a b:CB)
 |forr (g:CG) (it:CI) (b:CB)
 |ret (e:CE)
 |retN
 |pass|brk|cont
 |rais (x:Str) (es:CL)
inductive CB where
 |nil
 |hole
 |cons (s:CS) (r:CB)
end
abbrev IL(sc:Scope)(x:Str):Bool:=sc.names.lookup x==some .local||sc.names.lookup x==some .cell||sc.names.lookup x==some .free
abbrev mP(sc:Scope)(x:Str):Bool:=sc.names.lookup x==some .globalImplicit
abbrev wu(x:Str):Bool:=(x==("__debug__":Str))==false&&(x==("__classdict__":Str))==false
abbrev okCon:Const->Bool
 |.none=>true|.bool _=>true|.int _=>true|.str _=>true|_=>false
abbrev cv:Const->V
 |.none=>.non|.bool b=>.bl b|.int i=>.int i|.str x=>.str x|_=>.non
abbrev namesOf(N own:List Str)(fr:List Nat):List Str:=own++fr.map fun j=>N.getD j ""
abbrev lO(own:List Str)(fr:List Nat)(σ:L2.St):L2.St:=own.map (fun _=>none)++fr.map fun j=>(σ[j]?).getD none
abbrev yx:Expr->Bool
 |.Slice .. =>true
 |_=>false
abbrev isSet:Expr->Bool
 |.Set .. =>true
 |_=>false
abbrev yy:Expr->Bool
 |.ListComp .. =>true|.SetComp .. =>true|.DictComp .. =>true
 |_=>false
abbrev ri:Expr->Bool
 |.Tuple .. =>true
 |_=>false
abbrev yh(sc sc':Scope)(N own:List Str)(fr:List Nat):Bool:=
 decide (sc'.kind=.function)&&sc'.names.all (fun y=>decide (y.2=.cell->sc'.names.lookup y.1=some .cell))&&sc'.names.all (fun y=>decide (y.2=.local->sc'.names.lookup y.1=some .local))&&
 sc'.names.all (fun y=>decide (y.2=.free->sc.names.lookup y.1=some .cell\/sc.names.lookup y.1=some .free))&&decide ((namesOf N own fr).Nodup)&&
 fr.all (fun j=>decide (j<N.length)&&sc'.names.lookup (N.getD j "")==some .free)&&own.all (fun x=>sc'.names.lookup x==some .local||sc'.names.lookup x==some .cell)
def eM{P:Prop}(h:false=true):P:=(aA h).elim
def Ic{P:Prop}(h:true=false):P:=(aA h.symm).elim
def an{a b:Bool}(h:(a&&b)=true):a=true/\b=true:=by rwa [aL]at h
def sD{a:Bool}(h:(!a)=true):a=false:=by simpa using h
def kc{a b c:Bool}(h:(a&&b&&c)=true):a=true/\b=true/\c=true:=let⟨h,z⟩:=an h;let⟨x,y⟩:=an h;⟨x,y,z⟩
def o9{a b c d:Bool}(h:(a&&b&&c&&d)=true):a=true/\b=true/\c=true/\d=true:=let⟨h,z⟩:=an h;let⟨x,y,w⟩:=kc h;⟨x,y,w,z⟩
def and5{a b c d e:Bool}(h:(a&&b&&c&&d&&e)=true):a=true/\b=true/\c=true/\d=true/\e=true:=let⟨h,z⟩:=an h;let⟨x,y,w,v⟩:=o9 h;⟨x,y,w,v,z⟩
section
variable {s:Stmt}
abbrev l1{α:Type}(l:List α)(f:α->Bool):Bool:=match l with
 |a::r=>r.isEmpty&&f a
 | []=>false
def md{b:Type}{l:List b}{f:b->Bool}(h:l1 l f=true):∃a,l=[a]/\f a=true:=by
 cases l with
 |nil=>exact eM h
 |cons a r=>
  obtain⟨c,h⟩:=an h;cases r with
  |nil=>exact⟨a,rfl,h⟩
  |cons=>exact eM c
abbrev l2{α:Type}(l:List α)(f:α->α->Bool):Bool:=match l with
 |a::r=>l1 r (f a)
 | []=>false
def wD{c:Type}{l:List c}{f:c->c->Bool}(h:l2 l f=true):∃a b,l=[a,b]/\f a b=true:=by
 cases l with
 |nil=>exact eM h
 |cons a r=>obtain⟨b,rfl,h⟩:=md h;exact⟨a,b,rfl,h⟩
abbrev dNm(e:Expr)(f:Str->Pos->Bool):Bool:=match e with
 |.Name x p=>f x p
 |_=>false
def mQ{f}(h:dNm e f=true):∃x p,e=.Name x p/\f x p=true:=by cases e<;>first |exact⟨_,_,rfl,h⟩ |exact eM h
abbrev dCn(e:Expr)(f:Const->Bool):Bool:=match e with
 |.Constant c _ _=>f c
 |_=>false
def Ju{f}(h:dCn e f=true):∃c j p,e=.Constant c j p/\f c=true:=by cases e<;>first |exact⟨_,_,_,rfl,h⟩ |exact eM h
abbrev dBi(e:Expr)(f:Expr->Operator->Expr->Bool):Bool:=match e with
 |.BinOp a op b _=>f a op b
 |_=>false
def dBi_of{f}(h:dBi e f=true):∃a c b p,e=.BinOp a c b p/\f a c b=true:=by cases e<;>first |exact⟨_,_,_,_,rfl,h⟩ |exact eM h
abbrev dUn(e:Expr)(f:UnaryOp->Expr->Bool):Bool:=match e with
 |.UnaryOp op a _=>f op a
 |_=>false
def Js{f}(h:dUn e f=true):∃b a p,e=.UnaryOp b a p/\f b a=true:=by cases e<;>first |exact⟨_,_,_,rfl,h⟩ |exact eM h
abbrev dCm(e:Expr)(f:Expr->List CmpOp->List Expr->Bool):Bool:=match e with
 |.Compare a os es _=>f a os es
 |_=>false
def CD{f}(h:dCm e f=true):∃a b es p,e=.Compare a b es p/\f a b es=true:=by cases e<;>first |exact⟨_,_,_,_,rfl,h⟩ |exact eM h
abbrev dC1(e:Expr)(f:Expr->CmpOp->Expr->Bool):Bool:=dCm e fun a d es=>l1 d fun c=>l1 es fun b=> !isSet b&&f a c b
def Jw{f}(h:dC1 e f=true):∃a c b p,e=.Compare a [c] [b] p/\isSet b=false/\f a c b=true:=by obtain⟨a,i,g,p,rfl,k⟩:=CD h;obtain⟨c,rfl,l⟩:=md k;obtain⟨b,rfl,m⟩:=md l;obtain⟨d,n⟩:=an m;exact⟨a,c,b,p,rfl,sD d,n⟩
abbrev dBo(e:Expr)(f:BoolOp->Expr->Expr->Bool):Bool:=match e with
 |.BoolOp op es p=>match es with
  |a::r=>match r with
   |b::r=>match r with
    | []=>f op a b
    |c::r=>f op a (.BoolOp op (b::c::r) p)
   | []=>false
  | []=>false
 |_=>false
def rq{f}(h:dBo e f=true):∃d a x p,f d a x=true/\(e=.BoolOp d [a,x] p\/∃b c r,x=.BoolOp d (b::c::r) p/\e=.BoolOp d (a::b::c::r) p):=by
 cases e<;>first |exact eM h|skip
 rename_i d es p;cases es with
 |nil=>exact eM h
 |cons a r=>cases r with
  |nil=>exact eM h
  |cons b r=>cases r with
   |nil=>exact⟨d,a,b,p,h,.inl rfl⟩
   |cons c r=>exact⟨d,a,_,p,h,.inr ⟨b,c,r,rfl,rfl⟩⟩
abbrev dIf(e:Expr)(f:Expr->Expr->Expr->Bool):Bool:=match e with
 |.IfExp c a b _=>f c a b
 |_=>false
def dIf_of{f}(h:dIf e f=true):∃c a b p,e=.IfExp c a b p/\f c a b=true:=by cases e<;>first |exact⟨_,_,_,_,rfl,h⟩ |exact eM h
abbrev dSu(e:Expr)(f:Expr->Expr->Bool):Bool:=match e with
 |.Subscript a i _=>f a i
 |_=>false
def yI{f}(h:dSu e f=true):∃a i p,e=.Subscript a i p/\f a i=true:=by cases e<;>first |exact⟨_,_,_,rfl,h⟩ |exact eM h
abbrev dSl(e:Expr)(f:Option Expr->Option Expr->Option Expr->Bool):Bool:=match e with
 |.Slice a b c _=>f a b c
 |_=>false
def dSl_of{f}(h:dSl e f=true):∃a b c p,e=.Slice a b c p/\f a b c=true:=by cases e<;>first |exact⟨_,_,_,_,rfl,h⟩ |exact eM h
abbrev dTu(e:Expr)(f:List Expr->Bool):Bool:=match e with
 |.Tuple es _ _=>f es
 |_=>false
def Cy{f}(h:dTu e f=true):∃es k p,e=.Tuple es k p/\f es=true:=by cases e<;>first |exact⟨_,_,_,rfl,h⟩ |exact eM h
abbrev dLi(e:Expr)(f:List Expr->Bool):Bool:=match e with
 |.List es _=>f es
 |_=>false
def dLi_of{f}(h:dLi e f=true):∃es p,e=.List es p/\f es=true:=by cases e<;>first |exact⟨_,_,rfl,h⟩ |exact eM h
abbrev dDi(e:Expr)(f:List (Option Expr)->List Expr->Bool):Bool:=match e with
 |.Dict ks vs _=>f ks vs
 |_=>false
def dDi_of{f}(h:dDi e f=true):∃ks vs p,e=.Dict ks vs p/\f ks vs=true:=by cases e<;>first |exact⟨_,_,_,rfl,h⟩ |exact eM h
abbrev dCa(e:Expr)(f:Expr->List Expr->Pos->Bool):Bool:=match e with
 |.Call g es ks p=>ks.isEmpty&&f g es p
 |_=>false
def Jv{f}(h:dCa e f=true):∃g es p,e=.Call g es [] p/\f g es p=true:=by
 cases e<;>first |exact eM h|skip
 rename_i g es ks p;obtain⟨a,h⟩:=an h;cases ks with
 |nil=>exact⟨g,es,p,rfl,h⟩
 |cons=>exact eM a
abbrev dFn(e:Expr)(f:Str->List Expr->Bool):Bool:=dCa e fun g es _=>dNm g fun x _=>f x es
def kK{f}(h:dFn e f=true):∃x np es p,e=.Call (.Name x np) es [] p/\f x es=true:=by obtain⟨g,es,p,rfl,k⟩:=Jv h;obtain⟨x,np,rfl,l⟩:=mQ k;exact⟨x,np,es,p,rfl,l⟩
abbrev dAt(e:Expr)(f:Expr->Str->Pos->Bool):Bool:=match e with
 |.Attribute a x p=>f a x p
 |_=>false
def dAt_of{f}(h:dAt e f=true):∃a x p,e=.Attribute a x p/\f a x p=true:=by cases e<;>first |exact⟨_,_,_,rfl,h⟩ |exact eM h
abbrev dMt(m:Str)(e:Expr)(f:Expr->List Expr->Bool):Bool:=dCa e fun g es b=>dAt g fun o c a=>decide (m=c)&&(a.endLine==b.line)&&f o es
def Cz{m:Str}{f}(h:dMt m e f=true):∃o a es b,e=.Call (.Attribute o m a) es [] b/\(a.endLine==b.line)=true/\f o es=true:=by obtain⟨g,es,b,rfl,k⟩:=Jv h;obtain⟨o,i,a,rfl,l⟩:=dAt_of k;obtain⟨c,d,n⟩:=kc l;cases of_decide_eq_true c;exact⟨o,a,es,b,rfl,d,n⟩
abbrev dLc(e:Expr)(f:Expr->List Comprehension->Scope->Pos->Bool):Bool:=match e with
 |.ListComp a gs sc p=>f a gs sc p
 |_=>false
def CA{f}(h:dLc e f=true):∃a gs sc p,e=.ListComp a gs sc p/\f a gs sc p=true:=by cases e<;>first |exact⟨_,_,_,_,rfl,h⟩ |exact eM h
abbrev dAs(s:Stmt)(f:Expr->Expr->Pos->Bool):Bool:=match s with
 |.Assign ts e p=>l1 ts fun g=>f g e p
 |_=>false
def Jx{f}(h:dAs s f=true):∃g e p,s=.Assign [g] e p/\f g e p=true:=by
 cases s<;>first |exact eM h|skip
 obtain⟨g,rfl,h⟩:=md h;exact⟨g,_,_,rfl,h⟩
abbrev dEx(s:Stmt)(f:Expr->Bool):Bool:=match s with
 |.Expr e _=>f e
 |_=>false
def dEx_of{f}(h:dEx s f=true):∃e p,s=.Expr e p/\f e=true:=by cases s<;>first |exact⟨_,_,rfl,h⟩ |exact eM h
abbrev dIs(s:Stmt)(f:Expr->List Stmt->List Stmt->Bool):Bool:=match s with
 |.If c a b _=>f c a b
 |_=>false
def dIs_of{f}(h:dIs s f=true):∃c a b p,s=.If c a b p/\f c a b=true:=by cases s<;>first |exact⟨_,_,_,_,rfl,h⟩ |exact eM h
abbrev dFo(s:Stmt)(f:Expr->Expr->List Stmt->Bool):Bool:=match s with
 |.For g i a b _=>b.isEmpty&&f g i a
 |_=>false
def dFo_of{f}(h:dFo s f=true):∃g i a p,s=.For g i a [] p/\f g i a=true:=by
 cases s<;>first |exact eM h|skip
 rename_i g i a b p;obtain⟨c,h⟩:=an h;cases b with
 |nil=>exact⟨g,i,a,p,rfl,h⟩
 |cons=>exact eM c
abbrev dRt(s:Stmt)(f:Option Expr->Bool):Bool:=match s with
 |.Return e _=>f e
 |_=>false
def Jt{f}(h:dRt s f=true):∃e p,s=.Return e p/\f e=true:=by cases s<;>first |exact⟨_,_,rfl,h⟩ |exact eM h
abbrev dRa(s:Stmt)(f:Str->List Expr->Bool):Bool:=match s with
 |.Raise e c _=>match e with
  |some e=>c.isNone&&dFn e f
  |none=>false
 |_=>false
def dRa_of{f}(h:dRa s f=true):∃x np es a p,s=.Raise (some (.Call (.Name x np) es [] a)) none p/\f x es=true:=by
 cases s<;>first |exact eM h|skip
 rename_i e c p;cases e with
 |none=>exact eM h
 |some e=>
  obtain⟨b,k⟩:=an h;obtain⟨x,np,es,a,rfl,l⟩:=kK k;cases c with
  |none=>exact⟨x,np,es,a,p,rfl,l⟩
  |some=>exact eM b
end
abbrev u1{α:Type}(l:List α)(f:α->List α->Bool):Bool:=match l with
 |a::r=>f a r
 | []=>false
def Gu{b:Type}{l:List b}{f:b->List b->Bool}(h:u1 l f=true):∃a r,l=a::r/\f a r=true:=by
 cases l with
 |nil=>exact eM h
 |cons a r=>exact⟨a,r,rfl,h⟩
abbrev om{α:Type}(o:Option α)(f:α->Bool):Bool:=match o with
 |some x=>f x
 |none=>false
def om_of{a:Type}{o:Option a}{f:a->Bool}(h:om o f=true):∃x,o=some x/\f x=true:=by
 cases o with
 |none=>exact eM h
 |some x=>exact⟨x,rfl,h⟩
def nil_of{a:Type}{l:List a}(h:l.isEmpty=true):l=[]:=List.isEmpty_iff.mp h
abbrev dFF(f g:Str)(sc:Scope)(e:Expr)(k:Expr->Bool):Bool:=dFn e fun b es=>l1 es fun x=>dFn x fun c es=>l1 es fun a=>decide (b=f)&&decide (c=g)&&mP sc f&&mP sc g&&k a
def CC{f g:Str}{k}(h:dFF f g sc e k=true):∃p a q r t,e=.Call (.Name f p) [.Call (.Name g q) [a] [] r] [] t/\mP sc f=true/\mP sc g=true/\k a=true:=by obtain⟨_,p,_,t,rfl,i⟩:=kK h;obtain⟨x,rfl,j⟩:=md i;obtain⟨_,q,_,r,rfl,l⟩:=kK j;obtain⟨a,rfl,m⟩:=md l;obtain⟨b,c,d,o,n⟩:=and5 m;cases of_decide_eq_true b;cases of_decide_eq_true c;exact⟨p,a,q,r,t,rfl,d,o,n⟩
mutual
noncomputable def eQ(sc:Scope)(N:List Str):CE->Expr->Bool
 |.var i,e=>dNm e fun x _=>N[i]? ==some x&&IL sc x&&wu x
 |.con c,e=>dCn e fun c'=>okCon c&&decide (c=c')
 |.glo x,e=>dNm e fun y _=>decide (x=y)&&mP sc x&&wu x
 |.ty t,e=>dNm e fun y _=>decide (t.name=y)&&mP sc y
 |.bin j a b,e=>dBi e fun d r h=>decide (j=r)&&eQ sc N a d&&eQ sc N b h
 |.cmp j a b,e=>dC1 e fun d r h=>decide (j=r)&&eQ sc N a d&&eQ sc N b h
 |.chain o1 o2 a b c,e=>dCm e fun d w es=>l2 w fun p q=>l2 es fun h c'=>decide (o1=p)&&decide (o2=q)&& !isSet c'&&(eQ sc N a d&&eQ sc N b h&&eQ sc N c c')
 |.not a,e=>dUn e fun j d=>decide (j=.Not)&&eQ sc N a d
 |.and a b,e=>dBo e fun j d x=>decide (j=.And)&&eQ sc N a d&&eQ sc N b x
 |.or a b,e=>dBo e fun j d x=>decide (j=.Or)&&eQ sc N a d&&eQ sc N b x
 |.ite c a b,e=>dIf e fun c' d h=>eQ sc N c c'&&eQ sc N a d&&eQ sc N b h
 |.idx a i,e=>dSu e fun d k=> !yx k&&eQ sc N a d&&eQ sc N i k
 |.cut a lo hi,e=>dSu e fun d s=>dSl s fun l u t=>t.isNone&&eQ sc N a d&&(chkO sc N lo l&&chkO sc N hi u)
 |.tup es,e=>dTu e fun es'=>o8 sc N es es'
 |.lst es,e=>dLi e fun es'=>o8 sc N es es'
 |.call f es,e=>dFn e fun n es'=>decide (f=n)&&mP sc f&&wu f&&o8 sc N es es'
 |.bfn b es,e=>dFn e fun n es'=>decide (b.name=n)&&mP sc n&& !es'.isEmpty&&o8 sc N es es'
 |.meth0 m o,e=>dMt m.name e fun o' es=>es.isEmpty&&baseOk o'&&eQ sc N o o'
 |.meth1 m o a,e=>dMt m.name e fun o' es=>l1 es fun d=>baseOk o'&&eQ sc N o o'&&eQ sc N a d
 |.idxd a i,e=>dSu e fun d k=> !yx k&&eQ sc N a d&&eQ sc N i k
 |.dicT,e=>dDi e fun ks vs=>ks.isEmpty&&vs.isEmpty
 |.setd o a b,e=>dMt (cQ "setdefault") e fun o' es=>l2 es fun d h=>baseOk o'&&eQ sc N o o'&&(eQ sc N a d&&eQ sc N b h)
 |.sortset a,e=>dFF "sorted" "set" sc e (eQ sc N a)
 |.ssetl a,e=>dFF "sorted" "set" sc e (eQ sc N a)
 |.lrng a,e=>dFF "list" "range" sc e (eQ sc N a)
 |.comp own fr tg it cond elt,e=>dLc e fun v gs sc' _=>l1 gs fun g=>decide (g.is_async=0)&&yh sc sc' N own fr&& !isSet g.iter&&(chkI sc N it g.iter g.target&&uU sc' (namesOf N own fr) false tg g.target&&chkC sc' (namesOf N own fr) cond g.ifs&&eQ sc' (namesOf N own fr) elt v)
noncomputable def o8(sc:Scope)(N:List Str):CL->List Expr->Bool
 |.nil,es=>es.isEmpty
 |.cons e r,es=>u1 es fun a b=>eQ sc N e a&&o8 sc N r b
noncomputable def chkO(sc:Scope)(N:List Str):CO->Option Expr->Bool
 |.no,o=>o.isNone
 |.yes e,o=>om o (eQ sc N e)
noncomputable def chkC(sc:Scope)(N:List Str):CO->List Expr->Bool
 |.no,o=>o.isEmpty
 |.yes e,o=>l1 o (eQ sc N e)
noncomputable def uU(sc:Scope)(N:List Str)(all:Bool):CG->Expr->Bool
 |.name i,e=>dNm e fun x _=>N[i]? ==some x&&(sc.names.lookup x==some .local||sc.names.lookup x==some .cell)
 |.tup gs,e=>dTu e fun es=>rY sc N all gs es
 |.ltup gs,e=>dTu e fun es=>rY sc N all gs es
noncomputable def rY(sc:Scope)(N:List Str)(all:Bool):CGs->List Expr->Bool
 |.nil,es=>es.isEmpty
 |.cons g gs,es=>u1 es fun a es'=>uU sc N all g a&&rY sc N all gs es'
noncomputable def chkI(sc:Scope)(N:List Str):CI->Expr->Expr->Bool
 |.seq e,c,_=>eQ sc N e c
 |.lseq e,c,_=>eQ sc N e c
 |.range1 e,x,_=>dFn x fun f es=>l1 es fun c=>decide (f="range")&&mP sc f&&eQ sc N e c
 |.range2 a b,x,_=>dFn x fun f es=>l2 es fun d g=>decide (f="range")&&mP sc f&&eQ sc N a d&&eQ sc N b g
 |.enumt e,x,tg'=>dFn x fun f es=>l1 es fun c=>decide (f="enumerate")&&mP sc f&&eQ sc N e c&&ri tg'
end
abbrev isCe:CE->Bool
 |.comp .. =>true
 |_=>false
mutual
noncomputable def chkS(sc:Scope)(N:List Str):CS->Stmt->Bool
 |.asg g e,s=>dAs s fun h f _=>uU sc N true g h&&eQ sc N e f&& !yy f&& !(ri h&&ri f)
 |.asgc i e,s=>isCe e&&dAs s fun g f _=>dNm g fun x p=>dLc f fun a b c d=>N[i]? ==some x&&(sc.names.lookup x==some .local||sc.names.lookup x==some .cell)&&eQ sc N e (.ListComp a b c d)&&
   (sc.names.lookup x==some .cell||(decide (p.line=d.line)&& !(c.names.any fun y=>decide (y.1=x)&&(decide (y.2=.local)||decide (y.2=.cell)))))
 |.expr e,s=>dEx s fun f=>eQ sc N e f&& !yy f
 |.iff c a b,s=>dIs s fun c' l j=>eQ sc N c c'&&vS sc N a l&&vS sc N b j
 |.forr g it b,s=>dFo s fun h k j=>uU sc N true g h&&chkI sc N it k h&& !isSet k&&vS sc N b j
 |.ret e,s=>dRt s fun o=>om o (eQ sc N e)
 |.retN,s=>dRt s fun o=>o.isNone
 |.rais x es,s=>dRa s fun m es'=>decide (x=m)&&mP sc x&&wu x&&(!es'.isEmpty&&o8 sc N es es')
 |.pass,s=>match s with
  |.Pass _=>true
  |_=>false
 |.brk,s=>match s with
  |.Break _=>true
  |_=>false
 |.cont,s=>match s with
  |.Continue _=>true
  |_=>false
noncomputable def vS(sc:Scope)(N:List Str):CB->List Stmt->Bool
 |.hole,_=>true
 |.nil,ss=>ss.isEmpty
 |.cons s r,ss=>u1 ss fun s' a=>chkS sc N s s'&&vS sc N r a
end
structure Gam where
 val:Str->Option V
 fn:Str->Nat->Option (Sp×List V)
 ini:Str->Nat->Option (Addr×Sp×List V)
 dic:Addr->Option (List (Key×V))
 mak:Str->Nat->Option (Addr×Sp×List V)
 mth:Str->Nat->Option (Addr×Sp×List V)
def yz(K:ao)(tl:TE):TI:=fun σ H R=>tl σ H fun x H1=>(∃a,x=.ref a/\(∃xs,SqL K H1 a xs)/\R (Itl K a) H1)\/(∃a,x=.ref a/\(∃xs,SqT K H1 a xs)/\R (Itt K a) H1)\/(∃z,x=.str z/\R (Its z) H1)
def BH(K:ao)(t:TE):TT:=fun σ H Q=>t σ H fun x H1=>∃k,TruV K x H1 k/\Q k H1
mutual
noncomputable def wpE(G:Gam)(K:ao)(E:XS):CE->TE
 |.var i=>pL i
 |.con c=>tC (cv c)
 |.glo x=>fun σ H Q=>∃v,G.val x=some v/\Q v H
 |.ty t=>tC (.ty t.t)
 |.bin op a b=>tOp (nT K op) (wpE G K E a) (wpE G K E b)
 |.cmp op a b=>tOp (iK K op) (wpE G K E a) (wpE G K E b)
 |.chain o1 o2 a b c=>tN (iK K o1) (iK K o2) (wpE G K E a) (wpE G K E b) (wpE G K E c)
 |.not a=>GK (wpE G K E a)
 |.and a b=>GP (wpE G K E a) (wpE G K E b)
 |.or a b=>tOrV (wpE G K E a) (wpE G K E b)
 |.ite c a b=>tIf (wpT G K E c) (wpE G K E a) (wpE G K E b)
 |.idx a i=>tOp (rIx K) (wpE G K E a) (wpE G K E i)
 |.cut a lo hi=>tSl (Hq K) (wpE G K E a) (wpO G K E lo) (wpO G K E hi)
 |.tup es=>tTup (wpL G K E es)
 |.lst es=>tLst (wpL G K E es)
 |.call f es=>fun σ H Q=>∃sp dvs,G.fn f es.len=some (sp,dvs)/\zF sp dvs (E σ) (wpL G K E es) σ H Q
 |.bfn b es=>tCB (rBf K b) (wpL G K E es)
 |.meth0 m o=>tBM0 K "list" (rMm m) (wpE G K E o)
 |.meth1 m o a=>tBM K "list" (rMm m) (wpE G K E o) (kq (wpE G K E a) qO)
 |.idxd a i=>tOp (rIxD K) (wpE G K E a) (wpE G K E i)
 |.dicT=>GN
 |.setd o a b=>tBM K "dict" Dp (wpE G K E o) (kq (wpE G K E a) (kq (wpE G K E b) qO))
 |.lrng a=>tLRng (kq (wpE G K E a) qO)
 |.sortset a=>zE K (kq (wpE G K E a) qO)
 |.ssetl a=>wa K (kq (wpE G K E a) qO)
 |.comp own fr tg it cond elt=>tM (wpI G K E it) (wpG G K N0 tg) (wpC G K N0 cond) (wpE G K N0 elt) (lO own fr)
noncomputable def wpT(G:Gam)(K:ao)(E:XS):CE->TT
 |.cmp op a b=>zD (tOp (iK K op) (wpE G K E a) (wpE G K E b))
 |.chain o1 o2 a b c=>zD (tN (iK K o1) (iK K o2) (wpE G K E a) (wpE G K E b) (wpE G K E c))
 |.not a=>tNot (wpT G K E a)
 |.and a b=>tAnd (wpT G K E a) (wpT G K E b)
 |.or a b=>tOr (wpT G K E a) (wpT G K E b)
 |.ite _ _ _=>fun _ _ _=>False
 |.var i=>BH K (pL i)
 |.con c=>BH K (tC (cv c))
 |.glo x=>BH K (fun σ H Q=>∃v,G.val x=some v/\Q v H)
 |.idx a i=>BH K (tOp (rIx K) (wpE G K E a) (wpE G K E i))
 |.call f es=>BH K (fun σ H Q=>∃sp dvs,G.fn f es.len=some (sp,dvs)/\zF sp dvs (E σ) (wpL G K E es) σ H Q)
 |.bfn b es=>BH K (tCB (rBf K b) (wpL G K E es))
 |_=>fun _ _ _=>False
noncomputable def wpL(G:Gam)(K:ao)(E:XS):CL->TA
 |.nil=>qO
 |.cons e es=>kq (wpE G K E e) (wpL G K E es)
noncomputable def wpO(G:Gam)(K:ao)(E:XS):CO->TO
 |.no=>xE
 |.yes e=>GJ (wpE G K E e)
noncomputable def wpC(G:Gam)(K:ao)(E:XS):CO->TT
 |.no=>GH
 |.yes e=>wpT G K E e
noncomputable def wpG(G:Gam)(K:ao)(E:XS):CG->TG
 |.name i=>me i
 |.tup gs=>gTup K gs.len (Gn G K E gs)
 |.ltup gs=>gLst K gs.len (Gn G K E gs)
noncomputable def Gn(G:Gam)(K:ao)(E:XS):CGs->TGs
 |.nil=>gNil
 |.cons g gs=>Jd (wpG G K E g) (Gn G K E gs)
noncomputable def wpI(G:Gam)(K:ao)(E:XS):CI->TI
 |.seq e=>yz K (wpE G K E e)
 |.lseq e=>IX K (wpE G K E e)
 |.range1 e=>IW (kq (wpE G K E e) qO)
 |.range2 a b=>IV (kq (wpE G K E a) (kq (wpE G K E b) qO))
 |.enumt e=>IY K (kq (wpE G K E e) qO)
end
mutual
noncomputable def wpS(G:Gam)(K:ao)(E:XS):CS->TS
 |.asg g e=>xF (wpE G K E e) (wpG G K E g)
 |.asgc i e=>xF (wpE G K E e) (me i)
 |.expr e=>GL (wpE G K E e)
 |.iff c a b=>tIfS (wpT G K E c) (wpB G K E a) (wpB G K E b)
 |.forr g it b=>tFor (wpI G K E it) (wpG G K E g) (wpB G K E b)
 |.ret e=>tRet (wpE G K E e)
 |.retN=>GI
 |.rais x es=>fun D σ H=>∃C,G.val x=some (.ref C)/\cN K (.ref C)=true/\PySem.W.excIn K C bmV "ValueError.__new__"=true/\wpL G K E es σ H fun vs H1=>vs.length<=sizeLine/\E σ (.ref C) none H1
 |.pass=>tL
 |.brk=>GO
 |.cont=>tCont
noncomputable def wpB(G:Gam)(K:ao)(E:XS):CB->TS
 |.nil=>tL
 |.hole=>fun _ _ _=>False
 |.cons s r=>vG (wpS G K E s) (wpB G K E r)
end
noncomputable abbrev Sat(G:Gam)(K:ao)(sp:Sp)(c:CB)(N:List Str):Prop:=∀vs H Q E,sp vs H Q E->wpB G K (fun _=>E) c {nx:=fun _ H'=>Q .non H',rt:=Q} (L2.start N vs) H
abbrev jh:List Str:=["len","isinstance","all","any","list","tuple","int","bool","str","dict","range","enumerate","sorted","set","min","max","ValueError","sum","zip","reversed"]
structure Ok(CX:CXT)(G:Gam)(E:XS)(sc:Scope)(N:List Str)(all:Bool)(X:Cx):Prop where
 names:X.N=N
 top:all=true->X.stack=X.env::X.outer/\X.env.frame=some X.env.locals/\X.ex=[]
 nd:N.Nodup
 loc:∀x,sc.names.lookup x=some .local->X.env.scope.names.lookup x=some .local
 cel:∀x,sc.names.lookup x=some .cell->X.env.scope.names.lookup x=some .cell
 fre:∀x,sc.names.lookup x=some .free->X.env.scope.names.lookup x=some .cell\/X.env.scope.names.lookup x=some .free
 glo:∀x,sc.names.lookup x=some .globalImplicit->X.env.scope.names.lookup x=some .globalImplicit
 all:all=true->∀x,X.fn x=true
 own:∀x,sc.names.lookup x=some .cell->X.fn x=true
 calm:X.calm=true
 hu:X.A.units+50<cLine
 val:∀x v,G.val x=some v->∃u,X.mg x=some u/\RelV v u
 fn:∀x n sp dvs,G.fn x n=some (sp,dvs)->∃f fd ps ds k,j6 X.prog X.w X.K X.mg X.base CX k f fd ps sp/\ke k X.A/\X.mg x=some (.ref f)/\cN X.K (.ref f)=true/\Binds X.K fd ps ds/\bZ dvs ds
 ini:∀x n C sp dvs,G.ini x n=some (C,sp,dvs)->∃f fd ps ds k,MkX X.K C f/\j6 X.prog X.w X.K X.mg X.base CX k f fd ps sp/\ke (k+1) X.A/\X.mg x=some (.ref C)/\Binds X.K fd ps ds/\bZ dvs ds
 dic:∀a kvs,G.dic a=some kvs->DkIn X.prog X.w X.K a kvs
 mak:∀x n C sp dvs,G.mak x n=some (C,sp,dvs)->∃f fd ps ds k,Mk X.K C f/\j6 X.prog X.w X.K X.mg X.base CX k f fd ps sp/\ke (k+1) X.A/\X.mg x=some (.ref C)/\Binds X.K fd ps ds/\bZ dvs ds
 mth:∀m n C sp dvs,G.mth m n=some (C,sp,dvs)->∃f fd ps ds k,Cls X.K C/\Meth X.K C m f/\j6 X.prog X.w X.K X.mg X.base CX k f fd ps sp/\ke k X.A/\Binds X.K fd ps ds/\bZ dvs ds
 blt:∀x∈jh,X.mg x=none
 px:PassesOwn (model X.prog X.w) X.A X.env X.xe
 pass:A6 CX X E
 made:MadeS X E
 madeX:JQ X E
 cx:CX=CXx X.prog X.w
def Bf.mem:∀b:Bf,b.name∈jh:=by intro b;cases b<;>decide+kernel
def Ty.mem:∀b:Ty,b.name∈jh:=by intro b;cases b<;>decide+kernel
section
variable {CX:CXT}{G:Gam}{E:XS}{N:List Str}{all:Bool}
def Ok.vis(o:Ok CX G E sc N all X)(h:IL sc x=true):Vis X.env.scope x:=by
 unfold IL at h;rw[dS,dS,beq_iff_eq,beq_iff_eq,beq_iff_eq]at h;rcases h with(h|h) |h;·exact .inl (o.loc x h)
 ·exact .inr (.inl (o.cel x h))
 ·rcases o.fre x h with q|q;·exact .inr (.inl q)
  ·exact .inr (.inr q)
def Ok.gl(o:Ok CX G E sc N all X)(h:mP sc x=true):Gl X x:=by unfold mP at h;rw[beq_iff_eq]at h;exact o.glo x h
def mG(h:wu x=true):(x==("__debug__":Str))=false/\(x==("__classdict__":Str))=false:=by unfold wu at h;rw[aL,beq_iff_eq,beq_iff_eq]at h;exact h
def rBin_ok:∀a,OpR X (gb a) (nT X.K a)
 |.Add=>op_add.or (B7.or (op_cat.or (r':=fun _ _ _ _=>False) fun _ _ _ _ _ _ _ _ _ _ _ _ h=>h.elim))
 |.Sub=>op_sub
 |.Mult=>op_mul.or (op_rep.or op_repS)
 |.Mod=>op_mod
 |.FloorDiv=>op_fdiv
 |.Pow=>op_pow
 |.RShift=>op_shr
 |.MatMult=>fun _ _ _ _ _ _ _ _ _ _ _ _ h=>h.elim
 |.Div=>fun _ _ _ _ _ _ _ _ _ _ _ _ h=>h.elim
 |.LShift=>op_shl
 |.BitOr=>fun _ _ _ _ _ _ _ _ _ _ _ _ h=>h.elim
 |.BitXor=>op_xor
 |.BitAnd=>op_and
def m8(b:X.A.units+50<cLine):∀a,OpR X (dU a) (iK X.K a)
 |.Eq=>op_eqD (by lia)
 |.NotEq=>op_neD (by lia)
 |.Lt=>op_lt
 |.LtE=>op_le
 |.Gt=>op_gt
 |.GtE=>op_ge
 |.Is=>op_isN
 |.IsNot=>op_notN
 |.In=>E1.or E2
 |.NotIn=>yf.or yg
def rSlc_ok:SlR X (Hq X.K):=sl_list.or (sl_tup.or (sl_str.or sl_tupW))
def rBf_ok(a:X.calm=true)(c:X.A.units+50<cLine):∀b,gp X (Bf.val b) (rBf X.K b)
 |.len=>yS.or (yR.or Q.vU)
 |.isinstance=>AO.or yT
 |.all=>JF a
 |.list=>yQ
 |.tuple=>vT
 |.set=>Q.FD a
 |.sum=>JD a
 |.int=>FI
 |.lend=>AN
 |.sorti=>Q.yP
 |.sortl=>Q.yO
 |.sortt=>Q.yN (by lia)
 |.minl=>Q.FE a (by lia)
 |.maxl=>Q.FG a (by lia)
def Mm.slot:∀m:Mm,Slot "list" m.name m.id
 |.append=>PySem.F.slot_list_append|.clear=>PySem.F.slot_list_clear|.reverse=>PySem.F.slot_list_reverse|.pop=>PySem.F.slot_list_pop|.index=>PySem.F.slot_list_index|.extend=>PySem.F.slot_list_extend
def Mm.ty:∀m:Mm,typeOf (.builtin m.id)=pure (.type "method_descriptor")
 |.append=>PySem.F.type_list_append|.clear=>PySem.F.type_list_clear|.reverse=>PySem.F.type_list_reverse|.pop=>PySem.F.type_list_pop|.index=>PySem.F.type_list_index|.extend=>PySem.F.type_list_extend
def Ht:∀m:Mm,MtR X m.id (rMm m)
 |.append=>Fc|.clear=>Im|.reverse=>B9|.pop=>MtR.or (r:=fun _ _ _ _=>False) (fun _ _ _ _ _ _ _ _ _ _ _ _ h=>h.elim) Il|.index=>fun _ _ _ _ _ _ _ _ _ _ _ _ h=>h.elim|.extend=>Fb
def yW{o:Expr}(h:baseOk o=true)(nm:Str)(env:Env)(t:Sem Value):JX o nm env t=t:=by
 cases o<;>first
  |rfl
  |exact eM h
  | (rename_i f es ks p;cases f<;>first
   |rfl
   |exact eM h)
def cL{c:CE}(h:eQ sc N c e=true)(a:List Expr)(env:Env):cf (e::a) env=(false,eval e env)::cf a env:=by
 cases e<;>first
  |rfl
  | (cases c<;>exact eM h)
def nF{c:CE}{r:CL}{e:List Expr}(h:o8 sc N (.cons c r) e=true):∃b d,e=b::d/\eQ sc N c b=true/\o8 sc N r d=true:=
 let⟨b,d,a,k⟩:=Gu h
 ⟨b,d,a,an k⟩
def ql{a:List Expr}(h:o8 sc N .nil a=true):a=[]:=nil_of h
theorem uS:∀{l:CL}{es:List Expr},o8 sc N l es=true->∀(a:Env)(pos:Pos),(backTo pos (cf es a)).any (·.1)=false
 |.nil,es,h,a,pos=>by rw[ql h];rfl
 |.cons c r,es,h,a,pos=>by obtain⟨f,e,rfl,b,d⟩:=nF h;rw[cL b];show(false||(backTo pos (cf e a)).any (·.1))=false;rw[uS d];rfl
def GS{l:CL}{b:List Expr}(h:o8 sc N l b=true)(i:(!b.isEmpty)=true):∃e es',b=e::es'/\∀(a:Env)(pos:Pos),cf (e::es') a=(false,eval e a)::cf es' a/\(backTo pos (cf es' a)).any (·.1)=false:=by
 cases l with
 |nil=>obtain rfl:=ql h;exact eM i
 |cons c r=>obtain⟨d,j,rfl,f,g⟩:=nF h;exact⟨d,j,rfl,fun a pos=>⟨cL f _ _,uS g _ _⟩⟩
def yk(h:isSet e=false)(env:Env):∀x,jF e env x=pure x:=by
 intro x;cases e<;>first
  |rfl
  | (exact Ic h)
def nu(h:isSet e=false)(op:CmpOp):JW op e=false:=by
 cases e<;>first
  |rfl
  | (exact Ic h)
def zV(h:yx e=false):Ej e:=by
 intro o i;cases e<;>first
  |rfl
  | (exact Ic h)
def yn(h:yy e=false)(t:Option Expr)(l:Nat)(env:Env):sZ e t l env=pure false:=by
 cases e<;>first
  |rfl
  | (exact Ic h)
def pi_any{l:Expr}{k:TE}(m:PE X l k):PI X tg l (yz X.K k):=by
 intro r s y H R I h;refine thn (m r s y H _ I h) fun v c ⟨x,g,d,i,q1⟩=>?_;have key:∀{A:TE}{B:TI},True:=fun{_ _}=>trivial;rcases q1 with q1|q1|q1
 ·obtain⟨a,e,⟨w,hq⟩,q⟩:=q1;subst e;cases i;obtain⟨j,u,p,n⟩:=d.list hq;refine nJ p.isList ?_;refine⟨c.heap.objs.size,[c.heap.objs.size],_,_,g,rfl,d.kept (t':=c.toks) fun b o e=>ai _ e,v8 a _,⟨_,az _ rfl,rfl,rfl⟩,fun b f=>?_,q⟩;have e:b=c.heap.objs.size:=by simpa using f
  subst e;exact d.yC (aC _) (d.hok.fresh (aC _))
 ·obtain⟨a,e,⟨w,hq⟩,q⟩:=q1;subst e;cases i;obtain⟨j,u,p,n⟩:=d.tuple hq;refine jk (show c.heap.IsTuple a j.toArray from p) ?_;refine⟨c.heap.objs.size,[c.heap.objs.size],_,_,g,rfl,d.kept (t':=c.toks) fun b o e=>ai _ e,BE a _,⟨_,az _ rfl,rfl,rfl⟩,fun b f=>?_,q⟩;have e:b=c.heap.objs.size:=by simpa using f
  subst e;exact d.yC (aC _) (d.hok.fresh (aC _))
 ·obtain⟨z,e,q⟩:=q1;subst e;obtain⟨t,rfl⟩:=i;refine wpAny_pyIter_strU ?_;refine⟨c.heap.objs.size,[c.heap.objs.size],_,_,g,rfl,d.kept (t':=c.toks) fun b o e=>ai _ e,Gz z _ t,⟨_,az _ rfl,rfl,rfl⟩,fun b f=>?_,q⟩;have e:b=c.heap.objs.size:=by simpa using f
  subst e;exact d.yC (aC _) (d.hok.fresh (aC _))
end
set_option maxHeartbeats 4000000
section
variable {CX:CXT}{G:Gam}
structure nG(sc sc':Scope)(N own:List Str)(fr:List Nat):Prop where
 kind:sc'.kind=.function
 cellk:∀y∈sc'.names,y.2=.cell->sc'.names.lookup y.1=some .cell
 own1:∀y∈sc'.names,y.2=.local->sc'.names.lookup y.1=some .local
 free:∀y∈sc'.names,y.2=.free->sc.names.lookup y.1=some .cell\/sc.names.lookup y.1=some .free
 nd:(namesOf N own fr).Nodup
 fr:∀j∈fr,j<N.length/\sc'.names.lookup (N.getD j "")=some .free
 own2:∀x∈own,sc'.names.lookup x=some .local\/sc'.names.lookup x=some .cell
def tU{own:List Str}{fr:List Nat}(h:yh sc sc' N own fr=true):nG sc sc' N own fr:=by unfold yh at h;simp only[aL,bK,decide_eq_true_eq,beq_iff_eq,dS]at h;obtain⟨⟨⟨⟨⟨⟨a,b⟩,c⟩,d⟩,e⟩,f⟩,g⟩:=h;exact⟨a,b,c,d,e,f,g⟩
def nG.comp{E:XS}{own:List Str}{fr:List Nat}{all:Bool}(S:nG sc sc' N own fr)(o:Ok CX G E sc N all X):nH X (namesOf N own fr) sc':=
 ⟨S.kind,S.cellk,S.own1,fun y a hf=>by
  rcases S.free y a hf with q|q;·exact .inl (o.cel _ q)
  ·exact o.fre _ q⟩
def nG.mkOk{E:XS}{own:List Str}{fr:List Nat}{all:Bool}(S:nG sc sc' N own fr)(o:Ok CX G E sc N all X):MkOk X (namesOf N own fr) sc' (lO own fr):=by
 intro e g;refine⟨by simp[lO,namesOf],fun i x v b a=>?_⟩;unfold lO at a;unfold namesOf at b;by_cases hi:i<own.length
 ·rw[eB (by simpa using hi),ax]at a;cases q:own[i]? with
  |none=>rw[q]at a;cases a
  |some z=>rw[q]at a;cases a
 ·rw[cT (by simpa using hi),ax,ak]at a;rw[cT (by simpa using hi),ax]at b;cases q:fr[i-own.length]? with
  |none=>rw[q]at a;cases a
  |some j=>
   rw[q]at b a;have d:N.getD j ""=x:=aX b;have c:(e[j]?).getD none=some v:=aX a;obtain⟨f,hf⟩:=S.fr j (aG q);refine⟨by rw[<-d];exact hf,j,?_,?_⟩;·rw[o.names,<-d,af,ae f];rfl
   ·cases w:e[j]? with
    |none=>rw[w]at c;cases c
    |some z=>rw[w]at c;exact congrArg some c
noncomputable abbrev HX(CX:CXT):Prop:=∀o H s e s',CX o H s E0 e s'->False
def Ok.comp{E:XS}{own:List Str}{fr:List Nat}{all:Bool}(c:HX CX)(S:nG sc sc' N own fr)(o:Ok CX G E sc N all X)(C:Addr)(d:Shared)(a:Hp)(b:List Addr):
  Ok CX G N0 sc' (namesOf N own fr) false (eF X (namesOf N own fr) sc' C d a b) where
 names:=rfl
 nd:=S.nd
 loc:=fun x h=>lookup_relabel_local (env:=X.env) h
 cel:=fun x h=>gG (env:=X.env) h (by decide)
 own:=fun x h=>cI.mpr ⟨(x,.cell),bI h,by simp⟩
 fre:=fun x h=>(gR (env:=X.env) h).symm
 glo:=fun x h=>gG (env:=X.env) h (by decide)
 all:=fun h=>absurd h (by decide)
 calm:=o.calm
 hu:=o.hu
 val:=o.val
 fn:=o.fn
 ini:=o.ini
 dic:=o.dic
 mak:=o.mak
 mth:=o.mth
 blt:=o.blt
 px:=PassesOwn.never
 pass:=fun _ _ _ _ _ _ _ h=>(c _ _ _ _ _ h).elim
 made:=fun _ _ _ _ _ _ _ _ _ _ h=>h.elim
 madeX:=fun _ _ _ _ _ _ _ _ _ h=>h.elim
 cx:=o.cx
 top:=fun h=>absurd h (by decide)
def pT{all:Bool}{g:CG}(h:uU sc N all g e=true)(a:List Expr)(env:Env):fF (e::a) env=(false,assign e env)::fF a env:=by
 cases e<;>first
  |rfl
  | (cases g<;>exact eM h)
def uT{all:Bool}{g:CG}{r:CGs}{d:List Expr}(h:rY sc N all (.cons g r) d=true):∃b c,d=b::c/\uU sc N all g b=true/\rY sc N all r c=true:=
 let⟨b,c,a,k⟩:=Gu h
 ⟨b,c,a,an k⟩
def wR{all:Bool}{a:List Expr}(h:rY sc N all .nil a=true):a=[]:=nil_of h
theorem mR{all:Bool}:∀{gs:CGs}{es:List Expr},rY sc N all gs es=true->∀c,(fF es c).length=gs.len/\(fF es c).findIdx? (·.1)=none
 |.nil,es,h,c=>by rw[wR h];exact⟨rfl,rfl⟩
 |.cons g r,es,h,c=>by obtain⟨f,i,rfl,d,e⟩:=uT h;obtain⟨a,b⟩:=mR e c;rw[pT d];refine⟨by rw[bz,a,CGs.len],?_⟩;rw[List.findIdx?_cons];simp[b]
end
section
variable {CX:CXT}{G:Gam}
noncomputable abbrev IHE(CX:CXT)(G:Gam)(c:CE):Prop:=∀(e:Expr){E:XS}{sc:Scope}{N:List Str}{all:Bool}{X:Cx},Ok CX G E sc N all X->eQ sc N c e=true->PE X e (wpE G X.K E c)
noncomputable abbrev IHT(CX:CXT)(G:Gam)(c:CE):Prop:=∀(e:Expr){E:XS}{sc:Scope}{N:List Str}{all:Bool}{X:Cx},Ok CX G E sc N all X->eQ sc N c e=true->PT X e (wpT G X.K E c)
abbrev isBo:Expr->Bool
 |.BoolOp .. =>true
 |_=>false
def isBo_of(h:isBo e=true):∃a es p,e=.BoolOp a es p:=by
 cases e<;>first
  |exact⟨_,_,_,rfl⟩
  |exact eM h
noncomputable abbrev IHW(CX:CXT)(G:Gam)(c:CE):Prop:=∀(e:Expr){E:XS}{sc:Scope}{N:List Str}{all:Bool}{X:Cx},Ok CX G E sc N all X->eQ sc N c e=true->isBo e=true->PW X e (wpT G X.K E c)
noncomputable abbrev IHL(CX:CXT)(G:Gam)(c:CL):Prop:=∀(es:List Expr){E:XS}{sc:Scope}{N:List Str}{all:Bool}{X:Cx},Ok CX G E sc N all X->o8 sc N c es=true->PA X es (wpL G X.K E c)
noncomputable abbrev IHO(CX:CXT)(G:Gam)(c:CO):Prop:=∀(e:Option Expr){E:XS}{sc:Scope}{N:List Str}{all:Bool}{X:Cx},Ok CX G E sc N all X->chkO sc N c e=true->PO X e (wpO G X.K E c)
noncomputable abbrev IHC(CX:CXT)(G:Gam)(c:CO):Prop:=∀(es:List Expr){E:XS}{sc:Scope}{N:List Str}{all:Bool}{X:Cx},Ok CX G E sc N all X->chkC sc N c es=true->PTs X es (wpC G X.K E c)
noncomputable abbrev IHG(CX:CXT)(G:Gam)(c:CG):Prop:=∀(e:Expr){E:XS}{sc:Scope}{N:List Str}{all:Bool}{X:Cx},Ok CX G E sc N all X->uU sc N all c e=true->PG X e (wpG G X.K E c)
noncomputable abbrev FN(CX:CXT)(G:Gam)(c:CGs):Prop:=∀(es:List Expr){E:XS}{sc:Scope}{N:List Str}{all:Bool}{X:Cx},Ok CX G E sc N all X->rY sc N all c es=true->PGs X es (Gn G X.K E c)
noncomputable abbrev IHI(CX:CXT)(G:Gam)(c:CI):Prop:=∀(e tg:Expr){E:XS}{sc:Scope}{N:List Str}{all:Bool}{X:Cx},Ok CX G E sc N all X->chkI sc N c e tg=true->PI X tg e (wpI G X.K E c)
def Ha:IHE CX G (.var i):=by intro e E g N all X o h;obtain⟨x,p,rfl,k⟩:=mQ h;obtain⟨c,d,f⟩:=kc k;obtain⟨a,b⟩:=mG f;exact pe_var (by rw[o.names];exact beq_iff_eq.mp c) (o.vis d) a b
def Hh{c:Const}:IHE CX G (.con c):=by
  intro e E g N all X o h;obtain⟨f,j,p,rfl,k⟩:=Ju h;obtain⟨a,d⟩:=an k;cases of_decide_eq_true d;cases c with
  |none=>exact pe_non
  |bool b=>exact pe_bl
  |int i=>exact pe_int
  |str x=>exact pe_str
  |_=>exact eM a
def Hg:IHE CX G (.glo x):=by intro e E l N all X o h;obtain⟨y,p,rfl,k⟩:=mQ h;obtain⟨a,b,c⟩:=kc k;cases of_decide_eq_true a;intro i s j H Q I g;obtain⟨v,f,q⟩:=g;obtain⟨u,d,r⟩:=o.val _ _ f;exact pe_glob (o.gl b) d r (mG c).1 i s j H Q I q
def sE_ty{t:Ty}:IHE CX G (.ty t):=by intro e E c N all X o h;obtain⟨y,p,rfl,k⟩:=mQ h;obtain⟨a,b⟩:=an k;cases of_decide_eq_true a;exact pe_bltn (o.gl b) (o.blt _ t.mem) t.boot rfl t.plain.1 t.plain.2
def sE_bin{op:Operator}{a b:CE}(g:IHE CX G a)(i:IHE CX G b):IHE CX G (.bin op a b):=by intro e E n N all X o h;obtain⟨j,m,l,p,rfl,k⟩:=dBi_of h;obtain⟨c,d,f⟩:=kc k;cases of_decide_eq_true c;exact pe_op (rBin_ok op) (g _ o d) (i _ o f)
def sE_cmp{op:CmpOp}{a b:CE}(i:IHE CX G a)(j:IHE CX G b):IHE CX G (.cmp op a b):=by intro e E q N all X o h;obtain⟨l,n,m,p,rfl,c,k⟩:=Jw h;obtain⟨d,f,g⟩:=kc k;cases of_decide_eq_true d;exact pe_cmpR (m8 o.hu op) (i _ o f) (j _ o g) (nu c op)
def Hi{f d:CmpOp}{a b c:CE}(t:IHE CX G a)(u:IHE CX G b)(v:IHE CX G c):IHE CX G (.chain f d a b c):=by intro e E D N all X o h;obtain⟨w,A,z,p,rfl,k⟩:=CD h;obtain⟨B,C,rfl,l⟩:=wD k;obtain⟨x,y,rfl,m⟩:=wD l;obtain⟨g,i,j,n⟩:=o9 m;obtain⟨q,r,s⟩:=kc n;cases of_decide_eq_true g;cases of_decide_eq_true i;exact HM (m8 o.hu f) (m8 o.hu d) (t _ o q) (u _ o r) (v _ o s) (nu (sD j) d)
def sE_not{a:CE}(d:IHE CX G a):IHE CX G (.not a):=by intro e E i N all X o h;obtain⟨g,f,p,rfl,k⟩:=Js h;obtain⟨b,c⟩:=an k;cases of_decide_eq_true b;exact pe_not (d _ o c)
def sE_and{a b:CE}(f:IHE CX G a)(g:IHE CX G b):IHE CX G (.and a b):=by
  intro e E s N all X o h;obtain⟨q,j,x,p,k,m⟩:=rq h;obtain⟨i,c,d⟩:=kc k;cases of_decide_eq_true i;rcases m with rfl|⟨l,n,r,rfl,rfl⟩;·exact HQ (f _ o c) (HJ (g _ o d))
  ·exact HQ (f _ o c) (g _ o d)
def sE_or{a b:CE}(f:IHE CX G a)(g:IHE CX G b):IHE CX G (.or a b):=by
  intro e E s N all X o h;obtain⟨q,j,x,p,k,m⟩:=rq h;obtain⟨i,c,d⟩:=kc k;cases of_decide_eq_true i;rcases m with rfl|⟨l,n,r,rfl,rfl⟩;·exact pe_or (f _ o c) (HJ (g _ o d))
  ·exact pe_or (f _ o c) (g _ o d)
def sE_ite{c a b:CE}(l:IHT CX G c)(i:IHE CX G a)(j:IHE CX G b):IHE CX G (.ite c a b):=by intro e E r N all X o h;obtain⟨q,m,n,p,rfl,k⟩:=dIf_of h;obtain⟨d,f,g⟩:=kc k;exact HK (l _ o d) (i _ o f) (j _ o g)
def Hf{a i:CE}(f:IHE CX G a)(g:IHE CX G i):IHE CX G (.idx a i):=by intro e E m N all X o h;obtain⟨j,l,p,rfl,k⟩:=yI h;obtain⟨b,c,d⟩:=kc k;exact pe_ix ix_seq (f _ o c) (g _ o d) (zV (sD b))
def sE_cut{a:CE}{lo hi:CO}(g:IHE CX G a)(j:IHO CX G lo)(i:IHO CX G hi):IHE CX G (.cut a lo hi):=by intro e E v N all X o h;obtain⟨q,s,p,rfl,k⟩:=yI h;obtain⟨l,u,t,r,rfl,m⟩:=dSl_of k;obtain⟨b,c,n⟩:=kc m;obtain⟨d,f⟩:=an n;cases hV.mp b;exact HI rSlc_ok (g _ o c) (j _ o d) (i _ o f)
def sE_tup{a:CL}(b:IHL CX G a):IHE CX G (.tup a):=by intro e E d N all X o h;obtain⟨c,j,p,rfl,k⟩:=Cy h;exact pe_tup (b _ o k)
def sE_lst{a:CL}(b:IHL CX G a):IHE CX G (.lst a):=by intro e E d N all X o h;obtain⟨c,p,rfl,k⟩:=dLi_of h;exact pe_lst (b _ o k)
def Dg{f:Str}{b:CL}(x:IHL CX G b):IHE CX G (.call f b):=by
  intro e E K N all X o h;obtain⟨A,D,u,p,rfl,k⟩:=kK h;obtain⟨v,d,g,c⟩:=o9 k;cases of_decide_eq_true v;intro r s t H Q I a;obtain⟨L,z,hf,a⟩:=a;obtain⟨B,C,J,y,k,F,n,m,l,i,j⟩:=o.fn _ _ _ _ hf;cases u with
  |nil=>
   cases b with
   |nil=>exact EW F n (o.gl d) m l i j o.pass (mG g).1 r s t H Q I a
   |cons=>exact eM c
  |cons e1 r1=>have w:=x _ o c;obtain⟨_,_,e,q⟩:=GS c rfl;cases e;exact HN F n (o.gl d) m l i j o.pass w (mG g).1 (q _ p).1 (q _ _).2 r s t H Q I a
def Bf.kind:∀b:Bf,(∃n,b.val=.builtin n)\/∃n,b.val=.type n:=by intro b;cases b<;>first |exact .inl ⟨_,rfl⟩ |exact .inr ⟨_,rfl⟩
def pe_bf{b:Bf}{a:List Expr}{t:TA}{l:CL}(c:gp X b.val (rBf X.K b))(i:Gl X b.name)(j:X.mg b.name=none)(g:PA X a t)(k:(!a.isEmpty)=true)(h:o8 sc N l a=true):PE X (.Call (.Name b.name np) a [] pos) (tCB (rBf X.K b) t):=by
 obtain⟨e,m,rfl,d⟩:=GS h k;have f:=b.boot;rcases b.kind with⟨n,q⟩ |⟨n,q⟩;·rw[q]at c f;exact HP c i j f g b.plain.1 b.plain.2 (d _ pos).1 (d _ _).2
 ·rw[q]at c f;exact EV c i j f g b.plain.1 b.plain.2 (d _ pos).1 (d _ _).2
def Hj{b:Bf}{a:CL}(i:IHL CX G a):IHE CX G (.bfn b a):=by intro e E n N all X o h;obtain⟨l,m,j,p,rfl,k⟩:=kK h;obtain⟨d,f,g,c⟩:=o9 k;cases of_decide_eq_true d;exact pe_bf (rBf_ok o.calm o.hu b) (o.gl f) (o.blt _ b.mem) (i _ o c) g c
def He{m:Mm}{b:CE}(g:IHE CX G b):IHE CX G (.meth0 m b):=by intro e E p N all X o h;obtain⟨n,i,l,j,rfl,a,k⟩:=Cz h;obtain⟨c,d,f⟩:=kc k;obtain rfl:=nil_of c;exact pe_bm0 zo m.slot m.ty (Ht m) (g _ o f) (yW d _ _ _) a
def Hd{m:Mm}{b a:CE}(j:IHE CX G b)(i:IHE CX G a):IHE CX G (.meth1 m b a):=by intro e E t N all X o h;obtain⟨s,p,r,q,rfl,d,k⟩:=Cz h;obtain⟨n,rfl,l⟩:=md k;obtain⟨f,g,c⟩:=kc l;exact pe_bm zo m.slot m.ty (Ht m) (j _ o g) (iq (i _ o c) kI (cL c _ _)) (yW f _ _ _) (by rw[cL c];rfl) d (cL c _ _) rfl
def sE_idxd{a i:CE}(f:IHE CX G a)(g:IHE CX G i):IHE CX G (.idxd a i):=by intro e E m N all X o h;obtain⟨j,l,p,rfl,k⟩:=yI h;obtain⟨b,c,d⟩:=kc k;exact pe_ix (ix_dict (by have :=o.hu;lia)) (f _ o c) (g _ o d) (zV (sD b))
def sE_dicT:IHE CX G .dicT:=by intro e E d N all X o h;obtain⟨c,f,p,rfl,k⟩:=dDi_of h;obtain⟨a,b⟩:=an k;obtain rfl:=nil_of a;obtain rfl:=nil_of b;exact HL
def sE_setd{b a c:CE}(p:IHE CX G b)(n:IHE CX G a)(q:IHE CX G c):IHE CX G (.setd b a c):=by intro e E x N all X o h;obtain⟨w,s,v,u,rfl,g,k⟩:=Cz h;obtain⟨r,t,rfl,l⟩:=wD k;obtain⟨i,j,m⟩:=kc l;obtain⟨d,f⟩:=an m;exact pe_bm PySem.F.plainAttrs_dict vd PySem.F.type_dict_setdefault (E9 (by have :=o.hu;lia)) (p _ o j) (iq (n _ o d) (iq (q _ o f) kI (cL f _ _)) (cL d _ _)) (yW i _ _ _) (by rw[cL d,cL f];rfl) g (cL d _ _) (by rw[cL f];rfl)
def sE_lrng{a:CE}(f:IHE CX G a):IHE CX G (.lrng a):=by intro e E i N all X o h;obtain⟨p,g,q,r,t,rfl,c,d,b⟩:=CC h;exact pe_lrng o.calm (o.gl d) (o.blt _ (by decide+kernel)) (o.gl c) (o.blt _ (by decide+kernel)) (iq (f _ o b) kI (cL b _ _)) (cL b _ _)
def BS{a:CE}(f:IHE CX G a):IHE CX G (.sortset a):=by intro e E i N all X o h;obtain⟨p,g,q,r,t,rfl,c,d,b⟩:=CC h;exact B1 o.calm (o.gl c) (o.blt _ (by decide+kernel)) (o.gl d) (o.blt _ (by decide+kernel)) (iq (f _ o b) kI (cL b _ _)) (cL b _ _)
def Hb{a:CE}(f:IHE CX G a):IHE CX G (.ssetl a):=by intro e E i N all X o h;obtain⟨p,g,q,r,t,rfl,c,d,b⟩:=CC h;exact zW o.calm o.hu (o.gl c) (o.blt _ (by decide+kernel)) (o.gl d) (o.blt _ (by decide+kernel)) (iq (f _ o b) kI (cL b _ _)) (cL b _ _)
def sE_comp(c:HX CX){own:List Str}{fr:List Nat}{j:CG}{i:CI}{f:CO}{g:CE}(A:IHI CX G i)(z:IHG CX G j)(w:IHC CX G f)(x:IHE CX G g):IHE CX G (.comp own fr j i f g):=by
  intro e E I N all X o h;obtain⟨B,D,J,p,rfl,k⟩:=CA h;obtain⟨⟨K,H,F,y⟩,rfl,l⟩:=md k;obtain⟨n,q,r,m⟩:=o9 l;obtain⟨s,t,u,v⟩:=o9 m;cases of_decide_eq_true n;have S:=tU q;exact pe_comp (S.comp o) (S.mkOk o) o.calm (A _ _ o s)
   (fun C d a b _=>⟨z _ (o.comp c S C d a b) t,w _ (o.comp c S C d a b) u,x _ (o.comp c S C d a b) v⟩) (yk (sD r) _)
def sT_cmp{op:CmpOp}{a b:CE}(i:IHE CX G a)(j:IHE CX G b):IHT CX G (.cmp op a b):=by intro e E q N all X o h;obtain⟨l,n,m,p,rfl,c,k⟩:=Jw h;obtain⟨d,f,g⟩:=kc k;cases of_decide_eq_true d;exact pt_cmpR (m8 o.hu op) (i _ o f) (j _ o g) (nu c op)
def G7{f d:CmpOp}{a b c:CE}(t:IHE CX G a)(u:IHE CX G b)(v:IHE CX G c):IHT CX G (.chain f d a b c):=by intro e E D N all X o h;obtain⟨w,A,z,p,rfl,k⟩:=CD h;obtain⟨B,C,rfl,l⟩:=wD k;obtain⟨x,y,rfl,m⟩:=wD l;obtain⟨g,i,j,n⟩:=o9 m;obtain⟨q,r,s⟩:=kc n;cases of_decide_eq_true g;cases of_decide_eq_true i;exact Hx (m8 o.hu f) (m8 o.hu d) (t _ o q) (u _ o r) (v _ o s) (nu (sD j) d)
def sT_not{a:CE}(d:IHT CX G a):IHT CX G (.not a):=by intro e E i N all X o h;obtain⟨g,f,p,rfl,k⟩:=Js h;obtain⟨b,c⟩:=an k;cases of_decide_eq_true b;exact pt_not (d _ o c)
def sT_var:IHT CX G (.var i):=by intro e E a N all X o h;have q:=Ha e o h;obtain⟨x,p,rfl,k⟩:=mQ h;exact lu q fun _=>rfl
def sT_con{c:Const}:IHT CX G (.con c):=by intro e E a N all X o h;have q:=Hh e o h;obtain⟨x,j,p,rfl,k⟩:=Ju h;exact lu q fun _=>rfl
def sT_glo:IHT CX G (.glo x):=by intro e E a N all X o h;have q:=Hg e o h;obtain⟨x,p,rfl,k⟩:=mQ h;exact lu q fun _=>rfl
def sT_idx{a i:CE}(b:IHE CX G a)(c:IHE CX G i):IHT CX G (.idx a i):=by intro e E d N all X o h;have q:=Hf b c e o h;obtain⟨x,y,p,rfl,k⟩:=yI h;exact lu q fun _=>rfl
def sT_call{f:Str}{a:CL}(b:IHL CX G a):IHT CX G (.call f a):=by intro e E d N all X o h;have q:=Dg b e o h;obtain⟨x,c,a,p,rfl,k⟩:=kK h;exact lu q fun _=>rfl
def sT_bfn{b:Bf}{a:CL}(c:IHL CX G a):IHT CX G (.bfn b a):=by intro e E f N all X o h;have q:=Hj c e o h;obtain⟨x,d,a,p,rfl,k⟩:=kK h;exact lu q fun _=>rfl
def G6{a b:CE}(f:IHT CX G a)(i:IHT CX G b)(j:IHW CX G b):IHW CX G (.and a b):=by
  intro e E t N all X o h;obtain⟨s,l,x,p,k,m⟩:=rq h;obtain⟨g,c,d⟩:=kc k;cases of_decide_eq_true g;rcases m with rfl|⟨n,q,r,rfl,rfl⟩;·exact fun _=>Hv (f _ o c) (pw_and1 (i _ o d))
  ·exact fun _=>Hv (f _ o c) (j _ o d rfl)
def sT_and{a b:CE}(c:IHW CX G (.and a b)):IHT CX G (.and a b):=by intro e E j N all X o h;obtain⟨i,d,x,p,k,m⟩:=rq h;exact(c _ o h (by rcases m with rfl|⟨f,g,r,rfl,rfl⟩<;>rfl)).pt
def sW_or{a b:CE}(f:IHT CX G a)(i:IHT CX G b)(j:IHW CX G b):IHW CX G (.or a b):=by
  intro e E t N all X o h;obtain⟨s,l,x,p,k,m⟩:=rq h;obtain⟨g,c,d⟩:=kc k;cases of_decide_eq_true g;rcases m with rfl|⟨n,q,r,rfl,rfl⟩;·exact fun _=>pw_or (f _ o c) (pw_or1 (i _ o d))
  ·exact fun _=>pw_or (f _ o c) (j _ o d rfl)
def sT_or{a b:CE}(c:IHW CX G (.or a b)):IHT CX G (.or a b):=by intro e E j N all X o h;obtain⟨i,d,x,p,k,m⟩:=rq h;exact(c _ o h (by rcases m with rfl|⟨f,g,r,rfl,rfl⟩<;>rfl)).pt
def sL_nil:IHL CX G .nil:=by intro a E b N all X o h;obtain rfl:=ql h;exact kI
def sL_cons{c:CE}{r:CL}(d:IHE CX G c)(e:IHL CX G r):IHL CX G (.cons c r):=by intro g E j N all X o h;obtain⟨f,i,rfl,a,b⟩:=nF h;exact iq (d _ o a) (e _ o b) (cL a _ _)
def sO_no:IHO CX G .no:=by intro e E a N all X o h;obtain rfl:=hV.mp h;exact po_none
def sO_yes{c:CE}(a:IHE CX G c):IHO CX G (.yes c):=by intro e E d N all X o h;obtain⟨b,rfl,k⟩:=om_of h;exact po_some (a _ o k)
def sC_no:IHC CX G .no:=by intro a E b N all X o h;obtain rfl:=nil_of h;exact pts_nil
def sC_yes{c:CE}(a:IHT CX G c):IHC CX G (.yes c):=by intro d E e N all X o h;obtain⟨b,rfl,k⟩:=md h;exact pts_one (a _ o k)
def sG_name:IHG CX G (.name i):=by
  intro e E c N all X o h;obtain⟨x,p,rfl,k⟩:=mQ h;rw[aL,dS,beq_iff_eq,beq_iff_eq,beq_iff_eq]at k;obtain⟨b,a⟩:=k;refine Dt (by rw[o.names];exact o.nd) (by rw[o.names];exact b) ?_ ?_
  ·rcases a with q|q;·exact .inl (o.loc x q)
   ·exact .inr (o.cel x q)
  ·rcases a with q|q;·exact .inr (o.loc x q)
   ·exact .inl (o.own x q)
def sG_tup{c:CGs}(d:FN CX G c):IHG CX G (.tup c):=by intro e E g N all X o h;obtain⟨f,j,p,rfl,k⟩:=Cy h;obtain⟨a,b⟩:=mR k X.env;exact pg_tup o.calm (d _ o k) a b
def sG_ltup{c:CGs}(d:FN CX G c):IHG CX G (.ltup c):=by intro e E g N all X o h;obtain⟨f,j,p,rfl,k⟩:=Cy h;obtain⟨a,b⟩:=mR k X.env;exact pg_lst o.calm (d _ o k) a b
def sGs_nil:FN CX G .nil:=by intro a E b N all X o h;obtain rfl:=wR h;exact pgs_nil
def G9{c:CG}{r:CGs}(d:IHG CX G c)(e:FN CX G r):FN CX G (.cons c r):=by intro g E j N all X o h;obtain⟨f,i,rfl,a,b⟩:=uT h;exact HE (d _ o a) (e _ o b) (by rw[pT a];rfl)
def sI_seq{c:CE}(a:IHE CX G c):IHI CX G (.seq c):=by intro e d E b N all X o h;exact pi_any (a _ o h)
def sI_lseq{c:CE}(a:IHE CX G c):IHI CX G (.lseq c):=by intro e d E b N all X o h;exact pi_list (a _ o h)
def EO{c:CE}(g:IHE CX G c):IHI CX G (.range1 c):=by intro e q E n N all X o h;obtain⟨f,m,j,p,rfl,k⟩:=kK h;obtain⟨i,rfl,l⟩:=md k;obtain⟨b,d,a⟩:=kc l;cases of_decide_eq_true b;exact EU (o.gl d) (o.blt _ (by decide+kernel)) (iq (g _ o a) kI (cL a _ _)) (cL a _ _)
def EN{a b:CE}(j:IHE CX G a)(m:IHE CX G b):IHI CX G (.range2 a b):=by intro e u E t N all X o h;obtain⟨f,s,r,p,rfl,k⟩:=kK h;obtain⟨n,q,rfl,l⟩:=wD k;obtain⟨g,i,d,c⟩:=o9 l;cases of_decide_eq_true g;exact ET (o.gl i) (o.blt _ (by decide+kernel)) (iq (j _ o d) (iq (m _ o c) kI (cL c _ _)) (cL d _ _)) (by rw[cL d,cL c];rfl) (cL c _ _)
def Fk(h:ri e=true):∃es k p,e=.Tuple es k p:=by cases e<;>first |exact⟨_,_,_,rfl⟩ |exact eM h
def G8{c:CE}(m:IHE CX G c):IHI CX G (.enumt c):=by intro e t E s N all X o h;obtain⟨f,q,b,p,rfl,k⟩:=kK h;obtain⟨n,rfl,l⟩:=md k;obtain⟨d,g,a,i⟩:=o9 l;cases of_decide_eq_true d;obtain⟨b,j,r,rfl⟩:=Fk i;exact HD (o.gl g) (o.blt _ (by decide+kernel)) (iq (m _ o a) kI (cL a _ _)) (cL a _ _)
mutual
theorem cm(d:HX CX):∀c:CE,IHE CX G c
 |.var i=>Ha
 |.con c=>Hh
 |.glo x=>Hg
 |.ty t=>sE_ty
 |.bin op a b=>sE_bin (cm d a) (cm d b)
 |.cmp op a b=>sE_cmp (cm d a) (cm d b)
 |.chain o1 o2 a b c=>Hi (cm d a) (cm d b) (cm d c)
 |.not a=>sE_not (cm d a)
 |.and a b=>sE_and (cm d a) (cm d b)
 |.or a b=>sE_or (cm d a) (cm d b)
 |.ite c a b=>sE_ite (jm d c) (cm d a) (cm d b)
 |.idx a i=>Hf (cm d a) (cm d i)
 |.cut a lo hi=>sE_cut (cm d a) (G0 d lo) (G0 d hi)
 |.tup es=>sE_tup (mC d es)
 |.lst es=>sE_lst (mC d es)
 |.call f es=>Dg (mC d es)
 |.bfn b es=>Hj (mC d es)
 |.meth0 m b=>He (cm d b)
 |.meth1 m b a=>Hd (cm d b) (cm d a)
 |.idxd a i=>sE_idxd (cm d a) (cm d i)
 |.dicT=>sE_dicT
 |.setd b a c=>sE_setd (cm d b) (cm d a) (cm d c)
 |.lrng a=>sE_lrng (cm d a)
 |.sortset a=>BS (cm d a)
 |.ssetl a=>Hb (cm d a)
 |.comp own fr tg it cond elt=>sE_comp d (BO d it) (qP d tg) (G2 d cond) (cm d elt)
theorem jm(d:HX CX)(c:CE):IHT CX G c:=by
 cases c with
 |cmp op a b=>exact sT_cmp (cm d a) (cm d b)
 |chain p q a b c=>exact G7 (cm d a) (cm d b) (cm d c)
 |not a=>exact sT_not (jm d a)
 |and a b=>exact sT_and (G6 (jm d a) (jm d b) (xQ d b))
 |or a b=>exact sT_or (sW_or (jm d a) (jm d b) (xQ d b))
 |var i=>exact sT_var
 |con c=>exact sT_con
 |glo x=>exact sT_glo
 |idx a i=>exact sT_idx (cm d a) (cm d i)
 |call f es=>exact sT_call (mC d es)
 |bfn b es=>exact sT_bfn (mC d es)
 |_=>exact fun _ _ _ _ _ _ _ _ _ _ _ _ _ _ z=>z.elim
theorem xQ(d:HX CX)(c:CE):IHW CX G c:=by
 cases c with
 |and a b=>exact G6 (jm d a) (jm d b) (xQ d b)
 |or a b=>exact sW_or (jm d a) (jm d b) (xQ d b)
 |_=>intro e E j N all X o h f;obtain⟨i,g,p,rfl⟩:=isBo_of f;exact eM h
theorem mC(a:HX CX):∀c:CL,IHL CX G c
 |.nil=>sL_nil
 |.cons c r=>sL_cons (cm a c) (mC a r)
theorem G0(a:HX CX):∀c:CO,IHO CX G c
 |.no=>sO_no
 |.yes c=>sO_yes (cm a c)
theorem G2(a:HX CX):∀c:CO,IHC CX G c
 |.no=>sC_no
 |.yes c=>sC_yes (jm a c)
theorem qP(a:HX CX):∀c:CG,IHG CX G c
 |.name i=>sG_name
 |.tup gs=>sG_tup (xR a gs)
 |.ltup gs=>sG_ltup (xR a gs)
theorem xR(a:HX CX):∀c:CGs,FN CX G c
 |.nil=>sGs_nil
 |.cons c r=>G9 (qP a c) (xR a r)
theorem BO(d:HX CX):∀c:CI,IHI CX G c
 |.seq c=>sI_seq (cm d c)
 |.lseq c=>sI_lseq (cm d c)
 |.range1 c=>EO (cm d c)
 |.range2 a b=>EN (cm d a) (cm d b)
 |.enumt c=>G8 (cm d c)
end
end
section
variable {CX:CXT}{G:Gam}
def um{all:Bool}{g:CG}(h:uU sc N all g tg=true)(a:(ri tg&&ri e)=false)(env:Env):swappedStores [tg] e env=pure none:=by
 cases tg with
 |Tuple es k p=>
  cases e<;>first
   |rfl
   | (exact Ic a)
 |List es p=>cases g<;>exact eM h
 |_=>rfl
def zG{a:Expr}{b:List Comprehension}{c:Scope}{d p:Pos}{l:Nat}{env:Env}(h:env.kindOf x≠some .local):sZ (.ListComp a b c d) (some (.Name x p)) l env=pure false:=by
 show(pure (env.blockKind== .function&&env.kindOf x==some .local&&p.line==d.line&& !(c.names.any fun(n,k)=>n==x&&(k== .local||k== .cell))):Sem Bool)=pure false;have e:(env.kindOf x==some eO.local)=false:=by simpa using h
 rw[e,gm,d5,d5]
def BI{a:Expr}{b:List Comprehension}{c:Scope}{d p:Pos}{l:Nat}{env:Env}(g:env.scope.kind=.function)(h:env.kindOf x=some .local)(i:p.line=d.line)
  (j:(c.names.any fun y=>decide (y.1=x)&&(decide (y.2=.local)||decide (y.2=.cell)))=false):sZ (.ListComp a b c d) (some (.Name x p)) l env=pure true:=by
 show(pure (env.blockKind== .function&&env.kindOf x==some .local&&p.line==d.line&& !(c.names.any fun(n,k)=>n==x&&(k== .local||k== .cell))):Sem Bool)=pure true;have e:env.blockKind=.function:=by unfold Env.blockKind;rw[g];rfl
 have f:(c.names.any fun(n,k)=>n==x&&(k==eO.local||k==dj))=false:=by rw[<-j];congr 1
 rw[e,h,i,f];simp
def CJ{c:CE}(h:isCe c=true):∃own fr tg it a elt,c=.comp own fr tg it a elt:=by
 cases c with
 |comp own fr tg it a elt=>exact⟨_,_,_,_,_,_,rfl⟩
 |_=>exact eM h
def Ie(h:yy e=false)(a:Expr)(l:Nat)(env:Env):JT [a] e l env=pure false:=by unfold JT;exact yn h _ _ _
structure OkL(G:Gam)(sc:Scope)(N:List Str)(X:Cx):Prop where
 names:X.N=N
 nd:N.Nodup
 loc:∀x,sc.names.lookup x=some .local->X.env.scope.names.lookup x=some .local
 cel:∀x,sc.names.lookup x=some .cell->X.env.scope.names.lookup x=some .cell
 fre:∀x,sc.names.lookup x=some .free->X.env.scope.names.lookup x=some .cell\/X.env.scope.names.lookup x=some .free
 glo:∀x,sc.names.lookup x=some .globalImplicit->X.env.scope.names.lookup x=some .globalImplicit
 all:∀x,X.fn x=true
 val:∀x v,G.val x=some v->∃u,X.mg x=some u/\RelV v u
 blt:∀x∈jh,X.mg x=none
mutual
theorem GZ(d:HX CX):∀(c:CS)(st:Stmt){E:XS}{sc:Scope}{N:List Str}{X:Cx},Ok CX G E sc N true X->(∀pins σ H s,Inv X pins σ H s->X.env.scope.kind=.function)->chkS sc N c st=true->PS X st (wpS G X.K E c)
 |.asg g e,st,E,sc,N,X,o,hk,h=>by obtain⟨z,u,p,rfl,k⟩:=Jx h;obtain⟨f,j,l,n⟩:=o9 k;exact HA (cm d e _ o j) (qP d g _ o f) (yn (sD l) _ _ _) (um f (sD n) _) (by rw[pT f];rfl)
 |.asgc i e,st,E,sc,N,X,o,hk,h=>by
  obtain⟨Y,h⟩:=an h;obtain⟨z,u,sp,rfl,k⟩:=Jx h;obtain⟨x,p,rfl,a1⟩:=mQ k;obtain⟨a,b,c,a4,rfl,m⟩:=CA a1;obtain⟨f,j,l,n⟩:=o9 m;rw[beq_iff_eq]at f;rw[dS,beq_iff_eq,beq_iff_eq]at j;rw[dS,beq_iff_eq]at n;obtain⟨own,fr,tg,w,K,O,rfl⟩:=CJ Y;by_cases hl:X.env.scope.names.lookup x=some .local
  ·rcases n with q|q;·rw[o.cel x q]at hl;cases hl
   obtain⟨q1,q2⟩:=an q;obtain⟨a5,gs,a9,p',M,r1⟩:=CA l;cases M;obtain⟨⟨b0,a8,a7,b1⟩,rfl,r2⟩:=md r1;obtain⟨P,Q,R,r3⟩:=o9 r2;obtain⟨T,U,V,W⟩:=o9 r3;cases of_decide_eq_true P;have S:=tU Q;intro pins s σ H D I r;exact BY (S.comp o) (S.mkOk o) o.calm (BO d w _ _ o T)
    (fun C y t v _=>⟨qP d tg _ (o.comp d S C y t v) U,G2 d K _ (o.comp d S C y t v) V,cm d O _ (o.comp d S C y t v) W⟩)
    (by rw[o.names];exact o.nd) (by rw[o.names];exact f) hl (BI (hk pins σ H s I) hl (of_decide_eq_true q1) (sD q2)) (yk (sD R) _) pins s σ H D I r
  ·have B:sc.names.lookup x=some .cell:=by
    rcases j with q|q;·exact absurd (o.loc x q) hl
    ·exact q
   exact ps_set (by rw[o.names];exact o.nd) (by rw[o.names];exact f) (.inr (o.cel x B)) (cm d _ _ o l) (zG (by rw[show X.env.kindOf x=_ from o.cel x B];decide)) (.inl (o.all rfl x))
 |.expr e,st,E,sc,N,X,o,hk,h=>by obtain⟨u,p,rfl,k⟩:=dEx_of h;obtain⟨f,j⟩:=an k;exact ps_expr (cm d e _ o f) (yn (sD j) _ _ _)
 |.iff c a b,st,E,sc,N,X,o,hk,h=>by obtain⟨c',a',J,p,rfl,k⟩:=dIs_of h;obtain⟨f,j,l⟩:=kc k;exact ps_if (jm d c _ o f) (qQ d a _ o hk j) (qQ d b _ o hk l)
 |.forr g w b,st,E,sc,N,X,o,hk,h=>by obtain⟨z,i',J,p,rfl,k⟩:=dFo_of h;obtain⟨f,j,l,n⟩:=o9 k;exact ps_for o.px o.calm (BO d w _ _ o j) (qP d g _ o f) (qQ d b _ o hk n) (yk (sD l) _)
 |.ret e,st,E,sc,N,X,o,hk,h=>by obtain⟨a2,p,rfl,k⟩:=Jt h;obtain⟨u,rfl,m⟩:=om_of k;exact ps_ret (cm d e _ o m)
 |.retN,st,E,sc,N,X,o,hk,h=>by obtain⟨a2,p,rfl,k⟩:=Jt h;obtain rfl:=hV.mp k;exact ps_retN
 |.rais x es,st,E,sc,N,X,o,hk,h=>by obtain⟨x',np,a6,L,p,rfl,k⟩:=dRa_of h;obtain⟨f,j,l,m⟩:=o9 k;obtain⟨n,A⟩:=an m;cases of_decide_eq_true f;intro pins s σ H D I r;obtain⟨C,hv,a0,hq,r⟩:=r;obtain⟨a3,hu,ru⟩:=o.val _ _ hv;obtain rfl:a3=aZ C:=ru;have Z:=mC d es _ o A;obtain⟨_,_,rfl,F⟩:=GS A n;exact Hy (o.gl j) hu a0 hq Z o.calm (mG l).1 (F _ L).1 (F _ _).2 o.made pins s σ H D I r
 |.pass,st,E,sc,N,X,o,hk,h=>by
  cases st<;>first
   |exact ps_pass
   |exact eM h
 |.brk,st,E,sc,N,X,o,hk,h=>by
  cases st<;>first
   |exact Hz
   |exact eM h
 |.cont,st,E,sc,N,X,o,hk,h=>by
  cases st<;>first
   |exact zU
   |exact eM h
theorem qQ(a:HX CX):∀(c:CB)(st:List Stmt){E:XS}{sc:Scope}{N:List Str}{X:Cx},Ok CX G E sc N true X->(∀pins σ H s,Inv X pins σ H s->X.env.scope.kind=.function)->vS sc N c st=true->PSs X st (wpB G X.K E c)
 |.hole,_,_,_,_,_,_,_,_=>fun _ _ _ _ _ _ z=>z.elim
 |.nil,st,E,sc,N,X,o,hk,h=>by obtain rfl:=nil_of h;exact pss_nil
 |.cons s r,st,E,sc,N,X,o,hk,h=>by obtain⟨f,e,rfl,k⟩:=Gu h;obtain⟨b,d⟩:=an k;exact ub (GZ a s _ o hk b) (qQ a r _ o hk d)
end
end
structure GOk(P:Program)(w:World)(K:ao)(mg:Str->Option Value)(base:Heap)(CX:CXT)(k:Nat)(G:Gam):Prop where
 val:∀x v,G.val x=some v->∃u,mg x=some u/\RelV v u
 fn:∀x n sp dvs,G.fn x n=some (sp,dvs)->∃f fd ps ds j,j<=k/\j6 P w K mg base CX j f fd ps sp/\mg x=some (.ref f)/\cN K (.ref f)=true/\Binds K fd ps ds/\bZ dvs ds
 ini:∀x n C sp dvs,G.ini x n=some (C,sp,dvs)->∃f fd ps ds j,j+1<=k/\MkX K C f/\j6 P w K mg base CX j f fd ps sp/\mg x=some (.ref C)/\Binds K fd ps ds/\bZ dvs ds
 dic:∀a kvs,G.dic a=some kvs->DkIn P w K a kvs
 mak:∀x n C sp dvs,G.mak x n=some (C,sp,dvs)->∃f fd ps ds j,j+1<=k/\Mk K C f/\j6 P w K mg base CX j f fd ps sp/\mg x=some (.ref C)/\Binds K fd ps ds/\bZ dvs ds
 mth:∀m n C sp dvs,G.mth m n=some (C,sp,dvs)->∃f fd ps ds j,j<=k/\Cls K C/\Meth K C m f/\j6 P w K mg base CX j f fd ps sp/\Binds K fd ps ds/\bZ dvs ds
 blt:∀x∈jh,mg x=none
abbrev pS(N ps:List Str)(sc:Scope):Bool:=
 decide (sc.kind=.function)&&decide (sc.isCoroutine=false)&&decide (sc.isGenerator=false)&&decide N.Nodup&&decide (N.take ps.length=ps)&&
 ps.all (fun x=>sc.names.lookup x==some .local||sc.names.lookup x==some .cell)&&sc.names.all (fun y=>decide (y.2≠.free))
def Aa{ps:List Str}(h:pS N ps sc=true):sY N ps sc:=by unfold pS at h;simp only[aL,bK,decide_eq_true_eq,beq_iff_eq,dS]at h;obtain⟨⟨⟨⟨⟨⟨a,b⟩,c⟩,d⟩,e⟩,f⟩,g⟩:=h;exact⟨a,b,c,d,e,f,g⟩
section
variable {mg:Str->Option Value}
def HY{ps:List Str}{G:Gam}{outer:List Env}{E:XK}(S:sY N ps sc)(g:GOk P w K mg base (CXx P w) k G)(i:ke k (A.deeper (envOfC qual sc s.heap.objs.size f ag))):Ok (CXx P w) G (fun _=>E) sc N true (yJ (CXx P w) P w K mg base N qual sc f ag A outer s H E):=
  {names:=rfl,top:=fun _=>⟨rfl,rfl,rfl⟩,nd:=S.nd,loc:=fun _ z=>z,cel:=fun _ z=>z,fre:=fun y z=>absurd rfl (S.nofree _ (bI z)),glo:=fun _ z=>z,all:=fun _ _=>rfl,own:=fun _ _=>rfl,calm:=rfl,
   hu:=by have :=i.units;show _+50<cLine;exact dB (Nat.add_le_add_left (by decide) _) this
   val:=g.val
   fn:=fun y n h a e=>by obtain⟨b,fd',ps',ds',j,hj,F',hm,hk,hb,d⟩:=g.fn y n h a e;exact⟨b,fd',ps',ds',j,F',i.mono hj,hm,hk,hb,d⟩
   ini:=fun y n C h a e=>by obtain⟨b,fd',ps',ds',j,hj,M,F',hm,hb,d⟩:=g.ini y n C h a e;exact⟨b,fd',ps',ds',j,M,F',i.mono hj,hm,hb,d⟩
   dic:=g.dic
   mak:=fun y n C h a e=>by obtain⟨b,fd',ps',ds',j,hj,M,F',hm,hb,d⟩:=g.mak y n C h a e;exact⟨b,fd',ps',ds',j,M,F',i.mono hj,hm,hb,d⟩
   mth:=fun y n C h a e=>by obtain⟨b,fd',ps',ds',j,hj,c,M,F',hb,d⟩:=g.mth y n C h a e;exact⟨b,fd',ps',ds',j,c,M,F',i.mono hj,hb,d⟩
   blt:=g.blt,px:=PassesOwn.leaving,pass:=FJ,made:=FK,madeX:=CP,cx:=rfl}
def Jj{st:Stmt}{kV:Value}{an:Option Addr}{ps:List Str}{G:Gam}{sp:Sp}{a:CB}(j:K.lookup f=some ⟨oc,od,.func (aS x qual (cg st) (bJ st) (bc st) dV kV ah pm an ag ct),am⟩)(c:fR K ag qual=true)(d:pS N ps (bc st)=true)(b:vS (bc st) N a (bJ st)=true)
  (g:GOk P w K mg base (CXx P w) k G)(len:∀vs H Q E,sp vs H Q E->vs.length=ps.length)
  (h:∀vs H Q E,sp vs H Q E->wpB G K (fun _=>E) a {nx:=fun _ H'=>Q .non H',rt:=Q} (start N vs) H):j6 P w K mg base (CXx P w) (k+1) f (aS x qual (cg st) (bJ st) (bc st) dV kV ah pm an ag ct) ps sp:=by
 have S:=Aa d;refine fn_of j c S len fun A l s H vs Q E e i=>?_;exact⟨_,qQ (fun _ _ _ _ _ z=>Fv z) a _ (HY S g e) (fun _ _ _ _ _=>S.kind) b,h vs H Q E i⟩
def DU{st:Stmt}{b:gT}{ps:List Str}{G:Gam}{sp:Sp}{a:CB}(F:Fun K x qual st f b)(e:pS N ps (bc st)=true)(c:vS (bc st) N a (bJ st)=true)
  (g:GOk P w K mg base (CXx P w) k G)(len:∀vs H Q E,sp vs H Q E->vs.length=ps.length)
  (h:∀vs H Q E,sp vs H Q E->wpB G K (fun _=>E) a {nx:=fun _ H'=>Q .non H',rt:=Q} (start N vs) H):j6 P w K mg base (CXx P w) (k+1) f b ps sp:=by
 obtain⟨n,o,kV,m,q,an,j,l,p,rfl,i,d⟩:=F.ex;exact Jj i d e c g len h
end
end R
namespace R
open PySem PySem.Spec PyProof.Rows L2
abbrev gam(vals:List (Str×V))(c:List ((Str×Nat)×(Sp×List V)))(d:List ((Str×Nat)×(Addr×Sp×List V)):=[]) (b:List (Addr×List (Key×V)):=[]) (e f:List ((Str×Nat)×(Addr×Sp×List V)):=[]):Gam:=⟨fun x=>vals.lookup x,fun x n=>c.lookup (x,n),fun x n=>d.lookup (x,n),fun a=>b.lookup a,fun x n=>e.lookup (x,n),fun m n=>f.lookup (m,n)⟩
theorem Ai{c:Type}{b:c}:∀{l:List (Addr×c)},l.lookup a=some b->(a,b)∈l
 | [],h=>nomatch h
 | (k,v)::l,h=>by
  rw[bH]at h;cases q:(a==k)with
  |true=>rw[q]at h;cases h;rw[beq_iff_eq.mp q];exact au
  |false=>rw[q]at h;exact av _ (Ai h)
section
variable {mg:Str->Option Value}{CX:CXT}
def GOk.start{vals:List (Str×V)}(i:∀x v,(x,v)∈vals->∃u,mg x=some u/\RelV v u)(f:∀x∈jh,mg x=none){b:List (Addr×List (Key×V))}(g:∀a kvs,(a,kvs)∈b->DkIn P w K a kvs:=by intro a kvs h;exact nomatch h):GOk P w K mg base CX 0 (gam vals [] [] b):=
 ⟨fun x v e=>i x v (bI e),fun x n d c e=>(nomatch e),fun x n C d c e=>(nomatch e),fun a kvs e=>g a kvs (Ai (show jQ a b=some kvs from e)),fun x n C d c e=>(nomatch e),fun x n C d c e=>(nomatch e),f⟩
def GOk.add{vals:List (Str×V)}{t:List ((Str×Nat)×(Sp×List V))}{s:gT}{ps:List Str}{sp:Sp}{p:List V}{v z A:List ((Str×Nat)×(Addr×Sp×List V))}{u:List (Addr×List (Key×V))}(g:GOk P w K mg base CX k (gam vals t v u z A))
  (F:j6 P w K mg base CX (k+1) f s ps sp)(H:mg x=some (.ref f))(G:cN K (.ref f)=true)(D:Binds K s ps ds)(E:bZ p ds):GOk P w K mg base CX (k+1) (gam vals (((x,n),(sp,p))::t) v u z A):=by
 refine⟨g.val,fun y m b a e=>?_,fun y m C b a e=>?_,g.dic,fun y m C b a e=>?_,fun y m C b a e=>?_,g.blt⟩
 rotate_left
 rotate_left
 ·obtain⟨d,h,l,c,j,i,r⟩:=g.mak y m C b a e;exact⟨d,h,l,c,j,fQ i,r⟩
 ·obtain⟨d,h,l,c,j,i,r⟩:=g.mth y m C b a e;exact⟨d,h,l,c,j,fQ i,r⟩
 rotate_left
 ·obtain⟨d,h,l,c,j,i,r⟩:=g.ini y m C b a e;exact⟨d,h,l,c,j,fQ i,r⟩
 have o:jQ (y,m) (((x,n),(sp,p))::t)=some (b,a):=e;rw[bH]at o;cases q:((y,m)==(x,n))with
 |true=>rw[q]at o;have B:(y,m)=(x,n):=eq_of_beq q;cases B;cases o;exact⟨f,s,ps,ds,k+1,aC _,F,H,G,D,E⟩
 |false=>rw[q]at o;obtain⟨d,h,l,c,j,i,r⟩:=g.fn y m b a o;exact⟨d,h,l,c,j,fQ i,r⟩
end
section
variable {Q:VK}{i j:Int}
def JN:nT K .Add (.int i) (.int j) H Q↔Q (.int (i+j)) H:=by show _\/_↔_;simp[rI0,rCat]
def sub_ii:nT K .Sub (.int i) (.int j) H Q↔Q (.int (i-j)) H:=by show rI0 _ _ _ _ _↔_;simp[rI0]
def mul_ii:nT K .Mult (.int i) (.int j) H Q↔C1 i j/\Q (.int (i*j)) H:=by show _\/_↔_;simp[rI,rRep,Hr]
def mod_ii:nT K .Mod (.int i) (.int j) H Q↔0<j/\Q (.int (i%j)) H:=by show rI _ _ _ _ _ _↔_;simp[rI]
def div_ii:nT K .FloorDiv (.int i) (.int j) H Q↔JS i j/\Q (.int (i/j)) H:=by show rI _ _ _ _ _ _↔_;simp[rI]
def pow_ii:nT K .Pow (.int i) (.int j) H Q↔FO i j/\Q (.int (i^j.toNat)) H:=by show rI _ _ _ _ _ _↔_;simp[rI]
def shr_ii:nT K .RShift (.int i) (.int j) H Q↔0<=j/\Q (.int (i/2^j.toNat)) H:=by show rI _ _ _ _ _ _↔_;simp[rI]
def add_ss{y:Str}:nT K .Add (.str x) (.str y) H Q↔x.length+y.length<=sizeLine/\Q (.str (x++y)) H:=by show _\/_↔_;simp[rI0,rCat]
def Iv:iK K .Lt (.int i) (.int j) H Q↔Q (.bl (decide (i<j))) H:=by simp[iK,rI0]
def IB:iK K .LtE (.int i) (.int j) H Q↔Q (.bl (decide (i<=j))) H:=by simp[iK,rI0]
def Jb:iK K .Gt (.int i) (.int j) H Q↔Q (.bl (decide (j<i))) H:=by simp[iK,rI0]
def Dm{d:D}:Rep K H d (.int i)↔d=.int i:=by cases d<;>simp[Rep,eq_comm]
def wM:iK K .Eq (.int i) (.int j) H Q↔Q (.bl (decide (i=j))) H:=by
 simp only[iK,rEqD,Dm];constructor;·rintro⟨_,_,rfl,rfl,_,q⟩;exact q
 ·intro q;exact⟨_,_,rfl,rfl,aW _,q⟩
def ne_ii:iK K .NotEq (.int i) (.int j) H Q↔Q (.bl (!decide (i=j))) H:=by
 simp only[iK,rNeD,Dm];constructor;·rintro⟨_,_,rfl,rfl,_,q⟩;exact q
 ·intro q;exact⟨_,_,rfl,rfl,aW _,q⟩
def isnot_n{x:V}:iK K .IsNot x .non H Q↔Q (.bl (!decide (x=.non))) H:=by simp[iK]
def len_s:rBf K .len [.str z] H Q↔z.length<=sizeLine/\Q (.int z.length) H:=by simp[rBf]
def idx_s:rIx K (.str z) (.int i) H Q↔∃c,z.length<=sizeLine/\atI z.cps.toList i=some c/\Q (.str ⟨#[c]⟩) H:=by simp[rIx,rIxL,rIxT,rIxS]
def cut_s{lo hi:Option Int}:Hq K (.str z) lo hi H Q↔z.length<=sizeLine/\Q (.str (CF z lo hi)) H:=by simp[Hq,rSlL,rSlT,rSlS,rSlW]
end
structure rC(J:It)(n:Nat)(it:Nat->V->Hp->Prop)(Hc:Hp->Prop):Prop where
 go:∀i H,Hc H->i<n->J.go i H
 stop:∀i H,Hc H->n<=i->J.stop i H
 yld:∀i H x H',Hc H->i<n->J.yld i H x H'->it i x H'/\aR H H'
section
def fv:rC (Itl K a) xs.length (fun i x _=>xs[i]? =some x) (fun H=>SqL K H a xs) where
 go:=fun i H h hi=>⟨xs,xs[i],h,by simp[hi]⟩
 stop:=fun i H h hi=>⟨xs,h,hi⟩
 yld:=fun i H x b h hi y=>by obtain⟨e,y⟩:=y;subst e;exact⟨y xs h,aR.refl _⟩
def xX:rC (Itt K a) xs.length (fun i x _=>xs[i]? =some x) (fun H=>SqT K H a xs) where
 go:=fun i H h hi=>⟨xs,xs[i],h,by simp[hi]⟩
 stop:=fun i H h hi=>⟨xs,h,hi⟩
 yld:=fun i H x b h hi y=>by obtain⟨e,y⟩:=y;subst e;exact⟨y xs h,aR.refl _⟩
def dX{lo:Int}:rC (Itr lo n) n (fun i x _=>x=.int (lo+i)) (fun _=>True) where
 go:=fun i H _ hi=>hi
 stop:=fun i H _ hi=>hi
 yld:=fun i H x a _ hi y=>by obtain⟨e,y⟩:=y;subst e;exact⟨y,aR.refl _⟩
def seq_str:rC (Its z) z.length (fun i x _=>∃c,z.cps[i]? =some c/\x=.str ⟨#[c]⟩) (fun _=>True) where
 go:=fun i H _ hi=>hi
 stop:=fun i H _ hi=>hi
 yld:=fun i H x a _ hi y=>by obtain⟨e,y⟩:=y;subst e;exact⟨y,aR.refl _⟩
def aP{p:Addr}{o:HO}(h:H p=none):aR H (upd H p o):=fun b u e=>by rw[bD (da e h)];exact e
def eE{p:Addr}{o:HO}(h:upd H p o=H1)(a:H p=none):aR H H1/\H1 p=some o:=by subst h;exact⟨aP a,aK⟩
def G5{a:Hp->List V->Prop}:rC (IteG a) xs.length (fun i x H=>∃p v,x=.ref p/\H p=some (.tup [.int i,v])/\xs[i]? =some v) (fun H=>a H xs) where
 go:=fun i H h hi=>⟨xs,xs[i],h,by simp[hi]⟩
 stop:=fun i H h hi=>⟨xs,h,hi⟩
 yld:=fun i H x d h hi y=>by obtain⟨p,v,c,e,b,y⟩:=y;subst e b;exact⟨⟨p,v,rfl,aK,y xs h⟩,aP c⟩
def ForB(J:It)(g:TG)(tb:TS)(D:Ends)(σ:L2.St)(H:Hp):Prop:=∃W:Nat->Nat->L2.St->Hp->Prop,(∃m,W 0 m σ H)/\∀i m σ H,W i m σ H->
 (J.stop i H/\D.nx σ H)\/(J.go i H/\∃N:L2.St->Hp->Prop,(∀b H',N b H'->∃a,a<m/\W (i+1) a b H')/\∀x H',J.yld i H x H'->g x σ H' fun c H2=>tb {D with nx:=N,ct:=N,bk:=D.nx} c H2)
def xn(J:It)(g:TG)(tc:TT)(te:TE)(τ0:L2.St)(H1:Hp)(Q:VK):Prop:=∃W:Nat->Nat->L2.St->List V->Hp->Prop,(∃m,W 0 m τ0 [] H1)/\
 ∀i m h ac H2,W i m h ac H2->(J.stop i H2/\∀l,H2 l=none->Q (.ref l) (upd H2 l (.lst ac)))\/(J.go i H2/\∃N:L2.St->List V->Hp->Prop,(∀j e H',N j e H'->∃f,f<m/\W (i+1) f j e H')/\
  ∀x c,J.yld i H2 x c->g x h c fun a k=>tc a k fun b d=>if b=true then te a d fun v n=>ac.length<sizeLine/\N a (ac++[v]) n else N a ac d)
def DS{J:It}{c:Nat->V->Hp->Prop}{b:Hp->Prop}{g:TG}{tb:TS}{D:Ends}(S:rC J n c b)(a:Nat->L2.St->Hp->Prop)(h0:a 0 σ H)(f:∀i σ H,i<=n->a i σ H->b H)
  (hs:∀i x σ H H',i<n->a i σ H->c i x H'->aR H H'->g x σ H' fun l H2=>tb {D with nx:=a (i+1),ct:=a (i+1),bk:=D.nx} l H2) (d:∀σ H,a n σ H->D.nx σ H):
  ForB J g tb D σ H:=by
 refine⟨fun i m σ H=>m=n-i/\i<=n/\a i σ H,⟨n,by simp,aW _,h0⟩,?_⟩;rintro i m σ H ⟨rfl,hi,p⟩;have q:=f i σ H hi p;by_cases hlt:i<n;·refine .inr ⟨S.go i H q hlt,a (i+1),fun o H' h=>⟨n-(i+1),by lia,rfl,hlt,h⟩,fun x H' y=>?_⟩;obtain⟨j,k⟩:=S.yld i H x H' q hlt y;exact hs i x σ H H' hlt p j k
 ·have e:i=n:=by lia
  subst e;exact .inl ⟨S.stop i H q (aC _),d σ H p⟩
def fg{J:It}{B:Nat->V->Hp->Prop}{w:Hp->Prop}{g:TG}{D:TE}{Q:VK}(S:rC J n B w)(Z:n<=sizeLine)(N:∀H,aR H1 H->w H)
  (F:Nat->V->Hp->Prop)(G:∀i v H H',aR H H'->F i v H->F i v H')(T:L2.St->Prop)(M:T τ0)
  (step:∀i x p o (R:L2.St->V->Hp->Prop),i<n->T p->aR H1 o->B i x o->(∀j v h,T j->aR o h->F i v h->R j v h)->g x p o fun E I=>D E I (R E))
  (L:∀vs H2 l,vs.length=n->(∀(i:Nat) v,vs[i]? =some v->F i v H2)->aR H1 H2->H2 l=none->Q (.ref l) (upd H2 l (.lst vs))):
  xn J g GH D τ0 H1 Q:=by
 refine⟨fun i m p f H2=>m=n-i/\i<=n/\T p/\f.length=i/\aR H1 H2/\∀(k:Nat) v,f[k]? =some v->F k v H2,⟨n,by simp,aW _,M,rfl,aR.refl _,fun k v e=>by simp at e⟩,?_⟩;rintro i m p f H2 ⟨rfl,hi,W,A,s,z⟩;have q:=N H2 s;by_cases hlt:i<n
 ·refine .inr ⟨S.go i H2 q hlt,fun j t H'=>T j/\t.length=i+1/\aR H1 H'/\∀(k:Nat) v,t[k]? =some v->F k v H',fun j t H' ⟨a,b,c,d⟩=>⟨n-(i+1),by lia,rfl,hlt,a,b,c,d⟩,fun x o y=>?_⟩;obtain⟨Y,u⟩:=S.yld i H2 x o q hlt y;refine step i x p o (fun j v h=>f.length<sizeLine/\T j/\(f++[v]).length=i+1/\aR H1 h/\∀(k:Nat) r,(f++[v])[k]? =some r->F k r h) hlt W (s.trans u) Y fun j v h X C K=>⟨by lia,X,by simp[A],(s.trans u).trans C,fun k r e=>?_⟩;by_cases hk:k<f.length;·rw[eB hk]at e;exact G k r H2 h (u.trans C) (z k r e)
  ·rw[cT (by lia)]at e;have P:k-f.length=0:=by have :=(aM.mp e).1;simp at this;lia
   rw[P]at e;have O:k=i:=by lia
   simp at e;subst e;rw[O];exact K
 ·have e:i=n:=by lia
  subst e;exact .inl ⟨S.stop i H2 q (aC _),fun l U=>L f H2 l A z s U⟩
def eJ{c:TI}{g:TG}{a:TT}{b:TE}{mk:L2.St->L2.St}{Q:VK}(h:c σ H fun J H1=>xn J g a b (mk σ) H1 Q):tM c g a b mk σ H Q:=h
def gS{a:TI}{g:TG}{tb:TS}{D:Ends}(h:a σ H fun J H1=>ForB J g tb D σ H1):tFor a g tb D σ H:=h
def A4{R:It->Hp->Prop}(a:σ[i]? =some (some (.str z)))(h:R (Its z) H):yz K (pL i) σ H R:=⟨_,a,.inr (.inr ⟨z,rfl,h⟩)⟩
def dM{R:It->Hp->Prop}(b:σ[i]? =some (some (.ref a)))(hq:SqL K H a xs)(h:R (Itl K a) H):yz K (pL i) σ H R:=⟨_,b,.inl ⟨a,rfl,⟨xs,hq⟩,h⟩⟩
def sr{R:It->Hp->Prop}(b:σ[i]? =some (some (.ref a)))(hq:SqT K H a xs)(h:R (Itt K a) H):yz K (pL i) σ H R:=⟨_,b,.inr (.inl ⟨a,rfl,⟨xs,hq⟩,h⟩)⟩
def bool_list{vs:List V}{b:Nat->Bool}(c:vs.length=n)(h:∀(i:Nat) v,vs[i]? =some v->v=.bl (b i)):vs=((ay n).map b).map V.bl:=by
 apply cU;·simp[c]
 ·intro i a d;have :=h i vs[i] (by simp[a]);simp[this]
def vb{a:Type}(l:List a)(d:a)(f:a->Bool):((ay l.length).map fun i=>f (l.getD i d)).all id=l.all f:=by
 rw[List.all_map,eY];simp only[bK,aJ,Function.comp,id];constructor;·intro h c b;obtain⟨i,hi,rfl⟩:=cX.mp b;have :=h i hi;rw[af,ae hi]at this;exact this
 ·intro h i hi;have :=h _ (ck hi);rw[af,ae hi];exact this
def getD_some{a:Type}{l:List a}{d x:a}(h:l[i]? =some x):l.getD i d=x:=by rw[af,h];rfl
theorem wI:∀ns:List Int,gK (ns.map D.int)=0
 | []=>rfl
 |n::ns=>by rw[bh,gK,wI ns];rfl
end
def HasFn(K:ao)(x:Str)(st:Stmt):Prop:=∃(f:Addr)(oc:Value)(od an:Option Addr)(am:Array (Option Value))(kV ah pm ag ct:Value),eZ K bX x=some (some (.ref f))/\
 K.lookup f=some ⟨oc,od,.func (aS x x (cg st) (bJ st) (bc st) .none kV ah pm an ag ct),am⟩/\fR K ag x=true/\cN K (.ref f)=true
def Ja{st:Stmt}{an:Option Addr}{kV:Value}(a:eZ K bX x=some (some (.ref f)))
  (l:K.lookup f=some ⟨oc,od,.func (aS x x (cg st) (bJ st) (bc st) .none kV ah pm an ag ct),am⟩)(c:fR K ag x=true)(k:cN K (.ref f)=true):HasFn K x st:=
 ⟨f,oc,od,an,am,kV,ah,pm,ag,ct,a,l,c,k⟩
structure Def(K:ao)(mg:Str->Option Value)(x:Str)(st:Stmt):Prop where
 ex:∃f fd,Fun K x x st f fd/\mg x=some (.ref f)
def HasFn.def{st:Stmt}(X:K.In h)(b:h.Ns bX mg)(H:HasFn K x st):Def K mg x st:=by obtain⟨f,i,j,an,m,kV,g,n,d,e,a,l,c,k⟩:=H;exact⟨f,_,Cs l c k,fG X b a⟩
section
variable {mg:Str->Option Value}
def eN{vals:List (Str×V)}{b:List ((Str×Nat)×(Sp×List V))}{st:Stmt}{ps:List Str}{sp:Sp}{l:CB}{e i j:List ((Str×Nat)×(Addr×Sp×List V))}{a:List (Addr×List (Key×V))}(g:GOk P w K mg base (CXx P w) k (gam vals b e a i j))(d:Def K mg x st)
  (c:(pS N ps (bc st)&&vS (bc st) N l (bJ st))=true)
  (m:∀(kV ah pm:Value)(an:Option Addr)(ag ct:Value)(us:List Value),us.length=ps.length->pA (aS x x (cg st) (bJ st) (bc st) .none kV ah pm an ag ct) ⟨us,[]⟩=pure (ps.zip us))
  (len:∀vs H Q E,sp vs H Q E->vs.length=ps.length)
  (h:∀vs H Q E,sp vs H Q E->wpB (gam vals b e a i j) K (fun _=>E) l {nx:=fun _ H'=>Q .non H',rt:=Q} (L2.start N vs) H):GOk P w K mg base (CXx P w) (k+1) (gam vals (((x,ps.length),(sp,[]))::b) e a i j):=by
 rw[aL]at c;obtain⟨f,p,F,o⟩:=d.ex;exact g.add (n:=ps.length) (DU F c.1 c.2 g len h) o F.kp (F.binds m) .nil
end
end R
variable {G:R.Gam}
local macro_rules|`(tactic|ext)=>do let a:=("R.wpB R.wpS R.wpE R.wpT R.wpL R.wpO R.wpC R.wpG R.Gn R.wpI L2.vG L2.tRet L2.GI L2.tL L2.xF L2.GL L2.tIfS L2.GP L2.tOrV L2.GK L2.tNot L2.tAnd L2.tOr L2.zD R.BH L2.tIf L2.tCB L2.kq L2.qO L2.pL L2.tC L2.tOp L2.tN L2.tTup L2.tLst L2.zF L2.tBM L2.tBM0 L2.tSl L2.GJ L2.xE R.cv L2.me L2.gTup L2.Jd L2.gNil R.CGs.len L2.IW L2.IV L2.IX List.getElem?_cons_zero List.getElem?_cons_succ Option.some.injEq exists_eq_left' exists_eq_left L2.V.bl.injEq L2.V.int.injEq L2.V.str.injEq List.set_cons_zero List.set_cons_succ R.CL.len R.Ty.t R.JN R.sub_ii R.mul_ii R.mod_ii R.div_ii R.pow_ii R.shr_ii R.add_ss R.Iv R.IB R.Jb R.wM R.ne_ii R.isnot_n R.len_s R.idx_s R.cut_s List.append_nil R.lO List.map_cons List.map_nil List.nil_append List.cons_append".splitOn " ").toArray.map fun s=>Lean.mkIdent ("_root_."++s).toName;`(tactic|simp only[$[$a:term],*])
namespace Cp
open PySem R
abbrev B4:List Str:=["thing"]
abbrev uv:List Str:=["thing"]
abbrev u6:CB:=
  (.cons (.ret (.and (.bfn .isinstance (.cons (.var 0) (.cons (.ty .int) .nil))) (.not (.bfn .isinstance (.cons (.var 0) (.cons (.ty .bool) .nil))))))
  .nil)
abbrev EX:List Str:=["thing"]
abbrev wA:List Str:=["thing"]
abbrev wU:CB:=
  (.cons (.iff (.not (.bfn .isinstance (.cons (.var 0) (.cons (.ty .str) .nil))))
  (.cons (.ret (.con (.bool false)))
  .nil)
  .nil)
  (.cons (.iff (.not (.chain .LtE .LtE (.con (.int 1)) (.bfn .len (.cons (.var 0) .nil)) (.glo "LONGEST_NAME")))
  (.cons (.ret (.con (.bool false)))
  .nil)
  .nil)
  (.cons (.ret (.bfn .all (.cons (.comp ["sign"] [] (.name 0) (.seq (.var 0)) .no (.cmp .In (.var 0) (.glo "LETTERS"))) .nil)))
  .nil)))
abbrev yd:List Str:=["thing"]
abbrev pX:List Str:=["thing"]
abbrev qv:CB:=
  (.cons (.ret (.and (.call "is_whole" (.cons (.var 0) .nil)) (.cmp .In (.var 0) (.tup (.cons (.con (.int 0)) (.cons (.con (.int 1)) .nil))))))
  .nil)
abbrev uf:List Str:=["thing"]
abbrev mI:List Str:=["thing"]
abbrev mZ:CB:=
  (.cons (.iff (.or (.not (.bfn .isinstance (.cons (.var 0) (.cons (.ty .tuple) .nil)))) (.cmp .Gt (.bfn .len (.cons (.var 0) .nil)) (.glo "MOST_PLACES")))
  (.cons (.ret (.con (.bool false)))
  .nil)
  .nil)
  (.cons (.ret (.bfn .all (.cons (.comp ["part"] [] (.name 0) (.seq (.var 0)) .no (.call "is_reading" (.cons (.var 0) .nil))) .nil)))
  .nil))
end Cp
set_option maxHeartbeats 1000000
namespace Cp
open PySem PySem.Spec PyProof.Rows L2 R
abbrev jA:Option HO->String
 |some (.lst _)=>"list"
 |some (.frz _ (.lst _))=>"list"
 |some (.tup _)=>"tuple"
 |some (.dK _)=>"dict"
 |some (.dT _)=>"dict"
 |_=>"?"
abbrev tyName(H:Hp):V->String
 |.non=>"NoneType"
 |.bl _=>"bool"
 |.int _=>"int"
 |.str _=>"str"
 |.ref a=>jA (H a)
 |_=>"?"
def Known(H:Hp)(x:V):Prop:=tyName H x≠"?"
def Known.same{x:V}(h:Known H x)(s:aR H H'):Known H' x/\tyName H' x=tyName H x:=by
 cases x with
 |ref a=>
  have b:jA (H a)≠"?":=h;show jA (H' a)≠"?"/\jA (H' a)=jA (H a);cases e:H a with
  |none=>rw[e]at b;exact absurd rfl b
  |some o=>rw[s a o e];rw[e]at b;exact⟨b,rfl⟩
 |_=>exact⟨h,rfl⟩
def Known.ty{x:V}(h:Known H x):mr K H x (.type (tyName H x)):=by
 cases x with
 |non=>exact .non
 |bl b=>exact .bl b
 |int i=>exact .int i
 |str s=>exact .str s
 |ref a=>
  have c:jA (H a)≠"?":=h;show mr K H (.ref a) (.type (jA (H a)));cases e:H a with
  |none=>rw[e]at c;exact absurd rfl c
  |some o=>
   rw[e]at c;cases o with
   |lst xs=>exact .lst e
   |tup xs=>exact .tup e
   |dK kvs=>exact .dK e
   |dT kvs=>exact .dT e
   |frz ob u=>
    cases u with
    |lst xs=>exact .frz e
    |_=>exact absurd rfl c
   |_=>exact absurd rfl c
 |_=>exact absurd rfl h
def IZ{P:Option HO->Prop}(o:Option HO)(c:∀xs,P (some (.lst xs)))(d:∀b xs,P (some (.frz b (.lst xs))))(e:∀xs,P (some (.tup xs)))(f:∀kvs,P (some (.dK kvs)))(g:∀kvs,P (some (.dT kvs)))(a:jA o="?"->P o):P o:=by
 cases o with
 |none=>exact a rfl
 |some o=>
  cases o with
  |lst xs=>exact c xs
  |tup xs=>exact e xs
  |dK kvs=>exact f kvs
  |dT kvs=>exact g kvs
  |frz b u=>
   cases u with
   |lst xs=>exact d b xs
   |_=>exact a rfl
  |_=>exact a rfl
def Known.mem{x:V}(h:Known H x):tyName H x∈["NoneType","bool","int","str","list","tuple","dict"]:=by
 cases x with
 |ref a=>
  have b:jA (H a)≠"?":=h;show jA (H a)∈_;cases e:H a with
  |none=>rw[e]at b;exact absurd rfl b
  |some o=>
   rw[e]at b;cases o with
   |lst xs=>show "list"∈_;decide
   |tup xs=>show "tuple"∈_;decide
   |dK kvs=>show "dict"∈_;decide
   |dT kvs=>show "dict"∈_;decide
   |frz ob u=>
    cases u with
    |lst xs=>show "list"∈_;decide
    |_=>exact absurd rfl b
   |_=>exact absurd rfl b
 |_=>first
  |exact absurd rfl h
  |exact au
  |exact av _ au
  |exact av _ (av _ au)
  |exact av _ (av _ (av _ au))
abbrev i2(a b:String):Bool:=a==b||(a=="bool"&&b=="int")
def kit_ty(K:ao):∀(a:String)(t:Ty),a∈["NoneType","bool","int","str","list","tuple","dict"]->iX K (.type a) (.type t.t)=some (i2 a t.t):=by intro a t h;simp only[aI,dF,or_false]at h;rcases h with rfl|rfl|rfl|rfl|rfl|rfl|rfl<;>cases t<;>rfl
def isi{x:V}{Q:VK}(h:Known H x)(t:Ty)(q:Q (.bl (i2 (tyName H x) t.t)) H):rBf K .isinstance [x,.ty t.t] H Q:=
 .inl ⟨x,t.t,_,_,rfl,h.ty,kit_ty K _ t h.mem,q⟩
def Ck{i:Int}:Known H (.int i):=by show "int"≠"?";decide
def kn_str:Known H (.str x):=by show "str"≠"?";decide
def Ci(h:H a=some (.tup xs)):Known H (.ref a):=by show jA (H a)≠"?";rw[h];show "tuple"≠"?";decide
def Cj(h:H a=some (.lst xs)):Known H (.ref a):=by show jA (H a)≠"?";rw[h];show "list"≠"?";decide
def gZ{o:HO}(s:aR H H1)(h:H l=none):aR H (upd H1 l o):=fun b u e=>by rw[bD (da e h)];exact s b u e
abbrev isWhole:V->Bool
 |.int _=>true
 |_=>false
abbrev cM:V->Bool
 |.int i=>i==0||i==1
 |_=>false
def spB(f:V->Bool):Sp:=fun vs H Q _=>∃x,vs=[x]/\Known H x/\∀H',aR H H'->Q (.bl (f x)) H'
def sub_int{x:V}(h:Known H x):(i2 (tyName H x) "int"&& !i2 (tyName H x) "bool")=isWhole x:=by
 cases x with
 |ref a=>have b:jA (H a)≠"?":=h;exact IZ (P:=fun o=>(i2 (jA o) "int"&& !i2 (jA o) "bool")=false) (H a) (fun _=>rfl) (fun _ _=>rfl) (fun _=>rfl) (fun _=>rfl) (fun _=>rfl) fun e=>by rw[e];rfl
 |_=>rfl
def rO:Sat G K (spB isWhole) u6 uv:=by
 rintro c H Q E ⟨x,rfl,b,q⟩;unfold u6;change wpB G K _ _ _ [some x] H;ext;refine isi b .int ⟨_,rfl,?_⟩;have e:=sub_int b;cases h1:i2 (tyName H x) "int" with
 |false=>rw[h1,d5]at e;have a:=q H (aR.refl H);rw[<-e]at a;simpa[Ty.t,h1]using a
 |true=>rw[h1,eL]at e;have a:=q H (aR.refl H);rw[<-e]at a;simp only[Ty.t,h1,if_true];exact isi b .bool ⟨_,rfl,a⟩
def vD(d:G.fn "is_whole" 1=some (spB isWhole,[])):
  Sat G K (spB cM) qv pX:=by
 rintro j H Q E ⟨x,rfl,f,q⟩;unfold qv;change wpB G K _ _ _ [some x] H;ext;refine⟨_,_,d,x,rfl,f,fun c b=>⟨_,rfl,?_⟩⟩;cases x with
 |int i=>
  refine⟨by decide,fun p g=>.inr ⟨p,_,rfl,.inr (SqT.of aK),rfl,rfl,?_⟩⟩;have h:=q _ (b.trans (aP (o:=.tup [.int 0,.int 1]) g));have e:(if false=true then !inV (.int i) [.int 0,.int 1]else inV (.int i) [.int 0,.int 1])=cM (.int i):=by show((0:Int)==i||((1:Int)==i||false))=(i==0||i==1);rw[Bool.or_false,Bool.beq_comm,Bool.beq_comm (a:=(1:Int))]
  rw[e];exact h
 |_=>exact q c b
abbrev js(c:Nat):Bool:=decide (97<=c/\c<=122)
abbrev iL(z:Str):Bool:=decide (1<=z.length/\z.length<=8)&&z.cps.toList.all js
abbrev isName:V->Bool
 |.str z=>iL z
 |_=>false
abbrev LETTERS:Str:="abcdefghijklmnopqrstuvwxyz"
def An(c:Nat):decide (c∈LETTERS.cps.toList)=js c:=by unfold js;rw[show LETTERS.cps.toList=List.range' 97 26 by decide+kernel,decide_eq_decide,List.mem_range'_1];exact⟨fun h=>⟨h.1,Nat.le_of_lt_succ h.2⟩,fun h=>⟨h.1,Nat.lt_succ_of_le h.2⟩⟩
def Cr{c:Nat}{Q:VK}(q:Q (.bl (js c)) H):iK K .In (.str ⟨#[c]⟩) (.str LETTERS) H Q:=by refine .inl ⟨_,_,rfl,rfl,?_⟩;rw[StrLaws.found_one,An];exact q
def Cc:(20000:Nat)<=sizeLine:=by decide
def spN:Sp:=fun vs H Q _=>∃x,vs=[x]/\Known H x/\(∀z,x=.str z->z.length<=20000)/\∀H',aR H H'->Q (.bl (isName x)) H'
def sub_str{x:V}(h:Known H x):i2 (tyName H x) "str"=(match x with |.str _=>true|_=>false):=by
 cases x with
 |ref a=>exact IZ (P:=fun o=>i2 (jA o) "str"=false) (H a) (fun _=>rfl) (fun _ _=>rfl) (fun _=>rfl) (fun _=>rfl) (fun _=>rfl) fun e=>by rw[e];rfl
 |_=>rfl
def By(v1:G.val "LETTERS"=some (.str LETTERS))(A:G.val "LONGEST_NAME"=some (.int 8)):
  Sat G K spN wU wA:=by
 rintro B H Q E ⟨x,rfl,m,g,q⟩;unfold wU;change wpB G K _ _ _ [some x] H;ext;refine isi m .str ⟨_,rfl,?_⟩;rw[show Ty.t .str="str" from rfl,sub_str m];cases x with
 |str z=>
  have g:=g z rfl;have n:z.length<=sizeLine:=bf g Cc;have all:∀R:VK,(∀b,aR H b->R (.bl (z.cps.toList.all js)) b)->tM (yz K (pL 0)) (me 0) GH (tOp (iK K .In) (pL 0) fun F H Q=>∃v,G.val "LETTERS"=some v/\Q v H) (lO ["sign"] []) [some (.str z)] H fun x j=>rBf K .all [x] j R:=by
   intro R r;refine eJ (A4 rfl (fg seq_str n (fun _ _=>trivial) (fun i v _=>v=.bl (js (z.cps.toList.getD i 0))) (fun _ _ _ _ _ h=>h) (fun o=>∃t,o=[t]) ⟨none,rfl⟩ ?_ ?_))
   ·rintro i x o C R hi ⟨t,rfl⟩ D ⟨c,s,rfl⟩ k;refine⟨_,rfl,_,v1,Cr (k _ _ _ ⟨_,rfl⟩ (aR.refl _) ?_)⟩;have :z.cps.toList[i]? =some c:=by simpa using s
    rw[af,this];rfl
   ·intro B j l w p y u;have e:=bool_list w p;subst e;refine⟨l,_,rfl,SqL.of aK,?_⟩;have f:((ay z.length).map fun i=>js (z.cps.toList.getD i 0)).all id=z.cps.toList.all js:=by have :=vb z.cps.toList 0 js;rw[show z.cps.toList.length=z.length by simp[A7]]at this;exact this
    rw[f];exact r _ (y.trans (aP u))
  simp only[fm,aN,if_false,A,j9,exists_eq_left',exists_eq_left,V.bl.injEq,V.int.injEq,IB,len_s,n,true_and];have a:∀b,aR H b->Q (.bl (iL z)) b:=q;unfold iL at a;by_cases h1:1<=z.length
  ·by_cases h2:z.length<=8;·have d:decide ((1:Int)<=z.length)=true:=decide_eq_true (by lia);have f:decide ((z.length:Int)<=8)=true:=decide_eq_true (by lia);rw[decide_eq_true (And.intro h1 h2),eL]at a;simp only[d,f,if_true,fm,aN,if_false];exact all Q a
   ·have d:decide ((1:Int)<=z.length)=true:=decide_eq_true (by lia);have f:decide ((z.length:Int)<=8)=false:=decide_eq_false (by lia);rw[decide_eq_false (fun h=>h2 h.2),d5]at a;simp only[d,f,if_true,Bool.not_false];exact a H (aR.refl H)
  ·have d:decide ((1:Int)<=z.length)=false:=decide_eq_false (by lia);rw[decide_eq_false (fun h=>h1 h.1),d5]at a;simp only[d,aN,if_false,Bool.not_false,if_true];exact a H (aR.refl H)
 |_=>exact q H (aR.refl H)
abbrev eA:Option HO->Option (List V)
 |some (.tup xs)=>some xs
 |_=>none
def lV{o:Option HO}(h:eA o=some xs):o=some (.tup xs):=by
 cases o with
 |none=>cases h
 |some o=>cases o<;>first | (cases h;rfl) |cases h
def wb(o:Option HO):i2 (jA o) "tuple"=(eA o).isSome:=by
 cases o with
 |none=>rfl
 |some o=>
  cases o with
  |frz ob u=>cases u<;>rfl
  |_=>rfl
abbrev d4(H:Hp):V->Bool
 |.ref a=>match eA (H a)with
  |some xs=>decide (xs.length<=60)&&xs.all cM
  |none=>false
 |_=>false
def spR:Sp:=fun vs H Q _=>∃x,vs=[x]/\Known H x/\(∀a xs,x=.ref a->H a=some (.tup xs)->xs.length<=20000/\∀y∈xs,Known H y)/\∀H',aR H H'->Q (.bl (d4 H x)) H'
def sA(m:G.fn "is_reading" 1=some (spB cM,[]))(v1:G.val "MOST_PLACES"=some (.int 60)):
  Sat G K spR mZ mI:=by
 rintro I H Q E ⟨x,rfl,o,w,q⟩;unfold mZ;change wpB G K _ _ _ [some x] H;ext;refine isi o .tuple ⟨_,rfl,?_⟩;rw[show Ty.t .tuple="tuple" from rfl];cases x with
 |ref a=>
  show if(!i2 (jA (H a)) "tuple")=true then _ else _
  rw[wb];have d:∀b,aR H b->Q (.bl (match eA (H a)with |some xs=>decide (xs.length<=60)&&xs.all cM|none=>false)) b:=q;cases e0:eA (H a)with
  |none=>rw[e0]at d;exact d H (aR.refl H)
  |some xs=>
    rw[e0]at d;have e:=lV e0;have c:∀b,aR H b->Q (.bl (decide (xs.length<=60)&&xs.all cM)) b:=d;obtain⟨p,z⟩:=w a xs rfl e;have r:xs.length<=sizeLine:=bf p Cc;simp only[iG,fm,aN,if_false];refine Or.inl ⟨a,xs,rfl,.inr (SqT.of e),_,v1,?_⟩;rw[Jb];refine⟨_,rfl,?_⟩;by_cases hle:xs.length<=60
    ·rw[decide_eq_true hle,eL]at c;have f:decide ((60:Int)<xs.length)=false:=decide_eq_false (by lia);rw[f];simp only[aN,if_false];refine eJ (sr rfl (SqT.of e) (fg xX r (fun J B=>B.tup (SqT.of e)) (fun i v _=>v=.bl (cM (xs.getD i .non))) (fun _ _ _ _ _ h=>h) (fun j=>∃t,j=[t]) ⟨none,rfl⟩ ?_ ?_));·rintro i y j M R hi ⟨t,rfl⟩ D g k;have A:y∈xs:=aG g;exact⟨_,_,m,y,rfl,y,rfl,((z y A).same D).1,fun N F=>k _ _ _ ⟨_,rfl⟩ F (by rw[getD_some g])⟩
     ·intro I L l u n C s;have e:=bool_list u n;subst e;refine⟨l,_,rfl,SqL.of aK,?_⟩;rw[vb xs .non cM];exact c _ (C.trans (aP s))
    ·rw[decide_eq_false hle,d5]at c;have f:decide ((60:Int)<xs.length)=true:=decide_eq_true (by lia);rw[f];simpa using c H (aR.refl H)
 |_=>exact q H (aR.refl H)
end Cp
namespace Cp
open PySem R
abbrev EY:List Str:=["thing"]
abbrev wB:List Str:=["thing"]
abbrev wV:CB:=
  (.cons (.iff (.or (.not (.bfn .isinstance (.cons (.var 0) (.cons (.ty .tuple) .nil)))) (.cmp .NotEq (.bfn .len (.cons (.var 0) .nil)) (.con (.int 2))))
  (.cons (.ret (.con (.bool false)))
  .nil)
  .nil)
  (.cons (.ret (.and (.call "is_name" (.cons (.idx (.var 0) (.con (.int 0))) .nil)) (.call "are_readings" (.cons (.idx (.var 0) (.con (.int 1))) .nil))))
  .nil))
abbrev B5:List Str:=["thing"]
abbrev uw:List Str:=["thing","names","counts"]
abbrev u7:CB:=
  (.cons (.iff (.or (.not (.bfn .isinstance (.cons (.var 0) (.cons (.ty .list) .nil)))) (.cmp .Gt (.bfn .len (.cons (.var 0) .nil)) (.glo "MOST_COPIES")))
  (.cons (.ret (.con (.bool false)))
  .nil)
  .nil)
  (.cons (.iff (.not (.bfn .all (.cons (.comp ["part"] [] (.name 0) (.seq (.var 0)) .no (.call "is_copy" (.cons (.var 0) .nil))) .nil)))
  (.cons (.ret (.con (.bool false)))
  .nil)
  .nil)
  (.cons (.asgc 1 (.comp ["name","readings"] [] (.tup (.cons (.name 0) (.cons (.name 1) .nil))) (.seq (.var 0)) .no (.var 0)))
  (.cons (.asgc 2 (.comp ["name","readings"] [] (.tup (.cons (.name 0) (.cons (.name 1) .nil))) (.seq (.var 0)) .no (.bfn .len (.cons (.var 1) .nil))))
  (.cons (.ret (.and (.cmp .Eq (.bfn .len (.cons (.bfn .set (.cons (.var 1) .nil)) .nil)) (.bfn .len (.cons (.var 1) .nil))) (.cmp .LtE (.bfn .len (.cons (.bfn .set (.cons (.var 2) .nil)) .nil)) (.con (.int 1)))))
  .nil)))))
abbrev yb:List Str:=["table"]
abbrev pV:List Str:=["table"]
abbrev qm:CB:=
  (.cons (.iff (.not (.call "is_table" (.cons (.var 0) .nil)))
  (.cons (.rais "NoTable" (.cons (.con (.str "this is no table")) .nil))
  .nil)
  .nil)
  .nil)
abbrev vL:List Str:=["table"]
abbrev n6:List Str:=["table"]
abbrev oo:CB:=
  (.cons (.expr (.call "need_table" (.cons (.var 0) .nil)))
  (.cons (.iff (.cmp .Eq (.bfn .len (.cons (.var 0) .nil)) (.con (.int 0)))
  (.cons (.ret (.con (.int 0)))
  .nil)
  .nil)
  (.cons (.ret (.bfn .len (.cons (.idx (.idx (.var 0) (.con (.int 0))) (.con (.int 1))) .nil)))
  .nil)))
end Cp
namespace Cp
open PySem PySem.Spec PyProof.Rows L2 R
def Kn1(H:Hp)(x:V):Prop:=Known H x/\∀z,x=.str z->z.length<=20000
def Kn2(H:Hp)(x:V):Prop:=Kn1 H x/\∀a xs,x=.ref a->H a=some (.tup xs)->xs.length<=20000/\∀y∈xs,Kn1 H y
def Kn3(H:Hp)(x:V):Prop:=Kn1 H x/\∀a xs,x=.ref a->H a=some (.tup xs)->xs.length<=20000/\∀y∈xs,Kn2 H y
abbrev dZ:Option HO->Option (List V)
 |some (.lst xs)=>some xs
 |some (.frz _ (.lst xs))=>some xs
 |_=>none
def Kn4(H:Hp)(x:V):Prop:=Kn1 H x/\∀a xs,x=.ref a->dZ (H a)=some xs->xs.length<=20000/\∀y∈xs,Kn3 H y
def xj{o:HO}(s:aR H H')(k:H a≠none)(h:H' a=some o):H a=some o:=by
 cases e:H a with
 |none=>exact absurd e k
 |some u=>rw[s a u e]at h;exact h
def Known.some(k:Known H (.ref a)):H a≠none:=fun e=>by have b:jA (H a)≠"?":=k;rw[e]at b;exact b rfl
theorem Kn1.same{x:V}(h:Kn1 H x)(s:aR H H'):Kn1 H' x:=⟨(h.1.same s).1,h.2⟩
theorem Kn2.same{x:V}(h:Kn2 H x)(s:aR H H'):Kn2 H' x:=⟨h.1.same s,fun a d e b=>by subst e;obtain⟨l,k⟩:=h.2 a d rfl (xj s h.1.1.some b);exact⟨l,fun y c=>(k y c).same s⟩⟩
theorem Kn3.same{x:V}(h:Kn3 H x)(s:aR H H'):Kn3 H' x:=⟨h.1.same s,fun a d e b=>by subst e;obtain⟨l,k⟩:=h.2 a d rfl (xj s h.1.1.some b);exact⟨l,fun y c=>(k y c).same s⟩⟩
def xm{x:V}(h:Known H x)(s:aR H H'):d4 H' x=d4 H x:=by
 cases x with
 |ref a=>
  show(match eA (H' a)with |some xs=>_|none=>_)=(match eA (H a)with |some xs=>_|none=>_);cases e:H a with
  |none=>exact absurd e h.some
  |some o=>rw[s a o e]
 |_=>rfl
abbrev dJ(H:Hp):V->Bool
 |.ref a=>match eA (H a)with
  |some [n,r]=>isName n&&d4 H r
  |_=>false
 |_=>false
def Fw{x:V}(h:Kn3 H x)(s:aR H H'):dJ H' x=dJ H x:=by
 cases x with
 |ref a=>
  show(match eA (H' a)with |some [n,r]=>_|_=>_)=(match eA (H a)with |some [n,r]=>_|_=>_);cases e:H a with
  |none=>exact absurd e h.1.1.some
  |some o=>
   rw[s a o e];cases o with
   |tup xs=>
    match xs with
    | []=>rfl
    | [_]=>rfl
    | [n,r]=>have k:=(h.2 a _ rfl e).2 r (by simp);show(isName n&&d4 H' r)=(isName n&&d4 H r);rw[xm k.1.1 s]
    |_::_::_::_=>rfl
   |_=>rfl
 |_=>rfl
def spC:Sp:=fun vs H Q _=>∃x,vs=[x]/\Kn3 H x/\∀H',aR H H'->Q (.bl (dJ H x)) H'
def Bz(u:G.fn "is_name" 1=some (spN,[]))(v:G.fn "are_readings" 1=some (spR,[])):
  Sat G K spC wV wB:=by
 rintro C H Q E ⟨x,rfl,i,q⟩;unfold wV;change wpB G K _ _ _ [some x] H;ext;refine isi i.1.1 .tuple ⟨_,rfl,?_⟩;rw[show Ty.t .tuple="tuple" from rfl];cases x with
 |ref a=>
  show if(!i2 (jA (H a)) "tuple")=true then _ else _
  rw[wb];have c:∀f,aR H f->Q (.bl (match eA (H a)with |some [n,r]=>isName n&&d4 H r|_=>false)) f:=q;cases e0:eA (H a)with
  |none=>rw[e0]at c;exact c H (aR.refl H)
  |some xs=>
   have e:=lV e0;rw[e0]at c;obtain⟨z,d⟩:=i.2 a xs rfl e;simp only[iG,fm,aN,if_false];refine Or.inl ⟨a,xs,rfl,.inr (SqT.of e),?_⟩;show iK K .NotEq (.int (xs.length:Int)) (.int 2) H _;rw[ne_ii];refine⟨_,rfl,?_⟩
   match xs,z,d,e,c with
   | [],_,_,_,c=>exact c H (aR.refl H)
   | [_],_,_,_,c=>exact c H (aR.refl H)
   |_::_::_::r,_,_,_,c=>rw[if_pos (by simp;lia)];exact c H (aR.refl H)
   | [n,r],_,d,e,c=>
    rw[if_neg (by simp)];have j:=d n (by simp);have m:=d r (by simp);refine⟨_,_,u,.inr (.inl ⟨a,[n,r],0,n,rfl,rfl,SqT.of e,rfl,n,rfl,j.1.1,j.1.2,fun p g=>⟨_,rfl,?_⟩⟩)⟩;have h:∀f,aR H f->Q (.bl (isName n&&d4 H r)) f:=c;cases en:isName n with
    |false=>rw[en,d5]at h;rw[if_neg aA];exact h p g
    |true=>
     rw[en,eL]at h;rw[if_pos rfl];have o:=m.same g;refine⟨_,_,v,.inr (.inl ⟨a,[n,r],1,r,rfl,rfl,g.tup (SqT.of e),rfl,r,rfl,o.1.1,fun b B t w=>?_,fun s A=>?_⟩)⟩;·obtain⟨l,k⟩:=o.2 b B t w;exact⟨l,fun y d=>(k y d).1⟩
     ·rw[xm m.1.1 g];exact h s (g.trans A)
 |_=>exact q H (aR.refl H)
def Ak{vs:List V}{f:V->V}(c:vs.length=xs.length)(h:∀(i:Nat) v,vs[i]? =some v->v=f (xs.getD i .non)):vs=xs.map f:=by
 apply cU;·simp[c]
 ·intro i a d;have b:i<xs.length:=by lia
  have :=h i vs[i] (by simp[a]);rw[this,cS,af,ae b];rfl
theorem wx:∀(l:List Str),(l.map (fN:Str->Key)).Nodup↔l.Nodup
 | []=>by simp
 |x::l=>by
  rw[bh,bw,bw,wx l];have e:fN x∈l.map (fN:Str->Key)↔x∈l:=by
   constructor
   ·intro h;obtain⟨y,a,e⟩:=aF.mp h;injection e with e
    rw[<-e];exact a
   ·exact fun h=>aF.mpr ⟨x,h,rfl⟩
  rw[e]
def lF(h:dZ (H a)=some xs):SqL K H a xs:=by
 cases e:H a with
 |none=>rw[e]at h;cases h
 |some o=>
  rw[e]at h;cases o with
  |lst ys=>cases h;exact .inl (.inl e)
  |frz ob u=>cases u<;>first | (cases h;exact .inl (.inr ⟨ob,e⟩)) |cases h
  |_=>cases h
def GQ(o:Option HO):i2 (jA o) "list"=(dZ o).isSome:=by
 cases o with
 |none=>rfl
 |some o=>
  cases o with
  |frz ob u=>cases u<;>rfl
  |_=>rfl
abbrev aY(H:Hp):V->Str
 |.ref a=>match eA (H a)with
  |some (.str z::_)=>z
  |_=>""
 |_=>""
abbrev cz(H:Hp):V->Nat
 |.ref a=>match eA (H a)with
  |some [_,.ref b]=>(eA (H b)).elim 0 gW
  |_=>0
 |_=>0
def iy{x:V}(h:dJ H x=true):∃a z b ys,x=.ref a/\H a=some (.tup [.str z,.ref b])/\H b=some (.tup ys)/\iL z=true/\ys.length<=60/\(∀y∈ys,cM y=true)/\aY H x=z/\cz H x=ys.length:=by
 cases x with
 |ref a=>
  have d:(match eA (H a)with |some [n,r]=>isName n&&d4 H r|_=>false)=true:=h;split at d
  ·rename_i n r e;rw[aL]at d;obtain⟨f,g⟩:=d;cases n with
   |str z=>
    cases r with
    |ref b=>
     have c:(match eA (H b)with |some xs=>decide (xs.length<=60)&&xs.all cM|none=>false)=true:=g;split at c
     ·rename_i ys eb;rw[aL,decide_eq_true_eq,bK]at c;refine⟨a,z,b,ys,rfl,lV e,lV eb,f,c.1,c.2,?_,?_⟩;·show(match eA (H a)with |some (.str z::_)=>z|_=>"")=z;rw[e]
      ·show(match eA (H a)with |some [_,.ref b]=>(eA (H b)).elim 0 gW|_=>0)=ys.length;rw[e];show(eA (H b)).elim 0 gW=ys.length;rw[eb];rfl
     ·cases c
    |_=>cases g
   |_=>cases f
  ·cases d
 |_=>cases h
abbrev dP(H:Hp):V->Bool
 |.ref a=>match dZ (H a)with
  |some xs=>decide (xs.length<=40)&&(xs.all (dJ H)&&(decide ((xs.map (aY H)).Nodup)&&decide (∀y∈xs,∀z∈xs,cz H y=cz H z)))
  |none=>false
 |_=>false
def spT:Sp:=fun vs H Q _=>∃x,vs=[x]/\Kn4 H x/\∀H',aR H H'->Q (.bl (dP H x)) H'
def zw(g1:G.fn "is_copy" 1=some (spC,[]))(v1:G.val "MOST_COPIES"=some (.int 40)):
  Sat G K spT u7 uw:=by
 rintro vs H Q c0 ⟨a0,rfl,U,q⟩;unfold u7;change wpB G K _ _ _ [some a0,none,none] H;ext;refine isi U.1.1 .list ⟨_,rfl,?_⟩;rw[show Ty.t .list="list" from rfl];cases a0 with
 |ref a=>
  show if(!i2 (jA (H a)) "list")=true then _ else _
  rw[GQ];have x:∀f,aR H f->Q (.bl (match dZ (H a)with |some xs=>decide (xs.length<=40)&&(xs.all (dJ H)&&(decide ((xs.map (aY H)).Nodup)&&decide (∀y∈xs,∀z∈xs,cz H y=cz H z))) |none=>false)) f:=q;cases e0:dZ (H a)with
  |none=>rw[e0]at x;exact x H (aR.refl H)
  |some xs=>
   rw[e0]at x;obtain⟨hl,hy⟩:=U.2 a xs rfl e0;have J:xs.length<=sizeLine:=bf hl Cc;simp only[iG,fm,aN,if_false];refine Or.inl ⟨a,xs,rfl,.inl (lF e0),_,v1,?_⟩;rw[Jb];refine⟨_,rfl,?_⟩;by_cases hle:xs.length<=40
   ·rw[decide_eq_false (by lia:¬(40:Int)<xs.length),if_neg aA];have m:∀f,aR H f->Q (.bl (xs.all (dJ H)&&(decide ((xs.map (aY H)).Nodup)&&decide (∀y∈xs,∀z∈xs,cz H y=cz H z)))) f:=fun f s'=>by have z:Q (.bl (decide (xs.length<=40)&&(xs.all (dJ H)&&(decide ((xs.map (aY H)).Nodup)&&decide (∀y∈xs,∀z∈xs,cz H y=cz H z))))) f:=x f s';rw[decide_eq_true hle,eL]at z;exact z
    have sq:∀{r:Hp},aR H r->SqL K r a xs:=fun n=>n.seq (lF e0);refine eJ (dM rfl (lF e0) (fg fv J (fun r n=>sq n) (fun i v _=>v=.bl (dJ H (xs.getD i .non))) (fun _ _ _ _ _ h=>h) (fun g=>∃t,g=[t]) ⟨none,rfl⟩ ?_ ?_));·rintro i y g S R hi ⟨t,rfl⟩ e d k;have ky:=hy y (aG d);exact⟨_,_,g1,y,rfl,y,rfl,ky.same e,fun s A=>k _ _ _ ⟨_,rfl⟩ A (by rw[getD_some d,Fw ky e])⟩
    intro vs P l b5 hF s2 b0;have a1:=bool_list b5 hF;subst a1;refine⟨l,_,rfl,SqL.of aK,_,rfl,?_⟩;rw[vb xs .non (dJ H)];have e:aR H (upd P l (.lst (((ay xs.length).map fun i=>dJ H (xs.getD i .non)).map V.bl))):=s2.trans (aP b0);generalize upd P l (.lst (((ay xs.length).map fun i=>dJ H (xs.getD i .non)).map V.bl))=S at e;cases ea:xs.all (dJ H)with
    |false=>rw[ea,d5]at m;rw[if_pos (by rfl)];exact m S e
    |true=>
     rw[ea,eL]at m;rw[if_neg (by simp)];rw[bK]at ea;have sh:∀{i:Nat}{y:V},xs[i]? =some y->∃a z b o,y=.ref a/\H a=some (.tup [.str z,.ref b])/\H b=some (.tup o)/\aY H y=z/\cz H y=o.length:=fun d=>by obtain⟨a,z,b,o,j,C,D,_,_,_,h7,h8⟩:=iy (ea _ (aG d));exact⟨a,z,b,o,j,C,D,h7,h8⟩
     refine eJ (dM rfl (sq e) (fg fv J (fun r n=>sq (e.trans n)) (fun i v _=>v=.str (aY H (xs.getD i .non))) (fun _ _ _ _ _ h=>h) (fun g=>∃t u,g=[t,u]) ⟨none,none,rfl⟩ ?_ ?_));·rintro i y g s R hi ⟨t,u,rfl⟩ A d k;obtain⟨b,z,c,o,rfl,j,C,D,T⟩:=sh d;refine⟨b,_,rfl,(e.trans A).tup (SqT.of j),rfl,_,_,rfl,_,_,rfl,rfl,_,rfl,k _ _ _ ⟨_,_,rfl⟩ (aR.refl _) ?_⟩;rw[getD_some d,D]
     intro b8 s l1 b6 a4 A b1;have e1:b8=xs.map fun y=>V.str (aY H y):=Ak b6 a4;subst e1;have p:aR H (upd s l1 (.lst (xs.map fun y=>V.str (aY H y)))):=e.trans (A.trans (aP b1));have N:SqL K (upd s l1 (.lst (xs.map fun y=>V.str (aY H y)))) l1 (xs.map fun y=>V.str (aY H y)):=SqL.of aK;generalize upd s l1 (.lst (xs.map fun y=>V.str (aY H y)))=H5 at p N;refine eJ (dM rfl (sq p) (fg fv J (fun r n=>sq (p.trans n)) (fun i v _=>v=.int (cz H (xs.getD i .non))) (fun _ _ _ _ _ h=>h) (fun g=>∃t u,g=[t,u]) ⟨none,none,rfl⟩ ?_ ?_));·rintro i y g B R hi ⟨t,u,rfl⟩ E d k;obtain⟨b,z,c,o,rfl,j,C,D,T⟩:=sh d;refine⟨b,_,rfl,(p.trans E).tup (SqT.of j),rfl,_,_,rfl,_,_,rfl,rfl,_,rfl,Or.inl ⟨c,o,rfl,.inr ((p.trans E).tup (SqT.of C)),k _ _ _ ⟨_,_,rfl⟩ (aR.refl _) ?_⟩⟩;rw[getD_some d,T]
     intro b9 B l2 b7 a5 E b2;have e2:b9=xs.map fun y=>V.int (cz H y):=Ak b7 a5;subst e2;have F:aR H5 (upd B l2 (.lst (xs.map fun y=>V.int (cz H y)))):=E.trans (aP b2);have X:SqL K (upd B l2 (.lst (xs.map fun y=>V.int (cz H y)))) l2 (xs.map fun y=>V.int (cz H y)):=SqL.of aK;generalize upd B l2 (.lst (xs.map fun y=>V.int (cz H y)))=H7 at F X;have a2:(xs.map fun y=>(fN (aY H y):Key)).map kV=xs.map fun y=>V.str (aY H y):=by rw[bq];rfl
     have a3:(xs.map fun y=>(fB (cz H y:Int):Key)).map kV=xs.map fun y=>V.int (cz H y):=by rw[bq];rfl
     refine⟨l1,xs.map fun y=>(fN (aY H y):Key),rfl,by rw[a2];exact F.seq N,by rw[ak];lia,fun w a6=>?_⟩;refine .inr (.inr ⟨w,_,rfl,aK,?_⟩);have I:aR H7 (upd H7 w (_root_.Q.EK w (_root_.Q.met (xs.map fun y=>(fN (aY H y):Key))).length)):=aP a6;generalize upd H7 w (_root_.Q.EK w (_root_.Q.met (xs.map fun y=>(fN (aY H y):Key))).length)=H8 at I;refine Or.inl ⟨l1,_,rfl,.inl (I.seq (F.seq N)),?_⟩;show iK K .Eq (.int ((_root_.Q.met (xs.map fun y=>(fN (aY H y):Key))).length:Int)) (.int ((xs.map fun y=>V.str (aY H y)).length:Int)) H8 _;rw[wM];refine⟨_,rfl,?_⟩;have b3:decide (((_root_.Q.met (xs.map fun y=>(fN (aY H y):Key))).length:Int)=((xs.map fun y=>V.str (aY H y)).length:Int))=decide ((xs.map (aY H)).Nodup):=by
      rw[decide_eq_decide,ak];have W:(xs.map fun y=>(fN (aY H y):Key)).Nodup↔(xs.map (aY H)).Nodup:=by
       have :(xs.map fun y=>(fN (aY H y):Key))=(xs.map (aY H)).map fN:=by rw[bq];rfl
       rw[this];exact wx _
      constructor;·intro z;refine W.mp (_root_.Q.ym ?_);rw[ak];exact Int.ofNat.inj z
      ·intro z;rw[_root_.Q.Fd (W.mpr z),ak]
     rw[b3];have Z:aR H H8:=p.trans (F.trans I);cases en:decide ((xs.map (aY H)).Nodup)with
     |false=>rw[en,d5]at m;rw[if_neg aA];exact m H8 Z
     |true=>
      rw[en,eL]at m;rw[if_pos rfl];refine⟨l2,xs.map fun y=>(fB (cz H y:Int):Key),rfl,by rw[a3];exact I.seq X,by rw[ak];lia,fun c2 a7=>?_⟩;refine .inr (.inr ⟨c2,_,rfl,aK,?_⟩);show iK K .LtE (.int ((_root_.Q.met (xs.map fun y=>(fB (cz H y:Int):Key))).length:Int)) (.int 1) _ Q;rw[IB];have b4:decide (((_root_.Q.met (xs.map fun y=>(fB (cz H y:Int):Key))).length:Int)<=1)=decide (∀y∈xs,∀z∈xs,cz H y=cz H z):=by
       rw[decide_eq_decide];have j:((_root_.Q.met (xs.map fun y=>(fB (cz H y:Int):Key))).length:Int)<=1↔(_root_.Q.met (xs.map fun y=>(fB (cz H y:Int):Key))).length<=1:=by lia
       rw[j,_root_.Q.met_one];constructor;·intro z y L O M;have :=z _ (aF.mpr ⟨y,L,rfl⟩) _ (aF.mpr ⟨O,M,rfl⟩);injection this with this;lia
       ·intro z k1 a8 k2 a9;obtain⟨y,L,rfl⟩:=aF.mp a8;obtain⟨O,M,rfl⟩:=aF.mp a9;rw[z y L O M]
      rw[b4];exact m _ (Z.trans (aP a7))
   ·rw[decide_eq_true (by lia:(40:Int)<xs.length),if_pos rfl];have Y:Q (.bl (decide (xs.length<=40)&&(xs.all (dJ H)&&(decide ((xs.map (aY H)).Nodup)&&decide (∀y∈xs,∀z∈xs,cz H y=cz H z))))) H:=x H (aR.refl H);rw[decide_eq_false hle,d5]at Y;exact Y
 |_=>exact q H (aR.refl H)
def XC(K:ao)(C:Addr):Prop:=cN K (.ref C)=true/\PySem.W.excIn K C bmV "ValueError.__new__"=true
def HW:(1:Nat)<=sizeLine:=by decide
def xI(C:Addr):Sp:=fun vs H Q E=>∃x,vs=[x]/\Kn4 H x/\(dP H x=true->∀H',aR H H'->Q .non H')/\(dP H x=false->∀H',aR H H'->E (.ref C) none H')
def vC(d:G.fn "is_table" 1=some (spT,[]))(v1:G.val "NoTable"=some (.ref C))(c:XC K C):
  Sat G K (xI C) qm pV:=by
 rintro i H Q E ⟨x,rfl,f,g,h⟩;unfold qm;change wpB G K _ _ _ [some x] H;ext;refine⟨_,_,d,x,rfl,f,fun a b=>⟨_,rfl,?_⟩⟩;cases e:dP H x with
 |true=>rw[if_neg (by simp)];exact g e a b
 |false=>rw[if_pos (by rfl)];exact⟨C,v1,c.1,c.2,HW,h e a b⟩
abbrev count(H:Hp):V->Nat
 |.ref a=>match dZ (H a)with
  |some (y::_)=>cz H y
  |_=>0
 |_=>0
def eX{x:V}(h:dP H x=true):∃a xs,x=.ref a/\dZ (H a)=some xs/\xs.length<=40/\(∀y∈xs,dJ H y=true)/\(xs.map (aY H)).Nodup/\∀y∈xs,cz H y=count H x:=by
 cases x with
 |ref a=>
  have b:(match dZ (H a)with |some xs=>decide (xs.length<=40)&&(xs.all (dJ H)&&(decide ((xs.map (aY H)).Nodup)&&decide (∀y∈xs,∀z∈xs,cz H y=cz H z))) |none=>false)=true:=h;split at b
  ·rename_i xs e;rw[aL,aL,aL,decide_eq_true_eq,decide_eq_true_eq,decide_eq_true_eq,bK]at b;obtain⟨d,f,g,i⟩:=b;refine⟨a,xs,rfl,e,d,f,g,fun y c=>?_⟩;show _=(match dZ (H a)with |some (y::_)=>cz H y|_=>0);rw[e];cases xs with
   |nil=>cases c
   |cons z r=>exact i y c z (.head _)
  ·cases b
 |_=>cases h
def xO(C:Addr):Sp:=fun vs H Q E=>∃x,vs=[x]/\Kn4 H x/\(dP H x=true->∀H',aR H H'->Q (.int (count H x)) H')/\(dP H x=false->∀H',aR H H'->E (.ref C) none H')
def tF(l:G.fn "need_table" 1=some (xI C,[])):
  Sat G K (xO C) oo n6:=by
 rintro B H Q E ⟨x,rfl,o,i,t⟩;unfold oo;change wpB G K _ _ _ [some x] H;ext;refine⟨_,_,l,x,rfl,o,fun e f d=>?_,t⟩;obtain⟨a,g,rfl,h,v,m,A,n⟩:=eX e;have sq:SqL K f a g:=d.seq (lF h);refine Or.inl ⟨a,g,rfl,.inl sq,?_⟩;show iK K .Eq (.int (g.length:Int)) (.int 0) f _;rw[wM];refine⟨_,rfl,?_⟩;cases g with
 |nil=>
  rw[if_pos (by rfl)];have z:=i e f d;have k:count H (.ref a)=0:=by show(match dZ (H a)with |some (y::_)=>cz H y|_=>0)=0;rw[h]
  rw[k]at z;exact z
 |cons y r=>rw[if_neg (by simp;lia)];obtain⟨b,z,c,u,rfl,p,q,_,_,_,_,s⟩:=iy (m y (.head _));refine .inl ⟨a,_,0,.ref b,rfl,rfl,sq,bS (j:=0) rfl,?_⟩;refine .inr (.inl ⟨b,_,1,.ref c,rfl,rfl,d.tup (SqT.of p),rfl,?_⟩);refine Or.inl ⟨c,u,rfl,.inr (d.tup (SqT.of q)),?_⟩;have w:=i e f d;rw[<-n _ (.head _),s]at w;exact w
abbrev isPlace(H:Hp)(x:V):V->Bool
 |.int i=>decide (0<=i/\i<count H x)
 |_=>false
abbrev qU(H:Hp):V->List V
 |.ref a=>match eA (H a)with
  |some [_,.ref b]=>(eA (H b)).getD []
  |_=>[]
 |_=>[]
abbrev at_(H:Hp)(i:Int)(y:V):V:=(qU H y).getD i.toNat .non
def kC{x:V}(h:dJ H x=true):∃a b,x=.ref a/\H a=some (.tup [.str (aY H x),.ref b])/\H b=some (.tup (qU H x))/\(qU H x).length=cz H x/\∀y∈qU H x,cM y=true:=by
 obtain⟨a,z,b,c,rfl,d,f,_,_,g,i,j⟩:=iy h;have e:qU H (.ref a)=c:=by show(match eA (H a)with |some [_,.ref b]=>(eA (H b)).getD [] |_=>[])=c;rw[d];show(eA (H b)).getD []=c;rw[f];rfl
 refine⟨a,b,rfl,by rw[i];exact d,by rw[e];exact f,by rw[e,j],by rw[e];exact g⟩
def CW{x:V}{i:Int}(h:dJ H y=true)(g:cz H y=count H x)(hi:isPlace H x (.int i)=true):atI (qU H y) i=some (at_ H i y)/\cM (at_ H i y)=true:=by
 have k:0<=i/\i<count H x:=of_decide_eq_true hi;obtain⟨a,b,_,_,_,f,c⟩:=kC h;have d:i.toNat<(qU H y).length:=by lia
 have e:(qU H y)[i.toNat]? =some (at_ H i y):=by unfold at_;rw[af,ae d];rfl
 refine⟨?_,c _ (aG e)⟩;have :=bS (j:=i.toNat) e
 rwa [show((i.toNat:Nat):Int)=i by lia]at this
def hJ{v:V}(h:cM v=true):v=.int 0\/v=.int 1:=by
 cases v with
 |int i=>
  have a:(i==0||i==1)=true:=h;rw[dS,beq_iff_eq,beq_iff_eq]at a;rcases a with rfl|rfl;·exact .inl rfl
  ·exact .inr rfl
 |_=>cases h
def yL{J:It}{C:Hp->Prop}{g:TG}{K:TT}{L:TE}{Q:VK}{w:Type}{ds:List w}(Y:xs.length=ds.length)(S:rC J xs.length (fun i x _=>xs[i]? =some x) C)(hn:xs.length<=sizeLine)(U:∀H,aR H1 H->C H)
  (t:w->Bool)(f:V->w->V)(T:L2.St->Prop)(R:T τ0)
  (step:∀(i:Nat) x a k h (E:L2.St->V->Hp->Prop)(D:L2.St->Hp->Prop),xs[i]? =some x->ds[i]? =some a->T k->aR H1 h->(∀d j,T d->aR h j->t a=true->E d (f x a) j)->(∀d j,T d->aR h j->t a=false->D d j)->
   g x k h fun o O=>K o O fun b B=>if b=true then L o B (E o)else D o B)
  (P:∀H2 l,aR H1 H2->H2 l=none->Q (.ref l) (upd H2 l (.lst (((xs.zip ds).filter fun p=>t p.2).map fun p=>f p.1 p.2)))):xn J g K L τ0 H1 Q:=by
 have N:(xs.zip ds).length=xs.length:=by rw[List.length_zip];lia
 refine⟨fun i m k F H2=>m=xs.length-i/\i<=xs.length/\T k/\F=(((xs.zip ds).take i).filter fun p=>t p.2).map (fun p=>f p.1 p.2)/\aR H1 H2,⟨xs.length,by simp,aW _,R,by simp,aR.refl _⟩,?_⟩;rintro i m k F H2 ⟨rfl,hi,X,rfl,n⟩;have q:=U H2 n;by_cases hlt:i<xs.length
 ·refine .inr ⟨S.go i H2 q hlt,fun d G A=>T d/\G=(((xs.zip ds).take (i+1)).filter fun p=>t p.2).map (fun p=>f p.1 p.2)/\aR H1 A,fun d G A ⟨a,b,c⟩=>⟨xs.length-(i+1),by lia,rfl,hlt,a,b,c⟩,fun x h y=>?_⟩;obtain⟨M,v⟩:=S.yld i H2 x h q hlt y;have I:ds[i]? =some ds[i]:=ae (by lia);have e:(xs.zip ds).take (i+1)=(xs.zip ds).take i++[(x,ds[i])]:=by rw[dh,(List.getElem?_zip_eq_some (z:=(x,ds[i]))).mpr ⟨M,I⟩];rfl
  have Z:((((xs.zip ds).take i).filter fun p=>t p.2).map (fun p=>f p.1 p.2)).length<=i:=by rw[ak];refine bf (oP _ _) ?_;rw[cy];lia
  refine step i x _ k h _ _ M I X (n.trans v) (fun d j r s u=>⟨by lia,r,?_,(n.trans v).trans s⟩) (fun d j r s u=>⟨r,?_,(n.trans v).trans s⟩);·rw[e,lg,dc];simp[u]
  ·rw[e,lg,dc];simp[u]
 ·have e:i=xs.length:=by lia
  subst e;rw[<-N,eI];exact .inl ⟨S.stop _ H2 q (by rw[N];exact aC _),fun l W=>P H2 l n W⟩
def Fy{J:It}{p:Hp->Prop}{g:TG}{u:TT}{v:TE}{Q:VK}(S:rC J xs.length (fun i x _=>xs[i]? =some x) p)(C:xs.length<=sizeLine)(B:∀H,aR H1 H->p H)
  (t:V->Bool)(f:V->V)(T:L2.St->Prop)(A:T τ0)
  (step:∀x m c (k:L2.St->V->Hp->Prop)(j:L2.St->Hp->Prop),x∈xs->T m->aR H1 c->(∀e d,T e->aR c d->t x=true->k e (f x) d)->(∀e d,T e->aR c d->t x=false->j e d)->
   g x m c fun n w=>u n w fun b o=>if b=true then v n o (k n)else j n o)
  (y:∀H2 l,aR H1 H2->H2 l=none->Q (.ref l) (upd H2 l (.lst ((xs.filter t).map f)))):xn J g u v τ0 H1 Q:=by
 refine yL rfl S C B t (fun _ a=>f a) T A (fun i x a m c k j q r=>?_) fun H2 l s h=>?_;·rw[q]at r;cases r;exact step x m c k j (aG q)
 ·have z:=y H2 l s h;rw[<-vv (l₁:=xs) (l₂:=xs) (aC _),List.filter_map,bq]at z;exact z
end Cp
namespace Lt
open PySem R
abbrev vN:List Str:=["_law_script","_law_k"]
abbrev oa:List Str:=["_law_script","_law_k"]
abbrev oK:CB:=
  (.cons (.iff (.cmp .Lt (.var 1) (.bfn .len (.cons (.var 0) .nil)))
  (.cons (.ret (.idx (.var 0) (.var 1)))
  .nil)
  .nil)
  (.cons (.ret (.con (.int 0)))
  .nil))
end Lt
namespace Lt
open PySem PySem.Spec PyProof.Rows L2 R Cp
def D1{i j:Int}(h0:0<=j)(a:j<18446744073709551616):C1 i j:=.inr ⟨by lia,by lia⟩
def qk{i j:Int}(h0:0<=i)(a:i<18446744073709551616):C1 i j:=.inl ⟨by lia,by lia⟩
def BN(K:ao):Sp:=fun vs H Q _=>∃(a:Addr)(ns:List Int)(k:Nat),vs=[.ref a,.int k]/\SqL K H a (ns.map V.int)/\Q (.int (ns.getD k 0)) H
def wp_cell:Sat G K (BN K) oK oa:=by
 rintro d H Q E ⟨a,b,k,rfl,c,q⟩;unfold oK;change wpB G K _ _ _ [some (.ref a),some (.int k)] H;ext;refine Or.inl ⟨a,_,rfl,.inl c,?_⟩;show iK K .Lt (.int (k:Int)) (.int ((b.map V.int).length:Int)) H _;rw[Iv,ak];refine⟨_,rfl,?_⟩;by_cases hk:k<b.length;·rw[decide_eq_true (by lia:(k:Int)<(b.length:Int)),if_pos rfl];refine .inl ⟨a,_,k,_,rfl,rfl,c,bS (j:=k) (v:=.int (b.getD k 0)) ?_,q⟩;rw[ax,ae hk,af,ae hk];rfl
 ·rw[decide_eq_false (by lia:¬(k:Int)<(b.length:Int)),if_neg aA];rw[af,cO (by lia)]at q;exact q
def mod2(x:Int):cM (.int (x%2))=true:=by
 have a:0<=x%2:=bY _ (by decide);have b:x%2<2:=cC _ (by decide);have h:x%2=0\/x%2=1:=by lia
 rcases h with h|h<;>rw[h]<;>rfl
abbrev yu(x:Int):Nat:=97+(x%26).toNat
def lett_ok(x:Int):js (yu x)=true:=by have a:0<=x%26:=bY _ (by decide);have b:x%26<26:=cC _ (by decide);unfold js yu;exact decide_eq_true (by lia)
def IA{x y:Int}(h:yu x=yu y):x%26=y%26:=by have a:0<=x%26:=bY _ (by decide);have b:0<=y%26:=bY _ (by decide);unfold yu at h;have e:=Nat.add_left_cancel h;rw[<-Int.toNat_of_nonneg a,<-Int.toNat_of_nonneg b,e]
noncomputable abbrev mkS(l:List Nat):Str:=⟨l.toArray⟩
def mk_app(a b:List Nat):mkS a++mkS b=mkS (a++b):=by show(⟨a.toArray++b.toArray⟩:Str)=⟨(a++b).toArray⟩;rw[List.append_toArray]
def uA(a:List Nat):(mkS a).length=a.length:=by show a.toArray.size=_;simp
def Jy(l:List Nat)(k:Nat):CF (mkS l) none (some (k:Int))=mkS (l.take k):=by
 unfold CF;rw[HT.pO,HT.tV,uA];show mkS _=_;congr 1;show((l.toArray.toList.drop 0).take (min k l.length-0))=l.take k;rw[zt,F4];show l.take (min k l.length)=l.take k;by_cases h:k<=l.length;·rw[zh h]
 ·rw[Nat.min_eq_right (by lia),eI,fk (by lia)]
def Ce:∀j:Fin 26,LETTERS.cps.toList[j.val]? =some (97+j.val):=by decide+kernel
def CV(x:Int):atI LETTERS.cps.toList (x%26)=some (yu x):=by have b:0<=x%26:=bY _ (by decide);have c:x%26<26:=cC _ (by decide);obtain⟨j,a⟩:=cE b;rw[a];refine bS ?_;have :=Ce ⟨j,by lia⟩;rw[this];unfold yu;rw[a];rfl
def yt:LETTERS.length<=sizeLine:=by decide+kernel
def short(h:n<=40):n<=sizeLine:=bf h (by decide)
theorem mk1(x:Nat):(⟨#[x]⟩:Str)=mkS [x]:=rfl
end Lt
namespace Q
open PySem PySem.Spec PySem.W PyProof.Rows L2
theorem z7(nd:ks.Nodup):(ord ks).Perm (ay ks.length):=by
 unfold ord;split;·exact fh _
 ·have P:=(fL (tJ nd) (by lia)).1;have :=gU.mp P.perm;simpa using this
def range_getD{a:Type}(d:a)(ys:List a):(ay ys.length).map (fun i=>ys.getD i d)=ys:=by
 apply cU;·simp
 ·intro i c b;simp[b]
def eD{a:Type}(d:a){ys:List a}(nd:ks.Nodup)(b:ks.length=ys.length):(sortBy d ks ys).Perm ys:=by unfold sortBy;have h:=(z7 nd).map fun i=>ys.getD i d;rw[b,range_getD]at h;exact h
theorem gw(nd:ks.Nodup):(sortBy ("":Str) ks ks).Pairwise fun a b=>tlt a b=true:=by
 unfold sortBy ord;split
 ·rename_i h;rw[range_getD]
  match ks,h with
  | [],_=>exact .nil
  | [x],_=>simp
  |_::_::_,h=>simp at h;lia
 ·rename_i h;obtain⟨P,U,_⟩:=fL (tJ nd) (by lia:1<=ks.length);rw[fC];intro i j hi f d;have m:i<ks.length:=by simpa[P.size]using hi
  have g:j<ks.length:=by simpa[P.size]using f
  have u:=U i j d g;rw[cS,cS];have e:∀(k:Nat)(c:k<(run (mL ks) (dH ks.length)).toList.length),(run (mL ks) (dH ks.length)).toList[k]=at' (run (mL ks) (dH ks.length)) k:=fun k c=>by
   have l:k<(run (mL ks) (dH ks.length)).size:=by simpa using c
   simp[at',l]
  rw[e,e];exact u
def EB{y:Str}(a:tlt x y=true)(b:tlt y x=true):False:=by have c:=v9 a b;unfold tlt at c;exact List.lt_irrefl _ (of_decide_eq_true c)
theorem i8:∀{l m:List Str},l.Perm m->l.Pairwise (fun a b=>tlt a b=true)->m.Pairwise (fun a b=>tlt a b=true)->l=m
 | [],m,p,_,_=>by rw[Br.mp p]
 |x::l,[],p,_,_=>by simpa using p.length_eq
 |x::l,y::m,p,h1,h2=>by
  rw[List.pairwise_cons]at h1 h2;have e:x=y:=by
   by_cases e:x=y;·exact e
   ·have c:x∈m:=by
     have :=p.mem_iff.mp (au (a:=x) (l:=l));rcases aI.mp this with z|z;·exact absurd z e
     ·exact z
    have d:y∈l:=by
     have :=p.mem_iff.mpr (au (a:=y) (l:=m));rcases aI.mp this with z|z;·exact absurd z.symm e
     ·exact z
    exact(EB (h1.1 y d) (h2.1 x c)).elim
  subst e;rw[i8 (List.perm_cons x |>.mp p) h1.2 h2.2]
def kA{c:Type}(d:c)(f:c->Str)(p:c->Bool){ys:List c}(nd:(ys.map f).Nodup):((sortBy d (ys.map f) ys).filter p).map f=sortBy ("":Str) ((ys.filter p).map f) ((ys.filter p).map f):=by
 have g:((ys.filter p).map f).Nodup:=nd.sublist (d8.map _);refine i8 ?_ ?_ (gw g);·exact(((eD d nd (by simp)).filter p).map f).trans (eD ("":Str) g rfl).symm
 ·have h:((sortBy d (ys.map f) ys).map f).Pairwise fun a b=>tlt a b=true:=by
   have r:=gw nd;unfold sortBy at r⊢;rw[bq];have e:(ord (ys.map f)).map (f∘fun i=>ys.getD i d)=(ord (ys.map f)).map fun i=>(ys.map f).getD i ("":Str):=by
    apply cF
    intro i hi;have j:i<ys.length:=by have :=(z7 nd).mem_iff.mp hi;simpa using this
    show f (ys.getD i d)=(ys.map f).getD i ("":Str);rw[af,af,ax,ae j];rfl
   rw[e];exact r
  exact h.sublist (d8.map _)
end Q
namespace Lt
open PySem PySem.Spec PyProof.Rows L2 R Cp
mutual
theorem qh:∀d:D,eqD d d=true
 |.non=>rfl
 |.bl b=>by cases b<;>rfl
 |.int i=>by show(i==i)=true;simp
 |.str x=>by show(x==x)=true;simp
 |.tup ds=>rm ds
 |.lst ds=>rm ds
theorem rm:∀ds:List D,nU ds ds=true
 | []=>rfl
 |d::ds=>by show(eqD d d&&nU ds ds)=true;rw[qh d,rm ds];rfl
end
theorem Dl:∀zs:List V,(∀z∈zs,cM z=true)->∃ds,fY K H ds zs/\gK ds=0
 | [],_=>⟨[],rfl,rfl⟩
 |z::zs,h=>by
  obtain⟨ds,a,b⟩:=Dl zs fun y c=>h y (.tail _ c);rcases hJ (h z (.head _))with rfl|rfl;·exact⟨.int 0::ds,⟨_,_,rfl,rfl,a⟩,by show max 0 (gK ds)=0;rw[b];rfl⟩
  ·exact⟨.int 1::ds,⟨_,_,rfl,rfl,a⟩,by show max 0 (gK ds)=0;rw[b];rfl⟩
theorem mD:∀ys:List V,(∀y∈ys,dJ H y=true)->∃ds,fY K H ds ys/\gK ds<=2
 | [],_=>⟨[],rfl,by decide⟩
 |y::ys,h=>by obtain⟨ds,f,l⟩:=mD ys fun z g=>h z (.tail _ g);obtain⟨a,b,rfl,i,j,_,k⟩:=kC (h y (.head _));obtain⟨c,d,e⟩:=Dl (K:=K) (H:=H) _ k;refine⟨.tup [.str (aY H (.ref a)),.tup c]::ds,⟨_,_,rfl,⟨a,_,rfl,SqT.of i,_,_,rfl,rfl,_,_,rfl,⟨b,_,rfl,SqT.of j,d⟩,rfl⟩,f⟩,?_⟩;show max (max 0 (max (gK c+1) 0)+1) (gK ds)<=2;rw[e];lia
end Lt
namespace L2
open PySem PySem.Spec PyProof.Rows
section
variable {κ α:Type}[DecidableEq κ](kf:α->κ)(vf:α->V)
abbrev qd(ac:List (κ×V))(y:α):List (κ×V):=if(fq ac (kf y)).isSome then ac else putK ac (kf y) (vf y)
abbrev fnd(ys:List α):List (κ×V):=ys.foldl (qd kf vf) []
theorem Jg(a:List (κ×V))(y:α)(k:κ):fq (qd kf vf a y) k=if(fq a k).isSome then fq a k else if k=kf y then some (vf y)else none:=by
 unfold qd;cases h:fq a (kf y)with
 |some v=>
  show fq a k=_;cases hk:fq a k with
  |some u=>rfl
  |none=>rw[if_neg (by simp),if_neg];intro e;rw[e,h]at hk;cases hk
 |none=>
  rw[if_neg (by simp),Gs];by_cases e:k=kf y;·rw[if_pos e,e,h];simp
  ·rw[if_neg e];cases hk:fq a k<;>simp[e]
theorem fndS_nd{a:List (κ×V)}(y:α)(h:(a.map (·.1)).Nodup):((qd kf vf a y).map (·.1)).Nodup:=by
 unfold qd;cases e:fq a (kf y)with
 |some v=>exact h
 |none=>rw[if_neg (by simp)];exact nd_putK _ h e
theorem Jh(a:List (κ×V))(y:α):(qd kf vf a y).length<=a.length+1:=by
 unfold qd;split;·lia
 ·exact rT _ _ _
theorem AB:∀(ys:List α)(ac:List (κ×V)),(ys.foldl (qd kf vf) ac).length<=ac.length+ys.length
 | [],ac=>aC _
 |y::ys,ac=>by have :=AB ys (qd kf vf ac y);have :=Jh kf vf ac y;simp only[dR,bz];lia
theorem DT:∀(ys:List α){ac:List (κ×V)},(ac.map (·.1)).Nodup->((ys.foldl (qd kf vf) ac).map (·.1)).Nodup
 | [],_,h=>h
 |y::ys,_,h=>DT ys (fndS_nd kf vf y h)
theorem AA:∀(ys:List α)(ac:List (κ×V))(k:κ),fq (ys.foldl (qd kf vf) ac) k=if(fq ac k).isSome then fq ac k else(ys.find? fun y=>decide (kf y=k)).map vf
 | [],ac,k=>by show fq ac k=_;cases fq ac k<;>rfl
 |y::ys,ac,k=>by
  rw[dR,AA ys,Jg];cases hk:fq ac k with
  |some u=>simp
  |none=>
   simp only[Gb,aN,if_false];by_cases e:k=kf y;·rw[if_pos e,iT];simp[e]
   ·have a:¬kf y=k:=fun z=>e z.symm;rw[if_neg e,iT];simp[a]
theorem yD(ys:List α)(k:κ):fq (fnd kf vf ys) k=(ys.find? fun y=>decide (kf y=k)).map vf:=by unfold fnd;rw[AA];rfl
theorem fnd_nd(ys:List α):((fnd kf vf ys).map (·.1)).Nodup:=DT kf vf ys gV
theorem fnd_len(ys:List α):(fnd kf vf ys).length<=ys.length:=by have :=AB kf vf ys [];rw[nY,vh]at this;exact this
theorem yE{ys:List α}{k:κ}:k∈(fnd kf vf ys).map (·.1)↔∃y∈ys,kf y=k:=by
 constructor
 ·intro h;cases e:fq (fnd kf vf ys) k with
  |none=>exact absurd h (zx e)
  |some v=>rw[yD]at e;obtain⟨y,a,_⟩:=Bq.mp e;exact⟨y,Bb a,by have :=List.find?_some a;simpa using this⟩
 ·rintro⟨y,a,e⟩;cases h:fq (fnd kf vf ys) k with
  |some v=>exact valV_in h
  |none=>rw[yD,Option.map_eq_none_iff,lb]at h;exact absurd e (by have :=h y a;simpa using this)
theorem Ih:∀{l m:List κ},l.Nodup->(∀x∈l,x∈m)->l.length<=m.length
 | [],_,_,_=>aW _
 |a::l,m,h,hs=>by obtain⟨d,f⟩:=bw.mp h;have b:=hs a (.head _);have :=Ih (l:=l) (m:=m.erase a) f fun x c=>(jO (fun e:x=a=>d (by rw[<-e];exact c))).mpr (hs x (.tail _ c));rw[Bs b]at this;have :=Ep b;simp only[bz];lia
theorem fnd_all{ys:List α}{ks:List κ}(b:ks.Nodup)(hs:∀y∈ys,kf y∈ks):(fnd kf vf ys).length<ks.length↔∃k∈ks,∀y∈ys,kf y≠k:=by
 have l:∀k∈(fnd kf vf ys).map (·.1),k∈ks:=fun k h=>by obtain⟨y,a,e⟩:=(yE kf vf).mp h;rw[<-e];exact hs y a
 have i:=fnd_nd kf vf ys;constructor
 ·intro m;apply aq
  intro j;have d:∀k∈ks,k∈(fnd kf vf ys).map (·.1):=fun k b=>by
   apply aq
   intro c;exact j ⟨k,b,fun y a e=>c ((yE kf vf).mpr ⟨y,a,e⟩)⟩
  have :=Ih b d;rw[ak]at this;lia
 ·rintro⟨k,g,f⟩;have c:k∉(fnd kf vf ys).map (·.1):=fun h=>by obtain⟨y,a,e⟩:=(yE kf vf).mp h;exact f y a e
  have :(k::(fnd kf vf ys).map (·.1)).Nodup:=bw.mpr ⟨c,i⟩;have :=Ih this (fun x hx=>by
   rcases aI.mp hx with rfl|hx;·exact g
   ·exact l x hx)
  rw[bz,ak]at this;lia
end
end L2
namespace Kc
open PySem R
abbrev qV:List Str:=["copies","one","other"]
abbrev lD:List Str:=["copies","one","other","found","name","readings"]
abbrev lI:CB:=
  (.cons (.asg (.name 3) (.dicT))
  (.cons (.forr (.tup (.cons (.name 4) (.cons (.name 5) .nil))) (.seq (.var 0))
  (.cons (.expr (.setd (.var 3) (.tup (.cons (.idx (.var 5) (.var 1)) (.cons (.idx (.var 5) (.var 2)) .nil))) (.var 4)))
  .nil))
  (.cons (.iff (.cmp .Lt (.bfn .lend (.cons (.var 3) .nil)) (.bfn .len (.cons (.glo "KINDS") .nil)))
  (.cons (.ret (.con .none))
  .nil)
  .nil)
  (.cons (.ret (.bfn .tuple (.cons (.comp ["kind"] [3] (.name 0) (.seq (.glo "KINDS")) .no (.idxd (.var 1) (.var 0))) .nil)))
  .nil))))
end Kc
namespace Kc
open PySem PySem.Spec PyProof.Rows L2 R Cp Lt
def fV{J:It}{k:Nat->V->Hp->Prop}{j:Hp->Prop}{g:TG}{tb:TS}{D:Ends}(S:rC J n k j)(e:Nat->L2.St->Hp->Prop)(h0:e 0 σ H)(m:∀i σ H,i<=n->e i σ H->j H)
  (hs:∀i x σ H H' (D2:Ends),i<n->e i σ H->k i x H'->aR H H'->(∀f H2,e (i+1) f H2->D2.nx f H2)->D2.rt=D.rt->g x σ H' fun f H2=>tb D2 f H2)(l:∀σ H,e n σ H->D.nx σ H):ForB J g tb D σ H:=
 DS S e h0 m (fun i x σ H H' a b c d=>hs i x σ H H' _ a b c d (fun _ _ h=>h) rfl) l
def gF(h:us.length=1):∃a,us=[a]:=by
 cases us with
 |nil=>exact nomatch h
 |cons a r=>exact⟨a,by rw[bx.mp (mq h)]⟩
def lL(h:us.length=2):∃a b,us=[a,b]:=by
 cases us with
 |nil=>exact nomatch h
 |cons a r=>obtain⟨b,e⟩:=gF (mq h);exact⟨a,b,by rw[e]⟩
def zC(h:us.length=3):∃a b c,us=[a,b,c]:=by
 cases us with
 |nil=>exact nomatch h
 |cons a r=>obtain⟨b,c,e⟩:=lL (mq h);exact⟨a,b,c,by rw[e]⟩
def dG{b:Type}{F:b->Prop}{vs:List V}(h:∃a,F a)(k:∀a,F a->vs.length=n):vs.length=n:=let⟨a,f⟩:=h;k a f
def i4{P:Prop}{l vs:List V}(h:vs=l/\P)(e:l.length=n):vs.length=n:=by rw[h.1];exact e
abbrev num(H:Hp)(i:Int)(y:V):Int:=match at_ H i y with
 |.int n=>n
 |_=>0
abbrev KP:List (Int×Int):=[(0,0),(0,1),(1,0),(1,1)]
abbrev oY(k:Int×Int):List Key:=[.inl k.1,.inl k.2]
abbrev kf(H:Hp)(i j:Int)(y:V):List Key:=oY (num H i y,num H j y)
abbrev kJ(H:Hp)(xs:List V)(i j:Int):Bool:=KP.all fun k=>xs.any fun y=>decide (num H i y=k.1/\num H j y=k.2)
abbrev firstOf(H:Hp)(xs:List V)(i j:Int)(k:Int×Int):V:=((xs.find? fun y=>decide (kf H i j y=oY k)).map fun y=>V.str (aY H y)).getD .non
def Kinds(K:ao)(kd:Addr):Prop:=∃a0 a1 a2 a3:Addr,∀H:Hp,SqT K H kd [.ref a0,.ref a1,.ref a2,.ref a3]/\SqT K H a0 [.int 0,.int 0]/\SqT K H a1 [.int 0,.int 1]/\SqT K H a2 [.int 1,.int 0]/\SqT K H a3 [.int 1,.int 1]
theorem Kinds.at(h:Kinds K kd):∃a:List V,a.length=4/\(∀H:Hp,SqT K H kd a)/\∀(H:Hp)(i:Nat) x,a[i]? =some x->∃(b:Addr)(k:Int×Int),x=.ref b/\KP[i]? =some k/\SqT K H b ((oY k).map kV):=by
 obtain⟨c,d,f,g,h⟩:=h;refine⟨[.ref c,.ref d,.ref f,.ref g],rfl,fun H=>(h H).1,fun H i x e=>?_⟩;obtain⟨_,j,l,m,o⟩:=h H
 match i,e with
 | 0,e=>cases e;exact⟨c,_,rfl,rfl,j⟩
 | 1,e=>cases e;exact⟨d,_,rfl,rfl,l⟩
 | 2,e=>cases e;exact⟨f,_,rfl,rfl,m⟩
 | 3,e=>cases e;exact⟨g,_,rfl,rfl,o⟩
 |n+4,e=>simp at e
def yj{x:V}{i:Int}(h:dJ H y=true)(a:cz H y=count H x)(hi:isPlace H x (.int i)=true):at_ H i y=.int (num H i y)/\(num H i y=0\/num H i y=1):=by
 have :=(CW h a hi).2;unfold num;rcases hJ this with e|e;·rw[e];exact⟨rfl,.inl rfl⟩
 ·rw[e];exact⟨rfl,.inr rfl⟩
def II{k l:Int×Int}(h:oY k=oY l):k=l:=by
 unfold oY at h;injection h with h1 h2
 injection h2 with h2 _;injection h1 with h1;injection h2 with h2;exact Prod.ext h1 h2
def IE:(KP.map oY).Nodup:=by decide+kernel
def kf_eq{i j:Int}{k:Int×Int}:kf H i j y=oY k↔(num H i y=k.1/\num H j y=k.2):=by
 constructor;·intro h;have :=II h;rw[<-this];exact⟨rfl,rfl⟩
 ·rintro⟨a,b⟩;unfold kf;rw[a,b]
def uK{i j:Int}(c:V->V)(hs:∀y∈xs,kf H i j y∈KP.map oY):(fnd (kf H i j) c xs).length<4↔kJ H xs i j=false:=by
 rw[show(4:Nat)=(KP.map oY).length from rfl,fnd_all (kf H i j) c IE hs];unfold kJ;rw[List.all_eq_false];constructor;·rintro⟨k,d,h⟩;obtain⟨p,a,rfl⟩:=aF.mp d;refine⟨p,a,?_⟩;intro z;obtain⟨y,b,e⟩:=cI.mp z;exact h y b (kf_eq.mpr (of_decide_eq_true e))
 ·rintro⟨p,a,h⟩;refine⟨oY p,aF.mpr ⟨p,a,rfl⟩,fun y b e=>h ?_⟩;exact cI.mpr ⟨y,b,decide_eq_true (kf_eq.mp e)⟩
def kf_in{x:V}{i j:Int}(b:∀y∈xs,dJ H y=true)(c:∀y∈xs,cz H y=count H x)(hi:isPlace H x (.int i)=true)(h:isPlace H x (.int j)=true):∀y∈xs,kf H i j y∈KP.map oY:=by intro y a;have d:=(yj (b y a) (c y a) hi).2;have g:=(yj (b y a) (c y a) h).2;unfold kf;refine aF.mpr ⟨_,?_,rfl⟩;rcases d with e|e<;>rcases g with f|f<;>rw[e,f]<;>simp[KP]
def xN:Sp:=fun vs H Q _=>∃a xs i j H0,vs=[.ref a,.int i,.int j]/\aR H0 H/\dP H0 (.ref a)=true/\dZ (H0 a)=some xs/\isPlace H0 (.ref a) (.int i)=true/\isPlace H0 (.ref a) (.int j)=true/\
 (kJ H0 xs i j=false->∀H',aR H H'->Q .non H')/\(kJ H0 xs i j=true->∀H' l,aR H H'->H l=none->H' l=some (.tup (KP.map (firstOf H0 xs i j)))->Q (.ref l) H')
def Gj(v1:G.val "KINDS"=some (.ref kd))(hk:Kinds K kd):
  Sat G K xN lI lD:=by
 rintro P H a6 a5 ⟨a,f,i,j,e,rfl,O,ht,W,hi,L,q1,q2⟩;unfold lI;change wpB G K _ _ _ [some (.ref a),some (.int i),some (.int j),none,none,none] H;ext;intro d T;obtain⟨a',b0,ea,R,h2,w,h4,A⟩:=eX ht;cases ea;rw[W]at R;cases R;obtain⟨as,J,M,a2⟩:=hk.at;have sq:∀{s:Hp},aR e s->SqL K s a f:=fun o=>o.seq (lF W);have Y:aR H (upd H d (.dT [])):=aP T;refine gS (dM rfl (sq (O.trans Y)) (fV fv (fun k F I=>aR H I/\I d=some (.dT (fnd (kf e i j) (fun y=>V.str (aY e y)) (f.take k)))/\∃u v,F=[some (.ref a),some (.int i),some (.int j),some (.ref d),u,v])
  ⟨Y,aK,none,none,rfl⟩ (fun k F I _ p=>sq (O.trans p.1)) ?_ ?_))
 ·rintro k y F s m D2 a9 ⟨o,q,u,v,rfl⟩ D g S _;have h:=aG D;have ei:=yj (w y h) (A y h) hi;have ej:=yj (w y h) (A y h) L;have gi:=(CW (w y h) (A y h) hi).1;have gj:=(CW (w y h) (A y h) L).1;obtain⟨b,c,rfl,k1,X,k3,k4⟩:=kC (w y h);have x:=O.trans (o.trans g);refine⟨b,_,rfl,x.tup (SqT.of k1),rfl,_,_,rfl,_,_,rfl,rfl,?_⟩;ext;refine⟨.inr (.inr (.inl ⟨rfl,.inr ⟨_,g _ _ q⟩⟩)),?_⟩;refine .inr (.inl ⟨c,_,i,_,rfl,rfl,x.tup (SqT.of X),gi,?_⟩);refine .inr (.inl ⟨c,_,j,_,rfl,rfl,x.tup (SqT.of X),gj,short (by simp),fun p C=>?_⟩);have E:aR m (upd m p (.tup [at_ e i (.ref b),at_ e j (.ref b)])):=aP C;have hf:(fnd (kf e i j) (fun y=>V.str (aY e y)) (f.take k)).length<=40:=bf (fnd_len _ _ _) (by rw[cy];lia);have et:f.take (k+1)=f.take k++[V.ref b]:=by rw[dh,D];rfl
  have Q:fnd (kf e i j) (fun y=>V.str (aY e y)) (f.take (k+1))=qd (kf e i j) (fun y=>V.str (aY e y)) (fnd (kf e i j) (fun y=>V.str (aY e y)) (f.take k)) (.ref b):=by unfold fnd;rw[et,List.foldl_append];rfl
  refine⟨d,p,_,kf e i j (.ref b),_,rfl,rfl,E _ _ (g _ _ q),?_,dB hf (by decide),fun z N=>?_,fun N=>?_⟩;·rw[aK,ei.1,ej.1];rfl
  ·refine S _ _ ⟨o.trans (g.trans E),?_,_,_,rfl⟩;rw[Q];unfold qd;rw[N];exact E _ _ (g _ _ q)
  ·refine S _ _ ⟨gZ (o.trans (g.trans E)) T,?_,_,_,rfl⟩;rw[Q];unfold qd;rw[N];exact aK
 ·rintro F s ⟨o,q,u,v,rfl⟩;rw[eI]at q;ext;refine⟨d,_,rfl,q,_,v1,Or.inl ⟨kd,as,rfl,.inr (M _),?_⟩⟩;rw[J];show iK K .Lt (.int _) (.int ((4:Nat):Int)) s _;rw[Iv];refine⟨_,rfl,?_⟩;have r:=uK (fun y=>V.str (aY e y)) (kf_in w A hi L);cases hf:kJ e f i j with
  |false=>have :=r.mpr hf;rw[decide_eq_true (by lia),if_pos rfl];exact q1 hf s o
  |true=>
   have a8:¬(fnd (kf e i j) (fun y=>V.str (aY e y)) f).length<4:=fun z=>by rw[r.mp z]at hf;cases hf
   rw[decide_eq_false (by lia),if_neg aA];refine eJ ⟨_,v1,.inr (.inl ⟨kd,rfl,⟨_,M _⟩,?_⟩)⟩;refine fg xX (by rw[J];exact short (by decide)) (fun m _=>M m) (fun n v _=>v=firstOf e f i j (KP.getD n (0,0))) (fun _ _ _ _ _ a0=>a0) (fun Z=>∃t,Z=[t,some (.ref d)]) ⟨none,rfl⟩ ?_ ?_
   ·rintro n y Z m a7 hn ⟨t,rfl⟩ g D k;obtain⟨b,p,rfl,C,B⟩:=a2 m n y D;ext;have a1:f.any (fun y=>decide (num e i y=p.1/\num e j y=p.2))=true:=by unfold kJ at hf;exact bK.mp hf p (aG C)
    obtain⟨y0,a4,e0⟩:=cI.mp a1;cases r:f.find? (fun y=>decide (kf e i j y=oY p))with
    |none=>rw[lb]at r;exact absurd (decide_eq_true (kf_eq.mpr (of_decide_eq_true e0))) (r y0 a4)
    |some y1=>
     refine⟨d,b,_,oY p,V.str (aY e y1),rfl,rfl,g _ _ q,B,?_,?_⟩;·rw[yD,r];rfl
     ·refine k _ _ _ ⟨_,rfl⟩ (aR.refl _) ?_;rw[getD_some C];unfold firstOf;rw[r];rfl
   ·intro P m l U hF g a3;have ev:P=KP.map (firstOf e f i j):=by
     rw[J]at U;apply cU;·rw[U];rfl
     ·intro n m1 m2;have :=hF n P[n] (by simp[m1]);rw[this,cS,af,ae (by simpa using m2)];rfl
    subst ev;refine⟨l,_,rfl,.inl ⟨SqL.of aK,fun b B=>?_⟩⟩;have x:aR H (upd m l (.lst (KP.map (firstOf e f i j)))):=o.trans (g.trans (aP a3));exact q2 hf _ b (x.trans (aP B)) (x.free B) aK
end Kc
namespace K21
open PySem R
abbrev B3:List Str:=["_law_cell","_law_place"]
abbrev uu:List Str:=["_law_cell","_law_place","_law_own","_law_number"]
abbrev qu:CB:=
  (.cons (.ret (.bin .Mod (.bin .Mult (.var 3) (.var 3)) (.con (.int 2147483587))))
  .nil)
abbrev lW:CB:=
  (.cons (.asg (.name 3) (.bin .Mod (.bin .Mult (.bin .Add (.bin .Mod (.bin .FloorDiv (.var 0) (.con (.int 2))) (.bin .Pow (.con (.int 10)) (.con (.int 30)))) (.con (.int 1))) (.bin .Add (.con (.int 48271)) (.bin .Mult (.bin .Mult (.con (.int 7919)) (.var 1)) (.var 1)))) (.con (.int 2147483629))))
  qu)
abbrev lX:CB:=
  (.cons (.iff (.and (.cmp .Eq (.bin .Mod (.var 0) (.con (.int 2))) (.con (.int 1))) (.cmp .NotEq (.var 2) (.con (.int 0))))
  (.cons (.ret (.bin .Mod (.var 2) (.con (.int 2147483648))))
  .nil)
  .nil)
  lW)
abbrev uX:CB:=
  (.cons (.asg (.name 2) (.bin .RShift (.var 0) (.bin .Add (.con (.int 2)) (.bin .Mult (.con (.int 31)) (.bin .Mod (.var 1) (.con (.int 64)))))))
  lX)
abbrev zY:List Str:=["_law_cell","_law_many"]
abbrev rQ:List Str:=["_law_cell","_law_many","_law_letters","_law_size","_law_at","_law_names_here","_law_k","_law_name","_law_j"]
abbrev ot:CB:=
  (.cons (.ret (.var 5))
  .nil)
abbrev mi:CB:=
  (.cons (.expr (.meth1 .append (.var 5) (.cut (.var 7) .no (.yes (.bin .Add (.bin .Add (.var 4) (.con (.int 1))) (.bin .Mod (.bin .Add (.bin .Mult (.var 6) (.var 6)) (.var 3)) (.bin .Sub (.var 3) (.var 4))))))))
  .nil)
abbrev mj:CB:=
  (.cons (.forr (.name 8) (.range1 (.var 3))
  (.cons (.asg (.name 7) (.bin .Add (.var 7) (.idx (.var 2) (.bin .Mod (.bin .Add (.call "_law_draw" (.cons (.var 0) (.cons (.bin .Add (.con (.int 10)) (.var 8)) .nil))) (.bin .Mult (.bin .Mult (.con (.int 7)) (.var 6)) (.bfn .int (.cons (.cmp .Eq (.var 8) (.var 4)) .nil)))) (.con (.int 26))))))
  .nil))
  mi)
abbrev ou:CB:=
  (.cons (.forr (.name 6) (.range1 (.var 1))
  (.cons (.asg (.name 7) (.con (.str "")))
  mj))
  ot)
abbrev oy:CB:=
  (.cons (.asg (.name 5) (.lst .nil))
  ou)
abbrev oz:CB:=
  (.cons (.asg (.name 4) (.bin .Mod (.call "_law_draw" (.cons (.var 0) (.cons (.con (.int 2)) .nil))) (.var 3)))
  oy)
abbrev oA:CB:=
  (.cons (.asg (.name 3) (.bin .Add (.con (.int 1)) (.bin .Mod (.call "_law_draw" (.cons (.var 0) (.cons (.con (.int 1)) .nil))) (.con (.int 8)))))
  oz)
abbrev rZ:CB:=
  (.cons (.asg (.name 2) (.con (.str "abcdefghijklmnopqrstuvwxyz")))
  oA)
end K21
namespace K21
open PySem PySem.Spec PyProof.Rows L2 R Cp Lt Kc
def shl_ii{Q:VK}{i j:Int}:nT K .LShift (.int i) (.int j) H Q↔FO i j/\Q (.int (i*2^j.toNat)) H:=by simp[nT,rI]
def int_b{Q:VK}{b:Bool}:rBf K .int [.bl b] H Q↔Q (.int (if b then 1 else 0)) H:=by simp[rBf]
abbrev own(c k:Int):Int:=c/2^(2+31*(k%64)).toNat
abbrev nb(c k:Int):Int:=(c/2%10^Int.toNat 30+1)*(48271+7919*k*k)%2147483629
abbrev draw(c k:Int):Int:=if c%2=1/\own c k≠0 then own c k%2147483648 else nb c k*nb c k%2147483587
def DY(c k:Int):0<=draw c k:=by
 unfold draw;split;·exact bY _ (by decide)
 ·exact bY _ (by decide)
def kH:Sp:=fun vs H Q _=>∃c k:Int,vs=[.int c,.int k]/\0<=k/\k<=200/\Q (.int (draw c k)) H
def wp_draw:Sat G K kH uX uu:=by
 rintro l H Q E ⟨c,k,rfl,d,f,q⟩;unfold uX;change wpB G K _ _ _ [some (.int c),some (.int k),none,none] H;ext;have j:0<=k%64:=bY _ (by decide);refine⟨by decide,qk (by decide) (by decide),by lia,?_⟩;have e:¬(c%2=1/\own c k≠0)->wpB G K (fun _=>E) lW {nx:=fun _ g=>Q .non g,rt:=Q} [some (.int c),some (.int k),some (.int (own c k)),none] H:=fun z=>by
  have i:0<=7919*k*k/\7919*k*k<=316760000:=by have a:0<=k*k:=Int.mul_nonneg d d;have b:k*k<=200*200:=Int.mul_le_mul f f d (by decide);rw[Int.mul_assoc];lia
  have h:0<=nb c k/\nb c k<2147483629:=⟨bY _ (by decide),cC _ (by decide)⟩;unfold draw at q;rw[if_neg z]at q;unfold lW qu;ext;exact⟨⟨by decide,by decide⟩,⟨by decide,by decide,by decide⟩,by decide,qk (by decide) (by decide),D1 d (by lia),D1 (by lia) (by lia),by decide,qk h.1 (by lia),by decide,q⟩
 change wpB G K _ lX _ [some (.int c),some (.int k),some (.int (own c k)),none] H;generalize ho:own c k=w at e⊢;unfold lX;ext;refine⟨by decide,?_⟩;by_cases a:c%2=1
 ·rw[decide_eq_true a,if_pos rfl];by_cases b:w=0;·rw[decide_eq_true b];exact e fun z=>z.2 b
  ·rw[decide_eq_false b];unfold draw at q;rw[ho,if_pos ⟨a,b⟩]at q;exact⟨by decide,q⟩
 ·rw[decide_eq_false a];exact e fun z=>a z.1
abbrev size(c:Int):Nat:=(1+draw c 1%8).toNat
abbrev att(c:Int):Nat:=(draw c 2%(size c:Int)).toNat
def size_eq(c:Int):1+draw c 1%8=(size c:Int)/\1<=size c/\size c<=8:=by have a:0<=draw c 1%8:=bY _ (by decide);have b:draw c 1%8<8:=cC _ (by decide);unfold size;lia
def CU(c:Int):draw c 2%(size c:Int)=(att c:Int)/\att c<size c:=by have d:=size_eq c;have a:0<=draw c 2%(size c:Int):=bY _ (by lia);have b:draw c 2%(size c:Int)<(size c:Int):=cC _ (by lia);unfold att;lia
abbrev sgn(c:Int)(k j:Nat):Nat:=yu (draw c (10+(j:Int))+7*(k:Int)*(if(j:Int)=(att c:Int)then 1 else 0))
abbrev full(c:Int)(k:Nat):List Nat:=(ay (size c)).map (sgn c k)
abbrev uP(c:Int)(k:Nat):Nat:=att c+1+(k*k+size c)%(size c-att c)
abbrev nm(c:Int)(k:Nat):Str:=mkS ((full c k).take (uP c k))
def qa(c:Int)(k:Nat):(full c k).length=size c:=by unfold full;simp
def yK(c:Int)(k:Nat):att c+1<=uP c k/\uP c k<=size c:=by have h:=(CU c).2;have :=lK (k*k+size c) (show 0<size c-att c by lia);unfold uP;lia
def nm_ok(c:Int)(k:Nat):iL (nm c k)=true:=by
 have e:=yK c k;have f:=size_eq c;have b:(nm c k).length=uP c k:=by unfold nm;rw[uA,cy,qa];lia
 unfold iL;rw[b,aL];refine⟨decide_eq_true (by lia),?_⟩;show((full c k).take (uP c k)).toArray.toList.all js=true;rw[qL,bK];intro y d;have a:=pF d;unfold full at a;obtain⟨j,_,rfl⟩:=aF.mp a;exact lett_ok _
def nm_inj{c:Int}(hi:i<16)(m:j<16)(h:nm c i=nm c j):i=j:=by
 have e:(full c i).take (uP c i)=(full c j).take (uP c j):=by have :=congrArg (fun z:Str=>z.cps.toList) h;simpa[nm]using this
 have d:=(CU c).2;have b:∀k:Nat,((full c k).take (uP c k))[att c]? =some (yu (draw c (10+(att c:Int))+7*(k:Int))):=fun k=>by have g:=yK c k;rw[iH (by lia)];unfold full;rw[ax,bP d];show some (sgn c k (att c))=_;unfold sgn;rw[if_pos rfl,Int.mul_one]
 have a:=congrArg (fun l:List Nat=>l[att c]?) e;simp only[b]at a;have f:=IA (aX a);lia
def xJ:Sp:=fun vs H Q _=>∃(c:Int)(m:Nat),vs=[.int c,.int m]/\m<=16/\∀H' l,aR H H'->H l=none->H' l=some (.lst ((ay m).map fun k=>V.str (nm c k)))->Q (.ref l) H'
def Gf(h:G.fn "_law_draw" 2=some (kH,[])):
  Sat G K xJ rZ rQ:=by
 rintro T H Q E ⟨c,m,rfl,S,q⟩;unfold rZ oA oz oy;change wpB G K _ _ _ [some (.int c),some (.int m),none,none,none,none,none,none,none] H;ext;refine⟨_,_,h,c,1,rfl,by decide,by decide,?_⟩;have F:=size_eq c;have C:=CU c;ext;refine⟨by decide,?_⟩;rw[F.1];refine⟨_,_,h,c,2,rfl,by decide,by decide,?_⟩;ext;refine⟨by lia,?_⟩;rw[C.1];refine⟨short (by simp),fun l i=>?_⟩;unfold ou;ext;refine gS ?_;ext;refine⟨(m:Int),rfl,by lia,by lia,?_⟩;refine fV dX (fun k a d=>aR H d/\d l=some (.lst ((ay k).map fun k=>V.str (nm c k)))/\∃u v w,a=[some (.int c),some (.int m),some (.str LETTERS),some (.int (size c)),some (.int (att c)),some (.ref l),u,v,w])
  ⟨aP i,aK,none,none,none,rfl⟩ (fun _ _ _ _ _=>trivial) ?_ ?_
 ·rintro k x a o f L R ⟨n,e,u,v,w,rfl⟩ rfl r A _;have p:f l=some (.lst ((ay k).map fun k=>V.str (nm c k))):=r _ _ e;have I:aR H f:=n.trans r;ext;simp only[eP];unfold mj;ext;refine gS ?_;ext;refine⟨(size c:Int),rfl,by lia,by lia,?_⟩;refine fV dX (fun j a d=>aR f d/\∃w,a=[some (.int c),some (.int m),some (.str LETTERS),some (.int (size c)),some (.int (att c)),some (.ref l),some (.int k),some (.str (mkS ((full c k).take j))),w])
   ⟨aR.refl _,w,rfl⟩ (fun _ _ _ _ _=>trivial) ?_ ?_
  ·rintro j x a s N M P ⟨b,w,rfl⟩ rfl J B _;have D:j<size c:=by lia
   ext;simp only[eP];refine⟨_,_,h,c,10+(j:Int),rfl,by lia,by lia,?_⟩;ext;refine⟨qk (by decide) (by decide),?_⟩;rw[int_b];ext;have y:(if decide ((j:Int)=(att c:Int))=true then(1:Int)else 0)=if(j:Int)=(att c:Int)then 1 else 0:=by
    by_cases z:(j:Int)=(att c:Int);·rw[decide_eq_true z,if_pos rfl,if_pos z]
    ·rw[decide_eq_false z,if_neg aA,if_neg z]
   rw[y];refine⟨D1 (by split <;>lia) (by split <;>lia),by decide,_,yt,CV _,?_,B _ _ ⟨b.trans J,some (.int j),?_⟩⟩;·rw[mk1,uA,uA,cy,qa];exact short (by simp;lia)
   ·have g:(full c k)[j]? =some (sgn c k j):=by unfold full;rw[ax,bP D];rfl
    rw[mk1,mk_app,dh,g];rfl
  ·rintro a s ⟨b,w,rfl⟩;unfold mi;ext;have O:=yK c k;have t:(att c:Int)+1+((k:Int)*(k:Int)+(size c:Int))%((size c:Int)-(att c:Int))=(uP c k:Int):=by
    unfold uP;have :(size c:Int)-(att c:Int)=((size c-att c:Nat):Int):=by lia
    rw[this];push_cast;rfl
   have g:(full c k).take (size c)=full c k:=fk (by rw[qa];exact aC _);rw[show((size c:Int)).toNat=size c from ba _,g];refine⟨.inl ⟨rfl,_,SqL.of (b _ _ p)⟩,qk (by lia) (by lia),by lia,?_⟩;rw[t,Jy];refine⟨by rw[uA,qa];exact short (by lia),l,_,_,rfl,rfl,b _ _ p,dB (by simp;lia:((ay k).map fun k=>V.str (nm c k)).length<=40) (by decide),A _ _ ⟨gZ (I.trans b) i,?_,_,_,_,rfl⟩⟩;rw[aK,List.range_succ,dc];rfl
 ·rintro a o ⟨n,e,u,v,w,rfl⟩;unfold ot;ext;rw[show((m:Int)).toNat=m from ba _]at e;exact q o l n i e
def Dr(H:Hp)(nf:Nat->Str)(n:Nat)(ys:List V):Prop:=∀(i:Nat) y,ys[i]? =some y->∃b r zs,y=.ref b/\H b=some (.tup [.str (nf i),.ref r])/\H r=some (.tup zs)/\zs.length=n/\∀z∈zs,cM z=true
def qi(k:∀i,iL (nf i)=true)(d:Dr H nf n ys)(t:n<=60)(e:ys[i]? =some y):dJ H y=true/\aY H y=nf i/\cz H y=n/\Kn3 H y:=by
 obtain⟨b,r,m,rfl,c,h,p,j⟩:=d i y e;have o:d4 H (.ref r)=true:=by show(match eA (H r)with |some g=>decide (g.length<=60)&&g.all cM|none=>false)=true;rw[h];show(decide (m.length<=60)&&m.all cM)=true;rw[decide_eq_true (by lia),eL,bK];exact j
 have q:(nf i).length<=20000:=by have :=k i;unfold iL at this;rw[aL,decide_eq_true_eq]at this;lia
 refine⟨?_,?_,?_,⟨Ci c,fun z e=>nomatch e⟩,fun a g e f=>?_⟩;·show(match eA (H b)with |some [n,r]=>isName n&&d4 H r|_=>false)=true;rw[c];show(iL (nf i)&&d4 H (.ref r))=true;rw[k,o];rfl
 ·show(match eA (H b)with |some (.str z::_)=>z|_=>("":Str))=_;rw[c];rfl
 ·show(match eA (H b)with |some [_,.ref b]=>(eA (H b)).elim 0 gW|_=>0)=n;rw[c];show(eA (H r)).elim 0 gW=n;rw[h];exact p
 ·injection e with e
  subst e;rw[c]at f;cases f;refine⟨by show 2<=20000;decide,fun y l=>?_⟩;simp only[aI,dF,or_false]at l;rcases l with rfl|rfl;·exact⟨⟨kn_str,fun z e=>by injection e with e;rw[<-e];exact q⟩,fun a g e=>nomatch e⟩
  ·refine⟨⟨Ci h,fun z e=>nomatch e⟩,fun a g e f=>?_⟩;injection e with e;subst e;rw[h]at f;cases f;refine⟨by lia,fun z s=>?_⟩;rcases hJ (j z s)with rfl|rfl
   ·exact⟨Ck,fun z e=>nomatch e⟩
   ·exact⟨Ck,fun z e=>nomatch e⟩
def uO{t:Addr}(h:∀i,iL (nf i)=true)(q:∀i j,i<ys.length->j<ys.length->nf i=nf j->i=j)(m:H t=some (.lst ys))(d:Dr H nf n ys)(r:ys.length<=40)(g:n<=60):Kn4 H (.ref t)/\dP H (.ref t)=true/\(∀y∈ys,dJ H y=true)/\∀y∈ys,cz H y=n:=by
 have at':∀y∈ys,∃i,ys[i]? =some y:=fun y c=>bG.mp c;have o:∀y∈ys,dJ H y=true:=fun y c=>let⟨i,e⟩:=at' y c;(qi h d g e).1;have k:∀y∈ys,cz H y=n:=fun y c=>let⟨i,e⟩:=at' y c;(qi h d g e).2.2.1;refine⟨⟨⟨Cj m,fun z e=>nomatch e⟩,fun a f e p=>?_⟩,?_,o,k⟩
 ·injection e with e
  subst e;rw[m]at p;cases p;exact⟨by lia,fun y c=>let⟨i,e⟩:=at' y c;(qi h d g e).2.2.2⟩
 ·show(match dZ (H t)with |some f=>decide (f.length<=40)&&(f.all (dJ H)&&(decide ((f.map (aY H)).Nodup)&&decide (∀y∈f,∀z∈f,cz H y=cz H z))) |none=>false)=true;rw[m];show(decide (ys.length<=40)&&(ys.all (dJ H)&&(decide ((ys.map (aY H)).Nodup)&&decide (∀y∈ys,∀z∈ys,cz H y=cz H z))))=true;rw[decide_eq_true r,eL,aL,aL,bK,decide_eq_true_eq,decide_eq_true_eq];refine⟨o,?_,fun y c z s=>by rw[k y c,k z s]⟩;show List.Pairwise (fun a b=>a≠b) _;rw[fC];intro i j hi l u e;rw[ak]at hi l;rw[cS,cS,(qi h d g (ae hi)).2.1,(qi h d g (ae l)).2.1]at e;have :=q i j hi l e;lia
def pow2(h:j<30):JS 0 ((2:Int)^j):=by
 have a:(2:Nat)^j<2^30:=Nat.pow_lt_pow_right (by decide) h;have b:0<(2:Nat)^j:=Nat.pow_pos (by decide);have e:((2:Int)^j)=((2^j:Nat):Int):=by push_cast;rfl
 rw[e];constructor;·lia
 ·exact nZ.mpr a
def p5{vs:List V}(h:∀(i:Nat) v,vs[i]? =some v->∃m:Int,v=.int m):∃ns:List Int,vs=ns.map V.int:=by
 induction vs with
 |nil=>exact⟨[],rfl⟩
 |cons v vs ih=>obtain⟨m,rfl⟩:=h 0 v rfl;obtain⟨ns,rfl⟩:=ih fun i w e=>h (i+1) w (by simpa using e);exact⟨m::ns,rfl⟩
def AJ(b:List Int)(lo hi:Option Int):∃ms:List Int,o5 (b.map V.int) lo hi=ms.map V.int:=by refine p5 fun i v e=>?_;have a:=aG e;unfold o5 at a;obtain⟨m,_,rfl⟩:=aF.mp (List.mem_of_mem_drop (pF a));exact⟨m,rfl⟩
def cut_len(xs:List V):(o5 xs (some 2) (some 14)).length<=12:=by unfold o5;rw[cy,show HT.sIx xs.length xs.length (some 14)=min 14 xs.length from HT.pO _ _ 14,show HT.sIx xs.length 0 (some 2)=min 2 xs.length from HT.pO _ _ 2];lia
end K21
namespace K22
open PySem R
abbrev sC:List Str:=["_law_readings","_law_some"]
abbrev ma:List Str:=["_law_readings","_law_some"]
abbrev mf:CB:=
  (.cons (.ret (.bfn .tuple (.cons (.comp ["_law_j"] [1,0] (.name 0) (.range1 (.bfn .len (.cons (.var 0) .nil))) .no (.ite (.cmp .In (.var 0) (.var 1)) (.bin .Sub (.con (.int 1)) (.idx (.var 2) (.var 0))) (.idx (.var 2) (.var 0)))) .nil)))
  .nil)
abbrev z6:List Str:=["_law_cells","_law_many"]
abbrev rS:List Str:=["_law_cells","_law_many","_law_seed","_law_nodes","_law_links","_law_fresh","_law_k","_law_number","_law_some","_law_j","_law_at"]
abbrev oG:CB:=
  (.cons (.ret (.tup (.cons (.var 3) (.cons (.var 4) .nil))))
  .nil)
abbrev iO:CB:=
  (.cons (.expr (.meth1 .append (.var 3) (.call "_law_otherwise" (.cons (.idx (.var 3) (.var 10)) (.cons (.var 8) .nil)))))
  .nil)
abbrev kD:CB:=
  (.cons (.expr (.meth1 .append (.var 4) (.tup (.cons (.var 10) (.cons (.bfn .len (.cons (.var 3) .nil)) (.cons (.bfn .sorti (.cons (.var 8) .nil)) .nil))))))
  iO)
abbrev jt:CB:=
  (.cons (.iff (.cmp .NotEq (.var 8) (.lst .nil))
  (.cons (.asg (.name 10) (.bin .Mod (.call "_law_draw" (.cons (.idx (.var 0) (.var 6)) (.cons (.bin .Add (.con (.int 41)) (.bin .Mult (.con (.int 4)) (.var 6))) .nil))) (.bfn .len (.cons (.var 3) .nil))))
  kD)
  .nil)
  .nil)
abbrev ju:CB:=
  (.cons (.forr (.name 9) (.range1 (.bin .Add (.con (.int 1)) (.bin .FloorDiv (.bin .Mod (.var 7) (.con (.int 7))) (.con (.int 5)))))
  (.cons (.iff (.cmp .NotEq (.var 5) (.lst .nil))
  (.cons (.expr (.meth1 .append (.var 8) (.meth1 .pop (.var 5) (.bin .Mod (.bin .FloorDiv (.var 7) (.idx (.lst (.cons (.con (.int 7)) (.cons (.con (.int 112)) .nil))) (.var 9))) (.bfn .len (.cons (.var 5) .nil))))))
  .nil)
  .nil)
  .nil))
  jt)
abbrev mn:CB:=
  (.cons (.asg (.name 8) (.lst .nil))
  ju)
abbrev kQ:CB:=
  (.cons (.forr (.name 6) (.range1 (.bfn .len (.cons (.var 0) .nil)))
  (.cons (.asg (.name 7) (.call "_law_draw" (.cons (.idx (.var 0) (.var 6)) (.cons (.bin .Add (.con (.int 40)) (.bin .Mult (.con (.int 4)) (.var 6))) .nil))))
  mn))
  oG)
abbrev oH:CB:=
  (.cons (.asg (.name 5) (.lrng (.var 1)))
  kQ)
abbrev oI:CB:=
  (.cons (.asg (.name 4) (.lst .nil))
  oH)
abbrev kR:CB:=
  (.cons (.asg (.name 3) (.lst (.cons (.bfn .tuple (.cons (.comp ["_law_j"] [2] (.name 0) (.range1 (.var 1)) .no (.bin .Mod (.bin .FloorDiv (.var 1) (.bin .LShift (.con (.int 1)) (.var 0))) (.con (.int 2)))) .nil)) .nil)))
  oI)
abbrev oJ:CB:=
  (.cons (.iff (.cmp .NotEq (.var 0) (.lst .nil))
  (.cons (.asg (.name 2) (.call "_law_draw" (.cons (.idx (.var 0) (.con (.int 0))) (.cons (.con (.int 20)) .nil))))
  .nil)
  .nil)
  kR)
abbrev r9:CB:=
  (.cons (.asg (.name 2) (.con (.int 1)))
  oJ)
abbrev B2:List Str:=["_law_cells","_law_nodes"]
abbrev ur:List Str:=["_law_cells","_law_nodes","_law_held_here","_law_k","_law_number"]
abbrev qp:CB:=
  (.cons (.ret (.var 2))
  .nil)
abbrev mU:CB:=
  (.cons (.iff (.or (.cmp .Gt (.bin .Mod (.var 4) (.con (.int 5))) (.con (.int 0))) (.cmp .Eq (.var 2) (.lst .nil)))
  (.cons (.expr (.meth1 .append (.var 2) (.bin .Mod (.var 3) (.bfn .len (.cons (.var 1) .nil)))))
  .nil)
  (.cons (.expr (.meth1 .append (.var 2) (.bin .Mod (.bin .FloorDiv (.var 4) (.con (.int 5))) (.bfn .len (.cons (.var 1) .nil)))))
  .nil))
  .nil)
abbrev qr:CB:=
  (.cons (.forr (.name 3) (.range1 (.bfn .len (.cons (.var 0) .nil)))
  (.cons (.asg (.name 4) (.call "_law_draw" (.cons (.idx (.var 0) (.var 3)) (.cons (.bin .Add (.con (.int 60)) (.var 3)) .nil))))
  mU))
  qp)
abbrev uW:CB:=
  (.cons (.asg (.name 2) (.lst .nil))
  qr)
end K22
namespace K22
open PySem PySem.Spec PyProof.Rows L2 R Cp Lt Kc K21
def kB{t p:Addr}{fs:List Int}(c:SqL K H t (fs.map V.int))(b:H p=some (.lst [])):∃d a,Rep K H d (.ref t)/\Rep K H a (.ref p)/\hgt d<=30/\eqD d a=decide (fs=[]):=by
 refine⟨.lst (fs.map D.int),.lst [],⟨t,_,rfl,c,fY.ints fs⟩,⟨p,[],rfl,SqL.of b,rfl⟩,by show gK (fs.map D.int)+1<=30;rw[wI];decide,?_⟩;cases fs with
 |nil=>rfl
 |cons x r=>rw[decide_eq_false (by simp)];rfl
theorem i6:∀(l:List Int)(z:Nat)(h:z<l.length),(l[z]::l.eraseIdx z).Perm l
 | [],_,h=>absurd h (gI _)
 |a::l,0,_=>fh _
 |a::l,z+1,h=>by
  have b:z<l.length:=by simpa using h
  exact(j7 a l[z] (l.eraseIdx z)).trans ((i6 l z b).cons a)
section
variable {G:Gam}
section
variable {E:XS}{D2:Ends}{a nd lk fr sm:Addr}{sd d0:Int}
def p6(a:k<ns.length):(ns.map V.int)[k]? =some (.int (ns.getD k 0)):=by rw[ax,ae a,af,ae a];rfl
end
end
def BL(K:ao):Sp:=fun vs H Q _=>∃(a nd:Addr)(ns:List Int)(ys:List V),vs=[.ref a,.ref nd]/\SqL K H a (ns.map V.int)/\SqL K H nd ys/\ns.length<=16/\ys≠[]/\
 ∀(H':Hp)(l:Addr)(hs:List Int),aR H H'->H l=none->H' l=some (.lst (hs.map V.int))->hs.length=ns.length->(∀h∈hs,0<=h/\h<ys.length)->Q (.ref l) H'
section
variable {G:Gam}
def wp_held(J:G.fn "_law_draw" 2=some (kH,[])):
  Sat G K (BL K) uW ur:=by
 rintro vs H Q E ⟨a,nd,t,f,rfl,A,s,Y,R,q⟩;unfold uW qr;change wpB G K _ _ _ [some (.ref a),some (.ref nd),none,none,none] H;ext;have Z:0<f.length:=gd.mpr R;refine⟨short (by simp),fun l r=>?_⟩;have B:aR H (upd H l (.lst [])):=aP r;refine gS ?_;ext;refine Or.inl ⟨a,_,rfl,.inl (B.seq A),_,rfl,by rw[ak];lia,by rw[ak];lia,?_⟩;refine fV dX (fun k y i=>aR H i/\∃b:List Int,i l=some (.lst (b.map V.int))/\b.length=k/\(∀h∈b,0<=h/\h<f.length)/\∃u v,y=[some (.ref a),some (.ref nd),some (.ref l),u,v])
  ⟨B,[],aK,rfl,by simp,none,none,rfl⟩ (fun _ _ _ _ _=>trivial) ?_ ?_
 ·rintro k a0 y z j D N ⟨x,b,e,n,o,u,v,rfl⟩ rfl C L _;have O:k<t.length:=by simpa using N
  have g:=x.trans C;have e:=C _ _ e;ext;simp only[eP];refine⟨_,_,J,.inl ⟨a,_,k,_,rfl,rfl,g.seq A,bS (p6 O),?_⟩⟩;ext;refine⟨_,_,rfl,by lia,by lia,?_⟩;have M:=DY (t.getD k 0) (60+(k:Int));generalize draw (t.getD k 0) (60+(k:Int))=d0 at M⊢;unfold mU;ext;refine⟨by decide,?_⟩;have p:∀(m:Hp)(w:Int),aR j m->x8 (.ref l) [.int (w%(f.length:Int))] m fun _ i=>D.nx [some (.ref a),some (.ref nd),some (.ref l),some (V.int k),some (V.int d0)] i:=by
   intro m w c;refine⟨l,b.map V.int,_,rfl,rfl,c _ _ e,dB (by rw[ak];lia:(b.map V.int).length<=40) (by decide),L _ _ ⟨gZ (g.trans c) r,b++[w%(f.length:Int)],by rw[aK,dc];rfl,by simp[n],fun h hh=>?_,_,_,rfl⟩⟩;rcases aU.mp hh with hh|hh;·exact o h hh
   ·rw[aH]at hh;subst hh;exact⟨bY _ (by lia),cC _ (by lia)⟩
  by_cases h5:(0:Int)<d0%5;·rw[decide_eq_true h5,if_pos rfl,if_pos trivial];refine⟨.inl ⟨rfl,_,SqL.of e⟩,Or.inl ⟨nd,f,rfl,.inl (g.seq s),?_⟩⟩;ext;exact⟨by lia,p j _ (aR.refl _)⟩
  ·rw[decide_eq_false h5,if_neg aA];refine⟨short (by simp),fun S P=>?_⟩;generalize hX:upd j S _=H3;obtain⟨c,I⟩:=eE hX P;clear hX;obtain⟨d,F,T,U,W,X⟩:=kB (K:=K) (SqL.of (c _ _ e)) I;refine⟨d,F,T,U,W,_,rfl,?_⟩;rw[X];by_cases hf:b=[];·rw[decide_eq_true hf,if_pos rfl];refine⟨.inl ⟨rfl,_,SqL.of (c _ _ e)⟩,Or.inl ⟨nd,f,rfl,.inl ((g.trans c).seq s),?_⟩⟩;ext;exact⟨by lia,p H3 _ c⟩
   ·rw[decide_eq_false hf,if_neg aA];refine⟨.inl ⟨rfl,_,SqL.of (c _ _ e)⟩,⟨by decide,by decide⟩,Or.inl ⟨nd,f,rfl,.inl ((g.trans c).seq s),?_⟩⟩;ext;exact⟨by lia,p H3 _ c⟩
 ·rintro y z ⟨x,b,e,n,o,u,v,rfl⟩;unfold qp;ext;exact q z l b x r e (by simp at n;lia) o
end
end K22
namespace Lm
open PySem PySem.Spec PySem.W PyProof.Rows L2 Q
noncomputable abbrev Kp(h h':Heap):Prop:=∀b o,h.get? b=some o->h'.get? b=some o
section
variable {E:Value->Shared->Prop}{s:Shared}
def JE{Q:Value->Shared->Prop}{u:Arguments}{k:Value}{p q t:Pos}{a:Array Value}
  (hf:s.heap.get? f=some (kla_obj "<lambda>" qual u (.Subscript (.Name x p) (.Constant (.int 0) j q) t) scope [] pm c' bn))(C:s.heap.CodeRec (.ref c') qual)(K:A.depth<jD)(I:s.heap.NoLimit)
  (B:∀v,pA (kla_fn "<lambda>" qual u (.Subscript (.Name x p) (.Constant (.int 0) j q) t) scope [] pm (.ref c') bn) ⟨[v],[]⟩=pure [(x,v)])
  (m:scope.names.lookup x=some .local)(G:(x==("__debug__":Str))=false)(d:scope.kind=.function)(D:∀y∈scope.names,y.2≠.cell)(F:scope.isCoroutine=false)(H:scope.isGenerator=false)
  (L:IsTup s.heap b a)(h0:a[0]? =some k)(h:∀h' t',Kp s.heap h'->Q k {s with heap:=h',toks:=t'}):wpAny (model prog w) A (call (.ref f) [.ref b]) Q E s:=by
 refine wpAny_call (kla_callFunE K hf rfl F H rfl C ?_);rw[B];refine aj (wpAny_newFunctionEnv D (fun y M=>?_) (fun n J i=>⟨I.fresh _ i,?_⟩) d)
 ·have e:y=(x,.ref b):=by simpa using M
  rw[e];exact m
 have g:Kp s.heap n:=fun b o e=>i.extBut b o (aO (aB e)) (ai _ e);refine kla_codeExpr (Subscript_ (FQ (wpAny_loadName_local d m J (v:=.ref b) (by simp) ?_) G));refine wpAny_Constant_int ?_;have l:IsTup n b a:=by obtain⟨o,e,c⟩:=L;exact⟨o,g _ _ e,c⟩
 have N:0<a.size:=by
  rcases Nat.eq_zero_or_pos a.size with z|z;·rw[C8 (by lia)]at h0;cases h0
  ·exact z
 exact qF (x:=k) l.typeIs slot_tuple_getitem.lookup
  (getItem_tuple (j:=0) (Q:=fun r O=>r=k/\_) l (by decide) (by decide) (by rw[Bj (by decide) (by lia)];rfl) h0 ⟨rfl,h _ _ g⟩) rfl
def Keys(prog:Program)(w:World)(A:Around)(f:Value)(vs:List Value)(ks:List Str)(h0:Heap):Prop:=
 ∀(i:Nat)(v:Value)(k:Str),vs[i]? =some v->ks[i]? =some k->∀(s1:Shared)(E:Value->Shared->Prop)(a:Value->Shared->Prop),Kp h0 s1.heap->
  (∀t h' t',Kp s1.heap h'->a (.str k t) {s1 with heap:=h',toks:=t'})->wpAny (model prog w) A (call f [v]) a E s1
theorem strs_snoc{k:Str}{t:Tok}:∀{vs:List Value}{ks:List Str},ze vs ks->ze (vs++[.str k t]) (ks++[k])
 |_,_,.nil=>.cons k t .nil
 |_,_,.cons y u h=>.cons y u (strs_snoc h)
def Dc{e f:Nat}{st:SortSt}{P:eG->Shared->Prop}(t:(arrOf st).map (·.2)=eK out)(hz:out.length<64)(p:kv.length<64)(hf:failedOf st=none)
  (n:s.heap.get? kS=some (seqObj "list" kv.toArray e))(l:s.heap.get? a=some (seqObj "list" #[] f))(r:kS≠a)
  (h:∀h' c,(∀b o,b≠a->b≠kS->s.heap.get? b=some o->h'.get? b=some o)->h'.get? a=some (seqObj "list" out.toArray c)->P (.done (.ret .none)) {s with heap:=h'}):
  wpAny (model prog w) A (ksk_tail a false f (.ref kS) st) P E s:=by
 have i:=bM s.heap kS (bp fun _=>(#[]:Array Value));have g:(s.heap.update kS (bp fun _=>(#[]:Array Value))).get? a=some (seqObj "list" #[] f):=(i.2 a (bO r)).trans l;have u:=bM (s.heap.update kS (bp fun _=>(#[]:Array Value))) a (bp fun _=>eK out);obtain⟨d,m⟩:∃d,((s.heap.update kS (bp fun _=>(#[]:Array Value))).update a (bp fun _=>eK out)).get? a=some (seqObj "list" (eK out) d):=⟨_,qJ g fun _=>eK out⟩;unfold ksk_tail;try dsimp only
 rw[t];refine aa (gv n rfl ?_ (by rw[aD];exact fH p) (aW _));refine aa (nL ?_);refine aa (sM g rfl ?_);refine aa (gv g rfl ?_ (aW _) (by simpa using Dd hz));rw[hf];simp only[bne_self_eq_false,aN,if_false];exact aj (h _ d (fun b o j k q=>(u.2 b j).trans ((i.2 b k).trans q)) m)
def end_ok{e f:Nat}{P:eG->Shared->Prop}(nd:ks.Nodup)(r:ze kv ks)(y:ks.length=vs.length)(m:vs.length<64)
  (x:s.heap.get? kS=some (seqObj "list" kv.toArray e))(v:s.heap.get? a=some (seqObj "list" #[] f))(B:kS≠a)
  (h:∀h' c,(∀b o,b≠a->b≠kS->s.heap.get? b=some o->h'.get? b=some o)->h'.get? a=some (seqObj "list" (fT (mL ks) vs).toArray c)->P (.done (.ret .none)) {s with heap:=h'}):
  wpAny (model prog w) A (ksk_end a false vs.toArray f (.ref kS) (eK kv)) P E s:=by
 have g:vs.toArray.size=vs.length:=by simp
 have O:=tO r;have n:kv.length=vs.length:=O.trans y;unfold ksk_end;simp only[aN,if_false];by_cases hn:vs.length<2;·have l:fT (mL ks) vs=vs:=if_pos hn;rw[l]at h;rw[if_pos (by rw[g];exact hn),if_pos (by rw[g];exact hn)];refine aa (aj (aa ?_));rw[StateT.run_pure];refine aj (Dc (out:=vs) ?_ m (by lia) rfl x v B h);show(kv.toArray.zip vs.toArray).map (·.2)=vs.toArray;apply J8;simp[vv,n]
 ·have I:2<=vs.length:=by lia
  have l:fT (mL ks) vs=(run (mL ks) (dH vs.length)).toList.map fun i=>vs.getD i .none:=if_neg hn;rw[l]at h;rw[if_neg (by rw[g];exact hn),if_neg (by rw[g];exact hn)];obtain⟨κ,M,N⟩:=FL (prog:=prog) (w:=w) (A:=A) (h0:=s.heap) r (by lia) s (fun _ _ q=>q);have T:Tot (mL ks) vs.length:=by rw[<-y];exact tJ nd
  obtain⟨F,R,D⟩:=fL T (by lia:1<=vs.length);refine aa (M _ _ (aa ?_));have key:=kat_run (prog:=prog) (w:=w) (A:=A) (E:=E) (κ:=κ) (ks:=kv) (vs:=vs) (s:=s)
   (Q:=fun k d=>d=s/\arrOf k=(run (mL ks) (dH vs.length)).map (kas_item (kv.toArray.zip vs.toArray))/\failedOf k=none)
   (G:=fun p d=>d=s/\p=run (mL ks) (dH vs.length)) n I m
   (fun p k d _ f H u=>⟨u.1,by rw[f,u.2],H⟩)
   (wp_run (S:=fun d=>d=s) (fun i j C d hi U L t J=>by subst t;exact N i j C (by lia) (by lia) L (J _ rfl)) _ _ D rfl fun d t=>⟨t,rfl⟩)
  refine gu key ?_ fun _ _ z=>z;rintro⟨⟨⟩,k⟩ d ⟨rfl,K,hf⟩;exact Dc (kat_snds n K) (by rw[ak,aT,F.size];exact m) (by lia) hf x v B h
def G3{f:Value}{P:eG->Shared->Prop}(nd:ks.Nodup)(U:ks.length=vs.length)(u:s.heap.get? a=some (seqObj "list" vs.toArray n))
  (k0:∀b o,h0.get? b=some o->s.heap.get? b=some o/\b≠a)(F:vs.length<64)(ky:Keys prog w A f vs ks h0)
  (h:∀h' t' c,(∀b o,b≠a->s.heap.get? b=some o->h'.get? b=some o)->h'.get? a=some (seqObj "list" (fT (mL ks) vs).toArray c)->P (.done (.ret .none)) {s with heap:=h',toks:=t'}):
  wpAny (model prog w) A (ksk_tree a f false) P E s:=by
 have V:vs.toArray.size=vs.length:=by simp
 have S:a<s.heap.objs.size:=aB u;have W:=bM s.heap a (bp fun _=>(#[]:Array Value));obtain⟨m,M⟩:∃m,(s.heap.update a (bp fun _=>(#[]:Array Value))).get? a=some (seqObj "list" #[] m):=⟨_,qJ u fun _=> #[]⟩;unfold ksk_tree;refine aa (listItems_at u rfl ?_);refine aa (gv u rfl ?_ (by rw[V];exact fH F) (aW _));refine aa (sM M rfl ?_);refine aa (wpAny_newTuple ?_ (show vs.length<=_ from fH F));refine aa (kF ?_ (aW _));refine bQ ?_;have J:((s.heap.update a (bp fun _=>(#[]:Array Value))).push (seqObj "tuple" vs.toArray 0)).get? a=some (seqObj "list" #[] m):=ai _ M;have O:∀b o,b≠a->s.heap.get? b=some o->((s.heap.update a (bp fun _=>(#[]:Array Value))).push (seqObj "tuple" vs.toArray 0)).get? b=some o:=fun b o g q=>ai _ ((W.2 b g).trans q);have v:s.heap.objs.size<((s.heap.update a (bp fun _=>(#[]:Array Value))).push (seqObj "tuple" vs.toArray 0)).objs.size:=by rw[vX,vA];lia
 show wpAny _ _ (ksk_rest a f false vs.toArray m (.ref ((s.heap.update a (bp fun _=>(#[]:Array Value))).push (seqObj "tuple" vs.toArray 0)).objs.size)) _ _
  {s with heap:=((s.heap.update a (bp fun _=>(#[]:Array Value))).push (seqObj "tuple" vs.toArray 0)).push (seqObj "list" #[] 0)}
 generalize(s.heap.update a (bp fun _=>(#[]:Array Value))).push (seqObj "tuple" vs.toArray 0)=h1 at J O v⊢;have L:h1.objs.size≠a:=fO (fP S v);unfold ksk_rest;refine aa (gL ?_)
 first
  |rw[List.forIn_toArray]
  | (rw[<-k6];simp only[qL])
  |rw[<-k6]
 refine aa (ksk_fold (fun i H=>∃l C d e,H={s with heap:=l,toks:=C}/\ze d (ks.take i)/\l.get? h1.objs.size=some (seqObj "list" (eK d) e)/\l.get? a=some (seqObj "list" #[] m)/\∀b o,b≠a->s.heap.get? b=some o->l.get? b=some o)
  vs 0 _ ⟨_,s.toks,[],0,rfl,by rw[List.take_zero];exact .nil,az _ rfl,ai _ J,fun b o g q=>ai _ (O b o g q)⟩ ?_ ?_)
 ·rintro j x H N ⟨l,C,d,e,rfl,r,p,G,B⟩;rw[vh]at r;have X:j<vs.length:=(aM.mp N).1;have K:ks[j]? =some (ks[j]'(by lia)):=ae (by lia);have Y:d.length=j:=by rw[tO r,cy];lia
  refine aa (vn (ky j x _ N K _ _ _ (fun b o q=>B b o (k0 b o q).2 (k0 b o q).1) fun t I t3 y=>?_));have Q:=bM I h1.objs.size (bp (·.push (iU (ks[j]'(by lia)) t)));have R:(eK d).push (iU (ks[j]'(by lia)) t)=eK (d++[iU (ks[j]'(by lia)) t]):=by simp
  obtain⟨D,T⟩:∃D,(I.update h1.objs.size (bp (·.push (iU (ks[j]'(by lia)) t)))).get? h1.objs.size=some (seqObj "list" (eK (d++[iU (ks[j]'(by lia)) t])) D):=⟨_,by rw[<-R];exact qJ (y _ _ p) (·.push _)⟩;try dsimp only
  refine aa (gv (y _ _ p) rfl ?_ (by rw[aD];exact fH (by lia)) (bf (nX (Array.size_push ..)) (by rw[aD];exact Dd (by lia))));refine aj ⟨rfl,_,t3,d++[iU (ks[j]'(by lia)) t],D,rfl,?_,T,(Q.2 a (bO L)).trans (y _ _ G),fun b o g q=>(Q.2 b (aO (fP (aB q) v))).trans (y _ _ (B b o g q))⟩;rw[vh,dh,K];exact strs_snoc r
 ·rintro H ⟨l,C,d,e,rfl,r,p,G,B⟩;rw[vh,fk (by lia)]at r;try dsimp only
  refine aa (listItems_at p rfl ?_);exact end_ok nd r U F p G L fun h' c k q=>h h' C c (fun b o g z=>k b o g (aO (fP (aB z) v)) (B b o g z)) q
def BQ{q:Addr}{Q:Value->Shared->Prop}(nd:ks.Nodup)(n:ks.length=vs.length)(j:s.heap.IsList l vs.toArray)(a:vs.length<64)(ky:Keys prog w A.in1.in1 (.ref q) vs ks s.heap)
  (h:∀h' t' c,Kp s.heap h'->h'.get? (s.heap.objs.size+1)=some (seqObj "list" (fT (mL ks) vs).toArray c)->Q (.ref (s.heap.objs.size+1)) {s with heap:=h',toks:=t'}):
  wpAny (model prog w) A (call (.builtin "sorted") [.ref l] [(cQ "key",.ref q)]) Q E s:=by
 refine call_function_entry_kw Bk y8 zc (ksk_s1 _ _) ?_;unfold Builtin.«sorted»;refine aa (m:=FZ "sorted" 1 1 _) (aj ?_);refine aa (collect_list j ?_ (by simpa using fH a));refine aa (kF ?_ (show vs.length<=_ from fH a));have g:((s.heap.push (seqObj "list" #[] 0)).update s.heap.objs.size (bp (·++vs.toArray))).objs.size=s.heap.objs.size+1:=by rw[vA,vX]
 have p:Kp s.heap ((s.heap.push (seqObj "list" #[] 0)).update s.heap.objs.size (bp (·++vs.toArray))):=fun b o e=>by have i:=aB e;rw[bu _ _ (fO i)];exact ai _ e
 have d:(((s.heap.push (seqObj "list" #[] 0)).update s.heap.objs.size (bp (·++vs.toArray))).push (seqObj "list" vs.toArray 0)).get? (s.heap.objs.size+1)=some (seqObj "list" vs.toArray 0):=by rw[<-g];exact az _ rfl
 show wpAny _ _ _ _ _ {s with heap:=((s.heap.push (seqObj "list" #[] 0)).update s.heap.objs.size (bp (·++vs.toArray))).push (seqObj "list" vs.toArray 0)};rw[g];have f:Kp s.heap (((s.heap.push (seqObj "list" #[] 0)).update s.heap.objs.size (bp (·++vs.toArray))).push (seqObj "list" vs.toArray 0)):=fun b o e=>ai _ (p b o e);generalize((s.heap.push (seqObj "list" #[] 0)).update s.heap.objs.size (bp (·++vs.toArray))).push (seqObj "list" vs.toArray 0)=h1 at d f⊢;refine aa (bQ (wpAny_call_entry_kw sI ⟨_,d,rfl⟩ qK ?_ (ksk_l1 _ _)));show wpAny (model prog w) A.in1.in1 (Builtin.«list.sort» ⟨[.ref (s.heap.objs.size+1)],[(cQ "key",.ref q)]⟩) _ _ _;rw[ksk_t1];exact G3 (s:={s with heap:=h1}) nd n d (fun b o e=>⟨f b o e,aO (bF (aB e))⟩) a ky fun h' t' c k z=>⟨_,rfl,aj ⟨_,rfl,h h' t' c (fun b o e=>k b o (aO (bF (aB e))) (f b o e)) z⟩⟩
end
structure Tb where
 P:Addr
 pos:Pos
 q:Str
def Tab(T:Tb)(H:Hp):Prop:=H T.P=some (.tbl #[])\/∃c' oc u vs t,H T.P=some (.tbl #[rawInt T.pos.line,rawInt T.pos.col,.ref c'])/\H c'=some (.frz oc u)/\oc.data=.fields vs/\vs[1]? =some (.str T.q t)
structure Gr(T:Tb)(H H':Hp):Prop where
 keep:∀b o,b≠T.P->H b=some o->H' b=some o
 tab:Tab T H->Tab T H'
def Gr.refl(T:Tb)(H:Hp):Gr T H H:=⟨fun _ _ _ e=>e,fun t=>t⟩
def Gr.trans{T:Tb}(a:Gr T H H1)(b:Gr T H1 H2):Gr T H H2:=⟨fun c o n e=>b.keep c o n (a.keep c o n e),fun t=>b.tab (a.tab t)⟩
def Gr.of{T:Tb}(e:aR H H'):Gr T H H':=
 ⟨fun b o _ q=>e b o q,fun t=>by
  rcases t with t|⟨a,h,u,i,tk,c,d,f,g⟩;·exact .inl (e _ _ t)
  ·exact .inr ⟨a,h,u,i,tk,e _ _ c,e _ _ d,f,g⟩⟩
def Tab.ne{T:Tb}(t:Tab T H){o:HO}(e:H b=some o)(n:∀ps,o≠.tbl ps):b≠T.P:=by
 intro z;subst z;rcases t with t|⟨c,h,u,i,tk,a,d,f,g⟩;·rw[t]at e;exact n _ (aX e).symm
 ·rw[a]at e;exact n _ (aX e).symm
section
variable {T:Tb}{a:Addr}
def Gr.at(g:Gr T H H')(t:Tab T H){o:HO}(e:H a=some o)(n:∀ps,o≠.tbl ps):H' a=some o:=g.keep a o (t.ne e n) e
theorem Gr.lst(g:Gr T H H')(t:Tab T H)(e:H a=some (.lst xs)):H' a=some (.lst xs):=g.at t e fun _ z=>by cases z
def Gr.zA(g:Gr T H H')(t:Tab T H)(e:H a=some (.tup xs)):H' a=some (.tup xs):=g.at t e fun _ z=>by cases z
theorem Gr.frz(g:Gr T H H')(t:Tab T H){o:Obj}{u:HO}(e:H a=some (.frz o u)):H' a=some (.frz o u):=g.at t e fun _ z=>by cases z
def Gr.seq(g:Gr T H H')(t:Tab T H)(h:SqL K H a xs):SqL K H' a xs:=by
 rcases h with(h|⟨o,h⟩) |h;·exact .inl (.inl (g.lst t h))
 ·exact .inl (.inr ⟨o,g.frz t h⟩)
 ·exact .inr h
def Gr.tup(g:Gr T H H')(t:Tab T H)(h:SqT K H a xs):SqT K H' a xs:=by
 rcases h with(h|⟨o,h⟩) |h;·exact .inl (.inl (g.zA t h))
 ·exact .inl (.inr ⟨o,g.frz t h⟩)
 ·exact .inr h
end
def un_tab{fs:List Addr}{p:Addr}{j:Obj}{ps more:Array Value}(r:HOk P w H h)(i:∀b o,b≠p->h.get? b=some o->h'.get? b=some o)(c:H p=some (.tbl ps))(l:h.objs.size<=c')
  (s:h'.get? p=some (tabObj (ps++more)))(k:h'.get? c'=some j):
  Un fs [] H (upd (upd H c' (.frz j (.ext fun _=>True))) p (.tbl (ps++more))) h h'/\HOk P w (upd (upd H c' (.frz j (.ext fun _=>True))) p (.tbl (ps++more))) h':=by
 have m:H c'=none:=r.fresh l;have ne:c'≠p:=bO (da c m);have g:∀{b:Addr}{o:HO},H b=some o->b≠p->upd (upd H c' (.frz j (.ext fun _=>True))) p (.tbl (ps++more)) b=some o:=fun{b o} e n=>by rw[bD n,bD (da e m)];exact e
 have f:∀{b:Addr}{o:HO},H b=some o->(∀t,o≠.tbl t)->b≠p:=fun{b o} e n z=>by subst z;rw[c]at e;exact n _ (aX e).symm
 refine⟨⟨fun b o e n _ _=>i b o (fun z=>by rw[z,c]at n;cases n) e,fun b o e n _ _=>⟨o.slots,i b o (fun z=>by rw[z,c]at n;cases n) e⟩,fun b o e n _=>?_,fun b o e _=>?_,fun b A e=>g e (f e fun _ z=>by cases z),
  fun b o u e=>g e (f e fun _ z=>by cases z),fun b t e=>?_⟩,fun b o e=>?_⟩
 ·have a:b≠p:=fun z=>by rw[z,c]at n;cases n
  rw[bD a,bD (aO (bA (aB e) l))];exact n
 ·by_cases a:b=p;·exact⟨_,by rw[a];exact s⟩
  ·exact⟨o,i b o a e⟩
 ·by_cases a:b=p;·subst a;rw[c]at e;cases e;exact⟨more,aK⟩
  ·exact⟨#[],by rw[g e a];simp⟩
 ·by_cases a:b=p;·subst a;rw[aK]at e;cases e;exact s
  ·rw[bD a]at e;by_cases hc2:b=c';·subst hc2;rw[aK]at e;cases e;exact⟨k,trivial,⟨_,k⟩,fun _ _ _ _=>trivial⟩
   ·rw[bD hc2]at e;refine(r b o e).lM (fun d v x q=>i d v ?_ q) (fun d q=>g q (f q fun _ z=>by cases z)) fun d A q=>g q (f q fun _ z=>by cases z);rcases x with z|z;·rw[z];exact a
    ·exact f z fun _ y=>by cases y
def BM(mg:Str->Option Value)(h:Heap):Prop:=∃a b,mg "__builtins__"=some (.ref a)/\a≠mx/\a≠bX/\h.get? a=some b/\b.cls=.type "module"/\b.dict=some mx/\b.data=.plain
def rSortK(K:ao)(T:Tb):List V->Hp->VK->Prop:=fun xs H Q=>∃a ys ks,xs=[V.ref a]/\SqL K H a ys/\ks.length<64/\ks.Nodup/\qD H ys ks/\Tab T H/\
 ∀H2 l,Gr T H H2->H2 l=none->Q (.ref l) (upd H2 l (.lst (sortBy .non ks ys)))
def tK(K:ao)(T:Tb)(te:TE):TE:=fun σ H Q=>kq te qO σ H fun xs H1=>rSortK K T xs H1 Q
structure JR(env:Env)(params:Arguments)(x:Str)(body:Expr)(scope:Scope):Prop where
 cl:FY scope env=pure []
 df:defaultsOf params env=([],[])
 bd:∀(qual:Str)(pm bn v:Value)(c':Addr),pA (kla_fn "<lambda>" qual params body scope [] pm (.ref c') bn) ⟨[v],[]⟩=pure [(x,v)]
 lk:scope.names.lookup x=some .local
 dbg:(x==("__debug__":Str))=false
 kd:scope.kind=.function
 nc:∀y∈scope.names,y.2≠.cell
 co:scope.isCoroutine=false
 gn:scope.isGenerator=false
section
variable {te:TE}{T:Tb}{c:Addr}{p kp p1 p2 p3:Pos}{x:Str}{params:Arguments}
theorem sW(O:JR X.env params x (.Subscript (.Name x p1) (.Constant (.int 0) j p2) p3) scope)(ok:HOk X.prog X.w H s.heap)
  (hf:s.heap.get? f=some (kla_obj "<lambda>" qual params (.Subscript (.Name x p1) (.Constant (.int 0) j p2) p3) scope [] pm c' bn))(e:s.heap.CodeRec (.ref c') qual)(h:A.depth<jD)(g:s.heap.NoLimit):
  ∀{ys:List V}{ks:List Str}{vs:List Value},qD H ys ks->bZ ys vs->Keys prog w A (.ref f) vs ks s.heap
 |_,_,_,.nil,.nil=>fun i v k c=>by simp at c
 |_,_,_,.cons y t,.cons r q=>by
  intro i v k c d G E l b hq;cases i with
  |zero=>
   obtain⟨a,K,rfl,p⟩:=y;cases r;have m:v=aZ a:=by simpa using c.symm
   subst m;obtain⟨_,J,F,o,u,z,n,B⟩:=ok a _ p;cases F with
   |cons r0 _=>obtain⟨tk,rfl⟩:=r0;obtain rfl:=aX d;exact JE (b _ _ hf) (e.keeps b) h (g.keeps b) (fun v=>O.bd _ _ _ v _) O.lk O.dbg O.kd O.nc O.co O.gn ⟨o,b _ _ u,z,n,B⟩ (by simp) fun C I D=>hq tk C I D
  |succ i=>exact sW O ok hf e h g t q i v k (by simpa using c) (by simpa using d) G E l b hq
def wj{Q:VK}(O:JR X.env params x (.Subscript (.Name x p1) (.Constant (.int 0) j p2) p3) scope)(I:Inv X pins σ H s)
  (hf:s.heap.get? f=some (kla_obj "<lambda>" T.q params (.Subscript (.Name x p1) (.Constant (.int 0) j p2) p3) scope [] pm c' bn))(e:s.heap.CodeRec (.ref c') T.q)(i:X.A.depth<jD)
  (hq:SqL X.K H a ys)(t:ks.length<64)(nd:ks.Nodup)(c:qD H ys ks)(q:∀l,H l=none->Q (.ref l) (upd H l (.lst (sortBy .non ks ys)))):
  wpAny (model X.prog X.w) X.A (call (.builtin "sorted") [.ref a] [(cQ "key",.ref f)]) (EP X pins σ Q) X.xe s:=by
 obtain⟨o,b,p,v⟩:=I.list hq;have h:ks.length=ys.length:=rP c;have u:=b.length;have m:ks.length=o.length:=by lia
 refine BQ nd m p.isList (by lia) (sW (A:=X.A.in1.in1) O I.hok hf e i I.nolimit c b) fun r t' d k g=>?_;have n:(sortBy V.non ks ys).length<=sizeLine:=by unfold sortBy;rw[ak,ord_len ks nd];lia
 exact⟨.ref (s.heap.objs.size+1),_,I.laid (t':=t') k (eR _) (show d7 X.prog X.w _ _ _ (.lst (sortBy .non ks ys))from⟨n,_,d,HU nd h b,g⟩),rfl,q _ (I.hok.fresh (eR _))⟩
def HH(he:PE X e te)(hs:cf [e] X.env=(false,eval e X.env)::cf [] X.env)(hg:Gl X "sorted")(hm:X.mg "sorted"=none)(B:X.env.code=.ref c)(A:CodeHd X.base c T.P)(hq:X.env.qual++"<lambda>"=T.q)(hb:BM X.mg X.base)
  (O:JR X.env params x (.Subscript (.Name x p1) (.Constant (.int 0) j p2) p3) scope)(J:X.A.depth<jD):
  PE X (.Call (.Name "sorted" p) [e] [⟨some (cQ "key"),.Lambda params (.Subscript (.Name x p1) (.Constant (.int 0) j p2) p3) scope T.pos,kp⟩] pos) (tK X.K T te):=by
 intro a9 b9 σ H c0 I a0;refine gM (i5 (u:=.builtin "sorted") I hg hm (by decide+kernel) ?_);refine callWith_kw (thn (iq he kI hs pos a9 b9 σ H _ I a0) fun us f ⟨i,g,a,b7,c1,ys,ks,Z,sq,w,nd,F,tb,q⟩=>?_) (by rw[hs];rfl) (by rw[hs];rfl);subst Z;obtain⟨u,rfl,rx⟩:=vals1 b7;cases rx;obtain⟨v,ob,P,Q,N,s,R,S,U⟩:=hb;have E:f.heap.Ns bX X.mg:=a.mod.glob.keeps a.bk;have a1:v≠T.P:=fun z=>by have n:=(a.bs _ _ s).2;rw[z]at n;rcases tb with t|⟨_,_,_,_,_,t,_⟩<;>(rw[t]at n;cases n)
 have a3:bX≠T.P:=fun z=>by obtain⟨o,es,ep,g1,g2,_⟩:=a.mod.glob;have n:=(a.bs _ _ g1).2;rw[z]at n;rcases tb with t|⟨_,_,_,_,_,t,_⟩<;>(rw[t]at n;cases n)
 have y:f.heap.BuiltinsAt X.mg T.P:=⟨v,ob,P,Q,N,a1,a.bk _ _ s,R,S,U⟩;refine kws_cons (kla_eval O.df ?_);rw[hq];rcases tb with t|⟨d,h,u,i,tk,t,a2,k,a6⟩
 ·refine kla_makeFunction (mg:=X.mg) O.cl a.ok.glob E B (A.keeps a.bk) (ps:= #[]) (a.hok _ _ t) True.intro rfl a3 y fun d m h' tk hx D c3 a4 a5=>kws_nil ?_;obtain⟨c2,h,i,L,Y,k,C,K⟩:=a4;cases Y;have a7:∀b o,b≠T.P->f.heap.get? b=some o->(h'.push (kla_obj "<lambda>" T.q params (.Subscript (.Name x p1) (.Constant (.int 0) j p2) p3) scope [] ((X.mg "__name__").getD .none) d m)).get? b=some o:=fun b o n e=>ai _ (hx b o n e);obtain⟨un,ok⟩:=un_tab (fs:=frs X.stack) a.hok a7 t D (ai _ a5) (ai _ k);have l:=a.call (g':=f.gens) (t':=tk) (d':=f.drawn) un ok a.bare (fun b z=>absurd z (by simp));have M:Tab T g:=.inl t;have gr:Gr T g (upd (upd g d (.frz h (.ext fun _=>True))) T.P (.tbl (#[]++ #[rawInt T.pos.line,rawInt T.pos.col,aZ d]))):=by
   have G:g d=none:=a.hok.fresh D;refine⟨fun b o n e=>by rw[bD n,bD (da e G)];exact e,fun _=>.inr ⟨d,h,.ext fun _=>True,i,L,?_,?_,C,K⟩⟩;·rw[aK];simp
   ·rw[bD (bO (da t G)),aK]
  exact wj O l (az _ rfl) ⟨d,h,i,L,rfl,ai _ k,C,K⟩ J (gr.seq M sq) w nd (Paired.uD F fun c6 c5 ⟨b,b8,V,W⟩=>⟨b,b8,V,gr.zA M W⟩) (q _ · gr)
 ·refine kla_makeFunctionHit (mg:=X.mg) O.cl a.ok.glob E B (A.keeps a.bk) (a.hok _ _ t) (by simp[TriplesOk,rawInt]) (cv:=.ref d) (by simp[codeAmong,rawInt]) y fun m h' tk r c4=>kws_nil ?_;have l:=a.call (H':=g) (h':=h'.push (kla_obj "<lambda>" T.q params (.Subscript (.Name x p1) (.Constant (.int 0) j p2) p3) scope [] ((X.mg "__name__").getD .none) d m)) (g':=f.gens) (t':=tk) (d':=f.drawn) (ch:=[])
   (Un.kept fun b o e=>ai _ (r b o e)) (a.hok.kept fun b o e=>ai _ (r b o e)) a.bare (fun b z=>absurd z (by simp))
  exact wj O l (az _ rfl) ⟨d,h,i,_,rfl,ai _ (r _ _ (a.hok _ _ a2).1),k,a6⟩ J sq w nd F fun a8 hl=>q g a8 (Gr.refl _ _) hl
end
end Lm
namespace Lm
open PySem PySem.Spec PySem.W PyProof.Rows L2 Q R
abbrev pZ(lx:Str)(p:Pos):Arguments:={posonlyargs:=[],args:=[⟨lx,none,p⟩],vararg:=none,kwonlyargs:=[],kw_defaults:=[],kwarg:=none,defaults:=[]}
abbrev isArg(lx:Str):List Arg->Bool
 |x::r=>r.isEmpty&&(x.annotation.isNone&&x.arg==lx)
 | []=>false
abbrev wH(lx:Str)(a:Arguments):Bool:=a.posonlyargs.isEmpty&&(a.vararg.isNone&&(a.kwonlyargs.isEmpty&&(a.kw_defaults.isEmpty&&(a.kwarg.isNone&&(a.defaults.isEmpty&&isArg lx a.args)))))
def jv{a b:Bool}(h:(a&&b)=true):a=true/\b=true:=by rwa [aL]at h
def emp{a:Type}{l:List a}(h:l.isEmpty=true):l=[]:=List.isEmpty_iff.mp h
def non{a:Type}{l:Option a}(h:l.isNone=true):l=none:=hV.mp h
def Cg{a:Arguments}(h:wH lx a=true):∃p,a=pZ lx p:=by
 obtain⟨q,b,s,n,m,o,df⟩:=a;obtain⟨c,h⟩:=jv h;obtain⟨d,h⟩:=jv h;obtain⟨e,h⟩:=jv h;obtain⟨f,h⟩:=jv h;obtain⟨g,h⟩:=jv h;obtain⟨i,h⟩:=jv h;cases b with
 |nil=>exact(aA h).elim
 |cons x r=>obtain⟨j,h⟩:=jv h;obtain⟨k,l⟩:=jv h;obtain⟨y,an,p⟩:=x;exact⟨p,by rw[(emp c:q=[]),(non d:s=none),(emp e:n=[]),(emp f:m=[]),(non g:o=none),(emp i:df=[]),(emp j:r=[]),(non k:an=none),(eq_of_beq l:y=lx)];rfl⟩
abbrev oZ(lx:Str)(sc:Scope):Bool:=decide (sc.names=[(lx,.local)])&&(decide (sc.kind=.function)&&(decide (sc.isCoroutine=false)&&(decide (sc.isGenerator=false)&&(lx==("__debug__":Str))==false)))
abbrev isNm(lx:Str):Expr->Bool
 |.Name x _=>x==lx
 |_=>false
def DM(h:isNm lx e=true):∃p,e=.Name lx p:=by
 cases e with
 |Name x p=>cases eq_of_beq h;exact⟨p,rfl⟩
 |_=>exact(aA h).elim
abbrev isZero:Expr->Bool
 |.Constant c _ _=>decide (c=.int 0)
 |_=>false
def Fj(h:isZero e=true):∃j p,e=.Constant (.int 0) j p:=by
 cases e with
 |Constant c j p=>cases of_decide_eq_true h;exact⟨j,p,rfl⟩
 |_=>exact(aA h).elim
abbrev DN(lx:Str):Expr->Bool
 |.Subscript a b _=>isNm lx a&&isZero b
 |_=>false
def Co(h:DN lx e=true):∃p1 j p2 p3,e=.Subscript (.Name lx p1) (.Constant (.int 0) j p2) p3:=by
 cases e with
 |Subscript a b p=>obtain⟨c,d⟩:=jv h;obtain⟨p1,rfl⟩:=DM c;obtain⟨j,p2,rfl⟩:=Fj d;exact⟨_,_,_,_,rfl⟩
 |_=>exact(aA h).elim
abbrev CK(lx:Str)(pos:Pos):Expr->Bool
 |.Lambda params body scope lp=>decide (lp=pos)&&(wH lx params&&(oZ lx scope&&DN lx body))
 |_=>false
def FA(h:CK lx pos e=true):∃a scope p1 j p2 p3,e=.Lambda (pZ lx a) (.Subscript (.Name lx p1) (.Constant (.int 0) j p2) p3) scope pos/\oZ lx scope=true:=by
 cases e with
 |Lambda params body scope lp=>obtain⟨b,h⟩:=jv h;obtain⟨c,h⟩:=jv h;obtain⟨d,f⟩:=jv h;cases of_decide_eq_true b;obtain⟨a,rfl⟩:=Cg c;obtain⟨p1,j,p2,p3,rfl⟩:=Co f;exact⟨_,_,_,_,_,_,rfl,d⟩
 |_=>exact(aA h).elim
abbrev JC(lx:Str)(pos:Pos):List Keyword->Bool
 |k::r=>r.isEmpty&&(decide (k.arg=some (cQ "key"))&&CK lx pos k.value)
 | []=>false
abbrev uV(sc:Scope)(N:List Str)(a:CE)(lx:Str)(pos:Pos):Expr->Bool
 |.Call f es ks _=>isNm "sorted" f&&(mP sc "sorted"&&(o8 sc N (.cons a .nil) es&&JC lx pos ks))
 |_=>false
abbrev JB(sc:Scope)(N:List Str)(i:Nat):List Expr->Bool
 |g::r=>r.isEmpty&&uU sc N true (.name i) g
 | []=>false
abbrev CM(sc:Scope)(N:List Str)(i:Nat)(a:CE)(lx:Str)(pos:Pos):Stmt->Bool
 |.Assign ts v _=>JB sc N i ts&&uV sc N a lx pos v
 |_=>false
def asg_of{a:CE}{s:Stmt}(h:CM sc N i a lx pos s=true):∃ts v p,s=.Assign ts v p/\JB sc N i ts=true/\uV sc N a lx pos v=true:=by
 cases s<;>first |exact eM h|skip
 obtain⟨b,c⟩:=jv h;exact⟨_,_,_,rfl,b,c⟩
def tg_of{a:List Expr}(h:JB sc N i a=true):∃g,a=[g]/\uU sc N true (.name i) g=true:=by
 cases a with
 |nil=>exact eM h
 |cons g r=>obtain⟨b,c⟩:=jv h;cases emp b;exact⟨g,rfl,c⟩
def JG{b:CE}{v:Expr}(h:uV sc N b lx pos v=true):∃f es ks c,v=.Call f es ks c/\isNm "sorted" f=true/\mP sc "sorted"=true/\o8 sc N (.cons b .nil) es=true/\JC lx pos ks=true:=by
 cases v<;>first |exact eM h|skip
 obtain⟨d,a⟩:=jv h;obtain⟨e,a⟩:=jv a;obtain⟨g,i⟩:=jv a;exact⟨_,_,_,_,rfl,d,e,g,i⟩
def kw_of{ks:List Keyword}(h:JC lx pos ks=true):∃kv kp,ks=[⟨some (cQ "key"),kv,kp⟩]/\CK lx pos kv=true:=by
 cases ks with
 |nil=>exact eM h
 |cons k ks=>obtain⟨a,b⟩:=jv h;obtain⟨c,d⟩:=jv b;cases emp a;obtain⟨e,kv,kp⟩:=k;cases of_decide_eq_true c;exact⟨_,_,rfl,d⟩
def AsgO(sc:Scope)(N:List Str)(i:Nat)(a:CE)(lx:Str)(pos:Pos)(s:Stmt):Prop:=∃g e c scope p1 j p2 p3 p kp b sp,s=.Assign [g] (.Call (.Name "sorted" p) [e] [⟨some (cQ "key"),.Lambda (pZ lx c) (.Subscript (.Name lx p1) (.Constant (.int 0) j p2) p3) scope pos,kp⟩] b) sp/\
  uU sc N true (.name i) g=true/\mP sc "sorted"=true/\eQ sc N a e=true/\oZ lx scope=true
def FC{a:CE}{s:Stmt}(h:CM sc N i a lx pos s=true):AsgO sc N i a lx pos s:=by obtain⟨I,v,H,rfl,c,m⟩:=asg_of h;obtain⟨g,rfl,n⟩:=tg_of c;obtain⟨f,x,z,w,rfl,o,q,r,t⟩:=JG m;obtain⟨p,rfl⟩:=DM o;obtain⟨e,F,rfl,u,d⟩:=nF r;cases ql d;obtain⟨A,y,rfl,k⟩:=kw_of t;obtain⟨E,G,B,j,C,D,b,l⟩:=FA k;cases b;exact⟨_,_,_,_,_,_,_,_,_,_,_,_,rfl,n,q,u,l⟩
abbrev chkK(sc:Scope)(N:List Str)(a:CS)(i:Nat)(c:CE)(lx:Str)(pos:Pos)(b:CB):List Stmt->Bool
 |s1::r=>chkS sc N a s1&&rst r
 | []=>false
where rst:List Stmt->Bool
 |s2::rest=>CM sc N i c lx pos s2&&vS sc N b rest
 | []=>false
section
variable {mg:Str->Option Value}
def Ji{st:Stmt}{q:gT}{ps:List Str}{sp:Sp}{l:CS}{n:CE}{m:CB}{T:Tb}(F:Fun K x qual st f q)(Y:pS N ps (bc st)=true)
  (b:chkK (bc st) N l i n lx T.pos m (bJ st)=true)(W:q.code=.ref c)(O:CodeHd base c T.P)(hq:qual++".<locals>."++"<lambda>"=T.q)(U:BM mg base)
  (V:∀(p:Pos)(j:Expr)(scope:Scope)(qual:Str)(pm bn v:Value)(c':Addr),pA (kla_fn "<lambda>" qual (pZ lx p) j scope [] pm (.ref c') bn) ⟨[v],[]⟩=pure [(lx,v)])
  (g:GOk P w K mg base (CXx P w) k G)(len:∀vs H Q E,sp vs H Q E->vs.length=ps.length)
  (h:∀vs H Q E,sp vs H Q E->vG (wpS G K (fun _=>E) l) (vG (xF (tK K T (wpE G K (fun _=>E) n)) (me i)) (wpB G K (fun _=>E) m)) {nx:=fun _ H'=>Q .non H',rt:=Q} (start N vs) H):j6 P w K mg base (CXx P w) (k+1) f q ps sp:=by
 have S:=Aa Y;obtain⟨oc,od,kV,a1,pm,an,C,ct,a3,rfl,lk,X⟩:=F.ex;have D:C=.ref c:=W;subst D;refine fn_of lk X S len fun a0 outer a4 H vs Q E u Z=>?_;have o:=HY (outer:=outer) (E:=E) (H:=H) S g u;refine⟨_,?_,h vs H Q E Z⟩;generalize hB:bJ st=j at b;cases j with
 |nil=>exact(aA b).elim
 |cons s1 r=>
  obtain⟨I,b⟩:=jv b;cases r with
  |nil=>exact(aA b).elim
  |cons s2 rest=>
  obtain⟨J,L⟩:=jv b;obtain⟨g',e,pa,scope,p1,a2,p2,p3,p,kp,cp,a5,rfl,s,M,t,a⟩:=FC J;obtain⟨d,a⟩:=jv a;obtain⟨y,a⟩:=jv a;obtain⟨A,a⟩:=jv a;obtain⟨B,n5⟩:=jv a;rw[decide_eq_true_eq]at d y A B;have R:=qP (CX:=CXx P w) (fun _ _ _ _ _ z=>Fv z) (.name i) _ o s;refine ub (GZ (fun _ _ _ _ _ z=>Fv z) l s1 o (fun _ _ _ _ _=>S.kind) I) (ub ?_ (qQ (fun _ _ _ _ _ z=>Fv z) m rest o (fun _ _ _ _ _=>S.kind) L));refine HA (HH (c:=c) (T:=T) (cm (fun _ _ _ _ _ z=>Fv z) n e o t) (cL t [] _) (o.gl M) (g.blt _ (by decide+kernel)) rfl O hq U ?_ ?_) R (Ie rfl _ _ _) (um s (gm _) _) (by rw[pT s];rfl)
  ·refine⟨?_,rfl,fun qual pm bn v c'=>V pa _ _ qual pm bn v c',by rw[d];simp,by simpa using n5,y,?_,A,B⟩;·unfold FY;rw[d];rfl
   ·rw[d];intro z hz;have :z=(lx,eO.local):=by simpa using hz
    rw[this];exact fun z=>by cases z
  ·exact u.depth
end
abbrev jU(K:ao)(tabs:List Addr)(a:Addr)(vs:List Value)(ns:List Int):Hp:=fun b=>
 if b∈tabs then some (.tbl #[])else if b=a/\K.lookup a=none then some (.frz {cls:=.type "list",data:=.seq vs.toArray} (.lst (ns.map V.int)))else none
def Fg{CX:CXT}{D:gT}{sp:Sp}{c:Shared}(B:K.In c.heap)
  (J:c.heap.Ns bX mg)(f:c.heap.Ns mx mb)(a0:∀x:Str,x≠"__name__"->mb x=fZ x)(a2:c.heap.NoLimit)(hg:c.gens= #[])(j:c.heap.get? a=some {cls:=.type "list",data:=.seq vs.toArray})
  (hi:cD vs ns) (I:ns.length<=sizeLine) (hr:ke k Ek) (t:∀p∈tabs,c.heap.get? p=some (tabObj #[])/\isCodeTable c.heap p/\K.lookup p=none)
  (F:∀base:Heap,K.In base->base.Ns bX mg->(∀b o,c.heap.get? b=some o->o.cls≠.none->o.cls≠.type "list"->base.get? b=some o)->j6 P w K mg base CX k fa D [x] sp)
  (a1:∀(s:Shared)(u:Value),BindsTo s D ⟨[u],[]⟩ [(x,u)])
  (a4:∀H:Hp,(∀p∈tabs,H p=some (.tbl #[]))->SqL K H a (ns.map V.int)->sp [.ref a] H (fun v _=>v=.bl true) fun _ _ _=>False) (W:∀H e s',CX [] H c (fun _ _ _=>False) e s'->False):
  je (model P w) Ek (.call (.ref fa) ⟨[.ref a],[]⟩) (fun r s'=>r=.ok (.ret (.bool true))/\OldK c.heap s'.heap/\s'.os=c.os/\nR s'.gens) c:=by
 have M:=qM hi;have a5:=hi.length;have y:∀b,(b∈tabs/\jU K tabs a vs ns b=some (.tbl #[]))\/(b=a/\K.lookup a=none/\jU K tabs a vs ns b=some (.frz {cls:=.type "list",data:=.seq vs.toArray} (.lst (ns.map V.int))))\/jU K tabs a vs ns b=none:=fun b=>by
  unfold jU;by_cases i:b∈tabs;·exact .inl ⟨i,if_pos i⟩
  ·rw[if_neg i];by_cases g:b=a/\K.lookup a=none;·exact .inr (.inl ⟨g.1,g.2,if_pos g⟩)
   ·exact .inr (.inr (if_neg g))
 have N:∀p∈tabs,jU K tabs a vs ns p=some (.tbl #[]):=fun p hp=>if_pos hp;have Z:a∉tabs:=fun z=>by have :=(t a z).1;rw[j]at this;cases this
 --what is neither a table nor a list is not tracked
 have O:∀{b:Addr}{o:Obj},c.heap.get? b=some o->o.cls≠.none\/(∃n l,o.data=.dict n l)->o.cls≠.type "list"\/(∃n l,o.data=.dict n l)->jU K tabs a vs ns b=none:=fun{b o} e i g=>by
  rcases y b with⟨q,_⟩ |⟨rfl,_⟩ |q
  ·have :=(t b q).1;rw[e]at this;cases this;rcases i with z|⟨_,_,z⟩;·exact absurd rfl z
   ·cases z
  ·rw[j]at e;cases e;rcases g with z|⟨_,_,z⟩;·exact absurd rfl z
   ·cases z
  ·exact q
 have A:∀{b:Addr}{m:Str->Option Value},c.heap.Ns b m->(Aw c.heap (jU K tabs a vs ns)).Ns b m:=fun{b m} ⟨o,n,l,e,d,r⟩=>⟨o,n,l,uI e (O e (.inr ⟨_,_,d⟩) (.inr ⟨_,_,d⟩)),d,r⟩;have G:K.In (Aw c.heap (jU K tabs a vs ns)):=fun b o e=>uI (B b o e) (by
  rcases y b with⟨q,_⟩ |⟨rfl,z,_⟩ |q;·rw[(t b q).2.2]at e;cases e
  ·rw[z]at e;cases e
  ·exact q)
 have a3:HOk P w (jU K tabs a vs ns) c.heap:=fun b o e=>by
  rcases y b with⟨q,z⟩ |⟨rfl,_,z⟩ |z;·rw[z]at e;cases e;exact(t b q).1
  ·rw[z]at e;cases e;exact⟨j,by rw[ak];exact I,vs,_,M,j⟩
  ·rw[z]at e;cases e
 have Y:SqL K (jU K tabs a vs ns) a (ns.map V.int):=by
  cases hk:K.lookup a with
  |none=>refine .inl (.inr ⟨{cls:=.type "list",data:=.seq vs.toArray},?_⟩);unfold jU;rw[if_neg Z,if_pos ⟨rfl,hk⟩]
  |some o=>have e:=B a o hk;rw[j]at e;cases e;exact .inr ⟨_,vs.toArray,_,hk,rfl,rfl,rfl,by rw[aD,a5];exact I,by simpa using M⟩
 have X:Mod K mg (Aw c.heap (jU K tabs a vs ns)):=⟨G,A J,⟨mb,A f,a0⟩,let⟨mc,i,g⟩:=a2;⟨mc,A i,g⟩⟩;have S:Env0 P w K mg (Aw c.heap (jU K tabs a vs ns)) Ek [] c (jU K tabs a vs ns):=⟨rfl,X,fun b o e=>of_hidT e,nX (Fq _ _),trivial,fun b f=>absurd (show b∈([]:List Addr)from f) (by simp),a3,.of_eq hg⟩;have U:=F _ G (A J) fun b o e i g=>uI e (O e (.inl i) (.inl g));refine l5 (U.run Ek [] c (jU K tabs a vs ns) ⟨[.ref a],[]⟩ [.ref a] [.ref a] _ _ hr S (a1 c (.ref a)) (.cons rfl .nil) (a4 _ N Y)) fun r s' h=>?_;cases r with
 |error e=>exact(W _ e s' h).elim
 |ok fl=>
  cases fl with
  |next =>exact kY h
  |brk=>exact kY h
  |cont=>exact kY h
  |ret u=>
   obtain⟨v,H',os,Q,un,L,r',q⟩:=h;have q':v=.bl true:=q;subst q';obtain rfl:u=zd true:=r';have kept:∀b o,c.heap.get? b=some o->b∉tabs->s'.heap.get? b=some o:=fun b o e nt=>by
    rcases y b with⟨z,_⟩ |⟨rfl,_,z⟩ |z;·exact absurd z nt
    ·have z2:=un.frzs b _ _ z;obtain⟨T,_⟩:=L b _ z2;rw[j]at e;cases e;exact T
    ·exact un.keep b o e z (by intro z;exact absurd (show b∈([]:List Addr)from z) (by simp)) (by simp)
   have E:∀b∈tabs,∃more,s'.heap.get? b=some (tabObj (#[]++more)):=fun b f=>by obtain⟨more,z⟩:=un.tbls b _ (N b f);exact⟨more,L b _ z⟩
   refine⟨rfl,⟨fun b o e=>?_,fun b o e=>?_⟩,os,Q⟩
   ·by_cases f:b∈tabs;·obtain⟨C,R,_⟩:=t b f;rw[e]at C;cases C;obtain⟨more,z⟩:=E b f;exact .inr (.inl ⟨R,rfl,#[],more,rfl,z⟩)
    ·exact .inl (kept b o e f)
   ·by_cases f:b∈tabs;·obtain⟨more,z⟩:=E b f;exact⟨_,z⟩
    ·exact⟨o,kept b o e f⟩
def bm_of(m:h.Ns bX mg)(k:∃b a,mg "__builtins__"=some (.ref b)/\b≠mx/\h.get? b=some a/\a.cls=.type "module"/\a.dict=some mx/\a.data=.plain):BM mg h:=by obtain⟨b,a,f,g,c,i,j,d⟩:=k;refine⟨b,a,f,g,fun q=>?_,c,i,j,d⟩;obtain⟨o,p,n,e,l,_⟩:=m;rw[q,e]at c;cases c;rw[l]at d;cases d
def Gp{l:PySem.W.OpenLaw}{q:Program}{XP:(Str->Option Value)->Heap->Prop}{YP:World->Heap->Prop}{d:DefRec}{K:Params->ao}{CX:CXT}{sp:ao->Sp}
  (Q:l.most=some n)(R:n<=sizeLine)(M:d.params.defaults=[])(U:ke k Ek)(I:∀(w:World)(h:Heap),YP w h->(K w.params).In h)
  (E:∀(w:World)(c:Shared)(mg mb:Str->Option Value)(h:Heap),Ground q loose [] XP w c mg mb h->YP w h->∀p∈tabs,h.get? p=some (tabObj #[])/\isCodeTable h p/\(K w.params).lookup p=none)
  (F:∀(w:World)(mg:Str->Option Value)(fa:Addr)(h:Heap),(K w.params).In h->h.Ns bX mg->mg d.name=some (.ref fa)->
   ∃fd:gT,(∀(s:Shared)(u:Value),BindsTo s fd ⟨[u],[]⟩ [(x,u)])/\
    ∀base:Heap,(K w.params).In base->base.Ns bX mg->BM mg base->j6 l.prog w (K w.params) mg base CX k fa fd [x] (sp (K w.params)))
  (W:∀(K:ao)(H:Hp)(a:Addr)(ns:List Int),ns.length<=n->(∀p∈tabs,H p=some (.tbl #[]))->SqL K H a (ns.map V.int)->sp K [.ref a] H (fun v _=>v=.bl true) fun _ _ _=>False)
  (C:∀(H:Hp)(s:Shared)(e:Value)(s':Shared),CX [] H s (fun _ _ _=>False) e s'->False):
  PySem.W.WalkO q loose XP YP l.row.toRowW d [] (fun f vs=>PySem.call f vs):=by
 refine Att.A2 Q M fun w c a0 mg mb fa a3 pm cd a1 a vs ns G Y ho hd a2 P T O j N=>?_;have g:=I w _ Y;obtain⟨fd,J,D⟩:=F w mg fa _ g G.T.g P;have L:=bm_of G.T.g G.T.bmain;refine Fg g G.T.g G.T.b G.T.builtins G.T.nolimit N T O (bf j R) U (E w c mg mb _ G Y) (fun base X Z k3=>D base X Z ?_) J (fun H t S=>W _ H a ns j t S) fun H e s'=>C H a0 e s';obtain⟨i,m,r,y,o,z,b,A,B⟩:=L;exact⟨i,m,r,y,o,k3 i m z (by rw[b];nofun) (by rw[b];decide),b,A,B⟩
end Lm
namespace Cp
open PySem PySem.Spec PyProof.Rows L2 R Lm
abbrev pQ:List Str:=["table"]
abbrev jz:List Str:=["table","ordered"]
abbrev kU:CS:=.expr (.call "need_table" (.cons (.var 0) .nil))
abbrev kT:CB:=.cons (.ret (.comp ["name","readings"] [] (.tup (.cons (.name 0) (.cons (.name 1) .nil))) (.seq (.var 1)) .no (.tup (.cons (.var 0) (.cons (.bfn .tuple (.cons (.bfn .list (.cons (.var 1) .nil)) .nil)) .nil))))) .nil
def _root_.Lm.Gr.free{T:Tb}(g:Gr T H H')(t:Tab T H)(h:H' l=none):H l=none:=by
 cases e:H l with
 |none=>rfl
 |some o=>
  by_cases n:l=T.P
  ·rcases g.tab t with z|⟨_,_,_,_,_,z,_⟩;·rw[n,z]at h;cases h
   ·rw[n,z]at h;cases h
  ·rw[g.keep l o n e]at h;cases h
abbrev srt(H:Hp):V->List V
 |.ref a=>match dZ (H a)with
  |some ys=>_root_.Q.sortBy .non (ys.map (aY H)) ys
  |none=>[]
 |_=>[]
def Copied(H H':Hp)(us zs:List V):Prop:=zs.length=us.length/\∀(i:Nat) z,zs[i]? =some z->∃b r,z=.ref b/\H' b=some (.tup [.str (aY H (us.getD i .non)),.ref r])/\H' r=some (.tup (qU H (us.getD i .non)))
def xK(C:Addr)(T:Tb):Sp:=fun vs H Q E=>∃x,vs=[x]/\Kn4 H x/\Tab T H/\(dP H x=true->∀H' l zs,Gr T H H'->H l=none->H' l=some (.lst zs)->Copied H H' (srt H x) zs->Q (.ref l) H')/\(dP H x=false->∀H',aR H H'->E (.ref C) none H')
theorem tk_of(s:aR H H'):∀{xs:List V},(∀y∈xs,dJ H y=true)->_root_.Q.qD H' xs (xs.map (aY H))
 | [],_=>.nil
 |y::xs,h=>by obtain⟨a,b,e,c,_⟩:=kC (h y (.head _));exact .cons ⟨a,_,e,s _ _ c⟩ (tk_of s fun z d=>h z (.tail _ d))
def vB{T:Tb}(S:G.fn "need_table" 1=some (xI C,[])):
  ∀vs H Q E,xK C T vs H Q E->vG (R.wpS G K (fun _=>E) kU) (vG (xF (tK K T (wpE G K (fun _=>E) (.var 0))) (me 1)) (wpB G K (fun _=>E) kT)) {nx:=fun _ H'=>Q .non H',rt:=Q} (L2.start jz vs) H:=by
 rintro vs H Q E ⟨x,rfl,X,tb,q1,q2⟩;unfold kU kT;change vG _ _ _ [some x,none] H;unfold tK;ext;refine⟨_,_,S,x,rfl,X,fun e M k=>?_,q2⟩;obtain⟨a,d,rfl,A,U,B,D,h5⟩:=eX e;have a4:Tab T M:=(Gr.of k).tab tb;refine⟨a,d,d.map (aY H),rfl,k.seq (lF A),by rw[ak];lia,D,tk_of k B,a4,fun m l gr Y=>?_⟩;have N:srt H (.ref a)=_root_.Q.sortBy V.non (d.map (aY H)) d:=by show(match dZ (H a)with |some d=>_root_.Q.sortBy V.non (d.map (aY H)) d|none=>[])=_;rw[A]
 have w:(_root_.Q.sortBy V.non (d.map (aY H)) d).Perm d:=_root_.Q.eD V.non D (by simp);have o:=q1 e;rw[N]at o;generalize _root_.Q.sortBy V.non (d.map (aY H)) d=us at w o⊢;have j:Gr T H (upd m l (.lst us)):=(Gr.of k).trans (gr.trans (Gr.of (aP Y)));have n:upd m l (.lst us) l=some (.lst us):=aK;generalize upd m l (.lst us)=H3 at j n⊢;have a0:us.length<=40:=by rw[w.length_eq];exact U
 refine eJ (dM rfl (SqL.of n) (fg fv (bf a0 (by decide)) (fun f g=>SqL.of (g _ _ n)) (fun i v H'=>∃b r,v=V.ref b/\H' b=some (.tup [.str (aY H (us.getD i .non)),.ref r])/\H' r=some (.tup (qU H (us.getD i .non))))
  (fun i v f H5 h ⟨b,r,p,q,s⟩=>⟨b,r,p,h _ _ q,h _ _ s⟩) (fun L=>∃t u,L=[t,u]) ⟨none,none,rfl⟩ ?_ ?_))
 ·rintro a6 y L f R hi ⟨t,u,rfl⟩ g J a2;have hm:y∈d:=w.mem_iff.mp (aG J);obtain⟨b,c,rfl,k1,k2,k3,k4⟩:=kC (B y hm);have O:=g _ _ (j.zA tb k1);have P:=g _ _ (j.zA tb k2);refine⟨b,_,rfl,SqT.of O,rfl,_,_,rfl,_,_,rfl,rfl,?_⟩;ext;refine⟨c,_,rfl,.inr (SqT.of P),fun l1 Z=>⟨l1,_,rfl,.inl ⟨SqL.of aK,fun r hr=>⟨bf (by simp :_<=2) (by decide),fun a3 I=>a2 _ _ _ ⟨_,_,rfl⟩ ((aP Z).trans ((aP hr).trans (aP I))) ?_⟩⟩⟩⟩;rw[getD_some J];exact⟨a3,r,rfl,aK,by rw[bD (da aK I)];exact aK⟩
 ·intro vs f l2 a1 W g F;have z:Gr T H f:=j.trans (Gr.of g);have h:aR f (upd f l2 (.lst vs)):=aP F;refine o _ l2 vs (z.trans (Gr.of h)) (z.free tb F) aK ⟨a1,fun i a5 hz=>?_⟩;obtain⟨b,r,p,q,s⟩:=W i a5 hz;exact⟨b,r,p,h _ _ q,h _ _ s⟩
end Cp
namespace K22
open PySem R
abbrev p_clash:List Str:=["table"]
abbrev DD:List Str:=["table","copies","count","one","other","names"]
abbrev w6:CB:=
  (.cons (.ret (.con .none))
  .nil)
abbrev w8:CB:=
  (.cons (.forr (.name 3) (.range1 (.var 2))
  (.cons (.forr (.name 4) (.range2 (.bin .Add (.var 3) (.con (.int 1))) (.var 2))
  (.cons (.asg (.name 5) (.call "first_of_kinds" (.cons (.var 1) (.cons (.var 3) (.cons (.var 4) .nil)))))
  (.cons (.iff (.cmp .IsNot (.var 5) (.con .none))
  (.cons (.ret (.tup (.cons (.var 3) (.cons (.var 4) (.cons (.var 5) .nil)))))
  .nil)
  .nil)
  .nil)))
  .nil))
  w6)
abbrev w9:CB:=
  (.cons (.asg (.name 2) (.call "place_count" (.cons (.var 1) .nil)))
  w8)
abbrev Ee:CB:=
  (.cons (.asg (.name 1) (.call "table_list" (.cons (.var 0) .nil)))
  w9)
abbrev zX:List Str:=["_law_found"]
abbrev Af:List Str:=["_law_found"]
end K22
namespace K22
open PySem PySem.Spec PyProof.Rows L2 R Cp Lt Kc K21 Lm
abbrev cd(H:Hp)(y:V):Str×List V:=(aY H y,qU H y)
abbrev E3(i:Int)(p:Str×List V):Int:=match p.2.getD i.toNat .non with
 |.int n=>n
 |_=>0
abbrev isK(i j:Int)(k:Int×Int)(p:Str×List V):Bool:=decide (E3 i p=k.1/\E3 j p=k.2)
abbrev qb(rows:List (Str×List V))(i j:Int):Bool:=KP.all fun k=>rows.any (isK i j k)
abbrev DB(rows:List (Str×List V))(i j:Int)(k:Int×Int):Str:=((rows.find? (isK i j k)).map (·.1)).getD ""
def DR{i j:Int}:kJ H xs i j=qb (xs.map (cd H)) i j:=by unfold kJ qb;congr 1;funext k;rw[List.any_map];rfl
def Ii{i j:Int}(h:kJ H xs i j=true):KP.map (firstOf H xs i j)=(KP.map (DB (xs.map (cd H)) i j)).map V.str:=by
 rw[bq];refine cF fun k d=>?_;have c:xs.any (fun y=>decide (num H i y=k.1/\num H j y=k.2))=true:=by unfold kJ at h;exact bK.mp h k d
 have b:(fun y=>decide (kf H i j y=oY k))=(isK i j k)∘(cd H):=by
  funext y
  exact decide_eq_decide.mpr kf_eq
 show firstOf H xs i j k=V.str (DB (xs.map (cd H)) i j k);unfold firstOf DB;rw[b,List.find?_map];obtain⟨f,e,a⟩:=cI.mp c;cases hf:xs.find? ((isK i j k)∘(cd H))with
 |none=>rw[lb]at hf;exact absurd a (hf f e)
 |some y=>rfl
structure First(rows:List (Str×List V))(n i j:Nat):Prop where
 ij:i<j
 jn:j<n
 four:qb rows i j=true
 no:∀a b:Nat,a<b->b<n->(a<i\/a=i/\b<j)->qb rows a b=false
def NoC(rows:List (Str×List V))(n:Nat):Prop:=∀a b:Nat,a<b->b<n->qb rows a b=false
def Res(H:Hp)(rows:List (Str×List V))(n:Nat)(v:V):Prop:=(v=.non/\NoC rows n)\/∃(i j:Nat)(a l:Addr),v=.ref a/\First rows n i j/\H a=some (.tup [.int i,.int j,.ref l])/\H l=some (.tup ((KP.map (DB rows i j)).map V.str))
abbrev rowsOf(H:Hp)(x:V):List (Str×List V):=(srt H x).map (cd H)
def BX{r:Addr}(a:H b=some (.tup [.str z,.ref r]))(e:H r=some (.tup zs)):cd H (.ref b)=(z,zs):=by
 have c:aY H (.ref b)=z:=by show(match eA (H b)with |some (.str z::_)=>z|_=>("":Str))=_;rw[a];rfl
 have d:qU H (.ref b)=zs:=by show(match eA (H b)with |some [_,.ref b]=>(eA (H b)).getD [] |_=>[])=zs;rw[a];show(eA (H r)).getD []=zs;rw[e];rfl
 unfold cd;rw[c,d]
def m6{t:Addr}(h:dZ (H t)=some ys):srt H (.ref t)=_root_.Q.sortBy .non (ys.map (aY H)) ys:=by show(match dZ (H t)with |some ys=>_root_.Q.sortBy V.non (ys.map (aY H)) ys|none=>[])=_;rw[h]
def E8{x:V}(h:dJ H x=true):iL (aY H x)=true:=by obtain⟨_,_,_,_,_,_,_,a,_,_,b,_⟩:=iy h;rw[b];exact a
def uQ{x:V}(e:dP H x=true)(h:H' l=some (.lst zs))(c:Copied H H' (srt H x) zs):
  Kn4 H' (.ref l)/\dP H' (.ref l)=true/\count H' (.ref l)=count H x/\zs.map (cd H')=rowsOf H x:=by
 obtain⟨a,n,rfl,s,T,E,F,G⟩:=eX e;have Q:=m6 s;have d:(srt H (.ref a)).Perm n:=by rw[Q];exact _root_.Q.eD V.non F (by simp)
 unfold rowsOf;generalize srt H (.ref a)=us at c d⊢;have Z:us.length<=40:=by rw[d.length_eq];exact T
 have K:∀u∈us,dJ H u=true/\cz H u=count H (.ref a):=fun u I=>⟨E u (d.mem_iff.mp I),G u (d.mem_iff.mp I)⟩;have nd:(us.map (aY H)).Nodup:=(d.map (aY H)).nodup_iff.mpr F;have get:∀{i:Nat}{z:V},zs[i]? =some z->us[i]? =some (us.getD i .non)/\us.getD i .non∈us:=fun{i z} f=>by
  have hi:i<us.length:=by have :=(aM.mp f).1;rw[<-c.1];exact this
  have e:us[i]? =some (us.getD i .non):=by rw[af,ae hi];rfl
  exact⟨e,aG e⟩
 let nf:Nat->Str:=fun i=>if i<us.length then aY H (us.getD i .non)else "a"
 have J:∀i,iL (nf i)=true:=fun i=>by
  show iL (if i<us.length then aY H (us.getD i .non)else "a")=true;split
  ·rename_i hi;have e:us[i]? =some (us.getD i .non):=by rw[af,ae hi];rfl
   exact E8 (K _ (aG e)).1
  ·decide+kernel
 have dr:Dr H' nf (count H (.ref a)) zs:=fun i z f=>by obtain⟨b,r,X,t,v⟩:=c.2 i z f;obtain⟨R,S⟩:=get f;have hi:i<us.length:=(aM.mp R).1;obtain⟨N,O⟩:=K _ S;obtain⟨_,_,_,_,_,k3,k4⟩:=kC N;refine⟨b,r,_,X,?_,v,by rw[k3,O],k4⟩;show H' b=some (.tup [.str (if i<us.length then aY H (us.getD i .non)else "a"),.ref r]);rw[if_pos hi];exact t
 have hn60:n=[]\/count H (.ref a)<=60:=by
  cases n with
  |nil=>exact .inl rfl
  |cons y r=>
   right
   rw[<-G y (.head _)];obtain⟨_,_,_,_,_,_,_,_,U,_,_,W⟩:=iy (E y (.head _));rw[W];exact U
 have Y:∀i j,i<zs.length->j<zs.length->nf i=nf j->i=j:=fun i j hi w e=>by
  rw[c.1]at hi w;have o:(if i<us.length then aY H (us.getD i .non)else "a")=(if j<us.length then aY H (us.getD j .non)else "a"):=e;rw[if_pos hi,if_pos w]at o;have g:∀k (A:k<us.length),(us.map (aY H))[k]'(by simpa using A)=aY H (us.getD k .non):=fun k A=>by rw[cS,af,ae A];rfl
  rw[<-g i hi,<-g j w]at o;exact(fo nd).mp o
 have L:zs=[]↔us=[]:=by rw[<-bx,c.1,bx]
 have M:zs.map (cd H')=us.map (cd H):=by
  apply l8
  intro i;rw[ax,ax];cases f:zs[i]? with
  |none=>
   have :us.length<=i:=by have :=Bc.mp f;rw[c.1]at this;exact this
   rw[cO this];rfl
  |some z=>obtain⟨b,r,rfl,t,v⟩:=c.2 i z f;rw[(get f).1];show some (cd H' (.ref b))=some (cd H (us.getD i .non));rw[BX t v];rfl
 rcases hn60 with m|hn60
 ·have B:us=[]:=by rw[m]at d;exact List.perm_nil.mp d
  have a0:=L.mpr B;subst a0;have P:Dr H' nf 0 []:=fun i y e=>by simp at e
  obtain⟨C,D,_,_⟩:=uO J (fun i j hi=>absurd hi (by simp)) h P (by simp) (by decide);refine⟨C,D,?_,M⟩;have p:count H' (.ref l)=0:=by show(match dZ (H' l)with |some (y::_)=>cz H' y|_=>0)=0;rw[h];rfl
  have q:count H (.ref a)=0:=by show(match dZ (H a)with |some (y::_)=>cz H y|_=>0)=0;rw[s,m]
  rw[p,q]
 ·obtain⟨C,D,_,t4⟩:=uO J Y h dr (by rw[c.1];exact Z) hn60;refine⟨C,D,?_,M⟩;cases zs with
  |nil=>
   have B:=L.mp rfl;have m:n=[]:=by rw[B]at d;exact Br.mp d
   have p:count H' (.ref l)=0:=by show(match dZ (H' l)with |some (y::_)=>cz H' y|_=>0)=0;rw[h];rfl
   have q:count H (.ref a)=0:=by show(match dZ (H a)with |some (y::_)=>cz H y|_=>0)=0;rw[s,m]
   rw[p,q]
  |cons z r=>show(match dZ (H' l)with |some (y::_)=>cz H' y|_=>0)=_;rw[h];exact t4 z (.head _)
def xP(C:Addr)(T:Tb):Sp:=fun vs H Q E=>∃x,vs=[x]/\Kn4 H x/\Tab T H/\(dP H x=true->∀H' v,Gr T H H'->Res H' (rowsOf H x) (count H x) v->Q v H')/\(dP H x=false->∀H',aR H H'->E (.ref C) none H')
def Gk{T:Tb}(g1:G.fn "table_list" 1=some (xK C T,[]))(g2:G.fn "place_count" 1=some (xO C,[]))(g3:G.fn "first_of_kinds" 3=some (xN,[])):
  Sat G K (xP C T) Ee DD:=by
 rintro vs H a9 a8 ⟨x,rfl,hk,tb,q1,q2⟩;unfold Ee w9;change wpB G K _ _ _ [some x,none,none,none,none,none] H;ext;refine⟨_,_,g1,x,rfl,hk,tb,fun e d l O gr hl E a0=>?_,q2⟩;obtain⟨kn,N,D,A⟩:=uQ e E a0;have t:=q1 e;generalize rowsOf H x=rw0 at A t;generalize hn:count H x=n at D t;refine⟨_,_,g2,.ref l,rfl,kn,fun _ H2 s2=>?_,fun z=>by rw[N]at z;cases z⟩;rw[D];have U:dZ (d l)=some O:=by rw[E];rfl
 have W:∀z:Nat,z<n->isPlace d (.ref l) (.int z)=true:=fun z hz=>decide_eq_true ⟨by lia,by lia⟩;have b0:n<=60:=by
  obtain⟨Q,b1,ea,S,f2,f3,f4,f5⟩:=eX N;cases ea;rw[U]at S;cases S;rw[<-D];cases O with
  |nil=>show(match dZ (d l)with |some (y::_)=>cz d y|_=>0)<=60;rw[E];exact aW _
  |cons y r=>rw[<-f5 y (.head _)];obtain⟨_,_,_,_,_,_,_,_,a2,_,_,h8⟩:=iy (f3 y (.head _));rw[h8];exact a2
 unfold w8;ext;refine gS ?_;ext;refine⟨(n:Int),rfl,by lia,by lia,?_⟩;refine fV dX (fun i h B=>aR d B/\(∀a b:Nat,a<i->a<b->b<n->qb rw0 a b=false)/\∃u v w,h=[some x,some (.ref l),some (.int n),u,v,w])
  ⟨s2,fun a b a1=>absurd a1 (by lia),none,none,none,rfl⟩ (fun _ _ _ _ _=>trivial) ?_ ?_
 ·rintro i y h P H4 D2 hi ⟨I,s,u,v,w,rfl⟩ rfl s4 a3 a6;have a5:i<n:=by lia
  ext;simp only[eP];refine gS ?_;ext;refine⟨_,_,rfl,⟨by lia,by lia,by lia,by lia⟩,?_⟩;refine fV dX (fun m h B=>aR d B/\(∀b:Nat,i<b->b<i+1+m->qb rw0 i b=false)/\∃v w,h=[some x,some (.ref l),some (.int n),some (.int i),v,w])
   ⟨I.trans s4,fun b g c=>absurd c (by lia),_,_,rfl⟩ (fun _ _ _ _ _=>trivial) ?_ ?_
  ·rintro m y h X Y D3 hm ⟨J,o,v,w,rfl⟩ rfl s6 a4 a7;have F:i+1+m<n:=by lia
   have ej:(i:Int)+1+(m:Int)=((i+1+m:Nat):Int):=by lia
   ext;rw[ej];generalize hjj:i+1+m=j at F o⊢;have L:aR d Y:=J.trans s6;refine⟨_,_,g3,l,O,i,j,d,rfl,L,N,U,W i a5,W j F,fun f Z M=>?_,fun f Z p M hp ep=>?_⟩
   ·show if(!decide (V.non=V.non))=true then _ else _
    rw[if_neg (by simp)];refine a4 _ _ ⟨L.trans M,fun b g c=>?_,_,_,rfl⟩;by_cases hb:b=j;·rw[hb,<-A,<-DR];exact f
    ·exact o b g (by lia)
   ·show if(!decide (V.ref p=V.non))=true then _ else _
    rw[if_pos (by simp)];refine⟨short (by simp),fun a q=>?_⟩;rw[a7,a6];refine t _ _ (gr.trans (Gr.of (L.trans (M.trans (aP q))))) (.inr ⟨i,j,a,p,rfl,⟨by lia,F,by rw[<-A,<-DR];exact f,fun Q R g c k=>?_⟩,aK,?_⟩)
    ·rcases k with k|⟨rfl,k⟩;·exact s Q R k g c
     ·exact o R g (by lia)
    ·rw[aP q _ _ ep,Ii f,A]
  ·rintro h X ⟨J,o,v,w,rfl⟩;refine a3 _ _ ⟨J,fun a b g c k=>?_,_,_,_,rfl⟩;by_cases q:a=i;·subst q;exact o b c (by lia)
   ·exact s a b (by lia) c k
 ·rintro h P ⟨I,s,u,v,w,rfl⟩;unfold w6;ext;exact t P .non (gr.trans (Gr.of I)) (.inl ⟨rfl,fun a b g c=>s a b (by simp;lia) g c⟩)
theorem oX{d g:Type}{f:d->g}{ys:List d}(hf:∀a∈ys,∀b∈ys,f a=f b->a=b):∀{l m:List d},(∀a∈l,a∈ys)->(∀a∈m,a∈ys)->l.map f=m.map f->l=m
 | [],[],_,_,_=>rfl
 | [],_::_,_,_,e=>by simp at e
 |_::_,[],_,_,e=>by simp at e
 |a::l,b::m,h1,h2,e=>by
  rw[bh,bh]at e;injection e with e1 e2
  rw[hf a (h1 a (.head _)) b (h2 b (.head _)) e1,oX hf (fun x c=>h1 x (.tail _ c)) (fun x c=>h2 x (.tail _ c)) e2]
def wy{c l:Type}{f:c->l}{ys:List c}(nd:(ys.map f).Nodup):∀a∈ys,∀b∈ys,f a=f b->a=b:=fun a g b h e=>by
 obtain⟨i,hi,rfl⟩:=cX.mp g;obtain⟨j,k,rfl⟩:=cX.mp h;have d:(ys.map f)[i]'(by simpa using hi)=(ys.map f)[j]'(by simpa using k):=by rw[cS,cS];exact e
 have :=(fo nd).mp d;subst this;rfl
def ED{f:V->Str}{b:List V}(p:b.Perm ys)(nd:(ys.map f).Nodup):_root_.Q.sortBy V.non (b.map f) b=_root_.Q.sortBy V.non (ys.map f) ys:=by
 have d:(b.map f).Nodup:=(p.map f).nodup_iff.mpr nd;have c:∀l:List V,l.filter (fun _=>true)=l:=fun l=>J5.mpr fun _ _=>rfl;have g:=_root_.Q.eD V.non nd (ys:=ys) (by simp);have h:=_root_.Q.eD V.non d (ys:=b) (by simp);have i:(_root_.Q.sortBy V.non (ys.map f) ys).map f=_root_.Q.sortBy ("":Str) (ys.map f) (ys.map f):=by
  have :=_root_.Q.kA V.non f (fun _=>true) nd
  rwa [c,c]at this
 have j:(_root_.Q.sortBy V.non (b.map f) b).map f=_root_.Q.sortBy ("":Str) (b.map f) (b.map f):=by
  have :=_root_.Q.kA V.non f (fun _=>true) d
  rwa [c,c]at this
 refine oX (wy nd) (fun a e=>p.mem_iff.mp (h.mem_iff.mp e)) (fun a e=>g.mem_iff.mp e) ?_;rw[i,j];refine _root_.Q.i8 ?_ (_root_.Q.gw d) (_root_.Q.gw nd);exact(_root_.Q.eD ("":Str) d rfl).trans ((p.map f).trans (_root_.Q.eD ("":Str) nd rfl).symm)
def HF{t p:Addr}{c:List V}(o:H t=some (.lst ys))(x:Kn4 H (.ref t))(tb:dP H (.ref t)=true)(k:H p=some (.lst c))(b:c.Perm ys):
  Kn4 H (.ref p)/\dP H (.ref p)=true/\rowsOf H (.ref p)=rowsOf H (.ref t)/\count H (.ref p)=count H (.ref t):=by
 have i:dZ (H t)=some ys:=by rw[o];rfl
 have g:dZ (H p)=some c:=by rw[k];rfl
 obtain⟨B,C,n,l,q,s,m,j⟩:=eX tb;cases n;rw[i]at l;cases l;have A:(c.map (aY H)).Nodup:=(b.map (aY H)).nodup_iff.mpr m;refine⟨⟨⟨Cj k,fun z e=>nomatch e⟩,fun a f e h=>?_⟩,?_,?_,?_⟩
 ·injection e with e
  subst e;rw[g]at h;cases h;obtain⟨v,w⟩:=x.2 t ys rfl i;exact⟨by rw[b.length_eq];exact v,fun y d=>w y (b.mem_iff.mp d)⟩
 ·show(match dZ (H p)with |some f=>decide (f.length<=40)&&(f.all (dJ H)&&(decide ((f.map (aY H)).Nodup)&&decide (∀y∈f,∀z∈f,cz H y=cz H z))) |none=>false)=true;rw[g];show(decide (c.length<=40)&&(c.all (dJ H)&&(decide ((c.map (aY H)).Nodup)&&decide (∀y∈c,∀z∈c,cz H y=cz H z))))=true;rw[decide_eq_true (by rw[b.length_eq];exact q),eL,aL,aL,bK,decide_eq_true_eq,decide_eq_true_eq];exact⟨fun y d=>s y (b.mem_iff.mp d),A,fun y d z u=>by rw[j y (b.mem_iff.mp d),j z (b.mem_iff.mp u)]⟩
 ·unfold rowsOf;rw[m6 i,m6 g,ED b m]
 ·cases c with
  |nil=>have d:ys=[]:=Br.mp b;show(match dZ (H p)with |some (y::_)=>cz H y|_=>0)=(match dZ (H t)with |some (y::_)=>cz H y|_=>0);rw[i,g,d]
  |cons y r=>show(match dZ (H p)with |some (y::_)=>cz H y|_=>0)=_;rw[g];exact j y (b.mem_iff.mp (.head _))
end K22
namespace Q
open PySem PySem.Spec PySem.W PyProof.Rows L2
theorem qX(nd:ns.Nodup):(pR ns).Perm (ay ns.length):=by
 unfold pR;split;·exact fh _
 ·have P:=(fL (EA nd) (by lia)).1;have :=gU.mp P.perm;simpa using this
theorem z8(nd:ns.Nodup)(b:¬ns.length<2):(pR ns).Pairwise fun i j=>ltI ns i j=true:=by
 unfold pR;rw[if_neg b];obtain⟨P,U,_⟩:=fL (EA nd) (by lia:1<=ns.length);rw[fC];intro i j hi d c;have f:j<ns.length:=by simpa[P.size]using d
 have u:=U i j c f;have e:∀(k:Nat)(a:k<(run (ltI ns) (dH ns.length)).toList.length),(run (ltI ns) (dH ns.length)).toList[k]=at' (run (ltI ns) (dH ns.length)) k:=fun k a=>by
  have g:k<(run (ltI ns) (dH ns.length)).size:=by simpa using a
  simp[at',g]
 rw[e,e];exact u
end Q
namespace M3
open PySem
def and_nat(m n:Nat):iZ (m:Int) (n:Int)=((m&&& n:Nat):Int):=by unfold iZ;simp
def xor_bit{a b:Int}(c:a=0\/a=1)(d:b=0\/b=1):km a b=if a=b then 0 else 1:=by rcases c with rfl|rfl<;>rcases d with rfl|rfl<;>decide
abbrev num:List Bool->Nat->Nat
 | [],n=>n
 |b::bs,n=>num bs (n*2+b.toNat)
theorem uj:∀(bs:List Bool)(b:Bool)(n:Nat),num (bs++[b]) n=num bs n*2+b.toNat
 | [],_,_=>rfl
 |c::bs,b,n=>uj bs b _
theorem Dy:∀(bs:List Bool)(i:Nat),(num bs.reverse 0).testBit i=(bs[i]?).getD false
 | [],i=>by simp[num]
 |b::bs,i=>by
  rw[tm,uj];cases i with
  |zero=>rw[Nat.testBit_zero];cases b<;>simp <;>lia
  |succ i=>
   rw[Nat.testBit_succ];have e:(num bs.reverse 0*2+b.toNat)/2=num bs.reverse 0:=by
    have a:b.toNat<=1:=by cases b<;>decide
    lia
   rw[e,Dy bs i];simp
def and_sub:m&&& n=n↔∀i,n.testBit i=true->m.testBit i=true:=by
 constructor;·intro h i hi;rw[<-h,Nat.testBit_and]at hi;exact(aL _ _▸hi).1
 ·intro h;apply qG
  intro i;rw[Nat.testBit_and];cases hn:n.testBit i with
  |true=>rw[h i hn];rfl
  |false=>simp
end M3
namespace M4
open Q
abbrev bl(f:Nat->Int)(n:Nat)(P:Nat->Bool):List Int:=(ay n).map fun p=>if P p=true then 1-f p else f p
def iP(f:Nat->Int)(n:Nat)(P:Nat->Bool):(bl f n P).length=n:=by simp[bl]
def iQ{f:Nat->Int}{P Q:Nat->Bool}(h:bl f n P=bl f n Q)(hf:∀p,p<n->f p=0\/f p=1)(a:p<n):P p=Q p:=by
 have e:(bl f n P)[p]? =(bl f n Q)[p]? :=by rw[h]
 simp[bl,a]at e;rcases hf p a with z|z<;>cases hP:P p<;>cases hQ:Q p<;>simp[hP,hQ,z]at e⊢
abbrev sub(grp:Nat->Nat)(g p:Nat):Bool:=decide (grp p&&& g=g)
abbrev above(grp:Nat->Nat)(g p:Nat):Bool:=decide (grp p&&& g=g/\grp p≠g)
variable {f:Nat->Int}{grp:Nat->Nat}(hf:∀p,p<n->f p=0\/f p=1)
include hf
theorem A1(a:p<n):bl f n (sub grp (grp p))≠bl f n fun _=>false:=fun h=>by have :=iQ h hf a;simp[sub]at this
theorem A0(d:p<n)(hq:q<n)(c:grp p≠grp q):bl f n (sub grp (grp p))≠bl f n (sub grp (grp q)):=fun h=>by have a:=iQ h hf d;have b:=iQ h hf hq;simp[sub]at a b;exact c (by rw[<-b,Nat.and_comm,a])
theorem Jz(e:p<n)(hq:q<n)(c:bl f n (sub grp (grp p))=bl f n (above grp (grp q)))(d:bl f n (sub grp (grp q))=bl f n (above grp (grp p))):False:=by have a:=iQ c hf e;have b:=iQ d hf hq;simp[sub,above]at a b;exact a.2 (by rw[<-b.1,Nat.and_comm,a.1])
theorem Df(a:p<n):bl f n (above grp (grp p))≠bl f n (sub grp (grp p)):=fun h=>by have :=iQ h hf a;simp[sub,above]at this
abbrev lo(a b:List Int):List Int:=if llt b a=true then b else a
abbrev hi(a b:List Int):List Int:=if llt a b=true then b else a
omit hf in
theorem lohi{a b c d:List Int}(e:lo a b=lo c d)(f:hi a b=hi c d)(g:a≠b)(h:c≠d):(a=c/\b=d)\/(a=d/\b=c):=by
 have i:=iM (bO g);have j:=iM (bO h);unfold lo at e;unfold hi at f;rw[i,j]at e;cases x:llt a b<;>cases y:llt c d<;>rw[x,y]at e f<;>simp only[Bool.not_false,fm,if_true,aN,if_false]at e f
 ·exact .inl ⟨f,e⟩
 ·exact .inr ⟨f,e⟩
 ·exact .inr ⟨e,f⟩
 ·exact .inl ⟨e,f⟩
theorem xa(a:p<n)(hq:q<n)(d:grp p≠grp q):
  lo (bl f n (above grp (grp p))) (bl f n (sub grp (grp p)))++hi (bl f n (above grp (grp p))) (bl f n (sub grp (grp p)))≠
  lo (bl f n (above grp (grp q))) (bl f n (sub grp (grp q)))++hi (bl f n (above grp (grp q))) (bl f n (sub grp (grp q))):=fun h=>by
 have len:∀P Q:Nat->Bool,(lo (bl f n P) (bl f n Q)).length=n:=fun P Q=>by unfold lo;split <;>exact iP _ _ _
 obtain⟨b,c⟩:=List.append_inj h ((len _ _).trans (len _ _).symm);rcases lohi b c (Df hf a) (Df hf hq)with⟨_,z⟩ |⟨e,g⟩;·exact A0 hf a hq d z
 ·exact Jz hf a hq g e.symm
end M4
namespace Q
open L2
def EF(nd:ns.Nodup):∃qs:List Int,sortI ns=qs.map V.int/\qs.Perm ns:=by
 refine⟨(pR ns).map fun i=>ns.getD i 0,?_,?_⟩;·unfold sortI;rw[bq];refine cF fun i hi=>?_;have a:i<ns.length:=aJ.mp ((qX nd).mem_iff.mp hi);show(ns.map V.int).getD i .non=V.int (ns.getD i 0);rw[af,af,ax,ae a];rfl
 ·have h:=(qX nd).map fun i=>ns.getD i 0;rw[range_getD]at h;exact h
end Q
namespace M5
open M3 M4 Q L2
abbrev plc(n:Nat)(P:Nat->Bool):List Int:=((ay n).filter P).map fun p:Nat=>(p:Int)
def lQ{P:Nat->Bool}(h:i<n):(i:Int)∈plc n P↔P i=true:=by
 unfold plc;rw[aF];constructor
 ·rintro⟨p,a,e⟩;have :p=i:=by lia
  rw[<-this];exact(aV.mp a).2
 ·intro e;exact⟨i,aV.mpr ⟨aJ.mpr h,e⟩,rfl⟩
abbrev trn(zs:List Int)(ms:List Int):List Int:=(ay zs.length).map fun i:Nat=>if(i:Int)∈ms then 1-zs.getD i 0 else zs.getD i 0
def Ex{zs:List Int}{P:Nat->Bool}:trn zs (plc zs.length P)=bl (fun p=>zs.getD p 0) zs.length P:=by
 unfold trn bl;refine cF fun i hi=>?_;have hi:=aJ.mp hi;by_cases h:P i=true;·rw[if_pos ((lQ hi).mpr h),if_pos h]
 ·rw[if_neg (fun z=>h ((lQ hi).mp z)),if_neg h]
def Eg{f:Nat->Int}{P:Nat->Bool}(h:i<n):(bl f n P).getD i 0=if P i=true then 1-f i else f i:=by unfold bl;rw[af,ax,bP h];rfl
def trn_bl{f:Nat->Int}{S E:Nat->Bool}(h:∀p,E p=true->S p=true):trn (bl f n S) (plc n E)=bl f n fun p=>S p&& !E p:=by
 unfold trn;rw[iP];refine cF fun i hi=>?_;have hi:=aJ.mp hi;rw[Eg hi];show _=if(S i&& !E i)=true then 1-f i else f i
 cases hE:E i with
 |true=>
  rw[if_pos ((lQ hi).mpr hE),h i hE,if_pos rfl];show 1-(1-f i)=if(true&& !true)=true then _ else f i
  rw[if_neg (by simp)];lia
 |false=>rw[if_neg (fun z=>by rw[(lQ hi).mp z]at hE;cases hE)];cases S i<;>rfl
def Jk(zs:List Int):bl (fun p=>zs.getD p 0) zs.length (fun _=>false)=zs:=by
 unfold bl;apply cU;·simp
 ·intro i b a;simp[a]
abbrev own(grp:Nat->Nat)(g p:Nat):Bool:=decide (grp p=g)
def own_sub{grp:Nat->Nat}{g:Nat}(h:own grp g p=true):sub grp g p=true:=by have :grp p=g:=of_decide_eq_true h;refine decide_eq_true ?_;rw[this];exact F6 g
def JO(grp:Nat->Nat)(g:Nat):(fun p=>sub grp g p&& !own grp g p)=above grp g:=by
 funext p
 unfold sub own above;by_cases h1:grp p&&& g=g<;>by_cases h2:grp p=g<;>simp[h1,h2]
abbrev nB(f:Nat->Int)(n:Nat)(grp:Nat->Nat)(q:Int):List Int:=bl f n (sub grp q.toNat)
abbrev nA(f:Nat->Int)(n:Nat)(grp:Nat->Nat)(q:Int):List Int:=bl f n (above grp q.toNat)
abbrev fM(f:Nat->Int)(n:Nat)(grp:Nat->Nat)(qs:List Int):List (List Int):=bl f n (fun _=>false)::qs.map (nB f n grp)
abbrev brK(f:Nat->Int)(n:Nat)(grp:Nat->Nat)(qs:List Int):List (List Int×List Int):=qs.map fun q=>(lo (nA f n grp q) (nB f n grp q),hi (nA f n grp q) (nB f n grp q))
def Grs(n:Nat)(grp:Nat->Nat)(qs:List Int):Prop:=qs.Nodup/\∀q∈qs,∃p,p<n/\q=(grp p:Int)
section
variable {f:Nat->Int}{grp:Nat->Nat}(hf:∀p,p<n->f p=0\/f p=1)(hq:Grs n grp qs)
include hf hq
theorem Iu{j:Type}{F:Int->j}(h:∀p q,p<n->q<n->grp p≠grp q->F (grp p:Int)≠F (grp q:Int)):(qs.map F).Nodup:=by refine cj.mpr ?_;have p:List.Pairwise (fun a b=>a≠b) qs:=hq.1;refine(gf.mp p).imp ?_;rintro a b ⟨c,d,f⟩;obtain⟨x,g,rfl⟩:=hq.2 a c;obtain⟨y,i,rfl⟩:=hq.2 b d;exact h x y g i (fun e=>f (by rw[e]))
theorem pU:(fM f n grp qs).Nodup:=by
 unfold fM;refine bw.mpr ⟨fun z=>?_,Iu hf hq fun p q a b c=>?_⟩;·obtain⟨q,b,e⟩:=aF.mp z;obtain⟨p,a,rfl⟩:=hq.2 q b;exact A1 hf a (by unfold nB at e;rw[ba]at e;exact e)
 ·unfold nB;rw[ba,ba];exact A0 hf a b c
theorem yU:((brK f n grp qs).map kP).Nodup:=by unfold brK;rw[bq];refine Iu hf hq fun p q b c a=>?_;show lo (nA f n grp (grp p:Int)) (nB f n grp (grp p:Int))++hi (nA f n grp (grp p:Int)) (nB f n grp (grp p:Int))≠lo (nA f n grp (grp q:Int)) (nB f n grp (grp q:Int))++hi (nA f n grp (grp q:Int)) (nB f n grp (grp q:Int));unfold nA nB;rw[ba,ba];exact xa hf b c a
end
def E6{f:Nat->Int}{grp:Nat->Nat}:∀k∈fM f n grp qs,k.length=n:=fun k hk=>by
 rcases aI.mp hk with rfl|hk;·exact iP _ _ _
 ·obtain⟨q,_,rfl⟩:=aF.mp hk;exact iP _ _ _
def lo_len{a b:List Int}(c:a.length=n)(d:b.length=n):(lo a b).length=n:=by unfold lo;split <;>assumption
def hi_len{a b:List Int}(c:a.length=n)(d:b.length=n):(hi a b).length=n:=by unfold hi;split <;>assumption
def brK_len{f:Nat->Int}{grp:Nat->Nat}:∀k∈brK f n grp qs,k.1.length=n/\k.2.length=n:=fun k a=>by obtain⟨q,_,rfl⟩:=aF.mp a;exact⟨lo_len (iP _ _ _) (iP _ _ _),hi_len (iP _ _ _) (iP _ _ _)⟩
def DP{grp:Nat->Nat}(h:Grs n grp qs):qs.length<=n:=by
 have e:qs.length<=((ay n).map fun p:Nat=>(grp p:Int)).length:=by refine List.Nodup.length_le_of_subset h.1 fun q hq=>?_;obtain⟨p,a,rfl⟩:=h.2 q hq;exact aF.mpr ⟨p,aJ.mpr a,rfl⟩
 simpa using e
end M5
namespace K32
open PySem R
abbrev B6:List Str:=["copies","place"]
abbrev uy:List Str:=["copies","place","first","group","name","readings"]
abbrev qw:CB:=
  (.cons (.ret (.var 3))
  .nil)
abbrev qx:CB:=
  (.cons (.forr (.tup (.cons (.name 4) (.cons (.name 5) .nil))) (.seq (.var 0))
  (.cons (.asg (.name 3) (.bin .Add (.bin .Mult (.var 3) (.con (.int 2))) (.bin .BitXor (.idx (.var 5) (.var 1)) (.var 2))))
  .nil))
  qw)
abbrev qy:CB:=
  (.cons (.asg (.name 3) (.con (.int 0)))
  qx)
abbrev u9:CB:=
  (.cons (.asg (.name 2) (.idx (.idx (.idx (.var 0) (.con (.int 0))) (.con (.int 1))) (.var 1)))
  qy)
abbrev HR:List Str:=["readings","places"]
abbrev Ae:List Str:=["readings","places"]
abbrev AQ:CB:=
  (.cons (.ret (.bfn .tuple (.cons (.comp ["place","reading"] [1] (.tup (.cons (.name 0) (.cons (.name 1) .nil))) (.enumt (.var 0)) .no (.ite (.cmp .In (.var 0) (.var 2)) (.bin .Sub (.con (.int 1)) (.var 1)) (.var 1))) .nil)))
  .nil)
abbrev p_grown:List Str:=["copies"]
abbrev DC:List Str:=["copies","first","groups","nodes","branches","group","places","around","below","above"]
abbrev wW:CB:=
  (.cons (.ret (.tup (.cons (.bfn .sortl (.cons (.var 3) .nil)) (.cons (.bfn .sortt (.cons (.var 4) .nil)) .nil))))
  .nil)
abbrev mV:CB:=
  (.cons (.expr (.meth1 .append (.var 4) (.tup (.cons (.bfn .minl (.cons (.var 9) (.cons (.var 8) .nil))) (.cons (.bfn .maxl (.cons (.var 9) (.cons (.var 8) .nil))) (.cons (.bfn .tuple (.cons (.var 6) .nil)) .nil))))))
  .nil)
abbrev mW:CB:=
  (.cons (.expr (.meth1 .append (.var 3) (.var 8)))
  mV)
abbrev sf:CB:=
  (.cons (.asg (.name 9) (.call "turned" (.cons (.var 8) (.cons (.var 6) .nil))))
  mW)
abbrev mX:CB:=
  (.cons (.asg (.name 8) (.call "turned" (.cons (.var 1) (.cons (.var 7) .nil))))
  sf)
abbrev sk:CB:=
  (.cons (.asgc 7 (.comp ["place"] [5,2] (.name 0) (.range1 (.bfn .len (.cons (.var 1) .nil))) (.yes (.cmp .Eq (.bin .BitAnd (.idx (.var 2) (.var 0)) (.var 1)) (.var 1))) (.var 0)))
  mX)
abbrev mY:CB:=
  (.cons (.asgc 6 (.comp ["place"] [5,2] (.name 0) (.range1 (.bfn .len (.cons (.var 1) .nil))) (.yes (.cmp .Eq (.idx (.var 2) (.var 0)) (.var 1))) (.var 0)))
  sk)
abbrev wX:CB:=
  (.cons (.forr (.name 5) (.lseq (.sortset (.var 2)))
  (.cons (.iff (.cmp .Eq (.var 5) (.con (.int 0)))
  (.cons (.cont)
  .nil)
  .nil)
  mY))
  wW)
abbrev wY:CB:=
  (.cons (.asg (.name 4) (.lst .nil))
  wX)
abbrev wZ:CB:=
  (.cons (.asg (.name 3) (.lst (.cons (.var 1) .nil)))
  wY)
abbrev w4:CB:=
  (.cons (.asgc 2 (.comp ["place"] [0] (.name 0) (.range1 (.bfn .len (.cons (.var 1) .nil))) .no (.call "group_at" (.cons (.var 1) (.cons (.var 0) .nil)))))
  wZ)
abbrev Ed:CB:=
  (.cons (.asg (.name 1) (.idx (.idx (.var 0) (.con (.int 0))) (.con (.int 1))))
  w4)
end K32
namespace K32
open PySem PySem.Spec PyProof.Rows L2 R Cp Lt Kc K21 K22 Lm M3 M4 M5
def sR(h:n<=63):n<=sizeLine:=bf h (by decide)
def lt60(h:n<=63):n<sizeLine:=dB h (by decide)
def xor_ii{i j:Int}{Q:VK}:nT K .BitXor (.int i) (.int j) H Q↔Q (.int (km i j)) H:=by show rI0 _ _ _ _ _↔_;simp[rI0]
def and_ii{i j:Int}{Q:VK}:nT K .BitAnd (.int i) (.int j) H Q↔Q (.int (iZ i j)) H:=by show rI0 _ _ _ _ _↔_;simp[rI0]
def lU(a:Int)(l:List Int):inV (V.int a) (l.map V.int)=decide (a∈l):=by
 unfold inV;rw[List.any_map,eY,cI,decide_eq_true_eq];constructor;·rintro⟨x,b,e⟩;have :x=a:=beq_iff_eq.mp e;rw[<-this];exact b
 ·intro h;exact⟨a,h,beq_self_eq_true a⟩
def jM(ms:List Int):(ms.map V.int).all qe=true:=by rw[bK];intro v a;obtain⟨m,_,rfl⟩:=aF.mp a;rfl
def EL:rC (Itet K a) xs.length (fun i x H=>∃p v,x=.ref p/\H p=some (.tup [.int i,v])/\xs[i]? =some v) (fun H=>SqT K H a xs):=G5
def jb{zs:List Int}(h:i<zs.length):(zs.map V.int)[i]? =some (.int (zs.getD i 0)):=by rw[ax,ae h,af,ae h];rfl
structure Cps(H:Hp)(c:Addr)(ys:List V)(n:Nat)(rows:List (List Int)):Prop where
 ec:H c=some (.lst ys)
 len:ys.length<=40
 rl:rows.length=ys.length
 n60:n<=60
 at_:∀(i:Nat) y,ys[i]? =some y->∃b z r,y=.ref b/\H b=some (.tup [.str z,.ref r])/\H r=some (.tup ((rows.getD i []).map V.int))
 rd:∀zs∈rows,zs.length=n/\∀x∈zs,x=0\/x=1
def Cps.same(d:Cps H c ys n rows)(s:aR H H'):Cps H' c ys n rows:=
 {d with ec:=s _ _ d.ec,at_:=fun i y e=>let⟨b,z,r,h1,h2,h3⟩:=d.at_ i y e;⟨b,z,r,h1,s _ _ h2,s _ _ h3⟩}
def Cps.row(d:Cps H c ys n rows)(hi:i<ys.length):(rows.getD i []).length=n/\∀p,p<n->(rows.getD i []).getD p 0=0\/(rows.getD i []).getD p 0=1:=by
 have a:i<rows.length:=by rw[d.rl];exact hi
 have e:rows.getD i []=rows[i]:=by rw[af,ae a];rfl
 obtain⟨b,f⟩:=d.rd rows[i] (ck a);rw[e];refine⟨b,fun p g=>f _ ?_⟩;rw[af,ae (by lia)];exact ck _
abbrev fr(rows:List (List Int))(p:Nat):Int:=(rows.getD 0 []).getD p 0
abbrev bt(rows:List (List Int))(p:Nat)(r:List Int):Bool:= !decide (r.getD p 0=fr rows p)
abbrev grp(rows:List (List Int))(p:Nat):Nat:=M3.num (rows.map (bt rows p)) 0
def xM:Sp:=fun vs H Q _=>∃(c:Addr)(p:Nat)(ys:List V)(n:Nat)(rows:List (List Int)),vs=[.ref c,.int p]/\Cps H c ys n rows/\ys≠[]/\p<n/\∀H',aR H H'->Q (.int (grp rows p)) H'
def Gh:Sat G K xM u9 uy:=by
 rintro Z H Q E ⟨c,p,e,n,a,rfl,d,O,w,q⟩;unfold u9;change wpB G K _ _ _ [some (.ref c),some (.int p),none,none,none,none] H;ext;have g:0<e.length:=gd.mpr O;obtain⟨b,a0,r,z,A,B⟩:=d.at_ 0 e[0] (ae g);obtain⟨X,S⟩:=d.row g;have L:e[0]? =some (.ref b):=by rw[ae g,z]
 refine .inl ⟨c,e,0,_,rfl,rfl,SqL.of d.ec,bS (j:=0) L,?_⟩;refine .inr (.inl ⟨b,_,1,_,rfl,rfl,SqT.of A,rfl,?_⟩);refine .inr (.inl ⟨r,_,p,_,rfl,rfl,SqT.of B,bS (jb (by lia)),?_⟩);unfold qy;ext;unfold qx;ext;refine gS (dM rfl (SqL.of d.ec) (fV fv (fun k f m=>aR H m/\∃u v,f=[some (.ref c),some (.int p),some (.int (fr a p)),some (.int (M3.num ((a.take k).map (bt a p)) 0:Nat)),u,v])
  ⟨aR.refl _,none,none,rfl⟩ (fun k f m _ s=>s.1.seq (SqL.of d.ec)) ?_ ?_))
 ·rintro k y f o W V t ⟨i,u,v,rfl⟩ P T M _;obtain⟨x,z',R,rfl,I,J⟩:=d.at_ k y P;have l:=i.trans T;obtain⟨Y,U⟩:=d.row t;have N:k<a.length:=by rw[d.rl];exact t
  refine⟨x,_,rfl,SqT.of (l _ _ I),rfl,_,_,rfl,_,_,rfl,rfl,?_⟩;ext;refine⟨D1 (by decide) (by decide),.inr (.inl ⟨R,_,p,_,rfl,rfl,SqT.of (l _ _ J),bS (jb (by lia)),?_⟩)⟩;refine xor_ii.mpr (JN.mpr ?_);rw[show km ((a.getD k []).getD p 0) (fr a p)=if(a.getD k []).getD p 0=(a.getD 0 []).getD p 0 then 0 else 1 from xor_bit (U p w) (S p w)];have F:a.take (k+1)=a.take k++[a.getD k []]:=by rw[dh,af,ae N];rfl
  have D:(if(a.getD k []).getD p 0=(a.getD 0 []).getD p 0 then(0:Int)else 1)=((bt a p (a.getD k [])).toNat:Int):=by
   unfold bt fr;by_cases h:(a.getD k []).getD p 0=(a.getD 0 []).getD p 0;·rw[if_pos h,decide_eq_true h];rfl
   ·rw[if_neg h,decide_eq_false h];rfl
  have C:((M3.num ((a.take k).map (bt a p)) 0:Nat):Int)*2+((bt a p (a.getD k [])).toNat:Int)=((M3.num ((a.take (k+1)).map (bt a p)) 0:Nat):Int):=by rw[F,dc,bh,kG,uj];push_cast;rfl
  rw[D,C];exact M _ _ ⟨l,_,_,rfl⟩
 ·rintro f o ⟨i,u,v,rfl⟩;unfold qw;ext;rw[<-d.rl,eI];exact q o i
def mz(K:ao):Sp:=fun vs H Q _=>∃(r b:Addr)(zs ms:List Int),vs=[.ref r,.ref b]/\SqT K H r (zs.map V.int)/\SqL K H b (ms.map V.int)/\zs.length<=60/\
 ∀(H':Hp)(p:Addr),aR H H'->H p=none->H' p=some (.tup ((trn zs ms).map V.int))->Q (.ref p) H'
def Et:Sat G K (mz K) AQ Ae:=by
 rintro f H Q E ⟨r,b,g,a,rfl,m,y,B,q⟩;unfold AQ;change wpB G K _ _ _ [some (.ref r),some (.ref b)] H;ext;refine eJ ⟨_,rfl,r,rfl,⟨_,m⟩,?_⟩;refine fg EL (sR (by rw[ak];lia)) (fun t d=>d.tup m) (fun i v _=>v=.int (if(i:Int)∈a then 1-g.getD i 0 else g.getD i 0)) (fun _ _ _ _ _ h=>h) (fun s=>∃u v,s=[u,v,some (.ref b)]) ⟨none,none,rfl⟩ ?_ ?_
 ·rintro i x s t R hi ⟨u,v,rfl⟩ d ⟨p,v,rfl,c,n⟩ k;rw[ak]at hi;rw[jb hi]at n;cases n;refine⟨p,_,rfl,SqT.of c,rfl,_,_,rfl,_,_,rfl,rfl,?_⟩;ext;refine .inr ⟨b,_,rfl,.inl (d.seq y),rfl,jM a,_,rfl,?_⟩;show if inV (V.int (i:Int)) (a.map V.int)=true then _ else _
  rw[lU];by_cases h:(i:Int)∈a;·rw[decide_eq_true h,if_pos rfl];exact k _ _ _ ⟨_,_,rfl⟩ (aR.refl _) (by rw[if_pos h])
  ·rw[decide_eq_false h,if_neg aA];exact k _ _ _ ⟨_,_,rfl⟩ (aR.refl _) (by rw[if_neg h])
 ·intro f A l z w o j;rw[ak]at z;have e:f=(trn g a).map V.int:=by
   unfold trn;apply l8;intro i;rw[ax,ax];by_cases hi:i<f.length;·rw[ae hi,bP (by lia),w i _ (ae hi)];rfl
   ·rw[cO (by lia),cO (by rw[bC];lia)];rfl
  rw[e];exact⟨l,_,rfl,.inl ⟨SqL.of aK,fun p c=>q _ p (o.trans ((aP j).trans (aP c))) ((o.trans (aP j)).free c) aK⟩⟩
def Jf{J:It}{k:Nat->V->Hp->Prop}{j:Hp->Prop}{g:TG}{tb:TS}{D:Ends}(S:rC J n k j)(e:Nat->L2.St->Hp->Prop)(h0:e 0 σ H)(m:∀i σ H,i<=n->e i σ H->j H)
  (hs:∀i x σ H H' (D2:Ends),i<n->e i σ H->k i x H'->aR H H'->(∀f H2,e (i+1) f H2->D2.nx f H2)->(∀f H2,e (i+1) f H2->D2.ct f H2)->g x σ H' fun f H2=>tb D2 f H2)(l:∀σ H,e n σ H->D.nx σ H):ForB J g tb D σ H:=
 DS S e h0 m (fun i x σ H H' a b c d=>hs i x σ H H' _ a b c d (fun _ _ h=>h) (fun _ _ h=>h)) l
def zM:rC (Itr 0 n) (nats n).length (fun i x _=>(nats n)[i]? =some x) (fun _=>True) where
 go:=fun i H h hi=>dX.go i H h (by simpa[nats]using hi)
 stop:=fun i H h hi=>dX.stop i H h (by simpa[nats]using hi)
 yld:=fun i H x b h hi y=>by
  have a:i<n:=by simpa[nats]using hi
  obtain⟨e,s⟩:=dX.yld i H x b h a y;refine⟨?_,s⟩;subst e;unfold nats;rw[ax,bP a,eP];rfl
def E7{t:V->Bool}{P:Nat->Bool}(h:∀p,p<n->t (.int p)=P p):((nats n).filter t).map id=(plc n P).map V.int:=by unfold nats plc;rw[fJ,List.filter_map,bq];rw[show(ay n).filter (t∘fun i:Nat=>V.int (i:Int))=(ay n).filter P from List.filter_congr fun p a=>h p (aJ.mp a)];rfl
def Paired.snoc{c d:Type}{F:c->d->Prop}{a:c}{b:d}(h:F a b){l:List c}{m:List d}(p:Paired F l m):Paired F (l++[a]) (m++[b]):=by
 induction p with
 |nil=>exact .cons h .nil
 |cons x r ih=>exact .cons x ih
def Tk(H H':Hp):Prop:=∀a xs,H a=some (.tup xs)->H' a=some (.tup xs)
def Tk.of(s:aR H H'):Tk H H':=fun a _ e=>s a _ e
def oR(h:H a=some (.lst xs)):Tk H (upd H a (.lst ys)):=fun b _ e=>by rw[bD (fun z=>by rw[z,h]at e;cases e)];exact e
def cu(t:Tk H H')(h:_root_.Q.IntKeys H ys ps):_root_.Q.IntKeys H' ys ps:=Paired.uD h fun v k z=>by obtain⟨a,e,f⟩:=z;exact⟨a,e,t _ _ f⟩
def BrOf(f:Nat->Int)(n:Nat)(g:Nat->Nat)(H:Hp)(v:V)(q:Int):Prop:=∃a x y z,v=V.ref a/\H a=some (.tup [.ref x,.ref y,.ref z])/\H x=some (.tup ((lo (nA f n g q) (nB f n g q)).map V.int))/\H y=some (.tup ((hi (nA f n g q) (nB f n g q)).map V.int))/\H z=some (.tup ((plc n (own g q.toNat)).map V.int))
def lY(f:Nat->Int)(n:Nat)(g:Nat->Nat)(H:Hp)(bs:List V)(qs:List Int):Prop:=Paired (BrOf f n g H) bs qs
def lY.tk{f:Nat->Int}{g:Nat->Nat}(t:Tk H H'){bs:List V}(h:lY f n g H bs qs):lY f n g H' bs qs:=Paired.uD h fun v k w=>by obtain⟨a,x,y,z,e,b,c,d,i⟩:=w;exact⟨a,x,y,z,e,t _ _ b,t _ _ c,t _ _ d,t _ _ i⟩
def lY.two{f:Nat->Int}{g:Nat->Nat}{bs:List V}(h:lY f n g H bs qs):_root_.Q.jZ H bs (brK f n g qs):=by
 unfold lY at h
 induction h with
 |nil=>exact .nil
 |cons x r ih=>obtain⟨a,x,y,z,e,b,c,d,_⟩:=x;exact .cons ⟨a,x,y,_,e,b,c,d⟩ ih
def ff{a b:Type}{F:a->b->Prop}{l:List a}{m:List b}(h:Paired F l m):m.length=l.length:=by
 induction h with
 |nil=>rfl
 |cons _ _ ih=>simp[ih]
abbrev gsI(rows:List (List Int))(n:Nat):List Int:=(ay n).map fun p:Nat=>(grp rows p:Int)
def yA:(gsI rows n).length=n:=by simp[gsI]
def Jc(h:p<n):(gsI rows n).getD p 0=(grp rows p:Int):=by unfold gsI;rw[af,ax,bP h];rfl
abbrev dn(qs:List Int)(k:Nat):List Int:=(qs.take k).filter fun q=> !decide (q=0)
def dn_zero(h:qs[k]? =some 0):dn qs (k+1)=dn qs k:=by unfold dn;rw[dh,h,lg];simp
def DZ{q:Int}(h:qs[k]? =some q)(a:q≠0):dn qs (k+1)=dn qs k++[q]:=by unfold dn;rw[dh,h,lg];simp[a]
def Jp{g:Nat->Nat}(h:Grs n g qs):Grs n g (dn qs k):=by have s:(dn qs k).Sublist qs:=d8.trans (tj k qs);exact⟨h.1.sublist s,fun q hq=>h.2 q (s.subset hq)⟩
def Jo{g:Nat->Nat}(h:Grs n g qs):(dn qs k).length<=n:=DP (Jp h)
structure Fx(H:Hp)(gl nd br so:Addr):Prop where
 fnd:H nd=none
 fbr:H br=none
 n1:nd≠br
 n2:nd≠gl
 n3:nd≠so
 n4:br≠gl
 n5:br≠so
structure Gx(rows:List (List Int))(n:Nat)(qs:List Int)(H:Hp)(gl nd br so:Addr)(ds:List Int)(ks bs:List V)(H':Hp):Prop where
 s:aR H H'
 eg:H' gl=some (.lst ((gsI rows n).map V.int))
 eo:H' so=some (.lst (qs.map V.int))
 en:H' nd=some (.lst ks)
 eb:H' br=some (.lst bs)
 nk:_root_.Q.IntKeys H' ks (fM (fr rows) n (grp rows) ds)
 bk:lY (fr rows) n (grp rows) H' bs ds
section
variable {gl nd br so c r0:Addr}{ds:List Int}{ks bs:List V}{G:Gam}{E:XS}{D:Ends}
def Gx.same(g:Gx rows n qs H gl nd br so ds ks bs H')(s:aR H' H2):Gx rows n qs H gl nd br so ds ks bs H2:=
 ⟨g.s.trans s,s _ _ g.eg,s _ _ g.eo,s _ _ g.en,s _ _ g.eb,cu (Tk.of s) g.nk,g.bk.tk (Tk.of s)⟩
def Gx.ksl(g:Gx rows n qs H gl nd br so ds ks bs H'):ks.length=ds.length+1:=by have :=ff g.nk;simpa[fM]using this.symm
def Gx.bsl(g:Gx rows n qs H gl nd br so ds ks bs H'):bs.length=ds.length:=(ff g.bk).symm
def Gv(rows:List (List Int))(n:Nat)(qs:List Int)(H:Hp)(c r0 gl nd br so:Addr)(k:Nat)(σ:L2.St)(H':Hp):Prop:=
 (∃ks bs,Gx rows n qs H gl nd br so (dn qs k) ks bs H')/\∃u v w x y,σ=[some (.ref c),some (.ref r0),some (.ref gl),some (.ref nd),some (.ref br),u,v,w,x,y]
def B8{f:Nat->Int}{g:Nat->Nat}{q:Int}:fM f n g (ds++[q])=fM f n g ds++[nB f n g q]:=by simp[fM]
def pick{p:Prop}[Decidable p]{x y:Addr}{A B:List Int}(a:H x=some (.tup (A.map V.int)))(b:H y=some (.tup (B.map V.int))):∃z,(if p then V.ref y else V.ref x)=V.ref z/\H z=some (.tup ((if p then B else A).map V.int)):=by
 split;·exact⟨y,rfl,b⟩
 ·exact⟨x,rfl,a⟩
def xx(F:Fx H gl nd br so)(T:n<=60)(hq:Grs n (grp rows) qs){q:Int}(L:qs[k]? =some q)(h0:q≠0)(J:∀u H2,Gv rows n qs H c r0 gl nd br so (k+1) u H2->D.nx u H2)
  (s:aR H H')(v:H' gl=some (.lst ((gsI rows n).map V.int)))(A:H' so=some (.lst (qs.map V.int)))(w:H' nd=some (.lst ks))(m:H' br=some (.lst bs))(P:_root_.Q.IntKeys H' ks (fM (fr rows) n (grp rows) (dn qs (k+1))))(bk:lY (fr rows) n (grp rows) H' bs (dn qs k))
  (B:H' pl=some (.lst ((plc n (own (grp rows) q.toNat)).map V.int)))(g:H' be=some (.tup ((nB (fr rows) n (grp rows) q).map V.int)))(f:H' ab=some (.tup ((nA (fr rows) n (grp rows) q).map V.int))):
  wpB G K E mV D [some (.ref c),some (.ref r0),some (.ref gl),some (.ref nd),some (.ref br),some (.int q),some (.ref pl),some (.ref ar),some (.ref be),some (.ref ab)] H':=by
 have S:(dn qs k).length<=n:=Jo hq;have R:=ff bk;unfold mV;ext;have t:(nA (fr rows) n (grp rows) q).length=(nB (fr rows) n (grp rows) q).length:=(iP _ _ _).trans (iP _ _ _).symm;obtain⟨x,C,M⟩:=pick (p:=_root_.Q.llt (nB (fr rows) n (grp rows) q) (nA (fr rows) n (grp rows) q)=true) f g;obtain⟨y,I,N⟩:=pick (p:=_root_.Q.llt (nA (fr rows) n (grp rows) q) (nB (fr rows) n (grp rows) q)=true) f g;refine⟨.inl ⟨rfl,_,SqL.of m⟩,ab,be,_,_,rfl,SqT.of f,SqT.of g,t,ab,be,_,_,rfl,SqT.of f,SqT.of g,t,?_⟩;rw[C,I];refine⟨pl,_,rfl,.inl ⟨SqL.of B,fun z O=>⟨short (by simp),fun a r=>?_⟩⟩⟩;have d:aR H' (upd (upd H' z (.tup ((plc n (own (grp rows) q.toNat)).map V.int))) a (.tup [.ref x,.ref y,.ref z])):=(aP O).trans (aP r);have j:upd (upd H' z (.tup ((plc n (own (grp rows) q.toNat)).map V.int))) a (.tup [.ref x,.ref y,.ref z]) a=some (.tup [.ref x,.ref y,.ref z]):=aK;have l:upd (upd H' z (.tup ((plc n (own (grp rows) q.toNat)).map V.int))) a (.tup [.ref x,.ref y,.ref z]) z=some (.tup ((plc n (own (grp rows) q.toNat)).map V.int)):=aP r _ _ aK;generalize upd (upd H' z (.tup ((plc n (own (grp rows) q.toNat)).map V.int))) a (.tup [.ref x,.ref y,.ref z])=H1 at d j l⊢;have o:=d _ _ m;refine⟨br,bs,_,rfl,rfl,o,lt60 (by lia),J _ _ ⟨⟨ks,bs++[.ref a],?_⟩,_,_,_,_,_,rfl⟩⟩;have i:Tk H1 (upd H1 br (.lst (bs++[V.ref a]))):=oR o;have h:Tk H' (upd H1 br (.lst (bs++[V.ref a]))):=fun b Q e=>i b Q (d _ _ e);refine⟨gZ (s.trans d) F.fbr,?_,?_,?_,aK,cu h P,?_⟩;·rw[bD (bO F.n4)];exact d _ _ v
 ·rw[bD (bO F.n5)];exact d _ _ A
 ·rw[bD F.n1];exact d _ _ w
 ·rw[DZ L h0];exact Paired.snoc ⟨a,x,y,z,rfl,i _ _ j,h _ _ M,h _ _ N,i _ _ l⟩ (bk.tk h)
def xy(F:Fx H gl nd br so)(j:n<=60)(hq:Grs n (grp rows) qs){q:Int}(d:qs[k]? =some q)(h0:q≠0)(i:∀e H2,Gv rows n qs H c r0 gl nd br so (k+1) e H2->D.nx e H2)
  (g:Gx rows n qs H gl nd br so (dn qs k) ks bs H')(l:pl≠nd)(h:H' pl=some (.lst ((plc n (own (grp rows) q.toNat)).map V.int)))(b:H' be=some (.tup ((nB (fr rows) n (grp rows) q).map V.int)))(f:H' ab=some (.tup ((nA (fr rows) n (grp rows) q).map V.int))):
  wpB G K E mW D [some (.ref c),some (.ref r0),some (.ref gl),some (.ref nd),some (.ref br),some (.int q),some (.ref pl),some (.ref ar),some (.ref be),some (.ref ab)] H':=by
 have m:(dn qs k).length<=n:=Jo hq;have o:=g.ksl;unfold mW;ext;refine⟨.inl ⟨rfl,_,SqL.of g.en⟩,nd,ks,_,rfl,rfl,g.en,lt60 (by lia),?_⟩;have a:Tk H' (upd H' nd (.lst (ks++[V.ref be]))):=oR g.en;refine xx F j hq d h0 i (gZ g.s F.fnd) ?_ ?_ aK ?_ ?_ (g.bk.tk a) ?_ (a _ _ b) (a _ _ f);·rw[bD (bO F.n2)];exact g.eg
 ·rw[bD (bO F.n3)];exact g.eo
 ·rw[bD (bO F.n1)];exact g.eb
 ·rw[DZ d h0,B8];exact Paired.snoc ⟨be,rfl,a _ _ b⟩ (cu a g.nk)
 ·rw[bD l];exact h
def zP{P:Nat->Bool}{Q:VK}{d:TT}{τs:List (Option V)}(s:n<=60)
  (step:∀(p:Nat)(u:Option V)(a:Hp)(R:Bool->Hp->Prop),p<n->aR H1 a->R (P p) a->d (some (.int p)::τs) a R)
  (g:∀H2 l,aR H1 H2->H2 l=none->Q (.ref l) (upd H2 l (.lst ((plc n P).map V.int)))):
  xn (Itr 0 n) (me 0) d (pL 0) (none::τs) H1 Q:=by
 refine Fy (xs:=nats n) zM (sR (by unfold nats;simp;lia)) (fun _ _=>trivial) (fun v=>match v with |.int i=>P i.toNat|_=>false) id (fun f=>∃u,f=u::τs) ⟨none,rfl⟩ ?_ ?_
 ·rintro x f a r q c ⟨u,rfl⟩ o k kf;unfold nats at c;obtain⟨p,b,rfl⟩:=aF.mp c;have b:=aJ.mp b;refine step p u a _ b o ?_;have e:P ((p:Int)).toNat=P p:=by rw[ba]
  cases h:P p with
  |true=>rw[if_pos rfl];exact⟨_,rfl,k _ _ ⟨_,rfl⟩ (aR.refl _) (e.trans h)⟩
  |false=>rw[if_neg aA];exact kf _ _ ⟨_,rfl⟩ (aR.refl _) (e.trans h)
 ·intro H2 l m j;rw[E7 (P:=P) fun p b=>by show P ((p:Int)).toNat=P p;rw[ba]];exact g H2 l m j
def xA(h:G.fn "turned" 2=some (mz K,[]))(F:Fx H gl nd br so)(i:n<=60)(u:(rows.getD 0 []).length=n)(v:H r0=some (.tup ((rows.getD 0 []).map V.int)))(hq:Grs n (grp rows) qs){q:Int}(t:qs[k]? =some q)(h0:q≠0)(s:∀j H2,Gv rows n qs H c r0 gl nd br so (k+1) j H2->D.nx j H2){x y:Option V}
  (g:Gx rows n qs H gl nd br so (dn qs k) ks bs H')(w:pl≠nd)(f:H' pl=some (.lst ((plc n (own (grp rows) q.toNat)).map V.int)))(r:H' ar=some (.lst ((plc n (M4.sub (grp rows) q.toNat)).map V.int))):
  wpB G K E mX D [some (.ref c),some (.ref r0),some (.ref gl),some (.ref nd),some (.ref br),some (.int q),some (.ref pl),some (.ref ar),x,y] H':=by
 unfold mX;ext;refine⟨_,_,h,r0,ar,_,_,rfl,SqT.of (g.s _ _ v),SqL.of r,by lia,fun z l b _ a=>?_⟩;have m:trn (rows.getD 0 []) (plc n (M4.sub (grp rows) q.toNat))=nB (fr rows) n (grp rows) q:=by rw[<-u];exact Ex
 rw[m]at a;unfold sf;ext;refine⟨_,_,h,l,pl,_,_,rfl,SqT.of a,SqL.of (b _ _ f),by unfold nB;rw[iP];exact i,fun H2 A d _ e=>?_⟩;have o:trn (nB (fr rows) n (grp rows) q) (plc n (own (grp rows) q.toNat))=nA (fr rows) n (grp rows) q:=by unfold nB nA;rw[trn_bl fun p=>own_sub,JO]
 rw[o]at e;exact xy F i hq t h0 s (g.same (b.trans d)) w (d _ _ (b _ _ f)) (d _ _ a) e
def xB(L:G.fn "turned" 2=some (mz K,[]))(F:Fx H gl nd br so)(i:n<=60)(t:(rows.getD 0 []).length=n)(l:H r0=some (.tup ((rows.getD 0 []).map V.int)))(hq:Grs n (grp rows) qs){q:Int}(s:qs[k]? =some q)(h0:q≠0)(M:∀I H2,Gv rows n qs H c r0 gl nd br so (k+1) I H2->D.nx I H2){v w x y:Option V}
  (g:Gx rows n qs H gl nd br so (dn qs k) ks bs H'):
  wpB G K E mY D [some (.ref c),some (.ref r0),some (.ref gl),some (.ref nd),some (.ref br),some (.int q),v,w,x,y] H':=by
 obtain⟨T,S,J⟩:=hq.2 q (aG s);have A:q=(q.toNat:Int):=by rw[J,ba]
 have B:((rows.getD 0 []).map V.int).length=n:=by rw[ak];exact t
 unfold mY;ext;refine eJ ?_;ext;refine Or.inl ⟨r0,_,rfl,.inr (SqT.of (g.s _ _ l)),_,rfl,by lia,by lia,?_⟩;rw[B,ba];refine zP (P:=own (grp rows) q.toNat) (τs:=[some (.int q),some (.ref gl)]) i ?_ ?_
 ·intro p u m R b a h;ext;refine .inl ⟨gl,_,p,_,rfl,rfl,SqL.of (a _ _ g.eg),bS (jb (by rw[yA];exact b)),?_⟩;rw[Jc b];refine wM.mpr ?_;refine⟨_,rfl,?_⟩;have e:decide ((grp rows p:Int)=q)=own (grp rows) q.toNat p:=by unfold M5.own;rw[A,ba];exact decide_eq_decide.mpr (by lia)
  rw[e];exact h
 intro f d C j;have O:aR H' (upd f d (.lst ((plc n (own (grp rows) q.toNat)).map V.int))):=C.trans (aP j);have o:upd f d (.lst ((plc n (own (grp rows) q.toNat)).map V.int)) d=some (.lst ((plc n (own (grp rows) q.toNat)).map V.int)):=aK;have N:d≠nd:=fun z=>by rw[z,C _ _ g.en]at j;cases j
 have g:=g.same O;generalize upd f d (.lst ((plc n (own (grp rows) q.toNat)).map V.int))=H2 at o g⊢;unfold sk;ext;refine eJ ?_;ext;refine Or.inl ⟨r0,_,rfl,.inr (SqT.of (g.s _ _ l)),_,rfl,by lia,by lia,?_⟩;rw[B,ba];refine zP (P:=M4.sub (grp rows) q.toNat) (τs:=[some (.int q),some (.ref gl)]) i ?_ ?_
 ·intro p u m R b a h;ext;refine .inl ⟨gl,_,p,_,rfl,rfl,SqL.of (a _ _ g.eg),bS (jb (by rw[yA];exact b)),?_⟩;rw[Jc b];refine and_ii.mpr (wM.mpr ⟨_,rfl,?_⟩);have e:decide (iZ (grp rows p:Int) q=q)=M4.sub (grp rows) q.toNat p:=by unfold M4.sub;rw[A,and_nat,ba];exact decide_eq_decide.mpr (by lia)
  rw[e];exact h
 intro m Q a r;exact xA L F i t l hq s h0 M (g.same (a.trans (aP r))) N ((a.trans (aP r)) _ _ o) aK
end
def rE(rows:List (List Int))(n:Nat)(H:Hp)(H':Hp)(p:Addr):Prop:=∃(a bl:Addr)(ks bs:List V)(qs:List Int),H' p=some (.tup [.ref a,.ref bl])/\H a=none/\H bl=none/\a≠bl/\Grs n (grp rows) qs/\0∉qs/\(∀p,p<n->grp rows p≠0->(grp rows p:Int)∈qs)/\
 _root_.Q.IntKeys H' ks (fM (fr rows) n (grp rows) qs)/\lY (fr rows) n (grp rows) H' bs qs/\H' a=some (.lst (_root_.Q.dk .non (fM (fr rows) n (grp rows) qs) ks))/\H' bl=some (.lst (_root_.Q.dk .non ((brK (fr rows) n (grp rows) qs).map _root_.Q.kP) bs))
def tQ:Sp:=fun vs H Q _=>∃(c:Addr)(ys:List V)(n:Nat)(rows:List (List Int)),vs=[.ref c]/\Cps H c ys n rows/\ys≠[]/\∀H' p,aR H H'->H p=none->rE rows n H H' p->Q (.ref p) H'
def Eu(g1:G.fn "group_at" 2=some (xM,[]))(F:G.fn "turned" 2=some (mz K,[])):Sat G K tQ Ed DC:=by
 rintro vs H b4 b3 ⟨c,N,n,a,rfl,d,hy,q⟩;unfold Ed;change wpB G K _ _ _ [some (.ref c),none,none,none,none,none,none,none,none,none] H;ext;have m:0<N.length:=gd.mpr hy;obtain⟨a1,z,r,e1,e2,R⟩:=d.at_ 0 N[0] (ae m);obtain⟨W,hf⟩:=d.row m;have hf:∀p,p<n->fr a p=0\/fr a p=1:=hf;have hn:=d.n60;have a9:((a.getD 0 []).map V.int).length=n:=by rw[ak];exact W
 have g0:N[0]? =some (.ref a1):=by rw[ae m,e1]
 refine .inl ⟨c,N,0,_,rfl,rfl,SqL.of d.ec,bS (j:=0) g0,?_⟩;refine .inr (.inl ⟨a1,_,1,_,rfl,rfl,SqT.of e2,rfl,?_⟩);unfold w4;ext;refine eJ ?_;ext;refine Or.inl ⟨r,_,rfl,.inr (SqT.of R),_,rfl,by lia,by lia,?_⟩;rw[a9,ba];refine fg dX (sR (by lia)) (fun _ _=>trivial) (fun i a0 _=>a0=.int (grp a i)) (fun _ _ _ _ _ h=>h) (fun τ=>∃u,τ=[u,some (.ref c)]) ⟨none,rfl⟩ ?_ ?_;·rintro i b1 τ C b5 hi ⟨u,rfl⟩ v rfl k;ext;simp only[eP];exact⟨_,_,g1,c,i,N,n,a,rfl,d.same v,hy,by lia,fun D M=>k _ _ _ ⟨_,rfl⟩ M rfl⟩
 intro vs H1 gl c0 hF s1 a8;have ev:vs=(gsI a n).map V.int:=by
  unfold gsI;apply l8;intro i;rw[ax,ax];by_cases hi:i<vs.length;·rw[ae hi,bP (by lia),hF i _ (ae hi)];rfl
  ·rw[cO (by lia),cO (by rw[bC];lia)];rfl
 rw[ev];generalize hX:upd H1 gl _=H2;obtain⟨L,s⟩:=eE hX a8;clear hX
 replace L:=s1.trans (L)
 unfold wZ;ext;refine⟨short (by simp),fun nd Q=>?_⟩;have v:aR H2 (upd H2 nd (.lst [.ref r])):=aP Q;have t:upd H2 nd (.lst [.ref r]) nd=some (.lst [.ref r]):=aK;have n2:nd≠gl:=fun z=>by rw[z,s]at Q;cases Q
 have fnd:H nd=none:=L.free Q;generalize upd H2 nd (.lst [.ref r])=C at v t⊢;unfold wY;ext;refine⟨short (by simp),fun e x=>?_⟩;have M:aR C (upd C e (.lst [])):=aP x;have S:upd C e (.lst []) e=some (.lst []):=aK;have n1:nd≠e:=fun z=>by rw[<-z,t]at x;cases x
 have n4:e≠gl:=fun z=>by rw[z,v _ _ s]at x;cases x
 have a7:H e=none:=(L.trans v).free x;have t:=M _ _ t;have s:=M _ _ (v _ _ s);have Y:=L.trans (v.trans M);generalize upd C e (.lst [])=D at Y S t s⊢;unfold wX;ext;refine gS ?_;ext;refine⟨_,rfl,gl,gsI a n,rfl,SqL.of s,Few.of (by rw[yA];lia),fun ms f a4 mem J=>?_⟩;obtain⟨b,eq,X⟩:=_root_.Q.EF a4;have hq:Grs n (grp a) b:=⟨X.nodup_iff.mpr a4,fun q hq=>by have h:=(mem q).mp (X.mem_iff.mp hq);unfold gsI at h;obtain⟨p,y,a6⟩:=aF.mp h;exact⟨p,aJ.mp y,a6.symm⟩⟩
 rw[eq];have B:aR D (upd D f (.lst (b.map V.int))):=aP J;have U:upd D f (.lst (b.map V.int)) f=some (.lst (b.map V.int)):=aK;have n3:nd≠f:=fun z=>by rw[<-z,t]at J;cases J
 have n5:e≠f:=fun z=>by rw[<-z,S]at J;cases J
 have a5:Fx H gl nd e f:=⟨fnd,a7,n1,n2,n3,n4,n5⟩;generalize upd D f (.lst (b.map V.int))=H5 at B U⊢;have gx:Gx a n b H gl nd e f (dn b 0) [.ref r] [] H5:=by
  refine⟨Y.trans B,B _ _ s,U,B _ _ t,B _ _ S,?_,.nil⟩;refine .cons ⟨r,rfl,?_⟩ .nil;have ef:bl (fr a) n (fun _=>false)=a.getD 0 []:=by rw[<-W];exact Jk _
  rw[ef];exact(Y.trans B) _ _ R
 refine⟨f,rfl,⟨_,SqL.of U⟩,Jf (fv (xs:=b.map V.int)) (Gv a n b H c r gl nd e f) ⟨⟨_,_,gx⟩,_,_,_,_,_,rfl⟩ (fun k σ H' _ g=>?_) ?_ ?_⟩;·obtain⟨⟨l,bs,g⟩,_⟩:=g;exact SqL.of g.eo
 ·rintro k b1 σ E H7 D2 hk ⟨⟨l,bs,g⟩,u,a0,b0,x',b2,rfl⟩ hx s7 hD hC;have g:=g.same s7;rw[ak]at hk;have P:b[k]? =some b[k]:=ae hk;rw[ax,P]at hx;cases hx;generalize b[k]=q at P;ext;by_cases m:q=0;·rw[decide_eq_true m,if_pos rfl];refine hC _ _ ⟨⟨l,bs,?_⟩,_,_,_,_,_,rfl⟩;rw[dn_zero (by rw[P,m])];exact g
  ·rw[decide_eq_false m,if_neg aA];exact xB F a5 hn W R hq P m hD g
 ·rintro σ E ⟨⟨l,bs,g⟩,u,a0,b0,x',b2,rfl⟩;rw[ak]at g;have I:Grs n (grp a) (dn b b.length):=Jp hq;have a2:dn b b.length=b.filter fun q=> !decide (q=0):=by unfold dn;rw[eI]
  have z0:(0:Int)∉dn b b.length:=fun z=>by rw[a2]at z;simpa using(aV.mp z).2
  have all:∀p,p<n->grp a p≠0->(grp a p:Int)∈dn b b.length:=fun p y h=>by
   rw[a2];refine aV.mpr ⟨X.mem_iff.mpr ((mem _).mpr ?_),?_⟩;·unfold gsI;exact aF.mpr ⟨p,aJ.mpr y,rfl⟩
   ·have :¬((grp a p:Int)=0):=by lia
    rw[decide_eq_false this];rfl
  generalize dn b b.length=ds at g I z0 all;have b8:ds.length<=n:=DP I;have b9:=g.ksl;have b7:=g.bsl;have c1:=ff g.nk;have b6:=ff g.bk.two;unfold wW;ext;refine⟨nd,l,_,n,rfl,SqL.of g.en,by lia,pU hf I,E6,g.nk,fun A a3=>?_⟩;have t1:aR E (upd E A (.lst (_root_.Q.dk .non (fM (fr a) n (grp a) ds) l))):=aP a3;have T:upd E A (.lst (_root_.Q.dk .non (fM (fr a) n (grp a) ds) l)) A=some (.lst (_root_.Q.dk .non (fM (fr a) n (grp a) ds) l)):=aK;have w:=g.same t1;generalize upd E A (.lst (_root_.Q.dk .non (fM (fr a) n (grp a) ds) l))=H7 at t1 T w⊢;refine⟨e,bs,_,n,rfl,SqL.of w.eb,by lia,yU hf I,brK_len,w.bk.two,fun bl O=>⟨short (by simp),fun p y=>?_⟩⟩;have Z:=aP (o:=.lst (_root_.Q.dk .non ((brK (fr a) n (grp a) ds).map _root_.Q.kP) bs)) O;have t3:=aP (o:=.tup [.ref A,.ref bl]) y;have F:=w.same (Z.trans t3);refine q _ p F.s (((w.s).trans Z).free y) ⟨A,bl,l,bs,ds,aK,g.s.free a3,w.s.free O,fun z=>by(rw[<-z,T]at O;cases O),I,z0,all,F.nk,F.bk,(Z.trans t3) _ _ T,t3 _ _ aK⟩
end K32
namespace K32
open PySem R
abbrev p_tree:List Str:=["table"]
abbrev Ij:List Str:=["table","copies"]
abbrev AR:CB:=
  (.cons (.ret (.call "grown" (.cons (.var 1) .nil)))
  .nil)
abbrev AS:CB:=
  (.cons (.iff (.cmp .Eq (.bfn .len (.cons (.var 1) .nil)) (.con (.int 0)))
  (.cons (.ret (.tup (.cons (.lst .nil) (.cons (.lst .nil) .nil))))
  .nil)
  .nil)
  AR)
abbrev AU:CB:=
  (.cons (.expr (.call "refuse_clash" (.cons (.var 1) .nil)))
  AS)
abbrev JH:CB:=
  (.cons (.asg (.name 1) (.call "table_list" (.cons (.var 0) .nil)))
  AU)
end K32
namespace K32
open PySem PySem.Spec PyProof.Rows L2 R Cp Lt Kc K21 K22 Lm M5
def zK{x:V}(e:dP H x=true)(m:H' l=some (.lst zs))(h:zs.map (cd H')=rowsOf H x)(t:dP H' (.ref l)=true):rowsOf H' (.ref l)=rowsOf H x/\srt H' (.ref l)=zs:=by
 have i:dZ (H' l)=some zs:=by rw[m];rfl
 obtain⟨y,C,o,j,z,A,b,B⟩:=eX t;cases o;rw[i]at j;cases j;obtain⟨a,ys,rfl,p,u,v,g,w⟩:=eX e;have c:∀l:List V,l.filter (fun _=>true)=l:=fun l=>J5.mpr fun _ _=>rfl;have r:(_root_.Q.sortBy V.non (ys.map (aY H)) ys).map (aY H)=_root_.Q.sortBy ("":Str) (ys.map (aY H)) (ys.map (aY H)):=by
  have :=_root_.Q.kA V.non (aY H) (fun _=>true) g
  rwa [c,c]at this
 have s:(_root_.Q.sortBy V.non (zs.map (aY H')) zs).map (aY H')=_root_.Q.sortBy ("":Str) (zs.map (aY H')) (zs.map (aY H')):=by
  have :=_root_.Q.kA V.non (aY H') (fun _=>true) b
  rwa [c,c]at this
 have n:zs.map (aY H')=_root_.Q.sortBy ("":Str) (ys.map (aY H)) (ys.map (aY H)):=by rw[<-r,<-m6 p];have :=congrArg (List.map Prod.fst) h;unfold rowsOf at this;rw[bq,bq]at this;exact this
 have q:=_root_.Q.eD V.non b (ys:=zs) (by simp);have k:_root_.Q.sortBy V.non (zs.map (aY H')) zs=zs:=by refine oX (wy b) (fun a d=>q.mem_iff.mp d) (fun a d=>d) ?_;rw[s];refine _root_.Q.i8 (_root_.Q.eD ("":Str) b rfl) (_root_.Q.gw b) ?_;rw[n];exact _root_.Q.gw g
 have f:srt H' (.ref l)=zs:=by rw[m6 i,k]
 refine⟨?_,f⟩;show(srt H' (.ref l)).map (cd H')=_;rw[f];exact h
abbrev intOf:V->Int
 |.int i=>i
 |_=>0
def lE(h:∀z∈zs,cM z=true):(zs.map intOf).map V.int=zs/\∀x∈zs.map intOf,x=0\/x=1:=by
 constructor
 ·rw[bq]
  conv =>rhs;rw[<-fJ zs]
  refine cF fun z a=>?_;rcases hJ (h z a)with e|e<;>rw[e]<;>rfl
 ·intro x b;obtain⟨z,a,rfl⟩:=aF.mp b;rcases hJ (h z a)with e|e<;>rw[e];·exact .inl rfl
  ·exact .inr rfl
abbrev rI(R:List (Str×List V)):List (List Int):=R.map fun p=>p.2.map intOf
def cps_of(d:H l=some (.lst zs))(w:dP H (.ref l)=true):Cps H l zs (count H (.ref l)) (rI (zs.map (cd H))):=by
 have g:dZ (H l)=some zs:=by rw[d];rfl
 obtain⟨z,B,q,m,x,c,A,n⟩:=eX w;cases q;rw[g]at m;cases m;refine⟨d,x,by simp[rI],?_,fun i y e=>?_,fun r v=>?_⟩
 ·cases zs with
  |nil=>show(match dZ (H l)with |some (y::_)=>cz H y|_=>0)<=60;rw[g];exact aW _
  |cons y r=>rw[<-n y (.head _)];obtain⟨_,_,_,_,_,_,_,_,s,_,_,t⟩:=iy (c y (.head _));rw[t];exact s
 ·obtain⟨b,r,rfl,h,j,k,a⟩:=kC (c y (aG e));refine⟨b,_,r,rfl,h,?_⟩;have o:(rI (zs.map (cd H))).getD i []=(qU H (.ref b)).map intOf:=by unfold rI;rw[af,ax,ax,e];rfl
  rw[o,(lE a).1];exact j
 ·obtain⟨p,u,rfl⟩:=aF.mp v;obtain⟨y,f,rfl⟩:=aF.mp u;obtain⟨b,r,rfl,h,j,k,a⟩:=kC (c y f);refine⟨?_,(lE a).2⟩;rw[ak,<-n _ f];exact k
def gr_free{T:Tb}{p:Addr}(g:Gr T H H')(t:Tab T H')(h:H' p=none):H p=none:=by
 cases e:H p with
 |none=>rfl
 |some o=>
  have a:p≠T.P:=fun z=>by rw[z]at h;rcases t with t|⟨_,_,_,_,_,t,_⟩<;>(rw[h]at t;cases t)
  rw[g.keep p o a e]at h;cases h
def Cps.gr{T:Tb}(d:Cps H c ys n rows)(g:Gr T H H')(a:Tab T H):Cps H' c ys n rows:=
 {d with ec:=g.lst a d.ec,at_:=fun i y e=>let⟨b,z,r,h1,h2,h3⟩:=d.at_ i y e;⟨b,z,r,h1,g.zA a h2,g.zA a h3⟩}
def rE.old{p:Addr}(g:rE rows n H H' p)(f:∀p,H p=none->H0 p=none):rE rows n H0 H' p:=by obtain⟨h,bl,e,bs,i,a,b,c,d⟩:=g;exact⟨h,bl,e,bs,i,a,f _ b,f _ c,d⟩
def JP(R:List (Str×List V))(n:Nat)(H H':Hp)(p:Addr):Prop:=
 (R=[]/\∃a b,H' p=some (.tup [.ref a,.ref b])/\H a=none/\H b=none/\a≠b/\H' a=some (.lst [])/\H' b=some (.lst []))\/(R≠[]/\rE (rI R) n H H' p)
end K32
namespace M6
def Ok(n:Nat)(v:List Int):Prop:=v.length=n/\∀x∈v,x=0\/x=1
def Ok.at(h:Ok n v)(i:Nat):v.getD i 0=0\/v.getD i 0=1:=by
 rw[af];cases e:v[i]? with
 |none=>exact .inl rfl
 |some x=>exact h.2 x (aG e)
def Mis(vs:List (List Int))(i j:Nat):Prop:=∃a b:Int,(a=0\/a=1)/\(b=0\/b=1)/\∀v∈vs,¬(v.getD i 0=a/\v.getD j 0=b)
def Mis.sub{vs:List (List Int)}(h:Mis vs i j)(s:∀w∈ws,w∈vs):Mis ws i j:=let⟨a,b,ha,hb,k⟩:=h;⟨a,b,ha,hb,fun w c=>k w (s w c)⟩
def Mis.flip{vs:List (List Int)}(h:Mis vs i j):Mis vs j i:=let⟨a,b,ha,hb,k⟩:=h;⟨b,a,hb,ha,fun w c ⟨x,y⟩=>k w c ⟨y,x⟩⟩
end M6
namespace M10
open M6
abbrev oth(v ms:List Int):List Int:=(ay v.length).map fun j:Nat=>if(j:Int)∈ms then 1-v.getD j 0 else v.getD j 0
def oth_len(v ms:List Int):(oth v ms).length=v.length:=by simp[oth]
def HV(h:j<v.length):(oth v ms).getD j 0=if(j:Int)∈ms then 1-v.getD j 0 else v.getD j 0:=by unfold oth;rw[af,ax,bP h];rfl
def oth_ok(h:Ok n v):Ok n (oth v ms):=⟨by rw[oth_len];exact h.1,fun x a=>by obtain⟨j,_,rfl⟩:=aF.mp a;have :=h.at j;split <;>lia⟩
structure Gt(n:Nat)(fs:List Int)(vs:List (List Int)):Prop where
 ok:∀v∈vs,Ok n v
 mis:∀i j,i<j->j<n->Mis vs i j
 one:∀p:Nat,(p:Int)∈fs->∀v∈vs,∀w∈vs,v.getD p 0=w.getD p 0
def Gt.sub{fs:List Int}{vs:List (List Int)}(t:Gt n fs vs)(h:∀x∈gs,x∈fs):Gt n gs vs:=⟨t.ok,t.mis,fun p a=>t.one p (h _ a)⟩
def Gt.start{fs:List Int}(h:Ok n v):Gt n fs [v]:=by
 refine⟨fun w a=>by rw[aH.mp a];exact h,fun i j _ _=>⟨1-v.getD i 0,0,?_,.inl rfl,fun w a ⟨e,_⟩=>?_⟩,fun p _ x b y c=>by rw[aH.mp b,aH.mp c]⟩;·have :=h.at i;lia
 ·rw[aH.mp a]at e;lia
def Gt.turn{fs:List Int}{vs:List (List Int)}(t:Gt n (ms++fs) vs)(nd:(ms++fs).Nodup)(e:v∈vs):Gt n fs (vs++[oth v ms]):=by
 have f:=t.ok v e;have l:=oth_ok (ms:=ms) f;have at_:∀j,j<n->(oth v ms).getD j 0=if(j:Int)∈ms then 1-v.getD j 0 else v.getD j 0:=fun j g=>HV (by rw[f.1];exact g)
 refine⟨fun x d=>?_,fun i j u g=>?_,fun p q=>?_⟩
 ·rcases aU.mp d with h|h;·exact t.ok x h
  ·rw[aH.mp h];exact l
 ·have hi:i<n:=by lia
  have C:=f.at i;have D:=f.at j;by_cases c1:(i:Int)∈ms
  ·have A:∀x∈vs,x.getD i 0=v.getD i 0:=fun x d=>t.one i (aU.mpr (.inl c1)) x d v e;refine⟨1-v.getD i 0,1-(oth v ms).getD j 0,by lia,by have :=l.at j;lia,fun x d ⟨m,o⟩=>?_⟩;rcases aU.mp d with h|h;·rw[A x h]at m;lia
   ·rw[aH.mp h]at o;lia
  ·by_cases c2:(j:Int)∈ms
   ·have B:∀x∈vs,x.getD j 0=v.getD j 0:=fun x d=>t.one j (aU.mpr (.inl c2)) x d v e;refine⟨1-(oth v ms).getD i 0,1-v.getD j 0,by have :=l.at i;lia,by lia,fun x d ⟨m,o⟩=>?_⟩;rcases aU.mp d with h|h;·rw[B x h]at o;lia
    ·rw[aH.mp h]at m;lia
   ·obtain⟨a,b,r,s,k⟩:=t.mis i j u g;refine⟨a,b,r,s,fun x d=>?_⟩;rcases aU.mp d with h|h;·exact k x h
    ·rw[aH.mp h,at_ i hi,at_ j g,if_neg c1,if_neg c2];exact k v e
 ·have z:(p:Int)∉ms:=fun h=>(di.mp nd).2.2 _ h _ q rfl;have key:∀x∈vs++[oth v ms],x.getD p 0=v.getD p 0:=fun x d=>by
   rcases aU.mp d with h|h;·exact t.one p (aU.mpr (.inr q)) x h v e
   ·rw[aH.mp h];by_cases c:p<n;·rw[at_ p c,if_neg z]
    ·rw[af,af,cO (by rw[l.1];lia),cO (by rw[f.1];lia)]
  intro x d y w;rw[key x d,key y w]
end M10
namespace K34
open PySem PySem.Spec PyProof.Rows L2 R Cp Lt Kc K21 K22 Lm M5 K32
def mB(K:ao):Sp:=fun vs H Q _=>∃(r b:Addr)(zs ms:List Int),vs=[.ref r,.ref b]/\SqT K H r (zs.map V.int)/\SqL K H b (ms.map V.int)/\zs.length<=40/\
 ∀(H':Hp)(p:Addr),aR H H'->H p=none->H' p=some (.tup ((M10.oth zs ms).map V.int))->Q (.ref p) H'
def wp_othN:Sat G K (mB K) mf ma:=by
 rintro g H Q E ⟨r,b,c,a,rfl,d,w,B,q⟩;unfold mf;change wpB G K _ _ _ [some (.ref r),some (.ref b)] H;ext;refine eJ ?_;ext;refine Or.inl ⟨r,_,rfl,.inr d,_,rfl,by rw[ak];lia,by rw[ak];lia,?_⟩;rw[ak];refine fg dX (short (by lia)) (fun _ _=>trivial) (fun i v _=>v=.int (if(i:Int)∈a then 1-c.getD i 0 else c.getD i 0)) (fun _ _ _ _ _ h=>h) (fun s=>∃t,s=[t,some (.ref b),some (.ref r)]) ⟨none,rfl⟩ ?_ ?_
 ·rintro i x s A R hi ⟨t,rfl⟩ f rfl k;ext;simp only[eP];have y:i<c.length:=by lia
  have j:=jb y;refine .inr ⟨b,_,rfl,.inl (f.seq w),rfl,jM a,_,rfl,?_⟩;show if inV (V.int (i:Int)) (a.map V.int)=true then _ else _
  rw[lU];by_cases h:(i:Int)∈a;·rw[decide_eq_true h,if_pos rfl];refine .inr (.inl ⟨r,_,i,_,rfl,rfl,f.tup d,bS j,?_⟩);ext;exact k _ _ _ ⟨_,rfl⟩ (aR.refl _) (by rw[if_pos h])
  ·rw[decide_eq_false h,if_neg aA];refine .inr (.inl ⟨r,_,i,_,rfl,rfl,f.tup d,bS j,?_⟩);exact k _ _ _ ⟨_,rfl⟩ (aR.refl _) (by rw[if_neg h])
 ·intro g z l C u o m;have e:g=(M10.oth c a).map V.int:=by
   unfold M10.oth;apply l8;intro i;rw[ax,ax];by_cases hi:i<g.length;·rw[ae hi,bP (by lia),u i _ (ae hi)];rfl
   ·rw[cO (by lia),cO (by rw[bC];lia)];rfl
  subst e;exact⟨l,_,rfl,.inl ⟨SqL.of aK,fun p n=>q _ p (o.trans ((aP m).trans (aP n))) ((o.trans (aP m)).free n) aK⟩⟩
section
variable {G:Gam}
structure Fs(H:Hp)(nd lk fr:Addr):Prop where
 fnd:H nd=none
 flk:H lk=none
 ffr:H fr=none
 n1:nd≠lk
 n2:nd≠fr
 n3:lk≠fr
section
variable {E:XS}{D2:Ends}{a nd lk fr sm:Addr}{sd d0:Int}
def p6(a:k<ns.length):(ns.map V.int)[k]? =some (.int (ns.getD k 0)):=by rw[ax,ae a,af,ae a];rfl
end
end
end K34
namespace M7
open K32
def Fits(rows:List (List Int))(n:Nat)(v:List Int):Prop:=M6.Ok n v/\∀i j,i<n->j<n->∃r∈rows,r.getD i 0=v.getD i 0/\r.getD j 0=v.getD j 0
def Fits.sub{a:List (List Int)}(h:Fits rows n v)(s:∀r∈rows,r∈a):Fits a n v:=⟨h.1,fun i j hi b=>let⟨r,hr,e⟩:=h.2 i j hi b;⟨r,s r hr,e⟩⟩
section
def kW:bt rows p r=true↔r.getD p 0≠fr rows p:=by unfold bt;simp
def m4(p i:Nat):(grp rows p).testBit i=((rows.reverse[i]?).map (bt rows p)).getD false:=by unfold grp;have :=M3.Dy (rows.map (bt rows p)).reverse i;rw[List.reverse_reverse]at this;rw[this,<-List.map_reverse,ax]
def gsub:grp rows p&&& grp rows q=grp rows q↔∀r∈rows,bt rows q r=true->bt rows p r=true:=by
 rw[M3.and_sub];constructor;·intro h r a hq;obtain⟨i,hi⟩:=bG.mp (jx.mpr a);have :=h i;rw[m4,m4,hi]at this;exact this hq
 ·intro h i;rw[m4,m4];cases e:rows.reverse[i]? with
  |none=>exact id
  |some r=>exact h r (jx.mp (aG e))
def geq:grp rows p=grp rows q↔∀r∈rows,bt rows p r=bt rows q r:=by
 constructor;·intro h r c;have a:=gsub.mp (show grp rows p&&& grp rows q=grp rows q by rw[h,F6]) r c;have b:=gsub.mp (show grp rows q&&& grp rows p=grp rows p by rw[h,F6]) r c;exact eY.mpr ⟨b,a⟩
 ·intro h;apply qG
  intro i;rw[m4,m4];cases e:rows.reverse[i]? with
  |none=>rfl
  |some r=>exact h r (jx.mp (aG e))
def gnz:grp rows p≠0↔∃r∈rows,bt rows p r=true:=by
 constructor
 ·intro h;apply aq
  intro a;apply h;apply qG;intro i;rw[m4,Nat.zero_testBit];cases e:rows.reverse[i]? with
  |none=>rfl
  |some r=>
   cases b:bt rows p r with
   |false=>exact b
   |true=>exact absurd ⟨r,jx.mp (aG e),b⟩ a
 ·rintro⟨r,c,h⟩ z;obtain⟨i,hi⟩:=bG.mp (jx.mpr c);have :=m4 (rows:=rows) p i;rw[hi,z,Nat.zero_testBit]at this;rw[show((some r).map (bt rows p)).getD false=bt rows p r from rfl,h]at this;cases this
end
theorem qj{b:Type}{p q:b->Bool}:∀{l:List b},(∀r∈l,q r=true->p r=true)->∀{x:b},x∈l->p x=true->q x=false->l.countP q<l.countP p
 |a::l,h,x,hx,hp,hq=>by
  rw[List.countP_cons,List.countP_cons];have d:=h a au;have c:∀r∈l,q r=true->p r=true:=fun r f=>h r (av _ f);rcases aI.mp hx with rfl|hx;·have :=List.countP_mono_left c;rw[hp,hq,if_pos rfl,if_neg (by decide)];lia
  ·have :=qj c hx hp hq;cases e:q a with
   |true=>rw[d e];lia
   |false=>rw[if_neg (by decide)];lia
structure Tbl(rows:List (List Int))(n:Nat):Prop where
 ok:∀r∈rows,M6.Ok n r
 ne:rows≠[]
 mis:∀i j,i<j->j<n->M6.Mis rows i j
section
def Tbl.first(t:Tbl rows n):rows.getD 0 []∈rows:=by
 cases rows with
 |nil=>exact absurd rfl t.ne
 |cons a r=>exact au
def Tbl.f01(t:Tbl rows n)(p:Nat):fr rows p=0\/fr rows p=1:=(t.ok _ t.first).at p
def Tbl.mis'(t:Tbl rows n)(h:i≠j)(hi:i<n)(a:j<n):M6.Mis rows i j:=by
 rcases Nat.lt_or_gt_of_ne h with h|h;·exact t.mis i j h a
 ·exact(t.mis j i h hi).flip
def neq{x f:Int}(a:x=0\/x=1)(hf:f=0\/f=1):x≠f↔x=1-f:=by rcases a with rfl|rfl<;>rcases hf with rfl|rfl<;>decide
def Tbl.turn(t:Tbl rows n)(a:r∈rows):bt rows p r=true↔r.getD p 0=1-fr rows p:=by rw[kW];exact neq ((t.ok r a).at p) (t.f01 p)
def Tbl.lM(t:Tbl rows n):bt rows p r=false↔r.getD p 0=fr rows p:=by unfold bt;simp
def two{x y z:Int}(a:x=0\/x=1)(b:y=0\/y=1)(hz:z=0\/z=1)(h:x≠y):x=z\/y=z:=by rcases a with rfl|rfl<;>rcases b with rfl|rfl<;>rcases hz with rfl|rfl<;>first |exact absurd rfl h|decide
def two1{x z:Int}(a:x=0\/x=1)(hz:z=0\/z=1):x=z\/1-x=z:=by rcases a with rfl|rfl<;>rcases hz with rfl|rfl<;>decide
def eqb{x y f:Int}(a:x=0\/x=1)(b:y=0\/y=1)(hf:f=0\/f=1):x=y↔(x≠f↔y≠f):=by rcases a with rfl|rfl<;>rcases b with rfl|rfl<;>rcases hf with rfl|rfl<;>decide
def Tbl.nest(t:Tbl rows n)(C:p<n)(hq:q<n)(f:r∈rows)(o:bt rows p r=true)(s:bt rows q r=true):(∀r∈rows,bt rows p r=true->bt rows q r=true)\/∀r∈rows,bt rows q r=true->bt rows p r=true:=by
 by_cases hpq:p=q;·exact .inl fun r _ h=>hpq▸h
 apply aq
 intro h;rw[not_or]at h;obtain⟨g,d⟩:=gJ.mp h.1;obtain⟨i,e⟩:=gJ.mp h.2;have d:g∈rows/\bt rows p g=true/\¬bt rows q g=true:=by apply aq;intro z;apply d;intro a b;apply aq;intro c;exact z ⟨a,b,c⟩
 have e:i∈rows/\bt rows q i=true/\¬bt rows p i=true:=by apply aq;intro z;apply e;intro a b;apply aq;intro c;exact z ⟨a,b,c⟩
 obtain⟨a,b,A,B,k⟩:=t.mis' hpq C hq;have v:=t.f01 p;have w:=t.f01 q;have u:=k _ t.first;have m:=k _ f;have j:=k _ d.1;have l:=k _ e.1;rw[(t.turn f).mp o,(t.turn f).mp s]at m;rw[(t.turn d.1).mp d.2.1,t.lM.mp (fK.mpr d.2.2)]at j;rw[(t.turn e.1).mp e.2.1,t.lM.mp (fK.mpr e.2.2)]at l;rcases two1 v A with x|x<;>rcases two1 w B with y|y;·exact u ⟨x,y⟩
 ·exact l ⟨x,y⟩
 ·exact j ⟨x,y⟩
 ·exact m ⟨x,y⟩
def iQ{f:Nat->Int}{P:Nat->Bool}(h:i<n):(M4.bl f n P).getD i 0=if P i=true then 1-f i else f i:=M5.Eg h
def AE{u:List Int}(c:u.length=n)(d:v.length=n)(h:∀i,i<n->u.getD i 0=v.getD i 0):u=v:=by
 apply cU (c.trans d.symm)
 intro i a b;have :=h i (by lia)
 rwa [af,af,ae a,ae b]at this
def Ef(t:Tbl rows n)(P:Nat->Bool):M6.Ok n (M4.bl (fr rows) n P):=⟨M4.iP _ _ _,fun x a=>by obtain⟨i,_,rfl⟩:=aF.mp a;have :=t.f01 i;split <;>lia⟩
abbrev below(rows:List (List Int))(n p:Nat):List Int:=M4.bl (fr rows) n (M4.sub (grp rows) (grp rows p))
def iJ:M4.sub (grp rows) (grp rows p) q=true↔∀r∈rows,bt rows p r=true->bt rows q r=true:=by unfold M4.sub;rw[decide_eq_true_eq];exact gsub
def Cu(t:Tbl rows n)(hz:grp rows p≠0):Fits rows n (below rows n p):=by
 refine⟨Ef t _,fun i j hi g=>?_⟩;unfold below;rw[iQ hi,iQ g];have pick:∀{i j:Nat},M4.sub (grp rows) (grp rows p) i=true->M4.sub (grp rows) (grp rows p) j=false->∃r∈rows,r.getD i 0=1-fr rows i/\r.getD j 0=fr rows j:=fun{i j} a b=>by
  have b:¬∀r∈rows,bt rows p r=true->bt rows j r=true:=fun z=>by rw[iJ.mpr z]at b;cases b
  obtain⟨r,h⟩:=gJ.mp b;have h:r∈rows/\bt rows p r=true/\¬bt rows j r=true:=by apply aq;intro z;apply h;intro a b;apply aq;intro c;exact z ⟨a,b,c⟩
  exact⟨r,h.1,(t.turn h.1).mp (iJ.mp a r h.1 h.2.1),t.lM.mp (fK.mpr h.2.2)⟩
 cases a:M4.sub (grp rows) (grp rows p) i with
 |true=>
  cases b:M4.sub (grp rows) (grp rows p) j with
  |true=>obtain⟨r,d,h⟩:=gnz.mp hz;exact⟨r,d,(t.turn d).mp (iJ.mp a r d h),(t.turn d).mp (iJ.mp b r d h)⟩
  |false=>exact pick a b
 |false=>
  cases b:M4.sub (grp rows) (grp rows p) j with
  |true=>obtain⟨r,d,e,f⟩:=pick b a;exact⟨r,d,f,e⟩
  |false=>exact⟨_,t.first,rfl,rfl⟩
def Ct(t:Tbl rows n):Fits rows n (M4.bl (fr rows) n fun _=>false):=by refine⟨Ef t _,fun i j hi a=>⟨_,t.first,?_⟩⟩;rw[iQ hi,iQ a];exact⟨rfl,rfl⟩
def yi(t:Tbl rows n)(h:Fits rows n v):v=M4.bl (fr rows) n (fun _=>false)\/∃p,p<n/\grp rows p≠0/\v=below rows n p:=by
 by_cases hS:∀p,p<n->v.getD p 0=fr rows p
 ·left
  exact AE h.1.1 (M4.iP _ _ _) fun i hi=>by rw[iQ hi];exact hS i hi
 ·right
  have u:∃m p,p<n/\v.getD p 0≠fr rows p/\rows.countP (bt rows p)=m:=by obtain⟨p,a⟩:=gJ.mp hS;obtain⟨a,d⟩:=qH.mp a;exact⟨_,p,a,d,rfl⟩
  obtain⟨m,⟨p,a,d,o⟩,y⟩:∃m,(∃p,p<n/\v.getD p 0≠fr rows p/\rows.countP (bt rows p)=m)/\∀k,k<m->¬∃p,p<n/\v.getD p 0≠fr rows p/\rows.countP (bt rows p)=k:=by
   obtain⟨m,o⟩:=u
   induction m using oN with
   |_ m ih=>
    by_cases f:∃k,k<m/\∃p,p<n/\v.getD p 0≠fr rows p/\rows.countP (bt rows p)=k;·obtain⟨k,f,h⟩:=f;exact ih k f h
    ·exact⟨m,o,fun k x w=>f ⟨k,x,w⟩⟩
  have C:=fun i=>h.1.at i;have g:∀{r:List Int}{i:Nat},r∈rows->r.getD i 0=v.getD i 0->v.getD i 0≠fr rows i->bt rows i r=true:=fun c e z=>kW.mpr (by rw[e];exact z);refine⟨p,a,gnz.mpr ?_,?_⟩;·obtain⟨r,c,e,_⟩:=h.2 p p a a;exact⟨r,c,g c e d⟩
  ·refine AE h.1.1 (M4.iP _ _ _) fun q hq=>?_;unfold below;rw[iQ hq];by_cases hqv:v.getD q 0=fr rows q;·rw[if_neg,hqv];rw[iJ];intro hs;obtain⟨r,c,j,l⟩:=h.2 p q a hq;exact kW.mp (hs r c (g c j d)) (l.trans hqv)
   ·rw[if_pos,(neq (C q) (t.f01 q)).mp hqv];rw[iJ];obtain⟨r,c,j,l⟩:=h.2 p q a hq;rcases t.nest a hq c (g c j d) (g c l hqv)with hs|hs;·exact hs
    ·intro B A s;cases b:bt rows q B with
     |true=>rfl
     |false=>
      exfalso
      refine y _ ?_ ⟨q,hq,hqv,rfl⟩;rw[<-o];exact qj hs A s b
def Cls(rows:List (List Int))(p q:Nat):Prop:=∀r∈rows,∀s∈rows,r.getD p 0=s.getD p 0↔r.getD q 0=s.getD q 0
def Tbl.cls(t:Tbl rows n):grp rows p=grp rows q↔Cls rows p q:=by
 rw[geq];constructor;·intro h r c s d;have a:=h r c;have b:=h s d;rw[eY,kW,kW]at a b;rw[eqb ((t.ok r c).at p) ((t.ok s d).at p) (t.f01 p),eqb ((t.ok r c).at q) ((t.ok s d).at q) (t.f01 q),a,b]
 ·intro h r c;rw[eY,kW,kW];exact not_congr (h r c _ t.first)
structure End(rows:List (List Int))(n p:Nat)(v:List Int):Prop where
 ok:M6.Ok n v
 own:∀q,q<n->Cls rows p q->∃r∈rows,r.getD p 0=v.getD p 0/\r.getD q 0=v.getD q 0
 off:∀q,q<n->¬Cls rows p q->∃r∈rows,∃s∈rows,r.getD p 0≠s.getD p 0/\r.getD q 0=v.getD q 0/\s.getD q 0=v.getD q 0
def End.one(t:Tbl rows n)(S:p<n){w:List Int}(a:End rows n p v)(b:End rows n p w)(e:v.getD p 0=w.getD p 0):v=w:=by
 refine AE a.ok.1 b.ok.1 fun q hq=>?_;by_cases c:Cls rows p q;·obtain⟨r,d,g,i⟩:=a.own q hq c;obtain⟨s,f,j,O⟩:=b.own q hq c;rw[<-i,<-O];exact(c r d s f).mp (by rw[g,j,e])
 ·apply aq
  intro R;have T:p≠q:=fun z=>c (by rw[z];exact fun _ _ _ _=>Iff.rfl);obtain⟨r,d,s,f,g,i,j⟩:=a.off q hq c;obtain⟨D,l,E,m,L,M,N⟩:=b.off q hq c;obtain⟨x,y,o,U,k⟩:=t.mis' T S hq;have u:=k r d;have A:=k s f;have B:=k D l;have C:=k E m;have F:=(t.ok r d).at p;have G:=(t.ok s f).at p;have H:=(t.ok D l).at p;have I:=(t.ok E m).at p;have J:=a.ok.at q;have K:=b.ok.at q;rw[i]at u;rw[j]at A;rw[M]at B;rw[N]at C;have P:=two F G o g;have Q:=two H I o L;have h3:=two J K U R;rcases h3 with h3|h3
  ·rcases P with h|h;·exact u ⟨h,h3⟩
   ·exact A ⟨h,h3⟩
  ·rcases Q with h|h;·exact B ⟨h,h3⟩
   ·exact C ⟨h,h3⟩
abbrev jj(rows:List (List Int))(n p:Nat):List Int:=M4.bl (fr rows) n (M4.above (grp rows) (grp rows p))
def rB:M4.above (grp rows) (grp rows p) q=true↔M4.sub (grp rows) (grp rows p) q=true/\grp rows q≠grp rows p:=by unfold M4.above M4.sub;rw[decide_eq_true_eq,decide_eq_true_eq]
def sub_self:M4.sub (grp rows) (grp rows p) p=true:=iJ.mpr fun _ _ h=>h
def yV(a:p<n):(below rows n p).getD p 0=1-fr rows p:=by unfold below;rw[iQ a,if_pos sub_self]
def C0(a:p<n):(jj rows n p).getD p 0=fr rows p:=by unfold jj;rw[iQ a,if_neg fun h=>(rB.mp h).2 rfl]
def AG(t:Tbl rows n)(hz:grp rows p≠0)(c:¬Cls rows p q):∃r∈rows,∃s∈rows,r.getD p 0≠s.getD p 0/\(r.getD q 0=if M4.sub (grp rows) (grp rows p) q=true then 1-fr rows q else fr rows q)/\s.getD q 0=if M4.sub (grp rows) (grp rows p) q=true then 1-fr rows q else fr rows q:=by
 have i:∀{a b:Nat},(¬∀r∈rows,bt rows a r=true->bt rows b r=true)->∃r∈rows,bt rows a r=true/\bt rows b r=false:=fun{a b} h=>by obtain⟨r,h⟩:=gJ.mp h;obtain⟨e,h⟩:=qH.mp h;obtain⟨f,h⟩:=qH.mp h;exact⟨r,e,f,fK.mpr h⟩
 have f01:=t.f01 p;cases a:M4.sub (grp rows) (grp rows p) q with
 |true=>obtain⟨r,d,h⟩:=gnz.mp hz;have g:¬∀r∈rows,bt rows q r=true->bt rows p r=true:=fun z=>c (t.cls.mp (geq.mpr fun r d=>eY.mpr ⟨iJ.mp a r d,z r d⟩));obtain⟨s,g,e,f⟩:=i g;rw[if_pos rfl];exact⟨r,d,s,g,by rw[(t.turn d).mp h,t.lM.mp f];lia,(t.turn d).mp (iJ.mp a r d h),(t.turn g).mp e⟩
 |false=>
  obtain⟨r,d,e,f⟩:=i fun z=>by rw[iJ.mpr z]at a;cases a
  rw[if_neg (by decide)];exact⟨r,d,_,t.first,by rw[(t.turn d).mp e];show _≠fr rows p;lia,t.lM.mp f,rfl⟩
def wN(t:Tbl rows n)(d:p<n)(hz:grp rows p≠0):End rows n p (below rows n p):=by
 refine⟨Ef t _,fun q hq c=>?_,fun q hq c=>?_⟩
 ·obtain⟨r,a,h⟩:=gnz.mp hz;have e:=geq.mp (t.cls.mpr c);refine⟨r,a,?_,?_⟩;·rw[yV d];exact(t.turn a).mp h
  ·unfold below;rw[iQ hq,if_pos (iJ.mpr fun s f b=>by rw[<-e s f];exact b)];exact(t.turn a).mp (by rw[<-e r a];exact h)
 ·have :=AG t hz c;unfold below;rw[iQ hq];exact this
def AI(t:Tbl rows n)(a:p<n)(hz:grp rows p≠0):End rows n p (jj rows n p):=by
 refine⟨Ef t _,fun q hq c=>⟨_,t.first,?_,?_⟩,fun q hq c=>?_⟩;·rw[C0 a];rfl
 ·unfold jj;rw[iQ hq,if_neg fun h=>(rB.mp h).2 (t.cls.mpr c).symm];rfl
 ·have :=AG t hz c;unfold jj;rw[iQ hq];have e:(M4.above (grp rows) (grp rows p) q=true)↔(M4.sub (grp rows) (grp rows p) q=true):=by rw[rB];exact⟨fun h=>h.1,fun h=>⟨h,fun z=>c (t.cls.mp z.symm)⟩⟩
  simp only[e];exact this
def yH(t:Tbl rows n)(c:p<n):jj rows n p≠below rows n p:=fun h=>by have a:=C0 (rows:=rows) c;have b:=yV (rows:=rows) c;have :=t.f01 p;rw[h,b]at a;lia
def DH{a b:List Int}(h:a≠b):M4.lo a b=M4.lo b a:=by unfold M4.lo;rw[Q.iM h];cases Q.llt b a<;>rfl
def DO{a b:List Int}(h:a≠b):M4.hi a b=M4.hi b a:=by unfold M4.hi;rw[Q.iM h];cases Q.llt b a<;>rfl
def AH(t:Tbl rows n)(c:p<n)(hz:grp rows p≠0){u:List Int}(d:End rows n p u)(g:End rows n p v)(l:u≠v):M4.lo (jj rows n p) (below rows n p)=M4.lo u v/\M4.hi (jj rows n p) (below rows n p)=M4.hi u v:=by
 have a:=AI t c hz;have b:=wN t c hz;have h:=C0 (rows:=rows) c;have i:=yV (rows:=rows) c;have f:=t.f01 p;have u1:=d.ok.at p;have k:=g.ok.at p;have j:u.getD p 0≠v.getD p 0:=fun z=>l (d.one t c g z);by_cases e:u.getD p 0=fr rows p;·have x:=d.one t c a (by rw[h];exact e);have y:=g.one t c b (by rw[i];exact(neq k f).mp fun z=>j (e.trans z.symm));rw[x,y];exact⟨rfl,rfl⟩
 ·have x:=d.one t c b (by rw[i];exact(neq u1 f).mp e);have y:=g.one t c a (by rw[h];exact(two u1 k f j).resolve_left e);rw[x,y];exact⟨DH (yH t c),DO (yH t c)⟩
end
end M7
namespace K02
open PySem PySem.Spec PyProof.Rows L2 R Cp Lt Lm
def Aq{Q:VK}(h:H l=some (.lst xs))(q:Q (.bl true) H):rBf K .isinstance [.ref l,.ty (Ty.t .list)] H Q:=by
 refine isi (Cj h) .list ?_;have e:i2 (tyName H (.ref l)) (Ty.t .list)=true:=by show i2 (jA (H l)) "list"=true;rw[h];rfl
 rw[e];exact q
def yw{Q:VK}(h:H l=some (.tup xs))(q:Q (.bl true) H):rBf K .isinstance [.ref l,.ty (Ty.t .tuple)] H Q:=by
 refine isi (Ci h) .tuple ?_;have e:i2 (tyName H (.ref l)) (Ty.t .tuple)=true:=by show i2 (jA (H l)) "tuple"=true;rw[h];rfl
 rw[e];exact q
def Tab.set{T:Tb}(t:Tab T H)(h:H l=some (.lst xs)):Tab T (upd H l (.lst ys)):=by
 rcases t with t|⟨c,f,u,g,tk,a,b,d,e⟩;·exact .inl (by rw[bD (Dz t h (by nofun))];exact t)
 ·exact .inr ⟨c,f,u,g,tk,by rw[bD (Dz a h (by nofun))];exact a,by rw[bD (Dz b h (by nofun))];exact b,d,e⟩
def Gr.new{T:Tb}(g:Gr T H H1)(a:H l=none)(h:H1 l=some (.lst xs)):Gr T H (upd H1 l (.lst ys)):=
 ⟨fun b o n e=>by rw[bD (da e a)];exact g.keep b o n e,fun t=>Tab.set (g.tab t) h⟩
end K02
namespace K82
open PySem PySem.Spec PyProof.Rows L2 R Cp Lt Lm K02
noncomputable abbrev Row:=Str×List V
end K82
namespace K24
open PySem PySem.Spec PyProof.Rows L2 R Cp Lt Kc K21 K22 Lm
def uK{rows:List (Str×List V)}{i j:Int}:qb rows i j=true↔∀u v:Int,(u=0\/u=1)->(v=0\/v=1)->∃r∈rows,E3 i r=u/\E3 j r=v:=by
 unfold qb;rw[bK];constructor
 ·intro h u v a f;have d:(u,v)∈KP:=by unfold KP;rcases a with rfl|rfl<;>rcases f with rfl|rfl<;>simp
  obtain⟨r,c,e⟩:=cI.mp (h (u,v) d);exact⟨r,c,of_decide_eq_true e⟩
 ·intro h k b;have a:(k.1=0\/k.1=1)/\(k.2=0\/k.2=1):=by unfold KP at b;simp only[aI,dF,or_false]at b;rcases b with rfl|rfl|rfl|rfl<;>simp
  obtain⟨r,c,e⟩:=h k.1 k.2 a.1 a.2;exact cI.mpr ⟨r,c,decide_eq_true e⟩
end K24
namespace K84
open PySem PySem.Spec PyProof.Rows L2 R Cp Lt Kc K21 K22 K24 Lm
theorem pP{b:Type}[DecidableEq b]:∀{l m:List b},l.Nodup->m.Nodup->(∀x,x∈l↔x∈m)->l.Perm m
 | [],m,_,_,h=>by
  cases m with
  |nil=>exact .nil
  |cons x m=>exact nomatch(h x).mpr (.head _)
 |x::l,m,h1,h2,h=>by
  have d:=(h x).mp (.head _);refine .trans (.cons x (pP (bw.mp h1).2 (h2.erase x) fun y=>?_)) (pD d).symm;rw[h2.mem_erase_iff];constructor;·intro a;exact⟨fun e=>(bw.mp h1).1 (e▸a),(h y).mp (.tail _ a)⟩
  ·rintro⟨c,a⟩;rcases aI.mp ((h y).mpr a)with e|e;·exact absurd e c
   ·exact e
end K84
namespace K83
open PySem PySem.Spec PyProof.Rows L2 R Cp Lt Kc K84 Lm
def ud{a b:Type}{F:a->b->Prop}{l:List a}{m:List b}(p:Paired F l m):l.length=m.length:=by
 induction p with
 |nil=>rfl
 |cons _ _ ih=>rw[bz,bz,ih]
def HB{c d:Type}{F:c->d->Prop}{l:List c}{m:List d}(p:Paired F l m):∀{i:Nat}{a:c},l[i]? =some a->∃b,m[i]? =some b/\F a b:=by
 induction p with
 |nil=>intro i a h;cases h
 |cons h _ ih=>
  intro i a e;cases i with
  |zero=>cases e;exact⟨_,rfl,h⟩
  |succ i=>exact ih e
end K83
namespace K83
open PySem R
abbrev ue:List Str:=["table"]
abbrev mH:List Str:=["table","found"]
abbrev mS:CB:=
  (.cons (.asg (.name 1) (.call "clash" (.cons (.var 0) .nil)))
  (.cons (.iff (.cmp .IsNot (.var 1) (.con .none)) .hole .nil)
  .nil))
end K83
namespace K83
open PySem PySem.Spec PyProof.Rows L2 R Cp Lt Lm K02 K82
theorem pM(nd:ps.Nodup):(_root_.Q.dk [] ps ps).Pairwise fun a b=>_root_.Q.llt a b=true:=by
 unfold _root_.Q.dk _root_.Q.EZ;split
 ·rename_i h;rw[_root_.Q.range_getD]
  match ps,h with
  | [],_=>exact .nil
  | [x],_=>simp
  |_::_::_,h=>simp at h;lia
 ·rename_i h;obtain⟨P,U,_⟩:=_root_.Q.fL (_root_.Q.Ez nd) (by lia:1<=ps.length);rw[fC];intro i j hi f d;have g:j<ps.length:=by simpa[P.size]using f
  have u:=U i j d g;rw[cS,cS];have e:∀(k:Nat)(c:k<(_root_.Q.run (_root_.Q.ltL ps) (l6 ps.length)).toList.length),(_root_.Q.run (_root_.Q.ltL ps) (l6 ps.length)).toList[k]=_root_.Q.at' (_root_.Q.run (_root_.Q.ltL ps) (l6 ps.length)) k:=fun k c=>by
   have l:k<(_root_.Q.run (_root_.Q.ltL ps) (l6 ps.length)).size:=by simpa using c
   simp[_root_.Q.at',l]
  rw[e,e];exact u
def ye(nd:ps.Nodup)(h:i∈_root_.Q.EZ ps):i<ps.length:=aJ.mp ((_root_.Q.lA nd).mem_iff.mp h)
def lN{a:Type}(d:a){ys:List a}(nd:ps.Nodup)(b:ps.length=ys.length):(_root_.Q.dk d ps ys).Perm ys:=by unfold _root_.Q.dk;have h:=(_root_.Q.lA nd).map fun i=>ys.getD i d;rw[b,_root_.Q.range_getD]at h;exact h
def Cb{a b:List Int}(h:_root_.Q.llt a b=true)(k:_root_.Q.llt b a=true):a=b:=by
 have c:=_root_.Q.qZ h k;have :∀x:List Int,_root_.Q.llt x x=false:=fun x=>by
  induction x with
  |nil=>rfl
  |cons a x ih=>simp[_root_.Q.llt,ih]
 rw[this]at c;cases c
def EE{a:Type}(d:a)(F:a->List Int){ys:List a}(nd:(ys.map F).Nodup):(_root_.Q.dk d (ys.map F) ys).map F=_root_.Q.dk [] (ys.map F) (ys.map F):=by unfold _root_.Q.dk;rw[bq];refine cF fun i hi=>?_;have :=ye nd hi;rw[ak]at this;show F (ys.getD i d)=_;rw[af,af,ax,ae this];rfl
def m7{c:Type}(d:c)(F:c->List Int){ys zs:List c}(nd:(ys.map F).Nodup)(p:ys.Perm zs):_root_.Q.dk d (ys.map F) ys=_root_.Q.dk d (zs.map F) zs:=by
 have f:=(p.map F).nodup_iff.mp nd;have m:∀{ys:List c},(ys.map F).Nodup->(_root_.Q.dk d (ys.map F) ys).Pairwise fun a b=>_root_.Q.llt (F a) (F b)=true:=fun{ys} nd=>by have h:=pM nd;rw[<-EE d F nd]at h;exact cj.mp h
 have g:=lN d (ys:=ys) nd (by simp);have l:=lN d (ys:=zs) f (by simp);refine ip (fun a b n q h k=>?_) (m nd) (m f) (g.trans (p.trans l.symm));have e:=Cb h k;have o:=g.mem_iff.mp n;have r:=p.mem_iff.mpr (l.mem_iff.mp q);obtain⟨i,hi,rfl⟩:=cX.mp o;obtain⟨j,s,rfl⟩:=cX.mp r;have :(ys.map F)[i]'(by simpa using hi)=(ys.map F)[j]'(by simpa using s):=by rw[cS,cS];exact e
 have :=(fo nd).mp this;subst this;rfl
def lP{c:Type}{F:V->c->Prop}{ks:List c}{d:c}(nd:ps.Nodup)(k:ps.length=ys.length)(p:Paired F ys ks):Paired F (_root_.Q.dk .non ps ys) (_root_.Q.dk d ps ks):=by
 unfold _root_.Q.dk;have key:∀{a:List Nat},(∀i∈a,i<ys.length)->Paired F (a.map fun i=>ys.getD i .non) (a.map fun i=>ks.getD i d):=fun{a} h=>by
  induction a with
  |nil=>exact .nil
  |cons i a ih=>have hi:=h i au;obtain⟨b,e,f⟩:=HB p (ae hi);refine .cons ?_ (ih fun j g=>h j (av _ g));show F (ys.getD i .non) (ks.getD i d);rw[af,af,ae hi,e];exact f
 exact key fun i hi=>by rw[<-k];exact ye nd hi
def GrQ(rows:List (List Int))(n:Nat)(qs:List Int):Prop:=M5.Grs n (K32.grp rows) qs/\0∉qs/\∀p,p<n->K32.grp rows p≠0->(K32.grp rows p:Int)∈qs
def GrQ.perm{ps:List Int}(a:GrQ rows n qs)(b:GrQ rows n ps):qs.Perm ps:=by
 have s:∀{qs ps:List Int},GrQ rows n qs->GrQ rows n ps->∀x∈qs,x∈ps:=fun{qs ps} a b x c=>by obtain⟨p,d,rfl⟩:=a.1.2 x c;exact b.2.2 p d fun z=>a.2.1 (by rw[z]at c;exact c)
 exact K84.pP a.1.1 b.1.1 fun x=>⟨s a b x,s b a x⟩
abbrev nd1(k:List Int):L2.D:=.tup (k.map .int)
abbrev brF(rows:List (List Int))(n:Nat)(q:Int):List Int:=_root_.Q.kP (M4.lo (M5.nA (K32.fr rows) n (K32.grp rows) q) (M5.nB (K32.fr rows) n (K32.grp rows) q),M4.hi (M5.nA (K32.fr rows) n (K32.grp rows) q) (M5.nB (K32.fr rows) n (K32.grp rows) q))
abbrev br1(rows:List (List Int))(n:Nat)(q:Int):L2.D:=.tup [nd1 (M4.lo (M5.nA (K32.fr rows) n (K32.grp rows) q) (M5.nB (K32.fr rows) n (K32.grp rows) q)),nd1 (M4.hi (M5.nA (K32.fr rows) n (K32.grp rows) q) (M5.nB (K32.fr rows) n (K32.grp rows) q)),nd1 (M5.plc n (M5.own (K32.grp rows) q.toNat))]
abbrev gD(rows:List (List Int))(n:Nat)(qs:List Int):L2.D:=
 .tup [.lst ((_root_.Q.dk [] (M5.fM (K32.fr rows) n (K32.grp rows) qs) (M5.fM (K32.fr rows) n (K32.grp rows) qs)).map nd1),.lst ((_root_.Q.dk 0 (qs.map (brF rows n)) qs).map (br1 rows n))]
abbrev qs0(rows:List (List Int))(n:Nat):List Int:=Classical.epsilon (GrQ rows n)
def sT{b:Type}{F:V->b->Prop}{g:b->L2.D}(f:∀v a,F v a->Rep K H (g a) v){ks:List b}(p:Paired F ys ks):fY K H (ks.map g) ys:=by
 induction p with
 |nil=>rfl
 |cons h _ ih=>exact⟨_,_,rfl,f _ _ h,ih⟩
def mE{k:List Int}(h:H a=some (.tup (k.map V.int))):Rep K H (nd1 k) (.ref a):=⟨a,_,rfl,SqT.of h,fY.ints k⟩
def Fu{p:Addr}(hf:∀p,p<n->K32.fr rows p=0\/K32.fr rows p=1)(g:K32.rE rows n H H' p):Rep K H' (gD rows n (qs0 rows n)) (.ref p):=by
 obtain⟨B,bl,F,bs,b,u,_,_,_,f,w,A,k,bk,t,j⟩:=g;have q:GrQ rows n b:=⟨f,w,A⟩;have C:GrQ rows n (qs0 rows n):=zj (p:=GrQ rows n) ⟨b,q⟩;have m:=q.perm C;have l:=M5.pU hf f;have i:=M5.yU hf f;have c:(M5.brK (K32.fr rows) n (K32.grp rows) b).map _root_.Q.kP=b.map (brF rows n):=by unfold M5.brK;rw[bq];rfl
 rw[c]at i j;have D:_root_.Q.dk [] (M5.fM (K32.fr rows) n (K32.grp rows) b) (M5.fM (K32.fr rows) n (K32.grp rows) b)=_root_.Q.dk [] (M5.fM (K32.fr rows) n (K32.grp rows) (qs0 rows n)) (M5.fM (K32.fr rows) n (K32.grp rows) (qs0 rows n)):=by
  have :=m7 [] id (ys:=M5.fM (K32.fr rows) n (K32.grp rows) b) (zs:=M5.fM (K32.fr rows) n (K32.grp rows) (qs0 rows n)) (by rw[fJ];exact l) (.cons _ (m.map _))
  rwa [fJ,fJ]at this
 have E:=m7 (0:Int) (brF rows n) i m;refine⟨p,_,rfl,SqT.of u,_,_,rfl,⟨B,_,rfl,SqL.of t,?_⟩,_,_,rfl,⟨bl,_,rfl,SqL.of j,?_⟩,rfl⟩;·rw[<-D];exact sT (fun v a ⟨x,e,h⟩=>by subst e;exact mE h) (lP l (ud k).symm k)
 ·rw[<-E];refine sT (fun v G ⟨a,x,y,z,e,o,c,r,s⟩=>?_) (lP (d:=(0:Int)) i (by rw[ak];exact(ud bk).symm) bk);subst e;exact⟨a,_,rfl,SqT.of o,_,_,rfl,mE c,_,_,rfl,mE r,_,_,rfl,mE s,rfl⟩
abbrev tD(n:Nat)(R:List K82.Row):L2.D:=if R=[]then .tup [.lst [],.lst []]else gD (K32.rI R) n (qs0 (K32.rI R) n)
def zB{R:List K82.Row}{p:Addr}(j:∀l∈R,l.2.length=n/\∀y∈l.2,cM y=true)(i:R≠[]->m=n)(t:K32.JP R m H H' p):Rep K H' (tD n R) (.ref p):=by
 unfold tD;rcases t with⟨h,a,b,e,_,_,_,c,d⟩ |⟨h,g⟩;·rw[if_pos h];exact⟨p,_,rfl,SqT.of e,_,_,rfl,⟨a,_,rfl,SqL.of c,rfl⟩,_,_,rfl,⟨b,_,rfl,SqL.of d,rfl⟩,rfl⟩
 ·rw[if_neg h];rw[i h]at g;refine Fu (fun q hq=>?_) g;cases R with
  |nil=>exact absurd rfl h
  |cons l R=>obtain⟨k,f⟩:=j l au;have :=M6.Ok.at (n:=(l.2.map K32.intOf).length) ⟨rfl,(K32.lE f).2⟩ q;exact this
section
variable {G:Gam}{C CS:Addr}{T:Tb}
def GV(T:Tb):Sp:=fun vs H Q _=>∃x,vs=[x]/\Kn4 H x/\Tab T H/\dP H x=true/\K22.NoC (K22.rowsOf H x) (count H x)/\∀H',Gr T H H'->Q .non H'
def wp_ref(d:G.fn "clash" 1=some (K22.xP C T,[])):Sat G K (GV T) mS mH:=by
 rintro o H Q E ⟨x,rfl,f,tb,e,g,q⟩;unfold mS;change wpB G K _ _ _ [some x,none] H;ext;refine⟨_,_,d,x,rfl,f,tb,fun _ c v gr h=>?_,fun z=>by rw[e]at z;cases z⟩;rcases h with⟨rfl,n⟩ |⟨i,j,a,l,rfl,b,k,m⟩;·rw[if_neg (by simp)];exact q c gr
 ·have :=g i j b.ij b.jn;rw[b.four]at this;cases this
def tP(T:Tb):Sp:=fun vs H Q _=>∃x,vs=[x]/\Kn4 H x/\Tab T H/\dP H x=true/\K22.NoC (K22.rowsOf H x) (count H x)/\∀H' p,Gr T H H'->H p=none->K32.JP (K22.rowsOf H x) (count H x) H H' p->Q (.ref p) H'
def wp_tree(J:G.fn "table_list" 1=some (xK C T,[]))(L:G.fn "refuse_clash" 1=some (GV T,[]))(M:G.fn "grown" 1=some (K32.tQ,[])):
  Sat G K (tP T) K32.JH K32.Ij:=by
 rintro X H Q E ⟨x,rfl,P,tb,e,s,j⟩;unfold K32.JH;change wpB G K _ _ _ [some x,none] H;ext;refine⟨_,_,J,x,rfl,P,tb,fun _ V l k gr W q I=>?_,fun z=>by rw[e]at z;cases z⟩;obtain⟨S,y,m,t⟩:=K22.uQ e q I;obtain⟨B,_⟩:=K32.zK e q t y;have c:=K32.cps_of q y;rw[m,t]at c;have r:k.length=(K22.rowsOf H x).length:=by rw[<-t,ak]
 have w:=gr.tab tb;generalize K22.rowsOf H x=R at j s B c r;generalize count H x=n at j s m c;unfold K32.AU;ext;refine⟨_,_,L,.ref l,rfl,S,w,y,by rw[B,m];exact s,fun D f=>?_⟩;have c:=c.gr f w;have U:=f.tab w;have d:∀p,D p=none->H p=none:=fun p=>K32.gr_free (gr.trans f) U;unfold K32.AS;ext;refine Or.inl ⟨l,k,rfl,.inl (SqL.of c.ec),?_⟩;refine wM.mpr ⟨_,rfl,?_⟩;by_cases hz:k=[];·have O:R=[]:=bx.mp (by rw[<-r,hz];rfl);rw[hz,if_pos (by simp)];refine⟨short (by simp),fun a A=>⟨short (by simp),fun b h=>⟨short (by simp),fun p i=>?_⟩⟩⟩;have u:=aP (o:=.lst []) A;have v:=aP (o:=.lst []) h;have g:=aP (o:=.tup [.ref a,.ref b]) i;refine j _ p ((gr.trans f).trans (Gr.of (u.trans (v.trans g)))) (d _ ((u.trans v).free i)) (.inl ⟨O,a,b,aK,d _ A,d _ (u.free h),fun z=>?_,(v.trans g) _ _ aK,g _ _ aK⟩);rw[<-z,aK]at h;cases h
 ·rw[if_neg (fun z=>hz (bx.mp (by have :=of_decide_eq_true z;lia)))];unfold K32.AR;ext;refine⟨_,_,M,l,k,n,K32.rI R,rfl,c,hz,fun F p g i N=>?_⟩;exact j F p ((gr.trans f).trans (Gr.of g)) (d _ i) (.inr ⟨fun z=>hz (bx.mp (by rw[r,z];rfl)),N.old d⟩)
end
end K83
namespace M8
open K32 M7 K83
def ex_grq(rows:List (List Int))(n:Nat):∃qs,GrQ rows n qs:=by
 induction n with
 |zero=>exact⟨[],⟨gV,fun _ h=>by cases h⟩,by simp,fun p f=>by lia⟩
 |succ n ih=>
  obtain⟨qs,⟨nd,g⟩,i,j⟩:=ih;by_cases c:grp rows n=0\/(grp rows n:Int)∈qs
  ·refine⟨qs,⟨nd,fun q hq=>let⟨p,f,e⟩:=g q hq;⟨p,by lia,e⟩⟩,i,fun p f d=>?_⟩;by_cases e:p=n
   ·rw[e]at d⊢;rcases c with c|c;·exact absurd c d
    ·exact c
   ·exact j p (by lia) d
  ·rw[not_or]at c;refine⟨qs++[(grp rows n:Int)],⟨di.mpr ⟨nd,by simp,fun a k b l e=>c.2 (by rw[aH.mp l]at e;rw[<-e];exact k)⟩,fun q hq=>?_⟩,fun z=>?_,fun p f d=>?_⟩
   ·rcases aU.mp hq with hq|hq;·obtain⟨p,f,e⟩:=g q hq;exact⟨p,by lia,e⟩
    ·exact⟨n,by lia,aH.mp hq⟩
   ·rcases aU.mp z with z|z;·exact i z
    ·have :=aH.mp z;lia
   ·by_cases e:p=n;·rw[e];simp
    ·exact jP _ (j p (by lia) d)
def tY(rows:List (List Int))(n:Nat):GrQ rows n (qs0 rows n):=zj (ex_grq rows n)
abbrev nds(rows:List (List Int))(n:Nat):List (List Int):=M5.fM (fr rows) n (grp rows) (qs0 rows n)
noncomputable abbrev Tri:=List Int×List Int×List Int
abbrev tri(rows:List (List Int))(n p:Nat):Tri:=(M4.lo (jj rows n p) (below rows n p),M4.hi (jj rows n p) (below rows n p),M5.plc n (M5.own (grp rows) (grp rows p)))
abbrev triQ(rows:List (List Int))(n:Nat)(q:Int):Tri:=(M4.lo (M5.nA (fr rows) n (grp rows) q) (M5.nB (fr rows) n (grp rows) q),M4.hi (M5.nA (fr rows) n (grp rows) q) (M5.nB (fr rows) n (grp rows) q),M5.plc n (M5.own (grp rows) q.toNat))
abbrev trs(rows:List (List Int))(n:Nat):List Tri:=(qs0 rows n).map (triQ rows n)
abbrev key(x:Tri):List Int:=_root_.Q.kP (x.1,x.2.1)
abbrev Ey(x:Tri):L2.D:=.tup [nd1 x.1,nd1 x.2.1,nd1 x.2.2]
abbrev vH(xs:List (List Int)):List (List Int):=_root_.Q.dk [] xs xs
abbrev BK(xs:List Tri):List Tri:=_root_.Q.dk ([],[],[]) (xs.map key) xs
def vI{a b:Type}(d:a)(e:b)(g:a->b){ys:List a}(nd:ps.Nodup)(c:ps.length=ys.length):(_root_.Q.dk d ps ys).map g=_root_.Q.dk e ps (ys.map g):=by unfold _root_.Q.dk;rw[bq];refine cF fun i hi=>?_;have :=ye nd hi;show g (ys.getD i d)=_;rw[af,af,ax,ae (by lia)];rfl
section
variable {rows2:List (List Int)}
def lC(t:Tbl rows n):v∈nds rows n↔Fits rows n v:=by
 have q:=tY rows n;unfold nds M5.fM;rw[aI];constructor
 ·rintro(rfl|h);·exact Ct t
  ·obtain⟨x,a,rfl⟩:=aF.mp h;obtain⟨p,b,rfl⟩:=q.1.2 x a;exact Cu t (p:=p) fun z=>q.2.1 (by rw[z]at a;exact a)
 ·intro h;rcases yi t h with h|⟨p,b,c,h⟩;·exact .inl h
  ·exact .inr (aF.mpr ⟨_,q.2.2 p b c,h.symm⟩)
def pJ(t:Tbl rows n){x:Tri}:x∈trs rows n↔∃p,p<n/\grp rows p≠0/\x=tri rows n p:=by
 have q:=tY rows n;unfold trs;rw[aF];constructor;·rintro⟨y,b,rfl⟩;obtain⟨p,a,rfl⟩:=q.1.2 y b;exact⟨p,a,fun z=>q.2.1 (by rw[z]at b;exact b),rfl⟩
 ·rintro⟨p,a,c,rfl⟩;exact⟨_,q.2.2 p a c,rfl⟩
def uo(t:Tbl rows n):(nds rows n).Nodup:=M5.pU (fun p _=>t.f01 p) (tY rows n).1
def tI(t:Tbl rows n):((trs rows n).map key).Nodup:=by have :=M5.yU (fun p _=>t.f01 p) (tY rows n).1;unfold M5.brK at this;rw[bq]at this;unfold trs;rw[bq];exact this
def gD_is(t:Tbl rows n):gD rows n (qs0 rows n)=.tup [.lst ((vH (nds rows n)).map nd1),.lst ((BK (trs rows n)).map Ey)]:=by
 unfold gD BK;have nd:=tI t;have e:(trs rows n).map key=(qs0 rows n).map (brF rows n):=by unfold trs;rw[bq];rfl
 rw[e]at nd⊢;have :=vI (0:Int) (([],[],[]):Tri) (triQ rows n) (ys:=qs0 rows n) nd (by simp);unfold trs;rw[<-this,bq];rfl
structure Iso(rows rows2:List (List Int))(n:Nat)(φ:List Int->List Int)(o oi:Nat->Nat):Prop where
 t:Tbl rows n
 t2:Tbl rows2 n
 lt:∀j,j<n->o j<n
 lti:∀p,p<n->oi p<n
 l1:∀j,j<n->oi (o j)=j
 l2:∀p,p<n->o (oi p)=p
 fit:∀v,Fits rows n v->Fits rows2 n (φ v)
 tif:∀w,Fits rows2 n w->∃v,Fits rows n v/\w=φ v
 inj:∀u v,M6.Ok n u->M6.Ok n v->φ u=φ v->u=v
 ed:∀j v,j<n->End rows n (o j) v->End rows2 n j (φ v)
 cls:∀i j,i<n->j<n->(Cls rows2 i j↔Cls rows (o i) (o j))
 nz:∀j,j<n->(grp rows2 j≠0↔grp rows (o j)≠0)
abbrev psi(n:Nat)(φ:List Int->List Int)(o:Nat->Nat)(x:Tri):Tri:=(M4.lo (φ x.1) (φ x.2.1),M4.hi (φ x.1) (φ x.2.1),M5.plc n fun i=>decide ((o i:Int)∈x.2.2))
variable {φ:List Int->List Int}{o oi:Nat->Nat}
def Iso.nodes(I:Iso rows rows2 n φ o oi):((nds rows n).map φ).Perm (nds rows2 n):=by
 refine K84.pP ?_ (uo I.t2) fun w=>?_;·refine cj.mpr ?_;have nd:(nds rows n).Pairwise (fun a b=>a≠b):=uo I.t;refine(gf.mp nd).imp ?_;rintro a b ⟨d,g,f⟩ e;exact f (I.inj a b ((lC I.t).mp d).1 ((lC I.t).mp g).1 e)
 ·rw[lC I.t2,aF];constructor;·rintro⟨v,c,rfl⟩;exact I.fit v ((lC I.t).mp c)
  ·intro h;obtain⟨v,c,rfl⟩:=I.tif w h;exact⟨v,(lC I.t).mpr c,rfl⟩
def uC{P:Nat->Bool}{x:Int}(h:x∈M5.plc n P):∃i,i<n/\P i=true/\x=(i:Int):=by obtain⟨i,hi,rfl⟩:=aF.mp h;have :=aV.mp hi;exact⟨i,aJ.mp this.1,this.2,rfl⟩
def lz{P a:Nat->Bool}(h:∀i,i<n->P i=a i):M5.plc n P=M5.plc n a:=by unfold M5.plc;rw[List.filter_congr fun i hi=>h i (aJ.mp hi)]
theorem Iso.tri(I:Iso rows rows2 n φ o oi)(f:j<n)(hz:grp rows (o j)≠0):M8.tri rows2 n j=psi n φ o (M8.tri rows n (o j)):=by
 have g:=I.lt j f;have k:=(I.nz j f).mpr hz;have a:=AI I.t g hz;have b:=wN I.t g hz;have ne:=yH I.t (rows:=rows) g;have h:φ (jj rows n (o j))≠φ (below rows n (o j)):=fun e=>ne (I.inj _ _ a.ok b.ok e);have c:=AH I.t2 f k (I.ed j _ f a) (I.ed j _ f b) h;have d:M4.lo (φ (M4.lo (jj rows n (o j)) (below rows n (o j)))) (φ (M4.hi (jj rows n (o j)) (below rows n (o j))))=M4.lo (φ (jj rows n (o j))) (φ (below rows n (o j)))/\M4.hi (φ (M4.lo (jj rows n (o j)) (below rows n (o j)))) (φ (M4.hi (jj rows n (o j)) (below rows n (o j))))=M4.hi (φ (jj rows n (o j))) (φ (below rows n (o j))):=by
  unfold M4.lo M4.hi;rw[_root_.Q.iM ne];cases _root_.Q.llt (below rows n (o j)) (jj rows n (o j))with
  |false=>exact⟨rfl,rfl⟩
  |true=>exact⟨DH (bO h),DO (bO h)⟩
 unfold psi M8.tri;refine Prod.ext (c.1.trans d.1.symm) (Prod.ext (c.2.trans d.2.symm) (lz fun i hi=>?_));rw[eY,decide_eq_true_eq,M5.lQ (I.lt i hi)];unfold M5.own;rw[decide_eq_true_eq,decide_eq_true_eq,I.t2.cls,I.t.cls];exact I.cls i j hi f
def Iso.tris(I:Iso rows rows2 n φ o oi):((trs rows n).map (psi n φ o)).Perm (trs rows2 n):=by
 have F:(trs rows2 n).Nodup:=by have :=tI I.t2;exact(cj.mp this).imp fun h e=>h (by rw[e])
 refine K84.pP ?_ F fun x=>?_
 ·unfold trs;rw[bq];refine cj.mpr ?_;have q:=tY rows n;have nd:(qs0 rows n).Pairwise (fun a b=>a≠b):=q.1.1;refine(gf.mp nd).imp ?_;rintro a b ⟨m,r,C⟩ e;obtain⟨p,g,rfl⟩:=q.1.2 a m;obtain⟨d,k,rfl⟩:=q.1.2 b r;have G:grp rows p≠0:=fun z=>q.2.1 (by rw[z]at m;exact m);have H:grp rows d≠0:=fun z=>q.2.1 (by rw[z]at r;exact r);have e:psi n φ o (M8.tri rows n p)=psi n φ o (M8.tri rows n d):=e;have i:=I.lti p g;have t:=I.lti d k;have w:=I.tri i (by rw[I.l2 p g];exact G);have A:=I.tri t (by rw[I.l2 d k];exact H);rw[I.l2 p g]at w;rw[I.l2 d k]at A;have u:M8.tri rows2 n (oi p)=M8.tri rows2 n (oi d):=by rw[w,A,e]
  have B:grp rows2 (oi p)=grp rows2 (oi d):=by
   apply aq
   intro D;have :=M4.xa (f:=fr rows2) (n:=n) (grp:=grp rows2) (fun p _=>I.t2.f01 p) i t D;apply this;show M4.lo (jj rows2 n (oi p)) (below rows2 n (oi p))++M4.hi (jj rows2 n (oi p)) (below rows2 n (oi p))=M4.lo (jj rows2 n (oi d)) (below rows2 n (oi d))++M4.hi (jj rows2 n (oi d)) (below rows2 n (oi d));rw[show M4.lo (jj rows2 n (oi p)) (below rows2 n (oi p))=M4.lo (jj rows2 n (oi d)) (below rows2 n (oi d))from congrArg Prod.fst u,show M4.hi (jj rows2 n (oi p)) (below rows2 n (oi p))=M4.hi (jj rows2 n (oi d)) (below rows2 n (oi d))from congrArg (fun x:Tri=>x.2.1) u]
  have c:=(I.cls _ _ i t).mp (I.t2.cls.mp B);rw[I.l2 p g,I.l2 d k]at c;exact C (by rw[I.t.cls.mpr c])
 ·rw[pJ I.t2,aF];constructor;·rintro⟨y,E,rfl⟩;obtain⟨p,g,l,rfl⟩:=(pJ I.t).mp E;have i:=I.lti p g;refine⟨oi p,i,(I.nz _ i).mpr (by rw[I.l2 p g];exact l),?_⟩;rw[I.tri i (by rw[I.l2 p g];exact l),I.l2 p g]
  ·rintro⟨j,s,l,rfl⟩;have v:=(I.nz j s).mp l;exact⟨_,(pJ I.t).mpr ⟨o j,I.lt j s,v,rfl⟩,(I.tri s v).symm⟩
end
end M8
namespace M9
open K32 M7 M8
section
variable {rows2:List (List Int)}
def pK(t:Tbl rows n):grp rows p≠0↔∃r∈rows,∃s∈rows,r.getD p 0≠s.getD p 0:=by
 rw[gnz];constructor;·rintro⟨r,a,h⟩;exact⟨r,a,_,t.first,kW.mp h⟩
 ·rintro⟨r,a,s,b,h⟩;by_cases e:r.getD p 0=fr rows p;·exact⟨s,b,kW.mpr fun z=>h (e.trans z.symm)⟩
  ·exact⟨r,a,kW.mpr e⟩
def IK(t:Tbl rows n)(t2:Tbl rows2 n)(h:∀r,r∈rows↔r∈rows2):Iso rows rows2 n id id id where
 t:=t
 t2:=t2
 lt:=fun _ h=>h
 lti:=fun _ h=>h
 l1:=fun _ _=>rfl
 l2:=fun _ _=>rfl
 fit:=fun v f=>f.sub fun r a=>(h r).mp a
 tif:=fun w f=>⟨w,f.sub fun r a=>(h r).mpr a,rfl⟩
 inj:=fun _ _ _ _ e=>e
 ed:=fun j v d e=>⟨e.ok,fun q hq c=>by
  obtain⟨r,a,x⟩:=e.own q hq fun r a s b=>c r ((h r).mp a) s ((h s).mp b);exact⟨r,(h r).mp a,x⟩,fun q hq c=>by
  obtain⟨r,a,s,b,x⟩:=e.off q hq fun z=>c fun r a s b=>z r ((h r).mpr a) s ((h s).mpr b);exact⟨r,(h r).mp a,s,(h s).mp b,x⟩⟩
 cls:=fun i j _ _=>⟨fun c r a s b=>c r ((h r).mp a) s ((h s).mp b),fun c r a s b=>c r ((h r).mpr a) s ((h s).mpr b)⟩
 nz:=fun j _=>by rw[pK t,pK t2];exact⟨fun⟨r,a,s,b,x⟩=>⟨r,(h r).mpr a,s,(h s).mpr b,x⟩,fun⟨r,a,s,b,x⟩=>⟨r,(h r).mp a,s,(h s).mp b,x⟩⟩
end
end M9
namespace K31
open K32 M7 M8
noncomputable abbrev Rw:=Nat×Nat×List Int
section
variable {nd:Nat->List Int}{kp:Nat->Prop}{E:List Rw}
abbrev rd(nd:Nat->List Int)(x p:Nat):Int:=(nd x).getD p 0
def dif(nd:Nat->List Int)(p:Nat)(e:Rw):Prop:=rd nd e.1 p≠rd nd e.2.1 p
abbrev atR(k:Nat)(e:Rw):Bool:=decide (e.1=k\/e.2.1=k)
def Vs(kp:Nat->Prop)(E:List Rw)(x:Nat):Prop:=kp x\/∃e∈E,e.1=x\/e.2.1=x
def Ap(n:Nat)(nd:Nat->List Int)(e f:Rw):Prop:=∀p,p<n->¬(dif nd p e/\dif nd p f)
def Ap.symm{e f:Rw}(h:Ap n nd e f):Ap n nd f e:=fun p a z=>h p a ⟨z.2,z.1⟩
def A3{l:List Rw}(h:l.Pairwise (Ap n nd)){e f:Rw}(b:e∈l)(hf:f∈l)(ne:e≠f):Ap n nd e f:=by
 induction h with
 |nil=>cases b
 |cons a _ ih=>
  rcases aI.mp b with rfl|h1
  ·rcases aI.mp hf with rfl|h2;·exact absurd rfl ne
   ·exact a _ h2
  ·rcases aI.mp hf with rfl|h2;·exact(a _ h1).symm
   ·exact ih h1 h2
abbrev df(nd:Nat->List Int)(n a b:Nat):List Int:=M5.plc n fun p=>decide (rd nd a p≠rd nd b p)
structure Nd(n m:Nat)(nd:Nat->List Int):Prop where
 ok:∀k,k<m->M6.Ok n (nd k)
 mis:∀i j,i≠j->i<n->j<n->∃a b:Int,(a=0\/a=1)/\(b=0\/b=1)/\∀k,k<m->¬(rd nd k i=a/\rd nd k j=b)
theorem Nd.at(N:Nd n m nd)(h:k<m)(p:Nat):rd nd k p=0\/rd nd k p=1:=(N.ok k h).at p
def Nd.no4(N:Nd n m nd)(ne:i≠j)(hi:i<n)(h:j<n){w x y z:Nat}(e:w<m)(f:x<m)(g:y<m)(hz:z<m)(q:rd nd w i=rd nd x i)(r:rd nd w j≠rd nd x j)(s:rd nd y i=rd nd z i)(t:rd nd y j≠rd nd z j)(u:rd nd w i≠rd nd y i):False:=by
 obtain⟨a,b,v,A,k⟩:=N.mis i j ne hi h;have l:=k w e;have o:=k x f;have ky:=k y g;have p:=k z hz;have B:=N.at e i;have C:=N.at e j;have D:=N.at f i;have E:=N.at f j;have F:=N.at g i;have G:=N.at g j;have H:=N.at hz i;have I:=N.at hz j;by_cases c:rd nd w i=a
 ·by_cases d:rd nd w j=b;·exact l ⟨c,d⟩
  ·exact o ⟨by lia,by lia⟩
 ·by_cases d:rd nd y j=b;·exact ky ⟨by lia,d⟩
  ·exact p ⟨by lia,by lia⟩
structure Pr(n m:Nat)(nd:Nat->List Int)(kp:Nat->Prop)(E:List Rw):Prop where
 kl:∀k,kp k->k<m
 lt:∀e∈E,e.1<m/\e.2.1<m
 is:∀e∈E,e.2.2=df nd n e.1 e.2.1
 ne:∀e∈E,∃p,p<n/\dif nd p e
 ap:E.Pairwise (Ap n nd)
 all:∀P:Nat->Prop,(∀e∈E,(P e.1↔P e.2.1))->∀x y,Vs kp E x->Vs kp E y->P x->P y
def Fn(m:Nat)(kp:Nat->Prop)(E:List Rw):Prop:=∀k,k<m->¬kp k->(E.filter (atR k)).length≠1/\(E.filter (atR k)).length≠2
theorem Pr.vlt(P:Pr n m nd kp E){x:Nat}(h:Vs kp E x):x<m:=by
 rcases h with h|⟨e,a,rfl|rfl⟩;·exact P.kl _ h
 ·exact(P.lt e a).1
 ·exact(P.lt e a).2
theorem Pr.nodup(P:Pr n m nd kp E):E.Nodup:=by refine j8 ?_ P.ap;intro a b c f h z;subst z;obtain⟨p,e,d⟩:=P.ne a c;exact h p e ⟨d,d⟩
theorem Pr.one(P:Pr n m nd kp E){e f:Rw}(a:e∈E)(hf:f∈E)(b:p<n)(d:dif nd p e)(d':dif nd p f):e=f:=
 aq fun z=>A3 P.ap a hf z p b ⟨d,d'⟩
abbrev oth(v:Nat)(e:Rw):Nat:=if e.1=v then e.2.1 else e.1
def oV{v:Nat}{e:Rw}(h:atR v e=true):(e.1=v/\e.2.1=oth v e)\/(e.2.1=v/\e.1=oth v e):=by
 have h:=of_decide_eq_true h;unfold oth;by_cases c:e.1=v;·rw[if_pos c];exact .inl ⟨c,rfl⟩
 ·rw[if_neg c];exact .inr ⟨h.resolve_left c,rfl⟩
def jc{v:Nat}{e:Rw}(h:atR v e=true):dif nd p e↔rd nd v p≠rd nd (oth v e) p:=by
 rcases oV h with⟨a,b⟩ |⟨a,b⟩;·unfold dif;rw[a,b]
 ·unfold dif;rw[a,b];exact⟨bO,bO⟩
def i9{v:Nat}{e:Rw}(h:atR v e=true)(d:¬dif nd p e):rd nd (oth v e) p=rd nd v p:=by rw[jc h]at d;exact(Es.mp d).symm
theorem Pr.l9(P:Pr n m nd kp E){v:Nat}{e:Rw}(c:e∈E)(h:atR v e=true):Vs kp E (oth v e)/\oth v e<m/\v<m:=by
 have :=P.lt e c;rcases oV h with⟨a,b⟩ |⟨a,b⟩;·rw[<-b];exact⟨.inr ⟨e,c,.inr rfl⟩,this.2,a▸this.1⟩
 ·rw[<-b];exact⟨.inr ⟨e,c,.inl rfl⟩,this.1,a▸this.2⟩
def NB(nd:Nat->List Int)(E:List Rw)(i p v:Nat):Prop:=∀e∈E,dif nd i e->rd nd e.1 p=rd nd v p/\rd nd e.2.1 p=rd nd v p
theorem Pr.down(N:Nd n m nd)(P:Pr n m nd kp E)(F:Fn m kp E)(hi:i<n)(hj:j<n):∀(k v p:Nat)(h:Rw),h∈E->atR v h=true->p<n->dif nd p h->((ay m).countP fun x=>decide (rd nd x p≠rd nd v p))<=k->NB nd E i p v->NB nd E j p v->∃d,kp d/\rd nd d i=rd nd v i/\rd nd d j=rd nd v j:=by
 intro k
 induction k with
 |zero=>intro v p h f a u d c _ _;have :=(P.l9 f a).2.1;have X:=J6.mp (Nat.le_zero.mp c) (oth v h) (aJ.mpr this);exact absurd (decide_eq_true (bO ((jc a).mp d))) X
 |succ k ih=>
  intro v p h f a u d c A B;have vl:=(P.l9 f a).2.2;have H:=(P.l9 f a).2.1;have K:rd nd v p≠rd nd (oth v h) p:=(jc a).mp d;have Q:¬dif nd i h:=fun z=>d (by rw[(A h f z).1,(A h f z).2]);have R:¬dif nd j h:=fun z=>d (by rw[(B h f z).1,(B h f z).2]);by_cases kw:kp (oth v h);·exact⟨_,kw,i9 a Q,i9 a R⟩
  have S:atR (oth v h) h=true:=by
   rcases oV a with⟨_,b⟩ |⟨_,b⟩;·exact decide_eq_true (.inr b)
   ·exact decide_eq_true (.inl b)
  obtain⟨o,r,s,G⟩:∃o∈E,atR (oth v h) o=true/\o≠h:=by
   have hf:=F _ H kw;have O:=P.nodup.sublist (d8 (p:=atR (oth v h)) (l:=E));have M:h∈E.filter (atR (oth v h)):=aV.mpr ⟨f,S⟩;generalize hL:E.filter (atR (oth v h))=L at hf O M;have get:∀x∈L,x∈E/\atR (oth v h) x=true:=fun x D=>aV.mp (hL▸D);rcases L with _|⟨x,_|⟨y,l⟩⟩;·cases M
   ·exact absurd rfl hf.1
   ·have a0:x≠y:=fun z=>(bw.mp O).1 (z▸au);by_cases z:x=h;·exact⟨y,(get y (by simp)).1,(get y (by simp)).2,fun I=>a0 (z.trans I.symm)⟩
    ·exact⟨x,(get x (by simp)).1,(get x (by simp)).2,z⟩
  obtain⟨g,C,t⟩:=P.ne o r;have np:p≠g:=fun z=>G (P.one r f u (z▸t) d);have V:rd nd (oth v h) g=rd nd v g:=i9 a fun z=>G (P.one r f C t z);have W:rd nd (oth (oth v h) o) p=rd nd (oth v h) p:=i9 s fun z=>G (P.one r f u z d);have U:rd nd (oth v h) g≠rd nd (oth (oth v h) o) g:=(jc s).mp t;have a3:=(P.l9 r s).2.1;have key:∀x,x<m->rd nd x p=rd nd v p->rd nd x g=rd nd (oth v h) g:=fun x D Z=>aq fun z=>
   N.no4 np u C vl D H a3 Z.symm (by rw[<-V];exact bO z) W.symm U K
  have nb:∀q,NB nd E q p v->NB nd E q g (oth v h):=fun q b e w J=>⟨key _ (P.lt e w).1 (b e w J).1,key _ (P.lt e w).2 (b e w J).2⟩;have lt:((ay m).countP fun x=>decide (rd nd x g≠rd nd (oth v h) g))<(ay m).countP fun x=>decide (rd nd x p≠rd nd v p):=by refine M7.qj (x:=oth v h) (fun a1 Y z=>?_) (aJ.mpr H) (decide_eq_true (bO K)) (decide_eq_false fun z=>z rfl);exact decide_eq_true fun I=>of_decide_eq_true z (key a1 (aJ.mp Y) I)
  obtain⟨T,k1,k2,k3⟩:=ih (oth v h) g o r s C t (by lia) (nb i A) (nb j B);exact⟨T,k1,k2.trans (i9 a Q),k3.trans (i9 a R)⟩
theorem Pr.turns(N:Nd n m nd)(P:Pr n m nd kp E){v:Nat}{h h':Rw}(c:h∈E)(j:h'∈E)(k:atR v h=true)(r:atR v h'=true)(ne:h≠h'){b:Nat}(l:p<n)(s:b<n)(hi:i<n)(d:dif nd p h)(d':dif nd b h'):NB nd E i p v\/NB nd E i b v:=by
 refine aq fun z=>?_;have W:¬NB nd E i p v:=fun y=>z (.inl y);have X:¬NB nd E i b v:=fun y=>z (.inr y);have B:∀q,¬NB nd E i q v->∃e∈E,dif nd i e/\(rd nd e.1 q≠rd nd v q\/rd nd e.2.1 q≠rd nd v q):=fun q y=>aq fun H=>y fun e f o=>
  ⟨aq fun u=>H ⟨e,f,o,.inl u⟩,aq fun u=>H ⟨e,f,o,.inr u⟩⟩
 obtain⟨e,f,o,F⟩:=B p W;obtain⟨e',L,I,G⟩:=B b X;obtain rfl:=P.one f L hi o I;have C:=(P.l9 c k).2.2;have Q:p≠b:=fun y=>ne (P.one c j l d (y▸d'));have x:∀{g:Rw}{q:Nat},atR v g=true->¬dif nd q g->rd nd g.1 q=rd nd v q/\rd nd g.2.1 q=rd nd v q:=fun{g q} a R=>by
  have :=i9 a R;rcases oV a with⟨t,w⟩ |⟨t,w⟩;·exact⟨by rw[t],by rw[w];exact this⟩
  ·exact⟨by rw[w];exact this,by rw[t]⟩
 by_cases c1:e=h;·subst c1;have :=x k (q:=b) fun y=>ne (P.one c j s y d');exact G.elim (fun u=>u this.1) fun u=>u this.2
 by_cases c2:e=h';·subst c2;have :=x r (q:=p) fun y=>ne (P.one c j l d y);exact F.elim (fun u=>u this.1) fun u=>u this.2
 have S:rd nd e.1 p=rd nd e.2.1 p:=aq fun y=>c1 (P.one f c l y d);have T:rd nd e.1 b=rd nd e.2.1 b:=aq fun y=>c2 (P.one f j s y d');have u1:rd nd e.1 p≠rd nd v p:=F.elim id fun u=>by rw[S];exact u
 have U:rd nd e.1 b≠rd nd v b:=G.elim id fun u=>by rw[T];exact u
 have J:=(jc k).mp d;have K:=(jc r).mp d';have D:=(P.l9 c k).2.1;have V:=(P.l9 j r).2.1;have A:=(P.lt e f).1;have M:rd nd (oth v h) b=rd nd v b:=i9 k fun y=>ne (P.one c j s y d');have O:rd nd (oth v h') p=rd nd v p:=i9 r fun y=>ne (P.one c j l d y);have Y:=N.at C p;have Z:=N.at D p;have a3:=N.at A p;exact N.no4 Q l s C V D A O.symm K (by lia) (by rw[M];exact bO U) J
theorem Pr.there(N:Nd n m nd)(P:Pr n m nd kp E)(F:Fn m kp E){v:Nat}(D:Vs kp E v)(hi:i<n)(B:j<n):∃d,kp d/\rd nd d i=rd nd v i/\rd nd d j=rd nd v j:=by
 by_cases kv:kp v;·exact⟨v,kv,rfl,rfl⟩
 have U:=P.vlt D;have hf:=F v U kv;have C:=P.nodup.sublist (d8 (p:=atR v) (l:=E));obtain⟨M,R,O⟩:∃e∈E,atR v e=true:=by obtain⟨e,Q,h⟩:=D.resolve_left kv;exact⟨e,Q,decide_eq_true h⟩
 have G:M∈E.filter (atR v):=aV.mpr ⟨R,O⟩;generalize hL:E.filter (atR v)=L at hf C G;have get:∀x∈L,x∈E/\atR v x=true:=fun x T=>aV.mp (hL▸T);rcases L with _|⟨x,_|⟨y,_|⟨z,l⟩⟩⟩;·cases G
 ·exact absurd rfl hf.1
 ·exact absurd rfl hf.2
 have c:=get x (by simp);have a:=get y (by simp);have b:=get z (by simp);have H:x≠y:=fun q=>(bw.mp C).1 (q▸au);have I:x≠z:=fun q=>(bw.mp C).1 (q▸av _ au);have J:y≠z:=fun q=>(bw.mp (bw.mp C).2).1 (q▸au);obtain⟨K,A,u⟩:=P.ne x c.1;obtain⟨V,o,f⟩:=P.ne y a.1;obtain⟨W,r,k⟩:=P.ne z b.1;have w:∀{h:Rw}{p:Nat},(h∈E/\atR v h=true)->p<n->dif nd p h->NB nd E i p v->NB nd E j p v->∃d,kp d/\rd nd d i=rd nd v i/\rd nd d j=rd nd v j:=
  fun{h p} g S d s t=>P.down N F hi B _ v p h g.1 g.2 S d (aC _) s t
 by_cases bi:NB nd E i K v
 ·by_cases bj:NB nd E j K v;·exact w c A u bi bj
  ·have s:=(P.turns N c.1 a.1 c.2 a.2 H A o B u f).resolve_left bj;have t:=(P.turns N c.1 b.1 c.2 b.2 I A r B u k).resolve_left bj;rcases P.turns N a.1 b.1 a.2 b.2 J o r hi f k with q|q;·exact w a o f q s
   ·exact w b r k q t
 ·have s:=(P.turns N c.1 a.1 c.2 a.2 H A o hi u f).resolve_left bi;have t:=(P.turns N c.1 b.1 c.2 b.2 I A r hi u k).resolve_left bi;rcases P.turns N a.1 b.1 a.2 b.2 J o r B f k with q|q;·exact w a o f s q
  ·exact w b r k t q
end
section
variable {nd:Nat->List Int}{kp:Nat->Prop}{E:List Rw}
theorem Pr.cl(N:Nd n m nd)(P:Pr n m nd kp E){e:Rw}(g:e∈E)(s:p<n)(hq:q<n)(d:dif nd p e)(d':dif nd q e){x y:Nat}(j:Vs kp E x)(l:Vs kp E y):rd nd x p=rd nd y p↔rd nd x q=rd nd y q:=by
 have c:∀z,Vs kp E z->(rd nd z p=rd nd e.1 p↔rd nd z q=rd nd e.1 q):=fun z t=>by
  refine P.all (fun z=>rd nd z p=rd nd e.1 p↔rd nd z q=rd nd e.1 q) (fun f hf=>?_) e.1 z (.inr ⟨e,g,.inl rfl⟩) t ⟨fun _=>rfl,fun _=>rfl⟩;by_cases z:f=e;·subst z;exact⟨fun _=>⟨fun h=>absurd h.symm d,fun h=>absurd h.symm d'⟩,fun _=>⟨fun _=>rfl,fun _=>rfl⟩⟩
  ·have w:rd nd f.1 p=rd nd f.2.1 p:=aq fun y=>z (P.one hf g s y d);have A:rd nd f.1 q=rd nd f.2.1 q:=aq fun y=>z (P.one hf g hq y d');show(_↔_)↔(_↔_);rw[w,A]
 have a:=c x j;have b:=c y l;have o:=P.vlt j;have r:=P.vlt l;have i:=(P.lt e g).1;have B:=N.at o p;have C:=N.at o q;have D:=N.at r p;have F:=N.at r q;have G:=N.at i p;have H:=N.at i q;constructor
 ·intro h;by_cases k:rd nd x p=rd nd e.1 p;·rw[a.mp k,b.mp (h▸k)]
  ·have u:rd nd x q≠rd nd e.1 q:=fun z=>k (a.mpr z);have v:rd nd y q≠rd nd e.1 q:=fun z=>k (h.trans (b.mpr z));lia
 ·intro h;by_cases k:rd nd x q=rd nd e.1 q;·rw[a.mpr k,b.mpr (h▸k)]
  ·have u:rd nd x p≠rd nd e.1 p:=fun z=>k (a.mp z);have v:rd nd y p≠rd nd e.1 p:=fun z=>k (h.trans (b.mp z));lia
theorem Pr.toward(P:Pr n m nd kp E){x y:Nat}(v:Vs kp E x)(w:Vs kp E y)(ne:x≠y):∃h∈E,atR x h=true/\∃q,q<n/\dif nd q h/\rd nd y q≠rd nd x q:=by
 refine aq fun z=>?_;have A:∀h∈E,atR x h=true->∀q,q<n->dif nd q h->rd nd y q=rd nd x q:=fun h l f q hq d=>aq fun u=>z ⟨h,l,f,q,hq,d,u⟩;refine(P.all (fun z=>z≠x/\∀h∈E,atR x h=true->∀q,q<n->dif nd q h->rd nd z q=rd nd x q) (fun e k=>?_) y x w v ⟨bO ne,A⟩).1 rfl;obtain⟨p,o,d⟩:=P.ne e k;by_cases c:atR x e=true
 ·rcases oV c with⟨a,b⟩ |⟨a,b⟩;·exact⟨fun h=>absurd a h.1,fun h=>absurd (h.2 e k c p o d) (by rw[<-a];exact bO d)⟩
  ·exact⟨fun h=>absurd (h.2 e k c p o d) (by rw[<-a];exact d),fun h=>absurd a h.1⟩
 ·have r:e.1≠x:=fun u=>c (decide_eq_true (.inl u));have t:e.2.1≠x:=fun u=>c (decide_eq_true (.inr u));have s:∀h∈E,atR x h=true->∀q,q<n->dif nd q h->rd nd e.1 q=rd nd e.2.1 q:=fun h l f q hq i=>aq fun u=>c (P.one l k hq i u▸f);exact⟨fun h=>⟨t,fun g j f q hq i=>by rw[<-s g j f q hq i];exact h.2 g j f q hq i⟩,fun h=>⟨r,fun g j f q hq i=>by rw[s g j f q hq i];exact h.2 g j f q hq i⟩⟩
def Cps(nd:Nat->List Int)(kp:Nat->Prop)(rows:List (List Int)):Prop:=∀r,r∈rows↔∃d,kp d/\r=nd d
theorem Pr.fits(N:Nd n m nd)(P:Pr n m nd kp E)(F:Fn m kp E)(C:Cps nd kp rows){v:Nat}(a:Vs kp E v):Fits rows n (nd v):=
 ⟨N.ok v (P.vlt a),fun i j hi b=>let⟨d,k1,k2,k3⟩:=P.there N F a hi b;⟨nd d,(C _).mpr ⟨d,k1,rfl⟩,k2,k3⟩⟩
theorem Pr.plain(P:Pr n m nd kp E)(d:p<n)(h:∀e∈E,¬dif nd p e){x y:Nat}(b:Vs kp E x)(c:Vs kp E y):rd nd x p=rd nd y p:=
 (P.all (fun z=>rd nd x p=rd nd z p) (fun e a=>by rw[Es.mp (h e a)]) x y b c rfl)
theorem Pr.yi(N:Nd n m nd)(P:Pr n m nd kp E)(F:Fn m kp E)(C:Cps nd kp rows){u:List Int}(B:Fits rows n u):∀(k x:Nat),Vs kp E x->((ay n).countP fun p=>decide (u.getD p 0≠rd nd x p))<=k->∃y,Vs kp E y/\u=nd y:=by
 have D:∀i j,i<n->j<n->∃d,kp d/\rd nd d i=u.getD i 0/\rd nd d j=u.getD j 0:=fun i j hi O=>by obtain⟨r,v,o,A⟩:=B.2 i j hi O;obtain⟨d,s,rfl⟩:=(C r).mp v;exact⟨d,s,o,A⟩
 intro k
 induction k with
 |zero=>intro x f c;refine⟨x,f,AE B.1.1 (N.ok x (P.vlt f)).1 fun p a=>?_⟩;exact aq fun z=>J6.mp (Nat.le_zero.mp c) p (aJ.mpr a) (decide_eq_true z)
 |succ k ih=>
  intro x f c;by_cases e0:∀p,p<n->u.getD p 0=rd nd x p;·exact⟨x,f,AE B.1.1 (N.ok x (P.vlt f)).1 e0⟩
  obtain⟨p,a,H⟩:∃p,p<n/\u.getD p 0≠rd nd x p:=aq fun z=>e0 fun p a=>aq fun y=>z ⟨p,a,y⟩;obtain⟨e,g,G⟩:∃e∈E,dif nd p e:=aq fun z=>by obtain⟨d,s,o,_⟩:=D p p a a;exact H (by rw[<-o];exact P.plain a (fun e g y=>z ⟨e,g,y⟩) (.inl s) f)
  have L:=P.vlt f;obtain⟨h,l,t,all⟩:∃h∈E,atR x h=true/\∀q,q<n->dif nd q h->u.getD q 0≠rd nd x q:=by
   by_cases c1:atR x e=true;·refine⟨e,g,c1,fun q hq b z=>?_⟩;obtain⟨d,s,o,A⟩:=D p q a hq;exact H (by rw[<-o];exact(P.cl N g a hq G b (.inl s) f).mpr (A.trans z))
   ·have T:x≠e.1:=fun z=>c1 (decide_eq_true (.inl z.symm));have K:Vs kp E e.1:=.inr ⟨e,g,.inl rfl⟩;obtain⟨h,l,t,q0,Q,M,W⟩:=P.toward f K T;refine⟨h,l,t,fun q hq b z=>?_⟩;obtain⟨d,s,o,A⟩:=D p q a hq;have X:rd nd e.1 q≠rd nd x q:=fun w=>W ((P.cl N l hq Q b M K f).mp w);have J:h≠e:=fun w=>c1 (w▸t);have S:q≠p:=fun w=>J (P.one l g a (w▸b) G);have U:rd nd e.1 q=rd nd e.2.1 q:=aq fun w=>J (P.one l g hq b w);exact N.no4 S hq a L (P.kl d s) (P.lt e g).1 (P.lt e g).2 (A.trans z).symm (by rw[o];exact bO H) U G (bO X)
  obtain⟨R,V,_⟩:=P.l9 l t;refine ih (oth x h) R ?_;obtain⟨q,hq,b⟩:=P.ne h l;have I:∀q,q<n->dif nd q h->u.getD q 0=rd nd (oth x h) q:=fun q hq b=>by have Y:=all q hq b;have Z:=(jc t).mp b;have a3:=N.at L q;have a4:=N.at V q;have a5:=B.1.at q;lia
  have lt:((ay n).countP fun p=>decide (u.getD p 0≠rd nd (oth x h) p))<(ay n).countP fun p=>decide (u.getD p 0≠rd nd x p):=by
   refine M7.qj (x:=q) (fun r v z=>?_) (aJ.mpr hq) (decide_eq_true (all q hq b)) (decide_eq_false fun z=>z (I q hq b));have z:=of_decide_eq_true z;have v:=aJ.mp v;by_cases dr:dif nd r h;·exact absurd (I r v dr) z
   ·rw[i9 t dr]at z;exact decide_eq_true z
  lia
theorem Pr.mem(N:Nd n m nd)(P:Pr n m nd kp E)(F:Fn m kp E)(C:Cps nd kp rows)(k0:∃k,kp k){u:List Int}:Fits rows n u↔∃x,Vs kp E x/\u=nd x:=
 ⟨fun h=>let⟨k,hk⟩:=k0;P.yi N F C h _ k (.inl hk) (aC _),fun⟨x,a,e⟩=>e▸P.fits N F C a⟩
theorem Pr.tbl(N:Nd n m nd)(P:Pr n m nd kp E)(C:Cps nd kp rows)(k0:∃k,kp k):Tbl rows n where
 ok r hr:=by obtain⟨d,c,rfl⟩:=(C r).mp hr;exact N.ok d (P.kl d c)
 ne z:=by obtain⟨k,g⟩:=k0;have :=(C (nd k)).mpr ⟨k,g,rfl⟩;rw[z]at this;cases this
 mis i j hij hj:=by obtain⟨a,b,e,f,k⟩:=N.mis i j (aO hij) (fP hij hj) hj;exact⟨a,b,e,f,fun v l h=>by obtain⟨d,c,rfl⟩:=(C v).mp l;exact k d (P.kl d c) h⟩
abbrev vF(nd:Nat->List Int)(e:Rw):Tri:=(M4.lo (nd e.1) (nd e.2.1),M4.hi (nd e.1) (nd e.2.1),e.2.2)
theorem Pr.cls(N:Nd n m nd)(P:Pr n m nd kp E)(F:Fn m kp E)(C:Cps nd kp rows){e:Rw}(a:e∈E)(b:p<n)(hq:q<n)(d:dif nd p e):Cls rows p q↔dif nd q e:=by
 have j:Vs kp E e.1:=.inr ⟨e,a,.inl rfl⟩;have k:Vs kp E e.2.1:=.inr ⟨e,a,.inr rfl⟩;constructor;·intro c;obtain⟨x,f,l,o⟩:=P.there N F j b hq;obtain⟨y,ky,t,u⟩:=P.there N F k b hq;intro z;have :=(c (nd x) ((C _).mpr ⟨x,f,rfl⟩) (nd y) ((C _).mpr ⟨y,ky,rfl⟩)).mpr (show rd nd x q=rd nd y q by rw[o,u];exact z);exact d (by rw[<-l,<-t];exact this)
 ·intro g r h s i;obtain⟨x,f,rfl⟩:=(C r).mp h;obtain⟨y,ky,rfl⟩:=(C s).mp i;exact P.cl N a b hq d g (.inl f) (.inl ky)
theorem Pr.tri(N:Nd n m nd)(P:Pr n m nd kp E)(F:Fn m kp E)(C:Cps nd kp rows)(k0:∃k,kp k){e:Rw}(b:e∈E)(a:p<n)(d:dif nd p e):grp rows p≠0/\tri rows n p=vF nd e:=by
 have t:=P.tbl N C k0;have h:Vs kp E e.1:=.inr ⟨e,b,.inl rfl⟩;have i:Vs kp E e.2.1:=.inr ⟨e,b,.inr rfl⟩;have row:∀{x:Nat},kp x->nd x∈rows:=fun{x} k=>(C _).mpr ⟨x,k,rfl⟩;have v:grp rows p≠0:=by rw[M9.pK t];obtain⟨x,g,j,_⟩:=P.there N F h a a;obtain⟨y,ky,l,_⟩:=P.there N F i a a;exact⟨nd x,row g,nd y,row ky,fun z=>d (by rw[<-j,<-l];exact z)⟩
 have off:∀q,q<n->¬Cls rows p q->∃r∈rows,∃s∈rows,r.getD p 0≠s.getD p 0/\r.getD q 0=rd nd e.1 q/\s.getD q 0=rd nd e.1 q:=fun q hq c=>by have f:rd nd e.1 q=rd nd e.2.1 q:=aq fun z=>c ((P.cls N F C b a hq d).mpr z);obtain⟨x,g,j,J⟩:=P.there N F h a hq;obtain⟨y,ky,l,K⟩:=P.there N F i a hq;exact⟨nd x,row g,nd y,row ky,fun z=>d (by rw[<-j,<-l];exact z),J,K.trans f.symm⟩
 have o:=P.fits N F C h;have u:=P.fits N F C i;have w:End rows n p (nd e.1):=⟨o.1,fun q hq _=>o.2 p q a hq,off⟩;have A:End rows n p (nd e.2.1):=⟨u.1,fun q hq _=>u.2 p q a hq,fun q hq c=>by have f:rd nd e.1 q=rd nd e.2.1 q:=aq fun z=>c ((P.cls N F C b a hq d).mpr z);obtain⟨r,B,s,D,G,H,I⟩:=off q hq c;exact⟨r,B,s,D,G,H.trans f,I.trans f⟩⟩
 have ne:nd e.1≠nd e.2.1:=fun z=>d (by unfold rd;rw[z]);obtain⟨l1,l2⟩:=AH t a v w A ne;refine⟨v,?_⟩;unfold M8.tri vF;rw[l1,l2,P.is e b];unfold df;rw[lz fun q hq=>?_];unfold M5.own;rw[decide_eq_decide];rw[eq_comm,t.cls,P.cls N F C b a hq d];rfl
theorem Pr.trs(N:Nd n m nd)(P:Pr n m nd kp E)(F:Fn m kp E)(C:Cps nd kp rows)(k0:∃k,kp k){x:Tri}:x∈trs rows n↔x∈E.map (vF nd):=by
 have t:=P.tbl N C k0;rw[pJ t,aF];constructor
 ·rintro⟨p,f,j,rfl⟩;obtain⟨e,c,g⟩:∃e∈E,dif nd p e:=aq fun z=>by obtain⟨r,h,s,i,k⟩:=(M9.pK t).mp j;obtain⟨a,l,rfl⟩:=(C r).mp h;obtain⟨b,o,rfl⟩:=(C s).mp i;exact k (P.plain f (fun e c y=>z ⟨e,c,y⟩) (.inl l) (.inl o))
  exact⟨e,c,(P.tri N F C k0 c f g).2.symm⟩
 ·rintro⟨e,c,rfl⟩;obtain⟨p,f,d⟩:=P.ne e c;exact⟨p,f,(P.tri N F C k0 c f d).1,(P.tri N F C k0 c f d).2.symm⟩
def lohi{a b c d:List Int}(h:a≠b)(k:c≠d)(f:M4.lo a b=M4.lo c d)(e:M4.hi a b=M4.hi c d):(a=c/\b=d)\/(a=d/\b=c):=by have g:=_root_.Q.iM h;have i:=_root_.Q.iM k;unfold M4.lo at f;unfold M4.hi at e;rw[g,i]at e;cases c1:_root_.Q.llt b a<;>cases c2:_root_.Q.llt d c<;>simp_all
theorem Pr.keys(P:Pr n m nd kp E)(N:Nd n m nd):((E.map (vF nd)).map key).Nodup:=by
 rw[bq];refine cj.mpr (j8 ?_ P.ap);intro e f c hf j z;have len:∀x,x<m->(nd x).length=n:=fun x r=>(N.ok x r).1;obtain⟨p,q,d⟩:=P.ne e c;have g:=P.lt e c;have h:=P.lt f hf;have i:∀a b,a<m->b<m->(M4.lo (nd a) (nd b)).length=n:=fun a b l o=>by unfold M4.lo;split <;>simp[len _ l,len _ o]
 have s:M4.lo (nd e.1) (nd e.2.1)++M4.hi (nd e.1) (nd e.2.1)=M4.lo (nd f.1) (nd f.2.1)++M4.hi (nd f.1) (nd f.2.1):=z;have :=List.append_inj s (by rw[i _ _ g.1 g.2,i _ _ h.1 h.2]);refine j p q ⟨d,?_⟩;unfold dif rd at d⊢;obtain⟨u,t,k⟩:=P.ne f hf;rcases lohi (fun z=>d (by rw[z])) (fun z=>k (by unfold rd;rw[z])) this.1 this.2 with⟨a,b⟩ |⟨a,b⟩
 ·rw[<-a,<-b];exact d
 ·rw[<-a,<-b];exact bO d
end
end K31
namespace M9
open K32 K83 M7 M8 L2
abbrev trD(rows:List (List Int))(n:Nat):L2.D:=.tup [.lst ((vH (nds rows n)).map nd1),.lst ((BK (trs rows n)).map Ey)]
def wg{xs ys:List (List Int)}(nd:xs.Nodup)(p:xs.Perm ys):vH xs=vH ys:=by
 have :=m7 [] id (ys:=xs) (zs:=ys) (by rw[fJ];exact nd) p
 rwa [fJ,fJ]at this
def we{xs ys:List Tri}(nd:(xs.map key).Nodup)(p:xs.Perm ys):BK xs=BK ys:=m7 _ key nd p
def GU{xs:List (List Int)}(nd:xs.Nodup):(vH xs).Perm xs:=lN [] nd rfl
def lo_lo{a b:List Int}:M4.lo (M4.lo a b) (M4.hi a b)=M4.lo a b/\M4.hi (M4.lo a b) (M4.hi a b)=M4.hi a b:=by
 by_cases h:a=b;·subst h;unfold M4.lo M4.hi;split <;>simp_all
 ·have t:=_root_.Q.iM h;cases c:_root_.Q.llt b a with
  |true=>rw[c]at t;have d:M4.lo a b=b:=if_pos c;have e:M4.hi a b=a:=if_neg (by rw[t];decide);rw[d,e];exact⟨if_neg (by rw[t];decide),if_pos c⟩
  |false=>rw[c]at t;have d:M4.lo a b=a:=if_neg (by rw[c];decide);have e:M4.hi a b=b:=if_pos t;rw[d,e];exact⟨d,e⟩
def psi_id{a b:List Int}{P:Nat->Bool}:psi n id id (M4.lo a b,M4.hi a b,M5.plc n P)=(M4.lo a b,M4.hi a b,M5.plc n P):=by
 unfold psi;dsimp only[id];rw[lo_lo.1,lo_lo.2];refine Prod.ext rfl (Prod.ext rfl ?_);refine lz fun i hi=>?_;rw[eY,decide_eq_true_eq];constructor;·intro h;obtain⟨j,_,c,e⟩:=uC h;rw[show i=j by lia];exact c
 ·intro h;unfold M5.plc;exact aF.mpr ⟨i,aV.mpr ⟨aJ.mpr hi,h⟩,rfl⟩
def GF{a:List (List Int)}(t:Tbl rows n)(d:Tbl a n)(h:∀r,r∈rows↔r∈a):trD rows n=trD a n:=by
 have I:=IK t d h;have b:=I.nodes;rw[fJ]at b;have pt:=I.tris;have e:(trs rows n).map (psi n id id)=trs rows n:=by
  conv =>rhs;rw[<-fJ (trs rows n)]
  refine cF fun x c=>?_;obtain⟨p,_,_,rfl⟩:=(pJ t).mp c;exact psi_id
 rw[e]at pt;unfold trD;rw[wg (uo t) b,we (tI t) pt]
def hgt_D(xs:List (List Int))(e:List Tri):hgt (.tup [.lst (xs.map nd1),.lst (e.map Ey)])<=20:=by
 have j:∀k:List Int,gK (k.map L2.D.int)=0:=fun k=>by
  induction k with
  |nil=>rfl
  |cons a k ih=>show max 0 (gK (k.map L2.D.int))=0;rw[ih];rfl
 have b:∀k,hgt (nd1 k)<=1:=fun k=>by show gK (k.map L2.D.int)+1<=1;rw[j];lia
 have d:∀{f:Type}(g:f->L2.D)(c:Nat)(l:List f),(∀a,hgt (g a)<=c)->gK (l.map g)<=c:=fun g c l h=>by
  induction l with
  |nil=>exact aW _
  |cons a l ih=>exact Ba.mpr ⟨h a,ih⟩
 have i:∀x:Tri,hgt (Ey x)<=2:=fun x=>by show max (hgt (nd1 _)) (max (hgt (nd1 _)) (max (hgt (nd1 _)) 0))+1<=2;exact Nat.succ_le_succ (Ba.mpr ⟨b _,Ba.mpr ⟨b _,Ba.mpr ⟨b _,aW _⟩⟩⟩)
 show max (gK (List.map nd1 _)+1) (max (gK (List.map Ey _)+1) 0)+1<=20;have m:=d nd1 1 xs b;have n:=d Ey 2 e i;lia
end M9
namespace K34
open PySem PySem.Spec PyProof.Rows L2 R Cp Lt Kc K21 K22 Lm M5 K32 K24
structure Tn(H:Hp)(t:Addr)(nf:Nat->Str)(n:Nat)(ys:List V)(rows:List (List Int)):Prop where
 et:H t=some (.lst ys)
 ln:rows.length=ys.length
 row:∀(i:Nat) y,ys[i]? =some y->∃b r,y=.ref b/\H b=some (.tup [.str (nf i),.ref r])/\H r=some (.tup ((rows.getD i []).map V.int))
 ok:∀i,iL (nf i)=true
 inj:∀i j,i<ys.length->j<ys.length->nf i=nf j->i=j
 len:ys.length<=40
 n10:n<=60
 rd:∀r∈rows,M6.Ok n r
 mis:∀i j,i<j->j<n->M6.Mis rows i j
section
variable {t:Addr}{nf:Nat->Str}{T:Tb}
def Tn.get(d:Tn H t nf n ys rows)(h:i<ys.length):rows.getD i []∈rows:=by rw[af,ae (by rw[d.ln];exact h)];exact ck _
def Tn.gr(d:Tn H t nf n ys rows)(g:Gr T H H')(a:Tab T H):Tn H' t nf n ys rows:=
 {d with et:=g.lst a d.et,row:=fun i y e=>let⟨b,r,h1,h2,h3⟩:=d.row i y e;⟨b,r,h1,g.zA a h2,g.zA a h3⟩}
def Tn.same(d:Tn H t nf n ys rows)(s:aR H H'):Tn H' t nf n ys rows:=
 {d with et:=s _ _ d.et,row:=fun i y e=>let⟨b,r,h1,h2,h3⟩:=d.row i y e;⟨b,r,h1,s _ _ h2,s _ _ h3⟩}
def Tn.dr(d:Tn H t nf n ys rows):Dr H nf n ys:=fun i y e=>by obtain⟨b,r,a,c,f⟩:=d.row i y e;have o:=d.rd _ (d.get (aM.mp e).1);refine⟨b,r,_,a,c,f,by rw[ak];exact o.1,fun z h=>?_⟩;obtain⟨x,g,rfl⟩:=aF.mp h;rcases o.2 x g with rfl|rfl<;>rfl
def Tn.tab(d:Tn H t nf n ys rows):Kn4 H (.ref t)/\dP H (.ref t)=true/\(∀y∈ys,dJ H y=true)/\∀y∈ys,cz H y=n:=
 uO d.ok d.inj d.et d.dr (by have :=d.len;lia) (by have :=d.n10;lia)
theorem Tn.count(d:Tn H t nf n ys rows)(h:ys≠[]):Cp.count H (.ref t)=n:=by
 show(match dZ (H t)with |some (y::_)=>cz H y|_=>0)=n;rw[d.et];cases ys with
 |nil=>exact absurd rfl h
 |cons y r=>exact d.tab.2.2.2 y (.head _)
def Tn.perm(d:Tn H t nf n ys rows):(rowsOf H (.ref t)).Perm (ys.map (cd H)):=by
 have nd:(ys.map (aY H)).Nodup:=by obtain⟨a,i,e,b,f,g,c,h⟩:=eX d.tab.2.1;cases e;rw[show dZ (H t)=some ys by rw[d.et];rfl]at b;cases b;exact c
 unfold rowsOf;rw[m6 (show dZ (H t)=some ys by rw[d.et];rfl)];exact(_root_.Q.eD V.non nd (by simp)).map (cd H)
def Tn.cds(d:Tn H t nf n ys rows)(x:Str×List V):x∈ys.map (cd H)↔∃i,i<ys.length/\x=(nf i,(rows.getD i []).map V.int):=by
 constructor;·intro h;obtain⟨y,g,rfl⟩:=aF.mp h;obtain⟨i,e⟩:=bG.mp g;obtain⟨b,r,rfl,a,c⟩:=d.row i y e;exact⟨i,(aM.mp e).1,BX a c⟩
 ·rintro⟨i,hi,rfl⟩;have e:=ae hi;obtain⟨b,r,f,a,c⟩:=d.row i _ e;refine aF.mpr ⟨ys[i],ck hi,?_⟩;rw[f];exact BX a c
def Ar(z:List Int):(z.map V.int).map intOf=z:=by
 rw[bq]
 conv =>rhs;rw[<-fJ z]
 rfl
def Tn.mem(d:Tn H t nf n ys rows)(r:List Int):r∈K32.rI (rowsOf H (.ref t))↔r∈rows:=by
 unfold K32.rI;rw[(d.perm.map _).mem_iff];constructor;·intro h;obtain⟨x,a,rfl⟩:=aF.mp h;obtain⟨i,hi,rfl⟩:=(d.cds x).mp a;rw[Ar];exact d.get hi
 ·intro h;obtain⟨i,hi,rfl⟩:=cX.mp h;refine aF.mpr ⟨(nf i,(rows.getD i []).map V.int),(d.cds _).mpr ⟨i,by rw[<-d.ln];exact hi,rfl⟩,?_⟩;rw[Ar,af,ae hi];rfl
def Tn.tbl(d:Tn H t nf n ys rows)(h:ys≠[]):M7.Tbl rows n:=⟨d.rd,fun z=>h (bx.mp (by rw[<-d.ln,z];rfl)),d.mis⟩
def Dx{r:Str×List V}{z:List Int}(e:r.2=z.map V.int)(i:Nat)(h:i<z.length):E3 i r=z.getD i 0:=by unfold E3;rw[e,ba,af,ax,af,ae h];rfl
def Tn.noc(d:Tn H t nf n ys rows):NoC (rowsOf H (.ref t)) (Cp.count H (.ref t)):=fun a b j h=>by
 rw[fK];intro z;rw[K24.uK]at z;have mem:∀r∈rowsOf H (.ref t),∃q∈rows,r.2=q.map V.int:=fun r c=>by obtain⟨i,hi,rfl⟩:=(d.cds r).mp (d.perm.mem_iff.mp c);exact⟨_,d.get hi,rfl⟩
 have p:ys≠[]:=fun e=>by obtain⟨r,c,_⟩:=z 0 0 (.inl rfl) (.inl rfl);obtain⟨q,hq,_⟩:=mem r c;have :=d.ln;rw[e]at this;rw[bx.mp this]at hq;cases hq
 rw[d.count p]at h;obtain⟨u,v,l,m,k⟩:=d.mis a b j h;obtain⟨r,c,f,g⟩:=z u v l m;obtain⟨q,hq,e⟩:=mem r c;have o:=d.rd q hq;rw[Dx e a (by rw[o.1];lia)]at f;rw[Dx e b (by rw[o.1];lia)]at g;exact k q hq ⟨f,g⟩
def GD{Q:VK}{E:XS}(d:Tn H t nf n ys rows)(tb:Tab T H)(q:∀H' p,Gr T H H'->(∃xs,H' p=some (.tup xs))->Rep K H' (if ys=[]then .tup [.lst [],.lst []]else M9.trD rows n) (.ref p)->Q (.ref p) H')(s:L2.St):K83.tP T [.ref t] H Q (E s):=by
 refine⟨_,rfl,d.tab.1,tb,d.tab.2.1,d.noc,fun H' p gr w tk=>q H' p gr (by
  rcases tk with⟨_,a,b,g,_⟩ |⟨_,B,bl,A,bs,C,g,_⟩;·exact⟨_,g⟩
  ·exact⟨_,g⟩) ?_⟩
 have e:rowsOf H (.ref t)=[]↔ys=[]:=by have :=d.perm.length_eq;rw[ak]at this;rw[<-bx,this,bx]
 by_cases c:ys=[]
 ·rw[if_pos c];have :=K83.zB (K:=K) (n:=0) (fun l f=>by rw[e.mpr c]at f;cases f) (fun h=>absurd (e.mpr c) h) tk;unfold K83.tD at this
  rwa [if_pos (e.mpr c)]at this
 ·rw[if_neg c];have m:=d.tbl c;have u:M7.Tbl (K32.rI (rowsOf H (.ref t))) n:=⟨fun r k=>m.ok r ((d.mem r).mp k),fun z=>?_,fun i j a b=>(m.mis i j a b).sub fun r k=>(d.mem r).mp k⟩
  ·have :=K83.zB (K:=K) (n:=n) (fun l f=>?_) (fun _=>d.count c) tk;·unfold K83.tD at this;rw[if_neg (fun z=>c (e.mp z)),M8.gD_is u]at this;rw[<-M9.GF u m d.mem];exact this
   ·obtain⟨i,hi,rfl⟩:=(d.cds l).mp (d.perm.mem_iff.mp f);have o:=d.rd _ (d.get hi);refine⟨by rw[ak];exact o.1,fun y c=>?_⟩;obtain⟨x,v,rfl⟩:=aF.mp c;rcases o.2 x v with rfl|rfl<;>rfl
  ·unfold K32.rI at z;exact c (e.mp (List.map_eq_nil_iff.mp z))
end
end K34
namespace K34
open PySem PySem.Spec PyProof.Rows L2 R Cp Lt Kc K21 K22 Lm M5 K32
def srt_two{a b:List Int}(h:a≠b):M8.vH [a,b]=[M4.lo a b,M4.hi a b]:=by
 have nd:[a,b].Nodup:=by simp[h]
 have e:=K83.lN [] (ys:=[a,b]) nd rfl;have r:=K83.pM nd;have t:=_root_.Q.iM h;unfold M8.vH M4.lo M4.hi;cases c:_root_.Q.llt b a with
 |true=>rw[c]at t;rw[if_pos rfl,if_neg (by rw[t];decide)];exact ip (fun x y _ _ h k=>K83.Cb h k) r (.cons (fun y d=>by rw[aH.mp d];exact c) (gh _ _)) (e.trans (j7 _ _ _))
 |false=>
  have t:_root_.Q.llt a b=true:=by rw[t,c];rfl
  rw[if_neg (by decide),if_pos t];exact ip (fun x y _ _ h k=>K83.Cb h k) r (.cons (fun y d=>by rw[aH.mp d];exact t) (gh _ _)) e
def zL(nd:ns.Nodup)(g:qs.Nodup)(h:∀x,x∈qs↔x∈ns)(r:qs.Pairwise (·<·)):_root_.Q.sortI ns=qs.map V.int:=by
 have b:=_root_.Q.qX nd;have e:_root_.Q.sortI ns=((_root_.Q.pR ns).map fun i=>ns.getD i 0).map V.int:=by unfold _root_.Q.sortI;rw[bq];refine cF fun i hi=>?_;have d:i<ns.length:=aJ.mp (b.mem_iff.mp hi);show(ns.map V.int).getD i .non=V.int (ns.getD i 0);rw[af,af,ax,ae d];rfl
 rw[e];congr 1;have c:((_root_.Q.pR ns).map fun i=>ns.getD i 0).Perm ns:=by have h:=b.map fun i=>ns.getD i 0;rw[_root_.Q.range_getD]at h;exact h
 have j:((_root_.Q.pR ns).map fun i=>ns.getD i 0).Pairwise (·<·):=by
  by_cases h2:ns.length<2
  ·have f:((_root_.Q.pR ns).map fun i=>ns.getD i 0).length<2:=by rw[c.length_eq];exact h2
   match(_root_.Q.pR ns).map (fun i=>ns.getD i 0),f with
   | [],_=>exact .nil
   | [a],_=>exact gh _ _
  ·exact cj.mpr ((_root_.Q.z8 nd h2).imp fun h=>of_decide_eq_true h)
 exact ip (fun x y _ _ h k=>by lia) j r (c.trans (K84.pP g nd h).symm)
def x9(n:Nat)(P:Nat->Bool):(plc n P).Pairwise (·<·):=by unfold plc;refine cj.mpr ?_;exact((nP (n:=n)).filter P).imp fun h=>by lia
def Ei(H:Hp)(v:V)(x:M8.Tri):Prop:=∃a p q r,v=.ref a/\H a=some (.tup [.ref p,.ref q,.ref r])/\H p=some (.tup (x.1.map V.int))/\H q=some (.tup (x.2.1.map V.int))/\H r=some (.tup (x.2.2.map V.int))
def sQ(t:Tk H H'){vs:List V}{xs:List M8.Tri}(h:Paired (Ei H) vs xs):Paired (Ei H') vs xs:=Paired.uD h fun v k w=>by obtain⟨a,x,y,z,e,b,c,d,f⟩:=w;exact⟨a,x,y,z,e,t _ _ b,t _ _ c,t _ _ d,t _ _ f⟩
def GB{vs:List V}{xs:List M8.Tri}(h:Paired (Ei H) vs xs):_root_.Q.jZ H vs (xs.map fun x=>(x.1,x.2.1)):=by
 induction h with
 |nil=>exact .nil
 |cons x r ih=>obtain⟨a,x,y,z,e,b,c,d,_⟩:=x;exact .cons ⟨a,x,y,_,e,b,c,d⟩ ih
def wt{e c:Type}{F:e->c->Prop}{d:List e}{b:c}{m:List c}(h:Paired F d (b::m)):∃a r,d=a::r/\F a b/\Paired F r m:=by
 cases h with
 |cons x t=>exact⟨_,_,rfl,x,t⟩
theorem pr_mk{c d:Type}{F:c->d->Prop}:∀{l:List c}{m:List d},l.length=m.length->(∀(j:Nat) a b,l[j]? =some a->m[j]? =some b->F a b)->Paired F l m
 | [],[],_,_=>.nil
 |a::l,b::m,h,f=>.cons (f 0 a b rfl rfl) (pr_mk (mq h) fun j x y e g=>f (j+1) x y (by simpa using e) (by simpa using g))
end K34
namespace K31
open K32 M7 M8
section
variable {nd:Nat->List Int}{kp:Nat->Prop}{E:List Rw}
abbrev off(k:Nat)(e:Rw):Bool:= !atR k e
def Dv{e:Rw}:off k e=true↔e.1≠k/\e.2.1≠k:=by unfold off atR;rw[Bool.not_eq_true',decide_eq_false_iff_not,not_or]
def BB{x:Nat}(b:¬kp k)(h:Vs kp (E.filter (off k)) x):x≠k/\Vs kp E x:=by
 rcases h with h|⟨e,a,h⟩;·exact⟨fun z=>b (z▸h),.inl h⟩
 ·have :=aV.mp a;have o:=Dv.mp this.2;refine⟨fun z=>?_,.inr ⟨e,this.1,h⟩⟩;rcases h with h|h;·exact o.1 (h.trans z)
  ·exact o.2 (h.trans z)
theorem ug{e:Rw}(P:Pr n m nd kp E)(b:e∈E)(a:atR k e=true):oth k e≠k:=fun z=>by obtain⟨p,c,d⟩:=P.ne e b;exact(jc a).mp d (by rw[z])
def Pr.carry(P:Pr n m nd kp E){o:Nat}(l:o≠k){Q:Nat->Prop}(c:∀e∈E.filter (off k),(Q e.1↔Q e.2.1))(j:∀e∈E,atR k e=true->(Q (oth k e)↔Q o)):
  ∀e∈E,((if e.1=k then Q o else Q e.1)↔(if e.2.1=k then Q o else Q e.2.1)):=fun e d=>by
 by_cases ha:atR k e=true
 ·have f:=j e d ha;have g:=ug P d ha;rcases oV ha with⟨a,b⟩ |⟨a,b⟩;·rw[if_pos a,b,if_neg g];exact f.symm
  ·rw[if_pos a,b,if_neg g];exact f
 ·have h:off k e=true:=by unfold off;rw[fK.mpr ha];rfl
  have i:=Dv.mp h;rw[if_neg i.1,if_neg i.2];exact c e (aV.mpr ⟨d,h⟩)
theorem Pr.cut(P:Pr n m nd kp E){h:Rw}(f:¬kp k)(b:E.filter (atR k)=[h]):Pr n m nd kp (E.filter (off k)) where
 kl:=P.kl
 lt e a:=P.lt e (aV.mp a).1
 is e a:=P.is e (aV.mp a).1
 ne e a:=P.ne e (aV.mp a).1
 ap:=P.ap.sublist d8
 all Q c x y hx hy q:=by
  have d:h∈E/\atR k h=true:=aV.mp (b▸au);have g:=BB f hx;have i:=BB f hy;have :=P.all (fun z=>if z=k then Q (oth k h)else Q z) (P.carry (ug P d.1 d.2) c fun e a j=>by have :e∈E.filter (atR k):=aV.mpr ⟨a,j⟩;rw[b]at this;rw[aH.mp this]) x y g.2 i.2 (by rw[if_neg g.1];exact q)
  rw[if_neg i.1]at this;exact this
abbrev new(nd:Nat->List Int)(n k:Nat)(h g:Rw):Rw:=(oth k h,oth k g,df nd n (oth k h) (oth k g))
theorem Pr.two(N:Nd n m nd)(P:Pr n m nd kp E){h g:Rw}(i:h∈E)(f:atR k h=true)(mg:g∈E)(e:atR k g=true)(ne:h≠g)(j:p<n):rd nd (oth k h) p≠rd nd (oth k g) p↔dif nd p h\/dif nd p g:=by
 have a:=P.l9 i f;have b:=P.l9 mg e;have l:=N.at a.2.1 p;have o:=N.at b.2.1 p;have q:=N.at a.2.2 p;have d:¬(dif nd p h/\dif nd p g):=A3 P.ap i mg ne p j;rw[jc f,jc e]at d⊢;constructor
 ·intro z;by_cases c:rd nd k p=rd nd (oth k h) p;·exact .inr fun y=>z (by rw[<-c,<-y])
  ·exact .inl c
 ·intro z y;rcases z with z|z;·exact d ⟨z,by rw[<-y];exact z⟩
  ·exact d ⟨by rw[y];exact z,z⟩
theorem Pr.join(N:Nd n m nd)(P:Pr n m nd kp E){h g:Rw}(t:¬kp k)(r:E.filter (atR k)=[h,g]):h≠g/\Pr n m nd kp (E.filter (off k)++[new nd n k h g]):=by
 have b:h∈E/\atR k h=true:=aV.mp (r▸au);have o:g∈E/\atR k g=true:=aV.mp (r▸av _ au);have ne:h≠g:=fun z=>by have :=P.nodup.sublist (d8 (p:=atR k) (l:=E));rw[r]at this;exact(bw.mp this).1 (z▸au)
 have two:∀{p:Nat},p<n->(dif nd p (new nd n k h g)↔dif nd p h\/dif nd p g):=fun{p} j=>P.two N b.1 b.2 o.1 o.2 ne j;have v:=P.l9 b.1 b.2;have u:=P.l9 o.1 o.2;have mem:∀{e:Rw},e∈E.filter (off k)++[new nd n k h g]->(e∈E/\off k e=true)\/e=new nd n k h g:=fun{e} he=>by
  rcases aU.mp he with he|he;·exact .inl (aV.mp he)
  ·exact .inr (aH.mp he)
 refine⟨ne,P.kl,fun e he=>?_,fun e he=>?_,fun e he=>?_,?_,fun Q c x y i G q=>?_⟩
 ·rcases mem he with he|rfl;·exact P.lt e he.1
  ·exact⟨v.2.1,u.2.1⟩
 ·rcases mem he with he|rfl;·exact P.is e he.1
  ·rfl
 ·rcases mem he with he|rfl;·exact P.ne e he.1
  ·obtain⟨p,j,d⟩:=P.ne h b.1;exact⟨p,j,(two j).mpr (.inl d)⟩
 ·refine pE.mpr ⟨P.ap.sublist d8,gh _ _,fun e he f hf p j z=>?_⟩;rw[aH.mp hf]at z;have he:=aV.mp he;have s:∀{x:Rw},atR k x=true->e≠x:=fun{x} a w=>by have :=he.2;unfold off at this;rw[w,a]at this;cases this
  rcases(two j).mp z.2 with d|d;·exact A3 P.ap he.1 b.1 (s b.2) p j ⟨z.1,d⟩
  ·exact A3 P.ap he.1 o.1 (s o.2) p j ⟨z.1,d⟩
 ·have A:∀{x:Nat},Vs kp (E.filter (off k)++[new nd n k h g]) x->x≠k/\Vs kp E x:=fun{x} i=>by
   rcases i with i|⟨e,he,i⟩;·exact⟨fun z=>t (z▸i),.inl i⟩
   ·rcases aU.mp he with he|he;·exact BB t (.inr ⟨e,he,i⟩)
    ·rw[aH.mp he]at i;rcases i with rfl|rfl;·exact⟨ug P b.1 b.2,v.1⟩
     ·exact⟨ug P o.1 o.2,u.1⟩
  have B:=A i;have C:=A G;have D:Q (oth k h)↔Q (oth k g):=c (new nd n k h g) (aU.mpr (.inr (aH.mpr rfl)));have :=P.all (fun z=>if z=k then Q (oth k h)else Q z) (P.carry (ug P b.1 b.2) (fun e he=>c e (aU.mpr (.inl he))) fun e he F=>by
   have :e∈E.filter (atR k):=aV.mpr ⟨he,F⟩;rw[r]at this;rcases aI.mp this with rfl|this;·exact Iff.rfl
   ·rw[aH.mp this];exact D.symm) x y B.2 C.2 (by rw[if_neg B.1];exact q)
  rw[if_neg C.1]at this;exact this
def oW{a b:Nat}{x:Int}:x∈df nd n a b↔∃p:Nat,p<n/\rd nd a p≠rd nd b p/\x=p:=by
 constructor;·intro h;obtain⟨i,hi,d,e⟩:=uC h;exact⟨i,hi,of_decide_eq_true d,e⟩
 ·rintro⟨p,c,d,rfl⟩;exact(M5.lQ c).mpr (decide_eq_true d)
def Jq{a b:Nat}:(df nd n a b).Nodup:=(K34.x9 n _).imp fun h z=>by lia
theorem Pr.srt(N:Nd n m nd)(P:Pr n m nd kp E){h g:Rw}(b:h∈E)(e:atR k h=true)(mg:g∈E)(c:atR k g=true)(ne:h≠g):(h.2.2++g.2.2).Nodup/\_root_.Q.sortI (h.2.2++g.2.2)=(new nd n k h g).2.2.map L2.V.int:=by
 have f:=P.is h b;have i:=P.is g mg;have j:(h.2.2++g.2.2).Nodup:=by
  rw[f,i];refine di.mpr ⟨Jq,Jq,fun x o y r z=>?_⟩;obtain⟨p,a,d,rfl⟩:=oW.mp o;obtain⟨q,hq,l,rfl⟩:=oW.mp r;obtain rfl:p=q:=by lia
  exact A3 P.ap b mg ne p a ⟨d,l⟩
 refine⟨j,K34.zL j Jq (fun x=>?_) (K34.x9 n _)⟩;show x∈df nd n (oth k h) (oth k g)↔_;rw[aU,f,i,oW,oW,oW];constructor
 ·rintro⟨p,a,d,rfl⟩;rcases(P.two N b e mg c ne a).mp d with d|d;·exact .inl ⟨p,a,d,rfl⟩
  ·exact .inr ⟨p,a,d,rfl⟩
 ·rintro(⟨p,a,d,rfl⟩ |⟨p,a,d,rfl⟩);·exact⟨p,a,(P.two N b e mg c ne a).mpr (.inl d),rfl⟩
  ·exact⟨p,a,(P.two N b e mg c ne a).mpr (.inr d),rfl⟩
end
abbrev ndv(vs:List (List Int))(k:Nat):List Int:=vs.getD k []
def ndv_app{vs:List (List Int)}(h:k<vs.length):ndv (vs++ws) k=ndv vs k:=by unfold ndv;rw[af,eB h,<-af]
def Ig{vs:List (List Int)}{w:List Int}:ndv (vs++[w]) vs.length=w:=by unfold ndv;rw[af,cT (aC _)];simp
def nv{vs:List (List Int)}(h:k<vs.length):ndv vs k∈vs:=by unfold ndv;rw[af,ae h];exact ck h
def Lnk(n:Nat)(vs:List (List Int))(i:Nat)(e:Rw):Prop:=e.2.1=i+1/\e.1<=i/\e.2.2=df (ndv vs) n e.1 e.2.1/\∃p,p<n/\dif (ndv vs) p e
structure Gl(n:Nat)(fs:List Int)(vs:List (List Int))(E:List Rw):Prop where
 gt:M10.Gt n fs vs
 len:E.length+1=vs.length
 rows:∀i e,E[i]? =some e->Lnk n vs i e
 ap:E.Pairwise (Ap n (ndv vs))
theorem Gl.sub{fs:List Int}{vs:List (List Int)}{E:List Rw}(t:Gl n fs vs E)(h:∀x∈gs,x∈fs):Gl n gs vs E:=⟨t.gt.sub h,t.len,t.rows,t.ap⟩
theorem Gl.start{fs:List Int}(h:M6.Ok n v):Gl n fs [v] []:=⟨.start h,rfl,fun i e z=>by simp at z,.nil⟩
def tX{vs:List (List Int)}(h:k<vs.length):rd (ndv (vs++ws)) k p=rd (ndv vs) k p:=by unfold rd;rw[ndv_app h]
def Gl.lt{fs:List Int}{vs:List (List Int)}{E:List Rw}(t:Gl n fs vs E){e:Rw}(a:e∈E):e.1<vs.length/\e.2.1<vs.length:=by obtain⟨i,hi,rfl⟩:=cX.mp a;have :=t.rows i _ (ae hi);have l:=t.len;exact⟨by have :=this.2.1;lia,by have :=this.1;lia⟩
theorem Gl.turn{fs:List Int}{vs:List (List Int)}{E:List Rw}(t:Gl n (ms++fs) vs E)(nd:(ms++fs).Nodup)(w:∀x∈ms,0<=x/\x<n)(C:ms≠[]){z:Nat}(r:vs[z]? =some v):
  Gl n fs (vs++[M10.oth v ms]) (E++[(z,vs.length,M5.plc n fun p=>decide ((p:Int)∈ms))]):=by
 have D:z<vs.length:=(aM.mp r).1;have u:v∈vs:=aG r;have s:=t.gt.ok v u;have B:ndv vs z=v:=by unfold ndv;rw[af,r];rfl
 have o:∀p,p<n->(rd (ndv (vs++[M10.oth v ms])) z p≠rd (ndv (vs++[M10.oth v ms])) vs.length p↔(p:Int)∈ms):=fun p k=>by
  rw[tX D];unfold rd;rw[B,Ig,M10.HV (by rw[s.1];exact k)];have :=s.at p;by_cases c:(p:Int)∈ms;·rw[if_pos c];exact⟨fun _=>c,fun _ h=>by lia⟩
  ·rw[if_neg c];exact⟨fun h=>absurd rfl h,fun h=>absurd h c⟩
 have old:∀e∈E,∀p,dif (ndv (vs++[M10.oth v ms])) p e↔dif (ndv vs) p e:=fun e g p=>by unfold dif;rw[tX (t.lt g).1,tX (t.lt g).2]
 refine⟨t.gt.turn nd u,by rw[bE,bE,<-t.len];rfl,fun i e h=>?_,?_⟩
 ·by_cases c:i<E.length;·rw[eB c]at h;have g:e∈E:=aG h;obtain⟨a,b,d,p,k,A⟩:=t.rows i e h;refine⟨a,b,?_,p,k,(old e g p).mpr A⟩;rw[d];unfold df;refine lz fun q _=>?_;rw[tX (t.lt g).1,tX (t.lt g).2]
  ·rw[cT (by lia)]at h;obtain⟨F,rfl⟩:i-E.length=0/\e=(z,vs.length,M5.plc n fun p=>decide ((p:Int)∈ms)):=by
    rcases hk:i-E.length with _|j;·rw[hk]at h;simp at h;exact⟨rfl,h.symm⟩
    ·rw[hk]at h;simp at h
   have l:=t.len;refine⟨by show vs.length=_;lia,by show z<=_;lia,?_,?_⟩;·unfold df;refine lz fun q hq=>?_;rw[decide_eq_decide];exact(o q hq).symm
   ·obtain⟨x,m⟩:=Bd _ C;have b:=w x m;obtain⟨p,rfl⟩:=cE b.1;exact⟨p,by have :=b.2;exact nZ.mp this,(o p (nZ.mp b.2)).mpr m⟩
 ·refine pE.mpr ⟨j8 ?_ t.ap,gh _ _,fun e g f hf p k y=>?_⟩;·intro e f g hf h p k y;exact h p k ⟨(old e g p).mp y.1,(old f hf p).mp y.2⟩
  ·rw[aH.mp hf]at y;have m:=(o p k).mp y.2;refine(old e g p).mp y.1 ?_;exact t.gt.one p (aU.mpr (.inl m)) _ (nv (t.lt g).1) _ (nv (t.lt g).2)
def Gl.nd{fs:List Int}{vs:List (List Int)}{E:List Rw}(t:Gl n fs vs E):Nd n vs.length (ndv vs) where
 ok k hk:=t.gt.ok _ (nv hk)
 mis i j ne hi hj:=by
  have d:∀{i j:Nat},M6.Mis vs i j->∃a b:Int,(a=0\/a=1)/\(b=0\/b=1)/\∀k,k<vs.length->¬(rd (ndv vs) k i=a/\rd (ndv vs) k j=b):=fun{i j} h=>by obtain⟨a,b,e,f,k⟩:=h;exact⟨a,b,e,f,fun x g=>k _ (nv g)⟩
  by_cases c:i<j;·exact d (t.gt.mis i j c hj)
  ·exact d (t.gt.mis j i (by lia) hi).flip
def Gl.pr{fs:List Int}{vs:List (List Int)}{E:List Rw}(t:Gl n fs vs E){b:Nat->Prop}(kl:∀k,b k->k<vs.length):Pr n vs.length (ndv vs) b E where
 kl:=kl
 lt e a:=t.lt a
 is e a:=by obtain⟨i,hi,rfl⟩:=cX.mp a;exact(t.rows i _ (ae hi)).2.2.1
 ne e a:=by obtain⟨i,hi,rfl⟩:=cX.mp a;exact(t.rows i _ (ae hi)).2.2.2
 ap:=t.ap
 all Q c x y hx hy q:=by
  have zero:∀k,k<vs.length->(Q k↔Q 0):=by
   intro k
   induction k using oN with
   |_ k ih=>
    intro f;cases k with
    |zero=>exact Iff.rfl
    |succ k=>
     have l:=t.len;have hi:k<E.length:=by lia
     have r:=t.rows k _ (ae hi);have :=c _ (ck hi);rw[r.1]at this;rw[<-this];exact ih _ (by have :=r.2.1;lia) (by have :=r.2.1;lia)
  have d:∀{x:Nat},Vs b E x->x<vs.length:=fun{x} h=>by
   rcases h with h|⟨e,a,rfl|rfl⟩;·exact kl x h
   ·exact(t.lt a).1
   ·exact(t.lt a).2
  exact(zero y (d hy)).mpr ((zero x (d hx)).mp q)
end K31
namespace K31
open PySem PySem.Spec PyProof.Rows L2 R Cp Lt Kc K21 K22 Lm M5 K32 K34
def IU(h:_root_.Q.IntKeys H ys ws){z:Nat}(e:ys[z]? =some y):∃r zs,y=.ref r/\H r=some (.tup (zs.map V.int))/\ws[z]? =some zs:=by
 unfold _root_.Q.IntKeys at h
 induction h generalizing z with
 |nil=>simp at e
 |cons y0 t ih=>
  cases z with
  |zero=>obtain⟨a,rfl,k⟩:=y0;simp at e;exact⟨a,_,e.symm,k,rfl⟩
  |succ z=>simp at e;obtain⟨r,zs,b,c,d⟩:=ih e;exact⟨r,zs,b,c,by simpa using d⟩
def RwX(aw:List Addr)(H:Hp)(v:V)(e:Rw):Prop:=∃t so,v=.ref t/\H t=some (.tup [.int e.1,.int e.2.1,.ref so])/\H so=some (.lst (e.2.2.map V.int))/\so∉aw
noncomputable abbrev Rws(aw:List Addr)(H:Hp)(ls:List V)(E:List Rw):Prop:=Paired (RwX aw H) ls E
def Rws.same{E:List Rw}(h:Rws aw H ls E)(s:aR H H'):Rws aw H' ls E:=Paired.uD h fun v e ⟨t,f,a,b,c,d⟩=>⟨t,f,a,s _ _ b,s _ _ c,d⟩
theorem Rws.upd{E:List Rw}(h:Rws aw H ls E)(f:b∈aw)(e:H b=some (.lst xs)):Rws aw (upd H b (.lst ys)) ls E:=Paired.uD h fun v r ⟨t,g,a,x,c,d⟩=>
 ⟨t,g,a,by rw[bD (fun z=>by rw[z,e]at x;cases x)];exact x,by rw[bD (fun z=>d (by rw[z];exact f))];exact c,d⟩
def Rws.more{E:List Rw}(h:Rws aw H ls E)(f:H b=none):Rws (b::aw) H ls E:=Paired.uD h fun v r ⟨t,g,a,x,c,d⟩=>by
 refine⟨t,g,a,x,c,fun z=>?_⟩;rcases aI.mp z with e|z;·rw[<-e,c]at f;cases f
 ·exact d z
def Rws.less{b:List Addr}{E:List Rw}(h:Rws aw H ls E)(s:∀x∈b,x∈aw):Rws b H ls E:=Paired.uD h fun v r ⟨t,e,a,x,c,d⟩=>⟨t,e,a,x,c,fun z=>d (s _ z)⟩
def GY(K:ao):Sp:=fun vs H Q _=>∃(a:Addr)(ns:List Int)(n:Nat),vs=[.ref a,.int n]/\SqL K H a (ns.map V.int)/\ns.length<=14/\n<=10/\
 ∀(H':Hp)(p nd lk:Addr)(ys ls:List V),aR H H'->H' p=some (.tup [.ref nd,.ref lk])->H nd=none->H' nd=some (.lst ys)->H' lk=some (.lst ls)->ys≠[]->ys.length<=ns.length+1->∀vs E,_root_.Q.IntKeys H' ys vs->Rws [] H' ls E->Gl n [] vs E->Q (.ref p) H'
section
variable {G:Gam}
def Gw(H:Hp)(a nd lk fr:Addr)(n:Nat)(sd:Int)(k:Nat)(σ:L2.St)(H':Hp):Prop:=aR H H'/\∃(ys ls:List V)(fs:List Int),H' nd=some (.lst ys)/\H' lk=some (.lst ls)/\H' fr=some (.lst (fs.map V.int))/\ys≠[]/\ys.length<=k+1/\ls.length<=k/\fs.Nodup/\fs.length<=n/\(∀x∈fs,0<=x/\x<(n:Int))/\(∃vs E,_root_.Q.IntKeys H' ys vs/\Rws [nd,lk,fr] H' ls E/\Gl n fs vs E)/\∃u v w x y,σ=[some (.ref a),some (.int n),some (.int sd),some (.ref nd),some (.ref lk),some (.ref fr),u,v,w,x,y]
section
variable {E:XS}{D2:Ends}{a nd lk fr sm:Addr}{sd d0:Int}{El:List Rw}
def Gi(H:Hp)(a nd lk fr sm:Addr)(n k:Nat)(sd d0:Int)(ys ls:List V)(ws:List (List Int))(El:List Rw)(j:Nat)(σ:L2.St)(H':Hp):Prop:=aR H H'/\H' nd=some (.lst ys)/\H' lk=some (.lst ls)/\_root_.Q.IntKeys H' ys ws/\Rws [sm,nd,lk,fr] H' ls El/\∃(fs ms:List Int),(∀x∈ms++fs,0<=x/\x<(n:Int))/\Gl n (ms++fs) ws El/\H' fr=some (.lst (fs.map V.int))/\H' sm=some (.lst (ms.map V.int))/\(ms++fs).Nodup/\ms.length<=j/\fs.length<=n/\∃x y,σ=[some (.ref a),some (.int n),some (.int sd),some (.ref nd),some (.ref lk),some (.ref fr),some (.int k),some (.int d0),some (.ref sm),x,y]
theorem Gi.same(g:Gi H a nd lk fr sm n k sd d0 ys ls ws El j σ H1)(s:aR H1 H2):Gi H a nd lk fr sm n k sd d0 ys ls ws El j σ H2:=by obtain⟨d,e,t3,f,o,fs,b,m,c,h,i,l⟩:=g;exact⟨d.trans s,s _ _ e,s _ _ t3,cu (Tk.of s) f,o.same s,fs,b,m,c,s _ _ h,s _ _ i,l⟩
def tG(v:G.fn "_law_otherwise" 2=some (mB K,[]))(F:K34.Fs H nd lk fr)(S:n<=10)(P:ys≠[])(R:k<14)(Q:ys.length<=k+1)(y:ls.length<=k+1)(w:∀s H2,Gw H a nd lk fr n sd (k+1) s H2->D2.nx s H2){b:Hp}{z:Nat}(B:z<ys.length){x:Option V}{fs:List Int}
  (I:aR H b)(h:b nd=some (.lst ys))(t3:b lk=some (.lst ls))(m:_root_.Q.IntKeys b ys ws)(N:Rws [nd,lk,fr] b ls (El++[(z,ws.length,M5.plc n fun p=>decide ((p:Int)∈ms))]))(q:∀x∈ms++fs,0<=x/\x<(n:Int))(l:Gl n (ms++fs) ws El)(J:b fr=some (.lst (fs.map V.int)))(L:b sm=some (.lst (ms.map V.int)))(o:(ms++fs).Nodup)(M:fs.length<=n)(A:ms≠[]):
  wpB G K E iO D2 [some (.ref a),some (.int n),some (.int sd),some (.ref nd),some (.ref lk),some (.ref fr),some (.int k),some (.int d0),some (.ref sm),x,some (.int z)] b:=by
 unfold iO;ext;have u:fs.Nodup:=(di.mp o).2.1;have f:ys[z]? =some ys[z]:=ae B;obtain⟨r,i,t,C,j⟩:=IU m f;have D:=l.gt.ok i (aG j);rw[t]at f;refine⟨.inl ⟨rfl,_,SqL.of h⟩,_,_,v,.inl ⟨nd,ys,z,_,rfl,rfl,SqL.of h,bS f,?_⟩⟩;refine⟨r,sm,i,ms,rfl,SqT.of C,SqL.of L,by rw[D.1];lia,fun O p c T e=>?_⟩;have d:=c _ _ h;refine⟨nd,ys,_,rfl,rfl,d,dB (by lia:ys.length<=40) (by decide),?_⟩;refine w _ _ ⟨gZ (I.trans c) F.fnd,ys++[.ref p],ls,fs,aK,?_,?_,by simp,by simp;lia,y,u,M,fun x g=>q x (aU.mpr (.inr g)),⟨ws++[M10.oth i ms],_,Paired.snoc ⟨p,rfl,?_⟩ (cu (oR d) (cu (Tk.of c) m)),(N.same c).upd (au) d,l.turn o (fun x g=>q x (aU.mpr (.inl g))) A j⟩,_,_,_,_,_,rfl⟩;·rw[bD (bO F.n1)];exact c _ _ t3
 ·rw[bD (bO F.n2)];exact c _ _ J
 ·rw[bD (fun z=>by rw[z,d]at e;cases e)];exact e
theorem xv(g1:G.fn "_law_draw" 2=some (kH,[]))(g2:G.fn "_law_otherwise" 2=some (mB K,[]))(F:K34.Fs H nd lk fr)(m2:lk≠sm)(ha:SqL K H a (ns.map V.int))(a1:k<ns.length)(hk:k<14)(hn:n<=10)(s:ys≠[])(W:ys.length<=k+1)(b6:ls.length<=k)(M:∀U H2,Gw H a nd lk fr n sd (k+1) U H2->D2.nx U H2)(a7:j<=2){q:Hp}{x y:Option V}
  (g:Gi H a nd lk fr sm n k sd d0 ys ls ws El j [some (.ref a),some (.int n),some (.int sd),some (.ref nd),some (.ref lk),some (.ref fr),some (.int k),some (.int d0),some (.ref sm),x,y] q):
  wpB G K E jt D2 [some (.ref a),some (.int n),some (.int sd),some (.ref nd),some (.ref lk),some (.ref fr),some (.int k),some (.int d0),some (.ref sm),x,y] q:=by
 unfold jt;ext;refine⟨short (by simp),fun v a3=>?_⟩;have J:upd q v (.lst []) v=some (.lst []):=aK;have g:=g.same (aP (o:=.lst []) a3);generalize upd q v (.lst [])=H13 at g J⊢;obtain⟨w,m,t3,A,T,fs,ms,I,R,B,C,D,t8,S,_⟩:=id g;have a0:fs.Nodup:=(di.mp D).2.1;have N:ms.Nodup:=(di.mp D).1;obtain⟨d,X,r1,r2,r3,r4⟩:=kB (K:=K) (SqL.of C) J;refine⟨d,X,r1,r2,r3,_,rfl,?_⟩;rw[r4];by_cases hf:ms=[];·rw[decide_eq_true hf];exact M _ _ ⟨w,ys,ls,fs,m,t3,B,s,by lia,by lia,a0,S,fun x f=>I x (aU.mpr (.inr f)),⟨ws,El,A,T.less (fun x f=>av _ f),R.sub fun x f=>aU.mpr (.inr f)⟩,_,_,_,_,_,rfl⟩
 ·rw[decide_eq_false hf];show if true=true then _ else _
  rw[if_pos rfl];refine⟨_,_,g1,.inl ⟨a,_,k,_,rfl,rfl,w.seq ha,bS (K34.p6 a1),?_⟩⟩;ext;refine⟨qk (by decide) (by decide),_,_,rfl,by lia,by lia,?_⟩;have a8:0<ys.length:=gd.mpr s;generalize draw (ns.getD k 0) (41+4*(k:Int))=d1;refine Or.inl ⟨nd,ys,rfl,.inl (SqL.of m),?_⟩;ext;refine⟨by lia,?_⟩;have i0:0<=d1%(ys.length:Int):=bY _ (by lia);have i1:d1%(ys.length:Int)<ys.length:=cC _ (by lia);obtain⟨z,hz⟩:=cE i0;rw[hz];have a4:z<ys.length:=by lia
  unfold kD;ext;refine⟨.inl ⟨rfl,_,SqL.of t3⟩,Or.inl ⟨nd,ys,rfl,.inl (SqL.of m),?_⟩⟩;have a2:ms.length<64:=by lia
  refine⟨sm,ms,rfl,SqL.of C,a2,N,fun c e=>⟨short (by simp),fun l u=>?_⟩⟩;have es:_root_.Q.sortI ms=(M5.plc n fun p=>decide ((p:Int)∈ms)).map V.int:=K34.zL N ((K34.x9 n _).imp fun h z=>by lia) (fun x=>by
   constructor;·intro h;obtain⟨p,hp,d,rfl⟩:=M8.uC h;exact of_decide_eq_true d
   ·intro h;have b:=I x (aU.mpr (.inl h));obtain⟨p,rfl⟩:=cE b.1;exact(M5.lQ (nZ.mp b.2)).mpr (decide_eq_true h)) (K34.x9 n _)
  rw[es]at u⊢;have P:aR H13 (upd H13 c (.lst ((M5.plc n fun p=>decide ((p:Int)∈ms)).map V.int))):=aP e;have L:upd H13 c (.lst ((M5.plc n fun p=>decide ((p:Int)∈ms)).map V.int)) c=some (.lst ((M5.plc n fun p=>decide ((p:Int)∈ms)).map V.int)):=aK;generalize upd H13 c (.lst ((M5.plc n fun p=>decide ((p:Int)∈ms)).map V.int))=H14 at P L u⊢;generalize hX:upd H14 l _=H15;obtain⟨Q,t⟩:=eE hX u;clear hX;have i:=P.trans Q;have r:=i _ _ t3;have O:c∉[nd,lk,fr]:=fun z=>by
   simp only[aI,dF,or_false]at z;rcases z with rfl|rfl|rfl;·rw[m]at e;cases e
   ·rw[t3]at e;cases e
   ·rw[B]at e;cases e
  have a6:l≠lk:=fun z=>by rw[z,r]at t;cases t
  have a5:c≠lk:=fun z=>O (by rw[z];simp);refine⟨lk,ls,_,rfl,rfl,r,dB (by lia:ls.length<=40) (by decide),?_⟩;have wl:ws.length=ys.length:=(iE A).symm;have Z:upd H15 lk (.lst (ls++[.ref l])) l=some (.tup [.int z,.int ws.length,.ref c]):=by rw[bD a6,t,wl]
  have Y:upd H15 lk (.lst (ls++[.ref l])) c=some (.lst ((M5.plc n fun p=>decide ((p:Int)∈ms)).map V.int)):=by rw[bD a5];exact Q _ _ L
  refine tG (El:=El) (ls:=ls++[.ref l]) (fs:=fs) (ms:=ms) g2 F hn s hk W (by simp;lia) M a4 (gZ (w.trans i) F.flk) ?_ aK (cu (oR r) (cu (Tk.of i) A)) (Paired.snoc ⟨l,c,rfl,Z,Y,O⟩ (((T.same i).less (fun x f=>av _ f)).upd (by simp) r)) I R ?_ ?_ D S hf;·rw[bD F.n1];exact i _ _ m
  ·rw[bD (bO F.n3)];exact i _ _ B
  ·rw[bD (bO m2)];exact i _ _ C
def xw(X:G.fn "_law_draw" 2=some (kH,[]))(Y:G.fn "_law_otherwise" 2=some (mB K,[]))(F:K34.Fs H nd lk fr)(W:H sm=none)(m1:nd≠sm)(C:lk≠sm)(D:fr≠sm)(ha:SqL K H a (ns.map V.int))(a3:k<ns.length)(hk:k<14)(hn:n<=10)(a7:0<=d0)(P:ys≠[])(Q:ys.length<=k+1)(R:ls.length<=k)(Z:∀N H2,Gw H a nd lk fr n sd (k+1) N H2->D2.nx N H2){u:Hp}{x y:Option V}
  (g:Gi H a nd lk fr sm n k sd d0 ys ls ws El 0 [some (.ref a),some (.int n),some (.int sd),some (.ref nd),some (.ref lk),some (.ref fr),some (.int k),some (.int d0),some (.ref sm),x,y] u):
  wpB G K E ju D2 [some (.ref a),some (.int n),some (.int sd),some (.ref nd),some (.ref lk),some (.ref fr),some (.int k),some (.int d0),some (.ref sm),x,y] u:=by
 unfold ju;ext;refine gS ?_;ext;have b0:0<=d0%7:=bY _ (by decide);have b1:d0%7<7:=cC _ (by decide);refine⟨by decide,⟨by decide,by decide⟩,_,rfl,by lia,by lia,?_⟩;refine fV dX (Gi H a nd lk fr sm n k sd d0 ys ls ws El) g (fun _ _ _ _ _=>trivial) ?_ ?_
 ·rintro j x σ O v D3 hj g rfl a6 A _;have a9:j<2:=by lia
  have g:=g.same a6;obtain⟨_,_,_,_,_,_,_,_,_,_,_,_,_,_,x,y,rfl⟩:=id g;ext;simp only[eP];refine⟨short (by simp),fun r a4=>?_⟩;have w:upd v r (.lst []) r=some (.lst []):=aK;have g:=g.same (aP (o:=.lst []) a4);generalize upd v r (.lst [])=H13 at g w⊢;obtain⟨i,l,t3,m,p,fs,c,M,J,b,h,L,t8,t9,_⟩:=g;obtain⟨d,S,r1,r2,r3,r4⟩:=kB (K:=K) (SqL.of b) w;refine⟨d,S,r1,r2,r3,_,rfl,?_⟩;rw[r4];by_cases hf:fs=[];·rw[decide_eq_true hf];exact A _ _ ⟨i,l,t3,m,p,fs,c,M,J,b,h,L,by lia,t9,_,_,rfl⟩
  ·rw[decide_eq_false hf];show if true=true then _ else _
   rw[if_pos rfl];have a8:0<fs.length:=gd.mpr hf;refine⟨.inl ⟨rfl,_,SqL.of h⟩,.inl ⟨rfl,_,SqL.of b⟩,short (by simp),fun I a5=>?_⟩;generalize hX:upd H13 I _=H14;obtain⟨e,T⟩:=eE hX a5;clear hX;have l:=e _ _ l;have t3:=e _ _ t3;have m:=cu (Tk.of e) m;have p:=p.same e;have b:=e _ _ b;have h:=e _ _ h;have i:=i.trans e;obtain⟨f,a0,a1⟩:∃f:Int,[V.int 7,V.int 112][j]? =some (.int f)/\JS d0 f:=by
    have :j=0\/j=1:=by lia
    rcases this with rfl|rfl;·exact⟨7,rfl,by decide,by decide⟩
    ·exact⟨112,rfl,by decide,by decide⟩
   refine .inl ⟨I,_,j,_,rfl,rfl,SqL.of T,bS a0,?_⟩;ext;refine⟨a1,Or.inl ⟨fr,_,rfl,.inl (SqL.of b),?_⟩⟩;rw[ak];ext;have i0:0<=d0/f%(fs.length:Int):=bY _ (by lia);have i1:d0/f%(fs.length:Int)<fs.length:=cC _ (by lia);obtain⟨z,hz⟩:=cE i0;rw[hz];have B:z<fs.length:=by lia
   have a2:(fs.map V.int)[z]? =some (.int fs[z]):=by rw[ax,ae B];rfl
   refine⟨by lia,.inr ⟨fr,_,z,z,_,rfl,rfl,b,by lia,by lia,?_,a2,?_⟩⟩;·rw[ak,Bj (by lia) (by lia)];simp
   have U:(fs.map V.int).eraseIdx z=(fs.eraseIdx z).map V.int:=by rw[vk,vk,dc,List.map_take,List.map_drop]
   rw[U];have t:upd H14 fr (.lst ((fs.eraseIdx z).map V.int)) sm=some (.lst (c.map V.int)):=by rw[bD (bO D)];exact h
   refine⟨sm,c.map V.int,_,rfl,rfl,t,dB (by rw[ak];lia:(c.map V.int).length<=40) (by decide),?_⟩;have s:((c++[fs[z]])++fs.eraseIdx z).Perm (c++fs):=by rw[jf];exact(i6 fs z B).append_left c
   refine A _ _ ⟨gZ (gZ i F.ffr) W,?_,?_,cu (oR t) (cu (oR b) m),(p.upd (by simp) b).upd (by simp) t,fs.eraseIdx z,c++[fs[z]],fun x q=>M x (s.mem_iff.mp q),J.sub (fun x q=>s.mem_iff.mp q),?_,?_,s.nodup_iff.mpr L,by simp;lia,by rw[List.length_eraseIdx];split <;>lia,_,_,rfl⟩;·rw[bD m1,bD F.n2];exact l
   ·rw[bD C,bD F.n3];exact t3
   ·rw[bD D];exact aK
   ·rw[aK,dc];rfl
 ·intro σ O g;obtain⟨_,_,_,_,_,_,_,_,_,_,_,_,_,_,x,y,rfl⟩:=id g;exact xv X Y F C ha a3 hk hn P Q R Z (by lia) g
end
def BA(R:G.fn "_law_draw" 2=some (kH,[]))(Y:G.fn "_law_otherwise" 2=some (mB K,[])){E:XS}{Q:VK}{B:Hp}{D:Ends}{nd c fr:Addr}{h:Int}(F:K34.Fs H nd c fr)(U:aR H0 H)(u:SqL K H a (ns.map V.int))(a3:ns.length<=14)(hn:n<=10)(hr:D.rt=Q)
  (q:∀(H':Hp)(p nd c:Addr)(ys ls:List V),aR H0 H'->H' p=some (.tup [.ref nd,.ref c])->H0 nd=none->H' nd=some (.lst ys)->H' c=some (.lst ls)->ys≠[]->ys.length<=ns.length+1->∀vs E,_root_.Q.IntKeys H' ys vs->Rws [] H' ls E->Gl n [] vs E->Q (.ref p) H')
  (g:Gw H a nd c fr n h 0 [some (.ref a),some (.int n),some (.int h),some (.ref nd),some (.ref c),some (.ref fr),none,none,none,none,none] B):
  wpB G K E kQ D [some (.ref a),some (.int n),some (.int h),some (.ref nd),some (.ref c),some (.ref fr),none,none,none,none,none] B:=by
 unfold kQ;ext;refine gS ?_;ext;refine Or.inl ⟨a,_,rfl,.inl (g.1.seq u),_,rfl,by rw[ak];lia,by rw[ak];lia,?_⟩;refine fV dX (Gw H a nd c fr n h) g (fun _ _ _ _ _=>trivial) ?_ ?_
 ·rintro k x σ X i D2 hk ⟨y,ys,ls,fs,l,m,C,o,r,I,J,L,M,⟨W,A,s,t,j⟩,a0,a1,a2,x',y',rfl⟩ rfl d Z _;have T:k<ns.length:=by simpa using hk
  have w:aR H i:=y.trans d;ext;simp only[eP];refine⟨_,_,R,.inl ⟨a,_,k,_,rfl,rfl,w.seq u,bS (K34.p6 T),?_⟩⟩;ext;refine⟨qk (by decide) (by decide),_,_,rfl,by lia,by lia,?_⟩;have S:=DY (ns.getD k 0) (40+4*(k:Int));generalize draw (ns.getD k 0) (40+4*(k:Int))=d0 at S⊢;unfold mn;ext;refine⟨short (by simp),fun sm b=>?_⟩;have N:=d _ _ l;have O:=d _ _ m;have P:=d _ _ C;have e:aR i (upd i sm (.lst [])):=aP b;exact xw R Y F (w.free b) (fun z=>by rw[<-z,N]at b;cases b) (fun z=>by rw[<-z,O]at b;cases b) (fun z=>by rw[<-z,P]at b;cases b) u T (by lia) hn S o r I Z
   ⟨w.trans e,e _ _ N,e _ _ O,cu (Tk.of (d.trans e)) s,((t.same d).more b).same e,fs,[],M,j,e _ _ P,aK,by simpa using J,by simp,L,_,_,rfl⟩
 ·rintro σ X ⟨y,ys,ls,fs,l,m,C,o,r,I,J,L,M,⟨W,A,s,t,j⟩,a0,a1,a2,x',y',rfl⟩;unfold oG;ext;refine⟨short (by simp),fun p f=>?_⟩;rw[hr];exact q _ p nd c ys ls (U.trans (y.trans (aP f))) aK (U.free F.fnd) (aP f _ _ l) (aP f _ _ m) o (by simp at r;lia) W A (cu (Tk.of (aP f)) s) ((t.less (fun x v=>by cases v)).same (aP f)) (j.sub fun x v=>by cases v)
def tH(F:G.fn "_law_draw" 2=some (kH,[]))(I:G.fn "_law_otherwise" 2=some (mB K,[])){E:XS}{Q:VK}{D:Ends}{y:Int}(s0:aR H0 H)(L:SqL K H a (ns.map V.int))(P:ns.length<=14)(O:n<=10)(R:D.rt=Q)
  (q:∀(H':Hp)(p nd lk:Addr)(ys ls:List V),aR H0 H'->H' p=some (.tup [.ref nd,.ref lk])->H0 nd=none->H' nd=some (.lst ys)->H' lk=some (.lst ls)->ys≠[]->ys.length<=ns.length+1->∀vs E,_root_.Q.IntKeys H' ys vs->Rws [] H' ls E->Gl n [] vs E->Q (.ref p) H'):
  wpB G K E kR D [some (.ref a),some (.int n),some (.int y),none,none,none,none,none,none,none,none] H:=by
 unfold kR;ext;refine eJ ?_;ext;refine⟨(n:Int),rfl,by lia,by lia,?_⟩;refine fg dX (short (by lia)) (fun _ _=>trivial) (fun i a0 _=>cM a0=true) (fun _ _ _ _ _ h=>h) (fun A=>∃t,A=[t,some (.int y)]) ⟨none,rfl⟩ ?_ ?_;·rintro a2 a4 A j a1 hj ⟨t',rfl⟩ d rfl k;ext;rw[shl_ii];ext;simp only[eP,Int.one_mul,ba];exact⟨⟨by lia,by lia,by decide⟩,pow2 (by lia),by decide,k _ _ _ ⟨_,rfl⟩ (aR.refl _) (mod2 _)⟩
 intro vs j l T J s3 N;have x:∀z∈vs,cM z=true:=fun z X=>by obtain⟨k,M⟩:=bG.mp X;exact J k z M
 have U:vs.length=n:=by rw[T];lia
 refine⟨l,vs,rfl,.inl ⟨SqL.of aK,fun b S=>⟨short (by simp),fun nd u=>?_⟩⟩⟩;have f:aR H (upd (upd j l (.lst vs)) b (.tup vs)):=s3.trans ((aP N).trans (aP S));have w:upd (upd j l (.lst vs)) b (.tup vs) b=some (.tup vs):=aK;generalize upd (upd j l (.lst vs)) b (.tup vs)=H4 at f w u⊢;have d:aR H4 (upd H4 nd (.lst [.ref b])):=aP u;have s:upd H4 nd (.lst [.ref b]) nd=some (.lst [.ref b]):=aK;have fnd:H nd=none:=f.free u;generalize upd H4 nd (.lst [.ref b])=H5 at d s⊢;unfold oI;ext;refine⟨short (by simp),fun lk m=>?_⟩;have g:aR H5 (upd H5 lk (.lst [])):=aP m;have r:upd H5 lk (.lst []) lk=some (.lst []):=aK;have Y:nd≠lk:=fun z=>by rw[<-z,s]at m;cases m
 have C:H lk=none:=(f.trans d).free m;generalize upd H5 lk (.lst [])=H6 at g r⊢;unfold oH;ext;refine⟨_,rfl,n,rfl,by lia,fun fr c=>?_⟩;have o:aR H6 (upd H6 fr (.lst (nats n))):=aP c;have v:=g _ _ s;have B:nats n=((ay n).map fun i:Nat=>(i:Int)).map V.int:=by unfold nats;rw[bq];rfl
 have Z:((ay n).map fun i:Nat=>(i:Int)).Nodup:=by rw[List.nodup_iff_pairwise_ne,cj];exact(jw (n:=n)).imp fun h e=>h (Int.ofNat.inj e)
 refine BA F I ⟨fnd,C,(f.trans (d.trans g)).free c,Y,(fun z=>by rw[<-z,v]at c;cases c),(fun z=>by rw[<-z,r]at c;cases c)⟩ s0 L P O R q
  ⟨f.trans (d.trans (g.trans o)),[.ref b],[],_,o _ _ v,o _ _ r,by rw[aK,B],by simp,by simp,by simp,Z,by simp,(fun a3 W=>by obtain⟨i,hi,rfl⟩:=aF.mp W;have :=aJ.mp hi;lia),⟨[vs.map K32.intOf],[],.cons ⟨b,rfl,?_⟩ .nil,.nil,.start ⟨by rw[ak];exact U,(K32.lE x).2⟩⟩,_,_,_,_,_,rfl⟩
 rw[(K32.lE x).1];exact o _ _ (g _ _ (d _ _ w))
def Gg(f:G.fn "_law_draw" 2=some (kH,[]))(g:G.fn "_law_otherwise" 2=some (mB K,[])):
  Sat G K (GY K) r9 rS:=by
 rintro w H Q E ⟨a,e,n,rfl,c,k,h,q⟩;unfold r9 oJ;change wpB G K _ _ _ [some (.ref a),some (.int n),none,none,none,none,none,none,none,none,none] H;ext;refine⟨short (by simp),fun r p=>?_⟩;generalize hX:upd H r _=H1;obtain⟨b,m⟩:=eE hX p;clear hX;obtain⟨d,l,s,t,u,v⟩:=kB (K:=K) (b.seq c) m;refine⟨d,l,s,t,u,_,rfl,?_⟩;rw[v];by_cases hf:e=[];·rw[decide_eq_true hf];exact tH f g b (b.seq c) k h rfl q
 ·rw[decide_eq_false hf];show if true=true then _ else _
  rw[if_pos rfl];have i:0<e.length:=gd.mpr hf;have o:(e.map V.int)[0]? =some (.int (e.getD 0 0)):=by rw[ax,ae i,af,ae i];rfl
  refine⟨_,_,f,.inl ⟨a,_,0,_,rfl,rfl,b.seq c,bS (j:=0) o,_,20,rfl,by decide,by decide,?_⟩⟩;exact tH f g b (b.seq c) k h rfl q
end
end K31
namespace K31
open PySem R
abbrev yc:List Str:=["_law_nodes","_law_links","_law_kept"]
abbrev pW:List Str:=["_law_nodes","_law_links","_law_kept","_law_rows","_law_turn","_law_k","_law_here","_law_away","_law_ends","_law_found","_law_branches","_law_one","_law_other","_law_some","_law_low","_law_high"]
abbrev iN:CB:=
  (.cons (.ret (.tup (.cons (.ssetl (.var 9)) (.cons (.bfn .sortt (.cons (.var 10) .nil)) .nil))))
  .nil)
abbrev lG:CB:=
  (.cons (.expr (.meth1 .append (.var 10) (.tup (.cons (.var 14) (.cons (.var 15) (.cons (.bfn .tuple (.cons (.var 13) .nil)) .nil))))))
  .nil)
abbrev lH:CB:=
  (.cons (.asg (.ltup (.cons (.name 14) (.cons (.name 15) .nil))) (.bfn .sortl (.cons (.lst (.cons (.idx (.var 0) (.var 11)) (.cons (.idx (.var 0) (.var 12)) .nil))) .nil)))
  lG)
abbrev jV:CB:=
  (.cons (.forr (.tup (.cons (.name 11) (.cons (.name 12) (.cons (.name 13) .nil)))) (.seq (.var 3))
  (.cons (.asg (.name 9) (.bin .Add (.var 9) (.lst (.cons (.idx (.var 0) (.var 11)) (.cons (.idx (.var 0) (.var 12)) .nil)))))
  lH))
  iN)
abbrev mT:CB:=
  (.cons (.asg (.name 10) (.lst .nil))
  jV)
abbrev jW:CB:=
  (.cons (.asgc 9 (.comp ["_law_k"] [0,2] (.name 0) (.range1 (.bfn .len (.cons (.var 0) .nil))) (.yes (.cmp .In (.var 0) (.var 2))) (.idx (.var 1) (.var 0))))
  mT)
abbrev fX:CB:=
  (.cons (.asg (.name 3) (.bin .Add (.var 7) (.lst (.cons (.tup (.cons (.idx (.var 8) (.con (.int 0))) (.cons (.idx (.var 8) (.con (.int 1))) (.cons (.bfn .sorti (.cons (.bin .Add (.idx (.idx (.var 6) (.con (.int 0))) (.con (.int 2))) (.idx (.idx (.var 6) (.con (.int 1))) (.con (.int 2)))) .nil)) .nil)))) .nil))))
  .nil)
abbrev iz:CB:=
  (.cons (.iff (.and (.cmp .NotIn (.var 5) (.var 2)) (.cmp .Eq (.bfn .len (.cons (.var 6) .nil)) (.con (.int 1))))
  (.cons (.asg (.name 3) (.var 7))
  .nil)
  (.cons (.iff (.and (.cmp .NotIn (.var 5) (.var 2)) (.cmp .Eq (.bfn .len (.cons (.var 6) .nil)) (.con (.int 2))))
  (.cons (.asgc 8 (.comp ["_law_row"] [5] (.name 0) (.seq (.var 6)) .no (.bin .Sub (.bin .Add (.idx (.var 0) (.con (.int 0))) (.idx (.var 0) (.con (.int 1)))) (.var 1))))
  fX)
  .nil)
  .nil))
  .nil)
abbrev jX:CB:=
  (.cons (.asgc 7 (.comp ["_law_row"] [5] (.name 0) (.seq (.var 3)) (.yes (.cmp .NotIn (.var 1) (.cut (.var 0) .no (.yes (.con (.int 2)))))) (.var 0)))
  iz)
abbrev jY:CB:=
  (.cons (.forr (.name 4) (.range1 (.bin .Mult (.con (.int 2)) (.bfn .len (.cons (.var 0) .nil))))
  (.cons (.forr (.name 5) (.range1 (.bfn .len (.cons (.var 0) .nil)))
  (.cons (.asgc 6 (.comp ["_law_row"] [5] (.name 0) (.seq (.var 3)) (.yes (.cmp .In (.var 1) (.cut (.var 0) .no (.yes (.con (.int 2)))))) (.var 0)))
  jX))
  .nil))
  jW)
abbrev qo:CB:=
  (.cons (.asgc 3 (.comp ["_law_one","_law_other","_law_some"] [] (.tup (.cons (.name 0) (.cons (.name 1) (.cons (.name 2) .nil)))) (.seq (.var 1)) .no (.tup (.cons (.var 0) (.cons (.var 1) (.cons (.bfn .list (.cons (.var 2) .nil)) .nil))))))
  jY)
end K31
namespace K31
open PySem PySem.Spec PyProof.Rows L2 R Cp Lt Kc K21 K22 Lm M5 K32 K34
noncomputable abbrev RwH(H:Hp):List V->List Rw->Prop:=Rws [] H
def zN{E:List Rw}(h:RwH H ys E)(e:ys[i]? =some y):∃r,E[i]? =some r/\RwX [] H y r:=by
 induction h generalizing i with
 |nil=>simp at e
 |cons y0 t ih=>
  cases i with
  |zero=>simp at e;subst e;exact⟨_,rfl,y0⟩
  |succ i=>simp at e;simpa using ih e
def oU{E:List Rw}(h:RwH H ys E):ys.length=E.length:=iE h
def rw_filt{E:List Rw}(t:Rw->Bool)(h:RwH H ys E):RwH H (((ys.zip E).filter fun p=>t p.2).map fun p=>p.1) (E.filter t):=by
 induction h with
 |nil=>exact .nil
 | @cons y e ys E y0 _ ih=>
  rw[k9];cases c:t e with
  |true=>rw[eV c,eV (by exact c),bh];exact .cons y0 ih
  |false=>rw[eW (by rw[c];decide),eW (by show ¬t e=true;rw[c];decide)];exact ih
def in2(k:Nat)(e:Rw):inV (V.int (k:Int)) [.int (e.1:Int),.int (e.2.1:Int)]=atR k e:=by
 have :=lU (k:Int) [(e.1:Int),(e.2.1:Int)];simp only[bh,kG]at this;rw[this];unfold atR;rw[decide_eq_decide];simp;constructor
 ·rintro(h|h);·exact .inl (by lia)
  ·exact .inr (by lia)
 ·rintro(h|h);·exact .inl (by lia)
  ·exact .inr (by lia)
def Dk{d i:Addr}{r:Rw}{P:V->Hp->Prop}{g f:Hp->Prop}(a:Bool)(j:H d=some (.tup [.int (r.1:Int),.int (r.2.1:Int),.ref i]))(m:∀H',aR H H'->(if a then off k r else atR k r)=true->g H')(l:∀H',aR H H'->(if a then off k r else atR k r)=false->f H'):
  Hq K (.ref d) none (some 2) H fun y H2=>P y H2\/rIn K a (.int (k:Int)) y H2 fun x H'=>∃b,x=.bl b/\if b=true then g H' else f H':=by
 refine .inr (.inl ⟨d,_,rfl,SqT.of j,(show ¬(HT.sIx 3 0 none=0/\HT.sIx 3 3 (some 2)=3) by decide),fun p h=>?_⟩);refine .inr ⟨p,_,rfl,.inr (SqT.of aK),rfl,rfl,?_⟩;have e:inV (V.int (k:Int)) (o5 [.int (r.1:Int),.int (r.2.1:Int),.ref i] none (some 2))=atR k r:=in2 k r;rw[e];refine⟨_,rfl,?_⟩;cases c:(if a then !atR k r else atR k r)with
 |true=>exact m _ (aP h) c
 |false=>exact l _ (aP h) c
section
variable {G:Gam}{E:XS}{D:Ends}{nd lk kl rl:Addr}{Ew:List Rw}
def Dj{g:TG}{v:TT}{w:TE}{Q:VK}(d:Bool)(E:H rl=some (.lst ys))(s:RwH H ys Ew)(L:ys.length<=20)(T:L2.St->Prop)(q:T τ0)
  (step:∀f so (r:Rw) o a (m:L2.St->V->Hp->Prop)(j:L2.St->Hp->Prop),T o->a f=some (.tup [.int (r.1:Int),.int (r.2.1:Int),.ref so])->(∀h c,T h->aR a c->(if d then off k r else atR k r)=true->m h (.ref f) c)->(∀h c,T h->aR a c->(if d then off k r else atR k r)=false->j h c)->
   g (.ref f) o a fun p z=>v p z fun b t=>if b=true then w p t (m p)else j p t)
  (B:∀H' l zs,aR H H'->H' l=some (.lst zs)->RwH H' zs (Ew.filter fun r=>if d then off k r else atR k r)->Q (.ref l) H'):xn (Itl K rl) g v w τ0 H Q:=by
 refine yL (ds:=Ew) (oU s) fv (short (by lia)) (fun y n=>SqL.of (n _ _ E)) (fun r=>if d then off k r else atR k r) (fun x _=>x) T q ?_ ?_;·rintro i x e o a m j C D q I G kf;obtain⟨r,F,f,so,rfl,A,J,_⟩:=zN s C;obtain rfl:r=e:=aX (F.symm.trans D);exact step f so r o a m j q (I _ _ A) G kf
 ·intro y l n u;exact B _ l _ (n.trans (aP u)) aK ((rw_filt (fun r=>if d then off k r else atR k r) (s.same n)).same (aP u))
structure Kp(n m:Nat)(vs:List (List Int))(hs:List Int):Prop where
 N:Nd n m (ndv vs)
 m15:m<=15
 n10:n<=10
 hb:∀h∈hs,0<=h/\h<m
def kpt(hs:List Int)(k:Nat):Prop:=(k:Int)∈hs
def OkAt(hs:List Int)(k:Nat)(E:List Rw):Prop:=¬kpt hs k->(E.filter (atR k)).length≠1/\(E.filter (atR k)).length≠2
def Cd(m:Nat)(hs:List Int)(E0 E:List Rw)(k:Nat):Prop:=(Fn m (kpt hs) E0->E=E0)/\E.length<=E0.length/\((E=E0/\∀a,a<k->OkAt hs a E0)\/E.length+1<=E0.length)
def Cd.lM{E0 E:List Rw}(c:Cd m hs E0 E k)(h:OkAt hs k E):Cd m hs E0 E (k+1):=by
 refine⟨c.1,c.2.1,?_⟩;rcases c.2.2 with⟨e,a⟩ |a
 ·refine .inl ⟨e,fun b d=>?_⟩;by_cases z:b=k;·subst z;subst e;exact h
  ·exact a b (by lia)
 ·exact .inr a
def Cd.less{E0 E a:List Rw}(c:Cd m hs E0 E k)(b:k<m)(h:¬OkAt hs k E)(l:a.length+1=E.length):Cd m hs E0 a (k+1):=by refine⟨fun f=>absurd (fun d=>?_) h,by have :=c.2.1;lia,.inr (by have :=c.2.1;lia)⟩;rw[c.1 f];exact f k b d
def AD(k:Nat)(E:List Rw):(E.filter (off k)).length+(E.filter (atR k)).length=E.length:=by
 induction E with
 |nil=>rfl
 |cons e E ih=>
  cases c:atR k e with
  |true=>rw[eV c,eW (by unfold off;rw[c];decide),bz,bz];lia
  |false=>rw[eV (p:=off k) (by unfold off;rw[c];rfl),eW (p:=atR k) (by rw[c];decide),bz,bz];lia
noncomputable abbrev St6(nd lk kl rl:Addr)(a4:Option V)(k:Option V)(a6 a7 a8:Option V):L2.St:=[some (.ref nd),some (.ref lk),some (.ref kl),some (.ref rl),a4,k,a6,a7,a8,none,none,none,none,none,none,none]
def Iw(H0:Hp)(nd lk kl:Addr)(n m:Nat)(vs:List (List Int))(hs:List Int)(E0:List Rw)(a4:Option V)(k:Nat)(σ:L2.St)(H:Hp):Prop:=
 aR H0 H/\∃rl ys Ew,H rl=some (.lst ys)/\RwH H ys Ew/\Pr n m (ndv vs) (kpt hs) Ew/\Cd m hs E0 Ew k/\∃a5 a6 a7 a8,σ=St6 nd lk kl rl a4 a5 a6 a7 a8
def len2{d:Type}{l:List d}(h:l.length=2):∃a b,l=[a,b]:=by
 rcases l with _|⟨a,_|⟨b,_|⟨c,l⟩⟩⟩;·cases h
 ·cases h
 ·exact⟨a,b,rfl⟩
 ·cases h
def two_at{h g:Rw}(r:RwH H zs [h,g]):∃y z,zs=[y,z]/\RwX [] H y h/\RwX [] H z g:=by have e:=oU r;obtain⟨y,z,rfl⟩:=len2 e;obtain⟨a,c,f⟩:=zN r (i:=0) rfl;obtain⟨b,d,j⟩:=zN r (i:=1) rfl;cases c;cases d;exact⟨y,z,rfl,f,j⟩
def Du{e:Rw}(h:atR k e=true):(e.1:Int)+(e.2.1:Int)-k=(oth k e:Int):=by
 rcases oV h with⟨a,b⟩ |⟨a,b⟩;·rw[<-b,a];lia
 ·rw[<-b,a];lia
def wp_join{vs:List (List Int)}{E0:List Rw}{u:List V}{v a8:Option V}(KP:Kp n m vs hs)(hk:k<m)(b6:E0.length<=14)(s0:aR H0 H)(pr:Pr n m (ndv vs) (kpt hs) Ew)(cd:Cd m hs E0 Ew k)(c:¬kpt hs k)(b7:Ew.length<=14)
  (w:H bv=some (.lst zs))(rh:RwH H zs (Ew.filter (atR k)))(ea:H bB=some (.lst u))(Z:RwH H u (Ew.filter (off k)))
  (hD:∀a1 H2,Iw H0 nd lk kl n m vs hs E0 v (k+1) a1 H2->D.nx a1 H2)(O:(Ew.filter (atR k)).length=2):
  tM (yz K (pL 6)) (me 0) GH (tOp (nT K Operator.Sub) (tOp (nT K Operator.Add) (tOp (rIx K) (pL 0) (tC (V.int 0))) (tOp (rIx K) (pL 0) (tC (V.int 1)))) (pL 1)) (lO [cQ "_law_row"] [5]) (St6 nd lk kl rl v (some (V.int ↑k)) (some (V.ref bv)) (some (V.ref bB)) a8) H fun x H1=>
   wpB G K E fX {nx:=tL {nx:=tL D,rt:=D.rt,bk:=D.bk,ct:=D.ct},rt:=D.rt,bk:=D.bk,ct:=D.ct} [some (V.ref nd),some (V.ref lk),some (V.ref kl),some (V.ref rl),v,some (V.int ↑k),some (V.ref bv),some (V.ref bB),some x,none,none,none,none,none,none,none] H1:=by
 obtain⟨h,g,e⟩:=len2 O;have r:h∈Ew/\atR k h=true:=aV.mp (e▸au);have q:g∈Ew/\atR k g=true:=aV.mp (e▸av _ au);obtain⟨ne,pj⟩:=pr.join KP.N c e;obtain⟨W,es⟩:=pr.srt KP.N r.1 r.2 q.1 q.2 ne;have fl:=AD k Ew;rw[e]at rh;obtain⟨b9,a0,rfl,⟨M,sh,rfl,z,a6,_⟩,L,sg,rfl,y,a5,_⟩:=two_at rh;refine eJ (dM rfl (SqL.of w) ?_);refine fg fv (short (by simp)) (fun H2 C=>SqL.of (C _ _ w)) (fun i b5 _=>b5=.int (([oth k h,oth k g].getD i 0:Nat):Int)) (fun _ _ _ _ _ h=>h) (fun τ=>∃t,τ=[t,some (.int k)]) ⟨none,rfl⟩ ?_ ?_
 ·rintro i x τ N R' hi ⟨t',rfl⟩ a hx U;ext;have a7:i=0\/i=1:=by simp at hi;lia
  rcases a7 with rfl|rfl;·cases hx;refine .inr (.inl ⟨M,_,0,_,rfl,rfl,SqT.of (a _ _ z),bS (j:=0) rfl,?_⟩);refine .inr (.inl ⟨M,_,1,_,rfl,rfl,SqT.of (a _ _ z),bS (j:=1) rfl,?_⟩);ext;exact U _ _ _ ⟨_,rfl⟩ (aR.refl _) (by rw[Du r.2];rfl)
  ·cases hx;refine .inr (.inl ⟨L,_,0,_,rfl,rfl,SqT.of (a _ _ y),bS (j:=0) rfl,?_⟩);refine .inr (.inl ⟨L,_,1,_,rfl,rfl,SqT.of (a _ _ y),bS (j:=1) rfl,?_⟩);ext;exact U _ _ _ ⟨_,rfl⟩ (aR.refl _) (by rw[Du q.2];rfl)
 ·intro us H2 l b3 T C hl;obtain rfl:us=[.int (oth k h:Int),.int (oth k g:Int)]:=by obtain⟨a2,a3,rfl⟩:=len2 (b3.trans rfl);rw[T 0 a2 rfl,T 1 a3 rfl];rfl
  generalize hX:upd H2 l _=N;obtain⟨a,S⟩:=eE hX hl;clear hX
  replace a:=C.trans (a)
  unfold fX;ext;refine .inl ⟨l,_,0,_,rfl,rfl,SqL.of S,bS (j:=0) rfl,.inl ⟨l,_,1,_,rfl,rfl,SqL.of S,bS (j:=1) rfl,?_⟩⟩;have R:=a _ _ w;refine .inl ⟨bv,_,0,_,rfl,rfl,SqL.of R,bS (j:=0) rfl,.inr (.inl ⟨M,_,2,_,rfl,rfl,SqT.of (a _ _ z),bS (j:=2) rfl,?_⟩)⟩;refine .inl ⟨bv,_,1,_,rfl,rfl,SqL.of R,bS (j:=1) rfl,.inr (.inl ⟨L,_,2,_,rfl,rfl,SqT.of (a _ _ y),bS (j:=2) rfl,?_⟩)⟩;have a9:(h.2.2++g.2.2).length<=n:=by
   have :=W.length_le_of_subset (l₂:=(ay n).map fun p:Nat=>(p:Int)) fun x hx=>by
    rcases aU.mp hx with hx|hx;·rw[pr.is h r.1]at hx;obtain⟨p,A,_,rfl⟩:=oW.mp hx;exact aF.mpr ⟨p,aJ.mpr A,rfl⟩
    ·rw[pr.is g q.1]at hx;obtain⟨p,A,_,rfl⟩:=oW.mp hx;exact aF.mpr ⟨p,aJ.mpr A,rfl⟩
   simpa using this
  have b8:=KP.n10;have ll:h.2.2.length+g.2.2.length<=n:=by simpa using a9
  refine .inr (.inr (.inl ⟨sh,sg,_,_,rfl,rfl,a _ _ a6,a _ _ a5,short (by rw[ak,ak];lia),fun X b0=>?_⟩));rw[<-dc];generalize hX:upd N X _=H4;obtain⟨s4,e4⟩:=eE hX b0;clear hX;refine⟨X,_,rfl,SqL.of e4,by lia,W,fun b b1=>⟨short (by simp),fun d B=>⟨short (by simp),fun Y f=>?_⟩⟩⟩;rw[es]at B f⊢;have s5:aR H4 (upd H4 b (.lst ((new (ndv vs) n k h g).2.2.map V.int))):=aP b1;have P:upd H4 b (.lst ((new (ndv vs) n k h g).2.2.map V.int)) b=_:=aK;generalize upd H4 b (.lst ((new (ndv vs) n k h g).2.2.map V.int))=H5 at s5 P B f⊢;have I:aR H5 (upd H5 d (.tup [.int (oth k h:Int),.int (oth k g:Int),.ref b])):=aP B;have Q:upd H5 d (.tup [.int (oth k h:Int),.int (oth k g:Int),.ref b]) d=_:=aK;generalize upd H5 d (.tup [.int (oth k h:Int),.int (oth k g:Int),.ref b])=H6 at I Q f⊢;generalize hX:upd H6 Y _=H7;obtain⟨J,e7⟩:=eE hX f;clear hX;have b4:=s4.trans (s5.trans (I.trans J));have F:=a.trans b4;have lw:u.length=(Ew.filter (off k)).length:=oU Z;refine .inr (.inr (.inl ⟨bB,Y,_,_,rfl,rfl,F _ _ ea,e7,short (by simp;lia),fun p8 b2=>?_⟩));have s:=aP (o:=.lst (u++[.ref d])) b2;refine hD _ _ ⟨s0.trans (F.trans s),p8,_,_,aK,Paired.snoc ⟨d,b,rfl,?_,?_,by simp⟩ (Z.same (F.trans s)),pj,cd.less hk (fun a0=>(a0 c).2 O) ?_,_,_,_,_,rfl⟩;·rw[bE];show _+1+1=_;lia
  ·exact(J.trans s) _ _ Q
  ·exact(I.trans (J.trans s)) _ _ P
def Ge{vs:List (List Int)}{E0:List Rw}{f:List V}{g t:Option V}(KP:Kp n m vs hs)(j:k<m)(v:E0.length<=14)(u:H0 kl=some (.lst (hs.map V.int)))(a:aR H0 H)(l:H rl=some (.lst ys))(r:RwH H ys Ew)(pr:Pr n m (ndv vs) (kpt hs) Ew)(cd:Cd m hs E0 Ew k)
  (d:H bv=some (.lst zs))(q:RwH H zs (Ew.filter (atR k)))(i:H bB=some (.lst f))(p:RwH H f (Ew.filter (off k)))
  (b:∀s H2,Iw H0 nd lk kl n m vs hs E0 g (k+1) s H2->D.nx s H2):
  wpB G K E iz D (St6 nd lk kl rl g (some (.int k)) (some (.ref bv)) (some (.ref bB)) t) H:=by
 have e:=a _ _ u;have o:zs.length=(Ew.filter (atR k)).length:=oU q;have x:=AD k Ew;have y:=cd.2.1;unfold iz;ext;refine .inr ⟨kl,_,rfl,.inl (SqL.of e),rfl,jM hs,_,rfl,?_⟩;show if(!inV (V.int (k:Int)) (hs.map V.int))=true then _ else _
 rw[lU];by_cases c:(k:Int)∈hs
 ·rw[decide_eq_true c];show if false=true then _ else _
  rw[if_neg aA];refine .inr ⟨kl,_,rfl,.inl (SqL.of e),rfl,jM hs,_,rfl,?_⟩;show if(!inV (V.int (k:Int)) (hs.map V.int))=true then _ else _
  rw[lU,decide_eq_true c];exact b _ _ ⟨a,rl,ys,Ew,l,r,pr,cd.lM fun z=>absurd c z,_,_,_,_,rfl⟩
 rw[decide_eq_false c];show if true=true then _ else _
 rw[if_pos rfl];refine Or.inl ⟨bv,zs,rfl,.inl (SqL.of d),?_⟩;ext;rw[o];by_cases c1:(Ew.filter (atR k)).length=1;·obtain⟨h,w⟩:=List.length_eq_one_iff.mp c1;rw[decide_eq_true (by lia)];exact b _ _ ⟨a,bB,f,_,i,p,pr.cut c w,cd.less j (fun z=>(z c).1 c1) (by lia),_,_,_,_,rfl⟩
 rw[decide_eq_false (by lia)];rw[if_neg aA];refine .inr ⟨kl,_,rfl,.inl (SqL.of e),rfl,jM hs,_,rfl,?_⟩;show if(!inV (V.int (k:Int)) (hs.map V.int))=true then _ else _
 rw[lU,decide_eq_false c];show if true=true then _ else _
 rw[if_pos rfl];refine Or.inl ⟨bv,zs,rfl,.inl (SqL.of d),?_⟩;ext;rw[o];by_cases c2:(Ew.filter (atR k)).length=2;·rw[decide_eq_true (by lia)];exact wp_join KP j v a pr cd c (by lia) d q i p b c2
 ·rw[decide_eq_false (by lia)];exact b _ _ ⟨a,rl,ys,Ew,l,r,pr,cd.lM fun _=>⟨c1,c2⟩,_,_,_,_,rfl⟩
def Ow(H0:Hp)(nd lk kl:Addr)(n m:Nat)(vs:List (List Int))(hs:List Int)(t:Nat)(σ:L2.St)(H:Hp):Prop:=
 aR H0 H/\∃rl ys Ew,H rl=some (.lst ys)/\RwH H ys Ew/\Pr n m (ndv vs) (kpt hs) Ew/\Ew.length+1<=m/\(Fn m (kpt hs) Ew\/Ew.length+t+1<=m)/\∃a4 a5 a6 a7 a8,σ=St6 nd lk kl rl a4 a5 a6 a7 a8
def wp_pass{vs:List (List Int)}{L:List V}(KP:Kp n m vs hs)(ek:H0 kl=some (.lst (hs.map V.int)))(I:H0 nd=some (.lst L))(J:L.length=m)(m1:1<=m)
  (g:Ow H0 nd lk kl n m vs hs 0 σ H)(hD:∀O H2,Ow H0 nd lk kl n m vs hs (2*m) O H2->wpB G K E jW D O H2):wpB G K E jY D σ H:=by
 have b2:=KP.m15;unfold jY;obtain⟨z,d,i,o,a,b,pr,l1,cd,a4,a5,a6,a7,a8,rfl⟩:=id g;ext;refine gS ?_;ext;refine Or.inl ⟨nd,_,rfl,.inl (SqL.of (z _ _ I)),?_⟩;rw[J];ext;refine⟨qk (by decide) (by decide),_,rfl,by lia,by lia,?_⟩;rw[show((2*(m:Int)).toNat)=2*m by lia];refine fV dX (Ow H0 nd lk kl n m vs hs) g (fun _ _ _ _ _=>trivial) ?_ hD;rintro t a3 σ H1 H2 D2 ht g rfl A a0 _;obtain⟨z,d,i,E0,a,b,pr,l1,cd,b4,b5,b6,b7,b8,rfl⟩:=g;have N:=z.trans A;ext;refine gS ?_;ext;refine Or.inl ⟨nd,_,rfl,.inl (SqL.of (N _ _ I)),?_⟩;rw[J];ext;refine⟨_,rfl,by lia,by lia,?_⟩;rw[ba];refine fV dX (Iw H0 nd lk kl n m vs hs E0 (some (.int (0+t)))) ⟨N,d,i,E0,A _ _ a,b.same A,pr,⟨fun _=>rfl,aC _,.inl ⟨rfl,fun k' b0=>by lia⟩⟩,_,_,_,_,rfl⟩ (fun _ _ _ _ _=>trivial) ?_ ?_
 ·rintro k a3 σ P H4 D3 u ⟨B,d,i,o,a,b,pr,cd,U,W,X,Y,rfl⟩ rfl C a1 _;have Z:(0:Int)+(k:Int)=k:=eP _;rw[Z];have v:=C _ _ a;have y:=b.same C;have ly:=oU y;have l2:=cd.2.1;ext;refine eJ (dM rfl (SqL.of v) ?_);refine Dj (k:=k) false v y (by lia) (fun j=>∃t,j=[t,some (.int k)]) ⟨none,rfl⟩ ?_ ?_;·rintro tp so a2 j Q T S ⟨t',rfl⟩ r x kf;ext;exact Dk false r (fun p s c=>x _ _ ⟨_,rfl⟩ s c) fun p s c=>kf _ _ ⟨_,rfl⟩ s c
  ·intro Q b1 zs F eh rh;unfold jX;ext;have w:=F _ _ v;have M:=y.same F;refine eJ (dM rfl (SqL.of w) ?_);refine Dj (k:=k) true w M (by lia) (fun j=>∃t,j=[t,some (.int k)]) ⟨none,rfl⟩ ?_ ?_;·rintro tp so a2 j R T S ⟨t',rfl⟩ r x kf;ext;exact Dk true r (fun p s c=>x _ _ ⟨_,rfl⟩ s c) fun p s c=>kf _ _ ⟨_,rfl⟩ s c
   ·intro R a9 ws h ea ra;exact Ge KP u (by lia) ek (B.trans (C.trans (F.trans h))) (h _ _ w) (M.same h) pr cd (h _ _ eh) (Rws.same rh h) ea ra a1
 ·rintro σ P ⟨B,d,i,o,a,b,pr,q,U,W,X,Y,rfl⟩;refine a0 _ _ ⟨B,d,i,o,a,b,pr,by have :=q.2.1;lia,?_,_,_,_,_,_,rfl⟩;rcases cd with f|f;·exact .inl (by rw[q.1 f];exact f)
  ·rcases q.2.2 with⟨e,ok⟩ |l;·exact .inl (by rw[e];exact fun k u nk=>ok k u nk)
   ·exact .inr (by lia)
end
theorem zv{e a f:Type}(t:a->Bool)(g:a->f):∀(xs:List e)(ds:List a),xs.length=ds.length->((xs.zip ds).filter fun p=>t p.2).map (fun p=>g p.2)=(ds.filter t).map g
 | [],[],_=>rfl
 |x::xs,d::ds,h=>by
  have b:=zv t g xs ds (mq h);rw[k9];cases c:t d with
  |true=>rw[eV (by exact c),eV c,bh,bh,b]
  |false=>rw[eW (by show ¬t d=true;rw[c];decide),eW (by rw[c];decide),b]
 | [],_::_,h=>by cases h
 |_::_,[],h=>by cases h
def Au{vs:List (List Int)}(h:_root_.Q.IntKeys H ys vs)(c:k<ys.length):∃r,ys[k]? =some (.ref r)/\H r=some (.tup ((ndv vs k).map V.int)):=by obtain⟨r,d,e,a,b⟩:=IU h (ae c);refine⟨r,by rw[ae c,e],?_⟩;unfold ndv;rw[af,b];exact a
theorem IS{vs:List (List Int)}(h:_root_.Q.IntKeys H ys vs):∀{ks:List Nat},(∀k∈ks,k<ys.length)->_root_.Q.IntKeys H (ks.map fun k=>ys.getD k .non) (ks.map (ndv vs))
 | [],_=>.nil
 |k::ks,b=>by obtain⟨r,e,a⟩:=Au h (b k au);refine .cons ⟨r,?_,a⟩ (IS h fun k c=>b k (av _ c));show ys.getD k .non=.ref r;rw[af,e];rfl
def ik_app{vs:List (List Int)}(h:_root_.Q.IntKeys H xs vs)(g:_root_.Q.IntKeys H ys ws):_root_.Q.IntKeys H (xs++ys) (vs++ws):=by
 unfold _root_.Q.IntKeys at h
 induction h with
 |nil=>exact g
 |cons y0 _ ih=>exact .cons y0 ih
def wz{a b:Type}{f:a->b}{l:List a}(h:(l.map f).Nodup):l.Nodup:=(cj.mp h).imp fun h e=>h (by rw[e])
abbrev kpl(m:Nat)(hs:List Int):List Nat:=(ay m).filter fun k=>decide ((k:Int)∈hs)
abbrev fnd(vs:List (List Int))(ks:List Nat)(Ew:List Rw):List (List Int):=ks.map (ndv vs)++Ew.flatMap fun e=>[ndv vs e.1,ndv vs e.2.1]
def DK(a:∀h∈hs,0<=h/\h<(m:Int)):k∈kpl m hs↔kpt hs k:=by unfold kpl kpt;rw[aV,aJ,decide_eq_true_iff];exact⟨fun h=>h.2,fun h=>⟨nZ.mp (a _ h).2,h⟩⟩
def fnd_mem{vs:List (List Int)}{b:List Rw}(c:∀h∈hs,0<=h/\h<(m:Int)){x:List Int}:x∈fnd vs (kpl m hs) b↔∃k,Vs (kpt hs) b k/\x=ndv vs k:=by
 unfold fnd;rw[aU,aF,List.mem_flatMap];constructor
 ·rintro(⟨k,d,rfl⟩ |⟨e,a,hx⟩);·exact⟨k,.inl ((DK c).mp d),rfl⟩
  ·rcases aI.mp hx with rfl|hx;·exact⟨_,.inr ⟨e,a,.inl rfl⟩,rfl⟩
   ·exact⟨_,.inr ⟨e,a,.inr rfl⟩,aH.mp hx⟩
 ·rintro⟨k,h|⟨e,a,rfl|rfl⟩,rfl⟩;·exact .inl ⟨k,(DK c).mpr h,rfl⟩
  ·exact .inr ⟨e,a,au⟩
  ·exact .inr ⟨e,a,av _ au⟩
theorem uL{vs:List (List Int)}:∀(Ew:List Rw),(Ew.flatMap fun e=>[ndv vs e.1,ndv vs e.2.1]).length=2*Ew.length
 | []=>rfl
 |e::Ew=>by rw[List.flatMap_cons,bE,uL Ew];show 2+_=2*(Ew.length+1);lia
section
variable {G:Gam}{E:XS}{D:Ends}{nd lk kl rl br:Addr}{vs:List (List Int)}{nys rys:List V}{Ew:List Rw}{a4 a5 a6 a7 a8:Option V}
def Bw(H:Hp)(nd lk kl rl br:Addr)(vs:List (List Int))(ks:List Nat)(Ew:List Rw)(a4 a5 a6 a7 a8:Option V)(i:Nat)(σ:L2.St)(H':Hp):Prop:=aR H H'/\(∃a fs,H' a=some (.lst fs)/\a≠br/\_root_.Q.IntKeys H' fs (fnd vs ks (Ew.take i))/\∃bs,H' br=some (.lst bs)/\Paired (Ei H') bs ((Ew.take i).map (vF (ndv vs)))/\
 ∃b c d e f,σ=[some (.ref nd),some (.ref lk),some (.ref kl),some (.ref rl),a4,a5,a6,a7,a8,some (.ref a),some (.ref br),b,c,d,e,f])
def wp_p6(KP:Kp n m vs hs)(pr:Pr n m (ndv vs) (kpt hs) Ew)(v:Fn m (kpt hs) Ew)(k0:∃k,kpt hs k)(lw:Ew.length+1<=m)(C:Cps (ndv vs) (kpt hs) rows)(vl:vs.length=m){Q:VK}(W:D.rt=Q)(g:Bw H nd lk kl rl br vs (kpl m hs) Ew a4 a5 a6 a7 a8 Ew.length σ H')
  (q:∀H' p,aR H H'->Rep K H' (M9.trD rows n) (.ref p)->Q (.ref p) H'):wpB G K E iN D σ H':=by
 obtain⟨s1,S,fs,N,a3,y,bs,L,s,b1,b2,b3,b4,b5,rfl⟩:=g;rw[eI]at y s;unfold iN;ext;have a2:=KP.m15;have mem:∀{x:List Int},x∈fnd vs (kpl m hs) Ew↔∃k,Vs (kpt hs) Ew k/\x=ndv vs k:=fnd_mem KP.hb;have tb:=pr.tbl KP.N C k0;have a1:(kpl m hs).length<=m:=by have :=oP (fun k:Nat=>decide ((k:Int)∈hs)) (ay m);rw[bC]at this;exact this
 have Y:(fnd vs (kpl m hs) Ew).length<=60:=by unfold fnd;rw[bE,ak,uL];lia
 have r:∀k,Vs (kpt hs) Ew k->(ndv vs k).length=n:=fun k b=>(KP.N.ok k (pr.vlt b)).1;refine⟨_,rfl,S,fs,_,n,rfl,SqL.of N,Y,⟨vs,by lia,fun x c=>?_⟩,fun x c=>?_,y,fun zs qs l B hq z T=>?_⟩;·obtain⟨k,b,rfl⟩:=mem.mp c;exact nv (by have :=pr.vlt b;lia)
 ·obtain⟨k,b,rfl⟩:=mem.mp c;exact r k b
 generalize hX:upd H' l _=H2;obtain⟨i,O⟩:=eE hX T;clear hX;have F:=sQ (Tk.of i) s;have M:=i _ _ L;have u:(((Ew.map (vF (ndv vs))).map fun x=>(x.1,x.2.1)).map _root_.Q.kP)=(Ew.map (vF (ndv vs))).map M8.key:=by rw[bq];rfl
 have t:=pr.keys KP.N;refine⟨br,bs,_,n,rfl,SqL.of M,by rw[ak,ak];lia,by rw[u];exact t,fun x c=>?_,GB F,fun A U=>?_⟩
 ·obtain⟨b0,X,rfl⟩:=aF.mp c;obtain⟨e,w,rfl⟩:=aF.mp X;have l1:=r e.1 (.inr ⟨e,w,.inl rfl⟩);have l2:=r e.2.1 (.inr ⟨e,w,.inr rfl⟩);unfold vF M4.lo M4.hi;constructor;·show gW (ite _ _ _)=n;split <;>assumption
  ·show gW (ite _ _ _)=n;split <;>assumption
 rw[u];generalize hX:upd H2 A _=H3;obtain⟨t3,P⟩:=eE hX U;clear hX;refine⟨short (by simp),fun p V=>?_⟩;generalize hX:upd H3 p _=H4;obtain⟨f,R⟩:=eE hX V;clear hX;rw[W];refine q H4 p (s1.trans (i.trans (t3.trans f))) ?_;have j:M8.vH (M8.nds rows n)=M8.vH qs:=by refine M9.wg (M8.uo tb) ((la (M8.uo tb) B).mpr fun x=>?_);rw[M8.lC tb,pr.mem KP.N v C k0,hq,mem]
 have o:M8.BK (M8.trs rows n)=M8.BK (Ew.map (vF (ndv vs))):=by have nd1:(M8.trs rows n).Nodup:=wz (M8.tI tb);have Z:(Ew.map (vF (ndv vs))).Nodup:=wz t;exact M9.we (M8.tI tb) ((la nd1 Z).mpr fun x=>pr.trs KP.N v C k0)
 unfold M9.trD;rw[j,o];refine⟨p,_,rfl,SqT.of R,_,_,rfl,⟨l,_,rfl,SqL.of ((t3.trans f) _ _ O),?_⟩,_,_,rfl,⟨A,_,rfl,SqL.of (f _ _ P),?_⟩,rfl⟩;·exact K83.sT (fun a0 a ⟨x,e,h⟩=>by subst e;exact K83.mE h) (K83.lP (d:=([]:List Int)) B (ff z) (cu (Tk.of (i.trans (t3.trans f))) z))
 ·refine K83.sT (fun a0 x ⟨a,p,q,a9,e,I,j,o,J⟩=>?_) (K83.lP (d:=(([],[],[]):M8.Tri)) t (by rw[ak];exact ff s) (sQ (Tk.of (t3.trans f)) F));subst e;exact⟨a,_,rfl,SqT.of I,_,_,rfl,K83.mE j,_,_,rfl,K83.mE o,_,_,rfl,K83.mE J,rfl⟩
def wp_p5(KP:Kp n m vs hs)(pr:Pr n m (ndv vs) (kpt hs) Ew)(J:H nd=some (.lst nys))(W:_root_.Q.IntKeys H nys vs)(nl:nys.length=m)(N:H rl=some (.lst rys))(rr:RwH H rys Ew)(fb:H br=none)(lw:Ew.length+1<=m)(g:Bw H nd lk kl rl br vs (kpl m hs) Ew a4 a5 a6 a7 a8 0 σ H')
  (hD:∀r H2,Bw H nd lk kl rl br vs (kpl m hs) Ew a4 a5 a6 a7 a8 Ew.length r H2->wpB G K E iN D r H2):wpB G K E jV D σ H':=by
 have d3:=KP.m15;have c7:=oU rr;unfold jV;obtain⟨s1,R,fs,I,c4,v,bs,o,x,b1,b2,b3,b4,b5,rfl⟩:=id g;ext;refine gS (dM rfl (SqL.of (s1 _ _ N)) ?_);refine fV fv (Bw H nd lk kl rl br vs (kpl m hs) Ew a4 a5 a6 a7 a8) g (fun _ σ H' _ h=>SqL.of (h.1 _ _ N)) ?_ ?_
 ·rintro i d4 σ H2 H3 D2 hi ⟨s2,R,fs,I,c4,v,bs,o,x,b1,b2,b3,b4,b5,rfl⟩ hx p c1 _;obtain⟨e,t,tp,so,rfl,et,es,_⟩:=zN rr hx;have S:e∈Ew:=aG t;have lt:=pr.lt e S;have y:=s2.trans p;have b8:=p _ _ I;have b6:=p _ _ o;have L:=y _ _ J;obtain⟨f,y1,O⟩:=Au W (k:=e.1) (by lia);obtain⟨j,y2,P⟩:=Au W (k:=e.2.1) (by lia);ext;refine⟨tp,_,rfl,SqT.of (y _ _ et),rfl,_,_,rfl,_,_,rfl,_,_,rfl,rfl,?_⟩;refine .inl ⟨nd,_,_,_,rfl,rfl,SqL.of L,bS y1,.inl ⟨nd,_,_,_,rfl,rfl,SqL.of L,bS y2,short (by simp),fun a0 hp=>?_⟩⟩;generalize hX:upd H3 a0 _=H4;obtain⟨u1,ep⟩:=eE hX hp;clear hX;have d2:fs.length<=44:=by rw[<-ff v];unfold fnd;have :=oP (fun k:Nat=>decide ((k:Int)∈hs)) (ay m);rw[bE,ak,uL,cy];unfold kpl;rw[bC]at this;lia
  refine .inr (.inr (.inl ⟨R,a0,_,_,rfl,rfl,u1 _ _ b8,ep,sR (by simp;lia),fun s u=>?_⟩));generalize hX:upd H4 s _=H5;obtain⟨u2,b7⟩:=eE hX u;clear hX;have b0:=u1.trans u2;have a2:=p.trans b0;have a:=y.trans b0;have Z:s≠br:=fun z=>by rw[z,u1 _ _ b6]at u;cases u
  have c3:_root_.Q.IntKeys H5 (fs++[.ref f,.ref j]) (fnd vs (kpl m hs) (Ew.take (i+1))):=by
   have :fnd vs (kpl m hs) (Ew.take (i+1))=fnd vs (kpl m hs) (Ew.take i)++[ndv vs e.1,ndv vs e.2.1]:=by unfold fnd;rw[dh,t];simp
   rw[this];exact ik_app (cu (Tk.of a2) v) (.cons ⟨f,rfl,a _ _ O⟩ (.cons ⟨j,rfl,a _ _ P⟩ .nil))
  unfold lH;ext;have M:=a _ _ J;refine .inl ⟨nd,_,_,_,rfl,rfl,SqL.of M,bS y1,.inl ⟨nd,_,_,_,rfl,rfl,SqL.of M,bS y2,short (by simp),fun l hl=>?_⟩⟩;generalize hX:upd H5 l _=H6;obtain⟨A,el⟩:=eE hX hl;clear hX;obtain⟨q0,d0,dq⟩:=pr.ne e S;have ne:ndv vs e.1≠ndv vs e.2.1:=fun z=>dq (by unfold rd;rw[z]);have Y:[ndv vs e.1,ndv vs e.2.1].Nodup:=by simp[ne]
  have U:_root_.Q.IntKeys H6 [.ref f,.ref j] [ndv vs e.1,ndv vs e.2.1]:=.cons ⟨f,rfl,A _ _ (a _ _ O)⟩ (.cons ⟨j,rfl,A _ _ (a _ _ P)⟩ .nil);refine⟨l,_,[ndv vs e.1,ndv vs e.2.1],n,rfl,SqL.of el,(show 2<64 by decide),Y,fun k hk=>?_,U,fun X c2=>?_⟩
  ·rcases aI.mp hk with rfl|hk;·exact(KP.N.ok _ lt.1).1
   ·rw[aH.mp hk];exact(KP.N.ok _ lt.2).1
  have w:=K83.lP (d:=([]:List Int)) Y rfl U;have e2:_root_.Q.dk [] [ndv vs e.1,ndv vs e.2.1] [ndv vs e.1,ndv vs e.2.1]=_:=srt_two ne;rw[e2]at w;generalize _root_.Q.dk V.non [ndv vs e.1,ndv vs e.2.1] [.ref f,.ref j]=ws at w;obtain⟨v1,w1,rfl,⟨c8,rfl,eu⟩,c5⟩:=wt w;obtain⟨v2,w2,rfl,⟨c9,rfl,ew⟩,c6⟩:=wt c5;cases c6;generalize hX:upd H6 X _=H7;obtain⟨B,b9⟩:=eE hX c2;clear hX;refine⟨X,_,rfl,SqL.of b9,rfl,?_⟩;refine⟨_,_,rfl,_,_,rfl,rfl,?_⟩;have q:=A.trans B;have a3:=a2.trans q;have a1:=a.trans q;unfold lG;ext;refine⟨.inl ⟨rfl,_,SqL.of (a3 _ _ o)⟩,so,_,rfl,.inl ⟨SqL.of (a1 _ _ es),fun z hz=>⟨short (by simp),fun C T=>?_⟩⟩⟩;have t3:aR H7 (upd H7 z (.tup (e.2.2.map V.int))):=aP hz;have Q:upd H7 z (.tup (e.2.2.map V.int)) z=_:=aK;generalize upd H7 z (.tup (e.2.2.map V.int))=H8 at t3 Q T⊢;generalize hX:upd H8 C _=H9;obtain⟨t4,c0⟩:=eE hX T;clear hX;have b:=t3.trans t4;have a9:=a3.trans b;have F:=a9 _ _ o;have d1:bs.length<=20:=by have :=ff x;rw[ak,cy]at this;lia
  refine⟨br,bs,_,rfl,rfl,F,dB (by lia:bs.length<=40) (by decide),?_⟩;have c:Tk H9 (upd H9 br (.lst (bs++[.ref C]))):=oR F;refine c1 _ _ ⟨gZ (a1.trans b) fb,s,_,?_,Z,cu c (cu (Tk.of (q.trans b)) c3),_,aK,?_,_,_,_,_,_,rfl⟩;·rw[bD Z];exact(q.trans b) _ _ b7
  ·rw[dh,t,dc];exact Paired.snoc ⟨C,c8,c9,z,rfl,c _ _ c0,c _ _ (b _ _ (B _ _ eu)),c _ _ (b _ _ (B _ _ ew)),c _ _ (t4 _ _ Q)⟩ (sQ c (sQ (Tk.of a9) x))
 ·intro r H2 h;rw[c7]at h;exact hD r H2 h
end
def GW(K:ao):Sp:=fun a H Q _=>∃(nd lk kl:Addr)(nys ls:List V)(vs:List (List Int))(E:List Rw)(hs:List Int)(n:Nat),a=[.ref nd,.ref lk,.ref kl]/\H nd=some (.lst nys)/\H lk=some (.lst ls)/\H kl=some (.lst (hs.map V.int))/\_root_.Q.IntKeys H nys vs/\Rws [] H ls E/\Gl n [] vs E/\(∀h∈hs,0<=h/\h<(nys.length:Int))/\hs≠[]/\nys.length<=15/\n<=10/\
 ∀H' p,aR H H'->Rep K H' (M9.trD (hs.map fun h=>ndv vs h.toNat) n) (.ref p)->Q (.ref p) H'
theorem wp_prn:Sat G K (GW K) qo pW:=by
 rintro d4 H d0 c9 ⟨nd,lk,F,g,ls,q,A,f,a2,rfl,J,el,Z,O,rl,gl,D,b8,b6,b5,c4⟩;have U:g.length=q.length:=(ff O).symm;have ll:=oU rl;have d1:=gl.len;have KP:Kp a2 g.length q f:=⟨U▸gl.nd,b6,b5,D⟩;have b1:Cps (ndv q) (kpt f) (f.map fun h=>ndv q h.toNat):=fun r=>by
  rw[aF];constructor;·rintro⟨h,w,rfl⟩;obtain⟨k,rfl⟩:=cE (D h w).1;exact⟨k,w,rfl⟩
  ·rintro⟨k,m,rfl⟩;exact⟨k,m,rfl⟩
 have k0:∃k,kpt f k:=by obtain⟨h,w⟩:=Bd _ b8;obtain⟨k,rfl⟩:=cE (D h w).1;exact⟨k,w⟩
 have c3:Pr a2 g.length (ndv q) (kpt f) A:=U▸gl.pr fun k m=>by have :=(D _ m).2;lia
 unfold qo;change wpB G K _ _ _ [some (.ref nd),some (.ref lk),some (.ref F),none,none,none,none,none,none,none,none,none,none,none,none,none] H;ext;refine eJ (dM rfl (SqL.of el) ?_);refine fg fv (short (by lia)) (fun s Q=>SqL.of (Q _ _ el)) (fun i b0 H=>∃e,A[i]? =some e/\RwX [] H b0 e) (fun i b0 H H' a9 h=>let⟨e,v,t,S,a,b,c,d⟩:=h;⟨e,v,t,S,a,a9 _ _ b,a9 _ _ c,d⟩) (fun z=>∃a b c,z=[a,b,c]) ⟨none,none,none,rfl⟩ ?_ ?_;·rintro i c6 z u R' hi ⟨a,b,c,rfl⟩ x hx kk;obtain⟨e,v,tp,S,rfl,et,es,_⟩:=zN rl hx;ext;refine⟨tp,_,rfl,SqT.of (x _ _ et),rfl,_,_,rfl,_,_,rfl,_,_,rfl,rfl,?_⟩;refine⟨S,_,rfl,.inl (SqL.of (x _ _ es)),fun n b9=>⟨short (by simp),fun p hp=>?_⟩⟩;have t1:aR u (upd u n (.lst (e.2.2.map V.int))):=aP b9;have C:upd u n (.lst (e.2.2.map V.int)) n=_:=aK;generalize upd u n (.lst (e.2.2.map V.int))=H4 at t1 C hp⊢;have t2:=aP (o:=.tup [.int (e.1:Int),.int (e.2.1:Int),.ref n]) hp;exact kk _ _ _ ⟨_,_,_,rfl⟩ (t1.trans t2) ⟨e,v,p,n,rfl,aK,t2 _ _ C,by simp⟩
 ·intro j s l d2 hF Q hl;have x:aR H (upd s l (.lst j)):=Q.trans (aP hl);have X:upd s l (.lst j) l=some (.lst j):=aK;have r3:RwH (upd s l (.lst j)) j A:=by refine Rws.same ?_ (aP hl);refine pr_mk (by lia) fun c1 a b C e2=>?_;obtain⟨e,v,r⟩:=hF c1 a C;obtain rfl:e=b:=aX (v.symm.trans e2);exact r
  generalize upd s l (.lst j)=u at x X r3;refine wp_pass (H0:=H) KP Z J rfl (by lia) ⟨x,l,j,A,X,r3,c3,by lia,.inr (by lia),_,_,_,_,_,rfl⟩ ?_;rintro c8 H4 ⟨I,d3,d5,Ew,b3,c5,a3,l4,cd,a4,a5,a6,a7,a8,rfl⟩;have b4:Fn g.length (kpt f) Ew:=cd.resolve_right (by lia);unfold jW;ext;have a0:=I _ _ J;have b2:=I _ _ Z;have a1:=cu (Tk.of I) O;refine eJ ?_;ext;refine Or.inl ⟨nd,_,rfl,.inl (SqL.of a0),_,rfl,by lia,by lia,?_⟩;rw[ba];refine yL (ds:=ay g.length) (by unfold nats;rw[ak]) zM (short (by unfold nats;rw[ak,bC];lia)) (fun _ _=>trivial) (fun k=>decide ((k:Int)∈f)) (fun _ k=>g.getD k .non) (fun z=>∃t,z=[t,some (.ref nd),some (.ref F)]) ⟨none,rfl⟩ ?_ ?_
  ·rintro i c6 k z B Rt Rf M N ⟨t',rfl⟩ y kt kf;have hi:i<g.length:=by have :=(aM.mp N).1;simpa using this
   rw[bP hi]at N;cases N;unfold nats at M;rw[ax,bP hi]at M;cases M;ext;refine .inr ⟨F,_,rfl,.inl (SqL.of (y _ _ b2)),rfl,jM f,_,rfl,?_⟩;show if inV (V.int (i:Int)) (f.map V.int)=true then _ else _
   rw[lU];by_cases c:(i:Int)∈f;·rw[decide_eq_true c,if_pos rfl];obtain⟨r,yr,_⟩:=Au a1 hi;refine .inl ⟨nd,_,_,_,rfl,rfl,SqL.of (y _ _ a0),bS yr,?_⟩;have :=kt [some (V.int (i:Int)),some (.ref nd),some (.ref F)] B ⟨_,rfl⟩ (aR.refl _) (decide_eq_true c);rw[af,yr]at this;exact this
   ·rw[decide_eq_false c,if_neg aA];exact kf _ _ ⟨_,rfl⟩ (aR.refl _) (decide_eq_false c)
  ·intro B L y b7;rw[zv (fun k:Nat=>decide ((k:Int)∈f)) (fun k=>g.getD k .non) _ _ (by unfold nats;rw[ak])];have c0:_root_.Q.IntKeys B ((kpl g.length f).map fun k=>g.getD k .non) ((kpl g.length f).map (ndv q)):=cu (Tk.of y) (IS a1 fun k m=>by unfold kpl at m;simpa using(aV.mp m).1);have e5:((ay g.length).filter fun k:Nat=>decide ((k:Int)∈f))=kpl g.length f:=rfl;rw[e5];generalize hX:upd B L _=H6;obtain⟨t5,Y⟩:=eE hX b7;clear hX;unfold mT;ext;refine⟨short (by simp),fun W E=>?_⟩;have R:=y.trans t5;have P:=I.trans R;have T:aR H6 (upd H6 W (.lst [])):=aP E;have c2:L≠W:=fun c7=>by rw[<-c7,Y]at E;cases E
   refine wp_p5 KP a3 (P _ _ J) (cu (Tk.of P) O) rfl (R _ _ b3) (c5.same R) E l4 ⟨T,L,_,T _ _ Y,c2,?_,_,aK,.nil,_,_,_,_,_,rfl⟩ ?_;·have :=cu (Tk.of (t5.trans T)) c0;unfold fnd;simpa using this
   ·intro c8 H7 g7;exact wp_p6 KP a3 b4 k0 l4 b1 U.symm rfl g7 fun H8 p s8 r8=>c4 H8 p (P.trans s8) r8
end K31
namespace K31
open PySem R
abbrev vM:List Str:=["_law_things"]
abbrev n9:List Str:=["_law_things","_law_thing"]
abbrev oq:CB:=
  (.cons (.iff (.not (.bfn .isinstance (.cons (.var 0) (.cons (.ty .tuple) .nil))))
  (.cons (.ret (.con (.bool false)))
  .nil)
  .nil)
  (.cons (.forr (.name 1) (.seq (.var 0))
  (.cons (.iff (.not (.call "_law_whole" (.cons (.var 1) .nil)))
  (.cons (.ret (.con (.bool false)))
  .nil)
  .nil)
  .nil))
  (.cons (.ret (.con (.bool true)))
  .nil)))
abbrev zZ:List Str:=["_law_found"]
abbrev rR:List Str:=["_law_found","_law_node","_law_branch"]
abbrev oB:CB:=
  (.cons (.ret (.con (.bool true)))
  .nil)
abbrev oD:CB:=
  (.cons (.forr (.name 2) (.seq (.idx (.var 0) (.con (.int 1))))
  (.cons (.iff (.or (.not (.bfn .isinstance (.cons (.var 2) (.cons (.ty .tuple) .nil)))) (.cmp .NotEq (.bfn .len (.cons (.var 2) .nil)) (.con (.int 3))))
  (.cons (.ret (.con (.bool false)))
  .nil)
  .nil)
  (.cons (.iff (.or (.not (.call "_law_numbers" (.cons (.idx (.var 2) (.con (.int 0))) .nil))) (.or (.not (.call "_law_numbers" (.cons (.idx (.var 2) (.con (.int 1))) .nil))) (.not (.call "_law_numbers" (.cons (.idx (.var 2) (.con (.int 2))) .nil)))))
  (.cons (.ret (.con (.bool false)))
  .nil)
  .nil)
  .nil)))
  oB)
abbrev oE:CB:=
  (.cons (.forr (.name 1) (.seq (.idx (.var 0) (.con (.int 0))))
  (.cons (.iff (.not (.call "_law_numbers" (.cons (.var 1) .nil)))
  (.cons (.ret (.con (.bool false)))
  .nil)
  .nil)
  .nil))
  oD)
abbrev oF:CB:=
  (.cons (.iff (.or (.not (.bfn .isinstance (.cons (.idx (.var 0) (.con (.int 0))) (.cons (.ty .list) .nil)))) (.not (.bfn .isinstance (.cons (.idx (.var 0) (.con (.int 1))) (.cons (.ty .list) .nil)))))
  (.cons (.ret (.con (.bool false)))
  .nil)
  .nil)
  oE)
abbrev r6:CB:=
  (.cons (.iff (.or (.not (.bfn .isinstance (.cons (.var 0) (.cons (.ty .tuple) .nil)))) (.cmp .NotEq (.bfn .len (.cons (.var 0) .nil)) (.con (.int 2))))
  (.cons (.ret (.con (.bool false)))
  .nil)
  .nil)
  oF)
abbrev p_law:List Str:=["_law_script"]
abbrev Ik:List Str:=["_law_script","_law_many","_law_cells","_law_nodes","_law_links","_law_held_here","_law_names_here","_law_table","_law_due","_law_at","_law_handed","_law_kept","_law_found"]
abbrev uY:CB:=
  (.cons (.ret (.cmp .Eq (.call "tree" (.cons (.var 7) .nil)) (.var 8)))
  .nil)
abbrev AV:CB:=
  (.cons (.expr (.meth0 .clear (.idx (.var 12) (.con (.int 1)))))
  uY)
abbrev AW:CB:=
  (.cons (.expr (.meth1 .append (.idx (.var 12) (.con (.int 0))) (.tup .nil)))
  AV)
abbrev uZ:CB:=
  (.cons (.iff (.or (.not (.call "_law_kinds" (.cons (.var 12) .nil))) (.or (.cmp .NotEq (.var 12) (.var 8)) (.cmp .NotEq (.var 10) (.var 11))))
  (.cons (.ret (.con (.bool false)))
  .nil)
  .nil)
  AW)
abbrev AX:CB:=
  (.cons (.asg (.name 12) (.call "tree" (.cons (.var 10) .nil)))
  uZ)
abbrev AY:CB:=
  (.cons (.asg (.name 11) (.bfn .list (.cons (.var 10) .nil)))
  AX)
abbrev AZ:CB:=
  (.cons (.asg (.name 10) (.bin .Add (.cut (.var 7) (.yes (.var 9)) .no) (.cut (.var 7) .no (.yes (.var 9)))))
  AY)
abbrev u5:CB:=
  (.cons (.asg (.name 9) (.bin .Mod (.call "_law_draw" (.cons (.call "_law_cell_at" (.cons (.var 0) (.cons (.con (.int 0)) .nil))) (.cons (.con (.int 7)) .nil))) (.bin .Add (.bfn .len (.cons (.var 7) .nil)) (.con (.int 1)))))
  AZ)
abbrev D4:CB:=
  (.cons (.iff (.cmp .NotEq (.var 7) (.lst .nil))
  (.cons (.asg (.name 8) (.call "_law_pruned" (.cons (.var 3) (.cons (.var 4) (.cons (.var 5) .nil)))))
  .nil)
  .nil)
  u5)
abbrev D5:CB:=
  (.cons (.asg (.name 8) (.tup (.cons (.lst .nil) (.cons (.lst .nil) .nil))))
  D4)
abbrev D6:CB:=
  (.cons (.asgc 7 (.comp ["_law_k"] [6,3,5] (.name 0) (.range1 (.bfn .len (.cons (.var 5) .nil))) .no (.tup (.cons (.idx (.var 1) (.var 0)) (.cons (.idx (.var 2) (.idx (.var 3) (.var 0))) .nil)))))
  D5)
abbrev D7:CB:=
  (.cons (.asg (.name 6) (.call "_law_names" (.cons (.call "_law_cell_at" (.cons (.var 0) (.cons (.con (.int 0)) .nil))) (.cons (.con (.int 12)) .nil))))
  D6)
abbrev D9:CB:=
  (.cons (.asg (.name 5) (.call "_law_held" (.cons (.var 2) (.cons (.var 3) .nil))))
  D7)
abbrev Ea:CB:=
  (.cons (.asg (.tup (.cons (.name 3) (.cons (.name 4) .nil))) (.call "_law_grown" (.cons (.var 2) (.cons (.var 1) .nil))))
  D9)
abbrev Eb:CB:=
  (.cons (.asg (.name 2) (.cut (.var 0) (.yes (.con (.int 2))) (.yes (.con (.int 14)))))
  Ea)
abbrev Ec:CB:=
  (.cons (.asg (.name 1) (.bin .Mod (.call "_law_draw" (.cons (.call "_law_cell_at" (.cons (.var 0) (.cons (.con (.int 1)) .nil))) (.cons (.con (.int 3)) .nil))) (.con (.int 9))))
  Eb)
abbrev JI:CB:=
  (.cons (.asgc 0 (.comp ["_law_cell"] [0] (.name 0) (.seq (.var 0)) .no (.bin .Add (.bin .Mult (.con (.int 2)) (.var 0)) (.bin .Mod (.bfn .sum (.cons (.cut (.var 1) .no (.yes (.con (.int 1)))) .nil)) (.con (.int 2))))))
  Ec)
end K31
namespace K31
open PySem PySem.Spec PyProof.Rows L2 R Cp Lt Kc K21 K22 Lm M5 K32 K34 K02
def Nu(H:Hp)(v:V):Prop:=∃(a:Addr)(ks:List Int),v=.ref a/\H a=some (.tup (ks.map V.int))
def Nu.same{v:V}(h:Nu H v)(s:aR H H'):Nu H' v:=let⟨a,ks,e,h1⟩:=h;⟨a,ks,e,s _ _ h1⟩
def spNu:Sp:=fun vs H Q _=>∃v,vs=[v]/\Nu H v/\∀H',aR H H'->Q (.bl true) H'
def wp_nu(g:G.fn "_law_whole" 1=some (spB isWhole,[])):Sat G K spNu oq n9:=by
 rintro u H Q E ⟨v,rfl,⟨a,s,rfl,c⟩,q⟩;unfold oq;change wpB G K _ _ _ [some (.ref a),none] H;ext;refine yw c ⟨_,rfl,?_⟩;rw[if_neg (by decide)];refine gS (sr rfl (SqT.of c) ?_);refine fV xX (fun _ b e=>aR H e/\∃t,b=[some (.ref a),t]) ⟨aR.refl _,_,rfl⟩ (fun _ b e _ h=>SqT.of (h.1 _ _ c)) ?_ ?_
 ·rintro i x b f p o hi ⟨d,t,rfl⟩ l m k _;obtain⟨j,_,rfl⟩:=aF.mp (aG l);ext;refine⟨_,_,g,_,rfl,Ck,fun r n=>⟨_,rfl,?_⟩⟩;show if false=true then _ else _
  exact k _ _ ⟨d.trans (m.trans n),_,rfl⟩
 ·rintro b f ⟨d,t,rfl⟩;ext;exact q _ d
structure Tr(H:Hp)(p l1 l2:Addr)(xs ts:List V):Prop where
 ep:H p=some (.tup [.ref l1,.ref l2])
 e1:H l1=some (.lst xs)
 e2:H l2=some (.lst ts)
 nx:∀y∈xs,Nu H y
 nt:∀y∈ts,∃a x y' z,y=.ref a/\H a=some (.tup [x,y',z])/\Nu H x/\Nu H y'/\Nu H z
theorem Tr.same{p l1 l2:Addr}(h:Tr H p l1 l2 xs ts)(s:aR H H'):Tr H' p l1 l2 xs ts:=
 ⟨s _ _ h.ep,s _ _ h.e1,s _ _ h.e2,fun y b=>(h.nx y b).same s,fun y b=>let⟨a,x,y',z,e,e0,n1,n2,n3⟩:=h.nt y b;⟨a,x,y',z,e,s _ _ e0,n1.same s,n2.same s,n3.same s⟩⟩
def spKd:Sp:=fun vs H Q _=>∃p l1 l2 xs ts,vs=[.ref p]/\Tr H p l1 l2 xs ts/\∀H',aR H H'->Q (.bl true) H'
def wp_kd(m:G.fn "_law_numbers" 1=some (spNu,[])):Sat G K spKd r6 rR:=by
 rintro P H Q E ⟨p,l1,l2,R,O,rfl,t,q⟩;unfold r6;change wpB G K _ _ _ [some (.ref p),none,none] H;ext;refine yw t.ep ⟨_,rfl,?_⟩;rw[if_neg (by decide)];refine Or.inl ⟨p,_,rfl,.inr (SqT.of t.ep),?_⟩;ext;rw[if_neg (by simp)];unfold oF;ext;refine .inr (.inl ⟨p,_,0,_,rfl,rfl,SqT.of t.ep,bS (j:=0) rfl,Aq t.e1 ⟨_,rfl,?_⟩⟩);rw[if_neg (by decide)];refine .inr (.inl ⟨p,_,1,_,rfl,rfl,SqT.of t.ep,bS (j:=1) rfl,Aq t.e2 ⟨_,rfl,?_⟩⟩);rw[if_neg (by decide)];unfold oE;ext;refine gS ?_;simp only[yz];ext;refine .inr (.inl ⟨p,_,0,_,rfl,rfl,SqT.of t.ep,bS (j:=0) rfl,.inl ⟨l1,rfl,⟨_,SqL.of t.e1⟩,?_⟩⟩);refine fV fv (fun _ d f=>aR H f/\∃a b,d=[some (.ref p),a,b]) ⟨aR.refl _,_,_,rfl⟩ (fun _ d f _ h=>SqL.of (h.1 _ _ t.e1)) ?_ ?_
 ·rintro i x d v w y hi ⟨k,a,b,rfl⟩ s e r _;ext;refine⟨_,_,m,x,rfl,(t.nx x (aG s)).same (k.trans e),fun z n=>⟨_,rfl,?_⟩⟩;show if false=true then _ else _
  exact r _ _ ⟨k.trans (e.trans n),_,_,rfl⟩
 rintro d v ⟨k,a,b,rfl⟩;have o:=t.same k;unfold oD;ext;refine gS ?_;simp only[yz];ext;refine .inr (.inl ⟨p,_,1,_,rfl,rfl,SqT.of o.ep,bS (j:=1) rfl,.inl ⟨l2,rfl,⟨_,SqL.of o.e2⟩,?_⟩⟩);refine fV fv (fun _ d f=>aR v f/\∃a b,d=[some (.ref p),a,b]) ⟨aR.refl _,_,_,rfl⟩ (fun _ d f _ h=>SqL.of (h.1 _ _ o.e2)) ?_ ?_
 ·rintro i x d w z y hi ⟨e,a,b,rfl⟩ s n r _;obtain⟨c,F,I,J,rfl,g,A,B,C⟩:=(o.same (e.trans n)).nt x (aG s);ext;refine yw g ⟨_,rfl,?_⟩;rw[if_neg (by decide)];refine Or.inl ⟨c,_,rfl,.inr (SqT.of g),?_⟩;ext;rw[if_neg (by simp)];refine⟨_,_,m,.inr (.inl ⟨c,_,0,_,rfl,rfl,SqT.of g,bS (j:=0) rfl,F,rfl,A,fun L l=>⟨_,rfl,?_⟩⟩)⟩;show if false=true then _ else _
  refine⟨_,_,m,.inr (.inl ⟨c,_,1,_,rfl,rfl,SqT.of (l _ _ g),bS (j:=1) rfl,I,rfl,B.same l,fun M u=>⟨_,rfl,?_⟩⟩)⟩;show if false=true then _ else _
  refine⟨_,_,m,.inr (.inl ⟨c,_,2,_,rfl,rfl,SqT.of (u _ _ (l _ _ g)),bS (j:=2) rfl,J,rfl,(C.same l).same u,fun N D=>⟨_,rfl,?_⟩⟩)⟩;show if false=true then _ else _
  exact r _ _ ⟨e.trans (n.trans (l.trans (u.trans D))),_,_,rfl⟩
 ·rintro d w ⟨e,a,b,rfl⟩;unfold oB;ext;exact q _ (k.trans e)
mutual
theorem Hl(b:∀a xs,SqL K H a xs->SqL K H' a xs)(c:∀a xs,SqT K H a xs->SqT K H' a xs):∀{d:L2.D}{v:V},Rep K H d v->Rep K H' d v
 |.non,_,h=>h
 |.bl _,_,h=>h
 |.int _,_,h=>h
 |.str _,_,h=>h
 |.tup ds,_,h=>by obtain⟨a,xs,e,f,g⟩:=h;exact⟨a,xs,e,c _ _ f,x4 b c g⟩
 |.lst ds,_,h=>by obtain⟨a,xs,e,f,g⟩:=h;exact⟨a,xs,e,b _ _ f,x4 b c g⟩
theorem x4(b:∀a xs,SqL K H a xs->SqL K H' a xs)(c:∀a xs,SqT K H a xs->SqT K H' a xs):∀{ds:List L2.D}{xs:List V},fY K H ds xs->fY K H' ds xs
 | [],_,h=>h
 |d::ds,_,h=>by obtain⟨x,r,e,f,g⟩:=h;exact⟨x,r,e,Hl b c f,x4 b c g⟩
end
def BV{T:Tb}{d:L2.D}{v:V}(g:Gr T H H')(t:Tab T H)(h:Rep K H d v):Rep K H' d v:=Hl (fun _ _=>g.seq t) (fun _ _=>g.tup t) h
structure G1(G:Gam)(K:ao)(T:Tb):Prop where
 c0:G.fn "_law_cell_at" 2=some (BN K,[])
 c1:G.fn "_law_draw" 2=some (kH,[])
 c2:G.fn "_law_names" 2=some (xJ,[])
 c3:G.fn "_law_grown" 2=some (GY K,[])
 c4:G.fn "_law_held" 2=some (BL K,[])
 c5:G.fn "_law_pruned" 3=some (GW K,[])
 c6:G.fn "_law_kinds" 1=some (spKd,[])
 c8:G.fn "tree" 1=some (K83.tP T,[])
abbrev dD(ys:List V)(rows:List (List Int))(n:Nat):L2.D:=if ys=[]then .tup [.lst [],.lst []]else M9.trD rows n
def I0:hgt (dD ys rows n)<=20:=by
 unfold dD;split;·decide
 ·exact M9.hgt_D _ _
def GC{R:List (Str×List V)}{p:Addr}(hf:R≠[]->∀q,q<n->K32.fr (K32.rI R) q=0\/K32.fr (K32.rI R) q=1)(t:K32.JP R n H H' p):∃l1 l2 xs ts,Tr H' p l1 l2 xs ts/\xs.length<=n+1/\H l1=none/\H l2=none/\l1≠l2:=by
 rcases t with⟨_,a,b,l,I,m,ne,F,g⟩ |⟨u,P,bl,O,bs,o,l,J,m,ne,f,r,s,v,bk,G,g⟩;·exact⟨a,b,[],[],⟨l,F,g,(fun y c=>by cases c),(fun y c=>by cases c)⟩,aW _,I,m,ne⟩
 ·have A:=M5.pU (hf u) f;have w:=M5.yU (hf u) f;have E:(M5.brK (K32.fr (K32.rI R)) n (K32.grp (K32.rI R)) o).map _root_.Q.kP=o.map (K83.brF (K32.rI R) n):=by unfold M5.brK;rw[bq];rfl
  rw[E]at w g;have B:=K83.lP (d:=([]:List Int)) A (K83.ud v).symm v;have Q:=K83.lP (d:=(0:Int)) w (by rw[ak];exact(K83.ud bk).symm) bk;have L:(_root_.Q.dk V.non (M5.fM (K32.fr (K32.rI R)) n (K32.grp (K32.rI R)) o) O).length<=n+1:=by
   have C:=K83.ud B;have j:=(M9.GU A).length_eq;have D:=f.1.length_le_of_subset (l₂:=(ay n).map fun p=>(K32.grp (K32.rI R) p:Int)) fun x N=>by obtain⟨p,M,rfl⟩:=f.2 x N;exact aF.mpr ⟨p,aJ.mpr M,rfl⟩
   rw[ak,bC]at D;unfold M8.vH at j;unfold M5.fM at C j⊢;rw[bz,ak]at j;lia
  refine⟨P,bl,_,_,⟨l,G,g,fun y c=>?_,fun y c=>?_⟩,L,J,m,ne⟩;·obtain⟨i,hi⟩:=bG.mp c;obtain⟨k,_,a,e,h⟩:=K83.HB B hi;exact⟨a,k,e,h⟩
  ·obtain⟨i,hi⟩:=bG.mp c;obtain⟨k,_,a,x,S,z,e,K,f,r,s⟩:=K83.HB Q hi;exact⟨a,_,_,_,e,K,⟨x,_,rfl,f⟩,⟨S,_,rfl,r⟩,⟨z,_,rfl,s⟩⟩
section
variable {G:Gam}{T:Tb}{E:XS}{D:Ends}{Q:VK}{t:Addr}{nf:Nat->Str}
def tree_m{x:V}(d:Tn H t nf n ys rows)(tb:Tab T H)(k1:Kn4 H x)(k2:dP H x=true)(k3:rowsOf H x=rowsOf H (.ref t))(c:Cp.count H x=Cp.count H (.ref t))
  (q:∀H' p l1 l2 xs ts,Gr T H H'->Tr H' p l1 l2 xs ts->xs.length<=Cp.count H (.ref t)+1->H l1=none->H l2=none->l1≠l2->Rep K H' (dD ys rows n) (.ref p)->Q (.ref p) H')(s:L2.St):K83.tP T [x] H Q (E s):=by
 obtain⟨u,e,_,_,_,_,f⟩:=GD (K:=K) (Q:=fun v H'=>Rep K H' (dD ys rows n) v) (E:=E) d tb (fun H' p _ _ r=>r) s;obtain rfl:u=.ref t:=by simpa using e.symm
 refine⟨x,rfl,k1,tb,k2,by rw[k3,c];exact d.noc,fun H' p gr i tk=>?_⟩;rw[k3,c]at tk;have r:=f H' p gr i tk;have hf:rowsOf H (.ref t)≠[]->∀q,q<Cp.count H (.ref t)->K32.fr (K32.rI (rowsOf H (.ref t))) q=0\/K32.fr (K32.rI (rowsOf H (.ref t))) q=1:=fun b q hq=>by
  have j:ys≠[]:=fun z=>b (by have :=d.perm.length_eq;rw[ak,z]at this;exact bx.mp this)
  have m:=d.tbl j;have :(K32.rI (rowsOf H (.ref t))).getD 0 []∈rows:=by
   refine(d.mem _).mp ?_;cases hz:rowsOf H (.ref t)with
   |nil=>exact absurd hz b
   |cons a l=>exact au
  exact(m.ok _ this).at q
 obtain⟨l1,l2,xs,ts,o,k,g,h,ne⟩:=GC hf tk;exact q H' p l1 l2 xs ts gr o k g h ne r
structure Lx(T:Tb)(K:ao)(H:Hp)(t du:Addr)(nf:Nat->Str)(n:Nat)(ys:List V)(rows:List (List Int)):Prop where
 d:Tn H t nf n ys rows
 du:Rep K H (dD ys rows n) (.ref du)
 tb:Tab T H
 l12:ys.length<=12
theorem Lx.gr{a:Addr}(w:Lx T K H t a nf n ys rows)(g:Gr T H H'):Lx T K H' t a nf n ys rows:=⟨w.d.gr g w.tb,BV g w.tb w.du,g.tab w.tb,w.l12⟩
def eq_d{v w:V}{dd:L2.D}(a:Rep K H dd v)(b:Rep K H dd w)(c:hgt dd<=20)(q:Q (.bl true) H):iK K .Eq v w H Q:=⟨dd,dd,a,b,by lia,by rw[qh];exact q⟩
def ne_d{v w:V}{dd:L2.D}(a:Rep K H dd v)(b:Rep K H dd w)(c:hgt dd<=20)(q:Q (.bl false) H):iK K .NotEq v w H Q:=⟨dd,dd,a,b,by lia,by rw[qh];exact q⟩
variable {du p l1 l2 hd kt:Addr}{a0 a1 a2 a3 a4 a5 a6 a9 a10 a11 a12:Option V}
def lw_17(g:G1 G K T)(w:Lx T K H t du nf n ys rows)(a:D.rt=Q)(q:∀H',Q (.bl true) H'):wpB G K E uY D [a0,a1,a2,a3,a4,a5,a6,some (.ref t),some (.ref du),a9,a10,a11,a12] H:=by unfold uY;ext;refine⟨_,_,g.c8,GD (E:=E) (K:=K) w.d w.tb (fun c p gr _ b=>?_) _⟩;refine eq_d b (w.gr gr).du I0 ?_;rw[a];exact q _
def lw_14(g:G1 G K T)(w:Lx T K H1 t du nf n ys rows)(gr:Gr T H1 H)(l:Tr H p l1 l2 xs ts)(lx:xs.length<=40)(m:H1 l1=none)(o:H1 l2=none)(ne:l1≠l2)(C:Rep K H (dD ys rows n) (.ref p)){e:L2.D}(v:hgt e<=20)(A:Rep K H e (.ref hd))(B:Rep K H e (.ref kt))(x:D.rt=Q)(q:∀H',Q (.bl true) H'):
  wpB G K E uZ D [a0,a1,a2,a3,a4,a5,a6,some (.ref t),some (.ref du),a9,some (.ref hd),some (.ref kt),some (.ref p)] H:=by
 have F:=w.gr gr;unfold uZ;ext;refine⟨_,_,g.c6,p,l1,l2,xs,ts,rfl,l,fun d a=>⟨_,rfl,?_⟩⟩;show if false=true then _ else _
 rw[if_neg aA];refine ne_d (C.same a) ((F.gr (Gr.of a)).du) I0 ⟨_,rfl,?_⟩;rw[if_neg aA];refine ne_d (A.same a) (B.same a) v ⟨_,rfl,?_⟩;rw[if_neg aA];have h:=l.same a;have r:=gr.trans (Gr.of (T:=T) a);unfold AW;ext;refine .inr (.inl ⟨p,_,0,_,rfl,rfl,SqT.of h.ep,bS (j:=0) rfl,.inl ⟨rfl,_,SqL.of h.e1⟩,aW _,fun u y=>?_⟩);have f:aR d (upd d u (.tup [])):=aP y;generalize upd d u (.tup [])=H3 at f;have b:=h.same f;have s:=r.trans (Gr.of (T:=T) f);refine⟨l1,xs,_,rfl,rfl,b.e1,dB lx (by decide),?_⟩;have k:Gr T H1 (upd H3 l1 (.lst (xs++[.ref u]))):=Gr.new s m b.e1;have c:upd H3 l1 (.lst (xs++[.ref u])) l2=some (.lst ts):=by rw[bD (bO ne)];exact b.e2
 have i:upd H3 l1 (.lst (xs++[.ref u])) p=some (.tup [.ref l1,.ref l2]):=by rw[bD (fun z=>by have :=b.ep;rw[z,b.e1]at this;cases this)];exact b.ep
 generalize upd H3 l1 (.lst (xs++[.ref u]))=H4 at k c i;unfold AV;ext;refine .inr (.inl ⟨p,_,1,_,rfl,rfl,SqT.of i,bS (j:=1) rfl,.inl ⟨rfl,_,SqL.of c⟩,?_⟩);refine⟨l2,ts,rfl,rfl,c,?_⟩;exact lw_17 g (w.gr (Gr.new k o c)) x q
def lw_10(g:G1 G K T)(J:SqL K H b (ns.map V.int))(w:Lx T K H t du nf n ys rows)(n8:n<=8)(S:D.rt=Q)(q:∀H',Q (.bl true) H'):
  wpB G K E u5 D [some (.ref b),a1,a2,a3,a4,a5,a6,some (.ref t),some (.ref du),none,none,none,none] H:=by
 have a9:=w.l12;unfold u5;ext;refine⟨_,_,g.c1,_,_,g.c0,b,ns,0,rfl,J,_,7,rfl,by decide,by decide,Or.inl ⟨t,ys,rfl,.inl (SqL.of w.d.et),?_⟩⟩;ext;have W:0<=draw (ns.getD 0 0) 7%((ys.length:Int)+1):=bY _ (by lia);have i1:draw (ns.getD 0 0) 7%((ys.length:Int)+1)<(ys.length:Int)+1:=cC _ (by lia);obtain⟨z,U⟩:=cE W;rw[U];refine⟨by lia,?_⟩;unfold AZ;ext;have l:z<=ys.length:=by lia
 have v:o5 ys (some (z:Int)) none=ys.drop z:=by unfold o5;rw[HT.tV,HT.pO,zh l,fk (by rw[my];lia)]
 have x:o5 ys none (some (z:Int))=ys.take z:=by unfold o5;rw[HT.tV,HT.pO,zh l,zt,F4]
 refine .inl ⟨t,ys,rfl,SqL.of w.d.et,fun m N=>?_⟩;rw[v];generalize hX:upd H m _=H8;obtain⟨r,A⟩:=eE hX N;clear hX;refine .inl ⟨t,ys,rfl,SqL.of (r _ _ w.d.et),fun o O=>?_⟩;rw[x];generalize hX:upd H8 o _=H9;obtain⟨s,B⟩:=eE hX O;clear hX;have M:(ys.drop z).length+(ys.take z).length<=40:=by rw[my,cy];lia
 refine .inr (.inr (.inl ⟨m,o,_,_,rfl,rfl,s _ _ A,B,bf M (by decide),fun f P=>?_⟩));have i:(ys.drop z++ys.take z).Perm ys:=by
  have :=List.perm_append_comm (l₁:=ys.drop z) (l₂:=ys.take z)
  rwa [F7]at this
 generalize ys.drop z++ys.take z=zs at i;generalize hX:upd H9 f _=H10;obtain⟨a0,j⟩:=eE hX P;clear hX;have a7:aR H H10:=r.trans (s.trans a0);unfold AY;ext;refine⟨f,zs,rfl,.inl (SqL.of j),fun h R=>?_⟩;generalize hX:upd H10 h _=H11;obtain⟨p,C⟩:=eE hX R;clear hX;have a:=w.gr (Gr.of (T:=T) (a7.trans p));have k:=p _ _ j;obtain⟨X,Y,Z,k4⟩:=HF a.d.et a.d.tab.1 a.d.tab.2.1 k i;obtain⟨c,rd,hg⟩:=mD (K:=K) zs fun y d=>a.d.tab.2.2.1 y (i.mem_iff.mp d);have rh:Rep K H11 (.lst c) (.ref f):=⟨f,zs,rfl,SqL.of k,rd⟩;have rk:Rep K H11 (.lst c) (.ref h):=⟨h,zs,rfl,SqL.of C,rd⟩;have L:hgt (.lst c)<=20:=by show gK c+1<=20;lia
 unfold AX;ext;refine⟨_,_,g.c8,tree_m (E:=E) (K:=K) a.d a.tb X Y Z k4 (fun a8 b0 l1 l2 xs ts gr tr ll F I ne rp=>?_) _⟩;refine lw_14 g a gr tr ?_ F I ne rp L (BV gr a.tb rh) (BV gr a.tb rk) S q;by_cases d:ys=[]
 ·have e:=a.d.et;rw[d]at e;have :Cp.count H11 (.ref t)=0:=by
   have u:dZ (H11 t)=some []:=by rw[e];rfl
   show(match dZ (H11 t)with |some (y::_)=>cz H11 y|_=>0)=0;rw[u]
  lia
 ·rw[a.d.count d]at ll;lia
end
def GX(K:ao)(T:Tb):Sp:=fun vs H Q _=>∃(a:Addr)(ns:List Int),vs=[.ref a]/\SqL K H a (ns.map V.int)/\ns.length<=63/\Tab T H/\∀H',Q (.bl true) H'
def wp_law{T:Tb}(g:G1 G K T):Sat G K (GX K T) JI Ik:=by
 rintro o c3 e9 e7 ⟨a,ns,rfl,Z,d3,e6,b6⟩;unfold JI;change wpB G K _ _ _ [some (.ref a),none,none,none,none,none,none,none,none,none,none,none,none] c3;ext;refine eJ (dM rfl Z (fg fv (by rw[ak];exact bf d3 (by decide)) (fun H1 s1=>s1.seq Z) (fun i v _=>∃m:Int,v=.int m) (fun _ _ _ _ _ h=>h) (fun I=>∃t,I=[t,some (.ref a)]) ⟨none,rfl⟩ ?_ ?_))
 ·rintro i a5 I H3 c4 hi ⟨t,rfl⟩ s3 u k;obtain⟨m,X⟩:∃m:Int,a5=.int m:=by obtain⟨m,_,rfl⟩:=aF.mp (aG u);exact⟨m,rfl⟩
  subst X;ext;refine⟨qk (by decide) (by decide),.inl ⟨a,_,rfl,s3.seq Z,fun l hl=>?_⟩⟩;obtain⟨D,L⟩:=AJ ns none (some 1);refine⟨l,D,rfl,by rw[<-L];exact SqL.of aK,?_⟩;ext;exact⟨by decide,k _ _ _ ⟨_,rfl⟩ (aP hl) ⟨_,rfl⟩⟩
 intro o H1 b b3 R s1 hb;obtain⟨p,rfl⟩:=K21.p5 R;generalize hX:upd H1 b _=H2;obtain⟨s2,B⟩:=eE hX hb;clear hX
 replace s2:=s1.trans (s2)
 have c2:=(Gr.of (T:=T) s2).tab e6;unfold Ec;ext;refine⟨_,_,g.c1,_,_,g.c0,b,p,1,rfl,SqL.of B,_,3,rfl,by decide,by decide,?_⟩;ext;have h0:0<=K21.draw (p.getD 1 0) 3%9:=bY _ (by decide);have s:K21.draw (p.getD 1 0) 3%9<9:=cC _ (by decide);obtain⟨n,hn⟩:=cE h0;rw[hn];have n8:n<=8:=by lia
 refine⟨by decide,?_⟩;obtain⟨D,L⟩:=AJ p (some 2) (some 14);have f2:D.length<=12:=by have :=cut_len (p.map V.int);rw[L,ak]at this;exact this
 unfold Eb;ext;refine .inl ⟨b,_,rfl,SqL.of B,fun a1 hp=>?_⟩;rw[L];generalize hX:upd H2 a1 _=H4;obtain⟨s4,ep⟩:=eE hX hp;clear hX;unfold Ea;ext;refine⟨_,_,g.c3,a1,D,n,rfl,SqL.of ep,by lia,by lia,fun H5 pr nd lk N ls s5 c9 fnd a7 c7 d7 f3 A El ik e3 gl=>?_⟩;refine⟨pr,_,rfl,SqT.of c9,rfl,_,_,rfl,_,_,rfl,rfl,?_⟩;unfold D9;ext;refine⟨_,_,g.c4,a1,nd,D,N,rfl,SqL.of (s5 _ _ ep),SqL.of a7,by lia,d7,fun H6 l2 f s6 f1 c6 f0 U=>?_⟩;have b9:=s4.trans (s5.trans s6);unfold D7;ext;refine⟨_,_,g.c2,_,_,g.c0,b,p,0,rfl,SqL.of (b9 _ _ B),_,12,rfl,by decide,fun H7 l s7 hl a6=>?_⟩;generalize p.getD 0 0=c at a6;have M:=s6.trans s7;have a8:=M _ _ a7;have c8:=M _ _ c7;have P:=s7 _ _ c6;have b4:=cu (Tk.of M) ik;have e4:=e3.same M;have yl:A.length=N.length:=ff ik;unfold D6;ext;refine eJ ?_;ext;refine Or.inl ⟨l2,_,rfl,.inl (SqL.of P),_,rfl,by rw[ak];lia,by rw[ak];lia,?_⟩;refine fg dX (short (by simp;lia)) (fun _ _=>trivial) (fun k v H'=>∃b r,v=.ref b/\H' b=some (.tup [.str (K21.nm c k),.ref r])/\H' r=some (.tup ((ndv A (f.getD k 0).toNat).map V.int)))
  (fun k v O q b7 ⟨b,r,s,C,Q⟩=>⟨b,r,s,b7 _ _ C,b7 _ _ Q⟩) (fun I=>∃t,I=[t,some (.ref l),some (.ref nd),some (.ref l2)]) ⟨none,rfl⟩ ?_ ?_
 ·rintro k x I O c4 hk ⟨t,rfl⟩ w rfl kk;ext;simp only[eP];have W:k<f.length:=by simpa using hk
  have d1:((ay 12).map fun k=>V.str (K21.nm c k))[k]? =some (.str (K21.nm c k)):=by rw[ax,bP (by lia)];rfl
  have d2:f.getD k 0∈f:=by rw[af,ae W];exact ck W
  obtain⟨i0,i1⟩:=U _ d2;obtain⟨z,hz⟩:=cE i0;have d8:z<N.length:=by lia
  obtain⟨r,e1,e2⟩:=Au b4 d8;refine .inl ⟨l,_,k,_,rfl,rfl,SqL.of (w _ _ a6),bS d1,?_⟩;refine .inl ⟨l2,_,k,_,rfl,rfl,SqL.of (w _ _ P),bS (jb W),?_⟩;rw[hz];refine .inl ⟨nd,_,z,_,rfl,rfl,SqL.of (w _ _ a8),bS e1,short (by simp),fun tp b2=>?_⟩;refine kk _ _ _ ⟨_,rfl⟩ (aP b2) ⟨tp,r,rfl,aK,?_⟩;rw[hz,ba];exact aP b2 _ _ (w _ _ e2)
 ·intro o O t b3 R w ht;have a0:o.length=f.length:=by simpa using b3
  generalize hX:upd O t _=q;obtain⟨s9,et⟩:=eE hX ht;clear hX;have c0:=w.trans s9;have sub:∀x∈f.map (fun h=>ndv A h.toNat),x∈A:=fun x hx=>by obtain⟨h,X,rfl⟩:=aF.mp hx;obtain⟨i0,i1⟩:=U _ X;exact nv (by lia)
  have d9:Tn q t (K21.nm c) n o (f.map fun h=>ndv A h.toNat):=by
   refine⟨et,by simp[a0],fun i a5 e=>?_,K21.nm_ok c,fun i b5 hi hj e=>K21.nm_inj (by lia) (by lia) e,by lia,by lia,fun x hx=>gl.gt.ok x (sub x hx),fun i b5 s C=>(gl.gt.mis i b5 s C).sub sub⟩;obtain⟨b',r,s,C,Q⟩:=R i a5 e;refine⟨b',r,s,s9 _ _ C,?_⟩;have hi:i<f.length:=by rw[<-a0];exact(aM.mp e).1
   rw[s9 _ _ Q,af (l:=f.map _),ax,ae hi,af,ae hi];rfl
  have b8:=b9.trans (s7.trans c0);have f4:=(Gr.of (T:=T) b8).tab c2;unfold D5;ext;refine⟨aW _,fun E d6=>⟨aW _,fun F b1=>⟨short (by simp),fun q3 Y=>?_⟩⟩⟩;have u1:aR q (upd q E (.lst [])):=aP d6;have a9:upd q E (.lst []) E=_:=aK;generalize upd q E (.lst [])=H10 at u1 a9 b1 Y⊢;have u2:aR H10 (upd H10 F (.lst [])):=aP b1;have b0:upd H10 F (.lst []) F=_:=aK;generalize upd H10 F (.lst [])=H11 at u2 b0 Y⊢;generalize hX:upd H11 q3 _=H12;obtain⟨u3,d0⟩:=eE hX Y;clear hX;have a4:=u1.trans (u2.trans u3);have e5:=c0.trans a4;have c5:=d9.same a4;unfold D4;ext;refine⟨aW _,fun p0 d5=>?_⟩;generalize hX:upd H12 p0 _=H13;obtain⟨y,e0⟩:=eE hX d5;clear hX;have J:=c5.same y;have a3:=b8.trans (a4.trans y);have c1:=(Gr.of (T:=T) a3).tab c2;have H:=e5.trans y;obtain⟨j,r2,r3⟩:=mD (K:=K) o J.tab.2.2.1;refine⟨.lst j,.lst [],⟨t,o,rfl,SqL.of J.et,r2⟩,⟨p0,[],rfl,SqL.of e0,rfl⟩,by show gK j+1<=30;lia,_,rfl,?_⟩;by_cases u:o=[]
  ·subst u;have S:j=[]:=by
    cases j with
    |nil=>rfl
    |cons d j=>obtain⟨_,_,e,_⟩:=r2;cases e
   rw[S,qh];show if false=true then _ else _
   rw[if_neg aA];refine lw_10 g (SqL.of (a3 _ _ B)) ⟨J,?_,c1,by lia⟩ n8 rfl b6;unfold dD;rw[if_pos rfl];exact⟨q3,_,rfl,SqT.of (y _ _ d0),_,_,rfl,⟨E,_,rfl,SqL.of ((u2.trans (u3.trans y)) _ _ a9),rfl⟩,_,_,rfl,⟨F,_,rfl,SqL.of ((u3.trans y) _ _ b0),rfl⟩,rfl⟩
  ·have S:eqD (.lst j) (.lst [])=false:=by
    cases j with
    |nil=>exact absurd (show o=[]from r2) u
    |cons d j=>simp[eqD,nU]
   rw[S];show if true=true then _ else _
   rw[if_pos rfl];have d4:f≠[]:=fun z=>u (bx.mp (by rw[a0,z];rfl));refine⟨_,_,g.c5,nd,lk,l2,N,ls,A,El,f,n,rfl,H _ _ a8,H _ _ c8,H _ _ P,cu (Tk.of H) b4,e4.same H,gl,U,d4,by lia,by lia,fun e8 du a2 rp=>?_⟩;refine lw_10 g (SqL.of (a2 _ _ (a3 _ _ B))) ⟨J.same a2,?_,(Gr.of (T:=T) a2).tab c1,by lia⟩ n8 rfl b6;unfold dD;rw[if_neg u];exact rp
end K31
set_option maxHeartbeats 0
namespace K31
open PySem PySem.Spec PySem.Calls PyProof.Rows L2 R Cp Lt Lm
abbrev IC(st:Stmt):Pos:=match bJ st with
 |_::.Assign _ (.Call _ _ [⟨_,.Lambda _ _ _ p,_⟩] _) _::_=>p
 |_=>⟨0,0,0,0⟩
abbrev tb(p:Addr):Tb:=⟨p,IC (top 16),"table_list.<locals>.<lambda>"⟩
def tl_ok:(pS jz pQ (bc (top 16))&&chkK (bc (top 16)) jz kU 1 (.var 0) "copy" (IC (top 16)) kT (bJ (top 16)))=true:=by decide+kernel
def tl_q:("table_list":Str)++".<locals>."++"<lambda>"="table_list.<locals>.<lambda>":=by decide+kernel
abbrev vals(C kd:Addr):List (Str×V):=[("LETTERS",.str LETTERS),("LONGEST_NAME",.int 8),("MOST_PLACES",.int 60),("MOST_COPIES",.int 40),("NoTable",.ref C),("KINDS",.ref kd)]
def sU{b:Array (Option Value)}{i j:Int}{t u:Tok}(l:K.lookup a=some ⟨.type "tuple",od,.seq #[.int i t,.int j u] n,b⟩)(H:Hp):SqT K H a [.int i,.int j]:=
 .inr ⟨_,_,_,l,rfl,rfl,by show 2<=sizeLine;decide,.cons ⟨t,rfl⟩ (.cons ⟨u,rfl⟩ .nil)⟩
def IF{a b c d:Addr}{g h i j:Nat}{m k:Array (Option Value)}{o p q t3 r u1 s t:Tok}(l:K.lookup kd=some ⟨.type "tuple",od,.seq #[.ref a,.ref b,.ref c,.ref d] n,m⟩)
  (e:K.lookup a=some ⟨.type "tuple",o0,.seq #[.int 0 o,.int 0 r] g,s0⟩)(l1:K.lookup b=some ⟨.type "tuple",o1,.seq #[.int 0 p,.int 1 u1] h,k⟩)(l2:K.lookup c=some ⟨.type "tuple",o2,.seq #[.int 1 q,.int 0 s] i,s2⟩)(f:K.lookup d=some ⟨.type "tuple",o3,.seq #[.int 1 t3,.int 1 t] j,s3⟩):Kc.Kinds K kd:=
 ⟨a,b,c,d,fun H=>⟨.inr ⟨_,_,_,l,rfl,rfl,by show 4<=sizeLine;decide,.cons rfl (.cons rfl (.cons rfl (.cons rfl .nil)))⟩,sU e H,sU l1 H,sU l2 H,sU f H⟩⟩
def yZ(K:ao)(x:Str)(st:Stmt)(c p:Addr):Prop:=∃(f:Addr)(oc:Value)(od an:Option Addr)(am:Array (Option Value))(kV ah pm ct:Value),eZ K bX x=some (some (.ref f))/\
 K.lookup f=some ⟨oc,od,.func (aS x x (cg st) (bJ st) (bc st) .none kV ah pm an (.ref c) ct),am⟩/\fR K (.ref c) x=true/\cN K (.ref f)=true/\J3 K c p=true
def wJ{st:Stmt}{p:Addr}{an:Option Addr}{kV:Value}(a:eZ K bX x=some (some (.ref f)))
  (l:K.lookup f=some ⟨oc,od,.func (aS x x (cg st) (bJ st) (bc st) .none kV ah pm an (.ref c) ct),am⟩)(k:fR K (.ref c) x=true)(q:cN K (.ref f)=true)(h:J3 K c p=true):∃c,yZ K x st c p:=
 ⟨c,f,oc,od,an,am,kV,ah,pm,ct,a,l,k,q,h⟩
def add_fnK{vals:List (Str×V)}{e:List ((Str×Nat)×(Sp×List V))}{st:Stmt}{ps:List Str}{sp:Sp}{o:CS}{r:R.CE}{q:CB}{T:Tb}{j:List ((Str×Nat)×(Addr×Sp×List V))}{b:List (Addr×List (Key×V))}
  (g:GOk P w K mg base (CXx P w) k (gam vals e j b))(X:K.In h)(u:K.In base)(t:h.Ns bX mg)(d:yZ K x st c T.P)(m:(pS N ps (bc st)&&chkK (bc st) N o i r lx T.pos q (bJ st))=true)(hq:x++".<locals>."++"<lambda>"=T.q)(z:BM mg base)
  (B:∀(p:Pos)(y:Expr)(scope:Scope)(qual:Str)(pm bn v:Value)(c':Addr),pA (PySem.W.kla_fn "<lambda>" qual (pZ lx p) y scope [] pm (.ref c') bn) ⟨[v],[]⟩=pure [(lx,v)])
  (A:∀(kV ah pm:Value)(an:Option Addr)(ag ct:Value)(us:List Value),us.length=ps.length->pA (aS x x (cg st) (bJ st) (bc st) .none kV ah pm an ag ct) ⟨us,[]⟩=pure (ps.zip us))(len:∀vs H Q E,sp vs H Q E->vs.length=ps.length)
  (C:∀vs H Q E,sp vs H Q E->vG (R.wpS (gam vals e j b) K (fun _=>E) o) (vG (xF (tK K T (wpE (gam vals e j b) K (fun _=>E) r)) (me i)) (wpB (gam vals e j b) K (fun _=>E) q)) {nx:=fun _ H'=>Q .non H',rt:=Q} (L2.start N vs) H):
  GOk P w K mg base (CXx P w) (k+1) (gam vals (((x,ps.length),(sp,[]))::e) j b):=by
 rw[aL]at m;obtain⟨f,I,J,an,L,kV,ah,pm,ct,a,l,D,s,G⟩:=d;have F:=Cs l D s;exact g.add (n:=ps.length) (Ji F m.1 m.2 rfl (Eo u G) hq z B g len C) (fG X t a) s (F.binds A) .nil
set_option hygiene false in
local macro_rules
 | `(#v[])=>`((by kernel_rfl))
 | `(#v[0])=>`(Kc.i4 h rfl)
 | `(#v[1,$z])=>`(Kc.dG h fun _ h=>$z)
 | `(#v[1])=>`(fun _ _ _ _ _ _ f b=>by obtain⟨_,rfl⟩:=Kc.gF b;rfl)
 | `(#v[2])=>`(fun _ _ _ _ _ _ f b=>by obtain⟨_,_,rfl⟩:=Kc.lL b;rfl)
 | `(#v[3])=>`(fun _ _ _ _ _ _ f b=>by obtain⟨_,_,_,rfl⟩:=Kc.zC b;rfl)
 | `(#v[$N,$p,$g,$d,$s,$w,$e,$z])=>`(eN (N:=$N) (ps:=$p) $g (HasFn.def X d $d) (by decide+kernel) $e (sp:=$s) (fun _ _ _ _ h=>$z) ($w))
def all_mk{p:Addr}(X:K.In h)(d:h.Ns bX mg)(c6:mg "law"=some (.ref fa)){k l t3 m:Tok}
  (v1:eZ K bX "LETTERS"=some (some (.str LETTERS k)))(v2:eZ K bX "LONGEST_NAME"=some (some (.int 8 l)))(v3:eZ K bX "MOST_PLACES"=some (some (.int 60 t3)))(v4:eZ K bX "MOST_COPIES"=some (some (.int 40 m)))(v5:eZ K bX "NoTable"=some (some (.ref C)))(v6:eZ K bX "KINDS"=some (some (.ref kd)))
  (xc:XC K C)(c8:Kc.Kinds K kd)(bl:∀x∈jh,eZ K bX x=some none)
  (h9:HasFn K "is_whole" (top 9))(a1:HasFn K "is_name" (top 10))(a2:HasFn K "is_reading" (top 11))(a3:HasFn K "are_readings" (top 12))(a4:HasFn K "is_copy" (top 13))(a5:HasFn K "is_table" (top 14))(a6:HasFn K "need_table" (top 15))(a7:HasFn K "place_count" (top 17))(a8:HasFn K "first_of_kinds" (top 20))(a9:HasFn K "clash" (top 21))(b0:HasFn K "refuse_clash" (top 22))(b1:HasFn K "group_at" (top 24))(b2:HasFn K "turned" (top 25))(b3:HasFn K "grown" (top 26))(b4:HasFn K "tree" (top 27))(b5:HasFn K "_law_cell_at" (top 29))(b6:HasFn K "_law_whole" (top 30))(b7:HasFn K "_law_draw" (top 31))(b8:HasFn K "_law_names" (top 32))(b9:HasFn K "_law_otherwise" (top 33))(c0:HasFn K "_law_grown" (top 34))(c1:HasFn K "_law_held" (top 35))(c2:HasFn K "_law_pruned" (top 36))(c3:HasFn K "_law_numbers" (top 37))(c4:HasFn K "_law_kinds" (top 38))(g:∃c,yZ K "table_list" (top 16) c p)(c5:HasFn K "law" (top 39)):
  ∃fd:gT,(∀(s:Shared)(v:Value),BindsTo s fd ⟨[v],[]⟩ [("_law_script",v)])/\∀base:Heap,K.In base->base.Ns bX mg->BM mg base->j6 P w K mg base CX0 27 fa fd ["_law_script"] (fun vs H Q _=>GX K (tb p) vs H Q E0):=by
 obtain⟨d0,d1,od,an,d2,kV,t,pm,q,r,a,c9,c,c7⟩:=id c5;have e:=c6.symm.trans (fG X d a);cases e;obtain⟨cc,g⟩:=g;refine⟨aS "law" "law" (cg (top 39)) (bJ (top 39)) (bc (top 39)) .none kV t pm an q r,fun s v=>.of_eq rfl,fun base n _ o=>?_⟩;have hv:∀x v,(x,v)∈vals C kd->∃u,mg x=some u/\RelV v u:=by
  intro x v j;simp only[vals,aI,dF,or_false,Prod.mk.injEq]at j;rcases j with⟨rfl,rfl⟩ |⟨rfl,rfl⟩ |⟨rfl,rfl⟩ |⟨rfl,rfl⟩ |⟨rfl,rfl⟩ |⟨rfl,rfl⟩;·exact⟨_,fG X d v1,k,rfl⟩
  ·exact⟨_,fG X d v2,l,rfl⟩
  ·exact⟨_,fG X d v3,t3,rfl⟩
  ·exact⟨_,fG X d v4,m,rfl⟩
  ·exact⟨_,fG X d v5,rfl⟩
  ·exact⟨_,fG X d v6,rfl⟩
 have y:GOk P w K mg base (CXx P w) 0 (gam (vals C kd) []):=GOk.start hv fun x hx=>PySem.W.mg_none_of X d (bl x hx);have z:=#v[Cp.uv,Cp.B4,y,h9,spB isWhole,rO,#v[1],#v[1,#v[0]]];have R:=#v[Cp.wA,Cp.EX,z,a1,spN,By #v[] #v[],#v[1],#v[1,#v[0]]];have g3:=#v[Cp.pX,Cp.yd,R,a2,spB cM,vD #v[],#v[1],#v[1,#v[0]]];have g4:=#v[Cp.mI,Cp.uf,g3,a3,spR,sA #v[] #v[],#v[1],#v[1,#v[0]]];have g5:=#v[Cp.wB,Cp.EY,g4,a4,spC,Bz #v[] #v[],#v[1],#v[1,#v[0]]];have g6:=#v[Cp.uw,Cp.B5,g5,a5,Cp.spT,zw #v[] #v[],#v[1],#v[1,#v[0]]];have g7:=#v[Cp.pV,Cp.yb,g6,a6,xI C,vC #v[] #v[] xc,#v[1],#v[1,#v[0]]];have g8:=add_fnK (T:=tb p) (N:=jz) (ps:=pQ) (lx:="copy") g7 X n d g tl_ok tl_q o (fun _ _ _ _ _ _ _ _=>rfl) (fun _ _ _ _ _ _ f b=>by obtain⟨_,rfl⟩:=Kc.gF b;rfl) (sp:=xK C (tb p)) (fun vs H Q E h=>Kc.dG h fun _ h=>Kc.i4 h rfl) (vB (C:=C) #v[]);have g9:=#v[Cp.n6,Cp.vL,g8,a7,xO C,tF (C:=C) #v[],#v[1],#v[1,#v[0]]];have A:=#v[Kc.lD,Kc.qV,g9,a8,Kc.xN,Kc.Gj #v[] c8,#v[3],#v[1,#v[1,#v[1,#v[1,#v[1,#v[0]]]]]]];have B:=#v[K22.DD,K22.p_clash,A,a9,K22.xP C (tb p),K22.Gk (C:=C) (T:=tb p) #v[] #v[] #v[],#v[1],#v[1,#v[0]]];have D:=#v[K83.mH,K83.ue,B,b0,K83.GV (tb p),K83.wp_ref (C:=C) (T:=tb p) #v[],#v[1],#v[1,#v[0]]];have F:=#v[K32.uy,K32.B6,D,b1,K32.xM,K32.Gh,#v[2],#v[1,#v[1,#v[1,#v[1,#v[1,#v[0]]]]]]];have G:=#v[K32.Ae,K32.HR,F,b2,K32.mz K,K32.Et,#v[2],#v[1,#v[1,#v[1,#v[1,#v[0]]]]]];have I:=#v[K32.DC,K32.p_grown,G,b3,K32.tQ,K32.Eu #v[] #v[],#v[1],#v[1,#v[1,#v[1,#v[1,#v[0]]]]]];have J:=#v[K32.Ij,K32.p_tree,I,b4,K83.tP (tb p),K83.wp_tree (C:=C) (T:=tb p) #v[] #v[] #v[],#v[1],#v[1,#v[0]]];have L:=#v[Lt.oa,Lt.vN,J,b5,Lt.BN K,Lt.wp_cell,#v[2],#v[1,#v[1,#v[1,#v[0]]]]];have M:=#v[K22.Af,K22.zX,L,b6,spB isWhole,rO,#v[1],#v[1,#v[0]]];have O:=#v[K21.uu,K21.B3,M,b7,K21.kH,K21.wp_draw,#v[2],#v[1,#v[1,#v[0]]]];have S:=#v[K21.rQ,K21.zY,O,b8,K21.xJ,K21.Gf #v[],#v[2],#v[1,#v[1,#v[0]]]];have U:=#v[K22.ma,K22.sC,S,b9,K34.mB K,K34.wp_othN,#v[2],#v[1,#v[1,#v[1,#v[1,#v[0]]]]]];have V:=#v[K22.rS,K22.z6,U,c0,K31.GY K,K31.Gg #v[] #v[],#v[2],#v[1,#v[1,#v[1,#v[0]]]]];have W:=#v[K22.ur,K22.B2,V,c1,K22.BL K,K22.wp_held #v[],#v[2],#v[1,#v[1,#v[1,#v[1,#v[0]]]]]];have Y:=#v[K31.pW,K31.yc,W,c2,K31.GW K,K31.wp_prn,#v[3],#v[1,#v[1,#v[1,#v[1,#v[1,#v[1,#v[1,#v[1,#v[1,#v[0]]]]]]]]]]];have Z:=#v[K31.n9,K31.vM,Y,c3,K31.spNu,K31.wp_nu #v[],#v[1],#v[1,#v[0]]];have a0:=#v[K31.rR,K31.zZ,Z,c4,K31.spKd,K31.wp_kd #v[],#v[1],#v[1,#v[1,#v[1,#v[1,#v[1,#v[0]]]]]]];have i:(pS K31.Ik K31.p_law (bc (top 39))&&vS (bc (top 39)) K31.Ik K31.JI (bJ (top 39)))=true:=by decide+kernel
 rw[aL]at i;exact j6.calm (DU (Cs c9 c c7) i.1 i.2 a0 (fun vs H Q E h=>Kc.dG h fun _ h=>Kc.dG h fun _ h=>Kc.i4 h rfl) (wp_law (T:=tb p) ⟨#v[],#v[],#v[],#v[],#v[],#v[],#v[],#v[]⟩))
end K31
open PySem PySem.W PyProof.Rows
set_option maxRecDepth 100000 in
set_option maxHeartbeats 0 in
theorem PySem.Challenge.cw_copykin_k31_tree_of_copies_holds : PySem.Challenge.rw_copykin_k31_tree_of_copies.Holds := by
 w_on;o_law
 refine PySem.W.holds_open (q:=K31.vw) (loose:=K31.loo) (Xt:=K31.xt)
  (XP:=PySem.W.XL K31.vw []) (Yf:=Bo (kh K31.Ax K31.Ay (fun _=>by kernel_rfl) [103])) (Ya:=Bn (kh K31.Ax K31.Ay (fun _=>by kernel_rfl) [103]))
  (YP:=PySem.W.Hook.says (kh K31.Ax K31.Ay (fun _=>by kernel_rfl) [103])) (N:=3198) (fun w=>K31.both (K31.leftA w) (K31.leftB w)) (PySem.W.Hook.of _) (PySem.W.Hook.keeps _)
  (fun s e=>PySem.W.xl_of s (pH.mp e).1) PySem.W.XL.keeps
  (by rfl) (by rfl) (by rfl)
  (fun s e=>PySem.W.recFacts_of (pH.mp e).2) rfl (by assumption) (by decide+kernel)
  ⟨rfl,rfl,rfl,rfl,rfl,by decide+kernel⟩ ?hw ?hc
 (case hw=>w_witness2)
 k_fill
 refine Lm.Gp (l:=PySem.Challenge.rw_copykin_k31_tree_of_copies) (n:=63) (k:=27) (x:="_law_script") (CX:=L2.CX0) (sp:=fun K=>fun vs H Q _=>K31.GX K (K31.tb 103) vs H Q L2.E0) (tabs:=[103]) rfl (by decide) rfl ⟨rfl,by decide,by decide⟩ (fun w h Y=>J2 Y) ?T ?F (fun K H a ns hl ht hS=>⟨a,ns,rfl,hS,hl,.inl (ht 103 (aH.mpr rfl)),fun _=>rfl⟩) (fun _ _ _ _ z=>z)
 case T=>
  intro w s₀ mg mb h G Y p hp;obtain rfl:=aH.mp hp;have KX:=J2 Y;have T:=PySem.W.km_tabs_of Y 103 (aH.mpr rfl);have F:∃c,K31.yZ (L2.KOf KX) "table_list" (K31.top 16) c 103:=by
   dsimp only[L2.KOf];refine' K31.wJ ?ta ?tl ?tk ?tq ?th;(case ta=>k_is);(case tl=>k_is);(case tk=>k_is);(case tq=>k_is);(case th=>first |k_is|kernel_rfl)
  obtain⟨c,_,_,_,_,_,_,_,_,_,_,_,_,_,q⟩:=F;exact⟨T,((Eo KX q).tab T).isCodeTable,by kernel_rfl⟩
 case F=>
  intro w mg fa h KX G hmg;refine' K31.all_mk (p:=103) KX G hmg ?v1 ?v2 ?v3 ?v4 ?v5 ?v6 ?xc ?kd0 ?bl ?h9 ?h10 ?h11 ?h12 ?h13 ?h14 ?h15 ?h17 ?h20 ?h21 ?h22 ?h24 ?h25 ?h26 ?h27 ?h29 ?h30 ?h31 ?h32 ?h33 ?h34 ?h35 ?h36 ?h37 ?h38 ?h16 ?h39
  (case v1=>k_is);(case v2=>k_is);(case v3=>k_is);(case v4=>k_is);(case v5=>k_is);(case v6=>k_is)
  (case xc=>refine'⟨?x1,?x2⟩;(case x1=>k_is);(case x2=>k_exc))
  (case kd0=>refine' K31.IF ?l ?l0 ?l1 ?l2 ?l3;(case l=>k_is);(case l0=>k_is);(case l1=>k_is);(case l2=>k_is);(case l3=>k_is))
  (case bl=>
   intro x hx;simp only[R.jh,aI,dF,or_false]at hx;rcases hx with rfl|rfl|rfl|rfl|rfl|rfl|rfl|rfl|rfl|rfl|rfl|rfl|rfl|rfl|rfl|rfl|rfl|rfl|rfl|rfl<;>k_is)
  (case h16=>refine' K31.wJ ?ua ?ul ?uk ?uq ?uh;(case ua=>k_is);(case ul=>k_is);(case uk=>k_is);(case uq=>k_is);(case uh=>first |k_is|kernel_rfl))
  all_goals(refine' R.Ja ?a ?l ?c ?k;(case a=>k_is);(case l=>k_is);(case c=>k_is);(case k=>k_is))
